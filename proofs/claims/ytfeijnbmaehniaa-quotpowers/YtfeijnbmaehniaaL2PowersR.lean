/- The last region of the law QuotPowers: whatever its order. Written by a script (tools/laws). -/
import Derived.Test.YtfeijnbmaehniaaLaw2A
namespace Go.Proofs.Ytfeijnbmaehniaa.Rg
open Go.RowKit

/-- What each operation of the region yields. -/
def powersFacts (x n m : Nat) : List (Nat × (World → Value → Prop)) :=
  [(79, (fun _ v => v = .bool true)),
   (80, (fun _ v => v = .bool true)),
   (81, (fun _ v => v = .int .i64 0)),
   (82, (fun _ v => v = .bool true)),
   (83, (fun _ v => v = .bool true)),
   (84, (fun _ v => v = .bool true)),
   (85, (fun _ v => v = .int .i64 0)),
   (86, (fun _ v => v = .bool true)),
   (87, (fun _ v => v = .bool true)),
   (88, (fun _ v => v = .bool true)),
   (89, (fun _ v => v = .int .i64 0)),
   (90, (fun _ v => v = .bool true)),
   (91, (fun _ v => v = .bool true)),
   (92, (fun _ v => v = .bool true)),
   (93, (fun _ v => v = .int .i64 0)),
   (94, (fun _ v => v = .bool true)),
   (95, (fun _ v => v = .bool true)),
   (96, (fun _ v => v = .bool true)),
   (97, (fun _ v => v = .int .i64 0)),
   (98, (fun _ v => v = .bool true)),
   (99, (fun _ v => v = .bool true)),
   (100, (fun _ v => v = .bool true)),
   (101, (fun _ v => v = .int .i64 0)),
   (102, (fun _ v => v = .bool true)),
   (103, (fun _ v => v = .bool true)),
   (104, (fun _ v => v = .bool true)),
   (105, (fun _ v => v = .int .i64 0)),
   (106, (fun _ v => v = .bool true)),
   (107, (fun _ v => v = .bool true)),
   (108, (fun _ v => v = .bool true)),
   (109, (fun w v => IsN w v ((x / 2 ^ n)) (10))),
   (110, (fun w v => IsN w v ((x / 2 ^ n)) (10))),
   (111, (fun _ v => v = .int .i64 (Mx.cmp ((x / 2 ^ n)) ((x / 2 ^ n))))),
   (112, (fun _ v => v = .bool true)),
   (113, (fun _ v => v = .bool true)),
   (114, (fun _ v => v = .bool true)),
   (115, (fun w v => IsN w v ((x * 2 ^ n / 2 ^ n)) (14))),
   (116, (fun w v => IsN w v ((x)) (10))),
   (117, (fun _ v => v = .int .i64 (Mx.cmp ((x * 2 ^ n / 2 ^ n)) ((x))))),
   (118, (fun _ v => v = .bool true)),
   (119, (fun _ v => v = .bool true)),
   (120, (fun _ v => v = .bool true)),
   (121, (fun w v => IsN w v ((x * 2 ^ n * 2 ^ m)) (18))),
   (122, (fun w v => IsN w v ((x * 2 ^ (n + m))) (18))),
   (123, (fun _ v => v = .int .i64 (Mx.cmp ((x * 2 ^ n * 2 ^ m)) ((x * 2 ^ (n + m)))))),
   (124, (fun _ v => v = .bool true)),
   (125, (fun _ v => v = .bool true)),
   (126, (fun _ v => v = .bool true)),
   (127, (fun w v => IsN w v ((x * 2 ^ n)) (14))),
   (128, (fun w v => IsN w v ((x)) (10))),
   (129, (fun w v => IsN w v ((2 ^ n)) (5))),
   (130, (fun w v => IsN w v ((((x)) * ((2 ^ n)))) ((10 + 5)))),
   (131, (fun _ v => v = .int .i64 (Mx.cmp ((x * 2 ^ n)) ((((x)) * ((2 ^ n))))))),
   (132, (fun _ v => v = .bool true)),
   (133, (fun _ v => v = .bool true)),
   (6, (fun _ v => v = .bool true))]
theorem powersStable (x n m : Nat) : AllStable (powersFacts x n m) := ⟨st_eq _, st_eq _, st_eq _, st_eq _, st_eq _, st_eq _, st_eq _, st_eq _, st_eq _, st_eq _, st_eq _, st_eq _, st_eq _, st_eq _, st_eq _, st_eq _, st_eq _, st_eq _, st_eq _, st_eq _, st_eq _, st_eq _, st_eq _, st_eq _, st_eq _, st_eq _, st_eq _, st_eq _, st_eq _, st_eq _, st_N _ _, st_N _ _, st_eq _, st_eq _, st_eq _, st_eq _, st_N _ _, st_N _ _, st_eq _, st_eq _, st_eq _, st_eq _, st_N _ _, st_N _ _, st_eq _, st_eq _, st_eq _, st_eq _, st_N _ _, st_N _ _, st_N _ _, st_N _ _, st_eq _, st_eq _, st_eq _, st_eq _, trivial⟩

set_option maxRecDepth 100000 in
set_option maxHeartbeats 4000000 in
theorem powers_region {Q : Exit → Act → World → Prop} {a0 : Act} {w0 : World} (x n m : Nat) (hn : a0.tmps.size = 134)
   {b7 : Addr} {A7 : Option Addr} {L7 C7 : Nat} (p7 : a0.tmps.getD 7 undef = .pointer (some b7)) (c7 : w0.cell? b7 = some (.slice A7 L7 C7)) (n7 : IsN w0 (.agg #[.slice A7 L7 C7]) (x) 10)
   {b8 : Addr} {A8 : Option Addr} {L8 C8 : Nat} (p8 : a0.tmps.getD 8 undef = .pointer (some b8)) (c8 : w0.cell? b8 = some (.slice A8 L8 C8)) (n8 : IsN w0 (.agg #[.slice A8 L8 C8]) (2 ^ n) 5)
   {b10 : Addr} {A10 : Option Addr} {L10 C10 : Nat} (p10 : a0.tmps.getD 10 undef = .pointer (some b10)) (c10 : w0.cell? b10 = some (.slice A10 L10 C10)) (n10 : IsN w0 (.agg #[.slice A10 L10 C10]) (x / 2 ^ n) 10)
   {b13 : Addr} {A13 : Option Addr} {L13 C13 : Nat} (p13 : a0.tmps.getD 13 undef = .pointer (some b13)) (c13 : w0.cell? b13 = some (.slice A13 L13 C13)) (n13 : IsN w0 (.agg #[.slice A13 L13 C13]) (x / 2 ^ n) 10)
   {b15 : Addr} {A15 : Option Addr} {L15 C15 : Nat} (p15 : a0.tmps.getD 15 undef = .pointer (some b15)) (c15 : w0.cell? b15 = some (.slice A15 L15 C15)) (n15 : IsN w0 (.agg #[.slice A15 L15 C15]) (x * 2 ^ n) 14)
   {b17 : Addr} {A17 : Option Addr} {L17 C17 : Nat} (p17 : a0.tmps.getD 17 undef = .pointer (some b17)) (c17 : w0.cell? b17 = some (.slice A17 L17 C17)) (n17 : IsN w0 (.agg #[.slice A17 L17 C17]) (x * 2 ^ n / 2 ^ n) 14)
   {b19 : Addr} {A19 : Option Addr} {L19 C19 : Nat} (p19 : a0.tmps.getD 19 undef = .pointer (some b19)) (c19 : w0.cell? b19 = some (.slice A19 L19 C19)) (n19 : IsN w0 (.agg #[.slice A19 L19 C19]) (x * 2 ^ n * 2 ^ m) 18)
   {b21 : Addr} {A21 : Option Addr} {L21 C21 : Nat} (p21 : a0.tmps.getD 21 undef = .pointer (some b21)) (c21 : w0.cell? b21 = some (.slice A21 L21 C21)) (n21 : IsN w0 (.agg #[.slice A21 L21 C21]) (x * 2 ^ (n + m)) 18)
   (e9 : a0.tmps.getD 9 undef = .int .i64 0)
   (e12 : a0.tmps.getD 12 undef = .int .i64 0)
   (e14 : a0.tmps.getD 14 undef = .int .i64 0)
   (e16 : a0.tmps.getD 16 undef = .int .i64 0)
   (e18 : a0.tmps.getD 18 undef = .int .i64 0)
   (e20 : a0.tmps.getD 20 undef = .int .i64 0)
   (e22 : a0.tmps.getD 22 undef = .int .i64 0)
   
    (fin : ∀ a w, Grow w0 w → Agree (regionOps Try.f7 9) a0 a → a.tmps.getD 6 undef = .bool true → Q .normal a w) : (Code.region 9 (regionOps Try.f7 9) true).wp Try.prog Q a0 w0 := by
  have ext9 : ∀ {u : Value} {w : World}, u = a0.tmps.getD 9 undef → Grow w0 w → u = .int .i64 0 := fun h _ => h.trans e9
  have ext12 : ∀ {u : Value} {w : World}, u = a0.tmps.getD 12 undef → Grow w0 w → u = .int .i64 0 := fun h _ => h.trans e12
  have ext14 : ∀ {u : Value} {w : World}, u = a0.tmps.getD 14 undef → Grow w0 w → u = .int .i64 0 := fun h _ => h.trans e14
  have ext16 : ∀ {u : Value} {w : World}, u = a0.tmps.getD 16 undef → Grow w0 w → u = .int .i64 0 := fun h _ => h.trans e16
  have ext18 : ∀ {u : Value} {w : World}, u = a0.tmps.getD 18 undef → Grow w0 w → u = .int .i64 0 := fun h _ => h.trans e18
  have ext20 : ∀ {u : Value} {w : World}, u = a0.tmps.getD 20 undef → Grow w0 w → u = .int .i64 0 := fun h _ => h.trans e20
  have ext22 : ∀ {u : Value} {w : World}, u = a0.tmps.getD 22 undef → Grow w0 w → u = .int .i64 0 := fun h _ => h.trans e22
  refine region (n := 134) (F := look (powersFacts x n m)) (by kernel_rfl) hn (by kernel_rfl) (look_stable _ (powersStable x n m)) (fun i hi => all_from 56 0 ?_ i (Nat.zero_le _) (Nat.lt_of_lt_of_eq hi (by kernel_rfl)))
    fun a w hg ha h => fin a w hg ha ?_
  · exact ⟨
    stepN (i := 0) (by kernel_rfl) (callWakes (d := 79) (ts := #[]) (fun _ _ h => h)),
    stepN (i := 1) (by kernel_rfl) (move (d := 80) (x := (.tmp 79)) fun _ _ _ _ D => D 79 (by kernel_rfl)),
    stepG (i := 2) (j := 1) (dj := 80) (b := true) (by kernel_rfl) (by kernel_rfl) (by kernel_rfl) (fun _ _ h => h) (move (d := 81) (x := (.tmp 9)) fun a w hg ha D => ext9 (ha.2.2 9 (by kernel_rfl)) hg),
    stepG (i := 3) (j := 1) (dj := 80) (b := true) (by kernel_rfl) (by kernel_rfl) (by kernel_rfl) (fun _ _ h => h) (eqlE (d := 82) (x := 81) (m := 0) (c := 0) (b := true) (by kernel_rfl) (fun _ _ h => h) (by rfl) (fun _ _ h => h)),
    stepN (i := 4) (by kernel_rfl) (pickT (d := 83) (c := 80) (x := (.tmp 82)) (y := (.const (.bool false))) (by kernel_rfl) (fun _ _ h => h) fun _ _ _ _ D => D 82 (by kernel_rfl)),
    stepN (i := 5) (by kernel_rfl) (move (d := 84) (x := (.tmp 83)) fun _ _ _ _ D => D 83 (by kernel_rfl)),
    stepG (i := 6) (j := 5) (dj := 84) (b := true) (by kernel_rfl) (by kernel_rfl) (by kernel_rfl) (fun _ _ h => h) (move (d := 85) (x := (.tmp 12)) fun a w hg ha D => ext12 (ha.2.2 12 (by kernel_rfl)) hg),
    stepG (i := 7) (j := 5) (dj := 84) (b := true) (by kernel_rfl) (by kernel_rfl) (by kernel_rfl) (fun _ _ h => h) (eqlE (d := 86) (x := 85) (m := 0) (c := 0) (b := true) (by kernel_rfl) (fun _ _ h => h) (by rfl) (fun _ _ h => h)),
    stepN (i := 8) (by kernel_rfl) (pickT (d := 87) (c := 84) (x := (.tmp 86)) (y := (.const (.bool false))) (by kernel_rfl) (fun _ _ h => h) fun _ _ _ _ D => D 86 (by kernel_rfl)),
    stepN (i := 9) (by kernel_rfl) (move (d := 88) (x := (.tmp 87)) fun _ _ _ _ D => D 87 (by kernel_rfl)),
    stepG (i := 10) (j := 9) (dj := 88) (b := true) (by kernel_rfl) (by kernel_rfl) (by kernel_rfl) (fun _ _ h => h) (move (d := 89) (x := (.tmp 14)) fun a w hg ha D => ext14 (ha.2.2 14 (by kernel_rfl)) hg),
    stepG (i := 11) (j := 9) (dj := 88) (b := true) (by kernel_rfl) (by kernel_rfl) (by kernel_rfl) (fun _ _ h => h) (eqlE (d := 90) (x := 89) (m := 0) (c := 0) (b := true) (by kernel_rfl) (fun _ _ h => h) (by rfl) (fun _ _ h => h)),
    stepN (i := 12) (by kernel_rfl) (pickT (d := 91) (c := 88) (x := (.tmp 90)) (y := (.const (.bool false))) (by kernel_rfl) (fun _ _ h => h) fun _ _ _ _ D => D 90 (by kernel_rfl)),
    stepN (i := 13) (by kernel_rfl) (move (d := 92) (x := (.tmp 91)) fun _ _ _ _ D => D 91 (by kernel_rfl)),
    stepG (i := 14) (j := 13) (dj := 92) (b := true) (by kernel_rfl) (by kernel_rfl) (by kernel_rfl) (fun _ _ h => h) (move (d := 93) (x := (.tmp 16)) fun a w hg ha D => ext16 (ha.2.2 16 (by kernel_rfl)) hg),
    stepG (i := 15) (j := 13) (dj := 92) (b := true) (by kernel_rfl) (by kernel_rfl) (by kernel_rfl) (fun _ _ h => h) (eqlE (d := 94) (x := 93) (m := 0) (c := 0) (b := true) (by kernel_rfl) (fun _ _ h => h) (by rfl) (fun _ _ h => h)),
    stepN (i := 16) (by kernel_rfl) (pickT (d := 95) (c := 92) (x := (.tmp 94)) (y := (.const (.bool false))) (by kernel_rfl) (fun _ _ h => h) fun _ _ _ _ D => D 94 (by kernel_rfl)),
    stepN (i := 17) (by kernel_rfl) (move (d := 96) (x := (.tmp 95)) fun _ _ _ _ D => D 95 (by kernel_rfl)),
    stepG (i := 18) (j := 17) (dj := 96) (b := true) (by kernel_rfl) (by kernel_rfl) (by kernel_rfl) (fun _ _ h => h) (move (d := 97) (x := (.tmp 18)) fun a w hg ha D => ext18 (ha.2.2 18 (by kernel_rfl)) hg),
    stepG (i := 19) (j := 17) (dj := 96) (b := true) (by kernel_rfl) (by kernel_rfl) (by kernel_rfl) (fun _ _ h => h) (eqlE (d := 98) (x := 97) (m := 0) (c := 0) (b := true) (by kernel_rfl) (fun _ _ h => h) (by rfl) (fun _ _ h => h)),
    stepN (i := 20) (by kernel_rfl) (pickT (d := 99) (c := 96) (x := (.tmp 98)) (y := (.const (.bool false))) (by kernel_rfl) (fun _ _ h => h) fun _ _ _ _ D => D 98 (by kernel_rfl)),
    stepN (i := 21) (by kernel_rfl) (move (d := 100) (x := (.tmp 99)) fun _ _ _ _ D => D 99 (by kernel_rfl)),
    stepG (i := 22) (j := 21) (dj := 100) (b := true) (by kernel_rfl) (by kernel_rfl) (by kernel_rfl) (fun _ _ h => h) (move (d := 101) (x := (.tmp 20)) fun a w hg ha D => ext20 (ha.2.2 20 (by kernel_rfl)) hg),
    stepG (i := 23) (j := 21) (dj := 100) (b := true) (by kernel_rfl) (by kernel_rfl) (by kernel_rfl) (fun _ _ h => h) (eqlE (d := 102) (x := 101) (m := 0) (c := 0) (b := true) (by kernel_rfl) (fun _ _ h => h) (by rfl) (fun _ _ h => h)),
    stepN (i := 24) (by kernel_rfl) (pickT (d := 103) (c := 100) (x := (.tmp 102)) (y := (.const (.bool false))) (by kernel_rfl) (fun _ _ h => h) fun _ _ _ _ D => D 102 (by kernel_rfl)),
    stepN (i := 25) (by kernel_rfl) (move (d := 104) (x := (.tmp 103)) fun _ _ _ _ D => D 103 (by kernel_rfl)),
    stepG (i := 26) (j := 25) (dj := 104) (b := true) (by kernel_rfl) (by kernel_rfl) (by kernel_rfl) (fun _ _ h => h) (move (d := 105) (x := (.tmp 22)) fun a w hg ha D => ext22 (ha.2.2 22 (by kernel_rfl)) hg),
    stepG (i := 27) (j := 25) (dj := 104) (b := true) (by kernel_rfl) (by kernel_rfl) (by kernel_rfl) (fun _ _ h => h) (eqlE (d := 106) (x := 105) (m := 0) (c := 0) (b := true) (by kernel_rfl) (fun _ _ h => h) (by rfl) (fun _ _ h => h)),
    stepN (i := 28) (by kernel_rfl) (pickT (d := 107) (c := 104) (x := (.tmp 106)) (y := (.const (.bool false))) (by kernel_rfl) (fun _ _ h => h) fun _ _ _ _ D => D 106 (by kernel_rfl)),
    stepN (i := 29) (by kernel_rfl) (move (d := 108) (x := (.tmp 107)) fun _ _ _ _ D => D 107 (by kernel_rfl)),
    stepG (i := 30) (j := 29) (dj := 108) (b := true) (by kernel_rfl) (by kernel_rfl) (by kernel_rfl) (fun _ _ h => h) (loadNat (d := 109) (p := 10) p10 (by kernel_rfl) c10 n10 (fun _ _ h => h)),
    stepG (i := 31) (j := 29) (dj := 108) (b := true) (by kernel_rfl) (by kernel_rfl) (by kernel_rfl) (fun _ _ h => h) (loadNat (d := 110) (p := 13) p13 (by kernel_rfl) c13 n13 (fun _ _ h => h)),
    stepG (i := 32) (j := 29) (dj := 108) (b := true) (by kernel_rfl) (by kernel_rfl) (by kernel_rfl) (fun _ _ h => h) (callCmp (d := 111) (x := 109) (y := 110) (n := (x / 2 ^ n)) (m := (x / 2 ^ n)) (k := 10) (j := 10) (ts := #[24, 24]) (by kernel_rfl) (by kernel_rfl) (fun _ _ h => h) (fun _ _ h => h) (by omega) (fun _ _ h => h)),
    stepG (i := 33) (j := 29) (dj := 108) (b := true) (by kernel_rfl) (by kernel_rfl) (by kernel_rfl) (fun _ _ h => h) (eqlI (d := 112) (x := 111) (m := (Mx.cmp ((x / 2 ^ n)) ((x / 2 ^ n)))) (c := 0) (b := true) (by kernel_rfl) (fun _ _ h => h) (by rw [Mx.cmp_eq (rfl)]; rfl) (fun _ _ h => h)),
    stepN (i := 34) (by kernel_rfl) (pickT (d := 113) (c := 108) (x := (.tmp 112)) (y := (.const (.bool false))) (by kernel_rfl) (fun _ _ h => h) fun _ _ _ _ D => D 112 (by kernel_rfl)),
    stepN (i := 35) (by kernel_rfl) (move (d := 114) (x := (.tmp 113)) fun _ _ _ _ D => D 113 (by kernel_rfl)),
    stepG (i := 36) (j := 35) (dj := 114) (b := true) (by kernel_rfl) (by kernel_rfl) (by kernel_rfl) (fun _ _ h => h) (loadNat (d := 115) (p := 17) p17 (by kernel_rfl) c17 n17 (fun _ _ h => h)),
    stepG (i := 37) (j := 35) (dj := 114) (b := true) (by kernel_rfl) (by kernel_rfl) (by kernel_rfl) (fun _ _ h => h) (loadNat (d := 116) (p := 7) p7 (by kernel_rfl) c7 n7 (fun _ _ h => h)),
    stepG (i := 38) (j := 35) (dj := 114) (b := true) (by kernel_rfl) (by kernel_rfl) (by kernel_rfl) (fun _ _ h => h) (callCmp (d := 117) (x := 115) (y := 116) (n := (x * 2 ^ n / 2 ^ n)) (m := (x)) (k := 14) (j := 10) (ts := #[24, 24]) (by kernel_rfl) (by kernel_rfl) (fun _ _ h => h) (fun _ _ h => h) (by omega) (fun _ _ h => h)),
    stepG (i := 39) (j := 35) (dj := 114) (b := true) (by kernel_rfl) (by kernel_rfl) (by kernel_rfl) (fun _ _ h => h) (eqlI (d := 118) (x := 117) (m := (Mx.cmp ((x * 2 ^ n / 2 ^ n)) ((x)))) (c := 0) (b := true) (by kernel_rfl) (fun _ _ h => h) (by rw [Mx.cmp_eq (Nat.mul_div_cancel _ (Mx.pow2_pos n))]; rfl) (fun _ _ h => h)),
    stepN (i := 40) (by kernel_rfl) (pickT (d := 119) (c := 114) (x := (.tmp 118)) (y := (.const (.bool false))) (by kernel_rfl) (fun _ _ h => h) fun _ _ _ _ D => D 118 (by kernel_rfl)),
    stepN (i := 41) (by kernel_rfl) (move (d := 120) (x := (.tmp 119)) fun _ _ _ _ D => D 119 (by kernel_rfl)),
    stepG (i := 42) (j := 41) (dj := 120) (b := true) (by kernel_rfl) (by kernel_rfl) (by kernel_rfl) (fun _ _ h => h) (loadNat (d := 121) (p := 19) p19 (by kernel_rfl) c19 n19 (fun _ _ h => h)),
    stepG (i := 43) (j := 41) (dj := 120) (b := true) (by kernel_rfl) (by kernel_rfl) (by kernel_rfl) (fun _ _ h => h) (loadNat (d := 122) (p := 21) p21 (by kernel_rfl) c21 n21 (fun _ _ h => h)),
    stepG (i := 44) (j := 41) (dj := 120) (b := true) (by kernel_rfl) (by kernel_rfl) (by kernel_rfl) (fun _ _ h => h) (callCmp (d := 123) (x := 121) (y := 122) (n := (x * 2 ^ n * 2 ^ m)) (m := (x * 2 ^ (n + m))) (k := 18) (j := 18) (ts := #[24, 24]) (by kernel_rfl) (by kernel_rfl) (fun _ _ h => h) (fun _ _ h => h) (by omega) (fun _ _ h => h)),
    stepG (i := 45) (j := 41) (dj := 120) (b := true) (by kernel_rfl) (by kernel_rfl) (by kernel_rfl) (fun _ _ h => h) (eqlI (d := 124) (x := 123) (m := (Mx.cmp ((x * 2 ^ n * 2 ^ m)) ((x * 2 ^ (n + m))))) (c := 0) (b := true) (by kernel_rfl) (fun _ _ h => h) (by rw [Mx.cmp_eq (by rw [Nat.mul_assoc, Nat.pow_add])]; rfl) (fun _ _ h => h)),
    stepN (i := 46) (by kernel_rfl) (pickT (d := 125) (c := 120) (x := (.tmp 124)) (y := (.const (.bool false))) (by kernel_rfl) (fun _ _ h => h) fun _ _ _ _ D => D 124 (by kernel_rfl)),
    stepN (i := 47) (by kernel_rfl) (move (d := 126) (x := (.tmp 125)) fun _ _ _ _ D => D 125 (by kernel_rfl)),
    stepG (i := 48) (j := 47) (dj := 126) (b := true) (by kernel_rfl) (by kernel_rfl) (by kernel_rfl) (fun _ _ h => h) (loadNat (d := 127) (p := 15) p15 (by kernel_rfl) c15 n15 (fun _ _ h => h)),
    stepG (i := 49) (j := 47) (dj := 126) (b := true) (by kernel_rfl) (by kernel_rfl) (by kernel_rfl) (fun _ _ h => h) (loadNat (d := 128) (p := 7) p7 (by kernel_rfl) c7 n7 (fun _ _ h => h)),
    stepG (i := 50) (j := 47) (dj := 126) (b := true) (by kernel_rfl) (by kernel_rfl) (by kernel_rfl) (fun _ _ h => h) (loadNat (d := 129) (p := 8) p8 (by kernel_rfl) c8 n8 (fun _ _ h => h)),
    stepG (i := 51) (j := 47) (dj := 126) (b := true) (by kernel_rfl) (by kernel_rfl) (by kernel_rfl) (fun _ _ h => h) (callMul (d := 130) (x := 128) (y := 129) (n := (x)) (m := (2 ^ n)) (k := 10) (j := 5) (ts := #[24, 24]) (by kernel_rfl) (by kernel_rfl) (fun _ _ h => h) (fun _ _ h => h) (by omega) (by omega) (fun _ _ h => h)),
    stepG (i := 52) (j := 47) (dj := 126) (b := true) (by kernel_rfl) (by kernel_rfl) (by kernel_rfl) (fun _ _ h => h) (callCmp (d := 131) (x := 127) (y := 130) (n := (x * 2 ^ n)) (m := (((x)) * ((2 ^ n)))) (k := 14) (j := (10 + 5)) (ts := #[24, 24]) (by kernel_rfl) (by kernel_rfl) (fun _ _ h => h) (fun _ _ h => h) (by omega) (fun _ _ h => h)),
    stepG (i := 53) (j := 47) (dj := 126) (b := true) (by kernel_rfl) (by kernel_rfl) (by kernel_rfl) (fun _ _ h => h) (eqlI (d := 132) (x := 131) (m := (Mx.cmp ((x * 2 ^ n)) ((((x)) * ((2 ^ n)))))) (c := 0) (b := true) (by kernel_rfl) (fun _ _ h => h) (by rw [Mx.cmp_eq (rfl)]; rfl) (fun _ _ h => h)),
    stepN (i := 54) (by kernel_rfl) (pickT (d := 133) (c := 126) (x := (.tmp 132)) (y := (.const (.bool false))) (by kernel_rfl) (fun _ _ h => h) fun _ _ _ _ D => D 132 (by kernel_rfl)),
    stepN (i := 55) (by kernel_rfl) (assign (d := 6) (x := (.tmp 133)) fun _ _ _ _ D => D 133 (by kernel_rfl)), trivial⟩
  · have e : look (powersFacts x n m) 6 w (a.tmps.getD 6 undef) := h 6 (by kernel_rfl)
    exact e
end Go.Proofs.Ytfeijnbmaehniaa.Rg
