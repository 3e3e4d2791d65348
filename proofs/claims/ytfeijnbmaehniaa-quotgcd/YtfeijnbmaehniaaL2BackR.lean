/- The last region of the law QuotBack: whatever its order. Written by a script (tools/laws). -/
import Derived.Test.YtfeijnbmaehniaaLaw2A
namespace Go.Proofs.Ytfeijnbmaehniaa.Rg
open Go.RowKit

/-- What each operation of the region yields. -/
def back7Facts (x y r q s : Nat) : List (Nat × (World → Value → Prop)) :=
  [(56, (fun _ v => v = .bool true)),
   (57, (fun _ v => v = .bool true)),
   (58, (fun _ v => v = .int .i64 0)),
   (59, (fun _ v => v = .bool true)),
   (60, (fun _ v => v = .bool true)),
   (61, (fun _ v => v = .bool true)),
   (62, (fun _ v => v = .int .i64 0)),
   (63, (fun _ v => v = .bool true)),
   (64, (fun _ v => v = .bool true)),
   (65, (fun _ v => v = .bool true)),
   (66, (fun _ v => v = .int .i64 0)),
   (67, (fun _ v => v = .bool true)),
   (68, (fun _ v => v = .bool true)),
   (69, (fun _ v => v = .bool true)),
   (70, (fun w v => IsN w v ((x / y)) (10))),
   (71, (fun w v => IsN w v ((y)) (10))),
   (72, (fun w v => IsN w v ((((x / y)) * ((y)))) ((10 + 10)))),
   (73, (fun w v => IsN w v ((x % y)) (10))),
   (74, (fun w v => IsN w v ((((((x / y)) * ((y)))) + ((x % y)))) ((max (10 + 10) 10 + 1)))),
   (75, (fun w v => IsN w v ((x)) (10))),
   (76, (fun _ v => v = .int .i64 (Mx.cmp ((((((x / y)) * ((y)))) + ((x % y)))) ((x))))),
   (77, (fun _ v => v = .bool true)),
   (78, (fun _ v => v = .bool true)),
   (79, (fun _ v => v = .bool true)),
   (80, (fun w v => IsN w v ((x % y)) (10))),
   (81, (fun w v => IsN w v ((y)) (10))),
   (82, (fun _ v => v = .int .i64 (Mx.cmp ((x % y)) ((y))))),
   (83, (fun _ v => v = .bool true)),
   (84, (fun _ v => v = .bool true)),
   (85, (fun _ v => v = .bool true)),
   (86, (fun w v => IsN w v ((q)) (21))),
   (87, (fun w v => IsN w v ((x)) (10))),
   (88, (fun _ v => v = .int .i64 (Mx.cmp ((q)) ((x))))),
   (89, (fun _ v => v = .bool true)),
   (90, (fun _ v => v = .bool true)),
   (91, (fun _ v => v = .bool true)),
   (92, (fun w v => IsN w v ((s)) (10))),
   (93, (fun w v => IsN w v ((r)) (10))),
   (94, (fun _ v => v = .int .i64 (Mx.cmp ((s)) ((r))))),
   (95, (fun _ v => v = .bool true)),
   (96, (fun _ v => v = .bool true)),
   (6, (fun _ v => v = .bool true))]
theorem back7Stable (x y r q s : Nat) : AllStable (back7Facts x y r q s) := ⟨st_eq _, st_eq _, st_eq _, st_eq _, st_eq _, st_eq _, st_eq _, st_eq _, st_eq _, st_eq _, st_eq _, st_eq _, st_eq _, st_eq _, st_N _ _, st_N _ _, st_N _ _, st_N _ _, st_N _ _, st_N _ _, st_eq _, st_eq _, st_eq _, st_eq _, st_N _ _, st_N _ _, st_eq _, st_eq _, st_eq _, st_eq _, st_N _ _, st_N _ _, st_eq _, st_eq _, st_eq _, st_eq _, st_N _ _, st_N _ _, st_eq _, st_eq _, st_eq _, st_eq _, trivial⟩

set_option maxRecDepth 100000 in
set_option maxHeartbeats 4000000 in
theorem back7_region {Q : Exit → Act → World → Prop} {a0 : Act} {w0 : World} (x y r q s : Nat) (hn : a0.tmps.size = 97)
   {b7 : Addr} {A7 : Option Addr} {L7 C7 : Nat} (p7 : a0.tmps.getD 7 undef = .pointer (some b7)) (c7 : w0.cell? b7 = some (.slice A7 L7 C7)) (n7 : IsN w0 (.agg #[.slice A7 L7 C7]) (x) 10)
   {b8 : Addr} {A8 : Option Addr} {L8 C8 : Nat} (p8 : a0.tmps.getD 8 undef = .pointer (some b8)) (c8 : w0.cell? b8 = some (.slice A8 L8 C8)) (n8 : IsN w0 (.agg #[.slice A8 L8 C8]) (y) 10)
   {b10 : Addr} {A10 : Option Addr} {L10 C10 : Nat} (p10 : a0.tmps.getD 10 undef = .pointer (some b10)) (c10 : w0.cell? b10 = some (.slice A10 L10 C10)) (n10 : IsN w0 (.agg #[.slice A10 L10 C10]) (x / y) 10)
   {b11 : Addr} {A11 : Option Addr} {L11 C11 : Nat} (p11 : a0.tmps.getD 11 undef = .pointer (some b11)) (c11 : w0.cell? b11 = some (.slice A11 L11 C11)) (n11 : IsN w0 (.agg #[.slice A11 L11 C11]) (x % y) 10)
   {b14 : Addr} {A14 : Option Addr} {L14 C14 : Nat} (p14 : a0.tmps.getD 14 undef = .pointer (some b14)) (c14 : w0.cell? b14 = some (.slice A14 L14 C14)) (n14 : IsN w0 (.agg #[.slice A14 L14 C14]) (r) 10)
   {b16 : Addr} {A16 : Option Addr} {L16 C16 : Nat} (p16 : a0.tmps.getD 16 undef = .pointer (some b16)) (c16 : w0.cell? b16 = some (.slice A16 L16 C16)) (n16 : IsN w0 (.agg #[.slice A16 L16 C16]) (q) 21)
   {b17 : Addr} {A17 : Option Addr} {L17 C17 : Nat} (p17 : a0.tmps.getD 17 undef = .pointer (some b17)) (c17 : w0.cell? b17 = some (.slice A17 L17 C17)) (n17 : IsN w0 (.agg #[.slice A17 L17 C17]) (s) 10)
   (e12 : a0.tmps.getD 12 undef = .int .i64 0)
   (e15 : a0.tmps.getD 15 undef = .int .i64 0)
   (e18 : a0.tmps.getD 18 undef = .int .i64 0)
   (hy : y ≠ 0) (hq : q = x) (hs : s = r)
    (fin : ∀ a w, Grow w0 w → Agree (regionOps Try.f4 7) a0 a → a.tmps.getD 6 undef = .bool true → Q .normal a w) : (Code.region 7 (regionOps Try.f4 7) true).wp Try.prog Q a0 w0 := by
  have ext12 : ∀ {u : Value} {w : World}, u = a0.tmps.getD 12 undef → Grow w0 w → u = .int .i64 0 := fun h _ => h.trans e12
  have ext15 : ∀ {u : Value} {w : World}, u = a0.tmps.getD 15 undef → Grow w0 w → u = .int .i64 0 := fun h _ => h.trans e15
  have ext18 : ∀ {u : Value} {w : World}, u = a0.tmps.getD 18 undef → Grow w0 w → u = .int .i64 0 := fun h _ => h.trans e18
  refine region (n := 97) (F := look (back7Facts x y r q s)) (by kernel_rfl) hn (by kernel_rfl) (look_stable _ (back7Stable x y r q s)) (fun i hi => all_from 42 0 ?_ i (Nat.zero_le _) (Nat.lt_of_lt_of_eq hi (by kernel_rfl)))
    fun a w hg ha h => fin a w hg ha ?_
  · exact ⟨
    stepN (i := 0) (by kernel_rfl) (callWakes (d := 56) (ts := #[]) (fun _ _ h => h)),
    stepN (i := 1) (by kernel_rfl) (move (d := 57) (x := (.tmp 56)) fun _ _ _ _ D => D 56 (by kernel_rfl)),
    stepG (i := 2) (j := 1) (dj := 57) (b := true) (by kernel_rfl) (by kernel_rfl) (by kernel_rfl) (fun _ _ h => h) (move (d := 58) (x := (.tmp 12)) fun a w hg ha D => ext12 (ha.2.2 12 (by kernel_rfl)) hg),
    stepG (i := 3) (j := 1) (dj := 57) (b := true) (by kernel_rfl) (by kernel_rfl) (by kernel_rfl) (fun _ _ h => h) (eqlE (d := 59) (x := 58) (m := 0) (c := 0) (b := true) (by kernel_rfl) (fun _ _ h => h) (by rfl) (fun _ _ h => h)),
    stepN (i := 4) (by kernel_rfl) (pickT (d := 60) (c := 57) (x := (.tmp 59)) (y := (.const (.bool false))) (by kernel_rfl) (fun _ _ h => h) fun _ _ _ _ D => D 59 (by kernel_rfl)),
    stepN (i := 5) (by kernel_rfl) (move (d := 61) (x := (.tmp 60)) fun _ _ _ _ D => D 60 (by kernel_rfl)),
    stepG (i := 6) (j := 5) (dj := 61) (b := true) (by kernel_rfl) (by kernel_rfl) (by kernel_rfl) (fun _ _ h => h) (move (d := 62) (x := (.tmp 15)) fun a w hg ha D => ext15 (ha.2.2 15 (by kernel_rfl)) hg),
    stepG (i := 7) (j := 5) (dj := 61) (b := true) (by kernel_rfl) (by kernel_rfl) (by kernel_rfl) (fun _ _ h => h) (eqlE (d := 63) (x := 62) (m := 0) (c := 0) (b := true) (by kernel_rfl) (fun _ _ h => h) (by rfl) (fun _ _ h => h)),
    stepN (i := 8) (by kernel_rfl) (pickT (d := 64) (c := 61) (x := (.tmp 63)) (y := (.const (.bool false))) (by kernel_rfl) (fun _ _ h => h) fun _ _ _ _ D => D 63 (by kernel_rfl)),
    stepN (i := 9) (by kernel_rfl) (move (d := 65) (x := (.tmp 64)) fun _ _ _ _ D => D 64 (by kernel_rfl)),
    stepG (i := 10) (j := 9) (dj := 65) (b := true) (by kernel_rfl) (by kernel_rfl) (by kernel_rfl) (fun _ _ h => h) (move (d := 66) (x := (.tmp 18)) fun a w hg ha D => ext18 (ha.2.2 18 (by kernel_rfl)) hg),
    stepG (i := 11) (j := 9) (dj := 65) (b := true) (by kernel_rfl) (by kernel_rfl) (by kernel_rfl) (fun _ _ h => h) (eqlE (d := 67) (x := 66) (m := 0) (c := 0) (b := true) (by kernel_rfl) (fun _ _ h => h) (by rfl) (fun _ _ h => h)),
    stepN (i := 12) (by kernel_rfl) (pickT (d := 68) (c := 65) (x := (.tmp 67)) (y := (.const (.bool false))) (by kernel_rfl) (fun _ _ h => h) fun _ _ _ _ D => D 67 (by kernel_rfl)),
    stepN (i := 13) (by kernel_rfl) (move (d := 69) (x := (.tmp 68)) fun _ _ _ _ D => D 68 (by kernel_rfl)),
    stepG (i := 14) (j := 13) (dj := 69) (b := true) (by kernel_rfl) (by kernel_rfl) (by kernel_rfl) (fun _ _ h => h) (loadNat (d := 70) (p := 10) p10 (by kernel_rfl) c10 n10 (fun _ _ h => h)),
    stepG (i := 15) (j := 13) (dj := 69) (b := true) (by kernel_rfl) (by kernel_rfl) (by kernel_rfl) (fun _ _ h => h) (loadNat (d := 71) (p := 8) p8 (by kernel_rfl) c8 n8 (fun _ _ h => h)),
    stepG (i := 16) (j := 13) (dj := 69) (b := true) (by kernel_rfl) (by kernel_rfl) (by kernel_rfl) (fun _ _ h => h) (callMul (d := 72) (x := 70) (y := 71) (n := (x / y)) (m := (y)) (k := 10) (j := 10) (ts := #[24, 24]) (by kernel_rfl) (by kernel_rfl) (fun _ _ h => h) (fun _ _ h => h) (by omega) (by omega) (fun _ _ h => h)),
    stepG (i := 17) (j := 13) (dj := 69) (b := true) (by kernel_rfl) (by kernel_rfl) (by kernel_rfl) (fun _ _ h => h) (loadNat (d := 73) (p := 11) p11 (by kernel_rfl) c11 n11 (fun _ _ h => h)),
    stepG (i := 18) (j := 13) (dj := 69) (b := true) (by kernel_rfl) (by kernel_rfl) (by kernel_rfl) (fun _ _ h => h) (callAdd (d := 74) (x := 72) (y := 73) (n := (((x / y)) * ((y)))) (m := (x % y)) (k := (10 + 10)) (j := 10) (ts := #[24, 24]) (by kernel_rfl) (by kernel_rfl) (fun _ _ h => h) (fun _ _ h => h) (by omega) (by omega) (fun _ _ h => h)),
    stepG (i := 19) (j := 13) (dj := 69) (b := true) (by kernel_rfl) (by kernel_rfl) (by kernel_rfl) (fun _ _ h => h) (loadNat (d := 75) (p := 7) p7 (by kernel_rfl) c7 n7 (fun _ _ h => h)),
    stepG (i := 20) (j := 13) (dj := 69) (b := true) (by kernel_rfl) (by kernel_rfl) (by kernel_rfl) (fun _ _ h => h) (callCmp (d := 76) (x := 74) (y := 75) (n := (((((x / y)) * ((y)))) + ((x % y)))) (m := (x)) (k := (max (10 + 10) 10 + 1)) (j := 10) (ts := #[24, 24]) (by kernel_rfl) (by kernel_rfl) (fun _ _ h => h) (fun _ _ h => h) (by omega) (fun _ _ h => h)),
    stepG (i := 21) (j := 13) (dj := 69) (b := true) (by kernel_rfl) (by kernel_rfl) (by kernel_rfl) (fun _ _ h => h) (eqlI (d := 77) (x := 76) (m := (Mx.cmp ((((((x / y)) * ((y)))) + ((x % y)))) ((x)))) (c := 0) (b := true) (by kernel_rfl) (fun _ _ h => h) (by rw [Mx.cmp_eq (by rw [Nat.mul_comm]; exact Nat.div_add_mod x y)]; rfl) (fun _ _ h => h)),
    stepN (i := 22) (by kernel_rfl) (pickT (d := 78) (c := 69) (x := (.tmp 77)) (y := (.const (.bool false))) (by kernel_rfl) (fun _ _ h => h) fun _ _ _ _ D => D 77 (by kernel_rfl)),
    stepN (i := 23) (by kernel_rfl) (move (d := 79) (x := (.tmp 78)) fun _ _ _ _ D => D 78 (by kernel_rfl)),
    stepG (i := 24) (j := 23) (dj := 79) (b := true) (by kernel_rfl) (by kernel_rfl) (by kernel_rfl) (fun _ _ h => h) (loadNat (d := 80) (p := 11) p11 (by kernel_rfl) c11 n11 (fun _ _ h => h)),
    stepG (i := 25) (j := 23) (dj := 79) (b := true) (by kernel_rfl) (by kernel_rfl) (by kernel_rfl) (fun _ _ h => h) (loadNat (d := 81) (p := 8) p8 (by kernel_rfl) c8 n8 (fun _ _ h => h)),
    stepG (i := 26) (j := 23) (dj := 79) (b := true) (by kernel_rfl) (by kernel_rfl) (by kernel_rfl) (fun _ _ h => h) (callCmp (d := 82) (x := 80) (y := 81) (n := (x % y)) (m := (y)) (k := 10) (j := 10) (ts := #[24, 24]) (by kernel_rfl) (by kernel_rfl) (fun _ _ h => h) (fun _ _ h => h) (by omega) (fun _ _ h => h)),
    stepG (i := 27) (j := 23) (dj := 79) (b := true) (by kernel_rfl) (by kernel_rfl) (by kernel_rfl) (fun _ _ h => h) (lssI (d := 83) (x := 82) (m := (Mx.cmp ((x % y)) ((y)))) (c := 0) (b := true) (by kernel_rfl) (fun _ _ h => h) (by rw [Mx.cmp_lt (Nat.mod_lt x (Nat.pos_of_ne_zero hy))]; rfl) (fun _ _ h => h)),
    stepN (i := 28) (by kernel_rfl) (pickT (d := 84) (c := 79) (x := (.tmp 83)) (y := (.const (.bool false))) (by kernel_rfl) (fun _ _ h => h) fun _ _ _ _ D => D 83 (by kernel_rfl)),
    stepN (i := 29) (by kernel_rfl) (move (d := 85) (x := (.tmp 84)) fun _ _ _ _ D => D 84 (by kernel_rfl)),
    stepG (i := 30) (j := 29) (dj := 85) (b := true) (by kernel_rfl) (by kernel_rfl) (by kernel_rfl) (fun _ _ h => h) (loadNat (d := 86) (p := 16) p16 (by kernel_rfl) c16 n16 (fun _ _ h => h)),
    stepG (i := 31) (j := 29) (dj := 85) (b := true) (by kernel_rfl) (by kernel_rfl) (by kernel_rfl) (fun _ _ h => h) (loadNat (d := 87) (p := 7) p7 (by kernel_rfl) c7 n7 (fun _ _ h => h)),
    stepG (i := 32) (j := 29) (dj := 85) (b := true) (by kernel_rfl) (by kernel_rfl) (by kernel_rfl) (fun _ _ h => h) (callCmp (d := 88) (x := 86) (y := 87) (n := (q)) (m := (x)) (k := 21) (j := 10) (ts := #[24, 24]) (by kernel_rfl) (by kernel_rfl) (fun _ _ h => h) (fun _ _ h => h) (by omega) (fun _ _ h => h)),
    stepG (i := 33) (j := 29) (dj := 85) (b := true) (by kernel_rfl) (by kernel_rfl) (by kernel_rfl) (fun _ _ h => h) (eqlI (d := 89) (x := 88) (m := (Mx.cmp ((q)) ((x)))) (c := 0) (b := true) (by kernel_rfl) (fun _ _ h => h) (by rw [Mx.cmp_eq (hq)]; rfl) (fun _ _ h => h)),
    stepN (i := 34) (by kernel_rfl) (pickT (d := 90) (c := 85) (x := (.tmp 89)) (y := (.const (.bool false))) (by kernel_rfl) (fun _ _ h => h) fun _ _ _ _ D => D 89 (by kernel_rfl)),
    stepN (i := 35) (by kernel_rfl) (move (d := 91) (x := (.tmp 90)) fun _ _ _ _ D => D 90 (by kernel_rfl)),
    stepG (i := 36) (j := 35) (dj := 91) (b := true) (by kernel_rfl) (by kernel_rfl) (by kernel_rfl) (fun _ _ h => h) (loadNat (d := 92) (p := 17) p17 (by kernel_rfl) c17 n17 (fun _ _ h => h)),
    stepG (i := 37) (j := 35) (dj := 91) (b := true) (by kernel_rfl) (by kernel_rfl) (by kernel_rfl) (fun _ _ h => h) (loadNat (d := 93) (p := 14) p14 (by kernel_rfl) c14 n14 (fun _ _ h => h)),
    stepG (i := 38) (j := 35) (dj := 91) (b := true) (by kernel_rfl) (by kernel_rfl) (by kernel_rfl) (fun _ _ h => h) (callCmp (d := 94) (x := 92) (y := 93) (n := (s)) (m := (r)) (k := 10) (j := 10) (ts := #[24, 24]) (by kernel_rfl) (by kernel_rfl) (fun _ _ h => h) (fun _ _ h => h) (by omega) (fun _ _ h => h)),
    stepG (i := 39) (j := 35) (dj := 91) (b := true) (by kernel_rfl) (by kernel_rfl) (by kernel_rfl) (fun _ _ h => h) (eqlI (d := 95) (x := 94) (m := (Mx.cmp ((s)) ((r)))) (c := 0) (b := true) (by kernel_rfl) (fun _ _ h => h) (by rw [Mx.cmp_eq (hs)]; rfl) (fun _ _ h => h)),
    stepN (i := 40) (by kernel_rfl) (pickT (d := 96) (c := 91) (x := (.tmp 95)) (y := (.const (.bool false))) (by kernel_rfl) (fun _ _ h => h) fun _ _ _ _ D => D 95 (by kernel_rfl)),
    stepN (i := 41) (by kernel_rfl) (assign (d := 6) (x := (.tmp 96)) fun _ _ _ _ D => D 96 (by kernel_rfl)), trivial⟩
  · have e : look (back7Facts x y r q s) 6 w (a.tmps.getD 6 undef) := h 6 (by kernel_rfl)
    exact e
end Go.Proofs.Ytfeijnbmaehniaa.Rg
