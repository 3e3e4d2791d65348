/- The regions of the law QuotShifts: whatever their order. Written by a script (tools/laws). -/
import Derived.Test.YtfeijnbmaehniaaLaw2R
namespace Go.Proofs.Ytfeijnbmaehniaa.Rg
open Go.RowKit

/-- What each operation of the region yields. -/
def shifts14ZFacts (x k : Nat) : List (Nat × (World → Value → Prop)) :=
  [(78, (fun w v => IsN w v ((x * 2 ^ k / 2 ^ k)) (8192))),
   (79, (fun w v => IsN w v ((x)) (10))),
   (80, (fun _ v => v = .int .i64 (Mx.cmp ((x * 2 ^ k / 2 ^ k)) ((x))))),
   (81, (fun _ v => v = .bool false)),
   (82, (fun _ v => v = .bool false)),
   (83, (fun w v => IsN w v ((x)) (10))),
   (84, (fun _ v => v = .bool true)),
   (85, (fun _ v => v = .bool false)),
   (86, (fun _ v => v = .bool false)),
   (87, (fun _ v => v = undef)),
   (88, (fun _ v => v = undef)),
   (89, (fun _ v => v = undef)),
   (90, (fun _ v => v = undef)),
   (91, (fun _ v => v = undef)),
   (92, (fun _ v => v = undef)),
   (93, (fun _ v => v = undef)),
   (94, (fun _ v => v = .bool false)),
   (95, (fun _ v => v = .bool false)),
   (96, (fun _ v => v = .bool false)),
   (97, (fun _ v => v = .int .i64 ((k : Nat) : Int))),
   (98, (fun w v => IsN w v ((x)) (10))),
   (99, (fun _ v => v = .int .i64 ((Mx.bits ((x)) : Nat) : Int))),
   (100, (fun _ v => v = .bool true)),
   (101, (fun _ v => v = .bool true)),
   (102, (fun w v => IsN w v ((x / 2 ^ k)) (10))),
   (103, (fun _ v => v = .bool true)),
   (104, (fun _ v => v = .bool false)),
   (105, (fun _ v => v = .bool false)),
   (106, (fun _ v => v = .bool false))]
theorem shifts14ZStable (x k : Nat) : AllStable (shifts14ZFacts x k) := ⟨st_N _ _, st_N _ _, st_eq _, st_eq _, st_eq _, st_N _ _, st_eq _, st_eq _, st_eq _, st_eq _, st_eq _, st_eq _, st_eq _, st_eq _, st_eq _, st_eq _, st_eq _, st_eq _, st_eq _, st_eq _, st_N _ _, st_eq _, st_eq _, st_eq _, st_N _ _, st_eq _, st_eq _, st_eq _, st_eq _, trivial⟩

set_option maxRecDepth 100000 in
set_option maxHeartbeats 4000000 in
theorem shifts14Z_region {Q : Exit → Act → World → Prop} {a0 : Act} {w0 : World} (x k : Nat) (hn : a0.tmps.size = 133)
   {b5 : Addr} {A5 : Option Addr} {L5 C5 : Nat} (p5 : a0.tmps.getD 5 undef = .pointer (some b5)) (c5 : w0.cell? b5 = some (.slice A5 L5 C5)) (n5 : IsN w0 (.agg #[.slice A5 L5 C5]) (x) 10)
   {b10 : Addr} {A10 : Option Addr} {L10 C10 : Nat} (p10 : a0.tmps.getD 10 undef = .pointer (some b10)) (c10 : w0.cell? b10 = some (.slice A10 L10 C10)) (n10 : IsN w0 (.agg #[.slice A10 L10 C10]) (x / 2 ^ k) 10)
   {b12 : Addr} {A12 : Option Addr} {L12 C12 : Nat} (p12 : a0.tmps.getD 12 undef = .pointer (some b12)) (c12 : w0.cell? b12 = some (.slice A12 L12 C12)) (n12 : IsN w0 (.agg #[.slice A12 L12 C12]) (x * 2 ^ k / 2 ^ k) 8192)
   (e7 : a0.tmps.getD 7 undef = .int .i64 ((k : Nat) : Int))
   (hx : x = 0)
    (fin : ∀ a w, Grow w0 w → Agree (regionOps Try.f5 14) a0 a → a.tmps.getD 106 undef = .bool false → Q .normal a w) : (Code.region 14 (regionOps Try.f5 14) true).wp Try.prog Q a0 w0 := by
  have ext7 : ∀ {u : Value} {w : World}, u = a0.tmps.getD 7 undef → Grow w0 w → u = .int .i64 ((k : Nat) : Int) := fun h _ => h.trans e7
  refine region (n := 133) (F := look (shifts14ZFacts x k)) (by kernel_rfl) hn (by kernel_rfl) (look_stable _ (shifts14ZStable x k)) (fun i hi => all_from 29 0 ?_ i (Nat.zero_le _) (Nat.lt_of_lt_of_eq hi (by kernel_rfl)))
    fun a w hg ha h => fin a w hg ha ?_
  · exact ⟨
    stepN (i := 0) (by kernel_rfl) (loadNat (d := 78) (p := 12) p12 (by kernel_rfl) c12 n12 (fun _ _ h => h)),
    stepN (i := 1) (by kernel_rfl) (loadNat (d := 79) (p := 5) p5 (by kernel_rfl) c5 n5 (fun _ _ h => h)),
    stepN (i := 2) (by kernel_rfl) (callCmp (d := 80) (x := 78) (y := 79) (n := (x * 2 ^ k / 2 ^ k)) (m := (x)) (k := 8192) (j := 10) (ts := #[24, 24]) (by kernel_rfl) (by kernel_rfl) (fun _ _ h => h) (fun _ _ h => h) (by omega) (fun _ _ h => h)),
    stepN (i := 3) (by kernel_rfl) (neqI (d := 81) (x := 80) (m := (Mx.cmp ((x * 2 ^ k / 2 ^ k)) ((x)))) (c := 0) (b := false) (by kernel_rfl) (fun _ _ h => h) (by rw [Mx.cmp_eq (Nat.mul_div_cancel _ (Mx.pow2_pos k))]; rfl) (fun _ _ h => h)),
    stepN (i := 4) (by kernel_rfl) (move (d := 82) (x := (.tmp 81)) fun _ _ _ _ D => D 81 (by kernel_rfl)),
    stepG (i := 5) (j := 4) (dj := 82) (b := false) (by kernel_rfl) (by kernel_rfl) (by kernel_rfl) (fun _ _ h => h) (loadNat (d := 83) (p := 5) p5 (by kernel_rfl) c5 n5 (fun _ _ h => h)),
    stepG (i := 6) (j := 4) (dj := 82) (b := false) (by kernel_rfl) (by kernel_rfl) (by kernel_rfl) (fun _ _ h => h) (callZeroB (d := 84) (x := 83) (n := (x)) (k := 10) (b := true) (ts := #[24]) (by kernel_rfl) (fun _ _ h => h) (by rw [hx]; rfl) (fun _ _ h => h)),
    stepG (i := 7) (j := 4) (dj := 82) (b := false) (by kernel_rfl) (by kernel_rfl) (by kernel_rfl) (fun _ _ h => h) (notB (d := 85) (x := 84) (b := true) (c := false) (by kernel_rfl) (fun _ _ h => h) rfl (fun _ _ h => h)),
    stepG (i := 8) (j := 4) (dj := 82) (b := false) (by kernel_rfl) (by kernel_rfl) (by kernel_rfl) (fun _ _ h => h) (move (d := 86) (x := (.tmp 85)) fun _ _ _ _ D => D 85 (by kernel_rfl)),
    stepS (i := 9) (j := 8) (dj := 86) (b := true) (c := false) (dst := some 87) (op := (.load 24 (.tmp 8))) (by kernel_rfl) (by kernel_rfl) (by kernel_rfl) (fun _ _ h => h) rfl (fun d hd w => by cases hd; exact rfl),
    stepS (i := 10) (j := 8) (dj := 86) (b := true) (c := false) (dst := some 88) (op := (.call { callee := .value (.func 21), args := #[(.tmp 87)], argTypes := #[24] })) (by kernel_rfl) (by kernel_rfl) (by kernel_rfl) (fun _ _ h => h) rfl (fun d hd w => by cases hd; exact rfl),
    stepS (i := 11) (j := 8) (dj := 86) (b := true) (c := false) (dst := some 89) (op := (.load 24 (.tmp 5))) (by kernel_rfl) (by kernel_rfl) (by kernel_rfl) (fun _ _ h => h) rfl (fun d hd w => by cases hd; exact rfl),
    stepS (i := 12) (j := 8) (dj := 86) (b := true) (c := false) (dst := some 90) (op := (.call { callee := .value (.func 21), args := #[(.tmp 89)], argTypes := #[24] })) (by kernel_rfl) (by kernel_rfl) (by kernel_rfl) (fun _ _ h => h) rfl (fun d hd w => by cases hd; exact rfl),
    stepS (i := 13) (j := 8) (dj := 86) (b := true) (c := false) (dst := some 91) (op := (.move (.tmp 7))) (by kernel_rfl) (by kernel_rfl) (by kernel_rfl) (fun _ _ h => h) rfl (fun d hd w => by cases hd; exact rfl),
    stepS (i := 14) (j := 8) (dj := 86) (b := true) (c := false) (dst := some 92) (op := (.binOp .add 3 (.tmp 90) (.tmp 91) 3)) (by kernel_rfl) (by kernel_rfl) (by kernel_rfl) (fun _ _ h => h) rfl (fun d hd w => by cases hd; exact rfl),
    stepS (i := 15) (j := 8) (dj := 86) (b := true) (c := false) (dst := some 93) (op := (.binOp .neq 3 (.tmp 88) (.tmp 92) 3)) (by kernel_rfl) (by kernel_rfl) (by kernel_rfl) (fun _ _ h => h) rfl (fun d hd w => by cases hd; exact rfl),
    stepG (i := 16) (j := 4) (dj := 82) (b := false) (by kernel_rfl) (by kernel_rfl) (by kernel_rfl) (fun _ _ h => h) (pickF (d := 94) (c := 86) (x := (.tmp 93)) (y := (.const (.bool false))) (by kernel_rfl) (fun _ _ h => h) fun _ _ _ _ _ => rfl),
    stepN (i := 17) (by kernel_rfl) (pickF (d := 95) (c := 82) (x := (.const (.bool true))) (y := (.tmp 94)) (by kernel_rfl) (fun _ _ h => h) fun _ _ _ _ D => D 94 (by kernel_rfl)),
    stepN (i := 18) (by kernel_rfl) (move (d := 96) (x := (.tmp 95)) fun _ _ _ _ D => D 95 (by kernel_rfl)),
    stepG (i := 19) (j := 18) (dj := 96) (b := false) (by kernel_rfl) (by kernel_rfl) (by kernel_rfl) (fun _ _ h => h) (move (d := 97) (x := (.tmp 7)) fun a w hg ha D => ext7 (ha.2.2 7 (by kernel_rfl)) hg),
    stepG (i := 20) (j := 18) (dj := 96) (b := false) (by kernel_rfl) (by kernel_rfl) (by kernel_rfl) (fun _ _ h => h) (loadNat (d := 98) (p := 5) p5 (by kernel_rfl) c5 n5 (fun _ _ h => h)),
    stepG (i := 21) (j := 18) (dj := 96) (b := false) (by kernel_rfl) (by kernel_rfl) (by kernel_rfl) (fun _ _ h => h) (callBits (d := 99) (x := 98) (n := (x)) (k := 10) (ts := #[24]) (by kernel_rfl) (fun _ _ h => h) (by omega) (fun _ _ h => h)),
    stepG (i := 22) (j := 18) (dj := 96) (b := false) (by kernel_rfl) (by kernel_rfl) (by kernel_rfl) (fun _ _ h => h) (geqII (d := 100) (x := 97) (y := 99) (m := ((k : Nat) : Int)) (c := ((Mx.bits ((x)) : Nat) : Int)) (b := true) (by kernel_rfl) (by kernel_rfl) (fun _ _ h => h) (fun _ _ h => h) (by rw [hx]; exact decide_eq_true (by show ((0 : Nat) : Int) ≤ _; omega)) (fun _ _ h => h)),
    stepG (i := 23) (j := 18) (dj := 96) (b := false) (by kernel_rfl) (by kernel_rfl) (by kernel_rfl) (fun _ _ h => h) (move (d := 101) (x := (.tmp 100)) fun _ _ _ _ D => D 100 (by kernel_rfl)),
    stepG (i := 24) (j := 23) (dj := 101) (b := true) (by kernel_rfl) (by kernel_rfl) (by kernel_rfl) (fun _ _ h => h) (loadNat (d := 102) (p := 10) p10 (by kernel_rfl) c10 n10 (fun _ _ h => h)),
    stepG (i := 25) (j := 23) (dj := 101) (b := true) (by kernel_rfl) (by kernel_rfl) (by kernel_rfl) (fun _ _ h => h) (callZeroB (d := 103) (x := 102) (n := (x / 2 ^ k)) (k := 10) (b := true) (ts := #[24]) (by kernel_rfl) (fun _ _ h => h) (by rw [hx, Nat.zero_div]; rfl) (fun _ _ h => h)),
    stepG (i := 26) (j := 23) (dj := 101) (b := true) (by kernel_rfl) (by kernel_rfl) (by kernel_rfl) (fun _ _ h => h) (notB (d := 104) (x := 103) (b := true) (c := false) (by kernel_rfl) (fun _ _ h => h) rfl (fun _ _ h => h)),
    stepG (i := 27) (j := 18) (dj := 96) (b := false) (by kernel_rfl) (by kernel_rfl) (by kernel_rfl) (fun _ _ h => h) (pickT (d := 105) (c := 101) (x := (.tmp 104)) (y := (.const (.bool false))) (by kernel_rfl) (fun _ _ h => h) fun _ _ _ _ D => D 104 (by kernel_rfl)),
    stepN (i := 28) (by kernel_rfl) (pickF (d := 106) (c := 96) (x := (.const (.bool true))) (y := (.tmp 105)) (by kernel_rfl) (fun _ _ h => h) fun _ _ _ _ D => D 105 (by kernel_rfl)), trivial⟩
  · have e : look (shifts14ZFacts x k) 106 w (a.tmps.getD 106 undef) := h 106 (by kernel_rfl)
    exact e

/-- What each operation of the region yields. -/
def shifts14AFacts (x k : Nat) : List (Nat × (World → Value → Prop)) :=
  [(78, (fun w v => IsN w v ((x * 2 ^ k / 2 ^ k)) (8192))),
   (79, (fun w v => IsN w v ((x)) (10))),
   (80, (fun _ v => v = .int .i64 (Mx.cmp ((x * 2 ^ k / 2 ^ k)) ((x))))),
   (81, (fun _ v => v = .bool false)),
   (82, (fun _ v => v = .bool false)),
   (83, (fun w v => IsN w v ((x)) (10))),
   (84, (fun _ v => v = .bool false)),
   (85, (fun _ v => v = .bool true)),
   (86, (fun _ v => v = .bool true)),
   (87, (fun w v => IsN w v ((x * 2 ^ k)) (8192))),
   (88, (fun _ v => v = .int .i64 ((Mx.bits ((x * 2 ^ k)) : Nat) : Int))),
   (89, (fun w v => IsN w v ((x)) (10))),
   (90, (fun _ v => v = .int .i64 ((Mx.bits ((x)) : Nat) : Int))),
   (91, (fun _ v => v = .int .i64 ((k : Nat) : Int))),
   (92, (fun _ v => v = .int .i64 (((Mx.bits x : Nat) : Int) + ((k : Nat) : Int)))),
   (93, (fun _ v => v = .bool false)),
   (94, (fun _ v => v = .bool false)),
   (95, (fun _ v => v = .bool false)),
   (96, (fun _ v => v = .bool false)),
   (97, (fun _ v => v = .int .i64 ((k : Nat) : Int))),
   (98, (fun w v => IsN w v ((x)) (10))),
   (99, (fun _ v => v = .int .i64 ((Mx.bits ((x)) : Nat) : Int))),
   (100, (fun _ v => v = .bool true)),
   (101, (fun _ v => v = .bool true)),
   (102, (fun w v => IsN w v ((x / 2 ^ k)) (10))),
   (103, (fun _ v => v = .bool true)),
   (104, (fun _ v => v = .bool false)),
   (105, (fun _ v => v = .bool false)),
   (106, (fun _ v => v = .bool false))]
theorem shifts14AStable (x k : Nat) : AllStable (shifts14AFacts x k) := ⟨st_N _ _, st_N _ _, st_eq _, st_eq _, st_eq _, st_N _ _, st_eq _, st_eq _, st_eq _, st_N _ _, st_eq _, st_N _ _, st_eq _, st_eq _, st_eq _, st_eq _, st_eq _, st_eq _, st_eq _, st_eq _, st_N _ _, st_eq _, st_eq _, st_eq _, st_N _ _, st_eq _, st_eq _, st_eq _, st_eq _, trivial⟩

set_option maxRecDepth 100000 in
set_option maxHeartbeats 4000000 in
theorem shifts14A_region {Q : Exit → Act → World → Prop} {a0 : Act} {w0 : World} (x k : Nat) (hn : a0.tmps.size = 133)
   {b5 : Addr} {A5 : Option Addr} {L5 C5 : Nat} (p5 : a0.tmps.getD 5 undef = .pointer (some b5)) (c5 : w0.cell? b5 = some (.slice A5 L5 C5)) (n5 : IsN w0 (.agg #[.slice A5 L5 C5]) (x) 10)
   {b8 : Addr} {A8 : Option Addr} {L8 C8 : Nat} (p8 : a0.tmps.getD 8 undef = .pointer (some b8)) (c8 : w0.cell? b8 = some (.slice A8 L8 C8)) (n8 : IsN w0 (.agg #[.slice A8 L8 C8]) (x * 2 ^ k) 8192)
   {b10 : Addr} {A10 : Option Addr} {L10 C10 : Nat} (p10 : a0.tmps.getD 10 undef = .pointer (some b10)) (c10 : w0.cell? b10 = some (.slice A10 L10 C10)) (n10 : IsN w0 (.agg #[.slice A10 L10 C10]) (x / 2 ^ k) 10)
   {b12 : Addr} {A12 : Option Addr} {L12 C12 : Nat} (p12 : a0.tmps.getD 12 undef = .pointer (some b12)) (c12 : w0.cell? b12 = some (.slice A12 L12 C12)) (n12 : IsN w0 (.agg #[.slice A12 L12 C12]) (x * 2 ^ k / 2 ^ k) 8192)
   (e7 : a0.tmps.getD 7 undef = .int .i64 ((k : Nat) : Int))
   (hx : x ≠ 0) (hbx : Mx.bits x ≤ 640) (hk : k ≤ 262144) (hbits : Mx.bits (x * 2 ^ k) = Mx.bits x + k) (hge : Mx.bits x ≤ k) (hz : x / 2 ^ k = 0)
    (fin : ∀ a w, Grow w0 w → Agree (regionOps Try.f5 14) a0 a → a.tmps.getD 106 undef = .bool false → Q .normal a w) : (Code.region 14 (regionOps Try.f5 14) true).wp Try.prog Q a0 w0 := by
  have ext7 : ∀ {u : Value} {w : World}, u = a0.tmps.getD 7 undef → Grow w0 w → u = .int .i64 ((k : Nat) : Int) := fun h _ => h.trans e7
  refine region (n := 133) (F := look (shifts14AFacts x k)) (by kernel_rfl) hn (by kernel_rfl) (look_stable _ (shifts14AStable x k)) (fun i hi => all_from 29 0 ?_ i (Nat.zero_le _) (Nat.lt_of_lt_of_eq hi (by kernel_rfl)))
    fun a w hg ha h => fin a w hg ha ?_
  · exact ⟨
    stepN (i := 0) (by kernel_rfl) (loadNat (d := 78) (p := 12) p12 (by kernel_rfl) c12 n12 (fun _ _ h => h)),
    stepN (i := 1) (by kernel_rfl) (loadNat (d := 79) (p := 5) p5 (by kernel_rfl) c5 n5 (fun _ _ h => h)),
    stepN (i := 2) (by kernel_rfl) (callCmp (d := 80) (x := 78) (y := 79) (n := (x * 2 ^ k / 2 ^ k)) (m := (x)) (k := 8192) (j := 10) (ts := #[24, 24]) (by kernel_rfl) (by kernel_rfl) (fun _ _ h => h) (fun _ _ h => h) (by omega) (fun _ _ h => h)),
    stepN (i := 3) (by kernel_rfl) (neqI (d := 81) (x := 80) (m := (Mx.cmp ((x * 2 ^ k / 2 ^ k)) ((x)))) (c := 0) (b := false) (by kernel_rfl) (fun _ _ h => h) (by rw [Mx.cmp_eq (Nat.mul_div_cancel _ (Mx.pow2_pos k))]; rfl) (fun _ _ h => h)),
    stepN (i := 4) (by kernel_rfl) (move (d := 82) (x := (.tmp 81)) fun _ _ _ _ D => D 81 (by kernel_rfl)),
    stepG (i := 5) (j := 4) (dj := 82) (b := false) (by kernel_rfl) (by kernel_rfl) (by kernel_rfl) (fun _ _ h => h) (loadNat (d := 83) (p := 5) p5 (by kernel_rfl) c5 n5 (fun _ _ h => h)),
    stepG (i := 6) (j := 4) (dj := 82) (b := false) (by kernel_rfl) (by kernel_rfl) (by kernel_rfl) (fun _ _ h => h) (callZeroB (d := 84) (x := 83) (n := (x)) (k := 10) (b := false) (ts := #[24]) (by kernel_rfl) (fun _ _ h => h) (by rw [beq_eq_false_iff_ne]; exact hx) (fun _ _ h => h)),
    stepG (i := 7) (j := 4) (dj := 82) (b := false) (by kernel_rfl) (by kernel_rfl) (by kernel_rfl) (fun _ _ h => h) (notB (d := 85) (x := 84) (b := false) (c := true) (by kernel_rfl) (fun _ _ h => h) rfl (fun _ _ h => h)),
    stepG (i := 8) (j := 4) (dj := 82) (b := false) (by kernel_rfl) (by kernel_rfl) (by kernel_rfl) (fun _ _ h => h) (move (d := 86) (x := (.tmp 85)) fun _ _ _ _ D => D 85 (by kernel_rfl)),
    stepG (i := 9) (j := 8) (dj := 86) (b := true) (by kernel_rfl) (by kernel_rfl) (by kernel_rfl) (fun _ _ h => h) (loadNat (d := 87) (p := 8) p8 (by kernel_rfl) c8 n8 (fun _ _ h => h)),
    stepG (i := 10) (j := 8) (dj := 86) (b := true) (by kernel_rfl) (by kernel_rfl) (by kernel_rfl) (fun _ _ h => h) (callBits (d := 88) (x := 87) (n := (x * 2 ^ k)) (k := 8192) (ts := #[24]) (by kernel_rfl) (fun _ _ h => h) (by omega) (fun _ _ h => h)),
    stepG (i := 11) (j := 8) (dj := 86) (b := true) (by kernel_rfl) (by kernel_rfl) (by kernel_rfl) (fun _ _ h => h) (loadNat (d := 89) (p := 5) p5 (by kernel_rfl) c5 n5 (fun _ _ h => h)),
    stepG (i := 12) (j := 8) (dj := 86) (b := true) (by kernel_rfl) (by kernel_rfl) (by kernel_rfl) (fun _ _ h => h) (callBits (d := 90) (x := 89) (n := (x)) (k := 10) (ts := #[24]) (by kernel_rfl) (fun _ _ h => h) (by omega) (fun _ _ h => h)),
    stepG (i := 13) (j := 8) (dj := 86) (b := true) (by kernel_rfl) (by kernel_rfl) (by kernel_rfl) (fun _ _ h => h) (move (d := 91) (x := (.tmp 7)) fun a w hg ha D => ext7 (ha.2.2 7 (by kernel_rfl)) hg),
    stepG (i := 14) (j := 8) (dj := 86) (b := true) (by kernel_rfl) (by kernel_rfl) (by kernel_rfl) (fun _ _ h => h) (addII (d := 92) (x := 90) (y := 91) (m := ((Mx.bits ((x)) : Nat) : Int)) (c := ((k : Nat) : Int)) (r := ((Mx.bits x : Nat) : Int) + ((k : Nat) : Int)) (by kernel_rfl) (by kernel_rfl) (fun _ _ h => h) (fun _ _ h => h) (IntWalk.i64_in _ (by omega)) (fun _ _ h => h)),
    stepG (i := 15) (j := 8) (dj := 86) (b := true) (by kernel_rfl) (by kernel_rfl) (by kernel_rfl) (fun _ _ h => h) (neqII (d := 93) (x := 88) (y := 92) (m := ((Mx.bits ((x * 2 ^ k)) : Nat) : Int)) (c := (((Mx.bits x : Nat) : Int) + ((k : Nat) : Int))) (b := false) (by kernel_rfl) (by kernel_rfl) (fun _ _ h => h) (fun _ _ h => h) (by rw [hbits]; simp) (fun _ _ h => h)),
    stepG (i := 16) (j := 4) (dj := 82) (b := false) (by kernel_rfl) (by kernel_rfl) (by kernel_rfl) (fun _ _ h => h) (pickT (d := 94) (c := 86) (x := (.tmp 93)) (y := (.const (.bool false))) (by kernel_rfl) (fun _ _ h => h) fun _ _ _ _ D => D 93 (by kernel_rfl)),
    stepN (i := 17) (by kernel_rfl) (pickF (d := 95) (c := 82) (x := (.const (.bool true))) (y := (.tmp 94)) (by kernel_rfl) (fun _ _ h => h) fun _ _ _ _ D => D 94 (by kernel_rfl)),
    stepN (i := 18) (by kernel_rfl) (move (d := 96) (x := (.tmp 95)) fun _ _ _ _ D => D 95 (by kernel_rfl)),
    stepG (i := 19) (j := 18) (dj := 96) (b := false) (by kernel_rfl) (by kernel_rfl) (by kernel_rfl) (fun _ _ h => h) (move (d := 97) (x := (.tmp 7)) fun a w hg ha D => ext7 (ha.2.2 7 (by kernel_rfl)) hg),
    stepG (i := 20) (j := 18) (dj := 96) (b := false) (by kernel_rfl) (by kernel_rfl) (by kernel_rfl) (fun _ _ h => h) (loadNat (d := 98) (p := 5) p5 (by kernel_rfl) c5 n5 (fun _ _ h => h)),
    stepG (i := 21) (j := 18) (dj := 96) (b := false) (by kernel_rfl) (by kernel_rfl) (by kernel_rfl) (fun _ _ h => h) (callBits (d := 99) (x := 98) (n := (x)) (k := 10) (ts := #[24]) (by kernel_rfl) (fun _ _ h => h) (by omega) (fun _ _ h => h)),
    stepG (i := 22) (j := 18) (dj := 96) (b := false) (by kernel_rfl) (by kernel_rfl) (by kernel_rfl) (fun _ _ h => h) (geqII (d := 100) (x := 97) (y := 99) (m := ((k : Nat) : Int)) (c := ((Mx.bits ((x)) : Nat) : Int)) (b := true) (by kernel_rfl) (by kernel_rfl) (fun _ _ h => h) (fun _ _ h => h) (decide_eq_true (by omega)) (fun _ _ h => h)),
    stepG (i := 23) (j := 18) (dj := 96) (b := false) (by kernel_rfl) (by kernel_rfl) (by kernel_rfl) (fun _ _ h => h) (move (d := 101) (x := (.tmp 100)) fun _ _ _ _ D => D 100 (by kernel_rfl)),
    stepG (i := 24) (j := 23) (dj := 101) (b := true) (by kernel_rfl) (by kernel_rfl) (by kernel_rfl) (fun _ _ h => h) (loadNat (d := 102) (p := 10) p10 (by kernel_rfl) c10 n10 (fun _ _ h => h)),
    stepG (i := 25) (j := 23) (dj := 101) (b := true) (by kernel_rfl) (by kernel_rfl) (by kernel_rfl) (fun _ _ h => h) (callZeroB (d := 103) (x := 102) (n := (x / 2 ^ k)) (k := 10) (b := true) (ts := #[24]) (by kernel_rfl) (fun _ _ h => h) (by rw [hz]; rfl) (fun _ _ h => h)),
    stepG (i := 26) (j := 23) (dj := 101) (b := true) (by kernel_rfl) (by kernel_rfl) (by kernel_rfl) (fun _ _ h => h) (notB (d := 104) (x := 103) (b := true) (c := false) (by kernel_rfl) (fun _ _ h => h) rfl (fun _ _ h => h)),
    stepG (i := 27) (j := 18) (dj := 96) (b := false) (by kernel_rfl) (by kernel_rfl) (by kernel_rfl) (fun _ _ h => h) (pickT (d := 105) (c := 101) (x := (.tmp 104)) (y := (.const (.bool false))) (by kernel_rfl) (fun _ _ h => h) fun _ _ _ _ D => D 104 (by kernel_rfl)),
    stepN (i := 28) (by kernel_rfl) (pickF (d := 106) (c := 96) (x := (.const (.bool true))) (y := (.tmp 105)) (by kernel_rfl) (fun _ _ h => h) fun _ _ _ _ D => D 105 (by kernel_rfl)), trivial⟩
  · have e : look (shifts14AFacts x k) 106 w (a.tmps.getD 106 undef) := h 106 (by kernel_rfl)
    exact e

/-- What each operation of the region yields. -/
def shifts14BFacts (x k : Nat) : List (Nat × (World → Value → Prop)) :=
  [(78, (fun w v => IsN w v ((x * 2 ^ k / 2 ^ k)) (8192))),
   (79, (fun w v => IsN w v ((x)) (10))),
   (80, (fun _ v => v = .int .i64 (Mx.cmp ((x * 2 ^ k / 2 ^ k)) ((x))))),
   (81, (fun _ v => v = .bool false)),
   (82, (fun _ v => v = .bool false)),
   (83, (fun w v => IsN w v ((x)) (10))),
   (84, (fun _ v => v = .bool false)),
   (85, (fun _ v => v = .bool true)),
   (86, (fun _ v => v = .bool true)),
   (87, (fun w v => IsN w v ((x * 2 ^ k)) (8192))),
   (88, (fun _ v => v = .int .i64 ((Mx.bits ((x * 2 ^ k)) : Nat) : Int))),
   (89, (fun w v => IsN w v ((x)) (10))),
   (90, (fun _ v => v = .int .i64 ((Mx.bits ((x)) : Nat) : Int))),
   (91, (fun _ v => v = .int .i64 ((k : Nat) : Int))),
   (92, (fun _ v => v = .int .i64 (((Mx.bits x : Nat) : Int) + ((k : Nat) : Int)))),
   (93, (fun _ v => v = .bool false)),
   (94, (fun _ v => v = .bool false)),
   (95, (fun _ v => v = .bool false)),
   (96, (fun _ v => v = .bool false)),
   (97, (fun _ v => v = .int .i64 ((k : Nat) : Int))),
   (98, (fun w v => IsN w v ((x)) (10))),
   (99, (fun _ v => v = .int .i64 ((Mx.bits ((x)) : Nat) : Int))),
   (100, (fun _ v => v = .bool false)),
   (101, (fun _ v => v = .bool false)),
   (102, (fun _ v => v = undef)),
   (103, (fun _ v => v = undef)),
   (104, (fun _ v => v = undef)),
   (105, (fun _ v => v = .bool false)),
   (106, (fun _ v => v = .bool false))]
theorem shifts14BStable (x k : Nat) : AllStable (shifts14BFacts x k) := ⟨st_N _ _, st_N _ _, st_eq _, st_eq _, st_eq _, st_N _ _, st_eq _, st_eq _, st_eq _, st_N _ _, st_eq _, st_N _ _, st_eq _, st_eq _, st_eq _, st_eq _, st_eq _, st_eq _, st_eq _, st_eq _, st_N _ _, st_eq _, st_eq _, st_eq _, st_eq _, st_eq _, st_eq _, st_eq _, st_eq _, trivial⟩

set_option maxRecDepth 100000 in
set_option maxHeartbeats 4000000 in
theorem shifts14B_region {Q : Exit → Act → World → Prop} {a0 : Act} {w0 : World} (x k : Nat) (hn : a0.tmps.size = 133)
   {b5 : Addr} {A5 : Option Addr} {L5 C5 : Nat} (p5 : a0.tmps.getD 5 undef = .pointer (some b5)) (c5 : w0.cell? b5 = some (.slice A5 L5 C5)) (n5 : IsN w0 (.agg #[.slice A5 L5 C5]) (x) 10)
   {b8 : Addr} {A8 : Option Addr} {L8 C8 : Nat} (p8 : a0.tmps.getD 8 undef = .pointer (some b8)) (c8 : w0.cell? b8 = some (.slice A8 L8 C8)) (n8 : IsN w0 (.agg #[.slice A8 L8 C8]) (x * 2 ^ k) 8192)
   {b12 : Addr} {A12 : Option Addr} {L12 C12 : Nat} (p12 : a0.tmps.getD 12 undef = .pointer (some b12)) (c12 : w0.cell? b12 = some (.slice A12 L12 C12)) (n12 : IsN w0 (.agg #[.slice A12 L12 C12]) (x * 2 ^ k / 2 ^ k) 8192)
   (e7 : a0.tmps.getD 7 undef = .int .i64 ((k : Nat) : Int))
   (hx : x ≠ 0) (hbx : Mx.bits x ≤ 640) (hbits : Mx.bits (x * 2 ^ k) = Mx.bits x + k) (hlt : k < Mx.bits x)
    (fin : ∀ a w, Grow w0 w → Agree (regionOps Try.f5 14) a0 a → a.tmps.getD 106 undef = .bool false → Q .normal a w) : (Code.region 14 (regionOps Try.f5 14) true).wp Try.prog Q a0 w0 := by
  have ext7 : ∀ {u : Value} {w : World}, u = a0.tmps.getD 7 undef → Grow w0 w → u = .int .i64 ((k : Nat) : Int) := fun h _ => h.trans e7
  refine region (n := 133) (F := look (shifts14BFacts x k)) (by kernel_rfl) hn (by kernel_rfl) (look_stable _ (shifts14BStable x k)) (fun i hi => all_from 29 0 ?_ i (Nat.zero_le _) (Nat.lt_of_lt_of_eq hi (by kernel_rfl)))
    fun a w hg ha h => fin a w hg ha ?_
  · exact ⟨
    stepN (i := 0) (by kernel_rfl) (loadNat (d := 78) (p := 12) p12 (by kernel_rfl) c12 n12 (fun _ _ h => h)),
    stepN (i := 1) (by kernel_rfl) (loadNat (d := 79) (p := 5) p5 (by kernel_rfl) c5 n5 (fun _ _ h => h)),
    stepN (i := 2) (by kernel_rfl) (callCmp (d := 80) (x := 78) (y := 79) (n := (x * 2 ^ k / 2 ^ k)) (m := (x)) (k := 8192) (j := 10) (ts := #[24, 24]) (by kernel_rfl) (by kernel_rfl) (fun _ _ h => h) (fun _ _ h => h) (by omega) (fun _ _ h => h)),
    stepN (i := 3) (by kernel_rfl) (neqI (d := 81) (x := 80) (m := (Mx.cmp ((x * 2 ^ k / 2 ^ k)) ((x)))) (c := 0) (b := false) (by kernel_rfl) (fun _ _ h => h) (by rw [Mx.cmp_eq (Nat.mul_div_cancel _ (Mx.pow2_pos k))]; rfl) (fun _ _ h => h)),
    stepN (i := 4) (by kernel_rfl) (move (d := 82) (x := (.tmp 81)) fun _ _ _ _ D => D 81 (by kernel_rfl)),
    stepG (i := 5) (j := 4) (dj := 82) (b := false) (by kernel_rfl) (by kernel_rfl) (by kernel_rfl) (fun _ _ h => h) (loadNat (d := 83) (p := 5) p5 (by kernel_rfl) c5 n5 (fun _ _ h => h)),
    stepG (i := 6) (j := 4) (dj := 82) (b := false) (by kernel_rfl) (by kernel_rfl) (by kernel_rfl) (fun _ _ h => h) (callZeroB (d := 84) (x := 83) (n := (x)) (k := 10) (b := false) (ts := #[24]) (by kernel_rfl) (fun _ _ h => h) (by rw [beq_eq_false_iff_ne]; exact hx) (fun _ _ h => h)),
    stepG (i := 7) (j := 4) (dj := 82) (b := false) (by kernel_rfl) (by kernel_rfl) (by kernel_rfl) (fun _ _ h => h) (notB (d := 85) (x := 84) (b := false) (c := true) (by kernel_rfl) (fun _ _ h => h) rfl (fun _ _ h => h)),
    stepG (i := 8) (j := 4) (dj := 82) (b := false) (by kernel_rfl) (by kernel_rfl) (by kernel_rfl) (fun _ _ h => h) (move (d := 86) (x := (.tmp 85)) fun _ _ _ _ D => D 85 (by kernel_rfl)),
    stepG (i := 9) (j := 8) (dj := 86) (b := true) (by kernel_rfl) (by kernel_rfl) (by kernel_rfl) (fun _ _ h => h) (loadNat (d := 87) (p := 8) p8 (by kernel_rfl) c8 n8 (fun _ _ h => h)),
    stepG (i := 10) (j := 8) (dj := 86) (b := true) (by kernel_rfl) (by kernel_rfl) (by kernel_rfl) (fun _ _ h => h) (callBits (d := 88) (x := 87) (n := (x * 2 ^ k)) (k := 8192) (ts := #[24]) (by kernel_rfl) (fun _ _ h => h) (by omega) (fun _ _ h => h)),
    stepG (i := 11) (j := 8) (dj := 86) (b := true) (by kernel_rfl) (by kernel_rfl) (by kernel_rfl) (fun _ _ h => h) (loadNat (d := 89) (p := 5) p5 (by kernel_rfl) c5 n5 (fun _ _ h => h)),
    stepG (i := 12) (j := 8) (dj := 86) (b := true) (by kernel_rfl) (by kernel_rfl) (by kernel_rfl) (fun _ _ h => h) (callBits (d := 90) (x := 89) (n := (x)) (k := 10) (ts := #[24]) (by kernel_rfl) (fun _ _ h => h) (by omega) (fun _ _ h => h)),
    stepG (i := 13) (j := 8) (dj := 86) (b := true) (by kernel_rfl) (by kernel_rfl) (by kernel_rfl) (fun _ _ h => h) (move (d := 91) (x := (.tmp 7)) fun a w hg ha D => ext7 (ha.2.2 7 (by kernel_rfl)) hg),
    stepG (i := 14) (j := 8) (dj := 86) (b := true) (by kernel_rfl) (by kernel_rfl) (by kernel_rfl) (fun _ _ h => h) (addII (d := 92) (x := 90) (y := 91) (m := ((Mx.bits ((x)) : Nat) : Int)) (c := ((k : Nat) : Int)) (r := ((Mx.bits x : Nat) : Int) + ((k : Nat) : Int)) (by kernel_rfl) (by kernel_rfl) (fun _ _ h => h) (fun _ _ h => h) (IntWalk.i64_in _ (by omega)) (fun _ _ h => h)),
    stepG (i := 15) (j := 8) (dj := 86) (b := true) (by kernel_rfl) (by kernel_rfl) (by kernel_rfl) (fun _ _ h => h) (neqII (d := 93) (x := 88) (y := 92) (m := ((Mx.bits ((x * 2 ^ k)) : Nat) : Int)) (c := (((Mx.bits x : Nat) : Int) + ((k : Nat) : Int))) (b := false) (by kernel_rfl) (by kernel_rfl) (fun _ _ h => h) (fun _ _ h => h) (by rw [hbits]; simp) (fun _ _ h => h)),
    stepG (i := 16) (j := 4) (dj := 82) (b := false) (by kernel_rfl) (by kernel_rfl) (by kernel_rfl) (fun _ _ h => h) (pickT (d := 94) (c := 86) (x := (.tmp 93)) (y := (.const (.bool false))) (by kernel_rfl) (fun _ _ h => h) fun _ _ _ _ D => D 93 (by kernel_rfl)),
    stepN (i := 17) (by kernel_rfl) (pickF (d := 95) (c := 82) (x := (.const (.bool true))) (y := (.tmp 94)) (by kernel_rfl) (fun _ _ h => h) fun _ _ _ _ D => D 94 (by kernel_rfl)),
    stepN (i := 18) (by kernel_rfl) (move (d := 96) (x := (.tmp 95)) fun _ _ _ _ D => D 95 (by kernel_rfl)),
    stepG (i := 19) (j := 18) (dj := 96) (b := false) (by kernel_rfl) (by kernel_rfl) (by kernel_rfl) (fun _ _ h => h) (move (d := 97) (x := (.tmp 7)) fun a w hg ha D => ext7 (ha.2.2 7 (by kernel_rfl)) hg),
    stepG (i := 20) (j := 18) (dj := 96) (b := false) (by kernel_rfl) (by kernel_rfl) (by kernel_rfl) (fun _ _ h => h) (loadNat (d := 98) (p := 5) p5 (by kernel_rfl) c5 n5 (fun _ _ h => h)),
    stepG (i := 21) (j := 18) (dj := 96) (b := false) (by kernel_rfl) (by kernel_rfl) (by kernel_rfl) (fun _ _ h => h) (callBits (d := 99) (x := 98) (n := (x)) (k := 10) (ts := #[24]) (by kernel_rfl) (fun _ _ h => h) (by omega) (fun _ _ h => h)),
    stepG (i := 22) (j := 18) (dj := 96) (b := false) (by kernel_rfl) (by kernel_rfl) (by kernel_rfl) (fun _ _ h => h) (geqII (d := 100) (x := 97) (y := 99) (m := ((k : Nat) : Int)) (c := ((Mx.bits ((x)) : Nat) : Int)) (b := false) (by kernel_rfl) (by kernel_rfl) (fun _ _ h => h) (fun _ _ h => h) (decide_eq_false (by omega)) (fun _ _ h => h)),
    stepG (i := 23) (j := 18) (dj := 96) (b := false) (by kernel_rfl) (by kernel_rfl) (by kernel_rfl) (fun _ _ h => h) (move (d := 101) (x := (.tmp 100)) fun _ _ _ _ D => D 100 (by kernel_rfl)),
    stepS (i := 24) (j := 23) (dj := 101) (b := true) (c := false) (dst := some 102) (op := (.load 24 (.tmp 10))) (by kernel_rfl) (by kernel_rfl) (by kernel_rfl) (fun _ _ h => h) rfl (fun d hd w => by cases hd; exact rfl),
    stepS (i := 25) (j := 23) (dj := 101) (b := true) (c := false) (dst := some 103) (op := (.call { callee := .value (.func 13), args := #[(.tmp 102)], argTypes := #[24] })) (by kernel_rfl) (by kernel_rfl) (by kernel_rfl) (fun _ _ h => h) rfl (fun d hd w => by cases hd; exact rfl),
    stepS (i := 26) (j := 23) (dj := 101) (b := true) (c := false) (dst := some 104) (op := (.unOp .not 4 (.tmp 103))) (by kernel_rfl) (by kernel_rfl) (by kernel_rfl) (fun _ _ h => h) rfl (fun d hd w => by cases hd; exact rfl),
    stepG (i := 27) (j := 18) (dj := 96) (b := false) (by kernel_rfl) (by kernel_rfl) (by kernel_rfl) (fun _ _ h => h) (pickF (d := 105) (c := 101) (x := (.tmp 104)) (y := (.const (.bool false))) (by kernel_rfl) (fun _ _ h => h) fun _ _ _ _ _ => rfl),
    stepN (i := 28) (by kernel_rfl) (pickF (d := 106) (c := 96) (x := (.const (.bool true))) (y := (.tmp 105)) (by kernel_rfl) (fun _ _ h => h) fun _ _ _ _ D => D 105 (by kernel_rfl)), trivial⟩
  · have e : look (shifts14BFacts x k) 106 w (a.tmps.getD 106 undef) := h 106 (by kernel_rfl)
    exact e

/-- What each operation of the region yields. -/
def shifts18Facts (la lx : List Nat) (k : Nat) : List (Nat × (World → Value → Prop)) :=
  [(117, (fun w v => IsN w v ((Mx.val lx * 2 ^ k)) (8192))),
   (118, (fun w v => Sl w v (la))),
   (119, (fun w v => Sl w v (lx))),
   (120, (fun w v => IsD w v (Mx.val lx) (80))),
   (121, (fun w v => IsD w v (2 ^ k) (40))),
   (122, (fun w v => IsD w v ((Mx.val lx) * (2 ^ k)) ((80 + 40 + 1)))),
   (123, (fun _ v => v = .bool true)),
   (124, (fun _ v => v = .bool false)),
   (125, (fun _ v => v = .bool false)),
   (126, (fun w v => IsN w v ((Mx.val lx / 2 ^ k)) (10))),
   (127, (fun w v => IsD w v (Mx.val lx / 2 ^ k) (80))),
   (128, (fun _ v => v = .bool true)),
   (129, (fun _ v => v = .bool false)),
   (130, (fun _ v => v = .bool false))]
theorem shifts18Stable (la lx : List Nat) (k : Nat) : AllStable (shifts18Facts la lx k) := ⟨st_N _ _, st_S _, st_S _, st_D _ _, st_D _ _, st_D _ _, st_eq _, st_eq _, st_eq _, st_N _ _, st_D _ _, st_eq _, st_eq _, st_eq _, trivial⟩

set_option maxRecDepth 100000 in
set_option maxHeartbeats 4000000 in
theorem shifts18_region {Q : Exit → Act → World → Prop} {a0 : Act} {w0 : World} (la lx : List Nat) (k : Nat) (hn : a0.tmps.size = 133)
   {b8 : Addr} {A8 : Option Addr} {L8 C8 : Nat} (p8 : a0.tmps.getD 8 undef = .pointer (some b8)) (c8 : w0.cell? b8 = some (.slice A8 L8 C8)) (n8 : IsN w0 (.agg #[.slice A8 L8 C8]) (Mx.val lx * 2 ^ k) 8192)
   {b10 : Addr} {A10 : Option Addr} {L10 C10 : Nat} (p10 : a0.tmps.getD 10 undef = .pointer (some b10)) (c10 : w0.cell? b10 = some (.slice A10 L10 C10)) (n10 : IsN w0 (.agg #[.slice A10 L10 C10]) (Mx.val lx / 2 ^ k) 10)
   (s0 : Sl w0 (a0.tmps.getD 0 undef) (la))
   (d14 : IsD w0 (a0.tmps.getD 14 undef) (2 ^ k) 40)
   (d15 : IsD w0 (a0.tmps.getD 15 undef) (Mx.val lx / 2 ^ k) 80)
   (hlx : la.take 10 = lx) (hll : lx.length ≤ 10)
    (fin : ∀ a w, Grow w0 w → Agree (regionOps Try.f5 18) a0 a → a.tmps.getD 130 undef = .bool false → Q .normal a w) : (Code.region 18 (regionOps Try.f5 18) true).wp Try.prog Q a0 w0 := by
  have ext0 : ∀ {u : Value} {w : World}, u = a0.tmps.getD 0 undef → Grow w0 w → Sl w u (la) := fun h g => h ▸ s0.grow g
  have ext14 : ∀ {u : Value} {w : World}, u = a0.tmps.getD 14 undef → Grow w0 w → IsD w u (2 ^ k) (40) := fun h g => h ▸ d14.grow g
  have ext15 : ∀ {u : Value} {w : World}, u = a0.tmps.getD 15 undef → Grow w0 w → IsD w u (Mx.val lx / 2 ^ k) (80) := fun h g => h ▸ d15.grow g
  refine region (n := 133) (F := look (shifts18Facts la lx k)) (by kernel_rfl) hn (by kernel_rfl) (look_stable _ (shifts18Stable la lx k)) (fun i hi => all_from 14 0 ?_ i (Nat.zero_le _) (Nat.lt_of_lt_of_eq hi (by kernel_rfl)))
    fun a w hg ha h => fin a w hg ha ?_
  · exact ⟨
    stepN (i := 0) (by kernel_rfl) (loadNat (d := 117) (p := 8) p8 (by kernel_rfl) c8 n8 (fun _ _ h => h)),
    stepN (i := 1) (by kernel_rfl) (move (d := 118) (x := (.tmp 0)) fun a w hg ha D => ext0 (ha.2.2 0 (by kernel_rfl)) hg),
    stepN (i := 2) (by kernel_rfl) (callCut2 (d := 119) (x := 118) (l := la) (r := lx) (ts := #[22]) (by kernel_rfl) (fun _ _ h => h) (hlx) (fun _ _ h => h)),
    stepN (i := 3) (by kernel_rfl) (callRefOf (d := 120) (x := 119) (l := lx) (k := 80) (ts := #[22]) (by kernel_rfl) (fun _ _ h => h) (by omega) (by omega) (fun _ _ h => h)),
    stepN (i := 4) (by kernel_rfl) (move (d := 121) (x := (.tmp 14)) fun a w hg ha D => ext14 (ha.2.2 14 (by kernel_rfl)) hg),
    stepN (i := 5) (by kernel_rfl) (callRefMul (d := 122) (x := 120) (y := 121) (n := (Mx.val lx)) (m := (2 ^ k)) (k := 80) (j := 40) (ts := #[30, 30]) (by kernel_rfl) (by kernel_rfl) (fun _ _ h => h) (fun _ _ h => h) (by omega) (by omega) (fun _ _ h => h)),
    stepN (i := 6) (by kernel_rfl) (callSame2 (d := 123) (x := 117) (y := 122) (n := ((Mx.val lx * 2 ^ k))) (m := ((Mx.val lx) * (2 ^ k))) (k := 8192) (j := ((80 + 40 + 1))) (ts := #[24, 30]) (by kernel_rfl) (by kernel_rfl) (fun _ _ h => h) (fun _ _ h => h) (by omega) (rfl) (fun _ _ h => h)),
    stepN (i := 7) (by kernel_rfl) (notB (d := 124) (x := 123) (b := true) (c := false) (by kernel_rfl) (fun _ _ h => h) rfl (fun _ _ h => h)),
    stepN (i := 8) (by kernel_rfl) (move (d := 125) (x := (.tmp 124)) fun _ _ _ _ D => D 124 (by kernel_rfl)),
    stepG (i := 9) (j := 8) (dj := 125) (b := false) (by kernel_rfl) (by kernel_rfl) (by kernel_rfl) (fun _ _ h => h) (loadNat (d := 126) (p := 10) p10 (by kernel_rfl) c10 n10 (fun _ _ h => h)),
    stepG (i := 10) (j := 8) (dj := 125) (b := false) (by kernel_rfl) (by kernel_rfl) (by kernel_rfl) (fun _ _ h => h) (move (d := 127) (x := (.tmp 15)) fun a w hg ha D => ext15 (ha.2.2 15 (by kernel_rfl)) hg),
    stepG (i := 11) (j := 8) (dj := 125) (b := false) (by kernel_rfl) (by kernel_rfl) (by kernel_rfl) (fun _ _ h => h) (callSame2 (d := 128) (x := 126) (y := 127) (n := ((Mx.val lx / 2 ^ k))) (m := (Mx.val lx / 2 ^ k)) (k := 10) (j := 80) (ts := #[24, 30]) (by kernel_rfl) (by kernel_rfl) (fun _ _ h => h) (fun _ _ h => h) (by omega) (rfl) (fun _ _ h => h)),
    stepG (i := 12) (j := 8) (dj := 125) (b := false) (by kernel_rfl) (by kernel_rfl) (by kernel_rfl) (fun _ _ h => h) (notB (d := 129) (x := 128) (b := true) (c := false) (by kernel_rfl) (fun _ _ h => h) rfl (fun _ _ h => h)),
    stepN (i := 13) (by kernel_rfl) (pickF (d := 130) (c := 125) (x := (.const (.bool true))) (y := (.tmp 129)) (by kernel_rfl) (fun _ _ h => h) fun _ _ _ _ D => D 129 (by kernel_rfl)), trivial⟩
  · have e : look (shifts18Facts la lx k) 130 w (a.tmps.getD 130 undef) := h 130 (by kernel_rfl)
    exact e
end Go.Proofs.Ytfeijnbmaehniaa.Rg
