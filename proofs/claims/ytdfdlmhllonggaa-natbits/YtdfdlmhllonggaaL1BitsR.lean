/- The great region of the law NatBits: whatever its order, in each of its four ways. Written by a script (tools/laws). -/
import Derived.Test.YtdfdlmhllonggaaLaw1R
import Derived.IntWalk
namespace Go.Proofs.Ytdfdlmhllonggaa.Rg
open Go.RowKit

/-- What each operation of the region yields. -/
def bitsTTFacts (x y : Nat) : List (Nat × (World → Value → Prop)) :=
  [(32, (fun _ v => v = .bool true)),
   (33, (fun _ v => v = .bool true)),
   (34, (fun _ v => v = .int .i64 ((Mx.bits (x * y) : Nat) : Int))),
   (35, (fun w v => IsN w v (x) (12))),
   (36, (fun _ v => v = .int .i64 ((Mx.bits x : Nat) : Int))),
   (37, (fun w v => IsN w v (y) (12))),
   (38, (fun _ v => v = .int .i64 ((Mx.bits y : Nat) : Int))),
   (39, (fun _ v => v = .int .i64 (((Mx.bits x : Nat) : Int) + ((Mx.bits y : Nat) : Int)))),
   (40, (fun _ v => v = .bool true)),
   (41, (fun _ v => v = .bool true)),
   (42, (fun _ v => v = undef)),
   (43, (fun _ v => v = undef)),
   (44, (fun _ v => v = undef)),
   (45, (fun _ v => v = undef)),
   (46, (fun _ v => v = undef)),
   (47, (fun _ v => v = undef)),
   (48, (fun _ v => v = undef)),
   (49, (fun _ v => v = undef)),
   (50, (fun _ v => v = .bool true)),
   (51, (fun _ v => v = .bool true)),
   (52, (fun _ v => v = .bool true)),
   (53, (fun w v => IsN w v (x) (12))),
   (54, (fun w v => IsN w v (x) (12))),
   (55, (fun w v => IsN w v ((x + x)) ((max 12 12 + 1)))),
   (56, (fun _ v => v = .int .i64 ((Mx.bits ((x + x)) : Nat) : Int))),
   (57, (fun w v => IsN w v (x) (12))),
   (58, (fun _ v => v = .int .i64 ((Mx.bits x : Nat) : Int))),
   (59, (fun _ v => v = .int .i64 (((Mx.bits x : Nat) : Int) + 1))),
   (60, (fun _ v => v = .bool true)),
   (61, (fun _ v => v = .bool true)),
   (62, (fun _ v => v = .bool true)),
   (63, (fun w v => IsN w v (x) (12))),
   (64, (fun w v => IsN w v (y) (12))),
   (65, (fun _ v => v = .int .i64 (Mx.cmp x y))),
   (66, (fun _ v => v = .bool true)),
   (67, (fun _ v => v = .bool true)),
   (68, (fun _ v => v = undef)),
   (69, (fun _ v => v = undef)),
   (70, (fun _ v => v = undef)),
   (71, (fun _ v => v = undef)),
   (72, (fun _ v => v = undef)),
   (73, (fun _ v => v = .bool true)),
   (74, (fun _ v => v = .bool true)),
   (4, (fun _ v => v = .bool true))]
theorem bitsTTStable (x y : Nat) : AllStable (bitsTTFacts x y) := ⟨st_eq _, st_eq _, st_eq _, st_N _ _, st_eq _, st_N _ _, st_eq _, st_eq _, st_eq _, st_eq _, st_eq _, st_eq _, st_eq _, st_eq _, st_eq _, st_eq _, st_eq _, st_eq _, st_eq _, st_eq _, st_eq _, st_N _ _, st_N _ _, st_N _ _, st_eq _, st_N _ _, st_eq _, st_eq _, st_eq _, st_eq _, st_eq _, st_N _ _, st_N _ _, st_eq _, st_eq _, st_eq _, st_eq _, st_eq _, st_eq _, st_eq _, st_eq _, st_eq _, st_eq _, st_eq _, trivial⟩

set_option maxRecDepth 100000 in
set_option maxHeartbeats 4000000 in
theorem bitsTT_region {Q : Exit → Act → World → Prop} {a0 : Act} {w0 : World} (x y : Nat) (hn : a0.tmps.size = 75)
   {b5 : Addr} {A5 : Option Addr} {L5 C5 : Nat} (p5 : a0.tmps.getD 5 undef = .pointer (some b5)) (c5 : w0.cell? b5 = some (.slice A5 L5 C5)) (n5 : IsN w0 (.agg #[.slice A5 L5 C5]) (x) 12)
   {b6 : Addr} {A6 : Option Addr} {L6 C6 : Nat} (p6 : a0.tmps.getD 6 undef = .pointer (some b6)) (c6 : w0.cell? b6 = some (.slice A6 L6 C6)) (n6 : IsN w0 (.agg #[.slice A6 L6 C6]) (y) 12)
   (v7 : a0.tmps.getD 7 undef = .int .i64 ((Mx.bits (x * y) : Nat) : Int)) (hx0 : x ≠ 0) (h1 : Mx.bits x ≤ 768) (h2 : Mx.bits y ≤ 768) (hA : (((Mx.bits (x * y) : Nat) : Int) == ((Mx.bits x : Nat) : Int) + ((Mx.bits y : Nat) : Int)) = true) (hC : decide ((0 : Int) < Mx.cmp x y) = true)
    (fin : ∀ a w, Grow w0 w → Agree (regionOps Try.f7 5) a0 a → a.tmps.getD 4 undef = .bool true → Q .normal a w) : (Code.region 5 (regionOps Try.f7 5) true).wp Try.prog Q a0 w0 := by
  have ext7 : ∀ {u : Value} {w : World}, u = a0.tmps.getD 7 undef → Grow w0 w → u = .int .i64 ((Mx.bits (x * y) : Nat) : Int) := fun h _ => h.trans v7
  refine region (n := 75) (F := look (bitsTTFacts x y)) (by kernel_rfl) hn (by kernel_rfl) (look_stable _ (bitsTTStable x y)) (fun i hi => all_from 44 0 ?_ i (Nat.zero_le _) (Nat.lt_of_lt_of_eq hi (by kernel_rfl)))
    fun a w hg ha h => fin a w hg ha ?_
  · exact ⟨
    stepN (i := 0) (by kernel_rfl) (callWakes (d := 32) (ts := #[]) (fun _ _ h => h)),
    stepN (i := 1) (by kernel_rfl) (move (d := 33) (x := (.tmp 32)) fun _ _ _ _ D => D 32 (by kernel_rfl)),
    stepG (i := 2) (j := 1) (dj := 33) (b := true) (by kernel_rfl) (by kernel_rfl) (by kernel_rfl) (fun _ _ h => h) (move (d := 34) (x := (.tmp 7)) fun a w hg ha D => ext7 (ha.2.2 7 (by kernel_rfl)) hg),
    stepG (i := 3) (j := 1) (dj := 33) (b := true) (by kernel_rfl) (by kernel_rfl) (by kernel_rfl) (fun _ _ h => h) (loadNat (d := 35) (p := 5) p5 (by kernel_rfl) c5 n5 (fun _ _ h => h)),
    stepG (i := 4) (j := 1) (dj := 33) (b := true) (by kernel_rfl) (by kernel_rfl) (by kernel_rfl) (fun _ _ h => h) (callBits (d := 36) (x := 35) (n := x) (k := 12) (ts := #[24]) (by kernel_rfl) (fun _ _ h => h) (by omega) (fun _ _ h => h)),
    stepG (i := 5) (j := 1) (dj := 33) (b := true) (by kernel_rfl) (by kernel_rfl) (by kernel_rfl) (fun _ _ h => h) (loadNat (d := 37) (p := 6) p6 (by kernel_rfl) c6 n6 (fun _ _ h => h)),
    stepG (i := 6) (j := 1) (dj := 33) (b := true) (by kernel_rfl) (by kernel_rfl) (by kernel_rfl) (fun _ _ h => h) (callBits (d := 38) (x := 37) (n := y) (k := 12) (ts := #[24]) (by kernel_rfl) (fun _ _ h => h) (by omega) (fun _ _ h => h)),
    stepG (i := 7) (j := 1) (dj := 33) (b := true) (by kernel_rfl) (by kernel_rfl) (by kernel_rfl) (fun _ _ h => h) (addII (d := 39) (x := 36) (y := 38) (m := ((Mx.bits x : Nat) : Int)) (c := ((Mx.bits y : Nat) : Int)) (r := ((Mx.bits x : Nat) : Int) + ((Mx.bits y : Nat) : Int)) (by kernel_rfl) (by kernel_rfl) (fun _ _ h => h) (fun _ _ h => h) (IntWalk.i64_in _ (by omega)) (fun _ _ h => h)),
    stepG (i := 8) (j := 1) (dj := 33) (b := true) (by kernel_rfl) (by kernel_rfl) (by kernel_rfl) (fun _ _ h => h) (eqlII (d := 40) (x := 34) (y := 39) (m := ((Mx.bits (x * y) : Nat) : Int)) (c := (((Mx.bits x : Nat) : Int) + ((Mx.bits y : Nat) : Int))) (b := true) (by kernel_rfl) (by kernel_rfl) (fun _ _ h => h) (fun _ _ h => h) (hA) (fun _ _ h => h)),
    stepG (i := 9) (j := 1) (dj := 33) (b := true) (by kernel_rfl) (by kernel_rfl) (by kernel_rfl) (fun _ _ h => h) (move (d := 41) (x := (.tmp 40)) fun _ _ _ _ D => D 40 (by kernel_rfl)),
    stepS (i := 10) (j := 9) (dj := 41) (b := false) (c := true) (dst := some 42) (op := (.move (.tmp 7))) (by kernel_rfl) (by kernel_rfl) (by kernel_rfl) (fun _ _ h => h) rfl (fun d hd w => by cases hd; exact rfl),
    stepS (i := 11) (j := 9) (dj := 41) (b := false) (c := true) (dst := some 43) (op := (.load 24 (.tmp 5))) (by kernel_rfl) (by kernel_rfl) (by kernel_rfl) (fun _ _ h => h) rfl (fun d hd w => by cases hd; exact rfl),
    stepS (i := 12) (j := 9) (dj := 41) (b := false) (c := true) (dst := some 44) (op := (.call { callee := .value (.func 24), args := #[(.tmp 43)], argTypes := #[24] })) (by kernel_rfl) (by kernel_rfl) (by kernel_rfl) (fun _ _ h => h) rfl (fun d hd w => by cases hd; exact rfl),
    stepS (i := 13) (j := 9) (dj := 41) (b := false) (c := true) (dst := some 45) (op := (.load 24 (.tmp 6))) (by kernel_rfl) (by kernel_rfl) (by kernel_rfl) (fun _ _ h => h) rfl (fun d hd w => by cases hd; exact rfl),
    stepS (i := 14) (j := 9) (dj := 41) (b := false) (c := true) (dst := some 46) (op := (.call { callee := .value (.func 24), args := #[(.tmp 45)], argTypes := #[24] })) (by kernel_rfl) (by kernel_rfl) (by kernel_rfl) (fun _ _ h => h) rfl (fun d hd w => by cases hd; exact rfl),
    stepS (i := 15) (j := 9) (dj := 41) (b := false) (c := true) (dst := some 47) (op := (.binOp .add 3 (.tmp 44) (.tmp 46) 3)) (by kernel_rfl) (by kernel_rfl) (by kernel_rfl) (fun _ _ h => h) rfl (fun d hd w => by cases hd; exact rfl),
    stepS (i := 16) (j := 9) (dj := 41) (b := false) (c := true) (dst := some 48) (op := (.binOp .sub 3 (.tmp 47) (.const (.int .i64 1)) 3)) (by kernel_rfl) (by kernel_rfl) (by kernel_rfl) (fun _ _ h => h) rfl (fun d hd w => by cases hd; exact rfl),
    stepS (i := 17) (j := 9) (dj := 41) (b := false) (c := true) (dst := some 49) (op := (.binOp .eql 3 (.tmp 42) (.tmp 48) 3)) (by kernel_rfl) (by kernel_rfl) (by kernel_rfl) (fun _ _ h => h) rfl (fun d hd w => by cases hd; exact rfl),
    stepG (i := 18) (j := 1) (dj := 33) (b := true) (by kernel_rfl) (by kernel_rfl) (by kernel_rfl) (fun _ _ h => h) (pickT (d := 50) (c := 41) (x := (.const (.bool true))) (y := (.tmp 49)) (by kernel_rfl) (fun _ _ h => h) fun _ _ _ _ _ => rfl),
    stepN (i := 19) (by kernel_rfl) (pickT (d := 51) (c := 33) (x := (.tmp 50)) (y := (.const (.bool false))) (by kernel_rfl) (fun _ _ h => h) fun _ _ _ _ D => D 50 (by kernel_rfl)),
    stepN (i := 20) (by kernel_rfl) (move (d := 52) (x := (.tmp 51)) fun _ _ _ _ D => D 51 (by kernel_rfl)),
    stepG (i := 21) (j := 20) (dj := 52) (b := true) (by kernel_rfl) (by kernel_rfl) (by kernel_rfl) (fun _ _ h => h) (loadNat (d := 53) (p := 5) p5 (by kernel_rfl) c5 n5 (fun _ _ h => h)),
    stepG (i := 22) (j := 20) (dj := 52) (b := true) (by kernel_rfl) (by kernel_rfl) (by kernel_rfl) (fun _ _ h => h) (loadNat (d := 54) (p := 5) p5 (by kernel_rfl) c5 n5 (fun _ _ h => h)),
    stepG (i := 23) (j := 20) (dj := 52) (b := true) (by kernel_rfl) (by kernel_rfl) (by kernel_rfl) (fun _ _ h => h) (callAdd (d := 55) (x := 53) (y := 54) (n := x) (m := x) (k := 12) (j := 12) (ts := #[24, 24]) (by kernel_rfl) (by kernel_rfl) (fun _ _ h => h) (fun _ _ h => h) (by omega) (by omega) (fun _ _ h => h)),
    stepG (i := 24) (j := 20) (dj := 52) (b := true) (by kernel_rfl) (by kernel_rfl) (by kernel_rfl) (fun _ _ h => h) (callBits (d := 56) (x := 55) (n := (x + x)) (k := (max 12 12 + 1)) (ts := #[24]) (by kernel_rfl) (fun _ _ h => h) (by omega) (fun _ _ h => h)),
    stepG (i := 25) (j := 20) (dj := 52) (b := true) (by kernel_rfl) (by kernel_rfl) (by kernel_rfl) (fun _ _ h => h) (loadNat (d := 57) (p := 5) p5 (by kernel_rfl) c5 n5 (fun _ _ h => h)),
    stepG (i := 26) (j := 20) (dj := 52) (b := true) (by kernel_rfl) (by kernel_rfl) (by kernel_rfl) (fun _ _ h => h) (callBits (d := 58) (x := 57) (n := x) (k := 12) (ts := #[24]) (by kernel_rfl) (fun _ _ h => h) (by omega) (fun _ _ h => h)),
    stepG (i := 27) (j := 20) (dj := 52) (b := true) (by kernel_rfl) (by kernel_rfl) (by kernel_rfl) (fun _ _ h => h) (addI (d := 59) (x := 58) (m := ((Mx.bits x : Nat) : Int)) (c := 1) (r := ((Mx.bits x : Nat) : Int) + 1) (by kernel_rfl) (fun _ _ h => h) (IntWalk.i64_in _ (by omega)) (fun _ _ h => h)),
    stepG (i := 28) (j := 20) (dj := 52) (b := true) (by kernel_rfl) (by kernel_rfl) (by kernel_rfl) (fun _ _ h => h) (eqlII (d := 60) (x := 56) (y := 59) (m := ((Mx.bits ((x + x)) : Nat) : Int)) (c := (((Mx.bits x : Nat) : Int) + 1)) (b := true) (by kernel_rfl) (by kernel_rfl) (fun _ _ h => h) (fun _ _ h => h) (by rw [Mx.bits_double hx0]; simp) (fun _ _ h => h)),
    stepN (i := 29) (by kernel_rfl) (pickT (d := 61) (c := 52) (x := (.tmp 60)) (y := (.const (.bool false))) (by kernel_rfl) (fun _ _ h => h) fun _ _ _ _ D => D 60 (by kernel_rfl)),
    stepN (i := 30) (by kernel_rfl) (move (d := 62) (x := (.tmp 61)) fun _ _ _ _ D => D 61 (by kernel_rfl)),
    stepG (i := 31) (j := 30) (dj := 62) (b := true) (by kernel_rfl) (by kernel_rfl) (by kernel_rfl) (fun _ _ h => h) (loadNat (d := 63) (p := 5) p5 (by kernel_rfl) c5 n5 (fun _ _ h => h)),
    stepG (i := 32) (j := 30) (dj := 62) (b := true) (by kernel_rfl) (by kernel_rfl) (by kernel_rfl) (fun _ _ h => h) (loadNat (d := 64) (p := 6) p6 (by kernel_rfl) c6 n6 (fun _ _ h => h)),
    stepG (i := 33) (j := 30) (dj := 62) (b := true) (by kernel_rfl) (by kernel_rfl) (by kernel_rfl) (fun _ _ h => h) (callCmp (d := 65) (x := 63) (y := 64) (n := x) (m := y) (k := 12) (j := 12) (ts := #[24, 24]) (by kernel_rfl) (by kernel_rfl) (fun _ _ h => h) (fun _ _ h => h) (by omega) (fun _ _ h => h)),
    stepG (i := 34) (j := 30) (dj := 62) (b := true) (by kernel_rfl) (by kernel_rfl) (by kernel_rfl) (fun _ _ h => h) (gtrI (d := 66) (x := 65) (m := (Mx.cmp x y)) (c := 0) (b := true) (by kernel_rfl) (fun _ _ h => h) (hC) (fun _ _ h => h)),
    stepG (i := 35) (j := 30) (dj := 62) (b := true) (by kernel_rfl) (by kernel_rfl) (by kernel_rfl) (fun _ _ h => h) (move (d := 67) (x := (.tmp 66)) fun _ _ _ _ D => D 66 (by kernel_rfl)),
    stepS (i := 36) (j := 35) (dj := 67) (b := false) (c := true) (dst := some 68) (op := (.load 24 (.tmp 5))) (by kernel_rfl) (by kernel_rfl) (by kernel_rfl) (fun _ _ h => h) rfl (fun d hd w => by cases hd; exact rfl),
    stepS (i := 37) (j := 35) (dj := 67) (b := false) (c := true) (dst := some 69) (op := (.call { callee := .value (.func 24), args := #[(.tmp 68)], argTypes := #[24] })) (by kernel_rfl) (by kernel_rfl) (by kernel_rfl) (fun _ _ h => h) rfl (fun d hd w => by cases hd; exact rfl),
    stepS (i := 38) (j := 35) (dj := 67) (b := false) (c := true) (dst := some 70) (op := (.load 24 (.tmp 6))) (by kernel_rfl) (by kernel_rfl) (by kernel_rfl) (fun _ _ h => h) rfl (fun d hd w => by cases hd; exact rfl),
    stepS (i := 39) (j := 35) (dj := 67) (b := false) (c := true) (dst := some 71) (op := (.call { callee := .value (.func 24), args := #[(.tmp 70)], argTypes := #[24] })) (by kernel_rfl) (by kernel_rfl) (by kernel_rfl) (fun _ _ h => h) rfl (fun d hd w => by cases hd; exact rfl),
    stepS (i := 40) (j := 35) (dj := 67) (b := false) (c := true) (dst := some 72) (op := (.binOp .leq 3 (.tmp 69) (.tmp 71) 3)) (by kernel_rfl) (by kernel_rfl) (by kernel_rfl) (fun _ _ h => h) rfl (fun d hd w => by cases hd; exact rfl),
    stepG (i := 41) (j := 30) (dj := 62) (b := true) (by kernel_rfl) (by kernel_rfl) (by kernel_rfl) (fun _ _ h => h) (pickT (d := 73) (c := 67) (x := (.const (.bool true))) (y := (.tmp 72)) (by kernel_rfl) (fun _ _ h => h) fun _ _ _ _ _ => rfl),
    stepN (i := 42) (by kernel_rfl) (pickT (d := 74) (c := 62) (x := (.tmp 73)) (y := (.const (.bool false))) (by kernel_rfl) (fun _ _ h => h) fun _ _ _ _ D => D 73 (by kernel_rfl)),
    stepN (i := 43) (by kernel_rfl) (assign (d := 4) (x := (.tmp 74)) fun _ _ _ _ D => D 74 (by kernel_rfl)), trivial⟩
  · have e : look (bitsTTFacts x y) 4 w (a.tmps.getD 4 undef) := h 4 (by kernel_rfl)
    exact e

/-- What each operation of the region yields. -/
def bitsTFFacts (x y : Nat) : List (Nat × (World → Value → Prop)) :=
  [(32, (fun _ v => v = .bool true)),
   (33, (fun _ v => v = .bool true)),
   (34, (fun _ v => v = .int .i64 ((Mx.bits (x * y) : Nat) : Int))),
   (35, (fun w v => IsN w v (x) (12))),
   (36, (fun _ v => v = .int .i64 ((Mx.bits x : Nat) : Int))),
   (37, (fun w v => IsN w v (y) (12))),
   (38, (fun _ v => v = .int .i64 ((Mx.bits y : Nat) : Int))),
   (39, (fun _ v => v = .int .i64 (((Mx.bits x : Nat) : Int) + ((Mx.bits y : Nat) : Int)))),
   (40, (fun _ v => v = .bool true)),
   (41, (fun _ v => v = .bool true)),
   (42, (fun _ v => v = undef)),
   (43, (fun _ v => v = undef)),
   (44, (fun _ v => v = undef)),
   (45, (fun _ v => v = undef)),
   (46, (fun _ v => v = undef)),
   (47, (fun _ v => v = undef)),
   (48, (fun _ v => v = undef)),
   (49, (fun _ v => v = undef)),
   (50, (fun _ v => v = .bool true)),
   (51, (fun _ v => v = .bool true)),
   (52, (fun _ v => v = .bool true)),
   (53, (fun w v => IsN w v (x) (12))),
   (54, (fun w v => IsN w v (x) (12))),
   (55, (fun w v => IsN w v ((x + x)) ((max 12 12 + 1)))),
   (56, (fun _ v => v = .int .i64 ((Mx.bits ((x + x)) : Nat) : Int))),
   (57, (fun w v => IsN w v (x) (12))),
   (58, (fun _ v => v = .int .i64 ((Mx.bits x : Nat) : Int))),
   (59, (fun _ v => v = .int .i64 (((Mx.bits x : Nat) : Int) + 1))),
   (60, (fun _ v => v = .bool true)),
   (61, (fun _ v => v = .bool true)),
   (62, (fun _ v => v = .bool true)),
   (63, (fun w v => IsN w v (x) (12))),
   (64, (fun w v => IsN w v (y) (12))),
   (65, (fun _ v => v = .int .i64 (Mx.cmp x y))),
   (66, (fun _ v => v = .bool false)),
   (67, (fun _ v => v = .bool false)),
   (68, (fun w v => IsN w v (x) (12))),
   (69, (fun _ v => v = .int .i64 ((Mx.bits x : Nat) : Int))),
   (70, (fun w v => IsN w v (y) (12))),
   (71, (fun _ v => v = .int .i64 ((Mx.bits y : Nat) : Int))),
   (72, (fun _ v => v = .bool true)),
   (73, (fun _ v => v = .bool true)),
   (74, (fun _ v => v = .bool true)),
   (4, (fun _ v => v = .bool true))]
theorem bitsTFStable (x y : Nat) : AllStable (bitsTFFacts x y) := ⟨st_eq _, st_eq _, st_eq _, st_N _ _, st_eq _, st_N _ _, st_eq _, st_eq _, st_eq _, st_eq _, st_eq _, st_eq _, st_eq _, st_eq _, st_eq _, st_eq _, st_eq _, st_eq _, st_eq _, st_eq _, st_eq _, st_N _ _, st_N _ _, st_N _ _, st_eq _, st_N _ _, st_eq _, st_eq _, st_eq _, st_eq _, st_eq _, st_N _ _, st_N _ _, st_eq _, st_eq _, st_eq _, st_N _ _, st_eq _, st_N _ _, st_eq _, st_eq _, st_eq _, st_eq _, st_eq _, trivial⟩

set_option maxRecDepth 100000 in
set_option maxHeartbeats 4000000 in
theorem bitsTF_region {Q : Exit → Act → World → Prop} {a0 : Act} {w0 : World} (x y : Nat) (hn : a0.tmps.size = 75)
   {b5 : Addr} {A5 : Option Addr} {L5 C5 : Nat} (p5 : a0.tmps.getD 5 undef = .pointer (some b5)) (c5 : w0.cell? b5 = some (.slice A5 L5 C5)) (n5 : IsN w0 (.agg #[.slice A5 L5 C5]) (x) 12)
   {b6 : Addr} {A6 : Option Addr} {L6 C6 : Nat} (p6 : a0.tmps.getD 6 undef = .pointer (some b6)) (c6 : w0.cell? b6 = some (.slice A6 L6 C6)) (n6 : IsN w0 (.agg #[.slice A6 L6 C6]) (y) 12)
   (v7 : a0.tmps.getD 7 undef = .int .i64 ((Mx.bits (x * y) : Nat) : Int)) (hx0 : x ≠ 0) (h1 : Mx.bits x ≤ 768) (h2 : Mx.bits y ≤ 768) (hA : (((Mx.bits (x * y) : Nat) : Int) == ((Mx.bits x : Nat) : Int) + ((Mx.bits y : Nat) : Int)) = true) (hC : decide ((0 : Int) < Mx.cmp x y) = false) (hD : decide (((Mx.bits x : Nat) : Int) ≤ ((Mx.bits y : Nat) : Int)) = true)
    (fin : ∀ a w, Grow w0 w → Agree (regionOps Try.f7 5) a0 a → a.tmps.getD 4 undef = .bool true → Q .normal a w) : (Code.region 5 (regionOps Try.f7 5) true).wp Try.prog Q a0 w0 := by
  have ext7 : ∀ {u : Value} {w : World}, u = a0.tmps.getD 7 undef → Grow w0 w → u = .int .i64 ((Mx.bits (x * y) : Nat) : Int) := fun h _ => h.trans v7
  refine region (n := 75) (F := look (bitsTFFacts x y)) (by kernel_rfl) hn (by kernel_rfl) (look_stable _ (bitsTFStable x y)) (fun i hi => all_from 44 0 ?_ i (Nat.zero_le _) (Nat.lt_of_lt_of_eq hi (by kernel_rfl)))
    fun a w hg ha h => fin a w hg ha ?_
  · exact ⟨
    stepN (i := 0) (by kernel_rfl) (callWakes (d := 32) (ts := #[]) (fun _ _ h => h)),
    stepN (i := 1) (by kernel_rfl) (move (d := 33) (x := (.tmp 32)) fun _ _ _ _ D => D 32 (by kernel_rfl)),
    stepG (i := 2) (j := 1) (dj := 33) (b := true) (by kernel_rfl) (by kernel_rfl) (by kernel_rfl) (fun _ _ h => h) (move (d := 34) (x := (.tmp 7)) fun a w hg ha D => ext7 (ha.2.2 7 (by kernel_rfl)) hg),
    stepG (i := 3) (j := 1) (dj := 33) (b := true) (by kernel_rfl) (by kernel_rfl) (by kernel_rfl) (fun _ _ h => h) (loadNat (d := 35) (p := 5) p5 (by kernel_rfl) c5 n5 (fun _ _ h => h)),
    stepG (i := 4) (j := 1) (dj := 33) (b := true) (by kernel_rfl) (by kernel_rfl) (by kernel_rfl) (fun _ _ h => h) (callBits (d := 36) (x := 35) (n := x) (k := 12) (ts := #[24]) (by kernel_rfl) (fun _ _ h => h) (by omega) (fun _ _ h => h)),
    stepG (i := 5) (j := 1) (dj := 33) (b := true) (by kernel_rfl) (by kernel_rfl) (by kernel_rfl) (fun _ _ h => h) (loadNat (d := 37) (p := 6) p6 (by kernel_rfl) c6 n6 (fun _ _ h => h)),
    stepG (i := 6) (j := 1) (dj := 33) (b := true) (by kernel_rfl) (by kernel_rfl) (by kernel_rfl) (fun _ _ h => h) (callBits (d := 38) (x := 37) (n := y) (k := 12) (ts := #[24]) (by kernel_rfl) (fun _ _ h => h) (by omega) (fun _ _ h => h)),
    stepG (i := 7) (j := 1) (dj := 33) (b := true) (by kernel_rfl) (by kernel_rfl) (by kernel_rfl) (fun _ _ h => h) (addII (d := 39) (x := 36) (y := 38) (m := ((Mx.bits x : Nat) : Int)) (c := ((Mx.bits y : Nat) : Int)) (r := ((Mx.bits x : Nat) : Int) + ((Mx.bits y : Nat) : Int)) (by kernel_rfl) (by kernel_rfl) (fun _ _ h => h) (fun _ _ h => h) (IntWalk.i64_in _ (by omega)) (fun _ _ h => h)),
    stepG (i := 8) (j := 1) (dj := 33) (b := true) (by kernel_rfl) (by kernel_rfl) (by kernel_rfl) (fun _ _ h => h) (eqlII (d := 40) (x := 34) (y := 39) (m := ((Mx.bits (x * y) : Nat) : Int)) (c := (((Mx.bits x : Nat) : Int) + ((Mx.bits y : Nat) : Int))) (b := true) (by kernel_rfl) (by kernel_rfl) (fun _ _ h => h) (fun _ _ h => h) (hA) (fun _ _ h => h)),
    stepG (i := 9) (j := 1) (dj := 33) (b := true) (by kernel_rfl) (by kernel_rfl) (by kernel_rfl) (fun _ _ h => h) (move (d := 41) (x := (.tmp 40)) fun _ _ _ _ D => D 40 (by kernel_rfl)),
    stepS (i := 10) (j := 9) (dj := 41) (b := false) (c := true) (dst := some 42) (op := (.move (.tmp 7))) (by kernel_rfl) (by kernel_rfl) (by kernel_rfl) (fun _ _ h => h) rfl (fun d hd w => by cases hd; exact rfl),
    stepS (i := 11) (j := 9) (dj := 41) (b := false) (c := true) (dst := some 43) (op := (.load 24 (.tmp 5))) (by kernel_rfl) (by kernel_rfl) (by kernel_rfl) (fun _ _ h => h) rfl (fun d hd w => by cases hd; exact rfl),
    stepS (i := 12) (j := 9) (dj := 41) (b := false) (c := true) (dst := some 44) (op := (.call { callee := .value (.func 24), args := #[(.tmp 43)], argTypes := #[24] })) (by kernel_rfl) (by kernel_rfl) (by kernel_rfl) (fun _ _ h => h) rfl (fun d hd w => by cases hd; exact rfl),
    stepS (i := 13) (j := 9) (dj := 41) (b := false) (c := true) (dst := some 45) (op := (.load 24 (.tmp 6))) (by kernel_rfl) (by kernel_rfl) (by kernel_rfl) (fun _ _ h => h) rfl (fun d hd w => by cases hd; exact rfl),
    stepS (i := 14) (j := 9) (dj := 41) (b := false) (c := true) (dst := some 46) (op := (.call { callee := .value (.func 24), args := #[(.tmp 45)], argTypes := #[24] })) (by kernel_rfl) (by kernel_rfl) (by kernel_rfl) (fun _ _ h => h) rfl (fun d hd w => by cases hd; exact rfl),
    stepS (i := 15) (j := 9) (dj := 41) (b := false) (c := true) (dst := some 47) (op := (.binOp .add 3 (.tmp 44) (.tmp 46) 3)) (by kernel_rfl) (by kernel_rfl) (by kernel_rfl) (fun _ _ h => h) rfl (fun d hd w => by cases hd; exact rfl),
    stepS (i := 16) (j := 9) (dj := 41) (b := false) (c := true) (dst := some 48) (op := (.binOp .sub 3 (.tmp 47) (.const (.int .i64 1)) 3)) (by kernel_rfl) (by kernel_rfl) (by kernel_rfl) (fun _ _ h => h) rfl (fun d hd w => by cases hd; exact rfl),
    stepS (i := 17) (j := 9) (dj := 41) (b := false) (c := true) (dst := some 49) (op := (.binOp .eql 3 (.tmp 42) (.tmp 48) 3)) (by kernel_rfl) (by kernel_rfl) (by kernel_rfl) (fun _ _ h => h) rfl (fun d hd w => by cases hd; exact rfl),
    stepG (i := 18) (j := 1) (dj := 33) (b := true) (by kernel_rfl) (by kernel_rfl) (by kernel_rfl) (fun _ _ h => h) (pickT (d := 50) (c := 41) (x := (.const (.bool true))) (y := (.tmp 49)) (by kernel_rfl) (fun _ _ h => h) fun _ _ _ _ _ => rfl),
    stepN (i := 19) (by kernel_rfl) (pickT (d := 51) (c := 33) (x := (.tmp 50)) (y := (.const (.bool false))) (by kernel_rfl) (fun _ _ h => h) fun _ _ _ _ D => D 50 (by kernel_rfl)),
    stepN (i := 20) (by kernel_rfl) (move (d := 52) (x := (.tmp 51)) fun _ _ _ _ D => D 51 (by kernel_rfl)),
    stepG (i := 21) (j := 20) (dj := 52) (b := true) (by kernel_rfl) (by kernel_rfl) (by kernel_rfl) (fun _ _ h => h) (loadNat (d := 53) (p := 5) p5 (by kernel_rfl) c5 n5 (fun _ _ h => h)),
    stepG (i := 22) (j := 20) (dj := 52) (b := true) (by kernel_rfl) (by kernel_rfl) (by kernel_rfl) (fun _ _ h => h) (loadNat (d := 54) (p := 5) p5 (by kernel_rfl) c5 n5 (fun _ _ h => h)),
    stepG (i := 23) (j := 20) (dj := 52) (b := true) (by kernel_rfl) (by kernel_rfl) (by kernel_rfl) (fun _ _ h => h) (callAdd (d := 55) (x := 53) (y := 54) (n := x) (m := x) (k := 12) (j := 12) (ts := #[24, 24]) (by kernel_rfl) (by kernel_rfl) (fun _ _ h => h) (fun _ _ h => h) (by omega) (by omega) (fun _ _ h => h)),
    stepG (i := 24) (j := 20) (dj := 52) (b := true) (by kernel_rfl) (by kernel_rfl) (by kernel_rfl) (fun _ _ h => h) (callBits (d := 56) (x := 55) (n := (x + x)) (k := (max 12 12 + 1)) (ts := #[24]) (by kernel_rfl) (fun _ _ h => h) (by omega) (fun _ _ h => h)),
    stepG (i := 25) (j := 20) (dj := 52) (b := true) (by kernel_rfl) (by kernel_rfl) (by kernel_rfl) (fun _ _ h => h) (loadNat (d := 57) (p := 5) p5 (by kernel_rfl) c5 n5 (fun _ _ h => h)),
    stepG (i := 26) (j := 20) (dj := 52) (b := true) (by kernel_rfl) (by kernel_rfl) (by kernel_rfl) (fun _ _ h => h) (callBits (d := 58) (x := 57) (n := x) (k := 12) (ts := #[24]) (by kernel_rfl) (fun _ _ h => h) (by omega) (fun _ _ h => h)),
    stepG (i := 27) (j := 20) (dj := 52) (b := true) (by kernel_rfl) (by kernel_rfl) (by kernel_rfl) (fun _ _ h => h) (addI (d := 59) (x := 58) (m := ((Mx.bits x : Nat) : Int)) (c := 1) (r := ((Mx.bits x : Nat) : Int) + 1) (by kernel_rfl) (fun _ _ h => h) (IntWalk.i64_in _ (by omega)) (fun _ _ h => h)),
    stepG (i := 28) (j := 20) (dj := 52) (b := true) (by kernel_rfl) (by kernel_rfl) (by kernel_rfl) (fun _ _ h => h) (eqlII (d := 60) (x := 56) (y := 59) (m := ((Mx.bits ((x + x)) : Nat) : Int)) (c := (((Mx.bits x : Nat) : Int) + 1)) (b := true) (by kernel_rfl) (by kernel_rfl) (fun _ _ h => h) (fun _ _ h => h) (by rw [Mx.bits_double hx0]; simp) (fun _ _ h => h)),
    stepN (i := 29) (by kernel_rfl) (pickT (d := 61) (c := 52) (x := (.tmp 60)) (y := (.const (.bool false))) (by kernel_rfl) (fun _ _ h => h) fun _ _ _ _ D => D 60 (by kernel_rfl)),
    stepN (i := 30) (by kernel_rfl) (move (d := 62) (x := (.tmp 61)) fun _ _ _ _ D => D 61 (by kernel_rfl)),
    stepG (i := 31) (j := 30) (dj := 62) (b := true) (by kernel_rfl) (by kernel_rfl) (by kernel_rfl) (fun _ _ h => h) (loadNat (d := 63) (p := 5) p5 (by kernel_rfl) c5 n5 (fun _ _ h => h)),
    stepG (i := 32) (j := 30) (dj := 62) (b := true) (by kernel_rfl) (by kernel_rfl) (by kernel_rfl) (fun _ _ h => h) (loadNat (d := 64) (p := 6) p6 (by kernel_rfl) c6 n6 (fun _ _ h => h)),
    stepG (i := 33) (j := 30) (dj := 62) (b := true) (by kernel_rfl) (by kernel_rfl) (by kernel_rfl) (fun _ _ h => h) (callCmp (d := 65) (x := 63) (y := 64) (n := x) (m := y) (k := 12) (j := 12) (ts := #[24, 24]) (by kernel_rfl) (by kernel_rfl) (fun _ _ h => h) (fun _ _ h => h) (by omega) (fun _ _ h => h)),
    stepG (i := 34) (j := 30) (dj := 62) (b := true) (by kernel_rfl) (by kernel_rfl) (by kernel_rfl) (fun _ _ h => h) (gtrI (d := 66) (x := 65) (m := (Mx.cmp x y)) (c := 0) (b := false) (by kernel_rfl) (fun _ _ h => h) (hC) (fun _ _ h => h)),
    stepG (i := 35) (j := 30) (dj := 62) (b := true) (by kernel_rfl) (by kernel_rfl) (by kernel_rfl) (fun _ _ h => h) (move (d := 67) (x := (.tmp 66)) fun _ _ _ _ D => D 66 (by kernel_rfl)),
    stepG (i := 36) (j := 35) (dj := 67) (b := false) (by kernel_rfl) (by kernel_rfl) (by kernel_rfl) (fun _ _ h => h) (loadNat (d := 68) (p := 5) p5 (by kernel_rfl) c5 n5 (fun _ _ h => h)),
    stepG (i := 37) (j := 35) (dj := 67) (b := false) (by kernel_rfl) (by kernel_rfl) (by kernel_rfl) (fun _ _ h => h) (callBits (d := 69) (x := 68) (n := x) (k := 12) (ts := #[24]) (by kernel_rfl) (fun _ _ h => h) (by omega) (fun _ _ h => h)),
    stepG (i := 38) (j := 35) (dj := 67) (b := false) (by kernel_rfl) (by kernel_rfl) (by kernel_rfl) (fun _ _ h => h) (loadNat (d := 70) (p := 6) p6 (by kernel_rfl) c6 n6 (fun _ _ h => h)),
    stepG (i := 39) (j := 35) (dj := 67) (b := false) (by kernel_rfl) (by kernel_rfl) (by kernel_rfl) (fun _ _ h => h) (callBits (d := 71) (x := 70) (n := y) (k := 12) (ts := #[24]) (by kernel_rfl) (fun _ _ h => h) (by omega) (fun _ _ h => h)),
    stepG (i := 40) (j := 35) (dj := 67) (b := false) (by kernel_rfl) (by kernel_rfl) (by kernel_rfl) (fun _ _ h => h) (leqII (d := 72) (x := 69) (y := 71) (m := ((Mx.bits x : Nat) : Int)) (c := ((Mx.bits y : Nat) : Int)) (b := true) (by kernel_rfl) (by kernel_rfl) (fun _ _ h => h) (fun _ _ h => h) (hD) (fun _ _ h => h)),
    stepG (i := 41) (j := 30) (dj := 62) (b := true) (by kernel_rfl) (by kernel_rfl) (by kernel_rfl) (fun _ _ h => h) (pickF (d := 73) (c := 67) (x := (.const (.bool true))) (y := (.tmp 72)) (by kernel_rfl) (fun _ _ h => h) fun _ _ _ _ D => D 72 (by kernel_rfl)),
    stepN (i := 42) (by kernel_rfl) (pickT (d := 74) (c := 62) (x := (.tmp 73)) (y := (.const (.bool false))) (by kernel_rfl) (fun _ _ h => h) fun _ _ _ _ D => D 73 (by kernel_rfl)),
    stepN (i := 43) (by kernel_rfl) (assign (d := 4) (x := (.tmp 74)) fun _ _ _ _ D => D 74 (by kernel_rfl)), trivial⟩
  · have e : look (bitsTFFacts x y) 4 w (a.tmps.getD 4 undef) := h 4 (by kernel_rfl)
    exact e

/-- What each operation of the region yields. -/
def bitsFTFacts (x y : Nat) : List (Nat × (World → Value → Prop)) :=
  [(32, (fun _ v => v = .bool true)),
   (33, (fun _ v => v = .bool true)),
   (34, (fun _ v => v = .int .i64 ((Mx.bits (x * y) : Nat) : Int))),
   (35, (fun w v => IsN w v (x) (12))),
   (36, (fun _ v => v = .int .i64 ((Mx.bits x : Nat) : Int))),
   (37, (fun w v => IsN w v (y) (12))),
   (38, (fun _ v => v = .int .i64 ((Mx.bits y : Nat) : Int))),
   (39, (fun _ v => v = .int .i64 (((Mx.bits x : Nat) : Int) + ((Mx.bits y : Nat) : Int)))),
   (40, (fun _ v => v = .bool false)),
   (41, (fun _ v => v = .bool false)),
   (42, (fun _ v => v = .int .i64 ((Mx.bits (x * y) : Nat) : Int))),
   (43, (fun w v => IsN w v (x) (12))),
   (44, (fun _ v => v = .int .i64 ((Mx.bits x : Nat) : Int))),
   (45, (fun w v => IsN w v (y) (12))),
   (46, (fun _ v => v = .int .i64 ((Mx.bits y : Nat) : Int))),
   (47, (fun _ v => v = .int .i64 (((Mx.bits x : Nat) : Int) + ((Mx.bits y : Nat) : Int)))),
   (48, (fun _ v => v = .int .i64 (((Mx.bits x : Nat) : Int) + ((Mx.bits y : Nat) : Int) - 1))),
   (49, (fun _ v => v = .bool true)),
   (50, (fun _ v => v = .bool true)),
   (51, (fun _ v => v = .bool true)),
   (52, (fun _ v => v = .bool true)),
   (53, (fun w v => IsN w v (x) (12))),
   (54, (fun w v => IsN w v (x) (12))),
   (55, (fun w v => IsN w v ((x + x)) ((max 12 12 + 1)))),
   (56, (fun _ v => v = .int .i64 ((Mx.bits ((x + x)) : Nat) : Int))),
   (57, (fun w v => IsN w v (x) (12))),
   (58, (fun _ v => v = .int .i64 ((Mx.bits x : Nat) : Int))),
   (59, (fun _ v => v = .int .i64 (((Mx.bits x : Nat) : Int) + 1))),
   (60, (fun _ v => v = .bool true)),
   (61, (fun _ v => v = .bool true)),
   (62, (fun _ v => v = .bool true)),
   (63, (fun w v => IsN w v (x) (12))),
   (64, (fun w v => IsN w v (y) (12))),
   (65, (fun _ v => v = .int .i64 (Mx.cmp x y))),
   (66, (fun _ v => v = .bool true)),
   (67, (fun _ v => v = .bool true)),
   (68, (fun _ v => v = undef)),
   (69, (fun _ v => v = undef)),
   (70, (fun _ v => v = undef)),
   (71, (fun _ v => v = undef)),
   (72, (fun _ v => v = undef)),
   (73, (fun _ v => v = .bool true)),
   (74, (fun _ v => v = .bool true)),
   (4, (fun _ v => v = .bool true))]
theorem bitsFTStable (x y : Nat) : AllStable (bitsFTFacts x y) := ⟨st_eq _, st_eq _, st_eq _, st_N _ _, st_eq _, st_N _ _, st_eq _, st_eq _, st_eq _, st_eq _, st_eq _, st_N _ _, st_eq _, st_N _ _, st_eq _, st_eq _, st_eq _, st_eq _, st_eq _, st_eq _, st_eq _, st_N _ _, st_N _ _, st_N _ _, st_eq _, st_N _ _, st_eq _, st_eq _, st_eq _, st_eq _, st_eq _, st_N _ _, st_N _ _, st_eq _, st_eq _, st_eq _, st_eq _, st_eq _, st_eq _, st_eq _, st_eq _, st_eq _, st_eq _, st_eq _, trivial⟩

set_option maxRecDepth 100000 in
set_option maxHeartbeats 4000000 in
theorem bitsFT_region {Q : Exit → Act → World → Prop} {a0 : Act} {w0 : World} (x y : Nat) (hn : a0.tmps.size = 75)
   {b5 : Addr} {A5 : Option Addr} {L5 C5 : Nat} (p5 : a0.tmps.getD 5 undef = .pointer (some b5)) (c5 : w0.cell? b5 = some (.slice A5 L5 C5)) (n5 : IsN w0 (.agg #[.slice A5 L5 C5]) (x) 12)
   {b6 : Addr} {A6 : Option Addr} {L6 C6 : Nat} (p6 : a0.tmps.getD 6 undef = .pointer (some b6)) (c6 : w0.cell? b6 = some (.slice A6 L6 C6)) (n6 : IsN w0 (.agg #[.slice A6 L6 C6]) (y) 12)
   (v7 : a0.tmps.getD 7 undef = .int .i64 ((Mx.bits (x * y) : Nat) : Int)) (hx0 : x ≠ 0) (h1 : Mx.bits x ≤ 768) (h2 : Mx.bits y ≤ 768) (hA : (((Mx.bits (x * y) : Nat) : Int) == ((Mx.bits x : Nat) : Int) + ((Mx.bits y : Nat) : Int)) = false) (hB : (((Mx.bits (x * y) : Nat) : Int) == ((Mx.bits x : Nat) : Int) + ((Mx.bits y : Nat) : Int) - 1) = true) (hC : decide ((0 : Int) < Mx.cmp x y) = true)
    (fin : ∀ a w, Grow w0 w → Agree (regionOps Try.f7 5) a0 a → a.tmps.getD 4 undef = .bool true → Q .normal a w) : (Code.region 5 (regionOps Try.f7 5) true).wp Try.prog Q a0 w0 := by
  have ext7 : ∀ {u : Value} {w : World}, u = a0.tmps.getD 7 undef → Grow w0 w → u = .int .i64 ((Mx.bits (x * y) : Nat) : Int) := fun h _ => h.trans v7
  refine region (n := 75) (F := look (bitsFTFacts x y)) (by kernel_rfl) hn (by kernel_rfl) (look_stable _ (bitsFTStable x y)) (fun i hi => all_from 44 0 ?_ i (Nat.zero_le _) (Nat.lt_of_lt_of_eq hi (by kernel_rfl)))
    fun a w hg ha h => fin a w hg ha ?_
  · exact ⟨
    stepN (i := 0) (by kernel_rfl) (callWakes (d := 32) (ts := #[]) (fun _ _ h => h)),
    stepN (i := 1) (by kernel_rfl) (move (d := 33) (x := (.tmp 32)) fun _ _ _ _ D => D 32 (by kernel_rfl)),
    stepG (i := 2) (j := 1) (dj := 33) (b := true) (by kernel_rfl) (by kernel_rfl) (by kernel_rfl) (fun _ _ h => h) (move (d := 34) (x := (.tmp 7)) fun a w hg ha D => ext7 (ha.2.2 7 (by kernel_rfl)) hg),
    stepG (i := 3) (j := 1) (dj := 33) (b := true) (by kernel_rfl) (by kernel_rfl) (by kernel_rfl) (fun _ _ h => h) (loadNat (d := 35) (p := 5) p5 (by kernel_rfl) c5 n5 (fun _ _ h => h)),
    stepG (i := 4) (j := 1) (dj := 33) (b := true) (by kernel_rfl) (by kernel_rfl) (by kernel_rfl) (fun _ _ h => h) (callBits (d := 36) (x := 35) (n := x) (k := 12) (ts := #[24]) (by kernel_rfl) (fun _ _ h => h) (by omega) (fun _ _ h => h)),
    stepG (i := 5) (j := 1) (dj := 33) (b := true) (by kernel_rfl) (by kernel_rfl) (by kernel_rfl) (fun _ _ h => h) (loadNat (d := 37) (p := 6) p6 (by kernel_rfl) c6 n6 (fun _ _ h => h)),
    stepG (i := 6) (j := 1) (dj := 33) (b := true) (by kernel_rfl) (by kernel_rfl) (by kernel_rfl) (fun _ _ h => h) (callBits (d := 38) (x := 37) (n := y) (k := 12) (ts := #[24]) (by kernel_rfl) (fun _ _ h => h) (by omega) (fun _ _ h => h)),
    stepG (i := 7) (j := 1) (dj := 33) (b := true) (by kernel_rfl) (by kernel_rfl) (by kernel_rfl) (fun _ _ h => h) (addII (d := 39) (x := 36) (y := 38) (m := ((Mx.bits x : Nat) : Int)) (c := ((Mx.bits y : Nat) : Int)) (r := ((Mx.bits x : Nat) : Int) + ((Mx.bits y : Nat) : Int)) (by kernel_rfl) (by kernel_rfl) (fun _ _ h => h) (fun _ _ h => h) (IntWalk.i64_in _ (by omega)) (fun _ _ h => h)),
    stepG (i := 8) (j := 1) (dj := 33) (b := true) (by kernel_rfl) (by kernel_rfl) (by kernel_rfl) (fun _ _ h => h) (eqlII (d := 40) (x := 34) (y := 39) (m := ((Mx.bits (x * y) : Nat) : Int)) (c := (((Mx.bits x : Nat) : Int) + ((Mx.bits y : Nat) : Int))) (b := false) (by kernel_rfl) (by kernel_rfl) (fun _ _ h => h) (fun _ _ h => h) (hA) (fun _ _ h => h)),
    stepG (i := 9) (j := 1) (dj := 33) (b := true) (by kernel_rfl) (by kernel_rfl) (by kernel_rfl) (fun _ _ h => h) (move (d := 41) (x := (.tmp 40)) fun _ _ _ _ D => D 40 (by kernel_rfl)),
    stepG (i := 10) (j := 9) (dj := 41) (b := false) (by kernel_rfl) (by kernel_rfl) (by kernel_rfl) (fun _ _ h => h) (move (d := 42) (x := (.tmp 7)) fun a w hg ha D => ext7 (ha.2.2 7 (by kernel_rfl)) hg),
    stepG (i := 11) (j := 9) (dj := 41) (b := false) (by kernel_rfl) (by kernel_rfl) (by kernel_rfl) (fun _ _ h => h) (loadNat (d := 43) (p := 5) p5 (by kernel_rfl) c5 n5 (fun _ _ h => h)),
    stepG (i := 12) (j := 9) (dj := 41) (b := false) (by kernel_rfl) (by kernel_rfl) (by kernel_rfl) (fun _ _ h => h) (callBits (d := 44) (x := 43) (n := x) (k := 12) (ts := #[24]) (by kernel_rfl) (fun _ _ h => h) (by omega) (fun _ _ h => h)),
    stepG (i := 13) (j := 9) (dj := 41) (b := false) (by kernel_rfl) (by kernel_rfl) (by kernel_rfl) (fun _ _ h => h) (loadNat (d := 45) (p := 6) p6 (by kernel_rfl) c6 n6 (fun _ _ h => h)),
    stepG (i := 14) (j := 9) (dj := 41) (b := false) (by kernel_rfl) (by kernel_rfl) (by kernel_rfl) (fun _ _ h => h) (callBits (d := 46) (x := 45) (n := y) (k := 12) (ts := #[24]) (by kernel_rfl) (fun _ _ h => h) (by omega) (fun _ _ h => h)),
    stepG (i := 15) (j := 9) (dj := 41) (b := false) (by kernel_rfl) (by kernel_rfl) (by kernel_rfl) (fun _ _ h => h) (addII (d := 47) (x := 44) (y := 46) (m := ((Mx.bits x : Nat) : Int)) (c := ((Mx.bits y : Nat) : Int)) (r := ((Mx.bits x : Nat) : Int) + ((Mx.bits y : Nat) : Int)) (by kernel_rfl) (by kernel_rfl) (fun _ _ h => h) (fun _ _ h => h) (IntWalk.i64_in _ (by omega)) (fun _ _ h => h)),
    stepG (i := 16) (j := 9) (dj := 41) (b := false) (by kernel_rfl) (by kernel_rfl) (by kernel_rfl) (fun _ _ h => h) (subI (d := 48) (x := 47) (m := (((Mx.bits x : Nat) : Int) + ((Mx.bits y : Nat) : Int))) (c := 1) (r := ((Mx.bits x : Nat) : Int) + ((Mx.bits y : Nat) : Int) - 1) (by kernel_rfl) (fun _ _ h => h) (IntWalk.i64_in _ (by omega)) (fun _ _ h => h)),
    stepG (i := 17) (j := 9) (dj := 41) (b := false) (by kernel_rfl) (by kernel_rfl) (by kernel_rfl) (fun _ _ h => h) (eqlII (d := 49) (x := 42) (y := 48) (m := ((Mx.bits (x * y) : Nat) : Int)) (c := (((Mx.bits x : Nat) : Int) + ((Mx.bits y : Nat) : Int) - 1)) (b := true) (by kernel_rfl) (by kernel_rfl) (fun _ _ h => h) (fun _ _ h => h) (hB) (fun _ _ h => h)),
    stepG (i := 18) (j := 1) (dj := 33) (b := true) (by kernel_rfl) (by kernel_rfl) (by kernel_rfl) (fun _ _ h => h) (pickF (d := 50) (c := 41) (x := (.const (.bool true))) (y := (.tmp 49)) (by kernel_rfl) (fun _ _ h => h) fun _ _ _ _ D => D 49 (by kernel_rfl)),
    stepN (i := 19) (by kernel_rfl) (pickT (d := 51) (c := 33) (x := (.tmp 50)) (y := (.const (.bool false))) (by kernel_rfl) (fun _ _ h => h) fun _ _ _ _ D => D 50 (by kernel_rfl)),
    stepN (i := 20) (by kernel_rfl) (move (d := 52) (x := (.tmp 51)) fun _ _ _ _ D => D 51 (by kernel_rfl)),
    stepG (i := 21) (j := 20) (dj := 52) (b := true) (by kernel_rfl) (by kernel_rfl) (by kernel_rfl) (fun _ _ h => h) (loadNat (d := 53) (p := 5) p5 (by kernel_rfl) c5 n5 (fun _ _ h => h)),
    stepG (i := 22) (j := 20) (dj := 52) (b := true) (by kernel_rfl) (by kernel_rfl) (by kernel_rfl) (fun _ _ h => h) (loadNat (d := 54) (p := 5) p5 (by kernel_rfl) c5 n5 (fun _ _ h => h)),
    stepG (i := 23) (j := 20) (dj := 52) (b := true) (by kernel_rfl) (by kernel_rfl) (by kernel_rfl) (fun _ _ h => h) (callAdd (d := 55) (x := 53) (y := 54) (n := x) (m := x) (k := 12) (j := 12) (ts := #[24, 24]) (by kernel_rfl) (by kernel_rfl) (fun _ _ h => h) (fun _ _ h => h) (by omega) (by omega) (fun _ _ h => h)),
    stepG (i := 24) (j := 20) (dj := 52) (b := true) (by kernel_rfl) (by kernel_rfl) (by kernel_rfl) (fun _ _ h => h) (callBits (d := 56) (x := 55) (n := (x + x)) (k := (max 12 12 + 1)) (ts := #[24]) (by kernel_rfl) (fun _ _ h => h) (by omega) (fun _ _ h => h)),
    stepG (i := 25) (j := 20) (dj := 52) (b := true) (by kernel_rfl) (by kernel_rfl) (by kernel_rfl) (fun _ _ h => h) (loadNat (d := 57) (p := 5) p5 (by kernel_rfl) c5 n5 (fun _ _ h => h)),
    stepG (i := 26) (j := 20) (dj := 52) (b := true) (by kernel_rfl) (by kernel_rfl) (by kernel_rfl) (fun _ _ h => h) (callBits (d := 58) (x := 57) (n := x) (k := 12) (ts := #[24]) (by kernel_rfl) (fun _ _ h => h) (by omega) (fun _ _ h => h)),
    stepG (i := 27) (j := 20) (dj := 52) (b := true) (by kernel_rfl) (by kernel_rfl) (by kernel_rfl) (fun _ _ h => h) (addI (d := 59) (x := 58) (m := ((Mx.bits x : Nat) : Int)) (c := 1) (r := ((Mx.bits x : Nat) : Int) + 1) (by kernel_rfl) (fun _ _ h => h) (IntWalk.i64_in _ (by omega)) (fun _ _ h => h)),
    stepG (i := 28) (j := 20) (dj := 52) (b := true) (by kernel_rfl) (by kernel_rfl) (by kernel_rfl) (fun _ _ h => h) (eqlII (d := 60) (x := 56) (y := 59) (m := ((Mx.bits ((x + x)) : Nat) : Int)) (c := (((Mx.bits x : Nat) : Int) + 1)) (b := true) (by kernel_rfl) (by kernel_rfl) (fun _ _ h => h) (fun _ _ h => h) (by rw [Mx.bits_double hx0]; simp) (fun _ _ h => h)),
    stepN (i := 29) (by kernel_rfl) (pickT (d := 61) (c := 52) (x := (.tmp 60)) (y := (.const (.bool false))) (by kernel_rfl) (fun _ _ h => h) fun _ _ _ _ D => D 60 (by kernel_rfl)),
    stepN (i := 30) (by kernel_rfl) (move (d := 62) (x := (.tmp 61)) fun _ _ _ _ D => D 61 (by kernel_rfl)),
    stepG (i := 31) (j := 30) (dj := 62) (b := true) (by kernel_rfl) (by kernel_rfl) (by kernel_rfl) (fun _ _ h => h) (loadNat (d := 63) (p := 5) p5 (by kernel_rfl) c5 n5 (fun _ _ h => h)),
    stepG (i := 32) (j := 30) (dj := 62) (b := true) (by kernel_rfl) (by kernel_rfl) (by kernel_rfl) (fun _ _ h => h) (loadNat (d := 64) (p := 6) p6 (by kernel_rfl) c6 n6 (fun _ _ h => h)),
    stepG (i := 33) (j := 30) (dj := 62) (b := true) (by kernel_rfl) (by kernel_rfl) (by kernel_rfl) (fun _ _ h => h) (callCmp (d := 65) (x := 63) (y := 64) (n := x) (m := y) (k := 12) (j := 12) (ts := #[24, 24]) (by kernel_rfl) (by kernel_rfl) (fun _ _ h => h) (fun _ _ h => h) (by omega) (fun _ _ h => h)),
    stepG (i := 34) (j := 30) (dj := 62) (b := true) (by kernel_rfl) (by kernel_rfl) (by kernel_rfl) (fun _ _ h => h) (gtrI (d := 66) (x := 65) (m := (Mx.cmp x y)) (c := 0) (b := true) (by kernel_rfl) (fun _ _ h => h) (hC) (fun _ _ h => h)),
    stepG (i := 35) (j := 30) (dj := 62) (b := true) (by kernel_rfl) (by kernel_rfl) (by kernel_rfl) (fun _ _ h => h) (move (d := 67) (x := (.tmp 66)) fun _ _ _ _ D => D 66 (by kernel_rfl)),
    stepS (i := 36) (j := 35) (dj := 67) (b := false) (c := true) (dst := some 68) (op := (.load 24 (.tmp 5))) (by kernel_rfl) (by kernel_rfl) (by kernel_rfl) (fun _ _ h => h) rfl (fun d hd w => by cases hd; exact rfl),
    stepS (i := 37) (j := 35) (dj := 67) (b := false) (c := true) (dst := some 69) (op := (.call { callee := .value (.func 24), args := #[(.tmp 68)], argTypes := #[24] })) (by kernel_rfl) (by kernel_rfl) (by kernel_rfl) (fun _ _ h => h) rfl (fun d hd w => by cases hd; exact rfl),
    stepS (i := 38) (j := 35) (dj := 67) (b := false) (c := true) (dst := some 70) (op := (.load 24 (.tmp 6))) (by kernel_rfl) (by kernel_rfl) (by kernel_rfl) (fun _ _ h => h) rfl (fun d hd w => by cases hd; exact rfl),
    stepS (i := 39) (j := 35) (dj := 67) (b := false) (c := true) (dst := some 71) (op := (.call { callee := .value (.func 24), args := #[(.tmp 70)], argTypes := #[24] })) (by kernel_rfl) (by kernel_rfl) (by kernel_rfl) (fun _ _ h => h) rfl (fun d hd w => by cases hd; exact rfl),
    stepS (i := 40) (j := 35) (dj := 67) (b := false) (c := true) (dst := some 72) (op := (.binOp .leq 3 (.tmp 69) (.tmp 71) 3)) (by kernel_rfl) (by kernel_rfl) (by kernel_rfl) (fun _ _ h => h) rfl (fun d hd w => by cases hd; exact rfl),
    stepG (i := 41) (j := 30) (dj := 62) (b := true) (by kernel_rfl) (by kernel_rfl) (by kernel_rfl) (fun _ _ h => h) (pickT (d := 73) (c := 67) (x := (.const (.bool true))) (y := (.tmp 72)) (by kernel_rfl) (fun _ _ h => h) fun _ _ _ _ _ => rfl),
    stepN (i := 42) (by kernel_rfl) (pickT (d := 74) (c := 62) (x := (.tmp 73)) (y := (.const (.bool false))) (by kernel_rfl) (fun _ _ h => h) fun _ _ _ _ D => D 73 (by kernel_rfl)),
    stepN (i := 43) (by kernel_rfl) (assign (d := 4) (x := (.tmp 74)) fun _ _ _ _ D => D 74 (by kernel_rfl)), trivial⟩
  · have e : look (bitsFTFacts x y) 4 w (a.tmps.getD 4 undef) := h 4 (by kernel_rfl)
    exact e

/-- What each operation of the region yields. -/
def bitsFFFacts (x y : Nat) : List (Nat × (World → Value → Prop)) :=
  [(32, (fun _ v => v = .bool true)),
   (33, (fun _ v => v = .bool true)),
   (34, (fun _ v => v = .int .i64 ((Mx.bits (x * y) : Nat) : Int))),
   (35, (fun w v => IsN w v (x) (12))),
   (36, (fun _ v => v = .int .i64 ((Mx.bits x : Nat) : Int))),
   (37, (fun w v => IsN w v (y) (12))),
   (38, (fun _ v => v = .int .i64 ((Mx.bits y : Nat) : Int))),
   (39, (fun _ v => v = .int .i64 (((Mx.bits x : Nat) : Int) + ((Mx.bits y : Nat) : Int)))),
   (40, (fun _ v => v = .bool false)),
   (41, (fun _ v => v = .bool false)),
   (42, (fun _ v => v = .int .i64 ((Mx.bits (x * y) : Nat) : Int))),
   (43, (fun w v => IsN w v (x) (12))),
   (44, (fun _ v => v = .int .i64 ((Mx.bits x : Nat) : Int))),
   (45, (fun w v => IsN w v (y) (12))),
   (46, (fun _ v => v = .int .i64 ((Mx.bits y : Nat) : Int))),
   (47, (fun _ v => v = .int .i64 (((Mx.bits x : Nat) : Int) + ((Mx.bits y : Nat) : Int)))),
   (48, (fun _ v => v = .int .i64 (((Mx.bits x : Nat) : Int) + ((Mx.bits y : Nat) : Int) - 1))),
   (49, (fun _ v => v = .bool true)),
   (50, (fun _ v => v = .bool true)),
   (51, (fun _ v => v = .bool true)),
   (52, (fun _ v => v = .bool true)),
   (53, (fun w v => IsN w v (x) (12))),
   (54, (fun w v => IsN w v (x) (12))),
   (55, (fun w v => IsN w v ((x + x)) ((max 12 12 + 1)))),
   (56, (fun _ v => v = .int .i64 ((Mx.bits ((x + x)) : Nat) : Int))),
   (57, (fun w v => IsN w v (x) (12))),
   (58, (fun _ v => v = .int .i64 ((Mx.bits x : Nat) : Int))),
   (59, (fun _ v => v = .int .i64 (((Mx.bits x : Nat) : Int) + 1))),
   (60, (fun _ v => v = .bool true)),
   (61, (fun _ v => v = .bool true)),
   (62, (fun _ v => v = .bool true)),
   (63, (fun w v => IsN w v (x) (12))),
   (64, (fun w v => IsN w v (y) (12))),
   (65, (fun _ v => v = .int .i64 (Mx.cmp x y))),
   (66, (fun _ v => v = .bool false)),
   (67, (fun _ v => v = .bool false)),
   (68, (fun w v => IsN w v (x) (12))),
   (69, (fun _ v => v = .int .i64 ((Mx.bits x : Nat) : Int))),
   (70, (fun w v => IsN w v (y) (12))),
   (71, (fun _ v => v = .int .i64 ((Mx.bits y : Nat) : Int))),
   (72, (fun _ v => v = .bool true)),
   (73, (fun _ v => v = .bool true)),
   (74, (fun _ v => v = .bool true)),
   (4, (fun _ v => v = .bool true))]
theorem bitsFFStable (x y : Nat) : AllStable (bitsFFFacts x y) := ⟨st_eq _, st_eq _, st_eq _, st_N _ _, st_eq _, st_N _ _, st_eq _, st_eq _, st_eq _, st_eq _, st_eq _, st_N _ _, st_eq _, st_N _ _, st_eq _, st_eq _, st_eq _, st_eq _, st_eq _, st_eq _, st_eq _, st_N _ _, st_N _ _, st_N _ _, st_eq _, st_N _ _, st_eq _, st_eq _, st_eq _, st_eq _, st_eq _, st_N _ _, st_N _ _, st_eq _, st_eq _, st_eq _, st_N _ _, st_eq _, st_N _ _, st_eq _, st_eq _, st_eq _, st_eq _, st_eq _, trivial⟩

set_option maxRecDepth 100000 in
set_option maxHeartbeats 4000000 in
theorem bitsFF_region {Q : Exit → Act → World → Prop} {a0 : Act} {w0 : World} (x y : Nat) (hn : a0.tmps.size = 75)
   {b5 : Addr} {A5 : Option Addr} {L5 C5 : Nat} (p5 : a0.tmps.getD 5 undef = .pointer (some b5)) (c5 : w0.cell? b5 = some (.slice A5 L5 C5)) (n5 : IsN w0 (.agg #[.slice A5 L5 C5]) (x) 12)
   {b6 : Addr} {A6 : Option Addr} {L6 C6 : Nat} (p6 : a0.tmps.getD 6 undef = .pointer (some b6)) (c6 : w0.cell? b6 = some (.slice A6 L6 C6)) (n6 : IsN w0 (.agg #[.slice A6 L6 C6]) (y) 12)
   (v7 : a0.tmps.getD 7 undef = .int .i64 ((Mx.bits (x * y) : Nat) : Int)) (hx0 : x ≠ 0) (h1 : Mx.bits x ≤ 768) (h2 : Mx.bits y ≤ 768) (hA : (((Mx.bits (x * y) : Nat) : Int) == ((Mx.bits x : Nat) : Int) + ((Mx.bits y : Nat) : Int)) = false) (hB : (((Mx.bits (x * y) : Nat) : Int) == ((Mx.bits x : Nat) : Int) + ((Mx.bits y : Nat) : Int) - 1) = true) (hC : decide ((0 : Int) < Mx.cmp x y) = false) (hD : decide (((Mx.bits x : Nat) : Int) ≤ ((Mx.bits y : Nat) : Int)) = true)
    (fin : ∀ a w, Grow w0 w → Agree (regionOps Try.f7 5) a0 a → a.tmps.getD 4 undef = .bool true → Q .normal a w) : (Code.region 5 (regionOps Try.f7 5) true).wp Try.prog Q a0 w0 := by
  have ext7 : ∀ {u : Value} {w : World}, u = a0.tmps.getD 7 undef → Grow w0 w → u = .int .i64 ((Mx.bits (x * y) : Nat) : Int) := fun h _ => h.trans v7
  refine region (n := 75) (F := look (bitsFFFacts x y)) (by kernel_rfl) hn (by kernel_rfl) (look_stable _ (bitsFFStable x y)) (fun i hi => all_from 44 0 ?_ i (Nat.zero_le _) (Nat.lt_of_lt_of_eq hi (by kernel_rfl)))
    fun a w hg ha h => fin a w hg ha ?_
  · exact ⟨
    stepN (i := 0) (by kernel_rfl) (callWakes (d := 32) (ts := #[]) (fun _ _ h => h)),
    stepN (i := 1) (by kernel_rfl) (move (d := 33) (x := (.tmp 32)) fun _ _ _ _ D => D 32 (by kernel_rfl)),
    stepG (i := 2) (j := 1) (dj := 33) (b := true) (by kernel_rfl) (by kernel_rfl) (by kernel_rfl) (fun _ _ h => h) (move (d := 34) (x := (.tmp 7)) fun a w hg ha D => ext7 (ha.2.2 7 (by kernel_rfl)) hg),
    stepG (i := 3) (j := 1) (dj := 33) (b := true) (by kernel_rfl) (by kernel_rfl) (by kernel_rfl) (fun _ _ h => h) (loadNat (d := 35) (p := 5) p5 (by kernel_rfl) c5 n5 (fun _ _ h => h)),
    stepG (i := 4) (j := 1) (dj := 33) (b := true) (by kernel_rfl) (by kernel_rfl) (by kernel_rfl) (fun _ _ h => h) (callBits (d := 36) (x := 35) (n := x) (k := 12) (ts := #[24]) (by kernel_rfl) (fun _ _ h => h) (by omega) (fun _ _ h => h)),
    stepG (i := 5) (j := 1) (dj := 33) (b := true) (by kernel_rfl) (by kernel_rfl) (by kernel_rfl) (fun _ _ h => h) (loadNat (d := 37) (p := 6) p6 (by kernel_rfl) c6 n6 (fun _ _ h => h)),
    stepG (i := 6) (j := 1) (dj := 33) (b := true) (by kernel_rfl) (by kernel_rfl) (by kernel_rfl) (fun _ _ h => h) (callBits (d := 38) (x := 37) (n := y) (k := 12) (ts := #[24]) (by kernel_rfl) (fun _ _ h => h) (by omega) (fun _ _ h => h)),
    stepG (i := 7) (j := 1) (dj := 33) (b := true) (by kernel_rfl) (by kernel_rfl) (by kernel_rfl) (fun _ _ h => h) (addII (d := 39) (x := 36) (y := 38) (m := ((Mx.bits x : Nat) : Int)) (c := ((Mx.bits y : Nat) : Int)) (r := ((Mx.bits x : Nat) : Int) + ((Mx.bits y : Nat) : Int)) (by kernel_rfl) (by kernel_rfl) (fun _ _ h => h) (fun _ _ h => h) (IntWalk.i64_in _ (by omega)) (fun _ _ h => h)),
    stepG (i := 8) (j := 1) (dj := 33) (b := true) (by kernel_rfl) (by kernel_rfl) (by kernel_rfl) (fun _ _ h => h) (eqlII (d := 40) (x := 34) (y := 39) (m := ((Mx.bits (x * y) : Nat) : Int)) (c := (((Mx.bits x : Nat) : Int) + ((Mx.bits y : Nat) : Int))) (b := false) (by kernel_rfl) (by kernel_rfl) (fun _ _ h => h) (fun _ _ h => h) (hA) (fun _ _ h => h)),
    stepG (i := 9) (j := 1) (dj := 33) (b := true) (by kernel_rfl) (by kernel_rfl) (by kernel_rfl) (fun _ _ h => h) (move (d := 41) (x := (.tmp 40)) fun _ _ _ _ D => D 40 (by kernel_rfl)),
    stepG (i := 10) (j := 9) (dj := 41) (b := false) (by kernel_rfl) (by kernel_rfl) (by kernel_rfl) (fun _ _ h => h) (move (d := 42) (x := (.tmp 7)) fun a w hg ha D => ext7 (ha.2.2 7 (by kernel_rfl)) hg),
    stepG (i := 11) (j := 9) (dj := 41) (b := false) (by kernel_rfl) (by kernel_rfl) (by kernel_rfl) (fun _ _ h => h) (loadNat (d := 43) (p := 5) p5 (by kernel_rfl) c5 n5 (fun _ _ h => h)),
    stepG (i := 12) (j := 9) (dj := 41) (b := false) (by kernel_rfl) (by kernel_rfl) (by kernel_rfl) (fun _ _ h => h) (callBits (d := 44) (x := 43) (n := x) (k := 12) (ts := #[24]) (by kernel_rfl) (fun _ _ h => h) (by omega) (fun _ _ h => h)),
    stepG (i := 13) (j := 9) (dj := 41) (b := false) (by kernel_rfl) (by kernel_rfl) (by kernel_rfl) (fun _ _ h => h) (loadNat (d := 45) (p := 6) p6 (by kernel_rfl) c6 n6 (fun _ _ h => h)),
    stepG (i := 14) (j := 9) (dj := 41) (b := false) (by kernel_rfl) (by kernel_rfl) (by kernel_rfl) (fun _ _ h => h) (callBits (d := 46) (x := 45) (n := y) (k := 12) (ts := #[24]) (by kernel_rfl) (fun _ _ h => h) (by omega) (fun _ _ h => h)),
    stepG (i := 15) (j := 9) (dj := 41) (b := false) (by kernel_rfl) (by kernel_rfl) (by kernel_rfl) (fun _ _ h => h) (addII (d := 47) (x := 44) (y := 46) (m := ((Mx.bits x : Nat) : Int)) (c := ((Mx.bits y : Nat) : Int)) (r := ((Mx.bits x : Nat) : Int) + ((Mx.bits y : Nat) : Int)) (by kernel_rfl) (by kernel_rfl) (fun _ _ h => h) (fun _ _ h => h) (IntWalk.i64_in _ (by omega)) (fun _ _ h => h)),
    stepG (i := 16) (j := 9) (dj := 41) (b := false) (by kernel_rfl) (by kernel_rfl) (by kernel_rfl) (fun _ _ h => h) (subI (d := 48) (x := 47) (m := (((Mx.bits x : Nat) : Int) + ((Mx.bits y : Nat) : Int))) (c := 1) (r := ((Mx.bits x : Nat) : Int) + ((Mx.bits y : Nat) : Int) - 1) (by kernel_rfl) (fun _ _ h => h) (IntWalk.i64_in _ (by omega)) (fun _ _ h => h)),
    stepG (i := 17) (j := 9) (dj := 41) (b := false) (by kernel_rfl) (by kernel_rfl) (by kernel_rfl) (fun _ _ h => h) (eqlII (d := 49) (x := 42) (y := 48) (m := ((Mx.bits (x * y) : Nat) : Int)) (c := (((Mx.bits x : Nat) : Int) + ((Mx.bits y : Nat) : Int) - 1)) (b := true) (by kernel_rfl) (by kernel_rfl) (fun _ _ h => h) (fun _ _ h => h) (hB) (fun _ _ h => h)),
    stepG (i := 18) (j := 1) (dj := 33) (b := true) (by kernel_rfl) (by kernel_rfl) (by kernel_rfl) (fun _ _ h => h) (pickF (d := 50) (c := 41) (x := (.const (.bool true))) (y := (.tmp 49)) (by kernel_rfl) (fun _ _ h => h) fun _ _ _ _ D => D 49 (by kernel_rfl)),
    stepN (i := 19) (by kernel_rfl) (pickT (d := 51) (c := 33) (x := (.tmp 50)) (y := (.const (.bool false))) (by kernel_rfl) (fun _ _ h => h) fun _ _ _ _ D => D 50 (by kernel_rfl)),
    stepN (i := 20) (by kernel_rfl) (move (d := 52) (x := (.tmp 51)) fun _ _ _ _ D => D 51 (by kernel_rfl)),
    stepG (i := 21) (j := 20) (dj := 52) (b := true) (by kernel_rfl) (by kernel_rfl) (by kernel_rfl) (fun _ _ h => h) (loadNat (d := 53) (p := 5) p5 (by kernel_rfl) c5 n5 (fun _ _ h => h)),
    stepG (i := 22) (j := 20) (dj := 52) (b := true) (by kernel_rfl) (by kernel_rfl) (by kernel_rfl) (fun _ _ h => h) (loadNat (d := 54) (p := 5) p5 (by kernel_rfl) c5 n5 (fun _ _ h => h)),
    stepG (i := 23) (j := 20) (dj := 52) (b := true) (by kernel_rfl) (by kernel_rfl) (by kernel_rfl) (fun _ _ h => h) (callAdd (d := 55) (x := 53) (y := 54) (n := x) (m := x) (k := 12) (j := 12) (ts := #[24, 24]) (by kernel_rfl) (by kernel_rfl) (fun _ _ h => h) (fun _ _ h => h) (by omega) (by omega) (fun _ _ h => h)),
    stepG (i := 24) (j := 20) (dj := 52) (b := true) (by kernel_rfl) (by kernel_rfl) (by kernel_rfl) (fun _ _ h => h) (callBits (d := 56) (x := 55) (n := (x + x)) (k := (max 12 12 + 1)) (ts := #[24]) (by kernel_rfl) (fun _ _ h => h) (by omega) (fun _ _ h => h)),
    stepG (i := 25) (j := 20) (dj := 52) (b := true) (by kernel_rfl) (by kernel_rfl) (by kernel_rfl) (fun _ _ h => h) (loadNat (d := 57) (p := 5) p5 (by kernel_rfl) c5 n5 (fun _ _ h => h)),
    stepG (i := 26) (j := 20) (dj := 52) (b := true) (by kernel_rfl) (by kernel_rfl) (by kernel_rfl) (fun _ _ h => h) (callBits (d := 58) (x := 57) (n := x) (k := 12) (ts := #[24]) (by kernel_rfl) (fun _ _ h => h) (by omega) (fun _ _ h => h)),
    stepG (i := 27) (j := 20) (dj := 52) (b := true) (by kernel_rfl) (by kernel_rfl) (by kernel_rfl) (fun _ _ h => h) (addI (d := 59) (x := 58) (m := ((Mx.bits x : Nat) : Int)) (c := 1) (r := ((Mx.bits x : Nat) : Int) + 1) (by kernel_rfl) (fun _ _ h => h) (IntWalk.i64_in _ (by omega)) (fun _ _ h => h)),
    stepG (i := 28) (j := 20) (dj := 52) (b := true) (by kernel_rfl) (by kernel_rfl) (by kernel_rfl) (fun _ _ h => h) (eqlII (d := 60) (x := 56) (y := 59) (m := ((Mx.bits ((x + x)) : Nat) : Int)) (c := (((Mx.bits x : Nat) : Int) + 1)) (b := true) (by kernel_rfl) (by kernel_rfl) (fun _ _ h => h) (fun _ _ h => h) (by rw [Mx.bits_double hx0]; simp) (fun _ _ h => h)),
    stepN (i := 29) (by kernel_rfl) (pickT (d := 61) (c := 52) (x := (.tmp 60)) (y := (.const (.bool false))) (by kernel_rfl) (fun _ _ h => h) fun _ _ _ _ D => D 60 (by kernel_rfl)),
    stepN (i := 30) (by kernel_rfl) (move (d := 62) (x := (.tmp 61)) fun _ _ _ _ D => D 61 (by kernel_rfl)),
    stepG (i := 31) (j := 30) (dj := 62) (b := true) (by kernel_rfl) (by kernel_rfl) (by kernel_rfl) (fun _ _ h => h) (loadNat (d := 63) (p := 5) p5 (by kernel_rfl) c5 n5 (fun _ _ h => h)),
    stepG (i := 32) (j := 30) (dj := 62) (b := true) (by kernel_rfl) (by kernel_rfl) (by kernel_rfl) (fun _ _ h => h) (loadNat (d := 64) (p := 6) p6 (by kernel_rfl) c6 n6 (fun _ _ h => h)),
    stepG (i := 33) (j := 30) (dj := 62) (b := true) (by kernel_rfl) (by kernel_rfl) (by kernel_rfl) (fun _ _ h => h) (callCmp (d := 65) (x := 63) (y := 64) (n := x) (m := y) (k := 12) (j := 12) (ts := #[24, 24]) (by kernel_rfl) (by kernel_rfl) (fun _ _ h => h) (fun _ _ h => h) (by omega) (fun _ _ h => h)),
    stepG (i := 34) (j := 30) (dj := 62) (b := true) (by kernel_rfl) (by kernel_rfl) (by kernel_rfl) (fun _ _ h => h) (gtrI (d := 66) (x := 65) (m := (Mx.cmp x y)) (c := 0) (b := false) (by kernel_rfl) (fun _ _ h => h) (hC) (fun _ _ h => h)),
    stepG (i := 35) (j := 30) (dj := 62) (b := true) (by kernel_rfl) (by kernel_rfl) (by kernel_rfl) (fun _ _ h => h) (move (d := 67) (x := (.tmp 66)) fun _ _ _ _ D => D 66 (by kernel_rfl)),
    stepG (i := 36) (j := 35) (dj := 67) (b := false) (by kernel_rfl) (by kernel_rfl) (by kernel_rfl) (fun _ _ h => h) (loadNat (d := 68) (p := 5) p5 (by kernel_rfl) c5 n5 (fun _ _ h => h)),
    stepG (i := 37) (j := 35) (dj := 67) (b := false) (by kernel_rfl) (by kernel_rfl) (by kernel_rfl) (fun _ _ h => h) (callBits (d := 69) (x := 68) (n := x) (k := 12) (ts := #[24]) (by kernel_rfl) (fun _ _ h => h) (by omega) (fun _ _ h => h)),
    stepG (i := 38) (j := 35) (dj := 67) (b := false) (by kernel_rfl) (by kernel_rfl) (by kernel_rfl) (fun _ _ h => h) (loadNat (d := 70) (p := 6) p6 (by kernel_rfl) c6 n6 (fun _ _ h => h)),
    stepG (i := 39) (j := 35) (dj := 67) (b := false) (by kernel_rfl) (by kernel_rfl) (by kernel_rfl) (fun _ _ h => h) (callBits (d := 71) (x := 70) (n := y) (k := 12) (ts := #[24]) (by kernel_rfl) (fun _ _ h => h) (by omega) (fun _ _ h => h)),
    stepG (i := 40) (j := 35) (dj := 67) (b := false) (by kernel_rfl) (by kernel_rfl) (by kernel_rfl) (fun _ _ h => h) (leqII (d := 72) (x := 69) (y := 71) (m := ((Mx.bits x : Nat) : Int)) (c := ((Mx.bits y : Nat) : Int)) (b := true) (by kernel_rfl) (by kernel_rfl) (fun _ _ h => h) (fun _ _ h => h) (hD) (fun _ _ h => h)),
    stepG (i := 41) (j := 30) (dj := 62) (b := true) (by kernel_rfl) (by kernel_rfl) (by kernel_rfl) (fun _ _ h => h) (pickF (d := 73) (c := 67) (x := (.const (.bool true))) (y := (.tmp 72)) (by kernel_rfl) (fun _ _ h => h) fun _ _ _ _ D => D 72 (by kernel_rfl)),
    stepN (i := 42) (by kernel_rfl) (pickT (d := 74) (c := 62) (x := (.tmp 73)) (y := (.const (.bool false))) (by kernel_rfl) (fun _ _ h => h) fun _ _ _ _ D => D 73 (by kernel_rfl)),
    stepN (i := 43) (by kernel_rfl) (assign (d := 4) (x := (.tmp 74)) fun _ _ _ _ D => D 74 (by kernel_rfl)), trivial⟩
  · have e : look (bitsFFFacts x y) 4 w (a.tmps.getD 4 undef) := h 4 (by kernel_rfl)
    exact e
end Go.Proofs.Ytdfdlmhllonggaa.Rg
