/- The last region of the law WholeFloors: whatever its order. Written by a script (tools/laws). -/
import Derived.Test.YtjgceldghelpiaaDoorRgV
namespace Go.Proofs.YtjgceldghelpiaaDoor.Rg
open Go.RowKit

/-- What each operation of the region yields. -/
def floors7ZFacts (x y : Int) : List (Nat × (World → Value → Prop)) :=
  [(55, (fun _ v => v = .bool true)),
   (56, (fun _ v => v = .bool true)),
   (57, (fun _ v => v = .int .i64 0)),
   (58, (fun _ v => v = .bool true)),
   (59, (fun _ v => v = .bool true)),
   (60, (fun _ v => v = .bool true)),
   (61, (fun w v => IsW w v (zdiv x y) ((max 10 1 + 1)))),
   (62, (fun _ v => v = .string (str (ztext (zdiv x y))))),
   (63, (fun w v => IsV w v (zdiv x y) (2000))),
   (64, (fun _ v => v = .string (str (ztext (zdiv x y))))),
   (65, (fun _ v => v = .bool true)),
   (66, (fun _ v => v = .bool true)),
   (67, (fun _ v => v = .bool true)),
   (68, (fun w v => IsW w v (zmod x y) ((max 10 10 + 1)))),
   (69, (fun _ v => v = .string (str (ztext (zmod x y))))),
   (70, (fun w v => IsV w v (zmod x y) (10000))),
   (71, (fun _ v => v = .string (str (ztext (zmod x y))))),
   (72, (fun _ v => v = .bool true)),
   (73, (fun _ v => v = .bool true)),
   (74, (fun _ v => v = .bool true)),
   (75, (fun w v => IsW w v (zmod x y) ((max 10 10 + 1)))),
   (76, (fun _ v => v = .int .i64 (Int.sign (zmod x y)))),
   (77, (fun _ v => v = .bool true)),
   (78, (fun _ v => v = .bool true)),
   (79, (fun _ v => v = undef)),
   (80, (fun _ v => v = undef)),
   (81, (fun _ v => v = undef)),
   (82, (fun _ v => v = undef)),
   (83, (fun _ v => v = undef)),
   (84, (fun _ v => v = .bool true)),
   (85, (fun _ v => v = .bool true)),
   (86, (fun _ v => v = .bool true)),
   (87, (fun w v => IsW w v (zmod x y) ((max 10 10 + 1)))),
   (88, (fun w v => IsN w v ((Int.natAbs (zmod x y))) ((max 10 10 + 1)))),
   (89, (fun w v => IsW w v (y) (10))),
   (90, (fun w v => IsN w v ((Int.natAbs y)) (10))),
   (91, (fun _ v => v = .int .i64 (Mx.cmp ((Int.natAbs (zmod x y))) ((Int.natAbs y))))),
   (92, (fun _ v => v = .bool true)),
   (93, (fun _ v => v = .bool true)),
   (94, (fun _ v => v = .bool true)),
   (95, (fun w v => IsW w v (zdiv x y) ((max 10 1 + 1)))),
   (96, (fun w v => IsW w v (y) (10))),
   (97, (fun w v => IsW w v (((zdiv x y) * y)) (((max 10 1 + 1) + 10)))),
   (98, (fun w v => IsW w v (zmod x y) ((max 10 10 + 1)))),
   (99, (fun w v => IsW w v (((((zdiv x y) * y)) + (zmod x y))) ((max ((max 10 1 + 1) + 10) (max 10 10 + 1) + 1)))),
   (100, (fun w v => IsW w v (x) (10))),
   (101, (fun _ v => v = .int .i64 (Int.sign ((((((zdiv x y) * y)) + (zmod x y))) - x)))),
   (102, (fun _ v => v = .bool true)),
   (103, (fun _ v => v = .bool true)),
   (4, (fun _ v => v = .bool true))]
theorem floors7ZStable (x y : Int) : AllStable (floors7ZFacts x y) := ⟨st_eq _, st_eq _, st_eq _, st_eq _, st_eq _, st_eq _, st_W _ _, st_eq _, st_V _ _, st_eq _, st_eq _, st_eq _, st_eq _, st_W _ _, st_eq _, st_V _ _, st_eq _, st_eq _, st_eq _, st_eq _, st_W _ _, st_eq _, st_eq _, st_eq _, st_eq _, st_eq _, st_eq _, st_eq _, st_eq _, st_eq _, st_eq _, st_eq _, st_W _ _, st_N _ _, st_W _ _, st_N _ _, st_eq _, st_eq _, st_eq _, st_eq _, st_W _ _, st_W _ _, st_W _ _, st_W _ _, st_W _ _, st_W _ _, st_eq _, st_eq _, st_eq _, st_eq _, trivial⟩

set_option maxRecDepth 100000 in
set_option maxHeartbeats 4000000 in
theorem floors7Z_region {Q : Exit → Act → World → Prop} {a0 : Act} {w0 : World} (x y : Int) (hn : a0.tmps.size = 104)
   {b5 : Nat} (p5 : a0.tmps.getD 5 undef = .pointer (some ⟨b5, 0, none⟩)) (v5 : VarW w0 b5 (x) 10)
   {b7 : Nat} (p7 : a0.tmps.getD 7 undef = .pointer (some ⟨b7, 0, none⟩)) (v7 : VarW w0 b7 (y) 10)
   {b9 : Nat} (p9 : a0.tmps.getD 9 undef = .pointer (some ⟨b9, 0, none⟩)) (v9 : VarW w0 b9 (zdiv x y) (max 10 1 + 1))
   {b10 : Nat} (p10 : a0.tmps.getD 10 undef = .pointer (some ⟨b10, 0, none⟩)) (v10 : VarW w0 b10 (zmod x y) (max 10 10 + 1))
   {b12 : Nat} (p12 : a0.tmps.getD 12 undef = .pointer (some ⟨b12, 0, none⟩)) (v12 : VarV w0 b12 (zdiv x y) 2000)
   {b13 : Nat} (p13 : a0.tmps.getD 13 undef = .pointer (some ⟨b13, 0, none⟩)) (v13 : VarV w0 b13 (zmod x y) 10000)
   (e11 : a0.tmps.getD 11 undef = .int .i64 0)
   (hx : zdiv x y * y + zmod x y = x) (hl : (zmod x y).natAbs < y.natAbs) (hr : zmod x y = 0)
    (fin : ∀ a w, Grow w0 w → Agree (regionOps Tryd.f4 7) a0 a → a.tmps.getD 4 undef = .bool true → Q .normal a w) : (Code.region 7 (regionOps Tryd.f4 7) true).wp Tryd.prog Q a0 w0 := by
  have ext11 : ∀ {u : Value} {w : World}, u = a0.tmps.getD 11 undef → Grow w0 w → u = .int .i64 0 := fun h _ => h.trans e11
  refine region (n := 104) (F := look (floors7ZFacts x y)) (by kernel_rfl) hn (by kernel_rfl) (look_stable _ (floors7ZStable x y)) (fun i hi => all_from 50 0 ?_ i (Nat.zero_le _) (Nat.lt_of_lt_of_eq hi (by kernel_rfl)))
    fun a w hg ha h => fin a w hg ha ?_
  · exact ⟨
    stepN (i := 0) (by kernel_rfl) (callWakes4 (d := 55) (ts := #[]) (fun _ _ h => h)),
    stepN (i := 1) (by kernel_rfl) (move (d := 56) (x := (.tmp 55)) fun _ _ _ _ D => D 55 (by kernel_rfl)),
    stepG (i := 2) (j := 1) (dj := 56) (b := true) (by kernel_rfl) (by kernel_rfl) (by kernel_rfl) (fun _ _ h => h) (move (d := 57) (x := (.tmp 11)) fun a w hg ha D => ext11 (ha.2.2 11 (by kernel_rfl)) hg),
    stepG (i := 3) (j := 1) (dj := 56) (b := true) (by kernel_rfl) (by kernel_rfl) (by kernel_rfl) (fun _ _ h => h) (eqlE (d := 58) (x := 57) (m := 0) (c := 0) (b := true) (by kernel_rfl) (fun _ _ h => h) (by rfl) (fun _ _ h => h)),
    stepN (i := 4) (by kernel_rfl) (pickT (d := 59) (c := 56) (x := (.tmp 58)) (y := (.const (.bool false))) (by kernel_rfl) (fun _ _ h => h) fun _ _ _ _ D => D 58 (by kernel_rfl)),
    stepN (i := 5) (by kernel_rfl) (move (d := 60) (x := (.tmp 59)) fun _ _ _ _ D => D 59 (by kernel_rfl)),
    stepG (i := 6) (j := 5) (dj := 60) (b := true) (by kernel_rfl) (by kernel_rfl) (by kernel_rfl) (fun _ _ h => h) (loadW (d := 61) (p := 9) p9 (by kernel_rfl) v9 (fun _ _ h => h)),
    stepG (i := 7) (j := 5) (dj := 60) (b := true) (by kernel_rfl) (by kernel_rfl) (by kernel_rfl) (fun _ _ h => h) (callPrintW (d := 62) (x := 61) (n := zdiv x y) (k := (max 10 1 + 1)) (ts := #[28]) (by kernel_rfl) (fun _ _ h => h) (by omega) (fun _ _ h => h)),
    stepG (i := 8) (j := 5) (dj := 60) (b := true) (by kernel_rfl) (by kernel_rfl) (by kernel_rfl) (fun _ _ h => h) (loadV (d := 63) (p := 12) p12 (by kernel_rfl) v12 (fun _ _ h => h)),
    stepG (i := 9) (j := 5) (dj := 60) (b := true) (by kernel_rfl) (by kernel_rfl) (by kernel_rfl) (fun _ _ h => h) (callPrintV (d := 64) (x := 63) (n := zdiv x y) (k := 2000) (ts := #[31]) (by kernel_rfl) (fun _ _ h => h) (by omega) (fun _ _ h => h)),
    stepG (i := 10) (j := 5) (dj := 60) (b := true) (by kernel_rfl) (by kernel_rfl) (by kernel_rfl) (fun _ _ h => h) (eqlStrII (d := 65) (x := 62) (y := 64) (l := ztext (zdiv x y)) (r := ztext (zdiv x y)) (b := true) (by kernel_rfl) (by kernel_rfl) (fun _ _ h => h) (fun _ _ h => h) (beq_self_eq_true _) (fun _ _ h => h)),
    stepN (i := 11) (by kernel_rfl) (pickT (d := 66) (c := 60) (x := (.tmp 65)) (y := (.const (.bool false))) (by kernel_rfl) (fun _ _ h => h) fun _ _ _ _ D => D 65 (by kernel_rfl)),
    stepN (i := 12) (by kernel_rfl) (move (d := 67) (x := (.tmp 66)) fun _ _ _ _ D => D 66 (by kernel_rfl)),
    stepG (i := 13) (j := 12) (dj := 67) (b := true) (by kernel_rfl) (by kernel_rfl) (by kernel_rfl) (fun _ _ h => h) (loadW (d := 68) (p := 10) p10 (by kernel_rfl) v10 (fun _ _ h => h)),
    stepG (i := 14) (j := 12) (dj := 67) (b := true) (by kernel_rfl) (by kernel_rfl) (by kernel_rfl) (fun _ _ h => h) (callPrintW (d := 69) (x := 68) (n := zmod x y) (k := (max 10 10 + 1)) (ts := #[28]) (by kernel_rfl) (fun _ _ h => h) (by omega) (fun _ _ h => h)),
    stepG (i := 15) (j := 12) (dj := 67) (b := true) (by kernel_rfl) (by kernel_rfl) (by kernel_rfl) (fun _ _ h => h) (loadV (d := 70) (p := 13) p13 (by kernel_rfl) v13 (fun _ _ h => h)),
    stepG (i := 16) (j := 12) (dj := 67) (b := true) (by kernel_rfl) (by kernel_rfl) (by kernel_rfl) (fun _ _ h => h) (callPrintV (d := 71) (x := 70) (n := zmod x y) (k := 10000) (ts := #[31]) (by kernel_rfl) (fun _ _ h => h) (by omega) (fun _ _ h => h)),
    stepG (i := 17) (j := 12) (dj := 67) (b := true) (by kernel_rfl) (by kernel_rfl) (by kernel_rfl) (fun _ _ h => h) (eqlStrII (d := 72) (x := 69) (y := 71) (l := ztext (zmod x y)) (r := ztext (zmod x y)) (b := true) (by kernel_rfl) (by kernel_rfl) (fun _ _ h => h) (fun _ _ h => h) (beq_self_eq_true _) (fun _ _ h => h)),
    stepN (i := 18) (by kernel_rfl) (pickT (d := 73) (c := 67) (x := (.tmp 72)) (y := (.const (.bool false))) (by kernel_rfl) (fun _ _ h => h) fun _ _ _ _ D => D 72 (by kernel_rfl)),
    stepN (i := 19) (by kernel_rfl) (move (d := 74) (x := (.tmp 73)) fun _ _ _ _ D => D 73 (by kernel_rfl)),
    stepG (i := 20) (j := 19) (dj := 74) (b := true) (by kernel_rfl) (by kernel_rfl) (by kernel_rfl) (fun _ _ h => h) (loadW (d := 75) (p := 10) p10 (by kernel_rfl) v10 (fun _ _ h => h)),
    stepG (i := 21) (j := 19) (dj := 74) (b := true) (by kernel_rfl) (by kernel_rfl) (by kernel_rfl) (fun _ _ h => h) (callSignW (d := 76) (x := 75) (n := zmod x y) (k := (max 10 10 + 1)) (ts := #[28]) (by kernel_rfl) (fun _ _ h => h) (fun _ _ h => h)),
    stepG (i := 22) (j := 19) (dj := 74) (b := true) (by kernel_rfl) (by kernel_rfl) (by kernel_rfl) (fun _ _ h => h) (eqlI (d := 77) (x := 76) (m := (Int.sign (zmod x y))) (c := 0) (b := true) (by kernel_rfl) (fun _ _ h => h) (sgn_0 hr) (fun _ _ h => h)),
    stepG (i := 23) (j := 19) (dj := 74) (b := true) (by kernel_rfl) (by kernel_rfl) (by kernel_rfl) (fun _ _ h => h) (move (d := 78) (x := (.tmp 77)) fun _ _ _ _ D => D 77 (by kernel_rfl)),
    stepS (i := 24) (j := 23) (dj := 78) (b := false) (c := true) (dst := some 79) (op := (.load 28 (.tmp 10))) (by kernel_rfl) (by kernel_rfl) (by kernel_rfl) (fun _ _ h => h) rfl (fun d hd w => by cases hd; exact rfl),
    stepS (i := 25) (j := 23) (dj := 78) (b := false) (c := true) (dst := some 80) (op := (.call { callee := .value (.func 22), args := #[(.tmp 79)], argTypes := #[28] })) (by kernel_rfl) (by kernel_rfl) (by kernel_rfl) (fun _ _ h => h) rfl (fun d hd w => by cases hd; exact rfl),
    stepS (i := 26) (j := 23) (dj := 78) (b := false) (c := true) (dst := some 81) (op := (.load 28 (.tmp 7))) (by kernel_rfl) (by kernel_rfl) (by kernel_rfl) (fun _ _ h => h) rfl (fun d hd w => by cases hd; exact rfl),
    stepS (i := 27) (j := 23) (dj := 78) (b := false) (c := true) (dst := some 82) (op := (.call { callee := .value (.func 22), args := #[(.tmp 81)], argTypes := #[28] })) (by kernel_rfl) (by kernel_rfl) (by kernel_rfl) (fun _ _ h => h) rfl (fun d hd w => by cases hd; exact rfl),
    stepS (i := 28) (j := 23) (dj := 78) (b := false) (c := true) (dst := some 83) (op := (.binOp .eql 3 (.tmp 80) (.tmp 82) 3)) (by kernel_rfl) (by kernel_rfl) (by kernel_rfl) (fun _ _ h => h) rfl (fun d hd w => by cases hd; exact rfl),
    stepG (i := 29) (j := 19) (dj := 74) (b := true) (by kernel_rfl) (by kernel_rfl) (by kernel_rfl) (fun _ _ h => h) (pickT (d := 84) (c := 78) (x := (.const (.bool true))) (y := (.tmp 83)) (by kernel_rfl) (fun _ _ h => h) fun _ _ _ _ _ => rfl),
    stepN (i := 30) (by kernel_rfl) (pickT (d := 85) (c := 74) (x := (.tmp 84)) (y := (.const (.bool false))) (by kernel_rfl) (fun _ _ h => h) fun _ _ _ _ D => D 84 (by kernel_rfl)),
    stepN (i := 31) (by kernel_rfl) (move (d := 86) (x := (.tmp 85)) fun _ _ _ _ D => D 85 (by kernel_rfl)),
    stepG (i := 32) (j := 31) (dj := 86) (b := true) (by kernel_rfl) (by kernel_rfl) (by kernel_rfl) (fun _ _ h => h) (loadW (d := 87) (p := 10) p10 (by kernel_rfl) v10 (fun _ _ h => h)),
    stepG (i := 33) (j := 31) (dj := 86) (b := true) (by kernel_rfl) (by kernel_rfl) (by kernel_rfl) (fun _ _ h => h) (callAbsW (d := 88) (x := 87) (n := zmod x y) (k := (max 10 10 + 1)) (ts := #[28]) (by kernel_rfl) (fun _ _ h => h) (fun _ _ h => h)),
    stepG (i := 34) (j := 31) (dj := 86) (b := true) (by kernel_rfl) (by kernel_rfl) (by kernel_rfl) (fun _ _ h => h) (loadW (d := 89) (p := 7) p7 (by kernel_rfl) v7 (fun _ _ h => h)),
    stepG (i := 35) (j := 31) (dj := 86) (b := true) (by kernel_rfl) (by kernel_rfl) (by kernel_rfl) (fun _ _ h => h) (callAbsW (d := 90) (x := 89) (n := y) (k := 10) (ts := #[28]) (by kernel_rfl) (fun _ _ h => h) (fun _ _ h => h)),
    stepG (i := 36) (j := 31) (dj := 86) (b := true) (by kernel_rfl) (by kernel_rfl) (by kernel_rfl) (fun _ _ h => h) (callCmp (d := 91) (x := 88) (y := 90) (n := (Int.natAbs (zmod x y))) (m := (Int.natAbs y)) (k := (max 10 10 + 1)) (j := 10) (ts := #[26, 26]) (by kernel_rfl) (by kernel_rfl) (fun _ _ h => h) (fun _ _ h => h) (by omega) (fun _ _ h => h)),
    stepG (i := 37) (j := 31) (dj := 86) (b := true) (by kernel_rfl) (by kernel_rfl) (by kernel_rfl) (fun _ _ h => h) (lssI (d := 92) (x := 91) (m := (Mx.cmp ((Int.natAbs (zmod x y))) ((Int.natAbs y)))) (c := 0) (b := true) (by kernel_rfl) (fun _ _ h => h) (by rw [Mx.cmp_lt hl]; rfl) (fun _ _ h => h)),
    stepN (i := 38) (by kernel_rfl) (pickT (d := 93) (c := 86) (x := (.tmp 92)) (y := (.const (.bool false))) (by kernel_rfl) (fun _ _ h => h) fun _ _ _ _ D => D 92 (by kernel_rfl)),
    stepN (i := 39) (by kernel_rfl) (move (d := 94) (x := (.tmp 93)) fun _ _ _ _ D => D 93 (by kernel_rfl)),
    stepG (i := 40) (j := 39) (dj := 94) (b := true) (by kernel_rfl) (by kernel_rfl) (by kernel_rfl) (fun _ _ h => h) (loadW (d := 95) (p := 9) p9 (by kernel_rfl) v9 (fun _ _ h => h)),
    stepG (i := 41) (j := 39) (dj := 94) (b := true) (by kernel_rfl) (by kernel_rfl) (by kernel_rfl) (fun _ _ h => h) (loadW (d := 96) (p := 7) p7 (by kernel_rfl) v7 (fun _ _ h => h)),
    stepG (i := 42) (j := 39) (dj := 94) (b := true) (by kernel_rfl) (by kernel_rfl) (by kernel_rfl) (fun _ _ h => h) (callMulW (d := 97) (x := 95) (y := 96) (n := zdiv x y) (m := y) (k := (max 10 1 + 1)) (j := 10) (ts := #[28, 28]) (by kernel_rfl) (by kernel_rfl) (fun _ _ h => h) (fun _ _ h => h) (by omega) (by omega) (fun _ _ h => h)),
    stepG (i := 43) (j := 39) (dj := 94) (b := true) (by kernel_rfl) (by kernel_rfl) (by kernel_rfl) (fun _ _ h => h) (loadW (d := 98) (p := 10) p10 (by kernel_rfl) v10 (fun _ _ h => h)),
    stepG (i := 44) (j := 39) (dj := 94) (b := true) (by kernel_rfl) (by kernel_rfl) (by kernel_rfl) (fun _ _ h => h) (callAddW (d := 99) (x := 97) (y := 98) (n := ((zdiv x y) * y)) (m := zmod x y) (k := ((max 10 1 + 1) + 10)) (j := (max 10 10 + 1)) (ts := #[28, 28]) (by kernel_rfl) (by kernel_rfl) (fun _ _ h => h) (fun _ _ h => h) (by omega) (by omega) (fun _ _ h => h)),
    stepG (i := 45) (j := 39) (dj := 94) (b := true) (by kernel_rfl) (by kernel_rfl) (by kernel_rfl) (fun _ _ h => h) (loadW (d := 100) (p := 5) p5 (by kernel_rfl) v5 (fun _ _ h => h)),
    stepG (i := 46) (j := 39) (dj := 94) (b := true) (by kernel_rfl) (by kernel_rfl) (by kernel_rfl) (fun _ _ h => h) (callCmpW (d := 101) (x := 99) (y := 100) (n := ((((zdiv x y) * y)) + (zmod x y))) (m := x) (k := (max ((max 10 1 + 1) + 10) (max 10 10 + 1) + 1)) (j := 10) (ts := #[28, 28]) (by kernel_rfl) (by kernel_rfl) (fun _ _ h => h) (fun _ _ h => h) (by omega) (by omega) (fun _ _ h => h)),
    stepG (i := 47) (j := 39) (dj := 94) (b := true) (by kernel_rfl) (by kernel_rfl) (by kernel_rfl) (fun _ _ h => h) (eqlI (d := 102) (x := 101) (m := (Int.sign ((((((zdiv x y) * y)) + (zmod x y))) - x))) (c := 0) (b := true) (by kernel_rfl) (fun _ _ h => h) (sgn_0 (by omega)) (fun _ _ h => h)),
    stepN (i := 48) (by kernel_rfl) (pickT (d := 103) (c := 94) (x := (.tmp 102)) (y := (.const (.bool false))) (by kernel_rfl) (fun _ _ h => h) fun _ _ _ _ D => D 102 (by kernel_rfl)),
    stepN (i := 49) (by kernel_rfl) (assign (d := 4) (x := (.tmp 103)) fun _ _ _ _ D => D 103 (by kernel_rfl)), trivial⟩
  · have e : look (floors7ZFacts x y) 4 w (a.tmps.getD 4 undef) := h 4 (by kernel_rfl)
    exact e

/-- What each operation of the region yields. -/
def floors7NFacts (x y : Int) : List (Nat × (World → Value → Prop)) :=
  [(55, (fun _ v => v = .bool true)),
   (56, (fun _ v => v = .bool true)),
   (57, (fun _ v => v = .int .i64 0)),
   (58, (fun _ v => v = .bool true)),
   (59, (fun _ v => v = .bool true)),
   (60, (fun _ v => v = .bool true)),
   (61, (fun w v => IsW w v (zdiv x y) ((max 10 1 + 1)))),
   (62, (fun _ v => v = .string (str (ztext (zdiv x y))))),
   (63, (fun w v => IsV w v (zdiv x y) (2000))),
   (64, (fun _ v => v = .string (str (ztext (zdiv x y))))),
   (65, (fun _ v => v = .bool true)),
   (66, (fun _ v => v = .bool true)),
   (67, (fun _ v => v = .bool true)),
   (68, (fun w v => IsW w v (zmod x y) ((max 10 10 + 1)))),
   (69, (fun _ v => v = .string (str (ztext (zmod x y))))),
   (70, (fun w v => IsV w v (zmod x y) (10000))),
   (71, (fun _ v => v = .string (str (ztext (zmod x y))))),
   (72, (fun _ v => v = .bool true)),
   (73, (fun _ v => v = .bool true)),
   (74, (fun _ v => v = .bool true)),
   (75, (fun w v => IsW w v (zmod x y) ((max 10 10 + 1)))),
   (76, (fun _ v => v = .int .i64 (Int.sign (zmod x y)))),
   (77, (fun _ v => v = .bool false)),
   (78, (fun _ v => v = .bool false)),
   (79, (fun w v => IsW w v (zmod x y) ((max 10 10 + 1)))),
   (80, (fun _ v => v = .int .i64 (Int.sign (zmod x y)))),
   (81, (fun w v => IsW w v (y) (10))),
   (82, (fun _ v => v = .int .i64 (Int.sign y))),
   (83, (fun _ v => v = .bool true)),
   (84, (fun _ v => v = .bool true)),
   (85, (fun _ v => v = .bool true)),
   (86, (fun _ v => v = .bool true)),
   (87, (fun w v => IsW w v (zmod x y) ((max 10 10 + 1)))),
   (88, (fun w v => IsN w v ((Int.natAbs (zmod x y))) ((max 10 10 + 1)))),
   (89, (fun w v => IsW w v (y) (10))),
   (90, (fun w v => IsN w v ((Int.natAbs y)) (10))),
   (91, (fun _ v => v = .int .i64 (Mx.cmp ((Int.natAbs (zmod x y))) ((Int.natAbs y))))),
   (92, (fun _ v => v = .bool true)),
   (93, (fun _ v => v = .bool true)),
   (94, (fun _ v => v = .bool true)),
   (95, (fun w v => IsW w v (zdiv x y) ((max 10 1 + 1)))),
   (96, (fun w v => IsW w v (y) (10))),
   (97, (fun w v => IsW w v (((zdiv x y) * y)) (((max 10 1 + 1) + 10)))),
   (98, (fun w v => IsW w v (zmod x y) ((max 10 10 + 1)))),
   (99, (fun w v => IsW w v (((((zdiv x y) * y)) + (zmod x y))) ((max ((max 10 1 + 1) + 10) (max 10 10 + 1) + 1)))),
   (100, (fun w v => IsW w v (x) (10))),
   (101, (fun _ v => v = .int .i64 (Int.sign ((((((zdiv x y) * y)) + (zmod x y))) - x)))),
   (102, (fun _ v => v = .bool true)),
   (103, (fun _ v => v = .bool true)),
   (4, (fun _ v => v = .bool true))]
theorem floors7NStable (x y : Int) : AllStable (floors7NFacts x y) := ⟨st_eq _, st_eq _, st_eq _, st_eq _, st_eq _, st_eq _, st_W _ _, st_eq _, st_V _ _, st_eq _, st_eq _, st_eq _, st_eq _, st_W _ _, st_eq _, st_V _ _, st_eq _, st_eq _, st_eq _, st_eq _, st_W _ _, st_eq _, st_eq _, st_eq _, st_W _ _, st_eq _, st_W _ _, st_eq _, st_eq _, st_eq _, st_eq _, st_eq _, st_W _ _, st_N _ _, st_W _ _, st_N _ _, st_eq _, st_eq _, st_eq _, st_eq _, st_W _ _, st_W _ _, st_W _ _, st_W _ _, st_W _ _, st_W _ _, st_eq _, st_eq _, st_eq _, st_eq _, trivial⟩

set_option maxRecDepth 100000 in
set_option maxHeartbeats 4000000 in
theorem floors7N_region {Q : Exit → Act → World → Prop} {a0 : Act} {w0 : World} (x y : Int) (hn : a0.tmps.size = 104)
   {b5 : Nat} (p5 : a0.tmps.getD 5 undef = .pointer (some ⟨b5, 0, none⟩)) (v5 : VarW w0 b5 (x) 10)
   {b7 : Nat} (p7 : a0.tmps.getD 7 undef = .pointer (some ⟨b7, 0, none⟩)) (v7 : VarW w0 b7 (y) 10)
   {b9 : Nat} (p9 : a0.tmps.getD 9 undef = .pointer (some ⟨b9, 0, none⟩)) (v9 : VarW w0 b9 (zdiv x y) (max 10 1 + 1))
   {b10 : Nat} (p10 : a0.tmps.getD 10 undef = .pointer (some ⟨b10, 0, none⟩)) (v10 : VarW w0 b10 (zmod x y) (max 10 10 + 1))
   {b12 : Nat} (p12 : a0.tmps.getD 12 undef = .pointer (some ⟨b12, 0, none⟩)) (v12 : VarV w0 b12 (zdiv x y) 2000)
   {b13 : Nat} (p13 : a0.tmps.getD 13 undef = .pointer (some ⟨b13, 0, none⟩)) (v13 : VarV w0 b13 (zmod x y) 10000)
   (e11 : a0.tmps.getD 11 undef = .int .i64 0)
   (hx : zdiv x y * y + zmod x y = x) (hl : (zmod x y).natAbs < y.natAbs) (hr : zmod x y ≠ 0) (hs : Int.sign (zmod x y) = Int.sign y)
    (fin : ∀ a w, Grow w0 w → Agree (regionOps Tryd.f4 7) a0 a → a.tmps.getD 4 undef = .bool true → Q .normal a w) : (Code.region 7 (regionOps Tryd.f4 7) true).wp Tryd.prog Q a0 w0 := by
  have ext11 : ∀ {u : Value} {w : World}, u = a0.tmps.getD 11 undef → Grow w0 w → u = .int .i64 0 := fun h _ => h.trans e11
  refine region (n := 104) (F := look (floors7NFacts x y)) (by kernel_rfl) hn (by kernel_rfl) (look_stable _ (floors7NStable x y)) (fun i hi => all_from 50 0 ?_ i (Nat.zero_le _) (Nat.lt_of_lt_of_eq hi (by kernel_rfl)))
    fun a w hg ha h => fin a w hg ha ?_
  · exact ⟨
    stepN (i := 0) (by kernel_rfl) (callWakes4 (d := 55) (ts := #[]) (fun _ _ h => h)),
    stepN (i := 1) (by kernel_rfl) (move (d := 56) (x := (.tmp 55)) fun _ _ _ _ D => D 55 (by kernel_rfl)),
    stepG (i := 2) (j := 1) (dj := 56) (b := true) (by kernel_rfl) (by kernel_rfl) (by kernel_rfl) (fun _ _ h => h) (move (d := 57) (x := (.tmp 11)) fun a w hg ha D => ext11 (ha.2.2 11 (by kernel_rfl)) hg),
    stepG (i := 3) (j := 1) (dj := 56) (b := true) (by kernel_rfl) (by kernel_rfl) (by kernel_rfl) (fun _ _ h => h) (eqlE (d := 58) (x := 57) (m := 0) (c := 0) (b := true) (by kernel_rfl) (fun _ _ h => h) (by rfl) (fun _ _ h => h)),
    stepN (i := 4) (by kernel_rfl) (pickT (d := 59) (c := 56) (x := (.tmp 58)) (y := (.const (.bool false))) (by kernel_rfl) (fun _ _ h => h) fun _ _ _ _ D => D 58 (by kernel_rfl)),
    stepN (i := 5) (by kernel_rfl) (move (d := 60) (x := (.tmp 59)) fun _ _ _ _ D => D 59 (by kernel_rfl)),
    stepG (i := 6) (j := 5) (dj := 60) (b := true) (by kernel_rfl) (by kernel_rfl) (by kernel_rfl) (fun _ _ h => h) (loadW (d := 61) (p := 9) p9 (by kernel_rfl) v9 (fun _ _ h => h)),
    stepG (i := 7) (j := 5) (dj := 60) (b := true) (by kernel_rfl) (by kernel_rfl) (by kernel_rfl) (fun _ _ h => h) (callPrintW (d := 62) (x := 61) (n := zdiv x y) (k := (max 10 1 + 1)) (ts := #[28]) (by kernel_rfl) (fun _ _ h => h) (by omega) (fun _ _ h => h)),
    stepG (i := 8) (j := 5) (dj := 60) (b := true) (by kernel_rfl) (by kernel_rfl) (by kernel_rfl) (fun _ _ h => h) (loadV (d := 63) (p := 12) p12 (by kernel_rfl) v12 (fun _ _ h => h)),
    stepG (i := 9) (j := 5) (dj := 60) (b := true) (by kernel_rfl) (by kernel_rfl) (by kernel_rfl) (fun _ _ h => h) (callPrintV (d := 64) (x := 63) (n := zdiv x y) (k := 2000) (ts := #[31]) (by kernel_rfl) (fun _ _ h => h) (by omega) (fun _ _ h => h)),
    stepG (i := 10) (j := 5) (dj := 60) (b := true) (by kernel_rfl) (by kernel_rfl) (by kernel_rfl) (fun _ _ h => h) (eqlStrII (d := 65) (x := 62) (y := 64) (l := ztext (zdiv x y)) (r := ztext (zdiv x y)) (b := true) (by kernel_rfl) (by kernel_rfl) (fun _ _ h => h) (fun _ _ h => h) (beq_self_eq_true _) (fun _ _ h => h)),
    stepN (i := 11) (by kernel_rfl) (pickT (d := 66) (c := 60) (x := (.tmp 65)) (y := (.const (.bool false))) (by kernel_rfl) (fun _ _ h => h) fun _ _ _ _ D => D 65 (by kernel_rfl)),
    stepN (i := 12) (by kernel_rfl) (move (d := 67) (x := (.tmp 66)) fun _ _ _ _ D => D 66 (by kernel_rfl)),
    stepG (i := 13) (j := 12) (dj := 67) (b := true) (by kernel_rfl) (by kernel_rfl) (by kernel_rfl) (fun _ _ h => h) (loadW (d := 68) (p := 10) p10 (by kernel_rfl) v10 (fun _ _ h => h)),
    stepG (i := 14) (j := 12) (dj := 67) (b := true) (by kernel_rfl) (by kernel_rfl) (by kernel_rfl) (fun _ _ h => h) (callPrintW (d := 69) (x := 68) (n := zmod x y) (k := (max 10 10 + 1)) (ts := #[28]) (by kernel_rfl) (fun _ _ h => h) (by omega) (fun _ _ h => h)),
    stepG (i := 15) (j := 12) (dj := 67) (b := true) (by kernel_rfl) (by kernel_rfl) (by kernel_rfl) (fun _ _ h => h) (loadV (d := 70) (p := 13) p13 (by kernel_rfl) v13 (fun _ _ h => h)),
    stepG (i := 16) (j := 12) (dj := 67) (b := true) (by kernel_rfl) (by kernel_rfl) (by kernel_rfl) (fun _ _ h => h) (callPrintV (d := 71) (x := 70) (n := zmod x y) (k := 10000) (ts := #[31]) (by kernel_rfl) (fun _ _ h => h) (by omega) (fun _ _ h => h)),
    stepG (i := 17) (j := 12) (dj := 67) (b := true) (by kernel_rfl) (by kernel_rfl) (by kernel_rfl) (fun _ _ h => h) (eqlStrII (d := 72) (x := 69) (y := 71) (l := ztext (zmod x y)) (r := ztext (zmod x y)) (b := true) (by kernel_rfl) (by kernel_rfl) (fun _ _ h => h) (fun _ _ h => h) (beq_self_eq_true _) (fun _ _ h => h)),
    stepN (i := 18) (by kernel_rfl) (pickT (d := 73) (c := 67) (x := (.tmp 72)) (y := (.const (.bool false))) (by kernel_rfl) (fun _ _ h => h) fun _ _ _ _ D => D 72 (by kernel_rfl)),
    stepN (i := 19) (by kernel_rfl) (move (d := 74) (x := (.tmp 73)) fun _ _ _ _ D => D 73 (by kernel_rfl)),
    stepG (i := 20) (j := 19) (dj := 74) (b := true) (by kernel_rfl) (by kernel_rfl) (by kernel_rfl) (fun _ _ h => h) (loadW (d := 75) (p := 10) p10 (by kernel_rfl) v10 (fun _ _ h => h)),
    stepG (i := 21) (j := 19) (dj := 74) (b := true) (by kernel_rfl) (by kernel_rfl) (by kernel_rfl) (fun _ _ h => h) (callSignW (d := 76) (x := 75) (n := zmod x y) (k := (max 10 10 + 1)) (ts := #[28]) (by kernel_rfl) (fun _ _ h => h) (fun _ _ h => h)),
    stepG (i := 22) (j := 19) (dj := 74) (b := true) (by kernel_rfl) (by kernel_rfl) (by kernel_rfl) (fun _ _ h => h) (eqlI (d := 77) (x := 76) (m := (Int.sign (zmod x y))) (c := 0) (b := false) (by kernel_rfl) (fun _ _ h => h) (sgn_n0 hr) (fun _ _ h => h)),
    stepG (i := 23) (j := 19) (dj := 74) (b := true) (by kernel_rfl) (by kernel_rfl) (by kernel_rfl) (fun _ _ h => h) (move (d := 78) (x := (.tmp 77)) fun _ _ _ _ D => D 77 (by kernel_rfl)),
    stepG (i := 24) (j := 23) (dj := 78) (b := false) (by kernel_rfl) (by kernel_rfl) (by kernel_rfl) (fun _ _ h => h) (loadW (d := 79) (p := 10) p10 (by kernel_rfl) v10 (fun _ _ h => h)),
    stepG (i := 25) (j := 23) (dj := 78) (b := false) (by kernel_rfl) (by kernel_rfl) (by kernel_rfl) (fun _ _ h => h) (callSignW (d := 80) (x := 79) (n := zmod x y) (k := (max 10 10 + 1)) (ts := #[28]) (by kernel_rfl) (fun _ _ h => h) (fun _ _ h => h)),
    stepG (i := 26) (j := 23) (dj := 78) (b := false) (by kernel_rfl) (by kernel_rfl) (by kernel_rfl) (fun _ _ h => h) (loadW (d := 81) (p := 7) p7 (by kernel_rfl) v7 (fun _ _ h => h)),
    stepG (i := 27) (j := 23) (dj := 78) (b := false) (by kernel_rfl) (by kernel_rfl) (by kernel_rfl) (fun _ _ h => h) (callSignW (d := 82) (x := 81) (n := y) (k := 10) (ts := #[28]) (by kernel_rfl) (fun _ _ h => h) (fun _ _ h => h)),
    stepG (i := 28) (j := 23) (dj := 78) (b := false) (by kernel_rfl) (by kernel_rfl) (by kernel_rfl) (fun _ _ h => h) (eqlII (d := 83) (x := 80) (y := 82) (m := (Int.sign (zmod x y))) (c := (Int.sign y)) (b := true) (by kernel_rfl) (by kernel_rfl) (fun _ _ h => h) (fun _ _ h => h) (by rw [hs]; exact beq_self_eq_true _) (fun _ _ h => h)),
    stepG (i := 29) (j := 19) (dj := 74) (b := true) (by kernel_rfl) (by kernel_rfl) (by kernel_rfl) (fun _ _ h => h) (pickF (d := 84) (c := 78) (x := (.const (.bool true))) (y := (.tmp 83)) (by kernel_rfl) (fun _ _ h => h) fun _ _ _ _ D => D 83 (by kernel_rfl)),
    stepN (i := 30) (by kernel_rfl) (pickT (d := 85) (c := 74) (x := (.tmp 84)) (y := (.const (.bool false))) (by kernel_rfl) (fun _ _ h => h) fun _ _ _ _ D => D 84 (by kernel_rfl)),
    stepN (i := 31) (by kernel_rfl) (move (d := 86) (x := (.tmp 85)) fun _ _ _ _ D => D 85 (by kernel_rfl)),
    stepG (i := 32) (j := 31) (dj := 86) (b := true) (by kernel_rfl) (by kernel_rfl) (by kernel_rfl) (fun _ _ h => h) (loadW (d := 87) (p := 10) p10 (by kernel_rfl) v10 (fun _ _ h => h)),
    stepG (i := 33) (j := 31) (dj := 86) (b := true) (by kernel_rfl) (by kernel_rfl) (by kernel_rfl) (fun _ _ h => h) (callAbsW (d := 88) (x := 87) (n := zmod x y) (k := (max 10 10 + 1)) (ts := #[28]) (by kernel_rfl) (fun _ _ h => h) (fun _ _ h => h)),
    stepG (i := 34) (j := 31) (dj := 86) (b := true) (by kernel_rfl) (by kernel_rfl) (by kernel_rfl) (fun _ _ h => h) (loadW (d := 89) (p := 7) p7 (by kernel_rfl) v7 (fun _ _ h => h)),
    stepG (i := 35) (j := 31) (dj := 86) (b := true) (by kernel_rfl) (by kernel_rfl) (by kernel_rfl) (fun _ _ h => h) (callAbsW (d := 90) (x := 89) (n := y) (k := 10) (ts := #[28]) (by kernel_rfl) (fun _ _ h => h) (fun _ _ h => h)),
    stepG (i := 36) (j := 31) (dj := 86) (b := true) (by kernel_rfl) (by kernel_rfl) (by kernel_rfl) (fun _ _ h => h) (callCmp (d := 91) (x := 88) (y := 90) (n := (Int.natAbs (zmod x y))) (m := (Int.natAbs y)) (k := (max 10 10 + 1)) (j := 10) (ts := #[26, 26]) (by kernel_rfl) (by kernel_rfl) (fun _ _ h => h) (fun _ _ h => h) (by omega) (fun _ _ h => h)),
    stepG (i := 37) (j := 31) (dj := 86) (b := true) (by kernel_rfl) (by kernel_rfl) (by kernel_rfl) (fun _ _ h => h) (lssI (d := 92) (x := 91) (m := (Mx.cmp ((Int.natAbs (zmod x y))) ((Int.natAbs y)))) (c := 0) (b := true) (by kernel_rfl) (fun _ _ h => h) (by rw [Mx.cmp_lt hl]; rfl) (fun _ _ h => h)),
    stepN (i := 38) (by kernel_rfl) (pickT (d := 93) (c := 86) (x := (.tmp 92)) (y := (.const (.bool false))) (by kernel_rfl) (fun _ _ h => h) fun _ _ _ _ D => D 92 (by kernel_rfl)),
    stepN (i := 39) (by kernel_rfl) (move (d := 94) (x := (.tmp 93)) fun _ _ _ _ D => D 93 (by kernel_rfl)),
    stepG (i := 40) (j := 39) (dj := 94) (b := true) (by kernel_rfl) (by kernel_rfl) (by kernel_rfl) (fun _ _ h => h) (loadW (d := 95) (p := 9) p9 (by kernel_rfl) v9 (fun _ _ h => h)),
    stepG (i := 41) (j := 39) (dj := 94) (b := true) (by kernel_rfl) (by kernel_rfl) (by kernel_rfl) (fun _ _ h => h) (loadW (d := 96) (p := 7) p7 (by kernel_rfl) v7 (fun _ _ h => h)),
    stepG (i := 42) (j := 39) (dj := 94) (b := true) (by kernel_rfl) (by kernel_rfl) (by kernel_rfl) (fun _ _ h => h) (callMulW (d := 97) (x := 95) (y := 96) (n := zdiv x y) (m := y) (k := (max 10 1 + 1)) (j := 10) (ts := #[28, 28]) (by kernel_rfl) (by kernel_rfl) (fun _ _ h => h) (fun _ _ h => h) (by omega) (by omega) (fun _ _ h => h)),
    stepG (i := 43) (j := 39) (dj := 94) (b := true) (by kernel_rfl) (by kernel_rfl) (by kernel_rfl) (fun _ _ h => h) (loadW (d := 98) (p := 10) p10 (by kernel_rfl) v10 (fun _ _ h => h)),
    stepG (i := 44) (j := 39) (dj := 94) (b := true) (by kernel_rfl) (by kernel_rfl) (by kernel_rfl) (fun _ _ h => h) (callAddW (d := 99) (x := 97) (y := 98) (n := ((zdiv x y) * y)) (m := zmod x y) (k := ((max 10 1 + 1) + 10)) (j := (max 10 10 + 1)) (ts := #[28, 28]) (by kernel_rfl) (by kernel_rfl) (fun _ _ h => h) (fun _ _ h => h) (by omega) (by omega) (fun _ _ h => h)),
    stepG (i := 45) (j := 39) (dj := 94) (b := true) (by kernel_rfl) (by kernel_rfl) (by kernel_rfl) (fun _ _ h => h) (loadW (d := 100) (p := 5) p5 (by kernel_rfl) v5 (fun _ _ h => h)),
    stepG (i := 46) (j := 39) (dj := 94) (b := true) (by kernel_rfl) (by kernel_rfl) (by kernel_rfl) (fun _ _ h => h) (callCmpW (d := 101) (x := 99) (y := 100) (n := ((((zdiv x y) * y)) + (zmod x y))) (m := x) (k := (max ((max 10 1 + 1) + 10) (max 10 10 + 1) + 1)) (j := 10) (ts := #[28, 28]) (by kernel_rfl) (by kernel_rfl) (fun _ _ h => h) (fun _ _ h => h) (by omega) (by omega) (fun _ _ h => h)),
    stepG (i := 47) (j := 39) (dj := 94) (b := true) (by kernel_rfl) (by kernel_rfl) (by kernel_rfl) (fun _ _ h => h) (eqlI (d := 102) (x := 101) (m := (Int.sign ((((((zdiv x y) * y)) + (zmod x y))) - x))) (c := 0) (b := true) (by kernel_rfl) (fun _ _ h => h) (sgn_0 (by omega)) (fun _ _ h => h)),
    stepN (i := 48) (by kernel_rfl) (pickT (d := 103) (c := 94) (x := (.tmp 102)) (y := (.const (.bool false))) (by kernel_rfl) (fun _ _ h => h) fun _ _ _ _ D => D 102 (by kernel_rfl)),
    stepN (i := 49) (by kernel_rfl) (assign (d := 4) (x := (.tmp 103)) fun _ _ _ _ D => D 103 (by kernel_rfl)), trivial⟩
  · have e : look (floors7NFacts x y) 4 w (a.tmps.getD 4 undef) := h 4 (by kernel_rfl)
    exact e
end Go.Proofs.YtjgceldghelpiaaDoor.Rg
