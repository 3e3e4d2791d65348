/- The drawn region of Int: whatever its order. Written by a script (tools/laws). -/
import Derived.Test.YtjgceldghelpiaaDoorRgW
namespace Go.Proofs.YtjgceldghelpiaaDoor.Rg
open Go.RowKit

/-- What each operation of the region yields. -/
def int3LFacts (x : Int) (k : Nat) : List (Nat × (World → Value → Prop)) :=
  [(8, (fun w v => IsW w v (x) (k))),
   (9, (fun w v => IsW w v ((-9223372036854775808)) (1))),
   (10, (fun _ v => v = .int .i64 (Int.sign (x - ((-9223372036854775808)))))),
   (11, (fun _ v => v = .bool true)),
   (12, (fun _ v => v = .bool true)),
   (13, (fun _ v => v = undef)),
   (14, (fun _ v => v = undef)),
   (15, (fun _ v => v = undef)),
   (16, (fun _ v => v = undef)),
   (17, (fun _ v => v = .bool true))]
theorem int3LStable (x : Int) (k : Nat) : AllStable (int3LFacts x k) := ⟨st_W _ _, st_W _ _, st_eq _, st_eq _, st_eq _, st_eq _, st_eq _, st_eq _, st_eq _, st_eq _, trivial⟩

set_option maxRecDepth 100000 in
set_option maxHeartbeats 4000000 in
theorem int3L_region {Q : Exit → Act → World → Prop} {a0 : Act} {w0 : World} (x : Int) (k : Nat) (hn : a0.tmps.size = 30)
   {b1 : Nat} (p1 : a0.tmps.getD 1 undef = .pointer (some ⟨b1, 0, none⟩)) (v1 : VarW w0 b1 (x) k)
   (hk : k ≤ 4294967296) (hx : x < -9223372036854775808)
    (fin : ∀ a w, Grow w0 w → Agree (regionOps Tryd.f29 3) a0 a → a.tmps.getD 17 undef = .bool true → Q .normal a w) : (Code.region 3 (regionOps Tryd.f29 3) true).wp Tryd.prog Q a0 w0 := by
  refine region (n := 30) (F := look (int3LFacts x k)) (by kernel_rfl) hn (by kernel_rfl) (look_stable _ (int3LStable x k)) (fun i hi => all_from 10 0 ?_ i (Nat.zero_le _) (Nat.lt_of_lt_of_eq hi (by kernel_rfl)))
    fun a w hg ha h => fin a w hg ha ?_
  · exact ⟨
    stepN (i := 0) (by kernel_rfl) (loadW (d := 8) (p := 1) p1 (by kernel_rfl) v1 (fun _ _ h => h)),
    stepN (i := 1) (by kernel_rfl) (callFromW (d := 9) (c := (-9223372036854775808)) (ts := #[3]) (by decide) (by decide) (fun _ _ h => h)),
    stepN (i := 2) (by kernel_rfl) (callCmpW (d := 10) (x := 8) (y := 9) (n := x) (m := (-9223372036854775808)) (k := k) (j := 1) (ts := #[28, 28]) (by kernel_rfl) (by kernel_rfl) (fun _ _ h => h) (fun _ _ h => h) (by omega) (by omega) (fun _ _ h => h)),
    stepN (i := 3) (by kernel_rfl) (lssI (d := 11) (x := 10) (m := (Int.sign (x - ((-9223372036854775808))))) (c := 0) (b := true) (by kernel_rfl) (fun _ _ h => h) (decide_eq_true (sgn_lt (by omega))) (fun _ _ h => h)),
    stepN (i := 4) (by kernel_rfl) (move (d := 12) (x := (.tmp 11)) fun _ _ _ _ D => D 11 (by kernel_rfl)),
    stepS (i := 5) (j := 4) (dj := 12) (b := false) (c := true) (dst := some 13) (op := (.load 28 (.tmp 1))) (by kernel_rfl) (by kernel_rfl) (by kernel_rfl) (fun _ _ h => h) rfl (fun d hd w => by cases hd; exact rfl),
    stepS (i := 6) (j := 4) (dj := 12) (b := false) (c := true) (dst := some 14) (op := (.call { callee := .value (.func 28), args := #[(.const (.int .i64 9223372036854775807))], argTypes := #[3] })) (by kernel_rfl) (by kernel_rfl) (by kernel_rfl) (fun _ _ h => h) rfl (fun d hd w => by cases hd; exact rfl),
    stepS (i := 7) (j := 4) (dj := 12) (b := false) (c := true) (dst := some 15) (op := (.call { callee := .value (.func 18), args := #[(.tmp 13), (.tmp 14)], argTypes := #[28, 28] })) (by kernel_rfl) (by kernel_rfl) (by kernel_rfl) (fun _ _ h => h) rfl (fun d hd w => by cases hd; exact rfl),
    stepS (i := 8) (j := 4) (dj := 12) (b := false) (c := true) (dst := some 16) (op := (.binOp .gtr 3 (.tmp 15) (.const (.int .i64 0)) 3)) (by kernel_rfl) (by kernel_rfl) (by kernel_rfl) (fun _ _ h => h) rfl (fun d hd w => by cases hd; exact rfl),
    stepN (i := 9) (by kernel_rfl) (pickT (d := 17) (c := 12) (x := (.const (.bool true))) (y := (.tmp 16)) (by kernel_rfl) (fun _ _ h => h) fun _ _ _ _ _ => rfl), trivial⟩
  · have e : look (int3LFacts x k) 17 w (a.tmps.getD 17 undef) := h 17 (by kernel_rfl)
    exact e

/-- What each operation of the region yields. -/
def int3HFacts (x : Int) (k : Nat) : List (Nat × (World → Value → Prop)) :=
  [(8, (fun w v => IsW w v (x) (k))),
   (9, (fun w v => IsW w v ((-9223372036854775808)) (1))),
   (10, (fun _ v => v = .int .i64 (Int.sign (x - ((-9223372036854775808)))))),
   (11, (fun _ v => v = .bool false)),
   (12, (fun _ v => v = .bool false)),
   (13, (fun w v => IsW w v (x) (k))),
   (14, (fun w v => IsW w v (9223372036854775807) (1))),
   (15, (fun _ v => v = .int .i64 (Int.sign (x - 9223372036854775807)))),
   (16, (fun _ v => v = .bool true)),
   (17, (fun _ v => v = .bool true))]
theorem int3HStable (x : Int) (k : Nat) : AllStable (int3HFacts x k) := ⟨st_W _ _, st_W _ _, st_eq _, st_eq _, st_eq _, st_W _ _, st_W _ _, st_eq _, st_eq _, st_eq _, trivial⟩

set_option maxRecDepth 100000 in
set_option maxHeartbeats 4000000 in
theorem int3H_region {Q : Exit → Act → World → Prop} {a0 : Act} {w0 : World} (x : Int) (k : Nat) (hn : a0.tmps.size = 30)
   {b1 : Nat} (p1 : a0.tmps.getD 1 undef = .pointer (some ⟨b1, 0, none⟩)) (v1 : VarW w0 b1 (x) k)
   (hk : k ≤ 4294967296) (hx : 9223372036854775807 < x)
    (fin : ∀ a w, Grow w0 w → Agree (regionOps Tryd.f29 3) a0 a → a.tmps.getD 17 undef = .bool true → Q .normal a w) : (Code.region 3 (regionOps Tryd.f29 3) true).wp Tryd.prog Q a0 w0 := by
  refine region (n := 30) (F := look (int3HFacts x k)) (by kernel_rfl) hn (by kernel_rfl) (look_stable _ (int3HStable x k)) (fun i hi => all_from 10 0 ?_ i (Nat.zero_le _) (Nat.lt_of_lt_of_eq hi (by kernel_rfl)))
    fun a w hg ha h => fin a w hg ha ?_
  · exact ⟨
    stepN (i := 0) (by kernel_rfl) (loadW (d := 8) (p := 1) p1 (by kernel_rfl) v1 (fun _ _ h => h)),
    stepN (i := 1) (by kernel_rfl) (callFromW (d := 9) (c := (-9223372036854775808)) (ts := #[3]) (by decide) (by decide) (fun _ _ h => h)),
    stepN (i := 2) (by kernel_rfl) (callCmpW (d := 10) (x := 8) (y := 9) (n := x) (m := (-9223372036854775808)) (k := k) (j := 1) (ts := #[28, 28]) (by kernel_rfl) (by kernel_rfl) (fun _ _ h => h) (fun _ _ h => h) (by omega) (by omega) (fun _ _ h => h)),
    stepN (i := 3) (by kernel_rfl) (lssI (d := 11) (x := 10) (m := (Int.sign (x - ((-9223372036854775808))))) (c := 0) (b := false) (by kernel_rfl) (fun _ _ h => h) (decide_eq_false (sgn_nlt (by omega))) (fun _ _ h => h)),
    stepN (i := 4) (by kernel_rfl) (move (d := 12) (x := (.tmp 11)) fun _ _ _ _ D => D 11 (by kernel_rfl)),
    stepG (i := 5) (j := 4) (dj := 12) (b := false) (by kernel_rfl) (by kernel_rfl) (by kernel_rfl) (fun _ _ h => h) (loadW (d := 13) (p := 1) p1 (by kernel_rfl) v1 (fun _ _ h => h)),
    stepG (i := 6) (j := 4) (dj := 12) (b := false) (by kernel_rfl) (by kernel_rfl) (by kernel_rfl) (fun _ _ h => h) (callFromW (d := 14) (c := 9223372036854775807) (ts := #[3]) (by decide) (by decide) (fun _ _ h => h)),
    stepG (i := 7) (j := 4) (dj := 12) (b := false) (by kernel_rfl) (by kernel_rfl) (by kernel_rfl) (fun _ _ h => h) (callCmpW (d := 15) (x := 13) (y := 14) (n := x) (m := 9223372036854775807) (k := k) (j := 1) (ts := #[28, 28]) (by kernel_rfl) (by kernel_rfl) (fun _ _ h => h) (fun _ _ h => h) (by omega) (by omega) (fun _ _ h => h)),
    stepG (i := 8) (j := 4) (dj := 12) (b := false) (by kernel_rfl) (by kernel_rfl) (by kernel_rfl) (fun _ _ h => h) (gtrI (d := 16) (x := 15) (m := (Int.sign (x - 9223372036854775807))) (c := 0) (b := true) (by kernel_rfl) (fun _ _ h => h) (decide_eq_true (sgn_gt (by omega))) (fun _ _ h => h)),
    stepN (i := 9) (by kernel_rfl) (pickF (d := 17) (c := 12) (x := (.const (.bool true))) (y := (.tmp 16)) (by kernel_rfl) (fun _ _ h => h) fun _ _ _ _ D => D 16 (by kernel_rfl)), trivial⟩
  · have e : look (int3HFacts x k) 17 w (a.tmps.getD 17 undef) := h 17 (by kernel_rfl)
    exact e

/-- What each operation of the region yields. -/
def int3MFacts (x : Int) (k : Nat) : List (Nat × (World → Value → Prop)) :=
  [(8, (fun w v => IsW w v (x) (k))),
   (9, (fun w v => IsW w v ((-9223372036854775808)) (1))),
   (10, (fun _ v => v = .int .i64 (Int.sign (x - ((-9223372036854775808)))))),
   (11, (fun _ v => v = .bool false)),
   (12, (fun _ v => v = .bool false)),
   (13, (fun w v => IsW w v (x) (k))),
   (14, (fun w v => IsW w v (9223372036854775807) (1))),
   (15, (fun _ v => v = .int .i64 (Int.sign (x - 9223372036854775807)))),
   (16, (fun _ v => v = .bool false)),
   (17, (fun _ v => v = .bool false))]
theorem int3MStable (x : Int) (k : Nat) : AllStable (int3MFacts x k) := ⟨st_W _ _, st_W _ _, st_eq _, st_eq _, st_eq _, st_W _ _, st_W _ _, st_eq _, st_eq _, st_eq _, trivial⟩

set_option maxRecDepth 100000 in
set_option maxHeartbeats 4000000 in
theorem int3M_region {Q : Exit → Act → World → Prop} {a0 : Act} {w0 : World} (x : Int) (k : Nat) (hn : a0.tmps.size = 30)
   {b1 : Nat} (p1 : a0.tmps.getD 1 undef = .pointer (some ⟨b1, 0, none⟩)) (v1 : VarW w0 b1 (x) k)
   (hk : k ≤ 4294967296) (hx : -9223372036854775808 ≤ x ∧ x ≤ 9223372036854775807)
    (fin : ∀ a w, Grow w0 w → Agree (regionOps Tryd.f29 3) a0 a → a.tmps.getD 17 undef = .bool false → Q .normal a w) : (Code.region 3 (regionOps Tryd.f29 3) true).wp Tryd.prog Q a0 w0 := by
  refine region (n := 30) (F := look (int3MFacts x k)) (by kernel_rfl) hn (by kernel_rfl) (look_stable _ (int3MStable x k)) (fun i hi => all_from 10 0 ?_ i (Nat.zero_le _) (Nat.lt_of_lt_of_eq hi (by kernel_rfl)))
    fun a w hg ha h => fin a w hg ha ?_
  · exact ⟨
    stepN (i := 0) (by kernel_rfl) (loadW (d := 8) (p := 1) p1 (by kernel_rfl) v1 (fun _ _ h => h)),
    stepN (i := 1) (by kernel_rfl) (callFromW (d := 9) (c := (-9223372036854775808)) (ts := #[3]) (by decide) (by decide) (fun _ _ h => h)),
    stepN (i := 2) (by kernel_rfl) (callCmpW (d := 10) (x := 8) (y := 9) (n := x) (m := (-9223372036854775808)) (k := k) (j := 1) (ts := #[28, 28]) (by kernel_rfl) (by kernel_rfl) (fun _ _ h => h) (fun _ _ h => h) (by omega) (by omega) (fun _ _ h => h)),
    stepN (i := 3) (by kernel_rfl) (lssI (d := 11) (x := 10) (m := (Int.sign (x - ((-9223372036854775808))))) (c := 0) (b := false) (by kernel_rfl) (fun _ _ h => h) (decide_eq_false (sgn_nlt (by omega))) (fun _ _ h => h)),
    stepN (i := 4) (by kernel_rfl) (move (d := 12) (x := (.tmp 11)) fun _ _ _ _ D => D 11 (by kernel_rfl)),
    stepG (i := 5) (j := 4) (dj := 12) (b := false) (by kernel_rfl) (by kernel_rfl) (by kernel_rfl) (fun _ _ h => h) (loadW (d := 13) (p := 1) p1 (by kernel_rfl) v1 (fun _ _ h => h)),
    stepG (i := 6) (j := 4) (dj := 12) (b := false) (by kernel_rfl) (by kernel_rfl) (by kernel_rfl) (fun _ _ h => h) (callFromW (d := 14) (c := 9223372036854775807) (ts := #[3]) (by decide) (by decide) (fun _ _ h => h)),
    stepG (i := 7) (j := 4) (dj := 12) (b := false) (by kernel_rfl) (by kernel_rfl) (by kernel_rfl) (fun _ _ h => h) (callCmpW (d := 15) (x := 13) (y := 14) (n := x) (m := 9223372036854775807) (k := k) (j := 1) (ts := #[28, 28]) (by kernel_rfl) (by kernel_rfl) (fun _ _ h => h) (fun _ _ h => h) (by omega) (by omega) (fun _ _ h => h)),
    stepG (i := 8) (j := 4) (dj := 12) (b := false) (by kernel_rfl) (by kernel_rfl) (by kernel_rfl) (fun _ _ h => h) (gtrI (d := 16) (x := 15) (m := (Int.sign (x - 9223372036854775807))) (c := 0) (b := false) (by kernel_rfl) (fun _ _ h => h) (decide_eq_false (sgn_ngt (by omega))) (fun _ _ h => h)),
    stepN (i := 9) (by kernel_rfl) (pickF (d := 17) (c := 12) (x := (.const (.bool true))) (y := (.tmp 16)) (by kernel_rfl) (fun _ _ h => h) fun _ _ _ _ D => D 16 (by kernel_rfl)), trivial⟩
  · have e : look (int3MFacts x k) 17 w (a.tmps.getD 17 undef) := h 17 (by kernel_rfl)
    exact e
end Go.Proofs.YtjgceldghelpiaaDoor.Rg
