/- The drawn regions of the law WholeInts: whatever their order. Written by a script (tools/laws). -/
import Derived.Test.YtjgceldghelpiaaDoorRgI
import Derived.Test.YtjgceldghelpiaaDoorRgy
namespace Go.Proofs.YtjgceldghelpiaaDoor.Rg
open Go.RowKit

/-- What each operation of the region yields. -/
def ints4LFacts (x : Int) : List (Nat × (World → Value → Prop)) :=
  [(33, (fun w v => IsW w v (x) (10))),
   (34, (fun w v => IsW w v (9223372036854775807) (1))),
   (35, (fun _ v => v = .int .i64 (Int.sign (x - 9223372036854775807)))),
   (36, (fun _ v => v = .bool true)),
   (37, (fun _ v => v = .bool true)),
   (38, (fun w v => IsW w v (x) (10))),
   (39, (fun w v => IsW w v ((-9223372036854775808)) (1))),
   (40, (fun _ v => v = .int .i64 (Int.sign (x - ((-9223372036854775808)))))),
   (41, (fun _ v => v = .bool false)),
   (42, (fun _ v => v = .bool false)),
   (11, (fun _ v => v = .bool false))]
theorem ints4LStable (x : Int) : AllStable (ints4LFacts x) := ⟨st_W _ _, st_W _ _, st_eq _, st_eq _, st_eq _, st_W _ _, st_W _ _, st_eq _, st_eq _, st_eq _, st_eq _, trivial⟩

set_option maxRecDepth 100000 in
set_option maxHeartbeats 4000000 in
theorem ints4L_region {Q : Exit → Act → World → Prop} {a0 : Act} {w0 : World} (x : Int) (hn : a0.tmps.size = 108)
   {b7 : Nat} (p7 : a0.tmps.getD 7 undef = .pointer (some ⟨b7, 0, none⟩)) (v7 : VarW w0 b7 (x) 10)
   (hx : x < -9223372036854775808)
    (fin : ∀ a w, Grow w0 w → Agree (regionOps Tryd.f5 4) a0 a → a.tmps.getD 11 undef = .bool false → Q .normal a w) : (Code.region 4 (regionOps Tryd.f5 4) true).wp Tryd.prog Q a0 w0 := by
  refine region (n := 108) (F := look (ints4LFacts x)) (by kernel_rfl) hn (by kernel_rfl) (look_stable _ (ints4LStable x)) (fun i hi => all_from 11 0 ?_ i (Nat.zero_le _) (Nat.lt_of_lt_of_eq hi (by kernel_rfl)))
    fun a w hg ha h => fin a w hg ha ?_
  · exact ⟨
    stepN (i := 0) (by kernel_rfl) (loadW (d := 33) (p := 7) p7 (by kernel_rfl) v7 (fun _ _ h => h)),
    stepN (i := 1) (by kernel_rfl) (callFromW (d := 34) (c := 9223372036854775807) (ts := #[3]) (by decide) (by decide) (fun _ _ h => h)),
    stepN (i := 2) (by kernel_rfl) (callCmpW (d := 35) (x := 33) (y := 34) (n := x) (m := 9223372036854775807) (k := 10) (j := 1) (ts := #[28, 28]) (by kernel_rfl) (by kernel_rfl) (fun _ _ h => h) (fun _ _ h => h) (by omega) (by omega) (fun _ _ h => h)),
    stepN (i := 3) (by kernel_rfl) (leqI (d := 36) (x := 35) (m := (Int.sign (x - 9223372036854775807))) (c := 0) (b := true) (by kernel_rfl) (fun _ _ h => h) (decide_eq_true (by have := sgn_ngt (x := x - 9223372036854775807) (by omega); omega)) (fun _ _ h => h)),
    stepN (i := 4) (by kernel_rfl) (move (d := 37) (x := (.tmp 36)) fun _ _ _ _ D => D 36 (by kernel_rfl)),
    stepG (i := 5) (j := 4) (dj := 37) (b := true) (by kernel_rfl) (by kernel_rfl) (by kernel_rfl) (fun _ _ h => h) (loadW (d := 38) (p := 7) p7 (by kernel_rfl) v7 (fun _ _ h => h)),
    stepG (i := 6) (j := 4) (dj := 37) (b := true) (by kernel_rfl) (by kernel_rfl) (by kernel_rfl) (fun _ _ h => h) (callFromW (d := 39) (c := (-9223372036854775808)) (ts := #[3]) (by decide) (by decide) (fun _ _ h => h)),
    stepG (i := 7) (j := 4) (dj := 37) (b := true) (by kernel_rfl) (by kernel_rfl) (by kernel_rfl) (fun _ _ h => h) (callCmpW (d := 40) (x := 38) (y := 39) (n := x) (m := (-9223372036854775808)) (k := 10) (j := 1) (ts := #[28, 28]) (by kernel_rfl) (by kernel_rfl) (fun _ _ h => h) (fun _ _ h => h) (by omega) (by omega) (fun _ _ h => h)),
    stepG (i := 8) (j := 4) (dj := 37) (b := true) (by kernel_rfl) (by kernel_rfl) (by kernel_rfl) (fun _ _ h => h) (geqI (d := 41) (x := 40) (m := (Int.sign (x - ((-9223372036854775808))))) (c := 0) (b := false) (by kernel_rfl) (fun _ _ h => h) (decide_eq_false (by have := sgn_lt (x := x - (-9223372036854775808)) (by omega); omega)) (fun _ _ h => h)),
    stepN (i := 9) (by kernel_rfl) (pickT (d := 42) (c := 37) (x := (.tmp 41)) (y := (.const (.bool false))) (by kernel_rfl) (fun _ _ h => h) fun _ _ _ _ D => D 41 (by kernel_rfl)),
    stepN (i := 10) (by kernel_rfl) (assign (d := 11) (x := (.tmp 42)) fun _ _ _ _ D => D 42 (by kernel_rfl)), trivial⟩
  · have e : look (ints4LFacts x) 11 w (a.tmps.getD 11 undef) := h 11 (by kernel_rfl)
    exact e

/-- What each operation of the region yields. -/
def ints4HFacts (x : Int) : List (Nat × (World → Value → Prop)) :=
  [(33, (fun w v => IsW w v (x) (10))),
   (34, (fun w v => IsW w v (9223372036854775807) (1))),
   (35, (fun _ v => v = .int .i64 (Int.sign (x - 9223372036854775807)))),
   (36, (fun _ v => v = .bool false)),
   (37, (fun _ v => v = .bool false)),
   (38, (fun _ v => v = undef)),
   (39, (fun _ v => v = undef)),
   (40, (fun _ v => v = undef)),
   (41, (fun _ v => v = undef)),
   (42, (fun _ v => v = .bool false)),
   (11, (fun _ v => v = .bool false))]
theorem ints4HStable (x : Int) : AllStable (ints4HFacts x) := ⟨st_W _ _, st_W _ _, st_eq _, st_eq _, st_eq _, st_eq _, st_eq _, st_eq _, st_eq _, st_eq _, st_eq _, trivial⟩

set_option maxRecDepth 100000 in
set_option maxHeartbeats 4000000 in
theorem ints4H_region {Q : Exit → Act → World → Prop} {a0 : Act} {w0 : World} (x : Int) (hn : a0.tmps.size = 108)
   {b7 : Nat} (p7 : a0.tmps.getD 7 undef = .pointer (some ⟨b7, 0, none⟩)) (v7 : VarW w0 b7 (x) 10)
   (hx : 9223372036854775807 < x)
    (fin : ∀ a w, Grow w0 w → Agree (regionOps Tryd.f5 4) a0 a → a.tmps.getD 11 undef = .bool false → Q .normal a w) : (Code.region 4 (regionOps Tryd.f5 4) true).wp Tryd.prog Q a0 w0 := by
  refine region (n := 108) (F := look (ints4HFacts x)) (by kernel_rfl) hn (by kernel_rfl) (look_stable _ (ints4HStable x)) (fun i hi => all_from 11 0 ?_ i (Nat.zero_le _) (Nat.lt_of_lt_of_eq hi (by kernel_rfl)))
    fun a w hg ha h => fin a w hg ha ?_
  · exact ⟨
    stepN (i := 0) (by kernel_rfl) (loadW (d := 33) (p := 7) p7 (by kernel_rfl) v7 (fun _ _ h => h)),
    stepN (i := 1) (by kernel_rfl) (callFromW (d := 34) (c := 9223372036854775807) (ts := #[3]) (by decide) (by decide) (fun _ _ h => h)),
    stepN (i := 2) (by kernel_rfl) (callCmpW (d := 35) (x := 33) (y := 34) (n := x) (m := 9223372036854775807) (k := 10) (j := 1) (ts := #[28, 28]) (by kernel_rfl) (by kernel_rfl) (fun _ _ h => h) (fun _ _ h => h) (by omega) (by omega) (fun _ _ h => h)),
    stepN (i := 3) (by kernel_rfl) (leqI (d := 36) (x := 35) (m := (Int.sign (x - 9223372036854775807))) (c := 0) (b := false) (by kernel_rfl) (fun _ _ h => h) (decide_eq_false (by have := sgn_gt (x := x - 9223372036854775807) (by omega); omega)) (fun _ _ h => h)),
    stepN (i := 4) (by kernel_rfl) (move (d := 37) (x := (.tmp 36)) fun _ _ _ _ D => D 36 (by kernel_rfl)),
    stepS (i := 5) (j := 4) (dj := 37) (b := true) (c := false) (dst := some 38) (op := (.load 28 (.tmp 7))) (by kernel_rfl) (by kernel_rfl) (by kernel_rfl) (fun _ _ h => h) rfl (fun d hd w => by cases hd; exact rfl),
    stepS (i := 6) (j := 4) (dj := 37) (b := true) (c := false) (dst := some 39) (op := (.call { callee := .value (.func 28), args := #[(.const (.int .i64 (-9223372036854775808)))], argTypes := #[3] })) (by kernel_rfl) (by kernel_rfl) (by kernel_rfl) (fun _ _ h => h) rfl (fun d hd w => by cases hd; exact rfl),
    stepS (i := 7) (j := 4) (dj := 37) (b := true) (c := false) (dst := some 40) (op := (.call { callee := .value (.func 18), args := #[(.tmp 38), (.tmp 39)], argTypes := #[28, 28] })) (by kernel_rfl) (by kernel_rfl) (by kernel_rfl) (fun _ _ h => h) rfl (fun d hd w => by cases hd; exact rfl),
    stepS (i := 8) (j := 4) (dj := 37) (b := true) (c := false) (dst := some 41) (op := (.binOp .geq 3 (.tmp 40) (.const (.int .i64 0)) 3)) (by kernel_rfl) (by kernel_rfl) (by kernel_rfl) (fun _ _ h => h) rfl (fun d hd w => by cases hd; exact rfl),
    stepN (i := 9) (by kernel_rfl) (pickF (d := 42) (c := 37) (x := (.tmp 41)) (y := (.const (.bool false))) (by kernel_rfl) (fun _ _ h => h) fun _ _ _ _ _ => rfl),
    stepN (i := 10) (by kernel_rfl) (assign (d := 11) (x := (.tmp 42)) fun _ _ _ _ D => D 42 (by kernel_rfl)), trivial⟩
  · have e : look (ints4HFacts x) 11 w (a.tmps.getD 11 undef) := h 11 (by kernel_rfl)
    exact e

/-- What each operation of the region yields. -/
def ints4MFacts (x : Int) : List (Nat × (World → Value → Prop)) :=
  [(33, (fun w v => IsW w v (x) (10))),
   (34, (fun w v => IsW w v (9223372036854775807) (1))),
   (35, (fun _ v => v = .int .i64 (Int.sign (x - 9223372036854775807)))),
   (36, (fun _ v => v = .bool true)),
   (37, (fun _ v => v = .bool true)),
   (38, (fun w v => IsW w v (x) (10))),
   (39, (fun w v => IsW w v ((-9223372036854775808)) (1))),
   (40, (fun _ v => v = .int .i64 (Int.sign (x - ((-9223372036854775808)))))),
   (41, (fun _ v => v = .bool true)),
   (42, (fun _ v => v = .bool true)),
   (11, (fun _ v => v = .bool true))]
theorem ints4MStable (x : Int) : AllStable (ints4MFacts x) := ⟨st_W _ _, st_W _ _, st_eq _, st_eq _, st_eq _, st_W _ _, st_W _ _, st_eq _, st_eq _, st_eq _, st_eq _, trivial⟩

set_option maxRecDepth 100000 in
set_option maxHeartbeats 4000000 in
theorem ints4M_region {Q : Exit → Act → World → Prop} {a0 : Act} {w0 : World} (x : Int) (hn : a0.tmps.size = 108)
   {b7 : Nat} (p7 : a0.tmps.getD 7 undef = .pointer (some ⟨b7, 0, none⟩)) (v7 : VarW w0 b7 (x) 10)
   (hx : -9223372036854775808 ≤ x ∧ x ≤ 9223372036854775807)
    (fin : ∀ a w, Grow w0 w → Agree (regionOps Tryd.f5 4) a0 a → a.tmps.getD 11 undef = .bool true → Q .normal a w) : (Code.region 4 (regionOps Tryd.f5 4) true).wp Tryd.prog Q a0 w0 := by
  refine region (n := 108) (F := look (ints4MFacts x)) (by kernel_rfl) hn (by kernel_rfl) (look_stable _ (ints4MStable x)) (fun i hi => all_from 11 0 ?_ i (Nat.zero_le _) (Nat.lt_of_lt_of_eq hi (by kernel_rfl)))
    fun a w hg ha h => fin a w hg ha ?_
  · exact ⟨
    stepN (i := 0) (by kernel_rfl) (loadW (d := 33) (p := 7) p7 (by kernel_rfl) v7 (fun _ _ h => h)),
    stepN (i := 1) (by kernel_rfl) (callFromW (d := 34) (c := 9223372036854775807) (ts := #[3]) (by decide) (by decide) (fun _ _ h => h)),
    stepN (i := 2) (by kernel_rfl) (callCmpW (d := 35) (x := 33) (y := 34) (n := x) (m := 9223372036854775807) (k := 10) (j := 1) (ts := #[28, 28]) (by kernel_rfl) (by kernel_rfl) (fun _ _ h => h) (fun _ _ h => h) (by omega) (by omega) (fun _ _ h => h)),
    stepN (i := 3) (by kernel_rfl) (leqI (d := 36) (x := 35) (m := (Int.sign (x - 9223372036854775807))) (c := 0) (b := true) (by kernel_rfl) (fun _ _ h => h) (decide_eq_true (by have := sgn_ngt (x := x - 9223372036854775807) (by omega); omega)) (fun _ _ h => h)),
    stepN (i := 4) (by kernel_rfl) (move (d := 37) (x := (.tmp 36)) fun _ _ _ _ D => D 36 (by kernel_rfl)),
    stepG (i := 5) (j := 4) (dj := 37) (b := true) (by kernel_rfl) (by kernel_rfl) (by kernel_rfl) (fun _ _ h => h) (loadW (d := 38) (p := 7) p7 (by kernel_rfl) v7 (fun _ _ h => h)),
    stepG (i := 6) (j := 4) (dj := 37) (b := true) (by kernel_rfl) (by kernel_rfl) (by kernel_rfl) (fun _ _ h => h) (callFromW (d := 39) (c := (-9223372036854775808)) (ts := #[3]) (by decide) (by decide) (fun _ _ h => h)),
    stepG (i := 7) (j := 4) (dj := 37) (b := true) (by kernel_rfl) (by kernel_rfl) (by kernel_rfl) (fun _ _ h => h) (callCmpW (d := 40) (x := 38) (y := 39) (n := x) (m := (-9223372036854775808)) (k := 10) (j := 1) (ts := #[28, 28]) (by kernel_rfl) (by kernel_rfl) (fun _ _ h => h) (fun _ _ h => h) (by omega) (by omega) (fun _ _ h => h)),
    stepG (i := 8) (j := 4) (dj := 37) (b := true) (by kernel_rfl) (by kernel_rfl) (by kernel_rfl) (fun _ _ h => h) (geqI (d := 41) (x := 40) (m := (Int.sign (x - ((-9223372036854775808))))) (c := 0) (b := true) (by kernel_rfl) (fun _ _ h => h) (decide_eq_true (by have := sgn_nlt (x := x - (-9223372036854775808)) (by omega); omega)) (fun _ _ h => h)),
    stepN (i := 9) (by kernel_rfl) (pickT (d := 42) (c := 37) (x := (.tmp 41)) (y := (.const (.bool false))) (by kernel_rfl) (fun _ _ h => h) fun _ _ _ _ D => D 41 (by kernel_rfl)),
    stepN (i := 10) (by kernel_rfl) (assign (d := 11) (x := (.tmp 42)) fun _ _ _ _ D => D 42 (by kernel_rfl)), trivial⟩
  · have e : look (ints4MFacts x) 11 w (a.tmps.getD 11 undef) := h 11 (by kernel_rfl)
    exact e

/-- What each operation of the region yields. -/
def ints6Facts  : List (Nat × (World → Value → Prop)) :=
  [(45, (fun w v => IsW w v (9223372036854775807) (1))),
   (46, (fun w v => IsW w v (1) (1))),
   (47, (fun w v => IsW w v ((9223372036854775807 + 1)) ((max 1 1 + 1)))),
   (48, (fun _ v => v = .tuple #[.int .i64 0, .bool false])),
   (44, (fun _ v => v = .tuple #[.int .i64 0, .bool false])),
   (49, (fun _ v => v = .int .i64 0)),
   (50, (fun _ v => v = .bool false)),
   (13, (fun _ v => v = .int .i64 0)),
   (14, (fun _ v => v = .bool false))]
theorem ints6Stable  : AllStable (ints6Facts ) := ⟨st_W _ _, st_W _ _, st_W _ _, st_eq _, st_eq _, st_eq _, st_eq _, st_eq _, st_eq _, trivial⟩

set_option maxRecDepth 100000 in
set_option maxHeartbeats 4000000 in
theorem ints6_region {Q : Exit → Act → World → Prop} {a0 : Act} {w0 : World}  (hn : a0.tmps.size = 108)
   {b12 : Nat} (p12 : a0.tmps.getD 12 undef = .pointer (some ⟨b12, 0, none⟩)) (v12 : VarW w0 b12 (1) 1)
   
    (fin : ∀ a w, Grow w0 w → Agree (regionOps Tryd.f5 6) a0 a → a.tmps.getD 13 undef = .int .i64 0 → a.tmps.getD 14 undef = .bool false → Q .normal a w) : (Code.region 6 (regionOps Tryd.f5 6) true).wp Tryd.prog Q a0 w0 := by
  refine regionV (n := 108) (F := look (ints6Facts )) (by kernel_rfl) hn (by kernel_rfl) (look_stable _ (ints6Stable )) (fun i hi => all_from 9 0 ?_ i (Nat.zero_le _) (Nat.lt_of_lt_of_eq hi (by kernel_rfl)))
    fun a w hg ha h => fin a w hg ha ?_ ?_
  · exact ⟨
    stepN (i := 0) (by kernel_rfl) (callFromW (d := 45) (c := 9223372036854775807) (ts := #[3]) (by decide) (by decide) (fun _ _ h => h)),
    stepN (i := 1) (by kernel_rfl) (loadW (d := 46) (p := 12) p12 (by kernel_rfl) v12 (fun _ _ h => h)),
    stepN (i := 2) (by kernel_rfl) (callAddW (d := 47) (x := 45) (y := 46) (n := 9223372036854775807) (m := 1) (k := 1) (j := 1) (ts := #[28, 28]) (by kernel_rfl) (by kernel_rfl) (fun _ _ h => h) (fun _ _ h => h) (by omega) (by omega) (fun _ _ h => h)),
    stepN (i := 3) (by kernel_rfl) (callIntNo (d := 48) (x := 47) (n := (9223372036854775807 + 1)) (k := (max 1 1 + 1)) (ts := #[28]) (by kernel_rfl) (fun _ _ h => h) (by omega) (by omega) (fun _ _ h => h)),
    stepN (i := 4) (by kernel_rfl) (move (d := 44) (x := (.tmp 48)) fun _ _ _ _ D => D 48 (by kernel_rfl)),
    stepN (i := 5) (by kernel_rfl) (extractV (d := 49) (x := 44) (j := 0) (vs := #[.int .i64 0, .bool false]) (u := .int .i64 0) (by kernel_rfl) (fun _ _ h => h) rfl (fun _ _ h => h)),
    stepN (i := 6) (by kernel_rfl) (extractV (d := 50) (x := 44) (j := 1) (vs := #[.int .i64 0, .bool false]) (u := .bool false) (by kernel_rfl) (fun _ _ h => h) rfl (fun _ _ h => h)),
    stepN (i := 7) (by kernel_rfl) (assign (d := 13) (x := (.tmp 49)) fun _ _ _ _ D => D 49 (by kernel_rfl)),
    stepN (i := 8) (by kernel_rfl) (assign (d := 14) (x := (.tmp 50)) fun _ _ _ _ D => D 50 (by kernel_rfl)), trivial⟩
  · have e : look (ints6Facts ) 13 w (a.tmps.getD 13 undef) := h 13 (by kernel_rfl)
    exact e
  · have e : look (ints6Facts ) 14 w (a.tmps.getD 14 undef) := h 14 (by kernel_rfl)
    exact e

/-- What each operation of the region yields. -/
def ints7Facts  : List (Nat × (World → Value → Prop)) :=
  [(52, (fun w v => IsW w v ((-9223372036854775808)) (1))),
   (53, (fun w v => IsW w v (1) (1))),
   (54, (fun w v => IsW w v ((((-9223372036854775808)) - 1)) ((max 1 1 + 1)))),
   (55, (fun _ v => v = .tuple #[.int .i64 0, .bool false])),
   (51, (fun _ v => v = .tuple #[.int .i64 0, .bool false])),
   (56, (fun _ v => v = .int .i64 0)),
   (57, (fun _ v => v = .bool false)),
   (15, (fun _ v => v = .int .i64 0)),
   (16, (fun _ v => v = .bool false))]
theorem ints7Stable  : AllStable (ints7Facts ) := ⟨st_W _ _, st_W _ _, st_W _ _, st_eq _, st_eq _, st_eq _, st_eq _, st_eq _, st_eq _, trivial⟩

set_option maxRecDepth 100000 in
set_option maxHeartbeats 4000000 in
theorem ints7_region {Q : Exit → Act → World → Prop} {a0 : Act} {w0 : World}  (hn : a0.tmps.size = 108)
   {b12 : Nat} (p12 : a0.tmps.getD 12 undef = .pointer (some ⟨b12, 0, none⟩)) (v12 : VarW w0 b12 (1) 1)
   
    (fin : ∀ a w, Grow w0 w → Agree (regionOps Tryd.f5 7) a0 a → a.tmps.getD 15 undef = .int .i64 0 → a.tmps.getD 16 undef = .bool false → Q .normal a w) : (Code.region 7 (regionOps Tryd.f5 7) true).wp Tryd.prog Q a0 w0 := by
  refine regionV (n := 108) (F := look (ints7Facts )) (by kernel_rfl) hn (by kernel_rfl) (look_stable _ (ints7Stable )) (fun i hi => all_from 9 0 ?_ i (Nat.zero_le _) (Nat.lt_of_lt_of_eq hi (by kernel_rfl)))
    fun a w hg ha h => fin a w hg ha ?_ ?_
  · exact ⟨
    stepN (i := 0) (by kernel_rfl) (callFromW (d := 52) (c := (-9223372036854775808)) (ts := #[3]) (by decide) (by decide) (fun _ _ h => h)),
    stepN (i := 1) (by kernel_rfl) (loadW (d := 53) (p := 12) p12 (by kernel_rfl) v12 (fun _ _ h => h)),
    stepN (i := 2) (by kernel_rfl) (callSubW (d := 54) (x := 52) (y := 53) (n := (-9223372036854775808)) (m := 1) (k := 1) (j := 1) (ts := #[28, 28]) (by kernel_rfl) (by kernel_rfl) (fun _ _ h => h) (fun _ _ h => h) (by omega) (by omega) (fun _ _ h => h)),
    stepN (i := 3) (by kernel_rfl) (callIntNo (d := 55) (x := 54) (n := (((-9223372036854775808)) - 1)) (k := (max 1 1 + 1)) (ts := #[28]) (by kernel_rfl) (fun _ _ h => h) (by omega) (by omega) (fun _ _ h => h)),
    stepN (i := 4) (by kernel_rfl) (move (d := 51) (x := (.tmp 55)) fun _ _ _ _ D => D 55 (by kernel_rfl)),
    stepN (i := 5) (by kernel_rfl) (extractV (d := 56) (x := 51) (j := 0) (vs := #[.int .i64 0, .bool false]) (u := .int .i64 0) (by kernel_rfl) (fun _ _ h => h) rfl (fun _ _ h => h)),
    stepN (i := 6) (by kernel_rfl) (extractV (d := 57) (x := 51) (j := 1) (vs := #[.int .i64 0, .bool false]) (u := .bool false) (by kernel_rfl) (fun _ _ h => h) rfl (fun _ _ h => h)),
    stepN (i := 7) (by kernel_rfl) (assign (d := 15) (x := (.tmp 56)) fun _ _ _ _ D => D 56 (by kernel_rfl)),
    stepN (i := 8) (by kernel_rfl) (assign (d := 16) (x := (.tmp 57)) fun _ _ _ _ D => D 57 (by kernel_rfl)), trivial⟩
  · have e : look (ints7Facts ) 15 w (a.tmps.getD 15 undef) := h 15 (by kernel_rfl)
    exact e
  · have e : look (ints7Facts ) 16 w (a.tmps.getD 16 undef) := h 16 (by kernel_rfl)
    exact e

/-- What each operation of the region yields. -/
def ints8YFacts (n x : Int) : List (Nat × (World → Value → Prop)) :=
  [(58, (fun _ v => v = .bool true)),
   (59, (fun _ v => v = .bool true)),
   (60, (fun _ v => v = .bool true)),
   (61, (fun _ v => v = .bool true)),
   (62, (fun _ v => v = .bool true)),
   (63, (fun _ v => v = .int .i64 n)),
   (64, (fun _ v => v = .int .i64 n)),
   (65, (fun _ v => v = .bool true)),
   (66, (fun _ v => v = .bool true)),
   (67, (fun _ v => v = .bool true)),
   (68, (fun _ v => v = .bool true)),
   (69, (fun _ v => v = .bool true)),
   (70, (fun _ v => v = .bool true)),
   (71, (fun _ v => v = .bool true)),
   (72, (fun _ v => v = .bool true)),
   (73, (fun _ v => v = .bool true)),
   (74, (fun _ v => v = .bool false)),
   (75, (fun _ v => v = .bool false)),
   (76, (fun _ v => v = undef)),
   (77, (fun _ v => v = undef)),
   (78, (fun _ v => v = .bool false)),
   (79, (fun _ v => v = .bool false)),
   (80, (fun _ v => v = .bool true)),
   (81, (fun _ v => v = .bool true)),
   (82, (fun _ v => v = .int .i64 x)),
   (83, (fun w v => IsW w v (x) (1))),
   (84, (fun w v => IsW w v (x) (10))),
   (85, (fun _ v => v = .int .i64 (Int.sign (x - x)))),
   (86, (fun _ v => v = .bool true)),
   (87, (fun _ v => v = .bool true)),
   (88, (fun _ v => v = .bool true)),
   (89, (fun _ v => v = .bool true)),
   (90, (fun _ v => v = .bool true)),
   (91, (fun _ v => v = .bool false)),
   (92, (fun _ v => v = .bool true)),
   (93, (fun _ v => v = .bool true)),
   (94, (fun _ v => v = .bool true)),
   (95, (fun _ v => v = .bool false)),
   (96, (fun _ v => v = .bool true)),
   (97, (fun _ v => v = .bool true)),
   (98, (fun _ v => v = .bool true)),
   (99, (fun _ v => v = .int .i64 n)),
   (100, (fun w v => IsW w v (n) (1))),
   (101, (fun _ v => v = .int .i64 (Int.sign n))),
   (102, (fun _ v => v = .int .i64 n)),
   (103, (fun w v => IsW w v (n) (1))),
   (104, (fun w v => IsW w v (0) (0))),
   (105, (fun _ v => v = .int .i64 (Int.sign (n - 0)))),
   (106, (fun _ v => v = .bool true)),
   (107, (fun _ v => v = .bool true)),
   (4, (fun _ v => v = .bool true))]
theorem ints8YStable (n x : Int) : AllStable (ints8YFacts n x) := ⟨st_eq _, st_eq _, st_eq _, st_eq _, st_eq _, st_eq _, st_eq _, st_eq _, st_eq _, st_eq _, st_eq _, st_eq _, st_eq _, st_eq _, st_eq _, st_eq _, st_eq _, st_eq _, st_eq _, st_eq _, st_eq _, st_eq _, st_eq _, st_eq _, st_eq _, st_W _ _, st_W _ _, st_eq _, st_eq _, st_eq _, st_eq _, st_eq _, st_eq _, st_eq _, st_eq _, st_eq _, st_eq _, st_eq _, st_eq _, st_eq _, st_eq _, st_eq _, st_W _ _, st_eq _, st_eq _, st_W _ _, st_W _ _, st_eq _, st_eq _, st_eq _, st_eq _, trivial⟩

set_option maxRecDepth 100000 in
set_option maxHeartbeats 4000000 in
theorem ints8Y_region {Q : Exit → Act → World → Prop} {a0 : Act} {w0 : World} (n x : Int) (hn : a0.tmps.size = 108)
   {b7 : Nat} (p7 : a0.tmps.getD 7 undef = .pointer (some ⟨b7, 0, none⟩)) (v7 : VarW w0 b7 (x) 10)
   (e0 : a0.tmps.getD 0 undef = .int .i64 n)
   (e5 : a0.tmps.getD 5 undef = .int .i64 n)
   (e6 : a0.tmps.getD 6 undef = .bool true)
   (e9 : a0.tmps.getD 9 undef = .int .i64 x)
   (e10 : a0.tmps.getD 10 undef = .bool true)
   (e11 : a0.tmps.getD 11 undef = .bool true)
   (e14 : a0.tmps.getD 14 undef = .bool false)
   (e16 : a0.tmps.getD 16 undef = .bool false)
   (hnb : -9223372036854775808 ≤ n ∧ n ≤ 9223372036854775807) (hx : -9223372036854775808 ≤ x ∧ x ≤ 9223372036854775807)
    (fin : ∀ a w, Grow w0 w → Agree (regionOps Tryd.f5 8) a0 a → a.tmps.getD 4 undef = .bool true → Q .normal a w) : (Code.region 8 (regionOps Tryd.f5 8) true).wp Tryd.prog Q a0 w0 := by
  have ext0 : ∀ {u : Value} {w : World}, u = a0.tmps.getD 0 undef → Grow w0 w → u = .int .i64 n := fun h _ => h.trans e0
  have ext5 : ∀ {u : Value} {w : World}, u = a0.tmps.getD 5 undef → Grow w0 w → u = .int .i64 n := fun h _ => h.trans e5
  have ext6 : ∀ {u : Value} {w : World}, u = a0.tmps.getD 6 undef → Grow w0 w → u = .bool true := fun h _ => h.trans e6
  have ext9 : ∀ {u : Value} {w : World}, u = a0.tmps.getD 9 undef → Grow w0 w → u = .int .i64 x := fun h _ => h.trans e9
  have ext10 : ∀ {u : Value} {w : World}, u = a0.tmps.getD 10 undef → Grow w0 w → u = .bool true := fun h _ => h.trans e10
  have ext11 : ∀ {u : Value} {w : World}, u = a0.tmps.getD 11 undef → Grow w0 w → u = .bool true := fun h _ => h.trans e11
  have ext14 : ∀ {u : Value} {w : World}, u = a0.tmps.getD 14 undef → Grow w0 w → u = .bool false := fun h _ => h.trans e14
  have ext16 : ∀ {u : Value} {w : World}, u = a0.tmps.getD 16 undef → Grow w0 w → u = .bool false := fun h _ => h.trans e16
  refine region (n := 108) (F := look (ints8YFacts n x)) (by kernel_rfl) hn (by kernel_rfl) (look_stable _ (ints8YStable n x)) (fun i hi => all_from 51 0 ?_ i (Nat.zero_le _) (Nat.lt_of_lt_of_eq hi (by kernel_rfl)))
    fun a w hg ha h => fin a w hg ha ?_
  · exact ⟨
    stepN (i := 0) (by kernel_rfl) (callWakes4 (d := 58) (ts := #[]) (fun _ _ h => h)),
    stepN (i := 1) (by kernel_rfl) (move (d := 59) (x := (.tmp 58)) fun _ _ _ _ D => D 58 (by kernel_rfl)),
    stepG (i := 2) (j := 1) (dj := 59) (b := true) (by kernel_rfl) (by kernel_rfl) (by kernel_rfl) (fun _ _ h => h) (move (d := 60) (x := (.tmp 6)) fun a w hg ha D => ext6 (ha.2.2 6 (by kernel_rfl)) hg),
    stepN (i := 3) (by kernel_rfl) (pickT (d := 61) (c := 59) (x := (.tmp 60)) (y := (.const (.bool false))) (by kernel_rfl) (fun _ _ h => h) fun _ _ _ _ D => D 60 (by kernel_rfl)),
    stepN (i := 4) (by kernel_rfl) (move (d := 62) (x := (.tmp 61)) fun _ _ _ _ D => D 61 (by kernel_rfl)),
    stepG (i := 5) (j := 4) (dj := 62) (b := true) (by kernel_rfl) (by kernel_rfl) (by kernel_rfl) (fun _ _ h => h) (move (d := 63) (x := (.tmp 5)) fun a w hg ha D => ext5 (ha.2.2 5 (by kernel_rfl)) hg),
    stepG (i := 6) (j := 4) (dj := 62) (b := true) (by kernel_rfl) (by kernel_rfl) (by kernel_rfl) (fun _ _ h => h) (move (d := 64) (x := (.tmp 0)) fun a w hg ha D => ext0 (ha.2.2 0 (by kernel_rfl)) hg),
    stepG (i := 7) (j := 4) (dj := 62) (b := true) (by kernel_rfl) (by kernel_rfl) (by kernel_rfl) (fun _ _ h => h) (eqlII (d := 65) (x := 63) (y := 64) (m := n) (c := n) (b := true) (by kernel_rfl) (by kernel_rfl) (fun _ _ h => h) (fun _ _ h => h) (beq_self_eq_true _) (fun _ _ h => h)),
    stepN (i := 8) (by kernel_rfl) (pickT (d := 66) (c := 62) (x := (.tmp 65)) (y := (.const (.bool false))) (by kernel_rfl) (fun _ _ h => h) fun _ _ _ _ D => D 65 (by kernel_rfl)),
    stepN (i := 9) (by kernel_rfl) (move (d := 67) (x := (.tmp 66)) fun _ _ _ _ D => D 66 (by kernel_rfl)),
    stepG (i := 10) (j := 9) (dj := 67) (b := true) (by kernel_rfl) (by kernel_rfl) (by kernel_rfl) (fun _ _ h => h) (move (d := 68) (x := (.tmp 10)) fun a w hg ha D => ext10 (ha.2.2 10 (by kernel_rfl)) hg),
    stepG (i := 11) (j := 9) (dj := 67) (b := true) (by kernel_rfl) (by kernel_rfl) (by kernel_rfl) (fun _ _ h => h) (move (d := 69) (x := (.tmp 11)) fun a w hg ha D => ext11 (ha.2.2 11 (by kernel_rfl)) hg),
    stepG (i := 12) (j := 9) (dj := 67) (b := true) (by kernel_rfl) (by kernel_rfl) (by kernel_rfl) (fun _ _ h => h) (eqlB (d := 70) (x := 68) (y := 69) (m := true) (c := true) (b := true) (by kernel_rfl) (by kernel_rfl) (fun _ _ h => h) (fun _ _ h => h) (beq_self_eq_true _) (fun _ _ h => h)),
    stepN (i := 13) (by kernel_rfl) (pickT (d := 71) (c := 67) (x := (.tmp 70)) (y := (.const (.bool false))) (by kernel_rfl) (fun _ _ h => h) fun _ _ _ _ D => D 70 (by kernel_rfl)),
    stepN (i := 14) (by kernel_rfl) (move (d := 72) (x := (.tmp 71)) fun _ _ _ _ D => D 71 (by kernel_rfl)),
    stepG (i := 15) (j := 14) (dj := 72) (b := true) (by kernel_rfl) (by kernel_rfl) (by kernel_rfl) (fun _ _ h => h) (move (d := 73) (x := (.tmp 10)) fun a w hg ha D => ext10 (ha.2.2 10 (by kernel_rfl)) hg),
    stepG (i := 16) (j := 14) (dj := 72) (b := true) (by kernel_rfl) (by kernel_rfl) (by kernel_rfl) (fun _ _ h => h) (notB (d := 74) (x := 73) (b := true) (c := false) (by kernel_rfl) (fun _ _ h => h) rfl (fun _ _ h => h)),
    stepG (i := 17) (j := 14) (dj := 72) (b := true) (by kernel_rfl) (by kernel_rfl) (by kernel_rfl) (fun _ _ h => h) (move (d := 75) (x := (.tmp 74)) fun _ _ _ _ D => D 74 (by kernel_rfl)),
    stepS (i := 18) (j := 17) (dj := 75) (b := true) (c := false) (dst := some 76) (op := (.move (.tmp 9))) (by kernel_rfl) (by kernel_rfl) (by kernel_rfl) (fun _ _ h => h) rfl (fun d hd w => by cases hd; exact rfl),
    stepS (i := 19) (j := 17) (dj := 75) (b := true) (c := false) (dst := some 77) (op := (.binOp .eql 3 (.tmp 76) (.const (.int .i64 0)) 3)) (by kernel_rfl) (by kernel_rfl) (by kernel_rfl) (fun _ _ h => h) rfl (fun d hd w => by cases hd; exact rfl),
    stepG (i := 20) (j := 14) (dj := 72) (b := true) (by kernel_rfl) (by kernel_rfl) (by kernel_rfl) (fun _ _ h => h) (pickF (d := 78) (c := 75) (x := (.tmp 77)) (y := (.const (.bool false))) (by kernel_rfl) (fun _ _ h => h) fun _ _ _ _ _ => rfl),
    stepG (i := 21) (j := 14) (dj := 72) (b := true) (by kernel_rfl) (by kernel_rfl) (by kernel_rfl) (fun _ _ h => h) (move (d := 79) (x := (.tmp 78)) fun _ _ _ _ D => D 78 (by kernel_rfl)),
    stepG (i := 22) (j := 21) (dj := 79) (b := false) (by kernel_rfl) (by kernel_rfl) (by kernel_rfl) (fun _ _ h => h) (move (d := 80) (x := (.tmp 10)) fun a w hg ha D => ext10 (ha.2.2 10 (by kernel_rfl)) hg),
    stepG (i := 23) (j := 21) (dj := 79) (b := false) (by kernel_rfl) (by kernel_rfl) (by kernel_rfl) (fun _ _ h => h) (move (d := 81) (x := (.tmp 80)) fun _ _ _ _ D => D 80 (by kernel_rfl)),
    stepG (i := 24) (j := 23) (dj := 81) (b := true) (by kernel_rfl) (by kernel_rfl) (by kernel_rfl) (fun _ _ h => h) (move (d := 82) (x := (.tmp 9)) fun a w hg ha D => ext9 (ha.2.2 9 (by kernel_rfl)) hg),
    stepG (i := 25) (j := 23) (dj := 81) (b := true) (by kernel_rfl) (by kernel_rfl) (by kernel_rfl) (fun _ _ h => h) (callFromW1 (d := 83) (x := 82) (c := x) (ts := #[3]) (by kernel_rfl) (fun _ _ h => h) (by omega) (by omega) (fun _ _ h => h)),
    stepG (i := 26) (j := 23) (dj := 81) (b := true) (by kernel_rfl) (by kernel_rfl) (by kernel_rfl) (fun _ _ h => h) (loadW (d := 84) (p := 7) p7 (by kernel_rfl) v7 (fun _ _ h => h)),
    stepG (i := 27) (j := 23) (dj := 81) (b := true) (by kernel_rfl) (by kernel_rfl) (by kernel_rfl) (fun _ _ h => h) (callCmpW (d := 85) (x := 83) (y := 84) (n := x) (m := x) (k := 1) (j := 10) (ts := #[28, 28]) (by kernel_rfl) (by kernel_rfl) (fun _ _ h => h) (fun _ _ h => h) (by omega) (by omega) (fun _ _ h => h)),
    stepG (i := 28) (j := 23) (dj := 81) (b := true) (by kernel_rfl) (by kernel_rfl) (by kernel_rfl) (fun _ _ h => h) (eqlI (d := 86) (x := 85) (m := (Int.sign (x - x))) (c := 0) (b := true) (by kernel_rfl) (fun _ _ h => h) (sgn_0 (by omega)) (fun _ _ h => h)),
    stepG (i := 29) (j := 21) (dj := 79) (b := false) (by kernel_rfl) (by kernel_rfl) (by kernel_rfl) (fun _ _ h => h) (pickT (d := 87) (c := 81) (x := (.tmp 86)) (y := (.const (.bool false))) (by kernel_rfl) (fun _ _ h => h) fun _ _ _ _ D => D 86 (by kernel_rfl)),
    stepG (i := 30) (j := 14) (dj := 72) (b := true) (by kernel_rfl) (by kernel_rfl) (by kernel_rfl) (fun _ _ h => h) (pickF (d := 88) (c := 79) (x := (.const (.bool true))) (y := (.tmp 87)) (by kernel_rfl) (fun _ _ h => h) fun _ _ _ _ D => D 87 (by kernel_rfl)),
    stepN (i := 31) (by kernel_rfl) (pickT (d := 89) (c := 72) (x := (.tmp 88)) (y := (.const (.bool false))) (by kernel_rfl) (fun _ _ h => h) fun _ _ _ _ D => D 88 (by kernel_rfl)),
    stepN (i := 32) (by kernel_rfl) (move (d := 90) (x := (.tmp 89)) fun _ _ _ _ D => D 89 (by kernel_rfl)),
    stepG (i := 33) (j := 32) (dj := 90) (b := true) (by kernel_rfl) (by kernel_rfl) (by kernel_rfl) (fun _ _ h => h) (move (d := 91) (x := (.tmp 14)) fun a w hg ha D => ext14 (ha.2.2 14 (by kernel_rfl)) hg),
    stepG (i := 34) (j := 32) (dj := 90) (b := true) (by kernel_rfl) (by kernel_rfl) (by kernel_rfl) (fun _ _ h => h) (notB (d := 92) (x := 91) (b := false) (c := true) (by kernel_rfl) (fun _ _ h => h) rfl (fun _ _ h => h)),
    stepN (i := 35) (by kernel_rfl) (pickT (d := 93) (c := 90) (x := (.tmp 92)) (y := (.const (.bool false))) (by kernel_rfl) (fun _ _ h => h) fun _ _ _ _ D => D 92 (by kernel_rfl)),
    stepN (i := 36) (by kernel_rfl) (move (d := 94) (x := (.tmp 93)) fun _ _ _ _ D => D 93 (by kernel_rfl)),
    stepG (i := 37) (j := 36) (dj := 94) (b := true) (by kernel_rfl) (by kernel_rfl) (by kernel_rfl) (fun _ _ h => h) (move (d := 95) (x := (.tmp 16)) fun a w hg ha D => ext16 (ha.2.2 16 (by kernel_rfl)) hg),
    stepG (i := 38) (j := 36) (dj := 94) (b := true) (by kernel_rfl) (by kernel_rfl) (by kernel_rfl) (fun _ _ h => h) (notB (d := 96) (x := 95) (b := false) (c := true) (by kernel_rfl) (fun _ _ h => h) rfl (fun _ _ h => h)),
    stepN (i := 39) (by kernel_rfl) (pickT (d := 97) (c := 94) (x := (.tmp 96)) (y := (.const (.bool false))) (by kernel_rfl) (fun _ _ h => h) fun _ _ _ _ D => D 96 (by kernel_rfl)),
    stepN (i := 40) (by kernel_rfl) (move (d := 98) (x := (.tmp 97)) fun _ _ _ _ D => D 97 (by kernel_rfl)),
    stepG (i := 41) (j := 40) (dj := 98) (b := true) (by kernel_rfl) (by kernel_rfl) (by kernel_rfl) (fun _ _ h => h) (move (d := 99) (x := (.tmp 0)) fun a w hg ha D => ext0 (ha.2.2 0 (by kernel_rfl)) hg),
    stepG (i := 42) (j := 40) (dj := 98) (b := true) (by kernel_rfl) (by kernel_rfl) (by kernel_rfl) (fun _ _ h => h) (callFromW1 (d := 100) (x := 99) (c := n) (ts := #[3]) (by kernel_rfl) (fun _ _ h => h) (by omega) (by omega) (fun _ _ h => h)),
    stepG (i := 43) (j := 40) (dj := 98) (b := true) (by kernel_rfl) (by kernel_rfl) (by kernel_rfl) (fun _ _ h => h) (callSignW (d := 101) (x := 100) (n := n) (k := 1) (ts := #[28]) (by kernel_rfl) (fun _ _ h => h) (fun _ _ h => h)),
    stepG (i := 44) (j := 40) (dj := 98) (b := true) (by kernel_rfl) (by kernel_rfl) (by kernel_rfl) (fun _ _ h => h) (move (d := 102) (x := (.tmp 0)) fun a w hg ha D => ext0 (ha.2.2 0 (by kernel_rfl)) hg),
    stepG (i := 45) (j := 40) (dj := 98) (b := true) (by kernel_rfl) (by kernel_rfl) (by kernel_rfl) (fun _ _ h => h) (callFromW1 (d := 103) (x := 102) (c := n) (ts := #[3]) (by kernel_rfl) (fun _ _ h => h) (by omega) (by omega) (fun _ _ h => h)),
    stepG (i := 46) (j := 40) (dj := 98) (b := true) (by kernel_rfl) (by kernel_rfl) (by kernel_rfl) (fun _ _ h => h) (buildW0 (d := 104) (fun _ _ h => h)),
    stepG (i := 47) (j := 40) (dj := 98) (b := true) (by kernel_rfl) (by kernel_rfl) (by kernel_rfl) (fun _ _ h => h) (callCmpW (d := 105) (x := 103) (y := 104) (n := n) (m := 0) (k := 1) (j := 0) (ts := #[28, 28]) (by kernel_rfl) (by kernel_rfl) (fun _ _ h => h) (fun _ _ h => h) (by omega) (by omega) (fun _ _ h => h)),
    stepG (i := 48) (j := 40) (dj := 98) (b := true) (by kernel_rfl) (by kernel_rfl) (by kernel_rfl) (fun _ _ h => h) (eqlII (d := 106) (x := 101) (y := 105) (m := (Int.sign n)) (c := (Int.sign (n - 0))) (b := true) (by kernel_rfl) (by kernel_rfl) (fun _ _ h => h) (fun _ _ h => h) (by rw [Int.sub_zero]; exact beq_self_eq_true _) (fun _ _ h => h)),
    stepN (i := 49) (by kernel_rfl) (pickT (d := 107) (c := 98) (x := (.tmp 106)) (y := (.const (.bool false))) (by kernel_rfl) (fun _ _ h => h) fun _ _ _ _ D => D 106 (by kernel_rfl)),
    stepN (i := 50) (by kernel_rfl) (assign (d := 4) (x := (.tmp 107)) fun _ _ _ _ D => D 107 (by kernel_rfl)), trivial⟩
  · have e : look (ints8YFacts n x) 4 w (a.tmps.getD 4 undef) := h 4 (by kernel_rfl)
    exact e

/-- What each operation of the region yields. -/
def ints8NFacts (n : Int) : List (Nat × (World → Value → Prop)) :=
  [(58, (fun _ v => v = .bool true)),
   (59, (fun _ v => v = .bool true)),
   (60, (fun _ v => v = .bool true)),
   (61, (fun _ v => v = .bool true)),
   (62, (fun _ v => v = .bool true)),
   (63, (fun _ v => v = .int .i64 n)),
   (64, (fun _ v => v = .int .i64 n)),
   (65, (fun _ v => v = .bool true)),
   (66, (fun _ v => v = .bool true)),
   (67, (fun _ v => v = .bool true)),
   (68, (fun _ v => v = .bool false)),
   (69, (fun _ v => v = .bool false)),
   (70, (fun _ v => v = .bool true)),
   (71, (fun _ v => v = .bool true)),
   (72, (fun _ v => v = .bool true)),
   (73, (fun _ v => v = .bool false)),
   (74, (fun _ v => v = .bool true)),
   (75, (fun _ v => v = .bool true)),
   (76, (fun _ v => v = .int .i64 0)),
   (77, (fun _ v => v = .bool true)),
   (78, (fun _ v => v = .bool true)),
   (79, (fun _ v => v = .bool true)),
   (80, (fun _ v => v = undef)),
   (81, (fun _ v => v = undef)),
   (82, (fun _ v => v = undef)),
   (83, (fun _ v => v = undef)),
   (84, (fun _ v => v = undef)),
   (85, (fun _ v => v = undef)),
   (86, (fun _ v => v = undef)),
   (87, (fun _ v => v = undef)),
   (88, (fun _ v => v = .bool true)),
   (89, (fun _ v => v = .bool true)),
   (90, (fun _ v => v = .bool true)),
   (91, (fun _ v => v = .bool false)),
   (92, (fun _ v => v = .bool true)),
   (93, (fun _ v => v = .bool true)),
   (94, (fun _ v => v = .bool true)),
   (95, (fun _ v => v = .bool false)),
   (96, (fun _ v => v = .bool true)),
   (97, (fun _ v => v = .bool true)),
   (98, (fun _ v => v = .bool true)),
   (99, (fun _ v => v = .int .i64 n)),
   (100, (fun w v => IsW w v (n) (1))),
   (101, (fun _ v => v = .int .i64 (Int.sign n))),
   (102, (fun _ v => v = .int .i64 n)),
   (103, (fun w v => IsW w v (n) (1))),
   (104, (fun w v => IsW w v (0) (0))),
   (105, (fun _ v => v = .int .i64 (Int.sign (n - 0)))),
   (106, (fun _ v => v = .bool true)),
   (107, (fun _ v => v = .bool true)),
   (4, (fun _ v => v = .bool true))]
theorem ints8NStable (n : Int) : AllStable (ints8NFacts n) := ⟨st_eq _, st_eq _, st_eq _, st_eq _, st_eq _, st_eq _, st_eq _, st_eq _, st_eq _, st_eq _, st_eq _, st_eq _, st_eq _, st_eq _, st_eq _, st_eq _, st_eq _, st_eq _, st_eq _, st_eq _, st_eq _, st_eq _, st_eq _, st_eq _, st_eq _, st_eq _, st_eq _, st_eq _, st_eq _, st_eq _, st_eq _, st_eq _, st_eq _, st_eq _, st_eq _, st_eq _, st_eq _, st_eq _, st_eq _, st_eq _, st_eq _, st_eq _, st_W _ _, st_eq _, st_eq _, st_W _ _, st_W _ _, st_eq _, st_eq _, st_eq _, st_eq _, trivial⟩

set_option maxRecDepth 100000 in
set_option maxHeartbeats 4000000 in
theorem ints8N_region {Q : Exit → Act → World → Prop} {a0 : Act} {w0 : World} (n : Int) (hn : a0.tmps.size = 108)
   (e0 : a0.tmps.getD 0 undef = .int .i64 n)
   (e5 : a0.tmps.getD 5 undef = .int .i64 n)
   (e6 : a0.tmps.getD 6 undef = .bool true)
   (e9 : a0.tmps.getD 9 undef = .int .i64 0)
   (e10 : a0.tmps.getD 10 undef = .bool false)
   (e11 : a0.tmps.getD 11 undef = .bool false)
   (e14 : a0.tmps.getD 14 undef = .bool false)
   (e16 : a0.tmps.getD 16 undef = .bool false)
   (hnb : -9223372036854775808 ≤ n ∧ n ≤ 9223372036854775807) 
    (fin : ∀ a w, Grow w0 w → Agree (regionOps Tryd.f5 8) a0 a → a.tmps.getD 4 undef = .bool true → Q .normal a w) : (Code.region 8 (regionOps Tryd.f5 8) true).wp Tryd.prog Q a0 w0 := by
  have ext0 : ∀ {u : Value} {w : World}, u = a0.tmps.getD 0 undef → Grow w0 w → u = .int .i64 n := fun h _ => h.trans e0
  have ext5 : ∀ {u : Value} {w : World}, u = a0.tmps.getD 5 undef → Grow w0 w → u = .int .i64 n := fun h _ => h.trans e5
  have ext6 : ∀ {u : Value} {w : World}, u = a0.tmps.getD 6 undef → Grow w0 w → u = .bool true := fun h _ => h.trans e6
  have ext9 : ∀ {u : Value} {w : World}, u = a0.tmps.getD 9 undef → Grow w0 w → u = .int .i64 0 := fun h _ => h.trans e9
  have ext10 : ∀ {u : Value} {w : World}, u = a0.tmps.getD 10 undef → Grow w0 w → u = .bool false := fun h _ => h.trans e10
  have ext11 : ∀ {u : Value} {w : World}, u = a0.tmps.getD 11 undef → Grow w0 w → u = .bool false := fun h _ => h.trans e11
  have ext14 : ∀ {u : Value} {w : World}, u = a0.tmps.getD 14 undef → Grow w0 w → u = .bool false := fun h _ => h.trans e14
  have ext16 : ∀ {u : Value} {w : World}, u = a0.tmps.getD 16 undef → Grow w0 w → u = .bool false := fun h _ => h.trans e16
  refine region (n := 108) (F := look (ints8NFacts n)) (by kernel_rfl) hn (by kernel_rfl) (look_stable _ (ints8NStable n)) (fun i hi => all_from 51 0 ?_ i (Nat.zero_le _) (Nat.lt_of_lt_of_eq hi (by kernel_rfl)))
    fun a w hg ha h => fin a w hg ha ?_
  · exact ⟨
    stepN (i := 0) (by kernel_rfl) (callWakes4 (d := 58) (ts := #[]) (fun _ _ h => h)),
    stepN (i := 1) (by kernel_rfl) (move (d := 59) (x := (.tmp 58)) fun _ _ _ _ D => D 58 (by kernel_rfl)),
    stepG (i := 2) (j := 1) (dj := 59) (b := true) (by kernel_rfl) (by kernel_rfl) (by kernel_rfl) (fun _ _ h => h) (move (d := 60) (x := (.tmp 6)) fun a w hg ha D => ext6 (ha.2.2 6 (by kernel_rfl)) hg),
    stepN (i := 3) (by kernel_rfl) (pickT (d := 61) (c := 59) (x := (.tmp 60)) (y := (.const (.bool false))) (by kernel_rfl) (fun _ _ h => h) fun _ _ _ _ D => D 60 (by kernel_rfl)),
    stepN (i := 4) (by kernel_rfl) (move (d := 62) (x := (.tmp 61)) fun _ _ _ _ D => D 61 (by kernel_rfl)),
    stepG (i := 5) (j := 4) (dj := 62) (b := true) (by kernel_rfl) (by kernel_rfl) (by kernel_rfl) (fun _ _ h => h) (move (d := 63) (x := (.tmp 5)) fun a w hg ha D => ext5 (ha.2.2 5 (by kernel_rfl)) hg),
    stepG (i := 6) (j := 4) (dj := 62) (b := true) (by kernel_rfl) (by kernel_rfl) (by kernel_rfl) (fun _ _ h => h) (move (d := 64) (x := (.tmp 0)) fun a w hg ha D => ext0 (ha.2.2 0 (by kernel_rfl)) hg),
    stepG (i := 7) (j := 4) (dj := 62) (b := true) (by kernel_rfl) (by kernel_rfl) (by kernel_rfl) (fun _ _ h => h) (eqlII (d := 65) (x := 63) (y := 64) (m := n) (c := n) (b := true) (by kernel_rfl) (by kernel_rfl) (fun _ _ h => h) (fun _ _ h => h) (beq_self_eq_true _) (fun _ _ h => h)),
    stepN (i := 8) (by kernel_rfl) (pickT (d := 66) (c := 62) (x := (.tmp 65)) (y := (.const (.bool false))) (by kernel_rfl) (fun _ _ h => h) fun _ _ _ _ D => D 65 (by kernel_rfl)),
    stepN (i := 9) (by kernel_rfl) (move (d := 67) (x := (.tmp 66)) fun _ _ _ _ D => D 66 (by kernel_rfl)),
    stepG (i := 10) (j := 9) (dj := 67) (b := true) (by kernel_rfl) (by kernel_rfl) (by kernel_rfl) (fun _ _ h => h) (move (d := 68) (x := (.tmp 10)) fun a w hg ha D => ext10 (ha.2.2 10 (by kernel_rfl)) hg),
    stepG (i := 11) (j := 9) (dj := 67) (b := true) (by kernel_rfl) (by kernel_rfl) (by kernel_rfl) (fun _ _ h => h) (move (d := 69) (x := (.tmp 11)) fun a w hg ha D => ext11 (ha.2.2 11 (by kernel_rfl)) hg),
    stepG (i := 12) (j := 9) (dj := 67) (b := true) (by kernel_rfl) (by kernel_rfl) (by kernel_rfl) (fun _ _ h => h) (eqlB (d := 70) (x := 68) (y := 69) (m := false) (c := false) (b := true) (by kernel_rfl) (by kernel_rfl) (fun _ _ h => h) (fun _ _ h => h) (beq_self_eq_true _) (fun _ _ h => h)),
    stepN (i := 13) (by kernel_rfl) (pickT (d := 71) (c := 67) (x := (.tmp 70)) (y := (.const (.bool false))) (by kernel_rfl) (fun _ _ h => h) fun _ _ _ _ D => D 70 (by kernel_rfl)),
    stepN (i := 14) (by kernel_rfl) (move (d := 72) (x := (.tmp 71)) fun _ _ _ _ D => D 71 (by kernel_rfl)),
    stepG (i := 15) (j := 14) (dj := 72) (b := true) (by kernel_rfl) (by kernel_rfl) (by kernel_rfl) (fun _ _ h => h) (move (d := 73) (x := (.tmp 10)) fun a w hg ha D => ext10 (ha.2.2 10 (by kernel_rfl)) hg),
    stepG (i := 16) (j := 14) (dj := 72) (b := true) (by kernel_rfl) (by kernel_rfl) (by kernel_rfl) (fun _ _ h => h) (notB (d := 74) (x := 73) (b := false) (c := true) (by kernel_rfl) (fun _ _ h => h) rfl (fun _ _ h => h)),
    stepG (i := 17) (j := 14) (dj := 72) (b := true) (by kernel_rfl) (by kernel_rfl) (by kernel_rfl) (fun _ _ h => h) (move (d := 75) (x := (.tmp 74)) fun _ _ _ _ D => D 74 (by kernel_rfl)),
    stepG (i := 18) (j := 17) (dj := 75) (b := true) (by kernel_rfl) (by kernel_rfl) (by kernel_rfl) (fun _ _ h => h) (move (d := 76) (x := (.tmp 9)) fun a w hg ha D => ext9 (ha.2.2 9 (by kernel_rfl)) hg),
    stepG (i := 19) (j := 17) (dj := 75) (b := true) (by kernel_rfl) (by kernel_rfl) (by kernel_rfl) (fun _ _ h => h) (eqlI (d := 77) (x := 76) (m := 0) (c := 0) (b := true) (by kernel_rfl) (fun _ _ h => h) (rfl) (fun _ _ h => h)),
    stepG (i := 20) (j := 14) (dj := 72) (b := true) (by kernel_rfl) (by kernel_rfl) (by kernel_rfl) (fun _ _ h => h) (pickT (d := 78) (c := 75) (x := (.tmp 77)) (y := (.const (.bool false))) (by kernel_rfl) (fun _ _ h => h) fun _ _ _ _ D => D 77 (by kernel_rfl)),
    stepG (i := 21) (j := 14) (dj := 72) (b := true) (by kernel_rfl) (by kernel_rfl) (by kernel_rfl) (fun _ _ h => h) (move (d := 79) (x := (.tmp 78)) fun _ _ _ _ D => D 78 (by kernel_rfl)),
    stepS (i := 22) (j := 21) (dj := 79) (b := false) (c := true) (dst := some 80) (op := (.move (.tmp 10))) (by kernel_rfl) (by kernel_rfl) (by kernel_rfl) (fun _ _ h => h) rfl (fun d hd w => by cases hd; exact rfl),
    stepS (i := 23) (j := 21) (dj := 79) (b := false) (c := true) (dst := some 81) (op := (.move (.tmp 80))) (by kernel_rfl) (by kernel_rfl) (by kernel_rfl) (fun _ _ h => h) rfl (fun d hd w => by cases hd; exact rfl),
    stepU (i := 24) (j := 23) (dj := 81) (b := true) (dst := some 82) (op := (.move (.tmp 9))) (by kernel_rfl) (by kernel_rfl) (by kernel_rfl) (fun _ _ h => h) (fun d hd w => by cases hd; exact rfl),
    stepU (i := 25) (j := 23) (dj := 81) (b := true) (dst := some 83) (op := (.call { callee := .value (.func 28), args := #[(.tmp 82)], argTypes := #[3] })) (by kernel_rfl) (by kernel_rfl) (by kernel_rfl) (fun _ _ h => h) (fun d hd w => by cases hd; exact rfl),
    stepU (i := 26) (j := 23) (dj := 81) (b := true) (dst := some 84) (op := (.load 28 (.tmp 7))) (by kernel_rfl) (by kernel_rfl) (by kernel_rfl) (fun _ _ h => h) (fun d hd w => by cases hd; exact rfl),
    stepU (i := 27) (j := 23) (dj := 81) (b := true) (dst := some 85) (op := (.call { callee := .value (.func 18), args := #[(.tmp 83), (.tmp 84)], argTypes := #[28, 28] })) (by kernel_rfl) (by kernel_rfl) (by kernel_rfl) (fun _ _ h => h) (fun d hd w => by cases hd; exact rfl),
    stepU (i := 28) (j := 23) (dj := 81) (b := true) (dst := some 86) (op := (.binOp .eql 3 (.tmp 85) (.const (.int .i64 0)) 3)) (by kernel_rfl) (by kernel_rfl) (by kernel_rfl) (fun _ _ h => h) (fun d hd w => by cases hd; exact rfl),
    stepS (i := 29) (j := 21) (dj := 79) (b := false) (c := true) (dst := some 87) (op := (.pick (.tmp 81) (.tmp 86) (.const (.bool false)))) (by kernel_rfl) (by kernel_rfl) (by kernel_rfl) (fun _ _ h => h) rfl (fun d hd w => by cases hd; exact rfl),
    stepG (i := 30) (j := 14) (dj := 72) (b := true) (by kernel_rfl) (by kernel_rfl) (by kernel_rfl) (fun _ _ h => h) (pickT (d := 88) (c := 79) (x := (.const (.bool true))) (y := (.tmp 87)) (by kernel_rfl) (fun _ _ h => h) fun _ _ _ _ _ => rfl),
    stepN (i := 31) (by kernel_rfl) (pickT (d := 89) (c := 72) (x := (.tmp 88)) (y := (.const (.bool false))) (by kernel_rfl) (fun _ _ h => h) fun _ _ _ _ D => D 88 (by kernel_rfl)),
    stepN (i := 32) (by kernel_rfl) (move (d := 90) (x := (.tmp 89)) fun _ _ _ _ D => D 89 (by kernel_rfl)),
    stepG (i := 33) (j := 32) (dj := 90) (b := true) (by kernel_rfl) (by kernel_rfl) (by kernel_rfl) (fun _ _ h => h) (move (d := 91) (x := (.tmp 14)) fun a w hg ha D => ext14 (ha.2.2 14 (by kernel_rfl)) hg),
    stepG (i := 34) (j := 32) (dj := 90) (b := true) (by kernel_rfl) (by kernel_rfl) (by kernel_rfl) (fun _ _ h => h) (notB (d := 92) (x := 91) (b := false) (c := true) (by kernel_rfl) (fun _ _ h => h) rfl (fun _ _ h => h)),
    stepN (i := 35) (by kernel_rfl) (pickT (d := 93) (c := 90) (x := (.tmp 92)) (y := (.const (.bool false))) (by kernel_rfl) (fun _ _ h => h) fun _ _ _ _ D => D 92 (by kernel_rfl)),
    stepN (i := 36) (by kernel_rfl) (move (d := 94) (x := (.tmp 93)) fun _ _ _ _ D => D 93 (by kernel_rfl)),
    stepG (i := 37) (j := 36) (dj := 94) (b := true) (by kernel_rfl) (by kernel_rfl) (by kernel_rfl) (fun _ _ h => h) (move (d := 95) (x := (.tmp 16)) fun a w hg ha D => ext16 (ha.2.2 16 (by kernel_rfl)) hg),
    stepG (i := 38) (j := 36) (dj := 94) (b := true) (by kernel_rfl) (by kernel_rfl) (by kernel_rfl) (fun _ _ h => h) (notB (d := 96) (x := 95) (b := false) (c := true) (by kernel_rfl) (fun _ _ h => h) rfl (fun _ _ h => h)),
    stepN (i := 39) (by kernel_rfl) (pickT (d := 97) (c := 94) (x := (.tmp 96)) (y := (.const (.bool false))) (by kernel_rfl) (fun _ _ h => h) fun _ _ _ _ D => D 96 (by kernel_rfl)),
    stepN (i := 40) (by kernel_rfl) (move (d := 98) (x := (.tmp 97)) fun _ _ _ _ D => D 97 (by kernel_rfl)),
    stepG (i := 41) (j := 40) (dj := 98) (b := true) (by kernel_rfl) (by kernel_rfl) (by kernel_rfl) (fun _ _ h => h) (move (d := 99) (x := (.tmp 0)) fun a w hg ha D => ext0 (ha.2.2 0 (by kernel_rfl)) hg),
    stepG (i := 42) (j := 40) (dj := 98) (b := true) (by kernel_rfl) (by kernel_rfl) (by kernel_rfl) (fun _ _ h => h) (callFromW1 (d := 100) (x := 99) (c := n) (ts := #[3]) (by kernel_rfl) (fun _ _ h => h) (by omega) (by omega) (fun _ _ h => h)),
    stepG (i := 43) (j := 40) (dj := 98) (b := true) (by kernel_rfl) (by kernel_rfl) (by kernel_rfl) (fun _ _ h => h) (callSignW (d := 101) (x := 100) (n := n) (k := 1) (ts := #[28]) (by kernel_rfl) (fun _ _ h => h) (fun _ _ h => h)),
    stepG (i := 44) (j := 40) (dj := 98) (b := true) (by kernel_rfl) (by kernel_rfl) (by kernel_rfl) (fun _ _ h => h) (move (d := 102) (x := (.tmp 0)) fun a w hg ha D => ext0 (ha.2.2 0 (by kernel_rfl)) hg),
    stepG (i := 45) (j := 40) (dj := 98) (b := true) (by kernel_rfl) (by kernel_rfl) (by kernel_rfl) (fun _ _ h => h) (callFromW1 (d := 103) (x := 102) (c := n) (ts := #[3]) (by kernel_rfl) (fun _ _ h => h) (by omega) (by omega) (fun _ _ h => h)),
    stepG (i := 46) (j := 40) (dj := 98) (b := true) (by kernel_rfl) (by kernel_rfl) (by kernel_rfl) (fun _ _ h => h) (buildW0 (d := 104) (fun _ _ h => h)),
    stepG (i := 47) (j := 40) (dj := 98) (b := true) (by kernel_rfl) (by kernel_rfl) (by kernel_rfl) (fun _ _ h => h) (callCmpW (d := 105) (x := 103) (y := 104) (n := n) (m := 0) (k := 1) (j := 0) (ts := #[28, 28]) (by kernel_rfl) (by kernel_rfl) (fun _ _ h => h) (fun _ _ h => h) (by omega) (by omega) (fun _ _ h => h)),
    stepG (i := 48) (j := 40) (dj := 98) (b := true) (by kernel_rfl) (by kernel_rfl) (by kernel_rfl) (fun _ _ h => h) (eqlII (d := 106) (x := 101) (y := 105) (m := (Int.sign n)) (c := (Int.sign (n - 0))) (b := true) (by kernel_rfl) (by kernel_rfl) (fun _ _ h => h) (fun _ _ h => h) (by rw [Int.sub_zero]; exact beq_self_eq_true _) (fun _ _ h => h)),
    stepN (i := 49) (by kernel_rfl) (pickT (d := 107) (c := 98) (x := (.tmp 106)) (y := (.const (.bool false))) (by kernel_rfl) (fun _ _ h => h) fun _ _ _ _ D => D 106 (by kernel_rfl)),
    stepN (i := 50) (by kernel_rfl) (assign (d := 4) (x := (.tmp 107)) fun _ _ _ _ D => D 107 (by kernel_rfl)), trivial⟩
  · have e : look (ints8NFacts n) 4 w (a.tmps.getD 4 undef) := h 4 (by kernel_rfl)
    exact e
end Go.Proofs.YtjgceldghelpiaaDoor.Rg
