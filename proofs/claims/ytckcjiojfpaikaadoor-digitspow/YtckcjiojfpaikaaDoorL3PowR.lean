/- The drawn region of the law DigitsPow: whatever its order. Written by a script (tools/laws). -/
import Derived.Test.YtckcjiojfpaikaaDoorRgRef3
namespace Go.Proofs.YtckcjiojfpaikaaDoor.Rg
open Go.RowKit

/-- What each operation of the region yields. -/
def pow22XFacts (e : Int) : List (Nat × (World → Value → Prop)) :=
  [(93, (fun _ v => v = .int .i64 e)),
   (94, (fun _ v => v = .bool false)),
   (95, (fun _ v => v = .bool false)),
   (96, (fun _ v => v = undef)),
   (97, (fun _ v => v = undef)),
   (98, (fun _ v => v = .bool false)),
   (99, (fun _ v => v = .bool false)),
   (100, (fun _ v => v = undef)),
   (101, (fun _ v => v = undef)),
   (102, (fun _ v => v = undef)),
   (103, (fun _ v => v = undef)),
   (104, (fun _ v => v = undef)),
   (105, (fun _ v => v = undef)),
   (106, (fun _ v => v = undef)),
   (107, (fun _ v => v = .bool false))]
theorem pow22XStable (e : Int) : AllStable (pow22XFacts e) := ⟨st_eq _, st_eq _, st_eq _, st_eq _, st_eq _, st_eq _, st_eq _, st_eq _, st_eq _, st_eq _, st_eq _, st_eq _, st_eq _, st_eq _, st_eq _, trivial⟩

set_option maxRecDepth 100000 in
set_option maxHeartbeats 4000000 in
theorem pow22X_region {Q : Exit → Act → World → Prop} {a0 : Act} {w0 : World} (e : Int) (hn : a0.tmps.size = 110)
   (e12 : a0.tmps.getD 12 undef = .int .i64 e)
   (he : (e == 0) = false)
    (fin : ∀ a w, Grow w0 w → Agree (regionOps Tryd.f5 22) a0 a → a.tmps.getD 107 undef = .bool false → Q .normal a w) : (Code.region 22 (regionOps Tryd.f5 22) true).wp Tryd.prog Q a0 w0 := by
  have ext12 : ∀ {u : Value} {w : World}, u = a0.tmps.getD 12 undef → Grow w0 w → u = .int .i64 e := fun h _ => h.trans e12
  refine region (n := 110) (F := look (pow22XFacts e)) (by kernel_rfl) hn (by kernel_rfl) (look_stable _ (pow22XStable e)) (fun i hi => all_from 15 0 ?_ i (Nat.zero_le _) (Nat.lt_of_lt_of_eq hi (by kernel_rfl)))
    fun a w hg ha h => fin a w hg ha ?_
  · exact ⟨
    stepN (i := 0) (by kernel_rfl) (move (d := 93) (x := (.tmp 12)) fun a w hg ha D => ext12 (ha.2.2 12 (by kernel_rfl)) hg),
    stepN (i := 1) (by kernel_rfl) (eqlE (d := 94) (x := 93) (m := e) (c := 0) (b := false) (by kernel_rfl) (fun _ _ h => h) (he) (fun _ _ h => h)),
    stepN (i := 2) (by kernel_rfl) (move (d := 95) (x := (.tmp 94)) fun _ _ _ _ D => D 94 (by kernel_rfl)),
    stepS (i := 3) (j := 2) (dj := 95) (b := true) (c := false) (dst := some 96) (op := (.move (.tmp 7))) (by kernel_rfl) (by kernel_rfl) (by kernel_rfl) (fun _ _ h => h) rfl (fun d hd w => by cases hd; exact rfl),
    stepS (i := 4) (j := 2) (dj := 95) (b := true) (c := false) (dst := some 97) (op := (.binOp .lss 3 (.tmp 96) (.const (.int .i64 30)) 3)) (by kernel_rfl) (by kernel_rfl) (by kernel_rfl) (fun _ _ h => h) rfl (fun d hd w => by cases hd; exact rfl),
    stepN (i := 5) (by kernel_rfl) (pickF (d := 98) (c := 95) (x := (.tmp 97)) (y := (.const (.bool false))) (by kernel_rfl) (fun _ _ h => h) fun _ _ _ _ _ => rfl),
    stepN (i := 6) (by kernel_rfl) (move (d := 99) (x := (.tmp 98)) fun _ _ _ _ D => D 98 (by kernel_rfl)),
    stepS (i := 7) (j := 6) (dj := 99) (b := true) (c := false) (dst := some 100) (op := (.load 24 (.tmp 8))) (by kernel_rfl) (by kernel_rfl) (by kernel_rfl) (fun _ _ h => h) rfl (fun d hd w => by cases hd; exact rfl),
    stepS (i := 8) (j := 6) (dj := 99) (b := true) (c := false) (dst := some 101) (op := (.move (.tmp 0))) (by kernel_rfl) (by kernel_rfl) (by kernel_rfl) (fun _ _ h => h) rfl (fun d hd w => by cases hd; exact rfl),
    stepS (i := 9) (j := 6) (dj := 99) (b := true) (c := false) (dst := some 102) (op := (.call { callee := .value (.func 13), args := #[(.tmp 101)], argTypes := #[22] })) (by kernel_rfl) (by kernel_rfl) (by kernel_rfl) (fun _ _ h => h) rfl (fun d hd w => by cases hd; exact rfl),
    stepS (i := 10) (j := 6) (dj := 99) (b := true) (c := false) (dst := some 103) (op := (.move (.tmp 7))) (by kernel_rfl) (by kernel_rfl) (by kernel_rfl) (fun _ _ h => h) rfl (fun d hd w => by cases hd; exact rfl),
    stepS (i := 11) (j := 6) (dj := 99) (b := true) (c := false) (dst := some 104) (op := (.call { callee := .value (.func 24), args := #[(.tmp 102), (.tmp 103)], argTypes := #[32, 3] })) (by kernel_rfl) (by kernel_rfl) (by kernel_rfl) (fun _ _ h => h) rfl (fun d hd w => by cases hd; exact rfl),
    stepS (i := 12) (j := 6) (dj := 99) (b := true) (c := false) (dst := some 105) (op := (.call { callee := .value (.func 18), args := #[(.tmp 100), (.tmp 104)], argTypes := #[24, 32] })) (by kernel_rfl) (by kernel_rfl) (by kernel_rfl) (fun _ _ h => h) rfl (fun d hd w => by cases hd; exact rfl),
    stepS (i := 13) (j := 6) (dj := 99) (b := true) (c := false) (dst := some 106) (op := (.unOp .not 4 (.tmp 105))) (by kernel_rfl) (by kernel_rfl) (by kernel_rfl) (fun _ _ h => h) rfl (fun d hd w => by cases hd; exact rfl),
    stepN (i := 14) (by kernel_rfl) (pickF (d := 107) (c := 99) (x := (.tmp 106)) (y := (.const (.bool false))) (by kernel_rfl) (fun _ _ h => h) fun _ _ _ _ _ => rfl), trivial⟩
  · have e : look (pow22XFacts e) 107 w (a.tmps.getD 107 undef) := h 107 (by kernel_rfl)
    exact e

/-- What each operation of the region yields. -/
def pow22YFacts (k : Nat) : List (Nat × (World → Value → Prop)) :=
  [(93, (fun _ v => v = .int .i64 0)),
   (94, (fun _ v => v = .bool true)),
   (95, (fun _ v => v = .bool true)),
   (96, (fun _ v => v = .int .i64 ((k : Nat) : Int))),
   (97, (fun _ v => v = .bool false)),
   (98, (fun _ v => v = .bool false)),
   (99, (fun _ v => v = .bool false)),
   (100, (fun _ v => v = undef)),
   (101, (fun _ v => v = undef)),
   (102, (fun _ v => v = undef)),
   (103, (fun _ v => v = undef)),
   (104, (fun _ v => v = undef)),
   (105, (fun _ v => v = undef)),
   (106, (fun _ v => v = undef)),
   (107, (fun _ v => v = .bool false))]
theorem pow22YStable (k : Nat) : AllStable (pow22YFacts k) := ⟨st_eq _, st_eq _, st_eq _, st_eq _, st_eq _, st_eq _, st_eq _, st_eq _, st_eq _, st_eq _, st_eq _, st_eq _, st_eq _, st_eq _, st_eq _, trivial⟩

set_option maxRecDepth 100000 in
set_option maxHeartbeats 4000000 in
theorem pow22Y_region {Q : Exit → Act → World → Prop} {a0 : Act} {w0 : World} (k : Nat) (hn : a0.tmps.size = 110)
   (e12 : a0.tmps.getD 12 undef = .int .i64 0)
   (e7 : a0.tmps.getD 7 undef = .int .i64 ((k : Nat) : Int))
   (hk : 30 ≤ k)
    (fin : ∀ a w, Grow w0 w → Agree (regionOps Tryd.f5 22) a0 a → a.tmps.getD 107 undef = .bool false → Q .normal a w) : (Code.region 22 (regionOps Tryd.f5 22) true).wp Tryd.prog Q a0 w0 := by
  have ext12 : ∀ {u : Value} {w : World}, u = a0.tmps.getD 12 undef → Grow w0 w → u = .int .i64 0 := fun h _ => h.trans e12
  have ext7 : ∀ {u : Value} {w : World}, u = a0.tmps.getD 7 undef → Grow w0 w → u = .int .i64 ((k : Nat) : Int) := fun h _ => h.trans e7
  refine region (n := 110) (F := look (pow22YFacts k)) (by kernel_rfl) hn (by kernel_rfl) (look_stable _ (pow22YStable k)) (fun i hi => all_from 15 0 ?_ i (Nat.zero_le _) (Nat.lt_of_lt_of_eq hi (by kernel_rfl)))
    fun a w hg ha h => fin a w hg ha ?_
  · exact ⟨
    stepN (i := 0) (by kernel_rfl) (move (d := 93) (x := (.tmp 12)) fun a w hg ha D => ext12 (ha.2.2 12 (by kernel_rfl)) hg),
    stepN (i := 1) (by kernel_rfl) (eqlE (d := 94) (x := 93) (m := 0) (c := 0) (b := true) (by kernel_rfl) (fun _ _ h => h) (by rfl) (fun _ _ h => h)),
    stepN (i := 2) (by kernel_rfl) (move (d := 95) (x := (.tmp 94)) fun _ _ _ _ D => D 94 (by kernel_rfl)),
    stepG (i := 3) (j := 2) (dj := 95) (b := true) (by kernel_rfl) (by kernel_rfl) (by kernel_rfl) (fun _ _ h => h) (move (d := 96) (x := (.tmp 7)) fun a w hg ha D => ext7 (ha.2.2 7 (by kernel_rfl)) hg),
    stepG (i := 4) (j := 2) (dj := 95) (b := true) (by kernel_rfl) (by kernel_rfl) (by kernel_rfl) (fun _ _ h => h) (lssI (d := 97) (x := 96) (m := ((k : Nat) : Int)) (c := 30) (b := false) (by kernel_rfl) (fun _ _ h => h) (decide_eq_false (by omega)) (fun _ _ h => h)),
    stepN (i := 5) (by kernel_rfl) (pickT (d := 98) (c := 95) (x := (.tmp 97)) (y := (.const (.bool false))) (by kernel_rfl) (fun _ _ h => h) fun _ _ _ _ D => D 97 (by kernel_rfl)),
    stepN (i := 6) (by kernel_rfl) (move (d := 99) (x := (.tmp 98)) fun _ _ _ _ D => D 98 (by kernel_rfl)),
    stepS (i := 7) (j := 6) (dj := 99) (b := true) (c := false) (dst := some 100) (op := (.load 24 (.tmp 8))) (by kernel_rfl) (by kernel_rfl) (by kernel_rfl) (fun _ _ h => h) rfl (fun d hd w => by cases hd; exact rfl),
    stepS (i := 8) (j := 6) (dj := 99) (b := true) (c := false) (dst := some 101) (op := (.move (.tmp 0))) (by kernel_rfl) (by kernel_rfl) (by kernel_rfl) (fun _ _ h => h) rfl (fun d hd w => by cases hd; exact rfl),
    stepS (i := 9) (j := 6) (dj := 99) (b := true) (c := false) (dst := some 102) (op := (.call { callee := .value (.func 13), args := #[(.tmp 101)], argTypes := #[22] })) (by kernel_rfl) (by kernel_rfl) (by kernel_rfl) (fun _ _ h => h) rfl (fun d hd w => by cases hd; exact rfl),
    stepS (i := 10) (j := 6) (dj := 99) (b := true) (c := false) (dst := some 103) (op := (.move (.tmp 7))) (by kernel_rfl) (by kernel_rfl) (by kernel_rfl) (fun _ _ h => h) rfl (fun d hd w => by cases hd; exact rfl),
    stepS (i := 11) (j := 6) (dj := 99) (b := true) (c := false) (dst := some 104) (op := (.call { callee := .value (.func 24), args := #[(.tmp 102), (.tmp 103)], argTypes := #[32, 3] })) (by kernel_rfl) (by kernel_rfl) (by kernel_rfl) (fun _ _ h => h) rfl (fun d hd w => by cases hd; exact rfl),
    stepS (i := 12) (j := 6) (dj := 99) (b := true) (c := false) (dst := some 105) (op := (.call { callee := .value (.func 18), args := #[(.tmp 100), (.tmp 104)], argTypes := #[24, 32] })) (by kernel_rfl) (by kernel_rfl) (by kernel_rfl) (fun _ _ h => h) rfl (fun d hd w => by cases hd; exact rfl),
    stepS (i := 13) (j := 6) (dj := 99) (b := true) (c := false) (dst := some 106) (op := (.unOp .not 4 (.tmp 105))) (by kernel_rfl) (by kernel_rfl) (by kernel_rfl) (fun _ _ h => h) rfl (fun d hd w => by cases hd; exact rfl),
    stepN (i := 14) (by kernel_rfl) (pickF (d := 107) (c := 99) (x := (.tmp 106)) (y := (.const (.bool false))) (by kernel_rfl) (fun _ _ h => h) fun _ _ _ _ _ => rfl), trivial⟩
  · have e : look (pow22YFacts k) 107 w (a.tmps.getD 107 undef) := h 107 (by kernel_rfl)
    exact e

/-- What each operation of the region yields. -/
def pow22ZFacts (k p : Nat) (l : List Nat) : List (Nat × (World → Value → Prop)) :=
  [(93, (fun _ v => v = .int .i64 0)),
   (94, (fun _ v => v = .bool true)),
   (95, (fun _ v => v = .bool true)),
   (96, (fun _ v => v = .int .i64 ((k : Nat) : Int))),
   (97, (fun _ v => v = .bool true)),
   (98, (fun _ v => v = .bool true)),
   (99, (fun _ v => v = .bool true)),
   (100, (fun w v => IsN w v (p) (4097))),
   (101, (fun w v => Sl w v (l))),
   (102, (fun w v => IsD w v (Mx.val l) (24))),
   (103, (fun _ v => v = .int .i64 ((k : Nat) : Int))),
   (104, (fun w v => IsD w v ((Mx.val l) ^ k) (((24 + 1) * k + 1)))),
   (105, (fun _ v => v = .bool true)),
   (106, (fun _ v => v = .bool false)),
   (107, (fun _ v => v = .bool false))]
theorem pow22ZStable (k p : Nat) (l : List Nat) : AllStable (pow22ZFacts k p l) := ⟨st_eq _, st_eq _, st_eq _, st_eq _, st_eq _, st_eq _, st_eq _, st_N _ _, st_S _, st_D _ _, st_eq _, st_D _ _, st_eq _, st_eq _, st_eq _, trivial⟩

set_option maxRecDepth 100000 in
set_option maxHeartbeats 4000000 in
theorem pow22Z_region {Q : Exit → Act → World → Prop} {a0 : Act} {w0 : World} (k p : Nat) (l : List Nat) (hn : a0.tmps.size = 110)
   (e12 : a0.tmps.getD 12 undef = .int .i64 0)
   (e7 : a0.tmps.getD 7 undef = .int .i64 ((k : Nat) : Int))
   {b8 : Addr} {A8 : Option Addr} {L8 C8 : Nat} (p8 : a0.tmps.getD 8 undef = .pointer (some b8)) (c8 : w0.cell? b8 = some (.slice A8 L8 C8)) (n8 : IsN w0 (.agg #[.slice A8 L8 C8]) (p) 4097)
   (s0 : Sl w0 (a0.tmps.getD 0 undef) (l))
   (hk : k < 30) (hll : l.length ≤ 3) (hx : p = Mx.val l ^ k)
    (fin : ∀ a w, Grow w0 w → Agree (regionOps Tryd.f5 22) a0 a → a.tmps.getD 107 undef = .bool false → Q .normal a w) : (Code.region 22 (regionOps Tryd.f5 22) true).wp Tryd.prog Q a0 w0 := by
  have ext12 : ∀ {u : Value} {w : World}, u = a0.tmps.getD 12 undef → Grow w0 w → u = .int .i64 0 := fun h _ => h.trans e12
  have ext7 : ∀ {u : Value} {w : World}, u = a0.tmps.getD 7 undef → Grow w0 w → u = .int .i64 ((k : Nat) : Int) := fun h _ => h.trans e7
  have ext0 : ∀ {u : Value} {w : World}, u = a0.tmps.getD 0 undef → Grow w0 w → Sl w u (l) := fun h g => h ▸ s0.grow g
  refine region (n := 110) (F := look (pow22ZFacts k p l)) (by kernel_rfl) hn (by kernel_rfl) (look_stable _ (pow22ZStable k p l)) (fun i hi => all_from 15 0 ?_ i (Nat.zero_le _) (Nat.lt_of_lt_of_eq hi (by kernel_rfl)))
    fun a w hg ha h => fin a w hg ha ?_
  · exact ⟨
    stepN (i := 0) (by kernel_rfl) (move (d := 93) (x := (.tmp 12)) fun a w hg ha D => ext12 (ha.2.2 12 (by kernel_rfl)) hg),
    stepN (i := 1) (by kernel_rfl) (eqlE (d := 94) (x := 93) (m := 0) (c := 0) (b := true) (by kernel_rfl) (fun _ _ h => h) (by rfl) (fun _ _ h => h)),
    stepN (i := 2) (by kernel_rfl) (move (d := 95) (x := (.tmp 94)) fun _ _ _ _ D => D 94 (by kernel_rfl)),
    stepG (i := 3) (j := 2) (dj := 95) (b := true) (by kernel_rfl) (by kernel_rfl) (by kernel_rfl) (fun _ _ h => h) (move (d := 96) (x := (.tmp 7)) fun a w hg ha D => ext7 (ha.2.2 7 (by kernel_rfl)) hg),
    stepG (i := 4) (j := 2) (dj := 95) (b := true) (by kernel_rfl) (by kernel_rfl) (by kernel_rfl) (fun _ _ h => h) (lssI (d := 97) (x := 96) (m := ((k : Nat) : Int)) (c := 30) (b := true) (by kernel_rfl) (fun _ _ h => h) (decide_eq_true (by omega)) (fun _ _ h => h)),
    stepN (i := 5) (by kernel_rfl) (pickT (d := 98) (c := 95) (x := (.tmp 97)) (y := (.const (.bool false))) (by kernel_rfl) (fun _ _ h => h) fun _ _ _ _ D => D 97 (by kernel_rfl)),
    stepN (i := 6) (by kernel_rfl) (move (d := 99) (x := (.tmp 98)) fun _ _ _ _ D => D 98 (by kernel_rfl)),
    stepG (i := 7) (j := 6) (dj := 99) (b := true) (by kernel_rfl) (by kernel_rfl) (by kernel_rfl) (fun _ _ h => h) (loadNat (d := 100) (p := 8) p8 (by kernel_rfl) c8 n8 (fun _ _ h => h)),
    stepG (i := 8) (j := 6) (dj := 99) (b := true) (by kernel_rfl) (by kernel_rfl) (by kernel_rfl) (fun _ _ h => h) (move (d := 101) (x := (.tmp 0)) fun a w hg ha D => ext0 (ha.2.2 0 (by kernel_rfl)) hg),
    stepG (i := 9) (j := 6) (dj := 99) (b := true) (by kernel_rfl) (by kernel_rfl) (by kernel_rfl) (fun _ _ h => h) (callRefOf (d := 102) (x := 101) (l := l) (k := 24) (ts := #[22]) (by kernel_rfl) (fun _ _ h => h) (by omega) (by omega) (fun _ _ h => h)),
    stepG (i := 10) (j := 6) (dj := 99) (b := true) (by kernel_rfl) (by kernel_rfl) (by kernel_rfl) (fun _ _ h => h) (move (d := 103) (x := (.tmp 7)) fun a w hg ha D => ext7 (ha.2.2 7 (by kernel_rfl)) hg),
    stepG (i := 11) (j := 6) (dj := 99) (b := true) (by kernel_rfl) (by kernel_rfl) (by kernel_rfl) (fun _ _ h => h) (callRefPow (d := 104) (x := 102) (y := 103) (n := (Mx.val l)) (k := 24) (t := k) (ts := #[32, 3]) (by kernel_rfl) (by kernel_rfl) (fun _ _ h => h) (fun _ _ h => h) (by omega) (by omega) (fun _ _ h => h)),
    stepG (i := 12) (j := 6) (dj := 99) (b := true) (by kernel_rfl) (by kernel_rfl) (by kernel_rfl) (fun _ _ h => h) (callSame3 (d := 105) (x := 100) (y := 104) (n := p) (m := ((Mx.val l) ^ k)) (k := 4097) (j := (((24 + 1) * k + 1))) (ts := #[24, 32]) (by kernel_rfl) (by kernel_rfl) (fun _ _ h => h) (fun _ _ h => h) (by omega) (hx) (fun _ _ h => h)),
    stepG (i := 13) (j := 6) (dj := 99) (b := true) (by kernel_rfl) (by kernel_rfl) (by kernel_rfl) (fun _ _ h => h) (notB (d := 106) (x := 105) (b := true) (c := false) (by kernel_rfl) (fun _ _ h => h) rfl (fun _ _ h => h)),
    stepN (i := 14) (by kernel_rfl) (pickT (d := 107) (c := 99) (x := (.tmp 106)) (y := (.const (.bool false))) (by kernel_rfl) (fun _ _ h => h) fun _ _ _ _ D => D 106 (by kernel_rfl)), trivial⟩
  · have e : look (pow22ZFacts k p l) 107 w (a.tmps.getD 107 undef) := h 107 (by kernel_rfl)
    exact e
end Go.Proofs.YtckcjiojfpaikaaDoor.Rg
