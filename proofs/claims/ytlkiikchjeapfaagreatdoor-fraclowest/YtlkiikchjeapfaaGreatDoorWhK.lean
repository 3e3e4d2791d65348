/- Package whole: Floor. -/
import Derived.Test.YtlkiikchjeapfaaGreatDoorRgW
namespace Go.Proofs.YtlkiikchjeapfaaGreatDoor
open Go.RowKit
set_option maxRecDepth 20000

/-- The floor of the quotient, and what is left. -/
def zdiv (x y : Int) : Int := if 0 < y then x / y else (-x) / (-y)
def zmod (x y : Int) : Int := if 0 < y then x % y else -((-x) % (-y))
theorem zdm_unique {x y q r : Int} (h : q * y + r = x) (hb : (0 ≤ r ∧ r < y) ∨ (y < r ∧ r ≤ 0)) : q = zdiv x y ∧ r = zmod x y := by
  rcases hb with ⟨h1, h2⟩ | ⟨h1, h2⟩
  · have hy : 0 < y := by omega
    have := (Int.ediv_emod_unique hy (a := x) (r := r) (q := q)).2 ⟨by rw [Int.mul_comm]; omega, h1, h2⟩
    unfold zdiv zmod
    rw [if_pos hy, if_pos hy]
    exact ⟨this.1.symm, this.2.symm⟩
  · have hy : ¬ 0 < y := by omega
    have hy' : 0 < -y := by omega
    have := (Int.ediv_emod_unique hy' (a := -x) (r := -r) (q := q)).2 ⟨by rw [Int.neg_mul, Int.mul_comm]; omega, by omega, by omega⟩
    unfold zdiv zmod
    rw [if_neg hy, if_neg hy]
    exact ⟨this.1.symm, by omega⟩
theorem zdm_spec (x : Int) {y : Int} (hy : y ≠ 0) : zdiv x y * y + zmod x y = x ∧ ((0 ≤ zmod x y ∧ zmod x y < y) ∨ (y < zmod x y ∧ zmod x y ≤ 0)) := by
  unfold zdiv zmod
  by_cases h : 0 < y
  · rw [if_pos h, if_pos h]
    exact ⟨by rw [Int.mul_comm]; exact Int.mul_ediv_add_emod x y, .inl ⟨Int.emod_nonneg x hy, Int.emod_lt_of_pos x h⟩⟩
  · rw [if_neg h, if_neg h]
    have h1 := Int.mul_ediv_add_emod (-x) (-y)
    have h2 := Int.emod_nonneg (-x) (show -y ≠ 0 by omega)
    have h3 := Int.emod_lt_of_pos (-x) (show 0 < -y by omega)
    rw [Int.neg_mul] at h1
    refine ⟨?_, .inr ⟨by omega, by omega⟩⟩
    rw [Int.mul_comm]
    omega
/-- The magnitudes' quotient and rest, with signs. -/
theorem floor_parts {x y : Int} {b d : Bool} (hb : (b = true ∧ x < 0) ∨ (b = false ∧ 0 ≤ x)) (hd : (d = true ∧ y < 0) ∨ (d = false ∧ 0 ≤ y)) (hy : y ≠ 0) :
    signed (x.natAbs / y.natAbs) (!(b == d)) * y + signed (x.natAbs % y.natAbs) b = x ∧ (signed (x.natAbs % y.natAbs) b).natAbs < y.natAbs := by
  have e1 : ∀ n : Nat, signed n true = -(n : Int) := fun n => rfl
  have e2 : ∀ n : Nat, signed n false = (n : Int) := fun n => rfl
  have hm := Nat.div_add_mod x.natAbs y.natAbs
  have hl := Nat.mod_lt x.natAbs (show 0 < y.natAbs by omega)
  have hm' : (y.natAbs : Int) * ((x.natAbs / y.natAbs : Nat) : Int) + ((x.natAbs % y.natAbs : Nat) : Int) = (x.natAbs : Int) := by
    rw [← Int.natCast_mul, ← Int.natCast_add, hm]
  generalize x.natAbs % y.natAbs = r at *
  generalize x.natAbs / y.natAbs = q at *
  rcases hb with ⟨rfl, h1⟩ | ⟨rfl, h1⟩ <;> rcases hd with ⟨rfl, h2⟩ | ⟨rfl, h2⟩
  · rw [show (x.natAbs : Int) = -x by omega, show (y.natAbs : Int) = -y by omega, Int.neg_mul, Int.mul_comm y] at hm'
    show signed q false * y + signed r true = x ∧ _
    rw [e1, e2]
    exact ⟨by omega, by omega⟩
  · rw [show (x.natAbs : Int) = -x by omega, show (y.natAbs : Int) = y by omega, Int.mul_comm y] at hm'
    show signed q true * y + signed r true = x ∧ _
    rw [e1, e1, Int.neg_mul]
    exact ⟨by omega, by omega⟩
  · rw [show (x.natAbs : Int) = x by omega, show (y.natAbs : Int) = -y by omega, Int.neg_mul, Int.mul_comm y] at hm'
    show signed q true * y + signed r false = x ∧ _
    rw [e1, e2, Int.neg_mul]
    exact ⟨by omega, by omega⟩
  · rw [show (x.natAbs : Int) = x by omega, show (y.natAbs : Int) = y by omega, Int.mul_comm y] at hm'
    show signed q false * y + signed r false = x ∧ _
    rw [e2, e2]
    exact ⟨by omega, by omega⟩
/-- What is left lies on the wrong side: one less, and y more. -/
theorem floor_math {x y q r : Int} (h : q * y + r = x) (hr : r.natAbs < y.natAbs) :
    (IntKind.i64.wrap (r.sign * y.sign) = r.sign * y.sign) ∧
    ((decide (r.sign * y.sign < 0) = true ∧ q - 1 = zdiv x y ∧ r + y = zmod x y) ∨ (decide (r.sign * y.sign < 0) = false ∧ q = zdiv x y ∧ r = zmod x y)) := by
  have hw : IntKind.i64.wrap (r.sign * y.sign) = r.sign * y.sign := by
    refine IntWalk.i64_in _ ?_
    rcases sign_cases r with ⟨_, e⟩ | ⟨_, e⟩ | ⟨_, e⟩ <;> rcases sign_cases y with ⟨_, e'⟩ | ⟨_, e'⟩ | ⟨_, e'⟩ <;> rw [e, e'] <;> decide
  refine ⟨hw, ?_⟩
  have h1 : (q - 1) * y + (r + y) = x := by rw [Int.sub_mul, Int.one_mul]; omega
  rcases sign_cases r with ⟨hr', e⟩ | ⟨hr', e⟩ | ⟨hr', e⟩ <;> rcases sign_cases y with ⟨hy', e'⟩ | ⟨hy', e'⟩ | ⟨hy', e'⟩ <;> rw [e, e']
  all_goals first
    | (exact absurd hr (by omega))
    | (exact .inr ⟨by decide, zdm_unique h (by omega)⟩)
    | (exact .inl ⟨by decide, zdm_unique h1 (by omega)⟩)

/-- The world behind the boxes of two Ints and two places of answers. -/
def floorW (w : World) (u x v y : Value) : World := (((w.alloc (Obj.cells #[u, x] 28)).alloc (Obj.cells #[v, y] 28)).alloc (Obj.cells #[Value.slice none 0 0, Value.bool false] 28)).alloc (Obj.cells #[Value.slice none 0 0, Value.bool false] 28)
theorem floorW_grow (w : World) (u x v y : Value) : Grow w (floorW w u x v y) := ((((Grow.refl w).alloc _).alloc _).alloc _).alloc _
theorem floorW_keep {w W : World} {u x v y : Value} (h : Grow (floorW w u x v y) W) :
    (W.cell? ⟨w.heap.size, 0, none⟩ = some u ∧ W.cell? ⟨w.heap.size, 1, none⟩ = some x ∧ W.cell? ⟨w.heap.size + 1, 0, none⟩ = some v ∧ W.cell? ⟨w.heap.size + 1, 1, none⟩ = some y) ∧ WB W (w.heap.size + 1 + 1) ∧ WB W (w.heap.size + 1 + 1 + 1) := by
  have h' : Grow (boxW w u x v y) W := ((Grow.refl _).alloc _).trans h
  have hw := WB.new (boxW w u x v y) none 0 0 false 28
  have hs : (boxW w u x v y).heap.size = w.heap.size + 1 + 1 + 1 := by simp [boxW]
  rw [hs] at hw
  exact ⟨boxW_keep h', boxW_wb h', hw.grow h⟩
theorem WB.other {W : World} {b b' : Nat} (h : WB W b) (hb : b ≠ b') (A : Option Addr) (l c : Nat) (x : Bool) : WB (stW W b' A l c x) b := by
  obtain ⟨⟨A0, l0, c0, x0, h0, h1⟩, f0, f1⟩ := h
  have hf : ∀ o, (stW W b' A l c x).frozen? ⟨b, o, none⟩ = W.frozen? ⟨b, o, none⟩ := fun o => by
    simp [stW, go_sem]
  exact ⟨⟨A0, l0, c0, x0, stW_other h0 hb, stW_other h1 hb⟩, (hf 0).trans f0, (hf 1).trans f1⟩
/-- Two answers stored. -/
theorem two_stW {W : World} {b b' : Nat} (h : WB W b) (h' : WB W b') (hb : b ≠ b') (A A' : Option Addr) (l c l' c' : Nat) (x x' : Bool) :
    ((stW (stW W b A l c x) b' A' l' c' x').cell? ⟨b, 0, none⟩ = some (.slice A l c) ∧ (stW (stW W b A l c x) b' A' l' c' x').cell? ⟨b, 1, none⟩ = some (.bool x) ∧
    (stW (stW W b A l c x) b' A' l' c' x').cell? ⟨b', 0, none⟩ = some (.slice A' l' c') ∧ (stW (stW W b A l c x) b' A' l' c' x').cell? ⟨b', 1, none⟩ = some (.bool x')) ∧
    ∀ v z k, IsW W v z k → IsW (stW (stW W b A l c x) b' A' l' c' x') v z k := by
  have h2 := h'.other (fun e => hb e.symm) A l c x
  have c1 := h.cells A l c x
  exact ⟨⟨stW_other c1.1 hb, stW_other c1.2 hb, (h2.cells A' l' c' x').1, (h2.cells A' l' c' x').2⟩, fun v z k hv => (hv.st h A l c x).st h2 A' l' c' x'⟩

set_option maxHeartbeats 2000000 in
theorem floor_zero {w : World} {va vb : Value} {x : Int} {k j : Nat} (hx : IsW w va x k) (hy : IsW w vb 0 j) :
    Calls Tryz.prog 58 #[va, vb] w (Ret w fun v _ => v = .tuple #[.agg #[.slice none 0 0, .bool false], .agg #[.slice none 0 0, .bool false], .int .i64 8]) := by
  obtain ⟨A, l, c, b, rfl, hn, hb⟩ := hx.open
  obtain ⟨D, m, d, b2, rfl, hm, hb2⟩ := hy.open
  have HD := Lib.hid (fun W (g : Grow w W) => div_zero_n (hn.grow g) (hm.grow g).1)
  have HKP := Lib.hid (fun W (h : Grow (floorW w (.slice A l c) (.bool b) (.slice D m d) (.bool b2)) W) => floorW_keep h)
  have HG0 := Lib.hid (floorW_grow w (.slice A l c) (.bool b) (.slice D m d) (.bool b2))
  clear hx hy hn hb hb2 hm
  go_enter Tryz.func58, Tryz.ntmps58
  go_upto_region 1 with fail
  change (Code.region 1 _ _).wp _ _ _ (floorW w (.slice A l c) (.bool b) (.slice D m d) (.bool b2))
  generalize floorW w (.slice A l c) (.bool b) (.slice D m d) (.bool b2) = W0 at *
  obtain ⟨⟨k0, k1, k2, k3⟩, _, _⟩ := HKP.out _ (Grow.refl _)
  go_wp2_with fail
  refine (HD.out _ HG0.out).mono ?_
  rintro e w1 ⟨v1, rfl, ⟨q1, r1, rfl, n1, n2⟩, g1⟩
  obtain ⟨A1, l1, c1, rfl⟩ := n1.cell
  obtain ⟨A2, l2, c2, rfl⟩ := n2.cell
  have G1 := Lib.hid ((g1.alloc (Obj.cells #[.slice A1 l1 c1] 26)).alloc (Obj.cells #[.slice A2 l2 c2] 26))
  clear n1 n2 k0 k1 k2 k3 g1
  obtain ⟨_, hw4, hw5⟩ := HKP.out _ G1.out
  have T := Lib.hid (two_stW hw4 hw5 (by omega) none none 0 0 0 0 false false).1
  have hw5' := hw5.other (b' := w.heap.size + 1 + 1) (by omega) none 0 0 false
  have HG := Lib.hid (grow_stW (grow_stW (HG0.out.trans G1.out) (b := w.heap.size + 1 + 1) (by omega) none 0 0 false) (b := w.heap.size + 1 + 1 + 1) (by omega) none 0 0 false)
  obtain ⟨⟨A0, l0, c0, x0, m0, m1⟩, f0, f1⟩ := hw4
  obtain ⟨⟨A3, l3, c3, x3, m3, m4⟩, f3, f4⟩ := hw5'
  simp only [stW] at m3 m4 f3 f4
  clear hw5
  go_wp2_with fail
  obtain ⟨t0, t1, t2, t3⟩ := T.out
  simp only [stW] at t0 t1 t2 t3
  exact bodyPost_ret (v := .tuple #[.agg #[.slice none 0 0, .bool false], .agg #[.slice none 0 0, .bool false], .int .i64 8]) (by simp [results, Tryz.results58, go_sem, t0, t1, t2, t3]) rfl (Ret.mk rfl HG.out)
end Go.Proofs.YtlkiikchjeapfaaGreatDoor
