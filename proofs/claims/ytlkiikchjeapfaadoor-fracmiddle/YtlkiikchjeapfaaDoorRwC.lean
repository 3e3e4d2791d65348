/- The reference of layer 4: Floor. -/
import Derived.Test.YtlkiikchjeapfaaDoorRwB
namespace Go.Proofs.YtlkiikchjeapfaaDoor
open Go.RowKit
set_option maxRecDepth 20000

/-- The world behind the boxes of two Ints of the reference and two places of answers. -/
def floorV2 (w : World) (u x v y : Value) : World := (((w.alloc (Obj.cells #[u, x] 33)).alloc (Obj.cells #[v, y] 33)).alloc (Obj.cells #[Value.slice none 0 0, Value.bool false] 33)).alloc (Obj.cells #[Value.slice none 0 0, Value.bool false] 33)
theorem floorV2_grow (w : World) (u x v y : Value) : Grow w (floorV2 w u x v y) := ((((Grow.refl w).alloc _).alloc _).alloc _).alloc _
theorem floorV2_keep {w W : World} {u x v y : Value} (h : Grow (floorV2 w u x v y) W) :
    (W.cell? ⟨w.heap.size, 0, none⟩ = some u ∧ W.cell? ⟨w.heap.size, 1, none⟩ = some x ∧ W.cell? ⟨w.heap.size + 1, 0, none⟩ = some v ∧ W.cell? ⟨w.heap.size + 1, 1, none⟩ = some y) ∧ WB W (w.heap.size + 1 + 1) ∧ WB W (w.heap.size + 1 + 1 + 1) := by
  have h' : Grow (boxV w u x v y) W := ((Grow.refl _).alloc _).trans h
  have hw := WB.new (boxV w u x v y) none 0 0 false 33
  have hs : (boxV w u x v y).heap.size = w.heap.size + 1 + 1 + 1 := by simp [boxV]
  rw [hs] at hw
  exact ⟨boxV_keep h', boxV_wb h', hw.grow h⟩
theorem two_stV {W : World} {b b' : Nat} (h : WB W b) (h' : WB W b') (hb : b ≠ b') (A A' : Option Addr) (l c l' c' : Nat) (x x' : Bool) :
    ∀ v z k, IsV W v z k → IsV (stW (stW W b A l c x) b' A' l' c' x') v z k := fun _ _ _ hv => (hv.st h A l c x).st (h'.other (fun e => hb e.symm) A l c x) A' l' c' x'
/-- The reference's floor: one less where the signs differ and something is left. -/
theorem ref_floor {x y : Int} {b d : Bool} (hb : (b = true ∧ x < 0) ∨ (b = false ∧ 0 ≤ x)) (hd : (d = true ∧ y < 0) ∨ (d = false ∧ 0 ≤ y)) (hy : y ≠ 0) :
    ((b == d) = false ∧ x.natAbs % y.natAbs ≠ 0 ∧ signed (x.natAbs / y.natAbs) (!(b == d)) - 1 = zdiv x y) ∨ (((b == d) = true ∨ x.natAbs % y.natAbs = 0) ∧ signed (x.natAbs / y.natAbs) (!(b == d)) = zdiv x y) := by
  have hp := floor_parts hb hd hy
  have e1 : ∀ n : Nat, signed n true = -(n : Int) := fun n => rfl
  have e2 : ∀ n : Nat, signed n false = (n : Int) := fun n => rfl
  obtain ⟨h1, h2⟩ := hp
  generalize signed (x.natAbs / y.natAbs) (!(b == d)) = q at *
  generalize x.natAbs % y.natAbs = r at *
  by_cases hbd : b = d
  · right
    refine ⟨.inl (by rw [hbd]; exact beq_self_eq_true _), (zdm_unique h1 ?_).1⟩
    subst hbd
    rcases hb with ⟨rfl, hx⟩ | ⟨rfl, hx⟩
    · rw [e1] at h1 h2 ⊢
      have : y < 0 := by rcases hd with ⟨_, h⟩ | ⟨h, _⟩; exact h; cases h
      right; omega
    · rw [e2] at h1 h2 ⊢
      have : 0 ≤ y := by rcases hd with ⟨h, _⟩ | ⟨_, h⟩; cases h; exact h
      left; omega
  · by_cases hr : r = 0
    · right
      refine ⟨.inr hr, (zdm_unique h1 ?_).1⟩
      subst hr
      have : signed 0 b = 0 := by cases b <;> rfl
      rw [this]
      omega
    · left
      refine ⟨by simpa using hbd, hr, ?_⟩
      have h3 : (q - 1) * y + (signed r b + y) = x := by rw [Int.sub_mul, Int.one_mul]; omega
      refine (zdm_unique h3 ?_).1
      rcases hb with ⟨rfl, hx⟩ | ⟨rfl, hx⟩
      · rw [e1] at h1 h2 ⊢
        have : 0 ≤ y := by rcases hd with ⟨h, _⟩ | ⟨_, h⟩; exact absurd h.symm hbd; exact h
        left; omega
      · rw [e2] at h1 h2 ⊢
        have : y < 0 := by rcases hd with ⟨_, h⟩ | ⟨h, _⟩; exact h; exact absurd h.symm hbd
        right; omega

/-- A variable at block b holds the whole number z (the reference's). -/
def VarV (w : World) (b : Nat) (z : Int) (k : Nat) : Prop := ∃ A l c x, w.cell? ⟨b, 0, none⟩ = some (.slice A l c) ∧ w.cell? ⟨b, 1, none⟩ = some (.bool x) ∧ IsV w (.agg #[.slice A l c, .bool x]) z k
theorem VarV.grow {w w' : World} {b : Nat} {z : Int} {k : Nat} (h : VarV w b z k) (g : Grow w w') : VarV w' b z k := by
  obtain ⟨A, l, c, x, h0, h1, h2⟩ := h
  exact ⟨A, l, c, x, g.cells1 h0, g.cells1 h1, h2.grow g⟩
theorem VarV.mk {w : World} {b : Nat} {z : Int} {k : Nat} {A : Option Addr} {l c : Nat} {x : Bool} (h0 : w.cell? ⟨b, 0, none⟩ = some (.slice A l c)) (h1 : w.cell? ⟨b, 1, none⟩ = some (.bool x)) (h2 : IsV w (.agg #[.slice A l c, .bool x]) z k) : VarV w b z k := ⟨A, l, c, x, h0, h1, h2⟩
theorem VarV.new {w w' : World} {A : Option Addr} {l c : Nat} {x : Bool} {z : Int} {k : Nat} {t : TypeId} (h : IsV w (.agg #[.slice A l c, .bool x]) z k) (g : Grow (w.alloc (Obj.cells #[Value.slice A l c, Value.bool x] t)) w') : VarV w' w.heap.size z k :=
  ⟨A, l, c, x, g.cells1 (by simp [go_sem]), g.cells1 (by simp [go_sem]), h.grow (((Grow.refl w).alloc _).trans g)⟩

end Go.Proofs.YtlkiikchjeapfaaDoor
