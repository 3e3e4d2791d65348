/- The reference of layer 4: Add, Sub, Mul, Cmp, Print. -/
import Derived.Test.YtlkiikchjeapfaaDoorRwA
namespace Go.Proofs.YtlkiikchjeapfaaDoor
open Go.RowKit
set_option maxRecDepth 20000

/-- The world behind the boxes of two Ints of the reference and the place of the answer. -/
def boxV (w : World) (u x v y : Value) : World := ((w.alloc (Obj.cells #[u, x] 33)).alloc (Obj.cells #[v, y] 33)).alloc (Obj.cells #[Value.slice none 0 0, Value.bool false] 33)
theorem boxV_grow (w : World) (u x v y : Value) : Grow w (boxV w u x v y) := (((Grow.refl w).alloc _).alloc _).alloc _
theorem boxV_keep {w W : World} {u x v y : Value} (h : Grow (boxV w u x v y) W) :
    W.cell? ⟨w.heap.size, 0, none⟩ = some u ∧ W.cell? ⟨w.heap.size, 1, none⟩ = some x ∧ W.cell? ⟨w.heap.size + 1, 0, none⟩ = some v ∧ W.cell? ⟨w.heap.size + 1, 1, none⟩ = some y := (box2 h).1
theorem boxV_wb {w W : World} {u x v y : Value} (h : Grow (boxV w u x v y) W) : WB W (w.heap.size + 1 + 1) := (box2 h).2
theorem IsN_cmp_ge {n m : Nat} (h : m ≤ n) : decide ((0 : Int) ≤ Mx.cmp n m) = true := by
  unfold Mx.cmp
  split
  · omega
  · split <;> rfl
theorem IsN_cmp_lt {n m : Nat} (h : n < m) : decide ((0 : Int) ≤ Mx.cmp n m) = false := by
  rw [Mx.cmp_lt h]; rfl





end Go.Proofs.YtlkiikchjeapfaaDoor
