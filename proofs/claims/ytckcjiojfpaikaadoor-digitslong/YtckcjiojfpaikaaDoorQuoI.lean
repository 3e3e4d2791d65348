/- Contracts of package quot: Shl, Shr, gcdOfLimbs. -/
import Derived.Test.YtckcjiojfpaikaaDoorQuoH
namespace Go.Proofs.YtckcjiojfpaikaaDoor
open Go.RowKit
set_option maxRecDepth 20000

/-- The two blocks that a shift makes first. -/
theorem shift_cells {w W : World} {A : Option Addr} {n c : Nat} (h : Grow ((w.alloc (Obj.cells #[Value.slice A n c] 24)).alloc (Obj.cells #[Value.slice none 0 0] 24)) W) :
    W.cell? ⟨w.heap.size, 0, none⟩ = some (.slice A n c) ∧ W.cell? ⟨w.heap.size + 1, 0, none⟩ = some (.slice none 0 0) ∧ W.frozen? ⟨w.heap.size + 1, 0, none⟩ = false := by
  have hs : ((w.alloc (Obj.cells #[Value.slice A n c] 24)).alloc (Obj.cells #[Value.slice none 0 0] 24)).heap.size = w.heap.size + 1 + 1 := by simp
  exact ⟨(h.cell (p := ⟨w.heap.size, 0, none⟩) (by show w.heap.size < _; omega)).trans (by simp [go_sem]), (h.cell (p := ⟨w.heap.size + 1, 0, none⟩) (by show w.heap.size + 1 < _; omega)).trans (by simp [go_sem]),
    (Below.frozen h (p := ⟨w.heap.size + 1, 0, none⟩) (by show w.heap.size + 1 < _; omega)).trans (by simp [go_sem])⟩

/-- A shift's answer. -/
def ShRet (x : Nat) (v : Value) (w' : World) : Prop := ∃ u, v = .tuple #[u, .int .i64 0] ∧ IsNat w' u x



/-- Out of bounds. -/
def ShBad (v : Value) (w' : World) : Prop := ∃ u, v = .tuple #[u, .int .i64 2] ∧ IsNat w' u 0
theorem bad_split {k : Int} (h : k < 0 ∨ 262144 < k) : (decide (k < 0) = true) ∨ (decide (k < 0) = false ∧ decide (262144 < k) = true) := by
  by_cases h0 : k < 0
  · exact .inl (decide_eq_true h0)
  · exact .inr ⟨decide_eq_false h0, decide_eq_true (by omega)⟩

end Go.Proofs.YtckcjiojfpaikaaDoor
