/- Variables of type Nat that a function makes. -/
import Derived.Test.YtckcjiojfpaikaaDoorNatG
namespace Go.Proofs.YtckcjiojfpaikaaDoor
open Go.RowKit

theorem IsN.weak {w : World} {v : Value} {n k j : Nat} (h : IsN w v n k) (hk : k ≤ j) : IsN w v n j := ⟨h.1, Nat.le_trans h.2 hk⟩
/-- A variable at block k holds the number n. -/
def VarN (w : World) (k n b : Nat) : Prop := ∃ A l c, w.cell? ⟨k, 0, none⟩ = some (.slice A l c) ∧ IsN w (.agg #[.slice A l c]) n b
theorem VarN.grow {w w' : World} {k n b : Nat} (h : VarN w k n b) (g : Grow w w') : VarN w' k n b := by
  obtain ⟨A, l, c, h1, h2⟩ := h
  exact ⟨A, l, c, g.cells1 h1, h2.grow g⟩
theorem VarN.new {w w' : World} {A : Option Addr} {l c n b : Nat} (h : IsN w (.agg #[.slice A l c]) n b) (g : Grow (w.alloc (Obj.cells #[Value.slice A l c] 24)) w') : VarN w' w.heap.size n b :=
  ⟨A, l, c, g.new.1, h.grow (((Grow.refl w).alloc _).trans g)⟩
theorem VarN.new2 {w w' : World} {A D : Option Addr} {l c l' c' n b m d : Nat} (h : IsN w (.agg #[.slice A l c]) n b) (h' : IsN w (.agg #[.slice D l' c']) m d)
    (g : Grow ((w.alloc (Obj.cells #[Value.slice A l c] 24)).alloc (Obj.cells #[Value.slice D l' c'] 24)) w') : VarN w' w.heap.size n b ∧ VarN w' (w.heap.size + 1) m d :=
  ⟨⟨A, l, c, g.new2.1, h.grow ((((Grow.refl w).alloc _).alloc _).trans g)⟩, ⟨D, l', c', g.new2.2, h'.grow ((((Grow.refl w).alloc _).alloc _).trans g)⟩⟩
theorem one_n (w : World) (x : Nat) (hx : x ≤ 1000) : Calls Tryd.prog 8 #[.slice (some ⟨w.heap.size, 0, none⟩) 1 1] (w.alloc (.cells #[.int .u64 (x : Int)] 48)) (Ret (w.alloc (.cells #[.int .u64 (x : Int)] 48)) fun v' w' => IsN w' v' x 1) := by
  have h := of_n 1 (sl_built w [x] (by intro y hy; simp at hy; rw [hy]; exact small_lt hx)) (by simp) (by omega)
  rw [Mx.val_one] at h
  exact h
theorem one_at {w : World} {k : Nat} {x : Nat} (hk : w.heap.size = k) (hx : x ≤ 1000) : Calls Tryd.prog 8 #[.slice (some ⟨k, 0, none⟩) 1 1] (w.alloc (.cells #[.int .u64 (x : Int)] 48)) (Ret (w.alloc (.cells #[.int .u64 (x : Int)] 48)) fun v' w' => IsN w' v' x 1) := by
  subst hk
  exact one_n w x hx
/-- A variable that was just made holds its number. -/
theorem IsN.cell {w : World} {v : Value} {n k : Nat} (h : IsN w v n k) : ∃ A l c, v = .agg #[.slice A l c] := by
  obtain ⟨⟨A, c, e, _, _⟩, _⟩ := h
  exact ⟨A, _, c, e⟩
theorem two_new {w W : World} {v u : Value} {t : TypeId} (h : Grow ((w.alloc (Obj.cells #[v] t)).alloc (Obj.cells #[u] t)) W) : W.cell? ⟨w.heap.size, 0, none⟩ = some v ∧ W.cell? ⟨w.heap.size + 1, 0, none⟩ = some u := h.new2
theorem num_n (w : World) (x : Nat) (hx : x < Mx.B) : Calls Tryd.prog 8 #[.slice (some ⟨w.heap.size, 0, none⟩) 1 1] (w.alloc (.cells #[.int .u64 (x : Int)] 48)) (Ret (w.alloc (.cells #[.int .u64 (x : Int)] 48)) fun v w' => IsN w' v x 1) := by
  have h := of_n 1 (sl_built w [x] (by intro y hy; simp at hy; rw [hy]; exact hx)) (by simp) (by omega)
  rw [Mx.val_one] at h
  exact h
theorem num_at {w : World} {k : Nat} {x : Nat} (hk : w.heap.size = k) (hx : x < Mx.B) : Calls Tryd.prog 8 #[.slice (some ⟨k, 0, none⟩) 1 1] (w.alloc (.cells #[.int .u64 (x : Int)] 48)) (Ret (w.alloc (.cells #[.int .u64 (x : Int)] 48)) fun v w' => IsN w' v x 1) := by
  subst hk
  exact num_n w x hx
end Go.Proofs.YtckcjiojfpaikaaDoor
