/- Variables of type Nat that the laws of layer 2 make. -/
import Derived.Test.YtfeijnbmaehniaaLaw2A
namespace Go.Proofs.Ytfeijnbmaehniaa
open Go.RowKit

theorem IsN.weak {w : World} {v : Value} {n k j : Nat} (h : IsN w v n k) (hk : k ≤ j) : IsN w v n j := ⟨h.1, Nat.le_trans h.2 hk⟩
/-- A variable at block k holds the number n. -/
def VarN (w : World) (k n b : Nat) : Prop := ∃ A l c, w.cell? ⟨k, 0, none⟩ = some (.slice A l c) ∧ IsN w (.agg #[.slice A l c]) n b
theorem VarN.grow {w w' : World} {k n b : Nat} (h : VarN w k n b) (g : Grow w w') : VarN w' k n b := by
  obtain ⟨A, l, c, h1, h2⟩ := h
  exact ⟨A, l, c, g.cells1 h1, h2.grow g⟩
theorem VarN.new {w w' : World} {A : Option Addr} {l c n b : Nat} (h : IsN w (.agg #[.slice A l c]) n b) (g : Grow (w.alloc (Obj.cells #[Value.slice A l c] 24)) w') : VarN w' w.heap.size n b :=
  ⟨A, l, c, g.new.1, h.grow (((Grow.refl w).alloc _).trans g)⟩
theorem VarN.new2 {w w' : World} {A D : Option Addr} {l c l' c' n b m d : Nat} (h : IsN w (.agg #[.slice A l c]) n b) (h' : IsN w (.agg #[.slice D l' c']) m d)
    (g : Grow ((w.alloc (Obj.cells #[Value.slice A l c] 24)).alloc (Obj.cells #[Value.slice D l' c'] 24)) w') : VarN w' w.heap.size n b ∧ VarN w' (w.heap.size + 1) m d :=
  ⟨⟨A, l, c, g.new2.1, h.grow ((((Grow.refl w).alloc _).alloc _).trans g)⟩, ⟨D, l', c', g.new2.2, h'.grow ((((Grow.refl w).alloc _).alloc _).trans g)⟩⟩
end Go.Proofs.Ytfeijnbmaehniaa
