/- Package whole: what an Int is; Of. -/
import Derived.Test.YtlkiikchjeapfaaDoorBQuo
import Derived.Test.YtlkiikchjeapfaaDoorBRg
import Derived.Test.YtlkiikchjeapfaaDoorBDig
import Derived.Deep.RegionHeld3
namespace Go.Proofs.YtlkiikchjeapfaaDoor
open Go.RowKit
set_option maxRecDepth 20000

/-- A store over a cell that holds a bool makes no difference. -/
theorem Cells.storeB {w : World} {A : Option Addr} {l : List Nat} (h : Cells w A l) {p : Addr} {b : Bool} (hp : w.cell? p = some (.bool b)) (u : Value) : Cells (w.setCell p u) A l := fun hn => by
  obtain ⟨b, o, e, hb, hc⟩ := h hn
  refine ⟨b, o, e, by simpa [World.setCell] using hb, fun j x hx => ?_⟩
  rw [World.cell?_setCell_other w p ⟨b, o + j, none⟩ u (fun e => ?_)]
  · exact hc j x hx
  · have h1 := hc j x hx
    rw [← e, hp] at h1
    cases h1
theorem IsNat.storeB {w : World} {v : Value} {n : Nat} (h : IsNat w v n) {p : Addr} {b : Bool} (hp : w.cell? p = some (.bool b)) (u : Value) : IsNat (w.setCell p u) v n := by
  obtain ⟨A, c, e, hc, hl⟩ := h
  exact ⟨A, c, e, hc, hl.storeB hp u⟩
theorem IsN.storeB {w : World} {v : Value} {n k : Nat} (h : IsN w v n k) {p : Addr} {b : Bool} (hp : w.cell? p = some (.bool b)) (u : Value) : IsN (w.setCell p u) v n k := ⟨h.1.storeB hp u, h.2⟩

/-- A block of two cells, of an Int's, that may be written. -/
structure WB (w : World) (b : Nat) : Prop where
  ex : ∃ A l c x, w.cell? ⟨b, 0, none⟩ = some (.slice A l c) ∧ w.cell? ⟨b, 1, none⟩ = some (.bool x)
  f0 : w.frozen? ⟨b, 0, none⟩ = false
  f1 : w.frozen? ⟨b, 1, none⟩ = false
theorem WB.grow {w w' : World} {b : Nat} (h : WB w b) (g : Grow w w') : WB w' b := by
  obtain ⟨⟨A, l, c, x, h0, h1⟩, f0, f1⟩ := h
  exact ⟨⟨A, l, c, x, g.cells1 h0, g.cells1 h1⟩, (Below.frozen g (lt_of_cell' h0)).trans f0, (Below.frozen g (lt_of_cell' h1)).trans f1⟩
theorem WB.new (w : World) (A : Option Addr) (l c : Nat) (x : Bool) (t : TypeId) : WB (w.alloc (Obj.cells #[Value.slice A l c, Value.bool x] t)) w.heap.size :=
  ⟨⟨A, l, c, x, by simp [go_sem], by simp [go_sem]⟩, by simp [go_sem], by simp [go_sem]⟩
/-- What a store of an Int leaves. -/
def stW (w : World) (b : Nat) (A : Option Addr) (l c : Nat) (x : Bool) : World := (w.setCell ⟨b, 0, none⟩ (.slice A l c)).setCell ⟨b, 1, none⟩ (.bool x)
theorem WB.isN {w : World} {b : Nat} (h : WB w b) {v : Value} {n k : Nat} (hv : IsN w v n k) (A : Option Addr) (l c : Nat) (x : Bool) : IsN (stW w b A l c x) v n k := by
  obtain ⟨⟨A0, l0, c0, x0, h0, h1⟩, f0, f1⟩ := h
  refine (hv.store h0 _).storeB (b := x0) ?_ _
  rw [World.cell?_setCell_other _ _ _ _ (fun e => by injection e with _ e; cases e)]
  exact h1
theorem WB.cells {w : World} {b : Nat} (h : WB w b) (A : Option Addr) (l c : Nat) (x : Bool) : (stW w b A l c x).cell? ⟨b, 0, none⟩ = some (.slice A l c) ∧ (stW w b A l c x).cell? ⟨b, 1, none⟩ = some (.bool x) := by
  obtain ⟨⟨A0, l0, c0, x0, h0, h1⟩, f0, f1⟩ := h
  have h1' : (w.setCell ⟨b, 0, none⟩ (.slice A l c)).cell? ⟨b, 1, none⟩ = some (.bool x0) := by
    rw [World.cell?_setCell_other _ _ _ _ (fun e => by injection e with _ e; cases e)]
    exact h1
  constructor
  · show ((w.setCell ⟨b, 0, none⟩ (.slice A l c)).setCell ⟨b, 1, none⟩ (.bool x)).cell? _ = _
    rw [World.cell?_setCell_other _ _ _ _ (fun e => by injection e with _ e; cases e)]
    exact World.cell?_setCell_same _ _ _ h0
  · exact World.cell?_setCell_same _ _ _ h1'
theorem grow_stW {a w : World} (h : Grow a w) {b : Nat} (hb : a.heap.size ≤ b) (A : Option Addr) (l c : Nat) (x : Bool) : Grow a (stW w b A l c x) := (h.setCell (p := ⟨b, 0, none⟩) hb _).setCell (p := ⟨b, 1, none⟩) hb _

/-- A value of type whole.Int: the whole number z, of k limbs at most. -/
def IsW (w : World) (v : Value) (z : Int) (k : Nat) : Prop := ∃ A l c, v = .agg #[.slice A l c, .bool (decide (z < 0))] ∧ IsN w (.agg #[.slice A l c]) z.natAbs k
theorem IsW.grow {w w' : World} {v : Value} {z : Int} {k : Nat} (h : IsW w v z k) (g : Grow w w') : IsW w' v z k := by
  obtain ⟨A, l, c, e, hn⟩ := h
  exact ⟨A, l, c, e, hn.grow g⟩
theorem IsW.weak {w : World} {v : Value} {z : Int} {k j : Nat} (h : IsW w v z k) (hk : k ≤ j) : IsW w v z j := by
  obtain ⟨A, l, c, e, hn⟩ := h
  exact ⟨A, l, c, e, hn.weak hk⟩
theorem IsW.eq {w : World} {v : Value} {z y : Int} {k : Nat} (h : IsW w v z k) (e : z = y) : IsW w v y k := e ▸ h
theorem IsW.st {w : World} {v : Value} {z : Int} {k : Nat} (h : IsW w v z k) {b : Nat} (hb : WB w b) (A : Option Addr) (l c : Nat) (x : Bool) : IsW (stW w b A l c x) v z k := by
  obtain ⟨A', l', c', e, hn⟩ := h
  exact ⟨A', l', c', e, hb.isN hn A l c x⟩
/-- Its parts: the sign as a bool that is known. -/
theorem IsW.open {w : World} {v : Value} {z : Int} {k : Nat} (h : IsW w v z k) : ∃ A l c b, v = .agg #[.slice A l c, .bool b] ∧ IsN w (.agg #[.slice A l c]) z.natAbs k ∧ ((b = true ∧ z < 0) ∨ (b = false ∧ 0 ≤ z)) := by
  obtain ⟨A, l, c, e, hn⟩ := h
  by_cases hz : z < 0
  · rw [decide_eq_true hz] at e
    exact ⟨A, l, c, true, e, hn, .inl ⟨rfl, hz⟩⟩
  · rw [decide_eq_false hz] at e
    exact ⟨A, l, c, false, e, hn, .inr ⟨rfl, by omega⟩⟩
/-- What Of answers. -/
def signed (n : Nat) (b : Bool) : Int := if b then -(n : Int) else n
theorem IsW.mk {w : World} {A : Option Addr} {l c n k : Nat} {b : Bool} (h : IsN w (.agg #[.slice A l c]) n k) (h0 : b = true → n ≠ 0) : IsW w (.agg #[.slice A l c, .bool b]) (signed n b) k := by
  cases b with
  | false => exact ⟨A, l, c, by rw [decide_eq_false (by simp only [signed]; simp)], by rw [show (signed n false).natAbs = n by simp [signed]]; exact h⟩
  | true =>
    have := h0 rfl
    exact ⟨A, l, c, by rw [decide_eq_true (by simp only [signed, if_true]; omega)], by rw [show (signed n true).natAbs = n by simp [signed]]; exact h⟩
end Go.Proofs.YtlkiikchjeapfaaDoor
namespace Go.Proofs.YtlkiikchjeapfaaDoor.Rg
open Go.RowKit
section
variable {ops : Array Oper} {Q : Exit → Act → World → Prop} {F : Facts} {a0 : Act} {w0 : World}
theorem st_W (z : Int) (k : Nat) : Stable (fun w v => IsW w v z k) := fun _ _ _ h g => h.grow g
theorem step2_of {i : Nat} (h : Step Tryd.prog ops Q F a0 w0 i) : Step2 Tryd.prog ops Q (fun d _ w v => F d w v) a0 w0 i := h
theorem buildW {i d x y n k : Nat} {b : Bool} (dx : depI ops i x = true) (dy : depI ops i y = true) (hx : ∀ w v, F x w v → IsN w v n k) (hy : ∀ w v, F y w v → v = .bool b) (hb : b = true → n ≠ 0)
    (hF : ∀ w v, IsW w v (signed n b) k → F d w v) : Owes Tryd.prog ops Q F a0 w0 i (some d) (.build 28 #[(0, .tmp x), (1, .tmp y)]) :=
  fun o a w ho hd hg ha D => by
    have h1 := hx _ _ (D x dx)
    have e2 : a.tmps.getD y undef = .bool b := hy _ _ (D y dy)
    obtain ⟨A, l, c, e1⟩ := h1.cell
    rw [e1] at h1
    have h3 := IsW.mk h1 hb
    refine valOf (v := .agg #[.slice A l c, .bool b]) (w' := w) ?_ hd (hF _ _ h3) (Grow.refl w)
    simp only [Array.getD_eq_getD_getElem?] at e1 e2
    simp [execOp, ho, go_sem, Act.eval, e1, e2]
theorem storeW_last {k p x b : Nat} {A : Option Addr} {l c : Nat} {z : Bool} {a : Act} {w : World} (h : info ops k = some (none, .store 28 (.tmp p) (.tmp x), none)) (hp : a.tmps.getD p undef = .pointer (some ⟨b, 0, none⟩))
    (hx : a.tmps.getD x undef = .agg #[.slice A l c, .bool z]) (hb : WB w b) (hq : Q .normal a (stW w b A l c z)) : wpOp Tryd.prog ops Q k (fun a' w' => Q .normal a' w') a w := by
  cases ho : ops[k]? with
  | none => rw [info, ho] at h; cases h
  | some o =>
    obtain ⟨h1, h2, h3⟩ := info_parts h ho
    refine run_wanted ho (by simp [Region.wanted, h3]) ?_
    unfold Oper.wp
    obtain ⟨⟨A0, l0, c0, x0, k0, k1⟩, f0, f1⟩ := hb
    have hrun : (execOp a.eval o).run Tryd.prog w = .ok .skip (stW w b A l c z) := by
      simp only [Array.getD_eq_getD_getElem?] at hp hx
      simp [execOp, h2, go_sem, Act.eval, hp, hx, k0, k1, f0, f1, stW]
    rw [hrun, Oper.upon_skip, h1]
    exact hq
end
end Go.Proofs.YtlkiikchjeapfaaDoor.Rg
