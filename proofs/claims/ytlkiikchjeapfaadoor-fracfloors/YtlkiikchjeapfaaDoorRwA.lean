/- The reference of layer 4: what an Int is; Of, From, Sign, Neg, Add. -/
import Derived.Test.YtlkiikchjeapfaaDoorWhK
import Derived.Test.YtlkiikchjeapfaaDoorRefG
import Derived.Test.YtlkiikchjeapfaaDoorRefP
namespace Go.Proofs.YtlkiikchjeapfaaDoor
open Go.RowKit
set_option maxRecDepth 20000

theorem CellsD.storeS {w : World} {A : Option Addr} {l : List Nat} (h : CellsD w A l) {p : Addr} {A' : Option Addr} {n c : Nat} (hp : w.cell? p = some (.slice A' n c)) (u : Value) : CellsD (w.setCell p u) A l := fun hn => by
  obtain ⟨b, o, e, hb, hc⟩ := h hn
  refine ⟨b, o, e, by simpa [World.setCell] using hb, fun j x hx => ?_⟩
  rw [World.cell?_setCell_other w p ⟨b, o + j, none⟩ u (fun e => ?_)]
  · exact hc j x hx
  · have h1 := hc j x hx
    rw [← e, hp] at h1
    cases h1
theorem CellsD.storeB {w : World} {A : Option Addr} {l : List Nat} (h : CellsD w A l) {p : Addr} {b : Bool} (hp : w.cell? p = some (.bool b)) (u : Value) : CellsD (w.setCell p u) A l := fun hn => by
  obtain ⟨b, o, e, hb, hc⟩ := h hn
  refine ⟨b, o, e, by simpa [World.setCell] using hb, fun j x hx => ?_⟩
  rw [World.cell?_setCell_other w p ⟨b, o + j, none⟩ u (fun e => ?_)]
  · exact hc j x hx
  · have h1 := hc j x hx
    rw [← e, hp] at h1
    cases h1
theorem WB.isD {w : World} {b : Nat} (h : WB w b) {v : Value} {n k : Nat} (hv : IsD w v n k) (A : Option Addr) (l c : Nat) (x : Bool) : IsD (stW w b A l c x) v n k := by
  obtain ⟨⟨A0, l0, c0, x0, h0, h1⟩, f0, f1⟩ := h
  obtain ⟨A', c', e, hc, hl, hk⟩ := hv
  refine ⟨A', c', e, hc, (hl.storeS h0 _).storeB (b := x0) ?_ _, hk⟩
  rw [World.cell?_setCell_other _ _ _ _ (fun e => by injection e with _ e; cases e)]
  exact h1
/-- A value of the reference's type Int: the whole number z, of k digits (to the base 10000) at most. -/
def IsV (w : World) (v : Value) (z : Int) (k : Nat) : Prop := ∃ A l c, v = .agg #[.slice A l c, .bool (decide (z < 0))] ∧ IsD w (.slice A l c) z.natAbs k
theorem IsV.grow {w w' : World} {v : Value} {z : Int} {k : Nat} (h : IsV w v z k) (g : Grow w w') : IsV w' v z k := by
  obtain ⟨A, l, c, e, hn⟩ := h
  exact ⟨A, l, c, e, hn.grow g⟩
theorem IsV.weak {w : World} {v : Value} {z : Int} {k j : Nat} (h : IsV w v z k) (hk : k ≤ j) : IsV w v z j := by
  obtain ⟨A, l, c, e, hn⟩ := h
  exact ⟨A, l, c, e, hn.more hk⟩
theorem IsV.st {w : World} {v : Value} {z : Int} {k : Nat} (h : IsV w v z k) {b : Nat} (hb : WB w b) (A : Option Addr) (l c : Nat) (x : Bool) : IsV (stW w b A l c x) v z k := by
  obtain ⟨A', l', c', e, hn⟩ := h
  exact ⟨A', l', c', e, hb.isD hn A l c x⟩
theorem IsV.open {w : World} {v : Value} {z : Int} {k : Nat} (h : IsV w v z k) : ∃ A l c b, v = .agg #[.slice A l c, .bool b] ∧ IsD w (.slice A l c) z.natAbs k ∧ ((b = true ∧ z < 0) ∨ (b = false ∧ 0 ≤ z)) := by
  obtain ⟨A, l, c, e, hn⟩ := h
  by_cases hz : z < 0
  · rw [decide_eq_true hz] at e
    exact ⟨A, l, c, true, e, hn, .inl ⟨rfl, hz⟩⟩
  · rw [decide_eq_false hz] at e
    exact ⟨A, l, c, false, e, hn, .inr ⟨rfl, by omega⟩⟩
theorem IsV.mk {w : World} {A : Option Addr} {l c n k : Nat} {b : Bool} (h : IsD w (.slice A l c) n k) (h0 : b = true → n ≠ 0) : IsV w (.agg #[.slice A l c, .bool b]) (signed n b) k := by
  cases b with
  | false => exact ⟨A, l, c, by rw [decide_eq_false (by simp only [signed]; simp)], by rw [show (signed n false).natAbs = n by simp [signed]]; exact h⟩
  | true =>
    have := h0 rfl
    exact ⟨A, l, c, by rw [decide_eq_true (by simp only [signed, if_true]; omega)], by rw [show (signed n true).natAbs = n by simp [signed]]; exact h⟩
theorem IsD.slice {w : World} {v : Value} {n k : Nat} (h : IsD w v n k) : ∃ A c, v = .slice A (Dx.len n) c := by
  obtain ⟨A, c, e, _⟩ := h
  exact ⟨A, c, e⟩

set_option maxHeartbeats 1000000 in
theorem ofV_any {w : World} {v : Value} {n k : Nat} {b : Bool} (h : IsD w v n k) : Calls Tryd.prog 26 #[v, .bool b] w (Ret w fun v' w' => IsV w' v' (signed n b) k) := by
  obtain ⟨A, c, rfl⟩ := h.slice
  have hcs : (b = false ∧ signed n b = signed n false) ∨ (b = true ∧ (0 : Int) < (Dx.len n : Int) ∧ n ≠ 0) ∨ (b = true ∧ ¬ (0 : Int) < (Dx.len n : Int) ∧ signed n b = signed n false) := by
    cases b with
    | false => exact .inl ⟨rfl, rfl⟩
    | true =>
      by_cases h0 : n = 0
      · subst h0
        exact .inr (.inr ⟨rfl, by rw [Dx.len_zero]; decide, by simp [signed]⟩)
      · have : Dx.len n ≠ 0 := fun e => h0 (Dx.eq_zero_of_len e)
        exact .inr (.inl ⟨rfl, by omega, h0⟩)
  have H := Lib.hid h
  clear h
  generalize Dx.len n = l at *
  rcases hcs with ⟨rfl, e⟩ | ⟨rfl, hl, h0⟩ | ⟨rfl, hl, e⟩
  · rw [e]
    have HV := Lib.hid (fun W (g : Grow w W) => IsV.mk (b := false) (H.out.grow g) (fun h => by cases h))
    clear e
    go_enter Tryd.func26, Tryd.ntmps26
    go_wp2_with fail
    exact bodyPost_ret (v := .agg #[.slice A l c, .bool false]) (by simp [results, Tryd.results26, go_sem]) rfl (Ret.mk (HV.out _ ((Grow.refl w).alloc _)) ((Grow.refl w).alloc _))
  · have HV := Lib.hid (fun W (g : Grow w W) => IsV.mk (b := true) (H.out.grow g) (fun _ => h0))
    go_enter Tryd.func26, Tryd.ntmps26
    go_wp2_with fail
    exact bodyPost_ret (v := .agg #[.slice A l c, .bool true]) (by simp [results, Tryd.results26, go_sem]; omega) rfl (Ret.mk (HV.out _ ((Grow.refl w).alloc _)) ((Grow.refl w).alloc _))
  · rw [e]
    have HV := Lib.hid (fun W (g : Grow w W) => IsV.mk (b := false) (H.out.grow g) (fun h => by cases h))
    clear e
    go_enter Tryd.func26, Tryd.ntmps26
    go_wp2_with fail
    exact bodyPost_ret (v := .agg #[.slice A l c, .bool false]) (by simp [results, Tryd.results26, go_sem]; omega) rfl (Ret.mk (HV.out _ ((Grow.refl w).alloc _)) ((Grow.refl w).alloc _))



end Go.Proofs.YtlkiikchjeapfaaDoor
