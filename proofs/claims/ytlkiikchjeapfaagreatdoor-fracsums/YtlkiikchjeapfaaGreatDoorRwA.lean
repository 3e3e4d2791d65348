/- The reference of layer 4: what an Int is; Of, From, Sign, Neg, Add. -/
import Derived.Test.YtlkiikchjeapfaaGreatDoorWhK
import Derived.Test.YtlkiikchjeapfaaGreatDoorRefG
import Derived.Test.YtlkiikchjeapfaaGreatDoorRefP
namespace Go.Proofs.YtlkiikchjeapfaaGreatDoor
open Go.RowKit
set_option maxRecDepth 20000

theorem CellsD.storeS {w : World} {A : Option Addr} {l : List Nat} (h : CellsD w A l) {p : Addr} {A' : Option Addr} {n c : Nat} (hp : w.cell? p = some (.slice A' n c)) (u : Value) : CellsD (w.setCell p u) A l := fun hn => by
  obtain ⟨b, o, e, hb, hc⟩ := h hn
  refine ⟨b, o, e, by simpa [World.setCell] using hb, fun j x hx => ?_⟩
  rw [World.cell?_setCell_other w p ⟨b, o + j, none⟩ u (fun e => ?_)]
  · exact hc j x hx
  · have h1 := hc j x hx
    rw [← e, hp] at h1
    cases h1
theorem CellsD.storeB {w : World} {A : Option Addr} {l : List Nat} (h : CellsD w A l) {p : Addr} {b : Bool} (hp : w.cell? p = some (.bool b)) (u : Value) : CellsD (w.setCell p u) A l := fun hn => by
  obtain ⟨b, o, e, hb, hc⟩ := h hn
  refine ⟨b, o, e, by simpa [World.setCell] using hb, fun j x hx => ?_⟩
  rw [World.cell?_setCell_other w p ⟨b, o + j, none⟩ u (fun e => ?_)]
  · exact hc j x hx
  · have h1 := hc j x hx
    rw [← e, hp] at h1
    cases h1
theorem WB.isD {w : World} {b : Nat} (h : WB w b) {v : Value} {n k : Nat} (hv : IsD w v n k) (A : Option Addr) (l c : Nat) (x : Bool) : IsD (stW w b A l c x) v n k := by
  obtain ⟨⟨A0, l0, c0, x0, h0, h1⟩, f0, f1⟩ := h
  obtain ⟨A', c', e, hc, hl, hk⟩ := hv
  refine ⟨A', c', e, hc, (hl.storeS h0 _).storeB (b := x0) ?_ _, hk⟩
  rw [World.cell?_setCell_other _ _ _ _ (fun e => by injection e with _ e; cases e)]
  exact h1
/-- A value of the reference's type Int: the whole number z, of k digits (to the base 10000) at most. -/
def IsV (w : World) (v : Value) (z : Int) (k : Nat) : Prop := ∃ A l c, v = .agg #[.slice A l c, .bool (decide (z < 0))] ∧ IsD w (.slice A l c) z.natAbs k
theorem IsV.grow {w w' : World} {v : Value} {z : Int} {k : Nat} (h : IsV w v z k) (g : Grow w w') : IsV w' v z k := by
  obtain ⟨A, l, c, e, hn⟩ := h
  exact ⟨A, l, c, e, hn.grow g⟩
theorem IsV.weak {w : World} {v : Value} {z : Int} {k j : Nat} (h : IsV w v z k) (hk : k ≤ j) : IsV w v z j := by
  obtain ⟨A, l, c, e, hn⟩ := h
  exact ⟨A, l, c, e, hn.more hk⟩
theorem IsV.st {w : World} {v : Value} {z : Int} {k : Nat} (h : IsV w v z k) {b : Nat} (hb : WB w b) (A : Option Addr) (l c : Nat) (x : Bool) : IsV (stW w b A l c x) v z k := by
  obtain ⟨A', l', c', e, hn⟩ := h
  exact ⟨A', l', c', e, hb.isD hn A l c x⟩
theorem IsV.open {w : World} {v : Value} {z : Int} {k : Nat} (h : IsV w v z k) : ∃ A l c b, v = .agg #[.slice A l c, .bool b] ∧ IsD w (.slice A l c) z.natAbs k ∧ ((b = true ∧ z < 0) ∨ (b = false ∧ 0 ≤ z)) := by
  obtain ⟨A, l, c, e, hn⟩ := h
  by_cases hz : z < 0
  · rw [decide_eq_true hz] at e
    exact ⟨A, l, c, true, e, hn, .inl ⟨rfl, hz⟩⟩
  · rw [decide_eq_false hz] at e
    exact ⟨A, l, c, false, e, hn, .inr ⟨rfl, by omega⟩⟩
theorem IsV.mk {w : World} {A : Option Addr} {l c n k : Nat} {b : Bool} (h : IsD w (.slice A l c) n k) (h0 : b = true → n ≠ 0) : IsV w (.agg #[.slice A l c, .bool b]) (signed n b) k := by
  cases b with
  | false => exact ⟨A, l, c, by rw [decide_eq_false (by simp only [signed]; simp)], by rw [show (signed n false).natAbs = n by simp [signed]]; exact h⟩
  | true =>
    have := h0 rfl
    exact ⟨A, l, c, by rw [decide_eq_true (by simp only [signed, if_true]; omega)], by rw [show (signed n true).natAbs = n by simp [signed]]; exact h⟩
theorem IsD.slice {w : World} {v : Value} {n k : Nat} (h : IsD w v n k) : ∃ A c, v = .slice A (Dx.len n) c := by
  obtain ⟨A, c, e, _⟩ := h
  exact ⟨A, c, e⟩

set_option maxHeartbeats 1000000 in
theorem ofV_any {w : World} {v : Value} {n k : Nat} {b : Bool} (h : IsD w v n k) : Calls Tryz.prog 42 #[v, .bool b] w (Ret w fun v' w' => IsV w' v' (signed n b) k) := by
  obtain ⟨A, c, rfl⟩ := h.slice
  have hcs : (b = false ∧ signed n b = signed n false) ∨ (b = true ∧ (0 : Int) < (Dx.len n : Int) ∧ n ≠ 0) ∨ (b = true ∧ ¬ (0 : Int) < (Dx.len n : Int) ∧ signed n b = signed n false) := by
    cases b with
    | false => exact .inl ⟨rfl, rfl⟩
    | true =>
      by_cases h0 : n = 0
      · subst h0
        exact .inr (.inr ⟨rfl, by rw [Dx.len_zero]; decide, by simp [signed]⟩)
      · have : Dx.len n ≠ 0 := fun e => h0 (Dx.eq_zero_of_len e)
        exact .inr (.inl ⟨rfl, by omega, h0⟩)
  have H := Lib.hid h
  clear h
  generalize Dx.len n = l at *
  rcases hcs with ⟨rfl, e⟩ | ⟨rfl, hl, h0⟩ | ⟨rfl, hl, e⟩
  · rw [e]
    have HV := Lib.hid (fun W (g : Grow w W) => IsV.mk (b := false) (H.out.grow g) (fun h => by cases h))
    clear e
    go_enter Tryz.func42, Tryz.ntmps42
    go_wp2_with fail
    exact bodyPost_ret (v := .agg #[.slice A l c, .bool false]) (by simp [results, Tryz.results42, go_sem]) rfl (Ret.mk (HV.out _ ((Grow.refl w).alloc _)) ((Grow.refl w).alloc _))
  · have HV := Lib.hid (fun W (g : Grow w W) => IsV.mk (b := true) (H.out.grow g) (fun _ => h0))
    go_enter Tryz.func42, Tryz.ntmps42
    go_wp2_with fail
    exact bodyPost_ret (v := .agg #[.slice A l c, .bool true]) (by simp [results, Tryz.results42, go_sem]; omega) rfl (Ret.mk (HV.out _ ((Grow.refl w).alloc _)) ((Grow.refl w).alloc _))
  · rw [e]
    have HV := Lib.hid (fun W (g : Grow w W) => IsV.mk (b := false) (H.out.grow g) (fun h => by cases h))
    clear e
    go_enter Tryz.func42, Tryz.ntmps42
    go_wp2_with fail
    exact bodyPost_ret (v := .agg #[.slice A l c, .bool false]) (by simp [results, Tryz.results42, go_sem]; omega) rfl (Ret.mk (HV.out _ ((Grow.refl w).alloc _)) ((Grow.refl w).alloc _))

set_option maxHeartbeats 1000000 in
theorem signV {w : World} {v : Value} {z : Int} {k : Nat} (h : IsV w v z k) : Calls Tryz.prog 86 #[v] w (Ret w fun v' _ => v' = .int .i64 z.sign) := by
  obtain ⟨A, l, c, b, rfl, hn, hb⟩ := h.open
  obtain ⟨A', c', e⟩ := hn.slice
  injection e with e1 e2 e3
  have hcase : (b = true ∧ ((l : Int) == 0) = false ∧ z.sign = -1) ∨ (b = false ∧ ((l : Int) == 0) = true ∧ z.sign = 0) ∨ (b = false ∧ ((l : Int) == 0) = false ∧ z.sign = 1) := by
    have hl : l = 0 ↔ z = 0 := by
      rw [e2]
      constructor
      · intro h; have := Dx.eq_zero_of_len h; omega
      · rintro rfl; rfl
    rcases hb with ⟨hb, hz⟩ | ⟨hb, hz⟩
    · refine .inl ⟨hb, ?_, Int.sign_eq_neg_one_of_neg hz⟩
      simp; omega
    · by_cases h0 : z = 0
      · exact .inr (.inl ⟨hb, by simp; omega, by rw [h0]; rfl⟩)
      · exact .inr (.inr ⟨hb, by simp; omega, Int.sign_eq_one_of_pos (by omega)⟩)
  clear hn h hb e1 e2 e3
  rcases hcase with ⟨rfl, e1, e2⟩ | ⟨rfl, e1, e2⟩ | ⟨rfl, e1, e2⟩
  all_goals
    rw [e2]
    clear e2
    go_enter Tryz.func86, Tryz.ntmps86
    go_wp2_with fail
    go_ret
    exact Ret.mk rfl ((Grow.refl w).alloc _)

set_option maxHeartbeats 1000000 in
theorem negV {w : World} {v : Value} {z : Int} {k : Nat} (h : IsV w v z k) : Calls Tryz.prog 57 #[v] w (Ret w fun v' w' => IsV w' v' (-z) k) := by
  obtain ⟨A, l, c, b, rfl, hn, hb⟩ := h.open
  have HO := Lib.hid (fun W (g : Grow w W) => ofV_any (b := !b) (hn.grow g))
  rw [neg_signed hb] at HO
  clear hn h hb
  go_enter Tryz.func57, Tryz.ntmps57
  go_wp2_with fail
  refine (HO.out _ (((Grow.refl w).alloc _).alloc _)).mono ?_
  rintro e w1 ⟨v1, rfl, h1, g1⟩
  obtain ⟨A1, l1, c1, x1, rfl, _⟩ := h1.open
  obtain ⟨_, _, hwb⟩ := box1 g1
  obtain ⟨k0, k1⟩ := hwb.cells A1 l1 c1 x1
  have HW := Lib.hid (h1.st hwb A1 l1 c1 x1)
  have HG := Lib.hid (grow_stW ((((Grow.refl w).alloc _).alloc _).trans g1) (b := w.heap.size + 1) (by omega) A1 l1 c1 x1)
  obtain ⟨⟨A0, l0, c0, x0, m0, m1⟩, f0, f1⟩ := hwb
  clear g1 h1
  go_wp2_with fail
  refine bodyPost_ret (v := .agg #[.slice A1 l1 c1, .bool x1]) (by simp only [stW] at k0 k1; simp [results, Tryz.results57, go_sem, k0, k1]) rfl (Ret.mk HW.out HG.out)

set_option maxHeartbeats 1000000 in
theorem fromV_one (w : World) : Calls Tryz.prog 88 #[.int .i64 1] w (Ret w fun v' w' => IsV w' v' 1 5) := by
  have HS := Lib.hid (fun W => refSmall_any W 1 (by decide))
  have HO := Lib.hid (fun W v (h : IsD W v 1 5) => ofV_any (b := false) h)
  rw [show signed 1 false = 1 from rfl] at HO
  go_enter Tryz.func88, Tryz.ntmps88
  go_wp2_with fail
  refine (HS.out _).mono ?_
  rintro e w1 ⟨v1, rfl, n1, g1⟩
  have N1 := Lib.hid n1
  have HB := Lib.hid ((WB.new w none 0 0 false 33).grow g1)
  have G1 := Lib.hid (((Grow.refl w).alloc _).trans g1)
  clear n1 g1
  go_wp2_with fail
  refine (HO.out _ _ N1.out).mono ?_
  rintro e w2 ⟨v2, rfl, h2, g2⟩
  obtain ⟨A1, l1, c1, x1, rfl, _⟩ := h2.open
  have hwb := HB.out.grow g2
  obtain ⟨k0, k1⟩ := hwb.cells A1 l1 c1 x1
  have HW := Lib.hid (h2.st hwb A1 l1 c1 x1)
  have HG := Lib.hid (grow_stW (G1.out.trans g2) (b := w.heap.size) (by omega) A1 l1 c1 x1)
  obtain ⟨⟨A0, l0, c0, x0, m0, m1⟩, f0, f1⟩ := hwb
  clear g2 h2
  go_wp2_with fail
  refine bodyPost_ret (v := .agg #[.slice A1 l1 c1, .bool x1]) (by simp only [stW] at k0 k1; simp [results, Tryz.results88, go_sem, k0, k1]) rfl (Ret.mk HW.out HG.out)
end Go.Proofs.YtlkiikchjeapfaaGreatDoor
