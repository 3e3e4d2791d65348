/- Package whole: Abs, Sign, Neg, From, Cmp. -/
import Derived.Test.YtlkiikchjeapfaaGreatDoorWhB
import Derived.IntWalk
namespace Go.Proofs.YtlkiikchjeapfaaGreatDoor
open Go.RowKit
set_option maxRecDepth 20000

theorem IsW.base {w : World} {A : Option Addr} {l c : Nat} {x : Bool} {z : Int} {k : Nat} (h : IsW w (.agg #[.slice A l c, .bool x]) z k) : IsN w (.agg #[.slice A l c]) z.natAbs k := by
  obtain ⟨A', l', c', e, hn⟩ := h
  injection e with e
  simp at e
  obtain ⟨⟨rfl, rfl, rfl⟩, _⟩ := e
  exact hn

set_option maxHeartbeats 1000000 in
theorem abs_w {w : World} {v : Value} {z : Int} {k : Nat} (h : IsW w v z k) : Calls Tryz.prog 35 #[v] w (Ret w fun v' w' => IsN w' v' z.natAbs k) := by
  obtain ⟨A, l, c, b, rfl, hn, _⟩ := h.open
  have H := Lib.hid hn
  clear hn h
  go_enter Tryz.func35, Tryz.ntmps35
  go_wp2_with fail
  refine bodyPost_ret (v := .agg #[.slice A l c]) (by simp [results, Tryz.results35, go_sem]) rfl (Ret.mk ?_ ?_)
  · exact H.out.grow (((Grow.refl w).alloc _).alloc _)
  · exact ((Grow.refl w).alloc _).alloc _

set_option maxHeartbeats 1000000 in
theorem sign_w {w : World} {v : Value} {z : Int} {k : Nat} (h : IsW w v z k) : Calls Tryz.prog 28 #[v] w (Ret w fun v' _ => v' = .int .i64 z.sign) := by
  obtain ⟨A, l, c, b, rfl, hn, hb⟩ := h.open
  have HZ := Lib.hid (fun W (g : Grow w W) => zero_n (hn.grow g))
  have hcase : (b = true ∧ (z.natAbs == 0) = false ∧ z.sign = -1) ∨ (b = false ∧ (z.natAbs == 0) = true ∧ z.sign = 0) ∨ (b = false ∧ (z.natAbs == 0) = false ∧ z.sign = 1) := by
    rcases hb with ⟨hb, hz⟩ | ⟨hb, hz⟩
    · exact .inl ⟨hb, by simp; omega, Int.sign_eq_neg_one_of_neg hz⟩
    · by_cases h0 : z = 0
      · subst h0; exact .inr (.inl ⟨hb, rfl, rfl⟩)
      · exact .inr (.inr ⟨hb, by simp; omega, Int.sign_eq_one_of_pos (by omega)⟩)
  clear hn h hb
  rcases hcase with ⟨rfl, e1, e2⟩ | ⟨rfl, e1, e2⟩ | ⟨rfl, e1, e2⟩
  all_goals
    rw [e1] at HZ
    rw [e2]
    clear e1 e2
    go_enter Tryz.func28, Tryz.ntmps28
    go_wp2_with fail
    refine (HZ.out _ ((Grow.refl w).alloc _)).mono ?_
    rintro e w1 ⟨v1, rfl, rfl, g1⟩
    have G1 := Lib.hid (((Grow.refl w).alloc _).trans g1)
    have k0 : w1.cell? ⟨w.heap.size, 1, none⟩ = _ := g1.cells1 (show _ = some _ by simp [go_sem]; rfl)
    clear g1
    go_wp2_with fail
    go_ret
    exact Ret.mk rfl G1.out

theorem neg_signed {z : Int} {b : Bool} (h : (b = true ∧ z < 0) ∨ (b = false ∧ 0 ≤ z)) : signed z.natAbs (!b) = -z := by
  rcases h with ⟨rfl, h⟩ | ⟨rfl, h⟩ <;> simp [signed] <;> omega
theorem signed_abs {z : Int} {b : Bool} (h : (b = true ∧ z < 0) ∨ (b = false ∧ 0 ≤ z)) : signed z.natAbs b = z := by
  rcases h with ⟨rfl, h⟩ | ⟨rfl, h⟩ <;> simp [signed] <;> omega
/-- One box of an Int, and the place of the answer. -/
theorem box1 {w W : World} {u x : Value} {t t' : TypeId} (h : Grow ((w.alloc (Obj.cells #[u, x] t)).alloc (Obj.cells #[Value.slice none 0 0, Value.bool false] t')) W) :
    W.cell? ⟨w.heap.size, 0, none⟩ = some u ∧ W.cell? ⟨w.heap.size, 1, none⟩ = some x ∧ WB W (w.heap.size + 1) := by
  have hs : ((w.alloc (Obj.cells #[u, x] t)).alloc (Obj.cells #[Value.slice none 0 0, Value.bool false] t')).heap.size = w.heap.size + 1 + 1 := by simp
  have hw := WB.new (w.alloc (Obj.cells #[u, x] t)) none 0 0 false t'
  rw [World.size_alloc] at hw
  exact ⟨(h.cell (p := ⟨w.heap.size, 0, none⟩) (by show w.heap.size < _; omega)).trans (by simp [go_sem]), (h.cell (p := ⟨w.heap.size, 1, none⟩) (by show w.heap.size < _; omega)).trans (by simp [go_sem]), hw.grow h⟩
/-- Two boxes of an Int, and the place of the answer. -/
theorem box2 {w W : World} {u x v y : Value} {t t' : TypeId} (h : Grow (((w.alloc (Obj.cells #[u, x] t)).alloc (Obj.cells #[v, y] t)).alloc (Obj.cells #[Value.slice none 0 0, Value.bool false] t')) W) :
    (W.cell? ⟨w.heap.size, 0, none⟩ = some u ∧ W.cell? ⟨w.heap.size, 1, none⟩ = some x ∧ W.cell? ⟨w.heap.size + 1, 0, none⟩ = some v ∧ W.cell? ⟨w.heap.size + 1, 1, none⟩ = some y) ∧ WB W (w.heap.size + 1 + 1) := by
  have hs : (((w.alloc (Obj.cells #[u, x] t)).alloc (Obj.cells #[v, y] t)).alloc (Obj.cells #[Value.slice none 0 0, Value.bool false] t')).heap.size = w.heap.size + 1 + 1 + 1 := by simp
  have hw := WB.new ((w.alloc (Obj.cells #[u, x] t)).alloc (Obj.cells #[v, y] t)) none 0 0 false t'
  rw [World.size_alloc, World.size_alloc] at hw
  exact ⟨⟨(h.cell (p := ⟨w.heap.size, 0, none⟩) (by show w.heap.size < _; omega)).trans (by simp [go_sem]), (h.cell (p := ⟨w.heap.size, 1, none⟩) (by show w.heap.size < _; omega)).trans (by simp [go_sem]),
    (h.cell (p := ⟨w.heap.size + 1, 0, none⟩) (by show w.heap.size + 1 < _; omega)).trans (by simp [go_sem]), (h.cell (p := ⟨w.heap.size + 1, 1, none⟩) (by show w.heap.size + 1 < _; omega)).trans (by simp [go_sem])⟩, hw.grow h⟩

set_option maxHeartbeats 1000000 in
theorem neg_w {w : World} {v : Value} {z : Int} {k : Nat} (h : IsW w v z k) : Calls Tryz.prog 56 #[v] w (Ret w fun v' w' => IsW w' v' (-z) k) := by
  obtain ⟨A, l, c, b, rfl, hn, hb⟩ := h.open
  have HO := Lib.hid (fun W (g : Grow w W) => of_w (b := !b) (hn.grow g))
  rw [neg_signed hb] at HO
  clear hn h hb
  go_enter Tryz.func56, Tryz.ntmps56
  go_wp2_with fail
  refine (HO.out _ (((Grow.refl w).alloc _).alloc _)).mono ?_
  rintro e w1 ⟨v1, rfl, h1, g1⟩
  obtain ⟨A1, l1, c1, x1, rfl, _⟩ := h1.open
  obtain ⟨_, _, hwb⟩ := box1 g1
  obtain ⟨k0, k1⟩ := hwb.cells A1 l1 c1 x1
  have HW := Lib.hid (h1.st hwb A1 l1 c1 x1)
  have HG := Lib.hid (grow_stW ((((Grow.refl w).alloc _).alloc _).trans g1) (b := w.heap.size + 1) (by omega) A1 l1 c1 x1)
  obtain ⟨⟨A0, l0, c0, x0, m0, m1⟩, f0, f1⟩ := hwb
  clear g1 h1
  go_wp2_with fail
  refine bodyPost_ret (v := .agg #[.slice A1 l1 c1, .bool x1]) (by simp only [stW] at k0 k1; simp [results, Tryz.results56, go_sem, k0, k1]) rfl (Ret.mk HW.out HG.out)
end Go.Proofs.YtlkiikchjeapfaaGreatDoor
