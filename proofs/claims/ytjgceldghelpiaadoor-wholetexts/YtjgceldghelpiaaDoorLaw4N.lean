/- What the laws of layer 4 share: num. -/
import Derived.Test.YtjgceldghelpiaaDoorRwC
import Derived.Test.YtjgceldghelpiaaDoorWhL
namespace Go.Proofs.YtjgceldghelpiaaDoor
open Go.RowKit
set_option maxRecDepth 20000

/-- The world behind num's box and its two answers' places. -/
def numW (w : World) (u x : Value) : World := ((w.alloc (Obj.cells #[u, x] 24)).alloc (Obj.cells #[Value.slice none 0 0, Value.bool false] 28)).alloc (Obj.cells #[Value.slice none 0 0, Value.bool false] 31)
theorem numW_grow (w : World) (u x : Value) : Grow w (numW w u x) := (((Grow.refl w).alloc _).alloc _).alloc _
theorem numW_keep {w W : World} {u x : Value} (h : Grow (numW w u x) W) : (W.cell? ⟨w.heap.size, 0, none⟩ = some u ∧ W.cell? ⟨w.heap.size, 1, none⟩ = some x) ∧ WB W (w.heap.size + 1) ∧ WB W (w.heap.size + 1 + 1) := by
  have h' : Grow ((w.alloc (Obj.cells #[u, x] 24)).alloc (Obj.cells #[Value.slice none 0 0, Value.bool false] 28)) W := ((Grow.refl _).alloc _).trans h
  obtain ⟨h0, h1, h2⟩ := box1 h'
  have hw := WB.new ((w.alloc (Obj.cells #[u, x] 24)).alloc (Obj.cells #[Value.slice none 0 0, Value.bool false] 28)) none 0 0 false 31
  rw [World.size_alloc, World.size_alloc] at hw
  exact ⟨⟨h0, h1⟩, h2, hw.grow h⟩

set_option maxHeartbeats 4000000 in
theorem num_w {w : World} {v : Value} {l : List Nat} {b : Bool} (h : Sl w v l) : ∀ A n c, v = .slice A n c →
    Calls Tryd.prog 8 #[.agg #[.slice A n c, .bool b]] w (Ret w fun v' w' => ∃ u t, v' = .tuple #[u, t] ∧ IsW w' u (signed (Mx.val (l.take 10)) b) 10 ∧ IsV w' t (signed (Mx.val (l.take 10)) b) 80) := by
  intro A n c hv
  obtain ⟨A', c', e, hc, hlb, hcl⟩ := h
  rw [hv] at e
  injection e with e1 e2 e3
  subst e1 e2 e3
  clear hv v
  have hlen : (min ((l.length : Nat) : Int) 10).toNat = (l.take 10).length := by rw [List.length_take]; omega
  have HSL : Hid (∀ W, Grow w W → Sl W (.slice A (min 10 l.length) c) (l.take 10)) := Lib.hid fun W g => ⟨A, c, by rw [List.length_take], by rw [List.length_take]; omega, fun x hx => hlb x (List.mem_of_mem_take hx), (hcl.take 10).grow g⟩
  have hlt : (l.take 10).length ≤ 10 := by rw [List.length_take]; omega
  have HNO := Lib.hid (fun W (g : Grow w W) => of_n 10 (HSL.out W g) hlt (by omega))
  have HRO := Lib.hid (fun W (g : Grow w W) => (refOf_any W _ (l.take 10) (by omega) (HSL.out W g)).mono fun _ _ r => r.mono fun v w' (q : IsD w' v (Mx.val (l.take 10)) (8 * (l.take 10).length)) => q.more (show 8 * (l.take 10).length ≤ 80 by omega))
  generalize Mx.val (l.take 10) = n at *
  have HWO := Lib.hid (fun W v (h : IsN W v n 10) => of_w (b := b) h)
  have HVO := Lib.hid (fun W v (h : IsD W v n 80) => ofV_any (b := b) h)
  have HKP := Lib.hid (fun W (h : Grow (numW w (.slice A l.length c) (.bool b)) W) => numW_keep h)
  have HG0 := Lib.hid (numW_grow w (.slice A l.length c) (.bool b))
  clear hlb hcl HSL hlt
  go_enter Tryd.func8, Tryd.ntmps8
  go_upto_region 2 with fail
  change (Code.region 2 _ _).wp _ _ _ (numW w (.slice A l.length c) (.bool b))
  generalize numW w (.slice A l.length c) (.bool b) = W0 at *
  have HKS : Hid (∀ (W : World) (A : Option Addr) (l c : Nat) (x : Bool), Grow W0 W → ((W.setCell ⟨w.heap.size + 1, 0, none⟩ (.slice A l c)).setCell ⟨w.heap.size + 1, 1, none⟩ (.bool x)).cell? ⟨w.heap.size, 1, none⟩ = some (.bool b)) := Lib.hid fun W A l c x g => stW_other (HKP.out W g).1.2 (by omega)
  have HKT : Hid (∀ (W : World) (A : Option Addr) (l c : Nat) (x : Bool) (A' : Option Addr) (l' c' : Nat) (x' : Bool), Grow W0 W → ((((W.setCell ⟨w.heap.size + 1, 0, none⟩ (.slice A l c)).setCell ⟨w.heap.size + 1, 1, none⟩ (.bool x)).setCell ⟨w.heap.size + 1 + 1, 0, none⟩ (.slice A' l' c')).setCell ⟨w.heap.size + 1 + 1, 1, none⟩ (.bool x')).cell? ⟨w.heap.size, 1, none⟩ = some (.bool b)) := Lib.hid fun W A l c x A' l' c' x' g => stW_other (stW_other (HKP.out W g).1.2 (by omega)) (by omega)
  have HKB : Hid (∀ W, Grow W0 W → W.cell? ⟨w.heap.size, 1, none⟩ = some (.bool b)) := Lib.hid fun W g => (HKP.out W g).1.2
  go_region_held3 (fun W => W.cell? ⟨w.heap.size, 1, none⟩ = some (.bool b))
    (first | with_reducible exact HKB.out _ (Grow.refl _) | with_reducible exact HKB.out _ (Grow.refl _).drew | with_reducible exact HKB.out _ g1 | with_reducible exact HKB.out _ (g1.trans g2) | with_reducible exact HKB.out _ ((g1.trans g2).trans g3) | with_reducible exact HKB.out _ (((g1.trans g2).trans g3).trans g4) | with_reducible exact HKS.out _ _ _ _ _ (((g1.trans g2).trans g3).trans g4) | with_reducible exact HKT.out _ _ _ _ _ _ _ _ _ (((g1.trans g2).trans g3).trans g4))
    (first
      | (go_at_call 33; (with_reducible refine (HNO.out _ ?_).mono ?_); (first | exact HG0.out.drew | exact HG0.out); rintro e w1 ⟨v1, rfl, n1, g1⟩; replace g1 := (Grow.refl W0).drew.trans g1)
      | (go_at_call 32; (with_reducible refine (HWO.out _ _ n1).mono ?_); rintro e w2 ⟨v2, rfl, h2, g2⟩; obtain ⟨A2, l2, c2, x2, rfl, _⟩ := h2.open)
      | (go_at_call 35; (with_reducible refine (HRO.out _ (HG0.out.trans (g1.trans g2))).mono ?_); rintro e w3 ⟨v3, rfl, n3, g3⟩)
      | (go_at_call 34; (with_reducible refine (HVO.out _ _ n3).mono ?_); rintro e w4 ⟨v4, rfl, h4, g4⟩; obtain ⟨A4, l4, c4, x4, rfl, _⟩ := h4.open; obtain ⟨⟨A0, l0, c0, x0, m0, m1⟩, f0, f1⟩ := (HKP.out _ (((g1.trans g2).trans g3).trans g4)).2.1; obtain ⟨⟨A5, l5, c5, x5, m3, m4⟩, f3, f4⟩ := (HKP.out _ (((g1.trans g2).trans g3).trans g4)).2.2))
  have gg := ((g1.trans g2).trans g3).trans g4
  have hbb := (HKP.out _ gg).2
  have T := Lib.hid (two_stW hbb.1 hbb.2 (by omega) A2 A4 l2 c2 l4 c4 x2 x4)
  have H7 := Lib.hid (T.out.2 _ _ _ (h2.grow (g3.trans g4)))
  have H8 := Lib.hid (two_stV hbb.1 hbb.2 (by omega) A2 A4 l2 c2 l4 c4 x2 x4 _ _ _ h4)
  have HG := Lib.hid (grow_stW (grow_stW (HG0.out.trans gg) (b := w.heap.size + 1) (by omega) A2 l2 c2 x2) (b := w.heap.size + 1 + 1) (by omega) A4 l4 c4 x4)
  clear m0 m1 m3 m4 f0 f1 f3 f4 g1 g2 g3 g4 gg hbb n1 h2 n3 h4 HNO HRO HWO HVO HKP HG0 HKS HKT HKB
  go_wp2_with fail
  obtain ⟨t0, t1, t2, t3⟩ := T.out.1
  simp only [stW] at t0 t1 t2 t3
  exact bodyPost_ret (v := .tuple #[.agg #[.slice A2 l2 c2, .bool x2], .agg #[.slice A4 l4 c4, .bool x4]]) (by simp [results, Tryd.results8, go_sem, t0, t1, t2, t3]) rfl (Ret.mk ⟨_, _, rfl, H7.out, H8.out⟩ HG.out)
end Go.Proofs.YtjgceldghelpiaaDoor
