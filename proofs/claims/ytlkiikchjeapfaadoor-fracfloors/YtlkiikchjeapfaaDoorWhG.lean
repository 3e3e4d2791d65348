/- Package whole: Sub, Mul. -/
import Derived.Test.YtlkiikchjeapfaaDoorWhF
namespace Go.Proofs.YtlkiikchjeapfaaDoor
open Go.RowKit
set_option maxRecDepth 20000

set_option maxHeartbeats 4000000 in
theorem sub_w {w : World} {va vb : Value} {x y : Int} {k j : Nat} (hx : IsW w va x k) (hy : IsW w vb y j) (hk : k ≤ 4294967296) (hj : j ≤ 4294967296) :
    Calls Tryd.prog 60 #[va, vb] w (Ret w fun v' w' => IsW w' v' (x - y) (max k j + 1)) := by
  have HN := Lib.hid (fun W (g : Grow w W) => neg_w (hy.grow g))
  have HA := Lib.hid (fun W v (h : IsW W v (-y) j) (g : Grow w W) => add_w (hx.grow g) h hk hj)
  rw [show x + -y = x - y by omega] at HA
  obtain ⟨A, l, c, b, rfl, hn, hb⟩ := hx.open
  obtain ⟨D, m, d, b2, rfl, hm, hb2⟩ := hy.open
  have HKP := Lib.hid (fun W (h : Grow (boxW w (.slice A l c) (.bool b) (.slice D m d) (.bool b2)) W) => boxW_keep h)
  have HWB := Lib.hid (fun W (h : Grow (boxW w (.slice A l c) (.bool b) (.slice D m d) (.bool b2)) W) => boxW_wb h)
  have HKS := Lib.hid (fun W (h : Grow (boxW w (.slice A l c) (.bool b) (.slice D m d) (.bool b2)) W) => boxW_st h)
  have HG0 := Lib.hid (boxW_grow w (.slice A l c) (.bool b) (.slice D m d) (.bool b2))
  clear hx hy hn hm hb hb2
  go_enter Tryd.func60, Tryd.ntmps60
  go_upto_region 1 with fail
  change (Code.region 1 _ true).wp _ _ _ (boxW w (.slice A l c) (.bool b) (.slice D m d) (.bool b2))
  generalize boxW w (.slice A l c) (.bool b) (.slice D m d) (.bool b2) = W0 at *
  go_region_held3 (fun W => W.cell? ⟨w.heap.size, 0, none⟩ = some (.slice A l c) ∧ W.cell? ⟨w.heap.size, 1, none⟩ = some (.bool b) ∧ W.cell? ⟨w.heap.size + 1, 0, none⟩ = some (.slice D m d) ∧ W.cell? ⟨w.heap.size + 1, 1, none⟩ = some (.bool b2))
    (first | exact HKP.out _ (Grow.refl _) | exact HKP.out _ (Grow.refl _).drew | exact HKP.out _ g1 | exact HKP.out _ (g1.trans g2) | exact HKS.out _ (g1.trans g2) _ _ _ _)
    (first
      | (go_at_call 43; (with_reducible refine (HN.out _ ?_).mono ?_); (first | exact HG0.out.drew | exact HG0.out); rintro e w1 ⟨v1, rfl, n1, g1⟩; replace g1 := (Grow.refl W0).drew.trans g1)
      | (go_at_call 17; (with_reducible refine (HA.out _ _ n1 (HG0.out.trans g1)).mono ?_); rintro e w2 ⟨v2, rfl, h2, g2⟩; obtain ⟨A2, l2, c2, x2, rfl, _⟩ := h2.open; obtain ⟨⟨A0, l0, c0, x0, m0, m1⟩, f0, f1⟩ := HWB.out _ (g1.trans g2)))
  have hwb := HWB.out _ (g1.trans g2)
  obtain ⟨k0, k1⟩ := hwb.cells A2 l2 c2 x2
  have HW := Lib.hid (h2.st hwb A2 l2 c2 x2)
  have HG := Lib.hid (grow_stW (HG0.out.trans (g1.trans g2)) (b := w.heap.size + 1 + 1) (by omega) A2 l2 c2 x2)
  clear h2 hwb g1 g2 n1 HWB HKP HKS HN HA HG0 m0 m1 f0 f1
  go_wp2_with fail
  refine bodyPost_ret (v := .agg #[.slice A2 l2 c2, .bool x2]) (by simp only [stW] at k0 k1; simp [results, Tryd.results60, go_sem, k0, k1]) rfl (Ret.mk HW.out HG.out)

theorem mul_signed {x y : Int} {b d : Bool} (hb : (b = true ∧ x < 0) ∨ (b = false ∧ 0 ≤ x)) (hd : (d = true ∧ y < 0) ∨ (d = false ∧ 0 ≤ y)) : signed (x.natAbs * y.natAbs) (!(b == d)) = x * y := by
  have e1 : ∀ n : Nat, signed n true = -(n : Int) := fun n => rfl
  have e2 : ∀ n : Nat, signed n false = (n : Int) := fun n => rfl
  rcases hb with ⟨rfl, h1⟩ | ⟨rfl, h1⟩ <;> rcases hd with ⟨rfl, h2⟩ | ⟨rfl, h2⟩
  · show signed _ false = _
    rw [e2, Int.natCast_mul, show (x.natAbs : Int) = -x by omega, show (y.natAbs : Int) = -y by omega, Int.neg_mul_neg]
  · show signed _ true = _
    rw [e1, Int.natCast_mul, show (x.natAbs : Int) = -x by omega, show (y.natAbs : Int) = y by omega, Int.neg_mul, Int.neg_neg]
  · show signed _ true = _
    rw [e1, Int.natCast_mul, show (x.natAbs : Int) = x by omega, show (y.natAbs : Int) = -y by omega, Int.mul_neg, Int.neg_neg]
  · show signed _ false = _
    rw [e2, Int.natCast_mul, show (x.natAbs : Int) = x by omega, show (y.natAbs : Int) = y by omega]

set_option maxHeartbeats 4000000 in
theorem mul_w {w : World} {va vb : Value} {x y : Int} {k j : Nat} (hx : IsW w va x k) (hy : IsW w vb y j) (hk : k ≤ 4294967296) (hj : j ≤ 4294967296) :
    Calls Tryd.prog 33 #[va, vb] w (Ret w fun v' w' => IsW w' v' (x * y) (k + j)) := by
  obtain ⟨A, l, c, b, rfl, hn, hb⟩ := hx.open
  obtain ⟨D, m, d, b2, rfl, hm, hb2⟩ := hy.open
  have HA := Lib.hid (fun W (g : Grow w W) => mul_n (hn.grow g) (hm.grow g) hk hj)
  have HO := Lib.hid (fun W v (h : IsN W v (x.natAbs * y.natAbs) (k + j)) => of_w (b := !(b == b2)) h)
  rw [mul_signed hb hb2] at HO
  have HKP := Lib.hid (fun W (h : Grow (boxW w (.slice A l c) (.bool b) (.slice D m d) (.bool b2)) W) => boxW_keep h)
  have HWB := Lib.hid (fun W (h : Grow (boxW w (.slice A l c) (.bool b) (.slice D m d) (.bool b2)) W) => boxW_wb h)
  have HKS := Lib.hid (fun W (h : Grow (boxW w (.slice A l c) (.bool b) (.slice D m d) (.bool b2)) W) => boxW_st h)
  have HG0 := Lib.hid (boxW_grow w (.slice A l c) (.bool b) (.slice D m d) (.bool b2))
  clear hx hy hn hm hb hb2
  go_enter Tryd.func33, Tryd.ntmps33
  go_upto_region 1 with fail
  change (Code.region 1 _ true).wp _ _ _ (boxW w (.slice A l c) (.bool b) (.slice D m d) (.bool b2))
  generalize boxW w (.slice A l c) (.bool b) (.slice D m d) (.bool b2) = W0 at *
  go_region_held3 (fun W => W.cell? ⟨w.heap.size, 0, none⟩ = some (.slice A l c) ∧ W.cell? ⟨w.heap.size, 1, none⟩ = some (.bool b) ∧ W.cell? ⟨w.heap.size + 1, 0, none⟩ = some (.slice D m d) ∧ W.cell? ⟨w.heap.size + 1, 1, none⟩ = some (.bool b2))
    (first | exact HKP.out _ (Grow.refl _) | exact HKP.out _ (Grow.refl _).drew | exact HKP.out _ g1 | exact HKP.out _ (g1.trans g2) | exact HKS.out _ (g1.trans g2) _ _ _ _)
    (first
      | (go_at_call 32; (with_reducible refine (HA.out _ ?_).mono ?_); (first | exact HG0.out.drew | exact HG0.out); rintro e w1 ⟨v1, rfl, n1, g1⟩; replace g1 := (Grow.refl W0).drew.trans g1)
      | (go_at_call 24; (with_reducible refine (HO.out _ _ n1).mono ?_); rintro e w2 ⟨v2, rfl, h2, g2⟩; obtain ⟨A2, l2, c2, x2, rfl, _⟩ := h2.open; obtain ⟨⟨A0, l0, c0, x0, m0, m1⟩, f0, f1⟩ := HWB.out _ (g1.trans g2)))
  have hwb := HWB.out _ (g1.trans g2)
  obtain ⟨k0, k1⟩ := hwb.cells A2 l2 c2 x2
  have HW := Lib.hid (h2.st hwb A2 l2 c2 x2)
  have HG := Lib.hid (grow_stW (HG0.out.trans (g1.trans g2)) (b := w.heap.size + 1 + 1) (by omega) A2 l2 c2 x2)
  clear h2 hwb g1 g2 n1 HWB HKP HKS HO HA HG0 m0 m1 f0 f1
  go_wp2_with fail
  refine bodyPost_ret (v := .agg #[.slice A2 l2 c2, .bool x2]) (by simp only [stW] at k0 k1; simp [results, Tryd.results33, go_sem, k0, k1]) rfl (Ret.mk HW.out HG.out)
end Go.Proofs.YtlkiikchjeapfaaDoor
