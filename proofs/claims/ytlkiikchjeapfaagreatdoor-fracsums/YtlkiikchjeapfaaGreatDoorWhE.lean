/- Package whole: Cmp. -/
import Derived.Test.YtlkiikchjeapfaaGreatDoorWhD
namespace Go.Proofs.YtlkiikchjeapfaaGreatDoor
open Go.RowKit
set_option maxRecDepth 20000

theorem sign_lt {x : Int} (h : x < 0) : x.sign = -1 := Int.sign_eq_neg_one_of_neg h
theorem sign_gt {x : Int} (h : 0 < x) : x.sign = 1 := Int.sign_eq_one_of_pos h
/-- The order, told by signs and magnitudes. -/
theorem cmp_cases {x y : Int} {b d : Bool} (hb : (b = true ∧ x < 0) ∨ (b = false ∧ 0 ≤ x)) (hd : (d = true ∧ y < 0) ∨ (d = false ∧ 0 ≤ y)) :
    (((x.sign - y.sign).sign != 0) = true ∧ (x - y).sign = (x.sign - y.sign).sign) ∨
    (((x.sign - y.sign).sign != 0) = false ∧ ((b = true ∧ Mx.cmp y.natAbs x.natAbs = (x - y).sign) ∨ (b = false ∧ Mx.cmp x.natAbs y.natAbs = (x - y).sign))) := by
  have hcmp : ∀ (n m : Nat), Mx.cmp n m = ((n : Int) - m).sign := fun n m => by
    rcases Nat.lt_trichotomy n m with h | h | h
    · rw [Mx.cmp_lt h, sign_lt (by omega)]
    · subst h; rw [Mx.cmp_self, Int.sub_self]; rfl
    · rw [Mx.cmp_gt h, sign_gt (by omega)]
  rcases Int.lt_trichotomy x 0 with hx | hx | hx <;> rcases Int.lt_trichotomy y 0 with hy | hy | hy
  · right
    rw [sign_lt hx, sign_lt hy]
    refine ⟨rfl, .inl ⟨by rcases hb with h | h; exact h.1; omega, ?_⟩⟩
    rw [hcmp]; congr 1; omega
  · left; subst hy; rw [sign_lt hx]; exact ⟨rfl, by rw [sign_lt (by omega)]; rfl⟩
  · left; rw [sign_lt hx, sign_gt hy]; exact ⟨rfl, by rw [sign_lt (by omega)]; rfl⟩
  · left; subst hx; rw [sign_lt hy]; exact ⟨rfl, by rw [sign_gt (by omega)]; rfl⟩
  · right
    subst hx hy
    exact ⟨rfl, .inr ⟨by rcases hb with h | h; omega; exact h.1, rfl⟩⟩
  · left; subst hx; rw [sign_gt hy]; exact ⟨rfl, by rw [sign_lt (by omega)]; rfl⟩
  · left; rw [sign_gt hx, sign_lt hy]; exact ⟨rfl, by rw [sign_gt (by omega)]; rfl⟩
  · left; subst hy; rw [sign_gt hx]; exact ⟨rfl, by rw [sign_gt (by omega)]; rfl⟩
  · right
    rw [sign_gt hx, sign_gt hy]
    refine ⟨rfl, .inr ⟨by rcases hb with h | h; omega; exact h.1, ?_⟩⟩
    rw [hcmp]; congr 1; omega

set_option maxHeartbeats 2000000 in
theorem cmp_w {w : World} {va vb : Value} {x y : Int} {k j : Nat} (hx : IsW w va x k) (hy : IsW w vb y j) (hk : k ≤ 4294967296) (hj : j ≤ 4294967296) :
    Calls Tryz.prog 54 #[va, vb] w (Ret w fun v' _ => v' = .int .i64 (x - y).sign) := by
  have HSX := Lib.hid (fun W (g : Grow w W) => sign_w (hx.grow g))
  have HSY := Lib.hid (fun W (g : Grow w W) => sign_w (hy.grow g))
  obtain ⟨A, l, c, b, rfl, hn, hb⟩ := hx.open
  obtain ⟨D, m, d, b2, rfl, hm, hb2⟩ := hy.open
  have HXY := Lib.hid (fun W (g : Grow w W) => cmp_n (hn.grow g) (hm.grow g) hk)
  have HYX := Lib.hid (fun W (g : Grow w W) => cmp_n (hm.grow g) (hn.grow g) hj)
  have hcs := cmp_cases hb hb2
  have HC := Lib.hid (fun W => compareI_any W x.sign y.sign)
  generalize (x.sign - y.sign).sign = s at *
  generalize (x - y).sign = r at *
  generalize x.sign = sx at *
  generalize y.sign = sy at *
  have HCS := Lib.hid hcs
  have hg0 := ((Grow.refl w).alloc (Obj.cells #[Value.slice A l c, Value.bool b] 28)).alloc (Obj.cells #[Value.slice D m d, Value.bool b2] 28)
  have hkp : ∀ W, Grow ((w.alloc (Obj.cells #[Value.slice A l c, Value.bool b] 28)).alloc (Obj.cells #[Value.slice D m d, Value.bool b2] 28)) W → (W.cell? ⟨w.heap.size, 0, none⟩ = some (.slice A l c) ∧ W.cell? ⟨w.heap.size, 1, none⟩ = some (.bool b) ∧ W.cell? ⟨w.heap.size + 1, 0, none⟩ = some (.slice D m d) ∧ W.cell? ⟨w.heap.size + 1, 1, none⟩ = some (.bool b2)) := fun W g =>
    g.cells4 ⟨by simp [go_sem], by simp [go_sem], by simp [go_sem], by simp [go_sem]⟩
  have HKP := Lib.hid hkp
  clear hx hy hn hm hb hb2 hcs hkp
  go_enter Tryz.func54, Tryz.ntmps54
  go_upto_region 1 with fail
  generalize hW0 : (w.alloc (Obj.cells #[Value.slice A l c, Value.bool b] 28)).alloc (Obj.cells #[Value.slice D m d, Value.bool b2] 28) = W0 at *
  have G0 := Lib.hid hg0
  clear hg0 hW0
  go_region_held3 (fun W => W.cell? ⟨w.heap.size, 0, none⟩ = some (.slice A l c) ∧ W.cell? ⟨w.heap.size, 1, none⟩ = some (.bool b) ∧ W.cell? ⟨w.heap.size + 1, 0, none⟩ = some (.slice D m d) ∧ W.cell? ⟨w.heap.size + 1, 1, none⟩ = some (.bool b2))
    (first | exact HKP.out _ (Grow.refl _) | exact HKP.out _ (Grow.refl _).drew | exact HKP.out _ g1 | exact HKP.out _ (g1.trans g2))
    (first
      | (go_at_call 28; (with_reducible refine (HSX.out _ ?_).mono ?_); (first | exact G0.out.drew | exact G0.out); rintro e w1 ⟨v1, rfl, rfl, g1⟩; replace g1 := (Grow.refl W0).drew.trans g1)
      | (go_at_call 28; (with_reducible refine (HSY.out _ (G0.out.trans g1)).mono ?_); rintro e w2 ⟨v2, rfl, rfl, g2⟩)
      | (go_at_call 69; (with_reducible refine (HC.out _).mono ?_); rintro e w3 ⟨rfl, rfl⟩))
  obtain ⟨k0, k1, k2, k3⟩ := HKP.out _ (g1.trans g2)
  have G2 := Lib.hid ((G0.out.trans g1).trans g2)
  clear HSX HSY HC HKP G0 g1 g2
  rcases HCS.out with ⟨e1, e2⟩ | ⟨e1, ⟨rfl, e2⟩ | ⟨rfl, e2⟩⟩
  · have E2 := Lib.hid e2
    clear HCS HXY HYX e2
    go_wp2_with fail
    go_ret
    exact Ret.mk (by rw [E2.out]; rfl) G2.out
  · rw [e2] at HYX
    clear HCS HXY e2
    go_wp2_with fail
    refine (HYX.out _ G2.out).mono ?_
    rintro e w4 ⟨v4, rfl, rfl, g4⟩
    have G4 := Lib.hid (G2.out.trans g4)
    clear g4
    go_wp2_with fail
    go_ret
    exact Ret.mk rfl G4.out
  · rw [e2] at HXY
    clear HCS HYX e2
    go_wp2_with fail
    refine (HXY.out _ G2.out).mono ?_
    rintro e w4 ⟨v4, rfl, rfl, g4⟩
    have G4 := Lib.hid (G2.out.trans g4)
    clear g4
    go_wp2_with fail
    go_ret
    exact Ret.mk rfl G4.out
end Go.Proofs.YtlkiikchjeapfaaGreatDoor
