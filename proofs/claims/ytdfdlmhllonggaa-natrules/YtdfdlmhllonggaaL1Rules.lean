/- The law NatRules of layer 1. -/
import Derived.Test.YtdfdlmhllonggaaL1RulesR
import Derived.Deep.RegionHeld3
import Derived.Deep.DeepCutAuto
namespace Go.Proofs.Ytdfdlmhllonggaa
open Go.RowKit

/-- What is known behind the law's second statement. -/
def RulesCut (w6 : World) (A1 A2 A3 : Option Addr) (c1 c2 c3 x y z : Nat) (W : World) (p : Value) : Prop :=
  ∃ bk A4 c4, p = .pointer (some ⟨bk, 0, none⟩) ∧ (W.cell? ⟨w6.heap.size, 0, none⟩ = some (Value.slice A1 (Mx.len x) c1) ∧ W.cell? ⟨w6.heap.size + 1, 0, none⟩ = some (Value.slice A2 (Mx.len y) c2) ∧ W.cell? ⟨w6.heap.size + 1 + 1, 0, none⟩ = some (Value.slice A3 (Mx.len z) c3) ∧
    W.cell? ⟨bk, 0, none⟩ = some (Value.slice A4 (Mx.len x) c4)) ∧ Mx.len x ≤ c4 ∧ Cells W A4 (Mx.limbs x) ∧ Grow w6 W

set_option maxRecDepth 100000 in
set_option maxHeartbeats 4000000 in
theorem natRules_walk (w : World) (va vb vc : Value) (la lb lc : List Nat) (ha : Sl w va la) (hb : Sl w vb lb) (hc : Sl w vc lc) :
    Calls Try.prog 5 #[va, vb, vc] w (Ret w fun v' _ => v' = .bool true) := by
  go_enter Try.func5, Try.ntmps5
  go_wp2_with fail
  refine (cut_any _ _ _ ha).mono ?_
  rintro e w1 ⟨v1, rfl, h1, g1⟩
  go_wp2_with fail
  refine (of_n 12 h1 (by rw [List.length_take]; omega) (by omega)).mono ?_
  rintro e w2 ⟨v2, rfl, h2, g2⟩
  go_wp2_with fail
  refine (cut_any _ _ _ (hb.grow (g1.trans g2))).mono ?_
  rintro e w3 ⟨v3, rfl, h3, g3⟩
  go_wp2_with fail
  refine (of_n 12 h3 (by rw [List.length_take]; omega) (by omega)).mono ?_
  rintro e w4 ⟨v4, rfl, h4, g4⟩
  go_wp2_with fail
  refine (cut_any _ _ _ (hc.grow (((g1.trans g2).trans g3).trans g4))).mono ?_
  rintro e w5 ⟨v5, rfl, h5, g5⟩
  go_wp2_with fail
  refine (of_n 12 h5 (by rw [List.length_take]; omega) (by omega)).mono ?_
  rintro e w6 ⟨v6, rfl, h6, g6⟩
  have gw : Grow w w6 := ((((g1.trans g2).trans g3).trans g4).trans g5).trans g6
  have hx : IsN w6 v2 (Mx.val (la.take 12)) 12 := h2.grow (((g3.trans g4).trans g5).trans g6)
  have hy : IsN w6 v4 (Mx.val (lb.take 12)) 12 := h4.grow (g5.trans g6)
  have hz : IsN w6 v6 (Mx.val (lc.take 12)) 12 := h6
  clear h1 h2 h3 h4 h5 h6 g1 g2 g3 g4 g5 g6 ha hb hc
  generalize Mx.val (la.take 12) = x at *
  generalize Mx.val (lb.take 12) = y at *
  generalize Mx.val (lc.take 12) = z at *
  obtain ⟨⟨A1, c1, rfl, hk1, hl1⟩, hx2⟩ := hx
  obtain ⟨⟨A2, c2, rfl, hk2, hl2⟩, hy2⟩ := hy
  obtain ⟨⟨A3, c3, rfl, hk3, hl3⟩, hz2⟩ := hz
  have HX := Lib.hid (fun W (g : Grow w6 W) => (⟨⟨A1, c1, rfl, hk1, hl1.grow g⟩, hx2⟩ : IsN W (.agg #[.slice A1 (Mx.len x) c1]) x 12))
  have HY := Lib.hid (fun W (g : Grow w6 W) => (⟨⟨A2, c2, rfl, hk2, hl2.grow g⟩, hy2⟩ : IsN W (.agg #[.slice A2 (Mx.len y) c2]) y 12))
  have HZ := Lib.hid (fun W (g : Grow w6 W) => (⟨⟨A3, c3, rfl, hk3, hl3.grow g⟩, hz2⟩ : IsN W (.agg #[.slice A3 (Mx.len z) c3]) z 12))
  clear hk1 hl1 hx2 hk2 hl2 hy2 hk3 hl3 hz2
  go_wp2_with fail
  generalize hW9 : ((w6.alloc (Obj.cells #[Value.slice A1 (Mx.len x) c1] 24)).alloc (Obj.cells #[Value.slice A2 (Mx.len y) c2] 24)).alloc (Obj.cells #[Value.slice A3 (Mx.len z) c3] 24) = w9
  have g9 : Grow w6 w9 := hW9 ▸ (((Grow.refl w6).alloc _).alloc _).alloc _
  have S9 : w9.cell? ⟨w6.heap.size, 0, none⟩ = some (Value.slice A1 (Mx.len x) c1) ∧ w9.cell? ⟨w6.heap.size + 1, 0, none⟩ = some (Value.slice A2 (Mx.len y) c2) ∧ w9.cell? ⟨w6.heap.size + 1 + 1, 0, none⟩ = some (Value.slice A3 (Mx.len z) c3) := by
    obtain ⟨a, b, c, _⟩ := Grow.new3 (hW9 ▸ Grow.refl _ : Grow (((w6.alloc (Obj.cells #[Value.slice A1 (Mx.len x) c1] 24)).alloc (Obj.cells #[Value.slice A2 (Mx.len y) c2] 24)).alloc (Obj.cells #[Value.slice A3 (Mx.len z) c3] 24)) w9)
    exact ⟨a, b, c⟩
  have GW6 := Lib.hid gw
  clear hW9 gw
  go_cut [10, 11] (fun p b W => b = .bool true ∧ RulesCut w6 A1 A2 A3 c1 c2 c3 x y z W p)
  case first =>
    go_region_held3 (fun W => W.cell? ⟨w6.heap.size, 0, none⟩ = some (Value.slice A1 (Mx.len x) c1) ∧ W.cell? ⟨w6.heap.size + 1, 0, none⟩ = some (Value.slice A2 (Mx.len y) c2) ∧ W.cell? ⟨w6.heap.size + 1 + 1, 0, none⟩ = some (Value.slice A3 (Mx.len z) c3))
      (first | assumption | exact Grow.cells3 (W := w9) (by repeat (first | exact Grow.refl _ | assumption | apply Grow.drew | apply Grow.alloc | (refine Grow.setCell ?_ (by first | exact Nat.le_refl _ | (have q7 := Grow.size g7; simp at q7 ⊢; omega)) _) | (refine Grow.trans ?_ (by assumption)))) S9)
      (first
        | (go_at_call 16; refine (add_n (by first | exact HX.out _ (by repeat (first | exact Grow.refl _ | assumption | apply Grow.drew | apply Grow.alloc | (refine Grow.trans ?_ (by assumption)))) | exact HY.out _ (by repeat (first | exact Grow.refl _ | assumption | apply Grow.drew | apply Grow.alloc | (refine Grow.trans ?_ (by assumption)))) | exact HZ.out _ (by repeat (first | exact Grow.refl _ | assumption | apply Grow.drew | apply Grow.alloc | (refine Grow.trans ?_ (by assumption)))) | exact IsN.zero _ | assumption | exact IsN.grow (by assumption) (by repeat (first | exact Grow.refl _ | assumption | apply Grow.drew | apply Grow.alloc | (refine Grow.trans ?_ (by assumption))))) (by first | exact HX.out _ (by repeat (first | exact Grow.refl _ | assumption | apply Grow.drew | apply Grow.alloc | (refine Grow.trans ?_ (by assumption)))) | exact HY.out _ (by repeat (first | exact Grow.refl _ | assumption | apply Grow.drew | apply Grow.alloc | (refine Grow.trans ?_ (by assumption)))) | exact HZ.out _ (by repeat (first | exact Grow.refl _ | assumption | apply Grow.drew | apply Grow.alloc | (refine Grow.trans ?_ (by assumption)))) | exact IsN.zero _ | assumption | exact IsN.grow (by assumption) (by repeat (first | exact Grow.refl _ | assumption | apply Grow.drew | apply Grow.alloc | (refine Grow.trans ?_ (by assumption))))) (by omega) (by omega)).mono ?_; rintro e w7 ⟨v7, rfl, h7, g7⟩)
        | (go_at_call 11; refine (sub_n (by first | exact HX.out _ (by repeat (first | exact Grow.refl _ | assumption | apply Grow.drew | apply Grow.alloc | (refine Grow.trans ?_ (by assumption)))) | exact HY.out _ (by repeat (first | exact Grow.refl _ | assumption | apply Grow.drew | apply Grow.alloc | (refine Grow.trans ?_ (by assumption)))) | exact HZ.out _ (by repeat (first | exact Grow.refl _ | assumption | apply Grow.drew | apply Grow.alloc | (refine Grow.trans ?_ (by assumption)))) | exact IsN.zero _ | assumption | exact IsN.grow (by assumption) (by repeat (first | exact Grow.refl _ | assumption | apply Grow.drew | apply Grow.alloc | (refine Grow.trans ?_ (by assumption))))) (by first | exact HX.out _ (by repeat (first | exact Grow.refl _ | assumption | apply Grow.drew | apply Grow.alloc | (refine Grow.trans ?_ (by assumption)))) | exact HY.out _ (by repeat (first | exact Grow.refl _ | assumption | apply Grow.drew | apply Grow.alloc | (refine Grow.trans ?_ (by assumption)))) | exact HZ.out _ (by repeat (first | exact Grow.refl _ | assumption | apply Grow.drew | apply Grow.alloc | (refine Grow.trans ?_ (by assumption)))) | exact IsN.zero _ | assumption | exact IsN.grow (by assumption) (by repeat (first | exact Grow.refl _ | assumption | apply Grow.drew | apply Grow.alloc | (refine Grow.trans ?_ (by assumption))))) (by omega) (Nat.le_add_left _ _)).mono ?_; rintro e w8 ⟨v8, rfl, ⟨u8, rfl, h8⟩, g8⟩; obtain ⟨⟨A4, c4, rfl, hk4, hl4⟩, hb2⟩ := h8; rw [Nat.add_sub_cancel] at hk4 hl4 hb2; first | (have n12 := Grow.new g8; obtain ⟨n1, n2⟩ := n12) | (have n12 := Grow.new (Grow.trans ((Grow.refl _).drew) (g7.trans g8)); obtain ⟨n1, n2⟩ := n12) | skip))
    all_goals (go_wp2_with fail; go_meet)
    all_goals
      refine ⟨rfl, _, A4, c4, rfl, ?_, hk4, ?_, g9.trans (by repeat (first | exact Grow.refl _ | assumption | apply Grow.drew | apply Grow.alloc | (refine Grow.setCell ?_ (by first | exact Nat.le_refl _ | (have q7 := Grow.size g7; simp at q7 ⊢; omega)) _) | (refine Grow.trans ?_ (by assumption))))⟩
      · refine ⟨Grow.cells1 (W := w9) (by repeat (first | exact Grow.refl _ | assumption | apply Grow.drew | apply Grow.alloc | (refine Grow.setCell ?_ (by first | exact Nat.le_refl _ | (have q7 := Grow.size g7; simp at q7 ⊢; omega)) _) | (refine Grow.trans ?_ (by assumption)))) S9.1, Grow.cells1 (W := w9) (by repeat (first | exact Grow.refl _ | assumption | apply Grow.drew | apply Grow.alloc | (refine Grow.setCell ?_ (by first | exact Nat.le_refl _ | (have q7 := Grow.size g7; simp at q7 ⊢; omega)) _) | (refine Grow.trans ?_ (by assumption)))) S9.2.1, Grow.cells1 (W := w9) (by repeat (first | exact Grow.refl _ | assumption | apply Grow.drew | apply Grow.alloc | (refine Grow.setCell ?_ (by first | exact Nat.le_refl _ | (have q7 := Grow.size g7; simp at q7 ⊢; omega)) _) | (refine Grow.trans ?_ (by assumption)))) S9.2.2, ?_⟩
        first | (simp [go_sem]; done) | (simp [go_sem, n1]; done)
      · first | exact hl4.store n1 _ | exact hl4.grow ((Grow.refl _).alloc _)
  case rest =>
    obtain ⟨rfl, bk, A4, c4, rfl, S9', hk4, hl4, g10⟩ := hcut
    have HB := Lib.hid (fun W (g : Grow wc W) => (⟨⟨A4, c4, rfl, hk4, hl4.grow g⟩, Nat.le_trans (HX.out _ (Grow.refl _)).2 (by omega)⟩ : IsN W (.agg #[.slice A4 (Mx.len x) c4]) x 13))
    have GW10 := Lib.hid (GW6.out.trans g10)
    clear hk4 hl4 S9 g9
    go_wp2_with fail
    refine Rg.region_eq (ops' := Rg.rulesOps) (by kernel_rfl) (Rg.rules_region x y z rfl rfl S9'.1 (HX.out _ g10) rfl S9'.2.1 (HY.out _ g10) rfl S9'.2.2.1 (HZ.out _ g10) rfl S9'.2.2.2 (HB.out _ (Grow.refl _)) rfl ?_)
    intro a w' hg hd h6
    rename_i hK
    exact hK a w' (Rg.ret_slot (t := 6) Try.results5 hd h6 (Ret.mk rfl (GW10.out.trans hg)))
end Go.Proofs.Ytdfdlmhllonggaa
