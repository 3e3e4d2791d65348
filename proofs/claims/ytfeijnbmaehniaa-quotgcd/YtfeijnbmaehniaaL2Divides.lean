/- What layer 2's laws share that compare with the reference: same; the law QuotDivides. -/
import Derived.Test.YtfeijnbmaehniaaRefG
import Derived.Test.YtfeijnbmaehniaaLaw2V
namespace Go.Proofs.Ytfeijnbmaehniaa
open Go.RowKit

set_option maxHeartbeats 1000000 in
theorem same2_any (w : World) (v va : Value) (n k j : Nat) (hk : k ≤ 1048576) (hv : IsN w v n k) (ha : IsD w va n j) :
    Calls Try.prog 15 #[v, va] w (Ret w fun v' _ => v' = .bool true) := by
  have hlen := hv.2
  have HN := Lib.hid (fun W (g : Grow w W) => (hv.1.grow g : IsNat W v n))
  obtain ⟨⟨A, c, rfl, hc, hl⟩, _⟩ := hv
  clear hc hl
  go_enter Try.func15, Try.ntmps15
  go_wp2_with fail
  refine (limbs_any _ _ n (by omega) (HN.out _ ((Grow.refl w).alloc _))).mono ?_
  rintro e w1 ⟨v1, rfl, h1⟩
  have g1 := h1.choose_spec.2.2.2
  have s1 := h1.sl (Mx.limbs_lt _)
  clear h1
  go_wp2_with fail
  refine (refOf_any _ _ (Mx.limbs n) (by show Mx.len n ≤ _; omega) s1).mono ?_
  rw [Mx.val_limbs]
  rintro e w2 ⟨v2, rfl, h2, g2⟩
  have G : Grow w w2 := (((Grow.refl w).alloc _).trans g1).trans g2
  clear g1 g2 s1
  have hb := h2.ds
  have hlen2 : Dx.len n ≤ 8388608 := by
    obtain ⟨_, _, _, _, _, h3⟩ := h2
    have : (Mx.limbs n).length = Mx.len n := rfl
    omega
  go_wp2_with fail
  refine (equalInt_any _ _ _ _ _ (by show Dx.len n ≤ _; omega) hb (ha.grow G).ds).mono ?_
  rintro e w3 ⟨v3, rfl, rfl, g3⟩
  have GF := Lib.hid (G.trans g3)
  clear hb h2 g3 G
  simp only [BEq.rfl]
  go_wp2_with fail
  go_ret
  exact Ret.mk rfl GF.out

set_option maxRecDepth 100000 in
set_option maxHeartbeats 4000000 in
theorem quotDivides_walk (w : World) (va vb : Value) (la lb : List Nat) (ha : Sl w va la) (hb : Sl w vb lb) :
    Calls Try.prog 3 #[va, vb] w (Ret w fun v' _ => v' = .bool true) := by
  go_enter Try.func3, Try.ntmps3
  go_wp2_with fail
  refine (cut2_any _ _ _ ha).mono ?_
  rintro e w1 ⟨v1, rfl, h1, g1⟩
  go_wp2_with fail
  refine (of_n 10 h1 (by rw [List.length_take]; omega) (by omega)).mono ?_
  rintro e w2 ⟨v2, rfl, h2, g2⟩
  go_wp2_with fail
  refine (cut2_any _ _ _ (hb.grow (g1.trans g2))).mono ?_
  rintro e w3 ⟨v3, rfl, h3, g3⟩
  go_wp2_with fail
  refine (of_n 10 h3 (by rw [List.length_take]; omega) (by omega)).mono ?_
  rintro e w4 ⟨v4, rfl, h4, g4⟩
  have gw : Grow w w4 := ((g1.trans g2).trans g3).trans g4
  have hx : IsN w4 v2 (Mx.val (la.take 10)) 10 := h2.grow (g3.trans g4)
  have hy : IsN w4 v4 (Mx.val (lb.take 10)) 10 := h4
  have HA := Lib.hid (fun W (g : Grow w W) => ha.grow g)
  have HB := Lib.hid (fun W (g : Grow w W) => hb.grow g)
  have hl10 : (la.take 10).length ≤ 10 := by rw [List.length_take]; omega
  have hl11 : (lb.take 10).length ≤ 10 := by rw [List.length_take]; omega
  clear h1 h2 h3 h4 g1 g2 g3 g4 ha hb
  generalize hlx : la.take 10 = lx at *
  generalize hly : lb.take 10 = ly at *
  have HLX := Lib.hid (And.intro hlx hly)
  clear hlx hly
  go_wp2_with fail
  by_cases h0 : Mx.val ly = 0
  · rw [h0] at hy
    refine (div_zero_n hx hy.1).mono ?_
    rintro e w5 ⟨v5, rfl, ⟨q, r, rfl, hq, hr⟩, g5⟩
    obtain ⟨Aq, lq, cq, rfl⟩ := hq.cell
    obtain ⟨Ar, lr, cr, rfl⟩ := hr.cell
    have gg : Grow w5 ((w5.alloc (Obj.cells #[Value.slice Aq lq cq] 24)).alloc (Obj.cells #[Value.slice Ar lr cr] 24)) := ((Grow.refl _).alloc _).alloc _
    obtain ⟨vq, vr⟩ := VarN.new2 hq hr (Grow.refl _)
    have VQ := Lib.hid vq
    have VR := Lib.hid vr
    have GW := Lib.hid (gw.trans (g5.trans gg))
    clear hq hr vq vr gw g5 gg hx hy
    go_wp2_with fail
    refine (cut2_any _ _ _ (HA.out _ GW.out)).mono ?_
    rintro e w6 ⟨v6, rfl, h6, g6⟩
    rw [HLX.out.1] at h6
    go_wp2_with fail
    refine (refOf_any _ _ lx (by omega) h6).mono ?_
    rintro e w7 ⟨v7, rfl, h7, g7⟩
    have h7 := h7.more (k' := 80) (by omega)
    go_wp2_with fail
    refine (cut2_any _ _ _ (HB.out _ (GW.out.trans (g6.trans g7)))).mono ?_
    rintro e w8 ⟨v8, rfl, h8, g8⟩
    rw [HLX.out.2] at h8
    go_wp2_with fail
    refine (refOf_any _ _ ly (by omega) h8).mono ?_
    rintro e w9 ⟨v9, rfl, h9, g9⟩
    have h9 := h9.more (k' := 80) (by omega)
    have g59 := g6.trans (g7.trans (g8.trans g9))
    have VQ := Lib.hid (VQ.out.grow g59)
    have VR := Lib.hid (VR.out.grow g59)
    have GW := Lib.hid (GW.out.trans g59)
    have h7 := h7.grow (g8.trans g9)
    clear h6 h8 g6 g7 g8 g9 g59
    rw [h0] at h9
    obtain ⟨A9, c9, rfl, _, _, _⟩ := h9
    clear h7
    go_wp2_with fail
    refine (wakes2_any _).mono ?_
    rintro e w10 ⟨v10, rfl, rfl, g10⟩
    have VR := Lib.hid (VR.out.grow g10)
    obtain ⟨AQ, lQ, cQ, hQ, nQ⟩ := VQ.out.grow g10
    have NQ := Lib.hid nQ
    have GW := Lib.hid (GW.out.trans g10)
    clear nQ g10
    go_wp2_with fail
    refine (zero_n NQ.out).mono ?_
    simp only [BEq.rfl]
    rintro e w11 ⟨v11, rfl, rfl, g11⟩
    obtain ⟨AR, lR, cR, hR, nR⟩ := VR.out.grow g11
    have NR := Lib.hid nR
    have GW := Lib.hid (GW.out.trans g11)
    clear nR g11 hQ
    go_wp2_with fail
    refine (zero_n NR.out).mono ?_
    simp only [BEq.rfl]
    rintro e w12 ⟨v12, rfl, rfl, g12⟩
    have GW := Lib.hid (GW.out.trans g12)
    clear g12 hR
    go_wp2_with fail
    go_ret
    exact Ret.mk rfl GW.out
  · refine (div_n hx hy (by omega) h0).mono ?_
    rintro e w5 ⟨v5, rfl, ⟨q, r, rfl, hq, hr⟩, g5⟩
    obtain ⟨Aq, lq, cq, rfl⟩ := hq.cell
    obtain ⟨Ar, lr, cr, rfl⟩ := hr.cell
    have gg : Grow w5 ((w5.alloc (Obj.cells #[Value.slice Aq lq cq] 24)).alloc (Obj.cells #[Value.slice Ar lr cr] 24)) := ((Grow.refl _).alloc _).alloc _
    obtain ⟨vq, vr⟩ := VarN.new2 hq hr (Grow.refl _)
    have VQ := Lib.hid vq
    have VR := Lib.hid vr
    have GW := Lib.hid (gw.trans (g5.trans gg))
    clear hq hr vq vr gw g5 gg hx hy
    go_wp2_with fail
    refine (cut2_any _ _ _ (HA.out _ GW.out)).mono ?_
    rintro e w6 ⟨v6, rfl, h6, g6⟩
    rw [HLX.out.1] at h6
    go_wp2_with fail
    refine (refOf_any _ _ lx (by omega) h6).mono ?_
    rintro e w7 ⟨v7, rfl, h7, g7⟩
    have h7 := h7.more (k' := 80) (by omega)
    go_wp2_with fail
    refine (cut2_any _ _ _ (HB.out _ (GW.out.trans (g6.trans g7)))).mono ?_
    rintro e w8 ⟨v8, rfl, h8, g8⟩
    rw [HLX.out.2] at h8
    go_wp2_with fail
    refine (refOf_any _ _ ly (by omega) h8).mono ?_
    rintro e w9 ⟨v9, rfl, h9, g9⟩
    have h9 := h9.more (k' := 80) (by omega)
    have g59 := g6.trans (g7.trans (g8.trans g9))
    have VQ := Lib.hid (VQ.out.grow g59)
    have VR := Lib.hid (VR.out.grow g59)
    have GW := Lib.hid (GW.out.trans g59)
    have h7 := h7.grow (g8.trans g9)
    clear h6 h8 g6 g7 g8 g9 g59
    have H7 := Lib.hid h7
    have H9 := Lib.hid h9
    have hlen9 : Dx.len (Mx.val ly) ≠ 0 := fun h => h0 (Dx.eq_zero_of_len h)
    have hlen0 : (((Dx.len (Mx.val ly) : Nat) : Int) == 0) = false := by simp; exact hlen9
    obtain ⟨A9, c9, rfl, _, _, _⟩ := h9
    clear h7 hlen9
    go_wp2_with fail
    refine (refDivMod_any _ _ _ (Mx.val lx) (Mx.val ly) 80 80 (by omega) (by omega) H7.out H9.out (by omega)).mono ?_
    rintro e w10 ⟨v10, rfl, ⟨p, s, rfl, hp, hs⟩, g10⟩
    have VQ := Lib.hid (VQ.out.grow g10)
    have VR := Lib.hid (VR.out.grow g10)
    have GW := Lib.hid (GW.out.trans g10)
    have HP := Lib.hid (And.intro hp hs)
    clear hp hs g10
    go_wp2_with fail
    refine (wakes2_any _).mono ?_
    rintro e w11 ⟨v11, rfl, rfl, g11⟩
    have VR := Lib.hid (VR.out.grow g11)
    obtain ⟨AQ, lQ, cQ, hQ, nQ⟩ := VQ.out.grow g11
    have HP := Lib.hid (And.intro (HP.out.1.grow g11) (HP.out.2.grow g11))
    have NQ := Lib.hid nQ
    have GW := Lib.hid (GW.out.trans g11)
    clear nQ g11
    go_wp2_with fail
    refine (same2_any _ _ _ (Mx.val lx / Mx.val ly) 10 80 (by omega) NQ.out HP.out.1).mono ?_
    rintro e w12 ⟨v12, rfl, rfl, g12⟩
    obtain ⟨AR, lR, cR, hR, nR⟩ := VR.out.grow g12
    have HP := Lib.hid (HP.out.2.grow g12)
    have NR := Lib.hid nR
    have GW := Lib.hid (GW.out.trans g12)
    clear nR g12 hQ
    go_wp2_with fail
    refine (same2_any _ _ _ (Mx.val lx % Mx.val ly) 10 80 (by omega) NR.out HP.out).mono ?_
    rintro e w13 ⟨v13, rfl, rfl, g13⟩
    have GW := Lib.hid (GW.out.trans g13)
    clear g13 hR
    go_wp2_with fail
    go_ret
    exact Ret.mk rfl GW.out
end Go.Proofs.Ytfeijnbmaehniaa
