/- The law QuotBack of layer 2. -/
import Derived.Test.YtfeijnbmaehniaaL2BackR
import Derived.Test.YtfeijnbmaehniaaL2BackS
namespace Go.Proofs.Ytfeijnbmaehniaa
open Go.RowKit

theorem VarN.mk {w : World} {k n b : Nat} {A : Option Addr} {l c : Nat} (h : w.cell? ⟨k, 0, none⟩ = some (.slice A l c)) (h2 : IsN w (.agg #[.slice A l c]) n b) : VarN w k n b := ⟨A, l, c, h, h2⟩
/-- What the cut behind region 6 keeps. -/
def BackC (w : World) (q s : Nat) (v16 v17 v18 : Value) (W : World) : Prop := ∃ i j, v16 = .pointer (some ⟨i, 0, none⟩) ∧ v17 = .pointer (some ⟨j, 0, none⟩) ∧ v18 = .int .i64 0 ∧ VarN W i q 21 ∧ VarN W j s 10 ∧ Grow w W

set_option maxRecDepth 100000 in
set_option maxHeartbeats 4000000 in
theorem quotBack_walk (w : World) (va vb vc : Value) (la lb lc : List Nat) (ha : Sl w va la) (hb : Sl w vb lb) (hc : Sl w vc lc) :
    Calls Try.prog 4 #[va, vb, vc] w (Ret w fun v' _ => v' = .bool true) := by
  go_enter Try.func4, Try.ntmps4
  go_wp2_with fail
  refine (cut2_any _ _ _ ha).mono ?_
  rintro e w1 ⟨v1, rfl, h1, g1⟩
  go_wp2_with fail
  refine (of_n 10 h1 (by rw [List.length_take]; omega) (by omega)).mono ?_
  rintro e w2 ⟨v2, rfl, h2, g2⟩
  go_wp2_with fail
  refine (cut2_any _ _ _ (hb.grow (g1.trans g2))).mono ?_
  rintro e w3 ⟨v3, rfl, h3, g3⟩
  go_wp2_with fail
  refine (of_n 10 h3 (by rw [List.length_take]; omega) (by omega)).mono ?_
  rintro e w4 ⟨v4, rfl, h4, g4⟩
  go_wp2_with fail
  refine (cut2_any _ _ _ (hc.grow ((g1.trans g2).trans (g3.trans g4)))).mono ?_
  rintro e w5 ⟨v5, rfl, h5, g5⟩
  go_wp2_with fail
  refine (of_n 10 h5 (by rw [List.length_take]; omega) (by omega)).mono ?_
  rintro e w6 ⟨v6, rfl, h6, g6⟩
  have gw : Grow w w6 := ((g1.trans g2).trans (g3.trans g4)).trans (g5.trans g6)
  have hx : IsN w6 v2 (Mx.val (la.take 10)) 10 := h2.grow ((g3.trans g4).trans (g5.trans g6))
  have hy : IsN w6 v4 (Mx.val (lb.take 10)) 10 := h4.grow (g5.trans g6)
  have hz : IsN w6 v6 (Mx.val (lc.take 10)) 10 := h6
  clear h1 h2 h3 h4 h5 h6 g1 g2 g3 g4 g5 g6 ha hb hc
  generalize Mx.val (la.take 10) = x at *
  generalize Mx.val (lb.take 10) = y at *
  generalize Mx.val (lc.take 10) = z at *
  obtain ⟨A7, l7, c7, rfl⟩ := hx.cell
  obtain ⟨A8, l8, c8, rfl⟩ := hy.cell
  obtain ⟨A9, l9, c9, rfl⟩ := hz.cell
  have gg : Grow w6 (((w6.alloc (Obj.cells #[Value.slice A7 l7 c7] 24)).alloc (Obj.cells #[Value.slice A8 l8 c8] 24)).alloc (Obj.cells #[Value.slice A9 l9 c9] 24)) := (((Grow.refl _).alloc _).alloc _).alloc _
  obtain ⟨k7, k8, k9, _⟩ := Grow.new3 (Grow.refl (((w6.alloc (Obj.cells #[Value.slice A7 l7 c7] 24)).alloc (Obj.cells #[Value.slice A8 l8 c8] 24)).alloc (Obj.cells #[Value.slice A9 l9 c9] 24)))
  have VX := Lib.hid (VarN.mk k7 (hx.grow gg))
  have VY := Lib.hid (VarN.mk k8 (hy.grow gg))
  have VZ := Lib.hid (VarN.mk k9 (hz.grow gg))
  have GW := Lib.hid (gw.trans gg)
  clear hx hy hz k7 k8 k9 gg gw
  obtain ⟨AY, lY, cY, hY, nY⟩ := VY.out
  have HN := Lib.hid nY
  clear nY
  go_wp2_with fail
  refine (zero_n HN.out).mono ?_
  rintro e w7 ⟨v7, rfl, rfl, g7⟩
  have VX := Lib.hid (VX.out.grow g7)
  have VY := Lib.hid (VY.out.grow g7)
  have VZ := Lib.hid (VZ.out.grow g7)
  have GW := Lib.hid (GW.out.trans g7)
  clear g7 hY HN
  by_cases h0 : y = 0
  · have e0 : (y == 0) = true := by rw [h0]; rfl
    rw [e0]
    clear h0 e0
    go_wp2_with fail
    refine (wakes2_any _).mono ?_
    rintro e w8 ⟨v8, rfl, rfl, g8⟩
    have GW := Lib.hid (GW.out.trans g8)
    clear g8
    go_wp2_with fail
    go_ret
    exact Ret.mk rfl GW.out
  · have e0 : (y == 0) = false := by rw [beq_eq_false_iff_ne]; exact h0
    rw [e0]
    have H0 := Lib.hid h0
    clear e0 h0
    obtain ⟨AX, lX, cX, hX, nX⟩ := VX.out
    obtain ⟨AY, lY, cY, hY, nY⟩ := VY.out
    have HN := Lib.hid (And.intro nX nY)
    clear nX nY
    go_wp2_with fail
    refine (div_n HN.out.1 HN.out.2 (by omega) H0.out).mono ?_
    rintro e w8 ⟨v8, rfl, ⟨u8, t8, rfl, hu, ht⟩, g8⟩
    obtain ⟨Au, lu, cu, rfl⟩ := hu.cell
    obtain ⟨At, lt, ct, rfl⟩ := ht.cell
    have gg : Grow w8 ((w8.alloc (Obj.cells #[Value.slice Au lu cu] 24)).alloc (Obj.cells #[Value.slice At lt ct] 24)) := ((Grow.refl _).alloc _).alloc _
    obtain ⟨vu, vt⟩ := VarN.new2 hu ht (Grow.refl _)
    have VX := Lib.hid (VX.out.grow (g8.trans gg))
    have VY := Lib.hid (VY.out.grow (g8.trans gg))
    have VZ := Lib.hid (VZ.out.grow (g8.trans gg))
    have VQ := Lib.hid vu
    have VR := Lib.hid vt
    have GW := Lib.hid (GW.out.trans (g8.trans gg))
    clear g8 gg vu vt hu ht HN hX hY
    obtain ⟨AZ, lZ, cZ, hZ, nZ⟩ := VZ.out
    obtain ⟨AY, lY, cY, hY, nY⟩ := VY.out
    have HN := Lib.hid (And.intro nZ nY)
    clear nZ nY
    go_wp2_with fail
    refine (div_n HN.out.1 HN.out.2 (by omega) H0.out).mono ?_
    rintro e w9 ⟨v9, rfl, ⟨u9, t9, rfl, hu, ht⟩, g9⟩
    obtain ⟨Au9, lu9, cu9, rfl⟩ := hu.cell
    obtain ⟨At9, lt9, ct9, rfl⟩ := ht.cell
    have gg : Grow w9 ((w9.alloc (Obj.cells #[Value.slice Au9 lu9 cu9] 24)).alloc (Obj.cells #[Value.slice At9 lt9 ct9] 24)) := ((Grow.refl _).alloc _).alloc _
    obtain ⟨vu, vt⟩ := VarN.new2 hu ht (Grow.refl _)
    have VX := Lib.hid (VX.out.grow (g9.trans gg))
    have VY := Lib.hid (VY.out.grow (g9.trans gg))
    have VQ := Lib.hid (VQ.out.grow (g9.trans gg))
    have VR := Lib.hid (VR.out.grow (g9.trans gg))
    have VS := Lib.hid vt
    have GW := Lib.hid (GW.out.trans (g9.trans gg))
    have HLS := Lib.hid (Nat.mod_lt z (Nat.pos_of_ne_zero H0.out))
    clear g9 gg vu vt hu ht HN hZ hY VZ
    generalize z % y = r at *
    have hq : (x * y + r) / y = x := by
      have := HLS.out
      rw [Nat.add_comm, Nat.add_mul_div_right _ _ (by omega), Nat.div_eq_of_lt this, Nat.zero_add]
    have hs : (x * y + r) % y = r := by
      rw [Nat.add_comm, Nat.add_mul_mod_self_right, Nat.mod_eq_of_lt HLS.out]
    have HQS := Lib.hid (And.intro hq hs)
    clear hq hs
    obtain ⟨AX, lX, cX, hX, nX⟩ := VX.out
    obtain ⟨AY, lY, cY, hY, nY⟩ := VY.out
    obtain ⟨AS, lS, cS, hS, nS⟩ := VS.out
    have HN := Lib.hid (And.intro (And.intro nX hX) (And.intro (And.intro nY hY) (And.intro nS hS)))
    clear nX nY nS hX hY hS
    go_upto_region 6 with fail
    go_cut [16, 17, 18] (fun v16 v17 v18 W => BackC ((w9.alloc (Obj.cells #[Value.slice Au9 lu9 cu9] 24)).alloc (Obj.cells #[Value.slice At9 lt9 ct9] 24)) x r v16 v17 v18 W)
    case first =>
      refine Rg.region_eq (ops' := backOps6) (by kernel_rfl) (back_region6 (x := x) (y := y) (r := r) (q := x) (s := r) rfl rfl rfl rfl HN.out.1.2 HN.out.1.1 HN.out.2.1.2 HN.out.2.1.1 HN.out.2.2.2 HN.out.2.2.1 H0.out HQS.out.1 HQS.out.2 ?_)
      intro f w10 i j g10 e16 e17 e18 v16 v17
      have H := Lib.hid (And.intro g10 (And.intro v16 v17))
      clear g10 v16 v17
      simp only [Rg.puts, Act.put, List.setIfInBounds_toArray, List.set_cons_succ, List.set_cons_zero]
      rw [e16, e17, e18]
      go_wp2_with fail
      go_meet
      exact ⟨i, j, rfl, rfl, rfl, H.out.2.1, H.out.2.2, H.out.1⟩
    case rest =>
      obtain ⟨w10, rfl⟩ : ∃ x, x = wc := ⟨wc, rfl⟩
      obtain ⟨i, j, rfl, rfl, rfl, v16, v17, g10⟩ := hcut
      obtain ⟨AX, lX, cX, hX, nX⟩ := VX.out.grow g10
      obtain ⟨AY, lY, cY, hY, nY⟩ := VY.out.grow g10
      obtain ⟨AQ, lQ, cQ, hQ, nQ⟩ := VQ.out.grow g10
      obtain ⟨AR, lR, cR, hR, nR⟩ := VR.out.grow g10
      obtain ⟨AS, lS, cS, hS, nS⟩ := VS.out.grow g10
      obtain ⟨AI, lI, cI, hI, nI⟩ := v16
      obtain ⟨AJ, lJ, cJ, hJ, nJ⟩ := v17
      have HH := Lib.hid (And.intro hX (And.intro hY (And.intro hQ (And.intro hR (And.intro hS (And.intro hI hJ))))))
      have HN := Lib.hid (And.intro nX (And.intro nY (And.intro nQ (And.intro nR (And.intro nS (And.intro nI nJ))))))
      have GW := Lib.hid (GW.out.trans g10)
      clear hX hY hQ hR hS hI hJ nX nY nQ nR nS nI nJ g10
      go_wp2_with fail
      rename_i hK
      obtain ⟨hX, hY, hQ, hR, hS, hI, hJ⟩ := HH.out
      obtain ⟨nX, nY, nQ, nR, nS, nI, nJ⟩ := HN.out
      exact Rg.region_eq (by kernel_rfl) (Rg.back7_region x y r x r rfl rfl hX nX rfl hY nY rfl hQ nQ rfl hR nR rfl hS nS rfl hI nI rfl hJ nJ rfl rfl rfl H0.out rfl rfl fun a' w' hg ha h6 => hK a' w' (Rg.ret_slot (t := 6) Try.results4 ha.1 h6 (Ret.mk rfl (GW.out.trans hg))))
end Go.Proofs.Ytfeijnbmaehniaa
