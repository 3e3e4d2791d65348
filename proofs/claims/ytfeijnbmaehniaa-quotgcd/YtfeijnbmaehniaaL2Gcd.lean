/- The law QuotGcd of layer 2. -/
import Derived.Test.YtfeijnbmaehniaaL2GcdR
import Derived.Test.YtfeijnbmaehniaaL2Back
import Derived.BigQuiet
namespace Go.Proofs.Ytfeijnbmaehniaa
open Go.RowKit

theorem Sl.cut {w : World} {A : Option Addr} {c : Nat} {l : List Nat} (hc : l.length ≤ c) (hb : ∀ x ∈ l, x < Mx.B) (hcl : Cells w A l) (k m : Nat) (hm : m = (l.take k).length) : Sl w (.slice A m c) (l.take k) := by
  subst hm
  exact ⟨A, c, rfl, by rw [List.length_take]; omega, fun x hx => hb x (List.mem_of_mem_take hx), hcl.take k⟩

set_option maxRecDepth 100000 in
set_option maxHeartbeats 4000000 in
theorem quotGcd_walk (w : World) (va vb vc : Value) (la lb lc : List Nat) (ha : Sl w va la) (hb : Sl w vb lb) (hc : Sl w vc lc) :
    Calls Try.prog 6 #[va, vb, vc] w (Ret w fun v' _ => v' = .bool true) := by
  obtain ⟨A0, c0, rfl, ha1, ha2, ha3⟩ := ha
  obtain ⟨A1, c1, rfl, hb1, hb2, hb3⟩ := hb
  obtain ⟨A2, c2, rfl, hc1, hc2, hc3⟩ := hc
  have e0 : (min ((la.length : Nat) : Int) 4).toNat = (la.take 4).length := by rw [List.length_take]; omega
  have e1 : (min ((lb.length : Nat) : Int) 4).toNat = (lb.take 4).length := by rw [List.length_take]; omega
  have e2 : (min ((lc.length : Nat) : Int) 3).toNat = (lc.take 3).length := by rw [List.length_take]; omega
  have HA := Lib.hid (fun m (hm : m = (la.take 4).length) => Sl.cut ha1 ha2 ha3 4 m hm)
  have HBB := Lib.hid (fun m (hm : m = (lb.take 4).length) => Sl.cut hb1 hb2 hb3 4 m hm)
  have HC := Lib.hid (fun m (hm : m = (lc.take 3).length) => Sl.cut hc1 hc2 hc3 3 m hm)
  have HE := Lib.hid (And.intro e0 (And.intro e1 e2))
  clear ha2 ha3 hb2 hb3 hc2 hc3 e0 e1 e2
  go_enter Try.func6, Try.ntmps6
  go_upto_region 1 with fail
  go_quiet (fail)
  have s0 := HA.out _ HE.out.1
  have s1 := HBB.out _ HE.out.2.1
  have s2 := HC.out _ HE.out.2.2
  generalize Value.slice A0 (min ((la.length : Nat) : Int) 4).toNat c0 = v0 at *
  generalize Value.slice A1 (min ((lb.length : Nat) : Int) 4).toNat c1 = v1 at *
  generalize Value.slice A2 (min ((lc.length : Nat) : Int) 3).toNat c2 = v2 at *
  have hl0 : (la.take 4).length ≤ 4 := by rw [List.length_take]; omega
  have hl1 : (lb.take 4).length ≤ 4 := by rw [List.length_take]; omega
  have hl2 : (lc.take 3).length ≤ 3 := by rw [List.length_take]; omega
  clear HA HBB HC HE
  generalize la.take 4 = lx at *
  generalize lb.take 4 = ly at *
  generalize lc.take 3 = lz at *
  have gw1 := (Grow.refl w).drewN nq
  generalize w.drewN nq = w1 at *
  have s0 := s0.grow gw1
  have s1 := s1.grow gw1
  have s2 := s2.grow gw1
  go_wp2_with fail
  refine (of_n 4 s0 hl0 (by omega)).mono ?_
  rintro e w2 ⟨u2, rfl, h2, g2⟩
  go_wp2_with fail
  refine (of_n 4 (s1.grow g2) hl1 (by omega)).mono ?_
  rintro e w3 ⟨u3, rfl, h3, g3⟩
  go_wp2_with fail
  refine (of_n 3 (s2.grow (g2.trans g3)) hl2 (by omega)).mono ?_
  rintro e w4 ⟨u4, rfl, hz, g4⟩
  have hx := h2.grow (g3.trans g4)
  have hy := h3.grow g4
  have gw := gw1.trans ((g2.trans g3).trans g4)
  have HS := Lib.hid (fun W (g : Grow w4 W) => And.intro (s0.grow (((g2.trans g3).trans g4).trans g)) (s1.grow (((g2.trans g3).trans g4).trans g)))
  have HL := Lib.hid (And.intro hl0 hl1)
  clear h2 h3 g2 g3 g4 s0 s1 s2 gw1 hl0 hl1 hl2
  generalize Mx.val lz = z at *
  obtain ⟨A7, l7, c7, rfl⟩ := hx.cell
  obtain ⟨A8, l8, c8, rfl⟩ := hy.cell
  obtain ⟨A9, l9, c9, rfl⟩ := hz.cell
  have gg : Grow w4 (((w4.alloc (Obj.cells #[Value.slice A7 l7 c7] 24)).alloc (Obj.cells #[Value.slice A8 l8 c8] 24)).alloc (Obj.cells #[Value.slice A9 l9 c9] 24)) := (((Grow.refl _).alloc _).alloc _).alloc _
  obtain ⟨k7, k8, k9, _⟩ := Grow.new3 (Grow.refl (((w4.alloc (Obj.cells #[Value.slice A7 l7 c7] 24)).alloc (Obj.cells #[Value.slice A8 l8 c8] 24)).alloc (Obj.cells #[Value.slice A9 l9 c9] 24)))
  have VX := Lib.hid (VarN.mk k7 (hx.grow gg))
  have VY := Lib.hid (VarN.mk k8 (hy.grow gg))
  have VZ := Lib.hid (VarN.mk k9 (hz.grow gg))
  have GW := Lib.hid (gw.trans gg)
  have HG4 := Lib.hid gg
  clear hx hy hz k7 k8 k9 gg gw
  obtain ⟨AX, lX, cX, hX, nX⟩ := VX.out
  obtain ⟨AY, lY, cY, hY, nY⟩ := VY.out
  have HN := Lib.hid (And.intro nX nY)
  clear nX nY
  go_wp2_with fail
  refine (gcd_n HN.out.1 HN.out.2 (by omega)).mono ?_
  rintro e w5 ⟨u5, rfl, hg, g5⟩
  obtain ⟨Ag, lg, cg, rfl⟩ := hg.cell
  have gg : Grow w5 (w5.alloc (Obj.cells #[Value.slice Ag lg cg] 24)) := (Grow.refl _).alloc _
  have vg := VarN.new hg (Grow.refl _)
  have VX := Lib.hid (VX.out.grow (g5.trans gg))
  have VY := Lib.hid (VY.out.grow (g5.trans gg))
  have VZ := Lib.hid (VZ.out.grow (g5.trans gg))
  have VG := Lib.hid vg
  have GW := Lib.hid (GW.out.trans (g5.trans gg))
  have HSS := Lib.hid (HS.out _ (HG4.out.trans (g5.trans gg)))
  clear g5 gg vg hg HN hX hY HS HG4
  go_upto_region 4 with fail
  go_cut [48] (fun v W => LsD (w5.alloc (Obj.cells #[Value.slice Ag lg cg] 24)) false v W)
  case first =>
    obtain ⟨AG, lG, cG, hG, nG⟩ := VG.out
    refine Rg.region_eq (by kernel_rfl) (Rg.gcd4_region lx ly rfl rfl hG nG HSS.out.1 HSS.out.2 HL.out.1 HL.out.2 ?_)
    intro a w' hg7 ha7 h48
    rw [Rg.frame_of ha7 [41, 42, 43, 44, 45, 46, 47, 48] (by kernel_rfl)]
    have hv : Rg.vals a 48 = .bool false := h48
    have HG7 := Lib.hid hg7
    clear hG nG hg7 ha7 h48
    simp only [Rg.puts, Act.put, List.setIfInBounds_toArray, List.set_cons_succ, List.set_cons_zero]
    rw [hv]
    go_wp2_with fail
    go_meet
    exact ⟨rfl, HG7.out⟩
  case rest =>
    obtain ⟨w6, rfl⟩ : ∃ x, x = wc := ⟨wc, rfl⟩
    obtain ⟨rfl, g6⟩ := hcut
    have VX := Lib.hid (VX.out.grow g6)
    have VY := Lib.hid (VY.out.grow g6)
    have VZ := Lib.hid (VZ.out.grow g6)
    have VG := Lib.hid (VG.out.grow g6)
    have GW := Lib.hid (GW.out.trans g6)
    clear g6 HSS HL
    obtain ⟨AG, lG, cG, hG, nG⟩ := VG.out
    have HN := Lib.hid nG
    clear nG
    go_wp2_with fail
    refine (zero_n HN.out).mono ?_
    rintro e w7 ⟨u7, rfl, rfl, g7⟩
    have VX := Lib.hid (VX.out.grow g7)
    have VY := Lib.hid (VY.out.grow g7)
    have VZ := Lib.hid (VZ.out.grow g7)
    have VG := Lib.hid (VG.out.grow g7)
    have GW := Lib.hid (GW.out.trans g7)
    clear g7 hG HN
    by_cases h0 : Nat.gcd (Mx.val lx) (Mx.val ly) = 0
    · have e0 : (Nat.gcd (Mx.val lx) (Mx.val ly) == 0) = true := by rw [h0]; rfl
      rw [e0]
      clear h0 e0
      obtain ⟨AX, lX, cX, hX, nX⟩ := VX.out
      obtain ⟨AY, lY, cY, hY, nY⟩ := VY.out
      obtain ⟨AZ, lZ, cZ, hZ, nZ⟩ := VZ.out
      obtain ⟨AG, lG, cG, hG, nG⟩ := VG.out
      have HN := Lib.hid (And.intro nX (And.intro nY (And.intro nZ nG)))
      have HH := Lib.hid (And.intro hX (And.intro hY (And.intro hZ hG)))
      clear nX nY nZ nG hX hY hZ hG
      go_wp2_with fail
      rename_i hK
      obtain ⟨nX, nY, nZ, nG⟩ := HN.out
      obtain ⟨hX, hY, hZ, hG⟩ := HH.out
      exact Rg.region_eq (by kernel_rfl) (Rg.gcd11_region (Mx.val lx) (Mx.val ly) z rfl rfl hX nX rfl hY nY rfl hZ nZ rfl hG nG fun a' w' hg ha h6 => hK a' w' (Rg.ret_slot (t := 6) Try.results6 ha.1 h6 (Ret.mk rfl (GW.out.trans hg))))
    · have e0 : (Nat.gcd (Mx.val lx) (Mx.val ly) == 0) = false := by rw [beq_eq_false_iff_ne]; exact h0
      rw [e0]
      have H0 := Lib.hid h0
      clear e0 h0
      obtain ⟨AX, lX, cX, hX, nX⟩ := VX.out
      obtain ⟨AG, lG, cG, hG, nG⟩ := VG.out
      have HN := Lib.hid (And.intro nX nG)
      clear nX nG
      go_wp2_with fail
      refine (div_n HN.out.1 HN.out.2 (by omega) H0.out).mono ?_
      rintro e w8 ⟨v8, rfl, ⟨u8, t8, rfl, hu, ht⟩, g8⟩
      obtain ⟨Au, lu, cu, rfl⟩ := hu.cell
      obtain ⟨At, lt, ct, rfl⟩ := ht.cell
      have gg : Grow w8 ((w8.alloc (Obj.cells #[Value.slice Au lu cu] 24)).alloc (Obj.cells #[Value.slice At lt ct] 24)) := ((Grow.refl _).alloc _).alloc _
      obtain ⟨vu, vt⟩ := VarN.new2 hu ht (Grow.refl _)
      rw [Nat.mod_eq_zero_of_dvd (Nat.gcd_dvd_left (Mx.val lx) (Mx.val ly))] at vt
      have VX := Lib.hid (VX.out.grow (g8.trans gg))
      have VY := Lib.hid (VY.out.grow (g8.trans gg))
      have VZ := Lib.hid (VZ.out.grow (g8.trans gg))
      have VG := Lib.hid (VG.out.grow (g8.trans gg))
      have VR := Lib.hid vt
      have GW := Lib.hid (GW.out.trans (g8.trans gg))
      clear g8 gg vu vt hu ht HN hX hG
      obtain ⟨AY, lY, cY, hY, nY⟩ := VY.out
      obtain ⟨AG, lG, cG, hG, nG⟩ := VG.out
      have HN := Lib.hid (And.intro nY nG)
      clear nY nG
      go_wp2_with fail
      refine (div_n HN.out.1 HN.out.2 (by omega) H0.out).mono ?_
      rintro e w9 ⟨v9, rfl, ⟨u9, t9, rfl, hu, ht⟩, g9⟩
      obtain ⟨Au9, lu9, cu9, rfl⟩ := hu.cell
      obtain ⟨At9, lt9, ct9, rfl⟩ := ht.cell
      have gg : Grow w9 ((w9.alloc (Obj.cells #[Value.slice Au9 lu9 cu9] 24)).alloc (Obj.cells #[Value.slice At9 lt9 ct9] 24)) := ((Grow.refl _).alloc _).alloc _
      obtain ⟨vu, vt⟩ := VarN.new2 hu ht (Grow.refl _)
      rw [Nat.mod_eq_zero_of_dvd (Nat.gcd_dvd_right (Mx.val lx) (Mx.val ly))] at vt
      have VX := Lib.hid (VX.out.grow (g9.trans gg))
      have VY := Lib.hid (VY.out.grow (g9.trans gg))
      have VZ := Lib.hid (VZ.out.grow (g9.trans gg))
      have VG := Lib.hid (VG.out.grow (g9.trans gg))
      have VR := Lib.hid (VR.out.grow (g9.trans gg))
      have VT := Lib.hid vt
      have GW := Lib.hid (GW.out.trans (g9.trans gg))
      clear g9 gg vu vt hu ht HN hY hG
      obtain ⟨AR, lR, cR, hR, nR⟩ := VR.out
      have HN := Lib.hid nR
      clear nR
      go_wp2_with fail
      refine (zero_n HN.out).mono ?_
      simp only [BEq.rfl]
      rintro e w10 ⟨u10, rfl, rfl, g10⟩
      have VX := Lib.hid (VX.out.grow g10)
      have VY := Lib.hid (VY.out.grow g10)
      have VZ := Lib.hid (VZ.out.grow g10)
      have VG := Lib.hid (VG.out.grow g10)
      have VT := Lib.hid (VT.out.grow g10)
      have GW := Lib.hid (GW.out.trans g10)
      clear g10 hR HN
      obtain ⟨AT, lT, cT, hT, nT⟩ := VT.out
      have HN := Lib.hid nT
      clear nT
      go_wp2_with fail
      refine (zero_n HN.out).mono ?_
      simp only [BEq.rfl]
      rintro e w11 ⟨u11, rfl, rfl, g11⟩
      have VX := Lib.hid (VX.out.grow g11)
      have VY := Lib.hid (VY.out.grow g11)
      have VZ := Lib.hid (VZ.out.grow g11)
      have VG := Lib.hid (VG.out.grow g11)
      have GW := Lib.hid (GW.out.trans g11)
      clear g11 hT HN
      obtain ⟨AX, lX, cX, hX, nX⟩ := VX.out
      obtain ⟨AY, lY, cY, hY, nY⟩ := VY.out
      obtain ⟨AZ, lZ, cZ, hZ, nZ⟩ := VZ.out
      obtain ⟨AG, lG, cG, hG, nG⟩ := VG.out
      have HN := Lib.hid (And.intro nX (And.intro nY (And.intro nZ nG)))
      have HH := Lib.hid (And.intro hX (And.intro hY (And.intro hZ hG)))
      clear nX nY nZ nG hX hY hZ hG
      go_wp2_with fail
      rename_i hK
      obtain ⟨nX, nY, nZ, nG⟩ := HN.out
      obtain ⟨hX, hY, hZ, hG⟩ := HH.out
      exact Rg.region_eq (by kernel_rfl) (Rg.gcd11_region (Mx.val lx) (Mx.val ly) z rfl rfl hX nX rfl hY nY rfl hZ nZ rfl hG nG fun a' w' hg ha h6 => hK a' w' (Rg.ret_slot (t := 6) Try.results6 ha.1 h6 (Ret.mk rfl (GW.out.trans hg))))
end Go.Proofs.Ytfeijnbmaehniaa
