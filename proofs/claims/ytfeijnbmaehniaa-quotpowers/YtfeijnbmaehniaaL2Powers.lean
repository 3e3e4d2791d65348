/- The law QuotPowers of layer 2. -/
import Derived.Test.YtfeijnbmaehniaaL2PowersR
import Derived.Test.YtfeijnbmaehniaaLaw2V
namespace Go.Proofs.Ytfeijnbmaehniaa
open Go.RowKit

set_option maxRecDepth 100000 in
set_option maxHeartbeats 4000000 in
theorem quotPowers_walk (w : World) (va : Value) (la : List Nat) (n m : Nat) (hn : n ≤ 255) (hm : m ≤ 255) (ha : Sl w va la) :
    Calls Try.prog 7 #[va, .int .u8 (n : Int), .int .u8 (m : Int)] w (Ret w fun v' _ => v' = .bool true) := by
  go_enter Try.func7, Try.ntmps7
  go_wp2_with fail
  refine (cut2_any _ _ _ ha).mono ?_
  rintro e w1 ⟨v1, rfl, h1, g1⟩
  go_wp2_with fail
  refine (of_n 10 h1 (by rw [List.length_take]; omega) (by omega)).mono ?_
  rintro e w2 ⟨v2, rfl, h2, g2⟩
  have gw2 : Grow w w2 := g1.trans g2
  clear h1 g1 g2 ha
  generalize Mx.val (la.take 10) = x at *
  obtain ⟨A2, l2, c2, rfl⟩ := h2.cell
  have H2 := Lib.hid h2
  have GW2 := Lib.hid gw2
  clear h2 gw2
  go_wp2_with fail
  refine (one_at (x := 1) (by simp) (by omega)).mono ?_
  rintro e w3 ⟨v3, rfl, h3, g3⟩
  have X3 := VarN.new H2.out (((Grow.refl _).alloc _).trans g3)
  have GW3 := Lib.hid ((GW2.out.alloc _).trans (((Grow.refl _).alloc _).trans g3))
  clear g3 H2 GW2
  have HX3 := Lib.hid X3
  clear X3
  go_wp2_with fail
  refine (shl_n (s := n) h3 (by omega) (by omega)).mono ?_
  rintro e w4 ⟨v4, rfl, ⟨u4, rfl, h4⟩, g4⟩
  rw [Nat.one_mul] at h4
  have h4 := h4.weak (j := 5) (by omega)
  have X4 := HX3.out.grow g4
  have GW4 := Lib.hid (GW3.out.trans g4)
  clear g4 h3 HX3 GW3
  obtain ⟨A4, l4, c4, rfl⟩ := h4.cell
  have VP := Lib.hid (VarN.new h4 (Grow.refl _))
  have VX := Lib.hid (X4.grow ((Grow.refl _).alloc (Obj.cells #[Value.slice A4 l4 c4] 24)))
  have GW := Lib.hid (GW4.out.alloc (Obj.cells #[Value.slice A4 l4 c4] 24))
  clear GW4 X4 h4
  obtain ⟨AX, lX, cX, hX, nX⟩ := VX.out
  obtain ⟨AP, lP, cP, hP, nP⟩ := VP.out
  have HN := Lib.hid (And.intro (And.intro nX nP) True.intro)
  clear nX
  clear nP
  go_wp2_with fail
  obtain ⟨⟨nX, nP⟩, _⟩ := HN.out
  refine (div_n nX nP (by omega) (by have := Mx.pow2_pos n; omega)).mono ?_
  rintro e w5 ⟨v5, rfl, ⟨u5, t5, rfl, hu, ht⟩, g5⟩
  have hu := hu.weak (j := 10) (by omega)
  have ht := ht.weak (j := 5) (by omega)
  obtain ⟨Au5, lu5, cu5, rfl⟩ := hu.cell
  obtain ⟨At5, lt5, ct5, rfl⟩ := ht.cell
  have gg : Grow w5 ((w5.alloc (Obj.cells #[Value.slice Au5 lu5 cu5] 24)).alloc (Obj.cells #[Value.slice At5 lt5 ct5] 24)) := ((Grow.refl _).alloc _).alloc _
  obtain ⟨vu, vt⟩ := VarN.new2 hu ht (Grow.refl _)
  have VX := Lib.hid (VX.out.grow (g5.trans gg))
  have VP := Lib.hid (VP.out.grow (g5.trans gg))
  have VQ := Lib.hid vu
  have VR := Lib.hid vt
  have GW := Lib.hid (GW.out.trans (g5.trans gg))
  clear g5 gg vu vt hu ht
  clear hX
  clear hP
  obtain ⟨AX, lX, cX, hX, nX⟩ := VX.out
  have HN := Lib.hid (And.intro nX True.intro)
  clear nX
  go_wp2_with fail
  obtain ⟨nX, _⟩ := HN.out
  refine (shr_n (s := n) nX (by omega) (by omega)).mono ?_
  rintro e w6 ⟨v6, rfl, ⟨u6, rfl, hu⟩, g6⟩
  have hu := hu.weak (j := 10) (by omega)
  obtain ⟨Au6, lu6, cu6, rfl⟩ := hu.cell
  have gg : Grow w6 (w6.alloc (Obj.cells #[Value.slice Au6 lu6 cu6] 24)) := (Grow.refl _).alloc _
  have vu := VarN.new hu (Grow.refl _)
  have VX := Lib.hid (VX.out.grow (g6.trans gg))
  have VP := Lib.hid (VP.out.grow (g6.trans gg))
  have VQ := Lib.hid (VQ.out.grow (g6.trans gg))
  have VR := Lib.hid (VR.out.grow (g6.trans gg))
  have VH := Lib.hid vu
  have GW := Lib.hid (GW.out.trans (g6.trans gg))
  clear g6 gg vu hu
  clear hX
  obtain ⟨AX, lX, cX, hX, nX⟩ := VX.out
  have HN := Lib.hid (And.intro nX True.intro)
  clear nX
  go_wp2_with fail
  obtain ⟨nX, _⟩ := HN.out
  refine (shl_n (s := n) nX (by omega) (by omega)).mono ?_
  rintro e w7 ⟨v7, rfl, ⟨u7, rfl, hu⟩, g7⟩
  have hu := hu.weak (j := 14) (by omega)
  obtain ⟨Au7, lu7, cu7, rfl⟩ := hu.cell
  have gg : Grow w7 (w7.alloc (Obj.cells #[Value.slice Au7 lu7 cu7] 24)) := (Grow.refl _).alloc _
  have vu := VarN.new hu (Grow.refl _)
  have VX := Lib.hid (VX.out.grow (g7.trans gg))
  have VP := Lib.hid (VP.out.grow (g7.trans gg))
  have VQ := Lib.hid (VQ.out.grow (g7.trans gg))
  have VR := Lib.hid (VR.out.grow (g7.trans gg))
  have VH := Lib.hid (VH.out.grow (g7.trans gg))
  have VL := Lib.hid vu
  have GW := Lib.hid (GW.out.trans (g7.trans gg))
  clear g7 gg vu hu
  clear hX
  obtain ⟨AL, lL, cL, hL, nL⟩ := VL.out
  have HN := Lib.hid (And.intro nL True.intro)
  clear nL
  go_wp2_with fail
  obtain ⟨nL, _⟩ := HN.out
  refine (shr_n (s := n) nL (by omega) (by omega)).mono ?_
  rintro e w8 ⟨v8, rfl, ⟨u8, rfl, hu⟩, g8⟩
  have hu := hu.weak (j := 14) (by omega)
  obtain ⟨Au8, lu8, cu8, rfl⟩ := hu.cell
  have gg : Grow w8 (w8.alloc (Obj.cells #[Value.slice Au8 lu8 cu8] 24)) := (Grow.refl _).alloc _
  have vu := VarN.new hu (Grow.refl _)
  have VX := Lib.hid (VX.out.grow (g8.trans gg))
  have VP := Lib.hid (VP.out.grow (g8.trans gg))
  have VQ := Lib.hid (VQ.out.grow (g8.trans gg))
  have VR := Lib.hid (VR.out.grow (g8.trans gg))
  have VH := Lib.hid (VH.out.grow (g8.trans gg))
  have VL := Lib.hid (VL.out.grow (g8.trans gg))
  have VB := Lib.hid vu
  have GW := Lib.hid (GW.out.trans (g8.trans gg))
  clear g8 gg vu hu
  clear hL
  obtain ⟨AL, lL, cL, hL, nL⟩ := VL.out
  have HN := Lib.hid (And.intro nL True.intro)
  clear nL
  go_wp2_with fail
  obtain ⟨nL, _⟩ := HN.out
  refine (shl_n (s := m) nL (by omega) (by omega)).mono ?_
  rintro e w9 ⟨v9, rfl, ⟨u9, rfl, hu⟩, g9⟩
  have hu := hu.weak (j := 18) (by omega)
  obtain ⟨Au9, lu9, cu9, rfl⟩ := hu.cell
  have gg : Grow w9 (w9.alloc (Obj.cells #[Value.slice Au9 lu9 cu9] 24)) := (Grow.refl _).alloc _
  have vu := VarN.new hu (Grow.refl _)
  have VX := Lib.hid (VX.out.grow (g9.trans gg))
  have VP := Lib.hid (VP.out.grow (g9.trans gg))
  have VQ := Lib.hid (VQ.out.grow (g9.trans gg))
  have VR := Lib.hid (VR.out.grow (g9.trans gg))
  have VH := Lib.hid (VH.out.grow (g9.trans gg))
  have VL := Lib.hid (VL.out.grow (g9.trans gg))
  have VB := Lib.hid (VB.out.grow (g9.trans gg))
  have VM := Lib.hid vu
  have GW := Lib.hid (GW.out.trans (g9.trans gg))
  clear g9 gg vu hu
  clear hL
  obtain ⟨AX, lX, cX, hX, nX⟩ := VX.out
  have HN := Lib.hid (And.intro nX True.intro)
  clear nX
  go_wp2_with fail
  obtain ⟨nX, _⟩ := HN.out
  rw [show (n : Int) + (m : Int) = ((n + m : Nat) : Int) by omega]
  refine (shl_n (s := n + m) nX (by omega) (by omega)).mono ?_
  rintro e w10 ⟨v10, rfl, ⟨u10, rfl, hu⟩, g10⟩
  have hu := hu.weak (j := 18) (by omega)
  obtain ⟨Au10, lu10, cu10, rfl⟩ := hu.cell
  have gg : Grow w10 (w10.alloc (Obj.cells #[Value.slice Au10 lu10 cu10] 24)) := (Grow.refl _).alloc _
  have vu := VarN.new hu (Grow.refl _)
  have VX := Lib.hid (VX.out.grow (g10.trans gg))
  have VP := Lib.hid (VP.out.grow (g10.trans gg))
  have VQ := Lib.hid (VQ.out.grow (g10.trans gg))
  have VR := Lib.hid (VR.out.grow (g10.trans gg))
  have VH := Lib.hid (VH.out.grow (g10.trans gg))
  have VL := Lib.hid (VL.out.grow (g10.trans gg))
  have VB := Lib.hid (VB.out.grow (g10.trans gg))
  have VM := Lib.hid (VM.out.grow (g10.trans gg))
  have VO := Lib.hid vu
  have GW := Lib.hid (GW.out.trans (g10.trans gg))
  clear g10 gg vu hu
  clear hX
  obtain ⟨AX, lX, cX, hX, nX⟩ := VX.out
  obtain ⟨AP, lP, cP, hP, nP⟩ := VP.out
  obtain ⟨AQ, lQ, cQ, hQ, nQ⟩ := VQ.out
  obtain ⟨AH, lH, cH, hH, nH⟩ := VH.out
  obtain ⟨AL, lL, cL, hL, nL⟩ := VL.out
  obtain ⟨AB, lB, cB, hB, nB⟩ := VB.out
  obtain ⟨AM, lM, cM, hM, nM⟩ := VM.out
  obtain ⟨AO, lO, cO, hO, nO⟩ := VO.out
  have HN := Lib.hid (And.intro nX (And.intro nP (And.intro nQ (And.intro nH (And.intro nL (And.intro nB (And.intro nM nO)))))))
  have HH := Lib.hid (And.intro hX (And.intro hP (And.intro hQ (And.intro hH (And.intro hL (And.intro hB (And.intro hM hO)))))))
  clear nX nP nQ nH nL nB nM nO hX hP hQ hH hL hB hM hO
  go_wp2_with fail
  rename_i hK
  obtain ⟨nX, nP, nQ, nH, nL, nB, nM, nO⟩ := HN.out
  obtain ⟨hX, hP, hQ, hH, hL, hB, hM, hO⟩ := HH.out
  exact Rg.region_eq (by kernel_rfl) (Rg.powers_region x n m rfl rfl hX nX rfl hP nP rfl hQ nQ rfl hH nH rfl hL nL rfl hB nB rfl hM nM rfl hO nO rfl rfl rfl rfl rfl rfl rfl fun a' w' hg ha h6 => hK a' w' (Rg.ret_slot (t := 6) Try.results7 ha.1 h6 (Ret.mk rfl (GW.out.trans hg))))
end Go.Proofs.Ytfeijnbmaehniaa
