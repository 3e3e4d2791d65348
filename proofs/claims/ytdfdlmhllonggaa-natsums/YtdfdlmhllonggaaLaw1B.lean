/- What layer 1's laws share that compare with the reference: same; the law NatSums. -/
import Derived.Test.YtdfdlmhllonggaaRefF
import Derived.Test.YtdfdlmhllonggaaLaw1A
namespace Go.Proofs.Ytdfdlmhllonggaa
open Go.RowKit

set_option maxHeartbeats 1000000 in
theorem same_any (w : World) (v va : Value) (n k j : Nat) (hk : k ≤ 1048576) (hv : IsN w v n k) (ha : IsD w va n j) :
    Calls Try.prog 15 #[v, va] w (Ret w fun v' _ => v' = .bool true) := by
  have hlen := hv.2
  have HN := Lib.hid (fun W (g : Grow w W) => (hv.1.grow g : IsNat W v n))
  obtain ⟨⟨A, c, rfl, hc, hl⟩, _⟩ := hv
  clear hc hl
  go_enter Try.func15, Try.ntmps15
  go_wp2_with fail
  refine (limbs_any _ _ n (by omega) (HN.out _ ((Grow.refl w).alloc _))).mono ?_
  rintro e w1 ⟨v1, rfl, h1⟩
  have g1 := h1.choose_spec.2.2.2
  have s1 := h1.sl (Mx.limbs_lt _)
  clear h1
  go_wp2_with fail
  refine (refOf_any _ _ (Mx.limbs n) (by show Mx.len n ≤ _; omega) s1).mono ?_
  rw [Mx.val_limbs]
  rintro e w2 ⟨v2, rfl, h2, g2⟩
  have G : Grow w w2 := (((Grow.refl w).alloc _).trans g1).trans g2
  clear g1 g2 s1
  have hb := h2.ds
  have hlen2 : Dx.len n ≤ 8388608 := by
    obtain ⟨_, _, _, _, _, h3⟩ := h2
    have : (Mx.limbs n).length = Mx.len n := rfl
    omega
  go_wp2_with fail
  refine (equalInt_any _ _ _ _ _ (by show Dx.len n ≤ _; omega) hb (ha.grow G).ds).mono ?_
  rintro e w3 ⟨v3, rfl, rfl, g3⟩
  have GF := Lib.hid (G.trans g3)
  clear hb h2 g3 G
  simp only [BEq.rfl]
  go_wp2_with fail
  go_ret
  exact Ret.mk rfl GF.out

set_option maxRecDepth 100000 in
set_option maxHeartbeats 4000000 in
theorem natSums_walk (w : World) (va vb : Value) (la lb : List Nat) (ha : Sl w va la) (hb : Sl w vb lb) :
    Calls Try.prog 3 #[va, vb] w (Ret w fun v' _ => v' = .bool true) := by
  go_enter Try.func3, Try.ntmps3
  go_wp2_with fail
  refine (cut_any _ _ _ ha).mono ?_
  rintro e w1 ⟨v1, rfl, h1, g1⟩
  go_wp2_with fail
  refine (of_n 12 h1 (by rw [List.length_take]; omega) (by omega)).mono ?_
  rintro e w2 ⟨v2, rfl, h2, g2⟩
  go_wp2_with fail
  refine (cut_any _ _ _ (hb.grow (g1.trans g2))).mono ?_
  rintro e w3 ⟨v3, rfl, h3, g3⟩
  go_wp2_with fail
  refine (of_n 12 h3 (by rw [List.length_take]; omega) (by omega)).mono ?_
  rintro e w6 ⟨v4, rfl, h4, g4⟩
  have gw : Grow w w6 := ((g1.trans g2).trans g3).trans g4
  have hx : IsN w6 v2 (Mx.val (la.take 12)) 12 := h2.grow (g3.trans g4)
  have hy : IsN w6 v4 (Mx.val (lb.take 12)) 12 := h4
  clear h1 h2 h3 h4 g1 g2 g3 g4
  generalize hxv : Mx.val (la.take 12) = x at hx
  generalize hyv : Mx.val (lb.take 12) = y at hy
  have HXV := Lib.hid hxv
  have HYV := Lib.hid hyv
  clear hxv hyv
  obtain ⟨⟨A1, c1, rfl, hk1, hl1⟩, hx2⟩ := hx
  obtain ⟨⟨A2, c2, rfl, hk2, hl2⟩, hy2⟩ := hy
  have HX := Lib.hid (fun W (g : Grow w6 W) => (⟨⟨A1, c1, rfl, hk1, hl1.grow g⟩, hx2⟩ : IsN W (.agg #[.slice A1 (Mx.len x) c1]) x 12))
  have HY := Lib.hid (fun W (g : Grow w6 W) => (⟨⟨A2, c2, rfl, hk2, hl2.grow g⟩, hy2⟩ : IsN W (.agg #[.slice A2 (Mx.len y) c2]) y 12))
  clear hk1 hl1 hx2 hk2 hl2 hy2
  go_wp2_with fail
  refine (cut_any _ _ _ (ha.grow (gw.trans (((Grow.refl w6).alloc _).alloc _)))).mono ?_
  rintro e w7 ⟨v7, rfl, h7, g7⟩
  obtain ⟨cx7, cy7⟩ := g7.new2
  have G7 : Grow w6 w7 := (((Grow.refl w6).alloc _).alloc _).trans g7
  clear g7
  go_wp2_with fail
  refine (refOf_any _ _ _ (by rw [List.length_take]; omega) h7).mono ?_
  rw [HXV.out]
  rintro e w8 ⟨v8, rfl, h8, g8⟩
  have hp : IsD w8 v8 x 96 := h8.more (by rw [List.length_take]; omega)
  have cx8 := g8.cells1 cx7
  have cy8 := g8.cells1 cy7
  have G8 := G7.trans g8
  clear h7 h8 cx7 cy7 g8 G7
  go_wp2_with fail
  refine (cut_any _ _ _ (hb.grow (gw.trans G8))).mono ?_
  rintro e w9 ⟨v9, rfl, h9, g9⟩
  go_wp2_with fail
  refine (refOf_any _ _ _ (by rw [List.length_take]; omega) h9).mono ?_
  rw [HYV.out]
  rintro e w10 ⟨v10, rfl, h10, g10⟩
  have hq : IsD w10 v10 y 96 := h10.more (by rw [List.length_take]; omega)
  have hp10 := hp.grow (g9.trans g10)
  have cx10 := (g9.trans g10).cells1 cx8
  have cy10 := (g9.trans g10).cells1 cy8
  have G10 := G8.trans (g9.trans g10)
  clear hp h9 h10 cx8 cy8 g9 g10 G8 ha hb HXV HYV
  rcases Nat.lt_or_ge x y with hlt | hge
  · have HLT := Lib.hid hlt
    clear hlt
    go_wp2_with fail
    refine (sub_less _ _ _ _ _ (by have := (HX.out _ G10).2; omega) (HX.out _ G10).1 (HY.out _ G10).1 HLT.out).mono ?_
    rintro e w11 ⟨v11, rfl, ⟨u11, rfl, h11⟩, g11⟩
    obtain ⟨A4, c4, rfl, hk4, hl4⟩ := h11
    have hd0 : Mx.len 0 ≤ 12 := Nat.zero_le _
    have cx11 := g11.cells1 cx10
    have cy11 := g11.cells1 cy10
    have G11 := G10.trans g11
    have hp11 := hp10.grow g11
    have hq11 := hq.grow g11
    have s11 : w6.heap.size + 1 < w11.heap.size := lt_of_cell cy11
    have s12 : w6.heap.size < w11.heap.size := by omega
    have HD := Lib.hid (fun W (g : Grow w11 W) => (⟨⟨A4, c4, rfl, hk4, hl4.grow g⟩, hd0⟩ : IsN W (.agg #[.slice A4 (Mx.len 0) c4]) 0 12))
    clear cx10 cy10 g11 G10 hp10 hq hk4 hl4 hd0
    go_wp2_with fail
    have gA : Grow w11 (w11.alloc (Obj.cells #[Value.slice A4 (Mx.len 0) c4] 24)) := (Grow.refl w11).alloc _
    refine (refCmp_any _ _ _ x y 96 96 (by omega) (hp11.grow gA) (hq11.grow gA)).mono ?_
    rw [Mx.cmp_lt HLT.out]
    rintro e w12 ⟨v12, rfl, rfl, g12⟩
    have cd := g12.new.1
    have G12 : Grow w11 w12 := gA.trans g12
    have cx12 := G12.cells1 cx11
    have cy12 := G12.cells1 cy11
    have HP := Lib.hid (fun W (g : Grow w12 W) => hp11.grow (G12.trans g))
    have HQ := Lib.hid (fun W (g : Grow w12 W) => hq11.grow (G12.trans g))
    have HWant := Lib.hid (fun (W : World) (_ : Grow w12 W) => IsD.zero W)
    have G0 := G11.trans G12
    clear g12 cx11 cy11 gA
    go_wp2_with fail
    refine (wakes_any _).mono ?_
    rintro e w13 ⟨v13, rfl, rfl, g13⟩
    have cd13 := g13.cells1 cd
    have cx13 := g13.cells1 cx12
    have cy13 := g13.cells1 cy12
    clear cd cx12 cy12
    go_wp2_with fail
    refine (add_n (HX.out _ (G0.trans g13)) (HY.out _ (G0.trans g13)) (by omega) (by omega)).mono ?_
    rintro e w15 ⟨v15, rfl, h15, g15⟩
    have cd15 := g15.cells1 cd13
    have cx15 := g15.cells1 cx13
    have cy15 := g15.cells1 cy13
    have k15 := g13.trans g15
    clear cd13 cx13 cy13
    go_wp2_with fail
    refine (refAdd_any _ _ _ x y 96 96 (by omega) (by omega) (HP.out _ k15) (HQ.out _ k15)).mono ?_
    rintro e w16 ⟨v16, rfl, h16, g16⟩
    have cd16 := g16.cells1 cd15
    have cx16 := g16.cells1 cx15
    have cy16 := g16.cells1 cy15
    have k16 := k15.trans g16
    clear cd15 cx15 cy15
    go_wp2_with fail
    refine (same_any _ _ _ _ _ _ (by omega) (h15.grow g16) h16).mono ?_
    rintro e w17 ⟨v17, rfl, rfl, g17⟩
    have cd17 := g17.cells1 cd16
    have cx17 := g17.cells1 cx16
    have cy17 := g17.cells1 cy16
    have k17 := k16.trans g17
    clear cd16 cx16 cy16 h15 h16 g15 g16 g17 k15 k16
    go_wp2_with fail
    refine (mul_n (HX.out _ (G0.trans k17)) (HY.out _ (G0.trans k17)) (by omega) (by omega)).mono ?_
    rintro e w18 ⟨v18, rfl, h18, g18⟩
    have cd18 := g18.cells1 cd17
    have k18 := k17.trans g18
    clear cd17 cx17 cy17
    go_wp2_with fail
    refine (refMul_any _ _ _ x y 96 96 (by omega) (by omega) (HP.out _ k18) (HQ.out _ k18)).mono ?_
    rintro e w19 ⟨v19, rfl, h19, g19⟩
    have cd19 := g19.cells1 cd18
    have k19 := k18.trans g19
    clear cd18
    go_wp2_with fail
    refine (same_any _ _ _ _ _ _ (by omega) (h18.grow g19) h19).mono ?_
    rintro e w20 ⟨v20, rfl, rfl, g20⟩
    have cd20 := g20.cells1 cd19
    have k20 := k19.trans g20
    clear cd19 h18 h19 g18 g19 g20 k17 k18 k19
    go_wp2_with fail
    refine (same_any _ _ _ _ _ _ (by omega) (HD.out _ (G12.trans k20)) (HWant.out _ k20)).mono ?_
    rintro e w21 ⟨v21, rfl, rfl, g21⟩
    have GF := Lib.hid (gw.trans ((G0.trans k20).trans g21))
    clear cd20 g21 k20 G12 G0
    go_wp2_with fail
    go_ret
    exact Ret.mk rfl GF.out
  · have HGE := Lib.hid hge
    clear hge
    go_wp2_with fail
    refine (sub_n (HX.out _ G10) (HY.out _ G10) (by omega) HGE.out).mono ?_
    rintro e w11 ⟨v11, rfl, ⟨u11, rfl, h11⟩, g11⟩
    obtain ⟨⟨A4, c4, rfl, hk4, hl4⟩, hd0⟩ := h11
    have cx11 := g11.cells1 cx10
    have cy11 := g11.cells1 cy10
    have G11 := G10.trans g11
    have hp11 := hp10.grow g11
    have hq11 := hq.grow g11
    have s11 : w6.heap.size + 1 < w11.heap.size := lt_of_cell cy11
    have s12 : w6.heap.size < w11.heap.size := by omega
    have HD := Lib.hid (fun W (g : Grow w11 W) => (⟨⟨A4, c4, rfl, hk4, hl4.grow g⟩, hd0⟩ : IsN W (.agg #[.slice A4 (Mx.len (x - y)) c4]) (x - y) 12))
    clear cx10 cy10 g11 G10 hp10 hq hk4 hl4 hd0
    go_wp2_with fail
    have gA : Grow w11 (w11.alloc (Obj.cells #[Value.slice A4 (Mx.len (x - y)) c4] 24)) := (Grow.refl w11).alloc _
    refine (refCmp_any _ _ _ x y 96 96 (by omega) (hp11.grow gA) (hq11.grow gA)).mono ?_
    have hcm : 0 ≤ Mx.cmp x y := by have := HGE.out; unfold Mx.cmp; rw [if_neg (by omega)]; split <;> omega
    generalize Mx.cmp x y = cm at *
    rintro e w12 ⟨v12, rfl, rfl, g12⟩
    have cd0 := g12.new.1
    have G120 : Grow w11 w12 := gA.trans g12
    have cx120 := G120.cells1 cx11
    have cy120 := G120.cells1 cy11
    have hp12 := hp11.grow G120
    have hq12 := hq11.grow G120
    have hdec : decide (cm < 0) = false := by simp; omega
    clear g12 cx11 cy11 gA hp11 hq11
    go_wp2_with fail
    refine (refSub_any _ _ _ x y 96 96 (by omega) hp12 hq12 HGE.out).mono ?_
    rintro e w14 ⟨v14, rfl, h14, g14⟩
    have cd := g14.cells1 cd0
    have cx12 := g14.cells1 cx120
    have cy12 := g14.cells1 cy120
    have G12 := G120.trans g14
    have HP := Lib.hid (fun W (g : Grow w14 W) => hp12.grow (g14.trans g))
    have HQ := Lib.hid (fun W (g : Grow w14 W) => hq12.grow (g14.trans g))
    have HWant := Lib.hid (fun W (g : Grow w14 W) => h14.grow g)
    have G0 := G11.trans G12
    clear cx120 cy120 cd0 hp12 hq12 h14 G120 g14
    go_wp2_with fail
    refine (wakes_any _).mono ?_
    rintro e w13 ⟨v13, rfl, rfl, g13⟩
    have cd13 := g13.cells1 cd
    have cx13 := g13.cells1 cx12
    have cy13 := g13.cells1 cy12
    clear cd cx12 cy12
    go_wp2_with fail
    refine (add_n (HX.out _ (G0.trans g13)) (HY.out _ (G0.trans g13)) (by omega) (by omega)).mono ?_
    rintro e w15 ⟨v15, rfl, h15, g15⟩
    have cd15 := g15.cells1 cd13
    have cx15 := g15.cells1 cx13
    have cy15 := g15.cells1 cy13
    have k15 := g13.trans g15
    clear cd13 cx13 cy13
    go_wp2_with fail
    refine (refAdd_any _ _ _ x y 96 96 (by omega) (by omega) (HP.out _ k15) (HQ.out _ k15)).mono ?_
    rintro e w16 ⟨v16, rfl, h16, g16⟩
    have cd16 := g16.cells1 cd15
    have cx16 := g16.cells1 cx15
    have cy16 := g16.cells1 cy15
    have k16 := k15.trans g16
    clear cd15 cx15 cy15
    go_wp2_with fail
    refine (same_any _ _ _ _ _ _ (by omega) (h15.grow g16) h16).mono ?_
    rintro e w17 ⟨v17, rfl, rfl, g17⟩
    have cd17 := g17.cells1 cd16
    have cx17 := g17.cells1 cx16
    have cy17 := g17.cells1 cy16
    have k17 := k16.trans g17
    clear cd16 cx16 cy16 h15 h16 g15 g16 g17 k15 k16
    go_wp2_with fail
    refine (mul_n (HX.out _ (G0.trans k17)) (HY.out _ (G0.trans k17)) (by omega) (by omega)).mono ?_
    rintro e w18 ⟨v18, rfl, h18, g18⟩
    have cd18 := g18.cells1 cd17
    have k18 := k17.trans g18
    clear cd17 cx17 cy17
    go_wp2_with fail
    refine (refMul_any _ _ _ x y 96 96 (by omega) (by omega) (HP.out _ k18) (HQ.out _ k18)).mono ?_
    rintro e w19 ⟨v19, rfl, h19, g19⟩
    have cd19 := g19.cells1 cd18
    have k19 := k18.trans g19
    clear cd18
    go_wp2_with fail
    refine (same_any _ _ _ _ _ _ (by omega) (h18.grow g19) h19).mono ?_
    rintro e w20 ⟨v20, rfl, rfl, g20⟩
    have cd20 := g20.cells1 cd19
    have k20 := k19.trans g20
    clear cd19 h18 h19 g18 g19 g20 k17 k18 k19
    go_wp2_with fail
    refine (same_any _ _ _ _ _ _ (by omega) (HD.out _ (G12.trans k20)) (HWant.out _ k20)).mono ?_
    rintro e w21 ⟨v21, rfl, rfl, g21⟩
    have GF := Lib.hid (gw.trans ((G0.trans k20).trans g21))
    clear cd20 g21 k20 G12 G0
    go_wp2_with fail
    go_ret
    exact Ret.mk rfl GF.out
end Go.Proofs.Ytdfdlmhllonggaa
