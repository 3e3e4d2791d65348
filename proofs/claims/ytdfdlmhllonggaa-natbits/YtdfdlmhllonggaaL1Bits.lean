/- The law NatBits of layer 1. -/
import Derived.Test.YtdfdlmhllonggaaL1BitsR
namespace Go.Proofs.Ytdfdlmhllonggaa
open Go.RowKit

set_option maxRecDepth 100000 in
set_option maxHeartbeats 4000000 in
theorem natBits_walk (w : World) (va vb : Value) (la lb : List Nat) (ha : Sl w va la) (hb : Sl w vb lb) :
    Calls Try.prog 7 #[va, vb] w (Ret w fun v' _ => v' = .bool true) := by
  go_enter Try.func7, Try.ntmps7
  go_wp2_with fail
  refine (cut_any _ _ _ ha).mono ?_
  rintro e w1 ⟨v1, rfl, h1, g1⟩
  go_wp2_with fail
  refine (of_n 12 h1 (by rw [List.length_take]; omega) (by omega)).mono ?_
  rintro e w2 ⟨v2, rfl, h2, g2⟩
  go_wp2_with fail
  refine (cut_any _ _ _ (hb.grow (g1.trans g2))).mono ?_
  rintro e w3 ⟨v3, rfl, h3, g3⟩
  go_wp2_with fail
  refine (of_n 12 h3 (by rw [List.length_take]; omega) (by omega)).mono ?_
  rintro e w6 ⟨v4, rfl, h4, g4⟩
  have gw : Grow w w6 := ((g1.trans g2).trans g3).trans g4
  have hx : IsN w6 v2 (Mx.val (la.take 12)) 12 := h2.grow (g3.trans g4)
  have hy : IsN w6 v4 (Mx.val (lb.take 12)) 12 := h4
  clear h1 h2 h3 h4 g1 g2 g3 g4 ha hb
  generalize Mx.val (la.take 12) = x at *
  generalize Mx.val (lb.take 12) = y at *
  obtain ⟨⟨A1, c1, rfl, hk1, hl1⟩, hx2⟩ := hx
  obtain ⟨⟨A2, c2, rfl, hk2, hl2⟩, hy2⟩ := hy
  have HX := Lib.hid (fun W (g : Grow w6 W) => (⟨⟨A1, c1, rfl, hk1, hl1.grow g⟩, hx2⟩ : IsN W (.agg #[.slice A1 (Mx.len x) c1]) x 12))
  have HY := Lib.hid (fun W (g : Grow w6 W) => (⟨⟨A2, c2, rfl, hk2, hl2.grow g⟩, hy2⟩ : IsN W (.agg #[.slice A2 (Mx.len y) c2]) y 12))
  have hbx : Mx.bits x ≤ 768 := Nat.le_trans (Mx.bits_len x) (by omega)
  have hby : Mx.bits y ≤ 768 := Nat.le_trans (Mx.bits_len y) (by omega)
  clear hk1 hl1 hx2 hk2 hl2 hy2
  go_wp2_with fail
  refine (zero_n (HX.out _ (((Grow.refl w6).alloc _).alloc _))).mono ?_
  rintro e w7 ⟨v7, rfl, rfl, g7⟩
  obtain ⟨cx, cy⟩ := g7.new2
  have G7 : Grow w6 w7 := (((Grow.refl w6).alloc _).alloc _).trans g7
  clear g7
  by_cases hx0 : x = 0
  · have e0 : (x == 0) = true := by simpa using hx0
    rw [e0]
    have HX0 := Lib.hid hx0
    clear e0 hx0
    go_wp2_with fail
    refine (wakes_any _).mono ?_
    rintro e w8 ⟨v8, rfl, rfl, g8⟩
    have cx8 := g8.cells1 cx
    have cy8 := g8.cells1 cy
    have G8 := G7.trans g8
    clear cx cy g8
    go_wp2_with fail
    refine (mul_n (HX.out _ G8) (HY.out _ G8) (by omega) (by omega)).mono ?_
    rintro e w9 ⟨v9, rfl, h9, g9⟩
    go_wp2_with fail
    refine (bits_n h9 (by omega)).mono ?_
    rintro e w10 ⟨v10, rfl, rfl, g10⟩
    have e1 : Mx.bits (x * y) = 0 := by rw [HX0.out, Nat.zero_mul]; rfl
    rw [e1]
    have GF := Lib.hid (gw.trans ((G8.trans g9).trans g10))
    clear e1 h9 g9 g10 G8 G7 cx8 cy8
    go_wp2_with fail
    go_ret
    exact Ret.mk rfl GF.out
  have e0 : (x == 0) = false := by simpa using hx0
  rw [e0]
  clear e0
  go_wp2_with fail
  refine (zero_n (HY.out _ G7)).mono ?_
  rintro e w8 ⟨v8, rfl, rfl, g8⟩
  have cx8 := g8.cells1 cx
  have cy8 := g8.cells1 cy
  have G8 := G7.trans g8
  clear cx cy g8 G7
  by_cases hy0 : y = 0
  · have e0 : (y == 0) = true := by simpa using hy0
    rw [e0]
    have HY0 := Lib.hid hy0
    have HX0 := Lib.hid hx0
    clear e0 hy0 hx0
    go_wp2_with fail
    refine (wakes_any _).mono ?_
    rintro e w9 ⟨v9, rfl, rfl, g9⟩
    have cx9 := g9.cells1 cx8
    have cy9 := g9.cells1 cy8
    have G9 := G8.trans g9
    clear cx8 cy8 g9
    go_wp2_with fail
    refine (mul_n (HX.out _ G9) (HY.out _ G9) (by omega) (by omega)).mono ?_
    rintro e w10 ⟨v10, rfl, h10, g10⟩
    go_wp2_with fail
    refine (bits_n h10 (by omega)).mono ?_
    rintro e w11 ⟨v11, rfl, rfl, g11⟩
    have e1 : Mx.bits (x * y) = 0 := by rw [HY0.out, Nat.mul_zero]; rfl
    rw [e1]
    have GF := Lib.hid (gw.trans ((G9.trans g10).trans g11))
    clear e1 h10 g10 g11 G9 G8 cx9 cy9
    go_wp2_with fail
    go_ret
    exact Ret.mk rfl GF.out
  have e0 : (y == 0) = false := by simpa using hy0
  rw [e0]
  clear e0
  have hmul := Mx.bits_mul hx0 hy0
  have hmono : x ≤ y → Mx.bits x ≤ Mx.bits y := Mx.bits_mono
  have HMul := Lib.hid hmul
  have HMono := Lib.hid hmono
  have HX0 := Lib.hid hx0
  clear hmul hmono hx0 hy0
  go_wp2_with fail
  refine (mul_n (HX.out _ G8) (HY.out _ G8) (by omega) (by omega)).mono ?_
  rintro e w9 ⟨v9, rfl, h9, g9⟩
  have cx9 := g9.cells1 cx8
  have cy9 := g9.cells1 cy8
  have G9 := G8.trans g9
  clear cx8 cy8 g9 G8
  go_wp2_with fail
  refine (bits_n h9 (by omega)).mono ?_
  rintro e w10 ⟨v10, rfl, rfl, g10⟩
  have cx10 := g10.cells1 cx9
  have cy10 := g10.cells1 cy9
  have G10 := G9.trans g10
  have GF := Lib.hid (gw.trans G10)
  clear cx9 cy9 g10 G9 h9
  go_wp2_with fail
  rename_i hK
  have fin : ∀ (a : Act) (w' : World), Grow w10 w' → a.defers = [] → a.tmps.getD 4 undef = .bool true → Code.wp Try.prog Code.ret (bodyPost Try.prog Try.f7 (Ret w fun v' _ => v' = .bool true)) a w' :=
    fun a w' hg hd h4 => Rg.ret_slot (t := 4) Try.results7 hd h4 (Ret.mk rfl (GF.out.trans hg))
  by_cases hA : Mx.bits (x * y) = Mx.bits x + Mx.bits y
  · by_cases hC : x ≤ y
    · have hc : Mx.cmp x y ≤ 0 := by unfold Mx.cmp; split <;> (try split) <;> omega
      exact Rg.region_eq (by kernel_rfl) (Rg.bitsTF_region x y rfl rfl cx10 (HX.out _ G10) rfl cy10 (HY.out _ G10) rfl HX0.out hbx hby (by simp; omega) (by simp; omega) (by have := HMono.out hC; simp; omega) fun a w' hg ha h4 => hK a w' (fin a w' hg ha.1 h4))
    · exact Rg.region_eq (by kernel_rfl) (Rg.bitsTT_region x y rfl rfl cx10 (HX.out _ G10) rfl cy10 (HY.out _ G10) rfl HX0.out hbx hby (by simp; omega) (by rw [Mx.cmp_gt (by omega)]; rfl) fun a w' hg ha h4 => hK a w' (fin a w' hg ha.1 h4))
  · have hB : Mx.bits (x * y) = Mx.bits x + Mx.bits y - 1 := HMul.out.resolve_left hA
    have hp := Mx.bits_pos HX0.out
    by_cases hC : x ≤ y
    · have hc : Mx.cmp x y ≤ 0 := by unfold Mx.cmp; split <;> (try split) <;> omega
      exact Rg.region_eq (by kernel_rfl) (Rg.bitsFF_region x y rfl rfl cx10 (HX.out _ G10) rfl cy10 (HY.out _ G10) rfl HX0.out hbx hby (by simp; omega) (by simp; omega) (by simp; omega) (by have := HMono.out hC; simp; omega) fun a w' hg ha h4 => hK a w' (fin a w' hg ha.1 h4))
    · exact Rg.region_eq (by kernel_rfl) (Rg.bitsFT_region x y rfl rfl cx10 (HX.out _ G10) rfl cy10 (HY.out _ G10) rfl HX0.out hbx hby (by simp; omega) (by simp; omega) (by rw [Mx.cmp_gt (by omega)]; rfl) fun a w' hg ha h4 => hK a w' (fin a w' hg ha.1 h4))
end Go.Proofs.Ytdfdlmhllonggaa
