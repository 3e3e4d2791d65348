/- The law WholeInts of layer 4. -/
import Derived.Test.YtjgceldghelpiaaDoorL4IntsR
namespace Go.Proofs.YtjgceldghelpiaaDoor
open Go.RowKit
set_option maxRecDepth 20000

set_option maxHeartbeats 4000000 in
theorem wholeInts_walk (w : World) (n : Int) (hn : -9223372036854775808 ≤ n ∧ n ≤ 9223372036854775807) (A0 : Option Addr) (n0 c0 : Nat) (b0 : Bool) (l0 : List Nat) (h0 : Sl w (.slice A0 n0 c0) l0) :
    Calls Tryd.prog 5 #[.int .i64 n, .agg #[.slice A0 n0 c0, .bool b0]] w (Ret w fun v' _ => v' = .bool true) := by
  have HN0 := Lib.hid (fun W (g : Grow w W) => num_w (b := b0) (h0.grow g) _ _ _ rfl)
  generalize signed (Mx.val (l0.take 10)) b0 = z0 at *
  have HF := Lib.hid (fun W => from_w W n hn.1 hn.2)
  have HI := Lib.hid (fun W v (h : IsW W v n 1) => int_ok h (by decide) hn)
  have HX : Hid (∃ (k : Int) (b : Bool), (b = true ∧ k = z0 ∧ -9223372036854775808 ≤ z0 ∧ z0 ≤ 9223372036854775807 ∨ b = false ∧ k = 0 ∧ (z0 < -9223372036854775808 ∨ 9223372036854775807 < z0)) ∧ ∀ W v, IsW W v z0 10 → Calls Tryd.prog 29 #[v] W (Ret W fun v' _ => v' = .tuple #[.int .i64 k, .bool b])) := Lib.hid (by
    by_cases h : -9223372036854775808 ≤ z0 ∧ z0 ≤ 9223372036854775807
    · exact ⟨z0, true, .inl ⟨rfl, rfl, h⟩, fun W v hv => int_ok hv (by decide) h⟩
    · exact ⟨0, false, .inr ⟨rfl, rfl, by omega⟩, fun W v hv => int_no hv (by decide) (by omega)⟩)
  obtain ⟨kx, bx, hkx, hix⟩ := HX.out
  have HKX := Lib.hid hkx
  have HIX := Lib.hid hix
  have HNB := Lib.hid hn
  have HB : Hid (∀ W, Grow (w.alloc (Obj.cells #[Value.slice A0 n0 c0, Value.bool b0] 24)) W → (W.cell? ⟨w.heap.size, 0, none⟩ = some (.slice A0 n0 c0) ∧ W.cell? ⟨w.heap.size, 1, none⟩ = some (.bool b0))) := Lib.hid fun W g => ⟨g.cells1 (by simp [go_sem]), g.cells1 (by simp [go_sem])⟩
  have hg0 := (Grow.refl w).alloc (Obj.cells #[Value.slice A0 n0 c0, Value.bool b0] 24)
  clear h0 hn HX hkx hix
  go_enter Tryd.func5, Tryd.ntmps5
  go_upto_region 1 with fail
  generalize w.alloc (Obj.cells #[Value.slice A0 n0 c0, Value.bool b0] 24) = W0 at *
  have GW := Lib.hid hg0
  clear hg0
  go_wp2_with fail
  refine (HF.out _).mono ?_
  rintro e w1 ⟨v1, rfl, h1, g1⟩
  have H1 := Lib.hid h1
  have G1 := Lib.hid g1
  clear h1 g1
  go_wp2_with fail
  refine (HI.out _ _ H1.out).mono ?_
  rintro e w2 ⟨v2, rfl, rfl, g2⟩
  have G2 := Lib.hid (G1.out.trans g2)
  clear g2 G1 H1 HI
  obtain ⟨k0, k1⟩ := HB.out _ G2.out
  go_wp2_with fail
  refine (HN0.out _ (GW.out.trans G2.out)).mono ?_
  rintro e w3 ⟨v3, rfl, ⟨u3, t3, rfl, hu, ht⟩, g⟩
  obtain ⟨Au, lu, cu, xu, rfl, _⟩ := hu.open
  obtain ⟨At, lt, ct, xt, rfl, _⟩ := ht.open
  have V0 := Lib.hid (VarW.new (t := 28) hu ((Grow.refl _).alloc (Obj.cells #[.slice At lt ct, .bool xt] 31)))
  have GW := Lib.hid ((GW.out.trans G2.out).trans ((g.alloc (Obj.cells #[.slice Au lu cu, .bool xu] 28)).alloc (Obj.cells #[.slice At lt ct, .bool xt] 31)))
  clear hu ht g HN0 k0 k1 G2 HB
  obtain ⟨Ax, lx, cx, xx, kx0, kx1, hX⟩ := V0.out
  have HX := Lib.hid hX
  clear hX
  go_wp2_with fail
  refine (HIX.out _ _ HX.out).mono ?_
  rintro e w4 ⟨v4, rfl, rfl, g⟩
  have V0 := Lib.hid (V0.out.grow g)
  have GW := Lib.hid (GW.out.trans g)
  clear g kx0 kx1 HX HIX
  go_upto_region 4 with fail
  go_cut [11] (fun v W => v = .bool bx ∧ Grow w4 W)
  case first =>
    rcases HKX.out with ⟨rfl, hkk, hx⟩ | ⟨rfl, hkk, hx | hx⟩
    all_goals clear hkk
    · refine Rg.region_eq (by kernel_rfl) (Rg.ints4M_region z0 rfl rfl V0.out hx ?_)
      intro a' w' hg ha h11
      rw [Rg.frame_of ha [33, 34, 35, 36, 37, 38, 39, 40, 41, 42, 11] (by kernel_rfl)]
      have hv : Rg.vals a' 11 = .bool true := h11
      have HG := Lib.hid hg
      clear hg ha h11
      simp only [Rg.puts, Act.put, List.setIfInBounds_toArray, List.set_cons_succ, List.set_cons_zero]
      rw [hv]
      go_wp2_with fail
      go_meet
      exact ⟨rfl, HG.out⟩
    · refine Rg.region_eq (by kernel_rfl) (Rg.ints4L_region z0 rfl rfl V0.out hx ?_)
      intro a' w' hg ha h11
      rw [Rg.frame_of ha [33, 34, 35, 36, 37, 38, 39, 40, 41, 42, 11] (by kernel_rfl)]
      have hv : Rg.vals a' 11 = .bool false := h11
      have HG := Lib.hid hg
      clear hg ha h11
      simp only [Rg.puts, Act.put, List.setIfInBounds_toArray, List.set_cons_succ, List.set_cons_zero]
      rw [hv]
      go_wp2_with fail
      go_meet
      exact ⟨rfl, HG.out⟩
    · refine Rg.region_eq (by kernel_rfl) (Rg.ints4H_region z0 rfl rfl V0.out hx ?_)
      intro a' w' hg ha h11
      rw [Rg.frame_of ha [33, 34, 35, 36, 37, 38, 39, 40, 41, 42, 11] (by kernel_rfl)]
      have hv : Rg.vals a' 11 = .bool false := h11
      have HG := Lib.hid hg
      clear hg ha h11
      simp only [Rg.puts, Act.put, List.setIfInBounds_toArray, List.set_cons_succ, List.set_cons_zero]
      rw [hv]
      go_wp2_with fail
      go_meet
      exact ⟨rfl, HG.out⟩
  case rest =>
  obtain ⟨rfl, g⟩ := hcut
  obtain ⟨w5, rfl⟩ : ∃ x, x = wc := ⟨wc, rfl⟩
  have V0 := Lib.hid (V0.out.grow g)
  have GW := Lib.hid (GW.out.trans g)
  clear g
  go_wp2_with fail
  refine (from_w _ 1 (by decide) (by decide)).mono ?_
  rintro e w6 ⟨v6, rfl, h6, g⟩
  obtain ⟨A6, l6, c6, x6, rfl, _⟩ := h6.open
  have V12 := Lib.hid (VarW.new (t := 28) h6 (Grow.refl _))
  have hga := g.alloc (Obj.cells #[.slice A6 l6 c6, .bool x6] 28)
  have V0 := Lib.hid (V0.out.grow hga)
  have GW := Lib.hid (GW.out.trans hga)
  clear g h6 hga
  go_upto_region 6 with fail
  generalize hW6 : w6.alloc (Obj.cells #[.slice A6 l6 c6, .bool x6] 28) = W6 at *
  clear hW6
  go_cut [13, 14] (fun v u W => v = .int .i64 0 ∧ u = .bool false ∧ Grow W6 W)
  case first =>
    refine Rg.region_eq (by kernel_rfl) (Rg.ints6_region rfl rfl V12.out ?_)
    intro a' w' hg ha h13 h14
    rw [Rg.frame_of ha [45, 46, 47, 48, 44, 49, 50, 13, 14] (by kernel_rfl)]
    have hv : Rg.vals a' 13 = .int .i64 0 := h13
    have hv2 : Rg.vals a' 14 = .bool false := h14
    have HG := Lib.hid hg
    clear hg ha h13 h14
    simp only [Rg.puts, Act.put, List.setIfInBounds_toArray, List.set_cons_succ, List.set_cons_zero]
    rw [hv, hv2]
    go_wp2_with fail
    go_meet
    exact ⟨rfl, rfl, HG.out⟩
  case rest =>
  obtain ⟨rfl, rfl, g⟩ := hcut
  obtain ⟨w7, rfl⟩ : ∃ x, x = wc := ⟨wc, rfl⟩
  have V0 := Lib.hid (V0.out.grow g)
  have V12 := Lib.hid (V12.out.grow g)
  have GW := Lib.hid (GW.out.trans g)
  clear g
  go_upto_region 7 with fail
  go_cut [15, 16] (fun v u W => v = .int .i64 0 ∧ u = .bool false ∧ Grow w7 W)
  case first =>
    refine Rg.region_eq (by kernel_rfl) (Rg.ints7_region rfl rfl V12.out ?_)
    intro a' w' hg ha h13 h14
    rw [Rg.frame_of ha [52, 53, 54, 55, 51, 56, 57, 15, 16] (by kernel_rfl)]
    have hv : Rg.vals a' 15 = .int .i64 0 := h13
    have hv2 : Rg.vals a' 16 = .bool false := h14
    have HG := Lib.hid hg
    clear hg ha h13 h14
    simp only [Rg.puts, Act.put, List.setIfInBounds_toArray, List.set_cons_succ, List.set_cons_zero]
    rw [hv, hv2]
    go_wp2_with fail
    go_meet
    exact ⟨rfl, rfl, HG.out⟩
  case rest =>
  obtain ⟨rfl, rfl, g⟩ := hcut
  have V0 := Lib.hid (V0.out.grow g)
  have GW := Lib.hid (GW.out.trans g)
  clear g
  go_upto_region 8 with fail
  rename_i hK
  rcases HKX.out with ⟨rfl, rfl, hx⟩ | ⟨rfl, rfl, hx⟩
  · exact Rg.region_eq (by kernel_rfl) (Rg.ints8Y_region n kx rfl rfl V0.out rfl rfl rfl rfl rfl rfl rfl rfl HNB.out hx fun a' w' hg ha h4 => hK a' w' (Rg.ret_slot (t := 4) Tryd.results5 ha.1 h4 (Ret.mk rfl (GW.out.trans hg))))
  · exact Rg.region_eq (by kernel_rfl) (Rg.ints8N_region n rfl rfl rfl rfl rfl rfl rfl rfl rfl HNB.out fun a' w' hg ha h4 => hK a' w' (Rg.ret_slot (t := 4) Tryd.results5 ha.1 h4 (Ret.mk rfl (GW.out.trans hg))))
end Go.Proofs.YtjgceldghelpiaaDoor
