/- Package whole: Int. -/
import Derived.Test.YtjgceldghelpiaaDoorWhIntR
namespace Go.Proofs.YtjgceldghelpiaaDoor
open Go.RowKit
set_option maxRecDepth 20000

theorem limb0 {n : Nat} (h0 : n ≠ 0) (h : n < Mx.B) : Mx.limbs n = [n] := by
  rw [Mx.limbs_pos n h0, Nat.mod_eq_of_lt h, Nat.div_eq_of_lt h, Mx.limbs_zero]

set_option maxHeartbeats 2000000 in
theorem int_no {w : World} {v : Value} {x : Int} {k : Nat} (h : IsW w v x k) (hk : k ≤ 4294967296) (hx : x < -9223372036854775808 ∨ 9223372036854775807 < x) :
    Calls Tryd.prog 29 #[v] w (Ret w fun v' _ => v' = .tuple #[.int .i64 0, .bool false]) := by
  have HS := Lib.hid (fun W (g : Grow w W) => sign_w (h.grow g))
  have e0 : (x.sign == 0) = false := sgn_n0 (by omega)
  obtain ⟨A, l, c, b, rfl, _⟩ := h.open
  generalize x.sign = sx at *
  have HK := Lib.hid (And.intro hk hx)
  have HV := Lib.hid (VarW.new (t := 28) h (Grow.refl _))
  clear h hk hx
  go_enter Tryd.func29, Tryd.ntmps29
  go_wp2_with fail
  refine (HS.out _ ((Grow.refl w).alloc _)).mono ?_
  rintro e w1 ⟨v1, rfl, rfl, g1⟩
  have G1 := Lib.hid (((Grow.refl w).alloc _).trans g1)
  have V1 := Lib.hid (HV.out.grow g1)
  clear HV HS g1
  go_upto_region 3 with fail
  go_cut [17] (fun v W => v = .bool true ∧ Grow w W)
  case first =>
    rcases HK.out.2 with hx | hx
    · refine Rg.region_eq (by kernel_rfl) (Rg.int3L_region x k rfl rfl V1.out HK.out.1 hx ?_)
      intro a' w' hg ha h17
      rw [Rg.frame_of ha [8, 9, 10, 11, 12, 13, 14, 15, 16, 17] (by kernel_rfl)]
      have hv : Rg.vals a' 17 = .bool true := h17
      have HG := Lib.hid (G1.out.trans hg)
      clear hg ha h17
      simp only [Rg.puts, Act.put, List.setIfInBounds_toArray, List.set_cons_succ, List.set_cons_zero]
      rw [hv]
      go_wp2_with fail
      go_meet
      exact ⟨rfl, HG.out⟩
    · refine Rg.region_eq (by kernel_rfl) (Rg.int3H_region x k rfl rfl V1.out HK.out.1 hx ?_)
      intro a' w' hg ha h17
      rw [Rg.frame_of ha [8, 9, 10, 11, 12, 13, 14, 15, 16, 17] (by kernel_rfl)]
      have hv : Rg.vals a' 17 = .bool true := h17
      have HG := Lib.hid (G1.out.trans hg)
      clear hg ha h17
      simp only [Rg.puts, Act.put, List.setIfInBounds_toArray, List.set_cons_succ, List.set_cons_zero]
      rw [hv]
      go_wp2_with fail
      go_meet
      exact ⟨rfl, HG.out⟩
  case rest =>
    obtain ⟨rfl, g7⟩ := hcut
    go_wp2_with fail
    refine bodyPost_ret (v := .tuple #[.int .i64 0, .bool false]) (by simp [results, Tryd.results29, go_sem]) rfl (Ret.mk rfl g7)

set_option maxHeartbeats 2000000 in
theorem int_ok {w : World} {v : Value} {x : Int} {k : Nat} (h : IsW w v x k) (hk : k ≤ 4294967296) (hx : -9223372036854775808 ≤ x ∧ x ≤ 9223372036854775807) :
    Calls Tryd.prog 29 #[v] w (Ret w fun v' _ => v' = .tuple #[.int .i64 x, .bool true]) := by
  have HS := Lib.hid (fun W (g : Grow w W) => sign_w (h.grow g))
  obtain ⟨A, l, c, b, rfl, hn, hb⟩ := h.open
  by_cases h0 : x = 0
  · have e0 : (x.sign == 0) = true := sgn_0 h0
    subst h0
    generalize Int.sign 0 = sx at *
    clear hn hb h
    go_enter Tryd.func29, Tryd.ntmps29
    go_wp2_with fail
    refine (HS.out _ ((Grow.refl w).alloc _)).mono ?_
    rintro e w1 ⟨v1, rfl, rfl, g1⟩
    have G1 := Lib.hid (((Grow.refl w).alloc _).trans g1)
    clear HS g1
    go_wp2_with fail
    refine bodyPost_ret (v := .tuple #[.int .i64 0, .bool true]) (by simp [results, Tryd.results29, go_sem]) rfl (Ret.mk rfl G1.out)
  have e0 : (x.sign == 0) = false := sgn_n0 h0
  generalize x.sign = sx at *
  have hB : x.natAbs < Mx.B := by rw [Mx.B_eq]; omega
  have HL := Lib.hid (fun W (g : Grow w W) => limbs_any W _ _ (Nat.le_trans hn.2 (by omega)) (hn.grow g).1)
  rw [limb0 (by omega) hB] at HL
  have hcs : (b = true ∧ IntKind.u64.wrap (-(x.natAbs : Int)) = 18446744073709551616 - (x.natAbs : Int) ∧ IntKind.i64.wrap (18446744073709551616 - (x.natAbs : Int)) = x) ∨ (b = false ∧ IntKind.i64.wrap (x.natAbs : Int) = x) := by
    rcases hb with ⟨hb, h1⟩ | ⟨hb, h1⟩
    · refine .inl ⟨hb, by rw [u64_wrap]; omega, by rw [i64_wrap_hi (by omega) (by omega)]; omega⟩
    · refine .inr ⟨hb, ?_⟩
      rw [show (x.natAbs : Int) = x by omega]
      exact IntWalk.i64_in _ (by omega)
  generalize x.natAbs = n at *
  have HK := Lib.hid (And.intro hk hx)
  have HV := Lib.hid (VarW.new (t := 28) h (Grow.refl _))
  have HCS := Lib.hid hcs
  have HC0 : Hid (∀ W, Grow (w.alloc (Obj.cells #[Value.slice A l c, Value.bool b] 28)) W → W.cell? ⟨w.heap.size, 0, none⟩ = some (.slice A l c) ∧ W.cell? ⟨w.heap.size, 1, none⟩ = some (.bool b)) := Lib.hid fun W g => g.cells2 ⟨by simp [go_sem], by simp [go_sem]⟩
  clear h hk hx hn hb hcs h0 hB
  go_enter Tryd.func29, Tryd.ntmps29
  go_wp2_with fail
  refine (HS.out _ ((Grow.refl w).alloc _)).mono ?_
  rintro e w1 ⟨v1, rfl, rfl, g1⟩
  have G1 := Lib.hid g1
  have V1 := Lib.hid (HV.out.grow g1)
  clear HV HS g1
  go_upto_region 3 with fail
  go_cut [17] (fun v W => v = .bool false ∧ Grow w1 W)
  case first =>
    refine Rg.region_eq (by kernel_rfl) (Rg.int3M_region x k rfl rfl V1.out HK.out.1 HK.out.2 ?_)
    intro a' w' hg ha h17
    rw [Rg.frame_of ha [8, 9, 10, 11, 12, 13, 14, 15, 16, 17] (by kernel_rfl)]
    have hv : Rg.vals a' 17 = .bool false := h17
    have HG := Lib.hid hg
    clear hg ha h17
    simp only [Rg.puts, Act.put, List.setIfInBounds_toArray, List.set_cons_succ, List.set_cons_zero]
    rw [hv]
    go_wp2_with fail
    go_meet
    exact ⟨rfl, HG.out⟩
  case rest =>
    obtain ⟨rfl, g7⟩ := hcut
    have G7 := Lib.hid (G1.out.trans g7)
    clear g7 V1
    obtain ⟨k0, k1⟩ := HC0.out _ G7.out
    go_wp2_with fail
    refine (HL.out _ (((Grow.refl w).alloc _).trans G7.out)).mono ?_
    rintro e w2 ⟨v2, rfl, h2⟩
    obtain ⟨b2, rfl, hb2, hk2, g2⟩ := h2.open
    have hl0 : w2.cell? ⟨b2, 0, none⟩ = some (.int .u64 (n : Int)) := hk2.cell (i := 0) (by simp)
    have G8 := Lib.hid (G7.out.trans g2)
    clear k0 k1 g2 hk2 h2 hb2 G7
    obtain ⟨k0, k1⟩ := HC0.out _ G8.out
    have HG9 := Lib.hid (((Grow.refl w).alloc _).trans G8.out)
    clear HL G8 HC0 G1 HK
    rcases HCS.out with ⟨rfl, e1, e2⟩ | ⟨rfl, e1⟩
    · clear HCS
      go_wp2_with fail
      refine bodyPost_ret (v := .tuple #[.int .i64 x, .bool true]) (by simp [results, Tryd.results29, go_sem]) rfl (Ret.mk rfl HG9.out)
    · clear HCS
      go_wp2_with fail
      refine bodyPost_ret (v := .tuple #[.int .i64 x, .bool true]) (by simp [results, Tryd.results29, go_sem]) rfl (Ret.mk rfl HG9.out)
end Go.Proofs.YtjgceldghelpiaaDoor
