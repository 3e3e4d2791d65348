/- The law WholeFloors of layer 4. -/
import Derived.Test.YtjgceldghelpiaaDoorL4FloorsR
namespace Go.Proofs.YtjgceldghelpiaaDoor
open Go.RowKit
set_option maxRecDepth 20000

set_option maxHeartbeats 4000000 in
theorem wholeFloors_walk (w : World) (A0 : Option Addr) (n0 c0 : Nat) (b0 : Bool) (l0 : List Nat) (h0 : Sl w (.slice A0 n0 c0) l0) (A1 : Option Addr) (n1 c1 : Nat) (b1 : Bool) (l1 : List Nat) (h1 : Sl w (.slice A1 n1 c1) l1) :
    Calls Tryd.prog 4 #[.agg #[.slice A0 n0 c0, .bool b0], .agg #[.slice A1 n1 c1, .bool b1]] w (Ret w fun v' _ => v' = .bool true) := by
  have HN0 := Lib.hid (fun W (g : Grow w W) => num_w (b := b0) (h0.grow g) _ _ _ rfl)
  generalize signed (Mx.val (l0.take 10)) b0 = z0 at *
  have HN1 := Lib.hid (fun W (g : Grow w W) => num_w (b := b1) (h1.grow g) _ _ _ rfl)
  generalize signed (Mx.val (l1.take 10)) b1 = z1 at *
  have hg0 := (((Grow.refl w).alloc (Obj.cells #[Value.slice A0 n0 c0, Value.bool b0] 24)).alloc (Obj.cells #[Value.slice A1 n1 c1, Value.bool b1] 24))
  have HB : Hid (∀ W, Grow ((w.alloc (Obj.cells #[Value.slice A0 n0 c0, Value.bool b0] 24)).alloc (Obj.cells #[Value.slice A1 n1 c1, Value.bool b1] 24)) W → (W.cell? ⟨w.heap.size, 0, none⟩ = some (.slice A0 n0 c0) ∧ W.cell? ⟨w.heap.size, 1, none⟩ = some (.bool b0) ∧ W.cell? ⟨w.heap.size + 1, 0, none⟩ = some (.slice A1 n1 c1) ∧ W.cell? ⟨w.heap.size + 1, 1, none⟩ = some (.bool b1))) := Lib.hid fun W g => ⟨g.cells1 (by simp [go_sem]), g.cells1 (by simp [go_sem]), g.cells1 (by simp [go_sem]), g.cells1 (by simp [go_sem])⟩
  clear h0 h1
  go_enter Tryd.func4, Tryd.ntmps4
  go_upto_region 1 with fail
  generalize ((w.alloc (Obj.cells #[Value.slice A0 n0 c0, Value.bool b0] 24)).alloc (Obj.cells #[Value.slice A1 n1 c1, Value.bool b1] 24)) = W0 at *
  have GW := Lib.hid hg0
  have G0 := Lib.hid (Grow.refl W0)
  clear hg0
  obtain ⟨k0_0, k0_1, k1_0, k1_1⟩ := HB.out _ G0.out
  go_wp2_with fail
  refine (HN0.out _ GW.out).mono ?_
  rintro e w1 ⟨v0, rfl, ⟨u0, t0, rfl, hu, ht⟩, g⟩
  obtain ⟨Au0, lu0, cu0, xu0, rfl, _⟩ := hu.open
  obtain ⟨At0, lt0, ct0, xt0, rfl, _⟩ := ht.open
  have V0 := Lib.hid (VarW.new (t := 28) hu ((Grow.refl _).alloc (Obj.cells #[.slice At0 lt0 ct0, .bool xt0] 31)))
  have hT := VarV.new (t := 31) (ht.grow ((Grow.refl w1).alloc (Obj.cells #[.slice Au0 lu0 cu0, .bool xu0] 28))) (Grow.refl _)
  rw [World.size_alloc] at hT
  have T0 := Lib.hid hT
  have hga := (g.alloc (Obj.cells #[.slice Au0 lu0 cu0, .bool xu0] 28)).alloc (Obj.cells #[.slice At0 lt0 ct0, .bool xt0] 31)
  have G0 := Lib.hid (G0.out.trans hga)
  have GW := Lib.hid (GW.out.trans hga)
  clear hu ht hT g hga HN0 k0_0 k0_1 k1_0 k1_1
  obtain ⟨k0_0, k0_1, k1_0, k1_1⟩ := HB.out _ G0.out
  go_wp2_with fail
  refine (HN1.out _ GW.out).mono ?_
  rintro e w2 ⟨v1, rfl, ⟨u1, t1, rfl, hu, ht⟩, g⟩
  obtain ⟨Au1, lu1, cu1, xu1, rfl, _⟩ := hu.open
  obtain ⟨At1, lt1, ct1, xt1, rfl, _⟩ := ht.open
  have V1 := Lib.hid (VarW.new (t := 28) hu ((Grow.refl _).alloc (Obj.cells #[.slice At1 lt1 ct1, .bool xt1] 31)))
  have hT := VarV.new (t := 31) (ht.grow ((Grow.refl w2).alloc (Obj.cells #[.slice Au1 lu1 cu1, .bool xu1] 28))) (Grow.refl _)
  rw [World.size_alloc] at hT
  have T1 := Lib.hid hT
  have hga := (g.alloc (Obj.cells #[.slice Au1 lu1 cu1, .bool xu1] 28)).alloc (Obj.cells #[.slice At1 lt1 ct1, .bool xt1] 31)
  have V0 := Lib.hid (V0.out.grow hga)
  have T0 := Lib.hid (T0.out.grow hga)
  have G0 := Lib.hid (G0.out.trans hga)
  have GW := Lib.hid (GW.out.trans hga)
  clear hu ht hT g hga HN1 k0_0 k0_1 k1_0 k1_1
  obtain ⟨Ax, lx, cx, xx, kx0, kx1, hX⟩ := V0.out
  obtain ⟨Ay, ly, cy, xy, ky0, ky1, hY⟩ := V1.out
  have HX := Lib.hid hX
  have HY := Lib.hid hY
  clear hX hY
  by_cases hz : z1 = 0
  · subst hz
    go_wp2_with fail
    refine (floor_zero HX.out HY.out).mono ?_
    rintro e w3 ⟨v3, rfl, rfl, g⟩
    have hga := (g.alloc (Obj.cells #[.slice none 0 0, .bool false] 28)).alloc (Obj.cells #[.slice none 0 0, .bool false] 28)
    have B9 := Lib.hid (((VarW.new (t := 28) (⟨none, 0, 0, rfl, IsN.zero w3⟩ : IsW w3 (.agg #[.slice none 0 0, .bool false]) 0 0) ((Grow.refl _).alloc (Obj.cells #[.slice none 0 0, .bool false] 28)))))
    have hB := VarW.new (t := 28) (⟨none, 0, 0, rfl, IsN.zero (w3.alloc (Obj.cells #[.slice none 0 0, .bool false] 28))⟩ : IsW (w3.alloc (Obj.cells #[.slice none 0 0, .bool false] 28)) (.agg #[.slice none 0 0, .bool false]) 0 0) (Grow.refl _)
    rw [World.size_alloc] at hB
    have B10 := Lib.hid hB
    have V1 := Lib.hid (V1.out.grow hga)
    have GW := Lib.hid (GW.out.trans hga)
    clear hga g kx0 kx1 ky0 ky1 HX HY hB V0 T0 T1
    obtain ⟨Ay, ly, cy, xy, ky0, ky1, hY⟩ := V1.out
    have HY := Lib.hid hY
    clear hY
    go_wp2_with fail
    refine (sign_w HY.out).mono ?_
    rintro e w4 ⟨v4, rfl, rfl, g⟩
    rw [show Int.sign 0 = 0 from rfl]
    have B9 := Lib.hid (B9.out.grow g)
    have B10 := Lib.hid (B10.out.grow g)
    have GW := Lib.hid (GW.out.trans g)
    clear g ky0 ky1 HY V1
    go_wp2_with fail
    refine (wakes4_any _).mono ?_
    rintro e w5 ⟨v5, rfl, rfl, g⟩
    have B9 := Lib.hid (B9.out.grow g)
    have B10 := Lib.hid (B10.out.grow g)
    have GW := Lib.hid (GW.out.trans g)
    clear g
    obtain ⟨Ay, ly, cy, xy, ky0, ky1, hY⟩ := B9.out
    have HY := Lib.hid hY
    clear hY
    go_wp2_with fail
    refine (sign_w HY.out).mono ?_
    rintro e w6 ⟨v6, rfl, rfl, g⟩
    rw [show Int.sign 0 = 0 from rfl]
    have B10 := Lib.hid (B10.out.grow g)
    have GW := Lib.hid (GW.out.trans g)
    clear g ky0 ky1 HY B9
    obtain ⟨Ay, ly, cy, xy, ky0, ky1, hY⟩ := B10.out
    have HY := Lib.hid hY
    clear hY
    go_wp2_with fail
    refine (sign_w HY.out).mono ?_
    rintro e w7 ⟨v7, rfl, rfl, g⟩
    rw [show Int.sign 0 = 0 from rfl]
    have GW := Lib.hid (GW.out.trans g)
    clear g ky0 ky1 HY B10
    go_wp2_with fail
    go_ret
    exact Ret.mk rfl GW.out
  · have HZ := Lib.hid hz
    clear hz
    go_wp2_with fail
    refine (floor_w HX.out HY.out (by decide) (by decide) HZ.out).mono ?_
    rintro e w3 ⟨v3, rfl, ⟨q3, r3, rfl, hq, hr⟩, g⟩
    obtain ⟨Aq, lq, cq, xq, rfl, _⟩ := hq.open
    obtain ⟨Ar, lr, cr, xr, rfl, _⟩ := hr.open
    have B9 := Lib.hid (VarW.new (t := 28) hq ((Grow.refl _).alloc (Obj.cells #[.slice Ar lr cr, .bool xr] 28)))
    have hB := VarW.new (t := 28) (hr.grow ((Grow.refl w3).alloc (Obj.cells #[.slice Aq lq cq, .bool xq] 28))) (Grow.refl _)
    rw [World.size_alloc] at hB
    have B10 := Lib.hid hB
    have hga := (g.alloc (Obj.cells #[.slice Aq lq cq, .bool xq] 28)).alloc (Obj.cells #[.slice Ar lr cr, .bool xr] 28)
    have V0 := Lib.hid (V0.out.grow hga)
    have V1 := Lib.hid (V1.out.grow hga)
    have T0 := Lib.hid (T0.out.grow hga)
    have T1 := Lib.hid (T1.out.grow hga)
    have GW := Lib.hid (GW.out.trans hga)
    clear hga g kx0 kx1 ky0 ky1 HX HY hB hq hr
    obtain ⟨Ay, ly, cy, xy, ky0, ky1, hY⟩ := V1.out
    have HY := Lib.hid hY
    have e0 : (Int.sign z1 == 0) = false := sgn_n0 HZ.out
    have HSG := Lib.hid (fun W (g : Grow _ W) => sign_w (HY.out.grow g))
    generalize Int.sign z1 = s1 at *
    clear hY
    go_wp2_with fail
    refine (HSG.out _ (Grow.refl _)).mono ?_
    rintro e w4 ⟨v4, rfl, rfl, g⟩
    have B9 := Lib.hid (B9.out.grow g)
    have B10 := Lib.hid (B10.out.grow g)
    have V0 := Lib.hid (V0.out.grow g)
    have V1 := Lib.hid (V1.out.grow g)
    have T0 := Lib.hid (T0.out.grow g)
    have T1 := Lib.hid (T1.out.grow g)
    have GW := Lib.hid (GW.out.trans g)
    clear g ky0 ky1 HY HSG
    obtain ⟨Ax, lx, cx, xx, kx0, kx1, hX⟩ := T0.out
    obtain ⟨Ay, ly, cy, xy, ky0, ky1, hY⟩ := T1.out
    have HX := Lib.hid hX
    have HY := Lib.hid hY
    clear hX hY
    go_wp2_with fail
    refine (floorV_any HX.out HY.out (by decide) (by decide) HZ.out).mono ?_
    rintro e w5 ⟨v5, rfl, ⟨q5, r5, rfl, hq, hr⟩, g⟩
    obtain ⟨Aq, lq, cq, xq, rfl, _⟩ := hq.open
    obtain ⟨Ar, lr, cr, xr, rfl, _⟩ := hr.open
    have B12 := Lib.hid (VarV.new (t := 31) hq ((Grow.refl _).alloc (Obj.cells #[.slice Ar lr cr, .bool xr] 31)))
    have hB := VarV.new (t := 31) (hr.grow ((Grow.refl w5).alloc (Obj.cells #[.slice Aq lq cq, .bool xq] 31))) (Grow.refl _)
    rw [World.size_alloc] at hB
    have B13 := Lib.hid hB
    have hga := (g.alloc (Obj.cells #[.slice Aq lq cq, .bool xq] 31)).alloc (Obj.cells #[.slice Ar lr cr, .bool xr] 31)
    have B9 := Lib.hid (B9.out.grow hga)
    have B10 := Lib.hid (B10.out.grow hga)
    have V0 := Lib.hid (V0.out.grow hga)
    have V1 := Lib.hid (V1.out.grow hga)
    have GW := Lib.hid (GW.out.trans hga)
    clear hga g kx0 kx1 ky0 ky1 HX HY hB hq hr T0 T1 e0
    go_upto_region 7 with fail
    rename_i hK
    have hsp := zdm_spec z0 HZ.out
    by_cases hr : zmod z0 z1 = 0
    · exact Rg.region_eq (by kernel_rfl) (Rg.floors7Z_region z0 z1 rfl rfl V0.out rfl V1.out rfl B9.out rfl B10.out rfl B12.out rfl B13.out rfl hsp.1 (by omega) hr fun a' w' hg ha h4 => hK a' w' (Rg.ret_slot (t := 4) Tryd.results4 ha.1 h4 (Ret.mk rfl (GW.out.trans hg))))
    · have hs : Int.sign (zmod z0 z1) = Int.sign z1 := by
        rcases hsp.2 with ⟨h1, h2⟩ | ⟨h1, h2⟩
        · rw [sign_gt (by omega), sign_gt (by omega)]
        · rw [sign_lt (by omega), sign_lt (by omega)]
      exact Rg.region_eq (by kernel_rfl) (Rg.floors7N_region z0 z1 rfl rfl V0.out rfl V1.out rfl B9.out rfl B10.out rfl B12.out rfl B13.out rfl hsp.1 (by omega) hr hs fun a' w' hg ha h4 => hK a' w' (Rg.ret_slot (t := 4) Tryd.results4 ha.1 h4 (Ret.mk rfl (GW.out.trans hg))))
end Go.Proofs.YtjgceldghelpiaaDoor
