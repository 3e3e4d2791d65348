/- The law WholeSums of layer 4. -/
import Derived.Test.YtjgceldghelpiaaDoorL4SumsR
namespace Go.Proofs.YtjgceldghelpiaaDoor
open Go.RowKit
set_option maxRecDepth 20000

set_option maxHeartbeats 4000000 in
theorem wholeSums_walk (w : World) (A0 : Option Addr) (n0 c0 : Nat) (b0 : Bool) (l0 : List Nat) (h0 : Sl w (.slice A0 n0 c0) l0) (A1 : Option Addr) (n1 c1 : Nat) (b1 : Bool) (l1 : List Nat) (h1 : Sl w (.slice A1 n1 c1) l1) :
    Calls Tryd.prog 3 #[.agg #[.slice A0 n0 c0, .bool b0], .agg #[.slice A1 n1 c1, .bool b1]] w (Ret w fun v' _ => v' = .bool true) := by
  have HN0 := Lib.hid (fun W (g : Grow w W) => num_w (b := b0) (h0.grow g) _ _ _ rfl)
  generalize signed (Mx.val (l0.take 10)) b0 = z0 at *
  have HN1 := Lib.hid (fun W (g : Grow w W) => num_w (b := b1) (h1.grow g) _ _ _ rfl)
  generalize signed (Mx.val (l1.take 10)) b1 = z1 at *
  have hg0 := (((Grow.refl w).alloc (Obj.cells #[Value.slice A0 n0 c0, Value.bool b0] 24)).alloc (Obj.cells #[Value.slice A1 n1 c1, Value.bool b1] 24))
  have HB : Hid (∀ W, Grow ((w.alloc (Obj.cells #[Value.slice A0 n0 c0, Value.bool b0] 24)).alloc (Obj.cells #[Value.slice A1 n1 c1, Value.bool b1] 24)) W → (W.cell? ⟨w.heap.size, 0, none⟩ = some (.slice A0 n0 c0) ∧ W.cell? ⟨w.heap.size, 1, none⟩ = some (.bool b0) ∧ W.cell? ⟨w.heap.size + 1, 0, none⟩ = some (.slice A1 n1 c1) ∧ W.cell? ⟨w.heap.size + 1, 1, none⟩ = some (.bool b1))) := Lib.hid fun W g => ⟨g.cells1 (by simp [go_sem]), g.cells1 (by simp [go_sem]), g.cells1 (by simp [go_sem]), g.cells1 (by simp [go_sem])⟩
  clear h0 h1
  go_enter Tryd.func3, Tryd.ntmps3
  go_upto_region 1 with fail
  generalize ((w.alloc (Obj.cells #[Value.slice A0 n0 c0, Value.bool b0] 24)).alloc (Obj.cells #[Value.slice A1 n1 c1, Value.bool b1] 24)) = W0 at *
  have GW := Lib.hid hg0
  have G0 := Lib.hid (Grow.refl W0)
  clear hg0
  obtain ⟨k0_0, k0_1, k1_0, k1_1⟩ := HB.out _ G0.out
  go_wp2_with fail
  refine (HN0.out _ GW.out).mono ?_
  rintro e w1 ⟨v0, rfl, ⟨u0, t0, rfl, hu, ht⟩, g⟩
  obtain ⟨Au0, lu0, cu0, xu0, rfl, _⟩ := hu.open
  obtain ⟨At0, lt0, ct0, xt0, rfl, _⟩ := ht.open
  have V0 := Lib.hid (VarW.new (t := 28) hu ((Grow.refl _).alloc (Obj.cells #[.slice At0 lt0 ct0, .bool xt0] 31)))
  have hT := VarV.new (t := 31) (ht.grow ((Grow.refl w1).alloc (Obj.cells #[.slice Au0 lu0 cu0, .bool xu0] 28))) (Grow.refl _)
  rw [World.size_alloc] at hT
  have T0 := Lib.hid hT
  have hga := (g.alloc (Obj.cells #[.slice Au0 lu0 cu0, .bool xu0] 28)).alloc (Obj.cells #[.slice At0 lt0 ct0, .bool xt0] 31)
  have G0 := Lib.hid (G0.out.trans hga)
  have GW := Lib.hid (GW.out.trans hga)
  clear hu ht hT g hga HN0 k0_0 k0_1 k1_0 k1_1
  obtain ⟨k0_0, k0_1, k1_0, k1_1⟩ := HB.out _ G0.out
  go_wp2_with fail
  refine (HN1.out _ GW.out).mono ?_
  rintro e w2 ⟨v1, rfl, ⟨u1, t1, rfl, hu, ht⟩, g⟩
  obtain ⟨Au1, lu1, cu1, xu1, rfl, _⟩ := hu.open
  obtain ⟨At1, lt1, ct1, xt1, rfl, _⟩ := ht.open
  have V1 := Lib.hid (VarW.new (t := 28) hu ((Grow.refl _).alloc (Obj.cells #[.slice At1 lt1 ct1, .bool xt1] 31)))
  have hT := VarV.new (t := 31) (ht.grow ((Grow.refl w2).alloc (Obj.cells #[.slice Au1 lu1 cu1, .bool xu1] 28))) (Grow.refl _)
  rw [World.size_alloc] at hT
  have T1 := Lib.hid hT
  have hga := (g.alloc (Obj.cells #[.slice Au1 lu1 cu1, .bool xu1] 28)).alloc (Obj.cells #[.slice At1 lt1 ct1, .bool xt1] 31)
  have V0 := Lib.hid (V0.out.grow hga)
  have T0 := Lib.hid (T0.out.grow hga)
  have G0 := Lib.hid (G0.out.trans hga)
  have GW := Lib.hid (GW.out.trans hga)
  clear hu ht hT g hga HN1 k0_0 k0_1 k1_0 k1_1
  go_upto_region 3 with fail
  rename_i hK
  exact Rg.region_eq (by kernel_rfl) (Rg.sums3_region z0 z1 rfl rfl V0.out rfl V1.out rfl T0.out rfl T1.out fun a' w' hg ha h4 => hK a' w' (Rg.ret_slot (t := 4) Tryd.results3 ha.1 h4 (Ret.mk rfl (GW.out.trans hg))))
end Go.Proofs.YtjgceldghelpiaaDoor
