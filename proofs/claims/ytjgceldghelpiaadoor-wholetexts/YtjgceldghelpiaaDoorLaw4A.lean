/- What the laws of layer 4 share: wakes. -/
import Derived.Test.YtjgceldghelpiaaDoorLaw4N
namespace Go.Proofs.YtjgceldghelpiaaDoor
open Go.RowKit
set_option maxRecDepth 20000

theorem text_dig (c : UInt8) (h : Tx.isDig c) (h0 : c ≠ 48) : Tx.text (Tx.rd [c]) = [c] :=
  Tx.text_rd ⟨fun b hb => by rw [List.mem_singleton] at hb; rw [hb]; exact h, .inr ⟨by simp, by simpa using h0⟩⟩
theorem ztext_m4 : str (ztext (-4)) = ⟨#[45, 52]⟩ := by
  have h : Tx.text 4 = [52] := text_dig 52 (by decide) (by decide)
  have e : ztext (-4) = 45 :: Tx.text 4 := rfl
  rw [e, h]
theorem ztext_1 : str (ztext 1) = ⟨#[49]⟩ := by
  have h : Tx.text 1 = [49] := text_dig 49 (by decide) (by decide)
  have e : ztext 1 = Tx.text 1 := rfl
  rw [e, h]
theorem ok_nought : Tx.okText [48] := ⟨by decide, .inl rfl⟩

set_option maxHeartbeats 2000000 in
theorem wakes4_any (w : World) : Calls Tryd.prog 9 #[] w (Ret w fun v' _ => v' = .bool true) := by
  have HF1 := Lib.hid (fun W => from_w W (-7) (by decide) (by decide))
  have HF2 := Lib.hid (fun W => from_w W 2 (by decide) (by decide))
  have HF3 := Lib.hid (fun W => from_w W 1 (by decide) (by decide))
  have HF4 := Lib.hid (fun W => from_w W (-9223372036854775808) (by decide) (by decide))
  have HF5 := Lib.hid (fun W => from_w W 5 (by decide) (by decide))
  have HF6 := Lib.hid (fun W => from_w W (-6) (by decide) (by decide))
  have HFL := Lib.hid (fun W u v (h : IsW W u (-7) 1) (h' : IsW W v 2 1) => floor_w h h' (by decide) (by decide) (by decide))
  rw [show zdiv (-7) 2 = -4 by decide, show zmod (-7) 2 = 1 by decide] at HFL
  have HFZ := Lib.hid (fun W u v (h : IsW W u 1 1) (h' : IsW W v 0 0) => floor_zero h h')
  have HZ := Lib.hid (fun W => (⟨none, 0, 0, rfl, IsN.zero W⟩ : IsW W (.agg #[.slice none 0 0, .bool false]) 0 0))
  have HI := Lib.hid (fun W u (h : IsW W u (-9223372036854775808) 1) => int_ok h (by decide) (by decide))
  have HP := Lib.hid (fun W => parseW_zero W (str [45, 48]) (str [48]) (fun W => cut_yes W [48]) (by decide) ok_nought (by decide) 0)
  have HC := Lib.hid (fun W u v (h : IsW W u 5 1) (h' : IsW W v (-6) 1) => cmp_w h h' (by decide) (by decide))
  rw [show Int.sign (5 - -6) = 1 by decide] at HC
  have HT4 := Lib.hid (fun W v (h : IsW W v (-4) 2) => print_w h (by decide))
  have HT1 := Lib.hid (fun W v (h : IsW W v 1 2) => print_w h (by decide))
  rw [ztext_m4] at HT4
  rw [ztext_1] at HT1
  change Hid (∀ W, Calls Tryd.prog 30 #[.string ⟨#[45, 48]⟩] W _) at HP
  go_enter Tryd.func9, Tryd.ntmps9
  go_wp2_with fail
  refine (HF1.out _).mono ?_
  rintro e w1 ⟨v1, rfl, h1, g1⟩
  go_wp2_with fail
  refine (HF2.out _).mono ?_
  rintro e w2 ⟨v2, rfl, h2, g2⟩
  have H12 := Lib.hid (And.intro (h1.grow g2) h2)
  have G2 := Lib.hid (g1.trans g2)
  clear h1 g1 h2 g2 HF1 HF2
  go_wp2_with fail
  refine (HFL.out _ _ _ H12.out.1 H12.out.2).mono ?_
  rintro e w3 ⟨v3, rfl, ⟨q3, r3, rfl, hq, hr⟩, g3⟩
  obtain ⟨A1, l1, c1, x1, rfl, _⟩ := hq.open
  obtain ⟨A2, l2, c2, x2, rfl, _⟩ := hr.open
  have hga := ((Grow.refl w3).alloc (Obj.cells #[.slice A1 l1 c1, .bool x1] 28)).alloc (Obj.cells #[.slice A2 l2 c2, .bool x2] 28)
  have V1 := Lib.hid (VarW.new (t := 28) hq ((Grow.refl _).alloc (Obj.cells #[.slice A2 l2 c2, .bool x2] 28)))
  have hv2 := VarW.new (t := 28) (hr.grow ((Grow.refl w3).alloc (Obj.cells #[.slice A1 l1 c1, .bool x1] 28))) (Grow.refl _)
  rw [World.size_alloc] at hv2
  have V2 := Lib.hid hv2
  have G3 := Lib.hid ((G2.out.trans g3).trans hga)
  clear hq hr g3 hga G2 H12 HFL hv2
  go_wp2_with fail
  refine (HF3.out _).mono ?_
  rintro e w4 ⟨v4, rfl, h4, g4⟩
  have H4 := Lib.hid h4
  have V1 := Lib.hid (V1.out.grow g4)
  have V2 := Lib.hid (V2.out.grow g4)
  have G4 := Lib.hid (G3.out.trans g4)
  clear h4 g4 G3 HF3
  go_wp2_with fail
  refine (HFZ.out _ _ _ H4.out (HZ.out _)).mono ?_
  rintro e w5 ⟨v5, rfl, rfl, g5⟩
  have hga := (g5.alloc (Obj.cells #[.slice none 0 0, .bool false] 28)).alloc (Obj.cells #[.slice none 0 0, .bool false] 28)
  have V1 := Lib.hid (V1.out.grow hga)
  have V2 := Lib.hid (V2.out.grow hga)
  have G5 := Lib.hid (G4.out.trans hga)
  clear hga g5 G4 H4 HFZ HZ
  go_wp2_with fail
  refine (HF4.out _).mono ?_
  rintro e w6 ⟨v6, rfl, h6, g6⟩
  have H6 := Lib.hid h6
  have V1 := Lib.hid (V1.out.grow g6)
  have V2 := Lib.hid (V2.out.grow g6)
  have G6 := Lib.hid (G5.out.trans g6)
  clear h6 g6 G5 HF4
  go_wp2_with fail
  refine (HI.out _ _ H6.out).mono ?_
  rintro e w7 ⟨v7, rfl, rfl, g7⟩
  have V1 := Lib.hid (V1.out.grow g7)
  have V2 := Lib.hid (V2.out.grow g7)
  have G7 := Lib.hid (G6.out.trans g7)
  clear g7 G6 HI H6
  go_wp2_with fail
  refine (HP.out _).mono ?_
  rintro e w8 ⟨v8, rfl, ⟨u8, rfl, h8⟩, g8⟩
  obtain ⟨A8, l8, c8, x8, rfl, _⟩ := h8.open
  have hga := g8.alloc (Obj.cells #[.slice A8 l8 c8, .bool x8] 28)
  have V1 := Lib.hid (V1.out.grow hga)
  have V2 := Lib.hid (V2.out.grow hga)
  have G8 := Lib.hid (G7.out.trans hga)
  clear hga g8 h8 G7 HP
  obtain ⟨B1, m1, d1, y1, k0, k1, hW⟩ := V1.out
  have HW := Lib.hid hW
  clear hW
  go_wp2_with fail
  refine (HT4.out _ _ HW.out).mono ?_
  rintro e w9 ⟨v9, rfl, rfl, g9⟩
  have V2 := Lib.hid (V2.out.grow g9)
  have G9 := Lib.hid (G8.out.trans g9)
  clear k0 k1 HW V1 g9 G8 HT4
  obtain ⟨B1, m1, d1, y1, k0, k1, hW⟩ := V2.out
  have HW := Lib.hid hW
  clear hW
  go_wp2_with fail
  refine (HT1.out _ _ HW.out).mono ?_
  rintro e w10 ⟨v10, rfl, rfl, g10⟩
  have G10 := Lib.hid (G9.out.trans g10)
  clear k0 k1 HW V2 g10 G9 HT1
  go_wp2_with fail
  refine (HF5.out _).mono ?_
  rintro e w11 ⟨v11, rfl, h11, g11⟩
  go_wp2_with fail
  refine (HF6.out _).mono ?_
  rintro e w12 ⟨v12, rfl, h12, g12⟩
  have H12 := Lib.hid (And.intro (h11.grow g12) h12)
  have G12 := Lib.hid (G10.out.trans (g11.trans g12))
  clear h11 g11 h12 g12 G10 HF5 HF6
  go_wp2_with fail
  refine (HC.out _ _ _ H12.out.1 H12.out.2).mono ?_
  rintro e w13 ⟨v13, rfl, rfl, g13⟩
  have G13 := Lib.hid (G12.out.trans g13)
  clear g13 H12 G12 HC
  go_wp2_with fail
  go_ret
  exact Ret.mk rfl G13.out
theorem Rg.en_wakes4 : Enters Tryd.prog 9 := enters_of Tryd.func9 (by kernel_rfl) rfl
theorem Rg.callWakes4 {ops : Array Oper} {Q : Exit → Act → World → Prop} {F : Rg.Facts} {a0 : Act} {w0 : World} {i d : Nat} {ts : Array TypeId} (hF : ∀ w v, v = .bool true → F d w v) : Rg.Owes Tryd.prog ops Q F a0 w0 i (some d) (.call { callee := .value (.func 9), args := #[], argTypes := ts }) :=
  fun _ _ w ho hd _ _ _ => Rg.call0 ho Rg.en_wakes4 hd (wakes4_any w) fun _ _ ⟨v, e, h, g⟩ => ⟨v, e, hF _ _ h, g⟩
end Go.Proofs.YtjgceldghelpiaaDoor
