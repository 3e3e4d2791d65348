/- The law DigitsPrint of layer 3. -/
import Derived.Test.YtckcjiojfpaikaaDoorRefP
namespace Go.Proofs.YtckcjiojfpaikaaDoor
open Go.RowKit
set_option maxRecDepth 20000

set_option maxHeartbeats 2000000 in
theorem digitsPrint_walk (w : World) (v : Value) (l : List Nat) (h : Sl w v l) :
    Calls Tryd.prog 3 #[v] w (Ret w fun v' _ => v' = .bool true) := by
  obtain ⟨A, c, rfl, hc, hlb, hcl⟩ := h
  have hlen : (min ((l.length : Nat) : Int) 12).toNat = (l.take 12).length := by rw [List.length_take]; omega
  have HSL : Hid (∀ W, Grow w W → Sl W (.slice A (min 12 l.length) c) (l.take 12)) := Lib.hid fun W g => ⟨A, c, by rw [List.length_take], by rw [List.length_take]; omega, fun x hx => hlb x (List.mem_of_mem_take hx), (hcl.take 12).grow g⟩
  have HLT : Hid ((l.take 12).length ≤ 12) := Lib.hid (by rw [List.length_take]; omega)
  clear hlb hcl
  go_enter Tryd.func3, Tryd.ntmps3
  go_wp2_with fail
  refine (of_n 12 (HSL.out _ (Grow.refl w)) HLT.out (by omega)).mono ?_
  rintro e w1 ⟨v1, rfl, h1, g1⟩
  obtain ⟨n, hn⟩ : ∃ n, Mx.val (l.take 12) = n := ⟨_, rfl⟩
  rw [hn] at h1
  have HN := Lib.hid hn
  clear hn
  obtain ⟨A1, l1, c1, rfl⟩ := h1.cell
  have VN := Lib.hid (VarN.new h1 (Grow.refl _))
  have GW := Lib.hid (g1.alloc (Obj.cells #[Value.slice A1 l1 c1] 24))
  clear g1 hlen
  go_wp2_with fail
  refine (print_any _ _ n 12 (h1.grow ((Grow.refl _).alloc _)) (by omega)).mono ?_
  rintro e w2 ⟨v2, rfl, rfl, g2⟩
  have HX : Hid ((str (Tx.text n)).size = Tx.digs n ∧ (str (Tx.text n)).size ≤ 4096 ∧ Tx.okText (bytesOf (str (Tx.text n))) ∧ Tx.rd (bytesOf (str (Tx.text n))) = n) := Lib.hid (by
    have hd := digs_len h1.2
    rw [str_size, Tx.text_length]
    exact ⟨rfl, by omega, Tx.ok_text n, Tx.rd_text n⟩)
  have VN := Lib.hid (VN.out.grow g2)
  have GW := Lib.hid (GW.out.trans g2)
  have HRP := Lib.hid (fun W va k (h : IsD W va n k) (hk : k ≤ 1000000) => refPrint_any W va n k h hk)
  clear g2 h1
  generalize str (Tx.text n) = s at *
  go_wp2_with fail
  refine (parse_ok _ s HX.out.2.1 HX.out.2.2.1).mono ?_
  rintro e w3 ⟨v3, rfl, ⟨u3, rfl, h3⟩, g3⟩
  rw [HX.out.2.2.2] at h3
  obtain ⟨A3, l3, c3, rfl⟩ := h3.cell
  have gg := g3.alloc (Obj.cells #[Value.slice A3 l3 c3] 24)
  have VN := Lib.hid (VN.out.grow gg)
  have VM := Lib.hid (VarN.new h3 (Grow.refl _))
  have GW := Lib.hid (GW.out.trans gg)
  clear gg g3 h3
  go_wp2_with fail
  refine (wakes3_any _).mono ?_
  rintro e w4 ⟨v4, rfl, rfl, g4⟩
  have VN := Lib.hid (VN.out.grow g4)
  have VM := Lib.hid (VM.out.grow g4)
  have GW := Lib.hid (GW.out.trans g4)
  clear g4
  go_wp2_with fail
  refine (refOf_any _ _ (l.take 12) (by have := HLT.out; omega) (HSL.out _ GW.out)).mono ?_
  rw [HN.out]
  rintro e w5 ⟨v5, rfl, h5, g5⟩
  have VN := Lib.hid (VN.out.grow g5)
  have VM := Lib.hid (VM.out.grow g5)
  have GW := Lib.hid (GW.out.trans g5)
  clear g5
  go_wp2_with fail
  refine (HRP.out _ _ _ h5 (by have := HLT.out; omega)).mono ?_
  rintro e w6 ⟨v6, rfl, rfl, g6⟩
  have VN := Lib.hid (VN.out.grow g6)
  have VM := Lib.hid (VM.out.grow g6)
  have GW := Lib.hid (GW.out.trans g6)
  clear g6 h5 HRP
  obtain ⟨AX, lX, cX, hX, nX⟩ := VN.out
  have NX := Lib.hid nX
  clear nX
  go_wp2_with fail
  refine (length_any _ _ n 12 NX.out (by omega)).mono ?_
  rintro e w7 ⟨v7, rfl, rfl, g7⟩
  have VN := Lib.hid (VN.out.grow g7)
  have VM := Lib.hid (VM.out.grow g7)
  have GW := Lib.hid (GW.out.trans g7)
  clear g7 hX NX
  rw [← HX.out.1]
  obtain ⟨AX, lX, cX, hX, nX⟩ := VN.out
  obtain ⟨AM, lM, cM, hM, nM⟩ := VM.out
  have NX := Lib.hid (And.intro nX nM)
  clear nX nM
  have hs4 := HX.out.2.1
  go_wp2_with fail
  refine (cmp_n0 NX.out.2 NX.out.1 (by omega) rfl).mono ?_
  rintro e w8 ⟨v8, rfl, rfl, g8⟩
  have GW := Lib.hid (GW.out.trans g8)
  clear g8 NX hX hM
  go_wp2_with fail
  go_ret
  exact Ret.mk rfl GW.out
end Go.Proofs.YtckcjiojfpaikaaDoor
