/- The law DigitsLong of layer 3. -/
import Derived.Test.YtckcjiojfpaikaaDoorL3Rep
namespace Go.Proofs.YtckcjiojfpaikaaDoor
open Go.RowKit
set_option maxRecDepth 20000

set_option maxHeartbeats 2000000 in
theorem digitsLong_walk (w : World) (n f : Nat) (hn : n < 65536) (hf : f < 256) :
    Calls Tryd.prog 6 #[.int .u16 (n : Int), .int .u8 (f : Int)] w (Ret w fun v' _ => v' = .bool true) := by
  obtain ⟨k, hk⟩ : ∃ k, n % 5000 = k := ⟨_, rfl⟩
  have hnk : (n : Int) % 5000 = (k : Int) := by omega
  have hk5 : k < 5000 := by omega
  obtain ⟨c, hc⟩ : ∃ c : UInt8, c.toNat = 49 + f % 9 := ⟨UInt8.ofNat (49 + f % 9), by rw [UInt8.toNat_ofNat']; omega⟩
  have hfc : 49 + (f : Int) % 9 = (c.toNat : Int) := by omega
  have HD : Hid (Tx.isDig c ∧ c ≠ 48) := Lib.hid ⟨⟨by omega, by omega⟩, fun e => by rw [e] at hc; have : (48 : UInt8).toNat = 48 := rfl; omega⟩
  clear hk hc
  have HCV := Lib.hid (fun W g hg => one_string W c g hg)
  have HRP := Lib.hid (fun W => repeat_any W c k (by omega))
  go_enter Tryd.func6, Tryd.ntmps6
  have hcv := HCV.out w w.heap.size rfl
  go_wp2_with fail
  refine (HRP.out _).mono ?_
  rintro e w1 ⟨v1, rfl, rfl, g1⟩
  have GW := Lib.hid (((Grow.refl w).alloc _).trans g1)
  clear g1 HRP hcv HCV
  obtain ⟨l, hl⟩ : ∃ l, List.replicate k c = l := ⟨_, rfl⟩
  have hlen : l.length = k := by rw [← hl, List.length_replicate]
  have HOK : Hid (k ≠ 0 → Tx.okText l) := Lib.hid fun h => hl ▸ ok_many k h HD.out.1 HD.out.2
  rw [hl]
  clear hl
  have hsz : (str l).size = k := by rw [str_size, hlen]
  have hby : bytesOf (str l) = l := rfl
  by_cases h1 : 4096 < k
  · have HP := Lib.hid (fun W => parse_long W (str l) (by omega) (by omega))
    have h1' : (4096 : Int) < (k : Int) := by omega
    generalize str l = sv at *
    go_wp2_with fail
    refine (HP.out _).mono ?_
    rintro e w2 ⟨v2, rfl, rfl, g2⟩
    have GW := Lib.hid ((GW.out.trans g2).alloc (Obj.cells #[Value.slice none 0 0] 24))
    clear g2 HP
    go_wp2_with fail
    refine (wakes3_any _).mono ?_
    rintro e w3 ⟨v3, rfl, rfl, g3⟩
    have k2 := g3.new.1
    have GW := Lib.hid (GW.out.trans g3)
    clear g3
    go_wp2_with fail
    refine (zero_n (IsN.zero _)).mono ?_
    rintro e w4 ⟨v4, rfl, rfl, g4⟩
    have GW := Lib.hid (GW.out.trans g4)
    clear g4
    go_wp2_with fail
    go_ret
    exact Ret.mk rfl GW.out
  · have h1' : ¬ (4096 : Int) < (k : Int) := by omega
    by_cases h0 : k = 0
    · have h0' : (k : Int) = 0 := by omega
      have h0b : ((k : Int) == 0) = true := by simp; omega
      have HP := Lib.hid (fun W => parse_bad W (str l) (by omega) (by
        rw [hby]
        have e : l = [] := List.length_eq_zero_iff.1 (by omega)
        rw [e]
        rintro ⟨_, h | ⟨h, _⟩⟩
        · cases h
        · exact h rfl))
      clear h0 hlen hsz hby HOK
      generalize str l = sv at *
      generalize (k : Int) = ki at *
      go_wp2_with fail
      refine (HP.out _).mono ?_
      rintro e w2 ⟨v2, rfl, rfl, g2⟩
      have GW := Lib.hid ((GW.out.trans g2).alloc (Obj.cells #[Value.slice none 0 0] 24))
      clear g2 HP
      go_wp2_with fail
      refine (wakes3_any _).mono ?_
      rintro e w3 ⟨v3, rfl, rfl, g3⟩
      have GW := Lib.hid (GW.out.trans g3)
      clear g3
      go_wp2_with fail
      go_ret
      exact Ret.mk rfl GW.out
    · have h0' : ¬ (k : Int) = 0 := by omega
      have hok := HOK.out h0
      have HP := Lib.hid (fun W => parse_ok W (str l) (by omega) (by rw [hby]; exact hok))
      have HX : Hid (str (Tx.text (Tx.rd (bytesOf (str l)))) = str l ∧ Tx.digs (Tx.rd (bytesOf (str l))) = k) := Lib.hid (by
        rw [hby]
        exact ⟨by rw [Tx.text_rd hok], by rw [Tx.digs_rd hok, hlen]⟩)
      clear hok HOK hby hlen h0
      generalize str l = sv at *
      go_wp2_with fail
      refine (HP.out _).mono ?_
      rintro e w2 ⟨v2, rfl, ⟨u2, rfl, h2⟩, g2⟩
      obtain ⟨x, hx⟩ : ∃ x, Tx.rd (bytesOf sv) = x := ⟨_, rfl⟩
      rw [hx] at HX h2
      clear hx
      rw [hsz] at h2
      obtain ⟨A2, l2, c2, rfl⟩ := h2.cell
      have GW := Lib.hid ((GW.out.trans g2).alloc (Obj.cells #[Value.slice A2 l2 c2] 24))
      have V2 := Lib.hid (VarN.new h2 (Grow.refl _))
      clear g2 HP h2
      go_wp2_with fail
      refine (wakes3_any _).mono ?_
      rintro e w3 ⟨v3, rfl, rfl, g3⟩
      have GW := Lib.hid (GW.out.trans g3)
      have V2 := Lib.hid (V2.out.grow g3)
      clear g3
      obtain ⟨AX, lX, cX, hX, nX⟩ := V2.out
      have NX := Lib.hid nX
      clear nX
      go_wp2_with fail
      refine (length_any _ _ x k NX.out (by omega)).mono ?_
      rintro e w4 ⟨v4, rfl, rfl, g4⟩
      have GW := Lib.hid (GW.out.trans g4)
      have V2 := Lib.hid (V2.out.grow g4)
      clear g4 hX NX
      rw [HX.out.2]
      obtain ⟨AX, lX, cX, hX, nX⟩ := V2.out
      have NX := Lib.hid nX
      clear nX
      go_wp2_with fail
      refine (print_any _ _ x k NX.out (by omega)).mono ?_
      rintro e w5 ⟨v5, rfl, rfl, g5⟩
      have GW := Lib.hid (GW.out.trans g5)
      clear g5 hX NX V2
      rw [HX.out.1]
      go_wp2_with fail
      go_ret
      exact Ret.mk rfl GW.out
end Go.Proofs.YtckcjiojfpaikaaDoor
