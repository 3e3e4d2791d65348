/- Texts of whole numbers, and what is parsed of them. -/
import Derived.Test.YtjgceldghelpiaaDoorLaw4A
namespace Go.Proofs.YtjgceldghelpiaaDoor
open Go.RowKit
set_option maxRecDepth 20000

theorem minusB_cons (c : UInt8) (l : List UInt8) (h : c ≠ 45) : minusB (str (c :: l)) = false := by
  unfold minusB
  rw [Lib.toList_data]
  simp [str, h]
theorem minusB_nil : minusB (str []) = false := by
  unfold minusB
  rw [Lib.toList_data]
  simp [str]
theorem minusB_ok {l : List UInt8} (h : Tx.okText l) : minusB (str l) = false := by
  cases l with
  | nil => exact minusB_nil
  | cons c l =>
    refine minusB_cons c l ?_
    have := h.1 c (by simp)
    rintro rfl
    exact absurd this (by decide)
theorem cutTo_no {s : ByteArray} (hs : s.size ≤ 4611686018427387904) (h : minusB s = false) : CutTo s s false := fun W => cut_no W s hs h
theorem cutTo_yes (l : List UInt8) : CutTo (str (45 :: l)) (str l) true := fun W => cut_yes W l
theorem IsWE.weak {w : World} {v : Value} {z : Int} {k j : Nat} {e : Int} (h : IsWE w v z k e) (hk : k ≤ j) : IsWE w v z j e := by
  obtain ⟨u, hu, hw⟩ := h
  exact ⟨u, hu, hw.weak hk⟩

/-- What a whole number's text is parsed to. -/
theorem parse_ztext (W : World) (z : Int) (h : Mx.len z.natAbs ≤ 10) : Calls Tryd.prog 30 #[.string (str (ztext z))] W (Ret W fun v w' => IsWE w' v z 4096 0) := by
  have hsz : (str (Tx.text z.natAbs)).size ≤ 4096 := by
    rw [str_size, Tx.text_length]
    have := digs_lenW h
    omega
  have hrd : Tx.rd (bytesOf (str (Tx.text z.natAbs))) = z.natAbs := Tx.rd_text _
  by_cases hz : z < 0
  · have e : ztext z = 45 :: Tx.text z.natAbs := if_pos hz
    rw [e]
    refine (parseW_neg W _ _ (cutTo_yes _) hsz (Tx.ok_text _) (by rw [hrd]; omega)).mono fun _ _ r => r.mono fun v w' q => ?_
    rw [hrd, show signed z.natAbs true = z by simp only [signed, if_true]; omega] at q
    exact q.weak hsz
  · have e : ztext z = Tx.text z.natAbs := if_neg hz
    rw [e]
    refine (parseW_pos W _ _ (cutTo_no (by omega) (minusB_ok (Tx.ok_text _))) hsz (Tx.ok_text _)).mono fun _ _ r => r.mono fun v w' q => ?_
    rw [hrd, show signed z.natAbs false = z by simp only [signed]; simp; omega] at q
    exact q.weak hsz
/-- A text: no minus ahead. -/
theorem ztext_pos {l : List UInt8} (h : Tx.okText l) : ztext (signed (Tx.rd l) false) = l := by
  have e : ztext (signed (Tx.rd l) false) = Tx.text (Tx.rd l) := by
    unfold ztext signed
    simp
  rw [e, Tx.text_rd h]
theorem ztext_neg {l : List UInt8} (h : Tx.okText l) (h0 : Tx.rd l ≠ 0) : ztext (signed (Tx.rd l) true) = 45 :: l := by
  have e : ztext (signed (Tx.rd l) true) = 45 :: Tx.text (Tx.rd l) := by
    unfold ztext signed
    rw [if_pos (by simp only [if_true]; omega)]
    simp
  rw [e, Tx.text_rd h]
theorem ok_zero {l : List UInt8} (h : Tx.okText l) (h0 : Tx.rd l = 0) : l = [48] := by
  have := Tx.text_rd h
  rw [h0, Tx.text_zero] at this
  exact this.symm
end Go.Proofs.YtjgceldghelpiaaDoor
