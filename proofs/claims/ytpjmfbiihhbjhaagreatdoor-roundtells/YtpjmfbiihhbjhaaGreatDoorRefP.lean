/- The reference of layer 1: Print. -/
import Derived.Test.YtpjmfbiihhbjhaaGreatDoorRefT
import Derived.Test.YtpjmfbiihhbjhaaGreatDoorOneS
namespace Go.Proofs.YtpjmfbiihhbjhaaGreatDoor
open Go.RowKit
set_option maxRecDepth 20000

/-- The digits of a number to the base 10000. -/
theorem dlimb_at (n : Nat) : ∀ i, (Dx.limbs n).getD i 0 = n / 10 ^ (4 * i) % 10000 := by
  intro i
  induction i generalizing n with
  | zero =>
    rcases Nat.eq_zero_or_pos n with rfl | h
    · rfl
    · rw [Dx.limbs_pos n (by omega)]
      simp [Dx.B_eq]
  | succ i ih =>
    rcases Nat.eq_zero_or_pos n with rfl | h
    · rw [Dx.limbs_zero]; simp
    · rw [Dx.limbs_pos n (by omega), List.getD_cons_succ, ih, Nat.div_div_eq_div_mul, Dx.B_eq]
      congr 2
      rw [Nat.mul_succ, Nat.pow_add, Nat.mul_comm]
theorem dnum_lt (n : Nat) : n < 10 ^ (4 * Dx.len n) := by
  have h := Dx.lt_pow_len n
  have e : Dx.B ^ Dx.len n = 10 ^ (4 * Dx.len n) := by rw [Nat.pow_mul]; rfl
  rwa [e] at h
theorem cat_str (c : UInt8) (l : List UInt8) : str [c] ++ str l = str (c :: l) := by
  apply ByteArray.ext
  simp [str]
theorem digit_of (x j : Nat) (hj : j < 4) : x % 10000 / 10 ^ j % 10 = x / 10 ^ j % 10 := by
  match j, hj with
  | 0, _ => simp
  | 1, _ => simp; omega
  | 2, _ => simp; omega
  | 3, _ => simp; omega

set_option maxHeartbeats 2000000 in
theorem refPrint_any (w : World) (va : Value) (n k : Nat) (ha : IsD w va n k) (hk : k ≤ 1000000) :
    Calls Tryz.prog 42 #[va] w (Ret w fun v' _ => v' = .string (str (Tx.text n))) := by
  obtain ⟨A, c, rfl, hc, hl, hkn⟩ := ha
  by_cases h0 : n = 0
  · have hl0 : Dx.len n = 0 := by rw [h0]; rfl
    have HT : Hid (Tx.text n = [48]) := Lib.hid (by rw [h0]; exact Tx.text_zero)
    rw [hl0]
    clear h0 hl0 hl hc hkn
    go_enter Tryz.func42, Tryz.ntmps42
    go_wp2_with fail
    go_ret
    exact Ret.mk (by rw [HT.out]; rfl) (Grow.refl _)
  have hlp : 0 < Dx.len n := by
    rcases Nat.eq_zero_or_pos (Dx.len n) with h | h
    · exact absurd (Dx.eq_zero_of_len h) h0
    · exact h
  have HTR : Hid ((Tx.dgt (4 * Dx.len n) n).dropWhile (· == 48) = Tx.text n) := Lib.hid (Tx.trim_dgt (dnum_lt n) h0)
  have hlp' : ¬ (Dx.len n : Int) = 0 := by omega
  have hb0 : ((Dx.len n : Int) == 0) = false := beq_eq_false_iff_ne.2 hlp'
  clear h0 hlp'
  have HCL := Lib.hid hl
  clear hl
  go_enter Tryz.func42, Tryz.ntmps42
  go_wp2_with fail
  go_loopw [3, 4] (fun sv iv wr => ∃ i : Nat, i ≤ Dx.len n ∧ iv = .int .i64 (i : Int) ∧ sv = .string (str (Tx.dgt (4 * i) n)) ∧ Grow w wr) (fun _ iv _ => Dx.len n - (intOf iv).toNat)
  case atStart => exact ⟨0, Nat.zero_le _, rfl, rfl, Grow.refl _⟩
  case round =>
    obtain ⟨i, hi, rfl, rfl, hg⟩ := hrel
    by_cases hlt : i < Dx.len n
    · obtain ⟨bk, o, rfl, hbk, hcell⟩ := (HCL.out.grow hg).at (Dx.limbs_ne hlp)
      have hcx := hcell i hlt
      have hdl := dlimb_at n i
      have HDL := Lib.hid hdl
      clear hdl hcell
      generalize (Dx.limbs n).getD i 0 = d0 at *
      have hd0 : d0 < 10000 := by rw [HDL.out]; omega
      go_wp2_with fail
      go_loopw [3, 5, 6] (fun sv dv kv wq => ∃ j : Nat, j ≤ 4 ∧ kv = .int .i64 (j : Int) ∧ dv = .int .i64 ((d0 / 10 ^ j : Nat) : Int) ∧ sv = .string (str (Tx.dgt (4 * i + j) n)) ∧ Grow w wq) (fun _ _ kv _ => 4 - (intOf kv).toNat)
      case atStart => exact ⟨0, by omega, rfl, by simp, rfl, hg⟩
      case round =>
        obtain ⟨j, hj, rfl, rfl, rfl, hq⟩ := hrel
        clear hcx hbk
        by_cases hj4 : j < 4
        · have hj' : (j : Int) < 4 := by omega
          obtain ⟨cc, hcc⟩ : ∃ cc : UInt8, cc = UInt8.ofNat (48 + d0 / 10 ^ j % 10) := ⟨_, rfl⟩
          have hct : cc.toNat = 48 + d0 / 10 ^ j % 10 := by rw [hcc, Tx.digit_toNat]
          have hnext : cc :: Tx.dgt (4 * i + j) n = Tx.dgt (4 * i + (j + 1)) n := by
            have e : d0 / 10 ^ j % 10 = n / 10 ^ (4 * i + j) % 10 := by
              rw [HDL.out, digit_of _ _ hj4, Nat.div_div_eq_div_mul, ← Nat.pow_add]
            rw [hcc, e, dgt_step]
            rfl
          have hdn : d0 / 10 ^ (j + 1) = d0 / 10 ^ j / 10 := by rw [Nat.pow_succ, Nat.div_div_eq_div_mul]
          have hle : d0 / 10 ^ j ≤ d0 := Nat.div_le_self _ _
          have hcat := cat_str cc (Tx.dgt (4 * i + j) n)
          have hs0 : (str (Tx.dgt (4 * i + j) n)).size ≤ 4000004 := by rw [str_size, Tx.dgt_length]; omega
          rw [hnext] at hcat
          have HDN := Lib.hid hdn
          clear hnext hdn hcc
          generalize str (Tx.dgt (4 * i + j) n) = s0 at *
          generalize hs1 : str (Tx.dgt (4 * i + (j + 1)) n) = s1 at *
          have HS1 := Lib.hid hs1
          clear hs1
          generalize d0 / 10 ^ j = x at *
          have h48 : 48 + (x : Int) % 10 = (cc.toNat : Int) := by omega
          have h256 : (cc.toNat : Int) % 256 = (cc.toNat : Int) := by omega
          clear hct
          have hcv := one_string wr cc wr.heap.size rfl
          go_wp2_with fail
          refine ⟨⟨j + 1, by omega, by go_num, ?_, by rw [HS1.out], hq.alloc _⟩, by simp [intOf]; omega⟩
          rw [HDN.out]
          congr 1
        · have he : j = 4 := by omega
          subst he
          have hlt' : (i : Int) < (Dx.len n : Int) := by omega
          go_wp2_with fail
          go_roundw
          case rel => exact ⟨i + 1, by omega, by go_num, by rw [Nat.mul_succ], hq⟩
          case measure => simp [intOf]; omega
    · have he : i = Dx.len n := by omega
      subst he
      have hlt' : ¬ (Dx.len n : Int) < (Dx.len n : Int) := by omega
      obtain ⟨l, hld⟩ : ∃ l, Tx.dgt (4 * Dx.len n) n = l := ⟨_, rfl⟩
      rw [hld] at HTR ⊢
      have hll : l.length ≤ 4000000 := by rw [← hld, Tx.dgt_length]; omega
      clear hld HCL
      have hsz : (str l).size = l.length := str_size l
      have hby : bytesOf (str l) = l := rfl
      generalize str l = sl at *
      have HBY := Lib.hid hby
      clear hby
      go_wp2_with fail
      go_loop [7] (fun iv => ∃ i : Nat, i ≤ l.length ∧ iv = .int .i64 (i : Int) ∧ ∀ (q : Nat) b, q < i → l[q]? = some b → b = 48) (fun iv => l.length - (intOf iv).toNat)
      case atStart => exact ⟨0, Nat.zero_le _, rfl, fun q b hq => absurd hq (Nat.not_lt_zero _)⟩
      case round =>
        obtain ⟨i, hi, rfl, hz⟩ := hrel
        have hil : i < l.length := by
          rcases Nat.lt_or_ge i l.length with h | h
          · exact h
          · have e := Lib.trimLeftB_drop l 48 i hi hz (fun b hb => by rw [List.getElem?_eq_none h] at hb; cases hb)
            have e2 : Tx.text n = l.drop i := by rw [← HTR.out]; exact e
            rw [List.drop_of_length_le h] at e2
            exact absurd e2 (Tx.text_ne_nil n)
        have hi2 : i < sl.size := by omega
        have hat := byte_at sl i hi2
        rw [HBY.out] at hat
        have HZ := Lib.hid hz
        have hk48 : (48 : UInt8).toNat = 48 := rfl
        clear hz
        have hil' : (i : Int) < (sl.size : Int) := by omega
        by_cases h48 : (sl[i]'hi2) = 48
        · have h48' : ((sl[i]'hi2).toNat : Int) = 48 := by rw [h48]; rfl
          have HA := Lib.hid (And.intro hat h48)
          clear hat h48
          go_wp2_with fail
          refine ⟨⟨i + 1, by omega, by go_num, fun q b hq hb => ?_⟩, by simp [intOf]; omega⟩
          by_cases e : q = i
          · subst e
            rw [HA.out.1] at hb
            injection hb with hb
            rw [← hb]
            exact HA.out.2
          · exact HZ.out q b (by omega) hb
        · have h48' : ¬ ((sl[i]'hi2).toNat : Int) = 48 := fun e => h48 (UInt8.toNat_inj.1 (by omega))
          have HE : Hid (str (Tx.text n) = sl.extract i l.length) := Lib.hid (by
            have e := Lib.trimLeftB_drop l 48 i hi HZ.out (fun b hb => by
              rw [hat] at hb
              injection hb with hb
              rw [← hb]
              exact h48)
            have e2 : Tx.text n = l.drop i := by rw [← HTR.out]; exact e
            rw [e2, Lib.extract_eq]
            show str (l.drop i) = str (((bytesOf sl).drop i).take (l.length - i))
            rw [HBY.out, List.take_of_length_le (by simp)])
          clear h48 hat
          go_wp2_with fail
          go_ret
          exact Ret.mk (by rw [HE.out]; rfl) hg
end Go.Proofs.YtpjmfbiihhbjhaaGreatDoor
