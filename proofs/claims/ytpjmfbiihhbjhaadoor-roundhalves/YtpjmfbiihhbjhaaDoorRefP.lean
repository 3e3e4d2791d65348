/- The reference of layer 1: Print. -/
import Derived.Test.YtpjmfbiihhbjhaaDoorRefT
import Derived.Test.YtpjmfbiihhbjhaaDoorOneS
namespace Go.Proofs.YtpjmfbiihhbjhaaDoor
open Go.RowKit
set_option maxRecDepth 20000

/-- The digits of a number to the base 10000. -/
theorem dlimb_at (n : Nat) : ∀ i, (Dx.limbs n).getD i 0 = n / 10 ^ (4 * i) % 10000 := by
  intro i
  induction i generalizing n with
  | zero =>
    rcases Nat.eq_zero_or_pos n with rfl | h
    · rfl
    · rw [Dx.limbs_pos n (by omega)]
      simp [Dx.B_eq]
  | succ i ih =>
    rcases Nat.eq_zero_or_pos n with rfl | h
    · rw [Dx.limbs_zero]; simp
    · rw [Dx.limbs_pos n (by omega), List.getD_cons_succ, ih, Nat.div_div_eq_div_mul, Dx.B_eq]
      congr 2
      rw [Nat.mul_succ, Nat.pow_add, Nat.mul_comm]
theorem dnum_lt (n : Nat) : n < 10 ^ (4 * Dx.len n) := by
  have h := Dx.lt_pow_len n
  have e : Dx.B ^ Dx.len n = 10 ^ (4 * Dx.len n) := by rw [Nat.pow_mul]; rfl
  rwa [e] at h
theorem cat_str (c : UInt8) (l : List UInt8) : str [c] ++ str l = str (c :: l) := by
  apply ByteArray.ext
  simp [str]
theorem digit_of (x j : Nat) (hj : j < 4) : x % 10000 / 10 ^ j % 10 = x / 10 ^ j % 10 := by
  match j, hj with
  | 0, _ => simp
  | 1, _ => simp; omega
  | 2, _ => simp; omega
  | 3, _ => simp; omega

end Go.Proofs.YtpjmfbiihhbjhaaDoor
