/- Plain mathematics of the reference's long division, digit by digit; of its search by halves. (Made ahead of stage 2; nothing uses it yet.) -/
import Derived.Test.YtpjmfbiihhbjhaaGreatDoorBRef
namespace Go.Proofs.YtpjmfbiihhbjhaaGreatDoor.Dx

/-- One digit more: the quotient so far gets a digit behind it, the rest is the new rest. -/
theorem div_step {b d v : Nat} (hb : 0 < b) (hd : d < B) :
    (d + B * v) / b = (d + B * (v % b)) / b + B * (v / b) ∧ (d + B * v) % b = (d + B * (v % b)) % b ∧ (d + B * (v % b)) / b < B := by
  have hv : v = v % b + b * (v / b) := (Nat.mod_add_div v b).symm
  have e : d + B * v = (d + B * (v % b)) + b * (B * (v / b)) := by
    rw [show B * v = B * (v % b) + B * (b * (v / b)) by rw [← Nat.mul_add, ← hv], Nat.mul_left_comm]
    omega
  refine ⟨?_, ?_, ?_⟩
  · rw [e, Nat.add_mul_div_left _ _ hb]
  · rw [e, Nat.add_mul_mod_self_left]
  · have hr : v % b < b := Nat.mod_lt _ hb
    rw [Nat.div_lt_iff_lt_mul hb]
    have : B * (v % b) + B ≤ B * b := by
      rw [← Nat.mul_succ]
      exact Nat.mul_le_mul_left _ hr
    omega

/-- The search by halves: the greatest digit whose product is no more than the rest. -/
theorem search_low {b r m : Nat} (hb : 0 < b) (h : b * m ≤ r) : m ≤ r / b := (Nat.le_div_iff_mul_le hb).2 (by rw [Nat.mul_comm]; exact h)
theorem search_high {b r m : Nat} (hb : 0 < b) (hm : 0 < m) (h : r < b * m) : r / b ≤ m - 1 := by
  have : r / b < m := (Nat.div_lt_iff_lt_mul hb).2 (by rw [Nat.mul_comm]; exact h)
  omega
theorem search_mid {low high : Nat} (h : low < high) : low < (low + high + 1) / 2 ∧ (low + high + 1) / 2 ≤ high := by omega
/-- What is left of the rest. -/
theorem rest_sub {b r : Nat} : r - b * (r / b) = r % b := by have := Nat.mod_add_div r b; omega
/-- The part of a number from digit i on. -/
theorem val_drop (l : List Nat) (i : Nat) (h : i < l.length) : val (l.drop i) = l.getD i 0 + B * val (l.drop (i + 1)) := by
  rw [List.drop_eq_getElem_cons h]
  simp [val, List.getD_eq_getElem?_getD, List.getElem?_eq_getElem h]
/-- The quotient's digits, from i on. -/
theorem quot_step {l q : List Nat} {b i : Nat} (hb : 0 < b) (hl : ∀ x ∈ l, x < B) (h : i < l.length) (hq : val q = val (l.drop (i + 1)) / b) :
    val ((l.getD i 0 + B * (val (l.drop (i + 1)) % b)) / b :: q) = val (l.drop i) / b ∧ (l.getD i 0 + B * (val (l.drop (i + 1)) % b)) % b = val (l.drop i) % b ∧ (l.getD i 0 + B * (val (l.drop (i + 1)) % b)) / b < B := by
  obtain ⟨e1, e2, e3⟩ := div_step (d := l.getD i 0) (v := val (l.drop (i + 1))) hb (getD_lt l hl i)
  rw [val_drop l i h]
  refine ⟨?_, e2.symm, e3⟩
  rw [e1, ← hq]
  rfl
end Go.Proofs.YtpjmfbiihhbjhaaGreatDoor.Dx
