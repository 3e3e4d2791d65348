/- Plain mathematics of RoundHalves: a fraction that isn't in lowest terms is rounded alike; halves, and what lies beside them. -/
import Derived.Test.YtpjmfbiihhbjhaaDoorRdB
namespace Go.Proofs.YtpjmfbiihhbjhaaDoor
open Go.RowKit
theorem rndN_scale {m : Int} {g n d : Nat} (hg : 0 < g) : rndN m (g * n) (g * d) = rndN m n d := by
  have e1 : g * n / (g * d) = n / d := Nat.mul_div_mul_left _ _ hg
  have e2 : g * n % (g * d) = g * (n % d) := Nat.mul_mod_mul_left _ _ _
  have h0 : (g * (n % d) ≠ 0) ↔ (n % d ≠ 0) := by
    rw [Ne, Nat.mul_eq_zero]
    omega
  have h1 : (g * (n % d) + g * (n % d) = g * d) ↔ (n % d + n % d = d) := by
    rw [← Nat.mul_add]
    exact Nat.mul_right_inj (by omega)
  have h2 : (g * d < g * (n % d) + g * (n % d)) ↔ (d < n % d + n % d) := by
    rw [← Nat.mul_add]
    exact Nat.mul_lt_mul_left hg
  have hu : upB m (g * n) (g * d) = upB m n d := by
    unfold upB raisesB
    rw [e1, e2]
    simp only [h0, h1, h2]
  unfold rndN
  rw [hu, e1]
theorem rndQ_mk {m : Int} {z : Int} {d : Nat} (hd : d ≠ 0) : rndQ m (mkRat z d) = signed (rndN m z.natAbs d) (decide (z < 0)) := by
  obtain ⟨h1, h2⟩ := rat_num_of hd (mkRat z d) rfl
  have hg : 0 < z.natAbs.gcd d := Nat.gcd_pos_of_pos_right _ (by omega)
  obtain ⟨c, hc⟩ := Nat.gcd_dvd_left z.natAbs d
  obtain ⟨e, he⟩ := Nat.gcd_dvd_right z.natAbs d
  generalize z.natAbs.gcd d = g at *
  have e2 : (mkRat z d).den = e := by rw [h2, he, Nat.mul_div_cancel_left _ hg]
  have hz : z = (g : Int) * (if z < 0 then -(c : Int) else (c : Int)) := by
    have : (z.natAbs : Int) = (g : Int) * (c : Int) := by rw [hc]; simp
    split
    · rw [Int.mul_neg, ← this]; omega
    · rw [← this]; omega
  have e1 : (mkRat z d).num = if z < 0 then -(c : Int) else (c : Int) := by
    rw [h1]
    conv => lhs; lhs; rw [hz]
    rw [Int.mul_ediv_cancel_left _ (by omega)]
  have hs : decide ((mkRat z d).num < 0) = decide (z < 0) := by
    refine decide_eq_decide.2 ?_
    rw [e1]
    by_cases h : z < 0
    · have hc0 : c ≠ 0 := fun h0 => by rw [h0, Nat.mul_zero] at hc; omega
      rw [if_pos h]
      exact iff_of_true (by omega) h
    · rw [if_neg h]
      exact iff_of_false (by omega) h
  have ha : (mkRat z d).num.natAbs = c := by
    rw [e1]
    split <;> simp
  rw [rndQ, hs, ha, e2]
  rw [hc]
  conv => rhs; rw [he, rndN_scale hg]
/-- Nearly K and a half, just that, hardly more: of 4 E. -/
def tp (K E i : Nat) : Nat := K * (4 * E) + 2 * E + i - 1
def tq (K E i : Nat) (b : Bool) : Rat := ((signed (tp K E i) b : Int) : Rat) / ((signed (4 * E) false : Int) : Rat)
def upH (i m K : Nat) : Bool := decide (m = 1) || (decide (m ≠ 0) && decide (i = 2)) || (decide (i = 1) && (decide (m = 2) || (decide (m = 4) && decide (K % 2 ≠ 0))))
def wN (i m K : Nat) : Nat := if upH i m K = true then K + 1 else K
theorem wN_up {i m K : Nat} (h : upH i m K = true) : wN i m K = K + 1 := by rw [wN, if_pos h]
theorem wN_no {i m K : Nat} (h : ¬ upH i m K = true) : wN i m K = K := by rw [wN, if_neg h]
theorem tp_at {K E i : Nat} (hi : i < 3) : [K * (4 * E) + 2 * E - 1, K * (4 * E) + 2 * E, K * (4 * E) + 2 * E + 1][i]? = some (tp K E i) := by
  unfold tp
  rcases i with _ | _ | _ | i
  · rfl
  · show some _ = some _
    congr 1
  · show some _ = some _
    congr 1
  · omega
theorem halves {K E i m : Nat} {b : Bool} (hE : 1 ≤ E) (hi : i < 3) (hm : m < 5) : rndQ ((m : Nat) : Int) (tq K E i b) = signed (wN i m K) b := by
  have hE4 : 4 * E ≠ 0 := by omega
  rw [tq, of_signed hE4, rndQ_mk hE4, signed_natAbs]
  have ht : tp K E i = (4 * E) * K + (2 * E + i - 1) := by unfold tp; rw [Nat.mul_comm K]; omega
  have hr : 2 * E + i - 1 < 4 * E := by omega
  have h1 : tp K E i / (4 * E) = K := by rw [ht, Nat.mul_add_div (by omega), Nat.div_eq_of_lt hr]; omega
  have h2 : tp K E i % (4 * E) = 2 * E + i - 1 := by rw [ht, Nat.mul_add_mod, Nat.mod_eq_of_lt hr]
  have hp : 0 < tp K E i := by rw [ht]; omega
  have hs : decide (signed (tp K E i) b < 0) = b := by
    cases b with
    | true => exact decide_eq_true (by simp only [signed, if_true]; omega)
    | false => exact decide_eq_false (by simp only [signed, Bool.false_eq_true, if_false]; omega)
  have hu : upB ((m : Nat) : Int) (tp K E i) (4 * E) = upH i m K := by
    unfold upB
    rw [h1, h2, decide_eq_true (by omega : 2 * E + i - 1 ≠ 0), Bool.true_and]
    unfold raisesB upH
    have hc : (2 * E + i - 1 + (2 * E + i - 1) = 4 * E) ↔ i = 1 := by omega
    have hc2 : (4 * E < 2 * E + i - 1 + (2 * E + i - 1)) ↔ i = 2 := by omega
    simp only [hc, hc2]
    rcases m with _ | _ | _ | _ | _ | m
    · simp
    · simp
    · rcases i with _ | _ | _ | i <;> first | simp | omega
    · rcases i with _ | _ | _ | i <;> first | simp | omega
    · rcases i with _ | _ | _ | i <;> first | simp | omega
    · omega
  rw [hs, rndN, hu, h1]
  rfl
theorem limb0_lt (K : Nat) : (Mx.limbs K).getD 0 0 < 18446744073709551616 := by
  have h := Mx.limbs_lt K
  cases hl : Mx.limbs K with
  | nil => decide
  | cons x r =>
    rw [hl] at h
    have := h x (.head _)
    rw [Mx.B_eq] at this
    exact this
theorem limbs_zero : (Mx.limbs 0).length = 0 := by decide
theorem limbs_pos {K : Nat} (h : K ≠ 0) : 0 < (Mx.limbs K).length := by
  rcases Nat.eq_zero_or_pos (Mx.limbs K).length with h0 | h0
  · exfalso
    have := Mx.val_limbs K
    rw [List.length_eq_zero_iff.1 h0] at this
    exact h this.symm
  · exact h0
theorem odd_limb {K : Nat} (h : K ≠ 0) : decide ((((Mx.limbs K).getD 0 0 % 2 : Nat) : Int) = 1) = decide (K % 2 ≠ 0) := by
  have hv := Mx.val_limbs K
  have e : K % 2 = (Mx.limbs K).getD 0 0 % 2 := by
    cases hl : Mx.limbs K with
    | nil => have := limbs_pos h; rw [hl] at this; cases this
    | cons x r =>
      rw [hl] at hv
      have e : Mx.val (x :: r) = x + Mx.B * Mx.val r := rfl
      rw [e, Mx.B_eq] at hv
      show K % 2 = x % 2
      omega
  rw [e]
  refine decide_eq_decide.2 ?_
  omega
end Go.Proofs.YtpjmfbiihhbjhaaDoor
