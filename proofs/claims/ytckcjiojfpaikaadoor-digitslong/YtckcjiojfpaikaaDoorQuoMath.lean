/- Plain mathematics of layer 2: shifts by limbs and bits, taking off a multiple, guesses; long division. -/
import Derived.Test.YtckcjiojfpaikaaDoorMath
namespace Go.Proofs.YtckcjiojfpaikaaDoor.Mx

theorem B_split {p : Nat} (hp : p ≤ 64) : 2 ^ p * 2 ^ (64 - p) = B := by
  rw [← Nat.pow_add, show p + (64 - p) = 64 by omega]; rfl
theorem pow2_pos (p : Nat) : 0 < 2 ^ p := Nat.pow_pos (by omega)

/-- A list's value, from place k on. -/
theorem val_drop_div (l : List Nat) (h : ∀ x ∈ l, x < B) (k : Nat) : val l / B ^ k = val (l.drop k) := by
  rcases Nat.lt_or_ge l.length k with hk | hk
  · have h1 : val l < B ^ k := Nat.lt_of_lt_of_le (val_lt l h) (Nat.pow_le_pow_right B_pos (by omega))
    rw [Nat.div_eq_of_lt h1, List.drop_of_length_le (by omega)]
    rfl
  · have e : val l = val (l.take k) + B ^ k * val (l.drop k) := by
      have := val_append (l.take k) (l.drop k)
      rw [List.take_append_drop, List.length_take, Nat.min_eq_left hk] at this
      exact this
    have h1 : val (l.take k) < B ^ k := by
      have := val_lt (l.take k) (fun x hx => h x (List.mem_of_mem_take hx))
      rwa [List.length_take, Nat.min_eq_left hk] at this
    rw [e, Nat.add_mul_div_left _ _ (Nat.pow_pos B_pos), Nat.div_eq_of_lt h1, Nat.zero_add]
theorem val_drop_step (l : List Nat) (k : Nat) : val (l.drop k) = l.getD k 0 + B * val (l.drop (k + 1)) := by
  rcases Nat.lt_or_ge k l.length with hk | hk
  · rw [List.drop_eq_getElem_cons hk]
    simp [val, List.getD_eq_getElem?_getD, List.getElem?_eq_getElem hk]
  · rw [List.drop_of_length_le hk, List.drop_of_length_le (by omega), List.getD_eq_getElem?_getD, List.getElem?_eq_none hk]
    simp [val]

/-- The limb that begins at the binary digit p of two limbs in a row. -/
theorem limb_or {x y z p : Nat} (hx : x < B) (hp : p < 64) : (x / 2 ^ p ||| y * 2 ^ (64 - p) % B) = (x + B * (y + B * z)) / 2 ^ p % B := by
  have hB := B_split (p := p) (by omega)
  have hp0 := pow2_pos p
  have hq0 := pow2_pos (64 - p)
  have h1 : x / 2 ^ p < 2 ^ (64 - p) := by rw [Nat.div_lt_iff_lt_mul hp0, Nat.mul_comm, hB]; exact hx
  have h2 : (x + B * (y + B * z)) / 2 ^ p = x / 2 ^ p + 2 ^ (64 - p) * (y + B * z) := by
    rw [show B * (y + B * z) = 2 ^ p * (2 ^ (64 - p) * (y + B * z)) by rw [← Nat.mul_assoc, hB], Nat.add_mul_div_left _ _ hp0]
  have h3 : y * 2 ^ (64 - p) % B = 2 ^ (64 - p) * (y % 2 ^ p) := by
    rw [← hB, Nat.mul_comm y, Nat.mul_comm (2 ^ p), Nat.mul_mod_mul_left]
  have h4 : (x / 2 ^ p + 2 ^ (64 - p) * (y + B * z)) % B = 2 ^ (64 - p) * (y % 2 ^ p) + x / 2 ^ p := by
    have e1 : 2 ^ (64 - p) * (y + B * z) = 2 ^ (64 - p) * (y % 2 ^ p) + B * (y / 2 ^ p + 2 ^ (64 - p) * z) := by
      have hy := Nat.mod_add_div y (2 ^ p)
      rw [Nat.mul_add, Nat.mul_add, ← hB]
      calc 2 ^ (64 - p) * y + 2 ^ (64 - p) * (2 ^ p * 2 ^ (64 - p) * z) = 2 ^ (64 - p) * (y % 2 ^ p + 2 ^ p * (y / 2 ^ p)) + 2 ^ p * 2 ^ (64 - p) * (2 ^ (64 - p) * z) := by
            rw [hy, Nat.mul_left_comm (2 ^ (64 - p)) (2 ^ p * 2 ^ (64 - p)) z]
        _ = 2 ^ (64 - p) * (y % 2 ^ p) + (2 ^ p * 2 ^ (64 - p) * (y / 2 ^ p) + 2 ^ p * 2 ^ (64 - p) * (2 ^ (64 - p) * z)) := by
            rw [Nat.mul_add, ← Nat.mul_assoc (2 ^ (64 - p)) (2 ^ p), Nat.mul_comm (2 ^ (64 - p)) (2 ^ p), Nat.add_assoc]
    rw [e1, ← Nat.add_assoc, Nat.add_mul_mod_self_left, Nat.add_comm]
    apply Nat.mod_eq_of_lt
    have : y % 2 ^ p < 2 ^ p := Nat.mod_lt _ hp0
    have h5 : 2 ^ (64 - p) * (y % 2 ^ p) + 2 ^ (64 - p) ≤ 2 ^ (64 - p) * 2 ^ p := by
      rw [← Nat.mul_succ]; exact Nat.mul_le_mul_left _ this
    rw [Nat.mul_comm (2 ^ (64 - p)) (2 ^ p), hB] at h5
    omega
  rw [h2, h4, h3, Nat.or_comm, Nat.two_pow_add_eq_or_of_lt h1]

/-- limbFrom's answer. -/
theorem limbFrom_eq (l : List Nat) (h : ∀ x ∈ l, x < B) (n : Nat) : (l.getD (n / 64) 0 / 2 ^ (n % 64) ||| l.getD (n / 64 + 1) 0 * 2 ^ (64 - n % 64) % B) = val l / 2 ^ n % B := by
  have e : 2 ^ n = B ^ (n / 64) * 2 ^ (n % 64) := by
    rw [B_pow, ← Nat.pow_add, Nat.div_add_mod]
  rw [e, ← Nat.div_div_eq_div_mul, val_drop_div l h, val_drop_step l (n / 64), val_drop_step l (n / 64 + 1)]
  exact limb_or (getD_lt l h _) (Nat.mod_lt _ (by omega))

/-- What limbs are there, from the left, of the rest's first i. -/
theorem mod_step (v i : Nat) : v % B ^ (i + 1) = v % B ^ i + B ^ i * (v / B ^ i % B) := by
  rw [Nat.pow_succ, Nat.mod_mul]
theorem pow2_step (v n i : Nat) : v / 2 ^ n / B ^ i = v / 2 ^ (n + i * 64) := by
  rw [B_pow, Nat.div_div_eq_div_mul, ← Nat.pow_add, Nat.mul_comm 64 i]
theorem down_all (l : List Nat) (h : ∀ x ∈ l, x < B) (n : Nat) : val l / 2 ^ n % B ^ (l.length - n / 64) = val l / 2 ^ n := by
  apply Nat.mod_eq_of_lt
  have e : 2 ^ n = B ^ (n / 64) * 2 ^ (n % 64) := by
    rw [B_pow, ← Nat.pow_add, Nat.div_add_mod]
  rw [e, ← Nat.div_div_eq_div_mul]
  refine Nat.lt_of_le_of_lt (Nat.div_le_self _ _) ?_
  rw [val_drop_div l h]
  have := val_lt (l.drop (n / 64)) (fun x hx => h x (List.mem_of_mem_drop hx))
  rwa [List.length_drop] at this

/-- A limb shifted up comes in two. -/
theorem up_parts {x p : Nat} (hp : p ≤ 64) : x * 2 ^ p = x * 2 ^ p % B + B * (x / 2 ^ (64 - p)) := by
  have hB := B_split hp
  have hq0 := pow2_pos (64 - p)
  have e : x * 2 ^ p / B = x / 2 ^ (64 - p) := by
    rw [← hB, Nat.mul_comm x, Nat.mul_div_mul_left _ _ (pow2_pos p)]
  rw [← e, Nat.mod_add_div]
theorem up_or {c x p : Nat} (hp : p ≤ 64) (hc : c < 2 ^ p) : (c ||| x * 2 ^ p % B) = c + x * 2 ^ p % B := by
  have hB := B_split hp
  have h3 : x * 2 ^ p % B = 2 ^ p * (x % 2 ^ (64 - p)) := by
    rw [← hB, Nat.mul_comm x, Nat.mul_mod_mul_left]
  rw [h3, Nat.or_comm, ← Nat.two_pow_add_eq_or_of_lt hc, Nat.add_comm]
theorem up_or_lt {c x p : Nat} (hp : p ≤ 64) (hc : c < 2 ^ p) : c + x * 2 ^ p % B < B := by
  have hB := B_split hp
  have h3 : x * 2 ^ p % B = 2 ^ p * (x % 2 ^ (64 - p)) := by
    rw [← hB, Nat.mul_comm x, Nat.mul_mod_mul_left]
  have h4 : x % 2 ^ (64 - p) < 2 ^ (64 - p) := Nat.mod_lt _ (pow2_pos _)
  have h5 : 2 ^ p * (x % 2 ^ (64 - p)) + 2 ^ p ≤ 2 ^ p * 2 ^ (64 - p) := by rw [← Nat.mul_succ]; exact Nat.mul_le_mul_left _ h4
  rw [hB] at h5
  omega
theorem up_hi_lt {x p : Nat} (hp : p ≤ 64) (hx : x < B) : x / 2 ^ (64 - p) < 2 ^ p := by
  rw [Nat.div_lt_iff_lt_mul (pow2_pos _), B_split hp]; exact hx

/-! ### Long division -/
theorem val_take_drop (l : List Nat) (k : Nat) (hk : k ≤ l.length) : val l = val (l.take k) + B ^ k * val (l.drop k) := by
  have := val_append (l.take k) (l.drop k)
  rw [List.take_append_drop, List.length_take, Nat.min_eq_left hk] at this
  exact this
/-- What lies above the window is nought. -/
theorem div_window {R : List Nat} {j N b : Nat} (hR : ∀ x ∈ R, x < B) (hj : j + N + 1 ≤ R.length) (hb : b ≤ B ^ N) (h : val (R.drop (j + 1)) < b) :
    val ((R.drop j).take (N + 1)) = val (R.drop j) ∧ val (R.drop j) < b * B ∧ val (R.drop (j + N + 1)) = 0 := by
  have hz : val (R.drop (j + N + 1)) = 0 := by
    have e := val_drop_div (R.drop (j + 1)) (fun x hx => hR x (List.mem_of_mem_drop hx)) N
    rw [Nat.div_eq_of_lt (Nat.lt_of_lt_of_le h hb), List.drop_drop] at e
    rw [show j + N + 1 = j + 1 + N by omega]
    exact e.symm
  have e1 := val_take_drop (R.drop j) (N + 1) (by rw [List.length_drop]; omega)
  rw [List.drop_drop, show j + (N + 1) = j + N + 1 by omega, hz, Nat.mul_zero, Nat.add_zero] at e1
  refine ⟨e1.symm, ?_, hz⟩
  rw [val_drop_step]
  have h2 := getD_lt R hR j
  have h3 : B * (val (R.drop (j + 1)) + 1) ≤ B * b := Nat.mul_le_mul_left _ h
  rw [Nat.mul_add, Nat.mul_one] at h3
  rw [Nat.mul_comm b]
  omega
/-- One limb of the quotient more. -/
theorem div_round {R out qs : List Nat} {j N b T : Nat} (hout : out.length = N + 1) (hj : j + N + 1 ≤ R.length) (hz : val (R.drop (j + N + 1)) = 0) (hb : 0 < b)
    (hv : val out = val (R.drop j) % b) (hT : val R + B ^ (j + 1) * (val qs * b) = T) :
    val (patch R j out) + B ^ j * (val (val (R.drop j) / b :: qs) * b) = T ∧ val ((patch R j out).drop j) < b := by
  have e1 : (patch R j out).take j = R.take j := by
    unfold patch
    rw [List.append_assoc, List.take_append_of_le_length (by rw [List.length_take]; omega), List.take_take, Nat.min_self]
  have e2 : (patch R j out).drop j = out ++ R.drop (j + N + 1) := by
    unfold patch
    have h1 : (R.take j).length = j := by rw [List.length_take]; omega
    rw [List.append_assoc, List.drop_append, h1, List.drop_of_length_le (by omega), List.nil_append, Nat.sub_self, List.drop_zero, hout, Nat.add_assoc]
  have e3 : val ((patch R j out).drop j) = val (R.drop j) % b := by rw [e2, val_append, hz, Nat.mul_zero, Nat.add_zero, hv]
  have e4 := val_take_drop (patch R j out) j (by rw [patch_length (by omega)]; omega)
  have e5 := val_take_drop R j (by omega)
  rw [e1, e3] at e4
  refine ⟨?_, by rw [e3]; exact Nat.mod_lt _ hb⟩
  rw [e5] at hT
  have e6 := Nat.mod_add_div (val (R.drop j)) b
  generalize val (R.drop j) = V at *
  have e7 : val (V / b :: qs) = V / b + B * val qs := rfl
  rw [e4, e7, ← hT, Nat.pow_succ]
  have e8 : B ^ j * ((V / b + B * val qs) * b) = B ^ j * (b * (V / b)) + B ^ j * B * (val qs * b) := by
    rw [Nat.add_mul, Nat.mul_add, Nat.mul_comm (V / b) b, Nat.mul_assoc (B ^ j) B, Nat.mul_assoc B]
  have e9 : B ^ j * V = B ^ j * (V % b) + B ^ j * (b * (V / b)) := by rw [← Nat.mul_add, e6]
  omega
/-- The divisor, shifted so far that its first bit is set. -/
theorem norm_top {m : Nat} (hm : m ≠ 0) : m * 2 ^ (64 - bits ((limbs m).getD (len m - 1) 0)) < B ^ len m ∧ 2 ^ 63 * B ^ (len m - 1) ≤ m * 2 ^ (64 - bits ((limbs m).getD (len m - 1) 0)) ∧ bits ((limbs m).getD (len m - 1) 0) ≤ 64 ∧ 0 < bits ((limbs m).getD (len m - 1) 0) := by
  obtain ⟨h1, h2⟩ := bits_limbs hm
  have h3 : bits ((limbs m).getD (len m - 1) 0) ≤ 64 := bits_le_of_lt (getD_lt _ (limbs_lt m) _)
  have h4 := bits_pos h2
  generalize bits ((limbs m).getD (len m - 1) 0) = t at *
  have hlp : 0 < len m := by
    rcases Nat.eq_zero_or_pos (len m) with h | h
    · exact absurd (eq_zero_of_len h) hm
    · exact h
  have h5 := bits_lt m
  have h6 := bits_le hm
  refine ⟨?_, ?_, h3, h4⟩
  · have : m * 2 ^ (64 - t) < 2 ^ bits m * 2 ^ (64 - t) := Nat.mul_lt_mul_of_pos_right h5 (pow2_pos _)
    rw [← Nat.pow_add] at this
    rw [B_pow]
    rw [show 64 * len m = bits m + (64 - t) by omega]
    exact this
  · have : 2 ^ (bits m - 1) * 2 ^ (64 - t) ≤ m * 2 ^ (64 - t) := Nat.mul_le_mul_right _ h6
    rw [← Nat.pow_add] at this
    rw [B_pow, ← Nat.pow_add]
    rw [show 63 + 64 * (len m - 1) = bits m - 1 + (64 - t) by omega]
    exact this
/-- The last limb of a list whose value is great is great. -/
theorem top_great {l : List Nat} {N : Nat} (hl : l.length = N + 1) (h : ∀ x ∈ l, x < B) (hv : 2 ^ 63 * B ^ N ≤ val l) : 9223372036854775808 ≤ l.getD N 0 := by
  have e := val_take_drop l N (by omega)
  have e1 : val (l.take N) < B ^ N := by
    have := val_lt (l.take N) (fun x hx => h x (List.mem_of_mem_take hx))
    rwa [List.length_take, hl, Nat.min_eq_left (by omega)] at this
  have e2 : val (l.drop N) = l.getD N 0 := by
    rw [val_drop_step, List.drop_of_length_le (by omega)]
    simp [val]
  rw [e2] at e
  rcases Nat.lt_or_ge (l.getD N 0) 9223372036854775808 with hlt | hge
  · exfalso
    have e3 : B ^ N * (l.getD N 0 + 1) ≤ B ^ N * 9223372036854775808 := Nat.mul_le_mul_left _ hlt
    rw [Nat.mul_add, Nat.mul_one] at e3
    rw [show (2 : Nat) ^ 63 = 9223372036854775808 from rfl, Nat.mul_comm] at hv
    omega
  · exact hge
/-- Before the first step what is left is less than the divisor. -/
theorem div_start {R : List Nat} {n b s la N : Nat} (hR : ∀ x ∈ R, x < B) (hn : n < B ^ la) (hv : val R = n * 2 ^ s) (hs : s ≤ 63) (hle : N + 1 ≤ la) (hb : 2 ^ 63 * B ^ N ≤ b) : val (R.drop (la - (N + 1) + 1)) < b := by
  rw [← val_drop_div R hR, hv, Nat.div_lt_iff_lt_mul (Nat.pow_pos B_pos)]
  have h1 : n * 2 ^ s < B ^ la * 2 ^ s := Nat.mul_lt_mul_of_pos_right hn (pow2_pos _)
  have h2 : B ^ la * 2 ^ s ≤ B ^ la * 2 ^ 63 := Nat.mul_le_mul_left _ (Nat.pow_le_pow_right (by omega) hs)
  have h3 : 2 ^ 63 * B ^ N * B ^ (la - (N + 1) + 1) ≤ b * B ^ (la - (N + 1) + 1) := Nat.mul_le_mul_right _ hb
  rw [Nat.mul_assoc, ← Nat.pow_add, show N + (la - (N + 1) + 1) = la by omega, Nat.mul_comm] at h3
  omega
theorem div_end {n m s q r : Nat} (hm : 0 < m) (h : r + q * (m * 2 ^ s) = n * 2 ^ s) (hr : r < m * 2 ^ s) : q = n / m ∧ r / 2 ^ s = n % m := by
  have hp := pow2_pos s
  have h1 : q = n / m := by
    have e : n * 2 ^ s / (m * 2 ^ s) = q := by
      rw [← h, Nat.add_mul_div_right _ _ (Nat.mul_pos hm hp), Nat.div_eq_of_lt hr, Nat.zero_add]
    rw [Nat.mul_div_mul_right _ _ hp] at e
    exact e.symm
  refine ⟨h1, ?_⟩
  have h2 : r = (n % m) * 2 ^ s := by
    have e := Nat.mod_add_div n m
    have e2 : n * 2 ^ s = (n % m) * 2 ^ s + (n / m) * (m * 2 ^ s) := by
      rw [Nat.mul_left_comm, ← Nat.mul_assoc, ← Nat.add_mul, e]
    rw [e2, ← h1] at h
    omega
  rw [h2, Nat.mul_div_cancel _ hp]
end Go.Proofs.YtckcjiojfpaikaaDoor.Mx
