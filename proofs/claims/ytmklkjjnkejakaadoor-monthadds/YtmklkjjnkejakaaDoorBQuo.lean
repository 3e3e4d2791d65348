/- One text out of: QuoMath, QuoA, QuoB, QuoC, QuoD, QuoE, QuoF, QuoG, QuoH, QuoI, QuoJ, QuoN, RgvNat. -/
import Derived.Test.YtmklkjjnkejakaaDoorMath
import Derived.Test.YtmklkjjnkejakaaDoorBNat
import Derived.Laws.Bits64b
import Derived.Laws.Shifts
import Derived.RegionTactic
import Derived.BigRegion
import Derived.Deep.CutBlock
import Derived.Deep.DeepCutAuto
import Derived.BigGuard
import Derived.BigGuardPart
import Derived.WalkMore
import Derived.ScopeJumps
import Derived.Deep.RegionHeld3
import Derived.Test.YtmklkjjnkejakaaDoorBRg
import Derived.Deep.LoopGhost
/- Plain mathematics of layer 2: shifts by limbs and bits, taking off a multiple, guesses; long division. -/
namespace Go.Proofs.YtmklkjjnkejakaaDoor.Mx

theorem B_split {p : Nat} (hp : p ≤ 64) : 2 ^ p * 2 ^ (64 - p) = B := by
  rw [← Nat.pow_add, show p + (64 - p) = 64 by omega]; rfl
theorem pow2_pos (p : Nat) : 0 < 2 ^ p := Nat.pow_pos (by omega)

/-- A list's value, from place k on. -/
theorem val_drop_div (l : List Nat) (h : ∀ x ∈ l, x < B) (k : Nat) : val l / B ^ k = val (l.drop k) := by
  rcases Nat.lt_or_ge l.length k with hk | hk
  · have h1 : val l < B ^ k := Nat.lt_of_lt_of_le (val_lt l h) (Nat.pow_le_pow_right B_pos (by omega))
    rw [Nat.div_eq_of_lt h1, List.drop_of_length_le (by omega)]
    rfl
  · have e : val l = val (l.take k) + B ^ k * val (l.drop k) := by
      have := val_append (l.take k) (l.drop k)
      rw [List.take_append_drop, List.length_take, Nat.min_eq_left hk] at this
      exact this
    have h1 : val (l.take k) < B ^ k := by
      have := val_lt (l.take k) (fun x hx => h x (List.mem_of_mem_take hx))
      rwa [List.length_take, Nat.min_eq_left hk] at this
    rw [e, Nat.add_mul_div_left _ _ (Nat.pow_pos B_pos), Nat.div_eq_of_lt h1, Nat.zero_add]
theorem val_drop_step (l : List Nat) (k : Nat) : val (l.drop k) = l.getD k 0 + B * val (l.drop (k + 1)) := by
  rcases Nat.lt_or_ge k l.length with hk | hk
  · rw [List.drop_eq_getElem_cons hk]
    simp [val, List.getD_eq_getElem?_getD, List.getElem?_eq_getElem hk]
  · rw [List.drop_of_length_le hk, List.drop_of_length_le (by omega), List.getD_eq_getElem?_getD, List.getElem?_eq_none hk]
    simp [val]

/-- The limb that begins at the binary digit p of two limbs in a row. -/
theorem limb_or {x y z p : Nat} (hx : x < B) (hp : p < 64) : (x / 2 ^ p ||| y * 2 ^ (64 - p) % B) = (x + B * (y + B * z)) / 2 ^ p % B := by
  have hB := B_split (p := p) (by omega)
  have hp0 := pow2_pos p
  have hq0 := pow2_pos (64 - p)
  have h1 : x / 2 ^ p < 2 ^ (64 - p) := by rw [Nat.div_lt_iff_lt_mul hp0, Nat.mul_comm, hB]; exact hx
  have h2 : (x + B * (y + B * z)) / 2 ^ p = x / 2 ^ p + 2 ^ (64 - p) * (y + B * z) := by
    rw [show B * (y + B * z) = 2 ^ p * (2 ^ (64 - p) * (y + B * z)) by rw [← Nat.mul_assoc, hB], Nat.add_mul_div_left _ _ hp0]
  have h3 : y * 2 ^ (64 - p) % B = 2 ^ (64 - p) * (y % 2 ^ p) := by
    rw [← hB, Nat.mul_comm y, Nat.mul_comm (2 ^ p), Nat.mul_mod_mul_left]
  have h4 : (x / 2 ^ p + 2 ^ (64 - p) * (y + B * z)) % B = 2 ^ (64 - p) * (y % 2 ^ p) + x / 2 ^ p := by
    have e1 : 2 ^ (64 - p) * (y + B * z) = 2 ^ (64 - p) * (y % 2 ^ p) + B * (y / 2 ^ p + 2 ^ (64 - p) * z) := by
      have hy := Nat.mod_add_div y (2 ^ p)
      rw [Nat.mul_add, Nat.mul_add, ← hB]
      calc 2 ^ (64 - p) * y + 2 ^ (64 - p) * (2 ^ p * 2 ^ (64 - p) * z) = 2 ^ (64 - p) * (y % 2 ^ p + 2 ^ p * (y / 2 ^ p)) + 2 ^ p * 2 ^ (64 - p) * (2 ^ (64 - p) * z) := by
            rw [hy, Nat.mul_left_comm (2 ^ (64 - p)) (2 ^ p * 2 ^ (64 - p)) z]
        _ = 2 ^ (64 - p) * (y % 2 ^ p) + (2 ^ p * 2 ^ (64 - p) * (y / 2 ^ p) + 2 ^ p * 2 ^ (64 - p) * (2 ^ (64 - p) * z)) := by
            rw [Nat.mul_add, ← Nat.mul_assoc (2 ^ (64 - p)) (2 ^ p), Nat.mul_comm (2 ^ (64 - p)) (2 ^ p), Nat.add_assoc]
    rw [e1, ← Nat.add_assoc, Nat.add_mul_mod_self_left, Nat.add_comm]
    apply Nat.mod_eq_of_lt
    have : y % 2 ^ p < 2 ^ p := Nat.mod_lt _ hp0
    have h5 : 2 ^ (64 - p) * (y % 2 ^ p) + 2 ^ (64 - p) ≤ 2 ^ (64 - p) * 2 ^ p := by
      rw [← Nat.mul_succ]; exact Nat.mul_le_mul_left _ this
    rw [Nat.mul_comm (2 ^ (64 - p)) (2 ^ p), hB] at h5
    omega
  rw [h2, h4, h3, Nat.or_comm, Nat.two_pow_add_eq_or_of_lt h1]

/-- limbFrom's answer. -/
theorem limbFrom_eq (l : List Nat) (h : ∀ x ∈ l, x < B) (n : Nat) : (l.getD (n / 64) 0 / 2 ^ (n % 64) ||| l.getD (n / 64 + 1) 0 * 2 ^ (64 - n % 64) % B) = val l / 2 ^ n % B := by
  have e : 2 ^ n = B ^ (n / 64) * 2 ^ (n % 64) := by
    rw [B_pow, ← Nat.pow_add, Nat.div_add_mod]
  rw [e, ← Nat.div_div_eq_div_mul, val_drop_div l h, val_drop_step l (n / 64), val_drop_step l (n / 64 + 1)]
  exact limb_or (getD_lt l h _) (Nat.mod_lt _ (by omega))

/-- What limbs are there, from the left, of the rest's first i. -/
theorem mod_step (v i : Nat) : v % B ^ (i + 1) = v % B ^ i + B ^ i * (v / B ^ i % B) := by
  rw [Nat.pow_succ, Nat.mod_mul]
theorem pow2_step (v n i : Nat) : v / 2 ^ n / B ^ i = v / 2 ^ (n + i * 64) := by
  rw [B_pow, Nat.div_div_eq_div_mul, ← Nat.pow_add, Nat.mul_comm 64 i]
theorem down_all (l : List Nat) (h : ∀ x ∈ l, x < B) (n : Nat) : val l / 2 ^ n % B ^ (l.length - n / 64) = val l / 2 ^ n := by
  apply Nat.mod_eq_of_lt
  have e : 2 ^ n = B ^ (n / 64) * 2 ^ (n % 64) := by
    rw [B_pow, ← Nat.pow_add, Nat.div_add_mod]
  rw [e, ← Nat.div_div_eq_div_mul]
  refine Nat.lt_of_le_of_lt (Nat.div_le_self _ _) ?_
  rw [val_drop_div l h]
  have := val_lt (l.drop (n / 64)) (fun x hx => h x (List.mem_of_mem_drop hx))
  rwa [List.length_drop] at this

/-- A limb shifted up comes in two. -/
theorem up_parts {x p : Nat} (hp : p ≤ 64) : x * 2 ^ p = x * 2 ^ p % B + B * (x / 2 ^ (64 - p)) := by
  have hB := B_split hp
  have hq0 := pow2_pos (64 - p)
  have e : x * 2 ^ p / B = x / 2 ^ (64 - p) := by
    rw [← hB, Nat.mul_comm x, Nat.mul_div_mul_left _ _ (pow2_pos p)]
  rw [← e, Nat.mod_add_div]
theorem up_or {c x p : Nat} (hp : p ≤ 64) (hc : c < 2 ^ p) : (c ||| x * 2 ^ p % B) = c + x * 2 ^ p % B := by
  have hB := B_split hp
  have h3 : x * 2 ^ p % B = 2 ^ p * (x % 2 ^ (64 - p)) := by
    rw [← hB, Nat.mul_comm x, Nat.mul_mod_mul_left]
  rw [h3, Nat.or_comm, ← Nat.two_pow_add_eq_or_of_lt hc, Nat.add_comm]
theorem up_or_lt {c x p : Nat} (hp : p ≤ 64) (hc : c < 2 ^ p) : c + x * 2 ^ p % B < B := by
  have hB := B_split hp
  have h3 : x * 2 ^ p % B = 2 ^ p * (x % 2 ^ (64 - p)) := by
    rw [← hB, Nat.mul_comm x, Nat.mul_mod_mul_left]
  have h4 : x % 2 ^ (64 - p) < 2 ^ (64 - p) := Nat.mod_lt _ (pow2_pos _)
  have h5 : 2 ^ p * (x % 2 ^ (64 - p)) + 2 ^ p ≤ 2 ^ p * 2 ^ (64 - p) := by rw [← Nat.mul_succ]; exact Nat.mul_le_mul_left _ h4
  rw [hB] at h5
  omega
theorem up_hi_lt {x p : Nat} (hp : p ≤ 64) (hx : x < B) : x / 2 ^ (64 - p) < 2 ^ p := by
  rw [Nat.div_lt_iff_lt_mul (pow2_pos _), B_split hp]; exact hx

/-! ### Long division -/
theorem val_take_drop (l : List Nat) (k : Nat) (hk : k ≤ l.length) : val l = val (l.take k) + B ^ k * val (l.drop k) := by
  have := val_append (l.take k) (l.drop k)
  rw [List.take_append_drop, List.length_take, Nat.min_eq_left hk] at this
  exact this
/-- What lies above the window is nought. -/
theorem div_window {R : List Nat} {j N b : Nat} (hR : ∀ x ∈ R, x < B) (hj : j + N + 1 ≤ R.length) (hb : b ≤ B ^ N) (h : val (R.drop (j + 1)) < b) :
    val ((R.drop j).take (N + 1)) = val (R.drop j) ∧ val (R.drop j) < b * B ∧ val (R.drop (j + N + 1)) = 0 := by
  have hz : val (R.drop (j + N + 1)) = 0 := by
    have e := val_drop_div (R.drop (j + 1)) (fun x hx => hR x (List.mem_of_mem_drop hx)) N
    rw [Nat.div_eq_of_lt (Nat.lt_of_lt_of_le h hb), List.drop_drop] at e
    rw [show j + N + 1 = j + 1 + N by omega]
    exact e.symm
  have e1 := val_take_drop (R.drop j) (N + 1) (by rw [List.length_drop]; omega)
  rw [List.drop_drop, show j + (N + 1) = j + N + 1 by omega, hz, Nat.mul_zero, Nat.add_zero] at e1
  refine ⟨e1.symm, ?_, hz⟩
  rw [val_drop_step]
  have h2 := getD_lt R hR j
  have h3 : B * (val (R.drop (j + 1)) + 1) ≤ B * b := Nat.mul_le_mul_left _ h
  rw [Nat.mul_add, Nat.mul_one] at h3
  rw [Nat.mul_comm b]
  omega
/-- One limb of the quotient more. -/
theorem div_round {R out qs : List Nat} {j N b T : Nat} (hout : out.length = N + 1) (hj : j + N + 1 ≤ R.length) (hz : val (R.drop (j + N + 1)) = 0) (hb : 0 < b)
    (hv : val out = val (R.drop j) % b) (hT : val R + B ^ (j + 1) * (val qs * b) = T) :
    val (patch R j out) + B ^ j * (val (val (R.drop j) / b :: qs) * b) = T ∧ val ((patch R j out).drop j) < b := by
  have e1 : (patch R j out).take j = R.take j := by
    unfold patch
    rw [List.append_assoc, List.take_append_of_le_length (by rw [List.length_take]; omega), List.take_take, Nat.min_self]
  have e2 : (patch R j out).drop j = out ++ R.drop (j + N + 1) := by
    unfold patch
    have h1 : (R.take j).length = j := by rw [List.length_take]; omega
    rw [List.append_assoc, List.drop_append, h1, List.drop_of_length_le (by omega), List.nil_append, Nat.sub_self, List.drop_zero, hout, Nat.add_assoc]
  have e3 : val ((patch R j out).drop j) = val (R.drop j) % b := by rw [e2, val_append, hz, Nat.mul_zero, Nat.add_zero, hv]
  have e4 := val_take_drop (patch R j out) j (by rw [patch_length (by omega)]; omega)
  have e5 := val_take_drop R j (by omega)
  rw [e1, e3] at e4
  refine ⟨?_, by rw [e3]; exact Nat.mod_lt _ hb⟩
  rw [e5] at hT
  have e6 := Nat.mod_add_div (val (R.drop j)) b
  generalize val (R.drop j) = V at *
  have e7 : val (V / b :: qs) = V / b + B * val qs := rfl
  rw [e4, e7, ← hT, Nat.pow_succ]
  have e8 : B ^ j * ((V / b + B * val qs) * b) = B ^ j * (b * (V / b)) + B ^ j * B * (val qs * b) := by
    rw [Nat.add_mul, Nat.mul_add, Nat.mul_comm (V / b) b, Nat.mul_assoc (B ^ j) B, Nat.mul_assoc B]
  have e9 : B ^ j * V = B ^ j * (V % b) + B ^ j * (b * (V / b)) := by rw [← Nat.mul_add, e6]
  omega
/-- The divisor, shifted so far that its first bit is set. -/
theorem norm_top {m : Nat} (hm : m ≠ 0) : m * 2 ^ (64 - bits ((limbs m).getD (len m - 1) 0)) < B ^ len m ∧ 2 ^ 63 * B ^ (len m - 1) ≤ m * 2 ^ (64 - bits ((limbs m).getD (len m - 1) 0)) ∧ bits ((limbs m).getD (len m - 1) 0) ≤ 64 ∧ 0 < bits ((limbs m).getD (len m - 1) 0) := by
  obtain ⟨h1, h2⟩ := bits_limbs hm
  have h3 : bits ((limbs m).getD (len m - 1) 0) ≤ 64 := bits_le_of_lt (getD_lt _ (limbs_lt m) _)
  have h4 := bits_pos h2
  generalize bits ((limbs m).getD (len m - 1) 0) = t at *
  have hlp : 0 < len m := by
    rcases Nat.eq_zero_or_pos (len m) with h | h
    · exact absurd (eq_zero_of_len h) hm
    · exact h
  have h5 := bits_lt m
  have h6 := bits_le hm
  refine ⟨?_, ?_, h3, h4⟩
  · have : m * 2 ^ (64 - t) < 2 ^ bits m * 2 ^ (64 - t) := Nat.mul_lt_mul_of_pos_right h5 (pow2_pos _)
    rw [← Nat.pow_add] at this
    rw [B_pow]
    rw [show 64 * len m = bits m + (64 - t) by omega]
    exact this
  · have : 2 ^ (bits m - 1) * 2 ^ (64 - t) ≤ m * 2 ^ (64 - t) := Nat.mul_le_mul_right _ h6
    rw [← Nat.pow_add] at this
    rw [B_pow, ← Nat.pow_add]
    rw [show 63 + 64 * (len m - 1) = bits m - 1 + (64 - t) by omega]
    exact this
/-- The last limb of a list whose value is great is great. -/
theorem top_great {l : List Nat} {N : Nat} (hl : l.length = N + 1) (h : ∀ x ∈ l, x < B) (hv : 2 ^ 63 * B ^ N ≤ val l) : 9223372036854775808 ≤ l.getD N 0 := by
  have e := val_take_drop l N (by omega)
  have e1 : val (l.take N) < B ^ N := by
    have := val_lt (l.take N) (fun x hx => h x (List.mem_of_mem_take hx))
    rwa [List.length_take, hl, Nat.min_eq_left (by omega)] at this
  have e2 : val (l.drop N) = l.getD N 0 := by
    rw [val_drop_step, List.drop_of_length_le (by omega)]
    simp [val]
  rw [e2] at e
  rcases Nat.lt_or_ge (l.getD N 0) 9223372036854775808 with hlt | hge
  · exfalso
    have e3 : B ^ N * (l.getD N 0 + 1) ≤ B ^ N * 9223372036854775808 := Nat.mul_le_mul_left _ hlt
    rw [Nat.mul_add, Nat.mul_one] at e3
    rw [show (2 : Nat) ^ 63 = 9223372036854775808 from rfl, Nat.mul_comm] at hv
    omega
  · exact hge
/-- Before the first step what is left is less than the divisor. -/
theorem div_start {R : List Nat} {n b s la N : Nat} (hR : ∀ x ∈ R, x < B) (hn : n < B ^ la) (hv : val R = n * 2 ^ s) (hs : s ≤ 63) (hle : N + 1 ≤ la) (hb : 2 ^ 63 * B ^ N ≤ b) : val (R.drop (la - (N + 1) + 1)) < b := by
  rw [← val_drop_div R hR, hv, Nat.div_lt_iff_lt_mul (Nat.pow_pos B_pos)]
  have h1 : n * 2 ^ s < B ^ la * 2 ^ s := Nat.mul_lt_mul_of_pos_right hn (pow2_pos _)
  have h2 : B ^ la * 2 ^ s ≤ B ^ la * 2 ^ 63 := Nat.mul_le_mul_left _ (Nat.pow_le_pow_right (by omega) hs)
  have h3 : 2 ^ 63 * B ^ N * B ^ (la - (N + 1) + 1) ≤ b * B ^ (la - (N + 1) + 1) := Nat.mul_le_mul_right _ hb
  rw [Nat.mul_assoc, ← Nat.pow_add, show N + (la - (N + 1) + 1) = la by omega, Nat.mul_comm] at h3
  omega
theorem div_end {n m s q r : Nat} (hm : 0 < m) (h : r + q * (m * 2 ^ s) = n * 2 ^ s) (hr : r < m * 2 ^ s) : q = n / m ∧ r / 2 ^ s = n % m := by
  have hp := pow2_pos s
  have h1 : q = n / m := by
    have e : n * 2 ^ s / (m * 2 ^ s) = q := by
      rw [← h, Nat.add_mul_div_right _ _ (Nat.mul_pos hm hp), Nat.div_eq_of_lt hr, Nat.zero_add]
    rw [Nat.mul_div_mul_right _ _ hp] at e
    exact e.symm
  refine ⟨h1, ?_⟩
  have h2 : r = (n % m) * 2 ^ s := by
    have e := Nat.mod_add_div n m
    have e2 : n * 2 ^ s = (n % m) * 2 ^ s + (n / m) * (m * 2 ^ s) := by
      rw [Nat.mul_left_comm, ← Nat.mul_assoc, ← Nat.add_mul, e]
    rw [e2, ← h1] at h
    omega
  rw [h2, Nat.mul_div_cancel _ hp]
end Go.Proofs.YtmklkjjnkejakaaDoor.Mx

/- Contracts of package quot: limbAt, limbFrom, down. -/
namespace Go.Proofs.YtmklkjjnkejakaaDoor
open Go.RowKit


theorem shr_nat (x k : Nat) : (x : Int) / 2 ^ k = ((x / 2 ^ k : Nat) : Int) := by rw [Int.natCast_ediv, Int.natCast_pow]; rfl
theorem shl_nat (x k : Nat) : IntKind.u64.wrap ((x : Int) * 2 ^ k) = ((x * 2 ^ k % Mx.B : Nat) : Int) := by
  rw [IntKind.wrap_u64, Int.natCast_emod, Int.natCast_mul, Int.natCast_pow]; rfl
theorem limbFrom_int (x y p : Nat) (hx : x < Mx.B) : bits .or .u64 ((x : Int) / 2 ^ p) (IntKind.u64.wrap ((y : Int) * 2 ^ (64 - p))) = ((x / 2 ^ p ||| y * 2 ^ (64 - p) % Mx.B : Nat) : Int) := by
  rw [shr_nat, shl_nat]
  exact bits_or_u64_nat _ _ (Nat.lt_of_le_of_lt (Nat.div_le_self _ _) hx) (Nat.mod_lt _ Mx.B_pos)


end Go.Proofs.YtmklkjjnkejakaaDoor

/- Contracts of package quot: up. -/
namespace Go.Proofs.YtmklkjjnkejakaaDoor
open Go.RowKit

theorem set_at (s r : List Nat) (k a x : Nat) (hs : s.length = k) : (s ++ a :: r).set k x = s ++ x :: r := by
  subst hs
  rw [List.set_append_right _ _ (Nat.le_refl _)]
  simp
theorem get_at (s r : List Nat) (k a : Nat) (hs : s.length = k) : (s ++ a :: r).getD k 0 = a := by
  subst hs
  simp [List.getD_eq_getElem?_getD]

theorem up_step {l h : List Nat} {i c p : Nat} (hp : p ≤ 64) (hl : h.length = i) (hv : Mx.val h + Mx.B ^ i * c = Mx.val (l.take i) * 2 ^ p) :
    Mx.val (h ++ [c + l.getD i 0 * 2 ^ p % Mx.B]) + Mx.B ^ (i + 1) * (l.getD i 0 / 2 ^ (64 - p)) = Mx.val (l.take (i + 1)) * 2 ^ p := by
  have e := Mx.up_parts (x := l.getD i 0) hp
  rw [Mx.val_append, Mx.val_one, hl, Mx.val_take_succ, Nat.add_mul, ← hv, Nat.pow_succ, Nat.mul_assoc (Mx.B ^ i) (l.getD i 0)]
  generalize l.getD i 0 * 2 ^ p % Mx.B = lo at *
  generalize l.getD i 0 / 2 ^ (64 - p) = hi at *
  rw [e, Nat.mul_add, Nat.mul_add, Nat.mul_assoc]
  omega
theorem up_end {l h : List Nat} {c p q n : Nat} (hn : n = 64 * q + p) (hl : h.length = l.length) (hv : Mx.val h + Mx.B ^ l.length * c = Mx.val (l.take l.length) * 2 ^ p) :
    Mx.val (List.replicate q 0 ++ h ++ [c]) = Mx.val l * 2 ^ n := by
  rw [List.append_assoc, Mx.val_append, Mx.val_replicate, Nat.zero_add, List.length_replicate, Mx.val_append, Mx.val_one, hl, hv, List.take_length, Mx.B_pow, hn, Nat.pow_add, Nat.mul_left_comm]

theorem up_int (c x p : Nat) (hp : p ≤ 64) (hc : c < 2 ^ p) : bits .or .u64 (c : Int) (IntKind.u64.wrap ((x : Int) * 2 ^ p)) = ((c + x * 2 ^ p % Mx.B : Nat) : Int) := by
  rw [shl_nat, ← Mx.up_or hp hc]
  exact bits_or_u64_nat _ _ (Nat.lt_of_lt_of_le hc (by show _ ≤ Mx.B; rw [← Mx.B_split hp]; exact Nat.le_mul_of_pos_right _ (Mx.pow2_pos _))) (Nat.mod_lt _ Mx.B_pos)

end Go.Proofs.YtmklkjjnkejakaaDoor

/- Contracts of package quot: add, subTimes. -/
namespace Go.Proofs.YtmklkjjnkejakaaDoor
open Go.RowKit

theorem drop_getD (L : List Nat) (o i : Nat) : (L.drop o).getD i 0 = L.getD (o + i) 0 := by rw [List.getD_eq_getElem?_getD, List.getD_eq_getElem?_getD, List.getElem?_drop]

theorem add_step {s l out : List Nat} {i c lo hi y : Nat} (hl : out.length = i) (hv : Mx.val out + Mx.B ^ i * c = Mx.val (s.take i) + Mx.val (l.take i)) (hy : y = l.getD i 0) (h : lo + Mx.B * hi = s.getD i 0 + y + c) :
    Mx.val (out ++ [lo]) + Mx.B ^ (i + 1) * hi = Mx.val (s.take (i + 1)) + Mx.val (l.take (i + 1)) := by
  rw [Mx.val_append, Mx.val_one, hl, Mx.val_take_succ, Mx.val_take_succ, Nat.pow_succ, Nat.mul_assoc, ← hy]
  have h2 : Mx.B ^ i * lo + Mx.B ^ i * (Mx.B * hi) = Mx.B ^ i * s.getD i 0 + Mx.B ^ i * y + Mx.B ^ i * c := by rw [← Nat.mul_add, h, Nat.mul_add, Nat.mul_add]
  omega

theorem sub_step2 {s l out : List Nat} {i c b lo lo2 c' b' x y : Nat} (hl : out.length = i) (hv : Mx.val out + x * Mx.val (l.take i) = Mx.val (s.take i) + Mx.B ^ i * (b + c)) (hy : y = l.getD i 0)
    (h1 : lo2 + Mx.B * c' = y * x + c) (h2 : lo + lo2 + b = s.getD i 0 + Mx.B * b') :
    Mx.val (out ++ [lo]) + x * Mx.val (l.take (i + 1)) = Mx.val (s.take (i + 1)) + Mx.B ^ (i + 1) * (b' + c') := by
  rw [Mx.val_append, Mx.val_one, hl, Mx.val_take_succ, Mx.val_take_succ, Nat.pow_succ, Nat.mul_assoc, ← hy]
  have e1 : x * (Mx.val (l.take i) + Mx.B ^ i * y) = x * Mx.val (l.take i) + Mx.B ^ i * (y * x) := by rw [Nat.mul_add, Nat.mul_left_comm x, Nat.mul_comm x y]
  have e2 : Mx.B ^ i * (lo + y * x + (b + c)) = Mx.B ^ i * (s.getD i 0 + Mx.B * (b' + c')) := by congr 1; rw [Nat.mul_add]; omega
  rw [e1]
  simp only [Nat.mul_add] at e2 hv ⊢
  omega
theorem sub_last {s l out : List Nat} {n c b lo b' x : Nat} (hn : n = l.length) (hl : out.length = n) (hv : Mx.val out + x * Mx.val (l.take n) = Mx.val (s.take n) + Mx.B ^ n * (b + c)) (h2 : lo + c + b = s.getD n 0 + Mx.B * b') :
    Mx.val (out ++ [lo]) + x * Mx.val l = Mx.val (s.take (n + 1)) + Mx.B ^ (n + 1) * b' := by
  rw [Mx.val_append, Mx.val_one, hl, Mx.val_take_succ, Nat.pow_succ, Nat.mul_assoc]
  rw [hn, List.take_length, ← hn] at hv
  have e2 : Mx.B ^ n * (lo + (b + c)) = Mx.B ^ n * (s.getD n 0 + Mx.B * b') := by congr 1; omega
  simp only [Nat.mul_add] at e2 hv ⊢
  omega
theorem take_zero_more (l : List Nat) (n : Nat) (hn : n = l.length) : Mx.val (l.take (n + 1)) = Mx.val l ∧ Mx.val (l.take n) = Mx.val l ∧ l.getD n 0 = 0 := by
  subst hn
  refine ⟨by rw [List.take_of_length_le (by omega)], by rw [List.take_length], by simp [List.getD_eq_getElem?_getD]⟩

theorem snoc_lt {out : List Nat} {y : Nat} (h : ∀ x ∈ out, x < Mx.B) (hy : y < Mx.B) : ∀ x ∈ out ++ [y], x < Mx.B := by
  intro z hz
  rcases List.mem_append.1 hz with hz | hz
  · exact h z hz
  · rw [List.mem_singleton.1 hz]; exact hy


theorem sub_word {y x c : Nat} (hy : y < Mx.B) (hx : x < Mx.B) (hc : c < Mx.B) :
    Mx.addLo (Mx.mulLo y x) c 0 + Mx.B * (Mx.mulHi y x + Mx.addHi (Mx.mulLo y x) c 0) = y * x + c ∧ Mx.mulHi y x + Mx.addHi (Mx.mulLo y x) c 0 < Mx.B := by
  have h1 : Mx.mulLo y x + Mx.B * Mx.mulHi y x = y * x := Nat.mod_add_div _ _
  have h2 := Mx.add_split (Mx.mulLo y x) c 0
  have e : Mx.addLo (Mx.mulLo y x) c 0 + Mx.B * (Mx.mulHi y x + Mx.addHi (Mx.mulLo y x) c 0) = y * x + c := by rw [Nat.mul_add]; omega
  refine ⟨e, ?_⟩
  have h3 := Mx.mac_bound hy hx hc Mx.B_pos
  rw [Nat.add_zero, ← e] at h3
  exact Nat.lt_of_mul_lt_mul_left (a := Mx.B) (by omega)

end Go.Proofs.YtmklkjjnkejakaaDoor

/- Contracts of the library: math/bits.LeadingZeros64; math/bits.Div64 by a divisor whose first bit is set. -/
namespace Go.Proofs.YtmklkjjnkejakaaDoor
open Go.RowKit


namespace Half
/-- Half a limb. -/
def D : Nat := 4294967296
theorem D_eq : D = 4294967296 := rfl
theorem D_pos : 0 < D := by rw [D_eq]; omega

/-- What is known at the head of the loop that puts a half's guess right: the divisor is h and z, the first one great. -/
structure Inv (u u1 h z q r : Nat) : Prop where
  sum : q * h + r = u
  low : r < D
  top : (u * D + u1) / (h * D + z) ≤ q

variable {u u1 h z q r : Nat}
theorem pos (hh : 0 < h) : 0 < h * D + z := Nat.lt_of_lt_of_le (Nat.mul_pos hh D_pos) (Nat.le_add_right _ _)
theorem first (hh : 0 < h) (hD : h ≤ D) (h1 : u1 < D) : Inv u u1 h z (u / h) (u - u / h * h) := by
  have e1 := Nat.mod_add_div u h
  rw [Nat.mul_comm] at e1
  have e2 : u % h < h := Nat.mod_lt _ hh
  refine ⟨by omega, by omega, ?_⟩
  rw [Nat.le_div_iff_mul_le hh]
  have e3 := Nat.div_mul_le_self (u * D + u1) (h * D + z)
  generalize (u * D + u1) / (h * D + z) = Q at *
  rw [Nat.mul_add, ← Nat.mul_assoc] at e3
  have e4 : Q * h * D < (u + 1) * D := by rw [Nat.succ_mul]; omega
  have := Nat.lt_of_mul_lt_mul_right e4
  omega
theorem stay (hh : 0 < h) (I : Inv u u1 h z q r) (ht : q * z ≤ D * r + u1) : (u * D + u1) / (h * D + z) = q := by
  apply Nat.le_antisymm I.top
  rw [Nat.le_div_iff_mul_le (pos hh), Nat.mul_add, ← Nat.mul_assoc, ← I.sum, Nat.add_mul, Nat.mul_comm r D]
  omega
theorem over (hh : 0 < h) (hu : u < h * D + z) (h1 : u1 < D) (I : Inv u u1 h z q r) (ht : D ≤ q ∨ D * r + u1 < q * z) : (u * D + u1) / (h * D + z) < q := by
  rw [Nat.div_lt_iff_lt_mul (pos hh)]
  rcases ht with ht | ht
  · have e1 : (u + 1) * D ≤ (h * D + z) * D := Nat.mul_le_mul_right _ hu
    have e2 : D * (h * D + z) ≤ q * (h * D + z) := Nat.mul_le_mul_right _ ht
    rw [Nat.succ_mul] at e1
    rw [Nat.mul_comm D] at e2
    omega
  · rw [Nat.mul_add, ← Nat.mul_assoc, ← I.sum, Nat.add_mul, Nat.mul_comm r D]
    omega
theorem next (hh : 0 < h) (hu : u < h * D + z) (h1 : u1 < D) (I : Inv u u1 h z q r) (ht : D ≤ q ∨ D * r + u1 < q * z) (hr : r + h < D) : Inv u u1 h z (q - 1) (r + h) := by
  have ho := over hh hu h1 I ht
  refine ⟨?_, hr, by omega⟩
  have e := I.sum
  have hq0 : 0 < q := Nat.lt_of_le_of_lt (Nat.zero_le _) ho
  obtain ⟨k, rfl⟩ : ∃ k, q = k + 1 := ⟨q - 1, by omega⟩
  rw [Nat.succ_mul] at e
  rw [Nat.add_sub_cancel]
  omega
theorem done (hh : 2147483648 ≤ h) (hz : z < D) (hu : u < h * D + z) (h1 : u1 < D) (I : Inv u u1 h z q r) (ht : D ≤ q ∨ D * r + u1 < q * z) (hr : D ≤ r + h) : (u * D + u1) / (h * D + z) = q - 1 := by
  have ho := over (by omega) hu h1 I ht
  apply Nat.le_antisymm (by omega)
  have e := I.sum
  have hq0 : 0 < q := Nat.lt_of_le_of_lt (Nat.zero_le _) ho
  obtain ⟨k, rfl⟩ : ∃ k, q = k + 1 := ⟨q - 1, by omega⟩
  rw [Nat.succ_mul] at e
  rw [Nat.add_sub_cancel, Nat.le_div_iff_mul_le (pos (by omega)), Nat.mul_add, ← Nat.mul_assoc]
  have hk : k ≤ D + 1 := by
    rcases Nat.lt_or_ge (D + 1) k with hlt | hge
    · exfalso
      have e2 : (D + 2) * h ≤ k * h := Nat.mul_le_mul_right _ hlt
      rw [Nat.add_mul, Nat.mul_comm D h] at e2
      rw [D_eq] at hz
      omega
    · exact hge
  have e3 : k * z ≤ (D + 1) * (D - 1) := Nat.mul_le_mul hk (by omega)
  have e4 : (k * h) * D + (r + h) * D = u * D := by rw [← Nat.add_mul]; congr 1; omega
  have e5 : D * D ≤ (r + h) * D := Nat.mul_le_mul_right _ hr
  have e6 : (D + 1) * (D - 1) ≤ D * D := by rw [D_eq]; decide
  omega
/-- Two halves of the quotient. -/
theorem both (y v u0 : Nat) (hy : 0 < y) : (v * D + u0) / y = v / y * D + ((v % y) * D + u0) / y := by
  have e : v * D + u0 = ((v % y) * D + u0) + y * (v / y * D) := by
    have := Nat.mod_add_div v y
    rw [← Nat.mul_assoc]
    calc v * D + u0 = (v % y + y * (v / y)) * D + u0 := by rw [this]
      _ = _ := by rw [Nat.add_mul]; omega
  rw [e, Nat.add_mul_div_left _ _ hy, Nat.add_comm]
end Half

/-- The words of the walk, put together. -/
theorem div_rest (u u1 y Q : Nat) (hy : y < Mx.B) (hy0 : 0 < y) (hQ : (u * Half.D + u1) / y = Q) :
    IntKind.u64.wrap (IntKind.u64.wrap (IntKind.u64.wrap ((u : Int) * 4294967296) + (u1 : Int)) - IntKind.u64.wrap ((Q : Int) * (y : Int))) = (((u * Half.D + u1) % y : Nat) : Int) := by
  have h1 := Nat.mod_add_div (u * Half.D + u1) y
  have h2 := Nat.mod_lt (u * Half.D + u1) hy0
  rw [hQ] at h1
  rw [Half.D_eq] at *
  rw [Mx.B_eq] at hy
  simp only [IntKind.wrap_u64]
  have e : (Q : Int) * (y : Int) = ((y * Q : Nat) : Int) := by rw [Int.natCast_mul, Int.mul_comm]
  rw [e]
  omega

end Go.Proofs.YtmklkjjnkejakaaDoor

/- Contracts of package quot: guess, takeOff. -/
namespace Go.Proofs.YtmklkjjnkejakaaDoor
open Go.RowKit

theorem only_drewN {w w' : World} {g : Nat} (h : w.grownBy w' (some g)) (n : Nat) : w.grownBy (w'.drewN n) (some g) := ⟨h.os, h.tape, h.output, h.size, h.block⟩
theorem only_trans {a b c : World} {g : Nat} (h : a.grownBy b (some g)) (k : b.grownBy c (some g)) : a.grownBy c (some g) :=
  ⟨k.os.trans h.os, k.tape.trans h.tape, k.output.trans h.output, Nat.le_trans h.size k.size, fun i hi hne => (k.block i (Nat.lt_of_lt_of_le hi h.size) hne).trans (h.block i hi hne)⟩

theorem quiet_more {P : Program} {f : FuncId} {args : Array Value} {w : World} {n : Nat} {v : Value}
    (h : Calls P f args (w.drewN n) fun e w' => e = .returned v ∧ ∃ m, w' = (w.drewN n).drewN m) : Calls P f args (w.drewN n) fun e w'' => e = .returned v ∧ ∃ m, w'' = w.drewN m :=
  h.mono fun _ _ ⟨he, m, hm⟩ => ⟨he, n + m, hm.trans (by simp [World.drewN, Nat.add_assoc])⟩

/-- How often y goes into two limbs, but no more than a limb can be. -/
def gss (hi lo y : Nat) : Nat := if y ≤ hi then 18446744073709551615 else (hi * Mx.B + lo) / y
theorem gss_lt {hi lo y : Nat} (hlo : lo < Mx.B) : gss hi lo y < Mx.B := by
  unfold gss
  split
  · rw [Mx.B_eq]; omega
  · rw [Nat.div_lt_iff_lt_mul (by omega)]
    have e1 : (hi + 1) * Mx.B ≤ y * Mx.B := Nat.mul_le_mul_right _ (by omega)
    rw [Nat.succ_mul] at e1
    rw [Nat.mul_comm Mx.B y]
    omega
theorem gss_top {hi lo y q : Nat} (hy : 0 < y) (hq : q < Mx.B) (h : q * y ≤ hi * Mx.B + lo) : q ≤ gss hi lo y := by
  unfold gss
  split
  · rw [Mx.B_eq] at hq; omega
  · exact (Nat.le_div_iff_mul_le hy).2 h


/-- A guess by the first limbs is never too small. -/
theorem guess_top {s l : List Nat} {n q : Nat} (hl : l.length = n + 1) (hs : ∀ x ∈ s, x < Mx.B) (hq : q * Mx.val l ≤ Mx.val (s.take (n + 2))) : q * l.getD n 0 ≤ s.getD (n + 1) 0 * Mx.B + s.getD n 0 := by
  have e1 : Mx.val l = Mx.val (l.take n) + Mx.B ^ n * l.getD n 0 := by
    rw [← Mx.val_take_succ, List.take_of_length_le (by omega)]
  have e2 : Mx.val (s.take n) < Mx.B ^ n := by
    refine Nat.lt_of_lt_of_le (Mx.val_lt (s.take n) (fun x hx => hs x (List.mem_of_mem_take hx))) (Nat.pow_le_pow_right Mx.B_pos ?_)
    rw [List.length_take]; omega
  rw [Mx.val_take_succ, Mx.val_take_succ, e1, Nat.pow_succ] at hq
  generalize l.getD n 0 = y at *
  generalize s.getD n 0 = lo at *
  generalize s.getD (n + 1) 0 = hi at *
  have e3 : Mx.B ^ n * (q * y) < Mx.B ^ n * (hi * Mx.B + lo + 1) := by
    have e4 : Mx.B ^ n * (q * y) ≤ q * (Mx.val (l.take n) + Mx.B ^ n * y) := by
      rw [Nat.mul_add, Nat.mul_left_comm q]
      exact Nat.le_add_left _ _
    have e5 : Mx.B ^ n * (hi * Mx.B + lo + 1) = Mx.B ^ n * Mx.B * hi + Mx.B ^ n * lo + Mx.B ^ n := by
      rw [Nat.mul_add, Nat.mul_add, Nat.mul_one, Nat.mul_assoc, Nat.mul_comm Mx.B hi]
    omega
  have := Nat.lt_of_mul_lt_mul_left e3
  omega

/-- What is known of takeOff's window while a guess is put right: so often was the divisor taken off, and it was too often, or not. -/
structure Off (V b P t : Nat) (s : Bool) (r : Nat) : Prop where
  sum : r + t * b = V + P * s.toNat
  low : r < P
  top : V / b ≤ t

theorem Off.first {V b P t r br : Nat} (hbr : br ≤ 1) (hs : r + t * b = V + P * br) (hl : r < P) (ht : V / b ≤ t) : Off V b P t ((br : Int) != 0) r := by
  refine ⟨?_, hl, ht⟩
  rcases Nat.eq_zero_or_pos br with h | h
  · subst h; simpa using hs
  · obtain rfl : br = 1 := by omega
    simpa using hs
theorem Off.over {V b P t r : Nat} (hb : 0 < b) (h : Off V b P t true r) : V / b < t := by
  rw [Nat.div_lt_iff_lt_mul hb]
  have h1 := h.sum
  have h2 := h.low
  simp only [Bool.toNat_true, Nat.mul_one] at h1
  omega
theorem Off.next {V b P t r r' c : Nat} (hb : 0 < b) (h : Off V b P t true r) (hc : c ≤ 1) (hr : r' + P * c = r + b) (hl : r' < P) : Off V b P (t - 1) (!((c : Int) != 0)) r' := by
  have h0 := h.over hb
  have h1 := h.sum
  simp only [Bool.toNat_true, Nat.mul_one] at h1
  have hpos : 0 < t := Nat.lt_of_le_of_lt (Nat.zero_le _) h0
  obtain ⟨k, rfl⟩ : ∃ k, t = k + 1 := ⟨t - 1, by omega⟩
  rw [Nat.succ_mul] at h1
  refine ⟨?_, hl, by omega⟩
  rw [Nat.add_sub_cancel]
  rcases Nat.eq_zero_or_pos c with hc0 | hc0
  · subst hc0
    simp at hr ⊢
    omega
  · obtain rfl : c = 1 := by omega
    simp at hr ⊢
    omega
theorem Off.done {V b P t r : Nat} (hb : 0 < b) (h : Off V b P t false r) : t = V / b ∧ r = V % b := by
  have h1 := h.sum
  simp only [Bool.toNat_false, Nat.mul_zero, Nat.add_zero] at h1
  have h2 : t ≤ V / b := (Nat.le_div_iff_mul_le hb).2 (by omega)
  have h3 : t = V / b := Nat.le_antisymm h2 h.top
  refine ⟨h3, ?_⟩
  have h4 := Nat.mod_add_div V b
  rw [← h3, Nat.mul_comm] at h4
  omega

theorem patch_patch {L r s : List Nat} {o : Nat} (h : r.length = s.length) (hL : o + r.length ≤ L.length) : Mx.patch (Mx.patch L o r) o s = Mx.patch L o s := by
  unfold Mx.patch
  have h1 : (L.take o).length = o := by rw [List.length_take]; omega
  rw [List.append_assoc (L.take o) r, List.take_append_of_le_length (by omega), List.take_of_length_le (by omega)]
  congr 1
  rw [List.drop_append, h1, List.drop_of_length_le (by omega), List.nil_append, ← h, List.drop_append]
  simp
theorem patch_window {L r : List Nat} {o : Nat} (hL : o + r.length ≤ L.length) : ((Mx.patch L o r).drop o).take r.length = r := by
  unfold Mx.patch
  have h1 : (L.take o).length = o := by rw [List.length_take]; omega
  rw [List.append_assoc, List.drop_append, h1, List.drop_of_length_le (by omega), List.nil_append, Nat.sub_self, List.drop_zero, List.take_append_of_le_length (Nat.le_refl _), List.take_length]
theorem patch_lt {L r : List Nat} {o : Nat} (hL : ∀ y ∈ L, y < Mx.B) (hr : ∀ y ∈ r, y < Mx.B) : ∀ y ∈ Mx.patch L o r, y < Mx.B := by
  intro y hy
  unfold Mx.patch at hy
  rcases List.mem_append.1 hy with hy | hy
  · rcases List.mem_append.1 hy with hy | hy
    · exact hL y (List.mem_of_mem_take hy)
    · exact hr y hy
  · exact hL y (List.mem_of_mem_drop hy)
end Go.Proofs.YtmklkjjnkejakaaDoor

/- Contracts of package quot: takeOff. -/
namespace Go.Proofs.YtmklkjjnkejakaaDoor
open Go.RowKit

end Go.Proofs.YtmklkjjnkejakaaDoor

/- Contracts of package quot: Div. -/
namespace Go.Proofs.YtmklkjjnkejakaaDoor
open Go.RowKit

/-- What they hold in a later world: the two numbers, and the results' places. -/
structure DivB (w W : World) (A : Option Addr) (n c : Nat) (D : Option Addr) (m d : Nat) : Prop where
  c0 : W.cell? ⟨w.heap.size, 0, none⟩ = some (.slice A n c)
  c1 : W.cell? ⟨w.heap.size + 1, 0, none⟩ = some (.slice D m d)
  c2 : W.cell? ⟨w.heap.size + 1 + 1, 0, none⟩ = some (.slice none 0 0)
  c3 : W.cell? ⟨w.heap.size + 1 + 1 + 1, 0, none⟩ = some (.slice none 0 0)
  f2 : W.frozen? ⟨w.heap.size + 1 + 1, 0, none⟩ = false
  f3 : W.frozen? ⟨w.heap.size + 1 + 1 + 1, 0, none⟩ = false

/-- Div's answer. -/
def DivRet (n m : Nat) (v : Value) (w' : World) : Prop := ∃ q r, v = .tuple #[q, r, .int .i64 0] ∧ IsNat w' q (n / m) ∧ IsNat w' r (n % m)

theorem IsNat.store {w : World} {v : Value} {n : Nat} (h : IsNat w v n) {p : Addr} {A' : Option Addr} {k c : Nat} (hp : w.cell? p = some (.slice A' k c)) (u : Value) : IsNat (w.setCell p u) v n := by
  obtain ⟨A, c, e, hc, hl⟩ := h
  exact ⟨A, c, e, hc, hl.store hp u⟩
theorem IsNat.none (w : World) : IsNat w (.agg #[.slice Option.none 0 0]) 0 := ⟨Option.none, 0, rfl, Nat.le_refl _, Cells.nil _ _⟩
/-- The two results' places, written one after the other. -/
theorem two_set {W : World} {k : Nat} {A B A' B' : Option Addr} {n m n' m' c d c' d' : Nat} (h2 : W.cell? ⟨k, 0, none⟩ = some (.slice A n c)) (h3 : W.cell? ⟨k + 1, 0, none⟩ = some (.slice B m d)) :
    ((W.setCell ⟨k, 0, none⟩ (.slice A' n' c')).setCell ⟨k + 1, 0, none⟩ (.slice B' m' d')).cell? ⟨k, 0, none⟩ = some (.slice A' n' c') ∧
    ((W.setCell ⟨k, 0, none⟩ (.slice A' n' c')).setCell ⟨k + 1, 0, none⟩ (.slice B' m' d')).cell? ⟨k + 1, 0, none⟩ = some (.slice B' m' d') ∧
    (W.setCell ⟨k, 0, none⟩ (.slice A' n' c')).cell? ⟨k + 1, 0, none⟩ = some (.slice B m d) := by
  have e1 : (W.setCell ⟨k, 0, none⟩ (.slice A' n' c')).cell? ⟨k + 1, 0, none⟩ = some (.slice B m d) := by
    rw [World.cell?_setCell_other _ _ _ _ (by intro e; injection e with e; omega)]; exact h3
  refine ⟨?_, ?_, e1⟩
  · rw [World.cell?_setCell_other _ _ _ _ (by intro e; injection e with e; omega)]
    simp [go_sem, h2]
  · simp [go_sem, e1]


end Go.Proofs.YtmklkjjnkejakaaDoor

/- Contracts of package quot: Div of a number that is no less. -/
namespace Go.Proofs.YtmklkjjnkejakaaDoor
open Go.RowKit
set_option maxRecDepth 20000


/-- What is known behind the two calls of Limbs. -/
def DivC (w : World) (n m : Nat) (v7 v8 : Value) (W : World) : Prop :=
  ∃ A7 A8, v7 = .slice A7 (Mx.len n) (Mx.len n) ∧ v8 = .slice A8 (Mx.len m) (Mx.len m) ∧ Cells W A7 (Mx.limbs n) ∧ Cells W A8 (Mx.limbs m) ∧ Grow w W
theorem set_zero (j x : Nat) (qs : List Nat) : (List.replicate (j + 1) 0 ++ qs).set j x = List.replicate j 0 ++ x :: qs := by
  rw [List.replicate_succ', List.append_assoc, List.singleton_append]
  exact set_at _ _ _ _ _ (List.length_replicate ..)



end Go.Proofs.YtmklkjjnkejakaaDoor

/- Contracts of package quot: Shl, Shr, gcdOfLimbs. -/
namespace Go.Proofs.YtmklkjjnkejakaaDoor
open Go.RowKit
set_option maxRecDepth 20000


/-- A shift's answer. -/
def ShRet (x : Nat) (v : Value) (w' : World) : Prop := ∃ u, v = .tuple #[u, .int .i64 0] ∧ IsNat w' u x



/-- Out of bounds. -/
def ShBad (v : Value) (w' : World) : Prop := ∃ u, v = .tuple #[u, .int .i64 2] ∧ IsNat w' u 0
theorem bad_split {k : Int} (h : k < 0 ∨ 262144 < k) : (decide (k < 0) = true) ∨ (decide (k < 0) = false ∧ decide (262144 < k) = true) := by
  by_cases h0 : k < 0
  · exact .inl (decide_eq_true h0)
  · exact .inr ⟨decide_eq_false h0, decide_eq_true (by omega)⟩

end Go.Proofs.YtmklkjjnkejakaaDoor

/- Contracts of package quot: Gcd, where what lessen does is known. -/
namespace Go.Proofs.YtmklkjjnkejakaaDoor
open Go.RowKit
set_option maxRecDepth 20000

/-- What lessen leaves of two numbers. -/
def LessRet (a b : Nat) (v : Value) (w' : World) : Prop := ∃ x y a' b', v = .tuple #[x, y] ∧ IsNat w' x a' ∧ IsNat w' y b' ∧ b' ≤ a' ∧ a' ≤ a ∧ b' < b ∧ Nat.gcd a' b' = Nat.gcd a b

/-- What is known of Gcd's variables: they hold a and b, the greater one first. -/
structure GcdS (w : World) (n m a b : Nat) (A : Option Addr) (c : Nat) (D : Option Addr) (d : Nat) (W : World) : Prop where
  c0 : W.cell? ⟨w.heap.size, 0, none⟩ = some (.slice A (Mx.len a) c)
  f0 : W.frozen? ⟨w.heap.size, 0, none⟩ = false
  c1 : W.cell? ⟨w.heap.size + 1, 0, none⟩ = some (.slice D (Mx.len b) d)
  f1 : W.frozen? ⟨w.heap.size + 1, 0, none⟩ = false
  c2 : W.cell? ⟨w.heap.size + 1 + 1, 0, none⟩ = some (.slice none 0 0)
  f2 : W.frozen? ⟨w.heap.size + 1 + 1, 0, none⟩ = false
  na : IsNat W (.agg #[.slice A (Mx.len a) c]) a
  nb : IsNat W (.agg #[.slice D (Mx.len b) d]) b
  gw : Grow w W
  le : b ≤ a
  top : a ≤ max n m
  gcd : Nat.gcd a b = Nat.gcd n m
theorem GcdS.grow {w W W' : World} {n m a b c d : Nat} {A D : Option Addr} (h : GcdS w n m a b A c D d W) (g : Grow W W') : GcdS w n m a b A c D d W' :=
  ⟨g.cells1 h.c0, (Below.frozen g (lt_of_cell' h.c0)).trans h.f0, g.cells1 h.c1, (Below.frozen g (lt_of_cell' h.c1)).trans h.f1, g.cells1 h.c2, (Below.frozen g (lt_of_cell' h.c2)).trans h.f2, h.na.grow g, h.nb.grow g, h.gw.trans g, h.le, h.top, h.gcd⟩
theorem GcdS.next {w W : World} {n m a b c d a' b' c' d' : Nat} {A D A' D' : Option Addr} (h : GcdS w n m a b A c D d W) (hx : IsNat W (.agg #[.slice A' (Mx.len a') c']) a') (hy : IsNat W (.agg #[.slice D' (Mx.len b') d']) b') (h1 : b' ≤ a') (h2 : a' ≤ max n m) (h3 : Nat.gcd a' b' = Nat.gcd n m) :
    GcdS w n m a' b' A' c' D' d' ((W.setCell ⟨w.heap.size, 0, none⟩ (.slice A' (Mx.len a') c')).setCell ⟨w.heap.size + 1, 0, none⟩ (.slice D' (Mx.len b') d')) := by
  obtain ⟨s1, s2, s3⟩ := two_set (A' := A') (B' := D') (n' := Mx.len a') (m' := Mx.len b') (c' := c') (d' := d') h.c0 h.c1
  refine ⟨s1, ?_, s2, ?_, ?_, ?_, (hx.store h.c0 _).store s3 _, (hy.store h.c0 _).store s3 _, (h.gw.setCell (Nat.le_refl _) _).setCell (by show w.heap.size ≤ w.heap.size + 1; omega) _, h1, h2, h3⟩
  · simpa using h.f0
  · simpa using h.f1
  · rw [World.cell?_setCell_other _ _ _ _ (by intro e; injection e with e; omega), World.cell?_setCell_other _ _ _ _ (by intro e; injection e with e; omega)]; exact h.c2
  · simpa using h.f2


end Go.Proofs.YtmklkjjnkejakaaDoor

/- Layer 2's contracts with a bound of limbs, for callers; as steps of a region whose order is open. -/
namespace Go.Proofs.YtmklkjjnkejakaaDoor
open Go.RowKit
set_option maxRecDepth 20000

theorem len_shl (n s : Nat) : Mx.len (n * 2 ^ s) ≤ Mx.len n + s / 64 + 1 := by
  apply Mx.len_le_of_lt
  have h1 := Mx.lt_pow_len n
  have h2 : n * 2 ^ s < Mx.B ^ Mx.len n * 2 ^ s := Nat.mul_lt_mul_of_pos_right h1 (Mx.pow2_pos _)
  have h3 : Mx.B ^ Mx.len n * 2 ^ s ≤ Mx.B ^ Mx.len n * Mx.B ^ (s / 64 + 1) := Nat.mul_le_mul_left _ (by rw [Mx.B_pow]; exact Nat.pow_le_pow_right (by omega) (by omega))
  rw [← Nat.pow_add] at h3
  exact Nat.lt_of_lt_of_le h2 h3

namespace Rg
section
variable {ops : Array Oper} {Q : Exit → Act → World → Prop} {F : Facts} {a0 : Act} {w0 : World}
theorem eqlE {i d x : Nat} {m c : Int} {b : Bool} (dx : depI ops i x = true) (hx : ∀ w v, F x w v → v = .int .i64 m) (hb : (m == c) = b) (hF : ∀ w v, v = .bool b → F d w v) :
    Owes Tryd.prog ops Q F a0 w0 i (some d) (.binOp .eql 28 (.tmp x) (.const (.int .i64 c)) 28) :=
  fun o a w ho hd hg ha D => valOf (v := .bool b) (w' := w) (by
    have e : a.tmps.getD x undef = .int .i64 m := hx _ _ (D x dx)
    subst hb
    simp only [Array.getD_eq_getD_getElem?] at e
    simp [execOp, ho, go_sem, Act.eval, e]) hd (hF _ _ rfl) (Grow.refl w)
theorem lssI {i d x : Nat} {m c : Int} {b : Bool} (dx : depI ops i x = true) (hx : ∀ w v, F x w v → v = .int .i64 m) (hb : decide (m < c) = b) (hF : ∀ w v, v = .bool b → F d w v) :
    Owes Tryd.prog ops Q F a0 w0 i (some d) (.binOp .lss 3 (.tmp x) (.const (.int .i64 c)) 3) :=
  fun o a w ho hd hg ha D => valOf (v := .bool b) (w' := w) (by
    have e : a.tmps.getD x undef = .int .i64 m := hx _ _ (D x dx)
    subst hb
    simp only [Array.getD_eq_getD_getElem?] at e
    simp [execOp, ho, go_sem, Act.eval, e]) hd (hF _ _ rfl) (Grow.refl w)
end
end Rg
end Go.Proofs.YtmklkjjnkejakaaDoor

/- Steps of a region that makes variables of type Nat: quot.Div. -/
namespace Go.Proofs.YtmklkjjnkejakaaDoor
open Go.RowKit

theorem IsN.store {w : World} {v : Value} {n b : Nat} (h : IsN w v n b) {p : Addr} {A' : Option Addr} {k c : Nat} (hp : w.cell? p = some (.slice A' k c)) (u : Value) : IsN (w.setCell p u) v n b := ⟨h.1.store hp u, h.2⟩
/-- A quotient, a rest, and no error. -/
def IsQR (w : World) (v : Value) (q r j k : Nat) : Prop := ∃ x y, v = .tuple #[x, y, .int .i64 0] ∧ IsN w x q j ∧ IsN w y r k
theorem IsQR.grow {w w' : World} {v : Value} {q r j k : Nat} (h : IsQR w v q r j k) (g : Grow w w') : IsQR w' v q r j k := by
  obtain ⟨x, y, e, h1, h2⟩ := h
  exact ⟨x, y, e, h1.grow g, h2.grow g⟩
theorem IsQR.store {w : World} {v : Value} {q r j b : Nat} (h : IsQR w v q r j b) {p : Addr} {A' : Option Addr} {k c : Nat} (hp : w.cell? p = some (.slice A' k c)) (u : Value) : IsQR (w.setCell p u) v q r j b := by
  obtain ⟨x, y, e, h1, h2⟩ := h
  exact ⟨x, y, e, h1.store hp u, h2.store hp u⟩

namespace Rg
section
variable {ops : Array Oper} {Q : Exit → Act → World → Prop} {F : Facts} {a0 : Act} {w0 : World} {V : VS}
theorem extract0 {i d x q r j k : Nat} (dx : depI ops i x = true) (hx : ∀ w v, F x w v → IsQR w v q r j k) (hF : ∀ w v, IsN w v q j → F d w v) : Owes Tryd.prog ops Q F a0 w0 i (some d) (.extract (.tmp x) 0) :=
  fun o a w ho hd hg ha D => by
    obtain ⟨u, z, e, h1, h2⟩ := hx _ _ (D x dx)
    refine valOf (v := u) (w' := w) ?_ hd (hF _ _ h1) (Grow.refl w)
    simp only [Array.getD_eq_getD_getElem?] at e
    simp [execOp, ho, go_sem, Act.eval, e]
theorem extract1 {i d x q r j k : Nat} (dx : depI ops i x = true) (hx : ∀ w v, F x w v → IsQR w v q r j k) (hF : ∀ w v, IsN w v r k → F d w v) : Owes Tryd.prog ops Q F a0 w0 i (some d) (.extract (.tmp x) 1) :=
  fun o a w ho hd hg ha D => by
    obtain ⟨u, z, e, h1, h2⟩ := hx _ _ (D x dx)
    refine valOf (v := z) (w' := w) ?_ hd (hF _ _ h2) (Grow.refl w)
    simp only [Array.getD_eq_getD_getElem?] at e
    simp [execOp, ho, go_sem, Act.eval, e]
theorem extract2 {i d x q r j k : Nat} (dx : depI ops i x = true) (hx : ∀ w v, F x w v → IsQR w v q r j k) (hF : ∀ w v, v = .int .i64 0 → F d w v) : Owes Tryd.prog ops Q F a0 w0 i (some d) (.extract (.tmp x) 2) :=
  fun o a w ho hd hg ha D => by
    obtain ⟨u, z, e, h1, h2⟩ := hx _ _ (D x dx)
    refine valOf (v := .int .i64 0) (w' := w) ?_ hd (hF _ _ rfl) (Grow.refl w)
    simp only [Array.getD_eq_getD_getElem?] at e
    simp [execOp, ho, go_sem, Act.eval, e]

/-- A step of Rg as a step among variables. -/
theorem step4N {i : Nat} {dst : Option Nat} {op : Op} (h : info ops i = some (dst, op, none)) (hal : ∀ d, (V.al.map (·.2)).contains d = true → ∀ w v, F d w v) (hs : Owes Tryd.prog ops Q F a0 w0 i dst op) : Step4 ops Q (fun d _ w v => F d w v) V [] a0 w0 i := by
  intro o ho a w hg ha hd
  obtain ⟨h1, h2, h3⟩ := info_parts h ho
  refine run_wanted ho (by simp [Region.wanted, h3]) (hs o a w h2 h1 hg.toGrow ha fun d hdi => ?_)
  cases hc : (V.al.map (·.2)).contains d with
  | true => exact hal d hc _ _
  | false => exact hd d (by rw [← depI_eq ho]; exact hdi) hc
end
end Rg

end Go.Proofs.YtmklkjjnkejakaaDoor
