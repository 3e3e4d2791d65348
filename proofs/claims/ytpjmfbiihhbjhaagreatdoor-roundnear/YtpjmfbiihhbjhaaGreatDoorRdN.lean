/- Plain mathematics of RoundNear: how far what is rounded lies from the fraction. -/
import Derived.Test.YtpjmfbiihhbjhaaGreatDoorRdB
namespace Go.Proofs.YtpjmfbiihhbjhaaGreatDoor
open Go.RowKit
theorem rnd_bounds (m : Int) (n d : Nat) (hd : 0 < d) : (n < rndN m n d * d + d ∧ rndN m n d * d < n + d) ∧ (2 ≤ m → 2 * (rndN m n d * d) ≤ 2 * n + d ∧ 2 * n ≤ 2 * (rndN m n d * d) + d) ∧ (m = 0 → rndN m n d * d ≤ n) ∧ (m = 1 → n ≤ rndN m n d * d) ∧ (d = 1 → rndN m n d = n) := by
  have h1 := Nat.div_add_mod n d
  have h2 := Nat.mod_lt n hd
  have hc := Nat.mul_comm d (n / d)
  unfold rndN
  cases hu : upB m n d with
  | true =>
    simp only [if_true]
    unfold upB at hu
    simp only [Bool.and_eq_true, decide_eq_true_eq] at hu
    obtain ⟨hr, hu⟩ := hu
    have e : (n / d + 1) * d = n / d * d + d := by rw [Nat.add_mul, Nat.one_mul]
    rw [e]
    refine ⟨⟨by omega, by omega⟩, fun hm => ⟨?_, by omega⟩, fun hm => ?_, fun _ => by omega, fun hd1 => ?_⟩
    · have : d ≤ n % d + n % d := by
        unfold raisesB at hu
        rw [if_neg (by omega), if_neg (by omega)] at hu
        split at hu
        · omega
        · have := of_decide_eq_true hu; omega
      omega
    · rw [raises_0 hm] at hu; cases hu
    · subst hd1; rw [Nat.mod_one] at hr; exact absurd rfl hr
  | false =>
    simp only [Bool.false_eq_true, if_false]
    refine ⟨⟨by omega, by omega⟩, fun hm => ⟨by omega, ?_⟩, fun _ => by omega, fun hm => ?_, fun hd1 => by subst hd1; exact Nat.div_one n⟩
    · by_cases hr : n % d = 0
      · omega
      · rw [upB_1 hr] at hu
        unfold raisesB at hu
        rw [if_neg (by omega), if_neg (by omega)] at hu
        split at hu
        · omega
        · have := of_decide_eq_false hu; omega
    · by_cases hr : n % d = 0
      · omega
      · rw [upB_1 hr, raises_1 hm] at hu; cases hu
theorem mul_lt_can {x y d : Rat} (hd : 0 < d) (h : x * d < y * d) : x < y :=
  Rat.not_le.1 fun hle => absurd (Rat.mul_le_mul_of_nonneg_right hle (Rat.le_of_lt hd)) (Rat.not_le.2 h)
theorem mul_le_can {x y d : Rat} (hd : 0 < d) (h : x * d ≤ y * d) : x ≤ y :=
  Rat.not_lt.1 fun hlt => absurd (Rat.mul_lt_mul_of_pos_right hlt hd) (Rat.not_lt.2 h)
def absQ (x : Rat) : Rat := if x.num < 0 then -x else x
def dQ (m : Int) (q : Rat) : Rat := ((rndQ m q : Int) : Rat) - q
theorem absQ_of_nonneg {x : Rat} (h : 0 ≤ x) : absQ x = x := by
  rw [absQ, if_neg (by have := Rat.num_nonneg.2 h; omega)]
theorem absQ_neg (x : Rat) : absQ (-x) = absQ x := by
  have e : (-x).num = -x.num := rfl
  unfold absQ
  rw [e]
  by_cases h1 : x.num < 0
  · rw [if_neg (by omega), if_pos h1]
  · by_cases h2 : x.num = 0
    · have : x = 0 := Rat.num_eq_zero.1 h2
      rw [this]; rfl
    · rw [if_pos (by omega), if_neg h1, Rat.neg_neg]
theorem absQ_cases (x : Rat) : (0 ≤ x ∧ absQ x = x) ∨ (0 ≤ -x ∧ absQ x = -x) := by
  rcases Rat.le_total (a := 0) (b := x) with h | h
  · exact .inl ⟨h, absQ_of_nonneg h⟩
  · have h' : 0 ≤ -x := by grind
    exact .inr ⟨h', by rw [← absQ_neg, absQ_of_nonneg h']⟩
theorem absQ_lt {x : Rat} (h : x.num < 0) : absQ x = -x := by rw [absQ, if_pos h]
theorem absQ_ge {x : Rat} (h : ¬ x.num < 0) : absQ x = x := by rw [absQ, if_neg h]
theorem signed_not (n : Nat) (b : Bool) : signed n (!b) = -signed n b := by cases b <;> simp [signed]
theorem rndN_zero (m : Int) (d : Nat) : rndN m 0 d = 0 := by
  rw [← rndN_no (upB_0 (Nat.zero_mod d)), Nat.zero_div]
theorem rndQ_neg (m : Int) (q : Rat) : rndQ m (-q) = -rndQ m q := by
  have e : (-q).num = -q.num := rfl
  have e2 : (-q).den = q.den := rfl
  unfold rndQ
  rw [e, e2, Int.natAbs_neg]
  by_cases h0 : q.num = 0
  · rw [h0]
    show signed (rndN m 0 q.den) _ = -signed (rndN m 0 q.den) _
    rw [rndN_zero]
    rfl
  · have : decide (-q.num < 0) = !decide (q.num < 0) := by
      by_cases h : q.num < 0
      · rw [decide_eq_true h, decide_eq_false (by omega)]; rfl
      · rw [decide_eq_false h, decide_eq_true (by omega)]; rfl
    rw [this, signed_not]
theorem dQ_neg (m : Int) (q : Rat) : dQ m (-q) = -dQ m q := by
  unfold dQ
  rw [rndQ_neg, Rat.intCast_neg]
  grind
/-- All that is asked, of a fraction that isn't below 0. -/
theorem near_pos (m : Int) {q : Rat} (hq : 0 ≤ q) : (-1 < dQ m q ∧ dQ m q < 1) ∧ (2 ≤ m → dQ m q + dQ m q ≤ 1 ∧ -1 ≤ dQ m q + dQ m q) ∧ (q.den = 1 → dQ m q = 0) ∧ (m = 0 → (((rndQ m q).natAbs : Int) : Rat) ≤ q) ∧ (m = 1 → q ≤ (((rndQ m q).natAbs : Int) : Rat)) := by
  have hn : 0 ≤ q.num := Rat.num_nonneg.2 hq
  obtain ⟨⟨a1, a2⟩, hb, hc, hd, he⟩ := rnd_bounds m q.num.natAbs q.den q.den_pos
  have hr : rndQ m q = (rndN m q.num.natAbs q.den : Int) := by
    rw [rndQ, decide_eq_false (by omega)]
    rfl
  have hN : (q.num.natAbs : Int) = q.num := by omega
  generalize rndN m q.num.natAbs q.den = R at *
  have hD : (0 : Rat) < (q.den : Rat) := by
    have := q.den_pos
    exact_mod_cast this
  have hm : q * (q.den : Rat) = ((q.num : Int) : Rat) := by
    have e : q = ((q.num : Int) : Rat) / (((q.den : Nat) : Int) : Rat) := by rw [← Rat.divInt_eq_div, Rat.num_divInt_den]
    have e2 : (((q.den : Nat) : Int) : Rat) = (q.den : Rat) := rfl
    rw [e2] at e
    conv => lhs; lhs; rw [e]
    exact Rat.div_mul_cancel (Rat.ne_of_gt hD)
  have hm2 : q * (q.den : Rat) = ((q.num.natAbs : Nat) : Rat) := by rw [hm, ← hN]; rfl
  have hR : ((rndQ m q : Int) : Rat) = (R : Rat) := by rw [hr]; rfl
  have hA : (((rndQ m q).natAbs : Int) : Rat) = (R : Rat) := by rw [hr]; rfl
  have hdq : dQ m q * (q.den : Rat) = (R : Rat) * (q.den : Rat) - ((q.num.natAbs : Nat) : Rat) := by
    unfold dQ
    rw [hR, Rat.sub_eq_add_neg, Rat.add_mul, Rat.neg_mul, hm2, Rat.sub_eq_add_neg]
  have c1 : ((q.num.natAbs : Nat) : Rat) < (R : Rat) * (q.den : Rat) + (q.den : Rat) := by exact_mod_cast a1
  have c2 : (R : Rat) * (q.den : Rat) < ((q.num.natAbs : Nat) : Rat) + (q.den : Rat) := by exact_mod_cast a2
  refine ⟨⟨mul_lt_can hD ?_, mul_lt_can hD ?_⟩, fun h2 => ⟨mul_le_can hD ?_, mul_le_can hD ?_⟩, fun h1 => ?_, fun h0 => ?_, fun h1 => ?_⟩
  · rw [hdq]; grind
  · rw [hdq]; grind
  · have b1 : 2 * ((R : Rat) * (q.den : Rat)) ≤ 2 * ((q.num.natAbs : Nat) : Rat) + (q.den : Rat) := by exact_mod_cast (hb h2).1
    rw [Rat.add_mul, hdq]; grind
  · have b2 : 2 * ((q.num.natAbs : Nat) : Rat) ≤ 2 * ((R : Rat) * (q.den : Rat)) + (q.den : Rat) := by exact_mod_cast (hb h2).2
    rw [Rat.add_mul, hdq]; grind
  · have e := he h1
    rw [h1] at hdq
    have e1 : ((1 : Nat) : Rat) = 1 := rfl
    rw [e1, Rat.mul_one, Rat.mul_one, e] at hdq
    rw [hdq]; grind
  · rw [hA]
    refine mul_le_can hD ?_
    rw [hm2]
    exact_mod_cast hc h0
  · rw [hA]
    refine mul_le_can hD ?_
    rw [hm2]
    exact_mod_cast hd h1
theorem near_all (m : Int) (q : Rat) : absQ (dQ m q) < 1 ∧ (2 ≤ m → absQ (dQ m q) + absQ (dQ m q) ≤ 1) ∧ (q.den = 1 → absQ (dQ m q) = 0) ∧ (m = 0 → (((rndQ m q).natAbs : Int) : Rat) ≤ absQ q) ∧ (m = 1 → absQ q ≤ (((rndQ m q).natAbs : Int) : Rat)) := by
  have key : ∀ p : Rat, 0 ≤ p → absQ (dQ m p) < 1 ∧ (2 ≤ m → absQ (dQ m p) + absQ (dQ m p) ≤ 1) ∧ (p.den = 1 → absQ (dQ m p) = 0) ∧ (m = 0 → (((rndQ m p).natAbs : Int) : Rat) ≤ absQ p) ∧ (m = 1 → absQ p ≤ (((rndQ m p).natAbs : Int) : Rat)) := by
    intro p hp
    obtain ⟨⟨h1, h2⟩, h3, h4, h5, h6⟩ := near_pos m hp
    rw [absQ_of_nonneg hp]
    refine ⟨?_, fun hm => ?_, fun h => by rw [h4 h]; rfl, h5, h6⟩
    · rcases absQ_cases (dQ m p) with ⟨_, e⟩ | ⟨_, e⟩ <;> rw [e] <;> grind
    · obtain ⟨h7, h8⟩ := h3 hm
      rcases absQ_cases (dQ m p) with ⟨_, e⟩ | ⟨_, e⟩ <;> rw [e] <;> grind
  rcases Rat.le_total (a := 0) (b := q) with h | h
  · exact key q h
  · have := key (-q) (by grind)
    rw [dQ_neg, absQ_neg, absQ_neg, rndQ_neg, Int.natAbs_neg] at this
    exact this
theorem near1 (m : Int) (q : Rat) : decide ((0 : Int) ≤ cmpQ (absQ (dQ m q)) ((1 : Int) : Rat)) = false := by
  rw [cmpQ_lt.2 (show absQ (dQ m q) < ((1 : Int) : Rat) from (near_all m q).1)]; rfl
theorem near2 {m : Int} (q : Rat) (hm : 2 ≤ m) : decide ((0 : Int) < cmpQ (absQ (dQ m q) + absQ (dQ m q)) ((1 : Int) : Rat)) = false := by
  have h : absQ (dQ m q) + absQ (dQ m q) ≤ ((1 : Int) : Rat) := (near_all m q).2.1 hm
  rcases cmpQ_cases (absQ (dQ m q) + absQ (dQ m q)) ((1 : Int) : Rat) with ⟨e, _⟩ | ⟨e, _⟩ | ⟨_, h'⟩
  · rw [e]; rfl
  · rw [e]; rfl
  · exact absurd h (Rat.not_le.2 h')
theorem near3 (m : Int) {q : Rat} (hq : q.den = 1) : (!decide ((Int.sign (absQ (dQ m q)).num : Int) = 0)) = false := by
  rw [(near_all m q).2.2.1 hq]; rfl
theorem near4 (m : Int) (q : Rat) : (!decide ((Int.sign (rndQ m (-q) - -rndQ m q) : Int) = 0)) = false := by
  rw [rndQ_neg, Int.sub_self]; rfl
theorem near5 {m : Int} (q : Rat) (hm : m = 0) : decide ((0 : Int) < cmpQ ((signed (rndQ m q).natAbs false : Int) : Rat) (absQ q)) = false := by
  have h : ((signed (rndQ m q).natAbs false : Int) : Rat) ≤ absQ q := (near_all m q).2.2.2.1 hm
  rcases cmpQ_cases ((signed (rndQ m q).natAbs false : Int) : Rat) (absQ q) with ⟨e, _⟩ | ⟨e, _⟩ | ⟨_, h'⟩
  · rw [e]; rfl
  · rw [e]; rfl
  · exact absurd h (Rat.not_le.2 h')
theorem near6 {m : Int} (q : Rat) (hm : m = 1) : decide (cmpQ ((signed (rndQ m q).natAbs false : Int) : Rat) (absQ q) < (0 : Int)) = false := by
  have h : absQ q ≤ ((signed (rndQ m q).natAbs false : Int) : Rat) := (near_all m q).2.2.2.2 hm
  rcases cmpQ_cases ((signed (rndQ m q).natAbs false : Int) : Rat) (absQ q) with ⟨_, h'⟩ | ⟨e, _⟩ | ⟨e, _⟩
  · exact absurd h (Rat.not_le.2 h')
  · rw [e]; rfl
  · rw [e]; rfl
end Go.Proofs.YtpjmfbiihhbjhaaGreatDoor
