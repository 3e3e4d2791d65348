/- Rounding: plain mathematics; the modes' words. -/
import Derived.Test.YtpjmfbiihhbjhaaGreatDoorFrN
import Derived.Test.YtpjmfbiihhbjhaaGreatDoorZg
namespace Go.Proofs.YtpjmfbiihhbjhaaGreatDoor
open Go.RowKit

/-- Does the mode m go up, from low, with rest of den left? -/
def raisesB (m : Int) (low rest den : Nat) : Bool :=
  if m = 0 then false else if m = 1 then true else if rest + rest = den then decide (m = 2) || (decide (m = 4) && decide (low % 2 ≠ 0)) else decide (den < rest + rest)
def upB (m : Int) (n d : Nat) : Bool := decide (n % d ≠ 0) && raisesB m (n / d) (n % d) d
def rndN (m : Int) (n d : Nat) : Nat := if upB m n d = true then n / d + 1 else n / d
/-- The whole number to which the mode m rounds. -/
def rndQ (m : Int) (q : Rat) : Int := signed (rndN m q.num.natAbs q.den) (decide (q.num < 0))
def tenZ (s : Int) : Int := signed (tenN s) false
theorem rnd_of {m : Int} {q : Rat} {l : Nat} (h : l = rndN m q.num.natAbs q.den) : signed l (decide (Int.sign q.num < 0)) = rndQ m q := by
  have e : decide (q.num < 0) = decide (Int.sign q.num < 0) := decide_eq_decide.2 (by rw [Int.sign_neg_iff])
  rw [h, rndQ, e]
theorem rndN_no {m : Int} {n d : Nat} (h : upB m n d = false) : n / d = rndN m n d := by
  rw [rndN, if_neg (by rw [h]; decide)]
theorem rndN_up {m : Int} {n d : Nat} (h : upB m n d = true) : n / d + 1 = rndN m n d := by
  rw [rndN, if_pos h]
theorem upB_0 {m : Int} {n d : Nat} (h : n % d = 0) : upB m n d = false := by simp [upB, h]
theorem upB_1 {m : Int} {n d : Nat} (h : n % d ≠ 0) : upB m n d = raisesB m (n / d) (n % d) d := by simp [upB, h]
theorem raises_0 {m : Int} {a b c : Nat} (h : m = 0) : raisesB m a b c = false := by simp [raisesB, h]
theorem raises_1 {m : Int} {a b c : Nat} (h : m = 1) : raisesB m a b c = true := by simp [raisesB, h]
theorem raises_ne {m : Int} {a b c : Nat} (h0 : m ≠ 0) (h1 : m ≠ 1) (h : b + b ≠ c) : raisesB m a b c = decide (c < b + b) := by simp [raisesB, h0, h1, h]
theorem raises_2 {m : Int} {a b c : Nat} (hm : m = 2) (h : b + b = c) : raisesB m a b c = true := by simp [raisesB, hm, h]
theorem raises_4 {m : Int} {a b c : Nat} (hm : m = 4) (h : b + b = c) : raisesB m a b c = decide (a % 2 ≠ 0) := by simp [raisesB, hm, h]
theorem raises_3 {m : Int} {a b c : Nat} (h0 : m ≠ 0) (h1 : m ≠ 1) (h2 : m ≠ 2) (h4 : m ≠ 4) (h : b + b = c) : raisesB m a b c = false := by simp [raisesB, h0, h1, h2, h4, h]
theorem bang (n : Nat) : (!(n == 0)) = decide (n ≠ 0) := by by_cases h : n = 0 <;> simp [h]
theorem cmp_pos (a b : Nat) : decide ((0 : Int) < Mx.cmp a b) = decide (b < a) := by
  rcases Nat.lt_trichotomy a b with h | h | h
  · rw [Mx.cmp_lt h, decide_eq_false (by omega), decide_eq_false (by omega)]
  · rw [Mx.cmp_eq h, decide_eq_false (by omega), decide_eq_false (by omega)]
  · rw [Mx.cmp_gt h, decide_eq_true (by omega), decide_eq_true h]
theorem cmp_nz {a b : Nat} : (!decide ((Mx.cmp a b : Int) = 0)) = !decide (a = b) := by
  rcases Nat.lt_trichotomy a b with h | h | h
  · rw [Mx.cmp_lt h, decide_eq_false (by omega), decide_eq_false (by omega)]
  · rw [Mx.cmp_eq h, decide_eq_true (by omega), decide_eq_true (by omega)]
  · rw [Mx.cmp_gt h, decide_eq_false (by omega), decide_eq_false (by omega)]
namespace Z
/-- The number of a word; 5 if it is none. -/
def ofN (s : List UInt8) : Nat := if (wd 0 == s) = true then 0 else if (wd 1 == s) = true then 1 else if (wd 2 == s) = true then 2 else if (wd 3 == s) = true then 3 else if (wd 4 == s) = true then 4 else 5
def ofI (s : List UInt8) : Int := if ofN s < 5 then (ofN s : Int) else 0
def ofB (s : List UInt8) : Bool := decide (ofN s < 5)
theorem ofN_at {s : List UInt8} {m : Nat} (hm : m < 5) (h : ∀ j, j < m → (wd j == s) = false) (he : (wd m == s) = true) : ofN s = m := by
  rcases m with _ | _ | _ | _ | _ | m
  · simp [ofN, he]
  · simp [ofN, he, h 0 (by omega)]
  · simp [ofN, he, h 0 (by omega), h 1 (by omega)]
  · simp [ofN, he, h 0 (by omega), h 1 (by omega), h 2 (by omega)]
  · simp [ofN, he, h 0 (by omega), h 1 (by omega), h 2 (by omega), h 3 (by omega)]
  · omega
theorem ofN_none {s : List UInt8} (h : ∀ j, j < 5 → (wd j == s) = false) : ofN s = 5 := by
  simp [ofN, h 0 (by omega), h 1 (by omega), h 2 (by omega), h 3 (by omega), h 4 (by omega)]
theorem ofI_at {s : List UInt8} {m : Nat} (hm : m < 5) (h : ofN s = m) : ((m : Nat) : Int) = ofI s := by rw [ofI, h, if_pos hm]
theorem ofB_at {s : List UInt8} {m : Nat} (hm : m < 5) (h : ofN s = m) : true = ofB s := by rw [ofB, h, decide_eq_true hm]
theorem ofI_none {s : List UInt8} (h : ofN s = 5) : (0 : Int) = ofI s := by rw [ofI, h]; rfl
theorem ofB_none {s : List UInt8} (h : ofN s = 5) : false = ofB s := by rw [ofB, h]; rfl
theorem more {s : List UInt8} {m : Nat} (h : ∀ j, j < m → (wd j == s) = false) (he : ¬ (wd m == s) = true) : ∀ j, j < m + 1 → (wd j == s) = false := fun j hj => by
  rcases Nat.lt_or_eq_of_le (Nat.le_of_lt_succ hj) with h1 | h1
  · exact h j h1
  · rw [h1]; simpa using he
theorem limbs_t {w : World} {v : Value} {n k : Nat} (h : IsN w v n k) (hk : k ≤ 4294967296) : Calls Tryz.prog 65 #[v] w (Ret w fun v' w' => isS (Mx.limbs n) w' v') :=
  (limbs_any w v n (Nat.le_trans h.2 (by omega)) h.1).mono fun _ _ ⟨v', e, hf⟩ => ⟨v', e, hf.sl (Mx.limbs_lt n), by obtain ⟨_, _, _, _, g⟩ := hf; exact g⟩
theorem ten_t (w : World) (t : Int) (h1 : 0 ≤ t) (h2 : t ≤ 4096) : Calls Tryz.prog 39 #[.int .i64 t] w (Ret w fun v w' => (Kd.T [kN (tenN t) 4097, .E (.int .i64 0)]).p w' v) :=
  (ten_any w t).mono fun _ _ r => r.mono fun _ _ ⟨_, e, h⟩ => by
    have : tenE t = 0 := by rw [tenE, if_neg (by omega), if_neg (by omega)]
    rw [e, this]
    exact tup2 (k := kN _ _) (l := .E _) h rfl
end Z
end Go.Proofs.YtpjmfbiihhbjhaaGreatDoor
