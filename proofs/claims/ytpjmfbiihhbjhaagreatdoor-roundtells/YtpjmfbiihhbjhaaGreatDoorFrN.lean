/- What the laws of layer 5 share: the fraction of a Num; plain mathematics of the laws; texts that wakes meets. -/
import Derived.Test.YtpjmfbiihhbjhaaGreatDoorFrG
namespace Go.Proofs.YtpjmfbiihhbjhaaGreatDoor
open Go.RowKit

/-- What num is told: a fraction. -/
def numD (b : List Nat) : Nat := if Mx.val (b.take 3) = 0 then 1 else Mx.val (b.take 3)
def numQ (a b : List Nat) (m : Bool) : Rat := mkRat (signed (Mx.val (a.take 4)) m) (numD b)
theorem take_min {l : List Nat} {n : Nat} : l.take (min l.length n) = l.take n := by
  rcases Nat.le_total l.length n with h | h
  · rw [Nat.min_eq_left h, List.take_of_length_le (Nat.le_refl _), List.take_of_length_le h]
  · rw [Nat.min_eq_right h]
theorem numQ_one {a b : List Nat} {m : Bool} (h : Mx.val (b.take 3) = 0) : mkRat (signed (Mx.val (a.take 4)) m) 1 = numQ a b m := by
  rw [numQ, numD, if_pos h]
theorem numQ_den {a b : List Nat} {m : Bool} (h : Mx.val (b.take 3) ≠ 0) : mkRat (signed (Mx.val (a.take 4)) m) (Mx.val (b.take 3)) = numQ a b m := by
  rw [numQ, numD, if_neg h]
theorem of_signed {z : Int} {n : Nat} (hn : n ≠ 0) : (z / ((signed n false : Int) : Rat)) = mkRat z n := by
  have e : signed n false = (n : Int) := rfl
  rw [e, of_rat_pos_eq (by omega)]
  rfl
theorem signed_pos {n : Nat} (hn : n ≠ 0) : 0 < signed n false := by
  have e : signed n false = (n : Int) := rfl
  omega
theorem text_dig5 (c : UInt8) (h : Tx.isDig c) (h0 : c ≠ 48) : Tx.text (Tx.rd [c]) = [c] :=
  Tx.text_rd ⟨fun b hb => by rw [List.mem_singleton] at hb; rw [hb]; exact h, .inr ⟨by simp, by simpa using h0⟩⟩
theorem wake_a : qtext (((1 : Int) : Rat) / ((2 : Int) : Rat) + (((-2) : Int) : Rat) / (((-6) : Int) : Rat)) = [53, 47, 54] := by
  have e : ((1 : Int) : Rat) / ((2 : Int) : Rat) + (((-2) : Int) : Rat) / (((-6) : Int) : Rat) = (⟨5, 6, by decide, by decide⟩ : Rat) := by decide +kernel
  rw [e]
  have h5 : Tx.text 5 = [53] := text_dig5 53 (by decide) (by decide)
  have h6 : Tx.text 6 = [54] := text_dig5 54 (by decide) (by decide)
  have e2 : qtext (⟨5, 6, by decide, by decide⟩ : Rat) = Tx.text 5 ++ [47] ++ Tx.text 6 := rfl
  rw [e2, h5, h6]
  rfl
theorem wake_b : ztext (Rat.floor (-(((1 : Int) : Rat) / ((2 : Int) : Rat)))) = [45, 49] := by
  have e : Rat.floor (-(((1 : Int) : Rat) / ((2 : Int) : Rat))) = -1 := by decide +kernel
  rw [e]
  have h1 : Tx.text 1 = [49] := text_dig5 49 (by decide) (by decide)
  have e2 : ztext (-1) = 45 :: Tx.text 1 := rfl
  rw [e2, h1]
theorem wake_c : qtext 0 = [48] := by
  have h : Tx.text (Tx.rd [48]) = [48] := Tx.text_rd ⟨by decide, .inl rfl⟩
  exact h
theorem wake_d : cmpQ ((((-2) : Int) : Rat) / (((-6) : Int) : Rat)) (((1 : Int) : Rat) / ((2 : Int) : Rat)) = -1 := by decide +kernel
/-! ### Plain mathematics -/
theorem cmpQ_same (x : Rat) : cmpQ x x = 0 := cmpQ_eq.2 rfl
theorem cmpQ_of {x y x' y' : Rat} (h1 : x < y ↔ x' < y') (h2 : y < x ↔ y' < x') : cmpQ x y = cmpQ x' y' := by
  rcases cmpQ_cases x y with ⟨e, h⟩ | ⟨e, h⟩ | ⟨e, h⟩
  · rw [e, cmpQ_lt.2 (h1.1 h)]
  · rw [e]
    rcases cmpQ_cases x' y' with ⟨_, h'⟩ | ⟨e', _⟩ | ⟨_, h'⟩
    · rw [h] at h1; exact absurd (h1.2 h') Rat.lt_irrefl
    · exact e'.symm
    · rw [h] at h2; exact absurd (h2.2 h') Rat.lt_irrefl
  · rw [e, cmpQ_gt.2 (h2.1 h)]
theorem sub_sign (x y : Rat) : (x - y).num.sign = cmpQ x y := by
  rw [sgn_cmpQ]
  refine cmpQ_of ?_ ?_
  · constructor <;> intro h <;> grind
  · constructor <;> intro h <;> grind
theorem sign_ne {q : Rat} (h : q ≠ 0) : decide ((Int.sign q.num : Int) = 0) = false := by rw [sign_zero]; exact decide_eq_false h
theorem sign_eq {q : Rat} (h : q = 0) : decide ((Int.sign q.num : Int) = 0) = true := by rw [sign_zero]; exact decide_eq_true h
theorem cmp_id {x y : Rat} (h : x = y) : decide ((cmpQ x y : Int) = 0) = true := decide_eq_true (cmpQ_eq.2 h)
theorem cmp_ne {x y : Rat} (h : x = y) : (!decide ((cmpQ x y : Int) = 0)) = false := by rw [cmp_id h]; rfl
theorem mul_self_sign (x : Rat) : 0 ≤ (x * x).num.sign := by
  have h : 0 ≤ x * x := by
    rcases Rat.le_total (a := 0) (b := x) with h | h
    · exact Rat.mul_nonneg h h
    · have := Rat.mul_nonneg (a := -x) (b := -x) (by grind) (by grind)
      grind
  have := Rat.num_nonneg.2 h
  rcases Int.lt_or_eq_of_le this with h1 | h1
  · rw [Int.sign_eq_one_of_pos h1]; decide
  · rw [← h1]; decide
theorem floor_le1 (x : Rat) : decide ((cmpQ ((x.floor : Int) : Rat) x : Int) ≤ 0) = true := by
  have h := Rat.floor_le x
  rcases cmpQ_cases ((x.floor : Int) : Rat) x with ⟨e, _⟩ | ⟨e, _⟩ | ⟨_, h'⟩
  · rw [e]; rfl
  · rw [e]; rfl
  · exact absurd h (Rat.not_le.2 h')
theorem floor_lt1 (x : Rat) : decide (0 < (cmpQ ((x.floor + 1 : Int) : Rat) x : Int)) = true := by
  have h := Rat.lt_floor_add_one x
  rw [cmpQ_gt.2 h]; rfl
theorem floor_add1 (x : Rat) (n : Int) : decide ((Int.sign (Rat.floor (x + ((n : Int) : Rat)) - (Rat.floor x + n)) : Int) = 0) = true := by
  rw [Rat.floor_add_intCast]
  simp
theorem mid_left (x y : Rat) : cmpQ x ((x + y) / ((2 : Int) : Rat)) = cmpQ x y := by
  have h2 : ((2 : Int) : Rat) = 2 := rfl
  rw [h2]
  refine cmpQ_of ?_ ?_ <;> constructor <;> intro h <;> grind
theorem mid_right (x y : Rat) : cmpQ ((x + y) / ((2 : Int) : Rat)) y = cmpQ x y := by
  have h2 : ((2 : Int) : Rat) = 2 := rfl
  rw [h2]
  refine cmpQ_of ?_ ?_ <;> constructor <;> intro h <;> grind
theorem cmp_add (x y z : Rat) : cmpQ (x + z) (y + z) = cmpQ x y := by
  refine cmpQ_of ?_ ?_ <;> constructor <;> intro h <;> grind
theorem cmp_neg (x y : Rat) : cmpQ (-x) (-y) = -cmpQ x y := by
  have h : cmpQ (-x) (-y) = cmpQ y x := by refine cmpQ_of ?_ ?_ <;> constructor <;> intro h <;> grind
  rw [h]
  unfold cmpQ
  rw [← Int.sign_neg]
  congr 1
  omega
theorem neg_wrap (x y : Rat) : IntKind.i64.wrap (-cmpQ x y) = -cmpQ x y := by
  rcases cmpQ_cases x y with ⟨e, _⟩ | ⟨e, _⟩ | ⟨e, _⟩ <;> rw [e] <;> rfl
theorem two_ne : ((2 : Int) : Rat) ≠ 0 := by decide
/-- A fraction whose numbers are both so many times as great. -/
theorem times_both (x : Rat) {k : Int} (hk : k ≠ 0) : ((x.num * k : Int) : Rat) / ((signed x.den false * k : Int) : Rat) = x := by
  have e : signed x.den false = (x.den : Int) := rfl
  rw [e, ← Rat.divInt_eq_div, Rat.divInt_mul_right hk, Rat.num_divInt_den]
theorem den_times {x : Rat} {k : Int} (hk : k ≠ 0) : signed x.den false * k ≠ 0 := by
  have e : signed x.den false = (x.den : Int) := rfl
  rw [e]
  exact Int.mul_ne_zero (by have := x.den_pos; omega) hk
theorem low_gcd (x : Rat) : decide ((Mx.cmp (Nat.gcd x.num.natAbs x.den) 1 : Int) = 0) = true := by
  rw [show Nat.gcd x.num.natAbs x.den = 1 from x.reduced, Mx.cmp_self]; rfl
theorem qtext_int (k : Int) : (qtext ((k : Int) : Rat) == ztext k) = true := by
  have : qtext ((k : Int) : Rat) = ztext k := by rw [qtext, if_pos (Rat.den_intCast k)]; rfl
  rw [this]; simp
theorem mkRat_len {z : Int} {n : Nat} (hn : n ≠ 0) : (mkRat z n).num.natAbs ≤ z.natAbs ∧ (mkRat z n).den ≤ n := by
  rw [Rat.num_mkRat, Rat.den_mkRat, if_neg hn, if_neg hn]
  refine ⟨?_, Nat.div_le_self _ _⟩
  rw [Int.natAbs_ediv_of_dvd (by rw [← Int.dvd_natAbs, Int.ofNat_dvd]; exact Nat.gcd_dvd_right _ _)]
  exact Nat.div_le_self _ _
theorem signed_natAbs (n : Nat) (b : Bool) : (signed n b).natAbs = n := by cases b <;> simp [signed]
theorem num_qlen {w : World} {v : Value} {a b : List Nat} {m : Bool} (h : IsM w v a b m) : (ztext (numQ a b m).num).length ≤ 300 ∧ (Tx.text (numQ a b m).den).length ≤ 300 := by
  obtain ⟨_, _, _, _, _, _, _, ⟨_, _, _, _, ha, _⟩, ⟨_, _, _, _, hb, _⟩⟩ := h
  have hn : numD b ≠ 0 := by unfold numD; split <;> omega
  obtain ⟨h1, h2⟩ := mkRat_len (z := signed (Mx.val (a.take 4)) m) hn
  rw [signed_natAbs] at h1
  have l1 : Mx.len (Mx.val (a.take 4)) ≤ 4 := Nat.le_trans (Mx.len_val _ fun x hx => ha x (List.mem_of_mem_take hx)) (by simp; omega)
  have l2 : Mx.len (numD b) ≤ 4 := by
    unfold numD
    split
    · decide
    · exact Nat.le_trans (Mx.len_val _ fun x hx => hb x (List.mem_of_mem_take hx)) (by simp; omega)
  have e1 := ztext_len (Nat.le_trans (Mx.len_mono h1) l1)
  have e2 := text_len (Nat.le_trans (Mx.len_mono h2) l2)
  exact ⟨by unfold numQ; omega, by unfold numQ; omega⟩
theorem eq_self (l : List UInt8) : (l == l) = true := by simp
theorem ne_self (l : List UInt8) : (!(l == l)) = false := by simp
theorem qtext_eq {x y : Rat} (h : x = y) : (qtext x == qtext y) = true := by rw [h]; simp
namespace Z
open Go.Proofs.YtpjmfbiihhbjhaaGreatDoor.Rg
theorem of_q {w : World} {v0 v1 : Value} {z n : Int} {k j : Nat} (h0 : isW z k w v0) (h1 : isW n j w v1) (hk : k ≤ 268435456) (hj : j ≤ 268435456) (hn : n ≠ 0) : Calls Tryz.prog 30 #[v0, v1] w (Ret w fun v w' => (Kd.T [kQ (z / (n : Rat)) (max k j + 1), .E (.int .i64 0)]).p w' v) := by
  rcases Int.lt_or_gt_of_ne hn with h | h
  · exact of_neg h0 h1 hk hj h
  · exact of_pos h0 h1 hk hj h
end Z
end Go.Proofs.YtpjmfbiihhbjhaaGreatDoor
