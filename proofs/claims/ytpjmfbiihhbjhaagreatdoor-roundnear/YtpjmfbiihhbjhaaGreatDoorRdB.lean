/- What the laws of layer 6 share: plain mathematics of wakes and of the words. -/
import Derived.Test.YtpjmfbiihhbjhaaGreatDoorRd
namespace Go.Proofs.YtpjmfbiihhbjhaaGreatDoor
open Go.RowKit
/-- What wakes writes, of the modes below m. -/
def wk : Nat → List UInt8
  | 0 => []
  | m + 1 => wk m ++ ztext (rndQ ((m : Nat) : Int) ((((-5) : Int) : Rat) / ((2 : Int) : Rat)))
theorem rq {m : Nat} (h : m < 5) : rndQ ((m : Nat) : Int) ((((-5) : Int) : Rat) / ((2 : Int) : Rat)) = if m = 1 ∨ m = 2 then -3 else -2 := by
  rcases m with _ | _ | _ | _ | _ | m
  · decide +kernel
  · decide +kernel
  · decide +kernel
  · decide +kernel
  · decide +kernel
  · omega
theorem zt2 : ztext (-2) = [45, 50] := by
  have h1 : Tx.text 2 = [50] := text_dig5 50 (by decide) (by decide)
  have e2 : ztext (-2) = 45 :: Tx.text 2 := rfl
  rw [e2, h1]
theorem zt3 : ztext (-3) = [45, 51] := by
  have h1 : Tx.text 3 = [51] := text_dig5 51 (by decide) (by decide)
  have e2 : ztext (-3) = 45 :: Tx.text 3 := rfl
  rw [e2, h1]
theorem wk_all : wk 1 = [45, 50] ∧ wk 2 = [45, 50, 45, 51] ∧ wk 3 = [45, 50, 45, 51, 45, 51] ∧ wk 4 = [45, 50, 45, 51, 45, 51, 45, 50] ∧ wk 5 = [45, 50, 45, 51, 45, 51, 45, 50, 45, 50] := by
  have e1 : wk 1 = [45, 50] := by rw [wk, rq (by omega), if_neg (by omega), zt2]; rfl
  have e2 : wk 2 = [45, 50, 45, 51] := by rw [wk, rq (by omega), if_pos (by omega), zt3, e1]; rfl
  have e3 : wk 3 = [45, 50, 45, 51, 45, 51] := by rw [wk, rq (by omega), if_pos (by omega), zt3, e2]; rfl
  have e4 : wk 4 = [45, 50, 45, 51, 45, 51, 45, 50] := by rw [wk, rq (by omega), if_neg (by omega), zt2, e3]; rfl
  have e5 : wk 5 = [45, 50, 45, 51, 45, 51, 45, 50, 45, 50] := by rw [wk, rq (by omega), if_neg (by omega), zt2, e4]; rfl
  exact ⟨e1, e2, e3, e4, e5⟩
theorem wk5 : (wk 5 == [45, 50, 45, 51, 45, 51, 45, 50, 45, 50]) = true := by rw [wk_all.2.2.2.2]; rfl
theorem wk_len {m : Nat} (h : m < 5) : (wk m).length + (ztext (rndQ ((m : Nat) : Int) ((((-5) : Int) : Rat) / ((2 : Int) : Rat)))).length ≤ 9223372036854775807 := by
  have e : (wk (m + 1)).length = (wk m).length + (ztext (rndQ ((m : Nat) : Int) ((((-5) : Int) : Rat) / ((2 : Int) : Rat)))).length := by rw [wk, List.length_append]
  rw [← e]
  obtain ⟨e1, e2, e3, e4, e5⟩ := wk_all
  rcases m with _ | _ | _ | _ | _ | m
  · rw [e1]; decide
  · rw [e2]; decide
  · rw [e3]; decide
  · rw [e4]; decide
  · rw [e5]; decide
  · omega
theorem wk_s : (ztext (rndQ 0 ((((-5) : Int) : Rat) / ((2 : Int) : Rat) * ((tenZ 2 : Int) : Rat))) == [45, 50, 53, 48]) = true := by
  have e : rndQ 0 ((((-5) : Int) : Rat) / ((2 : Int) : Rat) * ((tenZ 2 : Int) : Rat)) = -250 := by decide +kernel
  have h1 : Tx.text (Tx.rd [50, 53, 48]) = [50, 53, 48] := Tx.text_rd ⟨by decide, .inr ⟨by simp, by decide⟩⟩
  have e2 : ztext (-250) = 45 :: Tx.text (Tx.rd [50, 53, 48]) := rfl
  rw [e, e2, h1]
  rfl
namespace Z
theorem wd_at {n : Nat} (h : n < 5) : wordL[n]? = some (wd n) := by
  rcases n with _ | _ | _ | _ | _ | n <;> first | rfl | omega
theorem ofN_wd {n : Nat} (h : n < 5) : ofN (wd n) = n := by
  rcases n with _ | _ | _ | _ | _ | n <;> first | decide | omega
theorem ofI_wd {n : Nat} (h : n < 5) : ofI (wd n) = ((n : Nat) : Int) := (ofI_at h (ofN_wd h)).symm
theorem ofB_wd {n : Nat} (h : n < 5) : ofB (wd n) = true := (ofB_at h (ofN_wd h)).symm
/-- The last of the first i words that is s; -1 if there is none. -/
def atI : Nat → List UInt8 → Int
  | 0, _ => -1
  | i + 1, s => if (wd i == s) = true then (i : Int) else atI i s
theorem atI_hit {i : Nat} {s : List UInt8} (h : (wd i == s) = true) : atI (i + 1) s = ((i : Nat) : Int) := by rw [atI, if_pos h]
theorem atI_miss {i : Nat} {s : List UInt8} (h : ¬ (wd i == s) = true) : atI (i + 1) s = atI i s := by rw [atI, if_neg h]
theorem at_all (s : List UInt8) : ofB s = decide (0 ≤ atI 5 s) ∧ ofI s = max (atI 5 s) 0 := by
  by_cases h0 : (wd 0 == s) = true
  · rw [← (beq_iff_eq.1 h0)]; decide
  by_cases h1 : (wd 1 == s) = true
  · rw [← (beq_iff_eq.1 h1)]; decide
  by_cases h2 : (wd 2 == s) = true
  · rw [← (beq_iff_eq.1 h2)]; decide
  by_cases h3 : (wd 3 == s) = true
  · rw [← (beq_iff_eq.1 h3)]; decide
  by_cases h4 : (wd 4 == s) = true
  · rw [← (beq_iff_eq.1 h4)]; decide
  have e : ofN s = 5 := by rw [ofN, if_neg h0, if_neg h1, if_neg h2, if_neg h3, if_neg h4]
  have e2 : atI 5 s = -1 := by rw [atI_miss h4, atI_miss h3, atI_miss h2, atI_miss h1, atI_miss h0]; rfl
  rw [ofB, ofI, e, e2]
  decide
theorem at_b (s : List UInt8) : (ofB s == decide (0 ≤ atI 5 s)) = true := by rw [(at_all s).1]; simp
theorem at_i (s : List UInt8) : decide ((ofI s : Int) = max (atI 5 s) 0) = true := decide_eq_true (at_all s).2
end Z
end Go.Proofs.YtpjmfbiihhbjhaaGreatDoor
