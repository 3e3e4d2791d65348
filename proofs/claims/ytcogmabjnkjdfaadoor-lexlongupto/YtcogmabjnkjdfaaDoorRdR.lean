/- The reference of layer 6: plain mathematics, fields, the powers of ten. -/
import Derived.Test.YtcogmabjnkjdfaaDoorBRd
import Derived.Test.YtcogmabjnkjdfaaDoorRefR
namespace Go.Proofs.YtcogmabjnkjdfaaDoor
open Go.RowKit
def tens (i : Nat) : List UInt8 := 49 :: List.replicate i 48
theorem tens_succ (i : Nat) : tens i ++ [48] = tens (i + 1) := by
  unfold tens
  rw [List.replicate_succ', List.cons_append]
theorem tens_len (i : Nat) : (tens i).length = i + 1 := by simp [tens]
theorem tens_dig (i : Nat) : ∀ b ∈ tens i, Tx.isDig b := by
  intro b hb
  unfold tens at hb
  rcases List.mem_cons.1 hb with h | h
  · rw [h]; decide
  · rw [(List.mem_replicate.1 h).2]; decide
theorem tens_rd (i : Nat) : Tx.rd (tens i) = 10 ^ i := by
  induction i with
  | zero => decide
  | succ i ih =>
    rw [← tens_succ, Tx.rd_snoc, ih, Nat.pow_succ, Nat.mul_comm]
    rfl
theorem tens_ten {i : Nat} (h : i ≤ 64) : Tx.rd (tens i) = tenN ((i : Nat) : Int) := by
  rw [tens_rd, tenN, if_pos (by omega)]
  rfl
theorem rnd_of2 {m : Int} {q : Rat} {l : Nat} (h : l = rndN m q.num.natAbs q.den) : signed l (decide (q.num < 0)) = rndQ m q := by rw [h, rndQ]
theorem ref_cases (r d : Nat) {m : Int} (hm : 0 ≤ m ∧ m < 5) : r = 0 ∨ (r ≠ 0 ∧ m = 0) ∨ (r ≠ 0 ∧ m = 1) ∨ (r ≠ 0 ∧ m = 2) ∨ (r ≠ 0 ∧ m = 3) ∨ (r ≠ 0 ∧ m = 4 ∧ d < r * 2) ∨ (r ≠ 0 ∧ m = 4 ∧ r * 2 = d) ∨ (r ≠ 0 ∧ m = 4 ∧ r * 2 < d) := by omega
variable {m : Int} {n d : Nat}
theorem ru0 (h : n % d ≠ 0 ∧ m = 0) : false = upB m n d := by rw [upB_1 h.1, raises_0 h.2]
theorem ru1 (h : n % d ≠ 0 ∧ m = 1) : true = upB m n d := by rw [upB_1 h.1, raises_1 h.2]
theorem ru2 (h : n % d ≠ 0 ∧ m = 2) : decide ((0 : Int) ≤ Mx.cmp (n % d * 2) d) = upB m n d := by
  rw [upB_1 h.1]
  by_cases e : n % d + n % d = d
  · rw [raises_2 h.2 e]
    exact cmp_ge (by omega)
  · rw [raises_ne (by omega) (by omega) e]
    rcases Nat.lt_or_ge (n % d * 2) d with g | g
    · rw [cmp_nge g, decide_eq_false (by omega)]
    · rw [cmp_ge g, decide_eq_true (by omega)]
theorem ru3 (h : n % d ≠ 0 ∧ m = 3) : decide ((0 : Int) < Mx.cmp (n % d * 2) d) = upB m n d := by
  rw [upB_1 h.1, cmp_pos]
  by_cases e : n % d + n % d = d
  · rw [raises_3 (by omega) (by omega) (by omega) (by omega) e]
    exact decide_eq_false (by omega)
  · rw [raises_ne (by omega) (by omega) e]
    exact decide_eq_decide.2 (by omega)
theorem ru4 (h : n % d ≠ 0 ∧ m = 4 ∧ d < n % d * 2) : true = upB m n d := by
  rw [upB_1 h.1, raises_ne (by omega) (by omega) (by omega), decide_eq_true (by omega)]
theorem ru5 (h : n % d ≠ 0 ∧ m = 4 ∧ n % d * 2 = d) : decide ((0 : Int) < ((Dx.len (n / d % 2) : Nat) : Int)) = upB m n d := by
  rw [upB_1 h.1, raises_4 h.2.1 (by omega)]
  by_cases e : n / d % 2 = 0
  · rw [e, decide_eq_false (by decide), decide_eq_false (by decide)]
  · rw [decide_eq_true e, decide_eq_true (by have := dlen_nz e; omega)]
theorem ru6 (h : n % d ≠ 0 ∧ m = 4 ∧ n % d * 2 < d) : false = upB m n d := by
  rw [upB_1 h.1, raises_ne (by omega) (by omega) (by omega), decide_eq_false (by omega)]
theorem cmp_g {a b : Nat} (h : b < a) : decide ((0 : Int) < Mx.cmp a b) = true := by rw [cmp_pos, decide_eq_true h]
theorem cmp_ng {a b : Nat} (h : a ≤ b) : decide ((0 : Int) < Mx.cmp a b) = false := by rw [cmp_pos, decide_eq_false (by omega)]
theorem cmp_z (a b : Nat) : decide ((Mx.cmp a b : Int) = 0) = decide (a = b) := by
  have := cmp_nz (a := a) (b := b)
  simpa using this
/-- The mode of the i-th round. -/
def kv (n : Int) (i : Nat) : Int := if i = 0 then n else max 0 n % 5
theorem kv_at {n : Int} {i : Nat} (hi : i < 2) : [n, max 0 n % 5][i]? = some (kv n i) := by
  rcases i with _ | _ | i
  · rfl
  · rfl
  · omega
theorem kv_get {n : Int} {i : Nat} (hi : i < 2) : [n, max 0 n % 5].getD i 0 = kv n i := by
  rcases i with _ | _ | i
  · rfl
  · rfl
  · omega
namespace Z
theorem read_t {w : World} {v : Value} {l : List UInt8} (h : isT l w v) (hl : l.length ≤ 4096) (hd : ∀ b ∈ l, Tx.isDig b) : Calls Tryd.prog 38 #[v] w (Ret w fun v' w' => isD (Tx.rd l) 2000 w' v') := by
  cases h
  exact refRead_any w (str l) (by rw [show (str l).size = l.length by simp [ByteArray.size]]; exact hl) hd
theorem fldRD0 {q : Rat} {k : Nat} : ∀ w cs, isR q k w (.agg cs) → isD q.num.natAbs k w (cs.getD 0 undef) := fun w cs ⟨A, l, c, A', l', c', e, h1, _⟩ => by
  injection e with e
  subst e
  exact h1
theorem fldRB {q : Rat} {k : Nat} : ∀ w cs, isR q k w (.agg cs) → isE (.bool (decide (q.num < 0))) w (cs.getD 1 undef) := fun w cs ⟨A, l, c, A', l', c', e, _⟩ => by
  injection e with e
  subst e
  rfl
end Z
end Go.Proofs.YtcogmabjnkjdfaaDoor
