/- The reference of layer 9, more: dates compared, printed, parsed. Written by a script (tools/laws). -/
import Derived.Test.YtpoccebedoimiaaDoorDYa
namespace Go.Proofs.YtpoccebedoimiaaDoor.X
open Go.Proofs.YtpoccebedoimiaaDoor.Da
open Go.RowKit Go.Proofs.YtpoccebedoimiaaDoor.Z
set_option linter.unusedVariables false
def at3 (a b c : Int) : Nat → Int
  | 0 => a
  | 1 => b
  | _ => c
theorem at3_row (a b c : Int) {i : Nat} (h : i < 3) : ([[.int .i64 a], [.int .i64 b], [.int .i64 c]] : List (List Value)).getD i [] = [.int .i64 (at3 a b c i)] := by
  rcases i with _ | _ | _ | i <;> first | rfl | omega
theorem cmp4 (a b : Int) (i : Nat) : 3 ≤ i ∨ (i < 3 ∧ a < b) ∨ (i < 3 ∧ ¬ a < b ∧ b < a) ∨ (i < 3 ∧ ¬ a < b ∧ ¬ b < a) := by omega
theorem cmp3_lt {y m d y' m' d' : Int} {i : Nat} (hi : i < 3) (he : ∀ j, j < i → at3 y m d j = at3 y' m' d' j) (h : at3 y m d i < at3 y' m' d' i) : (-1 : Int) = cmpI y m d y' m' d' := by
  rcases i with _ | _ | _ | i
  · have h : y < y' := h
    unfold cmpI
    rw [if_pos h]
  · have h : m < m' := h
    have e : y = y' := he 0 (by omega)
    unfold cmpI
    rw [if_neg (by omega), if_neg (by omega), if_pos h]
  · have h : d < d' := h
    have e : y = y' := he 0 (by omega)
    have e2 : m = m' := he 1 (by omega)
    unfold cmpI
    rw [if_neg (by omega), if_neg (by omega), if_neg (by omega), if_neg (by omega), if_pos h]
  · omega
theorem cmp3_gt {y m d y' m' d' : Int} {i : Nat} (hi : i < 3) (he : ∀ j, j < i → at3 y m d j = at3 y' m' d' j) (h : at3 y' m' d' i < at3 y m d i) : (1 : Int) = cmpI y m d y' m' d' := by
  have := cmp3_lt hi (fun j hj => (he j hj).symm) h
  rw [Da.cmp_neg] at this
  omega
theorem cmp3_eq {y m d y' m' d' : Int} (he : ∀ j, j < 3 → at3 y m d j = at3 y' m' d' j) : (0 : Int) = cmpI y m d y' m' d' := by
  have e : y = y' := he 0 (by omega)
  have e2 : m = m' := he 1 (by omega)
  have e3 : d = d' := he 2 (by omega)
  subst e e2 e3
  exact (cmp_self y m d).symm
theorem dgs_len (n : Nat) : ∀ k, (dgs n k).length = k := by
  intro k
  induction k with
  | zero => rfl
  | succ k ih => show (dgs n k).length + 1 = k + 1; rw [ih]
def tn (n : Nat) : Nat → Nat
  | 0 => n
  | i + 1 => tn n i / 10
theorem tn_eq (n : Nat) : ∀ i, tn n i = n / 10 ^ i := by
  intro i
  induction i with
  | zero => simp [tn]
  | succ i ih => rw [← div_step, ← ih]; rfl
theorem tn_le {n : Nat} (h : n ≤ 9999) : ∀ i, tn n i ≤ 9999 := by
  intro i
  rw [tn_eq]
  exact Nat.le_trans (Nat.div_le_self _ _) h
theorem dig_one (n i : Nat) : [UInt8.ofNat (Int.toNat (((48 + tn n i % 10 : Nat) : Int)))] = [dig (n / 10 ^ i)] := by
  rw [tn_eq]
  show [UInt8.ofNat _] = [UInt8.ofNat _]
  rw [Int.toNat_natCast]
theorem tm10 (q : Nat) : ((q : Nat) : Int).tmod 10 = ((q % 10 : Nat) : Int) := by
  rw [Int.tmod_eq_emod_of_nonneg (by omega)]
  omega
theorem td10 (q : Nat) : ((q : Nat) : Int).tdiv 10 = ((q / 10 : Nat) : Int) := by
  rw [Int.tdiv_eq_ediv_of_nonneg (by omega)]
  omega
theorem u8_in {m : Int} (h1 : 0 ≤ m) (h2 : m ≤ 255) : IntKind.u8.wrap m = m := by
  have e : m % (2 ^ IntKind.u8.bits : Int) = m := Int.emod_eq_of_lt h1 (by show m < 256; omega)
  unfold IntKind.wrap
  rw [e]
  rfl
theorem td_wrap {q : Nat} (h : q ≤ 9999) : IntKind.i64.wrap (((q : Nat) : Int).tdiv 10) = ((q : Nat) : Int).tdiv 10 := by
  rw [td10]
  exact i64_in (by omega) (by omega)
noncomputable abbrev rrefCmp_t := rX ctb2 Tryd.f23
noncomputable abbrev drefCmp_t (y1 m1 d1 y2 m2 d2 : Int) := dX ctb2 Tryd.f23 (.s (.E (.int .i64 (cmpI y1 m1 d1 y2 m2 d2))))
noncomputable def hrefCmp_t (y1 m1 d1 y2 m2 d2 : Int) : Nat → Hint K := fun _ => []
noncomputable def irefCmp_t_0 (y1 m1 d1 y2 m2 d2 : Int) (i : Nat) : Sx K := ⟨[(5, .L 3 1 ([[.int .i64 y1], [.int .i64 m1], [.int .i64 d1]]) true), (6, .L 3 1 ([[.int .i64 y2], [.int .i64 m2], [.int .i64 d2]]) true), (7, .E (.int .i64 ((i : Nat) : Int)))], []⟩
noncomputable def hrefCmp_t_0_0 (y1 m1 d1 y2 m2 d2 : Int) (i : Nat) : Nat → Hint K := fun ι => if ι = 4 then [(1, 0, some (.s (.E (.bool false))))] else []
noncomputable def hrefCmp_t_0_1 (y1 m1 d1 y2 m2 d2 : Int) (i : Nat) : Nat → Hint K := fun ι => if ι = 4 then [(1, 0, some (.s (.E (.bool true))))] else if ι = 6 then [(2, 0, some (.s (.A [.int .i64 (at3 y1 m1 d1 i)]))), (6, 0, some (.s (.A [.int .i64 (at3 y2 m2 d2 i)]))), (8, 0, some (.s (.E (.bool true))))] else []
noncomputable def hrefCmp_t_0_2 (y1 m1 d1 y2 m2 d2 : Int) (i : Nat) : Nat → Hint K := fun ι => if ι = 4 then [(1, 0, some (.s (.E (.bool true))))] else if ι = 6 then [(2, 0, some (.s (.A [.int .i64 (at3 y1 m1 d1 i)]))), (6, 0, some (.s (.A [.int .i64 (at3 y2 m2 d2 i)]))), (8, 0, some (.s (.E (.bool false))))] else if ι = 8 then [(2, 0, some (.s (.A [.int .i64 (at3 y1 m1 d1 i)]))), (6, 0, some (.s (.A [.int .i64 (at3 y2 m2 d2 i)]))), (8, 0, some (.s (.E (.bool true))))] else []
noncomputable def hrefCmp_t_0_3 (y1 m1 d1 y2 m2 d2 : Int) (i : Nat) : Nat → Hint K := fun ι => if ι = 4 then [(1, 0, some (.s (.E (.bool true))))] else if ι = 5 then [(1, 0, some (.s (.E (.int .i64 ((i + 1 : Nat) : Int)))))] else if ι = 6 then [(2, 0, some (.s (.A [.int .i64 (at3 y1 m1 d1 i)]))), (6, 0, some (.s (.A [.int .i64 (at3 y2 m2 d2 i)]))), (8, 0, some (.s (.E (.bool false))))] else if ι = 8 then [(2, 0, some (.s (.A [.int .i64 (at3 y1 m1 d1 i)]))), (6, 0, some (.s (.A [.int .i64 (at3 y2 m2 d2 i)]))), (8, 0, some (.s (.E (.bool false))))] else []
theorem refCmp_t {w : World} {v0 v1 : Value} {y1 m1 d1 y2 m2 d2 : Int} (h0 : (f0 w (.s (.E (.agg ⟨[.int .i64 y1, .int .i64 m1, .int .i64 d1]⟩)))).p w v0) (h1 : (f0 w (.s (.E (.agg ⟨[.int .i64 y2, .int .i64 m2, .int .i64 d2]⟩)))).p w v1)  : Calls Tryd.prog 23 #[v0, v1] w (Ret w fun v w' => (isE (.int .i64 (cmpI y1 m1 d1 y2 m2 d2))) w' v) := by
  exact fx ctb2 Tryd.func23 ((hrefCmp_t y1 m1 d1 y2 m2 d2)) [(0, .E (.agg ⟨[.int .i64 y1, .int .i64 m1, .int .i64 d1]⟩)), (1, .E (.agg ⟨[.int .i64 y2, .int .i64 m2, .int .i64 d2]⟩))] (.s (.E (.int .i64 (cmpI y1 m1 d1 y2 m2 d2)))) ⟨h0, h1, trivial⟩ (drefCmp_t y1 m1 d1 y2 m2 d2 [1, 1, 0, 1] [(hrefCmp_t y1 m1 d1 y2 m2 d2)] [] (rrefCmp_t (hrefCmp_t y1 m1 d1 y2 m2 d2) 3 (rrefCmp_t (hrefCmp_t y1 m1 d1 y2 m2 d2) 2 (rrefCmp_t (hrefCmp_t y1 m1 d1 y2 m2 d2) 1 (ent Tryd.prog Tryd.f23 (κ := K) [(0, .E (.agg ⟨[.int .i64 y1, .int .i64 m1, .int .i64 d1]⟩)), (1, .E (.agg ⟨[.int .i64 y2, .int .i64 m2, .int .i64 d2]⟩))]))))) (lpI (fun h S' J => drefCmp_t y1 m1 d1 y2 m2 d2 [1, 1, 0, 1, 0, 2] [(hrefCmp_t y1 m1 d1 y2 m2 d2), h] [J] S') (fun i : Nat => i ≤ 3 ∧ ∀ j, j < i → at3 y1 m1 d1 j = at3 y2 m2 d2 j) (fun i => 3 - i) (irefCmp_t_0 y1 m1 d1 y2 m2 d2) (0) (rrefCmp_t (hrefCmp_t y1 m1 d1 y2 m2 d2) 3 (rrefCmp_t (hrefCmp_t y1 m1 d1 y2 m2 d2) 2 (rrefCmp_t (hrefCmp_t y1 m1 d1 y2 m2 d2) 1 (ent Tryd.prog Tryd.f23 (κ := K) [(0, .E (.agg ⟨[.int .i64 y1, .int .i64 m1, .int .i64 d1]⟩)), (1, .E (.agg ⟨[.int .i64 y2, .int .i64 m2, .int .i64 d2]⟩))])))) (⟨by omega, fun j h => by omega⟩) (fun i hC1 J1 hJ1 => (by
    rcases cmp4 (at3 y1 m1 d1 i) (at3 y2 m2 d2 i) i with h8 | h8 | h8 | h8
    · exact ⟨(hrefCmp_t_0_0 y1 m1 d1 y2 m2 d2 i), vcP (((decide ((((i : Nat) : Int) : Int) < 3)) = false) ∧ (tI 0 (cmpI y1 m1 d1 y2 m2 d2))) ⟨(decide_eq_false (by omega)), (have hC1 : ∀ j, j < 3 → at3 y1 m1 d1 j = at3 y2 m2 d2 j := (fun j hj => hC1.2 j (by omega)); ⟨rfl, by first | exact cmp3_eq hC1 | exact cmp3_lt h8.1 hC1.2 h8.2 | exact cmp3_gt h8.1 hC1.2 h8.2.2⟩)⟩⟩
    · exact ⟨(hrefCmp_t_0_1 y1 m1 d1 y2 m2 d2 i), vcP (((decide ((((i : Nat) : Int) : Int) < 3)) = true) ∧ (i < ([[.int .i64 y1], [.int .i64 m1], [.int .i64 d1]] : List (List Value)).length) ∧ ((([[.int .i64 y1], [.int .i64 m1], [.int .i64 d1]] : List (List Value)).getD i []) = ([.int .i64 (at3 y1 m1 d1 i)] : List Value)) ∧ (i < ([[.int .i64 y2], [.int .i64 m2], [.int .i64 d2]] : List (List Value)).length) ∧ ((([[.int .i64 y2], [.int .i64 m2], [.int .i64 d2]] : List (List Value)).getD i []) = ([.int .i64 (at3 y2 m2 d2 i)] : List Value)) ∧ ((decide (((at3 y1 m1 d1 i) : Int) < (at3 y2 m2 d2 i))) = true) ∧ (tI (-1) (cmpI y1 m1 d1 y2 m2 d2))) ⟨(decide_eq_true (by omega)), (by simp; omega), (at3_row _ _ _ h8.1), (by simp; omega), (at3_row _ _ _ h8.1), (decide_eq_true h8.2), ⟨rfl, by first | exact cmp3_eq hC1 | exact cmp3_lt h8.1 hC1.2 h8.2 | exact cmp3_gt h8.1 hC1.2 h8.2.2⟩⟩⟩
    · exact ⟨(hrefCmp_t_0_2 y1 m1 d1 y2 m2 d2 i), vcP (((decide ((((i : Nat) : Int) : Int) < 3)) = true) ∧ (i < ([[.int .i64 y1], [.int .i64 m1], [.int .i64 d1]] : List (List Value)).length) ∧ ((([[.int .i64 y1], [.int .i64 m1], [.int .i64 d1]] : List (List Value)).getD i []) = ([.int .i64 (at3 y1 m1 d1 i)] : List Value)) ∧ (i < ([[.int .i64 y2], [.int .i64 m2], [.int .i64 d2]] : List (List Value)).length) ∧ ((([[.int .i64 y2], [.int .i64 m2], [.int .i64 d2]] : List (List Value)).getD i []) = ([.int .i64 (at3 y2 m2 d2 i)] : List Value)) ∧ ((decide (((at3 y1 m1 d1 i) : Int) < (at3 y2 m2 d2 i))) = false) ∧ (i < ([[.int .i64 y1], [.int .i64 m1], [.int .i64 d1]] : List (List Value)).length) ∧ ((([[.int .i64 y1], [.int .i64 m1], [.int .i64 d1]] : List (List Value)).getD i []) = ([.int .i64 (at3 y1 m1 d1 i)] : List Value)) ∧ (i < ([[.int .i64 y2], [.int .i64 m2], [.int .i64 d2]] : List (List Value)).length) ∧ ((([[.int .i64 y2], [.int .i64 m2], [.int .i64 d2]] : List (List Value)).getD i []) = ([.int .i64 (at3 y2 m2 d2 i)] : List Value)) ∧ ((decide (((at3 y2 m2 d2 i) : Int) < (at3 y1 m1 d1 i))) = true) ∧ (tI 1 (cmpI y1 m1 d1 y2 m2 d2))) ⟨(decide_eq_true (by omega)), (by simp; omega), (at3_row _ _ _ h8.1), (by simp; omega), (at3_row _ _ _ h8.1), (decide_eq_false h8.2.1), (by simp; omega), (at3_row _ _ _ h8.1), (by simp; omega), (at3_row _ _ _ h8.1), (decide_eq_true h8.2.2), ⟨rfl, by first | exact cmp3_eq hC1 | exact cmp3_lt h8.1 hC1.2 h8.2 | exact cmp3_gt h8.1 hC1.2 h8.2.2⟩⟩⟩
    · exact ⟨(hrefCmp_t_0_3 y1 m1 d1 y2 m2 d2 i), vcP (((decide ((((i : Nat) : Int) : Int) < 3)) = true) ∧ (i < ([[.int .i64 y1], [.int .i64 m1], [.int .i64 d1]] : List (List Value)).length) ∧ ((([[.int .i64 y1], [.int .i64 m1], [.int .i64 d1]] : List (List Value)).getD i []) = ([.int .i64 (at3 y1 m1 d1 i)] : List Value)) ∧ (i < ([[.int .i64 y2], [.int .i64 m2], [.int .i64 d2]] : List (List Value)).length) ∧ ((([[.int .i64 y2], [.int .i64 m2], [.int .i64 d2]] : List (List Value)).getD i []) = ([.int .i64 (at3 y2 m2 d2 i)] : List Value)) ∧ ((decide (((at3 y1 m1 d1 i) : Int) < (at3 y2 m2 d2 i))) = false) ∧ (i < ([[.int .i64 y1], [.int .i64 m1], [.int .i64 d1]] : List (List Value)).length) ∧ ((([[.int .i64 y1], [.int .i64 m1], [.int .i64 d1]] : List (List Value)).getD i []) = ([.int .i64 (at3 y1 m1 d1 i)] : List Value)) ∧ (i < ([[.int .i64 y2], [.int .i64 m2], [.int .i64 d2]] : List (List Value)).length) ∧ ((([[.int .i64 y2], [.int .i64 m2], [.int .i64 d2]] : List (List Value)).getD i []) = ([.int .i64 (at3 y2 m2 d2 i)] : List Value)) ∧ ((decide (((at3 y2 m2 d2 i) : Int) < (at3 y1 m1 d1 i))) = false) ∧ (IntKind.i64.wrap (((i : Nat) : Int) + 1) = ((i : Nat) : Int) + 1) ∧ (tI (((i : Nat) : Int) + 1) ((i + 1 : Nat) : Int)) ∧ (J1 (rrefCmp_t (hrefCmp_t_0_3 y1 m1 d1 y2 m2 d2 i) 5 (rrefCmp_t (hrefCmp_t_0_3 y1 m1 d1 y2 m2 d2 i) 8 (rrefCmp_t (hrefCmp_t_0_3 y1 m1 d1 y2 m2 d2 i) 6 (rrefCmp_t (hrefCmp_t_0_3 y1 m1 d1 y2 m2 d2 i) 4 (irefCmp_t_0 y1 m1 d1 y2 m2 d2 i))))))) ⟨(decide_eq_true (by omega)), (by simp; omega), (at3_row _ _ _ h8.1), (by simp; omega), (at3_row _ _ _ h8.1), (decide_eq_false h8.2.1), (by simp; omega), (at3_row _ _ _ h8.1), (by simp; omega), (at3_row _ _ _ h8.1), (decide_eq_false h8.2.2), (i64_in (by omega) (by omega)), ⟨rfl, by omega⟩, (hJ1 (i + 1) _ (⟨by omega, fun j hj => by rcases Nat.lt_or_eq_of_le (Nat.le_of_lt_succ hj) with h | h; exact hC1.2 j h; rw [h]; omega⟩) (by omega) ⟨by kernel_rfl, by kernel_rfl⟩)⟩⟩)))
noncomputable abbrev rrefDigits_t := rX ctb2 Tryd.f28
noncomputable abbrev drefDigits_t (n k : Nat) := dX ctb2 Tryd.f28 (.s (.E (.string (str (dgs n k)))))
noncomputable def hrefDigits_t (n k : Nat) : Nat → Hint K := fun _ => []
noncomputable def irefDigits_t_0 (n k : Nat) (i : Nat) : Sx K := ⟨[(4, .E (.string (str []))), (1, .E (.int .i64 ((k : Nat) : Int))), (6, .E (.int .i64 ((i : Nat) : Int))), (0, .E (.int .i64 ((tn n i : Nat) : Int))), (5, .E (.string (str (dgs n i))))], []⟩
noncomputable def hrefDigits_t_0_0 (n k : Nat) (i : Nat) : Nat → Hint K := fun ι => if ι = 3 then [(2, 0, some (.s (.E (.bool true))))] else if ι = 4 then [(1, 0, some (.s (.E (.int .i64 ((i + 1 : Nat) : Int)))))] else if ι = 5 then [(1, 0, some (.s (.E (.int .i64 ((tn n i % 10 : Nat) : Int))))), (3, 0, some (.s (.E (.int .u8 ((48 + tn n i % 10 : Nat) : Int))))), (5, 0, some (.s (.E (.string (str [dig (n / 10 ^ i)]))))), (7, 0, some (.s (.E (.string (str (dgs n (i + 1)))))))] else if ι = 6 then [(1, 0, some (.s (.E (.int .i64 ((tn n (i + 1) : Nat) : Int)))))] else []
noncomputable def hrefDigits_t_0_1 (n k : Nat) (i : Nat) : Nat → Hint K := fun ι => if ι = 3 then [(2, 0, some (.s (.E (.bool false))))] else []
theorem refDigits_t {w : World} {v0 v1 : Value} {n k : Nat} (h0 : (isE (.int .i64 ((n : Nat) : Int))) w v0) (h1 : (isE (.int .i64 ((k : Nat) : Int))) w v1) (hn : n ≤ 9999) (hk : k ≤ 4) : Calls Tryd.prog 28 #[v0, v1] w (Ret w fun v w' => (isT (dgs n k)) w' v) := by
  exact fx ctb2 Tryd.func28 ((hrefDigits_t n k)) [(0, .E (.int .i64 ((n : Nat) : Int))), (1, .E (.int .i64 ((k : Nat) : Int)))] (.s (.E (.string (str (dgs n k))))) ⟨h0, h1, trivial⟩ (drefDigits_t n k [1, 0, 1] [(hrefDigits_t n k)] [] (rrefDigits_t (hrefDigits_t n k) 2 (rrefDigits_t (hrefDigits_t n k) 1 (ent Tryd.prog Tryd.f28 (κ := K) [(0, .E (.int .i64 ((n : Nat) : Int))), (1, .E (.int .i64 ((k : Nat) : Int)))])))) (lpI (fun h S' J => drefDigits_t n k [1, 0, 1, 0, 2] [(hrefDigits_t n k), h] [J] S') (fun i : Nat => i ≤ k) (fun i => k - i) (irefDigits_t_0 n k) (0) (rrefDigits_t (hrefDigits_t n k) 2 (rrefDigits_t (hrefDigits_t n k) 1 (ent Tryd.prog Tryd.f28 (κ := K) [(0, .E (.int .i64 ((n : Nat) : Int))), (1, .E (.int .i64 ((k : Nat) : Int)))]))) (Nat.zero_le _) (fun i hC1 J1 hJ1 => (by
    have hq := tn_le hn i
    rcases Nat.lt_or_ge i k with h8 | h8
    · exact ⟨(hrefDigits_t_0_0 n k i), vcP (((decide ((((i : Nat) : Int) : Int) < ((k : Nat) : Int))) = true) ∧ (10 ≠ (0 : Int)) ∧ (tI (Int.tmod ((tn n i : Nat) : Int) 10) ((tn n i % 10 : Nat) : Int)) ∧ (IntKind.i64.wrap (48 + ((tn n i % 10 : Nat) : Int)) = 48 + ((tn n i % 10 : Nat) : Int)) ∧ (tB (IntKind.u8.wrap (48 + ((tn n i % 10 : Nat) : Int))) ((48 + tn n i % 10 : Nat) : Int)) ∧ (tK (.E (.string (str [UInt8.ofNat (Int.toNat ((48 + tn n i % 10 : Nat) : Int))]))) (.E (.string (str [dig (n / 10 ^ i)])))) ∧ (([dig (n / 10 ^ i)] : List UInt8).length + (dgs n i : List UInt8).length ≤ 9223372036854775807) ∧ (tK (.E (.string (str ([dig (n / 10 ^ i)] ++ (dgs n i))))) (.E (.string (str (dgs n (i + 1)))))) ∧ ((10 : Int) ≠ 0) ∧ (IntKind.i64.wrap (((tn n i : Nat) : Int).tdiv 10) = ((tn n i : Nat) : Int).tdiv 10) ∧ (tI (((tn n i : Nat) : Int).tdiv 10) ((tn n (i + 1) : Nat) : Int)) ∧ (IntKind.i64.wrap (((i : Nat) : Int) + 1) = ((i : Nat) : Int) + 1) ∧ (tI (((i : Nat) : Int) + 1) ((i + 1 : Nat) : Int)) ∧ (J1 (rrefDigits_t (hrefDigits_t_0_0 n k i) 4 (rrefDigits_t (hrefDigits_t_0_0 n k i) 6 (rrefDigits_t (hrefDigits_t_0_0 n k i) 5 (rrefDigits_t (hrefDigits_t_0_0 n k i) 3 (irefDigits_t_0 n k i))))))) ⟨(decide_eq_true (by omega)), (by decide), ⟨rfl, tm10 _⟩, (i64_in (by omega) (by omega)), ⟨rfl, (u8_in (by omega) (by omega)).trans (by omega)⟩, (fun _ _ _ _ _ h => by rw [dig_one] at h; exact h), (by rw [dgs_len]; simp; omega), (fun _ _ _ _ _ h => h), (by omega), (td_wrap hq), ⟨rfl, td10 _⟩, (i64_in (by omega) (by omega)), ⟨rfl, by omega⟩, (hJ1 (i + 1) _ (by omega) (by omega) ⟨by kernel_rfl, by kernel_rfl⟩)⟩⟩
    · exact ⟨(hrefDigits_t_0_1 n k i), vcP (((decide ((((i : Nat) : Int) : Int) < ((k : Nat) : Int))) = false) ∧ (tK (.E (.string (str (dgs n i)))) (.E (.string (str (dgs n k)))))) ⟨(decide_eq_false (by omega)), (have hC1 : i = k := (by omega); (fun _ _ _ _ _ h => by rw [hC1] at h; exact h))⟩⟩)))
noncomputable def ctb3 : List (Ct dk) := [
  ct2 28 0 en28 vIn vIn (fun x y => .s (.E (.string (str (dgs x y))))) (fun x y => [x ≤ 9999, y ≤ 4]) fun _ _ p _ _ _  h1 h2 => refDigits_t h1 h2 p.1 p.2.1] ++ ctb2
theorem refPrint_t {w : World} {v0 : Value} {y m d : Int} (h0 : (f0 w (.s (.E (.agg ⟨[.int .i64 y, .int .i64 m, .int .i64 d]⟩)))).p w v0) (hr : rightI y m d) : Calls Tryd.prog 18 #[v0] w (Ret w fun v w' => (isT (dText y.toNat m.toNat d.toNat)) w' v) := by
  have hq := right_in hr
  exact fx ctb3 Tryd.func18 (fun ι => if ι = 1 then [(1, 0, some (.s (.E (.int .i64 ((y.toNat : Nat) : Int)))))] else if ι = 2 then [(1, 0, some (.s (.E (.int .i64 ((m.toNat : Nat) : Int)))))] else if ι = 3 then [(1, 0, some (.s (.E (.int .i64 ((d.toNat : Nat) : Int)))))] else []) [(0, .E (.agg ⟨[.int .i64 y, .int .i64 m, .int .i64 d]⟩))] (.s (.E (.string (str (dText y.toNat m.toNat d.toNat))))) ⟨h0, trivial⟩ ((tI y ((y.toNat : Nat) : Int)) ∧ (y.toNat ≤ 9999) ∧ (4 ≤ 4) ∧ (tI m ((m.toNat : Nat) : Int)) ∧ (m.toNat ≤ 9999) ∧ (2 ≤ 4) ∧ (tI d ((d.toNat : Nat) : Int)) ∧ (d.toNat ≤ 9999) ∧ (2 ≤ 4) ∧ ((dgs y.toNat 4 : List UInt8).length + ([45] : List UInt8).length ≤ 9223372036854775807) ∧ (((dgs y.toNat 4) ++ [45] : List UInt8).length + (dgs m.toNat 2 : List UInt8).length ≤ 9223372036854775807) ∧ ((((dgs y.toNat 4) ++ [45]) ++ (dgs m.toNat 2) : List UInt8).length + ([45] : List UInt8).length ≤ 9223372036854775807) ∧ (((((dgs y.toNat 4) ++ [45]) ++ (dgs m.toNat 2)) ++ [45] : List UInt8).length + (dgs d.toNat 2 : List UInt8).length ≤ 9223372036854775807) ∧ (tK (.E (.string (str (((((dgs y.toNat 4) ++ [45]) ++ (dgs m.toNat 2)) ++ [45]) ++ (dgs d.toNat 2))))) (.E (.string (str (dText y.toNat m.toNat d.toNat)))))) ⟨⟨rfl, by omega⟩, (by omega), (by decide), ⟨rfl, by omega⟩, (by omega), (by decide), ⟨rfl, by omega⟩, (by omega), (by decide), (by simp [dgs_len]), (by simp [dgs_len]), (by simp [dgs_len]), (by simp [dgs_len]), (fun _ _ _ _ _ h => by rw [dgs_text] at h; exact h)⟩
def okP (l : List UInt8) : Bool := shB l && decide (rightI ((yOf l : Nat) : Int) ((mOf l : Nat) : Int) ((dOf l : Nat) : Int))
def pYd (l : List UInt8) : Int := if okP l then ((yOf l : Nat) : Int) else 0
def pMd (l : List UInt8) : Int := if okP l then ((mOf l : Nat) : Int) else 0
def pDd (l : List UInt8) : Int := if okP l then ((dOf l : Nat) : Int) else 0
def pEr (l : List UInt8) : Int := if shB l = false then 4 else if okP l then 0 else 11
theorem pz_no {l : List UInt8} (h : shB l = false) : pYd l = 0 ∧ pMd l = 0 ∧ pDd l = 0 ∧ pEr l = 4 := by
  have e : okP l = false := by unfold okP; rw [h]; rfl
  unfold pYd pMd pDd pEr
  rw [e, if_pos h]
  exact ⟨rfl, rfl, rfl, rfl⟩
theorem pz_wrong {l : List UInt8} (h : shB l = true) (h2 : ¬ rightI ((yOf l : Nat) : Int) ((mOf l : Nat) : Int) ((dOf l : Nat) : Int)) : pYd l = 0 ∧ pMd l = 0 ∧ pDd l = 0 ∧ pEr l = 11 := by
  have e : okP l = false := by unfold okP; rw [h, decide_eq_false h2]; rfl
  unfold pYd pMd pDd pEr
  rw [e, h]
  exact ⟨rfl, rfl, rfl, rfl⟩
theorem pz_ok {l : List UInt8} (h : shB l = true) (h2 : rightI ((yOf l : Nat) : Int) ((mOf l : Nat) : Int) ((dOf l : Nat) : Int)) : pYd l = ((yOf l : Nat) : Int) ∧ pMd l = ((mOf l : Nat) : Int) ∧ pDd l = ((dOf l : Nat) : Int) ∧ pEr l = 0 := by
  have e : okP l = true := by unfold okP; rw [h, decide_eq_true h2]; rfl
  unfold pYd pMd pDd pEr
  rw [e, h]
  exact ⟨rfl, rfl, rfl, rfl⟩
theorem sh_len {l : List UInt8} (h : ¬ l.length = 10) : shB l = false := by
  unfold shB
  rw [decide_eq_false h]
  rfl
abbrev ShNo (i : Nat) (b : UInt8) : Prop := shAt i b = false
theorem sh_no {l : List UInt8} {i : Nat} (h : l.length = 10) (hi : i < 10) (h2 : ShNo i (l.getD i 0)) : shB l = false := by
  cases hb : shB l with
  | false => rfl
  | true => exact absurd ((sh_iff h).1 hb i hi) (by rw [h2]; decide)
def prt (i : Nat) : Nat := if i ≤ 4 then 0 else if i ≤ 7 then 1 else 2
theorem prt_le (i : Nat) : prt i ≤ 2 := by
  unfold prt
  repeat' split
  all_goals omega
def rdv (l : List UInt8) (i : Nat) : Nat × Nat × Nat := (rdP l 0 (min i 4), rdP l 5 (min (i - 5) 2), rdP l 8 (i - 8))
def rwD (x : Nat × Nat × Nat) : List (List Value) := [[.int .i64 ((x.1 : Nat) : Int)], [.int .i64 ((x.2.1 : Nat) : Int)], [.int .i64 ((x.2.2 : Nat) : Int)]]
def pk (x : Nat × Nat × Nat) : Nat → Nat
  | 0 => x.1
  | 1 => x.2.1
  | _ => x.2.2
theorem rwD_row {x : Nat × Nat × Nat} {p : Nat} (h : p < 3) : (rwD x).getD p [] = [.int .i64 ((pk x p : Nat) : Int)] := by
  rcases p with _ | _ | _ | p <;> first | rfl | omega
theorem dash_or {i : Nat} (h : i < 10) (h2 : ¬ (i = 4 ∨ i = 7)) : i = 0 ∨ i = 1 ∨ i = 2 ∨ i = 3 ∨ i = 5 ∨ i = 6 ∨ i = 8 ∨ i = 9 := by omega
theorem rwD_set {l : List UInt8} {i p : Nat} {x : Nat × Nat × Nat} (h : i < 10) (h2 : ¬ (i = 4 ∨ i = 7)) (hp : p = prt i) (hx : x = rdv l i) : (rwD x).set p [.int .i64 ((10 * pk x p + Da.dv (l.getD i 0) : Nat) : Int)] = rwD (rdv l (i + 1)) := by
  subst hp hx
  rcases dash_or h h2 with rfl | rfl | rfl | rfl | rfl | rfl | rfl | rfl <;> rfl
theorem prt_dash {i : Nat} (h : i = 4 ∨ i = 7) : prt i + 1 = prt (i + 1) := by rcases h with rfl | rfl <;> rfl
theorem prt_dig {i : Nat} (h : i < 10) (h2 : ¬ (i = 4 ∨ i = 7)) : prt i = prt (i + 1) := by rcases dash_or h h2 with rfl | rfl | rfl | rfl | rfl | rfl | rfl | rfl <;> rfl
theorem rdv_dash {l : List UInt8} {i : Nat} (h : i = 4 ∨ i = 7) : rdv l i = rdv l (i + 1) := by rcases h with rfl | rfl <;> rfl
theorem sh_more {l : List UInt8} {i : Nat} (h : ∀ j, j < i → shAt j (l.getD j 0) = true) (h2 : shAt i (l.getD i 0) = true) : ∀ j, j < i + 1 → shAt j (l.getD j 0) = true := fun j hj => by
  rcases Nat.lt_or_eq_of_le (Nat.le_of_lt_succ hj) with h3 | h3
  · exact h j h3
  · rw [h3]; exact h2
theorem sh_dash {i : Nat} {b : UInt8} (h : i = 4 ∨ i = 7) (hb : b = 45) : shAt i b = true := by
  unfold shAt
  rw [if_pos h, hb]
  rfl
theorem sh_dig {i : Nat} {b : UInt8} (h : ¬ (i = 4 ∨ i = 7)) (h1 : 48 ≤ b.toNat) (h2 : b.toNat ≤ 57) : shAt i b = true := by
  unfold shAt
  rw [if_neg h]
  exact decide_eq_true ⟨h1, h2⟩
theorem d45 {i : Nat} {b : UInt8} (h : i = 4 ∨ i = 7) (h2 : ShNo i b) : ¬ ((b.toNat : Nat) : Int) = 45 := fun e => by
  have : b = 45 := UInt8.toNat_inj.1 (by show b.toNat = 45; omega)
  have := sh_dash h this
  rw [h2] at this
  cases this
theorem d47 {i : Nat} (h : i = 4 ∨ i = 7) : (bif decide (((i : Nat) : Int) = 4) then true else decide (((i : Nat) : Int) = 7)) = true := by rcases h with rfl | rfl <;> rfl
theorem d47n {i : Nat} (h : ¬ (i = 4 ∨ i = 7)) : (bif decide (((i : Nat) : Int) = 4) then true else decide (((i : Nat) : Int) = 7)) = false := by
  rw [decide_eq_false (by omega), decide_eq_false (by omega)]
  rfl
theorem pr6 (l : List UInt8) (i : Nat) : 10 ≤ i ∨ (i < 10 ∧ (i = 4 ∨ i = 7) ∧ l.getD i 0 = 45) ∨ (i < 10 ∧ (i = 4 ∨ i = 7) ∧ ShNo i (l.getD i 0)) ∨ (i < 10 ∧ ¬ (i = 4 ∨ i = 7) ∧ 48 ≤ (l.getD i 0).toNat ∧ (l.getD i 0).toNat ≤ 57 ∧ Da.dv (l.getD i 0) + 48 = (l.getD i 0).toNat) ∨ (i < 10 ∧ ¬ (i = 4 ∨ i = 7) ∧ ShNo i (l.getD i 0) ∧ (l.getD i 0).toNat < 48) ∨ (i < 10 ∧ ¬ (i = 4 ∨ i = 7) ∧ ShNo i (l.getD i 0) ∧ 57 < (l.getD i 0).toNat) := by
  generalize l.getD i 0 = b
  rcases Nat.lt_or_ge i 10 with h | h
  · by_cases h2 : i = 4 ∨ i = 7
    · by_cases h3 : b = 45
      · exact .inr (.inl ⟨h, h2, h3⟩)
      · refine .inr (.inr (.inl ⟨h, h2, ?_⟩))
        unfold ShNo shAt
        rw [if_pos h2]
        simpa using h3
    · have no : ¬ (48 ≤ b.toNat ∧ b.toNat ≤ 57) → ShNo i b := fun e => by
        unfold ShNo shAt
        rw [if_neg h2]
        exact decide_eq_false e
      rcases Nat.lt_or_ge b.toNat 48 with h4 | h4
      · exact .inr (.inr (.inr (.inr (.inl ⟨h, h2, no (by omega), h4⟩))))
      · rcases Nat.lt_or_ge 57 b.toNat with h5 | h5
        · exact .inr (.inr (.inr (.inr (.inr ⟨h, h2, no (by omega), h5⟩))))
        · exact .inr (.inr (.inr (.inl ⟨h, h2, h4, h5, by unfold Da.dv; omega⟩)))
  · exact .inl h
theorem dv_max (b : UInt8) : Da.dv b ≤ 255 := by
  have := b.toNat_lt
  unfold Da.dv
  omega
theorem rd_any (s : List UInt8) (a : Nat) : ∀ k, rdP s a k + 256 ≤ 256 * 10 ^ k := by
  intro k
  induction k with
  | zero => exact Nat.le_refl _
  | succ k ih =>
    have h2 := dv_max (s.getD (a + k) 0)
    rw [Nat.pow_succ]
    show 10 * rdP s a k + Da.dv (s.getD (a + k) 0) + 256 ≤ _
    omega
theorem rd_big (s : List UInt8) (a k : Nat) (h : k ≤ 4) : rdP s a k ≤ 2560000 := by
  have h1 := rd_any s a k
  have h2 := Nat.pow_le_pow_right (show 0 < 10 by decide) h
  omega
theorem pk_le (l : List UInt8) (i p : Nat) (h : i ≤ 10) : pk (rdv l i) p ≤ 2560000 := by
  rcases p with _ | _ | p
  · exact rd_big _ _ _ (by omega)
  · exact rd_big _ _ _ (by omega)
  · exact rd_big _ _ _ (by omega)
theorem pr_end {l : List UInt8} {i : Nat} {x : Nat × Nat × Nat} (hl : l.length = 10) (h1 : i ≤ 10) (h2 : 10 ≤ i) (h3 : ∀ j, j < i → shAt j (l.getD j 0) = true) (hx : x = rdv l i) : shB l = true ∧ x = (yOf l, mOf l, dOf l) := by
  obtain rfl : i = 10 := by omega
  refine ⟨(sh_iff hl).2 h3, ?_⟩
  rw [hx, ← rd_y, ← rd_m, ← rd_d]
  rfl
noncomputable def ctb4 : List (Ct dk) := [
  ct1 8 0 en8 vDt (fun x => .s (.E (.bool (decide (rightI x.1 x.2.1 x.2.2))))) (fun x => []) fun _ p _ _  h1 => refRight_t h1] ++ ctb3
noncomputable abbrev rrefParse_t := rX ctb4 Tryd.f25
noncomputable abbrev drefParse_t (l : List UInt8) := dX ctb4 Tryd.f25 (.t [.E (.agg ⟨[.int .i64 (pYd l), .int .i64 (pMd l), .int .i64 (pDd l)]⟩), .E (.int .i64 (pEr l))])
noncomputable def hrefParse_t (l : List UInt8) : Nat → Hint K := fun ι => if ι = 16 then [(1, 0, some (.s (.A [.int .i64 ((yOf l : Nat) : Int)]))), (4, 0, some (.s (.A [.int .i64 ((mOf l : Nat) : Int)]))), (7, 0, some (.s (.A [.int .i64 ((dOf l : Nat) : Int)])))] else []
noncomputable def irefParse_t_0 (l : List UInt8) (g : Nat × Nat × Nat × Nat × Nat) : Sx K := ⟨[(0, .E (.string (str l))), (7, .E (.int .i64 ((g.1 : Nat) : Int))), (6, .E (.int .i64 ((g.2.1 : Nat) : Int))), (5, .L 3 1 (rwD g.2.2) true)], [⟨2, 23, .X⟩, ⟨4, 23, .E (.agg ⟨[.int .i64 0, .int .i64 0, .int .i64 0]⟩)⟩]⟩
noncomputable def hrefParse_t_0_0 (l : List UInt8) (g : Nat × Nat × Nat × Nat × Nat) : Nat → Hint K := fun ι => if ι = 7 then [(1, 0, some (.s (.E (.bool false))))] else []
noncomputable def hrefParse_t_0_1 (l : List UInt8) (g : Nat × Nat × Nat × Nat × Nat) : Nat → Hint K := fun ι => if ι = 7 then [(1, 0, some (.s (.E (.bool true))))] else if ι = 8 then [(1, 0, some (.s (.E (.int .i64 ((g.1 + 1 : Nat) : Int)))))] else if ι = 9 then [(3, 777777, none), (4, 777777, none), (5, 777777, some (.s (.E (.bool true))))] else if ι = 10 then [(3, 0, some (.s (.E (.bool false))))] else if ι = 12 then [(1, 0, some (.s (.E (.int .i64 ((g.2.1 + 1 : Nat) : Int)))))] else []
noncomputable def hrefParse_t_0_2 (l : List UInt8) (g : Nat × Nat × Nat × Nat × Nat) : Nat → Hint K := fun ι => if ι = 7 then [(1, 0, some (.s (.E (.bool true))))] else if ι = 9 then [(3, 777777, none), (4, 777777, none), (5, 777777, some (.s (.E (.bool true))))] else if ι = 10 then [(3, 0, some (.s (.E (.bool true))))] else []
noncomputable def hrefParse_t_0_3 (l : List UInt8) (g : Nat × Nat × Nat × Nat × Nat) : Nat → Hint K := fun ι => if ι = 7 then [(1, 0, some (.s (.E (.bool true))))] else if ι = 8 then [(1, 0, some (.s (.E (.int .i64 ((g.1 + 1 : Nat) : Int)))))] else if ι = 9 then [(3, 777777, none), (4, 777777, none), (5, 777777, some (.s (.E (.bool false))))] else if ι = 13 then [(3, 0, some (.s (.E (.bool false)))), (8, 0, some (.s (.E (.bool false))))] else if ι = 15 then [(4, 0, some (.s (.A [.int .i64 ((pk g.2.2 g.2.1 : Nat) : Int)]))), (10, 0, some (.s (.E (.int .i64 (((l.getD g.1 0).toNat : Nat) : Int))))), (12, 0, some (.s (.E (.int .i64 ((10 * pk g.2.2 g.2.1 + Da.dv (l.getD g.1 0) : Nat) : Int))))), (13, 7, none), (14, 0, some (.s (.L 3 1 (rwD (rdv l (g.1 + 1))) true)))] else []
noncomputable def hrefParse_t_0_4 (l : List UInt8) (g : Nat × Nat × Nat × Nat × Nat) : Nat → Hint K := fun ι => if ι = 7 then [(1, 0, some (.s (.E (.bool true))))] else if ι = 9 then [(3, 777777, none), (4, 777777, none), (5, 777777, some (.s (.E (.bool false))))] else if ι = 13 then [(3, 0, some (.s (.E (.bool true))))] else []
noncomputable def hrefParse_t_0_5 (l : List UInt8) (g : Nat × Nat × Nat × Nat × Nat) : Nat → Hint K := fun ι => if ι = 7 then [(1, 0, some (.s (.E (.bool true))))] else if ι = 9 then [(3, 777777, none), (4, 777777, none), (5, 777777, some (.s (.E (.bool false))))] else if ι = 13 then [(3, 0, some (.s (.E (.bool false)))), (8, 0, some (.s (.E (.bool true))))] else []
theorem refParse_t {w : World} {v0 : Value} {l : List UInt8} (h0 : (isT l) w v0)  : Calls Tryd.prog 25 #[v0] w (Ret w fun v w' => (f0 w (.t [.E (.agg ⟨[.int .i64 (pYd l), .int .i64 (pMd l), .int .i64 (pDd l)]⟩), .E (.int .i64 (pEr l))])).p w' v) := by
  exact fx ctb4 Tryd.func25 ((hrefParse_t l)) [(0, .E (.string (str l)))] (.t [.E (.agg ⟨[.int .i64 (pYd l), .int .i64 (pMd l), .int .i64 (pDd l)]⟩), .E (.int .i64 (pEr l))]) ⟨h0, trivial⟩ (cnd ((!decide ((((l.length : Nat) : Int) : Int) = 10))) ((tK (.E (.agg ⟨[.int .i64 0, .int .i64 0, .int .i64 0]⟩)) (.E (.agg ⟨[.int .i64 (pYd l), .int .i64 (pMd l), .int .i64 (pDd l)]⟩))) ∧ (tI 4 (pEr l)) ∧ True) (drefParse_t l [1, 1, 1, 1, 0, 1] [(hrefParse_t l)] [] (rrefParse_t (hrefParse_t l) 6 (rrefParse_t (hrefParse_t l) 5 (rrefParse_t (hrefParse_t l) 4 (rrefParse_t (hrefParse_t l) 2 (rrefParse_t (hrefParse_t l) 1 (ent Tryd.prog Tryd.f25 (κ := K) [(0, .E (.string (str l)))])))))))) ((Classical.em (¬ l.length = 10)).elim (fun hl => cnd_t (by simp; omega) ⟨(fun _ _ _ _ _ h => by first | (rw [(pz_no (sh_len hl)).1, (pz_no (sh_len hl)).2.1, (pz_no (sh_len hl)).2.2.1]; exact h) | (rw [(pz_no (sh_no (by omega) h8.1 h8.2.2)).1, (pz_no (sh_no (by omega) h8.1 h8.2.2)).2.1, (pz_no (sh_no (by omega) h8.1 h8.2.2)).2.2.1]; exact h) | (rw [(pz_no (sh_no (by omega) h8.1 h8.2.2.1)).1, (pz_no (sh_no (by omega) h8.1 h8.2.2.1)).2.1, (pz_no (sh_no (by omega) h8.1 h8.2.2.1)).2.2.1]; exact h) | (rw [(pz_wrong hC1.1 hr).1, (pz_wrong hC1.1 hr).2.1, (pz_wrong hC1.1 hr).2.2.1]; exact h) | (rw [(pz_ok hC1.1 (by simpa using hr)).1, (pz_ok hC1.1 (by simpa using hr)).2.1, (pz_ok hC1.1 (by simpa using hr)).2.2.1]; exact h)), ⟨rfl, by first | exact (pz_no (sh_len hl)).2.2.2.symm | exact (pz_no (sh_no (by omega) h8.1 h8.2.2)).2.2.2.symm | exact (pz_no (sh_no (by omega) h8.1 h8.2.2.1)).2.2.2.symm | exact (pz_wrong hC1.1 hr).2.2.2.symm | exact (pz_ok hC1.1 (by simpa using hr)).2.2.2.symm⟩, trivial⟩) (fun hl => cnd_f (by simp; omega) (lpI (fun h S' J => drefParse_t l [1, 1, 1, 1, 0, 1, 0, 2] [(hrefParse_t l), h] [J] S') (fun g : Nat × Nat × Nat × Nat × Nat => g.1 ≤ 10 ∧ (∀ j, j < g.1 → shAt j (l.getD j 0) = true) ∧ g.2.1 = prt g.1 ∧ g.2.2 = rdv l g.1) (fun g => 10 - g.1) (irefParse_t_0 l) ((0, 0, 0, 0, 0)) (rrefParse_t (hrefParse_t l) 6 (rrefParse_t (hrefParse_t l) 5 (rrefParse_t (hrefParse_t l) 4 (rrefParse_t (hrefParse_t l) 2 (rrefParse_t (hrefParse_t l) 1 (ent Tryd.prog Tryd.f25 (κ := K) [(0, .E (.string (str l)))])))))) (⟨by omega, fun j h => by omega, rfl, rfl⟩) (fun g hC1 J1 hJ1 => (by
    have h10 : l.length = 10 := by omega
    have hC1b := hC1.1
    have hp3 := prt_le g.1
    have hC1c := hC1.2.2.1
    have hpk := pk_le l g.1 g.2.1 hC1b
    rw [← hC1.2.2.2] at hpk
    have hbb := (l.getD g.1 0).toNat_lt
    rcases pr6 l g.1 with h8 | h8 | h8 | h8 | h8 | h8
    · exact ⟨(hrefParse_t_0_0 l g), vcP (((decide ((((g.1 : Nat) : Int) : Int) < 10)) = false) ∧ ((0 < (rwD g.2.2).length) ∧ (((rwD g.2.2).getD 0 []) = ([.int .i64 ((yOf l : Nat) : Int)] : List Value)) ∧ (1 < (rwD g.2.2).length) ∧ (((rwD g.2.2).getD 1 []) = ([.int .i64 ((mOf l : Nat) : Int)] : List Value)) ∧ (2 < (rwD g.2.2).length) ∧ (((rwD g.2.2).getD 2 []) = ([.int .i64 ((dOf l : Nat) : Int)] : List Value)) ∧ (cnd ((!(decide (rightI ((yOf l : Nat) : Int) ((mOf l : Nat) : Int) ((dOf l : Nat) : Int))))) ((tK (.E (.agg ⟨[.int .i64 0, .int .i64 0, .int .i64 0]⟩)) (.E (.agg ⟨[.int .i64 (pYd l), .int .i64 (pMd l), .int .i64 (pDd l)]⟩))) ∧ (tI 11 (pEr l)) ∧ True) ((tK (.E (.agg ⟨[.int .i64 ((yOf l : Nat) : Int), .int .i64 ((mOf l : Nat) : Int), .int .i64 ((dOf l : Nat) : Int)]⟩)) (.E (.agg ⟨[.int .i64 (pYd l), .int .i64 (pMd l), .int .i64 (pDd l)]⟩))) ∧ (tI 0 (pEr l)) ∧ True)))) ⟨(decide_eq_false (by omega)), (have hC1 : shB l = true ∧ g.2.2 = (yOf l, mOf l, dOf l) := (pr_end (by omega) hC1.1 h8 hC1.2.1 hC1.2.2.2); ⟨(by show _ < 3; omega), (by rw [hC1.2]; rfl), (by show _ < 3; omega), (by rw [hC1.2]; rfl), (by show _ < 3; omega), (by rw [hC1.2]; rfl), ((Classical.em (¬ rightI ((yOf l : Nat) : Int) ((mOf l : Nat) : Int) ((dOf l : Nat) : Int))).elim (fun hr => cnd_t (by simpa using hr) ⟨(fun _ _ _ _ _ h => by first | (rw [(pz_no (sh_len hl)).1, (pz_no (sh_len hl)).2.1, (pz_no (sh_len hl)).2.2.1]; exact h) | (rw [(pz_no (sh_no (by omega) h8.1 h8.2.2)).1, (pz_no (sh_no (by omega) h8.1 h8.2.2)).2.1, (pz_no (sh_no (by omega) h8.1 h8.2.2)).2.2.1]; exact h) | (rw [(pz_no (sh_no (by omega) h8.1 h8.2.2.1)).1, (pz_no (sh_no (by omega) h8.1 h8.2.2.1)).2.1, (pz_no (sh_no (by omega) h8.1 h8.2.2.1)).2.2.1]; exact h) | (rw [(pz_wrong hC1.1 hr).1, (pz_wrong hC1.1 hr).2.1, (pz_wrong hC1.1 hr).2.2.1]; exact h) | (rw [(pz_ok hC1.1 (by simpa using hr)).1, (pz_ok hC1.1 (by simpa using hr)).2.1, (pz_ok hC1.1 (by simpa using hr)).2.2.1]; exact h)), ⟨rfl, by first | exact (pz_no (sh_len hl)).2.2.2.symm | exact (pz_no (sh_no (by omega) h8.1 h8.2.2)).2.2.2.symm | exact (pz_no (sh_no (by omega) h8.1 h8.2.2.1)).2.2.2.symm | exact (pz_wrong hC1.1 hr).2.2.2.symm | exact (pz_ok hC1.1 (by simpa using hr)).2.2.2.symm⟩, trivial⟩) (fun hr => cnd_f (by simpa using hr) ⟨(fun _ _ _ _ _ h => by first | (rw [(pz_no (sh_len hl)).1, (pz_no (sh_len hl)).2.1, (pz_no (sh_len hl)).2.2.1]; exact h) | (rw [(pz_no (sh_no (by omega) h8.1 h8.2.2)).1, (pz_no (sh_no (by omega) h8.1 h8.2.2)).2.1, (pz_no (sh_no (by omega) h8.1 h8.2.2)).2.2.1]; exact h) | (rw [(pz_no (sh_no (by omega) h8.1 h8.2.2.1)).1, (pz_no (sh_no (by omega) h8.1 h8.2.2.1)).2.1, (pz_no (sh_no (by omega) h8.1 h8.2.2.1)).2.2.1]; exact h) | (rw [(pz_wrong hC1.1 hr).1, (pz_wrong hC1.1 hr).2.1, (pz_wrong hC1.1 hr).2.2.1]; exact h) | (rw [(pz_ok hC1.1 (by simpa using hr)).1, (pz_ok hC1.1 (by simpa using hr)).2.1, (pz_ok hC1.1 (by simpa using hr)).2.2.1]; exact h)), ⟨rfl, by first | exact (pz_no (sh_len hl)).2.2.2.symm | exact (pz_no (sh_no (by omega) h8.1 h8.2.2)).2.2.2.symm | exact (pz_no (sh_no (by omega) h8.1 h8.2.2.1)).2.2.2.symm | exact (pz_wrong hC1.1 hr).2.2.2.symm | exact (pz_ok hC1.1 (by simpa using hr)).2.2.2.symm⟩, trivial⟩))⟩)⟩⟩
    · exact ⟨(hrefParse_t_0_1 l g), vcP (((decide ((((g.1 : Nat) : Int) : Int) < 10)) = true) ∧ (((decide ((((g.1 : Nat) : Int) : Int) = 4)) == false) = true → ((decide ((((g.1 : Nat) : Int) : Int) = 4)) == false) = true) ∧ (((decide ((((g.1 : Nat) : Int) : Int) = 4))) = false → ((decide ((((g.1 : Nat) : Int) : Int) = 4)) == false) = true) ∧ ((cond (decide ((((g.1 : Nat) : Int) : Int) = 4)) true (decide ((((g.1 : Nat) : Int) : Int) = 7))) = true) ∧ (g.1 < l.length) ∧ ((!decide (((((l.getD g.1 0).toNat : Nat) : Int) : Int) = 45)) = false) ∧ (IntKind.i64.wrap (((g.2.1 : Nat) : Int) + 1) = ((g.2.1 : Nat) : Int) + 1) ∧ (tI (((g.2.1 : Nat) : Int) + 1) ((g.2.1 + 1 : Nat) : Int)) ∧ (IntKind.i64.wrap (((g.1 : Nat) : Int) + 1) = ((g.1 : Nat) : Int) + 1) ∧ (tI (((g.1 : Nat) : Int) + 1) ((g.1 + 1 : Nat) : Int)) ∧ (J1 (rrefParse_t (hrefParse_t_0_1 l g) 8 (rrefParse_t (hrefParse_t_0_1 l g) 12 (rrefParse_t (hrefParse_t_0_1 l g) 10 (rrefParse_t (hrefParse_t_0_1 l g) 9 (rrefParse_t (hrefParse_t_0_1 l g) 7 (irefParse_t_0 l g)))))))) ⟨(decide_eq_true (by omega)), (fun hg => hg), (fun hp => by simp_all), (d47 h8.2.1), (by omega), (by rw [h8.2.2]; rfl), (i64_in (by omega) (by omega)), ⟨rfl, by omega⟩, (i64_in (by omega) (by omega)), ⟨rfl, by omega⟩, (hJ1 ((g.1 + 1, g.2.1 + 1, g.2.2)) _ (⟨by show g.1 + 1 ≤ 10; omega, sh_more hC1.2.1 (sh_dash h8.2.1 h8.2.2), (congrArg (· + 1) hC1.2.2.1).trans (prt_dash h8.2.1), hC1.2.2.2.trans (rdv_dash h8.2.1)⟩) (by show 10 - (g.1 + 1) < 10 - g.1; omega) ⟨by kernel_rfl, by kernel_rfl⟩)⟩⟩
    · exact ⟨(hrefParse_t_0_2 l g), vcP (((decide ((((g.1 : Nat) : Int) : Int) < 10)) = true) ∧ (((decide ((((g.1 : Nat) : Int) : Int) = 4)) == false) = true → ((decide ((((g.1 : Nat) : Int) : Int) = 4)) == false) = true) ∧ (((decide ((((g.1 : Nat) : Int) : Int) = 4))) = false → ((decide ((((g.1 : Nat) : Int) : Int) = 4)) == false) = true) ∧ ((cond (decide ((((g.1 : Nat) : Int) : Int) = 4)) true (decide ((((g.1 : Nat) : Int) : Int) = 7))) = true) ∧ (g.1 < l.length) ∧ ((!decide (((((l.getD g.1 0).toNat : Nat) : Int) : Int) = 45)) = true) ∧ ((tK (.E (.agg ⟨[.int .i64 0, .int .i64 0, .int .i64 0]⟩)) (.E (.agg ⟨[.int .i64 (pYd l), .int .i64 (pMd l), .int .i64 (pDd l)]⟩))) ∧ (tI 4 (pEr l)) ∧ True)) ⟨(decide_eq_true (by omega)), (fun hg => hg), (fun hp => by simp_all), (d47 h8.2.1), (by omega), (by rw [decide_eq_false (d45 h8.2.1 h8.2.2)]; rfl), ⟨(fun _ _ _ _ _ h => by first | (rw [(pz_no (sh_len hl)).1, (pz_no (sh_len hl)).2.1, (pz_no (sh_len hl)).2.2.1]; exact h) | (rw [(pz_no (sh_no (by omega) h8.1 h8.2.2)).1, (pz_no (sh_no (by omega) h8.1 h8.2.2)).2.1, (pz_no (sh_no (by omega) h8.1 h8.2.2)).2.2.1]; exact h) | (rw [(pz_no (sh_no (by omega) h8.1 h8.2.2.1)).1, (pz_no (sh_no (by omega) h8.1 h8.2.2.1)).2.1, (pz_no (sh_no (by omega) h8.1 h8.2.2.1)).2.2.1]; exact h) | (rw [(pz_wrong hC1.1 hr).1, (pz_wrong hC1.1 hr).2.1, (pz_wrong hC1.1 hr).2.2.1]; exact h) | (rw [(pz_ok hC1.1 (by simpa using hr)).1, (pz_ok hC1.1 (by simpa using hr)).2.1, (pz_ok hC1.1 (by simpa using hr)).2.2.1]; exact h)), ⟨rfl, by first | exact (pz_no (sh_len hl)).2.2.2.symm | exact (pz_no (sh_no (by omega) h8.1 h8.2.2)).2.2.2.symm | exact (pz_no (sh_no (by omega) h8.1 h8.2.2.1)).2.2.2.symm | exact (pz_wrong hC1.1 hr).2.2.2.symm | exact (pz_ok hC1.1 (by simpa using hr)).2.2.2.symm⟩, trivial⟩⟩⟩
    · exact ⟨(hrefParse_t_0_3 l g), vcP (((decide ((((g.1 : Nat) : Int) : Int) < 10)) = true) ∧ (((decide ((((g.1 : Nat) : Int) : Int) = 4)) == false) = true → ((decide ((((g.1 : Nat) : Int) : Int) = 4)) == false) = true) ∧ (((decide ((((g.1 : Nat) : Int) : Int) = 4))) = false → ((decide ((((g.1 : Nat) : Int) : Int) = 4)) == false) = true) ∧ ((cond (decide ((((g.1 : Nat) : Int) : Int) = 4)) true (decide ((((g.1 : Nat) : Int) : Int) = 7))) = false) ∧ (g.1 < l.length) ∧ ((decide (((((l.getD g.1 0).toNat : Nat) : Int) : Int) < 48)) = false) ∧ (g.1 < l.length) ∧ ((decide ((57 : Int) < (((l.getD g.1 0).toNat : Nat) : Int))) = false) ∧ (g.2.1 < (rwD g.2.2).length) ∧ (((rwD g.2.2).getD g.2.1 []) = ([.int .i64 ((pk g.2.2 g.2.1 : Nat) : Int)] : List Value)) ∧ (IntKind.i64.wrap (10 * ((pk g.2.2 g.2.1 : Nat) : Int)) = 10 * ((pk g.2.2 g.2.1 : Nat) : Int)) ∧ (g.1 < l.length) ∧ (tI (IntKind.i64.wrap (((l.getD g.1 0).toNat : Nat) : Int)) (((l.getD g.1 0).toNat : Nat) : Int)) ∧ (IntKind.i64.wrap ((10 * ((pk g.2.2 g.2.1 : Nat) : Int)) + (((l.getD g.1 0).toNat : Nat) : Int)) = (10 * ((pk g.2.2 g.2.1 : Nat) : Int)) + (((l.getD g.1 0).toNat : Nat) : Int)) ∧ (IntKind.i64.wrap (((10 * ((pk g.2.2 g.2.1 : Nat) : Int)) + (((l.getD g.1 0).toNat : Nat) : Int)) - 48) = ((10 * ((pk g.2.2 g.2.1 : Nat) : Int)) + (((l.getD g.1 0).toNat : Nat) : Int)) - 48) ∧ (tI (((10 * ((pk g.2.2 g.2.1 : Nat) : Int)) + (((l.getD g.1 0).toNat : Nat) : Int)) - 48) ((10 * pk g.2.2 g.2.1 + Da.dv (l.getD g.1 0) : Nat) : Int)) ∧ (g.2.1 < (rwD g.2.2).length) ∧ (g.2.1 < (rwD g.2.2).length) ∧ (tLs 3 1 true ((rwD g.2.2).set g.2.1 [.int .i64 ((10 * pk g.2.2 g.2.1 + Da.dv (l.getD g.1 0) : Nat) : Int)]) (rwD (rdv l (g.1 + 1)))) ∧ (IntKind.i64.wrap (((g.1 : Nat) : Int) + 1) = ((g.1 : Nat) : Int) + 1) ∧ (tI (((g.1 : Nat) : Int) + 1) ((g.1 + 1 : Nat) : Int)) ∧ (J1 (rrefParse_t (hrefParse_t_0_3 l g) 8 (rrefParse_t (hrefParse_t_0_3 l g) 15 (rrefParse_t (hrefParse_t_0_3 l g) 13 (rrefParse_t (hrefParse_t_0_3 l g) 9 (rrefParse_t (hrefParse_t_0_3 l g) 7 (irefParse_t_0 l g)))))))) ⟨(decide_eq_true (by omega)), (fun hg => hg), (fun hp => by simp_all), (d47n h8.2.1), (by omega), (decide_eq_false (by omega)), (by omega), (decide_eq_false (by omega)), (by show g.2.1 < 3; omega), (rwD_row (by omega)), (i64_in (by omega) (by omega)), (by omega), ⟨rfl, i64_in (by omega) (by omega)⟩, (i64_in (by omega) (by omega)), (i64_in (by omega) (by omega)), ⟨rfl, by omega⟩, (by show g.2.1 < 3; omega), (by show g.2.1 < 3; omega), ⟨⟨rfl, rfl, rfl⟩, ((rwD_set h8.1 h8.2.1 hC1.2.2.1 hC1.2.2.2))⟩, (i64_in (by omega) (by omega)), ⟨rfl, by omega⟩, (hJ1 ((g.1 + 1, g.2.1, rdv l (g.1 + 1))) _ (⟨by show g.1 + 1 ≤ 10; omega, sh_more hC1.2.1 (sh_dig h8.2.1 h8.2.2.1 h8.2.2.2.1), hC1.2.2.1.trans (prt_dig h8.1 h8.2.1), rfl⟩) (by show 10 - (g.1 + 1) < 10 - g.1; omega) ⟨by kernel_rfl, by kernel_rfl⟩)⟩⟩
    · exact ⟨(hrefParse_t_0_4 l g), vcP (((decide ((((g.1 : Nat) : Int) : Int) < 10)) = true) ∧ (((decide ((((g.1 : Nat) : Int) : Int) = 4)) == false) = true → ((decide ((((g.1 : Nat) : Int) : Int) = 4)) == false) = true) ∧ (((decide ((((g.1 : Nat) : Int) : Int) = 4))) = false → ((decide ((((g.1 : Nat) : Int) : Int) = 4)) == false) = true) ∧ ((cond (decide ((((g.1 : Nat) : Int) : Int) = 4)) true (decide ((((g.1 : Nat) : Int) : Int) = 7))) = false) ∧ (g.1 < l.length) ∧ ((decide (((((l.getD g.1 0).toNat : Nat) : Int) : Int) < 48)) = true) ∧ ((tK (.E (.agg ⟨[.int .i64 0, .int .i64 0, .int .i64 0]⟩)) (.E (.agg ⟨[.int .i64 (pYd l), .int .i64 (pMd l), .int .i64 (pDd l)]⟩))) ∧ (tI 4 (pEr l)) ∧ True)) ⟨(decide_eq_true (by omega)), (fun hg => hg), (fun hp => by simp_all), (d47n h8.2.1), (by omega), (decide_eq_true (by omega)), ⟨(fun _ _ _ _ _ h => by first | (rw [(pz_no (sh_len hl)).1, (pz_no (sh_len hl)).2.1, (pz_no (sh_len hl)).2.2.1]; exact h) | (rw [(pz_no (sh_no (by omega) h8.1 h8.2.2)).1, (pz_no (sh_no (by omega) h8.1 h8.2.2)).2.1, (pz_no (sh_no (by omega) h8.1 h8.2.2)).2.2.1]; exact h) | (rw [(pz_no (sh_no (by omega) h8.1 h8.2.2.1)).1, (pz_no (sh_no (by omega) h8.1 h8.2.2.1)).2.1, (pz_no (sh_no (by omega) h8.1 h8.2.2.1)).2.2.1]; exact h) | (rw [(pz_wrong hC1.1 hr).1, (pz_wrong hC1.1 hr).2.1, (pz_wrong hC1.1 hr).2.2.1]; exact h) | (rw [(pz_ok hC1.1 (by simpa using hr)).1, (pz_ok hC1.1 (by simpa using hr)).2.1, (pz_ok hC1.1 (by simpa using hr)).2.2.1]; exact h)), ⟨rfl, by first | exact (pz_no (sh_len hl)).2.2.2.symm | exact (pz_no (sh_no (by omega) h8.1 h8.2.2)).2.2.2.symm | exact (pz_no (sh_no (by omega) h8.1 h8.2.2.1)).2.2.2.symm | exact (pz_wrong hC1.1 hr).2.2.2.symm | exact (pz_ok hC1.1 (by simpa using hr)).2.2.2.symm⟩, trivial⟩⟩⟩
    · exact ⟨(hrefParse_t_0_5 l g), vcP (((decide ((((g.1 : Nat) : Int) : Int) < 10)) = true) ∧ (((decide ((((g.1 : Nat) : Int) : Int) = 4)) == false) = true → ((decide ((((g.1 : Nat) : Int) : Int) = 4)) == false) = true) ∧ (((decide ((((g.1 : Nat) : Int) : Int) = 4))) = false → ((decide ((((g.1 : Nat) : Int) : Int) = 4)) == false) = true) ∧ ((cond (decide ((((g.1 : Nat) : Int) : Int) = 4)) true (decide ((((g.1 : Nat) : Int) : Int) = 7))) = false) ∧ (g.1 < l.length) ∧ ((decide (((((l.getD g.1 0).toNat : Nat) : Int) : Int) < 48)) = false) ∧ (g.1 < l.length) ∧ ((decide ((57 : Int) < (((l.getD g.1 0).toNat : Nat) : Int))) = true) ∧ ((tK (.E (.agg ⟨[.int .i64 0, .int .i64 0, .int .i64 0]⟩)) (.E (.agg ⟨[.int .i64 (pYd l), .int .i64 (pMd l), .int .i64 (pDd l)]⟩))) ∧ (tI 4 (pEr l)) ∧ True)) ⟨(decide_eq_true (by omega)), (fun hg => hg), (fun hp => by simp_all), (d47n h8.2.1), (by omega), (decide_eq_false (by omega)), (by omega), (decide_eq_true (by omega)), ⟨(fun _ _ _ _ _ h => by first | (rw [(pz_no (sh_len hl)).1, (pz_no (sh_len hl)).2.1, (pz_no (sh_len hl)).2.2.1]; exact h) | (rw [(pz_no (sh_no (by omega) h8.1 h8.2.2)).1, (pz_no (sh_no (by omega) h8.1 h8.2.2)).2.1, (pz_no (sh_no (by omega) h8.1 h8.2.2)).2.2.1]; exact h) | (rw [(pz_no (sh_no (by omega) h8.1 h8.2.2.1)).1, (pz_no (sh_no (by omega) h8.1 h8.2.2.1)).2.1, (pz_no (sh_no (by omega) h8.1 h8.2.2.1)).2.2.1]; exact h) | (rw [(pz_wrong hC1.1 hr).1, (pz_wrong hC1.1 hr).2.1, (pz_wrong hC1.1 hr).2.2.1]; exact h) | (rw [(pz_ok hC1.1 (by simpa using hr)).1, (pz_ok hC1.1 (by simpa using hr)).2.1, (pz_ok hC1.1 (by simpa using hr)).2.2.1]; exact h)), ⟨rfl, by first | exact (pz_no (sh_len hl)).2.2.2.symm | exact (pz_no (sh_no (by omega) h8.1 h8.2.2)).2.2.2.symm | exact (pz_no (sh_no (by omega) h8.1 h8.2.2.1)).2.2.2.symm | exact (pz_wrong hC1.1 hr).2.2.2.symm | exact (pz_ok hC1.1 (by simpa using hr)).2.2.2.symm⟩, trivial⟩⟩⟩)))))
end Go.Proofs.YtpoccebedoimiaaDoor.X
