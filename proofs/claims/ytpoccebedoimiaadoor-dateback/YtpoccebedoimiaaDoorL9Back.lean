/- DateBack. Written by a script (tools/laws). -/
import Derived.Test.YtpoccebedoimiaaDoorL9S
namespace Go.Proofs.YtpoccebedoimiaaDoor.X
open Go.Proofs.YtpoccebedoimiaaDoor.Da
open Go.RowKit Go.Proofs.YtpoccebedoimiaaDoor.Z
set_option linter.unusedVariables false
abbrev Zi (n : Int) (i : Nat) : Int := at3 n (max 0 n % 3652061) (3652059 - max 0 n % 400) i
theorem db4 (Z : Int) (i : Nat) : 3 ≤ i ∨ (i < 3 ∧ ¬ (1 ≤ Z ∧ Z ≤ 3652059)) ∨ (i < 3 ∧ (1 ≤ Z ∧ Z ≤ 3652059) ∧ Z < 3652059) ∨ (i < 3 ∧ (1 ≤ Z ∧ Z ≤ 3652059) ∧ Z = 3652059) := by omega
theorem nx_next {y m d : Int} (h : rightI y m d) : (nextB y m d = true ∧ rightI (nextI y m d).1 (nextI y m d).2.1 (nextI y m d).2.2 ∧ numI y m d < 3652059) ∨ (nextB y m d = false ∧ numI y m d = 3652059) := by
  obtain ⟨hy, hm, h1, h2, _⟩ := right_in h
  have hn := num_next h
  cases hb : nextB y m d with
  | true =>
    have hl : (nextI y m d).1 ≤ 9999 := by
      unfold nextB at hb
      unfold nextI
      split
      · exact hy.2
      · next a =>
        rw [if_neg a] at hb
        split
        · exact hy.2
        · next b =>
          rw [if_neg b] at hb
          have := of_decide_eq_true hb
          show y + 1 ≤ 9999
          omega
    have hr := right_next h hl
    refine .inl ⟨rfl, hr, ?_⟩
    have := (num_in hr).2
    omega
  | false =>
    refine .inr ⟨rfl, ?_⟩
    unfold nextB at hb
    split at hb
    · cases hb
    · next a =>
      split at hb
      · cases hb
      · next b =>
        have hy2 := of_decide_eq_false hb
        unfold nextI at hn
        rw [if_neg a, if_neg b] at hn
        obtain rfl : y = 9999 := by omega
        have e : numI (9999 + 1) 1 1 = 3652060 := by
          unfold numI
          rw [show ((9999 : Int) + 1 - 1).toNat = 9999 from rfl, yS_last]
          rfl
        rw [show numI (9999 + 1) 1 1 = numI ((9999 : Int) + 1, (1 : Int), (1 : Int)).1 ((9999 : Int) + 1, (1 : Int), (1 : Int)).2.1 ((9999 : Int) + 1, (1 : Int), (1 : Int)).2.2 from rfl] at e
        omega
theorem db_next {Z : Int} (h : 1 ≤ Z ∧ Z ≤ 3652059) (h2 : Z < 3652059) : nextB (dtN Z).1 (dtN Z).2.1 (dtN Z).2.2 = true ∧ dtN (Z + 1) = nextI (dtN Z).1 (dtN Z).2.1 (dtN Z).2.2 ∧ ofE (Z + 1) = 0 := by
  obtain ⟨a1, a2⟩ := dtN_ok h.1 h.2
  rcases nx_next a1 with ⟨b1, b2, _⟩ | ⟨_, b2⟩
  · refine ⟨b1, ?_, of_yes (by omega)⟩
    have := dtN_eq b2
    rw [num_next a1, a2] at this
    exact this
  · omega
theorem db_last {Z : Int} (h : 1 ≤ Z ∧ Z ≤ 3652059) (h2 : Z = 3652059) : nextB (dtN Z).1 (dtN Z).2.1 (dtN Z).2.2 = false ∧ ofE (Z + 1) = 11 := by
  obtain ⟨a1, a2⟩ := dtN_ok h.1 h.2
  rcases nx_next a1 with ⟨_, _, b2⟩ | ⟨b1, _⟩
  · omega
  · exact ⟨b1, (of_no (by omega)).2⟩
theorem max_rem {n k : Int} (hk : 0 < k) : (max 0 n).tmod k = max 0 n % k := Int.tmod_eq_emod_of_nonneg (by omega)
theorem db_b {z : Int} {c : Bool} (h : c = !decide (1 ≤ z ∧ z ≤ 3652059)) : (cond (decide (z < (1 : Int))) true (decide ((3652059 : Int) < z))) = c := by
  have := of_b h
  rw [yS_last] at this
  exact this
noncomputable def ctb17 : List (Ct dk) := [
  ct1 17 0 en17 vDt (fun x => .s (.E (.int .i64 (numI x.1 x.2.1 x.2.2)))) (fun x => [rightI x.1 x.2.1 x.2.2]) fun _ p _ _  h1 => refNumber_t h1 p.1,
  ct1 21 0 en21 vDt (fun x => .t [.E (.agg ⟨[.int .i64 ((nextI x.1 x.2.1 x.2.2).1), .int .i64 ((nextI x.1 x.2.1 x.2.2).2.1), .int .i64 ((nextI x.1 x.2.1 x.2.2).2.2)]⟩), .E (.bool (nextB x.1 x.2.1 x.2.2))]) (fun x => [rightI x.1 x.2.1 x.2.2]) fun _ p _ _  h1 => refNext_t h1 p.1,
  ct0w 19 0 en19 (.O .Tb) isTbk isTbk_ok (.s (.E (.bool true))) fun _ _ hW => wakes9_t hW] ++ ctb16
noncomputable abbrev rback_t := rX ctb17 Tryd.f4
noncomputable abbrev dback_t (n : Int) := dX ctb17 Tryd.f4 (.s (.E (.bool true)))
noncomputable def hback_t (n : Int) : Nat → Hint K := fun ι => if ι = 1 then [(3, 0, some (.s (.E (.int .i64 (max 0 n % 3652061))))), (6, 0, some (.s (.E (.int .i64 (max 0 n % 400))))), (9, 0, some (.s (.E (.int .i64 3))))] else []
noncomputable def iback_t_0 (n : Int) (i : Nat) : Sx K := ⟨[(1000000, .O .Tb), (21, .L 3 1 ([[.int .i64 n], [.int .i64 (max 0 n % 3652061)], [.int .i64 (3652059 - (max 0 n % 400))]]) true), (22, .E (.int .i64 3)), (23, .E (.int .i64 ((i : Nat) : Int)))], []⟩
noncomputable def hback_t_0_0 (n : Int) (i : Nat) : Nat → Hint K := fun ι => if ι = 2 then [(0, 0, some (.s (.E (.bool false))))] else []
noncomputable def hback_t_0_1 (n : Int) (i : Nat) : Nat → Hint K := fun ι => if ι = 2 then [(0, 0, some (.s (.E (.bool true))))] else if ι = 3 then [(0, 0, some (.s (.A [.int .i64 (Zi n i)])))] else if ι = 5 then [(3, 777777, none), (4, 777777, none), (5, 777777, some (.s (.E (.bool true))))] else if ι = 6 then [(1, 0, some (.s (.E (.bool false)))), (5, 0, some (.s (.E (.bool false))))] else if ι = 15 then [(0, 0, some (.s (.E (.int .i64 ((i + 1 : Nat) : Int)))))] else []
noncomputable def hback_t_0_2 (n : Int) (i : Nat) : Nat → Hint K := fun ι => if ι = 2 then [(0, 0, some (.s (.E (.bool true))))] else if ι = 3 then [(0, 0, some (.s (.A [.int .i64 (Zi n i)])))] else if ι = 5 then [(3, 777777, none), (4, 777777, none), (5, 777777, some (.s (.E (.bool false))))] else if ι = 9 then [(1, 0, some (.s (.E (.bool false)))), (4, 0, some (.s (.E (.bool false)))), (9, 0, some (.s (.E (.bool false)))), (13, 0, some (.s (.E (.bool true)))), (20, 0, some (.s (.E (.bool false))))] else if ι = 12 then [(4, 0, some (.s (.E (.bool true))))] else if ι = 13 then [(2, 0, some (.s (.E (.bool true)))), (3, 0, some (.s (.E (.bool false)))), (9, 0, some (.s (.E (.bool false))))] else if ι = 15 then [(0, 0, some (.s (.E (.int .i64 ((i + 1 : Nat) : Int)))))] else []
noncomputable def hback_t_0_3 (n : Int) (i : Nat) : Nat → Hint K := fun ι => if ι = 2 then [(0, 0, some (.s (.E (.bool true))))] else if ι = 3 then [(0, 0, some (.s (.A [.int .i64 (Zi n i)])))] else if ι = 5 then [(3, 777777, none), (4, 777777, none), (5, 777777, some (.s (.E (.bool false))))] else if ι = 9 then [(1, 0, some (.s (.E (.bool false)))), (4, 0, some (.s (.E (.bool false)))), (9, 0, some (.s (.E (.bool false)))), (13, 0, some (.s (.E (.bool true)))), (20, 0, some (.s (.E (.bool false))))] else if ι = 12 then [(4, 0, some (.s (.E (.bool false))))] else if ι = 13 then [(2, 0, some (.s (.E (.bool false)))), (3, 0, some (.s (.E (.bool false))))] else if ι = 15 then [(0, 0, some (.s (.E (.int .i64 ((i + 1 : Nat) : Int)))))] else []
theorem back_t {w : World} {v0 : Value} {n : Int} (h0 : (isE (.int .i64 n)) w v0) (hw : isTb w v0)  : Calls Tryd.prog 4 #[v0] w (Ret w fun v w' => (isE (.bool true)) w' v) := by
  exact fx ctb17 Tryd.func4 ((hback_t n)) [(0, .E (.int .i64 n)), (1000000, .O .Tb)] (.s (.E (.bool true))) ⟨h0, hw, trivial⟩ ((3652061 ≠ (0 : Int)) ∧ (tI (Int.tmod (max 0 n) 3652061) (max 0 n % 3652061)) ∧ (400 ≠ (0 : Int)) ∧ (tI (Int.tmod (max 0 n) 400) (max 0 n % 400)) ∧ (IntKind.i64.wrap (3652059 - (max 0 n % 400)) = 3652059 - (max 0 n % 400)) ∧ (tI ((([[.int .i64 n], [.int .i64 (max 0 n % 3652061)], [.int .i64 (3652059 - (max 0 n % 400))]] : List (List Value)).length : Nat) : Int) 3) ∧ (dback_t n [0, 1] [(hback_t n)] [] (rback_t (hback_t n) 1 (ent Tryd.prog Tryd.f4 (κ := K) [(0, .E (.int .i64 n)), (1000000, .O .Tb)])))) ⟨(by decide), ⟨rfl, max_rem (by decide)⟩, (by decide), ⟨rfl, max_rem (by decide)⟩, (i64_in (by omega) (by omega)), ⟨rfl, rfl⟩, (lpI (fun h S' J => dback_t n [0, 1, 0, 2] [(hback_t n), h] [J] S') (fun i : Nat => i ≤ 3) (fun i => 3 - i) (iback_t_0 n) (0) (rback_t (hback_t n) 1 (ent Tryd.prog Tryd.f4 (κ := K) [(0, .E (.int .i64 n)), (1000000, .O .Tb)])) (Nat.zero_le _) (fun i hC1 J1 hJ1 => (by
    rcases db4 (Zi n i) i with h8 | h8 | h8 | h8
    · exact ⟨(hback_t_0_0 n i), vcP (((decide ((((i : Nat) : Int) : Int) < 3)) = false) ∧ (true = true)) ⟨(decide_eq_false (by omega)), (have hC1 : True := (trivial); rfl)⟩⟩
    · exact ⟨(hback_t_0_1 n i), vcP (((decide ((((i : Nat) : Int) : Int) < 3)) = true) ∧ (i < ([[.int .i64 n], [.int .i64 (max 0 n % 3652061)], [.int .i64 (3652059 - (max 0 n % 400))]] : List (List Value)).length) ∧ ((([[.int .i64 n], [.int .i64 (max 0 n % 3652061)], [.int .i64 (3652059 - (max 0 n % 400))]] : List (List Value)).getD i []) = ([.int .i64 (Zi n i)] : List Value)) ∧ (((decide (((Zi n i) : Int) < 1)) == false) = true → ((decide (((Zi n i) : Int) < 1)) == false) = true) ∧ (((decide (((Zi n i) : Int) < 1))) = false → ((decide (((Zi n i) : Int) < 1)) == false) = true) ∧ ((cond (decide (((Zi n i) : Int) < 1)) true (decide ((3652059 : Int) < (Zi n i)))) = true) ∧ ((!decide (((ofE (Zi n i)) : Int) = 11)) = false) ∧ ((!(decide ((((dtN (Zi n i)).1) : Int) = 0) && (decide ((((dtN (Zi n i)).2.1) : Int) = 0) && (decide ((((dtN (Zi n i)).2.2) : Int) = 0) && true)))) = false) ∧ (IntKind.i64.wrap (((i : Nat) : Int) + 1) = ((i : Nat) : Int) + 1) ∧ (tI (((i : Nat) : Int) + 1) ((i + 1 : Nat) : Int)) ∧ (J1 (rback_t (hback_t_0_1 n i) 15 (rback_t (hback_t_0_1 n i) 6 (rback_t (hback_t_0_1 n i) 5 (rback_t (hback_t_0_1 n i) 4 (rback_t (hback_t_0_1 n i) 3 (rback_t (hback_t_0_1 n i) 2 (iback_t_0 n i))))))))) ⟨(decide_eq_true (by omega)), (by simp; omega), (at3_row _ _ _ h8.1), (fun hg => hg), (fun hp => by simp_all), (db_b (by rw [decide_eq_false h8.2]; rfl)), (by rw [(of_no h8.2).2]; rfl), (by rw [(of_no h8.2).1]; rfl), (i64_in (by omega) (by omega)), ⟨rfl, by omega⟩, (hJ1 (i + 1) _ (by omega) (by omega) ⟨by kernel_rfl, by kernel_rfl⟩)⟩⟩
    · exact ⟨(hback_t_0_2 n i), vcP (((decide ((((i : Nat) : Int) : Int) < 3)) = true) ∧ (i < ([[.int .i64 n], [.int .i64 (max 0 n % 3652061)], [.int .i64 (3652059 - (max 0 n % 400))]] : List (List Value)).length) ∧ ((([[.int .i64 n], [.int .i64 (max 0 n % 3652061)], [.int .i64 (3652059 - (max 0 n % 400))]] : List (List Value)).getD i []) = ([.int .i64 (Zi n i)] : List Value)) ∧ (((decide (((Zi n i) : Int) < 1)) == false) = true → ((decide (((Zi n i) : Int) < 1)) == false) = true) ∧ (((decide (((Zi n i) : Int) < 1))) = false → ((decide (((Zi n i) : Int) < 1)) == false) = true) ∧ ((cond (decide (((Zi n i) : Int) < 1)) true (decide ((3652059 : Int) < (Zi n i)))) = false) ∧ ((!decide (((ofE (Zi n i)) : Int) = 0)) = false) ∧ ((!decide (((chkI ((dtN (Zi n i)).1) ((dtN (Zi n i)).2.1) ((dtN (Zi n i)).2.2)) : Int) = 0)) = false) ∧ ((!decide (((nbI ((dtN (Zi n i)).1) ((dtN (Zi n i)).2.1) ((dtN (Zi n i)).2.2)) : Int) = (Zi n i))) = false) ∧ ((decide (rightI ((dtN (Zi n i)).1) ((dtN (Zi n i)).2.1) ((dtN (Zi n i)).2.2))) = true) ∧ (rightI ((dtN (Zi n i)).1) ((dtN (Zi n i)).2.1) ((dtN (Zi n i)).2.2)) ∧ ((!decide (((numI ((dtN (Zi n i)).1) ((dtN (Zi n i)).2.1) ((dtN (Zi n i)).2.2)) : Int) = (Zi n i))) = false) ∧ (IntKind.i64.wrap ((Zi n i) + 1) = (Zi n i) + 1) ∧ (rightI ((dtN (Zi n i)).1) ((dtN (Zi n i)).2.1) ((dtN (Zi n i)).2.2)) ∧ ((nextB ((dtN (Zi n i)).1) ((dtN (Zi n i)).2.1) ((dtN (Zi n i)).2.2)) = true) ∧ ((decide (((ofE ((Zi n i) + 1)) : Int) = 0)) = true) ∧ ((!(true == true)) = false) ∧ ((!(decide ((((dtN ((Zi n i) + 1)).1) : Int) = ((nextI ((dtN (Zi n i)).1) ((dtN (Zi n i)).2.1) ((dtN (Zi n i)).2.2)).1)) && (decide ((((dtN ((Zi n i) + 1)).2.1) : Int) = ((nextI ((dtN (Zi n i)).1) ((dtN (Zi n i)).2.1) ((dtN (Zi n i)).2.2)).2.1)) && (decide ((((dtN ((Zi n i) + 1)).2.2) : Int) = ((nextI ((dtN (Zi n i)).1) ((dtN (Zi n i)).2.1) ((dtN (Zi n i)).2.2)).2.2)) && true)))) = false) ∧ (IntKind.i64.wrap (((i : Nat) : Int) + 1) = ((i : Nat) : Int) + 1) ∧ (tI (((i : Nat) : Int) + 1) ((i + 1 : Nat) : Int)) ∧ (J1 (rback_t (hback_t_0_2 n i) 15 (rback_t (hback_t_0_2 n i) 13 (rback_t (hback_t_0_2 n i) 12 (rback_t (hback_t_0_2 n i) 11 (rback_t (hback_t_0_2 n i) 9 (rback_t (hback_t_0_2 n i) 8 (rback_t (hback_t_0_2 n i) 5 (rback_t (hback_t_0_2 n i) 4 (rback_t (hback_t_0_2 n i) 3 (rback_t (hback_t_0_2 n i) 2 (iback_t_0 n i))))))))))))) ⟨(decide_eq_true (by omega)), (by simp; omega), (at3_row _ _ _ h8.1), (fun hg => hg), (fun hp => by simp_all), (db_b (by rw [decide_eq_true h8.2.1]; rfl)), (by rw [of_yes h8.2.1]; rfl), (by rw [(chk_1 (dtN_ok h8.2.1.1 h8.2.1.2).1).1]; rfl), (by rw [(chk_1 (dtN_ok h8.2.1.1 h8.2.1.2).1).2.1, (dtN_ok h8.2.1.1 h8.2.1.2).2]; simp), (decide_eq_true (dtN_ok h8.2.1.1 h8.2.1.2).1), (dtN_ok h8.2.1.1 h8.2.1.2).1, (by rw [(dtN_ok h8.2.1.1 h8.2.1.2).2]; simp), (i64_in (by omega) (by omega)), (dtN_ok h8.2.1.1 h8.2.1.2).1, ((db_next h8.2.1 h8.2.2).1), (decide_eq_true (db_next h8.2.1 h8.2.2).2.2), (rfl), (by rw [(db_next h8.2.1 h8.2.2).2.1]; simp), (i64_in (by omega) (by omega)), ⟨rfl, by omega⟩, (hJ1 (i + 1) _ (by omega) (by omega) ⟨by kernel_rfl, by kernel_rfl⟩)⟩⟩
    · exact ⟨(hback_t_0_3 n i), vcP (((decide ((((i : Nat) : Int) : Int) < 3)) = true) ∧ (i < ([[.int .i64 n], [.int .i64 (max 0 n % 3652061)], [.int .i64 (3652059 - (max 0 n % 400))]] : List (List Value)).length) ∧ ((([[.int .i64 n], [.int .i64 (max 0 n % 3652061)], [.int .i64 (3652059 - (max 0 n % 400))]] : List (List Value)).getD i []) = ([.int .i64 (Zi n i)] : List Value)) ∧ (((decide (((Zi n i) : Int) < 1)) == false) = true → ((decide (((Zi n i) : Int) < 1)) == false) = true) ∧ (((decide (((Zi n i) : Int) < 1))) = false → ((decide (((Zi n i) : Int) < 1)) == false) = true) ∧ ((cond (decide (((Zi n i) : Int) < 1)) true (decide ((3652059 : Int) < (Zi n i)))) = false) ∧ ((!decide (((ofE (Zi n i)) : Int) = 0)) = false) ∧ ((!decide (((chkI ((dtN (Zi n i)).1) ((dtN (Zi n i)).2.1) ((dtN (Zi n i)).2.2)) : Int) = 0)) = false) ∧ ((!decide (((nbI ((dtN (Zi n i)).1) ((dtN (Zi n i)).2.1) ((dtN (Zi n i)).2.2)) : Int) = (Zi n i))) = false) ∧ ((decide (rightI ((dtN (Zi n i)).1) ((dtN (Zi n i)).2.1) ((dtN (Zi n i)).2.2))) = true) ∧ (rightI ((dtN (Zi n i)).1) ((dtN (Zi n i)).2.1) ((dtN (Zi n i)).2.2)) ∧ ((!decide (((numI ((dtN (Zi n i)).1) ((dtN (Zi n i)).2.1) ((dtN (Zi n i)).2.2)) : Int) = (Zi n i))) = false) ∧ (IntKind.i64.wrap ((Zi n i) + 1) = (Zi n i) + 1) ∧ (rightI ((dtN (Zi n i)).1) ((dtN (Zi n i)).2.1) ((dtN (Zi n i)).2.2)) ∧ ((nextB ((dtN (Zi n i)).1) ((dtN (Zi n i)).2.1) ((dtN (Zi n i)).2.2)) = false) ∧ ((decide (((ofE ((Zi n i) + 1)) : Int) = 0)) = false) ∧ ((!(false == false)) = false) ∧ (IntKind.i64.wrap (((i : Nat) : Int) + 1) = ((i : Nat) : Int) + 1) ∧ (tI (((i : Nat) : Int) + 1) ((i + 1 : Nat) : Int)) ∧ (J1 (rback_t (hback_t_0_3 n i) 15 (rback_t (hback_t_0_3 n i) 13 (rback_t (hback_t_0_3 n i) 12 (rback_t (hback_t_0_3 n i) 11 (rback_t (hback_t_0_3 n i) 9 (rback_t (hback_t_0_3 n i) 8 (rback_t (hback_t_0_3 n i) 5 (rback_t (hback_t_0_3 n i) 4 (rback_t (hback_t_0_3 n i) 3 (rback_t (hback_t_0_3 n i) 2 (iback_t_0 n i))))))))))))) ⟨(decide_eq_true (by omega)), (by simp; omega), (at3_row _ _ _ h8.1), (fun hg => hg), (fun hp => by simp_all), (db_b (by rw [decide_eq_true h8.2.1]; rfl)), (by rw [of_yes h8.2.1]; rfl), (by rw [(chk_1 (dtN_ok h8.2.1.1 h8.2.1.2).1).1]; rfl), (by rw [(chk_1 (dtN_ok h8.2.1.1 h8.2.1.2).1).2.1, (dtN_ok h8.2.1.1 h8.2.1.2).2]; simp), (decide_eq_true (dtN_ok h8.2.1.1 h8.2.1.2).1), (dtN_ok h8.2.1.1 h8.2.1.2).1, (by rw [(dtN_ok h8.2.1.1 h8.2.1.2).2]; simp), (i64_in (by omega) (by omega)), (dtN_ok h8.2.1.1 h8.2.1.2).1, ((db_last h8.2.1 h8.2.2).1), (by rw [(db_last h8.2.1 h8.2.2).2]; rfl), (rfl), (i64_in (by omega) (by omega)), ⟨rfl, by omega⟩, (hJ1 (i + 1) _ (by omega) (by omega) ⟨by kernel_rfl, by kernel_rfl⟩)⟩⟩)))⟩
end Go.Proofs.YtpoccebedoimiaaDoor.X
