/- What the laws of layer 10 share: lists of dates compared, signs of life. Written by a script (tools/laws). -/
import Derived.Test.YtmklkjjnkejakaaDoorMOb
namespace Go.Proofs.YtmklkjjnkejakaaDoor.X
open Go.Proofs.YtmklkjjnkejakaaDoor.Da
open Go.RowKit Go.Proofs.YtmklkjjnkejakaaDoor.Z
set_option linter.unusedVariables false
def dtR (r : List Value) : Int × Int × Int := match r with
  | [.int .i64 a, .int .i64 b, .int .i64 c] => (a, b, c)
  | _ => (0, 0, 0)
theorem map_RW (X : List (Int × Int × Int)) : (X.map dtW).map dtR = X := by
  rw [List.map_map]
  exact List.map_id X
theorem dtW_row {X : List (Int × Int × Int)} {i : Nat} (h : i < X.length) : (X.map dtW).getD i [] = [.int .i64 (X.getD i (0, 0, 0)).1, .int .i64 (X.getD i (0, 0, 0)).2.1, .int .i64 (X.getD i (0, 0, 0)).2.2] := by
  rw [List.getD_eq_getElem?_getD, List.getD_eq_getElem?_getD, List.getElem?_map, List.getElem?_eq_getElem h]
  rfl
theorem ext3 {X Y : List (Int × Int × Int)} (hl : X.length = Y.length) (h : ∀ j, j < X.length → X.getD j (0, 0, 0) = Y.getD j (0, 0, 0)) : X = Y := by
  refine List.ext_getElem hl fun i h1 h2 => ?_
  have := h i h1
  rw [List.getD_eq_getElem?_getD, List.getD_eq_getElem?_getD, List.getElem?_eq_getElem h1, List.getElem?_eq_getElem h2] at this
  exact this
theorem ne3 {a b : Int × Int × Int} (h : ¬ a = b) : (!(decide (a.1 = b.1) && (decide (a.2.1 = b.2.1) && (decide (a.2.2 = b.2.2) && true)))) = true := by
  obtain ⟨a1, a2, a3⟩ := a
  obtain ⟨b1, b2, b3⟩ := b
  simp only [Prod.mk.injEq] at h
  by_cases h1 : a1 = b1 <;> by_cases h2 : a2 = b2 <;> by_cases h3 : a3 = b3 <;> simp_all
theorem eq3 {a b : Int × Int × Int} (h : a = b) : (decide (a.1 = b.1) && (decide (a.2.1 = b.2.1) && (decide (a.2.2 = b.2.2) && true))) = true := by
  subst h
  simp
theorem eqL3 (n : Nat) (X Y : List (Int × Int × Int)) (i : Nat) : n ≤ i ∨ (i < n ∧ X.getD i (0, 0, 0) = Y.getD i (0, 0, 0)) ∨ (i < n ∧ ¬ X.getD i (0, 0, 0) = Y.getD i (0, 0, 0)) := by
  rcases Nat.lt_or_ge i n with h | h
  · by_cases e : X.getD i (0, 0, 0) = Y.getD i (0, 0, 0)
    · exact .inr (.inl ⟨h, e⟩)
    · exact .inr (.inr ⟨h, e⟩)
  · exact .inl h
theorem mk_ok (a b c : Int) : rightI (mkY a 9999) (mkM b) (mkD (mkY a 9999) (mkM b) c) := mk_right (by decide) (by decide)
def tw (y m d : Int) (i : Nat) : Int × Int × Int := if i = 0 then (y, m, d) else (mkY y 9999, mkM m, mkD (mkY y 9999) (mkM m) d)
theorem tw_row (y m d : Int) {i : Nat} (h : i < 2) : ([[.int .i64 y, .int .i64 m, .int .i64 d], [.int .i64 (mkY y 9999), .int .i64 (mkM m), .int .i64 (mkD (mkY y 9999) (mkM m) d)]] : List (List Value)).getD i [] = [.int .i64 (tw y m d i).1, .int .i64 (tw y m d i).2.1, .int .i64 (tw y m d i).2.2] := by
  rcases i with _ | _ | i <;> first | rfl | omega
theorem max_rem {n k : Int} (hk : 0 < k) : (max 0 n).tmod k = max 0 n % k := Int.tmod_eq_emod_of_nonneg (by omega)
theorem w_ser : serE 2024 1 31 1 2 = 0 := by decide
theorem w_lst : (serL 2024 1 31 1 2) = [(2024, 2, 29), (2024, 3, 31)] := by decide
theorem w_ad : adP 2024 1 31 13 = (2025, 2, 28) ∧ adE 2024 1 31 13 = 0 := by decide
theorem w_far : adE 2024 1 31 (-24300) = 11 := by decide
theorem w_end : endI 2024 1 31 = true := by decide
noncomputable abbrev reqD_t := rX ctb12 Tryd.f19
noncomputable abbrev deqD_t (X Y : List (Int × Int × Int)) := dX ctb12 Tryd.f19 (.s (.E (.bool (decide (X = Y)))))
noncomputable def heqD_t (X Y : List (Int × Int × Int)) : Nat → Hint K := fun ι => if ι = 3 then [(1, 0, some (.s (.E (.int .i64 ((X.length : Nat) : Int)))))] else []
noncomputable def ieqD_t_0 (X Y : List (Int × Int × Int)) (i : Nat) : Sx K := ⟨[(0, .L 23 3 (X.map dtW) false), (1, .L 23 3 (Y.map dtW) false), (12, .E (.int .i64 ((X.length : Nat) : Int))), (13, .E (.int .i64 ((i : Nat) : Int)))], []⟩
noncomputable def heqD_t_0_0 (X Y : List (Int × Int × Int)) (i : Nat) : Nat → Hint K := fun ι => if ι = 4 then [(0, 0, some (.s (.E (.bool false))))] else []
noncomputable def heqD_t_0_1 (X Y : List (Int × Int × Int)) (i : Nat) : Nat → Hint K := fun ι => if ι = 4 then [(0, 0, some (.s (.E (.bool true))))] else if ι = 6 then [(2, 0, some (.s (.A [.int .i64 ((X.getD i (0, 0, 0)).1), .int .i64 ((X.getD i (0, 0, 0)).2.1), .int .i64 ((X.getD i (0, 0, 0)).2.2)]))), (6, 0, some (.s (.A [.int .i64 ((Y.getD i (0, 0, 0)).1), .int .i64 ((Y.getD i (0, 0, 0)).2.1), .int .i64 ((Y.getD i (0, 0, 0)).2.2)]))), (8, 0, some (.s (.E (.bool false))))] else if ι = 8 then [(0, 0, some (.s (.E (.int .i64 ((i + 1 : Nat) : Int)))))] else []
noncomputable def heqD_t_0_2 (X Y : List (Int × Int × Int)) (i : Nat) : Nat → Hint K := fun ι => if ι = 4 then [(0, 0, some (.s (.E (.bool true))))] else if ι = 6 then [(2, 0, some (.s (.A [.int .i64 ((X.getD i (0, 0, 0)).1), .int .i64 ((X.getD i (0, 0, 0)).2.1), .int .i64 ((X.getD i (0, 0, 0)).2.2)]))), (6, 0, some (.s (.A [.int .i64 ((Y.getD i (0, 0, 0)).1), .int .i64 ((Y.getD i (0, 0, 0)).2.1), .int .i64 ((Y.getD i (0, 0, 0)).2.2)]))), (8, 0, some (.s (.E (.bool true))))] else []
theorem eqD_t {w : World} {v0 v1 : Value} {X Y : List (Int × Int × Int)} (h0 : (isRd (cxA w) true 3 (X.map dtW)) w v0) (h1 : (isRd (cxA w) true 3 (Y.map dtW)) w v1)  : Calls Tryd.prog 19 #[v0, v1] w (Ret w fun v w' => (isE (.bool (decide (X = Y)))) w' v) := by
  have hx : X.length ≤ 9223372036854775807 := by
    obtain ⟨_, a, cap, _, h2, h3, _⟩ := h0
    rw [List.length_map] at h2
    simp only [maxLen] at h3
    omega
  exact fx ctb12 Tryd.func19 ((heqD_t X Y)) [(0, .L 23 3 (X.map dtW) false), (1, .L 23 3 (Y.map dtW) false)] (.s (.E (.bool (decide (X = Y))))) ⟨h0, h1, trivial⟩ (cnd ((!decide (((((X.map dtW).length : Nat) : Int) : Int) = (((Y.map dtW).length : Nat) : Int)))) (false = (decide (X = Y))) ((tI (((X.map dtW).length : Nat) : Int) ((X.length : Nat) : Int)) ∧ (deqD_t X Y [1, 0, 1] [(heqD_t X Y)] [] (reqD_t (heqD_t X Y) 3 (reqD_t (heqD_t X Y) 1 (ent Tryd.prog Tryd.f19 (κ := K) [(0, .L 23 3 (X.map dtW) false), (1, .L 23 3 (Y.map dtW) false)])))))) ((Classical.em (¬ X.length = Y.length)).elim (fun hl => cnd_t (by simp; omega) (by first | exact (decide_eq_false (fun e => hl (congrArg List.length e))).symm | exact (decide_eq_false (fun e => h8.2 (by rw [e]))).symm | exact (decide_eq_true (ext3 (by simpa using hl) hC1)).symm)) (fun hl => cnd_f (by simp; omega) ⟨⟨rfl, by simp⟩, (lpI (fun h S' J => deqD_t X Y [1, 0, 1, 0, 2] [(heqD_t X Y), h] [J] S') (fun i : Nat => i ≤ X.length ∧ ∀ j, j < i → X.getD j (0, 0, 0) = Y.getD j (0, 0, 0)) (fun i => X.length - i) (ieqD_t_0 X Y) (0) (reqD_t (heqD_t X Y) 3 (reqD_t (heqD_t X Y) 1 (ent Tryd.prog Tryd.f19 (κ := K) [(0, .L 23 3 (X.map dtW) false), (1, .L 23 3 (Y.map dtW) false)]))) (⟨Nat.zero_le _, fun j h => by omega⟩) (fun i hC1 J1 hJ1 => (by
    have hl2 : X.length = Y.length := by simpa using hl
    rcases eqL3 X.length X Y i with h8 | h8 | h8
    · exact ⟨(heqD_t_0_0 X Y i), vcP (((decide ((((i : Nat) : Int) : Int) < ((X.length : Nat) : Int))) = false) ∧ (true = (decide (X = Y)))) ⟨(decide_eq_false (by omega)), (have hC1 : ∀ j, j < X.length → X.getD j (0, 0, 0) = Y.getD j (0, 0, 0) := (fun j hj => hC1.2 j (by omega)); (by first | exact (decide_eq_false (fun e => hl (congrArg List.length e))).symm | exact (decide_eq_false (fun e => h8.2 (by rw [e]))).symm | exact (decide_eq_true (ext3 (by simpa using hl) hC1)).symm))⟩⟩
    · exact ⟨(heqD_t_0_1 X Y i), vcP (((decide ((((i : Nat) : Int) : Int) < ((X.length : Nat) : Int))) = true) ∧ (i < (X.map dtW).length) ∧ (((X.map dtW).getD i []) = ([.int .i64 ((X.getD i (0, 0, 0)).1), .int .i64 ((X.getD i (0, 0, 0)).2.1), .int .i64 ((X.getD i (0, 0, 0)).2.2)] : List Value)) ∧ (i < (Y.map dtW).length) ∧ (((Y.map dtW).getD i []) = ([.int .i64 ((Y.getD i (0, 0, 0)).1), .int .i64 ((Y.getD i (0, 0, 0)).2.1), .int .i64 ((Y.getD i (0, 0, 0)).2.2)] : List Value)) ∧ ((!(decide ((((X.getD i (0, 0, 0)).1) : Int) = ((Y.getD i (0, 0, 0)).1)) && (decide ((((X.getD i (0, 0, 0)).2.1) : Int) = ((Y.getD i (0, 0, 0)).2.1)) && (decide ((((X.getD i (0, 0, 0)).2.2) : Int) = ((Y.getD i (0, 0, 0)).2.2)) && true)))) = false) ∧ (IntKind.i64.wrap (((i : Nat) : Int) + 1) = ((i : Nat) : Int) + 1) ∧ (tI (((i : Nat) : Int) + 1) ((i + 1 : Nat) : Int)) ∧ (J1 (reqD_t (heqD_t_0_1 X Y i) 8 (reqD_t (heqD_t_0_1 X Y i) 6 (reqD_t (heqD_t_0_1 X Y i) 5 (reqD_t (heqD_t_0_1 X Y i) 4 (ieqD_t_0 X Y i))))))) ⟨(decide_eq_true (by omega)), (by rw [List.length_map]; exact h8.1), (dtW_row h8.1), (by rw [List.length_map]; omega), (dtW_row (by omega)), (by rw [eq3 h8.2]; rfl), (i64_in (by omega) (by omega)), ⟨rfl, by omega⟩, (hJ1 (i + 1) _ (⟨by omega, fun j hj => by rcases Nat.lt_or_eq_of_le (Nat.le_of_lt_succ hj) with h | h; exact hC1.2 j h; rw [h]; exact h8.2⟩) (by omega) ⟨by kernel_rfl, by kernel_rfl⟩)⟩⟩
    · exact ⟨(heqD_t_0_2 X Y i), vcP (((decide ((((i : Nat) : Int) : Int) < ((X.length : Nat) : Int))) = true) ∧ (i < (X.map dtW).length) ∧ (((X.map dtW).getD i []) = ([.int .i64 ((X.getD i (0, 0, 0)).1), .int .i64 ((X.getD i (0, 0, 0)).2.1), .int .i64 ((X.getD i (0, 0, 0)).2.2)] : List Value)) ∧ (i < (Y.map dtW).length) ∧ (((Y.map dtW).getD i []) = ([.int .i64 ((Y.getD i (0, 0, 0)).1), .int .i64 ((Y.getD i (0, 0, 0)).2.1), .int .i64 ((Y.getD i (0, 0, 0)).2.2)] : List Value)) ∧ ((!(decide ((((X.getD i (0, 0, 0)).1) : Int) = ((Y.getD i (0, 0, 0)).1)) && (decide ((((X.getD i (0, 0, 0)).2.1) : Int) = ((Y.getD i (0, 0, 0)).2.1)) && (decide ((((X.getD i (0, 0, 0)).2.2) : Int) = ((Y.getD i (0, 0, 0)).2.2)) && true)))) = true) ∧ (false = (decide (X = Y)))) ⟨(decide_eq_true (by omega)), (by rw [List.length_map]; exact h8.1), (dtW_row h8.1), (by rw [List.length_map]; omega), (dtW_row (by omega)), (ne3 h8.2), (by first | exact (decide_eq_false (fun e => hl (congrArg List.length e))).symm | exact (decide_eq_false (fun e => h8.2 (by rw [e]))).symm | exact (decide_eq_true (ext3 (by simpa using hl) hC1)).symm)⟩⟩)))⟩))
theorem eqD_t2 {w : World} {v u : Value} {x y : List (List Value)} (h1 : isRd (cxA w) true 3 x w v) (h2 : isRd (cxA w) true 3 y w u) (e1 : x = (x.map dtR).map dtW) (e2 : y = (y.map dtR).map dtW) : Calls Tryd.prog 19 #[v, u] w (Ret w fun v' w' => isE (.bool (decide (x.map dtR = y.map dtR))) w' v') := by
  rw [e1] at h1
  rw [e2] at h2
  exact eqD_t h1 h2
noncomputable def ctb13 : List (Ct dk) := [
  ct1w 12 0 en12 vDt (.O .Tb) isTbk isTbk_ok (fun x => .s (.E (.bool (endI x.1 x.2.1 x.2.2)))) (fun x => []) fun _ p _ _ _  h1 hW => pEnd_t h1 hW,
  ct3w 17 0 en17 vDt vI vI (.O .Tb) isTbk isTbk_ok (fun x y z => .t [.L 23 3 ((serL x.1 x.2.1 x.2.2 y z).map dtW) true, .E (.int .i64 (serE x.1 x.2.1 x.2.2 y z))]) (fun x y z => [y ≤ 9223372036854775807]) fun _ _ _ p _ _ _ _ _  h1 h2 h3 hW => pSer_t h1 h2 h3 hW p.1,
  ct2 19 0 en19 (vL 3) (vL 3) (fun x y => .s (.E (.bool (decide (x.map dtR = y.map dtR))))) (fun x y => [x = (x.map dtR).map dtW, y = (y.map dtR).map dtW]) fun _ _ p _ _ _  h1 h2 => eqD_t2 h1 h2 p.1 p.2.1] ++ ctb12
theorem wakes10_t {w : World}    (hw : isTb w undef)  : Calls Tryd.prog 16 #[] w (Ret w fun v w' => (isE (.bool true)) w' v) := by
  exact fx ctb13 Tryd.func16 (fun ι => if ι = 5 then [(1, 0, some (.s (.E (.bool true)))), (7, 0, some (.s (.E (.bool true)))), (12, 0, some (.s (.E (.bool true)))), (16, 0, some (.s (.E (.bool true)))), (20, 0, some (.s (.E (.bool true)))), (24, 0, some (.s (.E (.bool true))))] else []) [(1000000, .O .Tb)] (.s (.E (.bool true))) ⟨hw, trivial⟩ (((1 : Int) ≤ 9223372036854775807) ∧ (-9223372036854775808 ≤ (13 : Int) ∧ (13 : Int) ≤ 9223372036854775807) ∧ (-9223372036854775808 ≤ ((-24300) : Int) ∧ ((-24300) : Int) ≤ 9223372036854775807) ∧ ((decide (((serE 2024 1 31 (1 : Int) (2 : Int)) : Int) = 0)) = true) ∧ (((serL 2024 1 31 (1 : Int) (2 : Int)).map dtW) = (((serL 2024 1 31 (1 : Int) (2 : Int)).map dtW).map dtR).map dtW) ∧ (([[.int .i64 2024, .int .i64 2, .int .i64 29], [.int .i64 2024, .int .i64 3, .int .i64 31]]) = (([[.int .i64 2024, .int .i64 2, .int .i64 29], [.int .i64 2024, .int .i64 3, .int .i64 31]]).map dtR).map dtW) ∧ ((decide (((serL 2024 1 31 (1 : Int) (2 : Int)).map dtW).map dtR = ([[.int .i64 2024, .int .i64 2, .int .i64 29], [.int .i64 2024, .int .i64 3, .int .i64 31]]).map dtR)) = true) ∧ ((decide ((((adP 2024 1 31 (13 : Int)).1) : Int) = 2025) && (decide ((((adP 2024 1 31 (13 : Int)).2.1) : Int) = 2) && (decide ((((adP 2024 1 31 (13 : Int)).2.2) : Int) = 28) && true))) = true) ∧ ((decide (((adE 2024 1 31 (13 : Int)) : Int) = 0)) = true) ∧ ((decide (((adE 2024 1 31 ((-24300) : Int)) : Int) = 11)) = true) ∧ ((endI 2024 1 31) = true) ∧ (true = true)) ⟨(by decide), (by decide), (by decide), (decide_eq_true (w_ser)), (by first | (rw [map_RW]; done) | rfl), (by first | (rw [map_RW]; done) | rfl), (by rw [w_lst]; decide), (by rw [w_ad.1]; rfl), (decide_eq_true (w_ad.2)), (decide_eq_true (w_far)), (w_end), rfl⟩
end Go.Proofs.YtmklkjjnkejakaaDoor.X
