/- LexLong. Written by a script (tools/laws). -/
import Derived.Test.YtcogmabjnkjdfaaDoorL8S
namespace Go.Proofs.YtcogmabjnkjdfaaDoor.X
open Go.RowKit Go.Proofs.YtcogmabjnkjdfaaDoor.Z
set_option linter.unusedVariables false
def cutW (ts : List (List UInt8)) : List (List UInt8) := ts.take (min ts.length 20)
theorem cutW_row {ts : List (List UInt8)} : (ts.map rwS).take (min (ts.map rwS).length 20) = (cutW ts).map rwS := by
  unfold cutW
  rw [List.map_take, List.length_map]
theorem cutW_len {ts : List (List UInt8)} : (cutW ts).length ≤ 20 := by
  unfold cutW
  rw [List.length_take]
  omega
theorem wd_at {W : List (List UInt8)} {i : Nat} (h : i < (W.map rwS).length) : (W.map rwS).getD i [] = [.string (str (W.getD i []))] := by
  rw [List.length_map] at h
  rw [List.getD_eq_getElem?_getD, List.getD_eq_getElem?_getD, List.getElem?_map, List.getElem?_eq_getElem h]
  rfl
/-- The first words as tokens. -/
def lgR (W : List (List UInt8)) (n : Nat) : List (List Value) := (List.range n).map fun (j : Nat) => [.int .i64 (j : Int), .string (str (W.getD j [])), .int .i64 (-(j : Int))]
theorem lgR_len {W : List (List UInt8)} {n : Nat} : (lgR W n).length = n := by simp [lgR]
theorem lgR_succ {W : List (List UInt8)} {n : Nat} : lgR W n ++ [[.int .i64 ((n : Nat) : Int), .string (str (W.getD n [])), .int .i64 (-((n : Nat) : Int))]] = lgR W (n + 1) := by
  unfold lgR
  rw [List.range_succ, List.map_append]
  rfl
theorem lgR_ok (W : List (List UInt8)) (n : Nat) : ∀ r ∈ lgR W n, rOk r := fun r h => by
  obtain ⟨j, _, rfl⟩ := List.mem_map.1 h
  rfl
theorem lgR_tx {W : List (List UInt8)} : (lgR W W.length).map txR = W := by
  unfold lgR
  rw [List.map_map]
  refine List.ext_getElem (by simp) fun i h1 h2 => ?_
  simp only [List.getElem_map, List.getElem_range, Function.comp]
  show W.getD i [] = _
  rw [List.getD_eq_getElem?_getD, List.getElem?_eq_getElem h2]
  rfl
def bk0 : List UInt8 := List.replicate 1048576 32
def bkS (m : Bool) : List UInt8 := cond m (bk0 ++ [32]) bk0
def bkE (m : Bool) : Int := cond m 7 0
theorem bk_t {m : Bool} (h : m = true) : bkS m = bk0 ++ [32] := by subst h; rfl
theorem bk_f {m : Bool} (h : ¬ m = true) : bkS m = bk0 := by
  cases m
  · rfl
  · exact absurd rfl h
theorem bk0_len : bk0.length = 1048576 := by unfold bk0; rw [List.length_replicate]
theorem gap_rep : ∀ n : Nat, gapL false (List.replicate n 32) = n := by
  intro n
  induction n with
  | zero => rfl
  | succ n ih =>
    rw [List.replicate_succ]
    show 1 + gapL false (List.replicate n 32) = _
    rw [ih, Nat.add_comm]
theorem lex_bk (m : Bool) : lexS (bkS m) = ([], 0, bkE m) := by
  unfold lexS
  cases m with
  | true =>
    rw [if_pos (by rw [bk_t rfl, List.length_append, bk0_len]; decide)]
    rfl
  | false =>
    rw [bk_f (by decide), if_neg (by rw [bk0_len]; decide)]
    exact lexR_end (Nat.le_of_eq (bk0_len.trans (gap_rep 1048576).symm))
theorem bk_7 {m : Bool} : decide ((bkE m : Int) = 7) = m := by cases m <;> rfl
theorem rowS_rd {w : World} {a : Option Addr} {len cap : Nat} {ss : List ByteArray} (h : (a = none ∧ len = 0 ∧ cap = 0 ∧ ss = []) ∨ ∃ x, a = some x ∧ len ≤ cap ∧ cap ≤ maxLen ∧ ss.length = cap ∧ ∀ i, i < ss.length → w.cell? (x.add i) = some (.string (ss.getD i ByteArray.empty))) : isRd (cxA w) true 1 (((ss.take len).map (·.data.toList)).map rwS) w (.slice a len cap) := by
  have hr : rowsB 1 (((ss.take len).map (·.data.toList)).map rwS) := fun r hr => by
    obtain ⟨t, _, rfl⟩ := List.mem_map.1 hr
    rfl
  rcases h with ⟨rfl, rfl, rfl, rfl⟩ | ⟨x, rfl, h1, h2, h3, h4⟩
  · exact ⟨hr, none, 0, rfl, Nat.le_refl _, by decide, fun hn => absurd rfl hn⟩
  · have hl : (((ss.take len).map (·.data.toList)).map rwS).length = len := by
      rw [List.length_map, List.length_map, List.length_take]
      omega
    refine ⟨hr, some x, cap, by rw [hl], by rw [hl]; exact h1, h2, fun hn => ?_⟩
    have hp : 0 < len := by
      rcases Nat.eq_zero_or_pos len with e | e
      · exact absurd (List.eq_nil_of_length_eq_zero (hl.trans e)) hn
      · exact e
    have hc := h4 0 (by omega)
    have hx : x.add 0 = x := rfl
    rw [hx] at hc
    have hs := World.cell?_spot hc
    obtain ⟨b, off, sp⟩ := x
    have hs' : sp = none := hs
    subst hs'
    cases hb : w.heap[b]? with
    | none => simp [World.cell?, hb] at hc
    | some ob =>
      cases ob with
      | cells cs t fr =>
        refine ⟨b, off, cs, t, fr, rfl, hb, rfl, fun _ => lt_heap hb, fun j v hv => ?_⟩
        rw [show (((ss.take len).map (·.data.toList)).map rwS).flatten = ((ss.take len).map (·.data.toList)).map (fun t => Value.string (str t)) from flat_one _ _, List.getElem?_map, List.getElem?_map] at hv
        obtain ⟨y, hy, rfl⟩ := Option.map_eq_some_iff.1 hv
        obtain ⟨z, hz, rfl⟩ := Option.map_eq_some_iff.1 hy
        obtain ⟨hj, e⟩ := List.getElem?_eq_some_iff.1 hz
        rw [List.length_take] at hj
        have hj' : j < ss.length := by omega
        have hg := h4 j hj'
        have ha : (⟨b, off, none⟩ : Addr).add j = ⟨b, off + j, none⟩ := by unfold Addr.add; split <;> simp_all
        rw [ha] at hg
        simp only [World.cell?, hb, Option.isSome_none, Bool.false_eq_true, if_false] at hg
        rw [hg]
        rw [List.getElem_take] at e
        rw [List.getD_eq_getElem?_getD, List.getElem?_eq_getElem hj', e]
        rfl
      | _ => simp [World.cell?, hb] at hc
theorem sum_take (l : List Nat) (n : Nat) : (l.take n).sum ≤ l.sum := by
  conv => rhs; rw [← List.take_append_drop n l, List.sum_append]
  omega
theorem sum_sz (l : List ByteArray) : ((l.map (·.data.toList)).map List.length).sum ≤ (l.map fun s => s.size + 1).sum := by
  induction l with
  | nil => exact Nat.le_refl _
  | cons x r ih =>
    simp only [List.map_cons, List.sum_cons]
    have e : x.data.toList.length = x.size := (Lib.size_eq x).symm
    omega
theorem join_small {l : List ByteArray} (h : (l.map fun s => s.size + 1).sum ≤ 1048576) : (Lib.join (cutW (l.map (·.data.toList))) [32]).length ≤ 140737488355328 := by
  have h1 := join_len [32] (cutW (l.map (·.data.toList)))
  have h2 := cutW_len (ts := l.map (·.data.toList))
  have h3 := sum_sz l
  have h4 : ((cutW (l.map (·.data.toList))).map List.length).sum ≤ ((l.map (·.data.toList)).map List.length).sum := by
    unfold cutW
    rw [List.map_take]
    exact sum_take _ _
  simp only [List.length_cons, List.length_nil] at h1
  omega
theorem rep8_t {w : World} {v u : Value} {c : UInt8} {k : Nat} (h1 : isT [c] w v) (h2 : isE (.int .i64 (k : Int)) w u) (hk : k ≤ 1048576) : Calls Tryd.prog 13 #[v, u] w (Ret w fun v' w' => isT (List.replicate k c) w' v') := by
  cases h1
  cases h2
  exact (Any.strings_Repeat lays105 extra105 (str [c]) k w (by omega) (by rw [str_size]; simp; omega)).mono fun _ _ ⟨he, hb⟩ => ⟨_, he, by rw [← repeatL_one], hb⟩
noncomputable def ctb24 : List (Ct dk) := [
  ct2 13 0 en13 vT1 vIn (fun x y => .s (.E (.string (str (List.replicate y x))))) (fun x y => [y ≤ 1048576]) fun _ _ p _ _ _  h1 h2 => rep8_t h1 h2 p.1,
  ct0 9 0 en9 (.s (.E (.bool true))) fun _ => wakes8 _] ++ ctb23
noncomputable abbrev rlong8 := rX ctb24 Tryd.f6
noncomputable abbrev dlong8 (ts : List (List UInt8)) (m : Bool) := dX ctb24 Tryd.f6 (.s (.E (.bool true)))
noncomputable def hlong8 (ts : List (List UInt8)) (m : Bool) : Nat → Hint K := fun ι => if ι = 1 then [(0, 0, some (.s (.L 31 3 (lgR (cutW ts) 0) true)))] else if ι = 2 then [(3, 0, some (.s (.E (.int .i64 ((min (ts.map rwS).length 20 : Nat) : Int))))), (4, 0, some (.s (.L 9 1 ((cutW ts).map rwS) false)))] else if ι = 8 then [(0, 0, some (.s (.E (.string (str bk0)))))] else if ι = 11 then [(0, 0, some (.s (.E (.string (str (bkS m)))))), (3, 0, some (.s (.L 31 3 (tks []) true))), (4, 0, some (.s (.E (.int .i64 ((0 : Nat) : Int))))), (5, 0, some (.s (.E (.int .i64 (bkE m)))))] else if ι = 12 then [(3, 0, some (.s (.E (.string (str (Lib.join (cutW ts) [32])))))), (5, 0, some (.s (.E (.string (str (Lib.join (cutW ts) [32])))))), (6, 0, some (.s (.E (.bool true)))), (10, 0, some (.s (.E (.bool m)))), (12, 0, some (.s (.E (.bool true)))), (17, 0, some (.s (.E (.bool true)))), (21, 0, some (.s (.E (.bool true))))] else []
noncomputable def ilong8_0 (ts : List (List UInt8)) (m : Bool) (i : Nat) : Sx K := ⟨[(4, .E (.bool false)), (1, .E (.bool m)), (0, .L 9 1 ((cutW ts).map rwS) false), (17, .L 9 1 ((cutW ts).map rwS) false), (18, .E (.int .i64 ((((cutW ts).map rwS).length : Nat) : Int))), (19, .E (.int .i64 ((i : Nat) : Int))), (5, .L 31 3 (lgR (cutW ts) i) true)], []⟩
noncomputable def hlong8_0_0 (ts : List (List UInt8)) (m : Bool) (i : Nat) : Nat → Hint K := fun ι => if ι = 4 then [(0, 0, some (.s (.E (.bool true))))] else if ι = 5 then [(1, 0, some (.s (.A ([.string (str ((cutW ts).getD i []))]))))] else if ι = 6 then [(4, 0, some (.s (.E (.int .i64 (-((i : Nat) : Int)))))), (7, 0, some (.s (.L 31 3 (lgR (cutW ts) (i + 1)) true)))] else if ι = 7 then [(0, 0, some (.s (.E (.int .i64 ((i + 1 : Nat) : Int)))))] else []
noncomputable def hlong8_0_1 (ts : List (List UInt8)) (m : Bool) (i : Nat) : Nat → Hint K := fun ι => if ι = 4 then [(0, 0, some (.s (.E (.bool false))))] else []
theorem long8 {w : World} {v0 v1 : Value} {ts : List (List UInt8)} {m : Bool} (h0 : (isRd (cxA w) true 1 (ts.map rwS)) w v0) (h1 : (isE (.bool m)) w v1) (hj : (Lib.join (cutW ts) [32]).length ≤ 140737488355328) : Calls Tryd.prog 6 #[v0, v1] w (Ret w fun v w' => (isE (.bool true)) w' v) := by
  exact fx ctb24 Tryd.func6 ((hlong8 ts m)) [(0, .L 9 1 (ts.map rwS) false), (1, .E (.bool m))] (.s (.E (.bool true))) ⟨h0, h1, trivial⟩ ((tK (.E (.slice none 0 0)) (.L 31 3 (lgR (cutW ts) 0) true)) ∧ (tI (min (((ts.map rwS).length : Nat) : Int) 20) ((min (ts.map rwS).length 20 : Nat) : Int)) ∧ (min (ts.map rwS).length 20 ≤ (ts.map rwS).length) ∧ (tLs 9 1 false ((ts.map rwS).take (min (ts.map rwS).length 20)) ((cutW ts).map rwS)) ∧ (dlong8 ts m [1, 1, 0, 1] [(hlong8 ts m)] [] (rlong8 (hlong8 ts m) 3 (rlong8 (hlong8 ts m) 2 (rlong8 (hlong8 ts m) 1 (ent Tryd.f6 (κ := K) [(0, .L 9 1 (ts.map rwS) false), (1, .E (.bool m))])))))) ⟨nil_L (rfl), ⟨rfl, by omega⟩, (by omega), ⟨⟨rfl, rfl, rfl⟩, (cutW_row)⟩, (lpI (fun h S' J => dlong8 ts m [1, 1, 0, 1, 0, 2] [(hlong8 ts m), h] [J] S') (fun i : Nat => i ≤ ((cutW ts).map rwS).length) (fun i => ((cutW ts).map rwS).length - i) (ilong8_0 ts m) (0) (rlong8 (hlong8 ts m) 3 (rlong8 (hlong8 ts m) 2 (rlong8 (hlong8 ts m) 1 (ent Tryd.f6 (κ := K) [(0, .L 9 1 (ts.map rwS) false), (1, .E (.bool m))])))) (Nat.zero_le _) (fun i hC1 J1 hJ1 => (by
    have hwl := cutW_len (ts := ts)
    have hml : ((cutW ts).map rwS).length = (cutW ts).length := List.length_map _
    rcases Nat.lt_or_ge i ((cutW ts).map rwS).length with h8 | h8
    · exact ⟨(hlong8_0_0 ts m i), vcP (((decide ((((i : Nat) : Int) : Int) < ((((cutW ts).map rwS).length : Nat) : Int))) = true) ∧ (i < ((cutW ts).map rwS).length) ∧ ((((cutW ts).map rwS).getD i []) = ([.string (str ((cutW ts).getD i []))] : List Value)) ∧ (tI (IntKind.i64.wrap (-((i : Nat) : Int))) (-((i : Nat) : Int))) ∧ (0 < ([[.int .i64 ((i : Nat) : Int), .string (str ((cutW ts).getD i [])), .int .i64 (-((i : Nat) : Int))]] : List (List Value)).length) ∧ (((lgR (cutW ts) i).length + ([[.int .i64 ((i : Nat) : Int), .string (str ((cutW ts).getD i [])), .int .i64 (-((i : Nat) : Int))]] : List (List Value)).length) * 32 ≤ 140737488355328) ∧ (tLs 31 3 true ((lgR (cutW ts) i) ++ ([[.int .i64 ((i : Nat) : Int), .string (str ((cutW ts).getD i [])), .int .i64 (-((i : Nat) : Int))]] : List (List Value))) (lgR (cutW ts) (i + 1))) ∧ (IntKind.i64.wrap (((i : Nat) : Int) + 1) = ((i : Nat) : Int) + 1) ∧ (tI (((i : Nat) : Int) + 1) ((i + 1 : Nat) : Int)) ∧ (J1 (rlong8 (hlong8_0_0 ts m i) 7 (rlong8 (hlong8_0_0 ts m i) 6 (rlong8 (hlong8_0_0 ts m i) 5 (rlong8 (hlong8_0_0 ts m i) 4 (ilong8_0 ts m i))))))) ⟨(decide_eq_true (by omega)), (h8), (wd_at h8), ⟨rfl, i64_in (by omega) (by omega)⟩, (by simp), (by rw [lgR_len]; simp; omega), ⟨⟨rfl, rfl, rfl⟩, (lgR_succ)⟩, (i64_in (by omega) (by omega)), ⟨rfl, by omega⟩, (hJ1 (i + 1) _ (h8) (by omega) ⟨by kernel_rfl, by kernel_rfl⟩)⟩⟩
    · exact ⟨(hlong8_0_1 ts m i), vcP (((decide ((((i : Nat) : Int) : Int) < ((((cutW ts).map rwS).length : Nat) : Int))) = false) ∧ ((1048576 ≤ 1048576) ∧ (tK (.E (.string (str (List.replicate 1048576 32)))) (.E (.string (str bk0)))) ∧ (cnd (m) (((bk0 : List UInt8).length + ([32] : List UInt8).length ≤ 9223372036854775807) ∧ (tK (.E (.string (str (bk0 ++ [32])))) (.E (.string (str (bkS m))))) ∧ (tLs 31 3 true (tks (lexS (bkS m)).1) (tks [])) ∧ (tI (((lexS (bkS m)).2.1 : Nat) : Int) ((0 : Nat) : Int)) ∧ (tI ((lexS (bkS m)).2.2) (bkE m)) ∧ (∀ r ∈ (lgR (cutW ts) i), rOk r) ∧ ((lgR (cutW ts) i).length ≤ 1099511627776) ∧ ((Lib.join ((lgR (cutW ts) i).map txR) [32]).length ≤ 140737488355328) ∧ (tK (.E (.string (str (Lib.join ((lgR (cutW ts) i).map txR) [32])))) (.E (.string (str (Lib.join (cutW ts) [32]))))) ∧ (((cutW ts).map rwS) = (((cutW ts).map rwS).map stR).map rwS) ∧ (((cutW ts).map rwS).length ≤ 140737488355328) ∧ ((Lib.join (((cutW ts).map rwS).map stR) [32]).length ≤ 140737488355328) ∧ (tK (.E (.string (str (Lib.join (((cutW ts).map rwS).map stR) [32])))) (.E (.string (str (Lib.join (cutW ts) [32]))))) ∧ (((Lib.join (cutW ts) [32]) == (Lib.join (cutW ts) [32])) = true) ∧ ((decide (((bkE m) : Int) = 7)) = m) ∧ ((m == m) = true) ∧ ((decide (((((tks []).length : Nat) : Int) : Int) = 0)) = true) ∧ ((decide ((((0 : Nat) : Int) : Int) = 0)) = true) ∧ (true = true)) ((tK (.E (.string (str bk0))) (.E (.string (str (bkS m))))) ∧ (tLs 31 3 true (tks (lexS (bkS m)).1) (tks [])) ∧ (tI (((lexS (bkS m)).2.1 : Nat) : Int) ((0 : Nat) : Int)) ∧ (tI ((lexS (bkS m)).2.2) (bkE m)) ∧ (∀ r ∈ (lgR (cutW ts) i), rOk r) ∧ ((lgR (cutW ts) i).length ≤ 1099511627776) ∧ ((Lib.join ((lgR (cutW ts) i).map txR) [32]).length ≤ 140737488355328) ∧ (tK (.E (.string (str (Lib.join ((lgR (cutW ts) i).map txR) [32])))) (.E (.string (str (Lib.join (cutW ts) [32]))))) ∧ (((cutW ts).map rwS) = (((cutW ts).map rwS).map stR).map rwS) ∧ (((cutW ts).map rwS).length ≤ 140737488355328) ∧ ((Lib.join (((cutW ts).map rwS).map stR) [32]).length ≤ 140737488355328) ∧ (tK (.E (.string (str (Lib.join (((cutW ts).map rwS).map stR) [32])))) (.E (.string (str (Lib.join (cutW ts) [32]))))) ∧ (((Lib.join (cutW ts) [32]) == (Lib.join (cutW ts) [32])) = true) ∧ ((decide (((bkE m) : Int) = 7)) = m) ∧ ((m == m) = true) ∧ ((decide (((((tks []).length : Nat) : Int) : Int) = 0)) = true) ∧ ((decide ((((0 : Nat) : Int) : Int) = 0)) = true) ∧ (true = true))))) ⟨(decide_eq_false (by omega)), (have hC1 : i = (cutW ts).length := (by rw [List.length_map] at h8 hC1; omega); ⟨(by omega), (fun _ _ _ _ _ h => h), ((Classical.em (m = true)).elim (fun hm => cnd_t (hm) ⟨(by rw [bk0_len]; simp), (fun _ _ _ _ _ h => by first | (rw [bk_t hm]; exact h) | (rw [bk_f hm]; exact h)), ⟨⟨rfl, rfl, rfl⟩, (by rw [lex_bk])⟩, ⟨rfl, by rw [lex_bk]⟩, ⟨rfl, by rw [lex_bk]⟩, (lgR_ok _ _), (by rw [lgR_len]; have := cutW_len (ts := ts); omega), (by subst hC1; rw [lgR_tx]; exact hj), (fun _ _ _ _ _ h => by subst hC1; rw [lgR_tx] at h; exact h), (by rw [st_rw]), (by rw [List.length_map]; have := cutW_len (ts := ts); omega), (by rw [st_rw]; exact hj), (fun _ _ _ _ _ h => by rw [st_rw] at h; exact h), (by simp), (bk_7), (by simp), (rfl), (rfl), (rfl)⟩) (fun hm => cnd_f (by simpa using hm) ⟨(fun _ _ _ _ _ h => by first | (rw [bk_t hm]; exact h) | (rw [bk_f hm]; exact h)), ⟨⟨rfl, rfl, rfl⟩, (by rw [lex_bk])⟩, ⟨rfl, by rw [lex_bk]⟩, ⟨rfl, by rw [lex_bk]⟩, (lgR_ok _ _), (by rw [lgR_len]; have := cutW_len (ts := ts); omega), (by subst hC1; rw [lgR_tx]; exact hj), (fun _ _ _ _ _ h => by subst hC1; rw [lgR_tx] at h; exact h), (by rw [st_rw]), (by rw [List.length_map]; have := cutW_len (ts := ts); omega), (by rw [st_rw]; exact hj), (fun _ _ _ _ _ h => by rw [st_rw] at h; exact h), (by simp), (bk_7), (by simp), (rfl), (rfl), (rfl)⟩))⟩)⟩⟩)))⟩
end Go.Proofs.YtcogmabjnkjdfaaDoor.X
