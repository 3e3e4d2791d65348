/- LexBack. Written by a script (tools/laws). -/
import Derived.Test.YtcogmabjnkjdfaaDoorL8S
namespace Go.Proofs.YtcogmabjnkjdfaaDoor.X
open Go.RowKit Go.Proofs.YtcogmabjnkjdfaaDoor.Z
set_option linter.unusedVariables false
def jnT (u : List UInt8) : List UInt8 := Lib.join ((lexS u).1.map (·.t)) [32]
theorem kt_at {M L : List Tk} (h : M.map kt = L.map kt) (i : Nat) : (tkA M i).k = (tkA L i).k ∧ (tkA M i).t = (tkA L i).t := by
  have e : kt (tkA M i) = kt (tkA L i) := by
    have key : ∀ X : List Tk, kt (tkA X i) = (X.map kt).getD i (0, []) := fun X => by
      unfold tkA
      rw [List.getD_eq_getElem?_getD, List.getD_eq_getElem?_getD, List.getElem?_map]
      cases X[i]? <;> rfl
    rw [key, key, h]
  injection e with e1 e2
  exact ⟨e1, e2⟩
theorem jnT_len {u : List UInt8} (hu : u.length ≤ 1000) : (jnT u).length ≤ 2000 := by
  have h1 := join_len [32] ((lexS u).1.map (·.t))
  have h2 := lexS_len u
  rw [tks_len] at h2
  have h3 : (((lexS u).1.map (·.t)).map List.length).sum ≤ u.length := by
    unfold lexS
    rw [if_neg (by omega)]
    exact Nat.le_trans (lexA_sum u _ _ (gap_le _ _)) (Nat.sub_le _ _)
  unfold jnT
  simp only [List.length_map, List.length_cons, List.length_nil] at h1
  omega
theorem back_ok {u : List UInt8} (hu : u.length ≤ 1000) : (lexS (jnT u)).1.map kt = (lexS u).1.map kt ∧ (lexS (jnT u)).2.2 = 0 :=
  lexS_laced (lexS_good u) (join_lc _ (lexS_good u)).1 (Nat.le_trans (jnT_len hu) (by decide))
theorem back_len {u : List UInt8} (hu : u.length ≤ 1000) : (tks (lexS (jnT u)).1).length = (tks (lexS u).1).length := by
  rw [tks_len, tks_len]
  have := congrArg List.length (back_ok hu).1
  simpa using this
theorem back_at {u : List UInt8} {i : Nat} (h : i < (tks (lexS u).1).length) : endA (lexS u).1 i ≤ (tkA (lexS u).1 i).at' ∧ (tkA (lexS u).1 i).at' + (tkA (lexS u).1 i).t.length ≤ u.length ∧ (tkA (lexS u).1 i).t ≠ [] ∧ Lib.hasPrefix (u.drop (tkA (lexS u).1 i).at') (tkA (lexS u).1 i).t = true ∧ endA (lexS u).1 (i + 1) = (tkA (lexS u).1 i).at' + (tkA (lexS u).1 i).t.length := by
  rw [tks_len] at h
  obtain ⟨h1, h2, h3, h4, h5⟩ := chain_at (lexS_chain u) i h
  refine ⟨?_, h3, h4, h5, rfl⟩
  rcases h1 with rfl | h1
  · exact Nat.zero_le _
  · exact h1
noncomputable def ctb24 : List (Ct dk) := [
  ct0 9 0 en9 (.s (.E (.bool true))) fun _ => wakes8 _,
  ct2 11 0 en11 vT vT (fun x y => .s (.E (.bool (Lib.hasPrefix x y)))) (fun x y => []) fun _ _ p _ _ _  h1 h2 => hasPre_t h1 h2] ++ ctb23
noncomputable abbrev rback8 := rX ctb24 Tryd.f4
noncomputable abbrev dback8 (l : List UInt8) := dX ctb24 Tryd.f4 (.s (.E (.bool true)))
noncomputable def hback8 (l : List UInt8) : Nat → Hint K := fun ι => if ι = 1 then [(3, 0, some (.s (.E (.int .i64 ((min l.length 1000 : Nat) : Int))))), (4, 0, some (.s (.E (.string (str (cutT l 1000))))))] else if ι = 4 then [(4, 0, some (.s (.E (.bool true))))] else if ι = 5 then [(1, 0, some (.s (.E (.string (str (jnT (cutT l 1000)))))))] else if ι = 6 then [(1, 0, some (.s (.E (.bool false)))), (7, 0, some (.s (.E (.bool false))))] else []
noncomputable def iback8_0 (l : List UInt8) (i : Nat) : Sx K := ⟨[(0, .E (.string (str (cutT l 1000)))), (6, .L 31 3 (tks (lexS (jnT (cutT l 1000))).1) true), (47, .L 31 3 (tks (lexS (cutT l 1000)).1) true), (48, .E (.int .i64 (((tks (lexS (cutT l 1000)).1).length : Nat) : Int))), (49, .E (.int .i64 ((i : Nat) : Int))), (9, .E (.int .i64 ((endA (lexS (cutT l 1000)).1 i : Nat) : Int)))], []⟩
noncomputable def hback8_0_0 (l : List UInt8) (i : Nat) : Nat → Hint K := fun ι => if ι = 10 then [(0, 0, some (.s (.E (.bool true))))] else if ι = 11 then [(1, 0, some (.s (.A [.int .i64 (tkA (lexS (cutT l 1000)).1 i).k, .string (str ((tkA (lexS (cutT l 1000)).1 i).t)), .int .i64 (((tkA (lexS (cutT l 1000)).1 i).at' : Nat) : Int)])))] else if ι = 12 then [(2, 0, some (.s (.A [.int .i64 (tkA (lexS (jnT (cutT l 1000))).1 i).k, .string (str ((tkA (lexS (jnT (cutT l 1000))).1 i).t)), .int .i64 (((tkA (lexS (jnT (cutT l 1000))).1 i).at' : Nat) : Int)]))), (7, 0, some (.s (.E (.bool false)))), (11, 0, some (.s (.A [.int .i64 (tkA (lexS (jnT (cutT l 1000))).1 i).k, .string (str ((tkA (lexS (jnT (cutT l 1000))).1 i).t)), .int .i64 (((tkA (lexS (jnT (cutT l 1000))).1 i).at' : Nat) : Int)]))), (16, 0, some (.s (.E (.bool false)))), (22, 0, some (.s (.E (.bool false)))), (27, 0, some (.s (.E (.bool false)))), (36, 0, some (.s (.E (.bool true))))] else if ι = 14 then [(5, 0, some (.s (.E (.int .i64 ((endA (lexS (cutT l 1000)).1 (i + 1) : Nat) : Int)))))] else if ι = 15 then [(0, 0, some (.s (.E (.int .i64 ((i + 1 : Nat) : Int)))))] else []
noncomputable def hback8_0_1 (l : List UInt8) (i : Nat) : Nat → Hint K := fun ι => if ι = 10 then [(0, 0, some (.s (.E (.bool false))))] else []
theorem back8 {w : World} {v0 : Value} {l : List UInt8} (h0 : (isT l) w v0)  : Calls Tryd.prog 4 #[v0] w (Ret w fun v w' => (isE (.bool true)) w' v) := by
  exact fx ctb24 Tryd.func4 ((hback8 l)) [(0, .E (.string (str l)))] (.s (.E (.bool true))) ⟨h0, trivial⟩ ((tI (min ((l.length : Nat) : Int) 1000) ((min l.length 1000 : Nat) : Int)) ∧ (min l.length 1000 ≤ l.length) ∧ (tK (.E (.string (str (l.take (min l.length 1000))))) (.E (.string (str (cutT l 1000))))) ∧ (cnd ((!decide ((((lexS (cutT l 1000)).2.2) : Int) = 0))) (((decide (((((tks (lexS (cutT l 1000)).1).length : Nat) : Int) : Int) = 0)) = true) ∧ (true = true)) ((∀ r ∈ (tks (lexS (cutT l 1000)).1), rOk r) ∧ ((tks (lexS (cutT l 1000)).1).length ≤ 1099511627776) ∧ ((Lib.join ((tks (lexS (cutT l 1000)).1).map txR) [32]).length ≤ 140737488355328) ∧ (tK (.E (.string (str (Lib.join ((tks (lexS (cutT l 1000)).1).map txR) [32])))) (.E (.string (str (jnT (cutT l 1000)))))) ∧ ((!decide ((((lexS (jnT (cutT l 1000))).2.2) : Int) = 0)) = false) ∧ ((!decide (((((tks (lexS (jnT (cutT l 1000))).1).length : Nat) : Int) : Int) = (((tks (lexS (cutT l 1000)).1).length : Nat) : Int))) = false) ∧ (dback8 l [1, 1, 1, 1, 1, 1, 0, 1] [(hback8 l)] [] (rback8 (hback8 l) 9 (rback8 (hback8 l) 8 (rback8 (hback8 l) 6 (rback8 (hback8 l) 5 (rback8 (hback8 l) 3 (rback8 (hback8 l) 2 (rback8 (hback8 l) 1 (ent Tryd.f4 (κ := K) [(0, .E (.string (str l)))])))))))))))) ⟨⟨rfl, by omega⟩, (by omega), (fun _ _ _ _ _ h => h), ((Classical.em ((lexS (cutT l 1000)).2.2 ≠ 0)).elim (fun he => cnd_t (by simpa using he) ⟨(by rw [lexS_ok _ he]; rfl), (rfl)⟩) (fun he => cnd_f (by simpa using he) ⟨(tks_ok _), (Nat.le_trans (lexS_len _) (Nat.le_trans (cut_len l 1000) (by decide))), (by rw [tx_tks]; exact Nat.le_trans (jnT_len (cut_len l 1000)) (by decide)), (fun _ _ _ _ _ h => by rw [tx_tks] at h; exact h), (by rw [(back_ok (cut_len l 1000)).2]; rfl), (by rw [back_len (cut_len l 1000)]; simp), (lpI (fun h S' J => dback8 l [1, 1, 1, 1, 1, 1, 0, 1, 0, 2] [(hback8 l), h] [J] S') (fun i : Nat => i ≤ (tks (lexS (cutT l 1000)).1).length) (fun i => (tks (lexS (cutT l 1000)).1).length - i) (iback8_0 l) (0) (rback8 (hback8 l) 9 (rback8 (hback8 l) 8 (rback8 (hback8 l) 6 (rback8 (hback8 l) 5 (rback8 (hback8 l) 3 (rback8 (hback8 l) 2 (rback8 (hback8 l) 1 (ent Tryd.f4 (κ := K) [(0, .E (.string (str l)))])))))))) (Nat.zero_le _) (fun i hC1 J1 hJ1 => (by
    have hbd := Nat.le_trans (lexS_len (cutT l 1000)) (cut_len l 1000)
    have hcl := (cut_len l 1000)
    rcases Nat.lt_or_ge i (tks (lexS (cutT l 1000)).1).length with h8 | h8
    all_goals try have hb := back_at h8
    · exact ⟨(hback8_0_0 l i), vcP (((decide ((((i : Nat) : Int) : Int) < (((tks (lexS (cutT l 1000)).1).length : Nat) : Int))) = true) ∧ (i < (tks (lexS (cutT l 1000)).1).length) ∧ (((tks (lexS (cutT l 1000)).1).getD i []) = ([.int .i64 (tkA (lexS (cutT l 1000)).1 i).k, .string (str ((tkA (lexS (cutT l 1000)).1 i).t)), .int .i64 (((tkA (lexS (cutT l 1000)).1 i).at' : Nat) : Int)] : List Value)) ∧ (i < (tks (lexS (jnT (cutT l 1000))).1).length) ∧ (((tks (lexS (jnT (cutT l 1000))).1).getD i []) = ([.int .i64 (tkA (lexS (jnT (cutT l 1000))).1 i).k, .string (str ((tkA (lexS (jnT (cutT l 1000))).1 i).t)), .int .i64 (((tkA (lexS (jnT (cutT l 1000))).1 i).at' : Nat) : Int)] : List Value)) ∧ ((!decide (((tkA (lexS (jnT (cutT l 1000))).1 i).k : Int) = (tkA (lexS (cutT l 1000)).1 i).k)) = false) ∧ (i < (tks (lexS (jnT (cutT l 1000))).1).length) ∧ (((tks (lexS (jnT (cutT l 1000))).1).getD i []) = ([.int .i64 (tkA (lexS (jnT (cutT l 1000))).1 i).k, .string (str ((tkA (lexS (jnT (cutT l 1000))).1 i).t)), .int .i64 (((tkA (lexS (jnT (cutT l 1000))).1 i).at' : Nat) : Int)] : List Value)) ∧ ((!(((tkA (lexS (jnT (cutT l 1000))).1 i).t) == ((tkA (lexS (cutT l 1000)).1 i).t))) = false) ∧ ((decide (((((tkA (lexS (cutT l 1000)).1 i).at' : Nat) : Int) : Int) < ((endA (lexS (cutT l 1000)).1 i : Nat) : Int))) = false) ∧ ((((tkA (lexS (cutT l 1000)).1 i).t) == []) = false) ∧ ((tkA (lexS (cutT l 1000)).1 i).at' ≤ (cutT l 1000).length) ∧ ((Lib.hasPrefix ((cutT l 1000).drop ((tkA (lexS (cutT l 1000)).1 i).at')) ((tkA (lexS (cutT l 1000)).1 i).t)) = true) ∧ (IntKind.i64.wrap ((((tkA (lexS (cutT l 1000)).1 i).at' : Nat) : Int) + ((((tkA (lexS (cutT l 1000)).1 i).t).length : Nat) : Int)) = (((tkA (lexS (cutT l 1000)).1 i).at' : Nat) : Int) + ((((tkA (lexS (cutT l 1000)).1 i).t).length : Nat) : Int)) ∧ (tI ((((tkA (lexS (cutT l 1000)).1 i).at' : Nat) : Int) + ((((tkA (lexS (cutT l 1000)).1 i).t).length : Nat) : Int)) ((endA (lexS (cutT l 1000)).1 (i + 1) : Nat) : Int)) ∧ (IntKind.i64.wrap (((i : Nat) : Int) + 1) = ((i : Nat) : Int) + 1) ∧ (tI (((i : Nat) : Int) + 1) ((i + 1 : Nat) : Int)) ∧ (J1 (rback8 (hback8_0_0 l i) 15 (rback8 (hback8_0_0 l i) 14 (rback8 (hback8_0_0 l i) 12 (rback8 (hback8_0_0 l i) 11 (rback8 (hback8_0_0 l i) 10 (iback8_0 l i)))))))) ⟨(decide_eq_true (by omega)), (h8), (tks_at h8), (by rw [back_len (cut_len l 1000)]; exact h8), (tks_at (by rw [back_len (cut_len l 1000)]; exact h8)), (by rw [(kt_at (back_ok (cut_len l 1000)).1 i).1]; simp), (by rw [back_len (cut_len l 1000)]; exact h8), (tks_at (by rw [back_len (cut_len l 1000)]; exact h8)), (by rw [(kt_at (back_ok (cut_len l 1000)).1 i).2]; simp), (decide_eq_false (by omega)), (by simpa using hb.2.2.1), (by omega), (hb.2.2.2.1), (i64_in (by omega) (by omega)), ⟨rfl, by omega⟩, (i64_in (by omega) (by omega)), ⟨rfl, by omega⟩, (hJ1 (i + 1) _ (h8) (by omega) ⟨by kernel_rfl, by kernel_rfl⟩)⟩⟩
    · exact ⟨(hback8_0_1 l i), vcP (((decide ((((i : Nat) : Int) : Int) < (((tks (lexS (cutT l 1000)).1).length : Nat) : Int))) = false) ∧ (true = true)) ⟨(decide_eq_false (by omega)), (have hC1 : True := (trivial); (rfl))⟩⟩)))⟩))⟩
end Go.Proofs.YtcogmabjnkjdfaaDoor.X
