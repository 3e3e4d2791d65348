/- LexBlanks. Written by a script (tools/laws). -/
import Derived.Test.YtcogmabjnkjdfaaDoorL8S
import Derived.Test.YtcogmabjnkjdfaaDoorLk
import Derived.Test.YtcogmabjnkjdfaaDoorLibR
namespace Go.Proofs.YtcogmabjnkjdfaaDoor.X
open Go.RowKit Go.Proofs.YtcogmabjnkjdfaaDoor.Z
set_option linter.unusedVariables false
def isB0k : Ks K → Bool
  | .O .B0 => true
  | _ => false
theorem isB0k_ok : ∀ k, isB0k k = true → k = .O .B0 := by
  intro k h
  unfold isB0k at h
  split at h
  · rfl
  · cases h
theorem replAll_t {w : World} {v u t : Value} {l : List UInt8} (h1 : isT l w v) (h2 : isT [10] w u) (h3 : isT [32] w t) (hw : isB0 w undef) (hl : l.length ≤ 4096) : Calls Tryd.prog 12 #[v, u, t] w (Ret w fun v' w' => isT (nl2 l) w' v') := by
  cases h1
  cases h2
  cases h3
  obtain ⟨_, m, hm⟩ := hw
  have e : (str l).size = l.length := str_size l
  have hc := Lib.countB_mul_le (str [10]) (by decide) (str l).size (str l) (Nat.le_refl _)
  have h := Any.strings_ReplaceAll lays155 extra155 (str l) (str [10]) (str [32]) m w (by omega) hm (by decide) (by
    have h1 : (str [10]).size = 1 := rfl
    have h2 : (str [32]).size = 1 := rfl
    rw [h1] at hc
    rw [h2]
    omega)
  exact h.mono fun _ _ ⟨e, g⟩ => ⟨_, e, by rw [show Lib.replaceAll (str l).data.toList (str [10]).data.toList (str [32]).data.toList = nl2 l from replaceAll_nl l], g⟩
section
variable {α β γ : Type}
noncomputable def ct3w (f va : Nat) (en : Enters Tryd.prog f) (a : Vw α) (b : Vw β) (c : Vw γ) (kw : Ks K) (gw : Ks K → Bool) (hgw : ∀ k, gw k = true → k = kw) (res : α → β → γ → Fk K) (pre : α → β → γ → List Prop) (ok : ∀ x y z, AL (pre x y z) → ∀ w v u t q, a.pr x w v → b.pr y w u → c.pr z w t → (k0 w kw).p w q → Cl f [v, u, t] w (res x y z)) : Ct dk := ⟨f, va, en, fun ks kw' => match ks with
  | [k, l, m] => match a.get k, b.get l, c.get m with
    | some x, some y, some z => cond (gw kw') (some (res x y z, pre x y z)) none
    | _, _, _ => none
  | _ => none, by
  intro ks kw' F ps h hp w vs u ha hu
  split at h
  · next k l m =>
    split at h
    · next x y z e1 e2 e3 =>
      obtain ⟨hn, h⟩ := c_t h
      injection h with h
      injection h with h1 h2
      subst h1 h2
      rw [hgw _ hn] at hu
      match vs, ha with
      | [v, u', t], ⟨h1, h2, h3, _⟩ => exact ok x y z hp w v u' t u (a.ok k x e1 w _ h1) (b.ok l y e2 w _ h2) (c.ok m z e3 w _ h3) hu
    · cases h
  · cases h⟩
end
theorem blT_zero {r : List UInt8} {l : List Tk} : blT r l 0 = [35] ++ r ++ [10] := by
  unfold blT
  rw [List.take_zero]
  rfl
theorem b0_of {w : World} (h : w.ShapedOpen Tryd.prog) : isB0 w undef := by
  have hg : 0 < Tryd.prog.globals.size := by decide +kernel
  have h0 : ((begin Tryd.prog (fun _ _ => 0) default).world.heap[0]?).bind Obj.row? = some (#[.int .i64 0], 3) := by kernel_rfl
  obtain ⟨cs, hh, _⟩ := h.1 0 _ _ hg h0
  exact ⟨⟨cs, (0, 0), hh⟩, cell_of_shapedOpen_int h hg h0 rfl (by kernel_rfl) (by kernel_rfl) (by kernel_rfl)⟩
def fin8 (l r : List UInt8) : List UInt8 := blT (nl2 (cutT r 50)) (lexS (cutT l 300)).1 (lexS (cutT l 300)).1.length ++ [35] ++ nl2 (cutT r 50)
theorem bl_n (l : List UInt8) : (lexS (cutT l 300)).1.length ≤ 300 := by
  have h := Nat.le_trans (lexS_len (cutT l 300)) (cut_len l 300)
  rwa [tks_len] at h
theorem bl_r (r : List UInt8) : (nl2 (cutT r 50)).length ≤ 50 := by rw [nl2_len]; exact cut_len r 50
theorem bl_t (l : List UInt8) (i : Nat) (h : i < (lexS (cutT l 300)).1.length) : (tkA (lexS (cutT l 300)).1 i).t.length ≤ 300 := by
  obtain ⟨_, _, h3, _⟩ := chain_at (lexS_chain (cutT l 300)) i h
  have := cut_len l 300
  show ((lexS (cutT l 300)).1.getD i ⟨0, [], 0⟩).t.length ≤ 300
  omega
theorem bl_b (l r : List UInt8) (i : Nat) (h : i ≤ (lexS (cutT l 300)).1.length) : (blT (nl2 (cutT r 50)) (lexS (cutT l 300)).1 i).length ≤ 106852 := by
  have h1 := blT_len (bl_r r) (bl_t l) i h
  have h2 := bl_n l
  omega
theorem fin8_len (l r : List UInt8) : (fin8 l r).length ≤ 1048576 := by
  have h1 := bl_b l r _ (Nat.le_refl _)
  have h2 := bl_r r
  unfold fin8
  simp only [List.length_append, List.length_cons, List.length_nil]
  omega
theorem fin8_ok (l r : List UInt8) : (lexS (fin8 l r)).1.map kt = (lexS (cutT l 300)).1.map kt ∧ (lexS (fin8 l r)).2.2 = 0 := blanks_ok (nl2_no _) (fin8_len l r)
theorem fin8_n (l r : List UInt8) : (tks (lexS (fin8 l r)).1).length = (tks (lexS (cutT l 300)).1).length := by
  rw [tks_len, tks_len]
  have := congrArg List.length (fin8_ok l r).1
  simpa using this
theorem kt_at {M L : List Tk} (h : M.map kt = L.map kt) (i : Nat) : (tkA M i).k = (tkA L i).k ∧ (tkA M i).t = (tkA L i).t := by
  have e : kt (tkA M i) = kt (tkA L i) := by
    have key : ∀ X : List Tk, kt (tkA X i) = (X.map kt).getD i (0, []) := fun X => by
      unfold tkA
      rw [List.getD_eq_getElem?_getD, List.getD_eq_getElem?_getD, List.getElem?_map]
      cases X[i]? <;> rfl
    rw [key, key, h]
  injection e with e1 e2
  exact ⟨e1, e2⟩
noncomputable def ctb24 : List (Ct dk) := [
  ct0 9 0 en9 (.s (.E (.bool true))) fun _ => wakes8 _,
  ct3w 12 0 en12 vT vT vT (.O .B0) isB0k isB0k_ok (fun x y z => .s (.E (.string (str (nl2 x))))) (fun x y z => [y = ([10] : List UInt8), z = ([32] : List UInt8), x.length ≤ 4096]) fun _ _ _ p _ _ _ _ _  h1 h2 h3 hW => by obtain ⟨rfl, rfl, p, _⟩ := p; exact replAll_t h1 h2 h3 hW p] ++ ctb23
noncomputable abbrev rblanks8 := rX ctb24 Tryd.f5
noncomputable abbrev dblanks8 (l r : List UInt8) := dX ctb24 Tryd.f5 (.s (.E (.bool true)))
noncomputable def hblanks8 (l r : List UInt8) : Nat → Hint K := fun ι => if ι = 1 then [(3, 0, some (.s (.E (.int .i64 ((min l.length 300 : Nat) : Int))))), (4, 0, some (.s (.E (.string (str (cutT l 300))))))] else if ι = 5 then [(3, 0, some (.s (.E (.int .i64 ((min r.length 50 : Nat) : Int))))), (4, 0, some (.s (.E (.string (str (cutT r 50))))))] else if ι = 6 then [(2, 0, some (.s (.E (.string (str (blT (nl2 (cutT r 50)) (lexS (cutT l 300)).1 0))))))] else if ι = 12 then [(1, 0, some (.s (.E (.string (str (blT (nl2 (cutT r 50)) (lexS (cutT l 300)).1 (lexS (cutT l 300)).1.length ++ [35])))))), (3, 0, some (.s (.E (.string (str (fin8 l r))))))] else if ι = 13 then [(1, 0, some (.s (.E (.bool false)))), (7, 0, some (.s (.E (.bool false))))] else []
noncomputable def iblanks8_0 (l r : List UInt8) (i : Nat) : Sx K := ⟨[(4, .E (.bool false)), (1000000, .O .B0), (5, .L 31 3 (tks (lexS (cutT l 300)).1) true), (8, .E (.string (str (nl2 (cutT r 50))))), (39, .L 31 3 (tks (lexS (cutT l 300)).1) true), (40, .E (.int .i64 (((tks (lexS (cutT l 300)).1).length : Nat) : Int))), (41, .E (.int .i64 ((i : Nat) : Int))), (9, .E (.string (str (blT (nl2 (cutT r 50)) (lexS (cutT l 300)).1 i))))], []⟩
noncomputable def hblanks8_0_0 (l r : List UInt8) (i : Nat) : Nat → Hint K := fun ι => if ι = 8 then [(0, 0, some (.s (.E (.bool true))))] else if ι = 9 then [(0, 0, some (.s (.A [.int .i64 (tkA (lexS (cutT l 300)).1 i).k, .string (str ((tkA (lexS (cutT l 300)).1 i).t)), .int .i64 (((tkA (lexS (cutT l 300)).1 i).at' : Nat) : Int)])))] else if ι = 10 then [(8, 0, some (.s (.E (.string (str (blT (nl2 (cutT r 50)) (lexS (cutT l 300)).1 (i + 1)))))))] else if ι = 11 then [(0, 0, some (.s (.E (.int .i64 ((i + 1 : Nat) : Int)))))] else []
noncomputable def iblanks8_1 (l r : List UInt8) (j : Nat) : Sx K := ⟨[(1000000, .O .B0), (5, .L 31 3 (tks (lexS (cutT l 300)).1) true), (12, .L 31 3 (tks (lexS (fin8 l r)).1) true), (74, .E (.int .i64 (((tks (lexS (cutT l 300)).1).length : Nat) : Int))), (75, .E (.int .i64 ((j : Nat) : Int)))], []⟩
noncomputable def hblanks8_1_0 (l r : List UInt8) (j : Nat) : Nat → Hint K := fun ι => if ι = 16 then [(0, 0, some (.s (.E (.bool true))))] else if ι = 18 then [(2, 0, some (.s (.A [.int .i64 (tkA (lexS (fin8 l r)).1 j).k, .string (str ((tkA (lexS (fin8 l r)).1 j).t)), .int .i64 (((tkA (lexS (fin8 l r)).1 j).at' : Nat) : Int)]))), (7, 0, some (.s (.A [.int .i64 (tkA (lexS (cutT l 300)).1 j).k, .string (str ((tkA (lexS (cutT l 300)).1 j).t)), .int .i64 (((tkA (lexS (cutT l 300)).1 j).at' : Nat) : Int)]))), (10, 0, some (.s (.E (.bool false)))), (14, 0, some (.s (.A [.int .i64 (tkA (lexS (fin8 l r)).1 j).k, .string (str ((tkA (lexS (fin8 l r)).1 j).t)), .int .i64 (((tkA (lexS (fin8 l r)).1 j).at' : Nat) : Int)]))), (19, 0, some (.s (.A [.int .i64 (tkA (lexS (cutT l 300)).1 j).k, .string (str ((tkA (lexS (cutT l 300)).1 j).t)), .int .i64 (((tkA (lexS (cutT l 300)).1 j).at' : Nat) : Int)]))), (22, 0, some (.s (.E (.bool false))))] else if ι = 20 then [(0, 0, some (.s (.E (.int .i64 ((j + 1 : Nat) : Int)))))] else []
noncomputable def hblanks8_1_1 (l r : List UInt8) (j : Nat) : Nat → Hint K := fun ι => if ι = 16 then [(0, 0, some (.s (.E (.bool false))))] else []
noncomputable def hblanks8_0_1 (l r : List UInt8) (i : Nat) : Nat → Hint K := fun ι => if ι = 8 then [(0, 0, some (.s (.E (.bool false))))] else []
theorem blanks8 {w : World} {v0 v1 : Value} {l r : List UInt8} (h0 : (isT l) w v0) (h1 : (isT r) w v1) (hw : isB0 w v0)  : Calls Tryd.prog 5 #[v0, v1] w (Ret w fun v w' => (isE (.bool true)) w' v) := by
  exact fx ctb24 Tryd.func5 ((hblanks8 l r)) [(0, .E (.string (str l))), (1, .E (.string (str r))), (1000000, .O .B0)] (.s (.E (.bool true))) ⟨h0, h1, hw, trivial⟩ ((tI (min ((l.length : Nat) : Int) 300) ((min l.length 300 : Nat) : Int)) ∧ (min l.length 300 ≤ l.length) ∧ (tK (.E (.string (str (l.take (min l.length 300))))) (.E (.string (str (cutT l 300))))) ∧ (cnd ((!decide ((((lexS (cutT l 300)).2.2) : Int) = 0))) (true = true) ((tI (min ((r.length : Nat) : Int) 50) ((min r.length 50 : Nat) : Int)) ∧ (min r.length 50 ≤ r.length) ∧ (tK (.E (.string (str (r.take (min r.length 50))))) (.E (.string (str (cutT r 50))))) ∧ ([10] = ([10] : List UInt8)) ∧ ([32] = ([32] : List UInt8)) ∧ ((cutT r 50).length ≤ 4096) ∧ (([35] : List UInt8).length + (nl2 (cutT r 50) : List UInt8).length ≤ 9223372036854775807) ∧ (([35] ++ (nl2 (cutT r 50)) : List UInt8).length + ([10] : List UInt8).length ≤ 9223372036854775807) ∧ (tK (.E (.string (str (([35] ++ (nl2 (cutT r 50))) ++ [10])))) (.E (.string (str (blT (nl2 (cutT r 50)) (lexS (cutT l 300)).1 0))))) ∧ (dblanks8 l r [1, 1, 1, 1, 1, 0, 1] [(hblanks8 l r)] [] (rblanks8 (hblanks8 l r) 7 (rblanks8 (hblanks8 l r) 6 (rblanks8 (hblanks8 l r) 5 (rblanks8 (hblanks8 l r) 3 (rblanks8 (hblanks8 l r) 2 (rblanks8 (hblanks8 l r) 1 (ent Tryd.f5 (κ := K) [(0, .E (.string (str l))), (1, .E (.string (str r))), (1000000, .O .B0)]))))))))))) ⟨⟨rfl, by omega⟩, (by omega), (fun _ _ _ _ _ h => h), ((Classical.em ((lexS (cutT l 300)).2.2 ≠ 0)).elim (fun he => cnd_t (by simpa using he) (rfl)) (fun he => cnd_f (by simpa using he) ⟨⟨rfl, by omega⟩, (by omega), (fun _ _ _ _ _ h => h), rfl, rfl, (Nat.le_trans (cut_len r 50) (by decide)), (by have hbr := bl_r r; simp only [List.length_cons, List.length_nil]; omega), (by have hbr := bl_r r; simp only [List.length_append, List.length_cons, List.length_nil]; omega), (fun _ _ _ _ _ h => by rw [blT_zero]; exact h), (lpI (fun h S' J => dblanks8 l r [1, 1, 1, 1, 1, 0, 1, 0, 2] [(hblanks8 l r), h] [J] S') (fun i : Nat => i ≤ (lexS (cutT l 300)).1.length) (fun i => (tks (lexS (cutT l 300)).1).length - i) (iblanks8_0 l r) (0) (rblanks8 (hblanks8 l r) 7 (rblanks8 (hblanks8 l r) 6 (rblanks8 (hblanks8 l r) 5 (rblanks8 (hblanks8 l r) 3 (rblanks8 (hblanks8 l r) 2 (rblanks8 (hblanks8 l r) 1 (ent Tryd.f5 (κ := K) [(0, .E (.string (str l))), (1, .E (.string (str r))), (1000000, .O .B0)]))))))) (Nat.zero_le _) (fun i hC1 J1 hJ1 => (by
    have hbn := bl_n l
    have htl := tks_len ((lexS (cutT l 300)).1)
    rcases Nat.lt_or_ge i (tks (lexS (cutT l 300)).1).length with h8 | h8
    all_goals try have h8t : i < (lexS (cutT l 300)).1.length := by rw [← tks_len]; exact h8
    · exact ⟨(hblanks8_0_0 l r i), vcP (((decide ((((i : Nat) : Int) : Int) < (((tks (lexS (cutT l 300)).1).length : Nat) : Int))) = true) ∧ (i < (tks (lexS (cutT l 300)).1).length) ∧ (((tks (lexS (cutT l 300)).1).getD i []) = ([.int .i64 (tkA (lexS (cutT l 300)).1 i).k, .string (str ((tkA (lexS (cutT l 300)).1 i).t)), .int .i64 (((tkA (lexS (cutT l 300)).1 i).at' : Nat) : Int)] : List Value)) ∧ (([32, 9] : List UInt8).length + ((tkA (lexS (cutT l 300)).1 i).t : List UInt8).length ≤ 9223372036854775807) ∧ (([32, 9] ++ ((tkA (lexS (cutT l 300)).1 i).t) : List UInt8).length + ([13, 10, 35] : List UInt8).length ≤ 9223372036854775807) ∧ ((([32, 9] ++ ((tkA (lexS (cutT l 300)).1 i).t)) ++ [13, 10, 35] : List UInt8).length + (nl2 (cutT r 50) : List UInt8).length ≤ 9223372036854775807) ∧ (((([32, 9] ++ ((tkA (lexS (cutT l 300)).1 i).t)) ++ [13, 10, 35]) ++ (nl2 (cutT r 50)) : List UInt8).length + ([10] : List UInt8).length ≤ 9223372036854775807) ∧ ((blT (nl2 (cutT r 50)) (lexS (cutT l 300)).1 i : List UInt8).length + (((([32, 9] ++ ((tkA (lexS (cutT l 300)).1 i).t)) ++ [13, 10, 35]) ++ (nl2 (cutT r 50))) ++ [10] : List UInt8).length ≤ 9223372036854775807) ∧ (tK (.E (.string (str ((blT (nl2 (cutT r 50)) (lexS (cutT l 300)).1 i) ++ (((([32, 9] ++ ((tkA (lexS (cutT l 300)).1 i).t)) ++ [13, 10, 35]) ++ (nl2 (cutT r 50))) ++ [10]))))) (.E (.string (str (blT (nl2 (cutT r 50)) (lexS (cutT l 300)).1 (i + 1)))))) ∧ (IntKind.i64.wrap (((i : Nat) : Int) + 1) = ((i : Nat) : Int) + 1) ∧ (tI (((i : Nat) : Int) + 1) ((i + 1 : Nat) : Int)) ∧ (J1 (rblanks8 (hblanks8_0_0 l r i) 11 (rblanks8 (hblanks8_0_0 l r i) 10 (rblanks8 (hblanks8_0_0 l r i) 9 (rblanks8 (hblanks8_0_0 l r i) 8 (iblanks8_0 l r i))))))) ⟨(decide_eq_true (by omega)), (h8), (tks_at h8), (by have hbr := bl_r r; have hbt := bl_t l i h8t; have hbb := bl_b l r i (by omega); simp only [List.length_cons, List.length_nil]; omega), (by have hbr := bl_r r; have hbt := bl_t l i h8t; have hbb := bl_b l r i (by omega); simp only [List.length_append, List.length_cons, List.length_nil]; omega), (by have hbr := bl_r r; have hbt := bl_t l i h8t; have hbb := bl_b l r i (by omega); simp only [List.length_append, List.length_cons, List.length_nil]; omega), (by have hbr := bl_r r; have hbt := bl_t l i h8t; have hbb := bl_b l r i (by omega); simp only [List.length_append, List.length_cons, List.length_nil]; omega), (by have hbr := bl_r r; have hbt := bl_t l i h8t; have hbb := bl_b l r i (by omega); simp only [List.length_append, List.length_cons, List.length_nil]; omega), (fun _ _ _ _ _ h => by rw [blT_succ h8t]; exact h), (i64_in (by omega) (by omega)), ⟨rfl, by omega⟩, (hJ1 (i + 1) _ (h8t) (by omega) ⟨by kernel_rfl, by kernel_rfl⟩)⟩⟩
    · exact ⟨(hblanks8_0_1 l r i), vcP (((decide ((((i : Nat) : Int) : Int) < (((tks (lexS (cutT l 300)).1).length : Nat) : Int))) = false) ∧ (((blT (nl2 (cutT r 50)) (lexS (cutT l 300)).1 i : List UInt8).length + ([35] : List UInt8).length ≤ 9223372036854775807) ∧ (tK (.E (.string (str ((blT (nl2 (cutT r 50)) (lexS (cutT l 300)).1 i) ++ [35])))) (.E (.string (str (blT (nl2 (cutT r 50)) (lexS (cutT l 300)).1 (lexS (cutT l 300)).1.length ++ [35]))))) ∧ ((blT (nl2 (cutT r 50)) (lexS (cutT l 300)).1 (lexS (cutT l 300)).1.length ++ [35] : List UInt8).length + (nl2 (cutT r 50) : List UInt8).length ≤ 9223372036854775807) ∧ (tK (.E (.string (str ((blT (nl2 (cutT r 50)) (lexS (cutT l 300)).1 (lexS (cutT l 300)).1.length ++ [35]) ++ (nl2 (cutT r 50)))))) (.E (.string (str (fin8 l r))))) ∧ ((!decide ((((lexS (fin8 l r)).2.2) : Int) = 0)) = false) ∧ ((!decide (((((tks (lexS (fin8 l r)).1).length : Nat) : Int) : Int) = (((tks (lexS (cutT l 300)).1).length : Nat) : Int))) = false) ∧ (dblanks8 l r [1, 1, 1, 1, 1, 1, 1, 1, 0, 1] [(hblanks8 l r)] [] (rblanks8 (hblanks8 l r) 15 (rblanks8 (hblanks8 l r) 13 (rblanks8 (hblanks8 l r) 12 (rblanks8 (hblanks8_0_1 l r i) 8 (iblanks8_0 l r i)))))))) ⟨(decide_eq_false (by omega)), (have hC1 : i = (lexS (cutT l 300)).1.length := (by rw [tks_len] at h8; omega); ⟨(by have hbr := bl_r r; have hbb := bl_b l r i (by omega); simp only [List.length_cons, List.length_nil]; omega), (fun _ _ _ _ _ h => by subst hC1; exact h), (by have hbr := bl_r r; have hbb := bl_b l r _ (Nat.le_refl _); simp only [List.length_append, List.length_cons, List.length_nil]; omega), (fun _ _ _ _ _ h => h), (by rw [(fin8_ok l r).2]; rfl), (by rw [fin8_n]; simp), (lpI (fun h S' J => dblanks8 l r [1, 1, 1, 1, 1, 1, 1, 1, 0, 1, 0, 2] [(hblanks8 l r), h] [J] S') (fun j : Nat => j ≤ (tks (lexS (cutT l 300)).1).length) (fun j => (tks (lexS (cutT l 300)).1).length - j) (iblanks8_1 l r) (0) (rblanks8 (hblanks8 l r) 15 (rblanks8 (hblanks8 l r) 13 (rblanks8 (hblanks8 l r) 12 (rblanks8 (hblanks8_0_1 l r i) 8 (iblanks8_0 l r i))))) (Nat.zero_le _) (fun j hC1 J1 hJ1 => (by
    have hbn := bl_n l
    have htl := tks_len ((lexS (cutT l 300)).1)
    rcases Nat.lt_or_ge j (tks (lexS (cutT l 300)).1).length with h8 | h8
    · exact ⟨(hblanks8_1_0 l r j), vcP (((decide ((((j : Nat) : Int) : Int) < (((tks (lexS (cutT l 300)).1).length : Nat) : Int))) = true) ∧ (j < (tks (lexS (fin8 l r)).1).length) ∧ (((tks (lexS (fin8 l r)).1).getD j []) = ([.int .i64 (tkA (lexS (fin8 l r)).1 j).k, .string (str ((tkA (lexS (fin8 l r)).1 j).t)), .int .i64 (((tkA (lexS (fin8 l r)).1 j).at' : Nat) : Int)] : List Value)) ∧ (j < (tks (lexS (cutT l 300)).1).length) ∧ (((tks (lexS (cutT l 300)).1).getD j []) = ([.int .i64 (tkA (lexS (cutT l 300)).1 j).k, .string (str ((tkA (lexS (cutT l 300)).1 j).t)), .int .i64 (((tkA (lexS (cutT l 300)).1 j).at' : Nat) : Int)] : List Value)) ∧ ((!(((tkA (lexS (fin8 l r)).1 j).t) == ((tkA (lexS (cutT l 300)).1 j).t))) = false) ∧ (j < (tks (lexS (fin8 l r)).1).length) ∧ (((tks (lexS (fin8 l r)).1).getD j []) = ([.int .i64 (tkA (lexS (fin8 l r)).1 j).k, .string (str ((tkA (lexS (fin8 l r)).1 j).t)), .int .i64 (((tkA (lexS (fin8 l r)).1 j).at' : Nat) : Int)] : List Value)) ∧ (j < (tks (lexS (cutT l 300)).1).length) ∧ (((tks (lexS (cutT l 300)).1).getD j []) = ([.int .i64 (tkA (lexS (cutT l 300)).1 j).k, .string (str ((tkA (lexS (cutT l 300)).1 j).t)), .int .i64 (((tkA (lexS (cutT l 300)).1 j).at' : Nat) : Int)] : List Value)) ∧ ((!decide (((tkA (lexS (fin8 l r)).1 j).k : Int) = (tkA (lexS (cutT l 300)).1 j).k)) = false) ∧ (IntKind.i64.wrap (((j : Nat) : Int) + 1) = ((j : Nat) : Int) + 1) ∧ (tI (((j : Nat) : Int) + 1) ((j + 1 : Nat) : Int)) ∧ (J1 (rblanks8 (hblanks8_1_0 l r j) 20 (rblanks8 (hblanks8_1_0 l r j) 18 (rblanks8 (hblanks8_1_0 l r j) 17 (rblanks8 (hblanks8_1_0 l r j) 16 (iblanks8_1 l r j))))))) ⟨(decide_eq_true (by omega)), (by rw [fin8_n]; exact h8), (tks_at (by rw [fin8_n]; exact h8)), (h8), (tks_at h8), (by rw [(kt_at (fin8_ok l r).1 j).2]; simp), (by rw [fin8_n]; exact h8), (tks_at (by rw [fin8_n]; exact h8)), (h8), (tks_at h8), (by rw [(kt_at (fin8_ok l r).1 j).1]; simp), (i64_in (by omega) (by omega)), ⟨rfl, by omega⟩, (hJ1 (j + 1) _ (h8) (by omega) ⟨by kernel_rfl, by kernel_rfl⟩)⟩⟩
    · exact ⟨(hblanks8_1_1 l r j), vcP (((decide ((((j : Nat) : Int) : Int) < (((tks (lexS (cutT l 300)).1).length : Nat) : Int))) = false) ∧ (true = true)) ⟨(decide_eq_false (by omega)), (have hC1 : True := (trivial); (rfl))⟩⟩)))⟩)⟩⟩)))⟩))⟩
end Go.Proofs.YtcogmabjnkjdfaaDoor.X
