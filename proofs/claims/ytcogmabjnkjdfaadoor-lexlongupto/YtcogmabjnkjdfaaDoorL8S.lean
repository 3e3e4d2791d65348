/- What the laws of layer 8 share. Written by a script (tools/laws). -/
import Derived.Test.YtcogmabjnkjdfaaDoorLXc
import Derived.Test.YtcogmabjnkjdfaaDoorLw
namespace Go.Proofs.YtcogmabjnkjdfaaDoor.X
open Go.RowKit Go.Proofs.YtcogmabjnkjdfaaDoor.Z
set_option linter.unusedVariables false
def wk1 : List Tk := [⟨0, [114, 97, 116, 101], 0⟩, ⟨3, [61], 4⟩, ⟨1, [52, 46, 50, 53], 5⟩, ⟨3, [59], 9⟩]
def wk3 : List Tk := [⟨2, [50, 48, 50, 52, 45, 48, 50, 45, 50, 57], 0⟩, ⟨3, [44], 10⟩, ⟨1, [45, 51], 11⟩]
def tkA (l : List Tk) (i : Nat) : Tk := l.getD i ⟨0, [], 0⟩
theorem tks_at {l : List Tk} {i : Nat} (h : i < (tks l).length) : (tks l).getD i [] = [.int .i64 (tkA l i).k, .string (str (tkA l i).t), .int .i64 (((tkA l i).at' : Nat) : Int)] := by
  rw [tks_len] at h
  unfold tks tkA
  rw [List.getD_eq_getElem?_getD, List.getD_eq_getElem?_getD, List.getElem?_map, List.getElem?_eq_getElem h]
  rfl
noncomputable def ct0 (f va : Nat) (en : Enters Tryd.prog f) (res : Fk K) (ok : ∀ w, Cl f [] w res) : Ct dk := ⟨f, va, en, fun ks _ => match ks with
  | [] => some (res, [])
  | _ => none, by
  intro ks kw F ps h hp w vs u ha _
  split at h
  · injection h with h
    injection h with h1 h2
    subst h1 h2
    match vs, ha with
    | [], _ => exact ok w
  · cases h⟩
theorem lexA_len (s : List UInt8) : ∀ (f a : Nat), a ≤ s.length → (lexA f s a).1.length ≤ s.length - a := by
  intro f
  induction f with
  | zero => intro a _; exact Nat.zero_le _
  | succ f ih =>
    intro a ha
    unfold lexA
    split
    · exact Nat.zero_le _
    · split
      · next h1 h2 =>
        have h3 := next_gt (by omega) h2
        have h4 := ih (nextA s a) h3.2.1
        unfold fin
        split
        · simp only [List.length_append, List.length_cons, List.length_nil]; omega
        · exact Nat.zero_le _
      · exact Nat.zero_le _
theorem lexS_len (s : List UInt8) : (tks (lexS s).1).length ≤ s.length := by
  rw [tks_len]
  unfold lexS
  split
  · exact Nat.zero_le _
  · exact Nat.le_trans (lexA_len s _ _ (gap_le _ _)) (Nat.sub_le _ _)
def cutT (l : List UInt8) (n : Nat) : List UInt8 := l.take (min l.length n)
theorem cut_len (l : List UInt8) (n : Nat) : (cutT l n).length ≤ n := by
  unfold cutT
  rw [List.length_take]
  omega
theorem lex_w1 : lexS [114, 97, 116, 101, 61, 52, 46, 50, 53, 59, 32, 35, 32, 121, 101, 115] = (wk1, 0, 0) := by kernel_rfl
theorem lex_w2 : lexS [97, 32, 49, 46] = ([], 2, 5) := by kernel_rfl
theorem lex_w3 : lexS [50, 48, 50, 52, 45, 48, 50, 45, 50, 57, 44, 45, 51] = (wk3, 0, 0) := by kernel_rfl
noncomputable def ctb23 : List (Ct dk) := [
  ct1 10 0 en10 (vL 3) (fun x => .s (.E (.string (str (Lib.join (x.map txR) [32]))))) (fun x => [∀ r ∈ x, rOk r, x.length ≤ 1099511627776, (Lib.join (x.map txR) [32]).length ≤ 140737488355328]) fun _ p _ _  h1 => lexJoin_t h1 p.1 p.2.1 p.2.2.1,
  ct1 7 0 en7 vT (fun x => .t [.L 31 3 (tks (lexS x).1) true, .E (.int .i64 (((lexS x).2.1 : Nat) : Int)), .E (.int .i64 ((lexS x).2.2))]) (fun x => []) fun _ p _ _  h1 => Lex_t h1] ++ ctb22
theorem wakes8 (w : World)     : Calls Tryd.prog 9 #[] w (Ret w fun v w' => (isE (.bool true)) w' v) := by
  exact fx ctb23 Tryd.func9 (fun ι => if ι = 1 then [(2, 0, some (.s (.L 31 3 (tks wk1) true))), (3, 0, some (.s (.E (.int .i64 ((0 : Nat) : Int))))), (4, 0, some (.s (.E (.int .i64 0))))] else if ι = 2 then [(2, 0, some (.s (.L 31 3 (tks []) true))), (3, 0, some (.s (.E (.int .i64 ((2 : Nat) : Int))))), (4, 0, some (.s (.E (.int .i64 5))))] else if ι = 3 then [(2, 0, some (.s (.L 31 3 (tks wk3) true))), (3, 0, some (.s (.E (.int .i64 ((0 : Nat) : Int))))), (4, 0, some (.s (.E (.int .i64 0))))] else if ι = 4 then [(1, 0, some (.s (.E (.bool true)))), (5, 0, some (.s (.E (.bool true)))), (9, 0, some (.s (.A ([.int .i64 1, .string (str [52, 46, 50, 53]), .int .i64 5])))), (12, 0, some (.s (.E (.bool true)))), (16, 0, some (.s (.A ([.int .i64 1, .string (str [52, 46, 50, 53]), .int .i64 5])))), (19, 0, some (.s (.E (.bool true)))), (23, 0, some (.s (.A ([.int .i64 1, .string (str [52, 46, 50, 53]), .int .i64 5])))), (26, 0, some (.s (.E (.bool true)))), (30, 0, some (.s (.E (.bool true)))), (34, 0, some (.s (.E (.bool true)))), (38, 0, some (.s (.E (.bool true)))), (43, 0, some (.s (.E (.bool true)))), (47, 0, some (.s (.A ([.int .i64 2, .string (str [50, 48, 50, 52, 45, 48, 50, 45, 50, 57]), .int .i64 0])))), (50, 0, some (.s (.E (.bool true)))), (55, 0, some (.s (.E (.bool true))))] else []) [] (.s (.E (.bool true))) trivial ((tLs 31 3 true (tks (lexS [114, 97, 116, 101, 61, 52, 46, 50, 53, 59, 32, 35, 32, 121, 101, 115]).1) (tks wk1)) ∧ (tI (((lexS [114, 97, 116, 101, 61, 52, 46, 50, 53, 59, 32, 35, 32, 121, 101, 115]).2.1 : Nat) : Int) ((0 : Nat) : Int)) ∧ (tI ((lexS [114, 97, 116, 101, 61, 52, 46, 50, 53, 59, 32, 35, 32, 121, 101, 115]).2.2) 0) ∧ (tLs 31 3 true (tks (lexS [97, 32, 49, 46]).1) (tks [])) ∧ (tI (((lexS [97, 32, 49, 46]).2.1 : Nat) : Int) ((2 : Nat) : Int)) ∧ (tI ((lexS [97, 32, 49, 46]).2.2) 5) ∧ (tLs 31 3 true (tks (lexS [50, 48, 50, 52, 45, 48, 50, 45, 50, 57, 44, 45, 51]).1) (tks wk3)) ∧ (tI (((lexS [50, 48, 50, 52, 45, 48, 50, 45, 50, 57, 44, 45, 51]).2.1 : Nat) : Int) ((0 : Nat) : Int)) ∧ (tI ((lexS [50, 48, 50, 52, 45, 48, 50, 45, 50, 57, 44, 45, 51]).2.2) 0) ∧ ((decide ((0 : Int) = 0)) = true) ∧ ((decide (((((tks wk1).length : Nat) : Int) : Int) = 4)) = true) ∧ (2 < (tks wk1).length) ∧ (((tks wk1).getD 2 []) = ([.int .i64 1, .string (str [52, 46, 50, 53]), .int .i64 5] : List Value)) ∧ (([52, 46, 50, 53] == [52, 46, 50, 53]) = true) ∧ (2 < (tks wk1).length) ∧ (((tks wk1).getD 2 []) = ([.int .i64 1, .string (str [52, 46, 50, 53]), .int .i64 5] : List Value)) ∧ ((decide ((1 : Int) = 1)) = true) ∧ (2 < (tks wk1).length) ∧ (((tks wk1).getD 2 []) = ([.int .i64 1, .string (str [52, 46, 50, 53]), .int .i64 5] : List Value)) ∧ ((decide ((5 : Int) = 5)) = true) ∧ ((decide ((((2 : Nat) : Int) : Int) = 2)) = true) ∧ ((decide ((5 : Int) = 5)) = true) ∧ ((decide ((0 : Int) = 0)) = true) ∧ ((decide (((((tks wk3).length : Nat) : Int) : Int) = 3)) = true) ∧ (0 < (tks wk3).length) ∧ (((tks wk3).getD 0 []) = ([.int .i64 2, .string (str [50, 48, 50, 52, 45, 48, 50, 45, 50, 57]), .int .i64 0] : List Value)) ∧ ((decide ((2 : Int) = 2)) = true) ∧ (∀ r ∈ (tks wk3), rOk r) ∧ ((tks wk3).length ≤ 1099511627776) ∧ ((Lib.join ((tks wk3).map txR) [32]).length ≤ 140737488355328) ∧ (((Lib.join ((tks wk3).map txR) [32]) == [50, 48, 50, 52, 45, 48, 50, 45, 50, 57, 32, 44, 32, 45, 51]) = true) ∧ (true = true)) ⟨⟨⟨rfl, rfl, rfl⟩, (by rw [lex_w1])⟩, ⟨rfl, by rw [lex_w1]⟩, ⟨rfl, by rw [lex_w1]⟩, ⟨⟨rfl, rfl, rfl⟩, (by rw [lex_w2])⟩, ⟨rfl, by rw [lex_w2]⟩, ⟨rfl, by rw [lex_w2]⟩, ⟨⟨rfl, rfl, rfl⟩, (by rw [lex_w3])⟩, ⟨rfl, by rw [lex_w3]⟩, ⟨rfl, by rw [lex_w3]⟩, (rfl), (rfl), (by decide), (rfl), (rfl), (by decide), (rfl), (rfl), (by decide), (rfl), (rfl), (rfl), (rfl), (rfl), (rfl), (by decide), (rfl), (rfl), (tks_ok wk3), (by decide), (by decide), (rfl), (rfl)⟩
end Go.Proofs.YtcogmabjnkjdfaaDoor.X
