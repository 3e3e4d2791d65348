/- The library's functions that layer 7 calls. Written by a script (tools/laws). -/
import Derived.Test.YtcogmabjnkjdfaaDoorBXk
import Derived.Test.YtcogmabjnkjdfaaDoorEn
import Derived.Test.YtcogmabjnkjdfaaDoorDl
import Derived.Test.YtcogmabjnkjdfaaDoorLX
namespace Go.Proofs.YtcogmabjnkjdfaaDoor.X
open Go.RowKit Go.Proofs.YtcogmabjnkjdfaaDoor.Z
set_option linter.unusedVariables false
theorem neg_nil {l : List UInt8} (h : l.length = 0) : false = negT l := by rw [List.length_eq_zero_iff.1 h]; rfl
theorem take1_neg (l : List UInt8) : (l.take 1 == [45]) = negT l := by
  cases l with
  | nil => rfl
  | cons x r => by_cases h : x = 45 <;> simp [negT, h]
theorem body_no {l : List UInt8} (h : negT l = false) : bodyT l = l := by unfold bodyT; rw [h]; rfl
theorem body_yes {l : List UInt8} (h : negT l = true) : bodyT l = l.drop 1 := by unfold bodyT; rw [h]; cases l <;> rfl
theorem neg_pos {l : List UInt8} (h : negT l = true) : 1 ≤ l.length := by
  cases l with
  | nil => cases h
  | cons x r => simp
theorem ix_46 {l : List UInt8} (h : l = [46]) : (0 : Int) = ixT l := by rw [h]; rfl
theorem ix_p {l : List UInt8} (h : partB l = true) : ixT l = (((aheadT l).length : Nat) : Int) := by unfold ixT; rw [if_pos h]
theorem ix_ge {l : List UInt8} (h : partB l = true) : decide ((0 : Int) ≤ ixT l) = true := decide_eq_true (by rw [ix_p h]; omega)
theorem ix_lt {l : List UInt8} (h : ¬ partB l = true) : decide ((0 : Int) ≤ ixT l) = false := decide_eq_false (by unfold ixT; rw [if_neg h]; decide)
theorem part_rest {l : List UInt8} (h : partB l = true) : l = aheadT l ++ 46 :: behindT l := by
  rcases (split46 l).2 with e | e
  · unfold partB at h; rw [e] at h; cases h
  · conv => lhs; rw [(split46 l).1, e]
theorem part_len {l : List UInt8} (h : partB l = true) : (aheadT l).length + 1 ≤ l.length := by
  have := congrArg List.length (part_rest h)
  simp at this
  omega
theorem take_ahead {l : List UInt8} (h : partB l = true) : l.take (aheadT l).length = aheadT l := by
  conv => lhs; arg 2; rw [part_rest h]
  simp
theorem drop_ahead {l : List UInt8} (h : partB l = true) : l.drop ((aheadT l).length + 1) = behindT l := by
  conv => lhs; arg 2; rw [part_rest h]
  simp
theorem np_false {l : List UInt8} (h : ¬ partB l = true) : partB l = false := by simpa using h
theorem hasp_t {w : World} {v0 v1 : Value} {l : List UInt8} (h0 : (isT l) w v0) (h1 : (isT [45]) w v1)  : Calls Tryd.prog 23 #[v0, v1] w (Ret w fun v w' => (isE (.bool (negT l))) w' v) := by
  rcases Nat.eq_zero_or_pos l.length with h8 | h8
  · exact fx ctb1 Tryd.func23 (fun ι => if ι = 1 then [(4, 0, some (.s (.E (.bool false))))] else []) [(0, .E (.string (str l))), (1, .E (.string (str [45])))] (.s (.E (.bool (negT l)))) ⟨h0, h1, trivial⟩ (((decide ((1 : Int) ≤ ((l.length : Nat) : Int))) = false) ∧ (false = (negT l))) ⟨(decide_eq_false (by omega)), (neg_nil h8)⟩
  · exact fx ctb1 Tryd.func23 (fun ι => if ι = 1 then [(4, 0, some (.s (.E (.bool true))))] else []) [(0, .E (.string (str l))), (1, .E (.string (str [45])))] (.s (.E (.bool (negT l)))) ⟨h0, h1, trivial⟩ (((decide ((1 : Int) ≤ ((l.length : Nat) : Int))) = true) ∧ (1 ≤ l.length) ∧ (((l.take 1) == [45]) = (negT l))) ⟨(decide_eq_true (by omega)), (by omega), (take1_neg l)⟩
noncomputable def ctb2 : List (Ct dk) := [
  ct2 23 0 en23 vT vT (fun x y => .s (.E (.bool (negT x)))) (fun x y => [y = ([45] : List UInt8)]) fun _ _ p _ _ _  h1 h2 => by obtain rfl := p.1; exact hasp_t h1 h2] ++ ctb1
theorem cutp_t {w : World} {v0 v1 : Value} {l : List UInt8} (h0 : (isT l) w v0) (h1 : (isT [45]) w v1)  : Calls Tryd.prog 68 #[v0, v1] w (Ret w fun v w' => (f0 w (.t [.E (.string (str (bodyT l))), .E (.bool (negT l))])).p w' v) := by
  exact fx ctb2 Tryd.func68 (fun _ => []) [(0, .E (.string (str l))), (1, .E (.string (str [45])))] (.t [.E (.string (str (bodyT l))), .E (.bool (negT l))]) ⟨h0, h1, trivial⟩ (([45] = ([45] : List UInt8)) ∧ (cnd ((!(negT l))) ((tK (.E (.string (str l))) (.E (.string (str (bodyT l))))) ∧ (false = (negT l)) ∧ True) ((1 ≤ l.length) ∧ ((tK (.E (.string (str (l.drop 1)))) (.E (.string (str (bodyT l))))) ∧ (true = (negT l)) ∧ True)))) ⟨rfl, ((Classical.em (negT l = false)).elim (fun hn => cnd_t (by rw [hn]; rfl) ⟨(fun _ _ _ _ _ h => by rw [body_no hn]; exact h), (hn.symm), trivial⟩) (fun hn => cnd_f (by simpa using hn) ⟨(neg_pos (by simpa using hn)), ⟨(fun _ _ _ _ _ h => by rw [body_yes (by simpa using hn)]; exact h), ((by simpa using hn : negT l = true).symm), trivial⟩⟩))⟩
noncomputable def ctb3 : List (Ct dk) := [
  ct2 68 0 en68 vT vT (fun x y => .t [.E (.string (str (bodyT x))), .E (.bool (negT x))]) (fun x y => [y = ([45] : List UInt8)]) fun _ _ p _ _ _  h1 h2 => by obtain rfl := p.1; exact cutp_t h1 h2] ++ ctb2
theorem cutp2_t {w : World} {v0 v1 : Value} {l : List UInt8} (h0 : (isT l) w v0) (h1 : (isT [45]) w v1)  : Calls Tryd.prog 58 #[v0, v1] w (Ret w fun v w' => (f0 w (.t [.E (.string (str (bodyT l))), .E (.bool (negT l))])).p w' v) := by
  exact fx ctb3 Tryd.func58 (fun _ => []) [(0, .E (.string (str l))), (1, .E (.string (str [45])))] (.t [.E (.string (str (bodyT l))), .E (.bool (negT l))]) ⟨h0, h1, trivial⟩ (([45] = ([45] : List UInt8)) ∧ ((tK (.E (.string (str (bodyT l)))) (.E (.string (str (bodyT l))))) ∧ ((negT l) = (negT l)) ∧ True)) ⟨rfl, ⟨(fun _ _ _ _ _ h => h), rfl, trivial⟩⟩
noncomputable def ctb4 : List (Ct dk) := [
  ct2 47 0 en47 vT vU8 (fun x y => .s (.E (.int .i64 (ixT x)))) (fun x y => [y = 46]) fun _ _ p _ _ _  h1 h2 => by obtain rfl := p.1; exact ixb_t h1 h2] ++ ctb3
theorem index_t {w : World} {v0 v1 : Value} {l : List UInt8} (h0 : (isT l) w v0) (h1 : (isT [46]) w v1)  : Calls Tryd.prog 53 #[v0, v1] w (Ret w fun v w' => (isE (.int .i64 (ixT l))) w' v) := by
  by_cases h8 : l = [46]
  · exact fx ctb4 Tryd.func53 (fun ι => if ι = 2 then [(1, 0, some (.s (.E (.bool false)))), (5, 0, some (.s (.E (.bool true))))] else []) [(0, .E (.string (str l))), (1, .E (.string (str [46])))] (.s (.E (.int .i64 (ixT l)))) ⟨h0, h1, trivial⟩ (((decide ((1 : Int) = 0)) = false) ∧ (([46] == l) = true) ∧ (tI 0 (ixT l))) ⟨(rfl), (by rw [h8]; rfl), ⟨rfl, ix_46 h8⟩⟩
  · exact fx ctb4 Tryd.func53 (fun ι => if ι = 2 then [(1, 0, some (.s (.E (.bool false)))), (5, 0, some (.s (.E (.bool false))))] else if ι = 4 then [(1, 0, some (.s (.E (.bool true))))] else if ι = 5 then [(2, 0, some (.s (.E (.int .u8 46))))] else []) [(0, .E (.string (str l))), (1, .E (.string (str [46])))] (.s (.E (.int .i64 (ixT l)))) ⟨h0, h1, trivial⟩ (((decide ((1 : Int) = 0)) = false) ∧ (([46] == l) = false) ∧ ((decide ((1 : Int) = 1)) = true) ∧ (0 < ([46] : List UInt8).length) ∧ (tB (((([46] : List UInt8).getD 0 0).toNat : Nat) : Int) 46) ∧ ((46 : Int) = 46) ∧ (tI (ixT l) (ixT l))) ⟨(rfl), (by simpa using fun e => h8 e.symm), (rfl), (by decide), ⟨rfl, rfl⟩, rfl, ⟨rfl, rfl⟩⟩
noncomputable def ctb5 : List (Ct dk) := [
  ct2 53 0 en53 vT vT (fun x y => .s (.E (.int .i64 (ixT x)))) (fun x y => [y = ([46] : List UInt8)]) fun _ _ p _ _ _  h1 h2 => by obtain rfl := p.1; exact index_t h1 h2] ++ ctb4
theorem cut_t {w : World} {v0 v1 : Value} {l : List UInt8} (h0 : (isT l) w v0) (h1 : (isT [46]) w v1) (hl : l.length ≤ 100000) : Calls Tryd.prog 69 #[v0, v1] w (Ret w fun v w' => (f0 w (.t [.E (.string (str (aheadT l))), .E (.string (str (behindT l))), .E (.bool (partB l))])).p w' v) := by
  have hl2 := parts_len l
  exact fx ctb5 Tryd.func69 (fun ι => if ι = 3 then [(1, 0, some (.s (.E (.int .i64 (((aheadT l).length : Nat) : Int))))), (4, 0, some (.s (.E (.int .i64 (((aheadT l).length : Nat) : Int))))), (7, 0, some (.s (.E (.int .i64 (((aheadT l).length + 1 : Nat) : Int)))))] else []) [(0, .E (.string (str l))), (1, .E (.string (str [46])))] (.t [.E (.string (str (aheadT l))), .E (.string (str (behindT l))), .E (.bool (partB l))]) ⟨h0, h1, trivial⟩ (([46] = ([46] : List UInt8)) ∧ (cnd ((decide ((0 : Int) ≤ (ixT l)))) ((tI (ixT l) (((aheadT l).length : Nat) : Int)) ∧ ((aheadT l).length ≤ l.length) ∧ (tI (ixT l) (((aheadT l).length : Nat) : Int)) ∧ (IntKind.i64.wrap ((((aheadT l).length : Nat) : Int) + 1) = (((aheadT l).length : Nat) : Int) + 1) ∧ (tI ((((aheadT l).length : Nat) : Int) + 1) (((aheadT l).length + 1 : Nat) : Int)) ∧ ((aheadT l).length + 1 ≤ l.length) ∧ ((tK (.E (.string (str (l.take ((aheadT l).length))))) (.E (.string (str (aheadT l))))) ∧ (tK (.E (.string (str (l.drop ((aheadT l).length + 1))))) (.E (.string (str (behindT l))))) ∧ (true = (partB l)) ∧ True)) ((tK (.E (.string (str l))) (.E (.string (str (aheadT l))))) ∧ (tK (.E (.string (str []))) (.E (.string (str (behindT l))))) ∧ (false = (partB l)) ∧ True))) ⟨rfl, ((Classical.em (partB l = true)).elim (fun hp => cnd_t (ix_ge hp) ⟨⟨rfl, ix_p hp⟩, (Nat.le_of_succ_le (part_len hp)), ⟨rfl, ix_p hp⟩, (i64_in (by omega) (by omega)), ⟨rfl, by omega⟩, (part_len hp), ⟨(fun _ _ _ _ _ h => by rw [take_ahead hp] at h; exact h), (fun _ _ _ _ _ h => by rw [drop_ahead hp] at h; exact h), (hp.symm), trivial⟩⟩) (fun hp => cnd_f (ix_lt hp) ⟨(fun _ _ _ _ _ h => by rw [(np_eq (np_false hp)).2.1]; exact h), (fun _ _ _ _ _ h => by rw [(np_eq (np_false hp)).2.2]; exact h), ((np_false hp).symm), trivial⟩))⟩
noncomputable def ctb6 : List (Ct dk) := [
  ct2 69 0 en69 vT vT (fun x y => .t [.E (.string (str (aheadT x))), .E (.string (str (behindT x))), .E (.bool (partB x))]) (fun x y => [y = ([46] : List UInt8), x.length ≤ 100000]) fun _ _ p _ _ _  h1 h2 => by obtain rfl := p.1; exact cut_t h1 h2 p.2.1] ++ ctb5
theorem cut2_t {w : World} {v0 v1 : Value} {l : List UInt8} (h0 : (isT l) w v0) (h1 : (isT [46]) w v1) (hl : l.length ≤ 100000) : Calls Tryd.prog 59 #[v0, v1] w (Ret w fun v w' => (f0 w (.t [.E (.string (str (aheadT l))), .E (.string (str (behindT l))), .E (.bool (partB l))])).p w' v) := by
  exact fx ctb6 Tryd.func59 (fun _ => []) [(0, .E (.string (str l))), (1, .E (.string (str [46])))] (.t [.E (.string (str (aheadT l))), .E (.string (str (behindT l))), .E (.bool (partB l))]) ⟨h0, h1, trivial⟩ (([46] = ([46] : List UInt8)) ∧ (l.length ≤ 100000) ∧ ((tK (.E (.string (str (aheadT l)))) (.E (.string (str (aheadT l))))) ∧ (tK (.E (.string (str (behindT l)))) (.E (.string (str (behindT l))))) ∧ ((partB l) = (partB l)) ∧ True)) ⟨rfl, (by omega), ⟨(fun _ _ _ _ _ h => h), (fun _ _ _ _ _ h => h), rfl, trivial⟩⟩
end Go.Proofs.YtcogmabjnkjdfaaDoor.X
