/- Layers 4 to 6 and their references, by reckoning. Written by a script (tools/laws). -/
import Derived.Test.YtcogmabjnkjdfaaDoorBXk
import Derived.Test.YtcogmabjnkjdfaaDoorEn
import Derived.Test.YtcogmabjnkjdfaaDoorBK
import Derived.Test.YtcogmabjnkjdfaaDoorBQv
import Derived.Test.YtcogmabjnkjdfaaDoorBRd
import Derived.Test.YtcogmabjnkjdfaaDoorBRf
namespace Go.Proofs.YtcogmabjnkjdfaaDoor.X
open Go.RowKit Go.Proofs.YtcogmabjnkjdfaaDoor.Z
set_option linter.unusedVariables false
theorem of_w0 {w : World} {v0 v1 : Value} {n k : Nat} (h0 : (isN n k) w v0) (h1 : (isE (.bool false)) w v1)  : Calls Tryd.prog 62 #[v0, v1] w (Ret w fun v w' => (isW (signed n false) k) w' v) := by
  exact fx [] Tryd.func62 (fun _ => []) [(0, .O (.N n k)), (1, .E (.bool false))] (.s (.O (.W (signed n false) k))) ⟨h0, h1, trivial⟩ ((false = true → n ≠ 0) ∧ (tK (.O (.W (signed n false) k)) (.O (.W (signed n false) k)))) ⟨(fun h => by cases h), (fun _ _ _ _ _ h => h)⟩
noncomputable def ctb1 : List (Ct dk) := [
  ct1 76 0 en76 vN (fun x => .s (.E (.bool (x.1 == 0)))) (fun x => []) fun _ p _ _  h1 => zero_n h1]
theorem of_w1 {w : World} {v0 v1 : Value} {n k : Nat} (h0 : (isN n k) w v0) (h1 : (isE (.bool true)) w v1) (hn : n = 0) : Calls Tryd.prog 62 #[v0, v1] w (Ret w fun v w' => (isW (signed n false) k) w' v) := by
  exact fx ctb1 Tryd.func62 (fun ι => if ι = 1 then [(5, 0, some (.s (.E (.bool false))))] else []) [(0, .O (.N n k)), (1, .E (.bool true))] (.s (.O (.W (signed n false) k))) ⟨h0, h1, trivial⟩ (((!(n == 0)) = false) ∧ (false = true → n ≠ 0) ∧ (tK (.O (.W (signed n false) k)) (.O (.W (signed n false) k)))) ⟨(by simp [hn]), (fun h => by cases h), (fun _ _ _ _ _ h => h)⟩
theorem of_w2 {w : World} {v0 v1 : Value} {n k : Nat} (h0 : (isN n k) w v0) (h1 : (isE (.bool true)) w v1) (hn : n ≠ 0) : Calls Tryd.prog 62 #[v0, v1] w (Ret w fun v w' => (isW (signed n true) k) w' v) := by
  exact fx ctb1 Tryd.func62 (fun ι => if ι = 1 then [(5, 0, some (.s (.E (.bool true))))] else []) [(0, .O (.N n k)), (1, .E (.bool true))] (.s (.O (.W (signed n true) k))) ⟨h0, h1, trivial⟩ (((!(n == 0)) = true) ∧ (true = true → n ≠ 0) ∧ (tK (.O (.W (signed n true) k)) (.O (.W (signed n true) k)))) ⟨(by simp [hn]), (fun _ => hn), (fun _ _ _ _ _ h => h)⟩
theorem of_w {w : World} {v : Value} {n k : Nat} {b : Bool} (h : IsN w v n k) : Calls Tryd.prog 62 #[v, .bool b] w (Ret w fun v' w' => IsW w' v' (signed n b) k) := by
  cases b with
  | false => exact of_w0 h rfl
  | true =>
    by_cases hn : n = 0
    · have := of_w1 h rfl hn
      subst hn
      exact this
    · exact of_w2 h rfl hn
theorem sign_w {w : World} {v0 : Value} {z : Int} {k : Nat} (h0 : (isW z k) w v0)  : Calls Tryd.prog 63 #[v0] w (Ret w fun v w' => (isE (.int .i64 (Int.sign z))) w' v) := by
  exact fx ctb1 Tryd.func63 (fun _ => []) [(0, .O (.W z k))] (.s (.E (.int .i64 (Int.sign z)))) ⟨h0, trivial⟩ (cnd (((Int.natAbs z) == 0)) (tI 0 (Int.sign z)) (cnd ((decide (z < 0))) (tI (-1) (Int.sign z)) (tI 1 (Int.sign z)))) ((Classical.em (z = 0)).elim (fun h1 => cnd_t (by simp [h1]) ⟨rfl, (by rw [show z = 0 by omega]; rfl)⟩) (fun h1 => cnd_f (by simp [h1]) ((Classical.em (z < 0)).elim (fun h2 => cnd_t (decide_eq_true h2) ⟨rfl, (by rw [sign_lt h2])⟩) (fun h2 => cnd_f (decide_eq_false h2) ⟨rfl, (by rw [sign_gt (by omega)])⟩))))
theorem ofV0 {w : World} {v0 v1 : Value} {n k : Nat} (h0 : (isD n k) w v0) (h1 : (isE (.bool false)) w v1)  : Calls Tryd.prog 39 #[v0, v1] w (Ret w fun v w' => (isV (signed n false) k) w' v) := by
  exact fx ctb1 Tryd.func39 (fun _ => []) [(0, .O (.D n k)), (1, .E (.bool false))] (.s (.O (.V (signed n false) k))) ⟨h0, h1, trivial⟩ ((false = true → n ≠ 0) ∧ (tK (.O (.V (signed n false) k)) (.O (.V (signed n false) k)))) ⟨(fun h => by cases h), (fun _ _ _ _ _ h => h)⟩
theorem ofV1 {w : World} {v0 v1 : Value} {n k : Nat} (h0 : (isD n k) w v0) (h1 : (isE (.bool true)) w v1) (hn : n = 0) : Calls Tryd.prog 39 #[v0, v1] w (Ret w fun v w' => (isV (signed n false) k) w' v) := by
  exact fx ctb1 Tryd.func39 (fun ι => if ι = 1 then [(5, 0, some (.s (.E (.bool false))))] else []) [(0, .O (.D n k)), (1, .E (.bool true))] (.s (.O (.V (signed n false) k))) ⟨h0, h1, trivial⟩ (((decide ((0 : Int) < ((Dx.len n : Nat) : Int))) = false) ∧ (false = true → n ≠ 0) ∧ (tK (.O (.V (signed n false) k)) (.O (.V (signed n false) k)))) ⟨(decide_eq_false (by rw [hn]; decide)), (fun h => by cases h), (fun _ _ _ _ _ h => h)⟩
theorem ofV2 {w : World} {v0 v1 : Value} {n k : Nat} (h0 : (isD n k) w v0) (h1 : (isE (.bool true)) w v1) (hn : n ≠ 0) : Calls Tryd.prog 39 #[v0, v1] w (Ret w fun v w' => (isV (signed n true) k) w' v) := by
  exact fx ctb1 Tryd.func39 (fun ι => if ι = 1 then [(5, 0, some (.s (.E (.bool true))))] else []) [(0, .O (.D n k)), (1, .E (.bool true))] (.s (.O (.V (signed n true) k))) ⟨h0, h1, trivial⟩ (((decide ((0 : Int) < ((Dx.len n : Nat) : Int))) = true) ∧ (true = true → n ≠ 0) ∧ (tK (.O (.V (signed n true) k)) (.O (.V (signed n true) k)))) ⟨(decide_eq_true (by have := dlen_nz hn; omega)), (fun _ => hn), (fun _ _ _ _ _ h => h)⟩
theorem ofV_any {w : World} {v : Value} {n k : Nat} {b : Bool} (h : IsD w v n k) : Calls Tryd.prog 39 #[v, .bool b] w (Ret w fun v' w' => IsV w' v' (signed n b) k) := by
  cases b with
  | false => exact ofV0 h rfl
  | true =>
    by_cases hn : n = 0
    · have := ofV1 h rfl hn
      subst hn
      exact this
    · exact ofV2 h rfl hn
end Go.Proofs.YtcogmabjnkjdfaaDoor.X
