/- The reference of layer 4. Written by a script (tools/laws). -/
import Derived.Test.YtlkiikchjeapfaaDoorWhZ
import Derived.Test.YtlkiikchjeapfaaDoorRefG
import Derived.Test.YtlkiikchjeapfaaDoorRefP
namespace Go.Proofs.YtlkiikchjeapfaaDoor.Z
open Go.RowKit Go.Proofs.YtlkiikchjeapfaaDoor.Rg
set_option linter.unusedVariables false
set_option maxRecDepth 100000 in
set_option maxHeartbeats 4000000 in
theorem ofV0 {w : World} {v0 v1 : Value} {n k : Nat} (h0 : (isD n k) w v0) (h1 : (isE (.bool false)) w v1)  : Calls Tryd.prog 26 #[v0, v1] w (Ret w fun v w' => (isV (signed n false) k) w' v) := by
  refine start (n := 13) (id := 0) (ops := regionOps Tryd.f26 0) (c := (.seq (.region 1 (regionOps Tryd.f26 1) false) .ret)) Tryd.func26 [(0, kD n k), (1, .E (.bool false))] [.al 4 33] [⟨4, 33, .X⟩] [(0, kD n k), (1, .E (.bool false))] ⟨⟨by simp, h0⟩, ⟨by simp, h1⟩, trivial⟩ ?_
  intro kf ac w hS
  refine R mo hS ⟨[], [(8, 4, 12, 33)]⟩ [(5, kD n k), (6, .E (.bool false)), (7, .E (.bool false)), (8, .E undef), (9, .E undef), (10, .E undef), (11, .E (.bool false)), (12, kV (signed n false) k)] [] [⟨4, 33, kV (signed n false) k⟩] [(0, kD n k), (1, .E (.bool false))] 9 ⟨sn (mv 5 (aO 0)), sn (mv 6 (aO 1)), sn (mv 7 (aT 6)), sz 2 7 8 true, sz 2 7 9 true, sz 2 7 10 true, sn (pF 11 (aT 7) (.tmp 10) (aC (.bool false))), sn (ofOwes (buildV2 (d := 12) (aT 5) (aT 11) (fun h => by cases h) (fun _ _ h => h))), ss, trivial⟩ fun kf ac w hS => ?_
  exact wp_ret (rc 4 hS fun v h => ⟨v, rfl, h, hS.grow⟩)
set_option maxRecDepth 100000 in
set_option maxHeartbeats 4000000 in
theorem ofV1 {w : World} {v0 v1 : Value} {n k : Nat} (h0 : (isD n k) w v0) (h1 : (isE (.bool true)) w v1) (hn : n = 0) : Calls Tryd.prog 26 #[v0, v1] w (Ret w fun v w' => (isV (signed n false) k) w' v) := by
  refine start (n := 13) (id := 0) (ops := regionOps Tryd.f26 0) (c := (.seq (.region 1 (regionOps Tryd.f26 1) false) .ret)) Tryd.func26 [(0, kD n k), (1, .E (.bool true))] [.al 4 33] [⟨4, 33, .X⟩] [(0, kD n k), (1, .E (.bool true))] ⟨⟨by simp, h0⟩, ⟨by simp, h1⟩, trivial⟩ ?_
  intro kf ac w hS
  refine R mo hS ⟨[], [(8, 4, 12, 33)]⟩ [(5, kD n k), (6, .E (.bool true)), (7, .E (.bool true)), (8, kD n k), (9, .E (.int .i64 ((Dx.len n : Nat) : Int))), (10, .E (.bool false)), (11, .E (.bool false)), (12, kV (signed n false) k)] [] [⟨4, 33, kV (signed n false) k⟩] [(0, kD n k), (1, .E (.bool true))] 9 ⟨sn (mv 5 (aO 0)), sn (mv 6 (aO 1)), sn (mv 7 (aT 6)), sg 2 7 true (mv 8 (aO 0)), sg 2 7 true (ofOwes (lenD (d := 9) (aT 8) rfl (fun _ _ h => h))), sg 2 7 true (bGt (b := false) 10 (aT 9) (aC (.int .i64 0)) (decide_eq_false (by rw [hn]; decide))), sn (pT 11 (aT 7) (aT 10) (.const (.bool false))), sn (ofOwes (buildV2 (d := 12) (aT 5) (aT 11) (fun h => by cases h) (fun _ _ h => h))), ss, trivial⟩ fun kf ac w hS => ?_
  exact wp_ret (rc 4 hS fun v h => ⟨v, rfl, h, hS.grow⟩)
set_option maxRecDepth 100000 in
set_option maxHeartbeats 4000000 in
theorem ofV2 {w : World} {v0 v1 : Value} {n k : Nat} (h0 : (isD n k) w v0) (h1 : (isE (.bool true)) w v1) (hn : n ≠ 0) : Calls Tryd.prog 26 #[v0, v1] w (Ret w fun v w' => (isV (signed n true) k) w' v) := by
  refine start (n := 13) (id := 0) (ops := regionOps Tryd.f26 0) (c := (.seq (.region 1 (regionOps Tryd.f26 1) false) .ret)) Tryd.func26 [(0, kD n k), (1, .E (.bool true))] [.al 4 33] [⟨4, 33, .X⟩] [(0, kD n k), (1, .E (.bool true))] ⟨⟨by simp, h0⟩, ⟨by simp, h1⟩, trivial⟩ ?_
  intro kf ac w hS
  refine R mo hS ⟨[], [(8, 4, 12, 33)]⟩ [(5, kD n k), (6, .E (.bool true)), (7, .E (.bool true)), (8, kD n k), (9, .E (.int .i64 ((Dx.len n : Nat) : Int))), (10, .E (.bool true)), (11, .E (.bool true)), (12, kV (signed n true) k)] [] [⟨4, 33, kV (signed n true) k⟩] [(0, kD n k), (1, .E (.bool true))] 9 ⟨sn (mv 5 (aO 0)), sn (mv 6 (aO 1)), sn (mv 7 (aT 6)), sg 2 7 true (mv 8 (aO 0)), sg 2 7 true (ofOwes (lenD (d := 9) (aT 8) rfl (fun _ _ h => h))), sg 2 7 true (bGt (b := true) 10 (aT 9) (aC (.int .i64 0)) (decide_eq_true (by have := dlen_nz hn; omega))), sn (pT 11 (aT 7) (aT 10) (.const (.bool false))), sn (ofOwes (buildV2 (d := 12) (aT 5) (aT 11) (fun _ => hn) (fun _ _ h => h))), ss, trivial⟩ fun kf ac w hS => ?_
  exact wp_ret (rc 4 hS fun v h => ⟨v, rfl, h, hS.grow⟩)
theorem ofV_any {w : World} {v : Value} {n k : Nat} {b : Bool} (h : IsD w v n k) : Calls Tryd.prog 26 #[v, .bool b] w (Ret w fun v' w' => IsV w' v' (signed n b) k) := by
  cases b with
  | false => exact ofV0 h rfl
  | true =>
    by_cases hn : n = 0
    · have := ofV1 h rfl hn
      subst hn
      exact this
    · exact ofV2 h rfl hn
end Go.Proofs.YtlkiikchjeapfaaDoor.Z
