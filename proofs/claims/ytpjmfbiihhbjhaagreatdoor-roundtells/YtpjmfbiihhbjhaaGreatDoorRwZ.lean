/- The reference of layer 4. Written by a script (tools/laws). -/
import Derived.Test.YtpjmfbiihhbjhaaGreatDoorWhZ
import Derived.Test.YtpjmfbiihhbjhaaGreatDoorRefG
import Derived.Test.YtpjmfbiihhbjhaaGreatDoorRefP
namespace Go.Proofs.YtpjmfbiihhbjhaaGreatDoor.Z
open Go.RowKit Go.Proofs.YtpjmfbiihhbjhaaGreatDoor.Rg
set_option linter.unusedVariables false
set_option maxRecDepth 100000 in
set_option maxHeartbeats 4000000 in
theorem ofV0 {w : World} {v0 v1 : Value} {n k : Nat} (h0 : (isD n k) w v0) (h1 : (isE (.bool false)) w v1)  : Calls Tryz.prog 32 #[v0, v1] w (Ret w fun v w' => (isV (signed n false) k) w' v) := by
  refine start (n := 13) (id := 0) (ops := regionOps Tryz.f32 0) (c := (.seq (.region 1 (regionOps Tryz.f32 1) false) .ret)) Tryz.func32 [(0, kD n k), (1, .E (.bool false))] [.al 4 33] [⟨4, 33, .X⟩] [(0, kD n k), (1, .E (.bool false))] ⟨⟨by simp, h0⟩, ⟨by simp, h1⟩, trivial⟩ ?_
  intro kf ac w hS
  refine R mo hS ⟨[], [(8, 4, 12, 33)]⟩ [(5, kD n k), (6, .E (.bool false)), (7, .E (.bool false)), (8, .E undef), (9, .E undef), (10, .E undef), (11, .E (.bool false)), (12, kV (signed n false) k)] [] [⟨4, 33, kV (signed n false) k⟩] [(0, kD n k), (1, .E (.bool false))] 9 ⟨sn (mv 5 (aO 0)), sn (mv 6 (aO 1)), sn (mv 7 (aT 6)), sz 2 7 8 true, sz 2 7 9 true, sz 2 7 10 true, sn (pF 11 (aT 7) (.tmp 10) (aC (.bool false))), sn (ofOwes (buildV2 (d := 12) (aT 5) (aT 11) (fun h => by cases h) (fun _ _ h => h))), ss, trivial⟩ fun kf ac w hS => ?_
  exact wp_ret (rc 4 hS fun v h => ⟨v, rfl, h, hS.grow⟩)
set_option maxRecDepth 100000 in
set_option maxHeartbeats 4000000 in
theorem ofV1 {w : World} {v0 v1 : Value} {n k : Nat} (h0 : (isD n k) w v0) (h1 : (isE (.bool true)) w v1) (hn : n = 0) : Calls Tryz.prog 32 #[v0, v1] w (Ret w fun v w' => (isV (signed n false) k) w' v) := by
  refine start (n := 13) (id := 0) (ops := regionOps Tryz.f32 0) (c := (.seq (.region 1 (regionOps Tryz.f32 1) false) .ret)) Tryz.func32 [(0, kD n k), (1, .E (.bool true))] [.al 4 33] [⟨4, 33, .X⟩] [(0, kD n k), (1, .E (.bool true))] ⟨⟨by simp, h0⟩, ⟨by simp, h1⟩, trivial⟩ ?_
  intro kf ac w hS
  refine R mo hS ⟨[], [(8, 4, 12, 33)]⟩ [(5, kD n k), (6, .E (.bool true)), (7, .E (.bool true)), (8, kD n k), (9, .E (.int .i64 ((Dx.len n : Nat) : Int))), (10, .E (.bool false)), (11, .E (.bool false)), (12, kV (signed n false) k)] [] [⟨4, 33, kV (signed n false) k⟩] [(0, kD n k), (1, .E (.bool true))] 9 ⟨sn (mv 5 (aO 0)), sn (mv 6 (aO 1)), sn (mv 7 (aT 6)), sg 2 7 true (mv 8 (aO 0)), sg 2 7 true (ofOwes (lenD (d := 9) (aT 8) rfl (fun _ _ h => h))), sg 2 7 true (bGt (b := false) 10 (aT 9) (aC (.int .i64 0)) (decide_eq_false (by rw [hn]; decide))), sn (pT 11 (aT 7) (aT 10) (.const (.bool false))), sn (ofOwes (buildV2 (d := 12) (aT 5) (aT 11) (fun h => by cases h) (fun _ _ h => h))), ss, trivial⟩ fun kf ac w hS => ?_
  exact wp_ret (rc 4 hS fun v h => ⟨v, rfl, h, hS.grow⟩)
set_option maxRecDepth 100000 in
set_option maxHeartbeats 4000000 in
theorem ofV2 {w : World} {v0 v1 : Value} {n k : Nat} (h0 : (isD n k) w v0) (h1 : (isE (.bool true)) w v1) (hn : n ≠ 0) : Calls Tryz.prog 32 #[v0, v1] w (Ret w fun v w' => (isV (signed n true) k) w' v) := by
  refine start (n := 13) (id := 0) (ops := regionOps Tryz.f32 0) (c := (.seq (.region 1 (regionOps Tryz.f32 1) false) .ret)) Tryz.func32 [(0, kD n k), (1, .E (.bool true))] [.al 4 33] [⟨4, 33, .X⟩] [(0, kD n k), (1, .E (.bool true))] ⟨⟨by simp, h0⟩, ⟨by simp, h1⟩, trivial⟩ ?_
  intro kf ac w hS
  refine R mo hS ⟨[], [(8, 4, 12, 33)]⟩ [(5, kD n k), (6, .E (.bool true)), (7, .E (.bool true)), (8, kD n k), (9, .E (.int .i64 ((Dx.len n : Nat) : Int))), (10, .E (.bool true)), (11, .E (.bool true)), (12, kV (signed n true) k)] [] [⟨4, 33, kV (signed n true) k⟩] [(0, kD n k), (1, .E (.bool true))] 9 ⟨sn (mv 5 (aO 0)), sn (mv 6 (aO 1)), sn (mv 7 (aT 6)), sg 2 7 true (mv 8 (aO 0)), sg 2 7 true (ofOwes (lenD (d := 9) (aT 8) rfl (fun _ _ h => h))), sg 2 7 true (bGt (b := true) 10 (aT 9) (aC (.int .i64 0)) (decide_eq_true (by have := dlen_nz hn; omega))), sn (pT 11 (aT 7) (aT 10) (.const (.bool false))), sn (ofOwes (buildV2 (d := 12) (aT 5) (aT 11) (fun _ => hn) (fun _ _ h => h))), ss, trivial⟩ fun kf ac w hS => ?_
  exact wp_ret (rc 4 hS fun v h => ⟨v, rfl, h, hS.grow⟩)
theorem ofV_any {w : World} {v : Value} {n k : Nat} {b : Bool} (h : IsD w v n k) : Calls Tryz.prog 32 #[v, .bool b] w (Ret w fun v' w' => IsV w' v' (signed n b) k) := by
  cases b with
  | false => exact ofV0 h rfl
  | true =>
    by_cases hn : n = 0
    · have := ofV1 h rfl hn
      subst hn
      exact this
    · exact ofV2 h rfl hn
set_option maxRecDepth 100000 in
set_option maxHeartbeats 4000000 in
theorem mulV {w : World} {v0 v1 : Value} {x y : Int} {k j : Nat} (h0 : (isV x k) w v0) (h1 : (isV y j) w v1) (hk : k ≤ 4294967296) (hj : j ≤ 4294967296) : Calls Tryz.prog 82 #[v0, v1] w (Ret w fun v w' => (isV (x * y) (k + j + 1)) w' v) := by
  refine start (n := 18) (id := 0) (ops := regionOps Tryz.f82 0) (c := (.seq (.region 1 (regionOps Tryz.f82 1) false) (.seq (.region 2 (regionOps Tryz.f82 2) false) .ret))) Tryz.func82 [(0, kV x k), (1, kV y j)] [.box 2 33 0, .box 3 33 1, .al 4 33] [⟨4, 33, .X⟩, ⟨3, 33, kV y j⟩, ⟨2, 33, kV x k⟩] [(0, kV x k), (1, kV y j)] ⟨⟨by simp, h0⟩, ⟨by simp, h1⟩, trivial⟩ ?_
  intro kf ac w hS
  refine R mo hS ⟨[], []⟩ [(6, .E (.pointer (some ⟨kf 2, 0, none⟩))), (7, kD (Int.natAbs x) k), (8, .E (.pointer (some ⟨kf 3, 0, none⟩))), (9, kD (Int.natAbs y) j), (10, kD ((Int.natAbs x) * (Int.natAbs y)) (k + j + 1)), (5, kD ((Int.natAbs x) * (Int.natAbs y)) (k + j + 1))] [5] [⟨4, 33, .X⟩, ⟨3, 33, kV y j⟩, ⟨2, 33, kV x k⟩] [(0, kV x k), (1, kV y j), (5, kD ((Int.natAbs x) * (Int.natAbs y)) (k + j + 1))] 6 ⟨sn (fa 6 2 0 0 1), sn (lp 7 6 2 0 31 fldVD), sn (fa 8 3 0 0 1), sn (lp 9 8 3 0 31 fldVD), sn (c2 10 en45 (aT 7) (aT 9) (fun _ _ _ h1 h2 => refMul_any _ _ _ _ _ _ _ (by omega) (by omega) h1 h2)), sn (asg 5 (aT 10)), trivial⟩ fun kf ac w hS => ?_
  refine R mo hS ⟨[], [(7, 4, 17, 33)]⟩ [(11, kD ((Int.natAbs x) * (Int.natAbs y)) (k + j + 1)), (12, .E (.pointer (some ⟨kf 2, 1, none⟩))), (13, .E (.bool (decide (x < 0)))), (14, .E (.pointer (some ⟨kf 3, 1, none⟩))), (15, .E (.bool (decide (y < 0)))), (16, .E (.bool (!((decide (x < 0)) == (decide (y < 0)))))), (17, kV (signed ((Int.natAbs x) * (Int.natAbs y)) (!((decide (x < 0)) == (decide (y < 0))))) (k + j + 1))] [] [⟨4, 33, kV (signed ((Int.natAbs x) * (Int.natAbs y)) (!((decide (x < 0)) == (decide (y < 0))))) (k + j + 1)⟩, ⟨3, 33, kV y j⟩, ⟨2, 33, kV x k⟩] [(0, kV x k), (1, kV y j), (5, kD ((Int.natAbs x) * (Int.natAbs y)) (k + j + 1))] 8 ⟨sn (mv 11 (aO 5)), sn (fa 12 2 1 1 1), sn (lp 13 12 2 1 4 fldVB), sn (fa 14 3 1 1 1), sn (lp 15 14 3 1 4 fldVB), sn (ofOwes (neqBz (d := 16) (b := (!((decide (x < 0)) == (decide (y < 0))))) (aT 13) (aT 15) (rfl) (fun _ _ h => h))), sn (c2 17 en32 (aT 11) (aT 16) (fun _ _ _ h1 h2 => by cases h2; exact ofV_any h1)), ss, trivial⟩ fun kf ac w hS => ?_
  exact wp_ret (rc 4 hS fun v h => ⟨v, rfl, (mul_e x y ▸ h), hS.grow⟩)
set_option maxRecDepth 100000 in
set_option maxHeartbeats 4000000 in
theorem printV {w : World} {v0 : Value} {z : Int} {k : Nat} (h0 : (isV z k) w v0) (hk : k ≤ 1000000) : Calls Tryz.prog 10 #[v0] w (Ret w fun v w' => (isT (ztext z)) w' v) := by
  have hl := text_lenV h0
  refine start (n := 12) (id := 0) (ops := regionOps Tryz.f10 0) (c := (.seq (.region 1 (regionOps Tryz.f10 1) false) (.seq (.seq (.region 2 (regionOps Tryz.f10 2) false) (.cond (.tmp 8) (.seq (.region 3 (regionOps Tryz.f10 3) false) .ret) .skip)) (.seq (.region 4 (regionOps Tryz.f10 4) false) .ret)))) Tryz.func10 [(0, kV z k)] [.box 1 33 0, .cn 2 (.string (str []))] [⟨1, 33, kV z k⟩] [(2, .E (.string (str []))), (0, kV z k)] ⟨⟨by simp, h0⟩, trivial⟩ ?_
  intro kf ac w hS
  refine R mo hS ⟨[], []⟩ [(4, .E (.pointer (some ⟨kf 1, 0, none⟩))), (5, kD (Int.natAbs z) k), (6, kT (Tx.text (Int.natAbs z))), (3, kT (Tx.text (Int.natAbs z)))] [3] [⟨1, 33, kV z k⟩] [(2, .E (.string (str []))), (0, kV z k), (3, kT (Tx.text (Int.natAbs z)))] 4 ⟨sn (fa 4 1 0 0 1), sn (lp 5 4 1 0 31 fldVD), sn (c1 6 en42 (aT 5) (fun _ _ h1 => refPrint_any _ _ _ _ h1 (by omega))), sn (asg 3 (aT 6)), trivial⟩ fun kf ac w hS => ?_
  refine wp_seq ?_
  refine R mo hS ⟨[], []⟩ [(7, .E (.pointer (some ⟨kf 1, 1, none⟩))), (8, .E (.bool (decide (z < 0))))] [8] [⟨1, 33, kV z k⟩] [(2, .E (.string (str []))), (0, kV z k), (3, kT (Tx.text (Int.natAbs z))), (8, .E (.bool (decide (z < 0))))] 2 ⟨sn (fa 7 1 1 1 1), sn (lp 8 7 1 1 4 fldVB), trivial⟩ fun kf ac w hS => ?_
  by_cases h1 : z < 0
  · refine cT 8 hS ?_ (fun _ _ h => h.trans (congrArg _ (decide_eq_true h1)))
    refine R mo hS ⟨[], []⟩ [(9, kT (Tx.text (Int.natAbs z))), (10, kT ([45] ++ Tx.text (Int.natAbs z))), (2, kT ([45] ++ Tx.text (Int.natAbs z)))] [2] [⟨1, 33, kV z k⟩] [(0, kV z k), (3, kT (Tx.text (Int.natAbs z))), (8, .E (.bool (decide (z < 0)))), (2, kT ([45] ++ Tx.text (Int.natAbs z)))] 3 ⟨sn (mv 9 (aO 3)), sn (bSa 10 (aC (.string (str [45]))) (aT 9) (by simp; omega)), sn (asg 2 (aT 10)), trivial⟩ fun kf ac w hS => ?_
    exact wp_ret (rt 2 hS fun v h => ⟨v, rfl, (h.trans (by rw [ztext, if_pos h1]; rfl)), hS.grow⟩)
  · refine cF 8 hS ?_ (fun _ _ h => h.trans (congrArg _ (decide_eq_false h1)))
    refine skip_then ?_
    refine R mo hS ⟨[], []⟩ [(11, kT (Tx.text (Int.natAbs z))), (2, kT (Tx.text (Int.natAbs z)))] [2] [⟨1, 33, kV z k⟩] [(0, kV z k), (3, kT (Tx.text (Int.natAbs z))), (8, .E (.bool (decide (z < 0)))), (2, kT (Tx.text (Int.natAbs z)))] 2 ⟨sn (mv 11 (aO 3)), sn (asg 2 (aT 11)), trivial⟩ fun kf ac w hS => ?_
    exact wp_ret (rt 2 hS fun v h => ⟨v, rfl, (h.trans (by rw [ztext, if_neg h1])), hS.grow⟩)
end Go.Proofs.YtpjmfbiihhbjhaaGreatDoor.Z
