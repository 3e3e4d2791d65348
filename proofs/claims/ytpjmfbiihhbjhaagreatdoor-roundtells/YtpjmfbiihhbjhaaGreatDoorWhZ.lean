/- Package whole. Written by a script (tools/laws). -/
import Derived.Test.YtpjmfbiihhbjhaaGreatDoorEn
namespace Go.Proofs.YtpjmfbiihhbjhaaGreatDoor.Z
open Go.RowKit Go.Proofs.YtpjmfbiihhbjhaaGreatDoor.Rg
set_option linter.unusedVariables false
set_option maxRecDepth 100000 in
set_option maxHeartbeats 4000000 in
theorem of_w0 {w : World} {v0 v1 : Value} {n k : Nat} (h0 : (isN n k) w v0) (h1 : (isE (.bool false)) w v1)  : Calls Tryz.prog 24 #[v0, v1] w (Ret w fun v w' => (isW (signed n false) k) w' v) := by
  refine start (n := 13) (id := 0) (ops := regionOps Tryz.f24 0) (c := (.seq (.region 1 (regionOps Tryz.f24 1) true) .ret)) Tryz.func24 [(0, kN n k), (1, .E (.bool false))] [.box 2 26 0, .al 4 28] [⟨4, 28, .X⟩, ⟨2, 26, kN n k⟩] [(0, kN n k), (1, .E (.bool false))] ⟨⟨by simp, h0⟩, ⟨by simp, h1⟩, trivial⟩ ?_
  intro kf ac w hS
  refine R mo hS ⟨[], [(8, 4, 12, 28)]⟩ [(5, kN n k), (6, .E (.bool false)), (7, .E (.bool false)), (8, .E undef), (9, .E undef), (10, .E undef), (11, .E (.bool false)), (12, kW (signed n false) k)] [] [⟨4, 28, kW (signed n false) k⟩, ⟨2, 26, kN n k⟩] [(0, kN n k), (1, .E (.bool false))] 9 ⟨sn (ld 5 2), sn (mv 6 (aO 1)), sn (mv 7 (aT 6)), sz 2 7 8 true, sz 2 7 9 true, sz 2 7 10 true, sn (pF 11 (aT 7) (.tmp 10) (aC (.bool false))), sn (ofOwes (buildW2 (d := 12) (aT 5) (aT 11) (fun h => by cases h) (fun _ _ h => h))), ss, trivial⟩ fun kf ac w hS => ?_
  exact wp_ret (rc 4 hS fun v h => ⟨v, rfl, h, hS.grow⟩)
set_option maxRecDepth 100000 in
set_option maxHeartbeats 4000000 in
theorem of_w1 {w : World} {v0 v1 : Value} {n k : Nat} (h0 : (isN n k) w v0) (h1 : (isE (.bool true)) w v1) (hn : n = 0) : Calls Tryz.prog 24 #[v0, v1] w (Ret w fun v w' => (isW (signed n false) k) w' v) := by
  refine start (n := 13) (id := 0) (ops := regionOps Tryz.f24 0) (c := (.seq (.region 1 (regionOps Tryz.f24 1) true) .ret)) Tryz.func24 [(0, kN n k), (1, .E (.bool true))] [.box 2 26 0, .al 4 28] [⟨4, 28, .X⟩, ⟨2, 26, kN n k⟩] [(0, kN n k), (1, .E (.bool true))] ⟨⟨by simp, h0⟩, ⟨by simp, h1⟩, trivial⟩ ?_
  intro kf ac w hS
  refine R mo hS ⟨[], [(8, 4, 12, 28)]⟩ [(5, kN n k), (6, .E (.bool true)), (7, .E (.bool true)), (8, kN n k), (9, .E (.bool (n == 0))), (10, .E (.bool false)), (11, .E (.bool false)), (12, kW (signed n false) k)] [] [⟨4, 28, kW (signed n false) k⟩, ⟨2, 26, kN n k⟩] [(0, kN n k), (1, .E (.bool true))] 9 ⟨sn (ld 5 2), sn (mv 6 (aO 1)), sn (mv 7 (aT 6)), sg 2 7 true (ld 8 2), sg 2 7 true (c1 9 en29 (aT 8) (fun _ _ h1 => zero_n h1)), sg 2 7 true (uN 10 (aT 9) (fun _ _ h => h.trans (congrArg Value.bool (by simp [hn])))), sn (pT 11 (aT 7) (aT 10) (.const (.bool false))), sn (ofOwes (buildW2 (d := 12) (aT 5) (aT 11) (fun h => by cases h) (fun _ _ h => h))), ss, trivial⟩ fun kf ac w hS => ?_
  exact wp_ret (rc 4 hS fun v h => ⟨v, rfl, h, hS.grow⟩)
set_option maxRecDepth 100000 in
set_option maxHeartbeats 4000000 in
theorem of_w2 {w : World} {v0 v1 : Value} {n k : Nat} (h0 : (isN n k) w v0) (h1 : (isE (.bool true)) w v1) (hn : n ≠ 0) : Calls Tryz.prog 24 #[v0, v1] w (Ret w fun v w' => (isW (signed n true) k) w' v) := by
  refine start (n := 13) (id := 0) (ops := regionOps Tryz.f24 0) (c := (.seq (.region 1 (regionOps Tryz.f24 1) true) .ret)) Tryz.func24 [(0, kN n k), (1, .E (.bool true))] [.box 2 26 0, .al 4 28] [⟨4, 28, .X⟩, ⟨2, 26, kN n k⟩] [(0, kN n k), (1, .E (.bool true))] ⟨⟨by simp, h0⟩, ⟨by simp, h1⟩, trivial⟩ ?_
  intro kf ac w hS
  refine R mo hS ⟨[], [(8, 4, 12, 28)]⟩ [(5, kN n k), (6, .E (.bool true)), (7, .E (.bool true)), (8, kN n k), (9, .E (.bool (n == 0))), (10, .E (.bool true)), (11, .E (.bool true)), (12, kW (signed n true) k)] [] [⟨4, 28, kW (signed n true) k⟩, ⟨2, 26, kN n k⟩] [(0, kN n k), (1, .E (.bool true))] 9 ⟨sn (ld 5 2), sn (mv 6 (aO 1)), sn (mv 7 (aT 6)), sg 2 7 true (ld 8 2), sg 2 7 true (c1 9 en29 (aT 8) (fun _ _ h1 => zero_n h1)), sg 2 7 true (uN 10 (aT 9) (fun _ _ h => h.trans (congrArg Value.bool (by simp [hn])))), sn (pT 11 (aT 7) (aT 10) (.const (.bool false))), sn (ofOwes (buildW2 (d := 12) (aT 5) (aT 11) (fun _ => hn) (fun _ _ h => h))), ss, trivial⟩ fun kf ac w hS => ?_
  exact wp_ret (rc 4 hS fun v h => ⟨v, rfl, h, hS.grow⟩)
theorem of_w {w : World} {v : Value} {n k : Nat} {b : Bool} (h : IsN w v n k) : Calls Tryz.prog 24 #[v, .bool b] w (Ret w fun v' w' => IsW w' v' (signed n b) k) := by
  cases b with
  | false => exact of_w0 h rfl
  | true =>
    by_cases hn : n = 0
    · have := of_w1 h rfl hn
      subst hn
      exact this
    · exact of_w2 h rfl hn
set_option maxRecDepth 100000 in
set_option maxHeartbeats 4000000 in
theorem abs_w {w : World} {v0 : Value} {z : Int} {k : Nat} (h0 : (isW z k) w v0)  : Calls Tryz.prog 25 #[v0] w (Ret w fun v w' => (isN (Int.natAbs z) k) w' v) := by
  refine start (n := 5) (id := 0) (ops := regionOps Tryz.f25 0) (c := (.seq (.region 1 (regionOps Tryz.f25 1) false) .ret)) Tryz.func25 [(0, kW z k)] [.box 1 28 0, .al 2 26] [⟨2, 26, .X⟩, ⟨1, 28, kW z k⟩] [(0, kW z k)] ⟨⟨by simp, h0⟩, trivial⟩ ?_
  intro kf ac w hS
  refine R mo hS ⟨[], [(2, 2, 4, 26)]⟩ [(3, .E (.pointer (some ⟨kf 1, 0, none⟩))), (4, kN (Int.natAbs z) k)] [] [⟨2, 26, kN (Int.natAbs z) k⟩, ⟨1, 28, kW z k⟩] [(0, kW z k)] 3 ⟨sn (fa 3 1 0 0 1), sn (lf 4 3 1 0 1 26 fldWN), ss, trivial⟩ fun kf ac w hS => ?_
  exact wp_ret (rc 2 hS fun v h => ⟨v, rfl, h, hS.grow⟩)
set_option maxRecDepth 100000 in
set_option maxHeartbeats 4000000 in
theorem sign_w {w : World} {v0 : Value} {z : Int} {k : Nat} (h0 : (isW z k) w v0)  : Calls Tryz.prog 8 #[v0] w (Ret w fun v w' => (isE (.int .i64 (Int.sign z))) w' v) := by
  refine start (n := 8) (id := 0) (ops := regionOps Tryz.f8 0) (c := (.seq (.seq (.region 1 (regionOps Tryz.f8 1) false) (.cond (.tmp 5) (.seq (.region 2 (regionOps Tryz.f8 2) false) .ret) .skip)) (.seq (.seq (.region 3 (regionOps Tryz.f8 3) false) (.cond (.tmp 7) (.seq (.region 4 (regionOps Tryz.f8 4) false) .ret) .skip)) (.seq (.region 5 (regionOps Tryz.f8 5) false) .ret)))) Tryz.func8 [(0, kW z k)] [.box 1 28 0, .cn 2 (.int .i64 0)] [⟨1, 28, kW z k⟩] [(2, .E (.int .i64 0)), (0, kW z k)] ⟨⟨by simp, h0⟩, trivial⟩ ?_
  intro kf ac w hS
  refine wp_seq ?_
  refine R mo hS ⟨[], []⟩ [(3, .E (.pointer (some ⟨kf 1, 0, none⟩))), (4, kN (Int.natAbs z) k), (5, .E (.bool ((Int.natAbs z) == 0)))] [5] [⟨1, 28, kW z k⟩] [(2, .E (.int .i64 0)), (0, kW z k), (5, .E (.bool ((Int.natAbs z) == 0)))] 3 ⟨sn (fa 3 1 0 0 1), sn (lf 4 3 1 0 1 26 fldWN), sn (c1 5 en29 (aT 4) (fun _ _ h1 => zero_n h1)), trivial⟩ fun kf ac w hS => ?_
  by_cases h1 : z = 0
  · refine cT 5 hS ?_ (fun _ _ h => h.trans (congrArg _ (by simp [h1])))
    refine R mo hS ⟨[], []⟩ [(2, .E (.int .i64 0))] [2] [⟨1, 28, kW z k⟩] [(0, kW z k), (5, .E (.bool ((Int.natAbs z) == 0))), (2, .E (.int .i64 0))] 1 ⟨sn (asg 2 (aC (.int .i64 0))), trivial⟩ fun kf ac w hS => ?_
    exact wp_ret (rt 2 hS fun v h => ⟨v, rfl, (h.trans (by rw [show z = 0 by omega]; rfl)), hS.grow⟩)
  · refine cF 5 hS ?_ (fun _ _ h => h.trans (congrArg _ (by simp [h1])))
    refine skip_then ?_
    refine wp_seq ?_
    refine R mo hS ⟨[], []⟩ [(6, .E (.pointer (some ⟨kf 1, 1, none⟩))), (7, .E (.bool (decide (z < 0))))] [7] [⟨1, 28, kW z k⟩] [(2, .E (.int .i64 0)), (0, kW z k), (5, .E (.bool ((Int.natAbs z) == 0))), (7, .E (.bool (decide (z < 0))))] 2 ⟨sn (fa 6 1 1 1 1), sn (lp 7 6 1 1 4 fldWB), trivial⟩ fun kf ac w hS => ?_
    by_cases h2 : z < 0
    · refine cT 7 hS ?_ (fun _ _ h => h.trans (congrArg _ (decide_eq_true h2)))
      refine R mo hS ⟨[], []⟩ [(2, .E (.int .i64 (-1)))] [2] [⟨1, 28, kW z k⟩] [(0, kW z k), (5, .E (.bool ((Int.natAbs z) == 0))), (7, .E (.bool (decide (z < 0)))), (2, .E (.int .i64 (-1)))] 1 ⟨sn (asg 2 (aC (.int .i64 (-1)))), trivial⟩ fun kf ac w hS => ?_
      exact wp_ret (rt 2 hS fun v h => ⟨v, rfl, (h.trans (by rw [sign_lt h2])), hS.grow⟩)
    · refine cF 7 hS ?_ (fun _ _ h => h.trans (congrArg _ (decide_eq_false h2)))
      refine skip_then ?_
      refine R mo hS ⟨[], []⟩ [(2, .E (.int .i64 1))] [2] [⟨1, 28, kW z k⟩] [(0, kW z k), (5, .E (.bool ((Int.natAbs z) == 0))), (7, .E (.bool (decide (z < 0)))), (2, .E (.int .i64 1))] 1 ⟨sn (asg 2 (aC (.int .i64 1))), trivial⟩ fun kf ac w hS => ?_
      exact wp_ret (rt 2 hS fun v h => ⟨v, rfl, (h.trans (by rw [sign_gt (by omega)])), hS.grow⟩)
set_option maxRecDepth 100000 in
set_option maxHeartbeats 4000000 in
theorem neg_w {w : World} {v0 : Value} {z : Int} {k : Nat} (h0 : (isW z k) w v0)  : Calls Tryz.prog 23 #[v0] w (Ret w fun v w' => (isW (-z) k) w' v) := by
  refine start (n := 9) (id := 0) (ops := regionOps Tryz.f23 0) (c := (.seq (.region 1 (regionOps Tryz.f23 1) false) .ret)) Tryz.func23 [(0, kW z k)] [.box 1 28 0, .al 2 28] [⟨2, 28, .X⟩, ⟨1, 28, kW z k⟩] [(0, kW z k)] ⟨⟨by simp, h0⟩, trivial⟩ ?_
  intro kf ac w hS
  refine R mo hS ⟨[], [(6, 2, 8, 28)]⟩ [(3, .E (.pointer (some ⟨kf 1, 0, none⟩))), (4, kN (Int.natAbs z) k), (5, .E (.pointer (some ⟨kf 1, 1, none⟩))), (6, .E (.bool (decide (z < 0)))), (7, .E (.bool (!(decide (z < 0))))), (8, kW (signed (Int.natAbs z) (!(decide (z < 0)))) k)] [] [⟨2, 28, kW (signed (Int.natAbs z) (!(decide (z < 0)))) k⟩, ⟨1, 28, kW z k⟩] [(0, kW z k)] 7 ⟨sn (fa 3 1 0 0 1), sn (lf 4 3 1 0 1 26 fldWN), sn (fa 5 1 1 1 1), sn (lp 6 5 1 1 4 fldWB), sn (uN 7 (aT 6)), sn (c2 8 en24 (aT 4) (aT 7) (fun _ _ _ h1 h2 => by cases h2; exact of_w h1)), ss, trivial⟩ fun kf ac w hS => ?_
  exact wp_ret (rc 2 hS fun v h => ⟨v, rfl, (neg_dec z ▸ h), hS.grow⟩)
set_option maxRecDepth 100000 in
set_option maxHeartbeats 4000000 in
theorem from_w1 {w : World} {v0 : Value} {n : Int} (h0 : (isE (.int .i64 n)) w v0) (hn1 : -9223372036854775808 ≤ n) (hn : n < 0) : Calls Tryz.prog 15 #[v0] w (Ret w fun v w' => (isW n 1) w' v) := by
  have hB : n.natAbs < Mx.B := by rw [Mx.B_eq]; omega
  refine start (n := 16) (id := 0) (ops := regionOps Tryz.f15 0) (c := (.seq (.seq (.region 1 (regionOps Tryz.f15 1) false) (.cond (.tmp 4) (.seq (.region 2 (regionOps Tryz.f15 2) false) .ret) .skip)) (.seq (.region 3 (regionOps Tryz.f15 3) false) .ret))) Tryz.func15 [(0, .E (.int .i64 n))] [.al 2 28] [⟨2, 28, .X⟩] [(0, .E (.int .i64 n))] ⟨⟨by simp, h0⟩, trivial⟩ ?_
  intro kf ac w hS
  refine wp_seq ?_
  refine R mo hS ⟨[], []⟩ [(3, .E (.int .i64 n)), (4, .E (.bool (decide ((n : Int) < 0))))] [4] [⟨2, 28, .X⟩] [(0, .E (.int .i64 n)), (4, .E (.bool (decide ((n : Int) < 0))))] 2 ⟨sn (mv 3 (aO 0)), sn (bLt 4 (aT 3) (aC (.int .i64 0)) rfl), trivial⟩ fun kf ac w hS => ?_
  refine cT 4 hS ?_ (fun _ _ h => h.trans (congrArg _ (decide_eq_true hn)))
  refine R mo hS ⟨[], [(6, 2, 10, 28)]⟩ [(5, .E (.int .i64 n)), (6, .E (.int .u64 (18446744073709551616 + n))), (7, .E (.int .u64 ((n.natAbs : Nat) : Int))), (8, kS [n.natAbs]), (9, kN n.natAbs 1), (10, kW (signed n.natAbs true) 1)] [] [⟨2, 28, kW (signed n.natAbs true) 1⟩] [(0, .E (.int .i64 n)), (4, .E (.bool (decide ((n : Int) < 0))))] 7 ⟨sn (mv 5 (aO 0)), sn (ofOwes (cvU (d := 6) (r := 18446744073709551616 + n) (aT 5) (by rw [u64_wrap]; omega) (fun _ _ h => h))), sn (uM (r := ((n.natAbs : Nat) : Int)) 7 (aT 6) (by rw [u64_wrap]; omega)), sn (ofOwes (buildOneT (d := 8) (x := n.natAbs) (aT 7) hB (fun _ _ h => h))), sn (c1 9 en28 (aT 8) (fun _ _ h1 => of_one h1)), sn (c2 10 en24 (aT 9) (aC (.bool true)) (fun _ _ _ h1 h2 => by cases h2; exact of_w h1)), ss, trivial⟩ fun kf ac w hS => ?_
  exact wp_ret (rc 2 hS fun v h => ⟨v, rfl, (from_s1 hn ▸ h), hS.grow⟩)
set_option maxRecDepth 100000 in
set_option maxHeartbeats 4000000 in
theorem from_w2 {w : World} {v0 : Value} {n : Int} (h0 : (isE (.int .i64 n)) w v0) (hn1 : n ≤ 9223372036854775807) (hn : ¬ n < 0) : Calls Tryz.prog 15 #[v0] w (Ret w fun v w' => (isW n 1) w' v) := by
  have hB : n.natAbs < Mx.B := by rw [Mx.B_eq]; omega
  refine start (n := 16) (id := 0) (ops := regionOps Tryz.f15 0) (c := (.seq (.seq (.region 1 (regionOps Tryz.f15 1) false) (.cond (.tmp 4) (.seq (.region 2 (regionOps Tryz.f15 2) false) .ret) .skip)) (.seq (.region 3 (regionOps Tryz.f15 3) false) .ret))) Tryz.func15 [(0, .E (.int .i64 n))] [.al 2 28] [⟨2, 28, .X⟩] [(0, .E (.int .i64 n))] ⟨⟨by simp, h0⟩, trivial⟩ ?_
  intro kf ac w hS
  refine wp_seq ?_
  refine R mo hS ⟨[], []⟩ [(3, .E (.int .i64 n)), (4, .E (.bool (decide ((n : Int) < 0))))] [4] [⟨2, 28, .X⟩] [(0, .E (.int .i64 n)), (4, .E (.bool (decide ((n : Int) < 0))))] 2 ⟨sn (mv 3 (aO 0)), sn (bLt 4 (aT 3) (aC (.int .i64 0)) rfl), trivial⟩ fun kf ac w hS => ?_
  refine cF 4 hS ?_ (fun _ _ h => h.trans (congrArg _ (decide_eq_false hn)))
  refine skip_then ?_
  refine R mo hS ⟨[], [(5, 2, 15, 28)]⟩ [(11, .E (.int .i64 n)), (12, .E (.int .u64 ((n.natAbs : Nat) : Int))), (13, kS [n.natAbs]), (14, kN n.natAbs 1), (15, kW (signed n.natAbs false) 1)] [] [⟨2, 28, kW (signed n.natAbs false) 1⟩] [(0, .E (.int .i64 n)), (4, .E (.bool (decide ((n : Int) < 0))))] 6 ⟨sn (mv 11 (aO 0)), sn (ofOwes (cvU (d := 12) (r := ((n.natAbs : Nat) : Int)) (aT 11) (by rw [u64_wrap]; omega) (fun _ _ h => h))), sn (ofOwes (buildOneT (d := 13) (x := n.natAbs) (aT 12) hB (fun _ _ h => h))), sn (c1 14 en28 (aT 13) (fun _ _ h1 => of_one h1)), sn (c2 15 en24 (aT 14) (aC (.bool false)) (fun _ _ _ h1 h2 => by cases h2; exact of_w h1)), ss, trivial⟩ fun kf ac w hS => ?_
  exact wp_ret (rc 2 hS fun v h => ⟨v, rfl, (from_s2 hn ▸ h), hS.grow⟩)
theorem from_w (w : World) (n : Int) (h1 : -9223372036854775808 ≤ n) (h2 : n ≤ 9223372036854775807) : Calls Tryz.prog 15 #[.int .i64 n] w (Ret w fun v' w' => IsW w' v' n 1) := by
  by_cases hn : n < 0
  · exact from_w1 rfl h1 hn
  · exact from_w2 rfl h2 hn
set_option maxRecDepth 100000 in
set_option maxHeartbeats 4000000 in
theorem cmp_w {w : World} {v0 v1 : Value} {x y : Int} {k j : Nat} (h0 : (isW x k) w v0) (h1 : (isW y j) w v1) (hk : k ≤ 4294967296) (hj : j ≤ 4294967296) : Calls Tryz.prog 22 #[v0, v1] w (Ret w fun v w' => (isE (.int .i64 (Int.sign (x - y)))) w' v) := by
  refine start (n := 26) (id := 0) (ops := regionOps Tryz.f22 0) (c := (.seq (.seq (.region 1 (regionOps Tryz.f22 1) true) (.seq (.region 2 (regionOps Tryz.f22 2) false) (.cond (.tmp 12) (.seq (.region 3 (regionOps Tryz.f22 3) false) .ret) .skip))) (.seq (.seq (.region 4 (regionOps Tryz.f22 4) false) (.cond (.tmp 15) (.seq (.region 5 (regionOps Tryz.f22 5) false) .ret) .skip)) (.seq (.region 6 (regionOps Tryz.f22 6) false) .ret)))) Tryz.func22 [(0, kW x k), (1, kW y j)] [.box 2 28 0, .box 3 28 1, .cn 4 (.int .i64 0)] [⟨3, 28, kW y j⟩, ⟨2, 28, kW x k⟩] [(4, .E (.int .i64 0)), (0, kW x k), (1, kW y j)] ⟨⟨by simp, h0⟩, ⟨by simp, h1⟩, trivial⟩ ?_
  intro kf ac w hS
  refine wp_seq ?_
  refine R mo hS ⟨[], []⟩ [(6, kW x k), (7, .E (.int .i64 (Int.sign x))), (8, kW y j), (9, .E (.int .i64 (Int.sign y))), (10, .E (.int .i64 (Int.sign ((Int.sign x) - (Int.sign y))))), (5, .E (.int .i64 (Int.sign ((Int.sign x) - (Int.sign y)))))] [5] [⟨3, 28, kW y j⟩, ⟨2, 28, kW x k⟩] [(4, .E (.int .i64 0)), (0, kW x k), (1, kW y j), (5, .E (.int .i64 (Int.sign ((Int.sign x) - (Int.sign y)))))] 6 ⟨sn (ld 6 2), sn (c1 7 en8 (aT 6) (fun _ _ h1 => sign_w h1)), sn (ld 8 3), sn (c1 9 en8 (aT 8) (fun _ _ h1 => sign_w h1)), sn (c2 10 en59 (aT 7) (aT 9) (fun _ _ _ h1 h2 => by cases h1; cases h2; exact compare_k _ _ _)), sn (asg 5 (aT 10)), trivial⟩ fun kf ac w hS => ?_
  refine R mo hS ⟨[], []⟩ [(11, .E (.int .i64 (Int.sign ((Int.sign x) - (Int.sign y))))), (12, .E (.bool (!decide (((Int.sign ((Int.sign x) - (Int.sign y))) : Int) = 0))))] [12] [⟨3, 28, kW y j⟩, ⟨2, 28, kW x k⟩] [(4, .E (.int .i64 0)), (0, kW x k), (1, kW y j), (5, .E (.int .i64 (Int.sign ((Int.sign x) - (Int.sign y))))), (12, .E (.bool (!decide (((Int.sign ((Int.sign x) - (Int.sign y))) : Int) = 0))))] 2 ⟨sn (mv 11 (aO 5)), sn (bNe 12 (aT 11) (aC (.int .i64 0)) rfl), trivial⟩ fun kf ac w hS => ?_
  by_cases h1 : (Int.sign x - Int.sign y).sign ≠ 0
  · refine cT 12 hS ?_ (fun _ _ h => h.trans (congrArg _ (by simpa using h1)))
    refine R mo hS ⟨[], []⟩ [(13, .E (.int .i64 (Int.sign ((Int.sign x) - (Int.sign y))))), (4, .E (.int .i64 (Int.sign ((Int.sign x) - (Int.sign y)))))] [4] [⟨3, 28, kW y j⟩, ⟨2, 28, kW x k⟩] [(0, kW x k), (1, kW y j), (5, .E (.int .i64 (Int.sign ((Int.sign x) - (Int.sign y))))), (12, .E (.bool (!decide (((Int.sign ((Int.sign x) - (Int.sign y))) : Int) = 0)))), (4, .E (.int .i64 (Int.sign ((Int.sign x) - (Int.sign y)))))] 2 ⟨sn (mv 13 (aO 5)), sn (asg 4 (aT 13)), trivial⟩ fun kf ac w hS => ?_
    exact wp_ret (rt 4 hS fun v h => ⟨v, rfl, (h.trans (by rw [cmpW1 h1])), hS.grow⟩)
  · refine cF 12 hS ?_ (fun _ _ h => h.trans (congrArg _ (by simpa using h1)))
    refine skip_then ?_
    refine wp_seq ?_
    refine R mo hS ⟨[], []⟩ [(14, .E (.pointer (some ⟨kf 2, 1, none⟩))), (15, .E (.bool (decide (x < 0))))] [15] [⟨3, 28, kW y j⟩, ⟨2, 28, kW x k⟩] [(4, .E (.int .i64 0)), (0, kW x k), (1, kW y j), (5, .E (.int .i64 (Int.sign ((Int.sign x) - (Int.sign y))))), (12, .E (.bool (!decide (((Int.sign ((Int.sign x) - (Int.sign y))) : Int) = 0)))), (15, .E (.bool (decide (x < 0))))] 2 ⟨sn (fa 14 2 1 1 1), sn (lp 15 14 2 1 4 fldWB), trivial⟩ fun kf ac w hS => ?_
    by_cases h2 : x < 0
    · refine cT 15 hS ?_ (fun _ _ h => h.trans (congrArg _ (decide_eq_true h2)))
      refine R mo hS ⟨[], []⟩ [(16, .E (.pointer (some ⟨kf 3, 0, none⟩))), (17, kN (Int.natAbs y) j), (18, .E (.pointer (some ⟨kf 2, 0, none⟩))), (19, kN (Int.natAbs x) k), (20, .E (.int .i64 (Mx.cmp (Int.natAbs y) (Int.natAbs x)))), (4, .E (.int .i64 (Mx.cmp (Int.natAbs y) (Int.natAbs x))))] [4] [⟨3, 28, kW y j⟩, ⟨2, 28, kW x k⟩] [(0, kW x k), (1, kW y j), (5, .E (.int .i64 (Int.sign ((Int.sign x) - (Int.sign y))))), (12, .E (.bool (!decide (((Int.sign ((Int.sign x) - (Int.sign y))) : Int) = 0)))), (15, .E (.bool (decide (x < 0)))), (4, .E (.int .i64 (Mx.cmp (Int.natAbs y) (Int.natAbs x))))] 6 ⟨sn (fa 16 3 0 0 1), sn (lf 17 16 3 0 1 26 fldWN), sn (fa 18 2 0 0 1), sn (lf 19 18 2 0 1 26 fldWN), sn (c2 20 en58 (aT 17) (aT 19) (fun _ _ _ h1 h2 => cmp_n h1 h2 (by omega))), sn (asg 4 (aT 20)), trivial⟩ fun kf ac w hS => ?_
      exact wp_ret (rt 4 hS fun v h => ⟨v, rfl, (h.trans (by rw [cmpW2 h1 h2])), hS.grow⟩)
    · refine cF 15 hS ?_ (fun _ _ h => h.trans (congrArg _ (decide_eq_false h2)))
      refine skip_then ?_
      refine R mo hS ⟨[], []⟩ [(21, .E (.pointer (some ⟨kf 2, 0, none⟩))), (22, kN (Int.natAbs x) k), (23, .E (.pointer (some ⟨kf 3, 0, none⟩))), (24, kN (Int.natAbs y) j), (25, .E (.int .i64 (Mx.cmp (Int.natAbs x) (Int.natAbs y)))), (4, .E (.int .i64 (Mx.cmp (Int.natAbs x) (Int.natAbs y))))] [4] [⟨3, 28, kW y j⟩, ⟨2, 28, kW x k⟩] [(0, kW x k), (1, kW y j), (5, .E (.int .i64 (Int.sign ((Int.sign x) - (Int.sign y))))), (12, .E (.bool (!decide (((Int.sign ((Int.sign x) - (Int.sign y))) : Int) = 0)))), (15, .E (.bool (decide (x < 0)))), (4, .E (.int .i64 (Mx.cmp (Int.natAbs x) (Int.natAbs y))))] 6 ⟨sn (fa 21 2 0 0 1), sn (lf 22 21 2 0 1 26 fldWN), sn (fa 23 3 0 0 1), sn (lf 24 23 3 0 1 26 fldWN), sn (c2 25 en58 (aT 22) (aT 24) (fun _ _ _ h1 h2 => cmp_n h1 h2 (by omega))), sn (asg 4 (aT 25)), trivial⟩ fun kf ac w hS => ?_
      exact wp_ret (rt 4 hS fun v h => ⟨v, rfl, (h.trans (by rw [cmpW3 h1 h2])), hS.grow⟩)
set_option maxRecDepth 100000 in
set_option maxHeartbeats 4000000 in
theorem add_w1 {w : World} {v0 v1 : Value} {x y : Int} {k j : Nat} (h0 : (isW x k) w v0) (h1 : (isW y j) w v1) (hk : k ≤ 4294967296) (hj : j ≤ 4294967296) (he : decide (x < 0) = decide (y < 0)) : Calls Tryz.prog 55 #[v0, v1] w (Ret w fun v w' => (isW (x + y) (max k j + 1)) w' v) := by
  refine start (n := 47) (id := 0) (ops := regionOps Tryz.f55 0) (c := (.seq (.seq (.region 1 (regionOps Tryz.f55 1) false) (.cond (.tmp 13) (.seq (.region 2 (regionOps Tryz.f55 2) true) .ret) .skip)) (.seq (.seq (.region 3 (regionOps Tryz.f55 3) false) (.seq (.region 4 (regionOps Tryz.f55 4) false) (.cond (.tmp 30) (.seq (.region 5 (regionOps Tryz.f55 5) false) .ret) .skip))) (.seq (.region 6 (regionOps Tryz.f55 6) false) (.seq (.region 7 (regionOps Tryz.f55 7) false) .ret))))) Tryz.func55 [(0, kW x k), (1, kW y j)] [.box 2 28 0, .box 3 28 1, .al 4 28] [⟨4, 28, .X⟩, ⟨3, 28, kW y j⟩, ⟨2, 28, kW x k⟩] [(0, kW x k), (1, kW y j)] ⟨⟨by simp, h0⟩, ⟨by simp, h1⟩, trivial⟩ ?_
  intro kf ac w hS
  refine wp_seq ?_
  refine R mo hS ⟨[], []⟩ [(9, .E (.pointer (some ⟨kf 2, 1, none⟩))), (10, .E (.bool (decide (x < 0)))), (11, .E (.pointer (some ⟨kf 3, 1, none⟩))), (12, .E (.bool (decide (y < 0)))), (13, .E (.bool ((decide (x < 0)) == (decide (y < 0)))))] [13] [⟨4, 28, .X⟩, ⟨3, 28, kW y j⟩, ⟨2, 28, kW x k⟩] [(0, kW x k), (1, kW y j), (13, .E (.bool ((decide (x < 0)) == (decide (y < 0)))))] 5 ⟨sn (fa 9 2 1 1 1), sn (lp 10 9 2 1 4 fldWB), sn (fa 11 3 1 1 1), sn (lp 12 11 3 1 4 fldWB), sn (ofOwes (eqlBz (d := 13) (b := ((decide (x < 0)) == (decide (y < 0)))) (aT 10) (aT 12) (rfl) (fun _ _ h => h))), trivial⟩ fun kf ac w hS => ?_
  refine cT 13 hS ?_ (fun _ _ h => h.trans (congrArg _ (by simp [he])))
  refine R mo hS ⟨[], [(8, 4, 21, 28)]⟩ [(14, .E (.pointer (some ⟨kf 2, 0, none⟩))), (15, kN (Int.natAbs x) k), (16, .E (.pointer (some ⟨kf 3, 0, none⟩))), (17, kN (Int.natAbs y) j), (18, kN ((Int.natAbs x) + (Int.natAbs y)) (max k j + 1)), (19, .E (.pointer (some ⟨kf 2, 1, none⟩))), (20, .E (.bool (decide (x < 0)))), (21, kW (signed ((Int.natAbs x) + (Int.natAbs y)) (decide (x < 0))) (max k j + 1))] [] [⟨4, 28, kW (signed ((Int.natAbs x) + (Int.natAbs y)) (decide (x < 0))) (max k j + 1)⟩, ⟨3, 28, kW y j⟩, ⟨2, 28, kW x k⟩] [(0, kW x k), (1, kW y j), (13, .E (.bool ((decide (x < 0)) == (decide (y < 0)))))] 9 ⟨sn (fa 14 2 0 0 1), sn (lf 15 14 2 0 1 26 fldWN), sn (fa 16 3 0 0 1), sn (lf 17 16 3 0 1 26 fldWN), sn (c2 18 en38 (aT 15) (aT 17) (fun _ _ _ h1 h2 => add_n h1 h2 (by omega) (by omega))), sn (fa 19 2 1 1 1), sn (lp 20 19 2 1 4 fldWB), sn (c2 21 en24 (aT 18) (aT 20) (fun _ _ _ h1 h2 => by cases h2; exact of_w h1)), ss, trivial⟩ fun kf ac w hS => ?_
  exact wp_ret (rc 4 hS fun v h => ⟨v, rfl, (add_e1 he ▸ h), hS.grow⟩)
set_option maxRecDepth 100000 in
set_option maxHeartbeats 4000000 in
theorem add_w2 {w : World} {v0 v1 : Value} {x y : Int} {k j : Nat} (h0 : (isW x k) w v0) (h1 : (isW y j) w v1) (hk : k ≤ 4294967296) (hj : j ≤ 4294967296) (he : decide (x < 0) ≠ decide (y < 0)) (hl : y.natAbs ≤ x.natAbs) : Calls Tryz.prog 55 #[v0, v1] w (Ret w fun v w' => (isW (x + y) (max k j + 1)) w' v) := by
  refine start (n := 47) (id := 0) (ops := regionOps Tryz.f55 0) (c := (.seq (.seq (.region 1 (regionOps Tryz.f55 1) false) (.cond (.tmp 13) (.seq (.region 2 (regionOps Tryz.f55 2) true) .ret) .skip)) (.seq (.seq (.region 3 (regionOps Tryz.f55 3) false) (.seq (.region 4 (regionOps Tryz.f55 4) false) (.cond (.tmp 30) (.seq (.region 5 (regionOps Tryz.f55 5) false) .ret) .skip))) (.seq (.region 6 (regionOps Tryz.f55 6) false) (.seq (.region 7 (regionOps Tryz.f55 7) false) .ret))))) Tryz.func55 [(0, kW x k), (1, kW y j)] [.box 2 28 0, .box 3 28 1, .al 4 28] [⟨4, 28, .X⟩, ⟨3, 28, kW y j⟩, ⟨2, 28, kW x k⟩] [(0, kW x k), (1, kW y j)] ⟨⟨by simp, h0⟩, ⟨by simp, h1⟩, trivial⟩ ?_
  intro kf ac w hS
  refine wp_seq ?_
  refine R mo hS ⟨[], []⟩ [(9, .E (.pointer (some ⟨kf 2, 1, none⟩))), (10, .E (.bool (decide (x < 0)))), (11, .E (.pointer (some ⟨kf 3, 1, none⟩))), (12, .E (.bool (decide (y < 0)))), (13, .E (.bool ((decide (x < 0)) == (decide (y < 0)))))] [13] [⟨4, 28, .X⟩, ⟨3, 28, kW y j⟩, ⟨2, 28, kW x k⟩] [(0, kW x k), (1, kW y j), (13, .E (.bool ((decide (x < 0)) == (decide (y < 0)))))] 5 ⟨sn (fa 9 2 1 1 1), sn (lp 10 9 2 1 4 fldWB), sn (fa 11 3 1 1 1), sn (lp 12 11 3 1 4 fldWB), sn (ofOwes (eqlBz (d := 13) (b := ((decide (x < 0)) == (decide (y < 0)))) (aT 10) (aT 12) (rfl) (fun _ _ h => h))), trivial⟩ fun kf ac w hS => ?_
  refine cF 13 hS ?_ (fun _ _ h => h.trans (congrArg _ (by simpa using he)))
  refine skip_then ?_
  refine wp_seq ?_
  refine R mo hS ⟨[(8, 5, 26)], [(9, 5, 28, 26)]⟩ [(23, .E (.pointer (some ⟨kf 2, 0, none⟩))), (24, kN (Int.natAbs x) k), (25, .E (.pointer (some ⟨kf 3, 0, none⟩))), (26, kN (Int.natAbs y) j), (27, .T [kN ((Int.natAbs x) - (Int.natAbs y)) k, .E (.bool true)]), (22, .T [kN ((Int.natAbs x) - (Int.natAbs y)) k, .E (.bool true)]), (28, kN ((Int.natAbs x) - (Int.natAbs y)) k), (29, .E (.bool true)), (6, .E (.bool true))] [6] [⟨4, 28, .X⟩, ⟨3, 28, kW y j⟩, ⟨2, 28, kW x k⟩, ⟨5, 26, kN ((Int.natAbs x) - (Int.natAbs y)) k⟩] [(0, kW x k), (1, kW y j), (13, .E (.bool ((decide (x < 0)) == (decide (y < 0))))), (6, .E (.bool true))] 11 ⟨sn (fa 23 2 0 0 1), sn (lf 24 23 2 0 1 26 fldWN), sn (fa 25 3 0 0 1), sn (lf 26 25 3 0 1 26 fldWN), sn (c2 27 en87 (aT 24) (aT 26) (fun _ _ _ h1 h2 => sub_t h1 h2 (by omega) (by omega))), sn (mv 22 (aT 27)), sn (ex 28 22 0 rfl rfl), sn (ex 29 22 1 rfl rfl), sa, ss, sn (asg 6 (aT 29)), trivial⟩ fun kf ac w hS => ?_
  refine R mo hS ⟨[], []⟩ [(30, .E (.bool true))] [30] [⟨4, 28, .X⟩, ⟨3, 28, kW y j⟩, ⟨2, 28, kW x k⟩, ⟨5, 26, kN ((Int.natAbs x) - (Int.natAbs y)) k⟩] [(0, kW x k), (1, kW y j), (13, .E (.bool ((decide (x < 0)) == (decide (y < 0))))), (6, .E (.bool true)), (30, .E (.bool true))] 1 ⟨sn (mv 30 (aO 6)), trivial⟩ fun kf ac w hS => ?_
  refine cT 30 hS ?_
  refine R mo hS ⟨[], [(4, 4, 34, 28)]⟩ [(31, kN ((Int.natAbs x) - (Int.natAbs y)) k), (32, .E (.pointer (some ⟨kf 2, 1, none⟩))), (33, .E (.bool (decide (x < 0)))), (34, kW (signed ((Int.natAbs x) - (Int.natAbs y)) (decide (x < 0))) k)] [] [⟨4, 28, kW (signed ((Int.natAbs x) - (Int.natAbs y)) (decide (x < 0))) k⟩, ⟨3, 28, kW y j⟩, ⟨2, 28, kW x k⟩, ⟨5, 26, kN ((Int.natAbs x) - (Int.natAbs y)) k⟩] [(0, kW x k), (1, kW y j), (13, .E (.bool ((decide (x < 0)) == (decide (y < 0))))), (6, .E (.bool true)), (30, .E (.bool true))] 5 ⟨sn (ld 31 5), sn (fa 32 2 1 1 1), sn (lp 33 32 2 1 4 fldWB), sn (c2 34 en24 (aT 31) (aT 33) (fun _ _ _ h1 h2 => by cases h2; exact of_w h1)), ss, trivial⟩ fun kf ac w hS => ?_
  exact wp_ret (rc 4 hS fun v h => ⟨v, rfl, (IsW.weak (add_e2 he hl ▸ h) (by omega)), hS.grow⟩)
set_option maxRecDepth 100000 in
set_option maxHeartbeats 4000000 in
theorem add_w3 {w : World} {v0 v1 : Value} {x y : Int} {k j : Nat} (h0 : (isW x k) w v0) (h1 : (isW y j) w v1) (hk : k ≤ 4294967296) (hj : j ≤ 4294967296) (he : decide (x < 0) ≠ decide (y < 0)) (hl : x.natAbs < y.natAbs) : Calls Tryz.prog 55 #[v0, v1] w (Ret w fun v w' => (isW (x + y) (max k j + 1)) w' v) := by
  refine start (n := 47) (id := 0) (ops := regionOps Tryz.f55 0) (c := (.seq (.seq (.region 1 (regionOps Tryz.f55 1) false) (.cond (.tmp 13) (.seq (.region 2 (regionOps Tryz.f55 2) true) .ret) .skip)) (.seq (.seq (.region 3 (regionOps Tryz.f55 3) false) (.seq (.region 4 (regionOps Tryz.f55 4) false) (.cond (.tmp 30) (.seq (.region 5 (regionOps Tryz.f55 5) false) .ret) .skip))) (.seq (.region 6 (regionOps Tryz.f55 6) false) (.seq (.region 7 (regionOps Tryz.f55 7) false) .ret))))) Tryz.func55 [(0, kW x k), (1, kW y j)] [.box 2 28 0, .box 3 28 1, .al 4 28] [⟨4, 28, .X⟩, ⟨3, 28, kW y j⟩, ⟨2, 28, kW x k⟩] [(0, kW x k), (1, kW y j)] ⟨⟨by simp, h0⟩, ⟨by simp, h1⟩, trivial⟩ ?_
  intro kf ac w hS
  refine wp_seq ?_
  refine R mo hS ⟨[], []⟩ [(9, .E (.pointer (some ⟨kf 2, 1, none⟩))), (10, .E (.bool (decide (x < 0)))), (11, .E (.pointer (some ⟨kf 3, 1, none⟩))), (12, .E (.bool (decide (y < 0)))), (13, .E (.bool ((decide (x < 0)) == (decide (y < 0)))))] [13] [⟨4, 28, .X⟩, ⟨3, 28, kW y j⟩, ⟨2, 28, kW x k⟩] [(0, kW x k), (1, kW y j), (13, .E (.bool ((decide (x < 0)) == (decide (y < 0)))))] 5 ⟨sn (fa 9 2 1 1 1), sn (lp 10 9 2 1 4 fldWB), sn (fa 11 3 1 1 1), sn (lp 12 11 3 1 4 fldWB), sn (ofOwes (eqlBz (d := 13) (b := ((decide (x < 0)) == (decide (y < 0)))) (aT 10) (aT 12) (rfl) (fun _ _ h => h))), trivial⟩ fun kf ac w hS => ?_
  refine cF 13 hS ?_ (fun _ _ h => h.trans (congrArg _ (by simpa using he)))
  refine skip_then ?_
  refine wp_seq ?_
  refine R mo hS ⟨[(8, 5, 26)], [(9, 5, 28, 26)]⟩ [(23, .E (.pointer (some ⟨kf 2, 0, none⟩))), (24, kN (Int.natAbs x) k), (25, .E (.pointer (some ⟨kf 3, 0, none⟩))), (26, kN (Int.natAbs y) j), (27, .T [kN 0 0, .E (.bool false)]), (22, .T [kN 0 0, .E (.bool false)]), (28, kN 0 0), (29, .E (.bool false)), (6, .E (.bool false))] [6] [⟨4, 28, .X⟩, ⟨3, 28, kW y j⟩, ⟨2, 28, kW x k⟩, ⟨5, 26, kN 0 0⟩] [(0, kW x k), (1, kW y j), (13, .E (.bool ((decide (x < 0)) == (decide (y < 0))))), (6, .E (.bool false))] 11 ⟨sn (fa 23 2 0 0 1), sn (lf 24 23 2 0 1 26 fldWN), sn (fa 25 3 0 0 1), sn (lf 26 25 3 0 1 26 fldWN), sn (c2 27 en87 (aT 24) (aT 26) (fun _ _ _ h1 h2 => subl_t h1 h2 (by omega) (by omega))), sn (mv 22 (aT 27)), sn (ex 28 22 0 rfl rfl), sn (ex 29 22 1 rfl rfl), sa, ss, sn (asg 6 (aT 29)), trivial⟩ fun kf ac w hS => ?_
  refine R mo hS ⟨[], []⟩ [(30, .E (.bool false))] [30] [⟨4, 28, .X⟩, ⟨3, 28, kW y j⟩, ⟨2, 28, kW x k⟩, ⟨5, 26, kN 0 0⟩] [(0, kW x k), (1, kW y j), (13, .E (.bool ((decide (x < 0)) == (decide (y < 0))))), (6, .E (.bool false)), (30, .E (.bool false))] 1 ⟨sn (mv 30 (aO 6)), trivial⟩ fun kf ac w hS => ?_
  refine cF 30 hS ?_
  refine skip_then ?_
  refine R mo hS ⟨[(8, 7, 26)], [(9, 7, 41, 26)]⟩ [(36, .E (.pointer (some ⟨kf 3, 0, none⟩))), (37, kN (Int.natAbs y) j), (38, .E (.pointer (some ⟨kf 2, 0, none⟩))), (39, kN (Int.natAbs x) k), (40, .T [kN ((Int.natAbs y) - (Int.natAbs x)) j, .E (.bool true)]), (35, .T [kN ((Int.natAbs y) - (Int.natAbs x)) j, .E (.bool true)]), (41, kN ((Int.natAbs y) - (Int.natAbs x)) j), (42, .E (.bool true)), (8, .E (.bool true))] [] [⟨4, 28, .X⟩, ⟨3, 28, kW y j⟩, ⟨2, 28, kW x k⟩, ⟨5, 26, kN 0 0⟩, ⟨7, 26, kN ((Int.natAbs y) - (Int.natAbs x)) j⟩] [(0, kW x k), (1, kW y j), (13, .E (.bool ((decide (x < 0)) == (decide (y < 0))))), (6, .E (.bool false)), (30, .E (.bool false))] 11 ⟨sn (fa 36 3 0 0 1), sn (lf 37 36 3 0 1 26 fldWN), sn (fa 38 2 0 0 1), sn (lf 39 38 2 0 1 26 fldWN), sn (c2 40 en87 (aT 37) (aT 39) (fun _ _ _ h1 h2 => sub_t h1 h2 (by omega) (by omega))), sn (mv 35 (aT 40)), sn (ex 41 35 0 rfl rfl), sn (ex 42 35 1 rfl rfl), sa, ss, sn (asg 8 (aT 42)), trivial⟩ fun kf ac w hS => ?_
  refine R mo hS ⟨[], [(4, 4, 46, 28)]⟩ [(43, kN ((Int.natAbs y) - (Int.natAbs x)) j), (44, .E (.pointer (some ⟨kf 3, 1, none⟩))), (45, .E (.bool (decide (y < 0)))), (46, kW (signed ((Int.natAbs y) - (Int.natAbs x)) (decide (y < 0))) j)] [] [⟨4, 28, kW (signed ((Int.natAbs y) - (Int.natAbs x)) (decide (y < 0))) j⟩, ⟨3, 28, kW y j⟩, ⟨2, 28, kW x k⟩, ⟨5, 26, kN 0 0⟩, ⟨7, 26, kN ((Int.natAbs y) - (Int.natAbs x)) j⟩] [(0, kW x k), (1, kW y j), (13, .E (.bool ((decide (x < 0)) == (decide (y < 0))))), (6, .E (.bool false)), (30, .E (.bool false))] 5 ⟨sn (ld 43 7), sn (fa 44 3 1 1 1), sn (lp 45 44 3 1 4 fldWB), sn (c2 46 en24 (aT 43) (aT 45) (fun _ _ _ h1 h2 => by cases h2; exact of_w h1)), ss, trivial⟩ fun kf ac w hS => ?_
  exact wp_ret (rc 4 hS fun v h => ⟨v, rfl, (IsW.weak (add_e3 he hl ▸ h) (by omega)), hS.grow⟩)
theorem add_w {w : World} {va vb : Value} {x y : Int} {k j : Nat} (hx : IsW w va x k) (hy : IsW w vb y j) (hk : k ≤ 4294967296) (hj : j ≤ 4294967296) : Calls Tryz.prog 55 #[va, vb] w (Ret w fun v' w' => IsW w' v' (x + y) (max k j + 1)) := by
  by_cases he : decide (x < 0) = decide (y < 0)
  · exact add_w1 hx hy hk hj he
  · by_cases hl : y.natAbs ≤ x.natAbs
    · exact add_w2 hx hy hk hj he hl
    · exact add_w3 hx hy hk hj he (by omega)
set_option maxRecDepth 100000 in
set_option maxHeartbeats 4000000 in
theorem mul_w {w : World} {v0 v1 : Value} {x y : Int} {k j : Nat} (h0 : (isW x k) w v0) (h1 : (isW y j) w v1) (hk : k ≤ 4294967296) (hj : j ≤ 4294967296) : Calls Tryz.prog 74 #[v0, v1] w (Ret w fun v w' => (isW (x * y) (k + j)) w' v) := by
  refine start (n := 16) (id := 0) (ops := regionOps Tryz.f74 0) (c := (.seq (.region 1 (regionOps Tryz.f74 1) true) .ret)) Tryz.func74 [(0, kW x k), (1, kW y j)] [.box 2 28 0, .box 3 28 1, .al 4 28] [⟨4, 28, .X⟩, ⟨3, 28, kW y j⟩, ⟨2, 28, kW x k⟩] [(0, kW x k), (1, kW y j)] ⟨⟨by simp, h0⟩, ⟨by simp, h1⟩, trivial⟩ ?_
  intro kf ac w hS
  refine R mo hS ⟨[], [(11, 4, 15, 28)]⟩ [(5, .E (.pointer (some ⟨kf 2, 0, none⟩))), (6, kN (Int.natAbs x) k), (7, .E (.pointer (some ⟨kf 3, 0, none⟩))), (8, kN (Int.natAbs y) j), (9, kN ((Int.natAbs x) * (Int.natAbs y)) (k + j)), (10, .E (.pointer (some ⟨kf 2, 1, none⟩))), (11, .E (.bool (decide (x < 0)))), (12, .E (.pointer (some ⟨kf 3, 1, none⟩))), (13, .E (.bool (decide (y < 0)))), (14, .E (.bool (!((decide (x < 0)) == (decide (y < 0)))))), (15, kW (signed ((Int.natAbs x) * (Int.natAbs y)) (!((decide (x < 0)) == (decide (y < 0))))) (k + j))] [] [⟨4, 28, kW (signed ((Int.natAbs x) * (Int.natAbs y)) (!((decide (x < 0)) == (decide (y < 0))))) (k + j)⟩, ⟨3, 28, kW y j⟩, ⟨2, 28, kW x k⟩] [(0, kW x k), (1, kW y j)] 12 ⟨sn (fa 5 2 0 0 1), sn (lf 6 5 2 0 1 26 fldWN), sn (fa 7 3 0 0 1), sn (lf 8 7 3 0 1 26 fldWN), sn (c2 9 en57 (aT 6) (aT 8) (fun _ _ _ h1 h2 => mul_n h1 h2 (by omega) (by omega))), sn (fa 10 2 1 1 1), sn (lp 11 10 2 1 4 fldWB), sn (fa 12 3 1 1 1), sn (lp 13 12 3 1 4 fldWB), sn (ofOwes (neqBz (d := 14) (b := (!((decide (x < 0)) == (decide (y < 0))))) (aT 11) (aT 13) (rfl) (fun _ _ h => h))), sn (c2 15 en24 (aT 9) (aT 14) (fun _ _ _ h1 h2 => by cases h2; exact of_w h1)), ss, trivial⟩ fun kf ac w hS => ?_
  exact wp_ret (rc 4 hS fun v h => ⟨v, rfl, (mul_e x y ▸ h), hS.grow⟩)
set_option maxRecDepth 100000 in
set_option maxHeartbeats 4000000 in
theorem print_w {w : World} {v0 : Value} {z : Int} {k : Nat} (h0 : (isW z k) w v0) (hk : k ≤ 536870912) : Calls Tryz.prog 9 #[v0] w (Ret w fun v w' => (isT (ztext z)) w' v) := by
  have hl := text_lenW h0
  refine start (n := 12) (id := 0) (ops := regionOps Tryz.f9 0) (c := (.seq (.seq (.region 1 (regionOps Tryz.f9 1) false) (.cond (.tmp 4) (.seq (.region 2 (regionOps Tryz.f9 2) false) .ret) .skip)) (.seq (.region 3 (regionOps Tryz.f9 3) false) .ret))) Tryz.func9 [(0, kW z k)] [.box 1 28 0, .cn 2 (.string (str []))] [⟨1, 28, kW z k⟩] [(2, .E (.string (str []))), (0, kW z k)] ⟨⟨by simp, h0⟩, trivial⟩ ?_
  intro kf ac w hS
  refine wp_seq ?_
  refine R mo hS ⟨[], []⟩ [(3, .E (.pointer (some ⟨kf 1, 1, none⟩))), (4, .E (.bool (decide (z < 0))))] [4] [⟨1, 28, kW z k⟩] [(2, .E (.string (str []))), (0, kW z k), (4, .E (.bool (decide (z < 0))))] 2 ⟨sn (fa 3 1 1 1 1), sn (lp 4 3 1 1 4 fldWB), trivial⟩ fun kf ac w hS => ?_
  by_cases h1 : z < 0
  · refine cT 4 hS ?_ (fun _ _ h => h.trans (congrArg _ (decide_eq_true h1)))
    refine R mo hS ⟨[], []⟩ [(5, .E (.pointer (some ⟨kf 1, 0, none⟩))), (6, kN (Int.natAbs z) k), (7, kT (Tx.text (Int.natAbs z))), (8, kT ([45] ++ Tx.text (Int.natAbs z))), (2, kT ([45] ++ Tx.text (Int.natAbs z)))] [2] [⟨1, 28, kW z k⟩] [(0, kW z k), (4, .E (.bool (decide (z < 0)))), (2, kT ([45] ++ Tx.text (Int.natAbs z)))] 5 ⟨sn (fa 5 1 0 0 1), sn (lf 6 5 1 0 1 26 fldWN), sn (c1 7 en41 (aT 6) (fun _ _ h1 => print_any _ _ _ _ h1 (by omega))), sn (bSa 8 (aC (.string (str [45]))) (aT 7) (by simp; omega)), sn (asg 2 (aT 8)), trivial⟩ fun kf ac w hS => ?_
    exact wp_ret (rt 2 hS fun v h => ⟨v, rfl, (h.trans (by rw [ztext, if_pos h1]; rfl)), hS.grow⟩)
  · refine cF 4 hS ?_ (fun _ _ h => h.trans (congrArg _ (decide_eq_false h1)))
    refine skip_then ?_
    refine R mo hS ⟨[], []⟩ [(9, .E (.pointer (some ⟨kf 1, 0, none⟩))), (10, kN (Int.natAbs z) k), (11, kT (Tx.text (Int.natAbs z))), (2, kT (Tx.text (Int.natAbs z)))] [2] [⟨1, 28, kW z k⟩] [(0, kW z k), (4, .E (.bool (decide (z < 0)))), (2, kT (Tx.text (Int.natAbs z)))] 4 ⟨sn (fa 9 1 0 0 1), sn (lf 10 9 1 0 1 26 fldWN), sn (c1 11 en41 (aT 10) (fun _ _ h1 => print_any _ _ _ _ h1 (by omega))), sn (asg 2 (aT 11)), trivial⟩ fun kf ac w hS => ?_
    exact wp_ret (rt 2 hS fun v h => ⟨v, rfl, (h.trans (by rw [ztext, if_neg h1])), hS.grow⟩)
end Go.Proofs.YtpjmfbiihhbjhaaGreatDoor.Z
