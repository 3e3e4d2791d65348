/- Package frac: Den, Num, Sign, Neg, From, Cmp, Of. Written by a script (tools/laws). -/
import Derived.Test.YtpjmfbiihhbjhaaGreatDoorFrB
namespace Go.Proofs.YtpjmfbiihhbjhaaGreatDoor.Z
open Go.RowKit Go.Proofs.YtpjmfbiihhbjhaaGreatDoor.Rg
set_option linter.unusedVariables false
set_option maxRecDepth 100000 in
set_option maxHeartbeats 4000000 in
theorem den_f0 {w : World} {v0 : Value} {z : Int} {n k : Nat} (h0 : (isF z n k) w v0) (hn : n = 0) : Calls Tryz.prog 36 #[v0] w (Ret w fun v w' => (isN 1 1) w' v) := by
  refine start (n := 10) (id := 0) (ops := regionOps Tryz.f36 0) (c := (.seq (.seq (.region 1 (regionOps Tryz.f36 1) false) (.cond (.tmp 5) (.seq (.region 2 (regionOps Tryz.f36 2) false) .ret) .skip)) (.seq (.region 3 (regionOps Tryz.f36 3) false) .ret))) Tryz.func36 [(0, kF z n k)] [.box 1 30 0, .al 2 26] [⟨2, 26, .X⟩, ⟨1, 30, kF z n k⟩] [(0, kF z n k)] ⟨⟨by simp, h0⟩, trivial⟩ ?_
  intro kf ac w hS
  refine wp_seq ?_
  refine R mo hS ⟨[], []⟩ [(3, .E (.pointer (some ⟨kf 1, 2, none⟩))), (4, kN n k), (5, .E (.bool (n == 0)))] [5] [⟨2, 26, .X⟩, ⟨1, 30, kF z n k⟩] [(0, kF z n k), (5, .E (.bool (n == 0)))] 3 ⟨sn (fa 3 1 1 2 1), sn (lf 4 3 1 2 1 26 fldFN), sn (c1 5 en29 (aT 4) (fun _ _ h1 => zero_n h1)), trivial⟩ fun kf ac w hS => ?_
  refine cT 5 hS ?_ (fun _ _ h => h.trans (congrArg _ (by simp [hn])))
  refine R mo hS ⟨[], [(2, 2, 7, 26)]⟩ [(6, kS [1]), (7, kN 1 1)] [] [⟨2, 26, kN 1 1⟩, ⟨1, 30, kF z n k⟩] [(0, kF z n k), (5, .E (.bool (n == 0)))] 3 ⟨sn (ofOwes (buildOneZ (d := 6) (x := 1) (small_lt (by decide)) (fun _ _ h => h))), sn (c1 7 en28 (aT 6) (fun _ _ h1 => of_one h1)), ss, trivial⟩ fun kf ac w hS => ?_
  exact wp_ret (rc 2 hS fun v h => ⟨v, rfl, h, hS.grow⟩)
set_option maxRecDepth 100000 in
set_option maxHeartbeats 4000000 in
theorem den_f1 {w : World} {v0 : Value} {z : Int} {n k : Nat} (h0 : (isF z n k) w v0) (hn : n ≠ 0) : Calls Tryz.prog 36 #[v0] w (Ret w fun v w' => (isN n k) w' v) := by
  refine start (n := 10) (id := 0) (ops := regionOps Tryz.f36 0) (c := (.seq (.seq (.region 1 (regionOps Tryz.f36 1) false) (.cond (.tmp 5) (.seq (.region 2 (regionOps Tryz.f36 2) false) .ret) .skip)) (.seq (.region 3 (regionOps Tryz.f36 3) false) .ret))) Tryz.func36 [(0, kF z n k)] [.box 1 30 0, .al 2 26] [⟨2, 26, .X⟩, ⟨1, 30, kF z n k⟩] [(0, kF z n k)] ⟨⟨by simp, h0⟩, trivial⟩ ?_
  intro kf ac w hS
  refine wp_seq ?_
  refine R mo hS ⟨[], []⟩ [(3, .E (.pointer (some ⟨kf 1, 2, none⟩))), (4, kN n k), (5, .E (.bool (n == 0)))] [5] [⟨2, 26, .X⟩, ⟨1, 30, kF z n k⟩] [(0, kF z n k), (5, .E (.bool (n == 0)))] 3 ⟨sn (fa 3 1 1 2 1), sn (lf 4 3 1 2 1 26 fldFN), sn (c1 5 en29 (aT 4) (fun _ _ h1 => zero_n h1)), trivial⟩ fun kf ac w hS => ?_
  refine cF 5 hS ?_ (fun _ _ h => h.trans (congrArg _ (by simp [hn])))
  refine skip_then ?_
  refine R mo hS ⟨[], [(2, 2, 9, 26)]⟩ [(8, .E (.pointer (some ⟨kf 1, 2, none⟩))), (9, kN n k)] [] [⟨2, 26, kN n k⟩, ⟨1, 30, kF z n k⟩] [(0, kF z n k), (5, .E (.bool (n == 0)))] 3 ⟨sn (fa 8 1 1 2 1), sn (lf 9 8 1 2 1 26 fldFN), ss, trivial⟩ fun kf ac w hS => ?_
  exact wp_ret (rc 2 hS fun v h => ⟨v, rfl, h, hS.grow⟩)
theorem den_q {w : World} {v : Value} {q : Rat} {k : Nat} (h : isQ q k w v) : Calls Tryz.prog 36 #[v] w (Ret w fun v' w' => isN q.den k w' v') := by
  obtain ⟨hk, n, h1, h2⟩ := h
  by_cases hn : n = 0
  · refine (den_f0 h1 hn).mono fun _ _ r => r.mono fun _ _ g => ?_
    rcases h2 with e | ⟨_, e⟩
    · exact absurd (e.symm.trans hn) q.den_nz
    · subst e
      exact g.weak hk
  · refine (den_f1 h1 hn).mono fun _ _ r => r.mono fun _ _ g => ?_
    rcases h2 with e | ⟨e, _⟩
    · subst e; exact g
    · exact absurd e hn
set_option maxRecDepth 100000 in
set_option maxHeartbeats 4000000 in
theorem num_q {w : World} {v0 : Value} {q : Rat} {k : Nat} (h0 : (isQ q k) w v0)  : Calls Tryz.prog 35 #[v0] w (Ret w fun v w' => (isW q.num k) w' v) := by
  refine start (n := 5) (id := 0) (ops := regionOps Tryz.f35 0) (c := (.seq (.region 1 (regionOps Tryz.f35 1) false) .ret)) Tryz.func35 [(0, kQ q k)] [.box 1 30 0, .al 2 28] [⟨2, 28, .X⟩, ⟨1, 30, kQ q k⟩] [(0, kQ q k)] ⟨⟨by simp, h0⟩, trivial⟩ ?_
  intro kf ac w hS
  refine R mo hS ⟨[], [(2, 2, 4, 28)]⟩ [(3, .E (.pointer (some ⟨kf 1, 0, none⟩))), (4, kW q.num k)] [] [⟨2, 28, kW q.num k⟩, ⟨1, 30, kQ q k⟩] [(0, kQ q k)] 3 ⟨sn (fa 3 1 0 0 2), sn (lf 4 3 1 0 2 28 fldQW), ss, trivial⟩ fun kf ac w hS => ?_
  exact wp_ret (rc 2 hS fun v h => ⟨v, rfl, h, hS.grow⟩)
set_option maxRecDepth 100000 in
set_option maxHeartbeats 4000000 in
theorem sign_q {w : World} {v0 : Value} {q : Rat} {k : Nat} (h0 : (isQ q k) w v0)  : Calls Tryz.prog 18 #[v0] w (Ret w fun v w' => (isE (.int .i64 (Int.sign q.num))) w' v) := by
  refine start (n := 6) (id := 0) (ops := regionOps Tryz.f18 0) (c := (.seq (.region 1 (regionOps Tryz.f18 1) false) .ret)) Tryz.func18 [(0, kQ q k)] [.box 1 30 0, .cn 2 (.int .i64 0)] [⟨1, 30, kQ q k⟩] [(2, .E (.int .i64 0)), (0, kQ q k)] ⟨⟨by simp, h0⟩, trivial⟩ ?_
  intro kf ac w hS
  refine R mo hS ⟨[], []⟩ [(3, .E (.pointer (some ⟨kf 1, 0, none⟩))), (4, kW q.num k), (5, .E (.int .i64 (Int.sign q.num))), (2, .E (.int .i64 (Int.sign q.num)))] [2] [⟨1, 30, kQ q k⟩] [(0, kQ q k), (2, .E (.int .i64 (Int.sign q.num)))] 4 ⟨sn (fa 3 1 0 0 2), sn (lf 4 3 1 0 2 28 fldQW), sn (c1 5 en8 (aT 4) (fun _ _ h1 => sign_w h1)), sn (asg 2 (aT 5)), trivial⟩ fun kf ac w hS => ?_
  exact wp_ret (rt 2 hS fun v h => ⟨v, rfl, h, hS.grow⟩)
set_option maxRecDepth 100000 in
set_option maxHeartbeats 4000000 in
theorem neg_f {w : World} {v0 : Value} {z : Int} {n k : Nat} (h0 : (isF z n k) w v0)  : Calls Tryz.prog 16 #[v0] w (Ret w fun v w' => (isF (-z) n k) w' v) := by
  refine start (n := 9) (id := 0) (ops := regionOps Tryz.f16 0) (c := (.seq (.region 1 (regionOps Tryz.f16 1) true) .ret)) Tryz.func16 [(0, kF z n k)] [.box 1 30 0, .al 2 30] [⟨2, 30, .X⟩, ⟨1, 30, kF z n k⟩] [(0, kF z n k)] ⟨⟨by simp, h0⟩, trivial⟩ ?_
  intro kf ac w hS
  refine R mo hS ⟨[], [(6, 2, 8, 30)]⟩ [(3, .E (.pointer (some ⟨kf 1, 0, none⟩))), (4, kW z k), (5, kW (-z) k), (6, .E (.pointer (some ⟨kf 1, 2, none⟩))), (7, kN n k), (8, kF (-z) n k)] [] [⟨2, 30, kF (-z) n k⟩, ⟨1, 30, kF z n k⟩] [(0, kF z n k)] 7 ⟨sn (fa 3 1 0 0 2), sn (lf 4 3 1 0 2 28 fldFW), sn (c1 5 en23 (aT 4) (fun _ _ h1 => neg_w h1)), sn (fa 6 1 1 2 1), sn (lf 7 6 1 2 1 26 fldFN), sn (ofOwes (buildF (d := 8) (m := k) (aT 5) (aT 7) (by omega) (by omega) (fun _ _ h => h))), ss, trivial⟩ fun kf ac w hS => ?_
  exact wp_ret (rc 2 hS fun v h => ⟨v, rfl, h, hS.grow⟩)
theorem neg_q {w : World} {v : Value} {q : Rat} {k : Nat} (h : isQ q k w v) : Calls Tryz.prog 16 #[v] w (Ret w fun v' w' => isQ (-q) k w' v') := by
  obtain ⟨hk, n, h1, h2⟩ := h
  refine (neg_f h1).mono fun _ _ r => r.mono fun _ _ g => ⟨hk, n, g, ?_⟩
  rcases h2 with e | ⟨e, e2⟩
  · exact .inl e
  · exact .inr ⟨e, by rw [e2]; rfl⟩
set_option maxRecDepth 100000 in
set_option maxHeartbeats 4000000 in
theorem from_q {w : World} {v0 : Value} {z : Int} {k : Nat} (h0 : (isW z k) w v0)  : Calls Tryz.prog 14 #[v0] w (Ret w fun v w' => (isQ ((z : Int) : Rat) (max k 1)) w' v) := by
  refine start (n := 7) (id := 0) (ops := regionOps Tryz.f14 0) (c := (.seq (.region 1 (regionOps Tryz.f14 1) true) .ret)) Tryz.func14 [(0, kW z k)] [.box 1 28 0, .al 2 30] [⟨2, 30, .X⟩, ⟨1, 28, kW z k⟩] [(0, kW z k)] ⟨⟨by simp, h0⟩, trivial⟩ ?_
  intro kf ac w hS
  refine R mo hS ⟨[], [(4, 2, 6, 30)]⟩ [(3, kW z k), (4, kS [1]), (5, kN 1 1), (6, kF z 1 (max k 1))] [] [⟨2, 30, kF z 1 (max k 1)⟩, ⟨1, 28, kW z k⟩] [(0, kW z k)] 5 ⟨sn (ld 3 1), sn (ofOwes (buildOneZ (d := 4) (x := 1) (small_lt (by decide)) (fun _ _ h => h))), sn (c1 5 en28 (aT 4) (fun _ _ h1 => of_one h1)), sn (ofOwes (buildF (d := 6) (m := max k 1) (aT 3) (aT 5) (by omega) (by omega) (fun _ _ h => h))), ss, trivial⟩ fun kf ac w hS => ?_
  exact wp_ret (rc 2 hS fun v h => ⟨v, rfl, (IsF.q h (by omega) rfl rfl), hS.grow⟩)
set_option maxRecDepth 100000 in
set_option maxHeartbeats 4000000 in
theorem cmp_q {w : World} {v0 v1 : Value} {x y : Rat} {k j : Nat} (h0 : (isQ x k) w v0) (h1 : (isQ y j) w v1) (hk : k ≤ 268435456) (hj : j ≤ 268435456) : Calls Tryz.prog 19 #[v0, v1] w (Ret w fun v w' => (isE (.int .i64 (cmpQ x y))) w' v) := by
  refine start (n := 16) (id := 0) (ops := regionOps Tryz.f19 0) (c := (.seq (.region 1 (regionOps Tryz.f19 1) true) .ret)) Tryz.func19 [(0, kQ x k), (1, kQ y j)] [.box 2 30 0, .box 3 30 1, .cn 4 (.int .i64 0)] [⟨3, 30, kQ y j⟩, ⟨2, 30, kQ x k⟩] [(4, .E (.int .i64 0)), (0, kQ x k), (1, kQ y j)] ⟨⟨by simp, h0⟩, ⟨by simp, h1⟩, trivial⟩ ?_
  intro kf ac w hS
  refine R mo hS ⟨[], []⟩ [(5, .E (.pointer (some ⟨kf 2, 0, none⟩))), (6, kW x.num k), (7, kQ y j), (8, kN y.den j), (9, kW (x.num * (y.den : Nat)) (k + j)), (10, .E (.pointer (some ⟨kf 3, 0, none⟩))), (11, kW y.num j), (12, kQ x k), (13, kN x.den k), (14, kW (y.num * (x.den : Nat)) (j + k)), (15, .E (.int .i64 (Int.sign ((x.num * (y.den : Nat)) - (y.num * (x.den : Nat)))))), (4, .E (.int .i64 (Int.sign ((x.num * (y.den : Nat)) - (y.num * (x.den : Nat))))))] [4] [⟨3, 30, kQ y j⟩, ⟨2, 30, kQ x k⟩] [(0, kQ x k), (1, kQ y j), (4, .E (.int .i64 (Int.sign ((x.num * (y.den : Nat)) - (y.num * (x.den : Nat))))))] 12 ⟨sn (fa 5 2 0 0 2), sn (lf 6 5 2 0 2 28 fldQW), sn (ld 7 3), sn (c1 8 en36 (aT 7) (fun _ _ h1 => den_q h1)), sn (c2 9 en52 (aT 6) (aT 8) (fun _ _ _ h1 h2 => times_z h1 h2 (by omega) (by omega))), sn (fa 10 3 0 0 2), sn (lf 11 10 3 0 2 28 fldQW), sn (ld 12 2), sn (c1 13 en36 (aT 12) (fun _ _ h1 => den_q h1)), sn (c2 14 en52 (aT 11) (aT 13) (fun _ _ _ h1 h2 => times_z h1 h2 (by omega) (by omega))), sn (c2 15 en22 (aT 9) (aT 14) (fun _ _ _ h1 h2 => cmp_w h1 h2 (by omega) (by omega))), sn (asg 4 (aT 15)), trivial⟩ fun kf ac w hS => ?_
  exact wp_ret (rt 4 hS fun v h => ⟨v, rfl, (h), hS.grow⟩)
end Go.Proofs.YtpjmfbiihhbjhaaGreatDoor.Z
