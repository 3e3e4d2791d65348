/- Package frac: Den, Num, Sign, Neg, From, Cmp, Of. Written by a script (tools/laws). -/
import Derived.Test.YtpjmfbiihhbjhaaDoorFrB
namespace Go.Proofs.YtpjmfbiihhbjhaaDoor.Z
open Go.RowKit Go.Proofs.YtpjmfbiihhbjhaaDoor.Rg
set_option linter.unusedVariables false
set_option maxRecDepth 100000 in
set_option maxHeartbeats 4000000 in
theorem den_f0 {w : World} {v0 : Value} {z : Int} {n k : Nat} (h0 : (isF z n k) w v0) (hn : n = 0) : Calls Tryd.prog 33 #[v0] w (Ret w fun v w' => (isN 1 1) w' v) := by
  refine start (n := 10) (id := 0) (ops := regionOps Tryd.f33 0) (c := (.seq (.seq (.region 1 (regionOps Tryd.f33 1) false) (.cond (.tmp 5) (.seq (.region 2 (regionOps Tryd.f33 2) false) .ret) .skip)) (.seq (.region 3 (regionOps Tryd.f33 3) false) .ret))) Tryd.func33 [(0, kF z n k)] [.box 1 35 0, .al 2 24] [⟨2, 24, .X⟩, ⟨1, 35, kF z n k⟩] [(0, kF z n k)] ⟨⟨by simp, h0⟩, trivial⟩ ?_
  intro kf ac w hS
  refine wp_seq ?_
  refine R mo hS ⟨[], []⟩ [(3, .E (.pointer (some ⟨kf 1, 2, none⟩))), (4, kN n k), (5, .E (.bool (n == 0)))] [5] [⟨2, 24, .X⟩, ⟨1, 35, kF z n k⟩] [(0, kF z n k), (5, .E (.bool (n == 0)))] 3 ⟨sn (fa 3 1 1 2 1), sn (lf 4 3 1 2 1 24 fldFN), sn (c1 5 en29 (aT 4) (fun _ _ h1 => zero_n h1)), trivial⟩ fun kf ac w hS => ?_
  refine cT 5 hS ?_ (fun _ _ h => h.trans (congrArg _ (by simp [hn])))
  refine R mo hS ⟨[], [(2, 2, 7, 24)]⟩ [(6, kS [1]), (7, kN 1 1)] [] [⟨2, 24, kN 1 1⟩, ⟨1, 35, kF z n k⟩] [(0, kF z n k), (5, .E (.bool (n == 0)))] 3 ⟨sn (ofOwes (buildOneZ (d := 6) (x := 1) (small_lt (by decide)) (fun _ _ h => h))), sn (c1 7 en5 (aT 6) (fun _ _ h1 => of_one h1)), ss, trivial⟩ fun kf ac w hS => ?_
  exact wp_ret (rc 2 hS fun v h => ⟨v, rfl, h, hS.grow⟩)
set_option maxRecDepth 100000 in
set_option maxHeartbeats 4000000 in
theorem den_f1 {w : World} {v0 : Value} {z : Int} {n k : Nat} (h0 : (isF z n k) w v0) (hn : n ≠ 0) : Calls Tryd.prog 33 #[v0] w (Ret w fun v w' => (isN n k) w' v) := by
  refine start (n := 10) (id := 0) (ops := regionOps Tryd.f33 0) (c := (.seq (.seq (.region 1 (regionOps Tryd.f33 1) false) (.cond (.tmp 5) (.seq (.region 2 (regionOps Tryd.f33 2) false) .ret) .skip)) (.seq (.region 3 (regionOps Tryd.f33 3) false) .ret))) Tryd.func33 [(0, kF z n k)] [.box 1 35 0, .al 2 24] [⟨2, 24, .X⟩, ⟨1, 35, kF z n k⟩] [(0, kF z n k)] ⟨⟨by simp, h0⟩, trivial⟩ ?_
  intro kf ac w hS
  refine wp_seq ?_
  refine R mo hS ⟨[], []⟩ [(3, .E (.pointer (some ⟨kf 1, 2, none⟩))), (4, kN n k), (5, .E (.bool (n == 0)))] [5] [⟨2, 24, .X⟩, ⟨1, 35, kF z n k⟩] [(0, kF z n k), (5, .E (.bool (n == 0)))] 3 ⟨sn (fa 3 1 1 2 1), sn (lf 4 3 1 2 1 24 fldFN), sn (c1 5 en29 (aT 4) (fun _ _ h1 => zero_n h1)), trivial⟩ fun kf ac w hS => ?_
  refine cF 5 hS ?_ (fun _ _ h => h.trans (congrArg _ (by simp [hn])))
  refine skip_then ?_
  refine R mo hS ⟨[], [(2, 2, 9, 24)]⟩ [(8, .E (.pointer (some ⟨kf 1, 2, none⟩))), (9, kN n k)] [] [⟨2, 24, kN n k⟩, ⟨1, 35, kF z n k⟩] [(0, kF z n k), (5, .E (.bool (n == 0)))] 3 ⟨sn (fa 8 1 1 2 1), sn (lf 9 8 1 2 1 24 fldFN), ss, trivial⟩ fun kf ac w hS => ?_
  exact wp_ret (rc 2 hS fun v h => ⟨v, rfl, h, hS.grow⟩)
theorem den_q {w : World} {v : Value} {q : Rat} {k : Nat} (h : isQ q k w v) : Calls Tryd.prog 33 #[v] w (Ret w fun v' w' => isN q.den k w' v') := by
  obtain ⟨hk, n, h1, h2⟩ := h
  by_cases hn : n = 0
  · refine (den_f0 h1 hn).mono fun _ _ r => r.mono fun _ _ g => ?_
    rcases h2 with e | ⟨_, e⟩
    · exact absurd (e.symm.trans hn) q.den_nz
    · subst e
      exact g.weak hk
  · refine (den_f1 h1 hn).mono fun _ _ r => r.mono fun _ _ g => ?_
    rcases h2 with e | ⟨e, _⟩
    · subst e; exact g
    · exact absurd e hn
set_option maxRecDepth 100000 in
set_option maxHeartbeats 4000000 in
theorem num_q {w : World} {v0 : Value} {q : Rat} {k : Nat} (h0 : (isQ q k) w v0)  : Calls Tryd.prog 32 #[v0] w (Ret w fun v w' => (isW q.num k) w' v) := by
  refine start (n := 5) (id := 0) (ops := regionOps Tryd.f32 0) (c := (.seq (.region 1 (regionOps Tryd.f32 1) false) .ret)) Tryd.func32 [(0, kQ q k)] [.box 1 35 0, .al 2 33] [⟨2, 33, .X⟩, ⟨1, 35, kQ q k⟩] [(0, kQ q k)] ⟨⟨by simp, h0⟩, trivial⟩ ?_
  intro kf ac w hS
  refine R mo hS ⟨[], [(2, 2, 4, 33)]⟩ [(3, .E (.pointer (some ⟨kf 1, 0, none⟩))), (4, kW q.num k)] [] [⟨2, 33, kW q.num k⟩, ⟨1, 35, kQ q k⟩] [(0, kQ q k)] 3 ⟨sn (fa 3 1 0 0 2), sn (lf 4 3 1 0 2 33 fldQW), ss, trivial⟩ fun kf ac w hS => ?_
  exact wp_ret (rc 2 hS fun v h => ⟨v, rfl, h, hS.grow⟩)
set_option maxRecDepth 100000 in
set_option maxHeartbeats 4000000 in
theorem sign_q {w : World} {v0 : Value} {q : Rat} {k : Nat} (h0 : (isQ q k) w v0)  : Calls Tryd.prog 35 #[v0] w (Ret w fun v w' => (isE (.int .i64 (Int.sign q.num))) w' v) := by
  refine start (n := 6) (id := 0) (ops := regionOps Tryd.f35 0) (c := (.seq (.region 1 (regionOps Tryd.f35 1) false) .ret)) Tryd.func35 [(0, kQ q k)] [.box 1 35 0, .cn 2 (.int .i64 0)] [⟨1, 35, kQ q k⟩] [(2, .E (.int .i64 0)), (0, kQ q k)] ⟨⟨by simp, h0⟩, trivial⟩ ?_
  intro kf ac w hS
  refine R mo hS ⟨[], []⟩ [(3, .E (.pointer (some ⟨kf 1, 0, none⟩))), (4, kW q.num k), (5, .E (.int .i64 (Int.sign q.num))), (2, .E (.int .i64 (Int.sign q.num)))] [2] [⟨1, 35, kQ q k⟩] [(0, kQ q k), (2, .E (.int .i64 (Int.sign q.num)))] 4 ⟨sn (fa 3 1 0 0 2), sn (lf 4 3 1 0 2 33 fldQW), sn (c1 5 en25 (aT 4) (fun _ _ h1 => sign_w h1)), sn (asg 2 (aT 5)), trivial⟩ fun kf ac w hS => ?_
  exact wp_ret (rt 2 hS fun v h => ⟨v, rfl, h, hS.grow⟩)
set_option maxRecDepth 100000 in
set_option maxHeartbeats 4000000 in
theorem from_q {w : World} {v0 : Value} {z : Int} {k : Nat} (h0 : (isW z k) w v0)  : Calls Tryd.prog 53 #[v0] w (Ret w fun v w' => (isQ ((z : Int) : Rat) (max k 1)) w' v) := by
  refine start (n := 7) (id := 0) (ops := regionOps Tryd.f53 0) (c := (.seq (.region 1 (regionOps Tryd.f53 1) true) .ret)) Tryd.func53 [(0, kW z k)] [.box 1 33 0, .al 2 35] [⟨2, 35, .X⟩, ⟨1, 33, kW z k⟩] [(0, kW z k)] ⟨⟨by simp, h0⟩, trivial⟩ ?_
  intro kf ac w hS
  refine R mo hS ⟨[], [(4, 2, 6, 35)]⟩ [(3, kW z k), (4, kS [1]), (5, kN 1 1), (6, kF z 1 (max k 1))] [] [⟨2, 35, kF z 1 (max k 1)⟩, ⟨1, 33, kW z k⟩] [(0, kW z k)] 5 ⟨sn (ld 3 1), sn (ofOwes (buildOneZ (d := 4) (x := 1) (small_lt (by decide)) (fun _ _ h => h))), sn (c1 5 en5 (aT 4) (fun _ _ h1 => of_one h1)), sn (ofOwes (buildF (d := 6) (m := max k 1) (aT 3) (aT 5) (by omega) (by omega) (fun _ _ h => h))), ss, trivial⟩ fun kf ac w hS => ?_
  exact wp_ret (rc 2 hS fun v h => ⟨v, rfl, (IsF.q h (by omega) rfl rfl), hS.grow⟩)
end Go.Proofs.YtpjmfbiihhbjhaaDoor.Z
