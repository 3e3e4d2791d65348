/- Package frac: Of, Floor, Print. Written by a script (tools/laws). -/
import Derived.Test.YtlkiikchjeapfaaGreatDoorFrD
namespace Go.Proofs.YtlkiikchjeapfaaGreatDoor.Z
open Go.RowKit Go.Proofs.YtlkiikchjeapfaaGreatDoor.Rg
set_option maxRecDepth 100000 in
set_option maxHeartbeats 4000000 in
theorem of_zero {w : World} {v0 v1 : Value} {z n : Int} {k j : Nat} (h0 : (isW z k) w v0) (h1 : (isW n j) w v1) (hn : n = 0) : Calls Tryz.prog 30 #[v0, v1] w (Ret w fun v w' => (IsT [(isQ 0 1), (isE (.int .i64 8))]) w' v) := by
  refine enter (s := soft) (n := 27) (c := (.seq (.region 0 (regionOps Tryz.f30 0) false) (.seq (.seq (.region 1 (regionOps Tryz.f30 1) false) (.cond (.tmp 10) (.seq (.region 2 (regionOps Tryz.f30 2) false) .ret) .skip)) (.seq (.seq (.region 3 (regionOps Tryz.f30 3) false) (.cond (.tmp 14) (.region 4 (regionOps Tryz.f30 4) false) .skip)) (.seq (.region 5 (regionOps Tryz.f30 5) true) (.seq (.region 6 (regionOps Tryz.f30 6) false) .ret)))))) Tryz.func30 (by kernel_rfl) (by kernel_rfl) (by simp) [(0, (isW z k)), (1, (isW n j))] ⟨⟨by simp, h0⟩, ⟨by simp, h1⟩, trivial⟩ ?_
  intro kf a hS
  refine plain_seq (m := 4) (by kernel_rfl) ?_
  refine box0 (p := 2) (y := 0) (t := 28) (q := (isW z k)) hS (by kernel_rfl) rfl rfl rfl (List.Mem.head _) shW trivial ⟨(stb_W _ _), (stb_W _ _), trivial⟩ ?_
  clear hS kf a
  try clear w
  intro kf a w hS
  refine box0 (p := 3) (y := 1) (t := 28) (q := (isW n j)) hS (by kernel_rfl) rfl rfl rfl (List.Mem.tail _ (List.Mem.head _)) shW ⟨(stb_W _ _), trivial⟩ ⟨(stb_W _ _), (stb_W _ _), trivial⟩ ?_
  clear hS kf a
  try clear w
  intro kf a w hS
  refine alloc0 (p := 4) (t := 30) hS (by kernel_rfl) rfl rfl rfl (by kernel_rfl) ⟨(stb_W _ _), (stb_W _ _), trivial⟩ ⟨(stb_W _ _), (stb_W _ _), trivial⟩ ?_
  clear hS kf a
  try clear w
  intro kf a w hS
  refine const0 (p := 5) (c := (.int .i64 0)) hS (by kernel_rfl) rfl rfl rfl ?_
  clear hS kf a
  try clear w
  intro kf a w hS
  refine plain_end ?_
  refine wp_seq ?_
  refine region_seq (s := soft) (kf0 := kf) (by kernel_rfl) hS (Rg.look [(8, (isW n j)),
      (9, (isE (.int .i64 (Int.sign n)))),
      (10, (isE (.bool (decide (((Int.sign n) : Int) = 0)))))])
    ⟨[], []⟩ [⟨4, 30, isX⟩, ⟨3, 28, (isW n j)⟩, ⟨2, 28, (isW z k)⟩] [(5, (isE (.int .i64 0))), (0, (isW z k)), (1, (isW n j)), (10, (isE (.bool (decide (((Int.sign n) : Int) = 0)))))] (by kernel_rfl) (by kernel_rfl) (look_stb _ ⟨(stb_W _ _), (stb_eq _), (stb_eq _), trivial⟩) ⟨stb_true, (stb_W _ _), (stb_W _ _), trivial⟩ ⟨(stb_eq _), (stb_W _ _), (stb_W _ _), trivial⟩ trivial trivial
    ⟨.inr (.inl ⟨rfl, _, (List.Mem.head _), rfl, rfl, (fun _ _ h => h)⟩), .inr (.inl ⟨rfl, _, (List.Mem.tail _ (List.Mem.head _)), rfl, rfl, (fun _ _ h => h)⟩), .inr (.inl ⟨rfl, _, (List.Mem.tail _ (List.Mem.tail _ (List.Mem.head _))), rfl, rfl, (fun _ _ h => h)⟩), trivial⟩
    ⟨.inr ⟨(by kernel_rfl), _, (List.Mem.head _), rfl, (fun _ _ h => h)⟩, .inr ⟨(by kernel_rfl), _, (List.Mem.tail _ (List.Mem.head _)), rfl, (fun _ _ h => h)⟩, .inr ⟨(by kernel_rfl), _, (List.Mem.tail _ (List.Mem.tail _ (List.Mem.head _))), rfl, (fun _ _ h => h)⟩, .inl ⟨(by kernel_rfl), rfl, (fun _ _ h => h)⟩, trivial⟩
    (steps (m := 3) (by kernel_rfl) ⟨stepN (i := 0) (dst := some 8) (op := (.load 28 (.tmp 3))) (by kernel_rfl) (loadV (List.Mem.tail _ (List.Mem.head _)) (by kernel_rfl) (fun _ _ h => h)),
      stepN (i := 1) (dst := some 9) (op := (.call { callee := .value (.func 28), args := #[(.tmp 8)], argTypes := #[28] })) (by kernel_rfl) (call1 (enters_of Tryz.func28 (by kernel_rfl) rfl) (argT (p := (isW n j)) (by kernel_rfl) (fun _ _ h => h)) (fun w u1 h1 => sign_w h1) (fun _ _ h => h)),
      stepN (i := 2) (dst := some 10) (op := (.binOp .eql 3 (.tmp 9) (.const (.int .i64 0)) 3)) (by kernel_rfl) (eql (m := (Int.sign n)) (n := 0) (argT (p := (isE (.int .i64 (Int.sign n)))) (by kernel_rfl) (fun _ _ h => h)) (argC (.int .i64 0)) (fun _ _ h => h)), trivial⟩) ?_
  clear hS kf a
  try clear w
  intro kf a w hS
  refine cond_true (q := (isE (.bool (decide (((Int.sign n) : Int) = 0))))) hS (List.Mem.tail _ (List.Mem.tail _ (List.Mem.tail _ (List.Mem.head _)))) (fun _ _ h => h.trans (congrArg _ (by simp [hn]))) ?_
  refine region_seq (s := soft) (kf0 := kf) (by kernel_rfl) hS (Rg.look [(11, (isF 0 0 1)),
      (5, (isE (.int .i64 8)))])
    ⟨[], [(1, 4, 11, 30)]⟩ [⟨4, 30, (isF 0 0 1)⟩, ⟨3, 28, (isW n j)⟩, ⟨2, 28, (isW z k)⟩] [(0, (isW z k)), (1, (isW n j)), (10, (isE (.bool (decide (((Int.sign n) : Int) = 0))))), (5, (isE (.int .i64 8)))] (by kernel_rfl) (by kernel_rfl) (look_stb _ ⟨(stb_F _ _ _), (stb_eq _), trivial⟩) ⟨stb_true, (stb_W _ _), (stb_W _ _), trivial⟩ ⟨(stb_eq _), (stb_W _ _), (stb_W _ _), (stb_eq _), trivial⟩ trivial ⟨shF, trivial⟩
    ⟨.inl ⟨_, (List.Mem.head _), rfl, rfl, (fun _ _ h => h)⟩, .inr (.inl ⟨rfl, _, (List.Mem.tail _ (List.Mem.head _)), rfl, rfl, (fun _ _ h => h)⟩), .inr (.inl ⟨rfl, _, (List.Mem.tail _ (List.Mem.tail _ (List.Mem.head _))), rfl, rfl, (fun _ _ h => h)⟩), trivial⟩
    ⟨.inr ⟨(by kernel_rfl), _, (List.Mem.tail _ (List.Mem.head _)), rfl, (fun _ _ h => h)⟩, .inr ⟨(by kernel_rfl), _, (List.Mem.tail _ (List.Mem.tail _ (List.Mem.head _))), rfl, (fun _ _ h => h)⟩, .inr ⟨(by kernel_rfl), _, (List.Mem.tail _ (List.Mem.tail _ (List.Mem.tail _ (List.Mem.head _)))), rfl, (fun _ _ h => h)⟩, .inl ⟨(by kernel_rfl), rfl, (fun _ _ h => h)⟩, trivial⟩
    (steps (m := 3) (by kernel_rfl) ⟨stepN (i := 0) (dst := some 11) (op := (.build 30 #[])) (by kernel_rfl) (buildF0 (fun _ _ h => h)),
      isStore rfl,
      stepN (i := 2) (dst := some 5) (op := (.assign (.const (.int .i64 8)))) (by kernel_rfl) (assign (argC (.int .i64 8)) (fun _ _ h => h)), trivial⟩) ?_
  clear hS kf a
  try clear w
  intro kf a w hS
  exact wp_ret (ret_ct (q := (isF 0 0 1)) (r := (isE (.int .i64 8))) (by kernel_rfl) hS (List.Mem.head _) (List.Mem.tail _ (List.Mem.tail _ (List.Mem.tail _ (List.Mem.head _)))) (fun _ _ h1 h2 => ⟨_, rfl, IsT.mk2 (IsF.q0 h1) h2, hS.grow⟩))
set_option maxRecDepth 100000 in
set_option maxHeartbeats 4000000 in
theorem of_neg {w : World} {v0 v1 : Value} {z n : Int} {k j : Nat} (h0 : (isW z k) w v0) (h1 : (isW n j) w v1) (hk : k ≤ 268435456) (hj : j ≤ 268435456) (hn : n < 0) : Calls Tryz.prog 30 #[v0, v1] w (Ret w fun v w' => (IsT [(isQ (z / (n : Rat)) (max k j + 1)), (isE (.int .i64 0))]) w' v) := by
  refine enter (s := soft) (n := 27) (c := (.seq (.region 0 (regionOps Tryz.f30 0) false) (.seq (.seq (.region 1 (regionOps Tryz.f30 1) false) (.cond (.tmp 10) (.seq (.region 2 (regionOps Tryz.f30 2) false) .ret) .skip)) (.seq (.seq (.region 3 (regionOps Tryz.f30 3) false) (.cond (.tmp 14) (.region 4 (regionOps Tryz.f30 4) false) .skip)) (.seq (.region 5 (regionOps Tryz.f30 5) true) (.seq (.region 6 (regionOps Tryz.f30 6) false) .ret)))))) Tryz.func30 (by kernel_rfl) (by kernel_rfl) (by simp) [(0, (isW z k)), (1, (isW n j))] ⟨⟨by simp, h0⟩, ⟨by simp, h1⟩, trivial⟩ ?_
  intro kf a hS
  refine plain_seq (m := 4) (by kernel_rfl) ?_
  refine box0 (p := 2) (y := 0) (t := 28) (q := (isW z k)) hS (by kernel_rfl) rfl rfl rfl (List.Mem.head _) shW trivial ⟨(stb_W _ _), (stb_W _ _), trivial⟩ ?_
  clear hS kf a
  try clear w
  intro kf a w hS
  refine box0 (p := 3) (y := 1) (t := 28) (q := (isW n j)) hS (by kernel_rfl) rfl rfl rfl (List.Mem.tail _ (List.Mem.head _)) shW ⟨(stb_W _ _), trivial⟩ ⟨(stb_W _ _), (stb_W _ _), trivial⟩ ?_
  clear hS kf a
  try clear w
  intro kf a w hS
  refine alloc0 (p := 4) (t := 30) hS (by kernel_rfl) rfl rfl rfl (by kernel_rfl) ⟨(stb_W _ _), (stb_W _ _), trivial⟩ ⟨(stb_W _ _), (stb_W _ _), trivial⟩ ?_
  clear hS kf a
  try clear w
  intro kf a w hS
  refine const0 (p := 5) (c := (.int .i64 0)) hS (by kernel_rfl) rfl rfl rfl ?_
  clear hS kf a
  try clear w
  intro kf a w hS
  refine plain_end ?_
  refine wp_seq ?_
  refine region_seq (s := soft) (kf0 := kf) (by kernel_rfl) hS (Rg.look [(8, (isW n j)),
      (9, (isE (.int .i64 (Int.sign n)))),
      (10, (isE (.bool (decide (((Int.sign n) : Int) = 0)))))])
    ⟨[], []⟩ [⟨4, 30, isX⟩, ⟨3, 28, (isW n j)⟩, ⟨2, 28, (isW z k)⟩] [(5, (isE (.int .i64 0))), (0, (isW z k)), (1, (isW n j)), (10, (isE (.bool (decide (((Int.sign n) : Int) = 0)))))] (by kernel_rfl) (by kernel_rfl) (look_stb _ ⟨(stb_W _ _), (stb_eq _), (stb_eq _), trivial⟩) ⟨stb_true, (stb_W _ _), (stb_W _ _), trivial⟩ ⟨(stb_eq _), (stb_W _ _), (stb_W _ _), trivial⟩ trivial trivial
    ⟨.inr (.inl ⟨rfl, _, (List.Mem.head _), rfl, rfl, (fun _ _ h => h)⟩), .inr (.inl ⟨rfl, _, (List.Mem.tail _ (List.Mem.head _)), rfl, rfl, (fun _ _ h => h)⟩), .inr (.inl ⟨rfl, _, (List.Mem.tail _ (List.Mem.tail _ (List.Mem.head _))), rfl, rfl, (fun _ _ h => h)⟩), trivial⟩
    ⟨.inr ⟨(by kernel_rfl), _, (List.Mem.head _), rfl, (fun _ _ h => h)⟩, .inr ⟨(by kernel_rfl), _, (List.Mem.tail _ (List.Mem.head _)), rfl, (fun _ _ h => h)⟩, .inr ⟨(by kernel_rfl), _, (List.Mem.tail _ (List.Mem.tail _ (List.Mem.head _))), rfl, (fun _ _ h => h)⟩, .inl ⟨(by kernel_rfl), rfl, (fun _ _ h => h)⟩, trivial⟩
    (steps (m := 3) (by kernel_rfl) ⟨stepN (i := 0) (dst := some 8) (op := (.load 28 (.tmp 3))) (by kernel_rfl) (loadV (List.Mem.tail _ (List.Mem.head _)) (by kernel_rfl) (fun _ _ h => h)),
      stepN (i := 1) (dst := some 9) (op := (.call { callee := .value (.func 28), args := #[(.tmp 8)], argTypes := #[28] })) (by kernel_rfl) (call1 (enters_of Tryz.func28 (by kernel_rfl) rfl) (argT (p := (isW n j)) (by kernel_rfl) (fun _ _ h => h)) (fun w u1 h1 => sign_w h1) (fun _ _ h => h)),
      stepN (i := 2) (dst := some 10) (op := (.binOp .eql 3 (.tmp 9) (.const (.int .i64 0)) 3)) (by kernel_rfl) (eql (m := (Int.sign n)) (n := 0) (argT (p := (isE (.int .i64 (Int.sign n)))) (by kernel_rfl) (fun _ _ h => h)) (argC (.int .i64 0)) (fun _ _ h => h)), trivial⟩) ?_
  clear hS kf a
  try clear w
  intro kf a w hS
  refine cond_false (q := (isE (.bool (decide (((Int.sign n) : Int) = 0))))) hS (List.Mem.tail _ (List.Mem.tail _ (List.Mem.tail _ (List.Mem.head _)))) (fun _ _ h => h.trans (congrArg _ (by simp [Int.sign_eq_zero_iff_zero]; omega))) ?_
  refine skip_then ?_
  refine wp_seq ?_
  refine region_seq (s := soft) (kf0 := kf) (by kernel_rfl) hS (Rg.look [(12, (isW n j)),
      (13, (isE (.int .i64 (Int.sign n)))),
      (14, (isE (.bool (decide (((Int.sign n) : Int) < 0)))))])
    ⟨[], []⟩ [⟨4, 30, isX⟩, ⟨3, 28, (isW n j)⟩, ⟨2, 28, (isW z k)⟩] [(5, (isE (.int .i64 0))), (0, (isW z k)), (1, (isW n j)), (10, (isE (.bool (decide (((Int.sign n) : Int) = 0))))), (14, (isE (.bool (decide (((Int.sign n) : Int) < 0)))))] (by kernel_rfl) (by kernel_rfl) (look_stb _ ⟨(stb_W _ _), (stb_eq _), (stb_eq _), trivial⟩) ⟨stb_true, (stb_W _ _), (stb_W _ _), trivial⟩ ⟨(stb_eq _), (stb_W _ _), (stb_W _ _), (stb_eq _), trivial⟩ trivial trivial
    ⟨.inr (.inl ⟨rfl, _, (List.Mem.head _), rfl, rfl, (fun _ _ h => h)⟩), .inr (.inl ⟨rfl, _, (List.Mem.tail _ (List.Mem.head _)), rfl, rfl, (fun _ _ h => h)⟩), .inr (.inl ⟨rfl, _, (List.Mem.tail _ (List.Mem.tail _ (List.Mem.head _))), rfl, rfl, (fun _ _ h => h)⟩), trivial⟩
    ⟨.inr ⟨(by kernel_rfl), _, (List.Mem.head _), rfl, (fun _ _ h => h)⟩, .inr ⟨(by kernel_rfl), _, (List.Mem.tail _ (List.Mem.head _)), rfl, (fun _ _ h => h)⟩, .inr ⟨(by kernel_rfl), _, (List.Mem.tail _ (List.Mem.tail _ (List.Mem.head _))), rfl, (fun _ _ h => h)⟩, .inr ⟨(by kernel_rfl), _, (List.Mem.tail _ (List.Mem.tail _ (List.Mem.tail _ (List.Mem.head _)))), rfl, (fun _ _ h => h)⟩, .inl ⟨(by kernel_rfl), rfl, (fun _ _ h => h)⟩, trivial⟩
    (steps (m := 3) (by kernel_rfl) ⟨stepN (i := 0) (dst := some 12) (op := (.load 28 (.tmp 3))) (by kernel_rfl) (loadV (List.Mem.tail _ (List.Mem.head _)) (by kernel_rfl) (fun _ _ h => h)),
      stepN (i := 1) (dst := some 13) (op := (.call { callee := .value (.func 28), args := #[(.tmp 12)], argTypes := #[28] })) (by kernel_rfl) (call1 (enters_of Tryz.func28 (by kernel_rfl) rfl) (argT (p := (isW n j)) (by kernel_rfl) (fun _ _ h => h)) (fun w u1 h1 => sign_w h1) (fun _ _ h => h)),
      stepN (i := 2) (dst := some 14) (op := (.binOp .lss 3 (.tmp 13) (.const (.int .i64 0)) 3)) (by kernel_rfl) (lss (m := (Int.sign n)) (n := 0) (argT (p := (isE (.int .i64 (Int.sign n)))) (by kernel_rfl) (fun _ _ h => h)) (argC (.int .i64 0)) (fun _ _ h => h)), trivial⟩) ?_
  clear hS kf a
  try clear w
  intro kf a w hS
  refine cond_true (q := (isE (.bool (decide (((Int.sign n) : Int) < 0))))) hS (List.Mem.tail _ (List.Mem.tail _ (List.Mem.tail _ (List.Mem.tail _ (List.Mem.head _))))) (fun _ _ h => h.trans (congrArg _ (by simp [Int.sign_neg_iff]; omega))) ?_
  refine region_then (s := soft) (kf0 := kf) (by kernel_rfl) hS (Rg.look [(15, (isW z k)),
      (16, (isW (-z) k))])
    ⟨[], [(2, 2, 16, 28)]⟩ [⟨4, 30, isX⟩, ⟨3, 28, (isW n j)⟩, ⟨2, 28, (isW (-z) k)⟩] [(5, (isE (.int .i64 0))), (0, (isW z k)), (1, (isW n j)), (10, (isE (.bool (decide (((Int.sign n) : Int) = 0))))), (14, (isE (.bool (decide (((Int.sign n) : Int) < 0)))))] (by kernel_rfl) (by kernel_rfl) (look_stb _ ⟨(stb_W _ _), (stb_W _ _), trivial⟩) ⟨stb_true, (stb_W _ _), (stb_W _ _), trivial⟩ ⟨(stb_eq _), (stb_W _ _), (stb_W _ _), (stb_eq _), (stb_eq _), trivial⟩ trivial ⟨shW, trivial⟩
    ⟨.inr (.inl ⟨rfl, _, (List.Mem.head _), rfl, rfl, (fun _ _ h => h)⟩), .inr (.inl ⟨rfl, _, (List.Mem.tail _ (List.Mem.head _)), rfl, rfl, (fun _ _ h => h)⟩), .inl ⟨_, (List.Mem.head _), rfl, rfl, (fun _ _ h => h)⟩, trivial⟩
    ⟨.inr ⟨(by kernel_rfl), _, (List.Mem.head _), rfl, (fun _ _ h => h)⟩, .inr ⟨(by kernel_rfl), _, (List.Mem.tail _ (List.Mem.head _)), rfl, (fun _ _ h => h)⟩, .inr ⟨(by kernel_rfl), _, (List.Mem.tail _ (List.Mem.tail _ (List.Mem.head _))), rfl, (fun _ _ h => h)⟩, .inr ⟨(by kernel_rfl), _, (List.Mem.tail _ (List.Mem.tail _ (List.Mem.tail _ (List.Mem.head _)))), rfl, (fun _ _ h => h)⟩, .inr ⟨(by kernel_rfl), _, (List.Mem.tail _ (List.Mem.tail _ (List.Mem.tail _ (List.Mem.tail _ (List.Mem.head _))))), rfl, (fun _ _ h => h)⟩, trivial⟩
    (steps (m := 3) (by kernel_rfl) ⟨stepN (i := 0) (dst := some 15) (op := (.load 28 (.tmp 2))) (by kernel_rfl) (loadV (List.Mem.tail _ (List.Mem.tail _ (List.Mem.head _))) (by kernel_rfl) (fun _ _ h => h)),
      stepN (i := 1) (dst := some 16) (op := (.call { callee := .value (.func 56), args := #[(.tmp 15)], argTypes := #[28] })) (by kernel_rfl) (call1 (enters_of Tryz.func56 (by kernel_rfl) rfl) (argT (p := (isW z k)) (by kernel_rfl) (fun _ _ h => h)) (fun w u1 h1 => neg_w h1) (fun _ _ h => h)),
      isStore rfl, trivial⟩) ?_
  clear hS kf a
  try clear w
  intro kf a w hS
  refine region_seq (s := soft) (kf0 := kf) (by kernel_rfl) hS (Rg.look [(18, (isW (-z) k)),
      (19, (isW n j)),
      (20, (isN (Int.natAbs n) j)),
      (21, (IsT [(isW ((-z) / (Nat.gcd (Int.natAbs (-z)) (Int.natAbs n) : Nat)) k), (isN ((Int.natAbs n) / Nat.gcd (Int.natAbs (-z)) (Int.natAbs n)) j)])),
      (17, (IsT [(isW ((-z) / (Nat.gcd (Int.natAbs (-z)) (Int.natAbs n) : Nat)) k), (isN ((Int.natAbs n) / Nat.gcd (Int.natAbs (-z)) (Int.natAbs n)) j)])),
      (22, (isW ((-z) / (Nat.gcd (Int.natAbs (-z)) (Int.natAbs n) : Nat)) k)),
      (23, (isN ((Int.natAbs n) / Nat.gcd (Int.natAbs (-z)) (Int.natAbs n)) j)),
      (6, isX),
      (7, isX)])
    ⟨[(7, 6, 28), (8, 7, 26)], [(9, 6, 22, 28), (10, 7, 23, 26)]⟩ [⟨4, 30, isX⟩, ⟨3, 28, (isW n j)⟩, ⟨2, 28, (isW (-z) k)⟩, ⟨6, 28, (isW ((-z) / (Nat.gcd (Int.natAbs (-z)) (Int.natAbs n) : Nat)) k)⟩, ⟨7, 26, (isN ((Int.natAbs n) / Nat.gcd (Int.natAbs (-z)) (Int.natAbs n)) j)⟩] [(5, (isE (.int .i64 0))), (0, (isW z k)), (1, (isW n j)), (10, (isE (.bool (decide (((Int.sign n) : Int) = 0))))), (14, (isE (.bool (decide (((Int.sign n) : Int) < 0)))))] (by kernel_rfl) (by kernel_rfl) (look_stb _ ⟨(stb_W _ _), (stb_W _ _), (stb_N _ _), (stb_T ⟨(stb_W _ _), (stb_N _ _), trivial⟩), (stb_T ⟨(stb_W _ _), (stb_N _ _), trivial⟩), (stb_W _ _), (stb_N _ _), stb_true, stb_true, trivial⟩) ⟨stb_true, (stb_W _ _), (stb_W _ _), trivial⟩ ⟨(stb_eq _), (stb_W _ _), (stb_W _ _), (stb_eq _), (stb_eq _), trivial⟩ ⟨fun _ _ => trivial, fun _ _ => trivial, trivial⟩ ⟨shW, shN, trivial⟩
    ⟨.inr (.inl ⟨rfl, _, (List.Mem.head _), rfl, rfl, (fun _ _ h => h)⟩), .inr (.inl ⟨rfl, _, (List.Mem.tail _ (List.Mem.head _)), rfl, rfl, (fun _ _ h => h)⟩), .inr (.inl ⟨rfl, _, (List.Mem.tail _ (List.Mem.tail _ (List.Mem.head _))), rfl, rfl, (fun _ _ h => h)⟩), .inl ⟨_, (List.Mem.head _), rfl, rfl, (fun _ _ h => h)⟩, .inl ⟨_, (List.Mem.tail _ (List.Mem.head _)), rfl, rfl, (fun _ _ h => h)⟩, trivial⟩
    ⟨.inr ⟨(by kernel_rfl), _, (List.Mem.head _), rfl, (fun _ _ h => h)⟩, .inr ⟨(by kernel_rfl), _, (List.Mem.tail _ (List.Mem.head _)), rfl, (fun _ _ h => h)⟩, .inr ⟨(by kernel_rfl), _, (List.Mem.tail _ (List.Mem.tail _ (List.Mem.head _))), rfl, (fun _ _ h => h)⟩, .inr ⟨(by kernel_rfl), _, (List.Mem.tail _ (List.Mem.tail _ (List.Mem.tail _ (List.Mem.head _)))), rfl, (fun _ _ h => h)⟩, .inr ⟨(by kernel_rfl), _, (List.Mem.tail _ (List.Mem.tail _ (List.Mem.tail _ (List.Mem.tail _ (List.Mem.head _))))), rfl, (fun _ _ h => h)⟩, trivial⟩
    (steps (m := 11) (by kernel_rfl) ⟨stepN (i := 0) (dst := some 18) (op := (.load 28 (.tmp 2))) (by kernel_rfl) (loadV (List.Mem.tail _ (List.Mem.tail _ (List.Mem.head _))) (by kernel_rfl) (fun _ _ h => h)),
      stepN (i := 1) (dst := some 19) (op := (.load 28 (.tmp 3))) (by kernel_rfl) (loadV (List.Mem.tail _ (List.Mem.head _)) (by kernel_rfl) (fun _ _ h => h)),
      stepN (i := 2) (dst := some 20) (op := (.call { callee := .value (.func 35), args := #[(.tmp 19)], argTypes := #[28] })) (by kernel_rfl) (call1 (enters_of Tryz.func35 (by kernel_rfl) rfl) (argT (p := (isW n j)) (by kernel_rfl) (fun _ _ h => h)) (fun w u1 h1 => abs_w h1) (fun _ _ h => h)),
      stepN (i := 3) (dst := some 21) (op := (.call { callee := .value (.func 50), args := #[(.tmp 18), (.tmp 20)], argTypes := #[28, 26] })) (by kernel_rfl) (call2 (enters_of Tryz.func50 (by kernel_rfl) rfl) (argT (p := (isW (-z) k)) (by kernel_rfl) (fun _ _ h => h)) (argT (p := (isN (Int.natAbs n) j)) (by kernel_rfl) (fun _ _ h => h)) (fun w u1 u2 h1 h2 => cancel_z h1 h2 (by omega) (by omega) (by omega)) (fun _ _ h => h)),
      stepN (i := 4) (dst := some 17) (op := (.move (.tmp 21))) (by kernel_rfl) (move (argT (p := (IsT [(isW ((-z) / (Nat.gcd (Int.natAbs (-z)) (Int.natAbs n) : Nat)) k), (isN ((Int.natAbs n) / Nat.gcd (Int.natAbs (-z)) (Int.natAbs n)) j)])) (by kernel_rfl) (fun _ _ h => h)) (fun _ _ h => h)),
      stepN (i := 5) (dst := some 22) (op := (.extract (.tmp 17) 0)) (by kernel_rfl) (extract (by kernel_rfl) (fun _ _ h => h) rfl (fun _ _ h => h)),
      stepN (i := 6) (dst := some 23) (op := (.extract (.tmp 17) 1)) (by kernel_rfl) (extract (by kernel_rfl) (fun _ _ h => h) rfl (fun _ _ h => h)),
      isAlloc rfl,
      isAlloc rfl,
      isStore rfl,
      isStore rfl, trivial⟩) ?_
  clear hS kf a
  try clear w
  intro kf a w hS
  refine region_seq (s := soft) (kf0 := kf) (by kernel_rfl) hS (Rg.look [(24, (isW ((-z) / (Nat.gcd (Int.natAbs (-z)) (Int.natAbs n) : Nat)) k)),
      (25, (isN ((Int.natAbs n) / Nat.gcd (Int.natAbs (-z)) (Int.natAbs n)) j)),
      (26, (isF ((-z) / (Nat.gcd (Int.natAbs (-z)) (Int.natAbs n) : Nat)) ((Int.natAbs n) / Nat.gcd (Int.natAbs (-z)) (Int.natAbs n)) (max k j))),
      (5, (isE (.int .i64 0)))])
    ⟨[], [(3, 4, 26, 30)]⟩ [⟨4, 30, (isF ((-z) / (Nat.gcd (Int.natAbs (-z)) (Int.natAbs n) : Nat)) ((Int.natAbs n) / Nat.gcd (Int.natAbs (-z)) (Int.natAbs n)) (max k j))⟩, ⟨3, 28, (isW n j)⟩, ⟨2, 28, (isW (-z) k)⟩, ⟨6, 28, (isW ((-z) / (Nat.gcd (Int.natAbs (-z)) (Int.natAbs n) : Nat)) k)⟩, ⟨7, 26, (isN ((Int.natAbs n) / Nat.gcd (Int.natAbs (-z)) (Int.natAbs n)) j)⟩] [(0, (isW z k)), (1, (isW n j)), (10, (isE (.bool (decide (((Int.sign n) : Int) = 0))))), (14, (isE (.bool (decide (((Int.sign n) : Int) < 0))))), (5, (isE (.int .i64 0)))] (by kernel_rfl) (by kernel_rfl) (look_stb _ ⟨(stb_W _ _), (stb_N _ _), (stb_F _ _ _), (stb_eq _), trivial⟩) ⟨stb_true, (stb_W _ _), (stb_W _ _), (stb_W _ _), (stb_N _ _), trivial⟩ ⟨(stb_eq _), (stb_W _ _), (stb_W _ _), (stb_eq _), (stb_eq _), trivial⟩ trivial ⟨shF, trivial⟩
    ⟨.inl ⟨_, (List.Mem.head _), rfl, rfl, (fun _ _ h => h)⟩, .inr (.inl ⟨rfl, _, (List.Mem.tail _ (List.Mem.head _)), rfl, rfl, (fun _ _ h => h)⟩), .inr (.inl ⟨rfl, _, (List.Mem.tail _ (List.Mem.tail _ (List.Mem.head _))), rfl, rfl, (fun _ _ h => h)⟩), .inr (.inl ⟨rfl, _, (List.Mem.tail _ (List.Mem.tail _ (List.Mem.tail _ (List.Mem.head _)))), rfl, rfl, (fun _ _ h => h)⟩), .inr (.inl ⟨rfl, _, (List.Mem.tail _ (List.Mem.tail _ (List.Mem.tail _ (List.Mem.tail _ (List.Mem.head _))))), rfl, rfl, (fun _ _ h => h)⟩), trivial⟩
    ⟨.inr ⟨(by kernel_rfl), _, (List.Mem.tail _ (List.Mem.head _)), rfl, (fun _ _ h => h)⟩, .inr ⟨(by kernel_rfl), _, (List.Mem.tail _ (List.Mem.tail _ (List.Mem.head _))), rfl, (fun _ _ h => h)⟩, .inr ⟨(by kernel_rfl), _, (List.Mem.tail _ (List.Mem.tail _ (List.Mem.tail _ (List.Mem.head _)))), rfl, (fun _ _ h => h)⟩, .inr ⟨(by kernel_rfl), _, (List.Mem.tail _ (List.Mem.tail _ (List.Mem.tail _ (List.Mem.tail _ (List.Mem.head _))))), rfl, (fun _ _ h => h)⟩, .inl ⟨(by kernel_rfl), rfl, (fun _ _ h => h)⟩, trivial⟩
    (steps (m := 5) (by kernel_rfl) ⟨stepN (i := 0) (dst := some 24) (op := (.load 28 (.tmp 6))) (by kernel_rfl) (loadV (List.Mem.tail _ (List.Mem.tail _ (List.Mem.tail _ (List.Mem.head _)))) (by kernel_rfl) (fun _ _ h => h)),
      stepN (i := 1) (dst := some 25) (op := (.load 26 (.tmp 7))) (by kernel_rfl) (loadV (List.Mem.tail _ (List.Mem.tail _ (List.Mem.tail _ (List.Mem.tail _ (List.Mem.head _))))) (by kernel_rfl) (fun _ _ h => h)),
      stepN (i := 2) (dst := some 26) (op := (.build 30 #[(0, (.tmp 24)), (1, (.tmp 25))])) (by kernel_rfl) (buildF (m := max k j) (argT (p := (isW ((-z) / (Nat.gcd (Int.natAbs (-z)) (Int.natAbs n) : Nat)) k)) (by kernel_rfl) (fun _ _ h => h)) (argT (p := (isN ((Int.natAbs n) / Nat.gcd (Int.natAbs (-z)) (Int.natAbs n)) j)) (by kernel_rfl) (fun _ _ h => h)) (by omega) (by omega) (fun _ _ h => h)),
      isStore rfl,
      stepN (i := 4) (dst := some 5) (op := (.assign (.const (.int .i64 0)))) (by kernel_rfl) (assign (argC (.int .i64 0)) (fun _ _ h => h)), trivial⟩) ?_
  clear hS kf a
  try clear w
  intro kf a w hS
  exact wp_ret (ret_ct (q := (isF ((-z) / (Nat.gcd (Int.natAbs (-z)) (Int.natAbs n) : Nat)) ((Int.natAbs n) / Nat.gcd (Int.natAbs (-z)) (Int.natAbs n)) (max k j))) (r := (isE (.int .i64 0))) (by kernel_rfl) hS (List.Mem.head _) (List.Mem.tail _ (List.Mem.tail _ (List.Mem.tail _ (List.Mem.tail _ (List.Mem.head _))))) (fun _ _ h1 h2 => ⟨_, rfl, IsT.mk2 (IsF.of h1 (by omega) (of_rat_neg hn)) h2, hS.grow⟩))
set_option maxRecDepth 100000 in
set_option maxHeartbeats 4000000 in
theorem of_pos {w : World} {v0 v1 : Value} {z n : Int} {k j : Nat} (h0 : (isW z k) w v0) (h1 : (isW n j) w v1) (hk : k ≤ 268435456) (hj : j ≤ 268435456) (hn : 0 < n) : Calls Tryz.prog 30 #[v0, v1] w (Ret w fun v w' => (IsT [(isQ (z / (n : Rat)) (max k j + 1)), (isE (.int .i64 0))]) w' v) := by
  refine enter (s := soft) (n := 27) (c := (.seq (.region 0 (regionOps Tryz.f30 0) false) (.seq (.seq (.region 1 (regionOps Tryz.f30 1) false) (.cond (.tmp 10) (.seq (.region 2 (regionOps Tryz.f30 2) false) .ret) .skip)) (.seq (.seq (.region 3 (regionOps Tryz.f30 3) false) (.cond (.tmp 14) (.region 4 (regionOps Tryz.f30 4) false) .skip)) (.seq (.region 5 (regionOps Tryz.f30 5) true) (.seq (.region 6 (regionOps Tryz.f30 6) false) .ret)))))) Tryz.func30 (by kernel_rfl) (by kernel_rfl) (by simp) [(0, (isW z k)), (1, (isW n j))] ⟨⟨by simp, h0⟩, ⟨by simp, h1⟩, trivial⟩ ?_
  intro kf a hS
  refine plain_seq (m := 4) (by kernel_rfl) ?_
  refine box0 (p := 2) (y := 0) (t := 28) (q := (isW z k)) hS (by kernel_rfl) rfl rfl rfl (List.Mem.head _) shW trivial ⟨(stb_W _ _), (stb_W _ _), trivial⟩ ?_
  clear hS kf a
  try clear w
  intro kf a w hS
  refine box0 (p := 3) (y := 1) (t := 28) (q := (isW n j)) hS (by kernel_rfl) rfl rfl rfl (List.Mem.tail _ (List.Mem.head _)) shW ⟨(stb_W _ _), trivial⟩ ⟨(stb_W _ _), (stb_W _ _), trivial⟩ ?_
  clear hS kf a
  try clear w
  intro kf a w hS
  refine alloc0 (p := 4) (t := 30) hS (by kernel_rfl) rfl rfl rfl (by kernel_rfl) ⟨(stb_W _ _), (stb_W _ _), trivial⟩ ⟨(stb_W _ _), (stb_W _ _), trivial⟩ ?_
  clear hS kf a
  try clear w
  intro kf a w hS
  refine const0 (p := 5) (c := (.int .i64 0)) hS (by kernel_rfl) rfl rfl rfl ?_
  clear hS kf a
  try clear w
  intro kf a w hS
  refine plain_end ?_
  refine wp_seq ?_
  refine region_seq (s := soft) (kf0 := kf) (by kernel_rfl) hS (Rg.look [(8, (isW n j)),
      (9, (isE (.int .i64 (Int.sign n)))),
      (10, (isE (.bool (decide (((Int.sign n) : Int) = 0)))))])
    ⟨[], []⟩ [⟨4, 30, isX⟩, ⟨3, 28, (isW n j)⟩, ⟨2, 28, (isW z k)⟩] [(5, (isE (.int .i64 0))), (0, (isW z k)), (1, (isW n j)), (10, (isE (.bool (decide (((Int.sign n) : Int) = 0)))))] (by kernel_rfl) (by kernel_rfl) (look_stb _ ⟨(stb_W _ _), (stb_eq _), (stb_eq _), trivial⟩) ⟨stb_true, (stb_W _ _), (stb_W _ _), trivial⟩ ⟨(stb_eq _), (stb_W _ _), (stb_W _ _), trivial⟩ trivial trivial
    ⟨.inr (.inl ⟨rfl, _, (List.Mem.head _), rfl, rfl, (fun _ _ h => h)⟩), .inr (.inl ⟨rfl, _, (List.Mem.tail _ (List.Mem.head _)), rfl, rfl, (fun _ _ h => h)⟩), .inr (.inl ⟨rfl, _, (List.Mem.tail _ (List.Mem.tail _ (List.Mem.head _))), rfl, rfl, (fun _ _ h => h)⟩), trivial⟩
    ⟨.inr ⟨(by kernel_rfl), _, (List.Mem.head _), rfl, (fun _ _ h => h)⟩, .inr ⟨(by kernel_rfl), _, (List.Mem.tail _ (List.Mem.head _)), rfl, (fun _ _ h => h)⟩, .inr ⟨(by kernel_rfl), _, (List.Mem.tail _ (List.Mem.tail _ (List.Mem.head _))), rfl, (fun _ _ h => h)⟩, .inl ⟨(by kernel_rfl), rfl, (fun _ _ h => h)⟩, trivial⟩
    (steps (m := 3) (by kernel_rfl) ⟨stepN (i := 0) (dst := some 8) (op := (.load 28 (.tmp 3))) (by kernel_rfl) (loadV (List.Mem.tail _ (List.Mem.head _)) (by kernel_rfl) (fun _ _ h => h)),
      stepN (i := 1) (dst := some 9) (op := (.call { callee := .value (.func 28), args := #[(.tmp 8)], argTypes := #[28] })) (by kernel_rfl) (call1 (enters_of Tryz.func28 (by kernel_rfl) rfl) (argT (p := (isW n j)) (by kernel_rfl) (fun _ _ h => h)) (fun w u1 h1 => sign_w h1) (fun _ _ h => h)),
      stepN (i := 2) (dst := some 10) (op := (.binOp .eql 3 (.tmp 9) (.const (.int .i64 0)) 3)) (by kernel_rfl) (eql (m := (Int.sign n)) (n := 0) (argT (p := (isE (.int .i64 (Int.sign n)))) (by kernel_rfl) (fun _ _ h => h)) (argC (.int .i64 0)) (fun _ _ h => h)), trivial⟩) ?_
  clear hS kf a
  try clear w
  intro kf a w hS
  refine cond_false (q := (isE (.bool (decide (((Int.sign n) : Int) = 0))))) hS (List.Mem.tail _ (List.Mem.tail _ (List.Mem.tail _ (List.Mem.head _)))) (fun _ _ h => h.trans (congrArg _ (by simp [Int.sign_eq_zero_iff_zero]; omega))) ?_
  refine skip_then ?_
  refine wp_seq ?_
  refine region_seq (s := soft) (kf0 := kf) (by kernel_rfl) hS (Rg.look [(12, (isW n j)),
      (13, (isE (.int .i64 (Int.sign n)))),
      (14, (isE (.bool (decide (((Int.sign n) : Int) < 0)))))])
    ⟨[], []⟩ [⟨4, 30, isX⟩, ⟨3, 28, (isW n j)⟩, ⟨2, 28, (isW z k)⟩] [(5, (isE (.int .i64 0))), (0, (isW z k)), (1, (isW n j)), (10, (isE (.bool (decide (((Int.sign n) : Int) = 0))))), (14, (isE (.bool (decide (((Int.sign n) : Int) < 0)))))] (by kernel_rfl) (by kernel_rfl) (look_stb _ ⟨(stb_W _ _), (stb_eq _), (stb_eq _), trivial⟩) ⟨stb_true, (stb_W _ _), (stb_W _ _), trivial⟩ ⟨(stb_eq _), (stb_W _ _), (stb_W _ _), (stb_eq _), trivial⟩ trivial trivial
    ⟨.inr (.inl ⟨rfl, _, (List.Mem.head _), rfl, rfl, (fun _ _ h => h)⟩), .inr (.inl ⟨rfl, _, (List.Mem.tail _ (List.Mem.head _)), rfl, rfl, (fun _ _ h => h)⟩), .inr (.inl ⟨rfl, _, (List.Mem.tail _ (List.Mem.tail _ (List.Mem.head _))), rfl, rfl, (fun _ _ h => h)⟩), trivial⟩
    ⟨.inr ⟨(by kernel_rfl), _, (List.Mem.head _), rfl, (fun _ _ h => h)⟩, .inr ⟨(by kernel_rfl), _, (List.Mem.tail _ (List.Mem.head _)), rfl, (fun _ _ h => h)⟩, .inr ⟨(by kernel_rfl), _, (List.Mem.tail _ (List.Mem.tail _ (List.Mem.head _))), rfl, (fun _ _ h => h)⟩, .inr ⟨(by kernel_rfl), _, (List.Mem.tail _ (List.Mem.tail _ (List.Mem.tail _ (List.Mem.head _)))), rfl, (fun _ _ h => h)⟩, .inl ⟨(by kernel_rfl), rfl, (fun _ _ h => h)⟩, trivial⟩
    (steps (m := 3) (by kernel_rfl) ⟨stepN (i := 0) (dst := some 12) (op := (.load 28 (.tmp 3))) (by kernel_rfl) (loadV (List.Mem.tail _ (List.Mem.head _)) (by kernel_rfl) (fun _ _ h => h)),
      stepN (i := 1) (dst := some 13) (op := (.call { callee := .value (.func 28), args := #[(.tmp 12)], argTypes := #[28] })) (by kernel_rfl) (call1 (enters_of Tryz.func28 (by kernel_rfl) rfl) (argT (p := (isW n j)) (by kernel_rfl) (fun _ _ h => h)) (fun w u1 h1 => sign_w h1) (fun _ _ h => h)),
      stepN (i := 2) (dst := some 14) (op := (.binOp .lss 3 (.tmp 13) (.const (.int .i64 0)) 3)) (by kernel_rfl) (lss (m := (Int.sign n)) (n := 0) (argT (p := (isE (.int .i64 (Int.sign n)))) (by kernel_rfl) (fun _ _ h => h)) (argC (.int .i64 0)) (fun _ _ h => h)), trivial⟩) ?_
  clear hS kf a
  try clear w
  intro kf a w hS
  refine cond_false (q := (isE (.bool (decide (((Int.sign n) : Int) < 0))))) hS (List.Mem.tail _ (List.Mem.tail _ (List.Mem.tail _ (List.Mem.tail _ (List.Mem.head _))))) (fun _ _ h => h.trans (congrArg _ (by simp [Int.sign_neg_iff]; omega))) ?_
  refine skip_then ?_
  refine region_seq (s := soft) (kf0 := kf) (by kernel_rfl) hS (Rg.look [(18, (isW z k)),
      (19, (isW n j)),
      (20, (isN (Int.natAbs n) j)),
      (21, (IsT [(isW (z / (Nat.gcd (Int.natAbs z) (Int.natAbs n) : Nat)) k), (isN ((Int.natAbs n) / Nat.gcd (Int.natAbs z) (Int.natAbs n)) j)])),
      (17, (IsT [(isW (z / (Nat.gcd (Int.natAbs z) (Int.natAbs n) : Nat)) k), (isN ((Int.natAbs n) / Nat.gcd (Int.natAbs z) (Int.natAbs n)) j)])),
      (22, (isW (z / (Nat.gcd (Int.natAbs z) (Int.natAbs n) : Nat)) k)),
      (23, (isN ((Int.natAbs n) / Nat.gcd (Int.natAbs z) (Int.natAbs n)) j)),
      (6, isX),
      (7, isX)])
    ⟨[(7, 6, 28), (8, 7, 26)], [(9, 6, 22, 28), (10, 7, 23, 26)]⟩ [⟨4, 30, isX⟩, ⟨3, 28, (isW n j)⟩, ⟨2, 28, (isW z k)⟩, ⟨6, 28, (isW (z / (Nat.gcd (Int.natAbs z) (Int.natAbs n) : Nat)) k)⟩, ⟨7, 26, (isN ((Int.natAbs n) / Nat.gcd (Int.natAbs z) (Int.natAbs n)) j)⟩] [(5, (isE (.int .i64 0))), (0, (isW z k)), (1, (isW n j)), (10, (isE (.bool (decide (((Int.sign n) : Int) = 0))))), (14, (isE (.bool (decide (((Int.sign n) : Int) < 0)))))] (by kernel_rfl) (by kernel_rfl) (look_stb _ ⟨(stb_W _ _), (stb_W _ _), (stb_N _ _), (stb_T ⟨(stb_W _ _), (stb_N _ _), trivial⟩), (stb_T ⟨(stb_W _ _), (stb_N _ _), trivial⟩), (stb_W _ _), (stb_N _ _), stb_true, stb_true, trivial⟩) ⟨stb_true, (stb_W _ _), (stb_W _ _), trivial⟩ ⟨(stb_eq _), (stb_W _ _), (stb_W _ _), (stb_eq _), (stb_eq _), trivial⟩ ⟨fun _ _ => trivial, fun _ _ => trivial, trivial⟩ ⟨shW, shN, trivial⟩
    ⟨.inr (.inl ⟨rfl, _, (List.Mem.head _), rfl, rfl, (fun _ _ h => h)⟩), .inr (.inl ⟨rfl, _, (List.Mem.tail _ (List.Mem.head _)), rfl, rfl, (fun _ _ h => h)⟩), .inr (.inl ⟨rfl, _, (List.Mem.tail _ (List.Mem.tail _ (List.Mem.head _))), rfl, rfl, (fun _ _ h => h)⟩), .inl ⟨_, (List.Mem.head _), rfl, rfl, (fun _ _ h => h)⟩, .inl ⟨_, (List.Mem.tail _ (List.Mem.head _)), rfl, rfl, (fun _ _ h => h)⟩, trivial⟩
    ⟨.inr ⟨(by kernel_rfl), _, (List.Mem.head _), rfl, (fun _ _ h => h)⟩, .inr ⟨(by kernel_rfl), _, (List.Mem.tail _ (List.Mem.head _)), rfl, (fun _ _ h => h)⟩, .inr ⟨(by kernel_rfl), _, (List.Mem.tail _ (List.Mem.tail _ (List.Mem.head _))), rfl, (fun _ _ h => h)⟩, .inr ⟨(by kernel_rfl), _, (List.Mem.tail _ (List.Mem.tail _ (List.Mem.tail _ (List.Mem.head _)))), rfl, (fun _ _ h => h)⟩, .inr ⟨(by kernel_rfl), _, (List.Mem.tail _ (List.Mem.tail _ (List.Mem.tail _ (List.Mem.tail _ (List.Mem.head _))))), rfl, (fun _ _ h => h)⟩, trivial⟩
    (steps (m := 11) (by kernel_rfl) ⟨stepN (i := 0) (dst := some 18) (op := (.load 28 (.tmp 2))) (by kernel_rfl) (loadV (List.Mem.tail _ (List.Mem.tail _ (List.Mem.head _))) (by kernel_rfl) (fun _ _ h => h)),
      stepN (i := 1) (dst := some 19) (op := (.load 28 (.tmp 3))) (by kernel_rfl) (loadV (List.Mem.tail _ (List.Mem.head _)) (by kernel_rfl) (fun _ _ h => h)),
      stepN (i := 2) (dst := some 20) (op := (.call { callee := .value (.func 35), args := #[(.tmp 19)], argTypes := #[28] })) (by kernel_rfl) (call1 (enters_of Tryz.func35 (by kernel_rfl) rfl) (argT (p := (isW n j)) (by kernel_rfl) (fun _ _ h => h)) (fun w u1 h1 => abs_w h1) (fun _ _ h => h)),
      stepN (i := 3) (dst := some 21) (op := (.call { callee := .value (.func 50), args := #[(.tmp 18), (.tmp 20)], argTypes := #[28, 26] })) (by kernel_rfl) (call2 (enters_of Tryz.func50 (by kernel_rfl) rfl) (argT (p := (isW z k)) (by kernel_rfl) (fun _ _ h => h)) (argT (p := (isN (Int.natAbs n) j)) (by kernel_rfl) (fun _ _ h => h)) (fun w u1 u2 h1 h2 => cancel_z h1 h2 (by omega) (by omega) (by omega)) (fun _ _ h => h)),
      stepN (i := 4) (dst := some 17) (op := (.move (.tmp 21))) (by kernel_rfl) (move (argT (p := (IsT [(isW (z / (Nat.gcd (Int.natAbs z) (Int.natAbs n) : Nat)) k), (isN ((Int.natAbs n) / Nat.gcd (Int.natAbs z) (Int.natAbs n)) j)])) (by kernel_rfl) (fun _ _ h => h)) (fun _ _ h => h)),
      stepN (i := 5) (dst := some 22) (op := (.extract (.tmp 17) 0)) (by kernel_rfl) (extract (by kernel_rfl) (fun _ _ h => h) rfl (fun _ _ h => h)),
      stepN (i := 6) (dst := some 23) (op := (.extract (.tmp 17) 1)) (by kernel_rfl) (extract (by kernel_rfl) (fun _ _ h => h) rfl (fun _ _ h => h)),
      isAlloc rfl,
      isAlloc rfl,
      isStore rfl,
      isStore rfl, trivial⟩) ?_
  clear hS kf a
  try clear w
  intro kf a w hS
  refine region_seq (s := soft) (kf0 := kf) (by kernel_rfl) hS (Rg.look [(24, (isW (z / (Nat.gcd (Int.natAbs z) (Int.natAbs n) : Nat)) k)),
      (25, (isN ((Int.natAbs n) / Nat.gcd (Int.natAbs z) (Int.natAbs n)) j)),
      (26, (isF (z / (Nat.gcd (Int.natAbs z) (Int.natAbs n) : Nat)) ((Int.natAbs n) / Nat.gcd (Int.natAbs z) (Int.natAbs n)) (max k j))),
      (5, (isE (.int .i64 0)))])
    ⟨[], [(3, 4, 26, 30)]⟩ [⟨4, 30, (isF (z / (Nat.gcd (Int.natAbs z) (Int.natAbs n) : Nat)) ((Int.natAbs n) / Nat.gcd (Int.natAbs z) (Int.natAbs n)) (max k j))⟩, ⟨3, 28, (isW n j)⟩, ⟨2, 28, (isW z k)⟩, ⟨6, 28, (isW (z / (Nat.gcd (Int.natAbs z) (Int.natAbs n) : Nat)) k)⟩, ⟨7, 26, (isN ((Int.natAbs n) / Nat.gcd (Int.natAbs z) (Int.natAbs n)) j)⟩] [(0, (isW z k)), (1, (isW n j)), (10, (isE (.bool (decide (((Int.sign n) : Int) = 0))))), (14, (isE (.bool (decide (((Int.sign n) : Int) < 0))))), (5, (isE (.int .i64 0)))] (by kernel_rfl) (by kernel_rfl) (look_stb _ ⟨(stb_W _ _), (stb_N _ _), (stb_F _ _ _), (stb_eq _), trivial⟩) ⟨stb_true, (stb_W _ _), (stb_W _ _), (stb_W _ _), (stb_N _ _), trivial⟩ ⟨(stb_eq _), (stb_W _ _), (stb_W _ _), (stb_eq _), (stb_eq _), trivial⟩ trivial ⟨shF, trivial⟩
    ⟨.inl ⟨_, (List.Mem.head _), rfl, rfl, (fun _ _ h => h)⟩, .inr (.inl ⟨rfl, _, (List.Mem.tail _ (List.Mem.head _)), rfl, rfl, (fun _ _ h => h)⟩), .inr (.inl ⟨rfl, _, (List.Mem.tail _ (List.Mem.tail _ (List.Mem.head _))), rfl, rfl, (fun _ _ h => h)⟩), .inr (.inl ⟨rfl, _, (List.Mem.tail _ (List.Mem.tail _ (List.Mem.tail _ (List.Mem.head _)))), rfl, rfl, (fun _ _ h => h)⟩), .inr (.inl ⟨rfl, _, (List.Mem.tail _ (List.Mem.tail _ (List.Mem.tail _ (List.Mem.tail _ (List.Mem.head _))))), rfl, rfl, (fun _ _ h => h)⟩), trivial⟩
    ⟨.inr ⟨(by kernel_rfl), _, (List.Mem.tail _ (List.Mem.head _)), rfl, (fun _ _ h => h)⟩, .inr ⟨(by kernel_rfl), _, (List.Mem.tail _ (List.Mem.tail _ (List.Mem.head _))), rfl, (fun _ _ h => h)⟩, .inr ⟨(by kernel_rfl), _, (List.Mem.tail _ (List.Mem.tail _ (List.Mem.tail _ (List.Mem.head _)))), rfl, (fun _ _ h => h)⟩, .inr ⟨(by kernel_rfl), _, (List.Mem.tail _ (List.Mem.tail _ (List.Mem.tail _ (List.Mem.tail _ (List.Mem.head _))))), rfl, (fun _ _ h => h)⟩, .inl ⟨(by kernel_rfl), rfl, (fun _ _ h => h)⟩, trivial⟩
    (steps (m := 5) (by kernel_rfl) ⟨stepN (i := 0) (dst := some 24) (op := (.load 28 (.tmp 6))) (by kernel_rfl) (loadV (List.Mem.tail _ (List.Mem.tail _ (List.Mem.tail _ (List.Mem.head _)))) (by kernel_rfl) (fun _ _ h => h)),
      stepN (i := 1) (dst := some 25) (op := (.load 26 (.tmp 7))) (by kernel_rfl) (loadV (List.Mem.tail _ (List.Mem.tail _ (List.Mem.tail _ (List.Mem.tail _ (List.Mem.head _))))) (by kernel_rfl) (fun _ _ h => h)),
      stepN (i := 2) (dst := some 26) (op := (.build 30 #[(0, (.tmp 24)), (1, (.tmp 25))])) (by kernel_rfl) (buildF (m := max k j) (argT (p := (isW (z / (Nat.gcd (Int.natAbs z) (Int.natAbs n) : Nat)) k)) (by kernel_rfl) (fun _ _ h => h)) (argT (p := (isN ((Int.natAbs n) / Nat.gcd (Int.natAbs z) (Int.natAbs n)) j)) (by kernel_rfl) (fun _ _ h => h)) (by omega) (by omega) (fun _ _ h => h)),
      isStore rfl,
      stepN (i := 4) (dst := some 5) (op := (.assign (.const (.int .i64 0)))) (by kernel_rfl) (assign (argC (.int .i64 0)) (fun _ _ h => h)), trivial⟩) ?_
  clear hS kf a
  try clear w
  intro kf a w hS
  exact wp_ret (ret_ct (q := (isF (z / (Nat.gcd (Int.natAbs z) (Int.natAbs n) : Nat)) ((Int.natAbs n) / Nat.gcd (Int.natAbs z) (Int.natAbs n)) (max k j))) (r := (isE (.int .i64 0))) (by kernel_rfl) hS (List.Mem.head _) (List.Mem.tail _ (List.Mem.tail _ (List.Mem.tail _ (List.Mem.tail _ (List.Mem.head _))))) (fun _ _ h1 h2 => ⟨_, rfl, IsT.mk2 (IsF.of h1 (by omega) (of_rat_pos hn)) h2, hS.grow⟩))
set_option maxRecDepth 100000 in
set_option maxHeartbeats 4000000 in
theorem floor_q {w : World} {v0 : Value} {q : Rat} {k : Nat} (h0 : (isQ q k) w v0) (hk : k ≤ 268435456) : Calls Tryz.prog 22 #[v0] w (Ret w fun v w' => (isW (Rat.floor q) (max k 1 + 1)) w' v) := by
  have hm : signed q.den false ≠ 0 := by have := q.den_pos; simp only [signed, Bool.false_eq_true, if_false]; omega
  refine enter (s := soft) (n := 17) (c := (.seq (.region 0 (regionOps Tryz.f22 0) false) (.seq (.region 1 (regionOps Tryz.f22 1) true) (.seq (.region 2 (regionOps Tryz.f22 2) false) .ret)))) Tryz.func22 (by kernel_rfl) (by kernel_rfl) (by simp) [(0, (isQ q k))] ⟨⟨by simp, h0⟩, trivial⟩ ?_
  intro kf a hS
  refine plain_seq (m := 2) (by kernel_rfl) ?_
  refine box0 (p := 1) (y := 0) (t := 30) (q := (isQ q k)) hS (by kernel_rfl) rfl rfl rfl (List.Mem.head _) shQ trivial ⟨(stb_Q _ _), trivial⟩ ?_
  clear hS kf a
  try clear w
  intro kf a w hS
  refine alloc0 (p := 2) (t := 28) hS (by kernel_rfl) rfl rfl rfl (by kernel_rfl) ⟨(stb_Q _ _), trivial⟩ ⟨(stb_Q _ _), trivial⟩ ?_
  clear hS kf a
  try clear w
  intro kf a w hS
  refine plain_end ?_
  refine region_seq (s := soft) (kf0 := kf) (by kernel_rfl) hS (Rg.look [(7, (isE (.pointer (some ⟨kf 1, 0, none⟩)))),
      (8, (isW q.num k)),
      (9, (isQ q k)),
      (10, (isN q.den k)),
      (11, (isW (signed q.den false) k)),
      (12, (IsT [(isW (zdiv q.num (signed q.den false)) (max k 1 + 1)), (isW (zmod q.num (signed q.den false)) (max k k + 1)), (isE (.int .i64 0))])),
      (6, (IsT [(isW (zdiv q.num (signed q.den false)) (max k 1 + 1)), (isW (zmod q.num (signed q.den false)) (max k k + 1)), (isE (.int .i64 0))])),
      (13, (isW (zdiv q.num (signed q.den false)) (max k 1 + 1))),
      (14, (isW (zmod q.num (signed q.den false)) (max k k + 1))),
      (15, (isE (.int .i64 0))),
      (3, isX),
      (4, isX),
      (5, (isE (.int .i64 0)))])
    ⟨[(10, 3, 28), (11, 4, 28)], [(12, 3, 13, 28), (13, 4, 14, 28)]⟩ [⟨2, 28, isX⟩, ⟨1, 30, (isQ q k)⟩, ⟨3, 28, (isW (zdiv q.num (signed q.den false)) (max k 1 + 1))⟩, ⟨4, 28, (isW (zmod q.num (signed q.den false)) (max k k + 1))⟩] [(0, (isQ q k))] (by kernel_rfl) (by kernel_rfl) (look_stb _ ⟨(stb_eq _), (stb_W _ _), (stb_Q _ _), (stb_N _ _), (stb_W _ _), (stb_T ⟨(stb_W _ _), (stb_W _ _), (stb_eq _), trivial⟩), (stb_T ⟨(stb_W _ _), (stb_W _ _), (stb_eq _), trivial⟩), (stb_W _ _), (stb_W _ _), (stb_eq _), stb_true, stb_true, (stb_eq _), trivial⟩) ⟨stb_true, (stb_Q _ _), trivial⟩ ⟨(stb_Q _ _), trivial⟩ ⟨fun _ _ => trivial, fun _ _ => trivial, trivial⟩ ⟨shW, shW, trivial⟩
    ⟨.inr (.inl ⟨rfl, _, (List.Mem.head _), rfl, rfl, (fun _ _ h => h)⟩), .inr (.inl ⟨rfl, _, (List.Mem.tail _ (List.Mem.head _)), rfl, rfl, (fun _ _ h => h)⟩), .inl ⟨_, (List.Mem.head _), rfl, rfl, (fun _ _ h => h)⟩, .inl ⟨_, (List.Mem.tail _ (List.Mem.head _)), rfl, rfl, (fun _ _ h => h)⟩, trivial⟩
    ⟨.inr ⟨(by kernel_rfl), _, (List.Mem.head _), rfl, (fun _ _ h => h)⟩, trivial⟩
    (steps (m := 15) (by kernel_rfl) ⟨stepN (i := 0) (dst := some 7) (op := (.fieldAddr 30 (.tmp 1) 0)) (by kernel_rfl) (fieldV (off := 0) (sz := 2) (List.Mem.tail _ (List.Mem.head _)) (by kernel_rfl) (fun _ _ h => h)),
      stepN (i := 1) (dst := some 8) (op := (.load 28 (.tmp 7))) (by kernel_rfl) (loadF (sz := 2) (r := (isW q.num k)) (by kernel_rfl) (fun _ _ h => h) (List.Mem.tail _ (List.Mem.head _)) (by kernel_rfl) (by kernel_rfl) (by kernel_rfl) rfl fldQW (fun _ _ h => h)),
      stepN (i := 2) (dst := some 9) (op := (.load 30 (.tmp 1))) (by kernel_rfl) (loadV (List.Mem.tail _ (List.Mem.head _)) (by kernel_rfl) (fun _ _ h => h)),
      stepN (i := 3) (dst := some 10) (op := (.call { callee := .value (.func 33), args := #[(.tmp 9)], argTypes := #[30] })) (by kernel_rfl) (call1 (enters_of Tryz.func33 (by kernel_rfl) rfl) (argT (p := (isQ q k)) (by kernel_rfl) (fun _ _ h => h)) (fun w u1 h1 => den_q h1) (fun _ _ h => h)),
      stepN (i := 4) (dst := some 11) (op := (.call { callee := .value (.func 26), args := #[(.tmp 10), (.const (.bool false))], argTypes := #[26, 4] })) (by kernel_rfl) (call2 (enters_of Tryz.func26 (by kernel_rfl) rfl) (argT (p := (isN q.den k)) (by kernel_rfl) (fun _ _ h => h)) (argC (.bool false)) (fun w u1 u2 h1 h2 => by subst h2; exact of_w h1) (fun _ _ h => h)),
      stepN (i := 5) (dst := some 12) (op := (.call { callee := .value (.func 58), args := #[(.tmp 8), (.tmp 11)], argTypes := #[28, 28] })) (by kernel_rfl) (call2 (enters_of Tryz.func58 (by kernel_rfl) rfl) (argT (p := (isW q.num k)) (by kernel_rfl) (fun _ _ h => h)) (argT (p := (isW (signed q.den false) k)) (by kernel_rfl) (fun _ _ h => h)) (fun w u1 u2 h1 h2 => floor_w h1 h2 (by omega) (by omega) hm) (fun _ _ ⟨_, _, e, g1, g2⟩ => e ▸ IsT.mk3 g1 g2 rfl)),
      stepN (i := 6) (dst := some 6) (op := (.move (.tmp 12))) (by kernel_rfl) (move (argT (p := (IsT [(isW (zdiv q.num (signed q.den false)) (max k 1 + 1)), (isW (zmod q.num (signed q.den false)) (max k k + 1)), (isE (.int .i64 0))])) (by kernel_rfl) (fun _ _ h => h)) (fun _ _ h => h)),
      stepN (i := 7) (dst := some 13) (op := (.extract (.tmp 6) 0)) (by kernel_rfl) (extract (by kernel_rfl) (fun _ _ h => h) rfl (fun _ _ h => h)),
      stepN (i := 8) (dst := some 14) (op := (.extract (.tmp 6) 1)) (by kernel_rfl) (extract (by kernel_rfl) (fun _ _ h => h) rfl (fun _ _ h => h)),
      stepN (i := 9) (dst := some 15) (op := (.extract (.tmp 6) 2)) (by kernel_rfl) (extract (by kernel_rfl) (fun _ _ h => h) rfl (fun _ _ h => h)),
      isAlloc rfl,
      isAlloc rfl,
      isStore rfl,
      isStore rfl,
      stepN (i := 14) (dst := some 5) (op := (.assign (.tmp 15))) (by kernel_rfl) (assign (argT (p := (isE (.int .i64 0))) (by kernel_rfl) (fun _ _ h => h)) (fun _ _ h => h)), trivial⟩) ?_
  clear hS kf a
  try clear w
  intro kf a w hS
  refine region_seq (s := soft) (kf0 := kf) (by kernel_rfl) hS (Rg.look [(16, (isW (zdiv q.num (signed q.den false)) (max k 1 + 1)))])
    ⟨[], [(1, 2, 16, 28)]⟩ [⟨2, 28, (isW (zdiv q.num (signed q.den false)) (max k 1 + 1))⟩, ⟨1, 30, (isQ q k)⟩, ⟨3, 28, (isW (zdiv q.num (signed q.den false)) (max k 1 + 1))⟩, ⟨4, 28, (isW (zmod q.num (signed q.den false)) (max k k + 1))⟩] [(0, (isQ q k))] (by kernel_rfl) (by kernel_rfl) (look_stb _ ⟨(stb_W _ _), trivial⟩) ⟨stb_true, (stb_Q _ _), (stb_W _ _), (stb_W _ _), trivial⟩ ⟨(stb_Q _ _), trivial⟩ trivial ⟨shW, trivial⟩
    ⟨.inl ⟨_, (List.Mem.head _), rfl, rfl, (fun _ _ h => h)⟩, .inr (.inl ⟨rfl, _, (List.Mem.tail _ (List.Mem.head _)), rfl, rfl, (fun _ _ h => h)⟩), .inr (.inl ⟨rfl, _, (List.Mem.tail _ (List.Mem.tail _ (List.Mem.head _))), rfl, rfl, (fun _ _ h => h)⟩), .inr (.inl ⟨rfl, _, (List.Mem.tail _ (List.Mem.tail _ (List.Mem.tail _ (List.Mem.head _)))), rfl, rfl, (fun _ _ h => h)⟩), trivial⟩
    ⟨.inr ⟨(by kernel_rfl), _, (List.Mem.head _), rfl, (fun _ _ h => h)⟩, trivial⟩
    (steps (m := 2) (by kernel_rfl) ⟨stepN (i := 0) (dst := some 16) (op := (.load 28 (.tmp 3))) (by kernel_rfl) (loadV (List.Mem.tail _ (List.Mem.tail _ (List.Mem.head _))) (by kernel_rfl) (fun _ _ h => h)),
      isStore rfl, trivial⟩) ?_
  clear hS kf a
  try clear w
  intro kf a w hS
  exact wp_ret (ret_c (q := (isW (zdiv q.num (signed q.den false)) (max k 1 + 1))) (by kernel_rfl) hS (List.Mem.head _) (fun v h => ⟨v, rfl, (floor_zdiv q ▸ h), hS.grow⟩))
set_option maxRecDepth 100000 in
set_option maxHeartbeats 4000000 in
theorem print_q1 {w : World} {v0 : Value} {q : Rat} {k : Nat} (h0 : (isQ q k) w v0) (hk : k ≤ 268435456) (hd : q.den = 1) : Calls Tryz.prog 8 #[v0] w (Ret w fun v w' => (isT (qtext q)) w' v) := by
  refine enter (s := soft) (n := 20) (c := (.seq (.region 0 (regionOps Tryz.f8 0) false) (.seq (.seq (.region 1 (regionOps Tryz.f8 1) false) (.cond (.tmp 8) (.seq (.region 2 (regionOps Tryz.f8 2) false) .ret) .skip)) (.seq (.region 3 (regionOps Tryz.f8 3) true) .ret)))) Tryz.func8 (by kernel_rfl) (by kernel_rfl) (by simp) [(0, (isQ q k))] ⟨⟨by simp, h0⟩, trivial⟩ ?_
  intro kf a hS
  refine plain_seq (m := 2) (by kernel_rfl) ?_
  refine box0 (p := 1) (y := 0) (t := 30) (q := (isQ q k)) hS (by kernel_rfl) rfl rfl rfl (List.Mem.head _) shQ trivial ⟨(stb_Q _ _), trivial⟩ ?_
  clear hS kf a
  try clear w
  intro kf a w hS
  refine const0 (p := 2) (c := (.string (str []))) hS (by kernel_rfl) rfl rfl rfl ?_
  clear hS kf a
  try clear w
  intro kf a w hS
  refine plain_end ?_
  refine wp_seq ?_
  refine region_seq (s := soft) (kf0 := kf) (by kernel_rfl) hS (Rg.look [(3, (isQ q k)),
      (4, (isN q.den k)),
      (5, (isS ([1]))),
      (6, (isN 1 1)),
      (7, (isE (.int .i64 (Mx.cmp q.den 1)))),
      (8, (isE (.bool (decide (((Mx.cmp q.den 1) : Int) = 0)))))])
    ⟨[], []⟩ [⟨1, 30, (isQ q k)⟩] [(2, (isE (.string (str [])))), (0, (isQ q k)), (8, (isE (.bool (decide (((Mx.cmp q.den 1) : Int) = 0)))))] (by kernel_rfl) (by kernel_rfl) (look_stb _ ⟨(stb_Q _ _), (stb_N _ _), (stb_S _), (stb_N _ _), (stb_eq _), (stb_eq _), trivial⟩) ⟨(stb_Q _ _), trivial⟩ ⟨(stb_eq _), (stb_Q _ _), trivial⟩ trivial trivial
    ⟨.inr (.inl ⟨rfl, _, (List.Mem.head _), rfl, rfl, (fun _ _ h => h)⟩), trivial⟩
    ⟨.inr ⟨(by kernel_rfl), _, (List.Mem.head _), rfl, (fun _ _ h => h)⟩, .inr ⟨(by kernel_rfl), _, (List.Mem.tail _ (List.Mem.head _)), rfl, (fun _ _ h => h)⟩, .inl ⟨(by kernel_rfl), rfl, (fun _ _ h => h)⟩, trivial⟩
    (steps (m := 6) (by kernel_rfl) ⟨stepN (i := 0) (dst := some 3) (op := (.load 30 (.tmp 1))) (by kernel_rfl) (loadV (List.Mem.head _) (by kernel_rfl) (fun _ _ h => h)),
      stepN (i := 1) (dst := some 4) (op := (.call { callee := .value (.func 33), args := #[(.tmp 3)], argTypes := #[30] })) (by kernel_rfl) (call1 (enters_of Tryz.func33 (by kernel_rfl) rfl) (argT (p := (isQ q k)) (by kernel_rfl) (fun _ _ h => h)) (fun w u1 h1 => den_q h1) (fun _ _ h => h)),
      stepN (i := 2) (dst := some 5) (op := (.buildSlice 22 1 #[(0, (.const (.int .u64 1)))])) (by kernel_rfl) (buildOneZ (x := 1) (small_lt (by decide)) (fun _ _ h => h)),
      stepN (i := 3) (dst := some 6) (op := (.call { callee := .value (.func 27), args := #[(.tmp 5)], argTypes := #[22] })) (by kernel_rfl) (call1 (enters_of Tryz.func27 (by kernel_rfl) rfl) (argT (p := (isS ([1]))) (by kernel_rfl) (fun _ _ h => h)) (fun w u1 h1 => of_one h1) (fun _ _ h => h)),
      stepN (i := 4) (dst := some 7) (op := (.call { callee := .value (.func 36), args := #[(.tmp 4), (.tmp 6)], argTypes := #[26, 26] })) (by kernel_rfl) (call2 (enters_of Tryz.func36 (by kernel_rfl) rfl) (argT (p := (isN q.den k)) (by kernel_rfl) (fun _ _ h => h)) (argT (p := (isN 1 1)) (by kernel_rfl) (fun _ _ h => h)) (fun w u1 u2 h1 h2 => cmp_n h1 h2 (by omega)) (fun _ _ h => h)),
      stepN (i := 5) (dst := some 8) (op := (.binOp .eql 3 (.tmp 7) (.const (.int .i64 0)) 3)) (by kernel_rfl) (eql (m := (Mx.cmp q.den 1)) (n := 0) (argT (p := (isE (.int .i64 (Mx.cmp q.den 1)))) (by kernel_rfl) (fun _ _ h => h)) (argC (.int .i64 0)) (fun _ _ h => h)), trivial⟩) ?_
  clear hS kf a
  try clear w
  intro kf a w hS
  refine cond_true (q := (isE (.bool (decide (((Mx.cmp q.den 1) : Int) = 0))))) hS (List.Mem.tail _ (List.Mem.tail _ (List.Mem.head _))) (fun _ _ h => h.trans (congrArg _ (by rw [Mx.cmp_eq hd]; rfl))) ?_
  refine region_seq (s := soft) (kf0 := kf) (by kernel_rfl) hS (Rg.look [(9, (isE (.pointer (some ⟨kf 1, 0, none⟩)))),
      (10, (isW q.num k)),
      (11, (isT (ztext q.num))),
      (2, (isT (ztext q.num)))])
    ⟨[], []⟩ [⟨1, 30, (isQ q k)⟩] [(0, (isQ q k)), (8, (isE (.bool (decide (((Mx.cmp q.den 1) : Int) = 0))))), (2, (isT (ztext q.num)))] (by kernel_rfl) (by kernel_rfl) (look_stb _ ⟨(stb_eq _), (stb_W _ _), (stb_eq _), (stb_eq _), trivial⟩) ⟨(stb_Q _ _), trivial⟩ ⟨(stb_eq _), (stb_Q _ _), (stb_eq _), trivial⟩ trivial trivial
    ⟨.inr (.inl ⟨rfl, _, (List.Mem.head _), rfl, rfl, (fun _ _ h => h)⟩), trivial⟩
    ⟨.inr ⟨(by kernel_rfl), _, (List.Mem.tail _ (List.Mem.head _)), rfl, (fun _ _ h => h)⟩, .inr ⟨(by kernel_rfl), _, (List.Mem.tail _ (List.Mem.tail _ (List.Mem.head _))), rfl, (fun _ _ h => h)⟩, .inl ⟨(by kernel_rfl), rfl, (fun _ _ h => h)⟩, trivial⟩
    (steps (m := 4) (by kernel_rfl) ⟨stepN (i := 0) (dst := some 9) (op := (.fieldAddr 30 (.tmp 1) 0)) (by kernel_rfl) (fieldV (off := 0) (sz := 2) (List.Mem.head _) (by kernel_rfl) (fun _ _ h => h)),
      stepN (i := 1) (dst := some 10) (op := (.load 28 (.tmp 9))) (by kernel_rfl) (loadF (sz := 2) (r := (isW q.num k)) (by kernel_rfl) (fun _ _ h => h) (List.Mem.head _) (by kernel_rfl) (by kernel_rfl) (by kernel_rfl) rfl fldQW (fun _ _ h => h)),
      stepN (i := 2) (dst := some 11) (op := (.call { callee := .value (.func 23), args := #[(.tmp 10)], argTypes := #[28] })) (by kernel_rfl) (call1 (enters_of Tryz.func23 (by kernel_rfl) rfl) (argT (p := (isW q.num k)) (by kernel_rfl) (fun _ _ h => h)) (fun w u1 h1 => print_w h1 (by omega)) (fun _ _ h => h)),
      stepN (i := 3) (dst := some 2) (op := (.assign (.tmp 11))) (by kernel_rfl) (assign (argT (p := (isT (ztext q.num))) (by kernel_rfl) (fun _ _ h => h)) (fun _ _ h => h)), trivial⟩) ?_
  clear hS kf a
  try clear w
  intro kf a w hS
  exact wp_ret (ret_t (q := (isT (ztext q.num))) (by kernel_rfl) hS (List.Mem.tail _ (List.Mem.tail _ (List.Mem.head _))) (fun v h => ⟨v, rfl, (by rw [qtext, if_pos hd]; exact h), hS.grow⟩))
set_option maxRecDepth 100000 in
set_option maxHeartbeats 4000000 in
theorem print_q2 {w : World} {v0 : Value} {q : Rat} {k : Nat} (h0 : (isQ q k) w v0) (hk : k ≤ 268435456) (hd : q.den ≠ 1) : Calls Tryz.prog 8 #[v0] w (Ret w fun v w' => (isT (qtext q)) w' v) := by
  have hl1 := ztext_len h0.num_len
  have hl2 := text_len h0.den_len
  refine enter (s := soft) (n := 20) (c := (.seq (.region 0 (regionOps Tryz.f8 0) false) (.seq (.seq (.region 1 (regionOps Tryz.f8 1) false) (.cond (.tmp 8) (.seq (.region 2 (regionOps Tryz.f8 2) false) .ret) .skip)) (.seq (.region 3 (regionOps Tryz.f8 3) true) .ret)))) Tryz.func8 (by kernel_rfl) (by kernel_rfl) (by simp) [(0, (isQ q k))] ⟨⟨by simp, h0⟩, trivial⟩ ?_
  intro kf a hS
  refine plain_seq (m := 2) (by kernel_rfl) ?_
  refine box0 (p := 1) (y := 0) (t := 30) (q := (isQ q k)) hS (by kernel_rfl) rfl rfl rfl (List.Mem.head _) shQ trivial ⟨(stb_Q _ _), trivial⟩ ?_
  clear hS kf a
  try clear w
  intro kf a w hS
  refine const0 (p := 2) (c := (.string (str []))) hS (by kernel_rfl) rfl rfl rfl ?_
  clear hS kf a
  try clear w
  intro kf a w hS
  refine plain_end ?_
  refine wp_seq ?_
  refine region_seq (s := soft) (kf0 := kf) (by kernel_rfl) hS (Rg.look [(3, (isQ q k)),
      (4, (isN q.den k)),
      (5, (isS ([1]))),
      (6, (isN 1 1)),
      (7, (isE (.int .i64 (Mx.cmp q.den 1)))),
      (8, (isE (.bool (decide (((Mx.cmp q.den 1) : Int) = 0)))))])
    ⟨[], []⟩ [⟨1, 30, (isQ q k)⟩] [(2, (isE (.string (str [])))), (0, (isQ q k)), (8, (isE (.bool (decide (((Mx.cmp q.den 1) : Int) = 0)))))] (by kernel_rfl) (by kernel_rfl) (look_stb _ ⟨(stb_Q _ _), (stb_N _ _), (stb_S _), (stb_N _ _), (stb_eq _), (stb_eq _), trivial⟩) ⟨(stb_Q _ _), trivial⟩ ⟨(stb_eq _), (stb_Q _ _), trivial⟩ trivial trivial
    ⟨.inr (.inl ⟨rfl, _, (List.Mem.head _), rfl, rfl, (fun _ _ h => h)⟩), trivial⟩
    ⟨.inr ⟨(by kernel_rfl), _, (List.Mem.head _), rfl, (fun _ _ h => h)⟩, .inr ⟨(by kernel_rfl), _, (List.Mem.tail _ (List.Mem.head _)), rfl, (fun _ _ h => h)⟩, .inl ⟨(by kernel_rfl), rfl, (fun _ _ h => h)⟩, trivial⟩
    (steps (m := 6) (by kernel_rfl) ⟨stepN (i := 0) (dst := some 3) (op := (.load 30 (.tmp 1))) (by kernel_rfl) (loadV (List.Mem.head _) (by kernel_rfl) (fun _ _ h => h)),
      stepN (i := 1) (dst := some 4) (op := (.call { callee := .value (.func 33), args := #[(.tmp 3)], argTypes := #[30] })) (by kernel_rfl) (call1 (enters_of Tryz.func33 (by kernel_rfl) rfl) (argT (p := (isQ q k)) (by kernel_rfl) (fun _ _ h => h)) (fun w u1 h1 => den_q h1) (fun _ _ h => h)),
      stepN (i := 2) (dst := some 5) (op := (.buildSlice 22 1 #[(0, (.const (.int .u64 1)))])) (by kernel_rfl) (buildOneZ (x := 1) (small_lt (by decide)) (fun _ _ h => h)),
      stepN (i := 3) (dst := some 6) (op := (.call { callee := .value (.func 27), args := #[(.tmp 5)], argTypes := #[22] })) (by kernel_rfl) (call1 (enters_of Tryz.func27 (by kernel_rfl) rfl) (argT (p := (isS ([1]))) (by kernel_rfl) (fun _ _ h => h)) (fun w u1 h1 => of_one h1) (fun _ _ h => h)),
      stepN (i := 4) (dst := some 7) (op := (.call { callee := .value (.func 36), args := #[(.tmp 4), (.tmp 6)], argTypes := #[26, 26] })) (by kernel_rfl) (call2 (enters_of Tryz.func36 (by kernel_rfl) rfl) (argT (p := (isN q.den k)) (by kernel_rfl) (fun _ _ h => h)) (argT (p := (isN 1 1)) (by kernel_rfl) (fun _ _ h => h)) (fun w u1 u2 h1 h2 => cmp_n h1 h2 (by omega)) (fun _ _ h => h)),
      stepN (i := 5) (dst := some 8) (op := (.binOp .eql 3 (.tmp 7) (.const (.int .i64 0)) 3)) (by kernel_rfl) (eql (m := (Mx.cmp q.den 1)) (n := 0) (argT (p := (isE (.int .i64 (Mx.cmp q.den 1)))) (by kernel_rfl) (fun _ _ h => h)) (argC (.int .i64 0)) (fun _ _ h => h)), trivial⟩) ?_
  clear hS kf a
  try clear w
  intro kf a w hS
  refine cond_false (q := (isE (.bool (decide (((Mx.cmp q.den 1) : Int) = 0))))) hS (List.Mem.tail _ (List.Mem.tail _ (List.Mem.head _))) (fun _ _ h => h.trans (congrArg _ (cmp_zero hd))) ?_
  refine skip_then ?_
  refine region_seq (s := soft) (kf0 := kf) (by kernel_rfl) hS (Rg.look [(12, (isE (.pointer (some ⟨kf 1, 0, none⟩)))),
      (13, (isW q.num k)),
      (14, (isT (ztext q.num))),
      (15, (isT (ztext q.num ++ [47]))),
      (16, (isQ q k)),
      (17, (isN q.den k)),
      (18, (isT (Tx.text q.den))),
      (19, (isT (ztext q.num ++ [47] ++ Tx.text q.den))),
      (2, (isT (ztext q.num ++ [47] ++ Tx.text q.den)))])
    ⟨[], []⟩ [⟨1, 30, (isQ q k)⟩] [(0, (isQ q k)), (8, (isE (.bool (decide (((Mx.cmp q.den 1) : Int) = 0))))), (2, (isT (ztext q.num ++ [47] ++ Tx.text q.den)))] (by kernel_rfl) (by kernel_rfl) (look_stb _ ⟨(stb_eq _), (stb_W _ _), (stb_eq _), (stb_eq _), (stb_Q _ _), (stb_N _ _), (stb_eq _), (stb_eq _), (stb_eq _), trivial⟩) ⟨(stb_Q _ _), trivial⟩ ⟨(stb_eq _), (stb_Q _ _), (stb_eq _), trivial⟩ trivial trivial
    ⟨.inr (.inl ⟨rfl, _, (List.Mem.head _), rfl, rfl, (fun _ _ h => h)⟩), trivial⟩
    ⟨.inr ⟨(by kernel_rfl), _, (List.Mem.tail _ (List.Mem.head _)), rfl, (fun _ _ h => h)⟩, .inr ⟨(by kernel_rfl), _, (List.Mem.tail _ (List.Mem.tail _ (List.Mem.head _))), rfl, (fun _ _ h => h)⟩, .inl ⟨(by kernel_rfl), rfl, (fun _ _ h => h)⟩, trivial⟩
    (steps (m := 9) (by kernel_rfl) ⟨stepN (i := 0) (dst := some 12) (op := (.fieldAddr 30 (.tmp 1) 0)) (by kernel_rfl) (fieldV (off := 0) (sz := 2) (List.Mem.head _) (by kernel_rfl) (fun _ _ h => h)),
      stepN (i := 1) (dst := some 13) (op := (.load 28 (.tmp 12))) (by kernel_rfl) (loadF (sz := 2) (r := (isW q.num k)) (by kernel_rfl) (fun _ _ h => h) (List.Mem.head _) (by kernel_rfl) (by kernel_rfl) (by kernel_rfl) rfl fldQW (fun _ _ h => h)),
      stepN (i := 2) (dst := some 14) (op := (.call { callee := .value (.func 23), args := #[(.tmp 13)], argTypes := #[28] })) (by kernel_rfl) (call1 (enters_of Tryz.func23 (by kernel_rfl) rfl) (argT (p := (isW q.num k)) (by kernel_rfl) (fun _ _ h => h)) (fun w u1 h1 => print_w h1 (by omega)) (fun _ _ h => h)),
      stepN (i := 3) (dst := some 15) (op := (.binOp .add 9 (.tmp 14) (.const (.string (str [47]))) 9)) (by kernel_rfl) (addS (l := ztext q.num) (r := [47]) (argT (p := (isT (ztext q.num))) (by kernel_rfl) (fun _ _ h => h)) (argC _) (by simp; omega) (fun _ _ h => h)),
      stepN (i := 4) (dst := some 16) (op := (.load 30 (.tmp 1))) (by kernel_rfl) (loadV (List.Mem.head _) (by kernel_rfl) (fun _ _ h => h)),
      stepN (i := 5) (dst := some 17) (op := (.call { callee := .value (.func 33), args := #[(.tmp 16)], argTypes := #[30] })) (by kernel_rfl) (call1 (enters_of Tryz.func33 (by kernel_rfl) rfl) (argT (p := (isQ q k)) (by kernel_rfl) (fun _ _ h => h)) (fun w u1 h1 => den_q h1) (fun _ _ h => h)),
      stepN (i := 6) (dst := some 18) (op := (.call { callee := .value (.func 37), args := #[(.tmp 17)], argTypes := #[26] })) (by kernel_rfl) (call1 (enters_of Tryz.func37 (by kernel_rfl) rfl) (argT (p := (isN q.den k)) (by kernel_rfl) (fun _ _ h => h)) (fun w u1 h1 => print_any _ _ _ _ h1 (by omega)) (fun _ _ h => h)),
      stepN (i := 7) (dst := some 19) (op := (.binOp .add 9 (.tmp 15) (.tmp 18) 9)) (by kernel_rfl) (addS (l := ztext q.num ++ [47]) (r := Tx.text q.den) (argT (p := (isT (ztext q.num ++ [47]))) (by kernel_rfl) (fun _ _ h => h)) (argT (p := (isT (Tx.text q.den))) (by kernel_rfl) (fun _ _ h => h)) (by simp; omega) (fun _ _ h => h)),
      stepN (i := 8) (dst := some 2) (op := (.assign (.tmp 19))) (by kernel_rfl) (assign (argT (p := (isT (ztext q.num ++ [47] ++ Tx.text q.den))) (by kernel_rfl) (fun _ _ h => h)) (fun _ _ h => h)), trivial⟩) ?_
  clear hS kf a
  try clear w
  intro kf a w hS
  exact wp_ret (ret_t (q := (isT (ztext q.num ++ [47] ++ Tx.text q.den))) (by kernel_rfl) hS (List.Mem.tail _ (List.Mem.tail _ (List.Mem.head _))) (fun v h => ⟨v, rfl, (by rw [qtext, if_neg hd]; exact h), hS.grow⟩))
theorem print_q {w : World} {v : Value} {q : Rat} {k : Nat} (h : isQ q k w v) (hk : k ≤ 268435456) : Calls Tryz.prog 8 #[v] w (Ret w fun v' w' => isT (qtext q) w' v') := by
  by_cases hd : q.den = 1
  · exact print_q1 h hk hd
  · exact print_q2 h hk hd
end Go.Proofs.YtlkiikchjeapfaaGreatDoor.Z
