/- The law FracSums. Written by a script (tools/laws). -/
import Derived.Test.YtlkiikchjeapfaaGreatDoorFrH
namespace Go.Proofs.YtlkiikchjeapfaaGreatDoor.Z
open Go.RowKit Go.Proofs.YtlkiikchjeapfaaGreatDoor.Rg
set_option maxRecDepth 100000 in
set_option maxHeartbeats 4000000 in
theorem sums5_0 {w : World} {v0 v1 : Value} {a0 b0 : List Nat} {m0 : Bool} {a1 b1 : List Nat} {m1 : Bool} (h0 : (isM a0 b0 m0) w v0) (h1 : (isM a1 b1 m1) w v1) (hy : numQ a1 b1 m1 = 0) : Calls Tryz.prog 3 #[v0, v1] w (Ret w fun v w' => (isE (.bool true)) w' v) := by
  refine enter (s := soft) (n := 118) (c := (.seq (.region 0 (regionOps Tryz.f3 0) false) (.seq (.region 1 (regionOps Tryz.f3 1) false) (.seq (.region 2 (regionOps Tryz.f3 2) false) (.seq (.region 3 (regionOps Tryz.f3 3) false) (.seq (.seq (.region 4 (regionOps Tryz.f3 4) true) (.cond (.tmp 56) (.seq (.region 5 (regionOps Tryz.f3 5) false) .ret) .skip)) (.seq (.region 6 (regionOps Tryz.f3 6) true) .ret))))))) Tryz.func3 (by kernel_rfl) (by kernel_rfl) (by simp) [(0, (isM a0 b0 m0)), (1, (isM a1 b1 m1))] ⟨⟨by simp, h0⟩, ⟨by simp, h1⟩, trivial⟩ ?_
  intro kf ac hS
  refine plain_seq (m := 3) (by kernel_rfl) ?_
  refine box0 (p := 2) (y := 0) (t := 24) (q := (isM a0 b0 m0)) hS (by kernel_rfl) rfl rfl rfl (List.Mem.head _) shM trivial ⟨(stb_M _ _ _), (stb_M _ _ _), trivial⟩ ?_
  clear hS kf ac
  try clear w
  intro kf ac w hS
  refine box0 (p := 3) (y := 1) (t := 24) (q := (isM a1 b1 m1)) hS (by kernel_rfl) rfl rfl rfl (List.Mem.tail _ (List.Mem.head _)) shM ⟨(stb_M _ _ _), trivial⟩ ⟨(stb_M _ _ _), (stb_M _ _ _), trivial⟩ ?_
  clear hS kf ac
  try clear w
  intro kf ac w hS
  refine const0 (p := 4) (c := (.bool false)) hS (by kernel_rfl) rfl rfl rfl ?_
  clear hS kf ac
  try clear w
  intro kf ac w hS
  refine plain_end ?_
  refine region_seq (s := soft) (kf0 := kf) (by kernel_rfl) hS (Rg.look [(12, (isM a0 b0 m0)),
      (13, (IsT [(isQ (numQ a0 b0 m0) 5), (isR (numQ a0 b0 m0) 32)])),
      (11, (IsT [(isQ (numQ a0 b0 m0) 5), (isR (numQ a0 b0 m0) 32)])),
      (14, (isQ (numQ a0 b0 m0) 5)),
      (15, (isR (numQ a0 b0 m0) 32)),
      (5, isX),
      (6, isX)])
    ⟨[(5, 5, 30), (6, 6, 35)], [(7, 5, 14, 30), (8, 6, 15, 35)]⟩ [⟨3, 24, (isM a1 b1 m1)⟩, ⟨2, 24, (isM a0 b0 m0)⟩, ⟨5, 30, (isQ (numQ a0 b0 m0) 5)⟩, ⟨6, 35, (isR (numQ a0 b0 m0) 32)⟩] [(4, (isE (.bool false))), (0, (isM a0 b0 m0)), (1, (isM a1 b1 m1))] (by kernel_rfl) (by kernel_rfl) (look_stb _ ⟨(stb_M _ _ _), (stb_T ⟨(stb_Q _ _), (stb_R _ _), trivial⟩), (stb_T ⟨(stb_Q _ _), (stb_R _ _), trivial⟩), (stb_Q _ _), (stb_R _ _), stb_true, stb_true, trivial⟩) ⟨(stb_M _ _ _), (stb_M _ _ _), trivial⟩ ⟨(stb_eq _), (stb_M _ _ _), (stb_M _ _ _), trivial⟩ ⟨fun _ _ => trivial, fun _ _ => trivial, trivial⟩ ⟨shQ, shR, trivial⟩
    ⟨.inr (.inl ⟨rfl, _, (List.Mem.head _), rfl, rfl, (fun _ _ h => h)⟩), .inr (.inl ⟨rfl, _, (List.Mem.tail _ (List.Mem.head _)), rfl, rfl, (fun _ _ h => h)⟩), .inl ⟨_, (List.Mem.head _), rfl, rfl, (fun _ _ h => h)⟩, .inl ⟨_, (List.Mem.tail _ (List.Mem.head _)), rfl, rfl, (fun _ _ h => h)⟩, trivial⟩
    ⟨.inr ⟨(by kernel_rfl), _, (List.Mem.head _), rfl, (fun _ _ h => h)⟩, .inr ⟨(by kernel_rfl), _, (List.Mem.tail _ (List.Mem.head _)), rfl, (fun _ _ h => h)⟩, .inr ⟨(by kernel_rfl), _, (List.Mem.tail _ (List.Mem.tail _ (List.Mem.head _))), rfl, (fun _ _ h => h)⟩, trivial⟩
    (steps (m := 9) (by kernel_rfl) ⟨stepN (i := 0) (dst := some 12) (op := (.load 24 (.tmp 2))) (by kernel_rfl) (loadV (List.Mem.tail _ (List.Mem.head _)) (by kernel_rfl) (fun _ _ h => h)),
      stepN (i := 1) (dst := some 13) (op := (.call { callee := .value (.func 5), args := #[(.tmp 12)], argTypes := #[24] })) (by kernel_rfl) (call1 (enters_of Tryz.func5 (by kernel_rfl) rfl) (argT (p := (isM a0 b0 m0)) (by kernel_rfl) (fun _ _ h => h)) (fun w u1 h1 => num_m h1) (fun _ _ h => h)),
      stepN (i := 2) (dst := some 11) (op := (.move (.tmp 13))) (by kernel_rfl) (move (argT (p := (IsT [(isQ (numQ a0 b0 m0) 5), (isR (numQ a0 b0 m0) 32)])) (by kernel_rfl) (fun _ _ h => h)) (fun _ _ h => h)),
      stepN (i := 3) (dst := some 14) (op := (.extract (.tmp 11) 0)) (by kernel_rfl) (extract (by kernel_rfl) (fun _ _ h => h) rfl (fun _ _ h => h)),
      stepN (i := 4) (dst := some 15) (op := (.extract (.tmp 11) 1)) (by kernel_rfl) (extract (by kernel_rfl) (fun _ _ h => h) rfl (fun _ _ h => h)),
      isAlloc rfl,
      isAlloc rfl,
      isStore rfl,
      isStore rfl, trivial⟩) ?_
  clear hS kf ac
  try clear w
  intro kf ac w hS
  refine region_seq (s := soft) (kf0 := kf) (by kernel_rfl) hS (Rg.look [(17, (isM a1 b1 m1)),
      (18, (IsT [(isQ (numQ a1 b1 m1) 5), (isR (numQ a1 b1 m1) 32)])),
      (16, (IsT [(isQ (numQ a1 b1 m1) 5), (isR (numQ a1 b1 m1) 32)])),
      (19, (isQ (numQ a1 b1 m1) 5)),
      (20, (isR (numQ a1 b1 m1) 32)),
      (7, isX),
      (8, isX)])
    ⟨[(5, 7, 30), (6, 8, 35)], [(7, 7, 19, 30), (8, 8, 20, 35)]⟩ [⟨3, 24, (isM a1 b1 m1)⟩, ⟨2, 24, (isM a0 b0 m0)⟩, ⟨5, 30, (isQ (numQ a0 b0 m0) 5)⟩, ⟨6, 35, (isR (numQ a0 b0 m0) 32)⟩, ⟨7, 30, (isQ (numQ a1 b1 m1) 5)⟩, ⟨8, 35, (isR (numQ a1 b1 m1) 32)⟩] [(4, (isE (.bool false))), (0, (isM a0 b0 m0)), (1, (isM a1 b1 m1))] (by kernel_rfl) (by kernel_rfl) (look_stb _ ⟨(stb_M _ _ _), (stb_T ⟨(stb_Q _ _), (stb_R _ _), trivial⟩), (stb_T ⟨(stb_Q _ _), (stb_R _ _), trivial⟩), (stb_Q _ _), (stb_R _ _), stb_true, stb_true, trivial⟩) ⟨(stb_M _ _ _), (stb_M _ _ _), (stb_Q _ _), (stb_R _ _), trivial⟩ ⟨(stb_eq _), (stb_M _ _ _), (stb_M _ _ _), trivial⟩ ⟨fun _ _ => trivial, fun _ _ => trivial, trivial⟩ ⟨shQ, shR, trivial⟩
    ⟨.inr (.inl ⟨rfl, _, (List.Mem.head _), rfl, rfl, (fun _ _ h => h)⟩), .inr (.inl ⟨rfl, _, (List.Mem.tail _ (List.Mem.head _)), rfl, rfl, (fun _ _ h => h)⟩), .inr (.inl ⟨rfl, _, (List.Mem.tail _ (List.Mem.tail _ (List.Mem.head _))), rfl, rfl, (fun _ _ h => h)⟩), .inr (.inl ⟨rfl, _, (List.Mem.tail _ (List.Mem.tail _ (List.Mem.tail _ (List.Mem.head _)))), rfl, rfl, (fun _ _ h => h)⟩), .inl ⟨_, (List.Mem.head _), rfl, rfl, (fun _ _ h => h)⟩, .inl ⟨_, (List.Mem.tail _ (List.Mem.head _)), rfl, rfl, (fun _ _ h => h)⟩, trivial⟩
    ⟨.inr ⟨(by kernel_rfl), _, (List.Mem.head _), rfl, (fun _ _ h => h)⟩, .inr ⟨(by kernel_rfl), _, (List.Mem.tail _ (List.Mem.head _)), rfl, (fun _ _ h => h)⟩, .inr ⟨(by kernel_rfl), _, (List.Mem.tail _ (List.Mem.tail _ (List.Mem.head _))), rfl, (fun _ _ h => h)⟩, trivial⟩
    (steps (m := 9) (by kernel_rfl) ⟨stepN (i := 0) (dst := some 17) (op := (.load 24 (.tmp 3))) (by kernel_rfl) (loadV (List.Mem.head _) (by kernel_rfl) (fun _ _ h => h)),
      stepN (i := 1) (dst := some 18) (op := (.call { callee := .value (.func 5), args := #[(.tmp 17)], argTypes := #[24] })) (by kernel_rfl) (call1 (enters_of Tryz.func5 (by kernel_rfl) rfl) (argT (p := (isM a1 b1 m1)) (by kernel_rfl) (fun _ _ h => h)) (fun w u1 h1 => num_m h1) (fun _ _ h => h)),
      stepN (i := 2) (dst := some 16) (op := (.move (.tmp 18))) (by kernel_rfl) (move (argT (p := (IsT [(isQ (numQ a1 b1 m1) 5), (isR (numQ a1 b1 m1) 32)])) (by kernel_rfl) (fun _ _ h => h)) (fun _ _ h => h)),
      stepN (i := 3) (dst := some 19) (op := (.extract (.tmp 16) 0)) (by kernel_rfl) (extract (by kernel_rfl) (fun _ _ h => h) rfl (fun _ _ h => h)),
      stepN (i := 4) (dst := some 20) (op := (.extract (.tmp 16) 1)) (by kernel_rfl) (extract (by kernel_rfl) (fun _ _ h => h) rfl (fun _ _ h => h)),
      isAlloc rfl,
      isAlloc rfl,
      isStore rfl,
      isStore rfl, trivial⟩) ?_
  clear hS kf ac
  try clear w
  intro kf ac w hS
  refine region_seq (s := soft) (kf0 := kf) (by kernel_rfl) hS (Rg.look [(22, (isQ (numQ a0 b0 m0) 5)),
      (23, (isQ (numQ a1 b1 m1) 5)),
      (24, (IsT [(isQ (0 : Rat) 1), (isE (.int .i64 8))])),
      (21, (IsT [(isQ (0 : Rat) 1), (isE (.int .i64 8))])),
      (25, (isQ (0 : Rat) 1)),
      (26, (isE (.int .i64 8))),
      (9, isX),
      (10, (isE (.int .i64 8)))])
    ⟨[(6, 9, 30)], [(7, 9, 25, 30)]⟩ [⟨3, 24, (isM a1 b1 m1)⟩, ⟨2, 24, (isM a0 b0 m0)⟩, ⟨5, 30, (isQ (numQ a0 b0 m0) 5)⟩, ⟨6, 35, (isR (numQ a0 b0 m0) 32)⟩, ⟨7, 30, (isQ (numQ a1 b1 m1) 5)⟩, ⟨8, 35, (isR (numQ a1 b1 m1) 32)⟩, ⟨9, 30, (isQ (0 : Rat) 1)⟩] [(4, (isE (.bool false))), (0, (isM a0 b0 m0)), (1, (isM a1 b1 m1)), (10, (isE (.int .i64 8)))] (by kernel_rfl) (by kernel_rfl) (look_stb _ ⟨(stb_Q _ _), (stb_Q _ _), (stb_T ⟨(stb_Q _ _), (stb_eq _), trivial⟩), (stb_T ⟨(stb_Q _ _), (stb_eq _), trivial⟩), (stb_Q _ _), (stb_eq _), stb_true, (stb_eq _), trivial⟩) ⟨(stb_M _ _ _), (stb_M _ _ _), (stb_Q _ _), (stb_R _ _), (stb_Q _ _), (stb_R _ _), trivial⟩ ⟨(stb_eq _), (stb_M _ _ _), (stb_M _ _ _), trivial⟩ ⟨fun _ _ => trivial, trivial⟩ ⟨shQ, trivial⟩
    ⟨.inr (.inl ⟨rfl, _, (List.Mem.head _), rfl, rfl, (fun _ _ h => h)⟩), .inr (.inl ⟨rfl, _, (List.Mem.tail _ (List.Mem.head _)), rfl, rfl, (fun _ _ h => h)⟩), .inr (.inl ⟨rfl, _, (List.Mem.tail _ (List.Mem.tail _ (List.Mem.head _))), rfl, rfl, (fun _ _ h => h)⟩), .inr (.inl ⟨rfl, _, (List.Mem.tail _ (List.Mem.tail _ (List.Mem.tail _ (List.Mem.head _)))), rfl, rfl, (fun _ _ h => h)⟩), .inr (.inl ⟨rfl, _, (List.Mem.tail _ (List.Mem.tail _ (List.Mem.tail _ (List.Mem.tail _ (List.Mem.head _))))), rfl, rfl, (fun _ _ h => h)⟩), .inr (.inl ⟨rfl, _, (List.Mem.tail _ (List.Mem.tail _ (List.Mem.tail _ (List.Mem.tail _ (List.Mem.tail _ (List.Mem.head _)))))), rfl, rfl, (fun _ _ h => h)⟩), .inl ⟨_, (List.Mem.head _), rfl, rfl, (fun _ _ h => h)⟩, trivial⟩
    ⟨.inr ⟨(by kernel_rfl), _, (List.Mem.head _), rfl, (fun _ _ h => h)⟩, .inr ⟨(by kernel_rfl), _, (List.Mem.tail _ (List.Mem.head _)), rfl, (fun _ _ h => h)⟩, .inr ⟨(by kernel_rfl), _, (List.Mem.tail _ (List.Mem.tail _ (List.Mem.head _))), rfl, (fun _ _ h => h)⟩, .inl ⟨(by kernel_rfl), rfl, (fun _ _ h => h)⟩, trivial⟩
    (steps (m := 9) (by kernel_rfl) ⟨stepN (i := 0) (dst := some 22) (op := (.load 30 (.tmp 5))) (by kernel_rfl) (loadV (List.Mem.tail _ (List.Mem.tail _ (List.Mem.head _))) (by kernel_rfl) (fun _ _ h => h)),
      stepN (i := 1) (dst := some 23) (op := (.load 30 (.tmp 7))) (by kernel_rfl) (loadV (List.Mem.tail _ (List.Mem.tail _ (List.Mem.tail _ (List.Mem.tail _ (List.Mem.head _))))) (by kernel_rfl) (fun _ _ h => h)),
      stepN (i := 2) (dst := some 24) (op := (.call { callee := .value (.func 6), args := #[(.tmp 22), (.tmp 23)], argTypes := #[30, 30] })) (by kernel_rfl) (call2 (enters_of Tryz.func6 (by kernel_rfl) rfl) (argT (p := (isQ (numQ a0 b0 m0) 5)) (by kernel_rfl) (fun _ _ h => h)) (argT (p := (isQ (numQ a1 b1 m1) 5)) (by kernel_rfl) (fun _ _ h => h)) (fun w u1 u2 h1 h2 => quo_zero h1 h2 hy) (fun _ _ h => h)),
      stepN (i := 3) (dst := some 21) (op := (.move (.tmp 24))) (by kernel_rfl) (move (argT (p := (IsT [(isQ (0 : Rat) 1), (isE (.int .i64 8))])) (by kernel_rfl) (fun _ _ h => h)) (fun _ _ h => h)),
      stepN (i := 4) (dst := some 25) (op := (.extract (.tmp 21) 0)) (by kernel_rfl) (extract (by kernel_rfl) (fun _ _ h => h) rfl (fun _ _ h => h)),
      stepN (i := 5) (dst := some 26) (op := (.extract (.tmp 21) 1)) (by kernel_rfl) (extract (by kernel_rfl) (fun _ _ h => h) rfl (fun _ _ h => h)),
      isAlloc rfl,
      isStore rfl,
      stepN (i := 8) (dst := some 10) (op := (.assign (.tmp 26))) (by kernel_rfl) (assign (argT (p := (isE (.int .i64 8))) (by kernel_rfl) (fun _ _ h => h)) (fun _ _ h => h)), trivial⟩) ?_
  clear hS kf ac
  try clear w
  intro kf ac w hS
  refine wp_seq ?_
  refine region_seq (s := soft) (kf0 := kf) (by kernel_rfl) hS (Rg.look [(27, (isQ (numQ a1 b1 m1) 5)),
      (28, (isE (.int .i64 (Int.sign ((numQ a1 b1 m1).num))))),
      (29, (isE (.bool true))),
      (30, (isE (.bool true))),
      (31, (isE (.int .i64 8))),
      (32, (isE (.bool false))),
      (33, (isE (.bool false))),
      (34, (isQ (0 : Rat) 1)),
      (35, (isE (.int .i64 (Int.sign ((0 : Rat).num))))),
      (36, (isE (.bool false))),
      (37, (isE (.bool false))),
      (38, (isE (.bool false))),
      (39, (isE (.bool false))),
      (40, (isQ (numQ a1 b1 m1) 5)),
      (41, (isE (.int .i64 (Int.sign ((numQ a1 b1 m1).num))))),
      (42, (isE (.bool false))),
      (43, (isE (.bool false))),
      (44, (isE undef)),
      (45, (isE undef)),
      (46, (isE undef)),
      (47, (isE undef)),
      (48, (isE undef)),
      (49, (isE undef)),
      (50, (isE undef)),
      (51, (isE undef)),
      (52, (isE undef)),
      (53, (isE undef)),
      (54, (isE undef)),
      (55, (isE (.bool false))),
      (56, (isE (.bool false)))])
    ⟨[], []⟩ [⟨3, 24, (isM a1 b1 m1)⟩, ⟨2, 24, (isM a0 b0 m0)⟩, ⟨5, 30, (isQ (numQ a0 b0 m0) 5)⟩, ⟨6, 35, (isR (numQ a0 b0 m0) 32)⟩, ⟨7, 30, (isQ (numQ a1 b1 m1) 5)⟩, ⟨8, 35, (isR (numQ a1 b1 m1) 32)⟩, ⟨9, 30, (isQ (0 : Rat) 1)⟩] [(4, (isE (.bool false))), (0, (isM a0 b0 m0)), (1, (isM a1 b1 m1)), (10, (isE (.int .i64 8))), (56, (isE (.bool false)))] (by kernel_rfl) (by kernel_rfl) (look_stb _ ⟨(stb_Q _ _), (stb_eq _), (stb_eq _), (stb_eq _), (stb_eq _), (stb_eq _), (stb_eq _), (stb_Q _ _), (stb_eq _), (stb_eq _), (stb_eq _), (stb_eq _), (stb_eq _), (stb_Q _ _), (stb_eq _), (stb_eq _), (stb_eq _), (stb_eq _), (stb_eq _), (stb_eq _), (stb_eq _), (stb_eq _), (stb_eq _), (stb_eq _), (stb_eq _), (stb_eq _), (stb_eq _), (stb_eq _), (stb_eq _), (stb_eq _), trivial⟩) ⟨(stb_M _ _ _), (stb_M _ _ _), (stb_Q _ _), (stb_R _ _), (stb_Q _ _), (stb_R _ _), (stb_Q _ _), trivial⟩ ⟨(stb_eq _), (stb_M _ _ _), (stb_M _ _ _), (stb_eq _), trivial⟩ trivial trivial
    ⟨.inr (.inl ⟨rfl, _, (List.Mem.head _), rfl, rfl, (fun _ _ h => h)⟩), .inr (.inl ⟨rfl, _, (List.Mem.tail _ (List.Mem.head _)), rfl, rfl, (fun _ _ h => h)⟩), .inr (.inl ⟨rfl, _, (List.Mem.tail _ (List.Mem.tail _ (List.Mem.head _))), rfl, rfl, (fun _ _ h => h)⟩), .inr (.inl ⟨rfl, _, (List.Mem.tail _ (List.Mem.tail _ (List.Mem.tail _ (List.Mem.head _)))), rfl, rfl, (fun _ _ h => h)⟩), .inr (.inl ⟨rfl, _, (List.Mem.tail _ (List.Mem.tail _ (List.Mem.tail _ (List.Mem.tail _ (List.Mem.head _))))), rfl, rfl, (fun _ _ h => h)⟩), .inr (.inl ⟨rfl, _, (List.Mem.tail _ (List.Mem.tail _ (List.Mem.tail _ (List.Mem.tail _ (List.Mem.tail _ (List.Mem.head _)))))), rfl, rfl, (fun _ _ h => h)⟩), .inr (.inl ⟨rfl, _, (List.Mem.tail _ (List.Mem.tail _ (List.Mem.tail _ (List.Mem.tail _ (List.Mem.tail _ (List.Mem.tail _ (List.Mem.head _))))))), rfl, rfl, (fun _ _ h => h)⟩), trivial⟩
    ⟨.inr ⟨(by kernel_rfl), _, (List.Mem.head _), rfl, (fun _ _ h => h)⟩, .inr ⟨(by kernel_rfl), _, (List.Mem.tail _ (List.Mem.head _)), rfl, (fun _ _ h => h)⟩, .inr ⟨(by kernel_rfl), _, (List.Mem.tail _ (List.Mem.tail _ (List.Mem.head _))), rfl, (fun _ _ h => h)⟩, .inr ⟨(by kernel_rfl), _, (List.Mem.tail _ (List.Mem.tail _ (List.Mem.tail _ (List.Mem.head _)))), rfl, (fun _ _ h => h)⟩, .inl ⟨(by kernel_rfl), rfl, (fun _ _ h => h)⟩, trivial⟩
    (steps (m := 30) (by kernel_rfl) ⟨stepN (i := 0) (dst := some 27) (op := (.load 30 (.tmp 7))) (by kernel_rfl) (loadV (List.Mem.tail _ (List.Mem.tail _ (List.Mem.tail _ (List.Mem.tail _ (List.Mem.head _))))) (by kernel_rfl) (fun _ _ h => h)),
      stepN (i := 1) (dst := some 28) (op := (.call { callee := .value (.func 7), args := #[(.tmp 27)], argTypes := #[30] })) (by kernel_rfl) (call1 (enters_of Tryz.func7 (by kernel_rfl) rfl) (argT (p := (isQ (numQ a1 b1 m1) 5)) (by kernel_rfl) (fun _ _ h => h)) (fun w u1 h1 => sign_q h1) (fun _ _ h => h)),
      stepN (i := 2) (dst := some 29) (op := (.binOp .eql 3 (.tmp 28) (.const (.int .i64 0)) 3)) (by kernel_rfl) (eql (m := (Int.sign ((numQ a1 b1 m1).num))) (n := 0) (argT (p := (isE (.int .i64 (Int.sign ((numQ a1 b1 m1).num))))) (by kernel_rfl) (fun _ _ h => h)) (argC (.int .i64 0)) (fun w v h => h.trans (congrArg Value.bool (sign_eq hy)))),
      stepN (i := 3) (dst := some 30) (op := (.move (.tmp 29))) (by kernel_rfl) (move (argT (p := (isE (.bool true))) (by kernel_rfl) (fun _ _ h => h)) (fun _ _ h => h)),
      stepG (i := 4) (j := 3) (dj := 30) (b := true) (dst := some 31) (op := (.move (.tmp 10))) (by kernel_rfl) (by kernel_rfl) (by kernel_rfl) (fun _ _ h => h) (move (argO (p := (isE (.int .i64 8))) (List.Mem.tail _ (List.Mem.tail _ (List.Mem.tail _ (List.Mem.head _)))) (by kernel_rfl)) (fun _ _ h => h)),
      stepG (i := 5) (j := 3) (dj := 30) (b := true) (dst := some 32) (op := (.binOp .neq 38 (.tmp 31) (.const (.int .i64 8)) 38)) (by kernel_rfl) (by kernel_rfl) (by kernel_rfl) (fun _ _ h => h) (neq (m := 8) (n := 8) (argT (p := (isE (.int .i64 8))) (by kernel_rfl) (fun _ _ h => h)) (argC (.int .i64 8)) (fun w v h => h.trans (congrArg Value.bool (rfl)))),
      stepG (i := 6) (j := 3) (dj := 30) (b := true) (dst := some 33) (op := (.move (.tmp 32))) (by kernel_rfl) (by kernel_rfl) (by kernel_rfl) (fun _ _ h => h) (move (argT (p := (isE (.bool false))) (by kernel_rfl) (fun _ _ h => h)) (fun _ _ h => h)),
      stepG (i := 7) (j := 6) (dj := 33) (b := false) (dst := some 34) (op := (.load 30 (.tmp 9))) (by kernel_rfl) (by kernel_rfl) (by kernel_rfl) (fun _ _ h => h) (loadV (List.Mem.tail _ (List.Mem.tail _ (List.Mem.tail _ (List.Mem.tail _ (List.Mem.tail _ (List.Mem.tail _ (List.Mem.head _))))))) (by kernel_rfl) (fun _ _ h => h)),
      stepG (i := 8) (j := 6) (dj := 33) (b := false) (dst := some 35) (op := (.call { callee := .value (.func 7), args := #[(.tmp 34)], argTypes := #[30] })) (by kernel_rfl) (by kernel_rfl) (by kernel_rfl) (fun _ _ h => h) (call1 (enters_of Tryz.func7 (by kernel_rfl) rfl) (argT (p := (isQ (0 : Rat) 1)) (by kernel_rfl) (fun _ _ h => h)) (fun w u1 h1 => sign_q h1) (fun _ _ h => h)),
      stepG (i := 9) (j := 6) (dj := 33) (b := false) (dst := some 36) (op := (.binOp .neq 3 (.tmp 35) (.const (.int .i64 0)) 3)) (by kernel_rfl) (by kernel_rfl) (by kernel_rfl) (fun _ _ h => h) (neq (m := (Int.sign ((0 : Rat).num))) (n := 0) (argT (p := (isE (.int .i64 (Int.sign ((0 : Rat).num))))) (by kernel_rfl) (fun _ _ h => h)) (argC (.int .i64 0)) (fun w v h => h.trans (congrArg Value.bool (rfl)))),
      stepG (i := 10) (j := 3) (dj := 30) (b := true) (dst := some 37) (op := (.pick (.tmp 33) (.const (.bool true)) (.tmp 36))) (by kernel_rfl) (by kernel_rfl) (by kernel_rfl) (fun _ _ h => h) (pickF (argT (p := (isE (.bool false))) (by kernel_rfl) (fun _ _ h => h)) (argT (p := (isE (.bool false))) (by kernel_rfl) (fun _ _ h => h)) (fun _ _ h => h)),
      stepN (i := 11) (dst := some 38) (op := (.pick (.tmp 30) (.tmp 37) (.const (.bool false)))) (by kernel_rfl) (pickT (argT (p := (isE (.bool true))) (by kernel_rfl) (fun _ _ h => h)) (argT (p := (isE (.bool false))) (by kernel_rfl) (fun _ _ h => h)) (fun _ _ h => h)),
      stepN (i := 12) (dst := some 39) (op := (.move (.tmp 38))) (by kernel_rfl) (move (argT (p := (isE (.bool false))) (by kernel_rfl) (fun _ _ h => h)) (fun _ _ h => h)),
      stepG (i := 13) (j := 12) (dj := 39) (b := false) (dst := some 40) (op := (.load 30 (.tmp 7))) (by kernel_rfl) (by kernel_rfl) (by kernel_rfl) (fun _ _ h => h) (loadV (List.Mem.tail _ (List.Mem.tail _ (List.Mem.tail _ (List.Mem.tail _ (List.Mem.head _))))) (by kernel_rfl) (fun _ _ h => h)),
      stepG (i := 14) (j := 12) (dj := 39) (b := false) (dst := some 41) (op := (.call { callee := .value (.func 7), args := #[(.tmp 40)], argTypes := #[30] })) (by kernel_rfl) (by kernel_rfl) (by kernel_rfl) (fun _ _ h => h) (call1 (enters_of Tryz.func7 (by kernel_rfl) rfl) (argT (p := (isQ (numQ a1 b1 m1) 5)) (by kernel_rfl) (fun _ _ h => h)) (fun w u1 h1 => sign_q h1) (fun _ _ h => h)),
      stepG (i := 15) (j := 12) (dj := 39) (b := false) (dst := some 42) (op := (.binOp .neq 3 (.tmp 41) (.const (.int .i64 0)) 3)) (by kernel_rfl) (by kernel_rfl) (by kernel_rfl) (fun _ _ h => h) (neq (m := (Int.sign ((numQ a1 b1 m1).num))) (n := 0) (argT (p := (isE (.int .i64 (Int.sign ((numQ a1 b1 m1).num))))) (by kernel_rfl) (fun _ _ h => h)) (argC (.int .i64 0)) (fun w v h => h.trans (congrArg Value.bool (by rw [sign_eq hy]; rfl)))),
      stepG (i := 16) (j := 12) (dj := 39) (b := false) (dst := some 43) (op := (.move (.tmp 42))) (by kernel_rfl) (by kernel_rfl) (by kernel_rfl) (fun _ _ h => h) (move (argT (p := (isE (.bool false))) (by kernel_rfl) (fun _ _ h => h)) (fun _ _ h => h)),
      stepS (i := 17) (j := 16) (dj := 43) (b := true) (c := false) (dst := some 44) (op := (.move (.tmp 10))) (by kernel_rfl) (by kernel_rfl) (by kernel_rfl) (fun _ _ h => h) rfl (fun d hd w => by cases hd; exact rfl),
      stepS (i := 18) (j := 16) (dj := 43) (b := true) (c := false) (dst := some 45) (op := (.binOp .neq 38 (.tmp 44) (.const (.int .i64 0)) 38)) (by kernel_rfl) (by kernel_rfl) (by kernel_rfl) (fun _ _ h => h) rfl (fun d hd w => by cases hd; exact rfl),
      stepS (i := 19) (j := 16) (dj := 43) (b := true) (c := false) (dst := some 46) (op := (.move (.tmp 45))) (by kernel_rfl) (by kernel_rfl) (by kernel_rfl) (fun _ _ h => h) rfl (fun d hd w => by cases hd; exact rfl),
      stepU (i := 20) (j := 19) (dj := 46) (b := false) (dst := some 47) (op := (.load 30 (.tmp 9))) (by kernel_rfl) (by kernel_rfl) (by kernel_rfl) (fun _ _ h => h) (fun d hd w => by cases hd; exact rfl),
      stepU (i := 21) (j := 19) (dj := 46) (b := false) (dst := some 48) (op := (.call { callee := .value (.func 8), args := #[(.tmp 47)], argTypes := #[30] })) (by kernel_rfl) (by kernel_rfl) (by kernel_rfl) (fun _ _ h => h) (fun d hd w => by cases hd; exact rfl),
      stepU (i := 22) (j := 19) (dj := 46) (b := false) (dst := some 49) (op := (.load 35 (.tmp 6))) (by kernel_rfl) (by kernel_rfl) (by kernel_rfl) (fun _ _ h => h) (fun d hd w => by cases hd; exact rfl),
      stepU (i := 23) (j := 19) (dj := 46) (b := false) (dst := some 50) (op := (.load 35 (.tmp 8))) (by kernel_rfl) (by kernel_rfl) (by kernel_rfl) (fun _ _ h => h) (fun d hd w => by cases hd; exact rfl),
      stepU (i := 24) (j := 19) (dj := 46) (b := false) (dst := some 51) (op := (.call { callee := .value (.func 10), args := #[(.tmp 49), (.tmp 50)], argTypes := #[35, 35] })) (by kernel_rfl) (by kernel_rfl) (by kernel_rfl) (fun _ _ h => h) (fun d hd w => by cases hd; exact rfl),
      stepU (i := 25) (j := 19) (dj := 46) (b := false) (dst := some 52) (op := (.call { callee := .value (.func 9), args := #[(.tmp 51)], argTypes := #[35] })) (by kernel_rfl) (by kernel_rfl) (by kernel_rfl) (fun _ _ h => h) (fun d hd w => by cases hd; exact rfl),
      stepU (i := 26) (j := 19) (dj := 46) (b := false) (dst := some 53) (op := (.binOp .neq 9 (.tmp 48) (.tmp 52) 9)) (by kernel_rfl) (by kernel_rfl) (by kernel_rfl) (fun _ _ h => h) (fun d hd w => by cases hd; exact rfl),
      stepS (i := 27) (j := 16) (dj := 43) (b := true) (c := false) (dst := some 54) (op := (.pick (.tmp 46) (.const (.bool true)) (.tmp 53))) (by kernel_rfl) (by kernel_rfl) (by kernel_rfl) (fun _ _ h => h) rfl (fun d hd w => by cases hd; exact rfl),
      stepG (i := 28) (j := 12) (dj := 39) (b := false) (dst := some 55) (op := (.pick (.tmp 43) (.tmp 54) (.const (.bool false)))) (by kernel_rfl) (by kernel_rfl) (by kernel_rfl) (fun _ _ h => h) (pickF (argT (p := (isE (.bool false))) (by kernel_rfl) (fun _ _ h => h)) (argC (.bool false)) (fun _ _ h => h)),
      stepN (i := 29) (dst := some 56) (op := (.pick (.tmp 39) (.const (.bool true)) (.tmp 55))) (by kernel_rfl) (pickF (argT (p := (isE (.bool false))) (by kernel_rfl) (fun _ _ h => h)) (argT (p := (isE (.bool false))) (by kernel_rfl) (fun _ _ h => h)) (fun _ _ h => h)), trivial⟩) ?_
  clear hS kf ac
  try clear w
  intro kf ac w hS
  refine cond_false (q := (isE (.bool false))) hS (List.Mem.tail _ (List.Mem.tail _ (List.Mem.tail _ (List.Mem.tail _ (List.Mem.head _))))) (fun _ _ h => h) ?_
  refine skip_then ?_
  refine region_seq (s := soft) (kf0 := kf) (by kernel_rfl) hS (Rg.look [(57, (isE (.bool true))),
      (58, (isE (.bool true))),
      (59, (isQ (numQ a0 b0 m0) 5)),
      (60, (isQ (numQ a1 b1 m1) 5)),
      (61, (isQ ((numQ a0 b0 m0) + (numQ a1 b1 m1)) (5 + 5 + 1))),
      (62, (isT (qtext ((numQ a0 b0 m0) + (numQ a1 b1 m1))))),
      (63, (isR (numQ a0 b0 m0) 32)),
      (64, (isR (numQ a1 b1 m1) 32)),
      (65, (isR ((numQ a0 b0 m0) + (numQ a1 b1 m1)) (32 + 32 + 2))),
      (66, (isT (qtext ((numQ a0 b0 m0) + (numQ a1 b1 m1))))),
      (67, (isE (.bool true))),
      (68, (isE (.bool true))),
      (69, (isE (.bool true))),
      (70, (isQ (numQ a0 b0 m0) 5)),
      (71, (isQ (numQ a1 b1 m1) 5)),
      (72, (isQ ((numQ a0 b0 m0) - (numQ a1 b1 m1)) (5 + 5 + 1))),
      (73, (isT (qtext ((numQ a0 b0 m0) - (numQ a1 b1 m1))))),
      (74, (isR (numQ a0 b0 m0) 32)),
      (75, (isR (numQ a1 b1 m1) 32)),
      (76, (isR ((numQ a0 b0 m0) - (numQ a1 b1 m1)) (32 + 32 + 2))),
      (77, (isT (qtext ((numQ a0 b0 m0) - (numQ a1 b1 m1))))),
      (78, (isE (.bool true))),
      (79, (isE (.bool true))),
      (80, (isE (.bool true))),
      (81, (isQ (numQ a0 b0 m0) 5)),
      (82, (isQ (numQ a1 b1 m1) 5)),
      (83, (isQ ((numQ a0 b0 m0) * (numQ a1 b1 m1)) (5 + 5))),
      (84, (isT (qtext ((numQ a0 b0 m0) * (numQ a1 b1 m1))))),
      (85, (isR (numQ a0 b0 m0) 32)),
      (86, (isR (numQ a1 b1 m1) 32)),
      (87, (isR ((numQ a0 b0 m0) * (numQ a1 b1 m1)) (32 + 32 + 1))),
      (88, (isT (qtext ((numQ a0 b0 m0) * (numQ a1 b1 m1))))),
      (89, (isE (.bool true))),
      (90, (isE (.bool true))),
      (91, (isE (.bool true))),
      (92, (isQ (numQ a0 b0 m0) 5)),
      (93, (isQ (numQ a1 b1 m1) 5)),
      (94, (isE (.int .i64 (cmpQ (numQ a0 b0 m0) (numQ a1 b1 m1))))),
      (95, (isR (numQ a0 b0 m0) 32)),
      (96, (isR (numQ a1 b1 m1) 32)),
      (97, (isE (.int .i64 (cmpQ (numQ a0 b0 m0) (numQ a1 b1 m1))))),
      (98, (isE (.bool true))),
      (99, (isE (.bool true))),
      (100, (isE (.bool true))),
      (101, (isQ (numQ a0 b0 m0) 5)),
      (102, (isQ (-(numQ a0 b0 m0)) 5)),
      (103, (isT (qtext (-(numQ a0 b0 m0))))),
      (104, (isR (numQ a0 b0 m0) 32)),
      (105, (isR (-(numQ a0 b0 m0)) 32)),
      (106, (isT (qtext (-(numQ a0 b0 m0))))),
      (107, (isE (.bool true))),
      (108, (isE (.bool true))),
      (109, (isE (.bool true))),
      (110, (isQ (numQ a0 b0 m0) 5)),
      (111, (isW (Rat.floor (numQ a0 b0 m0)) (max 5 1 + 1))),
      (112, (isT (ztext (Rat.floor (numQ a0 b0 m0))))),
      (113, (isR (numQ a0 b0 m0) 32)),
      (114, (isV (Rat.floor (numQ a0 b0 m0)) 2000)),
      (115, (isT (ztext (Rat.floor (numQ a0 b0 m0))))),
      (116, (isE (.bool true))),
      (117, (isE (.bool true))),
      (4, (isE (.bool true)))])
    ⟨[], []⟩ [⟨3, 24, (isM a1 b1 m1)⟩, ⟨2, 24, (isM a0 b0 m0)⟩, ⟨5, 30, (isQ (numQ a0 b0 m0) 5)⟩, ⟨6, 35, (isR (numQ a0 b0 m0) 32)⟩, ⟨7, 30, (isQ (numQ a1 b1 m1) 5)⟩, ⟨8, 35, (isR (numQ a1 b1 m1) 32)⟩, ⟨9, 30, (isQ (0 : Rat) 1)⟩] [(0, (isM a0 b0 m0)), (1, (isM a1 b1 m1)), (10, (isE (.int .i64 8))), (56, (isE (.bool false))), (4, (isE (.bool true)))] (by kernel_rfl) (by kernel_rfl) (look_stb _ ⟨(stb_eq _), (stb_eq _), (stb_Q _ _), (stb_Q _ _), (stb_Q _ _), (stb_eq _), (stb_R _ _), (stb_R _ _), (stb_R _ _), (stb_eq _), (stb_eq _), (stb_eq _), (stb_eq _), (stb_Q _ _), (stb_Q _ _), (stb_Q _ _), (stb_eq _), (stb_R _ _), (stb_R _ _), (stb_R _ _), (stb_eq _), (stb_eq _), (stb_eq _), (stb_eq _), (stb_Q _ _), (stb_Q _ _), (stb_Q _ _), (stb_eq _), (stb_R _ _), (stb_R _ _), (stb_R _ _), (stb_eq _), (stb_eq _), (stb_eq _), (stb_eq _), (stb_Q _ _), (stb_Q _ _), (stb_eq _), (stb_R _ _), (stb_R _ _), (stb_eq _), (stb_eq _), (stb_eq _), (stb_eq _), (stb_Q _ _), (stb_Q _ _), (stb_eq _), (stb_R _ _), (stb_R _ _), (stb_eq _), (stb_eq _), (stb_eq _), (stb_eq _), (stb_Q _ _), (stb_W _ _), (stb_eq _), (stb_R _ _), (stb_V _ _), (stb_eq _), (stb_eq _), (stb_eq _), (stb_eq _), trivial⟩) ⟨(stb_M _ _ _), (stb_M _ _ _), (stb_Q _ _), (stb_R _ _), (stb_Q _ _), (stb_R _ _), (stb_Q _ _), trivial⟩ ⟨(stb_eq _), (stb_M _ _ _), (stb_M _ _ _), (stb_eq _), (stb_eq _), trivial⟩ trivial trivial
    ⟨.inr (.inl ⟨rfl, _, (List.Mem.head _), rfl, rfl, (fun _ _ h => h)⟩), .inr (.inl ⟨rfl, _, (List.Mem.tail _ (List.Mem.head _)), rfl, rfl, (fun _ _ h => h)⟩), .inr (.inl ⟨rfl, _, (List.Mem.tail _ (List.Mem.tail _ (List.Mem.head _))), rfl, rfl, (fun _ _ h => h)⟩), .inr (.inl ⟨rfl, _, (List.Mem.tail _ (List.Mem.tail _ (List.Mem.tail _ (List.Mem.head _)))), rfl, rfl, (fun _ _ h => h)⟩), .inr (.inl ⟨rfl, _, (List.Mem.tail _ (List.Mem.tail _ (List.Mem.tail _ (List.Mem.tail _ (List.Mem.head _))))), rfl, rfl, (fun _ _ h => h)⟩), .inr (.inl ⟨rfl, _, (List.Mem.tail _ (List.Mem.tail _ (List.Mem.tail _ (List.Mem.tail _ (List.Mem.tail _ (List.Mem.head _)))))), rfl, rfl, (fun _ _ h => h)⟩), .inr (.inl ⟨rfl, _, (List.Mem.tail _ (List.Mem.tail _ (List.Mem.tail _ (List.Mem.tail _ (List.Mem.tail _ (List.Mem.tail _ (List.Mem.head _))))))), rfl, rfl, (fun _ _ h => h)⟩), trivial⟩
    ⟨.inr ⟨(by kernel_rfl), _, (List.Mem.tail _ (List.Mem.head _)), rfl, (fun _ _ h => h)⟩, .inr ⟨(by kernel_rfl), _, (List.Mem.tail _ (List.Mem.tail _ (List.Mem.head _))), rfl, (fun _ _ h => h)⟩, .inr ⟨(by kernel_rfl), _, (List.Mem.tail _ (List.Mem.tail _ (List.Mem.tail _ (List.Mem.head _)))), rfl, (fun _ _ h => h)⟩, .inr ⟨(by kernel_rfl), _, (List.Mem.tail _ (List.Mem.tail _ (List.Mem.tail _ (List.Mem.tail _ (List.Mem.head _))))), rfl, (fun _ _ h => h)⟩, .inl ⟨(by kernel_rfl), rfl, (fun _ _ h => h)⟩, trivial⟩
    (steps (m := 62) (by kernel_rfl) ⟨stepN (i := 0) (dst := some 57) (op := (.call { callee := .value (.func 11), args := #[], argTypes := #[] })) (by kernel_rfl) (call0 (enters_of Tryz.func11 (by kernel_rfl) rfl) (fun w => wakes5 w) (fun _ _ h => h)),
      stepN (i := 1) (dst := some 58) (op := (.move (.tmp 57))) (by kernel_rfl) (move (argT (p := (isE (.bool true))) (by kernel_rfl) (fun _ _ h => h)) (fun _ _ h => h)),
      stepG (i := 2) (j := 1) (dj := 58) (b := true) (dst := some 59) (op := (.load 30 (.tmp 5))) (by kernel_rfl) (by kernel_rfl) (by kernel_rfl) (fun _ _ h => h) (loadV (List.Mem.tail _ (List.Mem.tail _ (List.Mem.head _))) (by kernel_rfl) (fun _ _ h => h)),
      stepG (i := 3) (j := 1) (dj := 58) (b := true) (dst := some 60) (op := (.load 30 (.tmp 7))) (by kernel_rfl) (by kernel_rfl) (by kernel_rfl) (fun _ _ h => h) (loadV (List.Mem.tail _ (List.Mem.tail _ (List.Mem.tail _ (List.Mem.tail _ (List.Mem.head _))))) (by kernel_rfl) (fun _ _ h => h)),
      stepG (i := 4) (j := 1) (dj := 58) (b := true) (dst := some 61) (op := (.call { callee := .value (.func 12), args := #[(.tmp 59), (.tmp 60)], argTypes := #[30, 30] })) (by kernel_rfl) (by kernel_rfl) (by kernel_rfl) (fun _ _ h => h) (call2 (enters_of Tryz.func12 (by kernel_rfl) rfl) (argT (p := (isQ (numQ a0 b0 m0) 5)) (by kernel_rfl) (fun _ _ h => h)) (argT (p := (isQ (numQ a1 b1 m1) 5)) (by kernel_rfl) (fun _ _ h => h)) (fun w u1 u2 h1 h2 => add_q h1 h2 (by omega) (by omega)) (fun _ _ h => h)),
      stepG (i := 5) (j := 1) (dj := 58) (b := true) (dst := some 62) (op := (.call { callee := .value (.func 8), args := #[(.tmp 61)], argTypes := #[30] })) (by kernel_rfl) (by kernel_rfl) (by kernel_rfl) (fun _ _ h => h) (call1 (enters_of Tryz.func8 (by kernel_rfl) rfl) (argT (p := (isQ ((numQ a0 b0 m0) + (numQ a1 b1 m1)) (5 + 5 + 1))) (by kernel_rfl) (fun _ _ h => h)) (fun w u1 h1 => print_q h1 (by omega)) (fun _ _ h => h)),
      stepG (i := 6) (j := 1) (dj := 58) (b := true) (dst := some 63) (op := (.load 35 (.tmp 6))) (by kernel_rfl) (by kernel_rfl) (by kernel_rfl) (fun _ _ h => h) (loadV (List.Mem.tail _ (List.Mem.tail _ (List.Mem.tail _ (List.Mem.head _)))) (by kernel_rfl) (fun _ _ h => h)),
      stepG (i := 7) (j := 1) (dj := 58) (b := true) (dst := some 64) (op := (.load 35 (.tmp 8))) (by kernel_rfl) (by kernel_rfl) (by kernel_rfl) (fun _ _ h => h) (loadV (List.Mem.tail _ (List.Mem.tail _ (List.Mem.tail _ (List.Mem.tail _ (List.Mem.tail _ (List.Mem.head _)))))) (by kernel_rfl) (fun _ _ h => h)),
      stepG (i := 8) (j := 1) (dj := 58) (b := true) (dst := some 65) (op := (.call { callee := .value (.func 13), args := #[(.tmp 63), (.tmp 64)], argTypes := #[35, 35] })) (by kernel_rfl) (by kernel_rfl) (by kernel_rfl) (fun _ _ h => h) (call2 (enters_of Tryz.func13 (by kernel_rfl) rfl) (argT (p := (isR (numQ a0 b0 m0) 32)) (by kernel_rfl) (fun _ _ h => h)) (argT (p := (isR (numQ a1 b1 m1) 32)) (by kernel_rfl) (fun _ _ h => h)) (fun w u1 u2 h1 h2 => add_r h1 h2 (by omega) (by omega)) (fun _ _ h => h)),
      stepG (i := 9) (j := 1) (dj := 58) (b := true) (dst := some 66) (op := (.call { callee := .value (.func 9), args := #[(.tmp 65)], argTypes := #[35] })) (by kernel_rfl) (by kernel_rfl) (by kernel_rfl) (fun _ _ h => h) (call1 (enters_of Tryz.func9 (by kernel_rfl) rfl) (argT (p := (isR ((numQ a0 b0 m0) + (numQ a1 b1 m1)) (32 + 32 + 2))) (by kernel_rfl) (fun _ _ h => h)) (fun w u1 h1 => print_r h1 (by omega)) (fun _ _ h => h)),
      stepG (i := 10) (j := 1) (dj := 58) (b := true) (dst := some 67) (op := (.binOp .eql 9 (.tmp 62) (.tmp 66) 9)) (by kernel_rfl) (by kernel_rfl) (by kernel_rfl) (fun _ _ h => h) (eqlS (l := qtext ((numQ a0 b0 m0) + (numQ a1 b1 m1))) (r := qtext ((numQ a0 b0 m0) + (numQ a1 b1 m1))) (argT (p := (isT (qtext ((numQ a0 b0 m0) + (numQ a1 b1 m1))))) (by kernel_rfl) (fun _ _ h => h)) (argT (p := (isT (qtext ((numQ a0 b0 m0) + (numQ a1 b1 m1))))) (by kernel_rfl) (fun _ _ h => h)) (fun w v h => h.trans (congrArg Value.bool (eq_self _)))),
      stepN (i := 11) (dst := some 68) (op := (.pick (.tmp 58) (.tmp 67) (.const (.bool false)))) (by kernel_rfl) (pickT (argT (p := (isE (.bool true))) (by kernel_rfl) (fun _ _ h => h)) (argT (p := (isE (.bool true))) (by kernel_rfl) (fun _ _ h => h)) (fun _ _ h => h)),
      stepN (i := 12) (dst := some 69) (op := (.move (.tmp 68))) (by kernel_rfl) (move (argT (p := (isE (.bool true))) (by kernel_rfl) (fun _ _ h => h)) (fun _ _ h => h)),
      stepG (i := 13) (j := 12) (dj := 69) (b := true) (dst := some 70) (op := (.load 30 (.tmp 5))) (by kernel_rfl) (by kernel_rfl) (by kernel_rfl) (fun _ _ h => h) (loadV (List.Mem.tail _ (List.Mem.tail _ (List.Mem.head _))) (by kernel_rfl) (fun _ _ h => h)),
      stepG (i := 14) (j := 12) (dj := 69) (b := true) (dst := some 71) (op := (.load 30 (.tmp 7))) (by kernel_rfl) (by kernel_rfl) (by kernel_rfl) (fun _ _ h => h) (loadV (List.Mem.tail _ (List.Mem.tail _ (List.Mem.tail _ (List.Mem.tail _ (List.Mem.head _))))) (by kernel_rfl) (fun _ _ h => h)),
      stepG (i := 15) (j := 12) (dj := 69) (b := true) (dst := some 72) (op := (.call { callee := .value (.func 14), args := #[(.tmp 70), (.tmp 71)], argTypes := #[30, 30] })) (by kernel_rfl) (by kernel_rfl) (by kernel_rfl) (fun _ _ h => h) (call2 (enters_of Tryz.func14 (by kernel_rfl) rfl) (argT (p := (isQ (numQ a0 b0 m0) 5)) (by kernel_rfl) (fun _ _ h => h)) (argT (p := (isQ (numQ a1 b1 m1) 5)) (by kernel_rfl) (fun _ _ h => h)) (fun w u1 u2 h1 h2 => sub_q h1 h2 (by omega) (by omega)) (fun _ _ h => h)),
      stepG (i := 16) (j := 12) (dj := 69) (b := true) (dst := some 73) (op := (.call { callee := .value (.func 8), args := #[(.tmp 72)], argTypes := #[30] })) (by kernel_rfl) (by kernel_rfl) (by kernel_rfl) (fun _ _ h => h) (call1 (enters_of Tryz.func8 (by kernel_rfl) rfl) (argT (p := (isQ ((numQ a0 b0 m0) - (numQ a1 b1 m1)) (5 + 5 + 1))) (by kernel_rfl) (fun _ _ h => h)) (fun w u1 h1 => print_q h1 (by omega)) (fun _ _ h => h)),
      stepG (i := 17) (j := 12) (dj := 69) (b := true) (dst := some 74) (op := (.load 35 (.tmp 6))) (by kernel_rfl) (by kernel_rfl) (by kernel_rfl) (fun _ _ h => h) (loadV (List.Mem.tail _ (List.Mem.tail _ (List.Mem.tail _ (List.Mem.head _)))) (by kernel_rfl) (fun _ _ h => h)),
      stepG (i := 18) (j := 12) (dj := 69) (b := true) (dst := some 75) (op := (.load 35 (.tmp 8))) (by kernel_rfl) (by kernel_rfl) (by kernel_rfl) (fun _ _ h => h) (loadV (List.Mem.tail _ (List.Mem.tail _ (List.Mem.tail _ (List.Mem.tail _ (List.Mem.tail _ (List.Mem.head _)))))) (by kernel_rfl) (fun _ _ h => h)),
      stepG (i := 19) (j := 12) (dj := 69) (b := true) (dst := some 76) (op := (.call { callee := .value (.func 15), args := #[(.tmp 74), (.tmp 75)], argTypes := #[35, 35] })) (by kernel_rfl) (by kernel_rfl) (by kernel_rfl) (fun _ _ h => h) (call2 (enters_of Tryz.func15 (by kernel_rfl) rfl) (argT (p := (isR (numQ a0 b0 m0) 32)) (by kernel_rfl) (fun _ _ h => h)) (argT (p := (isR (numQ a1 b1 m1) 32)) (by kernel_rfl) (fun _ _ h => h)) (fun w u1 u2 h1 h2 => sub_r h1 h2 (by omega) (by omega)) (fun _ _ h => h)),
      stepG (i := 20) (j := 12) (dj := 69) (b := true) (dst := some 77) (op := (.call { callee := .value (.func 9), args := #[(.tmp 76)], argTypes := #[35] })) (by kernel_rfl) (by kernel_rfl) (by kernel_rfl) (fun _ _ h => h) (call1 (enters_of Tryz.func9 (by kernel_rfl) rfl) (argT (p := (isR ((numQ a0 b0 m0) - (numQ a1 b1 m1)) (32 + 32 + 2))) (by kernel_rfl) (fun _ _ h => h)) (fun w u1 h1 => print_r h1 (by omega)) (fun _ _ h => h)),
      stepG (i := 21) (j := 12) (dj := 69) (b := true) (dst := some 78) (op := (.binOp .eql 9 (.tmp 73) (.tmp 77) 9)) (by kernel_rfl) (by kernel_rfl) (by kernel_rfl) (fun _ _ h => h) (eqlS (l := qtext ((numQ a0 b0 m0) - (numQ a1 b1 m1))) (r := qtext ((numQ a0 b0 m0) - (numQ a1 b1 m1))) (argT (p := (isT (qtext ((numQ a0 b0 m0) - (numQ a1 b1 m1))))) (by kernel_rfl) (fun _ _ h => h)) (argT (p := (isT (qtext ((numQ a0 b0 m0) - (numQ a1 b1 m1))))) (by kernel_rfl) (fun _ _ h => h)) (fun w v h => h.trans (congrArg Value.bool (eq_self _)))),
      stepN (i := 22) (dst := some 79) (op := (.pick (.tmp 69) (.tmp 78) (.const (.bool false)))) (by kernel_rfl) (pickT (argT (p := (isE (.bool true))) (by kernel_rfl) (fun _ _ h => h)) (argT (p := (isE (.bool true))) (by kernel_rfl) (fun _ _ h => h)) (fun _ _ h => h)),
      stepN (i := 23) (dst := some 80) (op := (.move (.tmp 79))) (by kernel_rfl) (move (argT (p := (isE (.bool true))) (by kernel_rfl) (fun _ _ h => h)) (fun _ _ h => h)),
      stepG (i := 24) (j := 23) (dj := 80) (b := true) (dst := some 81) (op := (.load 30 (.tmp 5))) (by kernel_rfl) (by kernel_rfl) (by kernel_rfl) (fun _ _ h => h) (loadV (List.Mem.tail _ (List.Mem.tail _ (List.Mem.head _))) (by kernel_rfl) (fun _ _ h => h)),
      stepG (i := 25) (j := 23) (dj := 80) (b := true) (dst := some 82) (op := (.load 30 (.tmp 7))) (by kernel_rfl) (by kernel_rfl) (by kernel_rfl) (fun _ _ h => h) (loadV (List.Mem.tail _ (List.Mem.tail _ (List.Mem.tail _ (List.Mem.tail _ (List.Mem.head _))))) (by kernel_rfl) (fun _ _ h => h)),
      stepG (i := 26) (j := 23) (dj := 80) (b := true) (dst := some 83) (op := (.call { callee := .value (.func 16), args := #[(.tmp 81), (.tmp 82)], argTypes := #[30, 30] })) (by kernel_rfl) (by kernel_rfl) (by kernel_rfl) (fun _ _ h => h) (call2 (enters_of Tryz.func16 (by kernel_rfl) rfl) (argT (p := (isQ (numQ a0 b0 m0) 5)) (by kernel_rfl) (fun _ _ h => h)) (argT (p := (isQ (numQ a1 b1 m1) 5)) (by kernel_rfl) (fun _ _ h => h)) (fun w u1 u2 h1 h2 => mul_q h1 h2 (by omega) (by omega)) (fun _ _ h => h)),
      stepG (i := 27) (j := 23) (dj := 80) (b := true) (dst := some 84) (op := (.call { callee := .value (.func 8), args := #[(.tmp 83)], argTypes := #[30] })) (by kernel_rfl) (by kernel_rfl) (by kernel_rfl) (fun _ _ h => h) (call1 (enters_of Tryz.func8 (by kernel_rfl) rfl) (argT (p := (isQ ((numQ a0 b0 m0) * (numQ a1 b1 m1)) (5 + 5))) (by kernel_rfl) (fun _ _ h => h)) (fun w u1 h1 => print_q h1 (by omega)) (fun _ _ h => h)),
      stepG (i := 28) (j := 23) (dj := 80) (b := true) (dst := some 85) (op := (.load 35 (.tmp 6))) (by kernel_rfl) (by kernel_rfl) (by kernel_rfl) (fun _ _ h => h) (loadV (List.Mem.tail _ (List.Mem.tail _ (List.Mem.tail _ (List.Mem.head _)))) (by kernel_rfl) (fun _ _ h => h)),
      stepG (i := 29) (j := 23) (dj := 80) (b := true) (dst := some 86) (op := (.load 35 (.tmp 8))) (by kernel_rfl) (by kernel_rfl) (by kernel_rfl) (fun _ _ h => h) (loadV (List.Mem.tail _ (List.Mem.tail _ (List.Mem.tail _ (List.Mem.tail _ (List.Mem.tail _ (List.Mem.head _)))))) (by kernel_rfl) (fun _ _ h => h)),
      stepG (i := 30) (j := 23) (dj := 80) (b := true) (dst := some 87) (op := (.call { callee := .value (.func 17), args := #[(.tmp 85), (.tmp 86)], argTypes := #[35, 35] })) (by kernel_rfl) (by kernel_rfl) (by kernel_rfl) (fun _ _ h => h) (call2 (enters_of Tryz.func17 (by kernel_rfl) rfl) (argT (p := (isR (numQ a0 b0 m0) 32)) (by kernel_rfl) (fun _ _ h => h)) (argT (p := (isR (numQ a1 b1 m1) 32)) (by kernel_rfl) (fun _ _ h => h)) (fun w u1 u2 h1 h2 => mul_r h1 h2 (by omega) (by omega)) (fun _ _ h => h)),
      stepG (i := 31) (j := 23) (dj := 80) (b := true) (dst := some 88) (op := (.call { callee := .value (.func 9), args := #[(.tmp 87)], argTypes := #[35] })) (by kernel_rfl) (by kernel_rfl) (by kernel_rfl) (fun _ _ h => h) (call1 (enters_of Tryz.func9 (by kernel_rfl) rfl) (argT (p := (isR ((numQ a0 b0 m0) * (numQ a1 b1 m1)) (32 + 32 + 1))) (by kernel_rfl) (fun _ _ h => h)) (fun w u1 h1 => print_r h1 (by omega)) (fun _ _ h => h)),
      stepG (i := 32) (j := 23) (dj := 80) (b := true) (dst := some 89) (op := (.binOp .eql 9 (.tmp 84) (.tmp 88) 9)) (by kernel_rfl) (by kernel_rfl) (by kernel_rfl) (fun _ _ h => h) (eqlS (l := qtext ((numQ a0 b0 m0) * (numQ a1 b1 m1))) (r := qtext ((numQ a0 b0 m0) * (numQ a1 b1 m1))) (argT (p := (isT (qtext ((numQ a0 b0 m0) * (numQ a1 b1 m1))))) (by kernel_rfl) (fun _ _ h => h)) (argT (p := (isT (qtext ((numQ a0 b0 m0) * (numQ a1 b1 m1))))) (by kernel_rfl) (fun _ _ h => h)) (fun w v h => h.trans (congrArg Value.bool (eq_self _)))),
      stepN (i := 33) (dst := some 90) (op := (.pick (.tmp 80) (.tmp 89) (.const (.bool false)))) (by kernel_rfl) (pickT (argT (p := (isE (.bool true))) (by kernel_rfl) (fun _ _ h => h)) (argT (p := (isE (.bool true))) (by kernel_rfl) (fun _ _ h => h)) (fun _ _ h => h)),
      stepN (i := 34) (dst := some 91) (op := (.move (.tmp 90))) (by kernel_rfl) (move (argT (p := (isE (.bool true))) (by kernel_rfl) (fun _ _ h => h)) (fun _ _ h => h)),
      stepG (i := 35) (j := 34) (dj := 91) (b := true) (dst := some 92) (op := (.load 30 (.tmp 5))) (by kernel_rfl) (by kernel_rfl) (by kernel_rfl) (fun _ _ h => h) (loadV (List.Mem.tail _ (List.Mem.tail _ (List.Mem.head _))) (by kernel_rfl) (fun _ _ h => h)),
      stepG (i := 36) (j := 34) (dj := 91) (b := true) (dst := some 93) (op := (.load 30 (.tmp 7))) (by kernel_rfl) (by kernel_rfl) (by kernel_rfl) (fun _ _ h => h) (loadV (List.Mem.tail _ (List.Mem.tail _ (List.Mem.tail _ (List.Mem.tail _ (List.Mem.head _))))) (by kernel_rfl) (fun _ _ h => h)),
      stepG (i := 37) (j := 34) (dj := 91) (b := true) (dst := some 94) (op := (.call { callee := .value (.func 18), args := #[(.tmp 92), (.tmp 93)], argTypes := #[30, 30] })) (by kernel_rfl) (by kernel_rfl) (by kernel_rfl) (fun _ _ h => h) (call2 (enters_of Tryz.func18 (by kernel_rfl) rfl) (argT (p := (isQ (numQ a0 b0 m0) 5)) (by kernel_rfl) (fun _ _ h => h)) (argT (p := (isQ (numQ a1 b1 m1) 5)) (by kernel_rfl) (fun _ _ h => h)) (fun w u1 u2 h1 h2 => cmp_q h1 h2 (by omega) (by omega)) (fun _ _ h => h)),
      stepG (i := 38) (j := 34) (dj := 91) (b := true) (dst := some 95) (op := (.load 35 (.tmp 6))) (by kernel_rfl) (by kernel_rfl) (by kernel_rfl) (fun _ _ h => h) (loadV (List.Mem.tail _ (List.Mem.tail _ (List.Mem.tail _ (List.Mem.head _)))) (by kernel_rfl) (fun _ _ h => h)),
      stepG (i := 39) (j := 34) (dj := 91) (b := true) (dst := some 96) (op := (.load 35 (.tmp 8))) (by kernel_rfl) (by kernel_rfl) (by kernel_rfl) (fun _ _ h => h) (loadV (List.Mem.tail _ (List.Mem.tail _ (List.Mem.tail _ (List.Mem.tail _ (List.Mem.tail _ (List.Mem.head _)))))) (by kernel_rfl) (fun _ _ h => h)),
      stepG (i := 40) (j := 34) (dj := 91) (b := true) (dst := some 97) (op := (.call { callee := .value (.func 19), args := #[(.tmp 95), (.tmp 96)], argTypes := #[35, 35] })) (by kernel_rfl) (by kernel_rfl) (by kernel_rfl) (fun _ _ h => h) (call2 (enters_of Tryz.func19 (by kernel_rfl) rfl) (argT (p := (isR (numQ a0 b0 m0) 32)) (by kernel_rfl) (fun _ _ h => h)) (argT (p := (isR (numQ a1 b1 m1) 32)) (by kernel_rfl) (fun _ _ h => h)) (fun w u1 u2 h1 h2 => cmp_r h1 h2 (by omega) (by omega)) (fun _ _ h => h)),
      stepG (i := 41) (j := 34) (dj := 91) (b := true) (dst := some 98) (op := (.binOp .eql 3 (.tmp 94) (.tmp 97) 3)) (by kernel_rfl) (by kernel_rfl) (by kernel_rfl) (fun _ _ h => h) (eql (m := (cmpQ (numQ a0 b0 m0) (numQ a1 b1 m1))) (n := (cmpQ (numQ a0 b0 m0) (numQ a1 b1 m1))) (argT (p := (isE (.int .i64 (cmpQ (numQ a0 b0 m0) (numQ a1 b1 m1))))) (by kernel_rfl) (fun _ _ h => h)) (argT (p := (isE (.int .i64 (cmpQ (numQ a0 b0 m0) (numQ a1 b1 m1))))) (by kernel_rfl) (fun _ _ h => h)) (fun w v h => h.trans (congrArg Value.bool (decide_eq_true rfl)))),
      stepN (i := 42) (dst := some 99) (op := (.pick (.tmp 91) (.tmp 98) (.const (.bool false)))) (by kernel_rfl) (pickT (argT (p := (isE (.bool true))) (by kernel_rfl) (fun _ _ h => h)) (argT (p := (isE (.bool true))) (by kernel_rfl) (fun _ _ h => h)) (fun _ _ h => h)),
      stepN (i := 43) (dst := some 100) (op := (.move (.tmp 99))) (by kernel_rfl) (move (argT (p := (isE (.bool true))) (by kernel_rfl) (fun _ _ h => h)) (fun _ _ h => h)),
      stepG (i := 44) (j := 43) (dj := 100) (b := true) (dst := some 101) (op := (.load 30 (.tmp 5))) (by kernel_rfl) (by kernel_rfl) (by kernel_rfl) (fun _ _ h => h) (loadV (List.Mem.tail _ (List.Mem.tail _ (List.Mem.head _))) (by kernel_rfl) (fun _ _ h => h)),
      stepG (i := 45) (j := 43) (dj := 100) (b := true) (dst := some 102) (op := (.call { callee := .value (.func 20), args := #[(.tmp 101)], argTypes := #[30] })) (by kernel_rfl) (by kernel_rfl) (by kernel_rfl) (fun _ _ h => h) (call1 (enters_of Tryz.func20 (by kernel_rfl) rfl) (argT (p := (isQ (numQ a0 b0 m0) 5)) (by kernel_rfl) (fun _ _ h => h)) (fun w u1 h1 => neg_q h1) (fun _ _ h => h)),
      stepG (i := 46) (j := 43) (dj := 100) (b := true) (dst := some 103) (op := (.call { callee := .value (.func 8), args := #[(.tmp 102)], argTypes := #[30] })) (by kernel_rfl) (by kernel_rfl) (by kernel_rfl) (fun _ _ h => h) (call1 (enters_of Tryz.func8 (by kernel_rfl) rfl) (argT (p := (isQ (-(numQ a0 b0 m0)) 5)) (by kernel_rfl) (fun _ _ h => h)) (fun w u1 h1 => print_q h1 (by omega)) (fun _ _ h => h)),
      stepG (i := 47) (j := 43) (dj := 100) (b := true) (dst := some 104) (op := (.load 35 (.tmp 6))) (by kernel_rfl) (by kernel_rfl) (by kernel_rfl) (fun _ _ h => h) (loadV (List.Mem.tail _ (List.Mem.tail _ (List.Mem.tail _ (List.Mem.head _)))) (by kernel_rfl) (fun _ _ h => h)),
      stepG (i := 48) (j := 43) (dj := 100) (b := true) (dst := some 105) (op := (.call { callee := .value (.func 21), args := #[(.tmp 104)], argTypes := #[35] })) (by kernel_rfl) (by kernel_rfl) (by kernel_rfl) (fun _ _ h => h) (call1 (enters_of Tryz.func21 (by kernel_rfl) rfl) (argT (p := (isR (numQ a0 b0 m0) 32)) (by kernel_rfl) (fun _ _ h => h)) (fun w u1 h1 => neg_r h1) (fun _ _ h => h)),
      stepG (i := 49) (j := 43) (dj := 100) (b := true) (dst := some 106) (op := (.call { callee := .value (.func 9), args := #[(.tmp 105)], argTypes := #[35] })) (by kernel_rfl) (by kernel_rfl) (by kernel_rfl) (fun _ _ h => h) (call1 (enters_of Tryz.func9 (by kernel_rfl) rfl) (argT (p := (isR (-(numQ a0 b0 m0)) 32)) (by kernel_rfl) (fun _ _ h => h)) (fun w u1 h1 => print_r h1 (by omega)) (fun _ _ h => h)),
      stepG (i := 50) (j := 43) (dj := 100) (b := true) (dst := some 107) (op := (.binOp .eql 9 (.tmp 103) (.tmp 106) 9)) (by kernel_rfl) (by kernel_rfl) (by kernel_rfl) (fun _ _ h => h) (eqlS (l := qtext (-(numQ a0 b0 m0))) (r := qtext (-(numQ a0 b0 m0))) (argT (p := (isT (qtext (-(numQ a0 b0 m0))))) (by kernel_rfl) (fun _ _ h => h)) (argT (p := (isT (qtext (-(numQ a0 b0 m0))))) (by kernel_rfl) (fun _ _ h => h)) (fun w v h => h.trans (congrArg Value.bool (eq_self _)))),
      stepN (i := 51) (dst := some 108) (op := (.pick (.tmp 100) (.tmp 107) (.const (.bool false)))) (by kernel_rfl) (pickT (argT (p := (isE (.bool true))) (by kernel_rfl) (fun _ _ h => h)) (argT (p := (isE (.bool true))) (by kernel_rfl) (fun _ _ h => h)) (fun _ _ h => h)),
      stepN (i := 52) (dst := some 109) (op := (.move (.tmp 108))) (by kernel_rfl) (move (argT (p := (isE (.bool true))) (by kernel_rfl) (fun _ _ h => h)) (fun _ _ h => h)),
      stepG (i := 53) (j := 52) (dj := 109) (b := true) (dst := some 110) (op := (.load 30 (.tmp 5))) (by kernel_rfl) (by kernel_rfl) (by kernel_rfl) (fun _ _ h => h) (loadV (List.Mem.tail _ (List.Mem.tail _ (List.Mem.head _))) (by kernel_rfl) (fun _ _ h => h)),
      stepG (i := 54) (j := 52) (dj := 109) (b := true) (dst := some 111) (op := (.call { callee := .value (.func 22), args := #[(.tmp 110)], argTypes := #[30] })) (by kernel_rfl) (by kernel_rfl) (by kernel_rfl) (fun _ _ h => h) (call1 (enters_of Tryz.func22 (by kernel_rfl) rfl) (argT (p := (isQ (numQ a0 b0 m0) 5)) (by kernel_rfl) (fun _ _ h => h)) (fun w u1 h1 => floor_q h1 (by omega)) (fun _ _ h => h)),
      stepG (i := 55) (j := 52) (dj := 109) (b := true) (dst := some 112) (op := (.call { callee := .value (.func 23), args := #[(.tmp 111)], argTypes := #[28] })) (by kernel_rfl) (by kernel_rfl) (by kernel_rfl) (fun _ _ h => h) (call1 (enters_of Tryz.func23 (by kernel_rfl) rfl) (argT (p := (isW (Rat.floor (numQ a0 b0 m0)) (max 5 1 + 1))) (by kernel_rfl) (fun _ _ h => h)) (fun w u1 h1 => print_w h1 (by omega)) (fun _ _ h => h)),
      stepG (i := 56) (j := 52) (dj := 109) (b := true) (dst := some 113) (op := (.load 35 (.tmp 6))) (by kernel_rfl) (by kernel_rfl) (by kernel_rfl) (fun _ _ h => h) (loadV (List.Mem.tail _ (List.Mem.tail _ (List.Mem.tail _ (List.Mem.head _)))) (by kernel_rfl) (fun _ _ h => h)),
      stepG (i := 57) (j := 52) (dj := 109) (b := true) (dst := some 114) (op := (.call { callee := .value (.func 25), args := #[(.tmp 113)], argTypes := #[35] })) (by kernel_rfl) (by kernel_rfl) (by kernel_rfl) (fun _ _ h => h) (call1 (enters_of Tryz.func25 (by kernel_rfl) rfl) (argT (p := (isR (numQ a0 b0 m0) 32)) (by kernel_rfl) (fun _ _ h => h)) (fun w u1 h1 => floor_r h1 (by omega)) (fun _ _ h => h)),
      stepG (i := 58) (j := 52) (dj := 109) (b := true) (dst := some 115) (op := (.call { callee := .value (.func 24), args := #[(.tmp 114)], argTypes := #[33] })) (by kernel_rfl) (by kernel_rfl) (by kernel_rfl) (fun _ _ h => h) (call1 (enters_of Tryz.func24 (by kernel_rfl) rfl) (argT (p := (isV (Rat.floor (numQ a0 b0 m0)) 2000)) (by kernel_rfl) (fun _ _ h => h)) (fun w u1 h1 => printV h1 (by omega)) (fun _ _ h => h)),
      stepG (i := 59) (j := 52) (dj := 109) (b := true) (dst := some 116) (op := (.binOp .eql 9 (.tmp 112) (.tmp 115) 9)) (by kernel_rfl) (by kernel_rfl) (by kernel_rfl) (fun _ _ h => h) (eqlS (l := ztext (Rat.floor (numQ a0 b0 m0))) (r := ztext (Rat.floor (numQ a0 b0 m0))) (argT (p := (isT (ztext (Rat.floor (numQ a0 b0 m0))))) (by kernel_rfl) (fun _ _ h => h)) (argT (p := (isT (ztext (Rat.floor (numQ a0 b0 m0))))) (by kernel_rfl) (fun _ _ h => h)) (fun w v h => h.trans (congrArg Value.bool (eq_self _)))),
      stepN (i := 60) (dst := some 117) (op := (.pick (.tmp 109) (.tmp 116) (.const (.bool false)))) (by kernel_rfl) (pickT (argT (p := (isE (.bool true))) (by kernel_rfl) (fun _ _ h => h)) (argT (p := (isE (.bool true))) (by kernel_rfl) (fun _ _ h => h)) (fun _ _ h => h)),
      stepN (i := 61) (dst := some 4) (op := (.assign (.tmp 117))) (by kernel_rfl) (assign (argT (p := (isE (.bool true))) (by kernel_rfl) (fun _ _ h => h)) (fun _ _ h => h)), trivial⟩) ?_
  clear hS kf ac
  try clear w
  intro kf ac w hS
  exact wp_ret (ret_t (q := (isE (.bool true))) (by kernel_rfl) hS (List.Mem.tail _ (List.Mem.tail _ (List.Mem.tail _ (List.Mem.tail _ (List.Mem.head _))))) (fun v h => ⟨v, rfl, (h), hS.grow⟩))
set_option maxRecDepth 100000 in
set_option maxHeartbeats 4000000 in
theorem sums5_1 {w : World} {v0 v1 : Value} {a0 b0 : List Nat} {m0 : Bool} {a1 b1 : List Nat} {m1 : Bool} (h0 : (isM a0 b0 m0) w v0) (h1 : (isM a1 b1 m1) w v1) (hy : numQ a1 b1 m1 ≠ 0) : Calls Tryz.prog 3 #[v0, v1] w (Ret w fun v w' => (isE (.bool true)) w' v) := by
  refine enter (s := soft) (n := 118) (c := (.seq (.region 0 (regionOps Tryz.f3 0) false) (.seq (.region 1 (regionOps Tryz.f3 1) false) (.seq (.region 2 (regionOps Tryz.f3 2) false) (.seq (.region 3 (regionOps Tryz.f3 3) false) (.seq (.seq (.region 4 (regionOps Tryz.f3 4) true) (.cond (.tmp 56) (.seq (.region 5 (regionOps Tryz.f3 5) false) .ret) .skip)) (.seq (.region 6 (regionOps Tryz.f3 6) true) .ret))))))) Tryz.func3 (by kernel_rfl) (by kernel_rfl) (by simp) [(0, (isM a0 b0 m0)), (1, (isM a1 b1 m1))] ⟨⟨by simp, h0⟩, ⟨by simp, h1⟩, trivial⟩ ?_
  intro kf ac hS
  refine plain_seq (m := 3) (by kernel_rfl) ?_
  refine box0 (p := 2) (y := 0) (t := 24) (q := (isM a0 b0 m0)) hS (by kernel_rfl) rfl rfl rfl (List.Mem.head _) shM trivial ⟨(stb_M _ _ _), (stb_M _ _ _), trivial⟩ ?_
  clear hS kf ac
  try clear w
  intro kf ac w hS
  refine box0 (p := 3) (y := 1) (t := 24) (q := (isM a1 b1 m1)) hS (by kernel_rfl) rfl rfl rfl (List.Mem.tail _ (List.Mem.head _)) shM ⟨(stb_M _ _ _), trivial⟩ ⟨(stb_M _ _ _), (stb_M _ _ _), trivial⟩ ?_
  clear hS kf ac
  try clear w
  intro kf ac w hS
  refine const0 (p := 4) (c := (.bool false)) hS (by kernel_rfl) rfl rfl rfl ?_
  clear hS kf ac
  try clear w
  intro kf ac w hS
  refine plain_end ?_
  refine region_seq (s := soft) (kf0 := kf) (by kernel_rfl) hS (Rg.look [(12, (isM a0 b0 m0)),
      (13, (IsT [(isQ (numQ a0 b0 m0) 5), (isR (numQ a0 b0 m0) 32)])),
      (11, (IsT [(isQ (numQ a0 b0 m0) 5), (isR (numQ a0 b0 m0) 32)])),
      (14, (isQ (numQ a0 b0 m0) 5)),
      (15, (isR (numQ a0 b0 m0) 32)),
      (5, isX),
      (6, isX)])
    ⟨[(5, 5, 30), (6, 6, 35)], [(7, 5, 14, 30), (8, 6, 15, 35)]⟩ [⟨3, 24, (isM a1 b1 m1)⟩, ⟨2, 24, (isM a0 b0 m0)⟩, ⟨5, 30, (isQ (numQ a0 b0 m0) 5)⟩, ⟨6, 35, (isR (numQ a0 b0 m0) 32)⟩] [(4, (isE (.bool false))), (0, (isM a0 b0 m0)), (1, (isM a1 b1 m1))] (by kernel_rfl) (by kernel_rfl) (look_stb _ ⟨(stb_M _ _ _), (stb_T ⟨(stb_Q _ _), (stb_R _ _), trivial⟩), (stb_T ⟨(stb_Q _ _), (stb_R _ _), trivial⟩), (stb_Q _ _), (stb_R _ _), stb_true, stb_true, trivial⟩) ⟨(stb_M _ _ _), (stb_M _ _ _), trivial⟩ ⟨(stb_eq _), (stb_M _ _ _), (stb_M _ _ _), trivial⟩ ⟨fun _ _ => trivial, fun _ _ => trivial, trivial⟩ ⟨shQ, shR, trivial⟩
    ⟨.inr (.inl ⟨rfl, _, (List.Mem.head _), rfl, rfl, (fun _ _ h => h)⟩), .inr (.inl ⟨rfl, _, (List.Mem.tail _ (List.Mem.head _)), rfl, rfl, (fun _ _ h => h)⟩), .inl ⟨_, (List.Mem.head _), rfl, rfl, (fun _ _ h => h)⟩, .inl ⟨_, (List.Mem.tail _ (List.Mem.head _)), rfl, rfl, (fun _ _ h => h)⟩, trivial⟩
    ⟨.inr ⟨(by kernel_rfl), _, (List.Mem.head _), rfl, (fun _ _ h => h)⟩, .inr ⟨(by kernel_rfl), _, (List.Mem.tail _ (List.Mem.head _)), rfl, (fun _ _ h => h)⟩, .inr ⟨(by kernel_rfl), _, (List.Mem.tail _ (List.Mem.tail _ (List.Mem.head _))), rfl, (fun _ _ h => h)⟩, trivial⟩
    (steps (m := 9) (by kernel_rfl) ⟨stepN (i := 0) (dst := some 12) (op := (.load 24 (.tmp 2))) (by kernel_rfl) (loadV (List.Mem.tail _ (List.Mem.head _)) (by kernel_rfl) (fun _ _ h => h)),
      stepN (i := 1) (dst := some 13) (op := (.call { callee := .value (.func 5), args := #[(.tmp 12)], argTypes := #[24] })) (by kernel_rfl) (call1 (enters_of Tryz.func5 (by kernel_rfl) rfl) (argT (p := (isM a0 b0 m0)) (by kernel_rfl) (fun _ _ h => h)) (fun w u1 h1 => num_m h1) (fun _ _ h => h)),
      stepN (i := 2) (dst := some 11) (op := (.move (.tmp 13))) (by kernel_rfl) (move (argT (p := (IsT [(isQ (numQ a0 b0 m0) 5), (isR (numQ a0 b0 m0) 32)])) (by kernel_rfl) (fun _ _ h => h)) (fun _ _ h => h)),
      stepN (i := 3) (dst := some 14) (op := (.extract (.tmp 11) 0)) (by kernel_rfl) (extract (by kernel_rfl) (fun _ _ h => h) rfl (fun _ _ h => h)),
      stepN (i := 4) (dst := some 15) (op := (.extract (.tmp 11) 1)) (by kernel_rfl) (extract (by kernel_rfl) (fun _ _ h => h) rfl (fun _ _ h => h)),
      isAlloc rfl,
      isAlloc rfl,
      isStore rfl,
      isStore rfl, trivial⟩) ?_
  clear hS kf ac
  try clear w
  intro kf ac w hS
  refine region_seq (s := soft) (kf0 := kf) (by kernel_rfl) hS (Rg.look [(17, (isM a1 b1 m1)),
      (18, (IsT [(isQ (numQ a1 b1 m1) 5), (isR (numQ a1 b1 m1) 32)])),
      (16, (IsT [(isQ (numQ a1 b1 m1) 5), (isR (numQ a1 b1 m1) 32)])),
      (19, (isQ (numQ a1 b1 m1) 5)),
      (20, (isR (numQ a1 b1 m1) 32)),
      (7, isX),
      (8, isX)])
    ⟨[(5, 7, 30), (6, 8, 35)], [(7, 7, 19, 30), (8, 8, 20, 35)]⟩ [⟨3, 24, (isM a1 b1 m1)⟩, ⟨2, 24, (isM a0 b0 m0)⟩, ⟨5, 30, (isQ (numQ a0 b0 m0) 5)⟩, ⟨6, 35, (isR (numQ a0 b0 m0) 32)⟩, ⟨7, 30, (isQ (numQ a1 b1 m1) 5)⟩, ⟨8, 35, (isR (numQ a1 b1 m1) 32)⟩] [(4, (isE (.bool false))), (0, (isM a0 b0 m0)), (1, (isM a1 b1 m1))] (by kernel_rfl) (by kernel_rfl) (look_stb _ ⟨(stb_M _ _ _), (stb_T ⟨(stb_Q _ _), (stb_R _ _), trivial⟩), (stb_T ⟨(stb_Q _ _), (stb_R _ _), trivial⟩), (stb_Q _ _), (stb_R _ _), stb_true, stb_true, trivial⟩) ⟨(stb_M _ _ _), (stb_M _ _ _), (stb_Q _ _), (stb_R _ _), trivial⟩ ⟨(stb_eq _), (stb_M _ _ _), (stb_M _ _ _), trivial⟩ ⟨fun _ _ => trivial, fun _ _ => trivial, trivial⟩ ⟨shQ, shR, trivial⟩
    ⟨.inr (.inl ⟨rfl, _, (List.Mem.head _), rfl, rfl, (fun _ _ h => h)⟩), .inr (.inl ⟨rfl, _, (List.Mem.tail _ (List.Mem.head _)), rfl, rfl, (fun _ _ h => h)⟩), .inr (.inl ⟨rfl, _, (List.Mem.tail _ (List.Mem.tail _ (List.Mem.head _))), rfl, rfl, (fun _ _ h => h)⟩), .inr (.inl ⟨rfl, _, (List.Mem.tail _ (List.Mem.tail _ (List.Mem.tail _ (List.Mem.head _)))), rfl, rfl, (fun _ _ h => h)⟩), .inl ⟨_, (List.Mem.head _), rfl, rfl, (fun _ _ h => h)⟩, .inl ⟨_, (List.Mem.tail _ (List.Mem.head _)), rfl, rfl, (fun _ _ h => h)⟩, trivial⟩
    ⟨.inr ⟨(by kernel_rfl), _, (List.Mem.head _), rfl, (fun _ _ h => h)⟩, .inr ⟨(by kernel_rfl), _, (List.Mem.tail _ (List.Mem.head _)), rfl, (fun _ _ h => h)⟩, .inr ⟨(by kernel_rfl), _, (List.Mem.tail _ (List.Mem.tail _ (List.Mem.head _))), rfl, (fun _ _ h => h)⟩, trivial⟩
    (steps (m := 9) (by kernel_rfl) ⟨stepN (i := 0) (dst := some 17) (op := (.load 24 (.tmp 3))) (by kernel_rfl) (loadV (List.Mem.head _) (by kernel_rfl) (fun _ _ h => h)),
      stepN (i := 1) (dst := some 18) (op := (.call { callee := .value (.func 5), args := #[(.tmp 17)], argTypes := #[24] })) (by kernel_rfl) (call1 (enters_of Tryz.func5 (by kernel_rfl) rfl) (argT (p := (isM a1 b1 m1)) (by kernel_rfl) (fun _ _ h => h)) (fun w u1 h1 => num_m h1) (fun _ _ h => h)),
      stepN (i := 2) (dst := some 16) (op := (.move (.tmp 18))) (by kernel_rfl) (move (argT (p := (IsT [(isQ (numQ a1 b1 m1) 5), (isR (numQ a1 b1 m1) 32)])) (by kernel_rfl) (fun _ _ h => h)) (fun _ _ h => h)),
      stepN (i := 3) (dst := some 19) (op := (.extract (.tmp 16) 0)) (by kernel_rfl) (extract (by kernel_rfl) (fun _ _ h => h) rfl (fun _ _ h => h)),
      stepN (i := 4) (dst := some 20) (op := (.extract (.tmp 16) 1)) (by kernel_rfl) (extract (by kernel_rfl) (fun _ _ h => h) rfl (fun _ _ h => h)),
      isAlloc rfl,
      isAlloc rfl,
      isStore rfl,
      isStore rfl, trivial⟩) ?_
  clear hS kf ac
  try clear w
  intro kf ac w hS
  refine region_seq (s := soft) (kf0 := kf) (by kernel_rfl) hS (Rg.look [(22, (isQ (numQ a0 b0 m0) 5)),
      (23, (isQ (numQ a1 b1 m1) 5)),
      (24, (IsT [(isQ ((numQ a0 b0 m0) / (numQ a1 b1 m1)) (5 + 5)), (isE (.int .i64 0))])),
      (21, (IsT [(isQ ((numQ a0 b0 m0) / (numQ a1 b1 m1)) (5 + 5)), (isE (.int .i64 0))])),
      (25, (isQ ((numQ a0 b0 m0) / (numQ a1 b1 m1)) (5 + 5))),
      (26, (isE (.int .i64 0))),
      (9, isX),
      (10, (isE (.int .i64 0)))])
    ⟨[(6, 9, 30)], [(7, 9, 25, 30)]⟩ [⟨3, 24, (isM a1 b1 m1)⟩, ⟨2, 24, (isM a0 b0 m0)⟩, ⟨5, 30, (isQ (numQ a0 b0 m0) 5)⟩, ⟨6, 35, (isR (numQ a0 b0 m0) 32)⟩, ⟨7, 30, (isQ (numQ a1 b1 m1) 5)⟩, ⟨8, 35, (isR (numQ a1 b1 m1) 32)⟩, ⟨9, 30, (isQ ((numQ a0 b0 m0) / (numQ a1 b1 m1)) (5 + 5))⟩] [(4, (isE (.bool false))), (0, (isM a0 b0 m0)), (1, (isM a1 b1 m1)), (10, (isE (.int .i64 0)))] (by kernel_rfl) (by kernel_rfl) (look_stb _ ⟨(stb_Q _ _), (stb_Q _ _), (stb_T ⟨(stb_Q _ _), (stb_eq _), trivial⟩), (stb_T ⟨(stb_Q _ _), (stb_eq _), trivial⟩), (stb_Q _ _), (stb_eq _), stb_true, (stb_eq _), trivial⟩) ⟨(stb_M _ _ _), (stb_M _ _ _), (stb_Q _ _), (stb_R _ _), (stb_Q _ _), (stb_R _ _), trivial⟩ ⟨(stb_eq _), (stb_M _ _ _), (stb_M _ _ _), trivial⟩ ⟨fun _ _ => trivial, trivial⟩ ⟨shQ, trivial⟩
    ⟨.inr (.inl ⟨rfl, _, (List.Mem.head _), rfl, rfl, (fun _ _ h => h)⟩), .inr (.inl ⟨rfl, _, (List.Mem.tail _ (List.Mem.head _)), rfl, rfl, (fun _ _ h => h)⟩), .inr (.inl ⟨rfl, _, (List.Mem.tail _ (List.Mem.tail _ (List.Mem.head _))), rfl, rfl, (fun _ _ h => h)⟩), .inr (.inl ⟨rfl, _, (List.Mem.tail _ (List.Mem.tail _ (List.Mem.tail _ (List.Mem.head _)))), rfl, rfl, (fun _ _ h => h)⟩), .inr (.inl ⟨rfl, _, (List.Mem.tail _ (List.Mem.tail _ (List.Mem.tail _ (List.Mem.tail _ (List.Mem.head _))))), rfl, rfl, (fun _ _ h => h)⟩), .inr (.inl ⟨rfl, _, (List.Mem.tail _ (List.Mem.tail _ (List.Mem.tail _ (List.Mem.tail _ (List.Mem.tail _ (List.Mem.head _)))))), rfl, rfl, (fun _ _ h => h)⟩), .inl ⟨_, (List.Mem.head _), rfl, rfl, (fun _ _ h => h)⟩, trivial⟩
    ⟨.inr ⟨(by kernel_rfl), _, (List.Mem.head _), rfl, (fun _ _ h => h)⟩, .inr ⟨(by kernel_rfl), _, (List.Mem.tail _ (List.Mem.head _)), rfl, (fun _ _ h => h)⟩, .inr ⟨(by kernel_rfl), _, (List.Mem.tail _ (List.Mem.tail _ (List.Mem.head _))), rfl, (fun _ _ h => h)⟩, .inl ⟨(by kernel_rfl), rfl, (fun _ _ h => h)⟩, trivial⟩
    (steps (m := 9) (by kernel_rfl) ⟨stepN (i := 0) (dst := some 22) (op := (.load 30 (.tmp 5))) (by kernel_rfl) (loadV (List.Mem.tail _ (List.Mem.tail _ (List.Mem.head _))) (by kernel_rfl) (fun _ _ h => h)),
      stepN (i := 1) (dst := some 23) (op := (.load 30 (.tmp 7))) (by kernel_rfl) (loadV (List.Mem.tail _ (List.Mem.tail _ (List.Mem.tail _ (List.Mem.tail _ (List.Mem.head _))))) (by kernel_rfl) (fun _ _ h => h)),
      stepN (i := 2) (dst := some 24) (op := (.call { callee := .value (.func 6), args := #[(.tmp 22), (.tmp 23)], argTypes := #[30, 30] })) (by kernel_rfl) (call2 (enters_of Tryz.func6 (by kernel_rfl) rfl) (argT (p := (isQ (numQ a0 b0 m0) 5)) (by kernel_rfl) (fun _ _ h => h)) (argT (p := (isQ (numQ a1 b1 m1) 5)) (by kernel_rfl) (fun _ _ h => h)) (fun w u1 u2 h1 h2 => quo_q h1 h2 (by omega) (by omega) hy) (fun _ _ h => h)),
      stepN (i := 3) (dst := some 21) (op := (.move (.tmp 24))) (by kernel_rfl) (move (argT (p := (IsT [(isQ ((numQ a0 b0 m0) / (numQ a1 b1 m1)) (5 + 5)), (isE (.int .i64 0))])) (by kernel_rfl) (fun _ _ h => h)) (fun _ _ h => h)),
      stepN (i := 4) (dst := some 25) (op := (.extract (.tmp 21) 0)) (by kernel_rfl) (extract (by kernel_rfl) (fun _ _ h => h) rfl (fun _ _ h => h)),
      stepN (i := 5) (dst := some 26) (op := (.extract (.tmp 21) 1)) (by kernel_rfl) (extract (by kernel_rfl) (fun _ _ h => h) rfl (fun _ _ h => h)),
      isAlloc rfl,
      isStore rfl,
      stepN (i := 8) (dst := some 10) (op := (.assign (.tmp 26))) (by kernel_rfl) (assign (argT (p := (isE (.int .i64 0))) (by kernel_rfl) (fun _ _ h => h)) (fun _ _ h => h)), trivial⟩) ?_
  clear hS kf ac
  try clear w
  intro kf ac w hS
  refine wp_seq ?_
  refine region_seq (s := soft) (kf0 := kf) (by kernel_rfl) hS (Rg.look [(27, (isQ (numQ a1 b1 m1) 5)),
      (28, (isE (.int .i64 (Int.sign ((numQ a1 b1 m1).num))))),
      (29, (isE (.bool false))),
      (30, (isE (.bool false))),
      (31, (isE undef)),
      (32, (isE undef)),
      (33, (isE undef)),
      (34, (isE undef)),
      (35, (isE undef)),
      (36, (isE undef)),
      (37, (isE undef)),
      (38, (isE (.bool false))),
      (39, (isE (.bool false))),
      (40, (isQ (numQ a1 b1 m1) 5)),
      (41, (isE (.int .i64 (Int.sign ((numQ a1 b1 m1).num))))),
      (42, (isE (.bool true))),
      (43, (isE (.bool true))),
      (44, (isE (.int .i64 0))),
      (45, (isE (.bool false))),
      (46, (isE (.bool false))),
      (47, (isQ ((numQ a0 b0 m0) / (numQ a1 b1 m1)) (5 + 5))),
      (48, (isT (qtext ((numQ a0 b0 m0) / (numQ a1 b1 m1))))),
      (49, (isR (numQ a0 b0 m0) 32)),
      (50, (isR (numQ a1 b1 m1) 32)),
      (51, (isR ((numQ a0 b0 m0) / (numQ a1 b1 m1)) (32 + 32 + 1))),
      (52, (isT (qtext ((numQ a0 b0 m0) / (numQ a1 b1 m1))))),
      (53, (isE (.bool false))),
      (54, (isE (.bool false))),
      (55, (isE (.bool false))),
      (56, (isE (.bool false)))])
    ⟨[], []⟩ [⟨3, 24, (isM a1 b1 m1)⟩, ⟨2, 24, (isM a0 b0 m0)⟩, ⟨5, 30, (isQ (numQ a0 b0 m0) 5)⟩, ⟨6, 35, (isR (numQ a0 b0 m0) 32)⟩, ⟨7, 30, (isQ (numQ a1 b1 m1) 5)⟩, ⟨8, 35, (isR (numQ a1 b1 m1) 32)⟩, ⟨9, 30, (isQ ((numQ a0 b0 m0) / (numQ a1 b1 m1)) (5 + 5))⟩] [(4, (isE (.bool false))), (0, (isM a0 b0 m0)), (1, (isM a1 b1 m1)), (10, (isE (.int .i64 0))), (56, (isE (.bool false)))] (by kernel_rfl) (by kernel_rfl) (look_stb _ ⟨(stb_Q _ _), (stb_eq _), (stb_eq _), (stb_eq _), (stb_eq _), (stb_eq _), (stb_eq _), (stb_eq _), (stb_eq _), (stb_eq _), (stb_eq _), (stb_eq _), (stb_eq _), (stb_Q _ _), (stb_eq _), (stb_eq _), (stb_eq _), (stb_eq _), (stb_eq _), (stb_eq _), (stb_Q _ _), (stb_eq _), (stb_R _ _), (stb_R _ _), (stb_R _ _), (stb_eq _), (stb_eq _), (stb_eq _), (stb_eq _), (stb_eq _), trivial⟩) ⟨(stb_M _ _ _), (stb_M _ _ _), (stb_Q _ _), (stb_R _ _), (stb_Q _ _), (stb_R _ _), (stb_Q _ _), trivial⟩ ⟨(stb_eq _), (stb_M _ _ _), (stb_M _ _ _), (stb_eq _), trivial⟩ trivial trivial
    ⟨.inr (.inl ⟨rfl, _, (List.Mem.head _), rfl, rfl, (fun _ _ h => h)⟩), .inr (.inl ⟨rfl, _, (List.Mem.tail _ (List.Mem.head _)), rfl, rfl, (fun _ _ h => h)⟩), .inr (.inl ⟨rfl, _, (List.Mem.tail _ (List.Mem.tail _ (List.Mem.head _))), rfl, rfl, (fun _ _ h => h)⟩), .inr (.inl ⟨rfl, _, (List.Mem.tail _ (List.Mem.tail _ (List.Mem.tail _ (List.Mem.head _)))), rfl, rfl, (fun _ _ h => h)⟩), .inr (.inl ⟨rfl, _, (List.Mem.tail _ (List.Mem.tail _ (List.Mem.tail _ (List.Mem.tail _ (List.Mem.head _))))), rfl, rfl, (fun _ _ h => h)⟩), .inr (.inl ⟨rfl, _, (List.Mem.tail _ (List.Mem.tail _ (List.Mem.tail _ (List.Mem.tail _ (List.Mem.tail _ (List.Mem.head _)))))), rfl, rfl, (fun _ _ h => h)⟩), .inr (.inl ⟨rfl, _, (List.Mem.tail _ (List.Mem.tail _ (List.Mem.tail _ (List.Mem.tail _ (List.Mem.tail _ (List.Mem.tail _ (List.Mem.head _))))))), rfl, rfl, (fun _ _ h => h)⟩), trivial⟩
    ⟨.inr ⟨(by kernel_rfl), _, (List.Mem.head _), rfl, (fun _ _ h => h)⟩, .inr ⟨(by kernel_rfl), _, (List.Mem.tail _ (List.Mem.head _)), rfl, (fun _ _ h => h)⟩, .inr ⟨(by kernel_rfl), _, (List.Mem.tail _ (List.Mem.tail _ (List.Mem.head _))), rfl, (fun _ _ h => h)⟩, .inr ⟨(by kernel_rfl), _, (List.Mem.tail _ (List.Mem.tail _ (List.Mem.tail _ (List.Mem.head _)))), rfl, (fun _ _ h => h)⟩, .inl ⟨(by kernel_rfl), rfl, (fun _ _ h => h)⟩, trivial⟩
    (steps (m := 30) (by kernel_rfl) ⟨stepN (i := 0) (dst := some 27) (op := (.load 30 (.tmp 7))) (by kernel_rfl) (loadV (List.Mem.tail _ (List.Mem.tail _ (List.Mem.tail _ (List.Mem.tail _ (List.Mem.head _))))) (by kernel_rfl) (fun _ _ h => h)),
      stepN (i := 1) (dst := some 28) (op := (.call { callee := .value (.func 7), args := #[(.tmp 27)], argTypes := #[30] })) (by kernel_rfl) (call1 (enters_of Tryz.func7 (by kernel_rfl) rfl) (argT (p := (isQ (numQ a1 b1 m1) 5)) (by kernel_rfl) (fun _ _ h => h)) (fun w u1 h1 => sign_q h1) (fun _ _ h => h)),
      stepN (i := 2) (dst := some 29) (op := (.binOp .eql 3 (.tmp 28) (.const (.int .i64 0)) 3)) (by kernel_rfl) (eql (m := (Int.sign ((numQ a1 b1 m1).num))) (n := 0) (argT (p := (isE (.int .i64 (Int.sign ((numQ a1 b1 m1).num))))) (by kernel_rfl) (fun _ _ h => h)) (argC (.int .i64 0)) (fun w v h => h.trans (congrArg Value.bool (sign_ne hy)))),
      stepN (i := 3) (dst := some 30) (op := (.move (.tmp 29))) (by kernel_rfl) (move (argT (p := (isE (.bool false))) (by kernel_rfl) (fun _ _ h => h)) (fun _ _ h => h)),
      stepS (i := 4) (j := 3) (dj := 30) (b := true) (c := false) (dst := some 31) (op := (.move (.tmp 10))) (by kernel_rfl) (by kernel_rfl) (by kernel_rfl) (fun _ _ h => h) rfl (fun d hd w => by cases hd; exact rfl),
      stepS (i := 5) (j := 3) (dj := 30) (b := true) (c := false) (dst := some 32) (op := (.binOp .neq 38 (.tmp 31) (.const (.int .i64 8)) 38)) (by kernel_rfl) (by kernel_rfl) (by kernel_rfl) (fun _ _ h => h) rfl (fun d hd w => by cases hd; exact rfl),
      stepS (i := 6) (j := 3) (dj := 30) (b := true) (c := false) (dst := some 33) (op := (.move (.tmp 32))) (by kernel_rfl) (by kernel_rfl) (by kernel_rfl) (fun _ _ h => h) rfl (fun d hd w => by cases hd; exact rfl),
      stepU (i := 7) (j := 6) (dj := 33) (b := false) (dst := some 34) (op := (.load 30 (.tmp 9))) (by kernel_rfl) (by kernel_rfl) (by kernel_rfl) (fun _ _ h => h) (fun d hd w => by cases hd; exact rfl),
      stepU (i := 8) (j := 6) (dj := 33) (b := false) (dst := some 35) (op := (.call { callee := .value (.func 7), args := #[(.tmp 34)], argTypes := #[30] })) (by kernel_rfl) (by kernel_rfl) (by kernel_rfl) (fun _ _ h => h) (fun d hd w => by cases hd; exact rfl),
      stepU (i := 9) (j := 6) (dj := 33) (b := false) (dst := some 36) (op := (.binOp .neq 3 (.tmp 35) (.const (.int .i64 0)) 3)) (by kernel_rfl) (by kernel_rfl) (by kernel_rfl) (fun _ _ h => h) (fun d hd w => by cases hd; exact rfl),
      stepS (i := 10) (j := 3) (dj := 30) (b := true) (c := false) (dst := some 37) (op := (.pick (.tmp 33) (.const (.bool true)) (.tmp 36))) (by kernel_rfl) (by kernel_rfl) (by kernel_rfl) (fun _ _ h => h) rfl (fun d hd w => by cases hd; exact rfl),
      stepN (i := 11) (dst := some 38) (op := (.pick (.tmp 30) (.tmp 37) (.const (.bool false)))) (by kernel_rfl) (pickF (argT (p := (isE (.bool false))) (by kernel_rfl) (fun _ _ h => h)) (argC (.bool false)) (fun _ _ h => h)),
      stepN (i := 12) (dst := some 39) (op := (.move (.tmp 38))) (by kernel_rfl) (move (argT (p := (isE (.bool false))) (by kernel_rfl) (fun _ _ h => h)) (fun _ _ h => h)),
      stepG (i := 13) (j := 12) (dj := 39) (b := false) (dst := some 40) (op := (.load 30 (.tmp 7))) (by kernel_rfl) (by kernel_rfl) (by kernel_rfl) (fun _ _ h => h) (loadV (List.Mem.tail _ (List.Mem.tail _ (List.Mem.tail _ (List.Mem.tail _ (List.Mem.head _))))) (by kernel_rfl) (fun _ _ h => h)),
      stepG (i := 14) (j := 12) (dj := 39) (b := false) (dst := some 41) (op := (.call { callee := .value (.func 7), args := #[(.tmp 40)], argTypes := #[30] })) (by kernel_rfl) (by kernel_rfl) (by kernel_rfl) (fun _ _ h => h) (call1 (enters_of Tryz.func7 (by kernel_rfl) rfl) (argT (p := (isQ (numQ a1 b1 m1) 5)) (by kernel_rfl) (fun _ _ h => h)) (fun w u1 h1 => sign_q h1) (fun _ _ h => h)),
      stepG (i := 15) (j := 12) (dj := 39) (b := false) (dst := some 42) (op := (.binOp .neq 3 (.tmp 41) (.const (.int .i64 0)) 3)) (by kernel_rfl) (by kernel_rfl) (by kernel_rfl) (fun _ _ h => h) (neq (m := (Int.sign ((numQ a1 b1 m1).num))) (n := 0) (argT (p := (isE (.int .i64 (Int.sign ((numQ a1 b1 m1).num))))) (by kernel_rfl) (fun _ _ h => h)) (argC (.int .i64 0)) (fun w v h => h.trans (congrArg Value.bool (by rw [sign_ne hy]; rfl)))),
      stepG (i := 16) (j := 12) (dj := 39) (b := false) (dst := some 43) (op := (.move (.tmp 42))) (by kernel_rfl) (by kernel_rfl) (by kernel_rfl) (fun _ _ h => h) (move (argT (p := (isE (.bool true))) (by kernel_rfl) (fun _ _ h => h)) (fun _ _ h => h)),
      stepG (i := 17) (j := 16) (dj := 43) (b := true) (dst := some 44) (op := (.move (.tmp 10))) (by kernel_rfl) (by kernel_rfl) (by kernel_rfl) (fun _ _ h => h) (move (argO (p := (isE (.int .i64 0))) (List.Mem.tail _ (List.Mem.tail _ (List.Mem.tail _ (List.Mem.head _)))) (by kernel_rfl)) (fun _ _ h => h)),
      stepG (i := 18) (j := 16) (dj := 43) (b := true) (dst := some 45) (op := (.binOp .neq 38 (.tmp 44) (.const (.int .i64 0)) 38)) (by kernel_rfl) (by kernel_rfl) (by kernel_rfl) (fun _ _ h => h) (neq (m := 0) (n := 0) (argT (p := (isE (.int .i64 0))) (by kernel_rfl) (fun _ _ h => h)) (argC (.int .i64 0)) (fun w v h => h.trans (congrArg Value.bool (rfl)))),
      stepG (i := 19) (j := 16) (dj := 43) (b := true) (dst := some 46) (op := (.move (.tmp 45))) (by kernel_rfl) (by kernel_rfl) (by kernel_rfl) (fun _ _ h => h) (move (argT (p := (isE (.bool false))) (by kernel_rfl) (fun _ _ h => h)) (fun _ _ h => h)),
      stepG (i := 20) (j := 19) (dj := 46) (b := false) (dst := some 47) (op := (.load 30 (.tmp 9))) (by kernel_rfl) (by kernel_rfl) (by kernel_rfl) (fun _ _ h => h) (loadV (List.Mem.tail _ (List.Mem.tail _ (List.Mem.tail _ (List.Mem.tail _ (List.Mem.tail _ (List.Mem.tail _ (List.Mem.head _))))))) (by kernel_rfl) (fun _ _ h => h)),
      stepG (i := 21) (j := 19) (dj := 46) (b := false) (dst := some 48) (op := (.call { callee := .value (.func 8), args := #[(.tmp 47)], argTypes := #[30] })) (by kernel_rfl) (by kernel_rfl) (by kernel_rfl) (fun _ _ h => h) (call1 (enters_of Tryz.func8 (by kernel_rfl) rfl) (argT (p := (isQ ((numQ a0 b0 m0) / (numQ a1 b1 m1)) (5 + 5))) (by kernel_rfl) (fun _ _ h => h)) (fun w u1 h1 => print_q h1 (by omega)) (fun _ _ h => h)),
      stepG (i := 22) (j := 19) (dj := 46) (b := false) (dst := some 49) (op := (.load 35 (.tmp 6))) (by kernel_rfl) (by kernel_rfl) (by kernel_rfl) (fun _ _ h => h) (loadV (List.Mem.tail _ (List.Mem.tail _ (List.Mem.tail _ (List.Mem.head _)))) (by kernel_rfl) (fun _ _ h => h)),
      stepG (i := 23) (j := 19) (dj := 46) (b := false) (dst := some 50) (op := (.load 35 (.tmp 8))) (by kernel_rfl) (by kernel_rfl) (by kernel_rfl) (fun _ _ h => h) (loadV (List.Mem.tail _ (List.Mem.tail _ (List.Mem.tail _ (List.Mem.tail _ (List.Mem.tail _ (List.Mem.head _)))))) (by kernel_rfl) (fun _ _ h => h)),
      stepG (i := 24) (j := 19) (dj := 46) (b := false) (dst := some 51) (op := (.call { callee := .value (.func 10), args := #[(.tmp 49), (.tmp 50)], argTypes := #[35, 35] })) (by kernel_rfl) (by kernel_rfl) (by kernel_rfl) (fun _ _ h => h) (call2 (enters_of Tryz.func10 (by kernel_rfl) rfl) (argT (p := (isR (numQ a0 b0 m0) 32)) (by kernel_rfl) (fun _ _ h => h)) (argT (p := (isR (numQ a1 b1 m1) 32)) (by kernel_rfl) (fun _ _ h => h)) (fun w u1 u2 h1 h2 => quo_r h1 h2 (by omega) (by omega) hy) (fun _ _ h => h)),
      stepG (i := 25) (j := 19) (dj := 46) (b := false) (dst := some 52) (op := (.call { callee := .value (.func 9), args := #[(.tmp 51)], argTypes := #[35] })) (by kernel_rfl) (by kernel_rfl) (by kernel_rfl) (fun _ _ h => h) (call1 (enters_of Tryz.func9 (by kernel_rfl) rfl) (argT (p := (isR ((numQ a0 b0 m0) / (numQ a1 b1 m1)) (32 + 32 + 1))) (by kernel_rfl) (fun _ _ h => h)) (fun w u1 h1 => print_r h1 (by omega)) (fun _ _ h => h)),
      stepG (i := 26) (j := 19) (dj := 46) (b := false) (dst := some 53) (op := (.binOp .neq 9 (.tmp 48) (.tmp 52) 9)) (by kernel_rfl) (by kernel_rfl) (by kernel_rfl) (fun _ _ h => h) (neqS (l := qtext ((numQ a0 b0 m0) / (numQ a1 b1 m1))) (r := qtext ((numQ a0 b0 m0) / (numQ a1 b1 m1))) (argT (p := (isT (qtext ((numQ a0 b0 m0) / (numQ a1 b1 m1))))) (by kernel_rfl) (fun _ _ h => h)) (argT (p := (isT (qtext ((numQ a0 b0 m0) / (numQ a1 b1 m1))))) (by kernel_rfl) (fun _ _ h => h)) (fun w v h => h.trans (congrArg Value.bool (ne_self _)))),
      stepG (i := 27) (j := 16) (dj := 43) (b := true) (dst := some 54) (op := (.pick (.tmp 46) (.const (.bool true)) (.tmp 53))) (by kernel_rfl) (by kernel_rfl) (by kernel_rfl) (fun _ _ h => h) (pickF (argT (p := (isE (.bool false))) (by kernel_rfl) (fun _ _ h => h)) (argT (p := (isE (.bool false))) (by kernel_rfl) (fun _ _ h => h)) (fun _ _ h => h)),
      stepG (i := 28) (j := 12) (dj := 39) (b := false) (dst := some 55) (op := (.pick (.tmp 43) (.tmp 54) (.const (.bool false)))) (by kernel_rfl) (by kernel_rfl) (by kernel_rfl) (fun _ _ h => h) (pickT (argT (p := (isE (.bool true))) (by kernel_rfl) (fun _ _ h => h)) (argT (p := (isE (.bool false))) (by kernel_rfl) (fun _ _ h => h)) (fun _ _ h => h)),
      stepN (i := 29) (dst := some 56) (op := (.pick (.tmp 39) (.const (.bool true)) (.tmp 55))) (by kernel_rfl) (pickF (argT (p := (isE (.bool false))) (by kernel_rfl) (fun _ _ h => h)) (argT (p := (isE (.bool false))) (by kernel_rfl) (fun _ _ h => h)) (fun _ _ h => h)), trivial⟩) ?_
  clear hS kf ac
  try clear w
  intro kf ac w hS
  refine cond_false (q := (isE (.bool false))) hS (List.Mem.tail _ (List.Mem.tail _ (List.Mem.tail _ (List.Mem.tail _ (List.Mem.head _))))) (fun _ _ h => h) ?_
  refine skip_then ?_
  refine region_seq (s := soft) (kf0 := kf) (by kernel_rfl) hS (Rg.look [(57, (isE (.bool true))),
      (58, (isE (.bool true))),
      (59, (isQ (numQ a0 b0 m0) 5)),
      (60, (isQ (numQ a1 b1 m1) 5)),
      (61, (isQ ((numQ a0 b0 m0) + (numQ a1 b1 m1)) (5 + 5 + 1))),
      (62, (isT (qtext ((numQ a0 b0 m0) + (numQ a1 b1 m1))))),
      (63, (isR (numQ a0 b0 m0) 32)),
      (64, (isR (numQ a1 b1 m1) 32)),
      (65, (isR ((numQ a0 b0 m0) + (numQ a1 b1 m1)) (32 + 32 + 2))),
      (66, (isT (qtext ((numQ a0 b0 m0) + (numQ a1 b1 m1))))),
      (67, (isE (.bool true))),
      (68, (isE (.bool true))),
      (69, (isE (.bool true))),
      (70, (isQ (numQ a0 b0 m0) 5)),
      (71, (isQ (numQ a1 b1 m1) 5)),
      (72, (isQ ((numQ a0 b0 m0) - (numQ a1 b1 m1)) (5 + 5 + 1))),
      (73, (isT (qtext ((numQ a0 b0 m0) - (numQ a1 b1 m1))))),
      (74, (isR (numQ a0 b0 m0) 32)),
      (75, (isR (numQ a1 b1 m1) 32)),
      (76, (isR ((numQ a0 b0 m0) - (numQ a1 b1 m1)) (32 + 32 + 2))),
      (77, (isT (qtext ((numQ a0 b0 m0) - (numQ a1 b1 m1))))),
      (78, (isE (.bool true))),
      (79, (isE (.bool true))),
      (80, (isE (.bool true))),
      (81, (isQ (numQ a0 b0 m0) 5)),
      (82, (isQ (numQ a1 b1 m1) 5)),
      (83, (isQ ((numQ a0 b0 m0) * (numQ a1 b1 m1)) (5 + 5))),
      (84, (isT (qtext ((numQ a0 b0 m0) * (numQ a1 b1 m1))))),
      (85, (isR (numQ a0 b0 m0) 32)),
      (86, (isR (numQ a1 b1 m1) 32)),
      (87, (isR ((numQ a0 b0 m0) * (numQ a1 b1 m1)) (32 + 32 + 1))),
      (88, (isT (qtext ((numQ a0 b0 m0) * (numQ a1 b1 m1))))),
      (89, (isE (.bool true))),
      (90, (isE (.bool true))),
      (91, (isE (.bool true))),
      (92, (isQ (numQ a0 b0 m0) 5)),
      (93, (isQ (numQ a1 b1 m1) 5)),
      (94, (isE (.int .i64 (cmpQ (numQ a0 b0 m0) (numQ a1 b1 m1))))),
      (95, (isR (numQ a0 b0 m0) 32)),
      (96, (isR (numQ a1 b1 m1) 32)),
      (97, (isE (.int .i64 (cmpQ (numQ a0 b0 m0) (numQ a1 b1 m1))))),
      (98, (isE (.bool true))),
      (99, (isE (.bool true))),
      (100, (isE (.bool true))),
      (101, (isQ (numQ a0 b0 m0) 5)),
      (102, (isQ (-(numQ a0 b0 m0)) 5)),
      (103, (isT (qtext (-(numQ a0 b0 m0))))),
      (104, (isR (numQ a0 b0 m0) 32)),
      (105, (isR (-(numQ a0 b0 m0)) 32)),
      (106, (isT (qtext (-(numQ a0 b0 m0))))),
      (107, (isE (.bool true))),
      (108, (isE (.bool true))),
      (109, (isE (.bool true))),
      (110, (isQ (numQ a0 b0 m0) 5)),
      (111, (isW (Rat.floor (numQ a0 b0 m0)) (max 5 1 + 1))),
      (112, (isT (ztext (Rat.floor (numQ a0 b0 m0))))),
      (113, (isR (numQ a0 b0 m0) 32)),
      (114, (isV (Rat.floor (numQ a0 b0 m0)) 2000)),
      (115, (isT (ztext (Rat.floor (numQ a0 b0 m0))))),
      (116, (isE (.bool true))),
      (117, (isE (.bool true))),
      (4, (isE (.bool true)))])
    ⟨[], []⟩ [⟨3, 24, (isM a1 b1 m1)⟩, ⟨2, 24, (isM a0 b0 m0)⟩, ⟨5, 30, (isQ (numQ a0 b0 m0) 5)⟩, ⟨6, 35, (isR (numQ a0 b0 m0) 32)⟩, ⟨7, 30, (isQ (numQ a1 b1 m1) 5)⟩, ⟨8, 35, (isR (numQ a1 b1 m1) 32)⟩, ⟨9, 30, (isQ ((numQ a0 b0 m0) / (numQ a1 b1 m1)) (5 + 5))⟩] [(0, (isM a0 b0 m0)), (1, (isM a1 b1 m1)), (10, (isE (.int .i64 0))), (56, (isE (.bool false))), (4, (isE (.bool true)))] (by kernel_rfl) (by kernel_rfl) (look_stb _ ⟨(stb_eq _), (stb_eq _), (stb_Q _ _), (stb_Q _ _), (stb_Q _ _), (stb_eq _), (stb_R _ _), (stb_R _ _), (stb_R _ _), (stb_eq _), (stb_eq _), (stb_eq _), (stb_eq _), (stb_Q _ _), (stb_Q _ _), (stb_Q _ _), (stb_eq _), (stb_R _ _), (stb_R _ _), (stb_R _ _), (stb_eq _), (stb_eq _), (stb_eq _), (stb_eq _), (stb_Q _ _), (stb_Q _ _), (stb_Q _ _), (stb_eq _), (stb_R _ _), (stb_R _ _), (stb_R _ _), (stb_eq _), (stb_eq _), (stb_eq _), (stb_eq _), (stb_Q _ _), (stb_Q _ _), (stb_eq _), (stb_R _ _), (stb_R _ _), (stb_eq _), (stb_eq _), (stb_eq _), (stb_eq _), (stb_Q _ _), (stb_Q _ _), (stb_eq _), (stb_R _ _), (stb_R _ _), (stb_eq _), (stb_eq _), (stb_eq _), (stb_eq _), (stb_Q _ _), (stb_W _ _), (stb_eq _), (stb_R _ _), (stb_V _ _), (stb_eq _), (stb_eq _), (stb_eq _), (stb_eq _), trivial⟩) ⟨(stb_M _ _ _), (stb_M _ _ _), (stb_Q _ _), (stb_R _ _), (stb_Q _ _), (stb_R _ _), (stb_Q _ _), trivial⟩ ⟨(stb_eq _), (stb_M _ _ _), (stb_M _ _ _), (stb_eq _), (stb_eq _), trivial⟩ trivial trivial
    ⟨.inr (.inl ⟨rfl, _, (List.Mem.head _), rfl, rfl, (fun _ _ h => h)⟩), .inr (.inl ⟨rfl, _, (List.Mem.tail _ (List.Mem.head _)), rfl, rfl, (fun _ _ h => h)⟩), .inr (.inl ⟨rfl, _, (List.Mem.tail _ (List.Mem.tail _ (List.Mem.head _))), rfl, rfl, (fun _ _ h => h)⟩), .inr (.inl ⟨rfl, _, (List.Mem.tail _ (List.Mem.tail _ (List.Mem.tail _ (List.Mem.head _)))), rfl, rfl, (fun _ _ h => h)⟩), .inr (.inl ⟨rfl, _, (List.Mem.tail _ (List.Mem.tail _ (List.Mem.tail _ (List.Mem.tail _ (List.Mem.head _))))), rfl, rfl, (fun _ _ h => h)⟩), .inr (.inl ⟨rfl, _, (List.Mem.tail _ (List.Mem.tail _ (List.Mem.tail _ (List.Mem.tail _ (List.Mem.tail _ (List.Mem.head _)))))), rfl, rfl, (fun _ _ h => h)⟩), .inr (.inl ⟨rfl, _, (List.Mem.tail _ (List.Mem.tail _ (List.Mem.tail _ (List.Mem.tail _ (List.Mem.tail _ (List.Mem.tail _ (List.Mem.head _))))))), rfl, rfl, (fun _ _ h => h)⟩), trivial⟩
    ⟨.inr ⟨(by kernel_rfl), _, (List.Mem.tail _ (List.Mem.head _)), rfl, (fun _ _ h => h)⟩, .inr ⟨(by kernel_rfl), _, (List.Mem.tail _ (List.Mem.tail _ (List.Mem.head _))), rfl, (fun _ _ h => h)⟩, .inr ⟨(by kernel_rfl), _, (List.Mem.tail _ (List.Mem.tail _ (List.Mem.tail _ (List.Mem.head _)))), rfl, (fun _ _ h => h)⟩, .inr ⟨(by kernel_rfl), _, (List.Mem.tail _ (List.Mem.tail _ (List.Mem.tail _ (List.Mem.tail _ (List.Mem.head _))))), rfl, (fun _ _ h => h)⟩, .inl ⟨(by kernel_rfl), rfl, (fun _ _ h => h)⟩, trivial⟩
    (steps (m := 62) (by kernel_rfl) ⟨stepN (i := 0) (dst := some 57) (op := (.call { callee := .value (.func 11), args := #[], argTypes := #[] })) (by kernel_rfl) (call0 (enters_of Tryz.func11 (by kernel_rfl) rfl) (fun w => wakes5 w) (fun _ _ h => h)),
      stepN (i := 1) (dst := some 58) (op := (.move (.tmp 57))) (by kernel_rfl) (move (argT (p := (isE (.bool true))) (by kernel_rfl) (fun _ _ h => h)) (fun _ _ h => h)),
      stepG (i := 2) (j := 1) (dj := 58) (b := true) (dst := some 59) (op := (.load 30 (.tmp 5))) (by kernel_rfl) (by kernel_rfl) (by kernel_rfl) (fun _ _ h => h) (loadV (List.Mem.tail _ (List.Mem.tail _ (List.Mem.head _))) (by kernel_rfl) (fun _ _ h => h)),
      stepG (i := 3) (j := 1) (dj := 58) (b := true) (dst := some 60) (op := (.load 30 (.tmp 7))) (by kernel_rfl) (by kernel_rfl) (by kernel_rfl) (fun _ _ h => h) (loadV (List.Mem.tail _ (List.Mem.tail _ (List.Mem.tail _ (List.Mem.tail _ (List.Mem.head _))))) (by kernel_rfl) (fun _ _ h => h)),
      stepG (i := 4) (j := 1) (dj := 58) (b := true) (dst := some 61) (op := (.call { callee := .value (.func 12), args := #[(.tmp 59), (.tmp 60)], argTypes := #[30, 30] })) (by kernel_rfl) (by kernel_rfl) (by kernel_rfl) (fun _ _ h => h) (call2 (enters_of Tryz.func12 (by kernel_rfl) rfl) (argT (p := (isQ (numQ a0 b0 m0) 5)) (by kernel_rfl) (fun _ _ h => h)) (argT (p := (isQ (numQ a1 b1 m1) 5)) (by kernel_rfl) (fun _ _ h => h)) (fun w u1 u2 h1 h2 => add_q h1 h2 (by omega) (by omega)) (fun _ _ h => h)),
      stepG (i := 5) (j := 1) (dj := 58) (b := true) (dst := some 62) (op := (.call { callee := .value (.func 8), args := #[(.tmp 61)], argTypes := #[30] })) (by kernel_rfl) (by kernel_rfl) (by kernel_rfl) (fun _ _ h => h) (call1 (enters_of Tryz.func8 (by kernel_rfl) rfl) (argT (p := (isQ ((numQ a0 b0 m0) + (numQ a1 b1 m1)) (5 + 5 + 1))) (by kernel_rfl) (fun _ _ h => h)) (fun w u1 h1 => print_q h1 (by omega)) (fun _ _ h => h)),
      stepG (i := 6) (j := 1) (dj := 58) (b := true) (dst := some 63) (op := (.load 35 (.tmp 6))) (by kernel_rfl) (by kernel_rfl) (by kernel_rfl) (fun _ _ h => h) (loadV (List.Mem.tail _ (List.Mem.tail _ (List.Mem.tail _ (List.Mem.head _)))) (by kernel_rfl) (fun _ _ h => h)),
      stepG (i := 7) (j := 1) (dj := 58) (b := true) (dst := some 64) (op := (.load 35 (.tmp 8))) (by kernel_rfl) (by kernel_rfl) (by kernel_rfl) (fun _ _ h => h) (loadV (List.Mem.tail _ (List.Mem.tail _ (List.Mem.tail _ (List.Mem.tail _ (List.Mem.tail _ (List.Mem.head _)))))) (by kernel_rfl) (fun _ _ h => h)),
      stepG (i := 8) (j := 1) (dj := 58) (b := true) (dst := some 65) (op := (.call { callee := .value (.func 13), args := #[(.tmp 63), (.tmp 64)], argTypes := #[35, 35] })) (by kernel_rfl) (by kernel_rfl) (by kernel_rfl) (fun _ _ h => h) (call2 (enters_of Tryz.func13 (by kernel_rfl) rfl) (argT (p := (isR (numQ a0 b0 m0) 32)) (by kernel_rfl) (fun _ _ h => h)) (argT (p := (isR (numQ a1 b1 m1) 32)) (by kernel_rfl) (fun _ _ h => h)) (fun w u1 u2 h1 h2 => add_r h1 h2 (by omega) (by omega)) (fun _ _ h => h)),
      stepG (i := 9) (j := 1) (dj := 58) (b := true) (dst := some 66) (op := (.call { callee := .value (.func 9), args := #[(.tmp 65)], argTypes := #[35] })) (by kernel_rfl) (by kernel_rfl) (by kernel_rfl) (fun _ _ h => h) (call1 (enters_of Tryz.func9 (by kernel_rfl) rfl) (argT (p := (isR ((numQ a0 b0 m0) + (numQ a1 b1 m1)) (32 + 32 + 2))) (by kernel_rfl) (fun _ _ h => h)) (fun w u1 h1 => print_r h1 (by omega)) (fun _ _ h => h)),
      stepG (i := 10) (j := 1) (dj := 58) (b := true) (dst := some 67) (op := (.binOp .eql 9 (.tmp 62) (.tmp 66) 9)) (by kernel_rfl) (by kernel_rfl) (by kernel_rfl) (fun _ _ h => h) (eqlS (l := qtext ((numQ a0 b0 m0) + (numQ a1 b1 m1))) (r := qtext ((numQ a0 b0 m0) + (numQ a1 b1 m1))) (argT (p := (isT (qtext ((numQ a0 b0 m0) + (numQ a1 b1 m1))))) (by kernel_rfl) (fun _ _ h => h)) (argT (p := (isT (qtext ((numQ a0 b0 m0) + (numQ a1 b1 m1))))) (by kernel_rfl) (fun _ _ h => h)) (fun w v h => h.trans (congrArg Value.bool (eq_self _)))),
      stepN (i := 11) (dst := some 68) (op := (.pick (.tmp 58) (.tmp 67) (.const (.bool false)))) (by kernel_rfl) (pickT (argT (p := (isE (.bool true))) (by kernel_rfl) (fun _ _ h => h)) (argT (p := (isE (.bool true))) (by kernel_rfl) (fun _ _ h => h)) (fun _ _ h => h)),
      stepN (i := 12) (dst := some 69) (op := (.move (.tmp 68))) (by kernel_rfl) (move (argT (p := (isE (.bool true))) (by kernel_rfl) (fun _ _ h => h)) (fun _ _ h => h)),
      stepG (i := 13) (j := 12) (dj := 69) (b := true) (dst := some 70) (op := (.load 30 (.tmp 5))) (by kernel_rfl) (by kernel_rfl) (by kernel_rfl) (fun _ _ h => h) (loadV (List.Mem.tail _ (List.Mem.tail _ (List.Mem.head _))) (by kernel_rfl) (fun _ _ h => h)),
      stepG (i := 14) (j := 12) (dj := 69) (b := true) (dst := some 71) (op := (.load 30 (.tmp 7))) (by kernel_rfl) (by kernel_rfl) (by kernel_rfl) (fun _ _ h => h) (loadV (List.Mem.tail _ (List.Mem.tail _ (List.Mem.tail _ (List.Mem.tail _ (List.Mem.head _))))) (by kernel_rfl) (fun _ _ h => h)),
      stepG (i := 15) (j := 12) (dj := 69) (b := true) (dst := some 72) (op := (.call { callee := .value (.func 14), args := #[(.tmp 70), (.tmp 71)], argTypes := #[30, 30] })) (by kernel_rfl) (by kernel_rfl) (by kernel_rfl) (fun _ _ h => h) (call2 (enters_of Tryz.func14 (by kernel_rfl) rfl) (argT (p := (isQ (numQ a0 b0 m0) 5)) (by kernel_rfl) (fun _ _ h => h)) (argT (p := (isQ (numQ a1 b1 m1) 5)) (by kernel_rfl) (fun _ _ h => h)) (fun w u1 u2 h1 h2 => sub_q h1 h2 (by omega) (by omega)) (fun _ _ h => h)),
      stepG (i := 16) (j := 12) (dj := 69) (b := true) (dst := some 73) (op := (.call { callee := .value (.func 8), args := #[(.tmp 72)], argTypes := #[30] })) (by kernel_rfl) (by kernel_rfl) (by kernel_rfl) (fun _ _ h => h) (call1 (enters_of Tryz.func8 (by kernel_rfl) rfl) (argT (p := (isQ ((numQ a0 b0 m0) - (numQ a1 b1 m1)) (5 + 5 + 1))) (by kernel_rfl) (fun _ _ h => h)) (fun w u1 h1 => print_q h1 (by omega)) (fun _ _ h => h)),
      stepG (i := 17) (j := 12) (dj := 69) (b := true) (dst := some 74) (op := (.load 35 (.tmp 6))) (by kernel_rfl) (by kernel_rfl) (by kernel_rfl) (fun _ _ h => h) (loadV (List.Mem.tail _ (List.Mem.tail _ (List.Mem.tail _ (List.Mem.head _)))) (by kernel_rfl) (fun _ _ h => h)),
      stepG (i := 18) (j := 12) (dj := 69) (b := true) (dst := some 75) (op := (.load 35 (.tmp 8))) (by kernel_rfl) (by kernel_rfl) (by kernel_rfl) (fun _ _ h => h) (loadV (List.Mem.tail _ (List.Mem.tail _ (List.Mem.tail _ (List.Mem.tail _ (List.Mem.tail _ (List.Mem.head _)))))) (by kernel_rfl) (fun _ _ h => h)),
      stepG (i := 19) (j := 12) (dj := 69) (b := true) (dst := some 76) (op := (.call { callee := .value (.func 15), args := #[(.tmp 74), (.tmp 75)], argTypes := #[35, 35] })) (by kernel_rfl) (by kernel_rfl) (by kernel_rfl) (fun _ _ h => h) (call2 (enters_of Tryz.func15 (by kernel_rfl) rfl) (argT (p := (isR (numQ a0 b0 m0) 32)) (by kernel_rfl) (fun _ _ h => h)) (argT (p := (isR (numQ a1 b1 m1) 32)) (by kernel_rfl) (fun _ _ h => h)) (fun w u1 u2 h1 h2 => sub_r h1 h2 (by omega) (by omega)) (fun _ _ h => h)),
      stepG (i := 20) (j := 12) (dj := 69) (b := true) (dst := some 77) (op := (.call { callee := .value (.func 9), args := #[(.tmp 76)], argTypes := #[35] })) (by kernel_rfl) (by kernel_rfl) (by kernel_rfl) (fun _ _ h => h) (call1 (enters_of Tryz.func9 (by kernel_rfl) rfl) (argT (p := (isR ((numQ a0 b0 m0) - (numQ a1 b1 m1)) (32 + 32 + 2))) (by kernel_rfl) (fun _ _ h => h)) (fun w u1 h1 => print_r h1 (by omega)) (fun _ _ h => h)),
      stepG (i := 21) (j := 12) (dj := 69) (b := true) (dst := some 78) (op := (.binOp .eql 9 (.tmp 73) (.tmp 77) 9)) (by kernel_rfl) (by kernel_rfl) (by kernel_rfl) (fun _ _ h => h) (eqlS (l := qtext ((numQ a0 b0 m0) - (numQ a1 b1 m1))) (r := qtext ((numQ a0 b0 m0) - (numQ a1 b1 m1))) (argT (p := (isT (qtext ((numQ a0 b0 m0) - (numQ a1 b1 m1))))) (by kernel_rfl) (fun _ _ h => h)) (argT (p := (isT (qtext ((numQ a0 b0 m0) - (numQ a1 b1 m1))))) (by kernel_rfl) (fun _ _ h => h)) (fun w v h => h.trans (congrArg Value.bool (eq_self _)))),
      stepN (i := 22) (dst := some 79) (op := (.pick (.tmp 69) (.tmp 78) (.const (.bool false)))) (by kernel_rfl) (pickT (argT (p := (isE (.bool true))) (by kernel_rfl) (fun _ _ h => h)) (argT (p := (isE (.bool true))) (by kernel_rfl) (fun _ _ h => h)) (fun _ _ h => h)),
      stepN (i := 23) (dst := some 80) (op := (.move (.tmp 79))) (by kernel_rfl) (move (argT (p := (isE (.bool true))) (by kernel_rfl) (fun _ _ h => h)) (fun _ _ h => h)),
      stepG (i := 24) (j := 23) (dj := 80) (b := true) (dst := some 81) (op := (.load 30 (.tmp 5))) (by kernel_rfl) (by kernel_rfl) (by kernel_rfl) (fun _ _ h => h) (loadV (List.Mem.tail _ (List.Mem.tail _ (List.Mem.head _))) (by kernel_rfl) (fun _ _ h => h)),
      stepG (i := 25) (j := 23) (dj := 80) (b := true) (dst := some 82) (op := (.load 30 (.tmp 7))) (by kernel_rfl) (by kernel_rfl) (by kernel_rfl) (fun _ _ h => h) (loadV (List.Mem.tail _ (List.Mem.tail _ (List.Mem.tail _ (List.Mem.tail _ (List.Mem.head _))))) (by kernel_rfl) (fun _ _ h => h)),
      stepG (i := 26) (j := 23) (dj := 80) (b := true) (dst := some 83) (op := (.call { callee := .value (.func 16), args := #[(.tmp 81), (.tmp 82)], argTypes := #[30, 30] })) (by kernel_rfl) (by kernel_rfl) (by kernel_rfl) (fun _ _ h => h) (call2 (enters_of Tryz.func16 (by kernel_rfl) rfl) (argT (p := (isQ (numQ a0 b0 m0) 5)) (by kernel_rfl) (fun _ _ h => h)) (argT (p := (isQ (numQ a1 b1 m1) 5)) (by kernel_rfl) (fun _ _ h => h)) (fun w u1 u2 h1 h2 => mul_q h1 h2 (by omega) (by omega)) (fun _ _ h => h)),
      stepG (i := 27) (j := 23) (dj := 80) (b := true) (dst := some 84) (op := (.call { callee := .value (.func 8), args := #[(.tmp 83)], argTypes := #[30] })) (by kernel_rfl) (by kernel_rfl) (by kernel_rfl) (fun _ _ h => h) (call1 (enters_of Tryz.func8 (by kernel_rfl) rfl) (argT (p := (isQ ((numQ a0 b0 m0) * (numQ a1 b1 m1)) (5 + 5))) (by kernel_rfl) (fun _ _ h => h)) (fun w u1 h1 => print_q h1 (by omega)) (fun _ _ h => h)),
      stepG (i := 28) (j := 23) (dj := 80) (b := true) (dst := some 85) (op := (.load 35 (.tmp 6))) (by kernel_rfl) (by kernel_rfl) (by kernel_rfl) (fun _ _ h => h) (loadV (List.Mem.tail _ (List.Mem.tail _ (List.Mem.tail _ (List.Mem.head _)))) (by kernel_rfl) (fun _ _ h => h)),
      stepG (i := 29) (j := 23) (dj := 80) (b := true) (dst := some 86) (op := (.load 35 (.tmp 8))) (by kernel_rfl) (by kernel_rfl) (by kernel_rfl) (fun _ _ h => h) (loadV (List.Mem.tail _ (List.Mem.tail _ (List.Mem.tail _ (List.Mem.tail _ (List.Mem.tail _ (List.Mem.head _)))))) (by kernel_rfl) (fun _ _ h => h)),
      stepG (i := 30) (j := 23) (dj := 80) (b := true) (dst := some 87) (op := (.call { callee := .value (.func 17), args := #[(.tmp 85), (.tmp 86)], argTypes := #[35, 35] })) (by kernel_rfl) (by kernel_rfl) (by kernel_rfl) (fun _ _ h => h) (call2 (enters_of Tryz.func17 (by kernel_rfl) rfl) (argT (p := (isR (numQ a0 b0 m0) 32)) (by kernel_rfl) (fun _ _ h => h)) (argT (p := (isR (numQ a1 b1 m1) 32)) (by kernel_rfl) (fun _ _ h => h)) (fun w u1 u2 h1 h2 => mul_r h1 h2 (by omega) (by omega)) (fun _ _ h => h)),
      stepG (i := 31) (j := 23) (dj := 80) (b := true) (dst := some 88) (op := (.call { callee := .value (.func 9), args := #[(.tmp 87)], argTypes := #[35] })) (by kernel_rfl) (by kernel_rfl) (by kernel_rfl) (fun _ _ h => h) (call1 (enters_of Tryz.func9 (by kernel_rfl) rfl) (argT (p := (isR ((numQ a0 b0 m0) * (numQ a1 b1 m1)) (32 + 32 + 1))) (by kernel_rfl) (fun _ _ h => h)) (fun w u1 h1 => print_r h1 (by omega)) (fun _ _ h => h)),
      stepG (i := 32) (j := 23) (dj := 80) (b := true) (dst := some 89) (op := (.binOp .eql 9 (.tmp 84) (.tmp 88) 9)) (by kernel_rfl) (by kernel_rfl) (by kernel_rfl) (fun _ _ h => h) (eqlS (l := qtext ((numQ a0 b0 m0) * (numQ a1 b1 m1))) (r := qtext ((numQ a0 b0 m0) * (numQ a1 b1 m1))) (argT (p := (isT (qtext ((numQ a0 b0 m0) * (numQ a1 b1 m1))))) (by kernel_rfl) (fun _ _ h => h)) (argT (p := (isT (qtext ((numQ a0 b0 m0) * (numQ a1 b1 m1))))) (by kernel_rfl) (fun _ _ h => h)) (fun w v h => h.trans (congrArg Value.bool (eq_self _)))),
      stepN (i := 33) (dst := some 90) (op := (.pick (.tmp 80) (.tmp 89) (.const (.bool false)))) (by kernel_rfl) (pickT (argT (p := (isE (.bool true))) (by kernel_rfl) (fun _ _ h => h)) (argT (p := (isE (.bool true))) (by kernel_rfl) (fun _ _ h => h)) (fun _ _ h => h)),
      stepN (i := 34) (dst := some 91) (op := (.move (.tmp 90))) (by kernel_rfl) (move (argT (p := (isE (.bool true))) (by kernel_rfl) (fun _ _ h => h)) (fun _ _ h => h)),
      stepG (i := 35) (j := 34) (dj := 91) (b := true) (dst := some 92) (op := (.load 30 (.tmp 5))) (by kernel_rfl) (by kernel_rfl) (by kernel_rfl) (fun _ _ h => h) (loadV (List.Mem.tail _ (List.Mem.tail _ (List.Mem.head _))) (by kernel_rfl) (fun _ _ h => h)),
      stepG (i := 36) (j := 34) (dj := 91) (b := true) (dst := some 93) (op := (.load 30 (.tmp 7))) (by kernel_rfl) (by kernel_rfl) (by kernel_rfl) (fun _ _ h => h) (loadV (List.Mem.tail _ (List.Mem.tail _ (List.Mem.tail _ (List.Mem.tail _ (List.Mem.head _))))) (by kernel_rfl) (fun _ _ h => h)),
      stepG (i := 37) (j := 34) (dj := 91) (b := true) (dst := some 94) (op := (.call { callee := .value (.func 18), args := #[(.tmp 92), (.tmp 93)], argTypes := #[30, 30] })) (by kernel_rfl) (by kernel_rfl) (by kernel_rfl) (fun _ _ h => h) (call2 (enters_of Tryz.func18 (by kernel_rfl) rfl) (argT (p := (isQ (numQ a0 b0 m0) 5)) (by kernel_rfl) (fun _ _ h => h)) (argT (p := (isQ (numQ a1 b1 m1) 5)) (by kernel_rfl) (fun _ _ h => h)) (fun w u1 u2 h1 h2 => cmp_q h1 h2 (by omega) (by omega)) (fun _ _ h => h)),
      stepG (i := 38) (j := 34) (dj := 91) (b := true) (dst := some 95) (op := (.load 35 (.tmp 6))) (by kernel_rfl) (by kernel_rfl) (by kernel_rfl) (fun _ _ h => h) (loadV (List.Mem.tail _ (List.Mem.tail _ (List.Mem.tail _ (List.Mem.head _)))) (by kernel_rfl) (fun _ _ h => h)),
      stepG (i := 39) (j := 34) (dj := 91) (b := true) (dst := some 96) (op := (.load 35 (.tmp 8))) (by kernel_rfl) (by kernel_rfl) (by kernel_rfl) (fun _ _ h => h) (loadV (List.Mem.tail _ (List.Mem.tail _ (List.Mem.tail _ (List.Mem.tail _ (List.Mem.tail _ (List.Mem.head _)))))) (by kernel_rfl) (fun _ _ h => h)),
      stepG (i := 40) (j := 34) (dj := 91) (b := true) (dst := some 97) (op := (.call { callee := .value (.func 19), args := #[(.tmp 95), (.tmp 96)], argTypes := #[35, 35] })) (by kernel_rfl) (by kernel_rfl) (by kernel_rfl) (fun _ _ h => h) (call2 (enters_of Tryz.func19 (by kernel_rfl) rfl) (argT (p := (isR (numQ a0 b0 m0) 32)) (by kernel_rfl) (fun _ _ h => h)) (argT (p := (isR (numQ a1 b1 m1) 32)) (by kernel_rfl) (fun _ _ h => h)) (fun w u1 u2 h1 h2 => cmp_r h1 h2 (by omega) (by omega)) (fun _ _ h => h)),
      stepG (i := 41) (j := 34) (dj := 91) (b := true) (dst := some 98) (op := (.binOp .eql 3 (.tmp 94) (.tmp 97) 3)) (by kernel_rfl) (by kernel_rfl) (by kernel_rfl) (fun _ _ h => h) (eql (m := (cmpQ (numQ a0 b0 m0) (numQ a1 b1 m1))) (n := (cmpQ (numQ a0 b0 m0) (numQ a1 b1 m1))) (argT (p := (isE (.int .i64 (cmpQ (numQ a0 b0 m0) (numQ a1 b1 m1))))) (by kernel_rfl) (fun _ _ h => h)) (argT (p := (isE (.int .i64 (cmpQ (numQ a0 b0 m0) (numQ a1 b1 m1))))) (by kernel_rfl) (fun _ _ h => h)) (fun w v h => h.trans (congrArg Value.bool (decide_eq_true rfl)))),
      stepN (i := 42) (dst := some 99) (op := (.pick (.tmp 91) (.tmp 98) (.const (.bool false)))) (by kernel_rfl) (pickT (argT (p := (isE (.bool true))) (by kernel_rfl) (fun _ _ h => h)) (argT (p := (isE (.bool true))) (by kernel_rfl) (fun _ _ h => h)) (fun _ _ h => h)),
      stepN (i := 43) (dst := some 100) (op := (.move (.tmp 99))) (by kernel_rfl) (move (argT (p := (isE (.bool true))) (by kernel_rfl) (fun _ _ h => h)) (fun _ _ h => h)),
      stepG (i := 44) (j := 43) (dj := 100) (b := true) (dst := some 101) (op := (.load 30 (.tmp 5))) (by kernel_rfl) (by kernel_rfl) (by kernel_rfl) (fun _ _ h => h) (loadV (List.Mem.tail _ (List.Mem.tail _ (List.Mem.head _))) (by kernel_rfl) (fun _ _ h => h)),
      stepG (i := 45) (j := 43) (dj := 100) (b := true) (dst := some 102) (op := (.call { callee := .value (.func 20), args := #[(.tmp 101)], argTypes := #[30] })) (by kernel_rfl) (by kernel_rfl) (by kernel_rfl) (fun _ _ h => h) (call1 (enters_of Tryz.func20 (by kernel_rfl) rfl) (argT (p := (isQ (numQ a0 b0 m0) 5)) (by kernel_rfl) (fun _ _ h => h)) (fun w u1 h1 => neg_q h1) (fun _ _ h => h)),
      stepG (i := 46) (j := 43) (dj := 100) (b := true) (dst := some 103) (op := (.call { callee := .value (.func 8), args := #[(.tmp 102)], argTypes := #[30] })) (by kernel_rfl) (by kernel_rfl) (by kernel_rfl) (fun _ _ h => h) (call1 (enters_of Tryz.func8 (by kernel_rfl) rfl) (argT (p := (isQ (-(numQ a0 b0 m0)) 5)) (by kernel_rfl) (fun _ _ h => h)) (fun w u1 h1 => print_q h1 (by omega)) (fun _ _ h => h)),
      stepG (i := 47) (j := 43) (dj := 100) (b := true) (dst := some 104) (op := (.load 35 (.tmp 6))) (by kernel_rfl) (by kernel_rfl) (by kernel_rfl) (fun _ _ h => h) (loadV (List.Mem.tail _ (List.Mem.tail _ (List.Mem.tail _ (List.Mem.head _)))) (by kernel_rfl) (fun _ _ h => h)),
      stepG (i := 48) (j := 43) (dj := 100) (b := true) (dst := some 105) (op := (.call { callee := .value (.func 21), args := #[(.tmp 104)], argTypes := #[35] })) (by kernel_rfl) (by kernel_rfl) (by kernel_rfl) (fun _ _ h => h) (call1 (enters_of Tryz.func21 (by kernel_rfl) rfl) (argT (p := (isR (numQ a0 b0 m0) 32)) (by kernel_rfl) (fun _ _ h => h)) (fun w u1 h1 => neg_r h1) (fun _ _ h => h)),
      stepG (i := 49) (j := 43) (dj := 100) (b := true) (dst := some 106) (op := (.call { callee := .value (.func 9), args := #[(.tmp 105)], argTypes := #[35] })) (by kernel_rfl) (by kernel_rfl) (by kernel_rfl) (fun _ _ h => h) (call1 (enters_of Tryz.func9 (by kernel_rfl) rfl) (argT (p := (isR (-(numQ a0 b0 m0)) 32)) (by kernel_rfl) (fun _ _ h => h)) (fun w u1 h1 => print_r h1 (by omega)) (fun _ _ h => h)),
      stepG (i := 50) (j := 43) (dj := 100) (b := true) (dst := some 107) (op := (.binOp .eql 9 (.tmp 103) (.tmp 106) 9)) (by kernel_rfl) (by kernel_rfl) (by kernel_rfl) (fun _ _ h => h) (eqlS (l := qtext (-(numQ a0 b0 m0))) (r := qtext (-(numQ a0 b0 m0))) (argT (p := (isT (qtext (-(numQ a0 b0 m0))))) (by kernel_rfl) (fun _ _ h => h)) (argT (p := (isT (qtext (-(numQ a0 b0 m0))))) (by kernel_rfl) (fun _ _ h => h)) (fun w v h => h.trans (congrArg Value.bool (eq_self _)))),
      stepN (i := 51) (dst := some 108) (op := (.pick (.tmp 100) (.tmp 107) (.const (.bool false)))) (by kernel_rfl) (pickT (argT (p := (isE (.bool true))) (by kernel_rfl) (fun _ _ h => h)) (argT (p := (isE (.bool true))) (by kernel_rfl) (fun _ _ h => h)) (fun _ _ h => h)),
      stepN (i := 52) (dst := some 109) (op := (.move (.tmp 108))) (by kernel_rfl) (move (argT (p := (isE (.bool true))) (by kernel_rfl) (fun _ _ h => h)) (fun _ _ h => h)),
      stepG (i := 53) (j := 52) (dj := 109) (b := true) (dst := some 110) (op := (.load 30 (.tmp 5))) (by kernel_rfl) (by kernel_rfl) (by kernel_rfl) (fun _ _ h => h) (loadV (List.Mem.tail _ (List.Mem.tail _ (List.Mem.head _))) (by kernel_rfl) (fun _ _ h => h)),
      stepG (i := 54) (j := 52) (dj := 109) (b := true) (dst := some 111) (op := (.call { callee := .value (.func 22), args := #[(.tmp 110)], argTypes := #[30] })) (by kernel_rfl) (by kernel_rfl) (by kernel_rfl) (fun _ _ h => h) (call1 (enters_of Tryz.func22 (by kernel_rfl) rfl) (argT (p := (isQ (numQ a0 b0 m0) 5)) (by kernel_rfl) (fun _ _ h => h)) (fun w u1 h1 => floor_q h1 (by omega)) (fun _ _ h => h)),
      stepG (i := 55) (j := 52) (dj := 109) (b := true) (dst := some 112) (op := (.call { callee := .value (.func 23), args := #[(.tmp 111)], argTypes := #[28] })) (by kernel_rfl) (by kernel_rfl) (by kernel_rfl) (fun _ _ h => h) (call1 (enters_of Tryz.func23 (by kernel_rfl) rfl) (argT (p := (isW (Rat.floor (numQ a0 b0 m0)) (max 5 1 + 1))) (by kernel_rfl) (fun _ _ h => h)) (fun w u1 h1 => print_w h1 (by omega)) (fun _ _ h => h)),
      stepG (i := 56) (j := 52) (dj := 109) (b := true) (dst := some 113) (op := (.load 35 (.tmp 6))) (by kernel_rfl) (by kernel_rfl) (by kernel_rfl) (fun _ _ h => h) (loadV (List.Mem.tail _ (List.Mem.tail _ (List.Mem.tail _ (List.Mem.head _)))) (by kernel_rfl) (fun _ _ h => h)),
      stepG (i := 57) (j := 52) (dj := 109) (b := true) (dst := some 114) (op := (.call { callee := .value (.func 25), args := #[(.tmp 113)], argTypes := #[35] })) (by kernel_rfl) (by kernel_rfl) (by kernel_rfl) (fun _ _ h => h) (call1 (enters_of Tryz.func25 (by kernel_rfl) rfl) (argT (p := (isR (numQ a0 b0 m0) 32)) (by kernel_rfl) (fun _ _ h => h)) (fun w u1 h1 => floor_r h1 (by omega)) (fun _ _ h => h)),
      stepG (i := 58) (j := 52) (dj := 109) (b := true) (dst := some 115) (op := (.call { callee := .value (.func 24), args := #[(.tmp 114)], argTypes := #[33] })) (by kernel_rfl) (by kernel_rfl) (by kernel_rfl) (fun _ _ h => h) (call1 (enters_of Tryz.func24 (by kernel_rfl) rfl) (argT (p := (isV (Rat.floor (numQ a0 b0 m0)) 2000)) (by kernel_rfl) (fun _ _ h => h)) (fun w u1 h1 => printV h1 (by omega)) (fun _ _ h => h)),
      stepG (i := 59) (j := 52) (dj := 109) (b := true) (dst := some 116) (op := (.binOp .eql 9 (.tmp 112) (.tmp 115) 9)) (by kernel_rfl) (by kernel_rfl) (by kernel_rfl) (fun _ _ h => h) (eqlS (l := ztext (Rat.floor (numQ a0 b0 m0))) (r := ztext (Rat.floor (numQ a0 b0 m0))) (argT (p := (isT (ztext (Rat.floor (numQ a0 b0 m0))))) (by kernel_rfl) (fun _ _ h => h)) (argT (p := (isT (ztext (Rat.floor (numQ a0 b0 m0))))) (by kernel_rfl) (fun _ _ h => h)) (fun w v h => h.trans (congrArg Value.bool (eq_self _)))),
      stepN (i := 60) (dst := some 117) (op := (.pick (.tmp 109) (.tmp 116) (.const (.bool false)))) (by kernel_rfl) (pickT (argT (p := (isE (.bool true))) (by kernel_rfl) (fun _ _ h => h)) (argT (p := (isE (.bool true))) (by kernel_rfl) (fun _ _ h => h)) (fun _ _ h => h)),
      stepN (i := 61) (dst := some 4) (op := (.assign (.tmp 117))) (by kernel_rfl) (assign (argT (p := (isE (.bool true))) (by kernel_rfl) (fun _ _ h => h)) (fun _ _ h => h)), trivial⟩) ?_
  clear hS kf ac
  try clear w
  intro kf ac w hS
  exact wp_ret (ret_t (q := (isE (.bool true))) (by kernel_rfl) hS (List.Mem.tail _ (List.Mem.tail _ (List.Mem.tail _ (List.Mem.tail _ (List.Mem.head _))))) (fun v h => ⟨v, rfl, (h), hS.grow⟩))
theorem sums5 {w : World} {v0 v1 : Value} {a0 b0 : List Nat} {m0 : Bool} {a1 b1 : List Nat} {m1 : Bool} (h0 : isM a0 b0 m0 w v0) (h1 : isM a1 b1 m1 w v1) : Calls Tryz.prog 3 #[v0, v1] w (Ret w fun v w' => isE (.bool true) w' v) := by
  by_cases hy : numQ a1 b1 m1 = 0
  · exact sums5_0 h0 h1 hy
  · exact sums5_1 h0 h1 hy
end Go.Proofs.YtlkiikchjeapfaaGreatDoor.Z
