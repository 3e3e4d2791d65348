/- The law FracRules. Written by a script (tools/laws). -/
import Derived.Test.YtlkiikchjeapfaaDoorFrH
namespace Go.Proofs.YtlkiikchjeapfaaDoor.Z
open Go.RowKit Go.Proofs.YtlkiikchjeapfaaDoor.Rg
set_option maxRecDepth 100000 in
set_option maxHeartbeats 4000000 in
theorem rules5_0 {w : World} {v0 v1 v2 : Value} {a0 b0 : List Nat} {m0 : Bool} {a1 b1 : List Nat} {m1 : Bool} {a2 b2 : List Nat} {m2 : Bool} (h0 : (isM a0 b0 m0) w v0) (h1 : (isM a1 b1 m1) w v1) (h2 : (isM a2 b2 m2) w v2) (hy : numQ a1 b1 m1 = 0) : Calls Tryd.prog 3 #[v0, v1, v2] w (Ret w fun v w' => (isE (.bool true)) w' v) := by
  refine enter (s := soft) (n := 97) (c := (.seq (.region 0 (regionOps Tryd.f3 0) false) (.seq (.region 1 (regionOps Tryd.f3 1) false) (.seq (.region 2 (regionOps Tryd.f3 2) false) (.seq (.region 3 (regionOps Tryd.f3 3) false) (.seq (.seq (.region 4 (regionOps Tryd.f3 4) true) (.cond (.tmp 73) (.seq (.region 5 (regionOps Tryd.f3 5) false) .ret) .skip)) (.seq (.seq (.region 6 (regionOps Tryd.f3 6) false) (.cond (.tmp 76) (.seq (.region 7 (regionOps Tryd.f3 7) false) .ret) .skip)) (.seq (.region 8 (regionOps Tryd.f3 8) true) (.seq (.region 9 (regionOps Tryd.f3 9) false) .ret))))))))) Tryd.func3 (by kernel_rfl) (by kernel_rfl) (by simp) [(0, (isM a0 b0 m0)), (1, (isM a1 b1 m1)), (2, (isM a2 b2 m2))] ⟨⟨by simp, h0⟩, ⟨by simp, h1⟩, ⟨by simp, h2⟩, trivial⟩ ?_
  intro kf ac hS
  refine plain_seq (m := 4) (by kernel_rfl) ?_
  refine box0 (p := 3) (y := 0) (t := 24) (q := (isM a0 b0 m0)) hS (by kernel_rfl) rfl rfl rfl (List.Mem.head _) shM trivial ⟨(stb_M _ _ _), (stb_M _ _ _), (stb_M _ _ _), trivial⟩ ?_
  clear hS kf ac
  try clear w
  intro kf ac w hS
  refine box0 (p := 4) (y := 1) (t := 24) (q := (isM a1 b1 m1)) hS (by kernel_rfl) rfl rfl rfl (List.Mem.tail _ (List.Mem.head _)) shM ⟨(stb_M _ _ _), trivial⟩ ⟨(stb_M _ _ _), (stb_M _ _ _), (stb_M _ _ _), trivial⟩ ?_
  clear hS kf ac
  try clear w
  intro kf ac w hS
  refine box0 (p := 5) (y := 2) (t := 24) (q := (isM a2 b2 m2)) hS (by kernel_rfl) rfl rfl rfl (List.Mem.tail _ (List.Mem.tail _ (List.Mem.head _))) shM ⟨(stb_M _ _ _), (stb_M _ _ _), trivial⟩ ⟨(stb_M _ _ _), (stb_M _ _ _), (stb_M _ _ _), trivial⟩ ?_
  clear hS kf ac
  try clear w
  intro kf ac w hS
  refine const0 (p := 6) (c := (.bool false)) hS (by kernel_rfl) rfl rfl rfl ?_
  clear hS kf ac
  try clear w
  intro kf ac w hS
  refine plain_end ?_
  refine region_seq (s := soft) (kf0 := kf) (by kernel_rfl) hS (Rg.look [(16, (isM a0 b0 m0)),
      (17, (IsT [(isQ (numQ a0 b0 m0) 5), (isR (numQ a0 b0 m0) 32)])),
      (15, (IsT [(isQ (numQ a0 b0 m0) 5), (isR (numQ a0 b0 m0) 32)])),
      (18, (isQ (numQ a0 b0 m0) 5)),
      (19, (isR (numQ a0 b0 m0) 32)),
      (7, isX),
      (8, isX)])
    ⟨[(5, 7, 30), (6, 8, 35)], [(7, 7, 18, 30), (8, 8, 19, 35)]⟩ [⟨5, 24, (isM a2 b2 m2)⟩, ⟨4, 24, (isM a1 b1 m1)⟩, ⟨3, 24, (isM a0 b0 m0)⟩, ⟨7, 30, (isQ (numQ a0 b0 m0) 5)⟩, ⟨8, 35, (isR (numQ a0 b0 m0) 32)⟩] [(6, (isE (.bool false))), (0, (isM a0 b0 m0)), (1, (isM a1 b1 m1)), (2, (isM a2 b2 m2))] (by kernel_rfl) (by kernel_rfl) (look_stb _ ⟨(stb_M _ _ _), (stb_T ⟨(stb_Q _ _), (stb_R _ _), trivial⟩), (stb_T ⟨(stb_Q _ _), (stb_R _ _), trivial⟩), (stb_Q _ _), (stb_R _ _), stb_true, stb_true, trivial⟩) ⟨(stb_M _ _ _), (stb_M _ _ _), (stb_M _ _ _), trivial⟩ ⟨(stb_eq _), (stb_M _ _ _), (stb_M _ _ _), (stb_M _ _ _), trivial⟩ ⟨fun _ _ => trivial, fun _ _ => trivial, trivial⟩ ⟨shQ, shR, trivial⟩
    ⟨.inr (.inl ⟨rfl, _, (List.Mem.head _), rfl, rfl, (fun _ _ h => h)⟩), .inr (.inl ⟨rfl, _, (List.Mem.tail _ (List.Mem.head _)), rfl, rfl, (fun _ _ h => h)⟩), .inr (.inl ⟨rfl, _, (List.Mem.tail _ (List.Mem.tail _ (List.Mem.head _))), rfl, rfl, (fun _ _ h => h)⟩), .inl ⟨_, (List.Mem.head _), rfl, rfl, (fun _ _ h => h)⟩, .inl ⟨_, (List.Mem.tail _ (List.Mem.head _)), rfl, rfl, (fun _ _ h => h)⟩, trivial⟩
    ⟨.inr ⟨(by kernel_rfl), _, (List.Mem.head _), rfl, (fun _ _ h => h)⟩, .inr ⟨(by kernel_rfl), _, (List.Mem.tail _ (List.Mem.head _)), rfl, (fun _ _ h => h)⟩, .inr ⟨(by kernel_rfl), _, (List.Mem.tail _ (List.Mem.tail _ (List.Mem.head _))), rfl, (fun _ _ h => h)⟩, .inr ⟨(by kernel_rfl), _, (List.Mem.tail _ (List.Mem.tail _ (List.Mem.tail _ (List.Mem.head _)))), rfl, (fun _ _ h => h)⟩, trivial⟩
    (steps (m := 9) (by kernel_rfl) ⟨stepN (i := 0) (dst := some 16) (op := (.load 24 (.tmp 3))) (by kernel_rfl) (loadV (List.Mem.tail _ (List.Mem.tail _ (List.Mem.head _))) (by kernel_rfl) (fun _ _ h => h)),
      stepN (i := 1) (dst := some 17) (op := (.call { callee := .value (.func 6), args := #[(.tmp 16)], argTypes := #[24] })) (by kernel_rfl) (call1 (enters_of Tryd.func6 (by kernel_rfl) rfl) (argT (p := (isM a0 b0 m0)) (by kernel_rfl) (fun _ _ h => h)) (fun w u1 h1 => num_m h1) (fun _ _ h => h)),
      stepN (i := 2) (dst := some 15) (op := (.move (.tmp 17))) (by kernel_rfl) (move (argT (p := (IsT [(isQ (numQ a0 b0 m0) 5), (isR (numQ a0 b0 m0) 32)])) (by kernel_rfl) (fun _ _ h => h)) (fun _ _ h => h)),
      stepN (i := 3) (dst := some 18) (op := (.extract (.tmp 15) 0)) (by kernel_rfl) (extract (by kernel_rfl) (fun _ _ h => h) rfl (fun _ _ h => h)),
      stepN (i := 4) (dst := some 19) (op := (.extract (.tmp 15) 1)) (by kernel_rfl) (extract (by kernel_rfl) (fun _ _ h => h) rfl (fun _ _ h => h)),
      isAlloc rfl,
      isAlloc rfl,
      isStore rfl,
      isStore rfl, trivial⟩) ?_
  clear hS kf ac
  try clear w
  intro kf ac w hS
  refine region_seq (s := soft) (kf0 := kf) (by kernel_rfl) hS (Rg.look [(21, (isM a1 b1 m1)),
      (22, (IsT [(isQ (numQ a1 b1 m1) 5), (isR (numQ a1 b1 m1) 32)])),
      (20, (IsT [(isQ (numQ a1 b1 m1) 5), (isR (numQ a1 b1 m1) 32)])),
      (23, (isQ (numQ a1 b1 m1) 5)),
      (24, (isR (numQ a1 b1 m1) 32)),
      (9, isX),
      (10, isX)])
    ⟨[(5, 9, 30), (6, 10, 35)], [(7, 9, 23, 30), (8, 10, 24, 35)]⟩ [⟨5, 24, (isM a2 b2 m2)⟩, ⟨4, 24, (isM a1 b1 m1)⟩, ⟨3, 24, (isM a0 b0 m0)⟩, ⟨7, 30, (isQ (numQ a0 b0 m0) 5)⟩, ⟨8, 35, (isR (numQ a0 b0 m0) 32)⟩, ⟨9, 30, (isQ (numQ a1 b1 m1) 5)⟩, ⟨10, 35, (isR (numQ a1 b1 m1) 32)⟩] [(6, (isE (.bool false))), (0, (isM a0 b0 m0)), (1, (isM a1 b1 m1)), (2, (isM a2 b2 m2))] (by kernel_rfl) (by kernel_rfl) (look_stb _ ⟨(stb_M _ _ _), (stb_T ⟨(stb_Q _ _), (stb_R _ _), trivial⟩), (stb_T ⟨(stb_Q _ _), (stb_R _ _), trivial⟩), (stb_Q _ _), (stb_R _ _), stb_true, stb_true, trivial⟩) ⟨(stb_M _ _ _), (stb_M _ _ _), (stb_M _ _ _), (stb_Q _ _), (stb_R _ _), trivial⟩ ⟨(stb_eq _), (stb_M _ _ _), (stb_M _ _ _), (stb_M _ _ _), trivial⟩ ⟨fun _ _ => trivial, fun _ _ => trivial, trivial⟩ ⟨shQ, shR, trivial⟩
    ⟨.inr (.inl ⟨rfl, _, (List.Mem.head _), rfl, rfl, (fun _ _ h => h)⟩), .inr (.inl ⟨rfl, _, (List.Mem.tail _ (List.Mem.head _)), rfl, rfl, (fun _ _ h => h)⟩), .inr (.inl ⟨rfl, _, (List.Mem.tail _ (List.Mem.tail _ (List.Mem.head _))), rfl, rfl, (fun _ _ h => h)⟩), .inr (.inl ⟨rfl, _, (List.Mem.tail _ (List.Mem.tail _ (List.Mem.tail _ (List.Mem.head _)))), rfl, rfl, (fun _ _ h => h)⟩), .inr (.inl ⟨rfl, _, (List.Mem.tail _ (List.Mem.tail _ (List.Mem.tail _ (List.Mem.tail _ (List.Mem.head _))))), rfl, rfl, (fun _ _ h => h)⟩), .inl ⟨_, (List.Mem.head _), rfl, rfl, (fun _ _ h => h)⟩, .inl ⟨_, (List.Mem.tail _ (List.Mem.head _)), rfl, rfl, (fun _ _ h => h)⟩, trivial⟩
    ⟨.inr ⟨(by kernel_rfl), _, (List.Mem.head _), rfl, (fun _ _ h => h)⟩, .inr ⟨(by kernel_rfl), _, (List.Mem.tail _ (List.Mem.head _)), rfl, (fun _ _ h => h)⟩, .inr ⟨(by kernel_rfl), _, (List.Mem.tail _ (List.Mem.tail _ (List.Mem.head _))), rfl, (fun _ _ h => h)⟩, .inr ⟨(by kernel_rfl), _, (List.Mem.tail _ (List.Mem.tail _ (List.Mem.tail _ (List.Mem.head _)))), rfl, (fun _ _ h => h)⟩, trivial⟩
    (steps (m := 9) (by kernel_rfl) ⟨stepN (i := 0) (dst := some 21) (op := (.load 24 (.tmp 4))) (by kernel_rfl) (loadV (List.Mem.tail _ (List.Mem.head _)) (by kernel_rfl) (fun _ _ h => h)),
      stepN (i := 1) (dst := some 22) (op := (.call { callee := .value (.func 6), args := #[(.tmp 21)], argTypes := #[24] })) (by kernel_rfl) (call1 (enters_of Tryd.func6 (by kernel_rfl) rfl) (argT (p := (isM a1 b1 m1)) (by kernel_rfl) (fun _ _ h => h)) (fun w u1 h1 => num_m h1) (fun _ _ h => h)),
      stepN (i := 2) (dst := some 20) (op := (.move (.tmp 22))) (by kernel_rfl) (move (argT (p := (IsT [(isQ (numQ a1 b1 m1) 5), (isR (numQ a1 b1 m1) 32)])) (by kernel_rfl) (fun _ _ h => h)) (fun _ _ h => h)),
      stepN (i := 3) (dst := some 23) (op := (.extract (.tmp 20) 0)) (by kernel_rfl) (extract (by kernel_rfl) (fun _ _ h => h) rfl (fun _ _ h => h)),
      stepN (i := 4) (dst := some 24) (op := (.extract (.tmp 20) 1)) (by kernel_rfl) (extract (by kernel_rfl) (fun _ _ h => h) rfl (fun _ _ h => h)),
      isAlloc rfl,
      isAlloc rfl,
      isStore rfl,
      isStore rfl, trivial⟩) ?_
  clear hS kf ac
  try clear w
  intro kf ac w hS
  refine region_seq (s := soft) (kf0 := kf) (by kernel_rfl) hS (Rg.look [(26, (isM a2 b2 m2)),
      (27, (IsT [(isQ (numQ a2 b2 m2) 5), (isR (numQ a2 b2 m2) 32)])),
      (25, (IsT [(isQ (numQ a2 b2 m2) 5), (isR (numQ a2 b2 m2) 32)])),
      (28, (isQ (numQ a2 b2 m2) 5)),
      (29, (isR (numQ a2 b2 m2) 32)),
      (11, isX),
      (12, isX)])
    ⟨[(5, 11, 30), (6, 12, 35)], [(7, 11, 28, 30), (8, 12, 29, 35)]⟩ [⟨5, 24, (isM a2 b2 m2)⟩, ⟨4, 24, (isM a1 b1 m1)⟩, ⟨3, 24, (isM a0 b0 m0)⟩, ⟨7, 30, (isQ (numQ a0 b0 m0) 5)⟩, ⟨8, 35, (isR (numQ a0 b0 m0) 32)⟩, ⟨9, 30, (isQ (numQ a1 b1 m1) 5)⟩, ⟨10, 35, (isR (numQ a1 b1 m1) 32)⟩, ⟨11, 30, (isQ (numQ a2 b2 m2) 5)⟩, ⟨12, 35, (isR (numQ a2 b2 m2) 32)⟩] [(6, (isE (.bool false))), (0, (isM a0 b0 m0)), (1, (isM a1 b1 m1)), (2, (isM a2 b2 m2))] (by kernel_rfl) (by kernel_rfl) (look_stb _ ⟨(stb_M _ _ _), (stb_T ⟨(stb_Q _ _), (stb_R _ _), trivial⟩), (stb_T ⟨(stb_Q _ _), (stb_R _ _), trivial⟩), (stb_Q _ _), (stb_R _ _), stb_true, stb_true, trivial⟩) ⟨(stb_M _ _ _), (stb_M _ _ _), (stb_M _ _ _), (stb_Q _ _), (stb_R _ _), (stb_Q _ _), (stb_R _ _), trivial⟩ ⟨(stb_eq _), (stb_M _ _ _), (stb_M _ _ _), (stb_M _ _ _), trivial⟩ ⟨fun _ _ => trivial, fun _ _ => trivial, trivial⟩ ⟨shQ, shR, trivial⟩
    ⟨.inr (.inl ⟨rfl, _, (List.Mem.head _), rfl, rfl, (fun _ _ h => h)⟩), .inr (.inl ⟨rfl, _, (List.Mem.tail _ (List.Mem.head _)), rfl, rfl, (fun _ _ h => h)⟩), .inr (.inl ⟨rfl, _, (List.Mem.tail _ (List.Mem.tail _ (List.Mem.head _))), rfl, rfl, (fun _ _ h => h)⟩), .inr (.inl ⟨rfl, _, (List.Mem.tail _ (List.Mem.tail _ (List.Mem.tail _ (List.Mem.head _)))), rfl, rfl, (fun _ _ h => h)⟩), .inr (.inl ⟨rfl, _, (List.Mem.tail _ (List.Mem.tail _ (List.Mem.tail _ (List.Mem.tail _ (List.Mem.head _))))), rfl, rfl, (fun _ _ h => h)⟩), .inr (.inl ⟨rfl, _, (List.Mem.tail _ (List.Mem.tail _ (List.Mem.tail _ (List.Mem.tail _ (List.Mem.tail _ (List.Mem.head _)))))), rfl, rfl, (fun _ _ h => h)⟩), .inr (.inl ⟨rfl, _, (List.Mem.tail _ (List.Mem.tail _ (List.Mem.tail _ (List.Mem.tail _ (List.Mem.tail _ (List.Mem.tail _ (List.Mem.head _))))))), rfl, rfl, (fun _ _ h => h)⟩), .inl ⟨_, (List.Mem.head _), rfl, rfl, (fun _ _ h => h)⟩, .inl ⟨_, (List.Mem.tail _ (List.Mem.head _)), rfl, rfl, (fun _ _ h => h)⟩, trivial⟩
    ⟨.inr ⟨(by kernel_rfl), _, (List.Mem.head _), rfl, (fun _ _ h => h)⟩, .inr ⟨(by kernel_rfl), _, (List.Mem.tail _ (List.Mem.head _)), rfl, (fun _ _ h => h)⟩, .inr ⟨(by kernel_rfl), _, (List.Mem.tail _ (List.Mem.tail _ (List.Mem.head _))), rfl, (fun _ _ h => h)⟩, .inr ⟨(by kernel_rfl), _, (List.Mem.tail _ (List.Mem.tail _ (List.Mem.tail _ (List.Mem.head _)))), rfl, (fun _ _ h => h)⟩, trivial⟩
    (steps (m := 9) (by kernel_rfl) ⟨stepN (i := 0) (dst := some 26) (op := (.load 24 (.tmp 5))) (by kernel_rfl) (loadV (List.Mem.head _) (by kernel_rfl) (fun _ _ h => h)),
      stepN (i := 1) (dst := some 27) (op := (.call { callee := .value (.func 6), args := #[(.tmp 26)], argTypes := #[24] })) (by kernel_rfl) (call1 (enters_of Tryd.func6 (by kernel_rfl) rfl) (argT (p := (isM a2 b2 m2)) (by kernel_rfl) (fun _ _ h => h)) (fun w u1 h1 => num_m h1) (fun _ _ h => h)),
      stepN (i := 2) (dst := some 25) (op := (.move (.tmp 27))) (by kernel_rfl) (move (argT (p := (IsT [(isQ (numQ a2 b2 m2) 5), (isR (numQ a2 b2 m2) 32)])) (by kernel_rfl) (fun _ _ h => h)) (fun _ _ h => h)),
      stepN (i := 3) (dst := some 28) (op := (.extract (.tmp 25) 0)) (by kernel_rfl) (extract (by kernel_rfl) (fun _ _ h => h) rfl (fun _ _ h => h)),
      stepN (i := 4) (dst := some 29) (op := (.extract (.tmp 25) 1)) (by kernel_rfl) (extract (by kernel_rfl) (fun _ _ h => h) rfl (fun _ _ h => h)),
      isAlloc rfl,
      isAlloc rfl,
      isStore rfl,
      isStore rfl, trivial⟩) ?_
  clear hS kf ac
  try clear w
  intro kf ac w hS
  refine wp_seq ?_
  refine region_seq (s := soft) (kf0 := kf) (by kernel_rfl) hS (Rg.look [(30, (isQ (numQ a0 b0 m0) 5)),
      (31, (isQ (numQ a1 b1 m1) 5)),
      (32, (isQ ((numQ a0 b0 m0) + (numQ a1 b1 m1)) (5 + 5 + 1))),
      (33, (isQ (numQ a1 b1 m1) 5)),
      (34, (isQ (((numQ a0 b0 m0) + (numQ a1 b1 m1)) - (numQ a1 b1 m1)) ((5 + 5 + 1) + 5 + 1))),
      (35, (isQ (numQ a0 b0 m0) 5)),
      (36, (isE (.int .i64 (cmpQ (((numQ a0 b0 m0) + (numQ a1 b1 m1)) - (numQ a1 b1 m1)) (numQ a0 b0 m0))))),
      (37, (isE (.bool false))),
      (38, (isE (.bool false))),
      (39, (isQ (numQ a0 b0 m0) 5)),
      (40, (isQ (numQ a1 b1 m1) 5)),
      (41, (isQ (numQ a2 b2 m2) 5)),
      (42, (isQ ((numQ a1 b1 m1) + (numQ a2 b2 m2)) (5 + 5 + 1))),
      (43, (isQ ((numQ a0 b0 m0) * ((numQ a1 b1 m1) + (numQ a2 b2 m2))) (5 + (5 + 5 + 1)))),
      (44, (isQ (numQ a0 b0 m0) 5)),
      (45, (isQ (numQ a1 b1 m1) 5)),
      (46, (isQ ((numQ a0 b0 m0) * (numQ a1 b1 m1)) (5 + 5))),
      (47, (isQ (numQ a0 b0 m0) 5)),
      (48, (isQ (numQ a2 b2 m2) 5)),
      (49, (isQ ((numQ a0 b0 m0) * (numQ a2 b2 m2)) (5 + 5))),
      (50, (isQ (((numQ a0 b0 m0) * (numQ a1 b1 m1)) + ((numQ a0 b0 m0) * (numQ a2 b2 m2))) ((5 + 5) + (5 + 5) + 1))),
      (51, (isE (.int .i64 (cmpQ ((numQ a0 b0 m0) * ((numQ a1 b1 m1) + (numQ a2 b2 m2))) (((numQ a0 b0 m0) * (numQ a1 b1 m1)) + ((numQ a0 b0 m0) * (numQ a2 b2 m2))))))),
      (52, (isE (.bool false))),
      (53, (isE (.bool false))),
      (54, (isE (.bool false))),
      (55, (isQ (numQ a0 b0 m0) 5)),
      (56, (isQ (numQ a1 b1 m1) 5)),
      (57, (isQ ((numQ a0 b0 m0) + (numQ a1 b1 m1)) (5 + 5 + 1))),
      (58, (isQ (numQ a1 b1 m1) 5)),
      (59, (isQ (numQ a0 b0 m0) 5)),
      (60, (isQ ((numQ a1 b1 m1) + (numQ a0 b0 m0)) (5 + 5 + 1))),
      (61, (isE (.int .i64 (cmpQ ((numQ a0 b0 m0) + (numQ a1 b1 m1)) ((numQ a1 b1 m1) + (numQ a0 b0 m0)))))),
      (62, (isE (.bool false))),
      (63, (isE (.bool false))),
      (64, (isE (.bool false))),
      (65, (isQ (numQ a0 b0 m0) 5)),
      (66, (isQ (numQ a1 b1 m1) 5)),
      (67, (isQ ((numQ a0 b0 m0) - (numQ a1 b1 m1)) (5 + 5 + 1))),
      (68, (isE (.int .i64 (Int.sign (((numQ a0 b0 m0) - (numQ a1 b1 m1)).num))))),
      (69, (isQ (numQ a0 b0 m0) 5)),
      (70, (isQ (numQ a1 b1 m1) 5)),
      (71, (isE (.int .i64 (cmpQ (numQ a0 b0 m0) (numQ a1 b1 m1))))),
      (72, (isE (.bool false))),
      (73, (isE (.bool false)))])
    ⟨[], []⟩ [⟨5, 24, (isM a2 b2 m2)⟩, ⟨4, 24, (isM a1 b1 m1)⟩, ⟨3, 24, (isM a0 b0 m0)⟩, ⟨7, 30, (isQ (numQ a0 b0 m0) 5)⟩, ⟨8, 35, (isR (numQ a0 b0 m0) 32)⟩, ⟨9, 30, (isQ (numQ a1 b1 m1) 5)⟩, ⟨10, 35, (isR (numQ a1 b1 m1) 32)⟩, ⟨11, 30, (isQ (numQ a2 b2 m2) 5)⟩, ⟨12, 35, (isR (numQ a2 b2 m2) 32)⟩] [(6, (isE (.bool false))), (0, (isM a0 b0 m0)), (1, (isM a1 b1 m1)), (2, (isM a2 b2 m2)), (73, (isE (.bool false)))] (by kernel_rfl) (by kernel_rfl) (look_stb _ ⟨(stb_Q _ _), (stb_Q _ _), (stb_Q _ _), (stb_Q _ _), (stb_Q _ _), (stb_Q _ _), (stb_eq _), (stb_eq _), (stb_eq _), (stb_Q _ _), (stb_Q _ _), (stb_Q _ _), (stb_Q _ _), (stb_Q _ _), (stb_Q _ _), (stb_Q _ _), (stb_Q _ _), (stb_Q _ _), (stb_Q _ _), (stb_Q _ _), (stb_Q _ _), (stb_eq _), (stb_eq _), (stb_eq _), (stb_eq _), (stb_Q _ _), (stb_Q _ _), (stb_Q _ _), (stb_Q _ _), (stb_Q _ _), (stb_Q _ _), (stb_eq _), (stb_eq _), (stb_eq _), (stb_eq _), (stb_Q _ _), (stb_Q _ _), (stb_Q _ _), (stb_eq _), (stb_Q _ _), (stb_Q _ _), (stb_eq _), (stb_eq _), (stb_eq _), trivial⟩) ⟨(stb_M _ _ _), (stb_M _ _ _), (stb_M _ _ _), (stb_Q _ _), (stb_R _ _), (stb_Q _ _), (stb_R _ _), (stb_Q _ _), (stb_R _ _), trivial⟩ ⟨(stb_eq _), (stb_M _ _ _), (stb_M _ _ _), (stb_M _ _ _), trivial⟩ trivial trivial
    ⟨.inr (.inl ⟨rfl, _, (List.Mem.head _), rfl, rfl, (fun _ _ h => h)⟩), .inr (.inl ⟨rfl, _, (List.Mem.tail _ (List.Mem.head _)), rfl, rfl, (fun _ _ h => h)⟩), .inr (.inl ⟨rfl, _, (List.Mem.tail _ (List.Mem.tail _ (List.Mem.head _))), rfl, rfl, (fun _ _ h => h)⟩), .inr (.inl ⟨rfl, _, (List.Mem.tail _ (List.Mem.tail _ (List.Mem.tail _ (List.Mem.head _)))), rfl, rfl, (fun _ _ h => h)⟩), .inr (.inl ⟨rfl, _, (List.Mem.tail _ (List.Mem.tail _ (List.Mem.tail _ (List.Mem.tail _ (List.Mem.head _))))), rfl, rfl, (fun _ _ h => h)⟩), .inr (.inl ⟨rfl, _, (List.Mem.tail _ (List.Mem.tail _ (List.Mem.tail _ (List.Mem.tail _ (List.Mem.tail _ (List.Mem.head _)))))), rfl, rfl, (fun _ _ h => h)⟩), .inr (.inl ⟨rfl, _, (List.Mem.tail _ (List.Mem.tail _ (List.Mem.tail _ (List.Mem.tail _ (List.Mem.tail _ (List.Mem.tail _ (List.Mem.head _))))))), rfl, rfl, (fun _ _ h => h)⟩), .inr (.inl ⟨rfl, _, (List.Mem.tail _ (List.Mem.tail _ (List.Mem.tail _ (List.Mem.tail _ (List.Mem.tail _ (List.Mem.tail _ (List.Mem.tail _ (List.Mem.head _)))))))), rfl, rfl, (fun _ _ h => h)⟩), .inr (.inl ⟨rfl, _, (List.Mem.tail _ (List.Mem.tail _ (List.Mem.tail _ (List.Mem.tail _ (List.Mem.tail _ (List.Mem.tail _ (List.Mem.tail _ (List.Mem.tail _ (List.Mem.head _))))))))), rfl, rfl, (fun _ _ h => h)⟩), trivial⟩
    ⟨.inr ⟨(by kernel_rfl), _, (List.Mem.head _), rfl, (fun _ _ h => h)⟩, .inr ⟨(by kernel_rfl), _, (List.Mem.tail _ (List.Mem.head _)), rfl, (fun _ _ h => h)⟩, .inr ⟨(by kernel_rfl), _, (List.Mem.tail _ (List.Mem.tail _ (List.Mem.head _))), rfl, (fun _ _ h => h)⟩, .inr ⟨(by kernel_rfl), _, (List.Mem.tail _ (List.Mem.tail _ (List.Mem.tail _ (List.Mem.head _)))), rfl, (fun _ _ h => h)⟩, .inl ⟨(by kernel_rfl), rfl, (fun _ _ h => h)⟩, trivial⟩
    (steps (m := 44) (by kernel_rfl) ⟨stepN (i := 0) (dst := some 30) (op := (.load 30 (.tmp 7))) (by kernel_rfl) (loadV (List.Mem.tail _ (List.Mem.tail _ (List.Mem.tail _ (List.Mem.head _)))) (by kernel_rfl) (fun _ _ h => h)),
      stepN (i := 1) (dst := some 31) (op := (.load 30 (.tmp 9))) (by kernel_rfl) (loadV (List.Mem.tail _ (List.Mem.tail _ (List.Mem.tail _ (List.Mem.tail _ (List.Mem.tail _ (List.Mem.head _)))))) (by kernel_rfl) (fun _ _ h => h)),
      stepN (i := 2) (dst := some 32) (op := (.call { callee := .value (.func 7), args := #[(.tmp 30), (.tmp 31)], argTypes := #[30, 30] })) (by kernel_rfl) (call2 (enters_of Tryd.func7 (by kernel_rfl) rfl) (argT (p := (isQ (numQ a0 b0 m0) 5)) (by kernel_rfl) (fun _ _ h => h)) (argT (p := (isQ (numQ a1 b1 m1) 5)) (by kernel_rfl) (fun _ _ h => h)) (fun w u1 u2 h1 h2 => add_q h1 h2 (by omega) (by omega)) (fun _ _ h => h)),
      stepN (i := 3) (dst := some 33) (op := (.load 30 (.tmp 9))) (by kernel_rfl) (loadV (List.Mem.tail _ (List.Mem.tail _ (List.Mem.tail _ (List.Mem.tail _ (List.Mem.tail _ (List.Mem.head _)))))) (by kernel_rfl) (fun _ _ h => h)),
      stepN (i := 4) (dst := some 34) (op := (.call { callee := .value (.func 8), args := #[(.tmp 32), (.tmp 33)], argTypes := #[30, 30] })) (by kernel_rfl) (call2 (enters_of Tryd.func8 (by kernel_rfl) rfl) (argT (p := (isQ ((numQ a0 b0 m0) + (numQ a1 b1 m1)) (5 + 5 + 1))) (by kernel_rfl) (fun _ _ h => h)) (argT (p := (isQ (numQ a1 b1 m1) 5)) (by kernel_rfl) (fun _ _ h => h)) (fun w u1 u2 h1 h2 => sub_q h1 h2 (by omega) (by omega)) (fun _ _ h => h)),
      stepN (i := 5) (dst := some 35) (op := (.load 30 (.tmp 7))) (by kernel_rfl) (loadV (List.Mem.tail _ (List.Mem.tail _ (List.Mem.tail _ (List.Mem.head _)))) (by kernel_rfl) (fun _ _ h => h)),
      stepN (i := 6) (dst := some 36) (op := (.call { callee := .value (.func 9), args := #[(.tmp 34), (.tmp 35)], argTypes := #[30, 30] })) (by kernel_rfl) (call2 (enters_of Tryd.func9 (by kernel_rfl) rfl) (argT (p := (isQ (((numQ a0 b0 m0) + (numQ a1 b1 m1)) - (numQ a1 b1 m1)) ((5 + 5 + 1) + 5 + 1))) (by kernel_rfl) (fun _ _ h => h)) (argT (p := (isQ (numQ a0 b0 m0) 5)) (by kernel_rfl) (fun _ _ h => h)) (fun w u1 u2 h1 h2 => cmp_q h1 h2 (by omega) (by omega)) (fun _ _ h => h)),
      stepN (i := 7) (dst := some 37) (op := (.binOp .neq 3 (.tmp 36) (.const (.int .i64 0)) 3)) (by kernel_rfl) (neq (m := (cmpQ (((numQ a0 b0 m0) + (numQ a1 b1 m1)) - (numQ a1 b1 m1)) (numQ a0 b0 m0))) (n := 0) (argT (p := (isE (.int .i64 (cmpQ (((numQ a0 b0 m0) + (numQ a1 b1 m1)) - (numQ a1 b1 m1)) (numQ a0 b0 m0))))) (by kernel_rfl) (fun _ _ h => h)) (argC (.int .i64 0)) (fun w v h => h.trans (congrArg Value.bool (cmp_ne (by grind))))),
      stepN (i := 8) (dst := some 38) (op := (.move (.tmp 37))) (by kernel_rfl) (move (argT (p := (isE (.bool false))) (by kernel_rfl) (fun _ _ h => h)) (fun _ _ h => h)),
      stepG (i := 9) (j := 8) (dj := 38) (b := false) (dst := some 39) (op := (.load 30 (.tmp 7))) (by kernel_rfl) (by kernel_rfl) (by kernel_rfl) (fun _ _ h => h) (loadV (List.Mem.tail _ (List.Mem.tail _ (List.Mem.tail _ (List.Mem.head _)))) (by kernel_rfl) (fun _ _ h => h)),
      stepG (i := 10) (j := 8) (dj := 38) (b := false) (dst := some 40) (op := (.load 30 (.tmp 9))) (by kernel_rfl) (by kernel_rfl) (by kernel_rfl) (fun _ _ h => h) (loadV (List.Mem.tail _ (List.Mem.tail _ (List.Mem.tail _ (List.Mem.tail _ (List.Mem.tail _ (List.Mem.head _)))))) (by kernel_rfl) (fun _ _ h => h)),
      stepG (i := 11) (j := 8) (dj := 38) (b := false) (dst := some 41) (op := (.load 30 (.tmp 11))) (by kernel_rfl) (by kernel_rfl) (by kernel_rfl) (fun _ _ h => h) (loadV (List.Mem.tail _ (List.Mem.tail _ (List.Mem.tail _ (List.Mem.tail _ (List.Mem.tail _ (List.Mem.tail _ (List.Mem.tail _ (List.Mem.head _)))))))) (by kernel_rfl) (fun _ _ h => h)),
      stepG (i := 12) (j := 8) (dj := 38) (b := false) (dst := some 42) (op := (.call { callee := .value (.func 7), args := #[(.tmp 40), (.tmp 41)], argTypes := #[30, 30] })) (by kernel_rfl) (by kernel_rfl) (by kernel_rfl) (fun _ _ h => h) (call2 (enters_of Tryd.func7 (by kernel_rfl) rfl) (argT (p := (isQ (numQ a1 b1 m1) 5)) (by kernel_rfl) (fun _ _ h => h)) (argT (p := (isQ (numQ a2 b2 m2) 5)) (by kernel_rfl) (fun _ _ h => h)) (fun w u1 u2 h1 h2 => add_q h1 h2 (by omega) (by omega)) (fun _ _ h => h)),
      stepG (i := 13) (j := 8) (dj := 38) (b := false) (dst := some 43) (op := (.call { callee := .value (.func 10), args := #[(.tmp 39), (.tmp 42)], argTypes := #[30, 30] })) (by kernel_rfl) (by kernel_rfl) (by kernel_rfl) (fun _ _ h => h) (call2 (enters_of Tryd.func10 (by kernel_rfl) rfl) (argT (p := (isQ (numQ a0 b0 m0) 5)) (by kernel_rfl) (fun _ _ h => h)) (argT (p := (isQ ((numQ a1 b1 m1) + (numQ a2 b2 m2)) (5 + 5 + 1))) (by kernel_rfl) (fun _ _ h => h)) (fun w u1 u2 h1 h2 => mul_q h1 h2 (by omega) (by omega)) (fun _ _ h => h)),
      stepG (i := 14) (j := 8) (dj := 38) (b := false) (dst := some 44) (op := (.load 30 (.tmp 7))) (by kernel_rfl) (by kernel_rfl) (by kernel_rfl) (fun _ _ h => h) (loadV (List.Mem.tail _ (List.Mem.tail _ (List.Mem.tail _ (List.Mem.head _)))) (by kernel_rfl) (fun _ _ h => h)),
      stepG (i := 15) (j := 8) (dj := 38) (b := false) (dst := some 45) (op := (.load 30 (.tmp 9))) (by kernel_rfl) (by kernel_rfl) (by kernel_rfl) (fun _ _ h => h) (loadV (List.Mem.tail _ (List.Mem.tail _ (List.Mem.tail _ (List.Mem.tail _ (List.Mem.tail _ (List.Mem.head _)))))) (by kernel_rfl) (fun _ _ h => h)),
      stepG (i := 16) (j := 8) (dj := 38) (b := false) (dst := some 46) (op := (.call { callee := .value (.func 10), args := #[(.tmp 44), (.tmp 45)], argTypes := #[30, 30] })) (by kernel_rfl) (by kernel_rfl) (by kernel_rfl) (fun _ _ h => h) (call2 (enters_of Tryd.func10 (by kernel_rfl) rfl) (argT (p := (isQ (numQ a0 b0 m0) 5)) (by kernel_rfl) (fun _ _ h => h)) (argT (p := (isQ (numQ a1 b1 m1) 5)) (by kernel_rfl) (fun _ _ h => h)) (fun w u1 u2 h1 h2 => mul_q h1 h2 (by omega) (by omega)) (fun _ _ h => h)),
      stepG (i := 17) (j := 8) (dj := 38) (b := false) (dst := some 47) (op := (.load 30 (.tmp 7))) (by kernel_rfl) (by kernel_rfl) (by kernel_rfl) (fun _ _ h => h) (loadV (List.Mem.tail _ (List.Mem.tail _ (List.Mem.tail _ (List.Mem.head _)))) (by kernel_rfl) (fun _ _ h => h)),
      stepG (i := 18) (j := 8) (dj := 38) (b := false) (dst := some 48) (op := (.load 30 (.tmp 11))) (by kernel_rfl) (by kernel_rfl) (by kernel_rfl) (fun _ _ h => h) (loadV (List.Mem.tail _ (List.Mem.tail _ (List.Mem.tail _ (List.Mem.tail _ (List.Mem.tail _ (List.Mem.tail _ (List.Mem.tail _ (List.Mem.head _)))))))) (by kernel_rfl) (fun _ _ h => h)),
      stepG (i := 19) (j := 8) (dj := 38) (b := false) (dst := some 49) (op := (.call { callee := .value (.func 10), args := #[(.tmp 47), (.tmp 48)], argTypes := #[30, 30] })) (by kernel_rfl) (by kernel_rfl) (by kernel_rfl) (fun _ _ h => h) (call2 (enters_of Tryd.func10 (by kernel_rfl) rfl) (argT (p := (isQ (numQ a0 b0 m0) 5)) (by kernel_rfl) (fun _ _ h => h)) (argT (p := (isQ (numQ a2 b2 m2) 5)) (by kernel_rfl) (fun _ _ h => h)) (fun w u1 u2 h1 h2 => mul_q h1 h2 (by omega) (by omega)) (fun _ _ h => h)),
      stepG (i := 20) (j := 8) (dj := 38) (b := false) (dst := some 50) (op := (.call { callee := .value (.func 7), args := #[(.tmp 46), (.tmp 49)], argTypes := #[30, 30] })) (by kernel_rfl) (by kernel_rfl) (by kernel_rfl) (fun _ _ h => h) (call2 (enters_of Tryd.func7 (by kernel_rfl) rfl) (argT (p := (isQ ((numQ a0 b0 m0) * (numQ a1 b1 m1)) (5 + 5))) (by kernel_rfl) (fun _ _ h => h)) (argT (p := (isQ ((numQ a0 b0 m0) * (numQ a2 b2 m2)) (5 + 5))) (by kernel_rfl) (fun _ _ h => h)) (fun w u1 u2 h1 h2 => add_q h1 h2 (by omega) (by omega)) (fun _ _ h => h)),
      stepG (i := 21) (j := 8) (dj := 38) (b := false) (dst := some 51) (op := (.call { callee := .value (.func 9), args := #[(.tmp 43), (.tmp 50)], argTypes := #[30, 30] })) (by kernel_rfl) (by kernel_rfl) (by kernel_rfl) (fun _ _ h => h) (call2 (enters_of Tryd.func9 (by kernel_rfl) rfl) (argT (p := (isQ ((numQ a0 b0 m0) * ((numQ a1 b1 m1) + (numQ a2 b2 m2))) (5 + (5 + 5 + 1)))) (by kernel_rfl) (fun _ _ h => h)) (argT (p := (isQ (((numQ a0 b0 m0) * (numQ a1 b1 m1)) + ((numQ a0 b0 m0) * (numQ a2 b2 m2))) ((5 + 5) + (5 + 5) + 1))) (by kernel_rfl) (fun _ _ h => h)) (fun w u1 u2 h1 h2 => cmp_q h1 h2 (by omega) (by omega)) (fun _ _ h => h)),
      stepG (i := 22) (j := 8) (dj := 38) (b := false) (dst := some 52) (op := (.binOp .neq 3 (.tmp 51) (.const (.int .i64 0)) 3)) (by kernel_rfl) (by kernel_rfl) (by kernel_rfl) (fun _ _ h => h) (neq (m := (cmpQ ((numQ a0 b0 m0) * ((numQ a1 b1 m1) + (numQ a2 b2 m2))) (((numQ a0 b0 m0) * (numQ a1 b1 m1)) + ((numQ a0 b0 m0) * (numQ a2 b2 m2))))) (n := 0) (argT (p := (isE (.int .i64 (cmpQ ((numQ a0 b0 m0) * ((numQ a1 b1 m1) + (numQ a2 b2 m2))) (((numQ a0 b0 m0) * (numQ a1 b1 m1)) + ((numQ a0 b0 m0) * (numQ a2 b2 m2))))))) (by kernel_rfl) (fun _ _ h => h)) (argC (.int .i64 0)) (fun w v h => h.trans (congrArg Value.bool (cmp_ne (by grind))))),
      stepN (i := 23) (dst := some 53) (op := (.pick (.tmp 38) (.const (.bool true)) (.tmp 52))) (by kernel_rfl) (pickF (argT (p := (isE (.bool false))) (by kernel_rfl) (fun _ _ h => h)) (argT (p := (isE (.bool false))) (by kernel_rfl) (fun _ _ h => h)) (fun _ _ h => h)),
      stepN (i := 24) (dst := some 54) (op := (.move (.tmp 53))) (by kernel_rfl) (move (argT (p := (isE (.bool false))) (by kernel_rfl) (fun _ _ h => h)) (fun _ _ h => h)),
      stepG (i := 25) (j := 24) (dj := 54) (b := false) (dst := some 55) (op := (.load 30 (.tmp 7))) (by kernel_rfl) (by kernel_rfl) (by kernel_rfl) (fun _ _ h => h) (loadV (List.Mem.tail _ (List.Mem.tail _ (List.Mem.tail _ (List.Mem.head _)))) (by kernel_rfl) (fun _ _ h => h)),
      stepG (i := 26) (j := 24) (dj := 54) (b := false) (dst := some 56) (op := (.load 30 (.tmp 9))) (by kernel_rfl) (by kernel_rfl) (by kernel_rfl) (fun _ _ h => h) (loadV (List.Mem.tail _ (List.Mem.tail _ (List.Mem.tail _ (List.Mem.tail _ (List.Mem.tail _ (List.Mem.head _)))))) (by kernel_rfl) (fun _ _ h => h)),
      stepG (i := 27) (j := 24) (dj := 54) (b := false) (dst := some 57) (op := (.call { callee := .value (.func 7), args := #[(.tmp 55), (.tmp 56)], argTypes := #[30, 30] })) (by kernel_rfl) (by kernel_rfl) (by kernel_rfl) (fun _ _ h => h) (call2 (enters_of Tryd.func7 (by kernel_rfl) rfl) (argT (p := (isQ (numQ a0 b0 m0) 5)) (by kernel_rfl) (fun _ _ h => h)) (argT (p := (isQ (numQ a1 b1 m1) 5)) (by kernel_rfl) (fun _ _ h => h)) (fun w u1 u2 h1 h2 => add_q h1 h2 (by omega) (by omega)) (fun _ _ h => h)),
      stepG (i := 28) (j := 24) (dj := 54) (b := false) (dst := some 58) (op := (.load 30 (.tmp 9))) (by kernel_rfl) (by kernel_rfl) (by kernel_rfl) (fun _ _ h => h) (loadV (List.Mem.tail _ (List.Mem.tail _ (List.Mem.tail _ (List.Mem.tail _ (List.Mem.tail _ (List.Mem.head _)))))) (by kernel_rfl) (fun _ _ h => h)),
      stepG (i := 29) (j := 24) (dj := 54) (b := false) (dst := some 59) (op := (.load 30 (.tmp 7))) (by kernel_rfl) (by kernel_rfl) (by kernel_rfl) (fun _ _ h => h) (loadV (List.Mem.tail _ (List.Mem.tail _ (List.Mem.tail _ (List.Mem.head _)))) (by kernel_rfl) (fun _ _ h => h)),
      stepG (i := 30) (j := 24) (dj := 54) (b := false) (dst := some 60) (op := (.call { callee := .value (.func 7), args := #[(.tmp 58), (.tmp 59)], argTypes := #[30, 30] })) (by kernel_rfl) (by kernel_rfl) (by kernel_rfl) (fun _ _ h => h) (call2 (enters_of Tryd.func7 (by kernel_rfl) rfl) (argT (p := (isQ (numQ a1 b1 m1) 5)) (by kernel_rfl) (fun _ _ h => h)) (argT (p := (isQ (numQ a0 b0 m0) 5)) (by kernel_rfl) (fun _ _ h => h)) (fun w u1 u2 h1 h2 => add_q h1 h2 (by omega) (by omega)) (fun _ _ h => h)),
      stepG (i := 31) (j := 24) (dj := 54) (b := false) (dst := some 61) (op := (.call { callee := .value (.func 9), args := #[(.tmp 57), (.tmp 60)], argTypes := #[30, 30] })) (by kernel_rfl) (by kernel_rfl) (by kernel_rfl) (fun _ _ h => h) (call2 (enters_of Tryd.func9 (by kernel_rfl) rfl) (argT (p := (isQ ((numQ a0 b0 m0) + (numQ a1 b1 m1)) (5 + 5 + 1))) (by kernel_rfl) (fun _ _ h => h)) (argT (p := (isQ ((numQ a1 b1 m1) + (numQ a0 b0 m0)) (5 + 5 + 1))) (by kernel_rfl) (fun _ _ h => h)) (fun w u1 u2 h1 h2 => cmp_q h1 h2 (by omega) (by omega)) (fun _ _ h => h)),
      stepG (i := 32) (j := 24) (dj := 54) (b := false) (dst := some 62) (op := (.binOp .neq 3 (.tmp 61) (.const (.int .i64 0)) 3)) (by kernel_rfl) (by kernel_rfl) (by kernel_rfl) (fun _ _ h => h) (neq (m := (cmpQ ((numQ a0 b0 m0) + (numQ a1 b1 m1)) ((numQ a1 b1 m1) + (numQ a0 b0 m0)))) (n := 0) (argT (p := (isE (.int .i64 (cmpQ ((numQ a0 b0 m0) + (numQ a1 b1 m1)) ((numQ a1 b1 m1) + (numQ a0 b0 m0)))))) (by kernel_rfl) (fun _ _ h => h)) (argC (.int .i64 0)) (fun w v h => h.trans (congrArg Value.bool (cmp_ne (by grind))))),
      stepN (i := 33) (dst := some 63) (op := (.pick (.tmp 54) (.const (.bool true)) (.tmp 62))) (by kernel_rfl) (pickF (argT (p := (isE (.bool false))) (by kernel_rfl) (fun _ _ h => h)) (argT (p := (isE (.bool false))) (by kernel_rfl) (fun _ _ h => h)) (fun _ _ h => h)),
      stepN (i := 34) (dst := some 64) (op := (.move (.tmp 63))) (by kernel_rfl) (move (argT (p := (isE (.bool false))) (by kernel_rfl) (fun _ _ h => h)) (fun _ _ h => h)),
      stepG (i := 35) (j := 34) (dj := 64) (b := false) (dst := some 65) (op := (.load 30 (.tmp 7))) (by kernel_rfl) (by kernel_rfl) (by kernel_rfl) (fun _ _ h => h) (loadV (List.Mem.tail _ (List.Mem.tail _ (List.Mem.tail _ (List.Mem.head _)))) (by kernel_rfl) (fun _ _ h => h)),
      stepG (i := 36) (j := 34) (dj := 64) (b := false) (dst := some 66) (op := (.load 30 (.tmp 9))) (by kernel_rfl) (by kernel_rfl) (by kernel_rfl) (fun _ _ h => h) (loadV (List.Mem.tail _ (List.Mem.tail _ (List.Mem.tail _ (List.Mem.tail _ (List.Mem.tail _ (List.Mem.head _)))))) (by kernel_rfl) (fun _ _ h => h)),
      stepG (i := 37) (j := 34) (dj := 64) (b := false) (dst := some 67) (op := (.call { callee := .value (.func 8), args := #[(.tmp 65), (.tmp 66)], argTypes := #[30, 30] })) (by kernel_rfl) (by kernel_rfl) (by kernel_rfl) (fun _ _ h => h) (call2 (enters_of Tryd.func8 (by kernel_rfl) rfl) (argT (p := (isQ (numQ a0 b0 m0) 5)) (by kernel_rfl) (fun _ _ h => h)) (argT (p := (isQ (numQ a1 b1 m1) 5)) (by kernel_rfl) (fun _ _ h => h)) (fun w u1 u2 h1 h2 => sub_q h1 h2 (by omega) (by omega)) (fun _ _ h => h)),
      stepG (i := 38) (j := 34) (dj := 64) (b := false) (dst := some 68) (op := (.call { callee := .value (.func 11), args := #[(.tmp 67)], argTypes := #[30] })) (by kernel_rfl) (by kernel_rfl) (by kernel_rfl) (fun _ _ h => h) (call1 (enters_of Tryd.func11 (by kernel_rfl) rfl) (argT (p := (isQ ((numQ a0 b0 m0) - (numQ a1 b1 m1)) (5 + 5 + 1))) (by kernel_rfl) (fun _ _ h => h)) (fun w u1 h1 => sign_q h1) (fun _ _ h => h)),
      stepG (i := 39) (j := 34) (dj := 64) (b := false) (dst := some 69) (op := (.load 30 (.tmp 7))) (by kernel_rfl) (by kernel_rfl) (by kernel_rfl) (fun _ _ h => h) (loadV (List.Mem.tail _ (List.Mem.tail _ (List.Mem.tail _ (List.Mem.head _)))) (by kernel_rfl) (fun _ _ h => h)),
      stepG (i := 40) (j := 34) (dj := 64) (b := false) (dst := some 70) (op := (.load 30 (.tmp 9))) (by kernel_rfl) (by kernel_rfl) (by kernel_rfl) (fun _ _ h => h) (loadV (List.Mem.tail _ (List.Mem.tail _ (List.Mem.tail _ (List.Mem.tail _ (List.Mem.tail _ (List.Mem.head _)))))) (by kernel_rfl) (fun _ _ h => h)),
      stepG (i := 41) (j := 34) (dj := 64) (b := false) (dst := some 71) (op := (.call { callee := .value (.func 9), args := #[(.tmp 69), (.tmp 70)], argTypes := #[30, 30] })) (by kernel_rfl) (by kernel_rfl) (by kernel_rfl) (fun _ _ h => h) (call2 (enters_of Tryd.func9 (by kernel_rfl) rfl) (argT (p := (isQ (numQ a0 b0 m0) 5)) (by kernel_rfl) (fun _ _ h => h)) (argT (p := (isQ (numQ a1 b1 m1) 5)) (by kernel_rfl) (fun _ _ h => h)) (fun w u1 u2 h1 h2 => cmp_q h1 h2 (by omega) (by omega)) (fun _ _ h => h)),
      stepG (i := 42) (j := 34) (dj := 64) (b := false) (dst := some 72) (op := (.binOp .neq 3 (.tmp 68) (.tmp 71) 3)) (by kernel_rfl) (by kernel_rfl) (by kernel_rfl) (fun _ _ h => h) (neq (m := (Int.sign (((numQ a0 b0 m0) - (numQ a1 b1 m1)).num))) (n := (cmpQ (numQ a0 b0 m0) (numQ a1 b1 m1))) (argT (p := (isE (.int .i64 (Int.sign (((numQ a0 b0 m0) - (numQ a1 b1 m1)).num))))) (by kernel_rfl) (fun _ _ h => h)) (argT (p := (isE (.int .i64 (cmpQ (numQ a0 b0 m0) (numQ a1 b1 m1))))) (by kernel_rfl) (fun _ _ h => h)) (fun w v h => h.trans (congrArg Value.bool (by rw [sub_sign]; simp)))),
      stepN (i := 43) (dst := some 73) (op := (.pick (.tmp 64) (.const (.bool true)) (.tmp 72))) (by kernel_rfl) (pickF (argT (p := (isE (.bool false))) (by kernel_rfl) (fun _ _ h => h)) (argT (p := (isE (.bool false))) (by kernel_rfl) (fun _ _ h => h)) (fun _ _ h => h)), trivial⟩) ?_
  clear hS kf ac
  try clear w
  intro kf ac w hS
  refine cond_false (q := (isE (.bool false))) hS (List.Mem.tail _ (List.Mem.tail _ (List.Mem.tail _ (List.Mem.tail _ (List.Mem.head _))))) (fun _ _ h => h) ?_
  refine skip_then ?_
  refine wp_seq ?_
  refine region_seq (s := soft) (kf0 := kf) (by kernel_rfl) hS (Rg.look [(74, (isQ (numQ a1 b1 m1) 5)),
      (75, (isE (.int .i64 (Int.sign ((numQ a1 b1 m1).num))))),
      (76, (isE (.bool true)))])
    ⟨[], []⟩ [⟨5, 24, (isM a2 b2 m2)⟩, ⟨4, 24, (isM a1 b1 m1)⟩, ⟨3, 24, (isM a0 b0 m0)⟩, ⟨7, 30, (isQ (numQ a0 b0 m0) 5)⟩, ⟨8, 35, (isR (numQ a0 b0 m0) 32)⟩, ⟨9, 30, (isQ (numQ a1 b1 m1) 5)⟩, ⟨10, 35, (isR (numQ a1 b1 m1) 32)⟩, ⟨11, 30, (isQ (numQ a2 b2 m2) 5)⟩, ⟨12, 35, (isR (numQ a2 b2 m2) 32)⟩] [(6, (isE (.bool false))), (0, (isM a0 b0 m0)), (1, (isM a1 b1 m1)), (2, (isM a2 b2 m2)), (73, (isE (.bool false))), (76, (isE (.bool true)))] (by kernel_rfl) (by kernel_rfl) (look_stb _ ⟨(stb_Q _ _), (stb_eq _), (stb_eq _), trivial⟩) ⟨(stb_M _ _ _), (stb_M _ _ _), (stb_M _ _ _), (stb_Q _ _), (stb_R _ _), (stb_Q _ _), (stb_R _ _), (stb_Q _ _), (stb_R _ _), trivial⟩ ⟨(stb_eq _), (stb_M _ _ _), (stb_M _ _ _), (stb_M _ _ _), (stb_eq _), trivial⟩ trivial trivial
    ⟨.inr (.inl ⟨rfl, _, (List.Mem.head _), rfl, rfl, (fun _ _ h => h)⟩), .inr (.inl ⟨rfl, _, (List.Mem.tail _ (List.Mem.head _)), rfl, rfl, (fun _ _ h => h)⟩), .inr (.inl ⟨rfl, _, (List.Mem.tail _ (List.Mem.tail _ (List.Mem.head _))), rfl, rfl, (fun _ _ h => h)⟩), .inr (.inl ⟨rfl, _, (List.Mem.tail _ (List.Mem.tail _ (List.Mem.tail _ (List.Mem.head _)))), rfl, rfl, (fun _ _ h => h)⟩), .inr (.inl ⟨rfl, _, (List.Mem.tail _ (List.Mem.tail _ (List.Mem.tail _ (List.Mem.tail _ (List.Mem.head _))))), rfl, rfl, (fun _ _ h => h)⟩), .inr (.inl ⟨rfl, _, (List.Mem.tail _ (List.Mem.tail _ (List.Mem.tail _ (List.Mem.tail _ (List.Mem.tail _ (List.Mem.head _)))))), rfl, rfl, (fun _ _ h => h)⟩), .inr (.inl ⟨rfl, _, (List.Mem.tail _ (List.Mem.tail _ (List.Mem.tail _ (List.Mem.tail _ (List.Mem.tail _ (List.Mem.tail _ (List.Mem.head _))))))), rfl, rfl, (fun _ _ h => h)⟩), .inr (.inl ⟨rfl, _, (List.Mem.tail _ (List.Mem.tail _ (List.Mem.tail _ (List.Mem.tail _ (List.Mem.tail _ (List.Mem.tail _ (List.Mem.tail _ (List.Mem.head _)))))))), rfl, rfl, (fun _ _ h => h)⟩), .inr (.inl ⟨rfl, _, (List.Mem.tail _ (List.Mem.tail _ (List.Mem.tail _ (List.Mem.tail _ (List.Mem.tail _ (List.Mem.tail _ (List.Mem.tail _ (List.Mem.tail _ (List.Mem.head _))))))))), rfl, rfl, (fun _ _ h => h)⟩), trivial⟩
    ⟨.inr ⟨(by kernel_rfl), _, (List.Mem.head _), rfl, (fun _ _ h => h)⟩, .inr ⟨(by kernel_rfl), _, (List.Mem.tail _ (List.Mem.head _)), rfl, (fun _ _ h => h)⟩, .inr ⟨(by kernel_rfl), _, (List.Mem.tail _ (List.Mem.tail _ (List.Mem.head _))), rfl, (fun _ _ h => h)⟩, .inr ⟨(by kernel_rfl), _, (List.Mem.tail _ (List.Mem.tail _ (List.Mem.tail _ (List.Mem.head _)))), rfl, (fun _ _ h => h)⟩, .inr ⟨(by kernel_rfl), _, (List.Mem.tail _ (List.Mem.tail _ (List.Mem.tail _ (List.Mem.tail _ (List.Mem.head _))))), rfl, (fun _ _ h => h)⟩, .inl ⟨(by kernel_rfl), rfl, (fun _ _ h => h)⟩, trivial⟩
    (steps (m := 3) (by kernel_rfl) ⟨stepN (i := 0) (dst := some 74) (op := (.load 30 (.tmp 9))) (by kernel_rfl) (loadV (List.Mem.tail _ (List.Mem.tail _ (List.Mem.tail _ (List.Mem.tail _ (List.Mem.tail _ (List.Mem.head _)))))) (by kernel_rfl) (fun _ _ h => h)),
      stepN (i := 1) (dst := some 75) (op := (.call { callee := .value (.func 11), args := #[(.tmp 74)], argTypes := #[30] })) (by kernel_rfl) (call1 (enters_of Tryd.func11 (by kernel_rfl) rfl) (argT (p := (isQ (numQ a1 b1 m1) 5)) (by kernel_rfl) (fun _ _ h => h)) (fun w u1 h1 => sign_q h1) (fun _ _ h => h)),
      stepN (i := 2) (dst := some 76) (op := (.binOp .eql 3 (.tmp 75) (.const (.int .i64 0)) 3)) (by kernel_rfl) (eql (m := (Int.sign ((numQ a1 b1 m1).num))) (n := 0) (argT (p := (isE (.int .i64 (Int.sign ((numQ a1 b1 m1).num))))) (by kernel_rfl) (fun _ _ h => h)) (argC (.int .i64 0)) (fun w v h => h.trans (congrArg Value.bool (sign_eq hy)))), trivial⟩) ?_
  clear hS kf ac
  try clear w
  intro kf ac w hS
  refine cond_true (q := (isE (.bool true))) hS (List.Mem.tail _ (List.Mem.tail _ (List.Mem.tail _ (List.Mem.tail _ (List.Mem.tail _ (List.Mem.head _)))))) (fun _ _ h => h) ?_
  refine region_seq (s := soft) (kf0 := kf) (by kernel_rfl) hS (Rg.look [(77, (isE (.bool true))),
      (6, (isE (.bool true)))])
    ⟨[], []⟩ [⟨5, 24, (isM a2 b2 m2)⟩, ⟨4, 24, (isM a1 b1 m1)⟩, ⟨3, 24, (isM a0 b0 m0)⟩, ⟨7, 30, (isQ (numQ a0 b0 m0) 5)⟩, ⟨8, 35, (isR (numQ a0 b0 m0) 32)⟩, ⟨9, 30, (isQ (numQ a1 b1 m1) 5)⟩, ⟨10, 35, (isR (numQ a1 b1 m1) 32)⟩, ⟨11, 30, (isQ (numQ a2 b2 m2) 5)⟩, ⟨12, 35, (isR (numQ a2 b2 m2) 32)⟩] [(0, (isM a0 b0 m0)), (1, (isM a1 b1 m1)), (2, (isM a2 b2 m2)), (73, (isE (.bool false))), (76, (isE (.bool true))), (6, (isE (.bool true)))] (by kernel_rfl) (by kernel_rfl) (look_stb _ ⟨(stb_eq _), (stb_eq _), trivial⟩) ⟨(stb_M _ _ _), (stb_M _ _ _), (stb_M _ _ _), (stb_Q _ _), (stb_R _ _), (stb_Q _ _), (stb_R _ _), (stb_Q _ _), (stb_R _ _), trivial⟩ ⟨(stb_eq _), (stb_M _ _ _), (stb_M _ _ _), (stb_M _ _ _), (stb_eq _), (stb_eq _), trivial⟩ trivial trivial
    ⟨.inr (.inl ⟨rfl, _, (List.Mem.head _), rfl, rfl, (fun _ _ h => h)⟩), .inr (.inl ⟨rfl, _, (List.Mem.tail _ (List.Mem.head _)), rfl, rfl, (fun _ _ h => h)⟩), .inr (.inl ⟨rfl, _, (List.Mem.tail _ (List.Mem.tail _ (List.Mem.head _))), rfl, rfl, (fun _ _ h => h)⟩), .inr (.inl ⟨rfl, _, (List.Mem.tail _ (List.Mem.tail _ (List.Mem.tail _ (List.Mem.head _)))), rfl, rfl, (fun _ _ h => h)⟩), .inr (.inl ⟨rfl, _, (List.Mem.tail _ (List.Mem.tail _ (List.Mem.tail _ (List.Mem.tail _ (List.Mem.head _))))), rfl, rfl, (fun _ _ h => h)⟩), .inr (.inl ⟨rfl, _, (List.Mem.tail _ (List.Mem.tail _ (List.Mem.tail _ (List.Mem.tail _ (List.Mem.tail _ (List.Mem.head _)))))), rfl, rfl, (fun _ _ h => h)⟩), .inr (.inl ⟨rfl, _, (List.Mem.tail _ (List.Mem.tail _ (List.Mem.tail _ (List.Mem.tail _ (List.Mem.tail _ (List.Mem.tail _ (List.Mem.head _))))))), rfl, rfl, (fun _ _ h => h)⟩), .inr (.inl ⟨rfl, _, (List.Mem.tail _ (List.Mem.tail _ (List.Mem.tail _ (List.Mem.tail _ (List.Mem.tail _ (List.Mem.tail _ (List.Mem.tail _ (List.Mem.head _)))))))), rfl, rfl, (fun _ _ h => h)⟩), .inr (.inl ⟨rfl, _, (List.Mem.tail _ (List.Mem.tail _ (List.Mem.tail _ (List.Mem.tail _ (List.Mem.tail _ (List.Mem.tail _ (List.Mem.tail _ (List.Mem.tail _ (List.Mem.head _))))))))), rfl, rfl, (fun _ _ h => h)⟩), trivial⟩
    ⟨.inr ⟨(by kernel_rfl), _, (List.Mem.tail _ (List.Mem.head _)), rfl, (fun _ _ h => h)⟩, .inr ⟨(by kernel_rfl), _, (List.Mem.tail _ (List.Mem.tail _ (List.Mem.head _))), rfl, (fun _ _ h => h)⟩, .inr ⟨(by kernel_rfl), _, (List.Mem.tail _ (List.Mem.tail _ (List.Mem.tail _ (List.Mem.head _)))), rfl, (fun _ _ h => h)⟩, .inr ⟨(by kernel_rfl), _, (List.Mem.tail _ (List.Mem.tail _ (List.Mem.tail _ (List.Mem.tail _ (List.Mem.head _))))), rfl, (fun _ _ h => h)⟩, .inr ⟨(by kernel_rfl), _, (List.Mem.tail _ (List.Mem.tail _ (List.Mem.tail _ (List.Mem.tail _ (List.Mem.tail _ (List.Mem.head _)))))), rfl, (fun _ _ h => h)⟩, .inl ⟨(by kernel_rfl), rfl, (fun _ _ h => h)⟩, trivial⟩
    (steps (m := 2) (by kernel_rfl) ⟨stepN (i := 0) (dst := some 77) (op := (.call { callee := .value (.func 12), args := #[], argTypes := #[] })) (by kernel_rfl) (call0 (enters_of Tryd.func12 (by kernel_rfl) rfl) (fun w => wakes5 w) (fun _ _ h => h)),
      stepN (i := 1) (dst := some 6) (op := (.assign (.tmp 77))) (by kernel_rfl) (assign (argT (p := (isE (.bool true))) (by kernel_rfl) (fun _ _ h => h)) (fun _ _ h => h)), trivial⟩) ?_
  clear hS kf ac
  try clear w
  intro kf ac w hS
  exact wp_ret (ret_t (q := (isE (.bool true))) (by kernel_rfl) hS (List.Mem.tail _ (List.Mem.tail _ (List.Mem.tail _ (List.Mem.tail _ (List.Mem.tail _ (List.Mem.head _)))))) (fun v h => ⟨v, rfl, (h), hS.grow⟩))
set_option maxRecDepth 100000 in
set_option maxHeartbeats 4000000 in
theorem rules5_1 {w : World} {v0 v1 v2 : Value} {a0 b0 : List Nat} {m0 : Bool} {a1 b1 : List Nat} {m1 : Bool} {a2 b2 : List Nat} {m2 : Bool} (h0 : (isM a0 b0 m0) w v0) (h1 : (isM a1 b1 m1) w v1) (h2 : (isM a2 b2 m2) w v2) (hy : numQ a1 b1 m1 ≠ 0) : Calls Tryd.prog 3 #[v0, v1, v2] w (Ret w fun v w' => (isE (.bool true)) w' v) := by
  refine enter (s := soft) (n := 97) (c := (.seq (.region 0 (regionOps Tryd.f3 0) false) (.seq (.region 1 (regionOps Tryd.f3 1) false) (.seq (.region 2 (regionOps Tryd.f3 2) false) (.seq (.region 3 (regionOps Tryd.f3 3) false) (.seq (.seq (.region 4 (regionOps Tryd.f3 4) true) (.cond (.tmp 73) (.seq (.region 5 (regionOps Tryd.f3 5) false) .ret) .skip)) (.seq (.seq (.region 6 (regionOps Tryd.f3 6) false) (.cond (.tmp 76) (.seq (.region 7 (regionOps Tryd.f3 7) false) .ret) .skip)) (.seq (.region 8 (regionOps Tryd.f3 8) true) (.seq (.region 9 (regionOps Tryd.f3 9) false) .ret))))))))) Tryd.func3 (by kernel_rfl) (by kernel_rfl) (by simp) [(0, (isM a0 b0 m0)), (1, (isM a1 b1 m1)), (2, (isM a2 b2 m2))] ⟨⟨by simp, h0⟩, ⟨by simp, h1⟩, ⟨by simp, h2⟩, trivial⟩ ?_
  intro kf ac hS
  refine plain_seq (m := 4) (by kernel_rfl) ?_
  refine box0 (p := 3) (y := 0) (t := 24) (q := (isM a0 b0 m0)) hS (by kernel_rfl) rfl rfl rfl (List.Mem.head _) shM trivial ⟨(stb_M _ _ _), (stb_M _ _ _), (stb_M _ _ _), trivial⟩ ?_
  clear hS kf ac
  try clear w
  intro kf ac w hS
  refine box0 (p := 4) (y := 1) (t := 24) (q := (isM a1 b1 m1)) hS (by kernel_rfl) rfl rfl rfl (List.Mem.tail _ (List.Mem.head _)) shM ⟨(stb_M _ _ _), trivial⟩ ⟨(stb_M _ _ _), (stb_M _ _ _), (stb_M _ _ _), trivial⟩ ?_
  clear hS kf ac
  try clear w
  intro kf ac w hS
  refine box0 (p := 5) (y := 2) (t := 24) (q := (isM a2 b2 m2)) hS (by kernel_rfl) rfl rfl rfl (List.Mem.tail _ (List.Mem.tail _ (List.Mem.head _))) shM ⟨(stb_M _ _ _), (stb_M _ _ _), trivial⟩ ⟨(stb_M _ _ _), (stb_M _ _ _), (stb_M _ _ _), trivial⟩ ?_
  clear hS kf ac
  try clear w
  intro kf ac w hS
  refine const0 (p := 6) (c := (.bool false)) hS (by kernel_rfl) rfl rfl rfl ?_
  clear hS kf ac
  try clear w
  intro kf ac w hS
  refine plain_end ?_
  refine region_seq (s := soft) (kf0 := kf) (by kernel_rfl) hS (Rg.look [(16, (isM a0 b0 m0)),
      (17, (IsT [(isQ (numQ a0 b0 m0) 5), (isR (numQ a0 b0 m0) 32)])),
      (15, (IsT [(isQ (numQ a0 b0 m0) 5), (isR (numQ a0 b0 m0) 32)])),
      (18, (isQ (numQ a0 b0 m0) 5)),
      (19, (isR (numQ a0 b0 m0) 32)),
      (7, isX),
      (8, isX)])
    ⟨[(5, 7, 30), (6, 8, 35)], [(7, 7, 18, 30), (8, 8, 19, 35)]⟩ [⟨5, 24, (isM a2 b2 m2)⟩, ⟨4, 24, (isM a1 b1 m1)⟩, ⟨3, 24, (isM a0 b0 m0)⟩, ⟨7, 30, (isQ (numQ a0 b0 m0) 5)⟩, ⟨8, 35, (isR (numQ a0 b0 m0) 32)⟩] [(6, (isE (.bool false))), (0, (isM a0 b0 m0)), (1, (isM a1 b1 m1)), (2, (isM a2 b2 m2))] (by kernel_rfl) (by kernel_rfl) (look_stb _ ⟨(stb_M _ _ _), (stb_T ⟨(stb_Q _ _), (stb_R _ _), trivial⟩), (stb_T ⟨(stb_Q _ _), (stb_R _ _), trivial⟩), (stb_Q _ _), (stb_R _ _), stb_true, stb_true, trivial⟩) ⟨(stb_M _ _ _), (stb_M _ _ _), (stb_M _ _ _), trivial⟩ ⟨(stb_eq _), (stb_M _ _ _), (stb_M _ _ _), (stb_M _ _ _), trivial⟩ ⟨fun _ _ => trivial, fun _ _ => trivial, trivial⟩ ⟨shQ, shR, trivial⟩
    ⟨.inr (.inl ⟨rfl, _, (List.Mem.head _), rfl, rfl, (fun _ _ h => h)⟩), .inr (.inl ⟨rfl, _, (List.Mem.tail _ (List.Mem.head _)), rfl, rfl, (fun _ _ h => h)⟩), .inr (.inl ⟨rfl, _, (List.Mem.tail _ (List.Mem.tail _ (List.Mem.head _))), rfl, rfl, (fun _ _ h => h)⟩), .inl ⟨_, (List.Mem.head _), rfl, rfl, (fun _ _ h => h)⟩, .inl ⟨_, (List.Mem.tail _ (List.Mem.head _)), rfl, rfl, (fun _ _ h => h)⟩, trivial⟩
    ⟨.inr ⟨(by kernel_rfl), _, (List.Mem.head _), rfl, (fun _ _ h => h)⟩, .inr ⟨(by kernel_rfl), _, (List.Mem.tail _ (List.Mem.head _)), rfl, (fun _ _ h => h)⟩, .inr ⟨(by kernel_rfl), _, (List.Mem.tail _ (List.Mem.tail _ (List.Mem.head _))), rfl, (fun _ _ h => h)⟩, .inr ⟨(by kernel_rfl), _, (List.Mem.tail _ (List.Mem.tail _ (List.Mem.tail _ (List.Mem.head _)))), rfl, (fun _ _ h => h)⟩, trivial⟩
    (steps (m := 9) (by kernel_rfl) ⟨stepN (i := 0) (dst := some 16) (op := (.load 24 (.tmp 3))) (by kernel_rfl) (loadV (List.Mem.tail _ (List.Mem.tail _ (List.Mem.head _))) (by kernel_rfl) (fun _ _ h => h)),
      stepN (i := 1) (dst := some 17) (op := (.call { callee := .value (.func 6), args := #[(.tmp 16)], argTypes := #[24] })) (by kernel_rfl) (call1 (enters_of Tryd.func6 (by kernel_rfl) rfl) (argT (p := (isM a0 b0 m0)) (by kernel_rfl) (fun _ _ h => h)) (fun w u1 h1 => num_m h1) (fun _ _ h => h)),
      stepN (i := 2) (dst := some 15) (op := (.move (.tmp 17))) (by kernel_rfl) (move (argT (p := (IsT [(isQ (numQ a0 b0 m0) 5), (isR (numQ a0 b0 m0) 32)])) (by kernel_rfl) (fun _ _ h => h)) (fun _ _ h => h)),
      stepN (i := 3) (dst := some 18) (op := (.extract (.tmp 15) 0)) (by kernel_rfl) (extract (by kernel_rfl) (fun _ _ h => h) rfl (fun _ _ h => h)),
      stepN (i := 4) (dst := some 19) (op := (.extract (.tmp 15) 1)) (by kernel_rfl) (extract (by kernel_rfl) (fun _ _ h => h) rfl (fun _ _ h => h)),
      isAlloc rfl,
      isAlloc rfl,
      isStore rfl,
      isStore rfl, trivial⟩) ?_
  clear hS kf ac
  try clear w
  intro kf ac w hS
  refine region_seq (s := soft) (kf0 := kf) (by kernel_rfl) hS (Rg.look [(21, (isM a1 b1 m1)),
      (22, (IsT [(isQ (numQ a1 b1 m1) 5), (isR (numQ a1 b1 m1) 32)])),
      (20, (IsT [(isQ (numQ a1 b1 m1) 5), (isR (numQ a1 b1 m1) 32)])),
      (23, (isQ (numQ a1 b1 m1) 5)),
      (24, (isR (numQ a1 b1 m1) 32)),
      (9, isX),
      (10, isX)])
    ⟨[(5, 9, 30), (6, 10, 35)], [(7, 9, 23, 30), (8, 10, 24, 35)]⟩ [⟨5, 24, (isM a2 b2 m2)⟩, ⟨4, 24, (isM a1 b1 m1)⟩, ⟨3, 24, (isM a0 b0 m0)⟩, ⟨7, 30, (isQ (numQ a0 b0 m0) 5)⟩, ⟨8, 35, (isR (numQ a0 b0 m0) 32)⟩, ⟨9, 30, (isQ (numQ a1 b1 m1) 5)⟩, ⟨10, 35, (isR (numQ a1 b1 m1) 32)⟩] [(6, (isE (.bool false))), (0, (isM a0 b0 m0)), (1, (isM a1 b1 m1)), (2, (isM a2 b2 m2))] (by kernel_rfl) (by kernel_rfl) (look_stb _ ⟨(stb_M _ _ _), (stb_T ⟨(stb_Q _ _), (stb_R _ _), trivial⟩), (stb_T ⟨(stb_Q _ _), (stb_R _ _), trivial⟩), (stb_Q _ _), (stb_R _ _), stb_true, stb_true, trivial⟩) ⟨(stb_M _ _ _), (stb_M _ _ _), (stb_M _ _ _), (stb_Q _ _), (stb_R _ _), trivial⟩ ⟨(stb_eq _), (stb_M _ _ _), (stb_M _ _ _), (stb_M _ _ _), trivial⟩ ⟨fun _ _ => trivial, fun _ _ => trivial, trivial⟩ ⟨shQ, shR, trivial⟩
    ⟨.inr (.inl ⟨rfl, _, (List.Mem.head _), rfl, rfl, (fun _ _ h => h)⟩), .inr (.inl ⟨rfl, _, (List.Mem.tail _ (List.Mem.head _)), rfl, rfl, (fun _ _ h => h)⟩), .inr (.inl ⟨rfl, _, (List.Mem.tail _ (List.Mem.tail _ (List.Mem.head _))), rfl, rfl, (fun _ _ h => h)⟩), .inr (.inl ⟨rfl, _, (List.Mem.tail _ (List.Mem.tail _ (List.Mem.tail _ (List.Mem.head _)))), rfl, rfl, (fun _ _ h => h)⟩), .inr (.inl ⟨rfl, _, (List.Mem.tail _ (List.Mem.tail _ (List.Mem.tail _ (List.Mem.tail _ (List.Mem.head _))))), rfl, rfl, (fun _ _ h => h)⟩), .inl ⟨_, (List.Mem.head _), rfl, rfl, (fun _ _ h => h)⟩, .inl ⟨_, (List.Mem.tail _ (List.Mem.head _)), rfl, rfl, (fun _ _ h => h)⟩, trivial⟩
    ⟨.inr ⟨(by kernel_rfl), _, (List.Mem.head _), rfl, (fun _ _ h => h)⟩, .inr ⟨(by kernel_rfl), _, (List.Mem.tail _ (List.Mem.head _)), rfl, (fun _ _ h => h)⟩, .inr ⟨(by kernel_rfl), _, (List.Mem.tail _ (List.Mem.tail _ (List.Mem.head _))), rfl, (fun _ _ h => h)⟩, .inr ⟨(by kernel_rfl), _, (List.Mem.tail _ (List.Mem.tail _ (List.Mem.tail _ (List.Mem.head _)))), rfl, (fun _ _ h => h)⟩, trivial⟩
    (steps (m := 9) (by kernel_rfl) ⟨stepN (i := 0) (dst := some 21) (op := (.load 24 (.tmp 4))) (by kernel_rfl) (loadV (List.Mem.tail _ (List.Mem.head _)) (by kernel_rfl) (fun _ _ h => h)),
      stepN (i := 1) (dst := some 22) (op := (.call { callee := .value (.func 6), args := #[(.tmp 21)], argTypes := #[24] })) (by kernel_rfl) (call1 (enters_of Tryd.func6 (by kernel_rfl) rfl) (argT (p := (isM a1 b1 m1)) (by kernel_rfl) (fun _ _ h => h)) (fun w u1 h1 => num_m h1) (fun _ _ h => h)),
      stepN (i := 2) (dst := some 20) (op := (.move (.tmp 22))) (by kernel_rfl) (move (argT (p := (IsT [(isQ (numQ a1 b1 m1) 5), (isR (numQ a1 b1 m1) 32)])) (by kernel_rfl) (fun _ _ h => h)) (fun _ _ h => h)),
      stepN (i := 3) (dst := some 23) (op := (.extract (.tmp 20) 0)) (by kernel_rfl) (extract (by kernel_rfl) (fun _ _ h => h) rfl (fun _ _ h => h)),
      stepN (i := 4) (dst := some 24) (op := (.extract (.tmp 20) 1)) (by kernel_rfl) (extract (by kernel_rfl) (fun _ _ h => h) rfl (fun _ _ h => h)),
      isAlloc rfl,
      isAlloc rfl,
      isStore rfl,
      isStore rfl, trivial⟩) ?_
  clear hS kf ac
  try clear w
  intro kf ac w hS
  refine region_seq (s := soft) (kf0 := kf) (by kernel_rfl) hS (Rg.look [(26, (isM a2 b2 m2)),
      (27, (IsT [(isQ (numQ a2 b2 m2) 5), (isR (numQ a2 b2 m2) 32)])),
      (25, (IsT [(isQ (numQ a2 b2 m2) 5), (isR (numQ a2 b2 m2) 32)])),
      (28, (isQ (numQ a2 b2 m2) 5)),
      (29, (isR (numQ a2 b2 m2) 32)),
      (11, isX),
      (12, isX)])
    ⟨[(5, 11, 30), (6, 12, 35)], [(7, 11, 28, 30), (8, 12, 29, 35)]⟩ [⟨5, 24, (isM a2 b2 m2)⟩, ⟨4, 24, (isM a1 b1 m1)⟩, ⟨3, 24, (isM a0 b0 m0)⟩, ⟨7, 30, (isQ (numQ a0 b0 m0) 5)⟩, ⟨8, 35, (isR (numQ a0 b0 m0) 32)⟩, ⟨9, 30, (isQ (numQ a1 b1 m1) 5)⟩, ⟨10, 35, (isR (numQ a1 b1 m1) 32)⟩, ⟨11, 30, (isQ (numQ a2 b2 m2) 5)⟩, ⟨12, 35, (isR (numQ a2 b2 m2) 32)⟩] [(6, (isE (.bool false))), (0, (isM a0 b0 m0)), (1, (isM a1 b1 m1)), (2, (isM a2 b2 m2))] (by kernel_rfl) (by kernel_rfl) (look_stb _ ⟨(stb_M _ _ _), (stb_T ⟨(stb_Q _ _), (stb_R _ _), trivial⟩), (stb_T ⟨(stb_Q _ _), (stb_R _ _), trivial⟩), (stb_Q _ _), (stb_R _ _), stb_true, stb_true, trivial⟩) ⟨(stb_M _ _ _), (stb_M _ _ _), (stb_M _ _ _), (stb_Q _ _), (stb_R _ _), (stb_Q _ _), (stb_R _ _), trivial⟩ ⟨(stb_eq _), (stb_M _ _ _), (stb_M _ _ _), (stb_M _ _ _), trivial⟩ ⟨fun _ _ => trivial, fun _ _ => trivial, trivial⟩ ⟨shQ, shR, trivial⟩
    ⟨.inr (.inl ⟨rfl, _, (List.Mem.head _), rfl, rfl, (fun _ _ h => h)⟩), .inr (.inl ⟨rfl, _, (List.Mem.tail _ (List.Mem.head _)), rfl, rfl, (fun _ _ h => h)⟩), .inr (.inl ⟨rfl, _, (List.Mem.tail _ (List.Mem.tail _ (List.Mem.head _))), rfl, rfl, (fun _ _ h => h)⟩), .inr (.inl ⟨rfl, _, (List.Mem.tail _ (List.Mem.tail _ (List.Mem.tail _ (List.Mem.head _)))), rfl, rfl, (fun _ _ h => h)⟩), .inr (.inl ⟨rfl, _, (List.Mem.tail _ (List.Mem.tail _ (List.Mem.tail _ (List.Mem.tail _ (List.Mem.head _))))), rfl, rfl, (fun _ _ h => h)⟩), .inr (.inl ⟨rfl, _, (List.Mem.tail _ (List.Mem.tail _ (List.Mem.tail _ (List.Mem.tail _ (List.Mem.tail _ (List.Mem.head _)))))), rfl, rfl, (fun _ _ h => h)⟩), .inr (.inl ⟨rfl, _, (List.Mem.tail _ (List.Mem.tail _ (List.Mem.tail _ (List.Mem.tail _ (List.Mem.tail _ (List.Mem.tail _ (List.Mem.head _))))))), rfl, rfl, (fun _ _ h => h)⟩), .inl ⟨_, (List.Mem.head _), rfl, rfl, (fun _ _ h => h)⟩, .inl ⟨_, (List.Mem.tail _ (List.Mem.head _)), rfl, rfl, (fun _ _ h => h)⟩, trivial⟩
    ⟨.inr ⟨(by kernel_rfl), _, (List.Mem.head _), rfl, (fun _ _ h => h)⟩, .inr ⟨(by kernel_rfl), _, (List.Mem.tail _ (List.Mem.head _)), rfl, (fun _ _ h => h)⟩, .inr ⟨(by kernel_rfl), _, (List.Mem.tail _ (List.Mem.tail _ (List.Mem.head _))), rfl, (fun _ _ h => h)⟩, .inr ⟨(by kernel_rfl), _, (List.Mem.tail _ (List.Mem.tail _ (List.Mem.tail _ (List.Mem.head _)))), rfl, (fun _ _ h => h)⟩, trivial⟩
    (steps (m := 9) (by kernel_rfl) ⟨stepN (i := 0) (dst := some 26) (op := (.load 24 (.tmp 5))) (by kernel_rfl) (loadV (List.Mem.head _) (by kernel_rfl) (fun _ _ h => h)),
      stepN (i := 1) (dst := some 27) (op := (.call { callee := .value (.func 6), args := #[(.tmp 26)], argTypes := #[24] })) (by kernel_rfl) (call1 (enters_of Tryd.func6 (by kernel_rfl) rfl) (argT (p := (isM a2 b2 m2)) (by kernel_rfl) (fun _ _ h => h)) (fun w u1 h1 => num_m h1) (fun _ _ h => h)),
      stepN (i := 2) (dst := some 25) (op := (.move (.tmp 27))) (by kernel_rfl) (move (argT (p := (IsT [(isQ (numQ a2 b2 m2) 5), (isR (numQ a2 b2 m2) 32)])) (by kernel_rfl) (fun _ _ h => h)) (fun _ _ h => h)),
      stepN (i := 3) (dst := some 28) (op := (.extract (.tmp 25) 0)) (by kernel_rfl) (extract (by kernel_rfl) (fun _ _ h => h) rfl (fun _ _ h => h)),
      stepN (i := 4) (dst := some 29) (op := (.extract (.tmp 25) 1)) (by kernel_rfl) (extract (by kernel_rfl) (fun _ _ h => h) rfl (fun _ _ h => h)),
      isAlloc rfl,
      isAlloc rfl,
      isStore rfl,
      isStore rfl, trivial⟩) ?_
  clear hS kf ac
  try clear w
  intro kf ac w hS
  refine wp_seq ?_
  refine region_seq (s := soft) (kf0 := kf) (by kernel_rfl) hS (Rg.look [(30, (isQ (numQ a0 b0 m0) 5)),
      (31, (isQ (numQ a1 b1 m1) 5)),
      (32, (isQ ((numQ a0 b0 m0) + (numQ a1 b1 m1)) (5 + 5 + 1))),
      (33, (isQ (numQ a1 b1 m1) 5)),
      (34, (isQ (((numQ a0 b0 m0) + (numQ a1 b1 m1)) - (numQ a1 b1 m1)) ((5 + 5 + 1) + 5 + 1))),
      (35, (isQ (numQ a0 b0 m0) 5)),
      (36, (isE (.int .i64 (cmpQ (((numQ a0 b0 m0) + (numQ a1 b1 m1)) - (numQ a1 b1 m1)) (numQ a0 b0 m0))))),
      (37, (isE (.bool false))),
      (38, (isE (.bool false))),
      (39, (isQ (numQ a0 b0 m0) 5)),
      (40, (isQ (numQ a1 b1 m1) 5)),
      (41, (isQ (numQ a2 b2 m2) 5)),
      (42, (isQ ((numQ a1 b1 m1) + (numQ a2 b2 m2)) (5 + 5 + 1))),
      (43, (isQ ((numQ a0 b0 m0) * ((numQ a1 b1 m1) + (numQ a2 b2 m2))) (5 + (5 + 5 + 1)))),
      (44, (isQ (numQ a0 b0 m0) 5)),
      (45, (isQ (numQ a1 b1 m1) 5)),
      (46, (isQ ((numQ a0 b0 m0) * (numQ a1 b1 m1)) (5 + 5))),
      (47, (isQ (numQ a0 b0 m0) 5)),
      (48, (isQ (numQ a2 b2 m2) 5)),
      (49, (isQ ((numQ a0 b0 m0) * (numQ a2 b2 m2)) (5 + 5))),
      (50, (isQ (((numQ a0 b0 m0) * (numQ a1 b1 m1)) + ((numQ a0 b0 m0) * (numQ a2 b2 m2))) ((5 + 5) + (5 + 5) + 1))),
      (51, (isE (.int .i64 (cmpQ ((numQ a0 b0 m0) * ((numQ a1 b1 m1) + (numQ a2 b2 m2))) (((numQ a0 b0 m0) * (numQ a1 b1 m1)) + ((numQ a0 b0 m0) * (numQ a2 b2 m2))))))),
      (52, (isE (.bool false))),
      (53, (isE (.bool false))),
      (54, (isE (.bool false))),
      (55, (isQ (numQ a0 b0 m0) 5)),
      (56, (isQ (numQ a1 b1 m1) 5)),
      (57, (isQ ((numQ a0 b0 m0) + (numQ a1 b1 m1)) (5 + 5 + 1))),
      (58, (isQ (numQ a1 b1 m1) 5)),
      (59, (isQ (numQ a0 b0 m0) 5)),
      (60, (isQ ((numQ a1 b1 m1) + (numQ a0 b0 m0)) (5 + 5 + 1))),
      (61, (isE (.int .i64 (cmpQ ((numQ a0 b0 m0) + (numQ a1 b1 m1)) ((numQ a1 b1 m1) + (numQ a0 b0 m0)))))),
      (62, (isE (.bool false))),
      (63, (isE (.bool false))),
      (64, (isE (.bool false))),
      (65, (isQ (numQ a0 b0 m0) 5)),
      (66, (isQ (numQ a1 b1 m1) 5)),
      (67, (isQ ((numQ a0 b0 m0) - (numQ a1 b1 m1)) (5 + 5 + 1))),
      (68, (isE (.int .i64 (Int.sign (((numQ a0 b0 m0) - (numQ a1 b1 m1)).num))))),
      (69, (isQ (numQ a0 b0 m0) 5)),
      (70, (isQ (numQ a1 b1 m1) 5)),
      (71, (isE (.int .i64 (cmpQ (numQ a0 b0 m0) (numQ a1 b1 m1))))),
      (72, (isE (.bool false))),
      (73, (isE (.bool false)))])
    ⟨[], []⟩ [⟨5, 24, (isM a2 b2 m2)⟩, ⟨4, 24, (isM a1 b1 m1)⟩, ⟨3, 24, (isM a0 b0 m0)⟩, ⟨7, 30, (isQ (numQ a0 b0 m0) 5)⟩, ⟨8, 35, (isR (numQ a0 b0 m0) 32)⟩, ⟨9, 30, (isQ (numQ a1 b1 m1) 5)⟩, ⟨10, 35, (isR (numQ a1 b1 m1) 32)⟩, ⟨11, 30, (isQ (numQ a2 b2 m2) 5)⟩, ⟨12, 35, (isR (numQ a2 b2 m2) 32)⟩] [(6, (isE (.bool false))), (0, (isM a0 b0 m0)), (1, (isM a1 b1 m1)), (2, (isM a2 b2 m2)), (73, (isE (.bool false)))] (by kernel_rfl) (by kernel_rfl) (look_stb _ ⟨(stb_Q _ _), (stb_Q _ _), (stb_Q _ _), (stb_Q _ _), (stb_Q _ _), (stb_Q _ _), (stb_eq _), (stb_eq _), (stb_eq _), (stb_Q _ _), (stb_Q _ _), (stb_Q _ _), (stb_Q _ _), (stb_Q _ _), (stb_Q _ _), (stb_Q _ _), (stb_Q _ _), (stb_Q _ _), (stb_Q _ _), (stb_Q _ _), (stb_Q _ _), (stb_eq _), (stb_eq _), (stb_eq _), (stb_eq _), (stb_Q _ _), (stb_Q _ _), (stb_Q _ _), (stb_Q _ _), (stb_Q _ _), (stb_Q _ _), (stb_eq _), (stb_eq _), (stb_eq _), (stb_eq _), (stb_Q _ _), (stb_Q _ _), (stb_Q _ _), (stb_eq _), (stb_Q _ _), (stb_Q _ _), (stb_eq _), (stb_eq _), (stb_eq _), trivial⟩) ⟨(stb_M _ _ _), (stb_M _ _ _), (stb_M _ _ _), (stb_Q _ _), (stb_R _ _), (stb_Q _ _), (stb_R _ _), (stb_Q _ _), (stb_R _ _), trivial⟩ ⟨(stb_eq _), (stb_M _ _ _), (stb_M _ _ _), (stb_M _ _ _), trivial⟩ trivial trivial
    ⟨.inr (.inl ⟨rfl, _, (List.Mem.head _), rfl, rfl, (fun _ _ h => h)⟩), .inr (.inl ⟨rfl, _, (List.Mem.tail _ (List.Mem.head _)), rfl, rfl, (fun _ _ h => h)⟩), .inr (.inl ⟨rfl, _, (List.Mem.tail _ (List.Mem.tail _ (List.Mem.head _))), rfl, rfl, (fun _ _ h => h)⟩), .inr (.inl ⟨rfl, _, (List.Mem.tail _ (List.Mem.tail _ (List.Mem.tail _ (List.Mem.head _)))), rfl, rfl, (fun _ _ h => h)⟩), .inr (.inl ⟨rfl, _, (List.Mem.tail _ (List.Mem.tail _ (List.Mem.tail _ (List.Mem.tail _ (List.Mem.head _))))), rfl, rfl, (fun _ _ h => h)⟩), .inr (.inl ⟨rfl, _, (List.Mem.tail _ (List.Mem.tail _ (List.Mem.tail _ (List.Mem.tail _ (List.Mem.tail _ (List.Mem.head _)))))), rfl, rfl, (fun _ _ h => h)⟩), .inr (.inl ⟨rfl, _, (List.Mem.tail _ (List.Mem.tail _ (List.Mem.tail _ (List.Mem.tail _ (List.Mem.tail _ (List.Mem.tail _ (List.Mem.head _))))))), rfl, rfl, (fun _ _ h => h)⟩), .inr (.inl ⟨rfl, _, (List.Mem.tail _ (List.Mem.tail _ (List.Mem.tail _ (List.Mem.tail _ (List.Mem.tail _ (List.Mem.tail _ (List.Mem.tail _ (List.Mem.head _)))))))), rfl, rfl, (fun _ _ h => h)⟩), .inr (.inl ⟨rfl, _, (List.Mem.tail _ (List.Mem.tail _ (List.Mem.tail _ (List.Mem.tail _ (List.Mem.tail _ (List.Mem.tail _ (List.Mem.tail _ (List.Mem.tail _ (List.Mem.head _))))))))), rfl, rfl, (fun _ _ h => h)⟩), trivial⟩
    ⟨.inr ⟨(by kernel_rfl), _, (List.Mem.head _), rfl, (fun _ _ h => h)⟩, .inr ⟨(by kernel_rfl), _, (List.Mem.tail _ (List.Mem.head _)), rfl, (fun _ _ h => h)⟩, .inr ⟨(by kernel_rfl), _, (List.Mem.tail _ (List.Mem.tail _ (List.Mem.head _))), rfl, (fun _ _ h => h)⟩, .inr ⟨(by kernel_rfl), _, (List.Mem.tail _ (List.Mem.tail _ (List.Mem.tail _ (List.Mem.head _)))), rfl, (fun _ _ h => h)⟩, .inl ⟨(by kernel_rfl), rfl, (fun _ _ h => h)⟩, trivial⟩
    (steps (m := 44) (by kernel_rfl) ⟨stepN (i := 0) (dst := some 30) (op := (.load 30 (.tmp 7))) (by kernel_rfl) (loadV (List.Mem.tail _ (List.Mem.tail _ (List.Mem.tail _ (List.Mem.head _)))) (by kernel_rfl) (fun _ _ h => h)),
      stepN (i := 1) (dst := some 31) (op := (.load 30 (.tmp 9))) (by kernel_rfl) (loadV (List.Mem.tail _ (List.Mem.tail _ (List.Mem.tail _ (List.Mem.tail _ (List.Mem.tail _ (List.Mem.head _)))))) (by kernel_rfl) (fun _ _ h => h)),
      stepN (i := 2) (dst := some 32) (op := (.call { callee := .value (.func 7), args := #[(.tmp 30), (.tmp 31)], argTypes := #[30, 30] })) (by kernel_rfl) (call2 (enters_of Tryd.func7 (by kernel_rfl) rfl) (argT (p := (isQ (numQ a0 b0 m0) 5)) (by kernel_rfl) (fun _ _ h => h)) (argT (p := (isQ (numQ a1 b1 m1) 5)) (by kernel_rfl) (fun _ _ h => h)) (fun w u1 u2 h1 h2 => add_q h1 h2 (by omega) (by omega)) (fun _ _ h => h)),
      stepN (i := 3) (dst := some 33) (op := (.load 30 (.tmp 9))) (by kernel_rfl) (loadV (List.Mem.tail _ (List.Mem.tail _ (List.Mem.tail _ (List.Mem.tail _ (List.Mem.tail _ (List.Mem.head _)))))) (by kernel_rfl) (fun _ _ h => h)),
      stepN (i := 4) (dst := some 34) (op := (.call { callee := .value (.func 8), args := #[(.tmp 32), (.tmp 33)], argTypes := #[30, 30] })) (by kernel_rfl) (call2 (enters_of Tryd.func8 (by kernel_rfl) rfl) (argT (p := (isQ ((numQ a0 b0 m0) + (numQ a1 b1 m1)) (5 + 5 + 1))) (by kernel_rfl) (fun _ _ h => h)) (argT (p := (isQ (numQ a1 b1 m1) 5)) (by kernel_rfl) (fun _ _ h => h)) (fun w u1 u2 h1 h2 => sub_q h1 h2 (by omega) (by omega)) (fun _ _ h => h)),
      stepN (i := 5) (dst := some 35) (op := (.load 30 (.tmp 7))) (by kernel_rfl) (loadV (List.Mem.tail _ (List.Mem.tail _ (List.Mem.tail _ (List.Mem.head _)))) (by kernel_rfl) (fun _ _ h => h)),
      stepN (i := 6) (dst := some 36) (op := (.call { callee := .value (.func 9), args := #[(.tmp 34), (.tmp 35)], argTypes := #[30, 30] })) (by kernel_rfl) (call2 (enters_of Tryd.func9 (by kernel_rfl) rfl) (argT (p := (isQ (((numQ a0 b0 m0) + (numQ a1 b1 m1)) - (numQ a1 b1 m1)) ((5 + 5 + 1) + 5 + 1))) (by kernel_rfl) (fun _ _ h => h)) (argT (p := (isQ (numQ a0 b0 m0) 5)) (by kernel_rfl) (fun _ _ h => h)) (fun w u1 u2 h1 h2 => cmp_q h1 h2 (by omega) (by omega)) (fun _ _ h => h)),
      stepN (i := 7) (dst := some 37) (op := (.binOp .neq 3 (.tmp 36) (.const (.int .i64 0)) 3)) (by kernel_rfl) (neq (m := (cmpQ (((numQ a0 b0 m0) + (numQ a1 b1 m1)) - (numQ a1 b1 m1)) (numQ a0 b0 m0))) (n := 0) (argT (p := (isE (.int .i64 (cmpQ (((numQ a0 b0 m0) + (numQ a1 b1 m1)) - (numQ a1 b1 m1)) (numQ a0 b0 m0))))) (by kernel_rfl) (fun _ _ h => h)) (argC (.int .i64 0)) (fun w v h => h.trans (congrArg Value.bool (cmp_ne (by grind))))),
      stepN (i := 8) (dst := some 38) (op := (.move (.tmp 37))) (by kernel_rfl) (move (argT (p := (isE (.bool false))) (by kernel_rfl) (fun _ _ h => h)) (fun _ _ h => h)),
      stepG (i := 9) (j := 8) (dj := 38) (b := false) (dst := some 39) (op := (.load 30 (.tmp 7))) (by kernel_rfl) (by kernel_rfl) (by kernel_rfl) (fun _ _ h => h) (loadV (List.Mem.tail _ (List.Mem.tail _ (List.Mem.tail _ (List.Mem.head _)))) (by kernel_rfl) (fun _ _ h => h)),
      stepG (i := 10) (j := 8) (dj := 38) (b := false) (dst := some 40) (op := (.load 30 (.tmp 9))) (by kernel_rfl) (by kernel_rfl) (by kernel_rfl) (fun _ _ h => h) (loadV (List.Mem.tail _ (List.Mem.tail _ (List.Mem.tail _ (List.Mem.tail _ (List.Mem.tail _ (List.Mem.head _)))))) (by kernel_rfl) (fun _ _ h => h)),
      stepG (i := 11) (j := 8) (dj := 38) (b := false) (dst := some 41) (op := (.load 30 (.tmp 11))) (by kernel_rfl) (by kernel_rfl) (by kernel_rfl) (fun _ _ h => h) (loadV (List.Mem.tail _ (List.Mem.tail _ (List.Mem.tail _ (List.Mem.tail _ (List.Mem.tail _ (List.Mem.tail _ (List.Mem.tail _ (List.Mem.head _)))))))) (by kernel_rfl) (fun _ _ h => h)),
      stepG (i := 12) (j := 8) (dj := 38) (b := false) (dst := some 42) (op := (.call { callee := .value (.func 7), args := #[(.tmp 40), (.tmp 41)], argTypes := #[30, 30] })) (by kernel_rfl) (by kernel_rfl) (by kernel_rfl) (fun _ _ h => h) (call2 (enters_of Tryd.func7 (by kernel_rfl) rfl) (argT (p := (isQ (numQ a1 b1 m1) 5)) (by kernel_rfl) (fun _ _ h => h)) (argT (p := (isQ (numQ a2 b2 m2) 5)) (by kernel_rfl) (fun _ _ h => h)) (fun w u1 u2 h1 h2 => add_q h1 h2 (by omega) (by omega)) (fun _ _ h => h)),
      stepG (i := 13) (j := 8) (dj := 38) (b := false) (dst := some 43) (op := (.call { callee := .value (.func 10), args := #[(.tmp 39), (.tmp 42)], argTypes := #[30, 30] })) (by kernel_rfl) (by kernel_rfl) (by kernel_rfl) (fun _ _ h => h) (call2 (enters_of Tryd.func10 (by kernel_rfl) rfl) (argT (p := (isQ (numQ a0 b0 m0) 5)) (by kernel_rfl) (fun _ _ h => h)) (argT (p := (isQ ((numQ a1 b1 m1) + (numQ a2 b2 m2)) (5 + 5 + 1))) (by kernel_rfl) (fun _ _ h => h)) (fun w u1 u2 h1 h2 => mul_q h1 h2 (by omega) (by omega)) (fun _ _ h => h)),
      stepG (i := 14) (j := 8) (dj := 38) (b := false) (dst := some 44) (op := (.load 30 (.tmp 7))) (by kernel_rfl) (by kernel_rfl) (by kernel_rfl) (fun _ _ h => h) (loadV (List.Mem.tail _ (List.Mem.tail _ (List.Mem.tail _ (List.Mem.head _)))) (by kernel_rfl) (fun _ _ h => h)),
      stepG (i := 15) (j := 8) (dj := 38) (b := false) (dst := some 45) (op := (.load 30 (.tmp 9))) (by kernel_rfl) (by kernel_rfl) (by kernel_rfl) (fun _ _ h => h) (loadV (List.Mem.tail _ (List.Mem.tail _ (List.Mem.tail _ (List.Mem.tail _ (List.Mem.tail _ (List.Mem.head _)))))) (by kernel_rfl) (fun _ _ h => h)),
      stepG (i := 16) (j := 8) (dj := 38) (b := false) (dst := some 46) (op := (.call { callee := .value (.func 10), args := #[(.tmp 44), (.tmp 45)], argTypes := #[30, 30] })) (by kernel_rfl) (by kernel_rfl) (by kernel_rfl) (fun _ _ h => h) (call2 (enters_of Tryd.func10 (by kernel_rfl) rfl) (argT (p := (isQ (numQ a0 b0 m0) 5)) (by kernel_rfl) (fun _ _ h => h)) (argT (p := (isQ (numQ a1 b1 m1) 5)) (by kernel_rfl) (fun _ _ h => h)) (fun w u1 u2 h1 h2 => mul_q h1 h2 (by omega) (by omega)) (fun _ _ h => h)),
      stepG (i := 17) (j := 8) (dj := 38) (b := false) (dst := some 47) (op := (.load 30 (.tmp 7))) (by kernel_rfl) (by kernel_rfl) (by kernel_rfl) (fun _ _ h => h) (loadV (List.Mem.tail _ (List.Mem.tail _ (List.Mem.tail _ (List.Mem.head _)))) (by kernel_rfl) (fun _ _ h => h)),
      stepG (i := 18) (j := 8) (dj := 38) (b := false) (dst := some 48) (op := (.load 30 (.tmp 11))) (by kernel_rfl) (by kernel_rfl) (by kernel_rfl) (fun _ _ h => h) (loadV (List.Mem.tail _ (List.Mem.tail _ (List.Mem.tail _ (List.Mem.tail _ (List.Mem.tail _ (List.Mem.tail _ (List.Mem.tail _ (List.Mem.head _)))))))) (by kernel_rfl) (fun _ _ h => h)),
      stepG (i := 19) (j := 8) (dj := 38) (b := false) (dst := some 49) (op := (.call { callee := .value (.func 10), args := #[(.tmp 47), (.tmp 48)], argTypes := #[30, 30] })) (by kernel_rfl) (by kernel_rfl) (by kernel_rfl) (fun _ _ h => h) (call2 (enters_of Tryd.func10 (by kernel_rfl) rfl) (argT (p := (isQ (numQ a0 b0 m0) 5)) (by kernel_rfl) (fun _ _ h => h)) (argT (p := (isQ (numQ a2 b2 m2) 5)) (by kernel_rfl) (fun _ _ h => h)) (fun w u1 u2 h1 h2 => mul_q h1 h2 (by omega) (by omega)) (fun _ _ h => h)),
      stepG (i := 20) (j := 8) (dj := 38) (b := false) (dst := some 50) (op := (.call { callee := .value (.func 7), args := #[(.tmp 46), (.tmp 49)], argTypes := #[30, 30] })) (by kernel_rfl) (by kernel_rfl) (by kernel_rfl) (fun _ _ h => h) (call2 (enters_of Tryd.func7 (by kernel_rfl) rfl) (argT (p := (isQ ((numQ a0 b0 m0) * (numQ a1 b1 m1)) (5 + 5))) (by kernel_rfl) (fun _ _ h => h)) (argT (p := (isQ ((numQ a0 b0 m0) * (numQ a2 b2 m2)) (5 + 5))) (by kernel_rfl) (fun _ _ h => h)) (fun w u1 u2 h1 h2 => add_q h1 h2 (by omega) (by omega)) (fun _ _ h => h)),
      stepG (i := 21) (j := 8) (dj := 38) (b := false) (dst := some 51) (op := (.call { callee := .value (.func 9), args := #[(.tmp 43), (.tmp 50)], argTypes := #[30, 30] })) (by kernel_rfl) (by kernel_rfl) (by kernel_rfl) (fun _ _ h => h) (call2 (enters_of Tryd.func9 (by kernel_rfl) rfl) (argT (p := (isQ ((numQ a0 b0 m0) * ((numQ a1 b1 m1) + (numQ a2 b2 m2))) (5 + (5 + 5 + 1)))) (by kernel_rfl) (fun _ _ h => h)) (argT (p := (isQ (((numQ a0 b0 m0) * (numQ a1 b1 m1)) + ((numQ a0 b0 m0) * (numQ a2 b2 m2))) ((5 + 5) + (5 + 5) + 1))) (by kernel_rfl) (fun _ _ h => h)) (fun w u1 u2 h1 h2 => cmp_q h1 h2 (by omega) (by omega)) (fun _ _ h => h)),
      stepG (i := 22) (j := 8) (dj := 38) (b := false) (dst := some 52) (op := (.binOp .neq 3 (.tmp 51) (.const (.int .i64 0)) 3)) (by kernel_rfl) (by kernel_rfl) (by kernel_rfl) (fun _ _ h => h) (neq (m := (cmpQ ((numQ a0 b0 m0) * ((numQ a1 b1 m1) + (numQ a2 b2 m2))) (((numQ a0 b0 m0) * (numQ a1 b1 m1)) + ((numQ a0 b0 m0) * (numQ a2 b2 m2))))) (n := 0) (argT (p := (isE (.int .i64 (cmpQ ((numQ a0 b0 m0) * ((numQ a1 b1 m1) + (numQ a2 b2 m2))) (((numQ a0 b0 m0) * (numQ a1 b1 m1)) + ((numQ a0 b0 m0) * (numQ a2 b2 m2))))))) (by kernel_rfl) (fun _ _ h => h)) (argC (.int .i64 0)) (fun w v h => h.trans (congrArg Value.bool (cmp_ne (by grind))))),
      stepN (i := 23) (dst := some 53) (op := (.pick (.tmp 38) (.const (.bool true)) (.tmp 52))) (by kernel_rfl) (pickF (argT (p := (isE (.bool false))) (by kernel_rfl) (fun _ _ h => h)) (argT (p := (isE (.bool false))) (by kernel_rfl) (fun _ _ h => h)) (fun _ _ h => h)),
      stepN (i := 24) (dst := some 54) (op := (.move (.tmp 53))) (by kernel_rfl) (move (argT (p := (isE (.bool false))) (by kernel_rfl) (fun _ _ h => h)) (fun _ _ h => h)),
      stepG (i := 25) (j := 24) (dj := 54) (b := false) (dst := some 55) (op := (.load 30 (.tmp 7))) (by kernel_rfl) (by kernel_rfl) (by kernel_rfl) (fun _ _ h => h) (loadV (List.Mem.tail _ (List.Mem.tail _ (List.Mem.tail _ (List.Mem.head _)))) (by kernel_rfl) (fun _ _ h => h)),
      stepG (i := 26) (j := 24) (dj := 54) (b := false) (dst := some 56) (op := (.load 30 (.tmp 9))) (by kernel_rfl) (by kernel_rfl) (by kernel_rfl) (fun _ _ h => h) (loadV (List.Mem.tail _ (List.Mem.tail _ (List.Mem.tail _ (List.Mem.tail _ (List.Mem.tail _ (List.Mem.head _)))))) (by kernel_rfl) (fun _ _ h => h)),
      stepG (i := 27) (j := 24) (dj := 54) (b := false) (dst := some 57) (op := (.call { callee := .value (.func 7), args := #[(.tmp 55), (.tmp 56)], argTypes := #[30, 30] })) (by kernel_rfl) (by kernel_rfl) (by kernel_rfl) (fun _ _ h => h) (call2 (enters_of Tryd.func7 (by kernel_rfl) rfl) (argT (p := (isQ (numQ a0 b0 m0) 5)) (by kernel_rfl) (fun _ _ h => h)) (argT (p := (isQ (numQ a1 b1 m1) 5)) (by kernel_rfl) (fun _ _ h => h)) (fun w u1 u2 h1 h2 => add_q h1 h2 (by omega) (by omega)) (fun _ _ h => h)),
      stepG (i := 28) (j := 24) (dj := 54) (b := false) (dst := some 58) (op := (.load 30 (.tmp 9))) (by kernel_rfl) (by kernel_rfl) (by kernel_rfl) (fun _ _ h => h) (loadV (List.Mem.tail _ (List.Mem.tail _ (List.Mem.tail _ (List.Mem.tail _ (List.Mem.tail _ (List.Mem.head _)))))) (by kernel_rfl) (fun _ _ h => h)),
      stepG (i := 29) (j := 24) (dj := 54) (b := false) (dst := some 59) (op := (.load 30 (.tmp 7))) (by kernel_rfl) (by kernel_rfl) (by kernel_rfl) (fun _ _ h => h) (loadV (List.Mem.tail _ (List.Mem.tail _ (List.Mem.tail _ (List.Mem.head _)))) (by kernel_rfl) (fun _ _ h => h)),
      stepG (i := 30) (j := 24) (dj := 54) (b := false) (dst := some 60) (op := (.call { callee := .value (.func 7), args := #[(.tmp 58), (.tmp 59)], argTypes := #[30, 30] })) (by kernel_rfl) (by kernel_rfl) (by kernel_rfl) (fun _ _ h => h) (call2 (enters_of Tryd.func7 (by kernel_rfl) rfl) (argT (p := (isQ (numQ a1 b1 m1) 5)) (by kernel_rfl) (fun _ _ h => h)) (argT (p := (isQ (numQ a0 b0 m0) 5)) (by kernel_rfl) (fun _ _ h => h)) (fun w u1 u2 h1 h2 => add_q h1 h2 (by omega) (by omega)) (fun _ _ h => h)),
      stepG (i := 31) (j := 24) (dj := 54) (b := false) (dst := some 61) (op := (.call { callee := .value (.func 9), args := #[(.tmp 57), (.tmp 60)], argTypes := #[30, 30] })) (by kernel_rfl) (by kernel_rfl) (by kernel_rfl) (fun _ _ h => h) (call2 (enters_of Tryd.func9 (by kernel_rfl) rfl) (argT (p := (isQ ((numQ a0 b0 m0) + (numQ a1 b1 m1)) (5 + 5 + 1))) (by kernel_rfl) (fun _ _ h => h)) (argT (p := (isQ ((numQ a1 b1 m1) + (numQ a0 b0 m0)) (5 + 5 + 1))) (by kernel_rfl) (fun _ _ h => h)) (fun w u1 u2 h1 h2 => cmp_q h1 h2 (by omega) (by omega)) (fun _ _ h => h)),
      stepG (i := 32) (j := 24) (dj := 54) (b := false) (dst := some 62) (op := (.binOp .neq 3 (.tmp 61) (.const (.int .i64 0)) 3)) (by kernel_rfl) (by kernel_rfl) (by kernel_rfl) (fun _ _ h => h) (neq (m := (cmpQ ((numQ a0 b0 m0) + (numQ a1 b1 m1)) ((numQ a1 b1 m1) + (numQ a0 b0 m0)))) (n := 0) (argT (p := (isE (.int .i64 (cmpQ ((numQ a0 b0 m0) + (numQ a1 b1 m1)) ((numQ a1 b1 m1) + (numQ a0 b0 m0)))))) (by kernel_rfl) (fun _ _ h => h)) (argC (.int .i64 0)) (fun w v h => h.trans (congrArg Value.bool (cmp_ne (by grind))))),
      stepN (i := 33) (dst := some 63) (op := (.pick (.tmp 54) (.const (.bool true)) (.tmp 62))) (by kernel_rfl) (pickF (argT (p := (isE (.bool false))) (by kernel_rfl) (fun _ _ h => h)) (argT (p := (isE (.bool false))) (by kernel_rfl) (fun _ _ h => h)) (fun _ _ h => h)),
      stepN (i := 34) (dst := some 64) (op := (.move (.tmp 63))) (by kernel_rfl) (move (argT (p := (isE (.bool false))) (by kernel_rfl) (fun _ _ h => h)) (fun _ _ h => h)),
      stepG (i := 35) (j := 34) (dj := 64) (b := false) (dst := some 65) (op := (.load 30 (.tmp 7))) (by kernel_rfl) (by kernel_rfl) (by kernel_rfl) (fun _ _ h => h) (loadV (List.Mem.tail _ (List.Mem.tail _ (List.Mem.tail _ (List.Mem.head _)))) (by kernel_rfl) (fun _ _ h => h)),
      stepG (i := 36) (j := 34) (dj := 64) (b := false) (dst := some 66) (op := (.load 30 (.tmp 9))) (by kernel_rfl) (by kernel_rfl) (by kernel_rfl) (fun _ _ h => h) (loadV (List.Mem.tail _ (List.Mem.tail _ (List.Mem.tail _ (List.Mem.tail _ (List.Mem.tail _ (List.Mem.head _)))))) (by kernel_rfl) (fun _ _ h => h)),
      stepG (i := 37) (j := 34) (dj := 64) (b := false) (dst := some 67) (op := (.call { callee := .value (.func 8), args := #[(.tmp 65), (.tmp 66)], argTypes := #[30, 30] })) (by kernel_rfl) (by kernel_rfl) (by kernel_rfl) (fun _ _ h => h) (call2 (enters_of Tryd.func8 (by kernel_rfl) rfl) (argT (p := (isQ (numQ a0 b0 m0) 5)) (by kernel_rfl) (fun _ _ h => h)) (argT (p := (isQ (numQ a1 b1 m1) 5)) (by kernel_rfl) (fun _ _ h => h)) (fun w u1 u2 h1 h2 => sub_q h1 h2 (by omega) (by omega)) (fun _ _ h => h)),
      stepG (i := 38) (j := 34) (dj := 64) (b := false) (dst := some 68) (op := (.call { callee := .value (.func 11), args := #[(.tmp 67)], argTypes := #[30] })) (by kernel_rfl) (by kernel_rfl) (by kernel_rfl) (fun _ _ h => h) (call1 (enters_of Tryd.func11 (by kernel_rfl) rfl) (argT (p := (isQ ((numQ a0 b0 m0) - (numQ a1 b1 m1)) (5 + 5 + 1))) (by kernel_rfl) (fun _ _ h => h)) (fun w u1 h1 => sign_q h1) (fun _ _ h => h)),
      stepG (i := 39) (j := 34) (dj := 64) (b := false) (dst := some 69) (op := (.load 30 (.tmp 7))) (by kernel_rfl) (by kernel_rfl) (by kernel_rfl) (fun _ _ h => h) (loadV (List.Mem.tail _ (List.Mem.tail _ (List.Mem.tail _ (List.Mem.head _)))) (by kernel_rfl) (fun _ _ h => h)),
      stepG (i := 40) (j := 34) (dj := 64) (b := false) (dst := some 70) (op := (.load 30 (.tmp 9))) (by kernel_rfl) (by kernel_rfl) (by kernel_rfl) (fun _ _ h => h) (loadV (List.Mem.tail _ (List.Mem.tail _ (List.Mem.tail _ (List.Mem.tail _ (List.Mem.tail _ (List.Mem.head _)))))) (by kernel_rfl) (fun _ _ h => h)),
      stepG (i := 41) (j := 34) (dj := 64) (b := false) (dst := some 71) (op := (.call { callee := .value (.func 9), args := #[(.tmp 69), (.tmp 70)], argTypes := #[30, 30] })) (by kernel_rfl) (by kernel_rfl) (by kernel_rfl) (fun _ _ h => h) (call2 (enters_of Tryd.func9 (by kernel_rfl) rfl) (argT (p := (isQ (numQ a0 b0 m0) 5)) (by kernel_rfl) (fun _ _ h => h)) (argT (p := (isQ (numQ a1 b1 m1) 5)) (by kernel_rfl) (fun _ _ h => h)) (fun w u1 u2 h1 h2 => cmp_q h1 h2 (by omega) (by omega)) (fun _ _ h => h)),
      stepG (i := 42) (j := 34) (dj := 64) (b := false) (dst := some 72) (op := (.binOp .neq 3 (.tmp 68) (.tmp 71) 3)) (by kernel_rfl) (by kernel_rfl) (by kernel_rfl) (fun _ _ h => h) (neq (m := (Int.sign (((numQ a0 b0 m0) - (numQ a1 b1 m1)).num))) (n := (cmpQ (numQ a0 b0 m0) (numQ a1 b1 m1))) (argT (p := (isE (.int .i64 (Int.sign (((numQ a0 b0 m0) - (numQ a1 b1 m1)).num))))) (by kernel_rfl) (fun _ _ h => h)) (argT (p := (isE (.int .i64 (cmpQ (numQ a0 b0 m0) (numQ a1 b1 m1))))) (by kernel_rfl) (fun _ _ h => h)) (fun w v h => h.trans (congrArg Value.bool (by rw [sub_sign]; simp)))),
      stepN (i := 43) (dst := some 73) (op := (.pick (.tmp 64) (.const (.bool true)) (.tmp 72))) (by kernel_rfl) (pickF (argT (p := (isE (.bool false))) (by kernel_rfl) (fun _ _ h => h)) (argT (p := (isE (.bool false))) (by kernel_rfl) (fun _ _ h => h)) (fun _ _ h => h)), trivial⟩) ?_
  clear hS kf ac
  try clear w
  intro kf ac w hS
  refine cond_false (q := (isE (.bool false))) hS (List.Mem.tail _ (List.Mem.tail _ (List.Mem.tail _ (List.Mem.tail _ (List.Mem.head _))))) (fun _ _ h => h) ?_
  refine skip_then ?_
  refine wp_seq ?_
  refine region_seq (s := soft) (kf0 := kf) (by kernel_rfl) hS (Rg.look [(74, (isQ (numQ a1 b1 m1) 5)),
      (75, (isE (.int .i64 (Int.sign ((numQ a1 b1 m1).num))))),
      (76, (isE (.bool false)))])
    ⟨[], []⟩ [⟨5, 24, (isM a2 b2 m2)⟩, ⟨4, 24, (isM a1 b1 m1)⟩, ⟨3, 24, (isM a0 b0 m0)⟩, ⟨7, 30, (isQ (numQ a0 b0 m0) 5)⟩, ⟨8, 35, (isR (numQ a0 b0 m0) 32)⟩, ⟨9, 30, (isQ (numQ a1 b1 m1) 5)⟩, ⟨10, 35, (isR (numQ a1 b1 m1) 32)⟩, ⟨11, 30, (isQ (numQ a2 b2 m2) 5)⟩, ⟨12, 35, (isR (numQ a2 b2 m2) 32)⟩] [(6, (isE (.bool false))), (0, (isM a0 b0 m0)), (1, (isM a1 b1 m1)), (2, (isM a2 b2 m2)), (73, (isE (.bool false))), (76, (isE (.bool false)))] (by kernel_rfl) (by kernel_rfl) (look_stb _ ⟨(stb_Q _ _), (stb_eq _), (stb_eq _), trivial⟩) ⟨(stb_M _ _ _), (stb_M _ _ _), (stb_M _ _ _), (stb_Q _ _), (stb_R _ _), (stb_Q _ _), (stb_R _ _), (stb_Q _ _), (stb_R _ _), trivial⟩ ⟨(stb_eq _), (stb_M _ _ _), (stb_M _ _ _), (stb_M _ _ _), (stb_eq _), trivial⟩ trivial trivial
    ⟨.inr (.inl ⟨rfl, _, (List.Mem.head _), rfl, rfl, (fun _ _ h => h)⟩), .inr (.inl ⟨rfl, _, (List.Mem.tail _ (List.Mem.head _)), rfl, rfl, (fun _ _ h => h)⟩), .inr (.inl ⟨rfl, _, (List.Mem.tail _ (List.Mem.tail _ (List.Mem.head _))), rfl, rfl, (fun _ _ h => h)⟩), .inr (.inl ⟨rfl, _, (List.Mem.tail _ (List.Mem.tail _ (List.Mem.tail _ (List.Mem.head _)))), rfl, rfl, (fun _ _ h => h)⟩), .inr (.inl ⟨rfl, _, (List.Mem.tail _ (List.Mem.tail _ (List.Mem.tail _ (List.Mem.tail _ (List.Mem.head _))))), rfl, rfl, (fun _ _ h => h)⟩), .inr (.inl ⟨rfl, _, (List.Mem.tail _ (List.Mem.tail _ (List.Mem.tail _ (List.Mem.tail _ (List.Mem.tail _ (List.Mem.head _)))))), rfl, rfl, (fun _ _ h => h)⟩), .inr (.inl ⟨rfl, _, (List.Mem.tail _ (List.Mem.tail _ (List.Mem.tail _ (List.Mem.tail _ (List.Mem.tail _ (List.Mem.tail _ (List.Mem.head _))))))), rfl, rfl, (fun _ _ h => h)⟩), .inr (.inl ⟨rfl, _, (List.Mem.tail _ (List.Mem.tail _ (List.Mem.tail _ (List.Mem.tail _ (List.Mem.tail _ (List.Mem.tail _ (List.Mem.tail _ (List.Mem.head _)))))))), rfl, rfl, (fun _ _ h => h)⟩), .inr (.inl ⟨rfl, _, (List.Mem.tail _ (List.Mem.tail _ (List.Mem.tail _ (List.Mem.tail _ (List.Mem.tail _ (List.Mem.tail _ (List.Mem.tail _ (List.Mem.tail _ (List.Mem.head _))))))))), rfl, rfl, (fun _ _ h => h)⟩), trivial⟩
    ⟨.inr ⟨(by kernel_rfl), _, (List.Mem.head _), rfl, (fun _ _ h => h)⟩, .inr ⟨(by kernel_rfl), _, (List.Mem.tail _ (List.Mem.head _)), rfl, (fun _ _ h => h)⟩, .inr ⟨(by kernel_rfl), _, (List.Mem.tail _ (List.Mem.tail _ (List.Mem.head _))), rfl, (fun _ _ h => h)⟩, .inr ⟨(by kernel_rfl), _, (List.Mem.tail _ (List.Mem.tail _ (List.Mem.tail _ (List.Mem.head _)))), rfl, (fun _ _ h => h)⟩, .inr ⟨(by kernel_rfl), _, (List.Mem.tail _ (List.Mem.tail _ (List.Mem.tail _ (List.Mem.tail _ (List.Mem.head _))))), rfl, (fun _ _ h => h)⟩, .inl ⟨(by kernel_rfl), rfl, (fun _ _ h => h)⟩, trivial⟩
    (steps (m := 3) (by kernel_rfl) ⟨stepN (i := 0) (dst := some 74) (op := (.load 30 (.tmp 9))) (by kernel_rfl) (loadV (List.Mem.tail _ (List.Mem.tail _ (List.Mem.tail _ (List.Mem.tail _ (List.Mem.tail _ (List.Mem.head _)))))) (by kernel_rfl) (fun _ _ h => h)),
      stepN (i := 1) (dst := some 75) (op := (.call { callee := .value (.func 11), args := #[(.tmp 74)], argTypes := #[30] })) (by kernel_rfl) (call1 (enters_of Tryd.func11 (by kernel_rfl) rfl) (argT (p := (isQ (numQ a1 b1 m1) 5)) (by kernel_rfl) (fun _ _ h => h)) (fun w u1 h1 => sign_q h1) (fun _ _ h => h)),
      stepN (i := 2) (dst := some 76) (op := (.binOp .eql 3 (.tmp 75) (.const (.int .i64 0)) 3)) (by kernel_rfl) (eql (m := (Int.sign ((numQ a1 b1 m1).num))) (n := 0) (argT (p := (isE (.int .i64 (Int.sign ((numQ a1 b1 m1).num))))) (by kernel_rfl) (fun _ _ h => h)) (argC (.int .i64 0)) (fun w v h => h.trans (congrArg Value.bool (sign_ne hy)))), trivial⟩) ?_
  clear hS kf ac
  try clear w
  intro kf ac w hS
  refine cond_false (q := (isE (.bool false))) hS (List.Mem.tail _ (List.Mem.tail _ (List.Mem.tail _ (List.Mem.tail _ (List.Mem.tail _ (List.Mem.head _)))))) (fun _ _ h => h) ?_
  refine skip_then ?_
  refine region_seq (s := soft) (kf0 := kf) (by kernel_rfl) hS (Rg.look [(79, (isQ (numQ a0 b0 m0) 5)),
      (80, (isQ (numQ a1 b1 m1) 5)),
      (81, (isQ ((numQ a0 b0 m0) * (numQ a1 b1 m1)) (5 + 5))),
      (82, (isQ (numQ a1 b1 m1) 5)),
      (83, (IsT [(isQ (((numQ a0 b0 m0) * (numQ a1 b1 m1)) / (numQ a1 b1 m1)) ((5 + 5) + 5)), (isE (.int .i64 0))])),
      (78, (IsT [(isQ (((numQ a0 b0 m0) * (numQ a1 b1 m1)) / (numQ a1 b1 m1)) ((5 + 5) + 5)), (isE (.int .i64 0))])),
      (84, (isQ (((numQ a0 b0 m0) * (numQ a1 b1 m1)) / (numQ a1 b1 m1)) ((5 + 5) + 5))),
      (85, (isE (.int .i64 0))),
      (13, isX),
      (14, (isE (.int .i64 0)))])
    ⟨[(8, 13, 30)], [(9, 13, 84, 30)]⟩ [⟨5, 24, (isM a2 b2 m2)⟩, ⟨4, 24, (isM a1 b1 m1)⟩, ⟨3, 24, (isM a0 b0 m0)⟩, ⟨7, 30, (isQ (numQ a0 b0 m0) 5)⟩, ⟨8, 35, (isR (numQ a0 b0 m0) 32)⟩, ⟨9, 30, (isQ (numQ a1 b1 m1) 5)⟩, ⟨10, 35, (isR (numQ a1 b1 m1) 32)⟩, ⟨11, 30, (isQ (numQ a2 b2 m2) 5)⟩, ⟨12, 35, (isR (numQ a2 b2 m2) 32)⟩, ⟨13, 30, (isQ (((numQ a0 b0 m0) * (numQ a1 b1 m1)) / (numQ a1 b1 m1)) ((5 + 5) + 5))⟩] [(6, (isE (.bool false))), (0, (isM a0 b0 m0)), (1, (isM a1 b1 m1)), (2, (isM a2 b2 m2)), (73, (isE (.bool false))), (76, (isE (.bool false))), (14, (isE (.int .i64 0)))] (by kernel_rfl) (by kernel_rfl) (look_stb _ ⟨(stb_Q _ _), (stb_Q _ _), (stb_Q _ _), (stb_Q _ _), (stb_T ⟨(stb_Q _ _), (stb_eq _), trivial⟩), (stb_T ⟨(stb_Q _ _), (stb_eq _), trivial⟩), (stb_Q _ _), (stb_eq _), stb_true, (stb_eq _), trivial⟩) ⟨(stb_M _ _ _), (stb_M _ _ _), (stb_M _ _ _), (stb_Q _ _), (stb_R _ _), (stb_Q _ _), (stb_R _ _), (stb_Q _ _), (stb_R _ _), trivial⟩ ⟨(stb_eq _), (stb_M _ _ _), (stb_M _ _ _), (stb_M _ _ _), (stb_eq _), (stb_eq _), trivial⟩ ⟨fun _ _ => trivial, trivial⟩ ⟨shQ, trivial⟩
    ⟨.inr (.inl ⟨rfl, _, (List.Mem.head _), rfl, rfl, (fun _ _ h => h)⟩), .inr (.inl ⟨rfl, _, (List.Mem.tail _ (List.Mem.head _)), rfl, rfl, (fun _ _ h => h)⟩), .inr (.inl ⟨rfl, _, (List.Mem.tail _ (List.Mem.tail _ (List.Mem.head _))), rfl, rfl, (fun _ _ h => h)⟩), .inr (.inl ⟨rfl, _, (List.Mem.tail _ (List.Mem.tail _ (List.Mem.tail _ (List.Mem.head _)))), rfl, rfl, (fun _ _ h => h)⟩), .inr (.inl ⟨rfl, _, (List.Mem.tail _ (List.Mem.tail _ (List.Mem.tail _ (List.Mem.tail _ (List.Mem.head _))))), rfl, rfl, (fun _ _ h => h)⟩), .inr (.inl ⟨rfl, _, (List.Mem.tail _ (List.Mem.tail _ (List.Mem.tail _ (List.Mem.tail _ (List.Mem.tail _ (List.Mem.head _)))))), rfl, rfl, (fun _ _ h => h)⟩), .inr (.inl ⟨rfl, _, (List.Mem.tail _ (List.Mem.tail _ (List.Mem.tail _ (List.Mem.tail _ (List.Mem.tail _ (List.Mem.tail _ (List.Mem.head _))))))), rfl, rfl, (fun _ _ h => h)⟩), .inr (.inl ⟨rfl, _, (List.Mem.tail _ (List.Mem.tail _ (List.Mem.tail _ (List.Mem.tail _ (List.Mem.tail _ (List.Mem.tail _ (List.Mem.tail _ (List.Mem.head _)))))))), rfl, rfl, (fun _ _ h => h)⟩), .inr (.inl ⟨rfl, _, (List.Mem.tail _ (List.Mem.tail _ (List.Mem.tail _ (List.Mem.tail _ (List.Mem.tail _ (List.Mem.tail _ (List.Mem.tail _ (List.Mem.tail _ (List.Mem.head _))))))))), rfl, rfl, (fun _ _ h => h)⟩), .inl ⟨_, (List.Mem.head _), rfl, rfl, (fun _ _ h => h)⟩, trivial⟩
    ⟨.inr ⟨(by kernel_rfl), _, (List.Mem.head _), rfl, (fun _ _ h => h)⟩, .inr ⟨(by kernel_rfl), _, (List.Mem.tail _ (List.Mem.head _)), rfl, (fun _ _ h => h)⟩, .inr ⟨(by kernel_rfl), _, (List.Mem.tail _ (List.Mem.tail _ (List.Mem.head _))), rfl, (fun _ _ h => h)⟩, .inr ⟨(by kernel_rfl), _, (List.Mem.tail _ (List.Mem.tail _ (List.Mem.tail _ (List.Mem.head _)))), rfl, (fun _ _ h => h)⟩, .inr ⟨(by kernel_rfl), _, (List.Mem.tail _ (List.Mem.tail _ (List.Mem.tail _ (List.Mem.tail _ (List.Mem.head _))))), rfl, (fun _ _ h => h)⟩, .inr ⟨(by kernel_rfl), _, (List.Mem.tail _ (List.Mem.tail _ (List.Mem.tail _ (List.Mem.tail _ (List.Mem.tail _ (List.Mem.head _)))))), rfl, (fun _ _ h => h)⟩, .inl ⟨(by kernel_rfl), rfl, (fun _ _ h => h)⟩, trivial⟩
    (steps (m := 11) (by kernel_rfl) ⟨stepN (i := 0) (dst := some 79) (op := (.load 30 (.tmp 7))) (by kernel_rfl) (loadV (List.Mem.tail _ (List.Mem.tail _ (List.Mem.tail _ (List.Mem.head _)))) (by kernel_rfl) (fun _ _ h => h)),
      stepN (i := 1) (dst := some 80) (op := (.load 30 (.tmp 9))) (by kernel_rfl) (loadV (List.Mem.tail _ (List.Mem.tail _ (List.Mem.tail _ (List.Mem.tail _ (List.Mem.tail _ (List.Mem.head _)))))) (by kernel_rfl) (fun _ _ h => h)),
      stepN (i := 2) (dst := some 81) (op := (.call { callee := .value (.func 10), args := #[(.tmp 79), (.tmp 80)], argTypes := #[30, 30] })) (by kernel_rfl) (call2 (enters_of Tryd.func10 (by kernel_rfl) rfl) (argT (p := (isQ (numQ a0 b0 m0) 5)) (by kernel_rfl) (fun _ _ h => h)) (argT (p := (isQ (numQ a1 b1 m1) 5)) (by kernel_rfl) (fun _ _ h => h)) (fun w u1 u2 h1 h2 => mul_q h1 h2 (by omega) (by omega)) (fun _ _ h => h)),
      stepN (i := 3) (dst := some 82) (op := (.load 30 (.tmp 9))) (by kernel_rfl) (loadV (List.Mem.tail _ (List.Mem.tail _ (List.Mem.tail _ (List.Mem.tail _ (List.Mem.tail _ (List.Mem.head _)))))) (by kernel_rfl) (fun _ _ h => h)),
      stepN (i := 4) (dst := some 83) (op := (.call { callee := .value (.func 13), args := #[(.tmp 81), (.tmp 82)], argTypes := #[30, 30] })) (by kernel_rfl) (call2 (enters_of Tryd.func13 (by kernel_rfl) rfl) (argT (p := (isQ ((numQ a0 b0 m0) * (numQ a1 b1 m1)) (5 + 5))) (by kernel_rfl) (fun _ _ h => h)) (argT (p := (isQ (numQ a1 b1 m1) 5)) (by kernel_rfl) (fun _ _ h => h)) (fun w u1 u2 h1 h2 => quo_q h1 h2 (by omega) (by omega) hy) (fun _ _ h => h)),
      stepN (i := 5) (dst := some 78) (op := (.move (.tmp 83))) (by kernel_rfl) (move (argT (p := (IsT [(isQ (((numQ a0 b0 m0) * (numQ a1 b1 m1)) / (numQ a1 b1 m1)) ((5 + 5) + 5)), (isE (.int .i64 0))])) (by kernel_rfl) (fun _ _ h => h)) (fun _ _ h => h)),
      stepN (i := 6) (dst := some 84) (op := (.extract (.tmp 78) 0)) (by kernel_rfl) (extract (by kernel_rfl) (fun _ _ h => h) rfl (fun _ _ h => h)),
      stepN (i := 7) (dst := some 85) (op := (.extract (.tmp 78) 1)) (by kernel_rfl) (extract (by kernel_rfl) (fun _ _ h => h) rfl (fun _ _ h => h)),
      isAlloc rfl,
      isStore rfl,
      stepN (i := 10) (dst := some 14) (op := (.assign (.tmp 85))) (by kernel_rfl) (assign (argT (p := (isE (.int .i64 0))) (by kernel_rfl) (fun _ _ h => h)) (fun _ _ h => h)), trivial⟩) ?_
  clear hS kf ac
  try clear w
  intro kf ac w hS
  refine region_seq (s := soft) (kf0 := kf) (by kernel_rfl) hS (Rg.look [(86, (isE (.bool true))),
      (87, (isE (.bool true))),
      (88, (isE (.int .i64 0))),
      (89, (isE (.bool true))),
      (90, (isE (.bool true))),
      (91, (isE (.bool true))),
      (92, (isQ (((numQ a0 b0 m0) * (numQ a1 b1 m1)) / (numQ a1 b1 m1)) ((5 + 5) + 5))),
      (93, (isQ (numQ a0 b0 m0) 5)),
      (94, (isE (.int .i64 (cmpQ (((numQ a0 b0 m0) * (numQ a1 b1 m1)) / (numQ a1 b1 m1)) (numQ a0 b0 m0))))),
      (95, (isE (.bool true))),
      (96, (isE (.bool true))),
      (6, (isE (.bool true)))])
    ⟨[], []⟩ [⟨5, 24, (isM a2 b2 m2)⟩, ⟨4, 24, (isM a1 b1 m1)⟩, ⟨3, 24, (isM a0 b0 m0)⟩, ⟨7, 30, (isQ (numQ a0 b0 m0) 5)⟩, ⟨8, 35, (isR (numQ a0 b0 m0) 32)⟩, ⟨9, 30, (isQ (numQ a1 b1 m1) 5)⟩, ⟨10, 35, (isR (numQ a1 b1 m1) 32)⟩, ⟨11, 30, (isQ (numQ a2 b2 m2) 5)⟩, ⟨12, 35, (isR (numQ a2 b2 m2) 32)⟩, ⟨13, 30, (isQ (((numQ a0 b0 m0) * (numQ a1 b1 m1)) / (numQ a1 b1 m1)) ((5 + 5) + 5))⟩] [(0, (isM a0 b0 m0)), (1, (isM a1 b1 m1)), (2, (isM a2 b2 m2)), (73, (isE (.bool false))), (76, (isE (.bool false))), (14, (isE (.int .i64 0))), (6, (isE (.bool true)))] (by kernel_rfl) (by kernel_rfl) (look_stb _ ⟨(stb_eq _), (stb_eq _), (stb_eq _), (stb_eq _), (stb_eq _), (stb_eq _), (stb_Q _ _), (stb_Q _ _), (stb_eq _), (stb_eq _), (stb_eq _), (stb_eq _), trivial⟩) ⟨(stb_M _ _ _), (stb_M _ _ _), (stb_M _ _ _), (stb_Q _ _), (stb_R _ _), (stb_Q _ _), (stb_R _ _), (stb_Q _ _), (stb_R _ _), (stb_Q _ _), trivial⟩ ⟨(stb_eq _), (stb_M _ _ _), (stb_M _ _ _), (stb_M _ _ _), (stb_eq _), (stb_eq _), (stb_eq _), trivial⟩ trivial trivial
    ⟨.inr (.inl ⟨rfl, _, (List.Mem.head _), rfl, rfl, (fun _ _ h => h)⟩), .inr (.inl ⟨rfl, _, (List.Mem.tail _ (List.Mem.head _)), rfl, rfl, (fun _ _ h => h)⟩), .inr (.inl ⟨rfl, _, (List.Mem.tail _ (List.Mem.tail _ (List.Mem.head _))), rfl, rfl, (fun _ _ h => h)⟩), .inr (.inl ⟨rfl, _, (List.Mem.tail _ (List.Mem.tail _ (List.Mem.tail _ (List.Mem.head _)))), rfl, rfl, (fun _ _ h => h)⟩), .inr (.inl ⟨rfl, _, (List.Mem.tail _ (List.Mem.tail _ (List.Mem.tail _ (List.Mem.tail _ (List.Mem.head _))))), rfl, rfl, (fun _ _ h => h)⟩), .inr (.inl ⟨rfl, _, (List.Mem.tail _ (List.Mem.tail _ (List.Mem.tail _ (List.Mem.tail _ (List.Mem.tail _ (List.Mem.head _)))))), rfl, rfl, (fun _ _ h => h)⟩), .inr (.inl ⟨rfl, _, (List.Mem.tail _ (List.Mem.tail _ (List.Mem.tail _ (List.Mem.tail _ (List.Mem.tail _ (List.Mem.tail _ (List.Mem.head _))))))), rfl, rfl, (fun _ _ h => h)⟩), .inr (.inl ⟨rfl, _, (List.Mem.tail _ (List.Mem.tail _ (List.Mem.tail _ (List.Mem.tail _ (List.Mem.tail _ (List.Mem.tail _ (List.Mem.tail _ (List.Mem.head _)))))))), rfl, rfl, (fun _ _ h => h)⟩), .inr (.inl ⟨rfl, _, (List.Mem.tail _ (List.Mem.tail _ (List.Mem.tail _ (List.Mem.tail _ (List.Mem.tail _ (List.Mem.tail _ (List.Mem.tail _ (List.Mem.tail _ (List.Mem.head _))))))))), rfl, rfl, (fun _ _ h => h)⟩), .inr (.inl ⟨rfl, _, (List.Mem.tail _ (List.Mem.tail _ (List.Mem.tail _ (List.Mem.tail _ (List.Mem.tail _ (List.Mem.tail _ (List.Mem.tail _ (List.Mem.tail _ (List.Mem.tail _ (List.Mem.head _)))))))))), rfl, rfl, (fun _ _ h => h)⟩), trivial⟩
    ⟨.inr ⟨(by kernel_rfl), _, (List.Mem.tail _ (List.Mem.head _)), rfl, (fun _ _ h => h)⟩, .inr ⟨(by kernel_rfl), _, (List.Mem.tail _ (List.Mem.tail _ (List.Mem.head _))), rfl, (fun _ _ h => h)⟩, .inr ⟨(by kernel_rfl), _, (List.Mem.tail _ (List.Mem.tail _ (List.Mem.tail _ (List.Mem.head _)))), rfl, (fun _ _ h => h)⟩, .inr ⟨(by kernel_rfl), _, (List.Mem.tail _ (List.Mem.tail _ (List.Mem.tail _ (List.Mem.tail _ (List.Mem.head _))))), rfl, (fun _ _ h => h)⟩, .inr ⟨(by kernel_rfl), _, (List.Mem.tail _ (List.Mem.tail _ (List.Mem.tail _ (List.Mem.tail _ (List.Mem.tail _ (List.Mem.head _)))))), rfl, (fun _ _ h => h)⟩, .inr ⟨(by kernel_rfl), _, (List.Mem.tail _ (List.Mem.tail _ (List.Mem.tail _ (List.Mem.tail _ (List.Mem.tail _ (List.Mem.tail _ (List.Mem.head _))))))), rfl, (fun _ _ h => h)⟩, .inl ⟨(by kernel_rfl), rfl, (fun _ _ h => h)⟩, trivial⟩
    (steps (m := 12) (by kernel_rfl) ⟨stepN (i := 0) (dst := some 86) (op := (.call { callee := .value (.func 12), args := #[], argTypes := #[] })) (by kernel_rfl) (call0 (enters_of Tryd.func12 (by kernel_rfl) rfl) (fun w => wakes5 w) (fun _ _ h => h)),
      stepN (i := 1) (dst := some 87) (op := (.move (.tmp 86))) (by kernel_rfl) (move (argT (p := (isE (.bool true))) (by kernel_rfl) (fun _ _ h => h)) (fun _ _ h => h)),
      stepG (i := 2) (j := 1) (dj := 87) (b := true) (dst := some 88) (op := (.move (.tmp 14))) (by kernel_rfl) (by kernel_rfl) (by kernel_rfl) (fun _ _ h => h) (move (argO (p := (isE (.int .i64 0))) (List.Mem.tail _ (List.Mem.tail _ (List.Mem.tail _ (List.Mem.tail _ (List.Mem.tail _ (List.Mem.tail _ (List.Mem.head _))))))) (by kernel_rfl)) (fun _ _ h => h)),
      stepG (i := 3) (j := 1) (dj := 87) (b := true) (dst := some 89) (op := (.binOp .eql 42 (.tmp 88) (.const (.int .i64 0)) 42)) (by kernel_rfl) (by kernel_rfl) (by kernel_rfl) (fun _ _ h => h) (eql (m := 0) (n := 0) (argT (p := (isE (.int .i64 0))) (by kernel_rfl) (fun _ _ h => h)) (argC (.int .i64 0)) (fun w v h => h.trans (congrArg Value.bool (rfl)))),
      stepN (i := 4) (dst := some 90) (op := (.pick (.tmp 87) (.tmp 89) (.const (.bool false)))) (by kernel_rfl) (pickT (argT (p := (isE (.bool true))) (by kernel_rfl) (fun _ _ h => h)) (argT (p := (isE (.bool true))) (by kernel_rfl) (fun _ _ h => h)) (fun _ _ h => h)),
      stepN (i := 5) (dst := some 91) (op := (.move (.tmp 90))) (by kernel_rfl) (move (argT (p := (isE (.bool true))) (by kernel_rfl) (fun _ _ h => h)) (fun _ _ h => h)),
      stepG (i := 6) (j := 5) (dj := 91) (b := true) (dst := some 92) (op := (.load 30 (.tmp 13))) (by kernel_rfl) (by kernel_rfl) (by kernel_rfl) (fun _ _ h => h) (loadV (List.Mem.tail _ (List.Mem.tail _ (List.Mem.tail _ (List.Mem.tail _ (List.Mem.tail _ (List.Mem.tail _ (List.Mem.tail _ (List.Mem.tail _ (List.Mem.tail _ (List.Mem.head _)))))))))) (by kernel_rfl) (fun _ _ h => h)),
      stepG (i := 7) (j := 5) (dj := 91) (b := true) (dst := some 93) (op := (.load 30 (.tmp 7))) (by kernel_rfl) (by kernel_rfl) (by kernel_rfl) (fun _ _ h => h) (loadV (List.Mem.tail _ (List.Mem.tail _ (List.Mem.tail _ (List.Mem.head _)))) (by kernel_rfl) (fun _ _ h => h)),
      stepG (i := 8) (j := 5) (dj := 91) (b := true) (dst := some 94) (op := (.call { callee := .value (.func 9), args := #[(.tmp 92), (.tmp 93)], argTypes := #[30, 30] })) (by kernel_rfl) (by kernel_rfl) (by kernel_rfl) (fun _ _ h => h) (call2 (enters_of Tryd.func9 (by kernel_rfl) rfl) (argT (p := (isQ (((numQ a0 b0 m0) * (numQ a1 b1 m1)) / (numQ a1 b1 m1)) ((5 + 5) + 5))) (by kernel_rfl) (fun _ _ h => h)) (argT (p := (isQ (numQ a0 b0 m0) 5)) (by kernel_rfl) (fun _ _ h => h)) (fun w u1 u2 h1 h2 => cmp_q h1 h2 (by omega) (by omega)) (fun _ _ h => h)),
      stepG (i := 9) (j := 5) (dj := 91) (b := true) (dst := some 95) (op := (.binOp .eql 3 (.tmp 94) (.const (.int .i64 0)) 3)) (by kernel_rfl) (by kernel_rfl) (by kernel_rfl) (fun _ _ h => h) (eql (m := (cmpQ (((numQ a0 b0 m0) * (numQ a1 b1 m1)) / (numQ a1 b1 m1)) (numQ a0 b0 m0))) (n := 0) (argT (p := (isE (.int .i64 (cmpQ (((numQ a0 b0 m0) * (numQ a1 b1 m1)) / (numQ a1 b1 m1)) (numQ a0 b0 m0))))) (by kernel_rfl) (fun _ _ h => h)) (argC (.int .i64 0)) (fun w v h => h.trans (congrArg Value.bool (cmp_id (Rat.mul_div_cancel hy))))),
      stepN (i := 10) (dst := some 96) (op := (.pick (.tmp 91) (.tmp 95) (.const (.bool false)))) (by kernel_rfl) (pickT (argT (p := (isE (.bool true))) (by kernel_rfl) (fun _ _ h => h)) (argT (p := (isE (.bool true))) (by kernel_rfl) (fun _ _ h => h)) (fun _ _ h => h)),
      stepN (i := 11) (dst := some 6) (op := (.assign (.tmp 96))) (by kernel_rfl) (assign (argT (p := (isE (.bool true))) (by kernel_rfl) (fun _ _ h => h)) (fun _ _ h => h)), trivial⟩) ?_
  clear hS kf ac
  try clear w
  intro kf ac w hS
  exact wp_ret (ret_t (q := (isE (.bool true))) (by kernel_rfl) hS (List.Mem.tail _ (List.Mem.tail _ (List.Mem.tail _ (List.Mem.tail _ (List.Mem.tail _ (List.Mem.tail _ (List.Mem.head _))))))) (fun v h => ⟨v, rfl, (h), hS.grow⟩))
theorem rules5 {w : World} {v0 v1 v2 : Value} {a0 b0 : List Nat} {m0 : Bool} {a1 b1 : List Nat} {m1 : Bool} {a2 b2 : List Nat} {m2 : Bool} (h0 : isM a0 b0 m0 w v0) (h1 : isM a1 b1 m1 w v1) (h2 : isM a2 b2 m2 w v2) : Calls Tryd.prog 3 #[v0, v1, v2] w (Ret w fun v w' => isE (.bool true) w' v) := by
  by_cases hy : numQ a1 b1 m1 = 0
  · exact rules5_0 h0 h1 h2 hy
  · exact rules5_1 h0 h1 h2 hy
end Go.Proofs.YtlkiikchjeapfaaDoor.Z
