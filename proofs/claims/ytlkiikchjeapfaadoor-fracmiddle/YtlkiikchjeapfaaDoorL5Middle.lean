/- The law FracMiddle. Written by a script (tools/laws). -/
import Derived.Test.YtlkiikchjeapfaaDoorFrH
namespace Go.Proofs.YtlkiikchjeapfaaDoor.Z
open Go.RowKit Go.Proofs.YtlkiikchjeapfaaDoor.Rg
set_option maxRecDepth 100000 in
set_option maxHeartbeats 4000000 in
theorem middle5 {w : World} {v0 v1 v2 : Value} {a0 b0 : List Nat} {m0 : Bool} {a1 b1 : List Nat} {m1 : Bool} {a2 b2 : List Nat} {m2 : Bool} (h0 : (isM a0 b0 m0) w v0) (h1 : (isM a1 b1 m1) w v1) (h2 : (isM a2 b2 m2) w v2)  : Calls Tryd.prog 5 #[v0, v1, v2] w (Ret w fun v w' => (isE (.bool true)) w' v) := by
  refine enter (s := soft) (n := 90) (c := (.seq (.region 0 (regionOps Tryd.f5 0) false) (.seq (.region 1 (regionOps Tryd.f5 1) false) (.seq (.region 2 (regionOps Tryd.f5 2) false) (.seq (.region 3 (regionOps Tryd.f5 3) false) (.seq (.region 4 (regionOps Tryd.f5 4) false) (.seq (.region 5 (regionOps Tryd.f5 5) false) (.seq (.region 6 (regionOps Tryd.f5 6) true) .ret)))))))) Tryd.func5 (by kernel_rfl) (by kernel_rfl) (by simp) [(0, (isM a0 b0 m0)), (1, (isM a1 b1 m1)), (2, (isM a2 b2 m2))] ⟨⟨by simp, h0⟩, ⟨by simp, h1⟩, ⟨by simp, h2⟩, trivial⟩ ?_
  intro kf ac hS
  refine plain_seq (m := 4) (by kernel_rfl) ?_
  refine box0 (p := 3) (y := 0) (t := 24) (q := (isM a0 b0 m0)) hS (by kernel_rfl) rfl rfl rfl (List.Mem.head _) shM trivial ⟨(stb_M _ _ _), (stb_M _ _ _), (stb_M _ _ _), trivial⟩ ?_
  clear hS kf ac
  try clear w
  intro kf ac w hS
  refine box0 (p := 4) (y := 1) (t := 24) (q := (isM a1 b1 m1)) hS (by kernel_rfl) rfl rfl rfl (List.Mem.tail _ (List.Mem.head _)) shM ⟨(stb_M _ _ _), trivial⟩ ⟨(stb_M _ _ _), (stb_M _ _ _), (stb_M _ _ _), trivial⟩ ?_
  clear hS kf ac
  try clear w
  intro kf ac w hS
  refine box0 (p := 5) (y := 2) (t := 24) (q := (isM a2 b2 m2)) hS (by kernel_rfl) rfl rfl rfl (List.Mem.tail _ (List.Mem.tail _ (List.Mem.head _))) shM ⟨(stb_M _ _ _), (stb_M _ _ _), trivial⟩ ⟨(stb_M _ _ _), (stb_M _ _ _), (stb_M _ _ _), trivial⟩ ?_
  clear hS kf ac
  try clear w
  intro kf ac w hS
  refine const0 (p := 6) (c := (.bool false)) hS (by kernel_rfl) rfl rfl rfl ?_
  clear hS kf ac
  try clear w
  intro kf ac w hS
  refine plain_end ?_
  refine region_seq (s := soft) (kf0 := kf) (by kernel_rfl) hS (Rg.look [(17, (isM a0 b0 m0)),
      (18, (IsT [(isQ (numQ a0 b0 m0) 5), (isR (numQ a0 b0 m0) 32)])),
      (16, (IsT [(isQ (numQ a0 b0 m0) 5), (isR (numQ a0 b0 m0) 32)])),
      (19, (isQ (numQ a0 b0 m0) 5)),
      (20, (isR (numQ a0 b0 m0) 32)),
      (7, isX),
      (8, isX)])
    ⟨[(5, 7, 30), (6, 8, 35)], [(7, 7, 19, 30), (8, 8, 20, 35)]⟩ [⟨5, 24, (isM a2 b2 m2)⟩, ⟨4, 24, (isM a1 b1 m1)⟩, ⟨3, 24, (isM a0 b0 m0)⟩, ⟨7, 30, (isQ (numQ a0 b0 m0) 5)⟩, ⟨8, 35, (isR (numQ a0 b0 m0) 32)⟩] [(6, (isE (.bool false))), (0, (isM a0 b0 m0)), (1, (isM a1 b1 m1)), (2, (isM a2 b2 m2))] (by kernel_rfl) (by kernel_rfl) (look_stb _ ⟨(stb_M _ _ _), (stb_T ⟨(stb_Q _ _), (stb_R _ _), trivial⟩), (stb_T ⟨(stb_Q _ _), (stb_R _ _), trivial⟩), (stb_Q _ _), (stb_R _ _), stb_true, stb_true, trivial⟩) ⟨(stb_M _ _ _), (stb_M _ _ _), (stb_M _ _ _), trivial⟩ ⟨(stb_eq _), (stb_M _ _ _), (stb_M _ _ _), (stb_M _ _ _), trivial⟩ ⟨fun _ _ => trivial, fun _ _ => trivial, trivial⟩ ⟨shQ, shR, trivial⟩
    ⟨.inr (.inl ⟨rfl, _, (List.Mem.head _), rfl, rfl, (fun _ _ h => h)⟩), .inr (.inl ⟨rfl, _, (List.Mem.tail _ (List.Mem.head _)), rfl, rfl, (fun _ _ h => h)⟩), .inr (.inl ⟨rfl, _, (List.Mem.tail _ (List.Mem.tail _ (List.Mem.head _))), rfl, rfl, (fun _ _ h => h)⟩), .inl ⟨_, (List.Mem.head _), rfl, rfl, (fun _ _ h => h)⟩, .inl ⟨_, (List.Mem.tail _ (List.Mem.head _)), rfl, rfl, (fun _ _ h => h)⟩, trivial⟩
    ⟨.inr ⟨(by kernel_rfl), _, (List.Mem.head _), rfl, (fun _ _ h => h)⟩, .inr ⟨(by kernel_rfl), _, (List.Mem.tail _ (List.Mem.head _)), rfl, (fun _ _ h => h)⟩, .inr ⟨(by kernel_rfl), _, (List.Mem.tail _ (List.Mem.tail _ (List.Mem.head _))), rfl, (fun _ _ h => h)⟩, .inr ⟨(by kernel_rfl), _, (List.Mem.tail _ (List.Mem.tail _ (List.Mem.tail _ (List.Mem.head _)))), rfl, (fun _ _ h => h)⟩, trivial⟩
    (steps (m := 9) (by kernel_rfl) ⟨stepN (i := 0) (dst := some 17) (op := (.load 24 (.tmp 3))) (by kernel_rfl) (loadV (List.Mem.tail _ (List.Mem.tail _ (List.Mem.head _))) (by kernel_rfl) (fun _ _ h => h)),
      stepN (i := 1) (dst := some 18) (op := (.call { callee := .value (.func 6), args := #[(.tmp 17)], argTypes := #[24] })) (by kernel_rfl) (call1 (enters_of Tryd.func6 (by kernel_rfl) rfl) (argT (p := (isM a0 b0 m0)) (by kernel_rfl) (fun _ _ h => h)) (fun w u1 h1 => num_m h1) (fun _ _ h => h)),
      stepN (i := 2) (dst := some 16) (op := (.move (.tmp 18))) (by kernel_rfl) (move (argT (p := (IsT [(isQ (numQ a0 b0 m0) 5), (isR (numQ a0 b0 m0) 32)])) (by kernel_rfl) (fun _ _ h => h)) (fun _ _ h => h)),
      stepN (i := 3) (dst := some 19) (op := (.extract (.tmp 16) 0)) (by kernel_rfl) (extract (by kernel_rfl) (fun _ _ h => h) rfl (fun _ _ h => h)),
      stepN (i := 4) (dst := some 20) (op := (.extract (.tmp 16) 1)) (by kernel_rfl) (extract (by kernel_rfl) (fun _ _ h => h) rfl (fun _ _ h => h)),
      isAlloc rfl,
      isAlloc rfl,
      isStore rfl,
      isStore rfl, trivial⟩) ?_
  clear hS kf ac
  try clear w
  intro kf ac w hS
  refine region_seq (s := soft) (kf0 := kf) (by kernel_rfl) hS (Rg.look [(22, (isM a1 b1 m1)),
      (23, (IsT [(isQ (numQ a1 b1 m1) 5), (isR (numQ a1 b1 m1) 32)])),
      (21, (IsT [(isQ (numQ a1 b1 m1) 5), (isR (numQ a1 b1 m1) 32)])),
      (24, (isQ (numQ a1 b1 m1) 5)),
      (25, (isR (numQ a1 b1 m1) 32)),
      (9, isX),
      (10, isX)])
    ⟨[(5, 9, 30), (6, 10, 35)], [(7, 9, 24, 30), (8, 10, 25, 35)]⟩ [⟨5, 24, (isM a2 b2 m2)⟩, ⟨4, 24, (isM a1 b1 m1)⟩, ⟨3, 24, (isM a0 b0 m0)⟩, ⟨7, 30, (isQ (numQ a0 b0 m0) 5)⟩, ⟨8, 35, (isR (numQ a0 b0 m0) 32)⟩, ⟨9, 30, (isQ (numQ a1 b1 m1) 5)⟩, ⟨10, 35, (isR (numQ a1 b1 m1) 32)⟩] [(6, (isE (.bool false))), (0, (isM a0 b0 m0)), (1, (isM a1 b1 m1)), (2, (isM a2 b2 m2))] (by kernel_rfl) (by kernel_rfl) (look_stb _ ⟨(stb_M _ _ _), (stb_T ⟨(stb_Q _ _), (stb_R _ _), trivial⟩), (stb_T ⟨(stb_Q _ _), (stb_R _ _), trivial⟩), (stb_Q _ _), (stb_R _ _), stb_true, stb_true, trivial⟩) ⟨(stb_M _ _ _), (stb_M _ _ _), (stb_M _ _ _), (stb_Q _ _), (stb_R _ _), trivial⟩ ⟨(stb_eq _), (stb_M _ _ _), (stb_M _ _ _), (stb_M _ _ _), trivial⟩ ⟨fun _ _ => trivial, fun _ _ => trivial, trivial⟩ ⟨shQ, shR, trivial⟩
    ⟨.inr (.inl ⟨rfl, _, (List.Mem.head _), rfl, rfl, (fun _ _ h => h)⟩), .inr (.inl ⟨rfl, _, (List.Mem.tail _ (List.Mem.head _)), rfl, rfl, (fun _ _ h => h)⟩), .inr (.inl ⟨rfl, _, (List.Mem.tail _ (List.Mem.tail _ (List.Mem.head _))), rfl, rfl, (fun _ _ h => h)⟩), .inr (.inl ⟨rfl, _, (List.Mem.tail _ (List.Mem.tail _ (List.Mem.tail _ (List.Mem.head _)))), rfl, rfl, (fun _ _ h => h)⟩), .inr (.inl ⟨rfl, _, (List.Mem.tail _ (List.Mem.tail _ (List.Mem.tail _ (List.Mem.tail _ (List.Mem.head _))))), rfl, rfl, (fun _ _ h => h)⟩), .inl ⟨_, (List.Mem.head _), rfl, rfl, (fun _ _ h => h)⟩, .inl ⟨_, (List.Mem.tail _ (List.Mem.head _)), rfl, rfl, (fun _ _ h => h)⟩, trivial⟩
    ⟨.inr ⟨(by kernel_rfl), _, (List.Mem.head _), rfl, (fun _ _ h => h)⟩, .inr ⟨(by kernel_rfl), _, (List.Mem.tail _ (List.Mem.head _)), rfl, (fun _ _ h => h)⟩, .inr ⟨(by kernel_rfl), _, (List.Mem.tail _ (List.Mem.tail _ (List.Mem.head _))), rfl, (fun _ _ h => h)⟩, .inr ⟨(by kernel_rfl), _, (List.Mem.tail _ (List.Mem.tail _ (List.Mem.tail _ (List.Mem.head _)))), rfl, (fun _ _ h => h)⟩, trivial⟩
    (steps (m := 9) (by kernel_rfl) ⟨stepN (i := 0) (dst := some 22) (op := (.load 24 (.tmp 4))) (by kernel_rfl) (loadV (List.Mem.tail _ (List.Mem.head _)) (by kernel_rfl) (fun _ _ h => h)),
      stepN (i := 1) (dst := some 23) (op := (.call { callee := .value (.func 6), args := #[(.tmp 22)], argTypes := #[24] })) (by kernel_rfl) (call1 (enters_of Tryd.func6 (by kernel_rfl) rfl) (argT (p := (isM a1 b1 m1)) (by kernel_rfl) (fun _ _ h => h)) (fun w u1 h1 => num_m h1) (fun _ _ h => h)),
      stepN (i := 2) (dst := some 21) (op := (.move (.tmp 23))) (by kernel_rfl) (move (argT (p := (IsT [(isQ (numQ a1 b1 m1) 5), (isR (numQ a1 b1 m1) 32)])) (by kernel_rfl) (fun _ _ h => h)) (fun _ _ h => h)),
      stepN (i := 3) (dst := some 24) (op := (.extract (.tmp 21) 0)) (by kernel_rfl) (extract (by kernel_rfl) (fun _ _ h => h) rfl (fun _ _ h => h)),
      stepN (i := 4) (dst := some 25) (op := (.extract (.tmp 21) 1)) (by kernel_rfl) (extract (by kernel_rfl) (fun _ _ h => h) rfl (fun _ _ h => h)),
      isAlloc rfl,
      isAlloc rfl,
      isStore rfl,
      isStore rfl, trivial⟩) ?_
  clear hS kf ac
  try clear w
  intro kf ac w hS
  refine region_seq (s := soft) (kf0 := kf) (by kernel_rfl) hS (Rg.look [(27, (isM a2 b2 m2)),
      (28, (IsT [(isQ (numQ a2 b2 m2) 5), (isR (numQ a2 b2 m2) 32)])),
      (26, (IsT [(isQ (numQ a2 b2 m2) 5), (isR (numQ a2 b2 m2) 32)])),
      (29, (isQ (numQ a2 b2 m2) 5)),
      (30, (isR (numQ a2 b2 m2) 32)),
      (11, isX),
      (12, isX)])
    ⟨[(5, 11, 30), (6, 12, 35)], [(7, 11, 29, 30), (8, 12, 30, 35)]⟩ [⟨5, 24, (isM a2 b2 m2)⟩, ⟨4, 24, (isM a1 b1 m1)⟩, ⟨3, 24, (isM a0 b0 m0)⟩, ⟨7, 30, (isQ (numQ a0 b0 m0) 5)⟩, ⟨8, 35, (isR (numQ a0 b0 m0) 32)⟩, ⟨9, 30, (isQ (numQ a1 b1 m1) 5)⟩, ⟨10, 35, (isR (numQ a1 b1 m1) 32)⟩, ⟨11, 30, (isQ (numQ a2 b2 m2) 5)⟩, ⟨12, 35, (isR (numQ a2 b2 m2) 32)⟩] [(6, (isE (.bool false))), (0, (isM a0 b0 m0)), (1, (isM a1 b1 m1)), (2, (isM a2 b2 m2))] (by kernel_rfl) (by kernel_rfl) (look_stb _ ⟨(stb_M _ _ _), (stb_T ⟨(stb_Q _ _), (stb_R _ _), trivial⟩), (stb_T ⟨(stb_Q _ _), (stb_R _ _), trivial⟩), (stb_Q _ _), (stb_R _ _), stb_true, stb_true, trivial⟩) ⟨(stb_M _ _ _), (stb_M _ _ _), (stb_M _ _ _), (stb_Q _ _), (stb_R _ _), (stb_Q _ _), (stb_R _ _), trivial⟩ ⟨(stb_eq _), (stb_M _ _ _), (stb_M _ _ _), (stb_M _ _ _), trivial⟩ ⟨fun _ _ => trivial, fun _ _ => trivial, trivial⟩ ⟨shQ, shR, trivial⟩
    ⟨.inr (.inl ⟨rfl, _, (List.Mem.head _), rfl, rfl, (fun _ _ h => h)⟩), .inr (.inl ⟨rfl, _, (List.Mem.tail _ (List.Mem.head _)), rfl, rfl, (fun _ _ h => h)⟩), .inr (.inl ⟨rfl, _, (List.Mem.tail _ (List.Mem.tail _ (List.Mem.head _))), rfl, rfl, (fun _ _ h => h)⟩), .inr (.inl ⟨rfl, _, (List.Mem.tail _ (List.Mem.tail _ (List.Mem.tail _ (List.Mem.head _)))), rfl, rfl, (fun _ _ h => h)⟩), .inr (.inl ⟨rfl, _, (List.Mem.tail _ (List.Mem.tail _ (List.Mem.tail _ (List.Mem.tail _ (List.Mem.head _))))), rfl, rfl, (fun _ _ h => h)⟩), .inr (.inl ⟨rfl, _, (List.Mem.tail _ (List.Mem.tail _ (List.Mem.tail _ (List.Mem.tail _ (List.Mem.tail _ (List.Mem.head _)))))), rfl, rfl, (fun _ _ h => h)⟩), .inr (.inl ⟨rfl, _, (List.Mem.tail _ (List.Mem.tail _ (List.Mem.tail _ (List.Mem.tail _ (List.Mem.tail _ (List.Mem.tail _ (List.Mem.head _))))))), rfl, rfl, (fun _ _ h => h)⟩), .inl ⟨_, (List.Mem.head _), rfl, rfl, (fun _ _ h => h)⟩, .inl ⟨_, (List.Mem.tail _ (List.Mem.head _)), rfl, rfl, (fun _ _ h => h)⟩, trivial⟩
    ⟨.inr ⟨(by kernel_rfl), _, (List.Mem.head _), rfl, (fun _ _ h => h)⟩, .inr ⟨(by kernel_rfl), _, (List.Mem.tail _ (List.Mem.head _)), rfl, (fun _ _ h => h)⟩, .inr ⟨(by kernel_rfl), _, (List.Mem.tail _ (List.Mem.tail _ (List.Mem.head _))), rfl, (fun _ _ h => h)⟩, .inr ⟨(by kernel_rfl), _, (List.Mem.tail _ (List.Mem.tail _ (List.Mem.tail _ (List.Mem.head _)))), rfl, (fun _ _ h => h)⟩, trivial⟩
    (steps (m := 9) (by kernel_rfl) ⟨stepN (i := 0) (dst := some 27) (op := (.load 24 (.tmp 5))) (by kernel_rfl) (loadV (List.Mem.head _) (by kernel_rfl) (fun _ _ h => h)),
      stepN (i := 1) (dst := some 28) (op := (.call { callee := .value (.func 6), args := #[(.tmp 27)], argTypes := #[24] })) (by kernel_rfl) (call1 (enters_of Tryd.func6 (by kernel_rfl) rfl) (argT (p := (isM a2 b2 m2)) (by kernel_rfl) (fun _ _ h => h)) (fun w u1 h1 => num_m h1) (fun _ _ h => h)),
      stepN (i := 2) (dst := some 26) (op := (.move (.tmp 28))) (by kernel_rfl) (move (argT (p := (IsT [(isQ (numQ a2 b2 m2) 5), (isR (numQ a2 b2 m2) 32)])) (by kernel_rfl) (fun _ _ h => h)) (fun _ _ h => h)),
      stepN (i := 3) (dst := some 29) (op := (.extract (.tmp 26) 0)) (by kernel_rfl) (extract (by kernel_rfl) (fun _ _ h => h) rfl (fun _ _ h => h)),
      stepN (i := 4) (dst := some 30) (op := (.extract (.tmp 26) 1)) (by kernel_rfl) (extract (by kernel_rfl) (fun _ _ h => h) rfl (fun _ _ h => h)),
      isAlloc rfl,
      isAlloc rfl,
      isStore rfl,
      isStore rfl, trivial⟩) ?_
  clear hS kf ac
  try clear w
  intro kf ac w hS
  refine region_seq (s := soft) (kf0 := kf) (by kernel_rfl) hS (Rg.look [(32, (isQ (numQ a0 b0 m0) 5)),
      (33, (isQ (numQ a1 b1 m1) 5)),
      (34, (isQ ((numQ a0 b0 m0) + (numQ a1 b1 m1)) (5 + 5 + 1))),
      (35, (isW 2 1)),
      (36, (isQ ((2 : Int) : Rat) (max 1 1))),
      (37, (IsT [(isQ (((numQ a0 b0 m0) + (numQ a1 b1 m1)) / ((2 : Int) : Rat)) ((5 + 5 + 1) + (max 1 1))), (isE (.int .i64 0))])),
      (31, (IsT [(isQ (((numQ a0 b0 m0) + (numQ a1 b1 m1)) / ((2 : Int) : Rat)) ((5 + 5 + 1) + (max 1 1))), (isE (.int .i64 0))])),
      (38, (isQ (((numQ a0 b0 m0) + (numQ a1 b1 m1)) / ((2 : Int) : Rat)) ((5 + 5 + 1) + (max 1 1)))),
      (39, (isE (.int .i64 0))),
      (13, isX),
      (14, (isE (.int .i64 0)))])
    ⟨[(9, 13, 30)], [(10, 13, 38, 30)]⟩ [⟨5, 24, (isM a2 b2 m2)⟩, ⟨4, 24, (isM a1 b1 m1)⟩, ⟨3, 24, (isM a0 b0 m0)⟩, ⟨7, 30, (isQ (numQ a0 b0 m0) 5)⟩, ⟨8, 35, (isR (numQ a0 b0 m0) 32)⟩, ⟨9, 30, (isQ (numQ a1 b1 m1) 5)⟩, ⟨10, 35, (isR (numQ a1 b1 m1) 32)⟩, ⟨11, 30, (isQ (numQ a2 b2 m2) 5)⟩, ⟨12, 35, (isR (numQ a2 b2 m2) 32)⟩, ⟨13, 30, (isQ (((numQ a0 b0 m0) + (numQ a1 b1 m1)) / ((2 : Int) : Rat)) ((5 + 5 + 1) + (max 1 1)))⟩] [(6, (isE (.bool false))), (0, (isM a0 b0 m0)), (1, (isM a1 b1 m1)), (2, (isM a2 b2 m2)), (14, (isE (.int .i64 0)))] (by kernel_rfl) (by kernel_rfl) (look_stb _ ⟨(stb_Q _ _), (stb_Q _ _), (stb_Q _ _), (stb_W _ _), (stb_Q _ _), (stb_T ⟨(stb_Q _ _), (stb_eq _), trivial⟩), (stb_T ⟨(stb_Q _ _), (stb_eq _), trivial⟩), (stb_Q _ _), (stb_eq _), stb_true, (stb_eq _), trivial⟩) ⟨(stb_M _ _ _), (stb_M _ _ _), (stb_M _ _ _), (stb_Q _ _), (stb_R _ _), (stb_Q _ _), (stb_R _ _), (stb_Q _ _), (stb_R _ _), trivial⟩ ⟨(stb_eq _), (stb_M _ _ _), (stb_M _ _ _), (stb_M _ _ _), trivial⟩ ⟨fun _ _ => trivial, trivial⟩ ⟨shQ, trivial⟩
    ⟨.inr (.inl ⟨rfl, _, (List.Mem.head _), rfl, rfl, (fun _ _ h => h)⟩), .inr (.inl ⟨rfl, _, (List.Mem.tail _ (List.Mem.head _)), rfl, rfl, (fun _ _ h => h)⟩), .inr (.inl ⟨rfl, _, (List.Mem.tail _ (List.Mem.tail _ (List.Mem.head _))), rfl, rfl, (fun _ _ h => h)⟩), .inr (.inl ⟨rfl, _, (List.Mem.tail _ (List.Mem.tail _ (List.Mem.tail _ (List.Mem.head _)))), rfl, rfl, (fun _ _ h => h)⟩), .inr (.inl ⟨rfl, _, (List.Mem.tail _ (List.Mem.tail _ (List.Mem.tail _ (List.Mem.tail _ (List.Mem.head _))))), rfl, rfl, (fun _ _ h => h)⟩), .inr (.inl ⟨rfl, _, (List.Mem.tail _ (List.Mem.tail _ (List.Mem.tail _ (List.Mem.tail _ (List.Mem.tail _ (List.Mem.head _)))))), rfl, rfl, (fun _ _ h => h)⟩), .inr (.inl ⟨rfl, _, (List.Mem.tail _ (List.Mem.tail _ (List.Mem.tail _ (List.Mem.tail _ (List.Mem.tail _ (List.Mem.tail _ (List.Mem.head _))))))), rfl, rfl, (fun _ _ h => h)⟩), .inr (.inl ⟨rfl, _, (List.Mem.tail _ (List.Mem.tail _ (List.Mem.tail _ (List.Mem.tail _ (List.Mem.tail _ (List.Mem.tail _ (List.Mem.tail _ (List.Mem.head _)))))))), rfl, rfl, (fun _ _ h => h)⟩), .inr (.inl ⟨rfl, _, (List.Mem.tail _ (List.Mem.tail _ (List.Mem.tail _ (List.Mem.tail _ (List.Mem.tail _ (List.Mem.tail _ (List.Mem.tail _ (List.Mem.tail _ (List.Mem.head _))))))))), rfl, rfl, (fun _ _ h => h)⟩), .inl ⟨_, (List.Mem.head _), rfl, rfl, (fun _ _ h => h)⟩, trivial⟩
    ⟨.inr ⟨(by kernel_rfl), _, (List.Mem.head _), rfl, (fun _ _ h => h)⟩, .inr ⟨(by kernel_rfl), _, (List.Mem.tail _ (List.Mem.head _)), rfl, (fun _ _ h => h)⟩, .inr ⟨(by kernel_rfl), _, (List.Mem.tail _ (List.Mem.tail _ (List.Mem.head _))), rfl, (fun _ _ h => h)⟩, .inr ⟨(by kernel_rfl), _, (List.Mem.tail _ (List.Mem.tail _ (List.Mem.tail _ (List.Mem.head _)))), rfl, (fun _ _ h => h)⟩, .inl ⟨(by kernel_rfl), rfl, (fun _ _ h => h)⟩, trivial⟩
    (steps (m := 12) (by kernel_rfl) ⟨stepN (i := 0) (dst := some 32) (op := (.load 30 (.tmp 7))) (by kernel_rfl) (loadV (List.Mem.tail _ (List.Mem.tail _ (List.Mem.tail _ (List.Mem.head _)))) (by kernel_rfl) (fun _ _ h => h)),
      stepN (i := 1) (dst := some 33) (op := (.load 30 (.tmp 9))) (by kernel_rfl) (loadV (List.Mem.tail _ (List.Mem.tail _ (List.Mem.tail _ (List.Mem.tail _ (List.Mem.tail _ (List.Mem.head _)))))) (by kernel_rfl) (fun _ _ h => h)),
      stepN (i := 2) (dst := some 34) (op := (.call { callee := .value (.func 7), args := #[(.tmp 32), (.tmp 33)], argTypes := #[30, 30] })) (by kernel_rfl) (call2 (enters_of Tryd.func7 (by kernel_rfl) rfl) (argT (p := (isQ (numQ a0 b0 m0) 5)) (by kernel_rfl) (fun _ _ h => h)) (argT (p := (isQ (numQ a1 b1 m1) 5)) (by kernel_rfl) (fun _ _ h => h)) (fun w u1 u2 h1 h2 => add_q h1 h2 (by omega) (by omega)) (fun _ _ h => h)),
      stepN (i := 3) (dst := some 35) (op := (.call { callee := .value (.func 15), args := #[(.const (.int .i64 2))], argTypes := #[3] })) (by kernel_rfl) (call1 (enters_of Tryd.func15 (by kernel_rfl) rfl) (argC (.int .i64 2)) (fun w u1 h1 => by subst h1; exact from_w _ _ (by omega) (by omega)) (fun _ _ h => h)),
      stepN (i := 4) (dst := some 36) (op := (.call { callee := .value (.func 16), args := #[(.tmp 35)], argTypes := #[28] })) (by kernel_rfl) (call1 (enters_of Tryd.func16 (by kernel_rfl) rfl) (argT (p := (isW 2 1)) (by kernel_rfl) (fun _ _ h => h)) (fun w u1 h1 => from_q h1) (fun _ _ h => h)),
      stepN (i := 5) (dst := some 37) (op := (.call { callee := .value (.func 13), args := #[(.tmp 34), (.tmp 36)], argTypes := #[30, 30] })) (by kernel_rfl) (call2 (enters_of Tryd.func13 (by kernel_rfl) rfl) (argT (p := (isQ ((numQ a0 b0 m0) + (numQ a1 b1 m1)) (5 + 5 + 1))) (by kernel_rfl) (fun _ _ h => h)) (argT (p := (isQ ((2 : Int) : Rat) (max 1 1))) (by kernel_rfl) (fun _ _ h => h)) (fun w u1 u2 h1 h2 => quo_q h1 h2 (by omega) (by omega) two_ne) (fun _ _ h => h)),
      stepN (i := 6) (dst := some 31) (op := (.move (.tmp 37))) (by kernel_rfl) (move (argT (p := (IsT [(isQ (((numQ a0 b0 m0) + (numQ a1 b1 m1)) / ((2 : Int) : Rat)) ((5 + 5 + 1) + (max 1 1))), (isE (.int .i64 0))])) (by kernel_rfl) (fun _ _ h => h)) (fun _ _ h => h)),
      stepN (i := 7) (dst := some 38) (op := (.extract (.tmp 31) 0)) (by kernel_rfl) (extract (by kernel_rfl) (fun _ _ h => h) rfl (fun _ _ h => h)),
      stepN (i := 8) (dst := some 39) (op := (.extract (.tmp 31) 1)) (by kernel_rfl) (extract (by kernel_rfl) (fun _ _ h => h) rfl (fun _ _ h => h)),
      isAlloc rfl,
      isStore rfl,
      stepN (i := 11) (dst := some 14) (op := (.assign (.tmp 39))) (by kernel_rfl) (assign (argT (p := (isE (.int .i64 0))) (by kernel_rfl) (fun _ _ h => h)) (fun _ _ h => h)), trivial⟩) ?_
  clear hS kf ac
  try clear w
  intro kf ac w hS
  refine region_seq (s := soft) (kf0 := kf) (by kernel_rfl) hS (Rg.look [(40, (isQ (numQ a0 b0 m0) 5)),
      (41, (isQ (numQ a1 b1 m1) 5)),
      (42, (isE (.int .i64 (cmpQ (numQ a0 b0 m0) (numQ a1 b1 m1))))),
      (15, (isE (.int .i64 (cmpQ (numQ a0 b0 m0) (numQ a1 b1 m1)))))])
    ⟨[], []⟩ [⟨5, 24, (isM a2 b2 m2)⟩, ⟨4, 24, (isM a1 b1 m1)⟩, ⟨3, 24, (isM a0 b0 m0)⟩, ⟨7, 30, (isQ (numQ a0 b0 m0) 5)⟩, ⟨8, 35, (isR (numQ a0 b0 m0) 32)⟩, ⟨9, 30, (isQ (numQ a1 b1 m1) 5)⟩, ⟨10, 35, (isR (numQ a1 b1 m1) 32)⟩, ⟨11, 30, (isQ (numQ a2 b2 m2) 5)⟩, ⟨12, 35, (isR (numQ a2 b2 m2) 32)⟩, ⟨13, 30, (isQ (((numQ a0 b0 m0) + (numQ a1 b1 m1)) / ((2 : Int) : Rat)) ((5 + 5 + 1) + (max 1 1)))⟩] [(6, (isE (.bool false))), (0, (isM a0 b0 m0)), (1, (isM a1 b1 m1)), (2, (isM a2 b2 m2)), (14, (isE (.int .i64 0))), (15, (isE (.int .i64 (cmpQ (numQ a0 b0 m0) (numQ a1 b1 m1)))))] (by kernel_rfl) (by kernel_rfl) (look_stb _ ⟨(stb_Q _ _), (stb_Q _ _), (stb_eq _), (stb_eq _), trivial⟩) ⟨(stb_M _ _ _), (stb_M _ _ _), (stb_M _ _ _), (stb_Q _ _), (stb_R _ _), (stb_Q _ _), (stb_R _ _), (stb_Q _ _), (stb_R _ _), (stb_Q _ _), trivial⟩ ⟨(stb_eq _), (stb_M _ _ _), (stb_M _ _ _), (stb_M _ _ _), (stb_eq _), trivial⟩ trivial trivial
    ⟨.inr (.inl ⟨rfl, _, (List.Mem.head _), rfl, rfl, (fun _ _ h => h)⟩), .inr (.inl ⟨rfl, _, (List.Mem.tail _ (List.Mem.head _)), rfl, rfl, (fun _ _ h => h)⟩), .inr (.inl ⟨rfl, _, (List.Mem.tail _ (List.Mem.tail _ (List.Mem.head _))), rfl, rfl, (fun _ _ h => h)⟩), .inr (.inl ⟨rfl, _, (List.Mem.tail _ (List.Mem.tail _ (List.Mem.tail _ (List.Mem.head _)))), rfl, rfl, (fun _ _ h => h)⟩), .inr (.inl ⟨rfl, _, (List.Mem.tail _ (List.Mem.tail _ (List.Mem.tail _ (List.Mem.tail _ (List.Mem.head _))))), rfl, rfl, (fun _ _ h => h)⟩), .inr (.inl ⟨rfl, _, (List.Mem.tail _ (List.Mem.tail _ (List.Mem.tail _ (List.Mem.tail _ (List.Mem.tail _ (List.Mem.head _)))))), rfl, rfl, (fun _ _ h => h)⟩), .inr (.inl ⟨rfl, _, (List.Mem.tail _ (List.Mem.tail _ (List.Mem.tail _ (List.Mem.tail _ (List.Mem.tail _ (List.Mem.tail _ (List.Mem.head _))))))), rfl, rfl, (fun _ _ h => h)⟩), .inr (.inl ⟨rfl, _, (List.Mem.tail _ (List.Mem.tail _ (List.Mem.tail _ (List.Mem.tail _ (List.Mem.tail _ (List.Mem.tail _ (List.Mem.tail _ (List.Mem.head _)))))))), rfl, rfl, (fun _ _ h => h)⟩), .inr (.inl ⟨rfl, _, (List.Mem.tail _ (List.Mem.tail _ (List.Mem.tail _ (List.Mem.tail _ (List.Mem.tail _ (List.Mem.tail _ (List.Mem.tail _ (List.Mem.tail _ (List.Mem.head _))))))))), rfl, rfl, (fun _ _ h => h)⟩), .inr (.inl ⟨rfl, _, (List.Mem.tail _ (List.Mem.tail _ (List.Mem.tail _ (List.Mem.tail _ (List.Mem.tail _ (List.Mem.tail _ (List.Mem.tail _ (List.Mem.tail _ (List.Mem.tail _ (List.Mem.head _)))))))))), rfl, rfl, (fun _ _ h => h)⟩), trivial⟩
    ⟨.inr ⟨(by kernel_rfl), _, (List.Mem.head _), rfl, (fun _ _ h => h)⟩, .inr ⟨(by kernel_rfl), _, (List.Mem.tail _ (List.Mem.head _)), rfl, (fun _ _ h => h)⟩, .inr ⟨(by kernel_rfl), _, (List.Mem.tail _ (List.Mem.tail _ (List.Mem.head _))), rfl, (fun _ _ h => h)⟩, .inr ⟨(by kernel_rfl), _, (List.Mem.tail _ (List.Mem.tail _ (List.Mem.tail _ (List.Mem.head _)))), rfl, (fun _ _ h => h)⟩, .inr ⟨(by kernel_rfl), _, (List.Mem.tail _ (List.Mem.tail _ (List.Mem.tail _ (List.Mem.tail _ (List.Mem.head _))))), rfl, (fun _ _ h => h)⟩, .inl ⟨(by kernel_rfl), rfl, (fun _ _ h => h)⟩, trivial⟩
    (steps (m := 4) (by kernel_rfl) ⟨stepN (i := 0) (dst := some 40) (op := (.load 30 (.tmp 7))) (by kernel_rfl) (loadV (List.Mem.tail _ (List.Mem.tail _ (List.Mem.tail _ (List.Mem.head _)))) (by kernel_rfl) (fun _ _ h => h)),
      stepN (i := 1) (dst := some 41) (op := (.load 30 (.tmp 9))) (by kernel_rfl) (loadV (List.Mem.tail _ (List.Mem.tail _ (List.Mem.tail _ (List.Mem.tail _ (List.Mem.tail _ (List.Mem.head _)))))) (by kernel_rfl) (fun _ _ h => h)),
      stepN (i := 2) (dst := some 42) (op := (.call { callee := .value (.func 9), args := #[(.tmp 40), (.tmp 41)], argTypes := #[30, 30] })) (by kernel_rfl) (call2 (enters_of Tryd.func9 (by kernel_rfl) rfl) (argT (p := (isQ (numQ a0 b0 m0) 5)) (by kernel_rfl) (fun _ _ h => h)) (argT (p := (isQ (numQ a1 b1 m1) 5)) (by kernel_rfl) (fun _ _ h => h)) (fun w u1 u2 h1 h2 => cmp_q h1 h2 (by omega) (by omega)) (fun _ _ h => h)),
      stepN (i := 3) (dst := some 15) (op := (.assign (.tmp 42))) (by kernel_rfl) (assign (argT (p := (isE (.int .i64 (cmpQ (numQ a0 b0 m0) (numQ a1 b1 m1))))) (by kernel_rfl) (fun _ _ h => h)) (fun _ _ h => h)), trivial⟩) ?_
  clear hS kf ac
  try clear w
  intro kf ac w hS
  refine region_seq (s := soft) (kf0 := kf) (by kernel_rfl) hS (Rg.look [(43, (isE (.bool true))),
      (44, (isE (.bool true))),
      (45, (isE (.int .i64 0))),
      (46, (isE (.bool true))),
      (47, (isE (.bool true))),
      (48, (isE (.bool true))),
      (49, (isQ (numQ a0 b0 m0) 5)),
      (50, (isQ (((numQ a0 b0 m0) + (numQ a1 b1 m1)) / ((2 : Int) : Rat)) ((5 + 5 + 1) + (max 1 1)))),
      (51, (isE (.int .i64 (cmpQ (numQ a0 b0 m0) (((numQ a0 b0 m0) + (numQ a1 b1 m1)) / ((2 : Int) : Rat)))))),
      (52, (isE (.int .i64 (cmpQ (numQ a0 b0 m0) (numQ a1 b1 m1))))),
      (53, (isE (.bool true))),
      (54, (isE (.bool true))),
      (55, (isE (.bool true))),
      (56, (isQ (((numQ a0 b0 m0) + (numQ a1 b1 m1)) / ((2 : Int) : Rat)) ((5 + 5 + 1) + (max 1 1)))),
      (57, (isQ (numQ a1 b1 m1) 5)),
      (58, (isE (.int .i64 (cmpQ (((numQ a0 b0 m0) + (numQ a1 b1 m1)) / ((2 : Int) : Rat)) (numQ a1 b1 m1))))),
      (59, (isE (.int .i64 (cmpQ (numQ a0 b0 m0) (numQ a1 b1 m1))))),
      (60, (isE (.bool true))),
      (61, (isE (.bool true))),
      (62, (isE (.bool true))),
      (63, (isQ (numQ a0 b0 m0) 5)),
      (64, (isQ (numQ a2 b2 m2) 5)),
      (65, (isQ ((numQ a0 b0 m0) + (numQ a2 b2 m2)) (5 + 5 + 1))),
      (66, (isQ (numQ a1 b1 m1) 5)),
      (67, (isQ (numQ a2 b2 m2) 5)),
      (68, (isQ ((numQ a1 b1 m1) + (numQ a2 b2 m2)) (5 + 5 + 1))),
      (69, (isE (.int .i64 (cmpQ ((numQ a0 b0 m0) + (numQ a2 b2 m2)) ((numQ a1 b1 m1) + (numQ a2 b2 m2)))))),
      (70, (isE (.int .i64 (cmpQ (numQ a0 b0 m0) (numQ a1 b1 m1))))),
      (71, (isE (.bool true))),
      (72, (isE (.bool true))),
      (73, (isE (.bool true))),
      (74, (isQ (numQ a0 b0 m0) 5)),
      (75, (isQ (-(numQ a0 b0 m0)) 5)),
      (76, (isQ (numQ a1 b1 m1) 5)),
      (77, (isQ (-(numQ a1 b1 m1)) 5)),
      (78, (isE (.int .i64 (cmpQ (-(numQ a0 b0 m0)) (-(numQ a1 b1 m1)))))),
      (79, (isE (.int .i64 (cmpQ (numQ a0 b0 m0) (numQ a1 b1 m1))))),
      (80, (isE (.int .i64 (-(cmpQ (numQ a0 b0 m0) (numQ a1 b1 m1)))))),
      (81, (isE (.bool true))),
      (82, (isE (.bool true))),
      (83, (isE (.bool true))),
      (84, (isQ (numQ a0 b0 m0) 5)),
      (85, (isQ (numQ a0 b0 m0) 5)),
      (86, (isQ ((numQ a0 b0 m0) * (numQ a0 b0 m0)) (5 + 5))),
      (87, (isE (.int .i64 (Int.sign (((numQ a0 b0 m0) * (numQ a0 b0 m0)).num))))),
      (88, (isE (.bool true))),
      (89, (isE (.bool true))),
      (6, (isE (.bool true)))])
    ⟨[], []⟩ [⟨5, 24, (isM a2 b2 m2)⟩, ⟨4, 24, (isM a1 b1 m1)⟩, ⟨3, 24, (isM a0 b0 m0)⟩, ⟨7, 30, (isQ (numQ a0 b0 m0) 5)⟩, ⟨8, 35, (isR (numQ a0 b0 m0) 32)⟩, ⟨9, 30, (isQ (numQ a1 b1 m1) 5)⟩, ⟨10, 35, (isR (numQ a1 b1 m1) 32)⟩, ⟨11, 30, (isQ (numQ a2 b2 m2) 5)⟩, ⟨12, 35, (isR (numQ a2 b2 m2) 32)⟩, ⟨13, 30, (isQ (((numQ a0 b0 m0) + (numQ a1 b1 m1)) / ((2 : Int) : Rat)) ((5 + 5 + 1) + (max 1 1)))⟩] [(0, (isM a0 b0 m0)), (1, (isM a1 b1 m1)), (2, (isM a2 b2 m2)), (14, (isE (.int .i64 0))), (15, (isE (.int .i64 (cmpQ (numQ a0 b0 m0) (numQ a1 b1 m1))))), (6, (isE (.bool true)))] (by kernel_rfl) (by kernel_rfl) (look_stb _ ⟨(stb_eq _), (stb_eq _), (stb_eq _), (stb_eq _), (stb_eq _), (stb_eq _), (stb_Q _ _), (stb_Q _ _), (stb_eq _), (stb_eq _), (stb_eq _), (stb_eq _), (stb_eq _), (stb_Q _ _), (stb_Q _ _), (stb_eq _), (stb_eq _), (stb_eq _), (stb_eq _), (stb_eq _), (stb_Q _ _), (stb_Q _ _), (stb_Q _ _), (stb_Q _ _), (stb_Q _ _), (stb_Q _ _), (stb_eq _), (stb_eq _), (stb_eq _), (stb_eq _), (stb_eq _), (stb_Q _ _), (stb_Q _ _), (stb_Q _ _), (stb_Q _ _), (stb_eq _), (stb_eq _), (stb_eq _), (stb_eq _), (stb_eq _), (stb_eq _), (stb_Q _ _), (stb_Q _ _), (stb_Q _ _), (stb_eq _), (stb_eq _), (stb_eq _), (stb_eq _), trivial⟩) ⟨(stb_M _ _ _), (stb_M _ _ _), (stb_M _ _ _), (stb_Q _ _), (stb_R _ _), (stb_Q _ _), (stb_R _ _), (stb_Q _ _), (stb_R _ _), (stb_Q _ _), trivial⟩ ⟨(stb_eq _), (stb_M _ _ _), (stb_M _ _ _), (stb_M _ _ _), (stb_eq _), (stb_eq _), trivial⟩ trivial trivial
    ⟨.inr (.inl ⟨rfl, _, (List.Mem.head _), rfl, rfl, (fun _ _ h => h)⟩), .inr (.inl ⟨rfl, _, (List.Mem.tail _ (List.Mem.head _)), rfl, rfl, (fun _ _ h => h)⟩), .inr (.inl ⟨rfl, _, (List.Mem.tail _ (List.Mem.tail _ (List.Mem.head _))), rfl, rfl, (fun _ _ h => h)⟩), .inr (.inl ⟨rfl, _, (List.Mem.tail _ (List.Mem.tail _ (List.Mem.tail _ (List.Mem.head _)))), rfl, rfl, (fun _ _ h => h)⟩), .inr (.inl ⟨rfl, _, (List.Mem.tail _ (List.Mem.tail _ (List.Mem.tail _ (List.Mem.tail _ (List.Mem.head _))))), rfl, rfl, (fun _ _ h => h)⟩), .inr (.inl ⟨rfl, _, (List.Mem.tail _ (List.Mem.tail _ (List.Mem.tail _ (List.Mem.tail _ (List.Mem.tail _ (List.Mem.head _)))))), rfl, rfl, (fun _ _ h => h)⟩), .inr (.inl ⟨rfl, _, (List.Mem.tail _ (List.Mem.tail _ (List.Mem.tail _ (List.Mem.tail _ (List.Mem.tail _ (List.Mem.tail _ (List.Mem.head _))))))), rfl, rfl, (fun _ _ h => h)⟩), .inr (.inl ⟨rfl, _, (List.Mem.tail _ (List.Mem.tail _ (List.Mem.tail _ (List.Mem.tail _ (List.Mem.tail _ (List.Mem.tail _ (List.Mem.tail _ (List.Mem.head _)))))))), rfl, rfl, (fun _ _ h => h)⟩), .inr (.inl ⟨rfl, _, (List.Mem.tail _ (List.Mem.tail _ (List.Mem.tail _ (List.Mem.tail _ (List.Mem.tail _ (List.Mem.tail _ (List.Mem.tail _ (List.Mem.tail _ (List.Mem.head _))))))))), rfl, rfl, (fun _ _ h => h)⟩), .inr (.inl ⟨rfl, _, (List.Mem.tail _ (List.Mem.tail _ (List.Mem.tail _ (List.Mem.tail _ (List.Mem.tail _ (List.Mem.tail _ (List.Mem.tail _ (List.Mem.tail _ (List.Mem.tail _ (List.Mem.head _)))))))))), rfl, rfl, (fun _ _ h => h)⟩), trivial⟩
    ⟨.inr ⟨(by kernel_rfl), _, (List.Mem.tail _ (List.Mem.head _)), rfl, (fun _ _ h => h)⟩, .inr ⟨(by kernel_rfl), _, (List.Mem.tail _ (List.Mem.tail _ (List.Mem.head _))), rfl, (fun _ _ h => h)⟩, .inr ⟨(by kernel_rfl), _, (List.Mem.tail _ (List.Mem.tail _ (List.Mem.tail _ (List.Mem.head _)))), rfl, (fun _ _ h => h)⟩, .inr ⟨(by kernel_rfl), _, (List.Mem.tail _ (List.Mem.tail _ (List.Mem.tail _ (List.Mem.tail _ (List.Mem.head _))))), rfl, (fun _ _ h => h)⟩, .inr ⟨(by kernel_rfl), _, (List.Mem.tail _ (List.Mem.tail _ (List.Mem.tail _ (List.Mem.tail _ (List.Mem.tail _ (List.Mem.head _)))))), rfl, (fun _ _ h => h)⟩, .inl ⟨(by kernel_rfl), rfl, (fun _ _ h => h)⟩, trivial⟩
    (steps (m := 48) (by kernel_rfl) ⟨stepN (i := 0) (dst := some 43) (op := (.call { callee := .value (.func 12), args := #[], argTypes := #[] })) (by kernel_rfl) (call0 (enters_of Tryd.func12 (by kernel_rfl) rfl) (fun w => wakes5 w) (fun _ _ h => h)),
      stepN (i := 1) (dst := some 44) (op := (.move (.tmp 43))) (by kernel_rfl) (move (argT (p := (isE (.bool true))) (by kernel_rfl) (fun _ _ h => h)) (fun _ _ h => h)),
      stepG (i := 2) (j := 1) (dj := 44) (b := true) (dst := some 45) (op := (.move (.tmp 14))) (by kernel_rfl) (by kernel_rfl) (by kernel_rfl) (fun _ _ h => h) (move (argO (p := (isE (.int .i64 0))) (List.Mem.tail _ (List.Mem.tail _ (List.Mem.tail _ (List.Mem.tail _ (List.Mem.head _))))) (by kernel_rfl)) (fun _ _ h => h)),
      stepG (i := 3) (j := 1) (dj := 44) (b := true) (dst := some 46) (op := (.binOp .eql 42 (.tmp 45) (.const (.int .i64 0)) 42)) (by kernel_rfl) (by kernel_rfl) (by kernel_rfl) (fun _ _ h => h) (eql (m := 0) (n := 0) (argT (p := (isE (.int .i64 0))) (by kernel_rfl) (fun _ _ h => h)) (argC (.int .i64 0)) (fun w v h => h.trans (congrArg Value.bool (rfl)))),
      stepN (i := 4) (dst := some 47) (op := (.pick (.tmp 44) (.tmp 46) (.const (.bool false)))) (by kernel_rfl) (pickT (argT (p := (isE (.bool true))) (by kernel_rfl) (fun _ _ h => h)) (argT (p := (isE (.bool true))) (by kernel_rfl) (fun _ _ h => h)) (fun _ _ h => h)),
      stepN (i := 5) (dst := some 48) (op := (.move (.tmp 47))) (by kernel_rfl) (move (argT (p := (isE (.bool true))) (by kernel_rfl) (fun _ _ h => h)) (fun _ _ h => h)),
      stepG (i := 6) (j := 5) (dj := 48) (b := true) (dst := some 49) (op := (.load 30 (.tmp 7))) (by kernel_rfl) (by kernel_rfl) (by kernel_rfl) (fun _ _ h => h) (loadV (List.Mem.tail _ (List.Mem.tail _ (List.Mem.tail _ (List.Mem.head _)))) (by kernel_rfl) (fun _ _ h => h)),
      stepG (i := 7) (j := 5) (dj := 48) (b := true) (dst := some 50) (op := (.load 30 (.tmp 13))) (by kernel_rfl) (by kernel_rfl) (by kernel_rfl) (fun _ _ h => h) (loadV (List.Mem.tail _ (List.Mem.tail _ (List.Mem.tail _ (List.Mem.tail _ (List.Mem.tail _ (List.Mem.tail _ (List.Mem.tail _ (List.Mem.tail _ (List.Mem.tail _ (List.Mem.head _)))))))))) (by kernel_rfl) (fun _ _ h => h)),
      stepG (i := 8) (j := 5) (dj := 48) (b := true) (dst := some 51) (op := (.call { callee := .value (.func 9), args := #[(.tmp 49), (.tmp 50)], argTypes := #[30, 30] })) (by kernel_rfl) (by kernel_rfl) (by kernel_rfl) (fun _ _ h => h) (call2 (enters_of Tryd.func9 (by kernel_rfl) rfl) (argT (p := (isQ (numQ a0 b0 m0) 5)) (by kernel_rfl) (fun _ _ h => h)) (argT (p := (isQ (((numQ a0 b0 m0) + (numQ a1 b1 m1)) / ((2 : Int) : Rat)) ((5 + 5 + 1) + (max 1 1)))) (by kernel_rfl) (fun _ _ h => h)) (fun w u1 u2 h1 h2 => cmp_q h1 h2 (by omega) (by omega)) (fun _ _ h => h)),
      stepG (i := 9) (j := 5) (dj := 48) (b := true) (dst := some 52) (op := (.move (.tmp 15))) (by kernel_rfl) (by kernel_rfl) (by kernel_rfl) (fun _ _ h => h) (move (argO (p := (isE (.int .i64 (cmpQ (numQ a0 b0 m0) (numQ a1 b1 m1))))) (List.Mem.tail _ (List.Mem.tail _ (List.Mem.tail _ (List.Mem.tail _ (List.Mem.tail _ (List.Mem.head _)))))) (by kernel_rfl)) (fun _ _ h => h)),
      stepG (i := 10) (j := 5) (dj := 48) (b := true) (dst := some 53) (op := (.binOp .eql 3 (.tmp 51) (.tmp 52) 3)) (by kernel_rfl) (by kernel_rfl) (by kernel_rfl) (fun _ _ h => h) (eql (m := (cmpQ (numQ a0 b0 m0) (((numQ a0 b0 m0) + (numQ a1 b1 m1)) / ((2 : Int) : Rat)))) (n := (cmpQ (numQ a0 b0 m0) (numQ a1 b1 m1))) (argT (p := (isE (.int .i64 (cmpQ (numQ a0 b0 m0) (((numQ a0 b0 m0) + (numQ a1 b1 m1)) / ((2 : Int) : Rat)))))) (by kernel_rfl) (fun _ _ h => h)) (argT (p := (isE (.int .i64 (cmpQ (numQ a0 b0 m0) (numQ a1 b1 m1))))) (by kernel_rfl) (fun _ _ h => h)) (fun w v h => h.trans (congrArg Value.bool (decide_eq_true (mid_left _ _))))),
      stepN (i := 11) (dst := some 54) (op := (.pick (.tmp 48) (.tmp 53) (.const (.bool false)))) (by kernel_rfl) (pickT (argT (p := (isE (.bool true))) (by kernel_rfl) (fun _ _ h => h)) (argT (p := (isE (.bool true))) (by kernel_rfl) (fun _ _ h => h)) (fun _ _ h => h)),
      stepN (i := 12) (dst := some 55) (op := (.move (.tmp 54))) (by kernel_rfl) (move (argT (p := (isE (.bool true))) (by kernel_rfl) (fun _ _ h => h)) (fun _ _ h => h)),
      stepG (i := 13) (j := 12) (dj := 55) (b := true) (dst := some 56) (op := (.load 30 (.tmp 13))) (by kernel_rfl) (by kernel_rfl) (by kernel_rfl) (fun _ _ h => h) (loadV (List.Mem.tail _ (List.Mem.tail _ (List.Mem.tail _ (List.Mem.tail _ (List.Mem.tail _ (List.Mem.tail _ (List.Mem.tail _ (List.Mem.tail _ (List.Mem.tail _ (List.Mem.head _)))))))))) (by kernel_rfl) (fun _ _ h => h)),
      stepG (i := 14) (j := 12) (dj := 55) (b := true) (dst := some 57) (op := (.load 30 (.tmp 9))) (by kernel_rfl) (by kernel_rfl) (by kernel_rfl) (fun _ _ h => h) (loadV (List.Mem.tail _ (List.Mem.tail _ (List.Mem.tail _ (List.Mem.tail _ (List.Mem.tail _ (List.Mem.head _)))))) (by kernel_rfl) (fun _ _ h => h)),
      stepG (i := 15) (j := 12) (dj := 55) (b := true) (dst := some 58) (op := (.call { callee := .value (.func 9), args := #[(.tmp 56), (.tmp 57)], argTypes := #[30, 30] })) (by kernel_rfl) (by kernel_rfl) (by kernel_rfl) (fun _ _ h => h) (call2 (enters_of Tryd.func9 (by kernel_rfl) rfl) (argT (p := (isQ (((numQ a0 b0 m0) + (numQ a1 b1 m1)) / ((2 : Int) : Rat)) ((5 + 5 + 1) + (max 1 1)))) (by kernel_rfl) (fun _ _ h => h)) (argT (p := (isQ (numQ a1 b1 m1) 5)) (by kernel_rfl) (fun _ _ h => h)) (fun w u1 u2 h1 h2 => cmp_q h1 h2 (by omega) (by omega)) (fun _ _ h => h)),
      stepG (i := 16) (j := 12) (dj := 55) (b := true) (dst := some 59) (op := (.move (.tmp 15))) (by kernel_rfl) (by kernel_rfl) (by kernel_rfl) (fun _ _ h => h) (move (argO (p := (isE (.int .i64 (cmpQ (numQ a0 b0 m0) (numQ a1 b1 m1))))) (List.Mem.tail _ (List.Mem.tail _ (List.Mem.tail _ (List.Mem.tail _ (List.Mem.tail _ (List.Mem.head _)))))) (by kernel_rfl)) (fun _ _ h => h)),
      stepG (i := 17) (j := 12) (dj := 55) (b := true) (dst := some 60) (op := (.binOp .eql 3 (.tmp 58) (.tmp 59) 3)) (by kernel_rfl) (by kernel_rfl) (by kernel_rfl) (fun _ _ h => h) (eql (m := (cmpQ (((numQ a0 b0 m0) + (numQ a1 b1 m1)) / ((2 : Int) : Rat)) (numQ a1 b1 m1))) (n := (cmpQ (numQ a0 b0 m0) (numQ a1 b1 m1))) (argT (p := (isE (.int .i64 (cmpQ (((numQ a0 b0 m0) + (numQ a1 b1 m1)) / ((2 : Int) : Rat)) (numQ a1 b1 m1))))) (by kernel_rfl) (fun _ _ h => h)) (argT (p := (isE (.int .i64 (cmpQ (numQ a0 b0 m0) (numQ a1 b1 m1))))) (by kernel_rfl) (fun _ _ h => h)) (fun w v h => h.trans (congrArg Value.bool (decide_eq_true (mid_right _ _))))),
      stepN (i := 18) (dst := some 61) (op := (.pick (.tmp 55) (.tmp 60) (.const (.bool false)))) (by kernel_rfl) (pickT (argT (p := (isE (.bool true))) (by kernel_rfl) (fun _ _ h => h)) (argT (p := (isE (.bool true))) (by kernel_rfl) (fun _ _ h => h)) (fun _ _ h => h)),
      stepN (i := 19) (dst := some 62) (op := (.move (.tmp 61))) (by kernel_rfl) (move (argT (p := (isE (.bool true))) (by kernel_rfl) (fun _ _ h => h)) (fun _ _ h => h)),
      stepG (i := 20) (j := 19) (dj := 62) (b := true) (dst := some 63) (op := (.load 30 (.tmp 7))) (by kernel_rfl) (by kernel_rfl) (by kernel_rfl) (fun _ _ h => h) (loadV (List.Mem.tail _ (List.Mem.tail _ (List.Mem.tail _ (List.Mem.head _)))) (by kernel_rfl) (fun _ _ h => h)),
      stepG (i := 21) (j := 19) (dj := 62) (b := true) (dst := some 64) (op := (.load 30 (.tmp 11))) (by kernel_rfl) (by kernel_rfl) (by kernel_rfl) (fun _ _ h => h) (loadV (List.Mem.tail _ (List.Mem.tail _ (List.Mem.tail _ (List.Mem.tail _ (List.Mem.tail _ (List.Mem.tail _ (List.Mem.tail _ (List.Mem.head _)))))))) (by kernel_rfl) (fun _ _ h => h)),
      stepG (i := 22) (j := 19) (dj := 62) (b := true) (dst := some 65) (op := (.call { callee := .value (.func 7), args := #[(.tmp 63), (.tmp 64)], argTypes := #[30, 30] })) (by kernel_rfl) (by kernel_rfl) (by kernel_rfl) (fun _ _ h => h) (call2 (enters_of Tryd.func7 (by kernel_rfl) rfl) (argT (p := (isQ (numQ a0 b0 m0) 5)) (by kernel_rfl) (fun _ _ h => h)) (argT (p := (isQ (numQ a2 b2 m2) 5)) (by kernel_rfl) (fun _ _ h => h)) (fun w u1 u2 h1 h2 => add_q h1 h2 (by omega) (by omega)) (fun _ _ h => h)),
      stepG (i := 23) (j := 19) (dj := 62) (b := true) (dst := some 66) (op := (.load 30 (.tmp 9))) (by kernel_rfl) (by kernel_rfl) (by kernel_rfl) (fun _ _ h => h) (loadV (List.Mem.tail _ (List.Mem.tail _ (List.Mem.tail _ (List.Mem.tail _ (List.Mem.tail _ (List.Mem.head _)))))) (by kernel_rfl) (fun _ _ h => h)),
      stepG (i := 24) (j := 19) (dj := 62) (b := true) (dst := some 67) (op := (.load 30 (.tmp 11))) (by kernel_rfl) (by kernel_rfl) (by kernel_rfl) (fun _ _ h => h) (loadV (List.Mem.tail _ (List.Mem.tail _ (List.Mem.tail _ (List.Mem.tail _ (List.Mem.tail _ (List.Mem.tail _ (List.Mem.tail _ (List.Mem.head _)))))))) (by kernel_rfl) (fun _ _ h => h)),
      stepG (i := 25) (j := 19) (dj := 62) (b := true) (dst := some 68) (op := (.call { callee := .value (.func 7), args := #[(.tmp 66), (.tmp 67)], argTypes := #[30, 30] })) (by kernel_rfl) (by kernel_rfl) (by kernel_rfl) (fun _ _ h => h) (call2 (enters_of Tryd.func7 (by kernel_rfl) rfl) (argT (p := (isQ (numQ a1 b1 m1) 5)) (by kernel_rfl) (fun _ _ h => h)) (argT (p := (isQ (numQ a2 b2 m2) 5)) (by kernel_rfl) (fun _ _ h => h)) (fun w u1 u2 h1 h2 => add_q h1 h2 (by omega) (by omega)) (fun _ _ h => h)),
      stepG (i := 26) (j := 19) (dj := 62) (b := true) (dst := some 69) (op := (.call { callee := .value (.func 9), args := #[(.tmp 65), (.tmp 68)], argTypes := #[30, 30] })) (by kernel_rfl) (by kernel_rfl) (by kernel_rfl) (fun _ _ h => h) (call2 (enters_of Tryd.func9 (by kernel_rfl) rfl) (argT (p := (isQ ((numQ a0 b0 m0) + (numQ a2 b2 m2)) (5 + 5 + 1))) (by kernel_rfl) (fun _ _ h => h)) (argT (p := (isQ ((numQ a1 b1 m1) + (numQ a2 b2 m2)) (5 + 5 + 1))) (by kernel_rfl) (fun _ _ h => h)) (fun w u1 u2 h1 h2 => cmp_q h1 h2 (by omega) (by omega)) (fun _ _ h => h)),
      stepG (i := 27) (j := 19) (dj := 62) (b := true) (dst := some 70) (op := (.move (.tmp 15))) (by kernel_rfl) (by kernel_rfl) (by kernel_rfl) (fun _ _ h => h) (move (argO (p := (isE (.int .i64 (cmpQ (numQ a0 b0 m0) (numQ a1 b1 m1))))) (List.Mem.tail _ (List.Mem.tail _ (List.Mem.tail _ (List.Mem.tail _ (List.Mem.tail _ (List.Mem.head _)))))) (by kernel_rfl)) (fun _ _ h => h)),
      stepG (i := 28) (j := 19) (dj := 62) (b := true) (dst := some 71) (op := (.binOp .eql 3 (.tmp 69) (.tmp 70) 3)) (by kernel_rfl) (by kernel_rfl) (by kernel_rfl) (fun _ _ h => h) (eql (m := (cmpQ ((numQ a0 b0 m0) + (numQ a2 b2 m2)) ((numQ a1 b1 m1) + (numQ a2 b2 m2)))) (n := (cmpQ (numQ a0 b0 m0) (numQ a1 b1 m1))) (argT (p := (isE (.int .i64 (cmpQ ((numQ a0 b0 m0) + (numQ a2 b2 m2)) ((numQ a1 b1 m1) + (numQ a2 b2 m2)))))) (by kernel_rfl) (fun _ _ h => h)) (argT (p := (isE (.int .i64 (cmpQ (numQ a0 b0 m0) (numQ a1 b1 m1))))) (by kernel_rfl) (fun _ _ h => h)) (fun w v h => h.trans (congrArg Value.bool (decide_eq_true (cmp_add _ _ _))))),
      stepN (i := 29) (dst := some 72) (op := (.pick (.tmp 62) (.tmp 71) (.const (.bool false)))) (by kernel_rfl) (pickT (argT (p := (isE (.bool true))) (by kernel_rfl) (fun _ _ h => h)) (argT (p := (isE (.bool true))) (by kernel_rfl) (fun _ _ h => h)) (fun _ _ h => h)),
      stepN (i := 30) (dst := some 73) (op := (.move (.tmp 72))) (by kernel_rfl) (move (argT (p := (isE (.bool true))) (by kernel_rfl) (fun _ _ h => h)) (fun _ _ h => h)),
      stepG (i := 31) (j := 30) (dj := 73) (b := true) (dst := some 74) (op := (.load 30 (.tmp 7))) (by kernel_rfl) (by kernel_rfl) (by kernel_rfl) (fun _ _ h => h) (loadV (List.Mem.tail _ (List.Mem.tail _ (List.Mem.tail _ (List.Mem.head _)))) (by kernel_rfl) (fun _ _ h => h)),
      stepG (i := 32) (j := 30) (dj := 73) (b := true) (dst := some 75) (op := (.call { callee := .value (.func 19), args := #[(.tmp 74)], argTypes := #[30] })) (by kernel_rfl) (by kernel_rfl) (by kernel_rfl) (fun _ _ h => h) (call1 (enters_of Tryd.func19 (by kernel_rfl) rfl) (argT (p := (isQ (numQ a0 b0 m0) 5)) (by kernel_rfl) (fun _ _ h => h)) (fun w u1 h1 => neg_q h1) (fun _ _ h => h)),
      stepG (i := 33) (j := 30) (dj := 73) (b := true) (dst := some 76) (op := (.load 30 (.tmp 9))) (by kernel_rfl) (by kernel_rfl) (by kernel_rfl) (fun _ _ h => h) (loadV (List.Mem.tail _ (List.Mem.tail _ (List.Mem.tail _ (List.Mem.tail _ (List.Mem.tail _ (List.Mem.head _)))))) (by kernel_rfl) (fun _ _ h => h)),
      stepG (i := 34) (j := 30) (dj := 73) (b := true) (dst := some 77) (op := (.call { callee := .value (.func 19), args := #[(.tmp 76)], argTypes := #[30] })) (by kernel_rfl) (by kernel_rfl) (by kernel_rfl) (fun _ _ h => h) (call1 (enters_of Tryd.func19 (by kernel_rfl) rfl) (argT (p := (isQ (numQ a1 b1 m1) 5)) (by kernel_rfl) (fun _ _ h => h)) (fun w u1 h1 => neg_q h1) (fun _ _ h => h)),
      stepG (i := 35) (j := 30) (dj := 73) (b := true) (dst := some 78) (op := (.call { callee := .value (.func 9), args := #[(.tmp 75), (.tmp 77)], argTypes := #[30, 30] })) (by kernel_rfl) (by kernel_rfl) (by kernel_rfl) (fun _ _ h => h) (call2 (enters_of Tryd.func9 (by kernel_rfl) rfl) (argT (p := (isQ (-(numQ a0 b0 m0)) 5)) (by kernel_rfl) (fun _ _ h => h)) (argT (p := (isQ (-(numQ a1 b1 m1)) 5)) (by kernel_rfl) (fun _ _ h => h)) (fun w u1 u2 h1 h2 => cmp_q h1 h2 (by omega) (by omega)) (fun _ _ h => h)),
      stepG (i := 36) (j := 30) (dj := 73) (b := true) (dst := some 79) (op := (.move (.tmp 15))) (by kernel_rfl) (by kernel_rfl) (by kernel_rfl) (fun _ _ h => h) (move (argO (p := (isE (.int .i64 (cmpQ (numQ a0 b0 m0) (numQ a1 b1 m1))))) (List.Mem.tail _ (List.Mem.tail _ (List.Mem.tail _ (List.Mem.tail _ (List.Mem.tail _ (List.Mem.head _)))))) (by kernel_rfl)) (fun _ _ h => h)),
      stepG (i := 37) (j := 30) (dj := 73) (b := true) (dst := some 80) (op := (.unOp .neg 3 (.tmp 79))) (by kernel_rfl) (by kernel_rfl) (by kernel_rfl) (fun _ _ h => h) (negI (m := (cmpQ (numQ a0 b0 m0) (numQ a1 b1 m1))) (argT (p := (isE (.int .i64 (cmpQ (numQ a0 b0 m0) (numQ a1 b1 m1))))) (by kernel_rfl) (fun _ _ h => h)) (neg_wrap _ _) (fun _ _ h => h)),
      stepG (i := 38) (j := 30) (dj := 73) (b := true) (dst := some 81) (op := (.binOp .eql 3 (.tmp 78) (.tmp 80) 3)) (by kernel_rfl) (by kernel_rfl) (by kernel_rfl) (fun _ _ h => h) (eql (m := (cmpQ (-(numQ a0 b0 m0)) (-(numQ a1 b1 m1)))) (n := (-(cmpQ (numQ a0 b0 m0) (numQ a1 b1 m1)))) (argT (p := (isE (.int .i64 (cmpQ (-(numQ a0 b0 m0)) (-(numQ a1 b1 m1)))))) (by kernel_rfl) (fun _ _ h => h)) (argT (p := (isE (.int .i64 (-(cmpQ (numQ a0 b0 m0) (numQ a1 b1 m1)))))) (by kernel_rfl) (fun _ _ h => h)) (fun w v h => h.trans (congrArg Value.bool (decide_eq_true (cmp_neg _ _))))),
      stepN (i := 39) (dst := some 82) (op := (.pick (.tmp 73) (.tmp 81) (.const (.bool false)))) (by kernel_rfl) (pickT (argT (p := (isE (.bool true))) (by kernel_rfl) (fun _ _ h => h)) (argT (p := (isE (.bool true))) (by kernel_rfl) (fun _ _ h => h)) (fun _ _ h => h)),
      stepN (i := 40) (dst := some 83) (op := (.move (.tmp 82))) (by kernel_rfl) (move (argT (p := (isE (.bool true))) (by kernel_rfl) (fun _ _ h => h)) (fun _ _ h => h)),
      stepG (i := 41) (j := 40) (dj := 83) (b := true) (dst := some 84) (op := (.load 30 (.tmp 7))) (by kernel_rfl) (by kernel_rfl) (by kernel_rfl) (fun _ _ h => h) (loadV (List.Mem.tail _ (List.Mem.tail _ (List.Mem.tail _ (List.Mem.head _)))) (by kernel_rfl) (fun _ _ h => h)),
      stepG (i := 42) (j := 40) (dj := 83) (b := true) (dst := some 85) (op := (.load 30 (.tmp 7))) (by kernel_rfl) (by kernel_rfl) (by kernel_rfl) (fun _ _ h => h) (loadV (List.Mem.tail _ (List.Mem.tail _ (List.Mem.tail _ (List.Mem.head _)))) (by kernel_rfl) (fun _ _ h => h)),
      stepG (i := 43) (j := 40) (dj := 83) (b := true) (dst := some 86) (op := (.call { callee := .value (.func 10), args := #[(.tmp 84), (.tmp 85)], argTypes := #[30, 30] })) (by kernel_rfl) (by kernel_rfl) (by kernel_rfl) (fun _ _ h => h) (call2 (enters_of Tryd.func10 (by kernel_rfl) rfl) (argT (p := (isQ (numQ a0 b0 m0) 5)) (by kernel_rfl) (fun _ _ h => h)) (argT (p := (isQ (numQ a0 b0 m0) 5)) (by kernel_rfl) (fun _ _ h => h)) (fun w u1 u2 h1 h2 => mul_q h1 h2 (by omega) (by omega)) (fun _ _ h => h)),
      stepG (i := 44) (j := 40) (dj := 83) (b := true) (dst := some 87) (op := (.call { callee := .value (.func 11), args := #[(.tmp 86)], argTypes := #[30] })) (by kernel_rfl) (by kernel_rfl) (by kernel_rfl) (fun _ _ h => h) (call1 (enters_of Tryd.func11 (by kernel_rfl) rfl) (argT (p := (isQ ((numQ a0 b0 m0) * (numQ a0 b0 m0)) (5 + 5))) (by kernel_rfl) (fun _ _ h => h)) (fun w u1 h1 => sign_q h1) (fun _ _ h => h)),
      stepG (i := 45) (j := 40) (dj := 83) (b := true) (dst := some 88) (op := (.binOp .geq 3 (.tmp 87) (.const (.int .i64 0)) 3)) (by kernel_rfl) (by kernel_rfl) (by kernel_rfl) (fun _ _ h => h) (geq (m := (Int.sign (((numQ a0 b0 m0) * (numQ a0 b0 m0)).num))) (n := 0) (argT (p := (isE (.int .i64 (Int.sign (((numQ a0 b0 m0) * (numQ a0 b0 m0)).num))))) (by kernel_rfl) (fun _ _ h => h)) (argC (.int .i64 0)) (fun w v h => h.trans (congrArg Value.bool (decide_eq_true (mul_self_sign _))))),
      stepN (i := 46) (dst := some 89) (op := (.pick (.tmp 83) (.tmp 88) (.const (.bool false)))) (by kernel_rfl) (pickT (argT (p := (isE (.bool true))) (by kernel_rfl) (fun _ _ h => h)) (argT (p := (isE (.bool true))) (by kernel_rfl) (fun _ _ h => h)) (fun _ _ h => h)),
      stepN (i := 47) (dst := some 6) (op := (.assign (.tmp 89))) (by kernel_rfl) (assign (argT (p := (isE (.bool true))) (by kernel_rfl) (fun _ _ h => h)) (fun _ _ h => h)), trivial⟩) ?_
  clear hS kf ac
  try clear w
  intro kf ac w hS
  exact wp_ret (ret_t (q := (isE (.bool true))) (by kernel_rfl) hS (List.Mem.tail _ (List.Mem.tail _ (List.Mem.tail _ (List.Mem.tail _ (List.Mem.tail _ (List.Mem.head _)))))) (fun v h => ⟨v, rfl, (h), hS.grow⟩))
end Go.Proofs.YtlkiikchjeapfaaDoor.Z
