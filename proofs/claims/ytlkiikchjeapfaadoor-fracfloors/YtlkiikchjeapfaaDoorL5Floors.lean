/- The law FracFloors. Written by a script (tools/laws). -/
import Derived.Test.YtlkiikchjeapfaaDoorFrH
namespace Go.Proofs.YtlkiikchjeapfaaDoor.Z
open Go.RowKit Go.Proofs.YtlkiikchjeapfaaDoor.Rg
set_option maxRecDepth 100000 in
set_option maxHeartbeats 4000000 in
theorem floors5 {w : World} {v0 v1 : Value} {a0 b0 : List Nat} {m0 : Bool} {n : Int} (h0 : (isM a0 b0 m0) w v0) (h1 : (isE (.int .i64 n)) w v1) (hn1 : -9223372036854775808 ≤ n) (hn2 : n ≤ 9223372036854775807) : Calls Tryd.prog 4 #[v0, v1] w (Ret w fun v w' => (isE (.bool true)) w' v) := by
  refine enter (s := soft) (n := 47) (c := (.seq (.region 0 (regionOps Tryd.f4 0) false) (.seq (.region 1 (regionOps Tryd.f4 1) false) (.seq (.region 2 (regionOps Tryd.f4 2) false) (.seq (.region 3 (regionOps Tryd.f4 3) false) (.seq (.region 4 (regionOps Tryd.f4 4) true) .ret)))))) Tryd.func4 (by kernel_rfl) (by kernel_rfl) (by simp) [(0, (isM a0 b0 m0)), (1, (isE (.int .i64 n)))] ⟨⟨by simp, h0⟩, ⟨by simp, h1⟩, trivial⟩ ?_
  intro kf ac hS
  refine plain_seq (m := 2) (by kernel_rfl) ?_
  refine box0 (p := 2) (y := 0) (t := 24) (q := (isM a0 b0 m0)) hS (by kernel_rfl) rfl rfl rfl (List.Mem.head _) shM trivial ⟨(stb_M _ _ _), (stb_eq _), trivial⟩ ?_
  clear hS kf ac
  try clear w
  intro kf ac w hS
  refine const0 (p := 4) (c := (.bool false)) hS (by kernel_rfl) rfl rfl rfl ?_
  clear hS kf ac
  try clear w
  intro kf ac w hS
  refine plain_end ?_
  refine region_seq (s := soft) (kf0 := kf) (by kernel_rfl) hS (Rg.look [(10, (isM a0 b0 m0)),
      (11, (IsT [(isQ (numQ a0 b0 m0) 5), (isR (numQ a0 b0 m0) 32)])),
      (9, (IsT [(isQ (numQ a0 b0 m0) 5), (isR (numQ a0 b0 m0) 32)])),
      (12, (isQ (numQ a0 b0 m0) 5)),
      (13, (isR (numQ a0 b0 m0) 32)),
      (5, isX),
      (6, isX)])
    ⟨[(5, 5, 30), (6, 6, 35)], [(7, 5, 12, 30), (8, 6, 13, 35)]⟩ [⟨2, 24, (isM a0 b0 m0)⟩, ⟨5, 30, (isQ (numQ a0 b0 m0) 5)⟩, ⟨6, 35, (isR (numQ a0 b0 m0) 32)⟩] [(4, (isE (.bool false))), (0, (isM a0 b0 m0)), (1, (isE (.int .i64 n)))] (by kernel_rfl) (by kernel_rfl) (look_stb _ ⟨(stb_M _ _ _), (stb_T ⟨(stb_Q _ _), (stb_R _ _), trivial⟩), (stb_T ⟨(stb_Q _ _), (stb_R _ _), trivial⟩), (stb_Q _ _), (stb_R _ _), stb_true, stb_true, trivial⟩) ⟨(stb_M _ _ _), trivial⟩ ⟨(stb_eq _), (stb_M _ _ _), (stb_eq _), trivial⟩ ⟨fun _ _ => trivial, fun _ _ => trivial, trivial⟩ ⟨shQ, shR, trivial⟩
    ⟨.inr (.inl ⟨rfl, _, (List.Mem.head _), rfl, rfl, (fun _ _ h => h)⟩), .inl ⟨_, (List.Mem.head _), rfl, rfl, (fun _ _ h => h)⟩, .inl ⟨_, (List.Mem.tail _ (List.Mem.head _)), rfl, rfl, (fun _ _ h => h)⟩, trivial⟩
    ⟨.inr ⟨(by kernel_rfl), _, (List.Mem.head _), rfl, (fun _ _ h => h)⟩, .inr ⟨(by kernel_rfl), _, (List.Mem.tail _ (List.Mem.head _)), rfl, (fun _ _ h => h)⟩, .inr ⟨(by kernel_rfl), _, (List.Mem.tail _ (List.Mem.tail _ (List.Mem.head _))), rfl, (fun _ _ h => h)⟩, trivial⟩
    (steps (m := 9) (by kernel_rfl) ⟨stepN (i := 0) (dst := some 10) (op := (.load 24 (.tmp 2))) (by kernel_rfl) (loadV (List.Mem.head _) (by kernel_rfl) (fun _ _ h => h)),
      stepN (i := 1) (dst := some 11) (op := (.call { callee := .value (.func 6), args := #[(.tmp 10)], argTypes := #[24] })) (by kernel_rfl) (call1 (enters_of Tryd.func6 (by kernel_rfl) rfl) (argT (p := (isM a0 b0 m0)) (by kernel_rfl) (fun _ _ h => h)) (fun w u1 h1 => num_m h1) (fun _ _ h => h)),
      stepN (i := 2) (dst := some 9) (op := (.move (.tmp 11))) (by kernel_rfl) (move (argT (p := (IsT [(isQ (numQ a0 b0 m0) 5), (isR (numQ a0 b0 m0) 32)])) (by kernel_rfl) (fun _ _ h => h)) (fun _ _ h => h)),
      stepN (i := 3) (dst := some 12) (op := (.extract (.tmp 9) 0)) (by kernel_rfl) (extract (by kernel_rfl) (fun _ _ h => h) rfl (fun _ _ h => h)),
      stepN (i := 4) (dst := some 13) (op := (.extract (.tmp 9) 1)) (by kernel_rfl) (extract (by kernel_rfl) (fun _ _ h => h) rfl (fun _ _ h => h)),
      isAlloc rfl,
      isAlloc rfl,
      isStore rfl,
      isStore rfl, trivial⟩) ?_
  clear hS kf ac
  try clear w
  intro kf ac w hS
  refine region_seq (s := soft) (kf0 := kf) (by kernel_rfl) hS (Rg.look [(14, (isQ (numQ a0 b0 m0) 5)),
      (15, (isW (Rat.floor (numQ a0 b0 m0)) (max 5 1 + 1))),
      (7, isX)])
    ⟨[(2, 7, 28)], [(3, 7, 15, 28)]⟩ [⟨2, 24, (isM a0 b0 m0)⟩, ⟨5, 30, (isQ (numQ a0 b0 m0) 5)⟩, ⟨6, 35, (isR (numQ a0 b0 m0) 32)⟩, ⟨7, 28, (isW (Rat.floor (numQ a0 b0 m0)) (max 5 1 + 1))⟩] [(4, (isE (.bool false))), (0, (isM a0 b0 m0)), (1, (isE (.int .i64 n)))] (by kernel_rfl) (by kernel_rfl) (look_stb _ ⟨(stb_Q _ _), (stb_W _ _), stb_true, trivial⟩) ⟨(stb_M _ _ _), (stb_Q _ _), (stb_R _ _), trivial⟩ ⟨(stb_eq _), (stb_M _ _ _), (stb_eq _), trivial⟩ ⟨fun _ _ => trivial, trivial⟩ ⟨shW, trivial⟩
    ⟨.inr (.inl ⟨rfl, _, (List.Mem.head _), rfl, rfl, (fun _ _ h => h)⟩), .inr (.inl ⟨rfl, _, (List.Mem.tail _ (List.Mem.head _)), rfl, rfl, (fun _ _ h => h)⟩), .inr (.inl ⟨rfl, _, (List.Mem.tail _ (List.Mem.tail _ (List.Mem.head _))), rfl, rfl, (fun _ _ h => h)⟩), .inl ⟨_, (List.Mem.head _), rfl, rfl, (fun _ _ h => h)⟩, trivial⟩
    ⟨.inr ⟨(by kernel_rfl), _, (List.Mem.head _), rfl, (fun _ _ h => h)⟩, .inr ⟨(by kernel_rfl), _, (List.Mem.tail _ (List.Mem.head _)), rfl, (fun _ _ h => h)⟩, .inr ⟨(by kernel_rfl), _, (List.Mem.tail _ (List.Mem.tail _ (List.Mem.head _))), rfl, (fun _ _ h => h)⟩, trivial⟩
    (steps (m := 4) (by kernel_rfl) ⟨stepN (i := 0) (dst := some 14) (op := (.load 30 (.tmp 5))) (by kernel_rfl) (loadV (List.Mem.tail _ (List.Mem.head _)) (by kernel_rfl) (fun _ _ h => h)),
      stepN (i := 1) (dst := some 15) (op := (.call { callee := .value (.func 14), args := #[(.tmp 14)], argTypes := #[30] })) (by kernel_rfl) (call1 (enters_of Tryd.func14 (by kernel_rfl) rfl) (argT (p := (isQ (numQ a0 b0 m0) 5)) (by kernel_rfl) (fun _ _ h => h)) (fun w u1 h1 => floor_q h1 (by omega)) (fun _ _ h => h)),
      isAlloc rfl,
      isStore rfl, trivial⟩) ?_
  clear hS kf ac
  try clear w
  intro kf ac w hS
  refine region_seq (s := soft) (kf0 := kf) (by kernel_rfl) hS (Rg.look [(16, (isE (.int .i64 n))),
      (17, (isW n 1)),
      (8, isX)])
    ⟨[(2, 8, 28)], [(3, 8, 17, 28)]⟩ [⟨2, 24, (isM a0 b0 m0)⟩, ⟨5, 30, (isQ (numQ a0 b0 m0) 5)⟩, ⟨6, 35, (isR (numQ a0 b0 m0) 32)⟩, ⟨7, 28, (isW (Rat.floor (numQ a0 b0 m0)) (max 5 1 + 1))⟩, ⟨8, 28, (isW n 1)⟩] [(4, (isE (.bool false))), (0, (isM a0 b0 m0)), (1, (isE (.int .i64 n)))] (by kernel_rfl) (by kernel_rfl) (look_stb _ ⟨(stb_eq _), (stb_W _ _), stb_true, trivial⟩) ⟨(stb_M _ _ _), (stb_Q _ _), (stb_R _ _), (stb_W _ _), trivial⟩ ⟨(stb_eq _), (stb_M _ _ _), (stb_eq _), trivial⟩ ⟨fun _ _ => trivial, trivial⟩ ⟨shW, trivial⟩
    ⟨.inr (.inl ⟨rfl, _, (List.Mem.head _), rfl, rfl, (fun _ _ h => h)⟩), .inr (.inl ⟨rfl, _, (List.Mem.tail _ (List.Mem.head _)), rfl, rfl, (fun _ _ h => h)⟩), .inr (.inl ⟨rfl, _, (List.Mem.tail _ (List.Mem.tail _ (List.Mem.head _))), rfl, rfl, (fun _ _ h => h)⟩), .inr (.inl ⟨rfl, _, (List.Mem.tail _ (List.Mem.tail _ (List.Mem.tail _ (List.Mem.head _)))), rfl, rfl, (fun _ _ h => h)⟩), .inl ⟨_, (List.Mem.head _), rfl, rfl, (fun _ _ h => h)⟩, trivial⟩
    ⟨.inr ⟨(by kernel_rfl), _, (List.Mem.head _), rfl, (fun _ _ h => h)⟩, .inr ⟨(by kernel_rfl), _, (List.Mem.tail _ (List.Mem.head _)), rfl, (fun _ _ h => h)⟩, .inr ⟨(by kernel_rfl), _, (List.Mem.tail _ (List.Mem.tail _ (List.Mem.head _))), rfl, (fun _ _ h => h)⟩, trivial⟩
    (steps (m := 4) (by kernel_rfl) ⟨stepN (i := 0) (dst := some 16) (op := (.move (.tmp 1))) (by kernel_rfl) (move (argO (p := (isE (.int .i64 n))) (List.Mem.tail _ (List.Mem.tail _ (List.Mem.head _))) (by kernel_rfl)) (fun _ _ h => h)),
      stepN (i := 1) (dst := some 17) (op := (.call { callee := .value (.func 15), args := #[(.tmp 16)], argTypes := #[3] })) (by kernel_rfl) (call1 (enters_of Tryd.func15 (by kernel_rfl) rfl) (argT (p := (isE (.int .i64 n))) (by kernel_rfl) (fun _ _ h => h)) (fun w u1 h1 => by subst h1; exact from_w _ _ (by omega) (by omega)) (fun _ _ h => h)),
      isAlloc rfl,
      isStore rfl, trivial⟩) ?_
  clear hS kf ac
  try clear w
  intro kf ac w hS
  refine region_seq (s := soft) (kf0 := kf) (by kernel_rfl) hS (Rg.look [(18, (isE (.bool true))),
      (19, (isE (.bool true))),
      (20, (isW (Rat.floor (numQ a0 b0 m0)) (max 5 1 + 1))),
      (21, (isQ ((Rat.floor (numQ a0 b0 m0) : Int) : Rat) (max (max 5 1 + 1) 1))),
      (22, (isQ (numQ a0 b0 m0) 5)),
      (23, (isE (.int .i64 (cmpQ ((Rat.floor (numQ a0 b0 m0) : Int) : Rat) (numQ a0 b0 m0))))),
      (24, (isE (.bool true))),
      (25, (isE (.bool true))),
      (26, (isE (.bool true))),
      (27, (isW (Rat.floor (numQ a0 b0 m0)) (max 5 1 + 1))),
      (28, (isW 1 1)),
      (29, (isW ((Rat.floor (numQ a0 b0 m0)) + 1) ((max (max 5 1 + 1) 1) + 1))),
      (30, (isQ (((Rat.floor (numQ a0 b0 m0)) + 1 : Int) : Rat) (max ((max (max 5 1 + 1) 1) + 1) 1))),
      (31, (isQ (numQ a0 b0 m0) 5)),
      (32, (isE (.int .i64 (cmpQ (((Rat.floor (numQ a0 b0 m0)) + 1 : Int) : Rat) (numQ a0 b0 m0))))),
      (33, (isE (.bool true))),
      (34, (isE (.bool true))),
      (35, (isE (.bool true))),
      (36, (isQ (numQ a0 b0 m0) 5)),
      (37, (isW n 1)),
      (38, (isQ ((n : Int) : Rat) (max 1 1))),
      (39, (isQ ((numQ a0 b0 m0) + ((n : Int) : Rat)) (5 + (max 1 1) + 1))),
      (40, (isW (Rat.floor ((numQ a0 b0 m0) + ((n : Int) : Rat))) (max (5 + (max 1 1) + 1) 1 + 1))),
      (41, (isW (Rat.floor (numQ a0 b0 m0)) (max 5 1 + 1))),
      (42, (isW n 1)),
      (43, (isW ((Rat.floor (numQ a0 b0 m0)) + n) ((max (max 5 1 + 1) 1) + 1))),
      (44, (isE (.int .i64 (Int.sign ((Rat.floor ((numQ a0 b0 m0) + ((n : Int) : Rat))) - ((Rat.floor (numQ a0 b0 m0)) + n)))))),
      (45, (isE (.bool true))),
      (46, (isE (.bool true))),
      (4, (isE (.bool true)))])
    ⟨[], []⟩ [⟨2, 24, (isM a0 b0 m0)⟩, ⟨5, 30, (isQ (numQ a0 b0 m0) 5)⟩, ⟨6, 35, (isR (numQ a0 b0 m0) 32)⟩, ⟨7, 28, (isW (Rat.floor (numQ a0 b0 m0)) (max 5 1 + 1))⟩, ⟨8, 28, (isW n 1)⟩] [(0, (isM a0 b0 m0)), (1, (isE (.int .i64 n))), (4, (isE (.bool true)))] (by kernel_rfl) (by kernel_rfl) (look_stb _ ⟨(stb_eq _), (stb_eq _), (stb_W _ _), (stb_Q _ _), (stb_Q _ _), (stb_eq _), (stb_eq _), (stb_eq _), (stb_eq _), (stb_W _ _), (stb_W _ _), (stb_W _ _), (stb_Q _ _), (stb_Q _ _), (stb_eq _), (stb_eq _), (stb_eq _), (stb_eq _), (stb_Q _ _), (stb_W _ _), (stb_Q _ _), (stb_Q _ _), (stb_W _ _), (stb_W _ _), (stb_W _ _), (stb_W _ _), (stb_eq _), (stb_eq _), (stb_eq _), (stb_eq _), trivial⟩) ⟨(stb_M _ _ _), (stb_Q _ _), (stb_R _ _), (stb_W _ _), (stb_W _ _), trivial⟩ ⟨(stb_eq _), (stb_M _ _ _), (stb_eq _), trivial⟩ trivial trivial
    ⟨.inr (.inl ⟨rfl, _, (List.Mem.head _), rfl, rfl, (fun _ _ h => h)⟩), .inr (.inl ⟨rfl, _, (List.Mem.tail _ (List.Mem.head _)), rfl, rfl, (fun _ _ h => h)⟩), .inr (.inl ⟨rfl, _, (List.Mem.tail _ (List.Mem.tail _ (List.Mem.head _))), rfl, rfl, (fun _ _ h => h)⟩), .inr (.inl ⟨rfl, _, (List.Mem.tail _ (List.Mem.tail _ (List.Mem.tail _ (List.Mem.head _)))), rfl, rfl, (fun _ _ h => h)⟩), .inr (.inl ⟨rfl, _, (List.Mem.tail _ (List.Mem.tail _ (List.Mem.tail _ (List.Mem.tail _ (List.Mem.head _))))), rfl, rfl, (fun _ _ h => h)⟩), trivial⟩
    ⟨.inr ⟨(by kernel_rfl), _, (List.Mem.tail _ (List.Mem.head _)), rfl, (fun _ _ h => h)⟩, .inr ⟨(by kernel_rfl), _, (List.Mem.tail _ (List.Mem.tail _ (List.Mem.head _))), rfl, (fun _ _ h => h)⟩, .inl ⟨(by kernel_rfl), rfl, (fun _ _ h => h)⟩, trivial⟩
    (steps (m := 30) (by kernel_rfl) ⟨stepN (i := 0) (dst := some 18) (op := (.call { callee := .value (.func 12), args := #[], argTypes := #[] })) (by kernel_rfl) (call0 (enters_of Tryd.func12 (by kernel_rfl) rfl) (fun w => wakes5 w) (fun _ _ h => h)),
      stepN (i := 1) (dst := some 19) (op := (.move (.tmp 18))) (by kernel_rfl) (move (argT (p := (isE (.bool true))) (by kernel_rfl) (fun _ _ h => h)) (fun _ _ h => h)),
      stepG (i := 2) (j := 1) (dj := 19) (b := true) (dst := some 20) (op := (.load 28 (.tmp 7))) (by kernel_rfl) (by kernel_rfl) (by kernel_rfl) (fun _ _ h => h) (loadV (List.Mem.tail _ (List.Mem.tail _ (List.Mem.tail _ (List.Mem.head _)))) (by kernel_rfl) (fun _ _ h => h)),
      stepG (i := 3) (j := 1) (dj := 19) (b := true) (dst := some 21) (op := (.call { callee := .value (.func 16), args := #[(.tmp 20)], argTypes := #[28] })) (by kernel_rfl) (by kernel_rfl) (by kernel_rfl) (fun _ _ h => h) (call1 (enters_of Tryd.func16 (by kernel_rfl) rfl) (argT (p := (isW (Rat.floor (numQ a0 b0 m0)) (max 5 1 + 1))) (by kernel_rfl) (fun _ _ h => h)) (fun w u1 h1 => from_q h1) (fun _ _ h => h)),
      stepG (i := 4) (j := 1) (dj := 19) (b := true) (dst := some 22) (op := (.load 30 (.tmp 5))) (by kernel_rfl) (by kernel_rfl) (by kernel_rfl) (fun _ _ h => h) (loadV (List.Mem.tail _ (List.Mem.head _)) (by kernel_rfl) (fun _ _ h => h)),
      stepG (i := 5) (j := 1) (dj := 19) (b := true) (dst := some 23) (op := (.call { callee := .value (.func 9), args := #[(.tmp 21), (.tmp 22)], argTypes := #[30, 30] })) (by kernel_rfl) (by kernel_rfl) (by kernel_rfl) (fun _ _ h => h) (call2 (enters_of Tryd.func9 (by kernel_rfl) rfl) (argT (p := (isQ ((Rat.floor (numQ a0 b0 m0) : Int) : Rat) (max (max 5 1 + 1) 1))) (by kernel_rfl) (fun _ _ h => h)) (argT (p := (isQ (numQ a0 b0 m0) 5)) (by kernel_rfl) (fun _ _ h => h)) (fun w u1 u2 h1 h2 => cmp_q h1 h2 (by omega) (by omega)) (fun _ _ h => h)),
      stepG (i := 6) (j := 1) (dj := 19) (b := true) (dst := some 24) (op := (.binOp .leq 3 (.tmp 23) (.const (.int .i64 0)) 3)) (by kernel_rfl) (by kernel_rfl) (by kernel_rfl) (fun _ _ h => h) (leq (m := (cmpQ ((Rat.floor (numQ a0 b0 m0) : Int) : Rat) (numQ a0 b0 m0))) (n := 0) (argT (p := (isE (.int .i64 (cmpQ ((Rat.floor (numQ a0 b0 m0) : Int) : Rat) (numQ a0 b0 m0))))) (by kernel_rfl) (fun _ _ h => h)) (argC (.int .i64 0)) (fun w v h => h.trans (congrArg Value.bool (floor_le1 _)))),
      stepN (i := 7) (dst := some 25) (op := (.pick (.tmp 19) (.tmp 24) (.const (.bool false)))) (by kernel_rfl) (pickT (argT (p := (isE (.bool true))) (by kernel_rfl) (fun _ _ h => h)) (argT (p := (isE (.bool true))) (by kernel_rfl) (fun _ _ h => h)) (fun _ _ h => h)),
      stepN (i := 8) (dst := some 26) (op := (.move (.tmp 25))) (by kernel_rfl) (move (argT (p := (isE (.bool true))) (by kernel_rfl) (fun _ _ h => h)) (fun _ _ h => h)),
      stepG (i := 9) (j := 8) (dj := 26) (b := true) (dst := some 27) (op := (.load 28 (.tmp 7))) (by kernel_rfl) (by kernel_rfl) (by kernel_rfl) (fun _ _ h => h) (loadV (List.Mem.tail _ (List.Mem.tail _ (List.Mem.tail _ (List.Mem.head _)))) (by kernel_rfl) (fun _ _ h => h)),
      stepG (i := 10) (j := 8) (dj := 26) (b := true) (dst := some 28) (op := (.call { callee := .value (.func 15), args := #[(.const (.int .i64 1))], argTypes := #[3] })) (by kernel_rfl) (by kernel_rfl) (by kernel_rfl) (fun _ _ h => h) (call1 (enters_of Tryd.func15 (by kernel_rfl) rfl) (argC (.int .i64 1)) (fun w u1 h1 => by subst h1; exact from_w _ _ (by omega) (by omega)) (fun _ _ h => h)),
      stepG (i := 11) (j := 8) (dj := 26) (b := true) (dst := some 29) (op := (.call { callee := .value (.func 17), args := #[(.tmp 27), (.tmp 28)], argTypes := #[28, 28] })) (by kernel_rfl) (by kernel_rfl) (by kernel_rfl) (fun _ _ h => h) (call2 (enters_of Tryd.func17 (by kernel_rfl) rfl) (argT (p := (isW (Rat.floor (numQ a0 b0 m0)) (max 5 1 + 1))) (by kernel_rfl) (fun _ _ h => h)) (argT (p := (isW 1 1)) (by kernel_rfl) (fun _ _ h => h)) (fun w u1 u2 h1 h2 => add_w h1 h2 (by omega) (by omega)) (fun _ _ h => h)),
      stepG (i := 12) (j := 8) (dj := 26) (b := true) (dst := some 30) (op := (.call { callee := .value (.func 16), args := #[(.tmp 29)], argTypes := #[28] })) (by kernel_rfl) (by kernel_rfl) (by kernel_rfl) (fun _ _ h => h) (call1 (enters_of Tryd.func16 (by kernel_rfl) rfl) (argT (p := (isW ((Rat.floor (numQ a0 b0 m0)) + 1) ((max (max 5 1 + 1) 1) + 1))) (by kernel_rfl) (fun _ _ h => h)) (fun w u1 h1 => from_q h1) (fun _ _ h => h)),
      stepG (i := 13) (j := 8) (dj := 26) (b := true) (dst := some 31) (op := (.load 30 (.tmp 5))) (by kernel_rfl) (by kernel_rfl) (by kernel_rfl) (fun _ _ h => h) (loadV (List.Mem.tail _ (List.Mem.head _)) (by kernel_rfl) (fun _ _ h => h)),
      stepG (i := 14) (j := 8) (dj := 26) (b := true) (dst := some 32) (op := (.call { callee := .value (.func 9), args := #[(.tmp 30), (.tmp 31)], argTypes := #[30, 30] })) (by kernel_rfl) (by kernel_rfl) (by kernel_rfl) (fun _ _ h => h) (call2 (enters_of Tryd.func9 (by kernel_rfl) rfl) (argT (p := (isQ (((Rat.floor (numQ a0 b0 m0)) + 1 : Int) : Rat) (max ((max (max 5 1 + 1) 1) + 1) 1))) (by kernel_rfl) (fun _ _ h => h)) (argT (p := (isQ (numQ a0 b0 m0) 5)) (by kernel_rfl) (fun _ _ h => h)) (fun w u1 u2 h1 h2 => cmp_q h1 h2 (by omega) (by omega)) (fun _ _ h => h)),
      stepG (i := 15) (j := 8) (dj := 26) (b := true) (dst := some 33) (op := (.binOp .gtr 3 (.tmp 32) (.const (.int .i64 0)) 3)) (by kernel_rfl) (by kernel_rfl) (by kernel_rfl) (fun _ _ h => h) (gtr (m := (cmpQ (((Rat.floor (numQ a0 b0 m0)) + 1 : Int) : Rat) (numQ a0 b0 m0))) (n := 0) (argT (p := (isE (.int .i64 (cmpQ (((Rat.floor (numQ a0 b0 m0)) + 1 : Int) : Rat) (numQ a0 b0 m0))))) (by kernel_rfl) (fun _ _ h => h)) (argC (.int .i64 0)) (fun w v h => h.trans (congrArg Value.bool (floor_lt1 _)))),
      stepN (i := 16) (dst := some 34) (op := (.pick (.tmp 26) (.tmp 33) (.const (.bool false)))) (by kernel_rfl) (pickT (argT (p := (isE (.bool true))) (by kernel_rfl) (fun _ _ h => h)) (argT (p := (isE (.bool true))) (by kernel_rfl) (fun _ _ h => h)) (fun _ _ h => h)),
      stepN (i := 17) (dst := some 35) (op := (.move (.tmp 34))) (by kernel_rfl) (move (argT (p := (isE (.bool true))) (by kernel_rfl) (fun _ _ h => h)) (fun _ _ h => h)),
      stepG (i := 18) (j := 17) (dj := 35) (b := true) (dst := some 36) (op := (.load 30 (.tmp 5))) (by kernel_rfl) (by kernel_rfl) (by kernel_rfl) (fun _ _ h => h) (loadV (List.Mem.tail _ (List.Mem.head _)) (by kernel_rfl) (fun _ _ h => h)),
      stepG (i := 19) (j := 17) (dj := 35) (b := true) (dst := some 37) (op := (.load 28 (.tmp 8))) (by kernel_rfl) (by kernel_rfl) (by kernel_rfl) (fun _ _ h => h) (loadV (List.Mem.tail _ (List.Mem.tail _ (List.Mem.tail _ (List.Mem.tail _ (List.Mem.head _))))) (by kernel_rfl) (fun _ _ h => h)),
      stepG (i := 20) (j := 17) (dj := 35) (b := true) (dst := some 38) (op := (.call { callee := .value (.func 16), args := #[(.tmp 37)], argTypes := #[28] })) (by kernel_rfl) (by kernel_rfl) (by kernel_rfl) (fun _ _ h => h) (call1 (enters_of Tryd.func16 (by kernel_rfl) rfl) (argT (p := (isW n 1)) (by kernel_rfl) (fun _ _ h => h)) (fun w u1 h1 => from_q h1) (fun _ _ h => h)),
      stepG (i := 21) (j := 17) (dj := 35) (b := true) (dst := some 39) (op := (.call { callee := .value (.func 7), args := #[(.tmp 36), (.tmp 38)], argTypes := #[30, 30] })) (by kernel_rfl) (by kernel_rfl) (by kernel_rfl) (fun _ _ h => h) (call2 (enters_of Tryd.func7 (by kernel_rfl) rfl) (argT (p := (isQ (numQ a0 b0 m0) 5)) (by kernel_rfl) (fun _ _ h => h)) (argT (p := (isQ ((n : Int) : Rat) (max 1 1))) (by kernel_rfl) (fun _ _ h => h)) (fun w u1 u2 h1 h2 => add_q h1 h2 (by omega) (by omega)) (fun _ _ h => h)),
      stepG (i := 22) (j := 17) (dj := 35) (b := true) (dst := some 40) (op := (.call { callee := .value (.func 14), args := #[(.tmp 39)], argTypes := #[30] })) (by kernel_rfl) (by kernel_rfl) (by kernel_rfl) (fun _ _ h => h) (call1 (enters_of Tryd.func14 (by kernel_rfl) rfl) (argT (p := (isQ ((numQ a0 b0 m0) + ((n : Int) : Rat)) (5 + (max 1 1) + 1))) (by kernel_rfl) (fun _ _ h => h)) (fun w u1 h1 => floor_q h1 (by omega)) (fun _ _ h => h)),
      stepG (i := 23) (j := 17) (dj := 35) (b := true) (dst := some 41) (op := (.load 28 (.tmp 7))) (by kernel_rfl) (by kernel_rfl) (by kernel_rfl) (fun _ _ h => h) (loadV (List.Mem.tail _ (List.Mem.tail _ (List.Mem.tail _ (List.Mem.head _)))) (by kernel_rfl) (fun _ _ h => h)),
      stepG (i := 24) (j := 17) (dj := 35) (b := true) (dst := some 42) (op := (.load 28 (.tmp 8))) (by kernel_rfl) (by kernel_rfl) (by kernel_rfl) (fun _ _ h => h) (loadV (List.Mem.tail _ (List.Mem.tail _ (List.Mem.tail _ (List.Mem.tail _ (List.Mem.head _))))) (by kernel_rfl) (fun _ _ h => h)),
      stepG (i := 25) (j := 17) (dj := 35) (b := true) (dst := some 43) (op := (.call { callee := .value (.func 17), args := #[(.tmp 41), (.tmp 42)], argTypes := #[28, 28] })) (by kernel_rfl) (by kernel_rfl) (by kernel_rfl) (fun _ _ h => h) (call2 (enters_of Tryd.func17 (by kernel_rfl) rfl) (argT (p := (isW (Rat.floor (numQ a0 b0 m0)) (max 5 1 + 1))) (by kernel_rfl) (fun _ _ h => h)) (argT (p := (isW n 1)) (by kernel_rfl) (fun _ _ h => h)) (fun w u1 u2 h1 h2 => add_w h1 h2 (by omega) (by omega)) (fun _ _ h => h)),
      stepG (i := 26) (j := 17) (dj := 35) (b := true) (dst := some 44) (op := (.call { callee := .value (.func 18), args := #[(.tmp 40), (.tmp 43)], argTypes := #[28, 28] })) (by kernel_rfl) (by kernel_rfl) (by kernel_rfl) (fun _ _ h => h) (call2 (enters_of Tryd.func18 (by kernel_rfl) rfl) (argT (p := (isW (Rat.floor ((numQ a0 b0 m0) + ((n : Int) : Rat))) (max (5 + (max 1 1) + 1) 1 + 1))) (by kernel_rfl) (fun _ _ h => h)) (argT (p := (isW ((Rat.floor (numQ a0 b0 m0)) + n) ((max (max 5 1 + 1) 1) + 1))) (by kernel_rfl) (fun _ _ h => h)) (fun w u1 u2 h1 h2 => cmp_w h1 h2 (by omega) (by omega)) (fun _ _ h => h)),
      stepG (i := 27) (j := 17) (dj := 35) (b := true) (dst := some 45) (op := (.binOp .eql 3 (.tmp 44) (.const (.int .i64 0)) 3)) (by kernel_rfl) (by kernel_rfl) (by kernel_rfl) (fun _ _ h => h) (eql (m := (Int.sign ((Rat.floor ((numQ a0 b0 m0) + ((n : Int) : Rat))) - ((Rat.floor (numQ a0 b0 m0)) + n)))) (n := 0) (argT (p := (isE (.int .i64 (Int.sign ((Rat.floor ((numQ a0 b0 m0) + ((n : Int) : Rat))) - ((Rat.floor (numQ a0 b0 m0)) + n)))))) (by kernel_rfl) (fun _ _ h => h)) (argC (.int .i64 0)) (fun w v h => h.trans (congrArg Value.bool (floor_add1 _ _)))),
      stepN (i := 28) (dst := some 46) (op := (.pick (.tmp 35) (.tmp 45) (.const (.bool false)))) (by kernel_rfl) (pickT (argT (p := (isE (.bool true))) (by kernel_rfl) (fun _ _ h => h)) (argT (p := (isE (.bool true))) (by kernel_rfl) (fun _ _ h => h)) (fun _ _ h => h)),
      stepN (i := 29) (dst := some 4) (op := (.assign (.tmp 46))) (by kernel_rfl) (assign (argT (p := (isE (.bool true))) (by kernel_rfl) (fun _ _ h => h)) (fun _ _ h => h)), trivial⟩) ?_
  clear hS kf ac
  try clear w
  intro kf ac w hS
  exact wp_ret (ret_t (q := (isE (.bool true))) (by kernel_rfl) hS (List.Mem.tail _ (List.Mem.tail _ (List.Mem.head _))) (fun v h => ⟨v, rfl, (h), hS.grow⟩))
end Go.Proofs.YtlkiikchjeapfaaDoor.Z
