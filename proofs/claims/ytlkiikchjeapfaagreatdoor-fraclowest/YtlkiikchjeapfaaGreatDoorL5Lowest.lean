/- The law FracLowest. Written by a script (tools/laws). -/
import Derived.Test.YtlkiikchjeapfaaGreatDoorFrH
namespace Go.Proofs.YtlkiikchjeapfaaGreatDoor.Z
open Go.RowKit Go.Proofs.YtlkiikchjeapfaaGreatDoor.Rg
set_option maxRecDepth 100000 in
set_option maxHeartbeats 4000000 in
theorem lowest5_11 {w : World} {v0 v1 v2 : Value} {a0 b0 : List Nat} {m0 : Bool} {l : List Nat} {m : Bool} (h0 : (isM a0 b0 m0) w v0) (h1 : (isS l) w v1) (h2 : (isE (.bool m)) w v2) (hk : signed (Mx.val (l.take 3)) m = 0) (hd : (numQ a0 b0 m0).den = 1) : Calls Tryz.prog 4 #[v0, v1, v2] w (Ret w fun v w' => (isE (.bool true)) w' v) := by
  refine enter (s := soft) (n := 119) (c := (.seq (.region 0 (regionOps Tryz.f4 0) false) (.seq (.region 1 (regionOps Tryz.f4 1) false) (.seq (.region 2 (regionOps Tryz.f4 2) false) (.seq (.seq (.region 3 (regionOps Tryz.f4 3) false) (.cond (.tmp 29) (.region 4 (regionOps Tryz.f4 4) false) .skip)) (.seq (.region 5 (regionOps Tryz.f4 5) true) (.seq (.region 6 (regionOps Tryz.f4 6) true) (.seq (.region 7 (regionOps Tryz.f4 7) false) (.seq (.seq (.region 8 (regionOps Tryz.f4 8) false) (.cond (.tmp 58) (.region 9 (regionOps Tryz.f4 9) false) .skip)) (.seq (.region 10 (regionOps Tryz.f4 10) true) .ret)))))))))) Tryz.func4 (by kernel_rfl) (by kernel_rfl) (by simp) [(0, (isM a0 b0 m0)), (1, (isS l)), (2, (isE (.bool m)))] ⟨⟨by simp, h0⟩, ⟨by simp, h1⟩, ⟨by simp, h2⟩, trivial⟩ ?_
  intro kf ac hS
  refine plain_seq (m := 2) (by kernel_rfl) ?_
  refine box0 (p := 3) (y := 0) (t := 24) (q := (isM a0 b0 m0)) hS (by kernel_rfl) rfl rfl rfl (List.Mem.head _) shM trivial ⟨(stb_M _ _ _), (stb_S _), (stb_eq _), trivial⟩ ?_
  clear hS kf ac
  try clear w
  intro kf ac w hS
  refine const0 (p := 6) (c := (.bool false)) hS (by kernel_rfl) rfl rfl rfl ?_
  clear hS kf ac
  try clear w
  intro kf ac w hS
  refine plain_end ?_
  refine region_seq (s := soft) (kf0 := kf) (by kernel_rfl) hS (Rg.look [(15, (isM a0 b0 m0)),
      (16, (IsT [(isQ (numQ a0 b0 m0) 5), (isR (numQ a0 b0 m0) 32)])),
      (14, (IsT [(isQ (numQ a0 b0 m0) 5), (isR (numQ a0 b0 m0) 32)])),
      (17, (isQ (numQ a0 b0 m0) 5)),
      (18, (isR (numQ a0 b0 m0) 32)),
      (7, isX),
      (8, isX)])
    ⟨[(5, 7, 30), (6, 8, 35)], [(7, 7, 17, 30), (8, 8, 18, 35)]⟩ [⟨3, 24, (isM a0 b0 m0)⟩, ⟨7, 30, (isQ (numQ a0 b0 m0) 5)⟩, ⟨8, 35, (isR (numQ a0 b0 m0) 32)⟩] [(6, (isE (.bool false))), (0, (isM a0 b0 m0)), (1, (isS l)), (2, (isE (.bool m)))] (by kernel_rfl) (by kernel_rfl) (look_stb _ ⟨(stb_M _ _ _), (stb_T ⟨(stb_Q _ _), (stb_R _ _), trivial⟩), (stb_T ⟨(stb_Q _ _), (stb_R _ _), trivial⟩), (stb_Q _ _), (stb_R _ _), stb_true, stb_true, trivial⟩) ⟨(stb_M _ _ _), trivial⟩ ⟨(stb_eq _), (stb_M _ _ _), (stb_S _), (stb_eq _), trivial⟩ ⟨fun _ _ => trivial, fun _ _ => trivial, trivial⟩ ⟨shQ, shR, trivial⟩
    ⟨.inr (.inl ⟨rfl, _, (List.Mem.head _), rfl, rfl, (fun _ _ h => h)⟩), .inl ⟨_, (List.Mem.head _), rfl, rfl, (fun _ _ h => h)⟩, .inl ⟨_, (List.Mem.tail _ (List.Mem.head _)), rfl, rfl, (fun _ _ h => h)⟩, trivial⟩
    ⟨.inr ⟨(by kernel_rfl), _, (List.Mem.head _), rfl, (fun _ _ h => h)⟩, .inr ⟨(by kernel_rfl), _, (List.Mem.tail _ (List.Mem.head _)), rfl, (fun _ _ h => h)⟩, .inr ⟨(by kernel_rfl), _, (List.Mem.tail _ (List.Mem.tail _ (List.Mem.head _))), rfl, (fun _ _ h => h)⟩, .inr ⟨(by kernel_rfl), _, (List.Mem.tail _ (List.Mem.tail _ (List.Mem.tail _ (List.Mem.head _)))), rfl, (fun _ _ h => h)⟩, trivial⟩
    (steps (m := 9) (by kernel_rfl) ⟨stepN (i := 0) (dst := some 15) (op := (.load 24 (.tmp 3))) (by kernel_rfl) (loadV (List.Mem.head _) (by kernel_rfl) (fun _ _ h => h)),
      stepN (i := 1) (dst := some 16) (op := (.call { callee := .value (.func 5), args := #[(.tmp 15)], argTypes := #[24] })) (by kernel_rfl) (call1 (enters_of Tryz.func5 (by kernel_rfl) rfl) (argT (p := (isM a0 b0 m0)) (by kernel_rfl) (fun _ _ h => h)) (fun w u1 h1 => num_m h1) (fun _ _ h => h)),
      stepN (i := 2) (dst := some 14) (op := (.move (.tmp 16))) (by kernel_rfl) (move (argT (p := (IsT [(isQ (numQ a0 b0 m0) 5), (isR (numQ a0 b0 m0) 32)])) (by kernel_rfl) (fun _ _ h => h)) (fun _ _ h => h)),
      stepN (i := 3) (dst := some 17) (op := (.extract (.tmp 14) 0)) (by kernel_rfl) (extract (by kernel_rfl) (fun _ _ h => h) rfl (fun _ _ h => h)),
      stepN (i := 4) (dst := some 18) (op := (.extract (.tmp 14) 1)) (by kernel_rfl) (extract (by kernel_rfl) (fun _ _ h => h) rfl (fun _ _ h => h)),
      isAlloc rfl,
      isAlloc rfl,
      isStore rfl,
      isStore rfl, trivial⟩) ?_
  clear hS kf ac
  try clear w
  intro kf ac w hS
  refine region_seq (s := soft) (kf0 := kf) (by kernel_rfl) hS (Rg.look [(19, (isS l)),
      (20, (isS l)),
      (21, (isE (.int .i64 ((l.length : Nat) : Int)))),
      (22, (isE (.int .i64 (((min l.length 3 : Nat) : Int))))),
      (23, (isS (l.take 3))),
      (24, (isN (Mx.val (l.take 3)) 4)),
      (25, (isE (.bool m))),
      (26, (isW (signed (Mx.val (l.take 3)) m) 4)),
      (9, isX)])
    ⟨[(8, 9, 28)], [(9, 9, 26, 28)]⟩ [⟨3, 24, (isM a0 b0 m0)⟩, ⟨7, 30, (isQ (numQ a0 b0 m0) 5)⟩, ⟨8, 35, (isR (numQ a0 b0 m0) 32)⟩, ⟨9, 28, (isW (signed (Mx.val (l.take 3)) m) 4)⟩] [(6, (isE (.bool false))), (0, (isM a0 b0 m0)), (1, (isS l)), (2, (isE (.bool m)))] (by kernel_rfl) (by kernel_rfl) (look_stb _ ⟨(stb_S _), (stb_S _), (stb_eq _), (stb_eq _), (stb_S _), (stb_N _ _), (stb_eq _), (stb_W _ _), stb_true, trivial⟩) ⟨(stb_M _ _ _), (stb_Q _ _), (stb_R _ _), trivial⟩ ⟨(stb_eq _), (stb_M _ _ _), (stb_S _), (stb_eq _), trivial⟩ ⟨fun _ _ => trivial, trivial⟩ ⟨shW, trivial⟩
    ⟨.inr (.inl ⟨rfl, _, (List.Mem.head _), rfl, rfl, (fun _ _ h => h)⟩), .inr (.inl ⟨rfl, _, (List.Mem.tail _ (List.Mem.head _)), rfl, rfl, (fun _ _ h => h)⟩), .inr (.inl ⟨rfl, _, (List.Mem.tail _ (List.Mem.tail _ (List.Mem.head _))), rfl, rfl, (fun _ _ h => h)⟩), .inl ⟨_, (List.Mem.head _), rfl, rfl, (fun _ _ h => h)⟩, trivial⟩
    ⟨.inr ⟨(by kernel_rfl), _, (List.Mem.head _), rfl, (fun _ _ h => h)⟩, .inr ⟨(by kernel_rfl), _, (List.Mem.tail _ (List.Mem.head _)), rfl, (fun _ _ h => h)⟩, .inr ⟨(by kernel_rfl), _, (List.Mem.tail _ (List.Mem.tail _ (List.Mem.head _))), rfl, (fun _ _ h => h)⟩, .inr ⟨(by kernel_rfl), _, (List.Mem.tail _ (List.Mem.tail _ (List.Mem.tail _ (List.Mem.head _)))), rfl, (fun _ _ h => h)⟩, trivial⟩
    (steps (m := 10) (by kernel_rfl) ⟨stepN (i := 0) (dst := some 19) (op := (.move (.tmp 1))) (by kernel_rfl) (move (argO (p := (isS l)) (List.Mem.tail _ (List.Mem.tail _ (List.Mem.head _))) (by kernel_rfl)) (fun _ _ h => h)),
      stepN (i := 1) (dst := some 20) (op := (.move (.tmp 1))) (by kernel_rfl) (move (argO (p := (isS l)) (List.Mem.tail _ (List.Mem.tail _ (List.Mem.head _))) (by kernel_rfl)) (fun _ _ h => h)),
      stepN (i := 2) (dst := some 21) (op := (.call { callee := .builtin .len, args := #[(.tmp 20)], argTypes := #[22] })) (by kernel_rfl) (lenS (argT (p := (isS l)) (by kernel_rfl) (fun _ _ h => h)) rfl (fun _ _ h => h)),
      stepN (i := 3) (dst := some 22) (op := (.call { callee := .builtin .min, args := #[(.tmp 21), (.const (.int .i64 3))], argTypes := #[3, 3] })) (by kernel_rfl) (minI (r := ((min l.length 3 : Nat) : Int)) (argT (p := (isE (.int .i64 ((l.length : Nat) : Int)))) (by kernel_rfl) (fun _ _ h => h)) (argC (.int .i64 3)) (by omega) (fun _ _ h => h)),
      stepN (i := 4) (dst := some 23) (op := (.slice 22 (.tmp 19) none (some (.tmp 22)) none)) (by kernel_rfl) (upS (n := min l.length 3) (argT (p := (isS l)) (by kernel_rfl) (fun _ _ h => h)) (argT (p := (isE (.int .i64 (((min l.length 3 : Nat) : Int))))) (by kernel_rfl) (fun _ _ h => h)) (by omega) (fun w v h => (by rw [take_min] at h; exact h))),
      stepN (i := 5) (dst := some 24) (op := (.call { callee := .value (.func 27), args := #[(.tmp 23)], argTypes := #[22] })) (by kernel_rfl) (call1 (enters_of Tryz.func27 (by kernel_rfl) rfl) (argT (p := (isS (l.take 3))) (by kernel_rfl) (fun _ _ h => h)) (fun w u1 h1 => of_n 4 h1 (by simp [List.length_take]; omega) (by omega)) (fun _ _ h => h)),
      stepN (i := 6) (dst := some 25) (op := (.move (.tmp 2))) (by kernel_rfl) (move (argO (p := (isE (.bool m))) (List.Mem.tail _ (List.Mem.tail _ (List.Mem.tail _ (List.Mem.head _)))) (by kernel_rfl)) (fun _ _ h => h)),
      stepN (i := 7) (dst := some 26) (op := (.call { callee := .value (.func 26), args := #[(.tmp 24), (.tmp 25)], argTypes := #[26, 4] })) (by kernel_rfl) (call2 (enters_of Tryz.func26 (by kernel_rfl) rfl) (argT (p := (isN (Mx.val (l.take 3)) 4)) (by kernel_rfl) (fun _ _ h => h)) (argT (p := (isE (.bool m))) (by kernel_rfl) (fun _ _ h => h)) (fun w u1 u2 h1 h2 => by subst h2; exact of_w h1) (fun _ _ h => h)),
      isAlloc rfl,
      isStore rfl, trivial⟩) ?_
  clear hS kf ac
  try clear w
  intro kf ac w hS
  refine wp_seq ?_
  refine region_seq (s := soft) (kf0 := kf) (by kernel_rfl) hS (Rg.look [(27, (isW (signed (Mx.val (l.take 3)) m) 4)),
      (28, (isE (.int .i64 (Int.sign (signed (Mx.val (l.take 3)) m))))),
      (29, (isE (.bool true)))])
    ⟨[], []⟩ [⟨3, 24, (isM a0 b0 m0)⟩, ⟨7, 30, (isQ (numQ a0 b0 m0) 5)⟩, ⟨8, 35, (isR (numQ a0 b0 m0) 32)⟩, ⟨9, 28, (isW (signed (Mx.val (l.take 3)) m) 4)⟩] [(6, (isE (.bool false))), (0, (isM a0 b0 m0)), (1, (isS l)), (2, (isE (.bool m))), (29, (isE (.bool true)))] (by kernel_rfl) (by kernel_rfl) (look_stb _ ⟨(stb_W _ _), (stb_eq _), (stb_eq _), trivial⟩) ⟨(stb_M _ _ _), (stb_Q _ _), (stb_R _ _), (stb_W _ _), trivial⟩ ⟨(stb_eq _), (stb_M _ _ _), (stb_S _), (stb_eq _), trivial⟩ trivial trivial
    ⟨.inr (.inl ⟨rfl, _, (List.Mem.head _), rfl, rfl, (fun _ _ h => h)⟩), .inr (.inl ⟨rfl, _, (List.Mem.tail _ (List.Mem.head _)), rfl, rfl, (fun _ _ h => h)⟩), .inr (.inl ⟨rfl, _, (List.Mem.tail _ (List.Mem.tail _ (List.Mem.head _))), rfl, rfl, (fun _ _ h => h)⟩), .inr (.inl ⟨rfl, _, (List.Mem.tail _ (List.Mem.tail _ (List.Mem.tail _ (List.Mem.head _)))), rfl, rfl, (fun _ _ h => h)⟩), trivial⟩
    ⟨.inr ⟨(by kernel_rfl), _, (List.Mem.head _), rfl, (fun _ _ h => h)⟩, .inr ⟨(by kernel_rfl), _, (List.Mem.tail _ (List.Mem.head _)), rfl, (fun _ _ h => h)⟩, .inr ⟨(by kernel_rfl), _, (List.Mem.tail _ (List.Mem.tail _ (List.Mem.head _))), rfl, (fun _ _ h => h)⟩, .inr ⟨(by kernel_rfl), _, (List.Mem.tail _ (List.Mem.tail _ (List.Mem.tail _ (List.Mem.head _)))), rfl, (fun _ _ h => h)⟩, .inl ⟨(by kernel_rfl), rfl, (fun _ _ h => h)⟩, trivial⟩
    (steps (m := 3) (by kernel_rfl) ⟨stepN (i := 0) (dst := some 27) (op := (.load 28 (.tmp 9))) (by kernel_rfl) (loadV (List.Mem.tail _ (List.Mem.tail _ (List.Mem.tail _ (List.Mem.head _)))) (by kernel_rfl) (fun _ _ h => h)),
      stepN (i := 1) (dst := some 28) (op := (.call { callee := .value (.func 28), args := #[(.tmp 27)], argTypes := #[28] })) (by kernel_rfl) (call1 (enters_of Tryz.func28 (by kernel_rfl) rfl) (argT (p := (isW (signed (Mx.val (l.take 3)) m) 4)) (by kernel_rfl) (fun _ _ h => h)) (fun w u1 h1 => sign_w h1) (fun _ _ h => h)),
      stepN (i := 2) (dst := some 29) (op := (.binOp .eql 3 (.tmp 28) (.const (.int .i64 0)) 3)) (by kernel_rfl) (eql (m := (Int.sign (signed (Mx.val (l.take 3)) m))) (n := 0) (argT (p := (isE (.int .i64 (Int.sign (signed (Mx.val (l.take 3)) m))))) (by kernel_rfl) (fun _ _ h => h)) (argC (.int .i64 0)) (fun w v h => h.trans (congrArg Value.bool (decide_eq_true (by rw [hk]; rfl))))), trivial⟩) ?_
  clear hS kf ac
  try clear w
  intro kf ac w hS
  refine cond_true (q := (isE (.bool true))) hS (List.Mem.tail _ (List.Mem.tail _ (List.Mem.tail _ (List.Mem.tail _ (List.Mem.head _))))) (fun _ _ h => h) ?_
  refine region_then (s := soft) (kf0 := kf) (by kernel_rfl) hS (Rg.look [(30, (isW 1 1))])
    ⟨[], [(1, 9, 30, 28)]⟩ [⟨3, 24, (isM a0 b0 m0)⟩, ⟨7, 30, (isQ (numQ a0 b0 m0) 5)⟩, ⟨8, 35, (isR (numQ a0 b0 m0) 32)⟩, ⟨9, 28, (isW 1 1)⟩] [(6, (isE (.bool false))), (0, (isM a0 b0 m0)), (1, (isS l)), (2, (isE (.bool m))), (29, (isE (.bool true)))] (by kernel_rfl) (by kernel_rfl) (look_stb _ ⟨(stb_W _ _), trivial⟩) ⟨(stb_M _ _ _), (stb_Q _ _), (stb_R _ _), (stb_W _ _), trivial⟩ ⟨(stb_eq _), (stb_M _ _ _), (stb_S _), (stb_eq _), (stb_eq _), trivial⟩ trivial ⟨shW, trivial⟩
    ⟨.inr (.inl ⟨rfl, _, (List.Mem.head _), rfl, rfl, (fun _ _ h => h)⟩), .inr (.inl ⟨rfl, _, (List.Mem.tail _ (List.Mem.head _)), rfl, rfl, (fun _ _ h => h)⟩), .inr (.inl ⟨rfl, _, (List.Mem.tail _ (List.Mem.tail _ (List.Mem.head _))), rfl, rfl, (fun _ _ h => h)⟩), .inl ⟨_, (List.Mem.head _), rfl, rfl, (fun _ _ h => h)⟩, trivial⟩
    ⟨.inr ⟨(by kernel_rfl), _, (List.Mem.head _), rfl, (fun _ _ h => h)⟩, .inr ⟨(by kernel_rfl), _, (List.Mem.tail _ (List.Mem.head _)), rfl, (fun _ _ h => h)⟩, .inr ⟨(by kernel_rfl), _, (List.Mem.tail _ (List.Mem.tail _ (List.Mem.head _))), rfl, (fun _ _ h => h)⟩, .inr ⟨(by kernel_rfl), _, (List.Mem.tail _ (List.Mem.tail _ (List.Mem.tail _ (List.Mem.head _)))), rfl, (fun _ _ h => h)⟩, .inr ⟨(by kernel_rfl), _, (List.Mem.tail _ (List.Mem.tail _ (List.Mem.tail _ (List.Mem.tail _ (List.Mem.head _))))), rfl, (fun _ _ h => h)⟩, trivial⟩
    (steps (m := 2) (by kernel_rfl) ⟨stepN (i := 0) (dst := some 30) (op := (.call { callee := .value (.func 29), args := #[(.const (.int .i64 1))], argTypes := #[3] })) (by kernel_rfl) (call1 (enters_of Tryz.func29 (by kernel_rfl) rfl) (argC (.int .i64 1)) (fun w u1 h1 => by subst h1; exact from_w _ _ (by omega) (by omega)) (fun _ _ h => h)),
      isStore rfl, trivial⟩) ?_
  clear hS kf ac
  try clear w
  intro kf ac w hS
  refine region_seq (s := soft) (kf0 := kf) (by kernel_rfl) hS (Rg.look [(32, (isQ (numQ a0 b0 m0) 5)),
      (33, (isW ((numQ a0 b0 m0).num) 5)),
      (34, (isW 1 1)),
      (35, (isW (((numQ a0 b0 m0).num) * 1) (5 + 1))),
      (36, (isQ (numQ a0 b0 m0) 5)),
      (37, (isN ((numQ a0 b0 m0).den) 5)),
      (38, (isW (signed ((numQ a0 b0 m0).den) false) 5)),
      (39, (isW 1 1)),
      (40, (isW ((signed ((numQ a0 b0 m0).den) false) * 1) (5 + 1))),
      (41, (IsT [(isQ (((((numQ a0 b0 m0).num) * 1 : Int) : Rat) / (((signed ((numQ a0 b0 m0).den) false) * 1 : Int) : Rat)) (max (5 + 1) (5 + 1) + 1)), (isE (.int .i64 0))])),
      (31, (IsT [(isQ (((((numQ a0 b0 m0).num) * 1 : Int) : Rat) / (((signed ((numQ a0 b0 m0).den) false) * 1 : Int) : Rat)) (max (5 + 1) (5 + 1) + 1)), (isE (.int .i64 0))])),
      (42, (isQ (((((numQ a0 b0 m0).num) * 1 : Int) : Rat) / (((signed ((numQ a0 b0 m0).den) false) * 1 : Int) : Rat)) (max (5 + 1) (5 + 1) + 1))),
      (43, (isE (.int .i64 0))),
      (10, isX),
      (11, (isE (.int .i64 0)))])
    ⟨[(13, 10, 30)], [(14, 10, 42, 30)]⟩ [⟨3, 24, (isM a0 b0 m0)⟩, ⟨7, 30, (isQ (numQ a0 b0 m0) 5)⟩, ⟨8, 35, (isR (numQ a0 b0 m0) 32)⟩, ⟨9, 28, (isW 1 1)⟩, ⟨10, 30, (isQ (((((numQ a0 b0 m0).num) * 1 : Int) : Rat) / (((signed ((numQ a0 b0 m0).den) false) * 1 : Int) : Rat)) (max (5 + 1) (5 + 1) + 1))⟩] [(6, (isE (.bool false))), (0, (isM a0 b0 m0)), (1, (isS l)), (2, (isE (.bool m))), (29, (isE (.bool true))), (11, (isE (.int .i64 0)))] (by kernel_rfl) (by kernel_rfl) (look_stb _ ⟨(stb_Q _ _), (stb_W _ _), (stb_W _ _), (stb_W _ _), (stb_Q _ _), (stb_N _ _), (stb_W _ _), (stb_W _ _), (stb_W _ _), (stb_T ⟨(stb_Q _ _), (stb_eq _), trivial⟩), (stb_T ⟨(stb_Q _ _), (stb_eq _), trivial⟩), (stb_Q _ _), (stb_eq _), stb_true, (stb_eq _), trivial⟩) ⟨(stb_M _ _ _), (stb_Q _ _), (stb_R _ _), (stb_W _ _), trivial⟩ ⟨(stb_eq _), (stb_M _ _ _), (stb_S _), (stb_eq _), (stb_eq _), trivial⟩ ⟨fun _ _ => trivial, trivial⟩ ⟨shQ, trivial⟩
    ⟨.inr (.inl ⟨rfl, _, (List.Mem.head _), rfl, rfl, (fun _ _ h => h)⟩), .inr (.inl ⟨rfl, _, (List.Mem.tail _ (List.Mem.head _)), rfl, rfl, (fun _ _ h => h)⟩), .inr (.inl ⟨rfl, _, (List.Mem.tail _ (List.Mem.tail _ (List.Mem.head _))), rfl, rfl, (fun _ _ h => h)⟩), .inr (.inl ⟨rfl, _, (List.Mem.tail _ (List.Mem.tail _ (List.Mem.tail _ (List.Mem.head _)))), rfl, rfl, (fun _ _ h => h)⟩), .inl ⟨_, (List.Mem.head _), rfl, rfl, (fun _ _ h => h)⟩, trivial⟩
    ⟨.inr ⟨(by kernel_rfl), _, (List.Mem.head _), rfl, (fun _ _ h => h)⟩, .inr ⟨(by kernel_rfl), _, (List.Mem.tail _ (List.Mem.head _)), rfl, (fun _ _ h => h)⟩, .inr ⟨(by kernel_rfl), _, (List.Mem.tail _ (List.Mem.tail _ (List.Mem.head _))), rfl, (fun _ _ h => h)⟩, .inr ⟨(by kernel_rfl), _, (List.Mem.tail _ (List.Mem.tail _ (List.Mem.tail _ (List.Mem.head _)))), rfl, (fun _ _ h => h)⟩, .inr ⟨(by kernel_rfl), _, (List.Mem.tail _ (List.Mem.tail _ (List.Mem.tail _ (List.Mem.tail _ (List.Mem.head _))))), rfl, (fun _ _ h => h)⟩, .inl ⟨(by kernel_rfl), rfl, (fun _ _ h => h)⟩, trivial⟩
    (steps (m := 16) (by kernel_rfl) ⟨stepN (i := 0) (dst := some 32) (op := (.load 30 (.tmp 7))) (by kernel_rfl) (loadV (List.Mem.tail _ (List.Mem.head _)) (by kernel_rfl) (fun _ _ h => h)),
      stepN (i := 1) (dst := some 33) (op := (.call { callee := .value (.func 31), args := #[(.tmp 32)], argTypes := #[30] })) (by kernel_rfl) (call1 (enters_of Tryz.func31 (by kernel_rfl) rfl) (argT (p := (isQ (numQ a0 b0 m0) 5)) (by kernel_rfl) (fun _ _ h => h)) (fun w u1 h1 => num_q h1) (fun _ _ h => h)),
      stepN (i := 2) (dst := some 34) (op := (.load 28 (.tmp 9))) (by kernel_rfl) (loadV (List.Mem.tail _ (List.Mem.tail _ (List.Mem.tail _ (List.Mem.head _)))) (by kernel_rfl) (fun _ _ h => h)),
      stepN (i := 3) (dst := some 35) (op := (.call { callee := .value (.func 32), args := #[(.tmp 33), (.tmp 34)], argTypes := #[28, 28] })) (by kernel_rfl) (call2 (enters_of Tryz.func32 (by kernel_rfl) rfl) (argT (p := (isW ((numQ a0 b0 m0).num) 5)) (by kernel_rfl) (fun _ _ h => h)) (argT (p := (isW 1 1)) (by kernel_rfl) (fun _ _ h => h)) (fun w u1 u2 h1 h2 => mul_w h1 h2 (by omega) (by omega)) (fun _ _ h => h)),
      stepN (i := 4) (dst := some 36) (op := (.load 30 (.tmp 7))) (by kernel_rfl) (loadV (List.Mem.tail _ (List.Mem.head _)) (by kernel_rfl) (fun _ _ h => h)),
      stepN (i := 5) (dst := some 37) (op := (.call { callee := .value (.func 33), args := #[(.tmp 36)], argTypes := #[30] })) (by kernel_rfl) (call1 (enters_of Tryz.func33 (by kernel_rfl) rfl) (argT (p := (isQ (numQ a0 b0 m0) 5)) (by kernel_rfl) (fun _ _ h => h)) (fun w u1 h1 => den_q h1) (fun _ _ h => h)),
      stepN (i := 6) (dst := some 38) (op := (.call { callee := .value (.func 26), args := #[(.tmp 37), (.const (.bool false))], argTypes := #[26, 4] })) (by kernel_rfl) (call2 (enters_of Tryz.func26 (by kernel_rfl) rfl) (argT (p := (isN ((numQ a0 b0 m0).den) 5)) (by kernel_rfl) (fun _ _ h => h)) (argC (.bool false)) (fun w u1 u2 h1 h2 => by subst h2; exact of_w h1) (fun _ _ h => h)),
      stepN (i := 7) (dst := some 39) (op := (.load 28 (.tmp 9))) (by kernel_rfl) (loadV (List.Mem.tail _ (List.Mem.tail _ (List.Mem.tail _ (List.Mem.head _)))) (by kernel_rfl) (fun _ _ h => h)),
      stepN (i := 8) (dst := some 40) (op := (.call { callee := .value (.func 32), args := #[(.tmp 38), (.tmp 39)], argTypes := #[28, 28] })) (by kernel_rfl) (call2 (enters_of Tryz.func32 (by kernel_rfl) rfl) (argT (p := (isW (signed ((numQ a0 b0 m0).den) false) 5)) (by kernel_rfl) (fun _ _ h => h)) (argT (p := (isW 1 1)) (by kernel_rfl) (fun _ _ h => h)) (fun w u1 u2 h1 h2 => mul_w h1 h2 (by omega) (by omega)) (fun _ _ h => h)),
      stepN (i := 9) (dst := some 41) (op := (.call { callee := .value (.func 30), args := #[(.tmp 35), (.tmp 40)], argTypes := #[28, 28] })) (by kernel_rfl) (call2 (enters_of Tryz.func30 (by kernel_rfl) rfl) (argT (p := (isW (((numQ a0 b0 m0).num) * 1) (5 + 1))) (by kernel_rfl) (fun _ _ h => h)) (argT (p := (isW ((signed ((numQ a0 b0 m0).den) false) * 1) (5 + 1))) (by kernel_rfl) (fun _ _ h => h)) (fun w u1 u2 h1 h2 => of_q h1 h2 (by omega) (by omega) (den_times (by decide))) (fun _ _ h => h)),
      stepN (i := 10) (dst := some 31) (op := (.move (.tmp 41))) (by kernel_rfl) (move (argT (p := (IsT [(isQ (((((numQ a0 b0 m0).num) * 1 : Int) : Rat) / (((signed ((numQ a0 b0 m0).den) false) * 1 : Int) : Rat)) (max (5 + 1) (5 + 1) + 1)), (isE (.int .i64 0))])) (by kernel_rfl) (fun _ _ h => h)) (fun _ _ h => h)),
      stepN (i := 11) (dst := some 42) (op := (.extract (.tmp 31) 0)) (by kernel_rfl) (extract (by kernel_rfl) (fun _ _ h => h) rfl (fun _ _ h => h)),
      stepN (i := 12) (dst := some 43) (op := (.extract (.tmp 31) 1)) (by kernel_rfl) (extract (by kernel_rfl) (fun _ _ h => h) rfl (fun _ _ h => h)),
      isAlloc rfl,
      isStore rfl,
      stepN (i := 15) (dst := some 11) (op := (.assign (.tmp 43))) (by kernel_rfl) (assign (argT (p := (isE (.int .i64 0))) (by kernel_rfl) (fun _ _ h => h)) (fun _ _ h => h)), trivial⟩) ?_
  clear hS kf ac
  try clear w
  intro kf ac w hS
  refine region_seq (s := soft) (kf0 := kf) (by kernel_rfl) hS (Rg.look [(44, (isQ (numQ a0 b0 m0) 5)),
      (45, (isW ((numQ a0 b0 m0).num) 5)),
      (46, (isN (Int.natAbs ((numQ a0 b0 m0).num)) 5)),
      (47, (isQ (numQ a0 b0 m0) 5)),
      (48, (isN ((numQ a0 b0 m0).den) 5)),
      (49, (isN (Nat.gcd (Int.natAbs ((numQ a0 b0 m0).num)) ((numQ a0 b0 m0).den)) 5)),
      (12, isX)])
    ⟨[(6, 12, 26)], [(7, 12, 49, 26)]⟩ [⟨3, 24, (isM a0 b0 m0)⟩, ⟨7, 30, (isQ (numQ a0 b0 m0) 5)⟩, ⟨8, 35, (isR (numQ a0 b0 m0) 32)⟩, ⟨9, 28, (isW 1 1)⟩, ⟨10, 30, (isQ (((((numQ a0 b0 m0).num) * 1 : Int) : Rat) / (((signed ((numQ a0 b0 m0).den) false) * 1 : Int) : Rat)) (max (5 + 1) (5 + 1) + 1))⟩, ⟨12, 26, (isN (Nat.gcd (Int.natAbs ((numQ a0 b0 m0).num)) ((numQ a0 b0 m0).den)) 5)⟩] [(6, (isE (.bool false))), (0, (isM a0 b0 m0)), (1, (isS l)), (2, (isE (.bool m))), (29, (isE (.bool true))), (11, (isE (.int .i64 0)))] (by kernel_rfl) (by kernel_rfl) (look_stb _ ⟨(stb_Q _ _), (stb_W _ _), (stb_N _ _), (stb_Q _ _), (stb_N _ _), (stb_N _ _), stb_true, trivial⟩) ⟨(stb_M _ _ _), (stb_Q _ _), (stb_R _ _), (stb_W _ _), (stb_Q _ _), trivial⟩ ⟨(stb_eq _), (stb_M _ _ _), (stb_S _), (stb_eq _), (stb_eq _), (stb_eq _), trivial⟩ ⟨fun _ _ => trivial, trivial⟩ ⟨shN, trivial⟩
    ⟨.inr (.inl ⟨rfl, _, (List.Mem.head _), rfl, rfl, (fun _ _ h => h)⟩), .inr (.inl ⟨rfl, _, (List.Mem.tail _ (List.Mem.head _)), rfl, rfl, (fun _ _ h => h)⟩), .inr (.inl ⟨rfl, _, (List.Mem.tail _ (List.Mem.tail _ (List.Mem.head _))), rfl, rfl, (fun _ _ h => h)⟩), .inr (.inl ⟨rfl, _, (List.Mem.tail _ (List.Mem.tail _ (List.Mem.tail _ (List.Mem.head _)))), rfl, rfl, (fun _ _ h => h)⟩), .inr (.inl ⟨rfl, _, (List.Mem.tail _ (List.Mem.tail _ (List.Mem.tail _ (List.Mem.tail _ (List.Mem.head _))))), rfl, rfl, (fun _ _ h => h)⟩), .inl ⟨_, (List.Mem.head _), rfl, rfl, (fun _ _ h => h)⟩, trivial⟩
    ⟨.inr ⟨(by kernel_rfl), _, (List.Mem.head _), rfl, (fun _ _ h => h)⟩, .inr ⟨(by kernel_rfl), _, (List.Mem.tail _ (List.Mem.head _)), rfl, (fun _ _ h => h)⟩, .inr ⟨(by kernel_rfl), _, (List.Mem.tail _ (List.Mem.tail _ (List.Mem.head _))), rfl, (fun _ _ h => h)⟩, .inr ⟨(by kernel_rfl), _, (List.Mem.tail _ (List.Mem.tail _ (List.Mem.tail _ (List.Mem.head _)))), rfl, (fun _ _ h => h)⟩, .inr ⟨(by kernel_rfl), _, (List.Mem.tail _ (List.Mem.tail _ (List.Mem.tail _ (List.Mem.tail _ (List.Mem.head _))))), rfl, (fun _ _ h => h)⟩, .inr ⟨(by kernel_rfl), _, (List.Mem.tail _ (List.Mem.tail _ (List.Mem.tail _ (List.Mem.tail _ (List.Mem.tail _ (List.Mem.head _)))))), rfl, (fun _ _ h => h)⟩, trivial⟩
    (steps (m := 8) (by kernel_rfl) ⟨stepN (i := 0) (dst := some 44) (op := (.load 30 (.tmp 7))) (by kernel_rfl) (loadV (List.Mem.tail _ (List.Mem.head _)) (by kernel_rfl) (fun _ _ h => h)),
      stepN (i := 1) (dst := some 45) (op := (.call { callee := .value (.func 31), args := #[(.tmp 44)], argTypes := #[30] })) (by kernel_rfl) (call1 (enters_of Tryz.func31 (by kernel_rfl) rfl) (argT (p := (isQ (numQ a0 b0 m0) 5)) (by kernel_rfl) (fun _ _ h => h)) (fun w u1 h1 => num_q h1) (fun _ _ h => h)),
      stepN (i := 2) (dst := some 46) (op := (.call { callee := .value (.func 35), args := #[(.tmp 45)], argTypes := #[28] })) (by kernel_rfl) (call1 (enters_of Tryz.func35 (by kernel_rfl) rfl) (argT (p := (isW ((numQ a0 b0 m0).num) 5)) (by kernel_rfl) (fun _ _ h => h)) (fun w u1 h1 => abs_w h1) (fun _ _ h => h)),
      stepN (i := 3) (dst := some 47) (op := (.load 30 (.tmp 7))) (by kernel_rfl) (loadV (List.Mem.tail _ (List.Mem.head _)) (by kernel_rfl) (fun _ _ h => h)),
      stepN (i := 4) (dst := some 48) (op := (.call { callee := .value (.func 33), args := #[(.tmp 47)], argTypes := #[30] })) (by kernel_rfl) (call1 (enters_of Tryz.func33 (by kernel_rfl) rfl) (argT (p := (isQ (numQ a0 b0 m0) 5)) (by kernel_rfl) (fun _ _ h => h)) (fun w u1 h1 => den_q h1) (fun _ _ h => h)),
      stepN (i := 5) (dst := some 49) (op := (.call { callee := .value (.func 34), args := #[(.tmp 46), (.tmp 48)], argTypes := #[26, 26] })) (by kernel_rfl) (call2 (enters_of Tryz.func34 (by kernel_rfl) rfl) (argT (p := (isN (Int.natAbs ((numQ a0 b0 m0).num)) 5)) (by kernel_rfl) (fun _ _ h => h)) (argT (p := (isN ((numQ a0 b0 m0).den) 5)) (by kernel_rfl) (fun _ _ h => h)) (fun w u1 u2 h1 h2 => gcd_n (k := 5) (h1.weak (by omega)) (h2.weak (by omega)) (by omega)) (fun _ _ h => h)),
      isAlloc rfl,
      isStore rfl, trivial⟩) ?_
  clear hS kf ac
  try clear w
  intro kf ac w hS
  refine region_seq (s := soft) (kf0 := kf) (by kernel_rfl) hS (Rg.look [(50, (isQ (numQ a0 b0 m0) 5)),
      (51, (isW ((numQ a0 b0 m0).num) 5)),
      (52, (isT (ztext ((numQ a0 b0 m0).num)))),
      (13, (isT (ztext ((numQ a0 b0 m0).num))))])
    ⟨[], []⟩ [⟨3, 24, (isM a0 b0 m0)⟩, ⟨7, 30, (isQ (numQ a0 b0 m0) 5)⟩, ⟨8, 35, (isR (numQ a0 b0 m0) 32)⟩, ⟨9, 28, (isW 1 1)⟩, ⟨10, 30, (isQ (((((numQ a0 b0 m0).num) * 1 : Int) : Rat) / (((signed ((numQ a0 b0 m0).den) false) * 1 : Int) : Rat)) (max (5 + 1) (5 + 1) + 1))⟩, ⟨12, 26, (isN (Nat.gcd (Int.natAbs ((numQ a0 b0 m0).num)) ((numQ a0 b0 m0).den)) 5)⟩] [(6, (isE (.bool false))), (0, (isM a0 b0 m0)), (1, (isS l)), (2, (isE (.bool m))), (29, (isE (.bool true))), (11, (isE (.int .i64 0))), (13, (isT (ztext ((numQ a0 b0 m0).num))))] (by kernel_rfl) (by kernel_rfl) (look_stb _ ⟨(stb_Q _ _), (stb_W _ _), (stb_eq _), (stb_eq _), trivial⟩) ⟨(stb_M _ _ _), (stb_Q _ _), (stb_R _ _), (stb_W _ _), (stb_Q _ _), (stb_N _ _), trivial⟩ ⟨(stb_eq _), (stb_M _ _ _), (stb_S _), (stb_eq _), (stb_eq _), (stb_eq _), trivial⟩ trivial trivial
    ⟨.inr (.inl ⟨rfl, _, (List.Mem.head _), rfl, rfl, (fun _ _ h => h)⟩), .inr (.inl ⟨rfl, _, (List.Mem.tail _ (List.Mem.head _)), rfl, rfl, (fun _ _ h => h)⟩), .inr (.inl ⟨rfl, _, (List.Mem.tail _ (List.Mem.tail _ (List.Mem.head _))), rfl, rfl, (fun _ _ h => h)⟩), .inr (.inl ⟨rfl, _, (List.Mem.tail _ (List.Mem.tail _ (List.Mem.tail _ (List.Mem.head _)))), rfl, rfl, (fun _ _ h => h)⟩), .inr (.inl ⟨rfl, _, (List.Mem.tail _ (List.Mem.tail _ (List.Mem.tail _ (List.Mem.tail _ (List.Mem.head _))))), rfl, rfl, (fun _ _ h => h)⟩), .inr (.inl ⟨rfl, _, (List.Mem.tail _ (List.Mem.tail _ (List.Mem.tail _ (List.Mem.tail _ (List.Mem.tail _ (List.Mem.head _)))))), rfl, rfl, (fun _ _ h => h)⟩), trivial⟩
    ⟨.inr ⟨(by kernel_rfl), _, (List.Mem.head _), rfl, (fun _ _ h => h)⟩, .inr ⟨(by kernel_rfl), _, (List.Mem.tail _ (List.Mem.head _)), rfl, (fun _ _ h => h)⟩, .inr ⟨(by kernel_rfl), _, (List.Mem.tail _ (List.Mem.tail _ (List.Mem.head _))), rfl, (fun _ _ h => h)⟩, .inr ⟨(by kernel_rfl), _, (List.Mem.tail _ (List.Mem.tail _ (List.Mem.tail _ (List.Mem.head _)))), rfl, (fun _ _ h => h)⟩, .inr ⟨(by kernel_rfl), _, (List.Mem.tail _ (List.Mem.tail _ (List.Mem.tail _ (List.Mem.tail _ (List.Mem.head _))))), rfl, (fun _ _ h => h)⟩, .inr ⟨(by kernel_rfl), _, (List.Mem.tail _ (List.Mem.tail _ (List.Mem.tail _ (List.Mem.tail _ (List.Mem.tail _ (List.Mem.head _)))))), rfl, (fun _ _ h => h)⟩, .inl ⟨(by kernel_rfl), rfl, (fun _ _ h => h)⟩, trivial⟩
    (steps (m := 4) (by kernel_rfl) ⟨stepN (i := 0) (dst := some 50) (op := (.load 30 (.tmp 7))) (by kernel_rfl) (loadV (List.Mem.tail _ (List.Mem.head _)) (by kernel_rfl) (fun _ _ h => h)),
      stepN (i := 1) (dst := some 51) (op := (.call { callee := .value (.func 31), args := #[(.tmp 50)], argTypes := #[30] })) (by kernel_rfl) (call1 (enters_of Tryz.func31 (by kernel_rfl) rfl) (argT (p := (isQ (numQ a0 b0 m0) 5)) (by kernel_rfl) (fun _ _ h => h)) (fun w u1 h1 => num_q h1) (fun _ _ h => h)),
      stepN (i := 2) (dst := some 52) (op := (.call { callee := .value (.func 23), args := #[(.tmp 51)], argTypes := #[28] })) (by kernel_rfl) (call1 (enters_of Tryz.func23 (by kernel_rfl) rfl) (argT (p := (isW ((numQ a0 b0 m0).num) 5)) (by kernel_rfl) (fun _ _ h => h)) (fun w u1 h1 => print_w h1 (by omega)) (fun _ _ h => h)),
      stepN (i := 3) (dst := some 13) (op := (.assign (.tmp 52))) (by kernel_rfl) (assign (argT (p := (isT (ztext ((numQ a0 b0 m0).num)))) (by kernel_rfl) (fun _ _ h => h)) (fun _ _ h => h)), trivial⟩) ?_
  clear hS kf ac
  try clear w
  intro kf ac w hS
  refine wp_seq ?_
  refine region_seq (s := soft) (kf0 := kf) (by kernel_rfl) hS (Rg.look [(53, (isQ (numQ a0 b0 m0) 5)),
      (54, (isN ((numQ a0 b0 m0).den) 5)),
      (55, (isS ([1]))),
      (56, (isN 1 1)),
      (57, (isE (.int .i64 (Mx.cmp ((numQ a0 b0 m0).den) 1)))),
      (58, (isE (.bool false)))])
    ⟨[], []⟩ [⟨3, 24, (isM a0 b0 m0)⟩, ⟨7, 30, (isQ (numQ a0 b0 m0) 5)⟩, ⟨8, 35, (isR (numQ a0 b0 m0) 32)⟩, ⟨9, 28, (isW 1 1)⟩, ⟨10, 30, (isQ (((((numQ a0 b0 m0).num) * 1 : Int) : Rat) / (((signed ((numQ a0 b0 m0).den) false) * 1 : Int) : Rat)) (max (5 + 1) (5 + 1) + 1))⟩, ⟨12, 26, (isN (Nat.gcd (Int.natAbs ((numQ a0 b0 m0).num)) ((numQ a0 b0 m0).den)) 5)⟩] [(6, (isE (.bool false))), (0, (isM a0 b0 m0)), (1, (isS l)), (2, (isE (.bool m))), (29, (isE (.bool true))), (11, (isE (.int .i64 0))), (13, (isT (ztext ((numQ a0 b0 m0).num)))), (58, (isE (.bool false)))] (by kernel_rfl) (by kernel_rfl) (look_stb _ ⟨(stb_Q _ _), (stb_N _ _), (stb_S _), (stb_N _ _), (stb_eq _), (stb_eq _), trivial⟩) ⟨(stb_M _ _ _), (stb_Q _ _), (stb_R _ _), (stb_W _ _), (stb_Q _ _), (stb_N _ _), trivial⟩ ⟨(stb_eq _), (stb_M _ _ _), (stb_S _), (stb_eq _), (stb_eq _), (stb_eq _), (stb_eq _), trivial⟩ trivial trivial
    ⟨.inr (.inl ⟨rfl, _, (List.Mem.head _), rfl, rfl, (fun _ _ h => h)⟩), .inr (.inl ⟨rfl, _, (List.Mem.tail _ (List.Mem.head _)), rfl, rfl, (fun _ _ h => h)⟩), .inr (.inl ⟨rfl, _, (List.Mem.tail _ (List.Mem.tail _ (List.Mem.head _))), rfl, rfl, (fun _ _ h => h)⟩), .inr (.inl ⟨rfl, _, (List.Mem.tail _ (List.Mem.tail _ (List.Mem.tail _ (List.Mem.head _)))), rfl, rfl, (fun _ _ h => h)⟩), .inr (.inl ⟨rfl, _, (List.Mem.tail _ (List.Mem.tail _ (List.Mem.tail _ (List.Mem.tail _ (List.Mem.head _))))), rfl, rfl, (fun _ _ h => h)⟩), .inr (.inl ⟨rfl, _, (List.Mem.tail _ (List.Mem.tail _ (List.Mem.tail _ (List.Mem.tail _ (List.Mem.tail _ (List.Mem.head _)))))), rfl, rfl, (fun _ _ h => h)⟩), trivial⟩
    ⟨.inr ⟨(by kernel_rfl), _, (List.Mem.head _), rfl, (fun _ _ h => h)⟩, .inr ⟨(by kernel_rfl), _, (List.Mem.tail _ (List.Mem.head _)), rfl, (fun _ _ h => h)⟩, .inr ⟨(by kernel_rfl), _, (List.Mem.tail _ (List.Mem.tail _ (List.Mem.head _))), rfl, (fun _ _ h => h)⟩, .inr ⟨(by kernel_rfl), _, (List.Mem.tail _ (List.Mem.tail _ (List.Mem.tail _ (List.Mem.head _)))), rfl, (fun _ _ h => h)⟩, .inr ⟨(by kernel_rfl), _, (List.Mem.tail _ (List.Mem.tail _ (List.Mem.tail _ (List.Mem.tail _ (List.Mem.head _))))), rfl, (fun _ _ h => h)⟩, .inr ⟨(by kernel_rfl), _, (List.Mem.tail _ (List.Mem.tail _ (List.Mem.tail _ (List.Mem.tail _ (List.Mem.tail _ (List.Mem.head _)))))), rfl, (fun _ _ h => h)⟩, .inr ⟨(by kernel_rfl), _, (List.Mem.tail _ (List.Mem.tail _ (List.Mem.tail _ (List.Mem.tail _ (List.Mem.tail _ (List.Mem.tail _ (List.Mem.head _))))))), rfl, (fun _ _ h => h)⟩, .inl ⟨(by kernel_rfl), rfl, (fun _ _ h => h)⟩, trivial⟩
    (steps (m := 6) (by kernel_rfl) ⟨stepN (i := 0) (dst := some 53) (op := (.load 30 (.tmp 7))) (by kernel_rfl) (loadV (List.Mem.tail _ (List.Mem.head _)) (by kernel_rfl) (fun _ _ h => h)),
      stepN (i := 1) (dst := some 54) (op := (.call { callee := .value (.func 33), args := #[(.tmp 53)], argTypes := #[30] })) (by kernel_rfl) (call1 (enters_of Tryz.func33 (by kernel_rfl) rfl) (argT (p := (isQ (numQ a0 b0 m0) 5)) (by kernel_rfl) (fun _ _ h => h)) (fun w u1 h1 => den_q h1) (fun _ _ h => h)),
      stepN (i := 2) (dst := some 55) (op := (.buildSlice 22 1 #[(0, (.const (.int .u64 1)))])) (by kernel_rfl) (buildOneZ (x := 1) (small_lt (by decide)) (fun _ _ h => h)),
      stepN (i := 3) (dst := some 56) (op := (.call { callee := .value (.func 27), args := #[(.tmp 55)], argTypes := #[22] })) (by kernel_rfl) (call1 (enters_of Tryz.func27 (by kernel_rfl) rfl) (argT (p := (isS ([1]))) (by kernel_rfl) (fun _ _ h => h)) (fun w u1 h1 => of_one h1) (fun _ _ h => h)),
      stepN (i := 4) (dst := some 57) (op := (.call { callee := .value (.func 36), args := #[(.tmp 54), (.tmp 56)], argTypes := #[26, 26] })) (by kernel_rfl) (call2 (enters_of Tryz.func36 (by kernel_rfl) rfl) (argT (p := (isN ((numQ a0 b0 m0).den) 5)) (by kernel_rfl) (fun _ _ h => h)) (argT (p := (isN 1 1)) (by kernel_rfl) (fun _ _ h => h)) (fun w u1 u2 h1 h2 => cmp_n h1 h2 (by omega)) (fun _ _ h => h)),
      stepN (i := 5) (dst := some 58) (op := (.binOp .neq 3 (.tmp 57) (.const (.int .i64 0)) 3)) (by kernel_rfl) (neq (m := (Mx.cmp ((numQ a0 b0 m0).den) 1)) (n := 0) (argT (p := (isE (.int .i64 (Mx.cmp ((numQ a0 b0 m0).den) 1)))) (by kernel_rfl) (fun _ _ h => h)) (argC (.int .i64 0)) (fun w v h => h.trans (congrArg Value.bool (by rw [Mx.cmp_eq hd]; rfl)))), trivial⟩) ?_
  clear hS kf ac
  try clear w
  intro kf ac w hS
  refine cond_false (q := (isE (.bool false))) hS (List.Mem.tail _ (List.Mem.tail _ (List.Mem.tail _ (List.Mem.tail _ (List.Mem.tail _ (List.Mem.tail _ (List.Mem.tail _ (List.Mem.head _)))))))) (fun _ _ h => h) ?_
  refine skip_then ?_
  refine region_seq (s := soft) (kf0 := kf) (by kernel_rfl) hS (Rg.look [(65, (isE (.bool true))),
      (66, (isE (.bool true))),
      (67, (isE (.int .i64 0))),
      (68, (isE (.bool true))),
      (69, (isE (.bool true))),
      (70, (isE (.bool true))),
      (71, (isQ (((((numQ a0 b0 m0).num) * 1 : Int) : Rat) / (((signed ((numQ a0 b0 m0).den) false) * 1 : Int) : Rat)) (max (5 + 1) (5 + 1) + 1))),
      (72, (isQ (numQ a0 b0 m0) 5)),
      (73, (isE (.int .i64 (cmpQ (((((numQ a0 b0 m0).num) * 1 : Int) : Rat) / (((signed ((numQ a0 b0 m0).den) false) * 1 : Int) : Rat)) (numQ a0 b0 m0))))),
      (74, (isE (.bool true))),
      (75, (isE (.bool true))),
      (76, (isE (.bool true))),
      (77, (isQ (((((numQ a0 b0 m0).num) * 1 : Int) : Rat) / (((signed ((numQ a0 b0 m0).den) false) * 1 : Int) : Rat)) (max (5 + 1) (5 + 1) + 1))),
      (78, (isT (qtext (((((numQ a0 b0 m0).num) * 1 : Int) : Rat) / (((signed ((numQ a0 b0 m0).den) false) * 1 : Int) : Rat))))),
      (79, (isQ (numQ a0 b0 m0) 5)),
      (80, (isT (qtext (numQ a0 b0 m0)))),
      (81, (isE (.bool true))),
      (82, (isE (.bool true))),
      (83, (isE (.bool true))),
      (84, (isN (Nat.gcd (Int.natAbs ((numQ a0 b0 m0).num)) ((numQ a0 b0 m0).den)) 5)),
      (85, (isS ([1]))),
      (86, (isN 1 1)),
      (87, (isE (.int .i64 (Mx.cmp (Nat.gcd (Int.natAbs ((numQ a0 b0 m0).num)) ((numQ a0 b0 m0).den)) 1)))),
      (88, (isE (.bool true))),
      (89, (isE (.bool true))),
      (90, (isE (.bool true))),
      (91, (isQ (numQ a0 b0 m0) 5)),
      (92, (isT (qtext (numQ a0 b0 m0)))),
      (93, (isT (ztext ((numQ a0 b0 m0).num)))),
      (94, (isE (.bool true))),
      (95, (isE (.bool true))),
      (96, (isE (.bool true))),
      (97, (isQ (numQ a0 b0 m0) 5)),
      (98, (isT (qtext (numQ a0 b0 m0)))),
      (99, (isR (numQ a0 b0 m0) 32)),
      (100, (isT (qtext (numQ a0 b0 m0)))),
      (101, (isE (.bool true))),
      (102, (isE (.bool true))),
      (103, (isE (.bool true))),
      (104, (isW 1 1)),
      (105, (isQ ((1 : Int) : Rat) (max 1 1))),
      (106, (isT (qtext ((1 : Int) : Rat)))),
      (107, (isW 1 1)),
      (108, (isT (ztext 1))),
      (109, (isE (.bool true))),
      (110, (isE (.bool true))),
      (111, (isE (.bool true))),
      (112, (isQ (numQ a0 b0 m0) 5)),
      (113, (isE (.int .i64 (Int.sign ((numQ a0 b0 m0).num))))),
      (114, (isQ (numQ a0 b0 m0) 5)),
      (115, (isW ((numQ a0 b0 m0).num) 5)),
      (116, (isE (.int .i64 (Int.sign ((numQ a0 b0 m0).num))))),
      (117, (isE (.bool true))),
      (118, (isE (.bool true))),
      (6, (isE (.bool true)))])
    ⟨[], []⟩ [⟨3, 24, (isM a0 b0 m0)⟩, ⟨7, 30, (isQ (numQ a0 b0 m0) 5)⟩, ⟨8, 35, (isR (numQ a0 b0 m0) 32)⟩, ⟨9, 28, (isW 1 1)⟩, ⟨10, 30, (isQ (((((numQ a0 b0 m0).num) * 1 : Int) : Rat) / (((signed ((numQ a0 b0 m0).den) false) * 1 : Int) : Rat)) (max (5 + 1) (5 + 1) + 1))⟩, ⟨12, 26, (isN (Nat.gcd (Int.natAbs ((numQ a0 b0 m0).num)) ((numQ a0 b0 m0).den)) 5)⟩] [(0, (isM a0 b0 m0)), (1, (isS l)), (2, (isE (.bool m))), (29, (isE (.bool true))), (11, (isE (.int .i64 0))), (13, (isT (ztext ((numQ a0 b0 m0).num)))), (58, (isE (.bool false))), (6, (isE (.bool true)))] (by kernel_rfl) (by kernel_rfl) (look_stb _ ⟨(stb_eq _), (stb_eq _), (stb_eq _), (stb_eq _), (stb_eq _), (stb_eq _), (stb_Q _ _), (stb_Q _ _), (stb_eq _), (stb_eq _), (stb_eq _), (stb_eq _), (stb_Q _ _), (stb_eq _), (stb_Q _ _), (stb_eq _), (stb_eq _), (stb_eq _), (stb_eq _), (stb_N _ _), (stb_S _), (stb_N _ _), (stb_eq _), (stb_eq _), (stb_eq _), (stb_eq _), (stb_Q _ _), (stb_eq _), (stb_eq _), (stb_eq _), (stb_eq _), (stb_eq _), (stb_Q _ _), (stb_eq _), (stb_R _ _), (stb_eq _), (stb_eq _), (stb_eq _), (stb_eq _), (stb_W _ _), (stb_Q _ _), (stb_eq _), (stb_W _ _), (stb_eq _), (stb_eq _), (stb_eq _), (stb_eq _), (stb_Q _ _), (stb_eq _), (stb_Q _ _), (stb_W _ _), (stb_eq _), (stb_eq _), (stb_eq _), (stb_eq _), trivial⟩) ⟨(stb_M _ _ _), (stb_Q _ _), (stb_R _ _), (stb_W _ _), (stb_Q _ _), (stb_N _ _), trivial⟩ ⟨(stb_eq _), (stb_M _ _ _), (stb_S _), (stb_eq _), (stb_eq _), (stb_eq _), (stb_eq _), (stb_eq _), trivial⟩ trivial trivial
    ⟨.inr (.inl ⟨rfl, _, (List.Mem.head _), rfl, rfl, (fun _ _ h => h)⟩), .inr (.inl ⟨rfl, _, (List.Mem.tail _ (List.Mem.head _)), rfl, rfl, (fun _ _ h => h)⟩), .inr (.inl ⟨rfl, _, (List.Mem.tail _ (List.Mem.tail _ (List.Mem.head _))), rfl, rfl, (fun _ _ h => h)⟩), .inr (.inl ⟨rfl, _, (List.Mem.tail _ (List.Mem.tail _ (List.Mem.tail _ (List.Mem.head _)))), rfl, rfl, (fun _ _ h => h)⟩), .inr (.inl ⟨rfl, _, (List.Mem.tail _ (List.Mem.tail _ (List.Mem.tail _ (List.Mem.tail _ (List.Mem.head _))))), rfl, rfl, (fun _ _ h => h)⟩), .inr (.inl ⟨rfl, _, (List.Mem.tail _ (List.Mem.tail _ (List.Mem.tail _ (List.Mem.tail _ (List.Mem.tail _ (List.Mem.head _)))))), rfl, rfl, (fun _ _ h => h)⟩), trivial⟩
    ⟨.inr ⟨(by kernel_rfl), _, (List.Mem.tail _ (List.Mem.head _)), rfl, (fun _ _ h => h)⟩, .inr ⟨(by kernel_rfl), _, (List.Mem.tail _ (List.Mem.tail _ (List.Mem.head _))), rfl, (fun _ _ h => h)⟩, .inr ⟨(by kernel_rfl), _, (List.Mem.tail _ (List.Mem.tail _ (List.Mem.tail _ (List.Mem.head _)))), rfl, (fun _ _ h => h)⟩, .inr ⟨(by kernel_rfl), _, (List.Mem.tail _ (List.Mem.tail _ (List.Mem.tail _ (List.Mem.tail _ (List.Mem.head _))))), rfl, (fun _ _ h => h)⟩, .inr ⟨(by kernel_rfl), _, (List.Mem.tail _ (List.Mem.tail _ (List.Mem.tail _ (List.Mem.tail _ (List.Mem.tail _ (List.Mem.head _)))))), rfl, (fun _ _ h => h)⟩, .inr ⟨(by kernel_rfl), _, (List.Mem.tail _ (List.Mem.tail _ (List.Mem.tail _ (List.Mem.tail _ (List.Mem.tail _ (List.Mem.tail _ (List.Mem.head _))))))), rfl, (fun _ _ h => h)⟩, .inr ⟨(by kernel_rfl), _, (List.Mem.tail _ (List.Mem.tail _ (List.Mem.tail _ (List.Mem.tail _ (List.Mem.tail _ (List.Mem.tail _ (List.Mem.tail _ (List.Mem.head _)))))))), rfl, (fun _ _ h => h)⟩, .inl ⟨(by kernel_rfl), rfl, (fun _ _ h => h)⟩, trivial⟩
    (steps (m := 55) (by kernel_rfl) ⟨stepN (i := 0) (dst := some 65) (op := (.call { callee := .value (.func 11), args := #[], argTypes := #[] })) (by kernel_rfl) (call0 (enters_of Tryz.func11 (by kernel_rfl) rfl) (fun w => wakes5 w) (fun _ _ h => h)),
      stepN (i := 1) (dst := some 66) (op := (.move (.tmp 65))) (by kernel_rfl) (move (argT (p := (isE (.bool true))) (by kernel_rfl) (fun _ _ h => h)) (fun _ _ h => h)),
      stepG (i := 2) (j := 1) (dj := 66) (b := true) (dst := some 67) (op := (.move (.tmp 11))) (by kernel_rfl) (by kernel_rfl) (by kernel_rfl) (fun _ _ h => h) (move (argO (p := (isE (.int .i64 0))) (List.Mem.tail _ (List.Mem.tail _ (List.Mem.tail _ (List.Mem.tail _ (List.Mem.tail _ (List.Mem.head _)))))) (by kernel_rfl)) (fun _ _ h => h)),
      stepG (i := 3) (j := 1) (dj := 66) (b := true) (dst := some 68) (op := (.binOp .eql 38 (.tmp 67) (.const (.int .i64 0)) 38)) (by kernel_rfl) (by kernel_rfl) (by kernel_rfl) (fun _ _ h => h) (eql (m := 0) (n := 0) (argT (p := (isE (.int .i64 0))) (by kernel_rfl) (fun _ _ h => h)) (argC (.int .i64 0)) (fun w v h => h.trans (congrArg Value.bool (rfl)))),
      stepN (i := 4) (dst := some 69) (op := (.pick (.tmp 66) (.tmp 68) (.const (.bool false)))) (by kernel_rfl) (pickT (argT (p := (isE (.bool true))) (by kernel_rfl) (fun _ _ h => h)) (argT (p := (isE (.bool true))) (by kernel_rfl) (fun _ _ h => h)) (fun _ _ h => h)),
      stepN (i := 5) (dst := some 70) (op := (.move (.tmp 69))) (by kernel_rfl) (move (argT (p := (isE (.bool true))) (by kernel_rfl) (fun _ _ h => h)) (fun _ _ h => h)),
      stepG (i := 6) (j := 5) (dj := 70) (b := true) (dst := some 71) (op := (.load 30 (.tmp 10))) (by kernel_rfl) (by kernel_rfl) (by kernel_rfl) (fun _ _ h => h) (loadV (List.Mem.tail _ (List.Mem.tail _ (List.Mem.tail _ (List.Mem.tail _ (List.Mem.head _))))) (by kernel_rfl) (fun _ _ h => h)),
      stepG (i := 7) (j := 5) (dj := 70) (b := true) (dst := some 72) (op := (.load 30 (.tmp 7))) (by kernel_rfl) (by kernel_rfl) (by kernel_rfl) (fun _ _ h => h) (loadV (List.Mem.tail _ (List.Mem.head _)) (by kernel_rfl) (fun _ _ h => h)),
      stepG (i := 8) (j := 5) (dj := 70) (b := true) (dst := some 73) (op := (.call { callee := .value (.func 18), args := #[(.tmp 71), (.tmp 72)], argTypes := #[30, 30] })) (by kernel_rfl) (by kernel_rfl) (by kernel_rfl) (fun _ _ h => h) (call2 (enters_of Tryz.func18 (by kernel_rfl) rfl) (argT (p := (isQ (((((numQ a0 b0 m0).num) * 1 : Int) : Rat) / (((signed ((numQ a0 b0 m0).den) false) * 1 : Int) : Rat)) (max (5 + 1) (5 + 1) + 1))) (by kernel_rfl) (fun _ _ h => h)) (argT (p := (isQ (numQ a0 b0 m0) 5)) (by kernel_rfl) (fun _ _ h => h)) (fun w u1 u2 h1 h2 => cmp_q h1 h2 (by omega) (by omega)) (fun _ _ h => h)),
      stepG (i := 9) (j := 5) (dj := 70) (b := true) (dst := some 74) (op := (.binOp .eql 3 (.tmp 73) (.const (.int .i64 0)) 3)) (by kernel_rfl) (by kernel_rfl) (by kernel_rfl) (fun _ _ h => h) (eql (m := (cmpQ (((((numQ a0 b0 m0).num) * 1 : Int) : Rat) / (((signed ((numQ a0 b0 m0).den) false) * 1 : Int) : Rat)) (numQ a0 b0 m0))) (n := 0) (argT (p := (isE (.int .i64 (cmpQ (((((numQ a0 b0 m0).num) * 1 : Int) : Rat) / (((signed ((numQ a0 b0 m0).den) false) * 1 : Int) : Rat)) (numQ a0 b0 m0))))) (by kernel_rfl) (fun _ _ h => h)) (argC (.int .i64 0)) (fun w v h => h.trans (congrArg Value.bool (cmp_id (times_both _ (by decide)))))),
      stepN (i := 10) (dst := some 75) (op := (.pick (.tmp 70) (.tmp 74) (.const (.bool false)))) (by kernel_rfl) (pickT (argT (p := (isE (.bool true))) (by kernel_rfl) (fun _ _ h => h)) (argT (p := (isE (.bool true))) (by kernel_rfl) (fun _ _ h => h)) (fun _ _ h => h)),
      stepN (i := 11) (dst := some 76) (op := (.move (.tmp 75))) (by kernel_rfl) (move (argT (p := (isE (.bool true))) (by kernel_rfl) (fun _ _ h => h)) (fun _ _ h => h)),
      stepG (i := 12) (j := 11) (dj := 76) (b := true) (dst := some 77) (op := (.load 30 (.tmp 10))) (by kernel_rfl) (by kernel_rfl) (by kernel_rfl) (fun _ _ h => h) (loadV (List.Mem.tail _ (List.Mem.tail _ (List.Mem.tail _ (List.Mem.tail _ (List.Mem.head _))))) (by kernel_rfl) (fun _ _ h => h)),
      stepG (i := 13) (j := 11) (dj := 76) (b := true) (dst := some 78) (op := (.call { callee := .value (.func 8), args := #[(.tmp 77)], argTypes := #[30] })) (by kernel_rfl) (by kernel_rfl) (by kernel_rfl) (fun _ _ h => h) (call1 (enters_of Tryz.func8 (by kernel_rfl) rfl) (argT (p := (isQ (((((numQ a0 b0 m0).num) * 1 : Int) : Rat) / (((signed ((numQ a0 b0 m0).den) false) * 1 : Int) : Rat)) (max (5 + 1) (5 + 1) + 1))) (by kernel_rfl) (fun _ _ h => h)) (fun w u1 h1 => print_q h1 (by omega)) (fun _ _ h => h)),
      stepG (i := 14) (j := 11) (dj := 76) (b := true) (dst := some 79) (op := (.load 30 (.tmp 7))) (by kernel_rfl) (by kernel_rfl) (by kernel_rfl) (fun _ _ h => h) (loadV (List.Mem.tail _ (List.Mem.head _)) (by kernel_rfl) (fun _ _ h => h)),
      stepG (i := 15) (j := 11) (dj := 76) (b := true) (dst := some 80) (op := (.call { callee := .value (.func 8), args := #[(.tmp 79)], argTypes := #[30] })) (by kernel_rfl) (by kernel_rfl) (by kernel_rfl) (fun _ _ h => h) (call1 (enters_of Tryz.func8 (by kernel_rfl) rfl) (argT (p := (isQ (numQ a0 b0 m0) 5)) (by kernel_rfl) (fun _ _ h => h)) (fun w u1 h1 => print_q h1 (by omega)) (fun _ _ h => h)),
      stepG (i := 16) (j := 11) (dj := 76) (b := true) (dst := some 81) (op := (.binOp .eql 9 (.tmp 78) (.tmp 80) 9)) (by kernel_rfl) (by kernel_rfl) (by kernel_rfl) (fun _ _ h => h) (eqlS (l := qtext (((((numQ a0 b0 m0).num) * 1 : Int) : Rat) / (((signed ((numQ a0 b0 m0).den) false) * 1 : Int) : Rat))) (r := qtext (numQ a0 b0 m0)) (argT (p := (isT (qtext (((((numQ a0 b0 m0).num) * 1 : Int) : Rat) / (((signed ((numQ a0 b0 m0).den) false) * 1 : Int) : Rat))))) (by kernel_rfl) (fun _ _ h => h)) (argT (p := (isT (qtext (numQ a0 b0 m0)))) (by kernel_rfl) (fun _ _ h => h)) (fun w v h => h.trans (congrArg Value.bool (qtext_eq (times_both _ (by decide)))))),
      stepN (i := 17) (dst := some 82) (op := (.pick (.tmp 76) (.tmp 81) (.const (.bool false)))) (by kernel_rfl) (pickT (argT (p := (isE (.bool true))) (by kernel_rfl) (fun _ _ h => h)) (argT (p := (isE (.bool true))) (by kernel_rfl) (fun _ _ h => h)) (fun _ _ h => h)),
      stepN (i := 18) (dst := some 83) (op := (.move (.tmp 82))) (by kernel_rfl) (move (argT (p := (isE (.bool true))) (by kernel_rfl) (fun _ _ h => h)) (fun _ _ h => h)),
      stepG (i := 19) (j := 18) (dj := 83) (b := true) (dst := some 84) (op := (.load 26 (.tmp 12))) (by kernel_rfl) (by kernel_rfl) (by kernel_rfl) (fun _ _ h => h) (loadV (List.Mem.tail _ (List.Mem.tail _ (List.Mem.tail _ (List.Mem.tail _ (List.Mem.tail _ (List.Mem.head _)))))) (by kernel_rfl) (fun _ _ h => h)),
      stepG (i := 20) (j := 18) (dj := 83) (b := true) (dst := some 85) (op := (.buildSlice 22 1 #[(0, (.const (.int .u64 1)))])) (by kernel_rfl) (by kernel_rfl) (by kernel_rfl) (fun _ _ h => h) (buildOneZ (x := 1) (small_lt (by decide)) (fun _ _ h => h)),
      stepG (i := 21) (j := 18) (dj := 83) (b := true) (dst := some 86) (op := (.call { callee := .value (.func 27), args := #[(.tmp 85)], argTypes := #[22] })) (by kernel_rfl) (by kernel_rfl) (by kernel_rfl) (fun _ _ h => h) (call1 (enters_of Tryz.func27 (by kernel_rfl) rfl) (argT (p := (isS ([1]))) (by kernel_rfl) (fun _ _ h => h)) (fun w u1 h1 => of_one h1) (fun _ _ h => h)),
      stepG (i := 22) (j := 18) (dj := 83) (b := true) (dst := some 87) (op := (.call { callee := .value (.func 36), args := #[(.tmp 84), (.tmp 86)], argTypes := #[26, 26] })) (by kernel_rfl) (by kernel_rfl) (by kernel_rfl) (fun _ _ h => h) (call2 (enters_of Tryz.func36 (by kernel_rfl) rfl) (argT (p := (isN (Nat.gcd (Int.natAbs ((numQ a0 b0 m0).num)) ((numQ a0 b0 m0).den)) 5)) (by kernel_rfl) (fun _ _ h => h)) (argT (p := (isN 1 1)) (by kernel_rfl) (fun _ _ h => h)) (fun w u1 u2 h1 h2 => cmp_n h1 h2 (by omega)) (fun _ _ h => h)),
      stepG (i := 23) (j := 18) (dj := 83) (b := true) (dst := some 88) (op := (.binOp .eql 3 (.tmp 87) (.const (.int .i64 0)) 3)) (by kernel_rfl) (by kernel_rfl) (by kernel_rfl) (fun _ _ h => h) (eql (m := (Mx.cmp (Nat.gcd (Int.natAbs ((numQ a0 b0 m0).num)) ((numQ a0 b0 m0).den)) 1)) (n := 0) (argT (p := (isE (.int .i64 (Mx.cmp (Nat.gcd (Int.natAbs ((numQ a0 b0 m0).num)) ((numQ a0 b0 m0).den)) 1)))) (by kernel_rfl) (fun _ _ h => h)) (argC (.int .i64 0)) (fun w v h => h.trans (congrArg Value.bool (low_gcd _)))),
      stepN (i := 24) (dst := some 89) (op := (.pick (.tmp 83) (.tmp 88) (.const (.bool false)))) (by kernel_rfl) (pickT (argT (p := (isE (.bool true))) (by kernel_rfl) (fun _ _ h => h)) (argT (p := (isE (.bool true))) (by kernel_rfl) (fun _ _ h => h)) (fun _ _ h => h)),
      stepN (i := 25) (dst := some 90) (op := (.move (.tmp 89))) (by kernel_rfl) (move (argT (p := (isE (.bool true))) (by kernel_rfl) (fun _ _ h => h)) (fun _ _ h => h)),
      stepG (i := 26) (j := 25) (dj := 90) (b := true) (dst := some 91) (op := (.load 30 (.tmp 7))) (by kernel_rfl) (by kernel_rfl) (by kernel_rfl) (fun _ _ h => h) (loadV (List.Mem.tail _ (List.Mem.head _)) (by kernel_rfl) (fun _ _ h => h)),
      stepG (i := 27) (j := 25) (dj := 90) (b := true) (dst := some 92) (op := (.call { callee := .value (.func 8), args := #[(.tmp 91)], argTypes := #[30] })) (by kernel_rfl) (by kernel_rfl) (by kernel_rfl) (fun _ _ h => h) (call1 (enters_of Tryz.func8 (by kernel_rfl) rfl) (argT (p := (isQ (numQ a0 b0 m0) 5)) (by kernel_rfl) (fun _ _ h => h)) (fun w u1 h1 => print_q h1 (by omega)) (fun _ _ h => h)),
      stepG (i := 28) (j := 25) (dj := 90) (b := true) (dst := some 93) (op := (.move (.tmp 13))) (by kernel_rfl) (by kernel_rfl) (by kernel_rfl) (fun _ _ h => h) (move (argO (p := (isT (ztext ((numQ a0 b0 m0).num)))) (List.Mem.tail _ (List.Mem.tail _ (List.Mem.tail _ (List.Mem.tail _ (List.Mem.tail _ (List.Mem.tail _ (List.Mem.head _))))))) (by kernel_rfl)) (fun _ _ h => h)),
      stepG (i := 29) (j := 25) (dj := 90) (b := true) (dst := some 94) (op := (.binOp .eql 9 (.tmp 92) (.tmp 93) 9)) (by kernel_rfl) (by kernel_rfl) (by kernel_rfl) (fun _ _ h => h) (eqlS (l := qtext (numQ a0 b0 m0)) (r := ztext ((numQ a0 b0 m0).num)) (argT (p := (isT (qtext (numQ a0 b0 m0)))) (by kernel_rfl) (fun _ _ h => h)) (argT (p := (isT (ztext ((numQ a0 b0 m0).num)))) (by kernel_rfl) (fun _ _ h => h)) (fun w v h => h.trans (congrArg Value.bool (by rw [qtext, if_pos hd]; simp)))),
      stepN (i := 30) (dst := some 95) (op := (.pick (.tmp 90) (.tmp 94) (.const (.bool false)))) (by kernel_rfl) (pickT (argT (p := (isE (.bool true))) (by kernel_rfl) (fun _ _ h => h)) (argT (p := (isE (.bool true))) (by kernel_rfl) (fun _ _ h => h)) (fun _ _ h => h)),
      stepN (i := 31) (dst := some 96) (op := (.move (.tmp 95))) (by kernel_rfl) (move (argT (p := (isE (.bool true))) (by kernel_rfl) (fun _ _ h => h)) (fun _ _ h => h)),
      stepG (i := 32) (j := 31) (dj := 96) (b := true) (dst := some 97) (op := (.load 30 (.tmp 7))) (by kernel_rfl) (by kernel_rfl) (by kernel_rfl) (fun _ _ h => h) (loadV (List.Mem.tail _ (List.Mem.head _)) (by kernel_rfl) (fun _ _ h => h)),
      stepG (i := 33) (j := 31) (dj := 96) (b := true) (dst := some 98) (op := (.call { callee := .value (.func 8), args := #[(.tmp 97)], argTypes := #[30] })) (by kernel_rfl) (by kernel_rfl) (by kernel_rfl) (fun _ _ h => h) (call1 (enters_of Tryz.func8 (by kernel_rfl) rfl) (argT (p := (isQ (numQ a0 b0 m0) 5)) (by kernel_rfl) (fun _ _ h => h)) (fun w u1 h1 => print_q h1 (by omega)) (fun _ _ h => h)),
      stepG (i := 34) (j := 31) (dj := 96) (b := true) (dst := some 99) (op := (.load 35 (.tmp 8))) (by kernel_rfl) (by kernel_rfl) (by kernel_rfl) (fun _ _ h => h) (loadV (List.Mem.tail _ (List.Mem.tail _ (List.Mem.head _))) (by kernel_rfl) (fun _ _ h => h)),
      stepG (i := 35) (j := 31) (dj := 96) (b := true) (dst := some 100) (op := (.call { callee := .value (.func 9), args := #[(.tmp 99)], argTypes := #[35] })) (by kernel_rfl) (by kernel_rfl) (by kernel_rfl) (fun _ _ h => h) (call1 (enters_of Tryz.func9 (by kernel_rfl) rfl) (argT (p := (isR (numQ a0 b0 m0) 32)) (by kernel_rfl) (fun _ _ h => h)) (fun w u1 h1 => print_r h1 (by omega)) (fun _ _ h => h)),
      stepG (i := 36) (j := 31) (dj := 96) (b := true) (dst := some 101) (op := (.binOp .eql 9 (.tmp 98) (.tmp 100) 9)) (by kernel_rfl) (by kernel_rfl) (by kernel_rfl) (fun _ _ h => h) (eqlS (l := qtext (numQ a0 b0 m0)) (r := qtext (numQ a0 b0 m0)) (argT (p := (isT (qtext (numQ a0 b0 m0)))) (by kernel_rfl) (fun _ _ h => h)) (argT (p := (isT (qtext (numQ a0 b0 m0)))) (by kernel_rfl) (fun _ _ h => h)) (fun w v h => h.trans (congrArg Value.bool (eq_self _)))),
      stepN (i := 37) (dst := some 102) (op := (.pick (.tmp 96) (.tmp 101) (.const (.bool false)))) (by kernel_rfl) (pickT (argT (p := (isE (.bool true))) (by kernel_rfl) (fun _ _ h => h)) (argT (p := (isE (.bool true))) (by kernel_rfl) (fun _ _ h => h)) (fun _ _ h => h)),
      stepN (i := 38) (dst := some 103) (op := (.move (.tmp 102))) (by kernel_rfl) (move (argT (p := (isE (.bool true))) (by kernel_rfl) (fun _ _ h => h)) (fun _ _ h => h)),
      stepG (i := 39) (j := 38) (dj := 103) (b := true) (dst := some 104) (op := (.load 28 (.tmp 9))) (by kernel_rfl) (by kernel_rfl) (by kernel_rfl) (fun _ _ h => h) (loadV (List.Mem.tail _ (List.Mem.tail _ (List.Mem.tail _ (List.Mem.head _)))) (by kernel_rfl) (fun _ _ h => h)),
      stepG (i := 40) (j := 38) (dj := 103) (b := true) (dst := some 105) (op := (.call { callee := .value (.func 38), args := #[(.tmp 104)], argTypes := #[28] })) (by kernel_rfl) (by kernel_rfl) (by kernel_rfl) (fun _ _ h => h) (call1 (enters_of Tryz.func38 (by kernel_rfl) rfl) (argT (p := (isW 1 1)) (by kernel_rfl) (fun _ _ h => h)) (fun w u1 h1 => from_q h1) (fun _ _ h => h)),
      stepG (i := 41) (j := 38) (dj := 103) (b := true) (dst := some 106) (op := (.call { callee := .value (.func 8), args := #[(.tmp 105)], argTypes := #[30] })) (by kernel_rfl) (by kernel_rfl) (by kernel_rfl) (fun _ _ h => h) (call1 (enters_of Tryz.func8 (by kernel_rfl) rfl) (argT (p := (isQ ((1 : Int) : Rat) (max 1 1))) (by kernel_rfl) (fun _ _ h => h)) (fun w u1 h1 => print_q h1 (by omega)) (fun _ _ h => h)),
      stepG (i := 42) (j := 38) (dj := 103) (b := true) (dst := some 107) (op := (.load 28 (.tmp 9))) (by kernel_rfl) (by kernel_rfl) (by kernel_rfl) (fun _ _ h => h) (loadV (List.Mem.tail _ (List.Mem.tail _ (List.Mem.tail _ (List.Mem.head _)))) (by kernel_rfl) (fun _ _ h => h)),
      stepG (i := 43) (j := 38) (dj := 103) (b := true) (dst := some 108) (op := (.call { callee := .value (.func 23), args := #[(.tmp 107)], argTypes := #[28] })) (by kernel_rfl) (by kernel_rfl) (by kernel_rfl) (fun _ _ h => h) (call1 (enters_of Tryz.func23 (by kernel_rfl) rfl) (argT (p := (isW 1 1)) (by kernel_rfl) (fun _ _ h => h)) (fun w u1 h1 => print_w h1 (by omega)) (fun _ _ h => h)),
      stepG (i := 44) (j := 38) (dj := 103) (b := true) (dst := some 109) (op := (.binOp .eql 9 (.tmp 106) (.tmp 108) 9)) (by kernel_rfl) (by kernel_rfl) (by kernel_rfl) (fun _ _ h => h) (eqlS (l := qtext ((1 : Int) : Rat)) (r := ztext 1) (argT (p := (isT (qtext ((1 : Int) : Rat)))) (by kernel_rfl) (fun _ _ h => h)) (argT (p := (isT (ztext 1))) (by kernel_rfl) (fun _ _ h => h)) (fun w v h => h.trans (congrArg Value.bool (qtext_int _)))),
      stepN (i := 45) (dst := some 110) (op := (.pick (.tmp 103) (.tmp 109) (.const (.bool false)))) (by kernel_rfl) (pickT (argT (p := (isE (.bool true))) (by kernel_rfl) (fun _ _ h => h)) (argT (p := (isE (.bool true))) (by kernel_rfl) (fun _ _ h => h)) (fun _ _ h => h)),
      stepN (i := 46) (dst := some 111) (op := (.move (.tmp 110))) (by kernel_rfl) (move (argT (p := (isE (.bool true))) (by kernel_rfl) (fun _ _ h => h)) (fun _ _ h => h)),
      stepG (i := 47) (j := 46) (dj := 111) (b := true) (dst := some 112) (op := (.load 30 (.tmp 7))) (by kernel_rfl) (by kernel_rfl) (by kernel_rfl) (fun _ _ h => h) (loadV (List.Mem.tail _ (List.Mem.head _)) (by kernel_rfl) (fun _ _ h => h)),
      stepG (i := 48) (j := 46) (dj := 111) (b := true) (dst := some 113) (op := (.call { callee := .value (.func 7), args := #[(.tmp 112)], argTypes := #[30] })) (by kernel_rfl) (by kernel_rfl) (by kernel_rfl) (fun _ _ h => h) (call1 (enters_of Tryz.func7 (by kernel_rfl) rfl) (argT (p := (isQ (numQ a0 b0 m0) 5)) (by kernel_rfl) (fun _ _ h => h)) (fun w u1 h1 => sign_q h1) (fun _ _ h => h)),
      stepG (i := 49) (j := 46) (dj := 111) (b := true) (dst := some 114) (op := (.load 30 (.tmp 7))) (by kernel_rfl) (by kernel_rfl) (by kernel_rfl) (fun _ _ h => h) (loadV (List.Mem.tail _ (List.Mem.head _)) (by kernel_rfl) (fun _ _ h => h)),
      stepG (i := 50) (j := 46) (dj := 111) (b := true) (dst := some 115) (op := (.call { callee := .value (.func 31), args := #[(.tmp 114)], argTypes := #[30] })) (by kernel_rfl) (by kernel_rfl) (by kernel_rfl) (fun _ _ h => h) (call1 (enters_of Tryz.func31 (by kernel_rfl) rfl) (argT (p := (isQ (numQ a0 b0 m0) 5)) (by kernel_rfl) (fun _ _ h => h)) (fun w u1 h1 => num_q h1) (fun _ _ h => h)),
      stepG (i := 51) (j := 46) (dj := 111) (b := true) (dst := some 116) (op := (.call { callee := .value (.func 28), args := #[(.tmp 115)], argTypes := #[28] })) (by kernel_rfl) (by kernel_rfl) (by kernel_rfl) (fun _ _ h => h) (call1 (enters_of Tryz.func28 (by kernel_rfl) rfl) (argT (p := (isW ((numQ a0 b0 m0).num) 5)) (by kernel_rfl) (fun _ _ h => h)) (fun w u1 h1 => sign_w h1) (fun _ _ h => h)),
      stepG (i := 52) (j := 46) (dj := 111) (b := true) (dst := some 117) (op := (.binOp .eql 3 (.tmp 113) (.tmp 116) 3)) (by kernel_rfl) (by kernel_rfl) (by kernel_rfl) (fun _ _ h => h) (eql (m := (Int.sign ((numQ a0 b0 m0).num))) (n := (Int.sign ((numQ a0 b0 m0).num))) (argT (p := (isE (.int .i64 (Int.sign ((numQ a0 b0 m0).num))))) (by kernel_rfl) (fun _ _ h => h)) (argT (p := (isE (.int .i64 (Int.sign ((numQ a0 b0 m0).num))))) (by kernel_rfl) (fun _ _ h => h)) (fun w v h => h.trans (congrArg Value.bool (decide_eq_true rfl)))),
      stepN (i := 53) (dst := some 118) (op := (.pick (.tmp 111) (.tmp 117) (.const (.bool false)))) (by kernel_rfl) (pickT (argT (p := (isE (.bool true))) (by kernel_rfl) (fun _ _ h => h)) (argT (p := (isE (.bool true))) (by kernel_rfl) (fun _ _ h => h)) (fun _ _ h => h)),
      stepN (i := 54) (dst := some 6) (op := (.assign (.tmp 118))) (by kernel_rfl) (assign (argT (p := (isE (.bool true))) (by kernel_rfl) (fun _ _ h => h)) (fun _ _ h => h)), trivial⟩) ?_
  clear hS kf ac
  try clear w
  intro kf ac w hS
  exact wp_ret (ret_t (q := (isE (.bool true))) (by kernel_rfl) hS (List.Mem.tail _ (List.Mem.tail _ (List.Mem.tail _ (List.Mem.tail _ (List.Mem.tail _ (List.Mem.tail _ (List.Mem.tail _ (List.Mem.head _)))))))) (fun v h => ⟨v, rfl, (h), hS.grow⟩))
set_option maxRecDepth 100000 in
set_option maxHeartbeats 4000000 in
theorem lowest5_10 {w : World} {v0 v1 v2 : Value} {a0 b0 : List Nat} {m0 : Bool} {l : List Nat} {m : Bool} (h0 : (isM a0 b0 m0) w v0) (h1 : (isS l) w v1) (h2 : (isE (.bool m)) w v2) (hk : signed (Mx.val (l.take 3)) m = 0) (hd : (numQ a0 b0 m0).den ≠ 1) : Calls Tryz.prog 4 #[v0, v1, v2] w (Ret w fun v w' => (isE (.bool true)) w' v) := by
  have hq1 := (num_qlen h0).1
  have hq2 := (num_qlen h0).2
  refine enter (s := soft) (n := 119) (c := (.seq (.region 0 (regionOps Tryz.f4 0) false) (.seq (.region 1 (regionOps Tryz.f4 1) false) (.seq (.region 2 (regionOps Tryz.f4 2) false) (.seq (.seq (.region 3 (regionOps Tryz.f4 3) false) (.cond (.tmp 29) (.region 4 (regionOps Tryz.f4 4) false) .skip)) (.seq (.region 5 (regionOps Tryz.f4 5) true) (.seq (.region 6 (regionOps Tryz.f4 6) true) (.seq (.region 7 (regionOps Tryz.f4 7) false) (.seq (.seq (.region 8 (regionOps Tryz.f4 8) false) (.cond (.tmp 58) (.region 9 (regionOps Tryz.f4 9) false) .skip)) (.seq (.region 10 (regionOps Tryz.f4 10) true) .ret)))))))))) Tryz.func4 (by kernel_rfl) (by kernel_rfl) (by simp) [(0, (isM a0 b0 m0)), (1, (isS l)), (2, (isE (.bool m)))] ⟨⟨by simp, h0⟩, ⟨by simp, h1⟩, ⟨by simp, h2⟩, trivial⟩ ?_
  intro kf ac hS
  refine plain_seq (m := 2) (by kernel_rfl) ?_
  refine box0 (p := 3) (y := 0) (t := 24) (q := (isM a0 b0 m0)) hS (by kernel_rfl) rfl rfl rfl (List.Mem.head _) shM trivial ⟨(stb_M _ _ _), (stb_S _), (stb_eq _), trivial⟩ ?_
  clear hS kf ac
  try clear w
  intro kf ac w hS
  refine const0 (p := 6) (c := (.bool false)) hS (by kernel_rfl) rfl rfl rfl ?_
  clear hS kf ac
  try clear w
  intro kf ac w hS
  refine plain_end ?_
  refine region_seq (s := soft) (kf0 := kf) (by kernel_rfl) hS (Rg.look [(15, (isM a0 b0 m0)),
      (16, (IsT [(isQ (numQ a0 b0 m0) 5), (isR (numQ a0 b0 m0) 32)])),
      (14, (IsT [(isQ (numQ a0 b0 m0) 5), (isR (numQ a0 b0 m0) 32)])),
      (17, (isQ (numQ a0 b0 m0) 5)),
      (18, (isR (numQ a0 b0 m0) 32)),
      (7, isX),
      (8, isX)])
    ⟨[(5, 7, 30), (6, 8, 35)], [(7, 7, 17, 30), (8, 8, 18, 35)]⟩ [⟨3, 24, (isM a0 b0 m0)⟩, ⟨7, 30, (isQ (numQ a0 b0 m0) 5)⟩, ⟨8, 35, (isR (numQ a0 b0 m0) 32)⟩] [(6, (isE (.bool false))), (0, (isM a0 b0 m0)), (1, (isS l)), (2, (isE (.bool m)))] (by kernel_rfl) (by kernel_rfl) (look_stb _ ⟨(stb_M _ _ _), (stb_T ⟨(stb_Q _ _), (stb_R _ _), trivial⟩), (stb_T ⟨(stb_Q _ _), (stb_R _ _), trivial⟩), (stb_Q _ _), (stb_R _ _), stb_true, stb_true, trivial⟩) ⟨(stb_M _ _ _), trivial⟩ ⟨(stb_eq _), (stb_M _ _ _), (stb_S _), (stb_eq _), trivial⟩ ⟨fun _ _ => trivial, fun _ _ => trivial, trivial⟩ ⟨shQ, shR, trivial⟩
    ⟨.inr (.inl ⟨rfl, _, (List.Mem.head _), rfl, rfl, (fun _ _ h => h)⟩), .inl ⟨_, (List.Mem.head _), rfl, rfl, (fun _ _ h => h)⟩, .inl ⟨_, (List.Mem.tail _ (List.Mem.head _)), rfl, rfl, (fun _ _ h => h)⟩, trivial⟩
    ⟨.inr ⟨(by kernel_rfl), _, (List.Mem.head _), rfl, (fun _ _ h => h)⟩, .inr ⟨(by kernel_rfl), _, (List.Mem.tail _ (List.Mem.head _)), rfl, (fun _ _ h => h)⟩, .inr ⟨(by kernel_rfl), _, (List.Mem.tail _ (List.Mem.tail _ (List.Mem.head _))), rfl, (fun _ _ h => h)⟩, .inr ⟨(by kernel_rfl), _, (List.Mem.tail _ (List.Mem.tail _ (List.Mem.tail _ (List.Mem.head _)))), rfl, (fun _ _ h => h)⟩, trivial⟩
    (steps (m := 9) (by kernel_rfl) ⟨stepN (i := 0) (dst := some 15) (op := (.load 24 (.tmp 3))) (by kernel_rfl) (loadV (List.Mem.head _) (by kernel_rfl) (fun _ _ h => h)),
      stepN (i := 1) (dst := some 16) (op := (.call { callee := .value (.func 5), args := #[(.tmp 15)], argTypes := #[24] })) (by kernel_rfl) (call1 (enters_of Tryz.func5 (by kernel_rfl) rfl) (argT (p := (isM a0 b0 m0)) (by kernel_rfl) (fun _ _ h => h)) (fun w u1 h1 => num_m h1) (fun _ _ h => h)),
      stepN (i := 2) (dst := some 14) (op := (.move (.tmp 16))) (by kernel_rfl) (move (argT (p := (IsT [(isQ (numQ a0 b0 m0) 5), (isR (numQ a0 b0 m0) 32)])) (by kernel_rfl) (fun _ _ h => h)) (fun _ _ h => h)),
      stepN (i := 3) (dst := some 17) (op := (.extract (.tmp 14) 0)) (by kernel_rfl) (extract (by kernel_rfl) (fun _ _ h => h) rfl (fun _ _ h => h)),
      stepN (i := 4) (dst := some 18) (op := (.extract (.tmp 14) 1)) (by kernel_rfl) (extract (by kernel_rfl) (fun _ _ h => h) rfl (fun _ _ h => h)),
      isAlloc rfl,
      isAlloc rfl,
      isStore rfl,
      isStore rfl, trivial⟩) ?_
  clear hS kf ac
  try clear w
  intro kf ac w hS
  refine region_seq (s := soft) (kf0 := kf) (by kernel_rfl) hS (Rg.look [(19, (isS l)),
      (20, (isS l)),
      (21, (isE (.int .i64 ((l.length : Nat) : Int)))),
      (22, (isE (.int .i64 (((min l.length 3 : Nat) : Int))))),
      (23, (isS (l.take 3))),
      (24, (isN (Mx.val (l.take 3)) 4)),
      (25, (isE (.bool m))),
      (26, (isW (signed (Mx.val (l.take 3)) m) 4)),
      (9, isX)])
    ⟨[(8, 9, 28)], [(9, 9, 26, 28)]⟩ [⟨3, 24, (isM a0 b0 m0)⟩, ⟨7, 30, (isQ (numQ a0 b0 m0) 5)⟩, ⟨8, 35, (isR (numQ a0 b0 m0) 32)⟩, ⟨9, 28, (isW (signed (Mx.val (l.take 3)) m) 4)⟩] [(6, (isE (.bool false))), (0, (isM a0 b0 m0)), (1, (isS l)), (2, (isE (.bool m)))] (by kernel_rfl) (by kernel_rfl) (look_stb _ ⟨(stb_S _), (stb_S _), (stb_eq _), (stb_eq _), (stb_S _), (stb_N _ _), (stb_eq _), (stb_W _ _), stb_true, trivial⟩) ⟨(stb_M _ _ _), (stb_Q _ _), (stb_R _ _), trivial⟩ ⟨(stb_eq _), (stb_M _ _ _), (stb_S _), (stb_eq _), trivial⟩ ⟨fun _ _ => trivial, trivial⟩ ⟨shW, trivial⟩
    ⟨.inr (.inl ⟨rfl, _, (List.Mem.head _), rfl, rfl, (fun _ _ h => h)⟩), .inr (.inl ⟨rfl, _, (List.Mem.tail _ (List.Mem.head _)), rfl, rfl, (fun _ _ h => h)⟩), .inr (.inl ⟨rfl, _, (List.Mem.tail _ (List.Mem.tail _ (List.Mem.head _))), rfl, rfl, (fun _ _ h => h)⟩), .inl ⟨_, (List.Mem.head _), rfl, rfl, (fun _ _ h => h)⟩, trivial⟩
    ⟨.inr ⟨(by kernel_rfl), _, (List.Mem.head _), rfl, (fun _ _ h => h)⟩, .inr ⟨(by kernel_rfl), _, (List.Mem.tail _ (List.Mem.head _)), rfl, (fun _ _ h => h)⟩, .inr ⟨(by kernel_rfl), _, (List.Mem.tail _ (List.Mem.tail _ (List.Mem.head _))), rfl, (fun _ _ h => h)⟩, .inr ⟨(by kernel_rfl), _, (List.Mem.tail _ (List.Mem.tail _ (List.Mem.tail _ (List.Mem.head _)))), rfl, (fun _ _ h => h)⟩, trivial⟩
    (steps (m := 10) (by kernel_rfl) ⟨stepN (i := 0) (dst := some 19) (op := (.move (.tmp 1))) (by kernel_rfl) (move (argO (p := (isS l)) (List.Mem.tail _ (List.Mem.tail _ (List.Mem.head _))) (by kernel_rfl)) (fun _ _ h => h)),
      stepN (i := 1) (dst := some 20) (op := (.move (.tmp 1))) (by kernel_rfl) (move (argO (p := (isS l)) (List.Mem.tail _ (List.Mem.tail _ (List.Mem.head _))) (by kernel_rfl)) (fun _ _ h => h)),
      stepN (i := 2) (dst := some 21) (op := (.call { callee := .builtin .len, args := #[(.tmp 20)], argTypes := #[22] })) (by kernel_rfl) (lenS (argT (p := (isS l)) (by kernel_rfl) (fun _ _ h => h)) rfl (fun _ _ h => h)),
      stepN (i := 3) (dst := some 22) (op := (.call { callee := .builtin .min, args := #[(.tmp 21), (.const (.int .i64 3))], argTypes := #[3, 3] })) (by kernel_rfl) (minI (r := ((min l.length 3 : Nat) : Int)) (argT (p := (isE (.int .i64 ((l.length : Nat) : Int)))) (by kernel_rfl) (fun _ _ h => h)) (argC (.int .i64 3)) (by omega) (fun _ _ h => h)),
      stepN (i := 4) (dst := some 23) (op := (.slice 22 (.tmp 19) none (some (.tmp 22)) none)) (by kernel_rfl) (upS (n := min l.length 3) (argT (p := (isS l)) (by kernel_rfl) (fun _ _ h => h)) (argT (p := (isE (.int .i64 (((min l.length 3 : Nat) : Int))))) (by kernel_rfl) (fun _ _ h => h)) (by omega) (fun w v h => (by rw [take_min] at h; exact h))),
      stepN (i := 5) (dst := some 24) (op := (.call { callee := .value (.func 27), args := #[(.tmp 23)], argTypes := #[22] })) (by kernel_rfl) (call1 (enters_of Tryz.func27 (by kernel_rfl) rfl) (argT (p := (isS (l.take 3))) (by kernel_rfl) (fun _ _ h => h)) (fun w u1 h1 => of_n 4 h1 (by simp [List.length_take]; omega) (by omega)) (fun _ _ h => h)),
      stepN (i := 6) (dst := some 25) (op := (.move (.tmp 2))) (by kernel_rfl) (move (argO (p := (isE (.bool m))) (List.Mem.tail _ (List.Mem.tail _ (List.Mem.tail _ (List.Mem.head _)))) (by kernel_rfl)) (fun _ _ h => h)),
      stepN (i := 7) (dst := some 26) (op := (.call { callee := .value (.func 26), args := #[(.tmp 24), (.tmp 25)], argTypes := #[26, 4] })) (by kernel_rfl) (call2 (enters_of Tryz.func26 (by kernel_rfl) rfl) (argT (p := (isN (Mx.val (l.take 3)) 4)) (by kernel_rfl) (fun _ _ h => h)) (argT (p := (isE (.bool m))) (by kernel_rfl) (fun _ _ h => h)) (fun w u1 u2 h1 h2 => by subst h2; exact of_w h1) (fun _ _ h => h)),
      isAlloc rfl,
      isStore rfl, trivial⟩) ?_
  clear hS kf ac
  try clear w
  intro kf ac w hS
  refine wp_seq ?_
  refine region_seq (s := soft) (kf0 := kf) (by kernel_rfl) hS (Rg.look [(27, (isW (signed (Mx.val (l.take 3)) m) 4)),
      (28, (isE (.int .i64 (Int.sign (signed (Mx.val (l.take 3)) m))))),
      (29, (isE (.bool true)))])
    ⟨[], []⟩ [⟨3, 24, (isM a0 b0 m0)⟩, ⟨7, 30, (isQ (numQ a0 b0 m0) 5)⟩, ⟨8, 35, (isR (numQ a0 b0 m0) 32)⟩, ⟨9, 28, (isW (signed (Mx.val (l.take 3)) m) 4)⟩] [(6, (isE (.bool false))), (0, (isM a0 b0 m0)), (1, (isS l)), (2, (isE (.bool m))), (29, (isE (.bool true)))] (by kernel_rfl) (by kernel_rfl) (look_stb _ ⟨(stb_W _ _), (stb_eq _), (stb_eq _), trivial⟩) ⟨(stb_M _ _ _), (stb_Q _ _), (stb_R _ _), (stb_W _ _), trivial⟩ ⟨(stb_eq _), (stb_M _ _ _), (stb_S _), (stb_eq _), trivial⟩ trivial trivial
    ⟨.inr (.inl ⟨rfl, _, (List.Mem.head _), rfl, rfl, (fun _ _ h => h)⟩), .inr (.inl ⟨rfl, _, (List.Mem.tail _ (List.Mem.head _)), rfl, rfl, (fun _ _ h => h)⟩), .inr (.inl ⟨rfl, _, (List.Mem.tail _ (List.Mem.tail _ (List.Mem.head _))), rfl, rfl, (fun _ _ h => h)⟩), .inr (.inl ⟨rfl, _, (List.Mem.tail _ (List.Mem.tail _ (List.Mem.tail _ (List.Mem.head _)))), rfl, rfl, (fun _ _ h => h)⟩), trivial⟩
    ⟨.inr ⟨(by kernel_rfl), _, (List.Mem.head _), rfl, (fun _ _ h => h)⟩, .inr ⟨(by kernel_rfl), _, (List.Mem.tail _ (List.Mem.head _)), rfl, (fun _ _ h => h)⟩, .inr ⟨(by kernel_rfl), _, (List.Mem.tail _ (List.Mem.tail _ (List.Mem.head _))), rfl, (fun _ _ h => h)⟩, .inr ⟨(by kernel_rfl), _, (List.Mem.tail _ (List.Mem.tail _ (List.Mem.tail _ (List.Mem.head _)))), rfl, (fun _ _ h => h)⟩, .inl ⟨(by kernel_rfl), rfl, (fun _ _ h => h)⟩, trivial⟩
    (steps (m := 3) (by kernel_rfl) ⟨stepN (i := 0) (dst := some 27) (op := (.load 28 (.tmp 9))) (by kernel_rfl) (loadV (List.Mem.tail _ (List.Mem.tail _ (List.Mem.tail _ (List.Mem.head _)))) (by kernel_rfl) (fun _ _ h => h)),
      stepN (i := 1) (dst := some 28) (op := (.call { callee := .value (.func 28), args := #[(.tmp 27)], argTypes := #[28] })) (by kernel_rfl) (call1 (enters_of Tryz.func28 (by kernel_rfl) rfl) (argT (p := (isW (signed (Mx.val (l.take 3)) m) 4)) (by kernel_rfl) (fun _ _ h => h)) (fun w u1 h1 => sign_w h1) (fun _ _ h => h)),
      stepN (i := 2) (dst := some 29) (op := (.binOp .eql 3 (.tmp 28) (.const (.int .i64 0)) 3)) (by kernel_rfl) (eql (m := (Int.sign (signed (Mx.val (l.take 3)) m))) (n := 0) (argT (p := (isE (.int .i64 (Int.sign (signed (Mx.val (l.take 3)) m))))) (by kernel_rfl) (fun _ _ h => h)) (argC (.int .i64 0)) (fun w v h => h.trans (congrArg Value.bool (decide_eq_true (by rw [hk]; rfl))))), trivial⟩) ?_
  clear hS kf ac
  try clear w
  intro kf ac w hS
  refine cond_true (q := (isE (.bool true))) hS (List.Mem.tail _ (List.Mem.tail _ (List.Mem.tail _ (List.Mem.tail _ (List.Mem.head _))))) (fun _ _ h => h) ?_
  refine region_then (s := soft) (kf0 := kf) (by kernel_rfl) hS (Rg.look [(30, (isW 1 1))])
    ⟨[], [(1, 9, 30, 28)]⟩ [⟨3, 24, (isM a0 b0 m0)⟩, ⟨7, 30, (isQ (numQ a0 b0 m0) 5)⟩, ⟨8, 35, (isR (numQ a0 b0 m0) 32)⟩, ⟨9, 28, (isW 1 1)⟩] [(6, (isE (.bool false))), (0, (isM a0 b0 m0)), (1, (isS l)), (2, (isE (.bool m))), (29, (isE (.bool true)))] (by kernel_rfl) (by kernel_rfl) (look_stb _ ⟨(stb_W _ _), trivial⟩) ⟨(stb_M _ _ _), (stb_Q _ _), (stb_R _ _), (stb_W _ _), trivial⟩ ⟨(stb_eq _), (stb_M _ _ _), (stb_S _), (stb_eq _), (stb_eq _), trivial⟩ trivial ⟨shW, trivial⟩
    ⟨.inr (.inl ⟨rfl, _, (List.Mem.head _), rfl, rfl, (fun _ _ h => h)⟩), .inr (.inl ⟨rfl, _, (List.Mem.tail _ (List.Mem.head _)), rfl, rfl, (fun _ _ h => h)⟩), .inr (.inl ⟨rfl, _, (List.Mem.tail _ (List.Mem.tail _ (List.Mem.head _))), rfl, rfl, (fun _ _ h => h)⟩), .inl ⟨_, (List.Mem.head _), rfl, rfl, (fun _ _ h => h)⟩, trivial⟩
    ⟨.inr ⟨(by kernel_rfl), _, (List.Mem.head _), rfl, (fun _ _ h => h)⟩, .inr ⟨(by kernel_rfl), _, (List.Mem.tail _ (List.Mem.head _)), rfl, (fun _ _ h => h)⟩, .inr ⟨(by kernel_rfl), _, (List.Mem.tail _ (List.Mem.tail _ (List.Mem.head _))), rfl, (fun _ _ h => h)⟩, .inr ⟨(by kernel_rfl), _, (List.Mem.tail _ (List.Mem.tail _ (List.Mem.tail _ (List.Mem.head _)))), rfl, (fun _ _ h => h)⟩, .inr ⟨(by kernel_rfl), _, (List.Mem.tail _ (List.Mem.tail _ (List.Mem.tail _ (List.Mem.tail _ (List.Mem.head _))))), rfl, (fun _ _ h => h)⟩, trivial⟩
    (steps (m := 2) (by kernel_rfl) ⟨stepN (i := 0) (dst := some 30) (op := (.call { callee := .value (.func 29), args := #[(.const (.int .i64 1))], argTypes := #[3] })) (by kernel_rfl) (call1 (enters_of Tryz.func29 (by kernel_rfl) rfl) (argC (.int .i64 1)) (fun w u1 h1 => by subst h1; exact from_w _ _ (by omega) (by omega)) (fun _ _ h => h)),
      isStore rfl, trivial⟩) ?_
  clear hS kf ac
  try clear w
  intro kf ac w hS
  refine region_seq (s := soft) (kf0 := kf) (by kernel_rfl) hS (Rg.look [(32, (isQ (numQ a0 b0 m0) 5)),
      (33, (isW ((numQ a0 b0 m0).num) 5)),
      (34, (isW 1 1)),
      (35, (isW (((numQ a0 b0 m0).num) * 1) (5 + 1))),
      (36, (isQ (numQ a0 b0 m0) 5)),
      (37, (isN ((numQ a0 b0 m0).den) 5)),
      (38, (isW (signed ((numQ a0 b0 m0).den) false) 5)),
      (39, (isW 1 1)),
      (40, (isW ((signed ((numQ a0 b0 m0).den) false) * 1) (5 + 1))),
      (41, (IsT [(isQ (((((numQ a0 b0 m0).num) * 1 : Int) : Rat) / (((signed ((numQ a0 b0 m0).den) false) * 1 : Int) : Rat)) (max (5 + 1) (5 + 1) + 1)), (isE (.int .i64 0))])),
      (31, (IsT [(isQ (((((numQ a0 b0 m0).num) * 1 : Int) : Rat) / (((signed ((numQ a0 b0 m0).den) false) * 1 : Int) : Rat)) (max (5 + 1) (5 + 1) + 1)), (isE (.int .i64 0))])),
      (42, (isQ (((((numQ a0 b0 m0).num) * 1 : Int) : Rat) / (((signed ((numQ a0 b0 m0).den) false) * 1 : Int) : Rat)) (max (5 + 1) (5 + 1) + 1))),
      (43, (isE (.int .i64 0))),
      (10, isX),
      (11, (isE (.int .i64 0)))])
    ⟨[(13, 10, 30)], [(14, 10, 42, 30)]⟩ [⟨3, 24, (isM a0 b0 m0)⟩, ⟨7, 30, (isQ (numQ a0 b0 m0) 5)⟩, ⟨8, 35, (isR (numQ a0 b0 m0) 32)⟩, ⟨9, 28, (isW 1 1)⟩, ⟨10, 30, (isQ (((((numQ a0 b0 m0).num) * 1 : Int) : Rat) / (((signed ((numQ a0 b0 m0).den) false) * 1 : Int) : Rat)) (max (5 + 1) (5 + 1) + 1))⟩] [(6, (isE (.bool false))), (0, (isM a0 b0 m0)), (1, (isS l)), (2, (isE (.bool m))), (29, (isE (.bool true))), (11, (isE (.int .i64 0)))] (by kernel_rfl) (by kernel_rfl) (look_stb _ ⟨(stb_Q _ _), (stb_W _ _), (stb_W _ _), (stb_W _ _), (stb_Q _ _), (stb_N _ _), (stb_W _ _), (stb_W _ _), (stb_W _ _), (stb_T ⟨(stb_Q _ _), (stb_eq _), trivial⟩), (stb_T ⟨(stb_Q _ _), (stb_eq _), trivial⟩), (stb_Q _ _), (stb_eq _), stb_true, (stb_eq _), trivial⟩) ⟨(stb_M _ _ _), (stb_Q _ _), (stb_R _ _), (stb_W _ _), trivial⟩ ⟨(stb_eq _), (stb_M _ _ _), (stb_S _), (stb_eq _), (stb_eq _), trivial⟩ ⟨fun _ _ => trivial, trivial⟩ ⟨shQ, trivial⟩
    ⟨.inr (.inl ⟨rfl, _, (List.Mem.head _), rfl, rfl, (fun _ _ h => h)⟩), .inr (.inl ⟨rfl, _, (List.Mem.tail _ (List.Mem.head _)), rfl, rfl, (fun _ _ h => h)⟩), .inr (.inl ⟨rfl, _, (List.Mem.tail _ (List.Mem.tail _ (List.Mem.head _))), rfl, rfl, (fun _ _ h => h)⟩), .inr (.inl ⟨rfl, _, (List.Mem.tail _ (List.Mem.tail _ (List.Mem.tail _ (List.Mem.head _)))), rfl, rfl, (fun _ _ h => h)⟩), .inl ⟨_, (List.Mem.head _), rfl, rfl, (fun _ _ h => h)⟩, trivial⟩
    ⟨.inr ⟨(by kernel_rfl), _, (List.Mem.head _), rfl, (fun _ _ h => h)⟩, .inr ⟨(by kernel_rfl), _, (List.Mem.tail _ (List.Mem.head _)), rfl, (fun _ _ h => h)⟩, .inr ⟨(by kernel_rfl), _, (List.Mem.tail _ (List.Mem.tail _ (List.Mem.head _))), rfl, (fun _ _ h => h)⟩, .inr ⟨(by kernel_rfl), _, (List.Mem.tail _ (List.Mem.tail _ (List.Mem.tail _ (List.Mem.head _)))), rfl, (fun _ _ h => h)⟩, .inr ⟨(by kernel_rfl), _, (List.Mem.tail _ (List.Mem.tail _ (List.Mem.tail _ (List.Mem.tail _ (List.Mem.head _))))), rfl, (fun _ _ h => h)⟩, .inl ⟨(by kernel_rfl), rfl, (fun _ _ h => h)⟩, trivial⟩
    (steps (m := 16) (by kernel_rfl) ⟨stepN (i := 0) (dst := some 32) (op := (.load 30 (.tmp 7))) (by kernel_rfl) (loadV (List.Mem.tail _ (List.Mem.head _)) (by kernel_rfl) (fun _ _ h => h)),
      stepN (i := 1) (dst := some 33) (op := (.call { callee := .value (.func 31), args := #[(.tmp 32)], argTypes := #[30] })) (by kernel_rfl) (call1 (enters_of Tryz.func31 (by kernel_rfl) rfl) (argT (p := (isQ (numQ a0 b0 m0) 5)) (by kernel_rfl) (fun _ _ h => h)) (fun w u1 h1 => num_q h1) (fun _ _ h => h)),
      stepN (i := 2) (dst := some 34) (op := (.load 28 (.tmp 9))) (by kernel_rfl) (loadV (List.Mem.tail _ (List.Mem.tail _ (List.Mem.tail _ (List.Mem.head _)))) (by kernel_rfl) (fun _ _ h => h)),
      stepN (i := 3) (dst := some 35) (op := (.call { callee := .value (.func 32), args := #[(.tmp 33), (.tmp 34)], argTypes := #[28, 28] })) (by kernel_rfl) (call2 (enters_of Tryz.func32 (by kernel_rfl) rfl) (argT (p := (isW ((numQ a0 b0 m0).num) 5)) (by kernel_rfl) (fun _ _ h => h)) (argT (p := (isW 1 1)) (by kernel_rfl) (fun _ _ h => h)) (fun w u1 u2 h1 h2 => mul_w h1 h2 (by omega) (by omega)) (fun _ _ h => h)),
      stepN (i := 4) (dst := some 36) (op := (.load 30 (.tmp 7))) (by kernel_rfl) (loadV (List.Mem.tail _ (List.Mem.head _)) (by kernel_rfl) (fun _ _ h => h)),
      stepN (i := 5) (dst := some 37) (op := (.call { callee := .value (.func 33), args := #[(.tmp 36)], argTypes := #[30] })) (by kernel_rfl) (call1 (enters_of Tryz.func33 (by kernel_rfl) rfl) (argT (p := (isQ (numQ a0 b0 m0) 5)) (by kernel_rfl) (fun _ _ h => h)) (fun w u1 h1 => den_q h1) (fun _ _ h => h)),
      stepN (i := 6) (dst := some 38) (op := (.call { callee := .value (.func 26), args := #[(.tmp 37), (.const (.bool false))], argTypes := #[26, 4] })) (by kernel_rfl) (call2 (enters_of Tryz.func26 (by kernel_rfl) rfl) (argT (p := (isN ((numQ a0 b0 m0).den) 5)) (by kernel_rfl) (fun _ _ h => h)) (argC (.bool false)) (fun w u1 u2 h1 h2 => by subst h2; exact of_w h1) (fun _ _ h => h)),
      stepN (i := 7) (dst := some 39) (op := (.load 28 (.tmp 9))) (by kernel_rfl) (loadV (List.Mem.tail _ (List.Mem.tail _ (List.Mem.tail _ (List.Mem.head _)))) (by kernel_rfl) (fun _ _ h => h)),
      stepN (i := 8) (dst := some 40) (op := (.call { callee := .value (.func 32), args := #[(.tmp 38), (.tmp 39)], argTypes := #[28, 28] })) (by kernel_rfl) (call2 (enters_of Tryz.func32 (by kernel_rfl) rfl) (argT (p := (isW (signed ((numQ a0 b0 m0).den) false) 5)) (by kernel_rfl) (fun _ _ h => h)) (argT (p := (isW 1 1)) (by kernel_rfl) (fun _ _ h => h)) (fun w u1 u2 h1 h2 => mul_w h1 h2 (by omega) (by omega)) (fun _ _ h => h)),
      stepN (i := 9) (dst := some 41) (op := (.call { callee := .value (.func 30), args := #[(.tmp 35), (.tmp 40)], argTypes := #[28, 28] })) (by kernel_rfl) (call2 (enters_of Tryz.func30 (by kernel_rfl) rfl) (argT (p := (isW (((numQ a0 b0 m0).num) * 1) (5 + 1))) (by kernel_rfl) (fun _ _ h => h)) (argT (p := (isW ((signed ((numQ a0 b0 m0).den) false) * 1) (5 + 1))) (by kernel_rfl) (fun _ _ h => h)) (fun w u1 u2 h1 h2 => of_q h1 h2 (by omega) (by omega) (den_times (by decide))) (fun _ _ h => h)),
      stepN (i := 10) (dst := some 31) (op := (.move (.tmp 41))) (by kernel_rfl) (move (argT (p := (IsT [(isQ (((((numQ a0 b0 m0).num) * 1 : Int) : Rat) / (((signed ((numQ a0 b0 m0).den) false) * 1 : Int) : Rat)) (max (5 + 1) (5 + 1) + 1)), (isE (.int .i64 0))])) (by kernel_rfl) (fun _ _ h => h)) (fun _ _ h => h)),
      stepN (i := 11) (dst := some 42) (op := (.extract (.tmp 31) 0)) (by kernel_rfl) (extract (by kernel_rfl) (fun _ _ h => h) rfl (fun _ _ h => h)),
      stepN (i := 12) (dst := some 43) (op := (.extract (.tmp 31) 1)) (by kernel_rfl) (extract (by kernel_rfl) (fun _ _ h => h) rfl (fun _ _ h => h)),
      isAlloc rfl,
      isStore rfl,
      stepN (i := 15) (dst := some 11) (op := (.assign (.tmp 43))) (by kernel_rfl) (assign (argT (p := (isE (.int .i64 0))) (by kernel_rfl) (fun _ _ h => h)) (fun _ _ h => h)), trivial⟩) ?_
  clear hS kf ac
  try clear w
  intro kf ac w hS
  refine region_seq (s := soft) (kf0 := kf) (by kernel_rfl) hS (Rg.look [(44, (isQ (numQ a0 b0 m0) 5)),
      (45, (isW ((numQ a0 b0 m0).num) 5)),
      (46, (isN (Int.natAbs ((numQ a0 b0 m0).num)) 5)),
      (47, (isQ (numQ a0 b0 m0) 5)),
      (48, (isN ((numQ a0 b0 m0).den) 5)),
      (49, (isN (Nat.gcd (Int.natAbs ((numQ a0 b0 m0).num)) ((numQ a0 b0 m0).den)) 5)),
      (12, isX)])
    ⟨[(6, 12, 26)], [(7, 12, 49, 26)]⟩ [⟨3, 24, (isM a0 b0 m0)⟩, ⟨7, 30, (isQ (numQ a0 b0 m0) 5)⟩, ⟨8, 35, (isR (numQ a0 b0 m0) 32)⟩, ⟨9, 28, (isW 1 1)⟩, ⟨10, 30, (isQ (((((numQ a0 b0 m0).num) * 1 : Int) : Rat) / (((signed ((numQ a0 b0 m0).den) false) * 1 : Int) : Rat)) (max (5 + 1) (5 + 1) + 1))⟩, ⟨12, 26, (isN (Nat.gcd (Int.natAbs ((numQ a0 b0 m0).num)) ((numQ a0 b0 m0).den)) 5)⟩] [(6, (isE (.bool false))), (0, (isM a0 b0 m0)), (1, (isS l)), (2, (isE (.bool m))), (29, (isE (.bool true))), (11, (isE (.int .i64 0)))] (by kernel_rfl) (by kernel_rfl) (look_stb _ ⟨(stb_Q _ _), (stb_W _ _), (stb_N _ _), (stb_Q _ _), (stb_N _ _), (stb_N _ _), stb_true, trivial⟩) ⟨(stb_M _ _ _), (stb_Q _ _), (stb_R _ _), (stb_W _ _), (stb_Q _ _), trivial⟩ ⟨(stb_eq _), (stb_M _ _ _), (stb_S _), (stb_eq _), (stb_eq _), (stb_eq _), trivial⟩ ⟨fun _ _ => trivial, trivial⟩ ⟨shN, trivial⟩
    ⟨.inr (.inl ⟨rfl, _, (List.Mem.head _), rfl, rfl, (fun _ _ h => h)⟩), .inr (.inl ⟨rfl, _, (List.Mem.tail _ (List.Mem.head _)), rfl, rfl, (fun _ _ h => h)⟩), .inr (.inl ⟨rfl, _, (List.Mem.tail _ (List.Mem.tail _ (List.Mem.head _))), rfl, rfl, (fun _ _ h => h)⟩), .inr (.inl ⟨rfl, _, (List.Mem.tail _ (List.Mem.tail _ (List.Mem.tail _ (List.Mem.head _)))), rfl, rfl, (fun _ _ h => h)⟩), .inr (.inl ⟨rfl, _, (List.Mem.tail _ (List.Mem.tail _ (List.Mem.tail _ (List.Mem.tail _ (List.Mem.head _))))), rfl, rfl, (fun _ _ h => h)⟩), .inl ⟨_, (List.Mem.head _), rfl, rfl, (fun _ _ h => h)⟩, trivial⟩
    ⟨.inr ⟨(by kernel_rfl), _, (List.Mem.head _), rfl, (fun _ _ h => h)⟩, .inr ⟨(by kernel_rfl), _, (List.Mem.tail _ (List.Mem.head _)), rfl, (fun _ _ h => h)⟩, .inr ⟨(by kernel_rfl), _, (List.Mem.tail _ (List.Mem.tail _ (List.Mem.head _))), rfl, (fun _ _ h => h)⟩, .inr ⟨(by kernel_rfl), _, (List.Mem.tail _ (List.Mem.tail _ (List.Mem.tail _ (List.Mem.head _)))), rfl, (fun _ _ h => h)⟩, .inr ⟨(by kernel_rfl), _, (List.Mem.tail _ (List.Mem.tail _ (List.Mem.tail _ (List.Mem.tail _ (List.Mem.head _))))), rfl, (fun _ _ h => h)⟩, .inr ⟨(by kernel_rfl), _, (List.Mem.tail _ (List.Mem.tail _ (List.Mem.tail _ (List.Mem.tail _ (List.Mem.tail _ (List.Mem.head _)))))), rfl, (fun _ _ h => h)⟩, trivial⟩
    (steps (m := 8) (by kernel_rfl) ⟨stepN (i := 0) (dst := some 44) (op := (.load 30 (.tmp 7))) (by kernel_rfl) (loadV (List.Mem.tail _ (List.Mem.head _)) (by kernel_rfl) (fun _ _ h => h)),
      stepN (i := 1) (dst := some 45) (op := (.call { callee := .value (.func 31), args := #[(.tmp 44)], argTypes := #[30] })) (by kernel_rfl) (call1 (enters_of Tryz.func31 (by kernel_rfl) rfl) (argT (p := (isQ (numQ a0 b0 m0) 5)) (by kernel_rfl) (fun _ _ h => h)) (fun w u1 h1 => num_q h1) (fun _ _ h => h)),
      stepN (i := 2) (dst := some 46) (op := (.call { callee := .value (.func 35), args := #[(.tmp 45)], argTypes := #[28] })) (by kernel_rfl) (call1 (enters_of Tryz.func35 (by kernel_rfl) rfl) (argT (p := (isW ((numQ a0 b0 m0).num) 5)) (by kernel_rfl) (fun _ _ h => h)) (fun w u1 h1 => abs_w h1) (fun _ _ h => h)),
      stepN (i := 3) (dst := some 47) (op := (.load 30 (.tmp 7))) (by kernel_rfl) (loadV (List.Mem.tail _ (List.Mem.head _)) (by kernel_rfl) (fun _ _ h => h)),
      stepN (i := 4) (dst := some 48) (op := (.call { callee := .value (.func 33), args := #[(.tmp 47)], argTypes := #[30] })) (by kernel_rfl) (call1 (enters_of Tryz.func33 (by kernel_rfl) rfl) (argT (p := (isQ (numQ a0 b0 m0) 5)) (by kernel_rfl) (fun _ _ h => h)) (fun w u1 h1 => den_q h1) (fun _ _ h => h)),
      stepN (i := 5) (dst := some 49) (op := (.call { callee := .value (.func 34), args := #[(.tmp 46), (.tmp 48)], argTypes := #[26, 26] })) (by kernel_rfl) (call2 (enters_of Tryz.func34 (by kernel_rfl) rfl) (argT (p := (isN (Int.natAbs ((numQ a0 b0 m0).num)) 5)) (by kernel_rfl) (fun _ _ h => h)) (argT (p := (isN ((numQ a0 b0 m0).den) 5)) (by kernel_rfl) (fun _ _ h => h)) (fun w u1 u2 h1 h2 => gcd_n (k := 5) (h1.weak (by omega)) (h2.weak (by omega)) (by omega)) (fun _ _ h => h)),
      isAlloc rfl,
      isStore rfl, trivial⟩) ?_
  clear hS kf ac
  try clear w
  intro kf ac w hS
  refine region_seq (s := soft) (kf0 := kf) (by kernel_rfl) hS (Rg.look [(50, (isQ (numQ a0 b0 m0) 5)),
      (51, (isW ((numQ a0 b0 m0).num) 5)),
      (52, (isT (ztext ((numQ a0 b0 m0).num)))),
      (13, (isT (ztext ((numQ a0 b0 m0).num))))])
    ⟨[], []⟩ [⟨3, 24, (isM a0 b0 m0)⟩, ⟨7, 30, (isQ (numQ a0 b0 m0) 5)⟩, ⟨8, 35, (isR (numQ a0 b0 m0) 32)⟩, ⟨9, 28, (isW 1 1)⟩, ⟨10, 30, (isQ (((((numQ a0 b0 m0).num) * 1 : Int) : Rat) / (((signed ((numQ a0 b0 m0).den) false) * 1 : Int) : Rat)) (max (5 + 1) (5 + 1) + 1))⟩, ⟨12, 26, (isN (Nat.gcd (Int.natAbs ((numQ a0 b0 m0).num)) ((numQ a0 b0 m0).den)) 5)⟩] [(6, (isE (.bool false))), (0, (isM a0 b0 m0)), (1, (isS l)), (2, (isE (.bool m))), (29, (isE (.bool true))), (11, (isE (.int .i64 0))), (13, (isT (ztext ((numQ a0 b0 m0).num))))] (by kernel_rfl) (by kernel_rfl) (look_stb _ ⟨(stb_Q _ _), (stb_W _ _), (stb_eq _), (stb_eq _), trivial⟩) ⟨(stb_M _ _ _), (stb_Q _ _), (stb_R _ _), (stb_W _ _), (stb_Q _ _), (stb_N _ _), trivial⟩ ⟨(stb_eq _), (stb_M _ _ _), (stb_S _), (stb_eq _), (stb_eq _), (stb_eq _), trivial⟩ trivial trivial
    ⟨.inr (.inl ⟨rfl, _, (List.Mem.head _), rfl, rfl, (fun _ _ h => h)⟩), .inr (.inl ⟨rfl, _, (List.Mem.tail _ (List.Mem.head _)), rfl, rfl, (fun _ _ h => h)⟩), .inr (.inl ⟨rfl, _, (List.Mem.tail _ (List.Mem.tail _ (List.Mem.head _))), rfl, rfl, (fun _ _ h => h)⟩), .inr (.inl ⟨rfl, _, (List.Mem.tail _ (List.Mem.tail _ (List.Mem.tail _ (List.Mem.head _)))), rfl, rfl, (fun _ _ h => h)⟩), .inr (.inl ⟨rfl, _, (List.Mem.tail _ (List.Mem.tail _ (List.Mem.tail _ (List.Mem.tail _ (List.Mem.head _))))), rfl, rfl, (fun _ _ h => h)⟩), .inr (.inl ⟨rfl, _, (List.Mem.tail _ (List.Mem.tail _ (List.Mem.tail _ (List.Mem.tail _ (List.Mem.tail _ (List.Mem.head _)))))), rfl, rfl, (fun _ _ h => h)⟩), trivial⟩
    ⟨.inr ⟨(by kernel_rfl), _, (List.Mem.head _), rfl, (fun _ _ h => h)⟩, .inr ⟨(by kernel_rfl), _, (List.Mem.tail _ (List.Mem.head _)), rfl, (fun _ _ h => h)⟩, .inr ⟨(by kernel_rfl), _, (List.Mem.tail _ (List.Mem.tail _ (List.Mem.head _))), rfl, (fun _ _ h => h)⟩, .inr ⟨(by kernel_rfl), _, (List.Mem.tail _ (List.Mem.tail _ (List.Mem.tail _ (List.Mem.head _)))), rfl, (fun _ _ h => h)⟩, .inr ⟨(by kernel_rfl), _, (List.Mem.tail _ (List.Mem.tail _ (List.Mem.tail _ (List.Mem.tail _ (List.Mem.head _))))), rfl, (fun _ _ h => h)⟩, .inr ⟨(by kernel_rfl), _, (List.Mem.tail _ (List.Mem.tail _ (List.Mem.tail _ (List.Mem.tail _ (List.Mem.tail _ (List.Mem.head _)))))), rfl, (fun _ _ h => h)⟩, .inl ⟨(by kernel_rfl), rfl, (fun _ _ h => h)⟩, trivial⟩
    (steps (m := 4) (by kernel_rfl) ⟨stepN (i := 0) (dst := some 50) (op := (.load 30 (.tmp 7))) (by kernel_rfl) (loadV (List.Mem.tail _ (List.Mem.head _)) (by kernel_rfl) (fun _ _ h => h)),
      stepN (i := 1) (dst := some 51) (op := (.call { callee := .value (.func 31), args := #[(.tmp 50)], argTypes := #[30] })) (by kernel_rfl) (call1 (enters_of Tryz.func31 (by kernel_rfl) rfl) (argT (p := (isQ (numQ a0 b0 m0) 5)) (by kernel_rfl) (fun _ _ h => h)) (fun w u1 h1 => num_q h1) (fun _ _ h => h)),
      stepN (i := 2) (dst := some 52) (op := (.call { callee := .value (.func 23), args := #[(.tmp 51)], argTypes := #[28] })) (by kernel_rfl) (call1 (enters_of Tryz.func23 (by kernel_rfl) rfl) (argT (p := (isW ((numQ a0 b0 m0).num) 5)) (by kernel_rfl) (fun _ _ h => h)) (fun w u1 h1 => print_w h1 (by omega)) (fun _ _ h => h)),
      stepN (i := 3) (dst := some 13) (op := (.assign (.tmp 52))) (by kernel_rfl) (assign (argT (p := (isT (ztext ((numQ a0 b0 m0).num)))) (by kernel_rfl) (fun _ _ h => h)) (fun _ _ h => h)), trivial⟩) ?_
  clear hS kf ac
  try clear w
  intro kf ac w hS
  refine wp_seq ?_
  refine region_seq (s := soft) (kf0 := kf) (by kernel_rfl) hS (Rg.look [(53, (isQ (numQ a0 b0 m0) 5)),
      (54, (isN ((numQ a0 b0 m0).den) 5)),
      (55, (isS ([1]))),
      (56, (isN 1 1)),
      (57, (isE (.int .i64 (Mx.cmp ((numQ a0 b0 m0).den) 1)))),
      (58, (isE (.bool true)))])
    ⟨[], []⟩ [⟨3, 24, (isM a0 b0 m0)⟩, ⟨7, 30, (isQ (numQ a0 b0 m0) 5)⟩, ⟨8, 35, (isR (numQ a0 b0 m0) 32)⟩, ⟨9, 28, (isW 1 1)⟩, ⟨10, 30, (isQ (((((numQ a0 b0 m0).num) * 1 : Int) : Rat) / (((signed ((numQ a0 b0 m0).den) false) * 1 : Int) : Rat)) (max (5 + 1) (5 + 1) + 1))⟩, ⟨12, 26, (isN (Nat.gcd (Int.natAbs ((numQ a0 b0 m0).num)) ((numQ a0 b0 m0).den)) 5)⟩] [(6, (isE (.bool false))), (0, (isM a0 b0 m0)), (1, (isS l)), (2, (isE (.bool m))), (29, (isE (.bool true))), (11, (isE (.int .i64 0))), (13, (isT (ztext ((numQ a0 b0 m0).num)))), (58, (isE (.bool true)))] (by kernel_rfl) (by kernel_rfl) (look_stb _ ⟨(stb_Q _ _), (stb_N _ _), (stb_S _), (stb_N _ _), (stb_eq _), (stb_eq _), trivial⟩) ⟨(stb_M _ _ _), (stb_Q _ _), (stb_R _ _), (stb_W _ _), (stb_Q _ _), (stb_N _ _), trivial⟩ ⟨(stb_eq _), (stb_M _ _ _), (stb_S _), (stb_eq _), (stb_eq _), (stb_eq _), (stb_eq _), trivial⟩ trivial trivial
    ⟨.inr (.inl ⟨rfl, _, (List.Mem.head _), rfl, rfl, (fun _ _ h => h)⟩), .inr (.inl ⟨rfl, _, (List.Mem.tail _ (List.Mem.head _)), rfl, rfl, (fun _ _ h => h)⟩), .inr (.inl ⟨rfl, _, (List.Mem.tail _ (List.Mem.tail _ (List.Mem.head _))), rfl, rfl, (fun _ _ h => h)⟩), .inr (.inl ⟨rfl, _, (List.Mem.tail _ (List.Mem.tail _ (List.Mem.tail _ (List.Mem.head _)))), rfl, rfl, (fun _ _ h => h)⟩), .inr (.inl ⟨rfl, _, (List.Mem.tail _ (List.Mem.tail _ (List.Mem.tail _ (List.Mem.tail _ (List.Mem.head _))))), rfl, rfl, (fun _ _ h => h)⟩), .inr (.inl ⟨rfl, _, (List.Mem.tail _ (List.Mem.tail _ (List.Mem.tail _ (List.Mem.tail _ (List.Mem.tail _ (List.Mem.head _)))))), rfl, rfl, (fun _ _ h => h)⟩), trivial⟩
    ⟨.inr ⟨(by kernel_rfl), _, (List.Mem.head _), rfl, (fun _ _ h => h)⟩, .inr ⟨(by kernel_rfl), _, (List.Mem.tail _ (List.Mem.head _)), rfl, (fun _ _ h => h)⟩, .inr ⟨(by kernel_rfl), _, (List.Mem.tail _ (List.Mem.tail _ (List.Mem.head _))), rfl, (fun _ _ h => h)⟩, .inr ⟨(by kernel_rfl), _, (List.Mem.tail _ (List.Mem.tail _ (List.Mem.tail _ (List.Mem.head _)))), rfl, (fun _ _ h => h)⟩, .inr ⟨(by kernel_rfl), _, (List.Mem.tail _ (List.Mem.tail _ (List.Mem.tail _ (List.Mem.tail _ (List.Mem.head _))))), rfl, (fun _ _ h => h)⟩, .inr ⟨(by kernel_rfl), _, (List.Mem.tail _ (List.Mem.tail _ (List.Mem.tail _ (List.Mem.tail _ (List.Mem.tail _ (List.Mem.head _)))))), rfl, (fun _ _ h => h)⟩, .inr ⟨(by kernel_rfl), _, (List.Mem.tail _ (List.Mem.tail _ (List.Mem.tail _ (List.Mem.tail _ (List.Mem.tail _ (List.Mem.tail _ (List.Mem.head _))))))), rfl, (fun _ _ h => h)⟩, .inl ⟨(by kernel_rfl), rfl, (fun _ _ h => h)⟩, trivial⟩
    (steps (m := 6) (by kernel_rfl) ⟨stepN (i := 0) (dst := some 53) (op := (.load 30 (.tmp 7))) (by kernel_rfl) (loadV (List.Mem.tail _ (List.Mem.head _)) (by kernel_rfl) (fun _ _ h => h)),
      stepN (i := 1) (dst := some 54) (op := (.call { callee := .value (.func 33), args := #[(.tmp 53)], argTypes := #[30] })) (by kernel_rfl) (call1 (enters_of Tryz.func33 (by kernel_rfl) rfl) (argT (p := (isQ (numQ a0 b0 m0) 5)) (by kernel_rfl) (fun _ _ h => h)) (fun w u1 h1 => den_q h1) (fun _ _ h => h)),
      stepN (i := 2) (dst := some 55) (op := (.buildSlice 22 1 #[(0, (.const (.int .u64 1)))])) (by kernel_rfl) (buildOneZ (x := 1) (small_lt (by decide)) (fun _ _ h => h)),
      stepN (i := 3) (dst := some 56) (op := (.call { callee := .value (.func 27), args := #[(.tmp 55)], argTypes := #[22] })) (by kernel_rfl) (call1 (enters_of Tryz.func27 (by kernel_rfl) rfl) (argT (p := (isS ([1]))) (by kernel_rfl) (fun _ _ h => h)) (fun w u1 h1 => of_one h1) (fun _ _ h => h)),
      stepN (i := 4) (dst := some 57) (op := (.call { callee := .value (.func 36), args := #[(.tmp 54), (.tmp 56)], argTypes := #[26, 26] })) (by kernel_rfl) (call2 (enters_of Tryz.func36 (by kernel_rfl) rfl) (argT (p := (isN ((numQ a0 b0 m0).den) 5)) (by kernel_rfl) (fun _ _ h => h)) (argT (p := (isN 1 1)) (by kernel_rfl) (fun _ _ h => h)) (fun w u1 u2 h1 h2 => cmp_n h1 h2 (by omega)) (fun _ _ h => h)),
      stepN (i := 5) (dst := some 58) (op := (.binOp .neq 3 (.tmp 57) (.const (.int .i64 0)) 3)) (by kernel_rfl) (neq (m := (Mx.cmp ((numQ a0 b0 m0).den) 1)) (n := 0) (argT (p := (isE (.int .i64 (Mx.cmp ((numQ a0 b0 m0).den) 1)))) (by kernel_rfl) (fun _ _ h => h)) (argC (.int .i64 0)) (fun w v h => h.trans (congrArg Value.bool (by rw [cmp_zero hd]; rfl)))), trivial⟩) ?_
  clear hS kf ac
  try clear w
  intro kf ac w hS
  refine cond_true (q := (isE (.bool true))) hS (List.Mem.tail _ (List.Mem.tail _ (List.Mem.tail _ (List.Mem.tail _ (List.Mem.tail _ (List.Mem.tail _ (List.Mem.tail _ (List.Mem.head _)))))))) (fun _ _ h => h) ?_
  refine region_then (s := soft) (kf0 := kf) (by kernel_rfl) hS (Rg.look [(59, (isT (ztext ((numQ a0 b0 m0).num)))),
      (60, (isQ (numQ a0 b0 m0) 5)),
      (61, (isN ((numQ a0 b0 m0).den) 5)),
      (62, (isT (Tx.text ((numQ a0 b0 m0).den)))),
      (63, (isT ([47] ++ Tx.text ((numQ a0 b0 m0).den)))),
      (64, (isT (ztext ((numQ a0 b0 m0).num) ++ ([47] ++ Tx.text ((numQ a0 b0 m0).den))))),
      (13, (isT (ztext ((numQ a0 b0 m0).num) ++ ([47] ++ Tx.text ((numQ a0 b0 m0).den)))))])
    ⟨[], []⟩ [⟨3, 24, (isM a0 b0 m0)⟩, ⟨7, 30, (isQ (numQ a0 b0 m0) 5)⟩, ⟨8, 35, (isR (numQ a0 b0 m0) 32)⟩, ⟨9, 28, (isW 1 1)⟩, ⟨10, 30, (isQ (((((numQ a0 b0 m0).num) * 1 : Int) : Rat) / (((signed ((numQ a0 b0 m0).den) false) * 1 : Int) : Rat)) (max (5 + 1) (5 + 1) + 1))⟩, ⟨12, 26, (isN (Nat.gcd (Int.natAbs ((numQ a0 b0 m0).num)) ((numQ a0 b0 m0).den)) 5)⟩] [(6, (isE (.bool false))), (0, (isM a0 b0 m0)), (1, (isS l)), (2, (isE (.bool m))), (29, (isE (.bool true))), (11, (isE (.int .i64 0))), (58, (isE (.bool true))), (13, (isT (ztext ((numQ a0 b0 m0).num) ++ ([47] ++ Tx.text ((numQ a0 b0 m0).den)))))] (by kernel_rfl) (by kernel_rfl) (look_stb _ ⟨(stb_eq _), (stb_Q _ _), (stb_N _ _), (stb_eq _), (stb_eq _), (stb_eq _), (stb_eq _), trivial⟩) ⟨(stb_M _ _ _), (stb_Q _ _), (stb_R _ _), (stb_W _ _), (stb_Q _ _), (stb_N _ _), trivial⟩ ⟨(stb_eq _), (stb_M _ _ _), (stb_S _), (stb_eq _), (stb_eq _), (stb_eq _), (stb_eq _), (stb_eq _), trivial⟩ trivial trivial
    ⟨.inr (.inl ⟨rfl, _, (List.Mem.head _), rfl, rfl, (fun _ _ h => h)⟩), .inr (.inl ⟨rfl, _, (List.Mem.tail _ (List.Mem.head _)), rfl, rfl, (fun _ _ h => h)⟩), .inr (.inl ⟨rfl, _, (List.Mem.tail _ (List.Mem.tail _ (List.Mem.head _))), rfl, rfl, (fun _ _ h => h)⟩), .inr (.inl ⟨rfl, _, (List.Mem.tail _ (List.Mem.tail _ (List.Mem.tail _ (List.Mem.head _)))), rfl, rfl, (fun _ _ h => h)⟩), .inr (.inl ⟨rfl, _, (List.Mem.tail _ (List.Mem.tail _ (List.Mem.tail _ (List.Mem.tail _ (List.Mem.head _))))), rfl, rfl, (fun _ _ h => h)⟩), .inr (.inl ⟨rfl, _, (List.Mem.tail _ (List.Mem.tail _ (List.Mem.tail _ (List.Mem.tail _ (List.Mem.tail _ (List.Mem.head _)))))), rfl, rfl, (fun _ _ h => h)⟩), trivial⟩
    ⟨.inr ⟨(by kernel_rfl), _, (List.Mem.head _), rfl, (fun _ _ h => h)⟩, .inr ⟨(by kernel_rfl), _, (List.Mem.tail _ (List.Mem.head _)), rfl, (fun _ _ h => h)⟩, .inr ⟨(by kernel_rfl), _, (List.Mem.tail _ (List.Mem.tail _ (List.Mem.head _))), rfl, (fun _ _ h => h)⟩, .inr ⟨(by kernel_rfl), _, (List.Mem.tail _ (List.Mem.tail _ (List.Mem.tail _ (List.Mem.head _)))), rfl, (fun _ _ h => h)⟩, .inr ⟨(by kernel_rfl), _, (List.Mem.tail _ (List.Mem.tail _ (List.Mem.tail _ (List.Mem.tail _ (List.Mem.head _))))), rfl, (fun _ _ h => h)⟩, .inr ⟨(by kernel_rfl), _, (List.Mem.tail _ (List.Mem.tail _ (List.Mem.tail _ (List.Mem.tail _ (List.Mem.tail _ (List.Mem.head _)))))), rfl, (fun _ _ h => h)⟩, .inr ⟨(by kernel_rfl), _, (List.Mem.tail _ (List.Mem.tail _ (List.Mem.tail _ (List.Mem.tail _ (List.Mem.tail _ (List.Mem.tail _ (List.Mem.tail _ (List.Mem.head _)))))))), rfl, (fun _ _ h => h)⟩, .inl ⟨(by kernel_rfl), rfl, (fun _ _ h => h)⟩, trivial⟩
    (steps (m := 7) (by kernel_rfl) ⟨stepN (i := 0) (dst := some 59) (op := (.move (.tmp 13))) (by kernel_rfl) (move (argO (p := (isT (ztext ((numQ a0 b0 m0).num)))) (List.Mem.tail _ (List.Mem.tail _ (List.Mem.tail _ (List.Mem.tail _ (List.Mem.tail _ (List.Mem.tail _ (List.Mem.head _))))))) (by kernel_rfl)) (fun _ _ h => h)),
      stepN (i := 1) (dst := some 60) (op := (.load 30 (.tmp 7))) (by kernel_rfl) (loadV (List.Mem.tail _ (List.Mem.head _)) (by kernel_rfl) (fun _ _ h => h)),
      stepN (i := 2) (dst := some 61) (op := (.call { callee := .value (.func 33), args := #[(.tmp 60)], argTypes := #[30] })) (by kernel_rfl) (call1 (enters_of Tryz.func33 (by kernel_rfl) rfl) (argT (p := (isQ (numQ a0 b0 m0) 5)) (by kernel_rfl) (fun _ _ h => h)) (fun w u1 h1 => den_q h1) (fun _ _ h => h)),
      stepN (i := 3) (dst := some 62) (op := (.call { callee := .value (.func 37), args := #[(.tmp 61)], argTypes := #[26] })) (by kernel_rfl) (call1 (enters_of Tryz.func37 (by kernel_rfl) rfl) (argT (p := (isN ((numQ a0 b0 m0).den) 5)) (by kernel_rfl) (fun _ _ h => h)) (fun w u1 h1 => print_any _ _ _ _ h1 (by omega)) (fun _ _ h => h)),
      stepN (i := 4) (dst := some 63) (op := (.binOp .add 9 (.const (.string (str [47]))) (.tmp 62) 9)) (by kernel_rfl) (addS (l := [47]) (r := Tx.text ((numQ a0 b0 m0).den)) (argC _) (argT (p := (isT (Tx.text ((numQ a0 b0 m0).den)))) (by kernel_rfl) (fun _ _ h => h)) (by simp; omega) (fun _ _ h => h)),
      stepN (i := 5) (dst := some 64) (op := (.binOp .add 9 (.tmp 59) (.tmp 63) 9)) (by kernel_rfl) (addS (l := ztext ((numQ a0 b0 m0).num)) (r := [47] ++ Tx.text ((numQ a0 b0 m0).den)) (argT (p := (isT (ztext ((numQ a0 b0 m0).num)))) (by kernel_rfl) (fun _ _ h => h)) (argT (p := (isT ([47] ++ Tx.text ((numQ a0 b0 m0).den)))) (by kernel_rfl) (fun _ _ h => h)) (by simp; omega) (fun _ _ h => h)),
      stepN (i := 6) (dst := some 13) (op := (.assign (.tmp 64))) (by kernel_rfl) (assign (argT (p := (isT (ztext ((numQ a0 b0 m0).num) ++ ([47] ++ Tx.text ((numQ a0 b0 m0).den))))) (by kernel_rfl) (fun _ _ h => h)) (fun _ _ h => h)), trivial⟩) ?_
  clear hS kf ac
  try clear w
  intro kf ac w hS
  refine region_seq (s := soft) (kf0 := kf) (by kernel_rfl) hS (Rg.look [(65, (isE (.bool true))),
      (66, (isE (.bool true))),
      (67, (isE (.int .i64 0))),
      (68, (isE (.bool true))),
      (69, (isE (.bool true))),
      (70, (isE (.bool true))),
      (71, (isQ (((((numQ a0 b0 m0).num) * 1 : Int) : Rat) / (((signed ((numQ a0 b0 m0).den) false) * 1 : Int) : Rat)) (max (5 + 1) (5 + 1) + 1))),
      (72, (isQ (numQ a0 b0 m0) 5)),
      (73, (isE (.int .i64 (cmpQ (((((numQ a0 b0 m0).num) * 1 : Int) : Rat) / (((signed ((numQ a0 b0 m0).den) false) * 1 : Int) : Rat)) (numQ a0 b0 m0))))),
      (74, (isE (.bool true))),
      (75, (isE (.bool true))),
      (76, (isE (.bool true))),
      (77, (isQ (((((numQ a0 b0 m0).num) * 1 : Int) : Rat) / (((signed ((numQ a0 b0 m0).den) false) * 1 : Int) : Rat)) (max (5 + 1) (5 + 1) + 1))),
      (78, (isT (qtext (((((numQ a0 b0 m0).num) * 1 : Int) : Rat) / (((signed ((numQ a0 b0 m0).den) false) * 1 : Int) : Rat))))),
      (79, (isQ (numQ a0 b0 m0) 5)),
      (80, (isT (qtext (numQ a0 b0 m0)))),
      (81, (isE (.bool true))),
      (82, (isE (.bool true))),
      (83, (isE (.bool true))),
      (84, (isN (Nat.gcd (Int.natAbs ((numQ a0 b0 m0).num)) ((numQ a0 b0 m0).den)) 5)),
      (85, (isS ([1]))),
      (86, (isN 1 1)),
      (87, (isE (.int .i64 (Mx.cmp (Nat.gcd (Int.natAbs ((numQ a0 b0 m0).num)) ((numQ a0 b0 m0).den)) 1)))),
      (88, (isE (.bool true))),
      (89, (isE (.bool true))),
      (90, (isE (.bool true))),
      (91, (isQ (numQ a0 b0 m0) 5)),
      (92, (isT (qtext (numQ a0 b0 m0)))),
      (93, (isT (ztext ((numQ a0 b0 m0).num) ++ ([47] ++ Tx.text ((numQ a0 b0 m0).den))))),
      (94, (isE (.bool true))),
      (95, (isE (.bool true))),
      (96, (isE (.bool true))),
      (97, (isQ (numQ a0 b0 m0) 5)),
      (98, (isT (qtext (numQ a0 b0 m0)))),
      (99, (isR (numQ a0 b0 m0) 32)),
      (100, (isT (qtext (numQ a0 b0 m0)))),
      (101, (isE (.bool true))),
      (102, (isE (.bool true))),
      (103, (isE (.bool true))),
      (104, (isW 1 1)),
      (105, (isQ ((1 : Int) : Rat) (max 1 1))),
      (106, (isT (qtext ((1 : Int) : Rat)))),
      (107, (isW 1 1)),
      (108, (isT (ztext 1))),
      (109, (isE (.bool true))),
      (110, (isE (.bool true))),
      (111, (isE (.bool true))),
      (112, (isQ (numQ a0 b0 m0) 5)),
      (113, (isE (.int .i64 (Int.sign ((numQ a0 b0 m0).num))))),
      (114, (isQ (numQ a0 b0 m0) 5)),
      (115, (isW ((numQ a0 b0 m0).num) 5)),
      (116, (isE (.int .i64 (Int.sign ((numQ a0 b0 m0).num))))),
      (117, (isE (.bool true))),
      (118, (isE (.bool true))),
      (6, (isE (.bool true)))])
    ⟨[], []⟩ [⟨3, 24, (isM a0 b0 m0)⟩, ⟨7, 30, (isQ (numQ a0 b0 m0) 5)⟩, ⟨8, 35, (isR (numQ a0 b0 m0) 32)⟩, ⟨9, 28, (isW 1 1)⟩, ⟨10, 30, (isQ (((((numQ a0 b0 m0).num) * 1 : Int) : Rat) / (((signed ((numQ a0 b0 m0).den) false) * 1 : Int) : Rat)) (max (5 + 1) (5 + 1) + 1))⟩, ⟨12, 26, (isN (Nat.gcd (Int.natAbs ((numQ a0 b0 m0).num)) ((numQ a0 b0 m0).den)) 5)⟩] [(0, (isM a0 b0 m0)), (1, (isS l)), (2, (isE (.bool m))), (29, (isE (.bool true))), (11, (isE (.int .i64 0))), (58, (isE (.bool true))), (13, (isT (ztext ((numQ a0 b0 m0).num) ++ ([47] ++ Tx.text ((numQ a0 b0 m0).den))))), (6, (isE (.bool true)))] (by kernel_rfl) (by kernel_rfl) (look_stb _ ⟨(stb_eq _), (stb_eq _), (stb_eq _), (stb_eq _), (stb_eq _), (stb_eq _), (stb_Q _ _), (stb_Q _ _), (stb_eq _), (stb_eq _), (stb_eq _), (stb_eq _), (stb_Q _ _), (stb_eq _), (stb_Q _ _), (stb_eq _), (stb_eq _), (stb_eq _), (stb_eq _), (stb_N _ _), (stb_S _), (stb_N _ _), (stb_eq _), (stb_eq _), (stb_eq _), (stb_eq _), (stb_Q _ _), (stb_eq _), (stb_eq _), (stb_eq _), (stb_eq _), (stb_eq _), (stb_Q _ _), (stb_eq _), (stb_R _ _), (stb_eq _), (stb_eq _), (stb_eq _), (stb_eq _), (stb_W _ _), (stb_Q _ _), (stb_eq _), (stb_W _ _), (stb_eq _), (stb_eq _), (stb_eq _), (stb_eq _), (stb_Q _ _), (stb_eq _), (stb_Q _ _), (stb_W _ _), (stb_eq _), (stb_eq _), (stb_eq _), (stb_eq _), trivial⟩) ⟨(stb_M _ _ _), (stb_Q _ _), (stb_R _ _), (stb_W _ _), (stb_Q _ _), (stb_N _ _), trivial⟩ ⟨(stb_eq _), (stb_M _ _ _), (stb_S _), (stb_eq _), (stb_eq _), (stb_eq _), (stb_eq _), (stb_eq _), trivial⟩ trivial trivial
    ⟨.inr (.inl ⟨rfl, _, (List.Mem.head _), rfl, rfl, (fun _ _ h => h)⟩), .inr (.inl ⟨rfl, _, (List.Mem.tail _ (List.Mem.head _)), rfl, rfl, (fun _ _ h => h)⟩), .inr (.inl ⟨rfl, _, (List.Mem.tail _ (List.Mem.tail _ (List.Mem.head _))), rfl, rfl, (fun _ _ h => h)⟩), .inr (.inl ⟨rfl, _, (List.Mem.tail _ (List.Mem.tail _ (List.Mem.tail _ (List.Mem.head _)))), rfl, rfl, (fun _ _ h => h)⟩), .inr (.inl ⟨rfl, _, (List.Mem.tail _ (List.Mem.tail _ (List.Mem.tail _ (List.Mem.tail _ (List.Mem.head _))))), rfl, rfl, (fun _ _ h => h)⟩), .inr (.inl ⟨rfl, _, (List.Mem.tail _ (List.Mem.tail _ (List.Mem.tail _ (List.Mem.tail _ (List.Mem.tail _ (List.Mem.head _)))))), rfl, rfl, (fun _ _ h => h)⟩), trivial⟩
    ⟨.inr ⟨(by kernel_rfl), _, (List.Mem.tail _ (List.Mem.head _)), rfl, (fun _ _ h => h)⟩, .inr ⟨(by kernel_rfl), _, (List.Mem.tail _ (List.Mem.tail _ (List.Mem.head _))), rfl, (fun _ _ h => h)⟩, .inr ⟨(by kernel_rfl), _, (List.Mem.tail _ (List.Mem.tail _ (List.Mem.tail _ (List.Mem.head _)))), rfl, (fun _ _ h => h)⟩, .inr ⟨(by kernel_rfl), _, (List.Mem.tail _ (List.Mem.tail _ (List.Mem.tail _ (List.Mem.tail _ (List.Mem.head _))))), rfl, (fun _ _ h => h)⟩, .inr ⟨(by kernel_rfl), _, (List.Mem.tail _ (List.Mem.tail _ (List.Mem.tail _ (List.Mem.tail _ (List.Mem.tail _ (List.Mem.head _)))))), rfl, (fun _ _ h => h)⟩, .inr ⟨(by kernel_rfl), _, (List.Mem.tail _ (List.Mem.tail _ (List.Mem.tail _ (List.Mem.tail _ (List.Mem.tail _ (List.Mem.tail _ (List.Mem.head _))))))), rfl, (fun _ _ h => h)⟩, .inr ⟨(by kernel_rfl), _, (List.Mem.tail _ (List.Mem.tail _ (List.Mem.tail _ (List.Mem.tail _ (List.Mem.tail _ (List.Mem.tail _ (List.Mem.tail _ (List.Mem.head _)))))))), rfl, (fun _ _ h => h)⟩, .inl ⟨(by kernel_rfl), rfl, (fun _ _ h => h)⟩, trivial⟩
    (steps (m := 55) (by kernel_rfl) ⟨stepN (i := 0) (dst := some 65) (op := (.call { callee := .value (.func 11), args := #[], argTypes := #[] })) (by kernel_rfl) (call0 (enters_of Tryz.func11 (by kernel_rfl) rfl) (fun w => wakes5 w) (fun _ _ h => h)),
      stepN (i := 1) (dst := some 66) (op := (.move (.tmp 65))) (by kernel_rfl) (move (argT (p := (isE (.bool true))) (by kernel_rfl) (fun _ _ h => h)) (fun _ _ h => h)),
      stepG (i := 2) (j := 1) (dj := 66) (b := true) (dst := some 67) (op := (.move (.tmp 11))) (by kernel_rfl) (by kernel_rfl) (by kernel_rfl) (fun _ _ h => h) (move (argO (p := (isE (.int .i64 0))) (List.Mem.tail _ (List.Mem.tail _ (List.Mem.tail _ (List.Mem.tail _ (List.Mem.tail _ (List.Mem.head _)))))) (by kernel_rfl)) (fun _ _ h => h)),
      stepG (i := 3) (j := 1) (dj := 66) (b := true) (dst := some 68) (op := (.binOp .eql 38 (.tmp 67) (.const (.int .i64 0)) 38)) (by kernel_rfl) (by kernel_rfl) (by kernel_rfl) (fun _ _ h => h) (eql (m := 0) (n := 0) (argT (p := (isE (.int .i64 0))) (by kernel_rfl) (fun _ _ h => h)) (argC (.int .i64 0)) (fun w v h => h.trans (congrArg Value.bool (rfl)))),
      stepN (i := 4) (dst := some 69) (op := (.pick (.tmp 66) (.tmp 68) (.const (.bool false)))) (by kernel_rfl) (pickT (argT (p := (isE (.bool true))) (by kernel_rfl) (fun _ _ h => h)) (argT (p := (isE (.bool true))) (by kernel_rfl) (fun _ _ h => h)) (fun _ _ h => h)),
      stepN (i := 5) (dst := some 70) (op := (.move (.tmp 69))) (by kernel_rfl) (move (argT (p := (isE (.bool true))) (by kernel_rfl) (fun _ _ h => h)) (fun _ _ h => h)),
      stepG (i := 6) (j := 5) (dj := 70) (b := true) (dst := some 71) (op := (.load 30 (.tmp 10))) (by kernel_rfl) (by kernel_rfl) (by kernel_rfl) (fun _ _ h => h) (loadV (List.Mem.tail _ (List.Mem.tail _ (List.Mem.tail _ (List.Mem.tail _ (List.Mem.head _))))) (by kernel_rfl) (fun _ _ h => h)),
      stepG (i := 7) (j := 5) (dj := 70) (b := true) (dst := some 72) (op := (.load 30 (.tmp 7))) (by kernel_rfl) (by kernel_rfl) (by kernel_rfl) (fun _ _ h => h) (loadV (List.Mem.tail _ (List.Mem.head _)) (by kernel_rfl) (fun _ _ h => h)),
      stepG (i := 8) (j := 5) (dj := 70) (b := true) (dst := some 73) (op := (.call { callee := .value (.func 18), args := #[(.tmp 71), (.tmp 72)], argTypes := #[30, 30] })) (by kernel_rfl) (by kernel_rfl) (by kernel_rfl) (fun _ _ h => h) (call2 (enters_of Tryz.func18 (by kernel_rfl) rfl) (argT (p := (isQ (((((numQ a0 b0 m0).num) * 1 : Int) : Rat) / (((signed ((numQ a0 b0 m0).den) false) * 1 : Int) : Rat)) (max (5 + 1) (5 + 1) + 1))) (by kernel_rfl) (fun _ _ h => h)) (argT (p := (isQ (numQ a0 b0 m0) 5)) (by kernel_rfl) (fun _ _ h => h)) (fun w u1 u2 h1 h2 => cmp_q h1 h2 (by omega) (by omega)) (fun _ _ h => h)),
      stepG (i := 9) (j := 5) (dj := 70) (b := true) (dst := some 74) (op := (.binOp .eql 3 (.tmp 73) (.const (.int .i64 0)) 3)) (by kernel_rfl) (by kernel_rfl) (by kernel_rfl) (fun _ _ h => h) (eql (m := (cmpQ (((((numQ a0 b0 m0).num) * 1 : Int) : Rat) / (((signed ((numQ a0 b0 m0).den) false) * 1 : Int) : Rat)) (numQ a0 b0 m0))) (n := 0) (argT (p := (isE (.int .i64 (cmpQ (((((numQ a0 b0 m0).num) * 1 : Int) : Rat) / (((signed ((numQ a0 b0 m0).den) false) * 1 : Int) : Rat)) (numQ a0 b0 m0))))) (by kernel_rfl) (fun _ _ h => h)) (argC (.int .i64 0)) (fun w v h => h.trans (congrArg Value.bool (cmp_id (times_both _ (by decide)))))),
      stepN (i := 10) (dst := some 75) (op := (.pick (.tmp 70) (.tmp 74) (.const (.bool false)))) (by kernel_rfl) (pickT (argT (p := (isE (.bool true))) (by kernel_rfl) (fun _ _ h => h)) (argT (p := (isE (.bool true))) (by kernel_rfl) (fun _ _ h => h)) (fun _ _ h => h)),
      stepN (i := 11) (dst := some 76) (op := (.move (.tmp 75))) (by kernel_rfl) (move (argT (p := (isE (.bool true))) (by kernel_rfl) (fun _ _ h => h)) (fun _ _ h => h)),
      stepG (i := 12) (j := 11) (dj := 76) (b := true) (dst := some 77) (op := (.load 30 (.tmp 10))) (by kernel_rfl) (by kernel_rfl) (by kernel_rfl) (fun _ _ h => h) (loadV (List.Mem.tail _ (List.Mem.tail _ (List.Mem.tail _ (List.Mem.tail _ (List.Mem.head _))))) (by kernel_rfl) (fun _ _ h => h)),
      stepG (i := 13) (j := 11) (dj := 76) (b := true) (dst := some 78) (op := (.call { callee := .value (.func 8), args := #[(.tmp 77)], argTypes := #[30] })) (by kernel_rfl) (by kernel_rfl) (by kernel_rfl) (fun _ _ h => h) (call1 (enters_of Tryz.func8 (by kernel_rfl) rfl) (argT (p := (isQ (((((numQ a0 b0 m0).num) * 1 : Int) : Rat) / (((signed ((numQ a0 b0 m0).den) false) * 1 : Int) : Rat)) (max (5 + 1) (5 + 1) + 1))) (by kernel_rfl) (fun _ _ h => h)) (fun w u1 h1 => print_q h1 (by omega)) (fun _ _ h => h)),
      stepG (i := 14) (j := 11) (dj := 76) (b := true) (dst := some 79) (op := (.load 30 (.tmp 7))) (by kernel_rfl) (by kernel_rfl) (by kernel_rfl) (fun _ _ h => h) (loadV (List.Mem.tail _ (List.Mem.head _)) (by kernel_rfl) (fun _ _ h => h)),
      stepG (i := 15) (j := 11) (dj := 76) (b := true) (dst := some 80) (op := (.call { callee := .value (.func 8), args := #[(.tmp 79)], argTypes := #[30] })) (by kernel_rfl) (by kernel_rfl) (by kernel_rfl) (fun _ _ h => h) (call1 (enters_of Tryz.func8 (by kernel_rfl) rfl) (argT (p := (isQ (numQ a0 b0 m0) 5)) (by kernel_rfl) (fun _ _ h => h)) (fun w u1 h1 => print_q h1 (by omega)) (fun _ _ h => h)),
      stepG (i := 16) (j := 11) (dj := 76) (b := true) (dst := some 81) (op := (.binOp .eql 9 (.tmp 78) (.tmp 80) 9)) (by kernel_rfl) (by kernel_rfl) (by kernel_rfl) (fun _ _ h => h) (eqlS (l := qtext (((((numQ a0 b0 m0).num) * 1 : Int) : Rat) / (((signed ((numQ a0 b0 m0).den) false) * 1 : Int) : Rat))) (r := qtext (numQ a0 b0 m0)) (argT (p := (isT (qtext (((((numQ a0 b0 m0).num) * 1 : Int) : Rat) / (((signed ((numQ a0 b0 m0).den) false) * 1 : Int) : Rat))))) (by kernel_rfl) (fun _ _ h => h)) (argT (p := (isT (qtext (numQ a0 b0 m0)))) (by kernel_rfl) (fun _ _ h => h)) (fun w v h => h.trans (congrArg Value.bool (qtext_eq (times_both _ (by decide)))))),
      stepN (i := 17) (dst := some 82) (op := (.pick (.tmp 76) (.tmp 81) (.const (.bool false)))) (by kernel_rfl) (pickT (argT (p := (isE (.bool true))) (by kernel_rfl) (fun _ _ h => h)) (argT (p := (isE (.bool true))) (by kernel_rfl) (fun _ _ h => h)) (fun _ _ h => h)),
      stepN (i := 18) (dst := some 83) (op := (.move (.tmp 82))) (by kernel_rfl) (move (argT (p := (isE (.bool true))) (by kernel_rfl) (fun _ _ h => h)) (fun _ _ h => h)),
      stepG (i := 19) (j := 18) (dj := 83) (b := true) (dst := some 84) (op := (.load 26 (.tmp 12))) (by kernel_rfl) (by kernel_rfl) (by kernel_rfl) (fun _ _ h => h) (loadV (List.Mem.tail _ (List.Mem.tail _ (List.Mem.tail _ (List.Mem.tail _ (List.Mem.tail _ (List.Mem.head _)))))) (by kernel_rfl) (fun _ _ h => h)),
      stepG (i := 20) (j := 18) (dj := 83) (b := true) (dst := some 85) (op := (.buildSlice 22 1 #[(0, (.const (.int .u64 1)))])) (by kernel_rfl) (by kernel_rfl) (by kernel_rfl) (fun _ _ h => h) (buildOneZ (x := 1) (small_lt (by decide)) (fun _ _ h => h)),
      stepG (i := 21) (j := 18) (dj := 83) (b := true) (dst := some 86) (op := (.call { callee := .value (.func 27), args := #[(.tmp 85)], argTypes := #[22] })) (by kernel_rfl) (by kernel_rfl) (by kernel_rfl) (fun _ _ h => h) (call1 (enters_of Tryz.func27 (by kernel_rfl) rfl) (argT (p := (isS ([1]))) (by kernel_rfl) (fun _ _ h => h)) (fun w u1 h1 => of_one h1) (fun _ _ h => h)),
      stepG (i := 22) (j := 18) (dj := 83) (b := true) (dst := some 87) (op := (.call { callee := .value (.func 36), args := #[(.tmp 84), (.tmp 86)], argTypes := #[26, 26] })) (by kernel_rfl) (by kernel_rfl) (by kernel_rfl) (fun _ _ h => h) (call2 (enters_of Tryz.func36 (by kernel_rfl) rfl) (argT (p := (isN (Nat.gcd (Int.natAbs ((numQ a0 b0 m0).num)) ((numQ a0 b0 m0).den)) 5)) (by kernel_rfl) (fun _ _ h => h)) (argT (p := (isN 1 1)) (by kernel_rfl) (fun _ _ h => h)) (fun w u1 u2 h1 h2 => cmp_n h1 h2 (by omega)) (fun _ _ h => h)),
      stepG (i := 23) (j := 18) (dj := 83) (b := true) (dst := some 88) (op := (.binOp .eql 3 (.tmp 87) (.const (.int .i64 0)) 3)) (by kernel_rfl) (by kernel_rfl) (by kernel_rfl) (fun _ _ h => h) (eql (m := (Mx.cmp (Nat.gcd (Int.natAbs ((numQ a0 b0 m0).num)) ((numQ a0 b0 m0).den)) 1)) (n := 0) (argT (p := (isE (.int .i64 (Mx.cmp (Nat.gcd (Int.natAbs ((numQ a0 b0 m0).num)) ((numQ a0 b0 m0).den)) 1)))) (by kernel_rfl) (fun _ _ h => h)) (argC (.int .i64 0)) (fun w v h => h.trans (congrArg Value.bool (low_gcd _)))),
      stepN (i := 24) (dst := some 89) (op := (.pick (.tmp 83) (.tmp 88) (.const (.bool false)))) (by kernel_rfl) (pickT (argT (p := (isE (.bool true))) (by kernel_rfl) (fun _ _ h => h)) (argT (p := (isE (.bool true))) (by kernel_rfl) (fun _ _ h => h)) (fun _ _ h => h)),
      stepN (i := 25) (dst := some 90) (op := (.move (.tmp 89))) (by kernel_rfl) (move (argT (p := (isE (.bool true))) (by kernel_rfl) (fun _ _ h => h)) (fun _ _ h => h)),
      stepG (i := 26) (j := 25) (dj := 90) (b := true) (dst := some 91) (op := (.load 30 (.tmp 7))) (by kernel_rfl) (by kernel_rfl) (by kernel_rfl) (fun _ _ h => h) (loadV (List.Mem.tail _ (List.Mem.head _)) (by kernel_rfl) (fun _ _ h => h)),
      stepG (i := 27) (j := 25) (dj := 90) (b := true) (dst := some 92) (op := (.call { callee := .value (.func 8), args := #[(.tmp 91)], argTypes := #[30] })) (by kernel_rfl) (by kernel_rfl) (by kernel_rfl) (fun _ _ h => h) (call1 (enters_of Tryz.func8 (by kernel_rfl) rfl) (argT (p := (isQ (numQ a0 b0 m0) 5)) (by kernel_rfl) (fun _ _ h => h)) (fun w u1 h1 => print_q h1 (by omega)) (fun _ _ h => h)),
      stepG (i := 28) (j := 25) (dj := 90) (b := true) (dst := some 93) (op := (.move (.tmp 13))) (by kernel_rfl) (by kernel_rfl) (by kernel_rfl) (fun _ _ h => h) (move (argO (p := (isT (ztext ((numQ a0 b0 m0).num) ++ ([47] ++ Tx.text ((numQ a0 b0 m0).den))))) (List.Mem.tail _ (List.Mem.tail _ (List.Mem.tail _ (List.Mem.tail _ (List.Mem.tail _ (List.Mem.tail _ (List.Mem.tail _ (List.Mem.head _)))))))) (by kernel_rfl)) (fun _ _ h => h)),
      stepG (i := 29) (j := 25) (dj := 90) (b := true) (dst := some 94) (op := (.binOp .eql 9 (.tmp 92) (.tmp 93) 9)) (by kernel_rfl) (by kernel_rfl) (by kernel_rfl) (fun _ _ h => h) (eqlS (l := qtext (numQ a0 b0 m0)) (r := ztext ((numQ a0 b0 m0).num) ++ ([47] ++ Tx.text ((numQ a0 b0 m0).den))) (argT (p := (isT (qtext (numQ a0 b0 m0)))) (by kernel_rfl) (fun _ _ h => h)) (argT (p := (isT (ztext ((numQ a0 b0 m0).num) ++ ([47] ++ Tx.text ((numQ a0 b0 m0).den))))) (by kernel_rfl) (fun _ _ h => h)) (fun w v h => h.trans (congrArg Value.bool (by rw [qtext, if_neg hd]; simp)))),
      stepN (i := 30) (dst := some 95) (op := (.pick (.tmp 90) (.tmp 94) (.const (.bool false)))) (by kernel_rfl) (pickT (argT (p := (isE (.bool true))) (by kernel_rfl) (fun _ _ h => h)) (argT (p := (isE (.bool true))) (by kernel_rfl) (fun _ _ h => h)) (fun _ _ h => h)),
      stepN (i := 31) (dst := some 96) (op := (.move (.tmp 95))) (by kernel_rfl) (move (argT (p := (isE (.bool true))) (by kernel_rfl) (fun _ _ h => h)) (fun _ _ h => h)),
      stepG (i := 32) (j := 31) (dj := 96) (b := true) (dst := some 97) (op := (.load 30 (.tmp 7))) (by kernel_rfl) (by kernel_rfl) (by kernel_rfl) (fun _ _ h => h) (loadV (List.Mem.tail _ (List.Mem.head _)) (by kernel_rfl) (fun _ _ h => h)),
      stepG (i := 33) (j := 31) (dj := 96) (b := true) (dst := some 98) (op := (.call { callee := .value (.func 8), args := #[(.tmp 97)], argTypes := #[30] })) (by kernel_rfl) (by kernel_rfl) (by kernel_rfl) (fun _ _ h => h) (call1 (enters_of Tryz.func8 (by kernel_rfl) rfl) (argT (p := (isQ (numQ a0 b0 m0) 5)) (by kernel_rfl) (fun _ _ h => h)) (fun w u1 h1 => print_q h1 (by omega)) (fun _ _ h => h)),
      stepG (i := 34) (j := 31) (dj := 96) (b := true) (dst := some 99) (op := (.load 35 (.tmp 8))) (by kernel_rfl) (by kernel_rfl) (by kernel_rfl) (fun _ _ h => h) (loadV (List.Mem.tail _ (List.Mem.tail _ (List.Mem.head _))) (by kernel_rfl) (fun _ _ h => h)),
      stepG (i := 35) (j := 31) (dj := 96) (b := true) (dst := some 100) (op := (.call { callee := .value (.func 9), args := #[(.tmp 99)], argTypes := #[35] })) (by kernel_rfl) (by kernel_rfl) (by kernel_rfl) (fun _ _ h => h) (call1 (enters_of Tryz.func9 (by kernel_rfl) rfl) (argT (p := (isR (numQ a0 b0 m0) 32)) (by kernel_rfl) (fun _ _ h => h)) (fun w u1 h1 => print_r h1 (by omega)) (fun _ _ h => h)),
      stepG (i := 36) (j := 31) (dj := 96) (b := true) (dst := some 101) (op := (.binOp .eql 9 (.tmp 98) (.tmp 100) 9)) (by kernel_rfl) (by kernel_rfl) (by kernel_rfl) (fun _ _ h => h) (eqlS (l := qtext (numQ a0 b0 m0)) (r := qtext (numQ a0 b0 m0)) (argT (p := (isT (qtext (numQ a0 b0 m0)))) (by kernel_rfl) (fun _ _ h => h)) (argT (p := (isT (qtext (numQ a0 b0 m0)))) (by kernel_rfl) (fun _ _ h => h)) (fun w v h => h.trans (congrArg Value.bool (eq_self _)))),
      stepN (i := 37) (dst := some 102) (op := (.pick (.tmp 96) (.tmp 101) (.const (.bool false)))) (by kernel_rfl) (pickT (argT (p := (isE (.bool true))) (by kernel_rfl) (fun _ _ h => h)) (argT (p := (isE (.bool true))) (by kernel_rfl) (fun _ _ h => h)) (fun _ _ h => h)),
      stepN (i := 38) (dst := some 103) (op := (.move (.tmp 102))) (by kernel_rfl) (move (argT (p := (isE (.bool true))) (by kernel_rfl) (fun _ _ h => h)) (fun _ _ h => h)),
      stepG (i := 39) (j := 38) (dj := 103) (b := true) (dst := some 104) (op := (.load 28 (.tmp 9))) (by kernel_rfl) (by kernel_rfl) (by kernel_rfl) (fun _ _ h => h) (loadV (List.Mem.tail _ (List.Mem.tail _ (List.Mem.tail _ (List.Mem.head _)))) (by kernel_rfl) (fun _ _ h => h)),
      stepG (i := 40) (j := 38) (dj := 103) (b := true) (dst := some 105) (op := (.call { callee := .value (.func 38), args := #[(.tmp 104)], argTypes := #[28] })) (by kernel_rfl) (by kernel_rfl) (by kernel_rfl) (fun _ _ h => h) (call1 (enters_of Tryz.func38 (by kernel_rfl) rfl) (argT (p := (isW 1 1)) (by kernel_rfl) (fun _ _ h => h)) (fun w u1 h1 => from_q h1) (fun _ _ h => h)),
      stepG (i := 41) (j := 38) (dj := 103) (b := true) (dst := some 106) (op := (.call { callee := .value (.func 8), args := #[(.tmp 105)], argTypes := #[30] })) (by kernel_rfl) (by kernel_rfl) (by kernel_rfl) (fun _ _ h => h) (call1 (enters_of Tryz.func8 (by kernel_rfl) rfl) (argT (p := (isQ ((1 : Int) : Rat) (max 1 1))) (by kernel_rfl) (fun _ _ h => h)) (fun w u1 h1 => print_q h1 (by omega)) (fun _ _ h => h)),
      stepG (i := 42) (j := 38) (dj := 103) (b := true) (dst := some 107) (op := (.load 28 (.tmp 9))) (by kernel_rfl) (by kernel_rfl) (by kernel_rfl) (fun _ _ h => h) (loadV (List.Mem.tail _ (List.Mem.tail _ (List.Mem.tail _ (List.Mem.head _)))) (by kernel_rfl) (fun _ _ h => h)),
      stepG (i := 43) (j := 38) (dj := 103) (b := true) (dst := some 108) (op := (.call { callee := .value (.func 23), args := #[(.tmp 107)], argTypes := #[28] })) (by kernel_rfl) (by kernel_rfl) (by kernel_rfl) (fun _ _ h => h) (call1 (enters_of Tryz.func23 (by kernel_rfl) rfl) (argT (p := (isW 1 1)) (by kernel_rfl) (fun _ _ h => h)) (fun w u1 h1 => print_w h1 (by omega)) (fun _ _ h => h)),
      stepG (i := 44) (j := 38) (dj := 103) (b := true) (dst := some 109) (op := (.binOp .eql 9 (.tmp 106) (.tmp 108) 9)) (by kernel_rfl) (by kernel_rfl) (by kernel_rfl) (fun _ _ h => h) (eqlS (l := qtext ((1 : Int) : Rat)) (r := ztext 1) (argT (p := (isT (qtext ((1 : Int) : Rat)))) (by kernel_rfl) (fun _ _ h => h)) (argT (p := (isT (ztext 1))) (by kernel_rfl) (fun _ _ h => h)) (fun w v h => h.trans (congrArg Value.bool (qtext_int _)))),
      stepN (i := 45) (dst := some 110) (op := (.pick (.tmp 103) (.tmp 109) (.const (.bool false)))) (by kernel_rfl) (pickT (argT (p := (isE (.bool true))) (by kernel_rfl) (fun _ _ h => h)) (argT (p := (isE (.bool true))) (by kernel_rfl) (fun _ _ h => h)) (fun _ _ h => h)),
      stepN (i := 46) (dst := some 111) (op := (.move (.tmp 110))) (by kernel_rfl) (move (argT (p := (isE (.bool true))) (by kernel_rfl) (fun _ _ h => h)) (fun _ _ h => h)),
      stepG (i := 47) (j := 46) (dj := 111) (b := true) (dst := some 112) (op := (.load 30 (.tmp 7))) (by kernel_rfl) (by kernel_rfl) (by kernel_rfl) (fun _ _ h => h) (loadV (List.Mem.tail _ (List.Mem.head _)) (by kernel_rfl) (fun _ _ h => h)),
      stepG (i := 48) (j := 46) (dj := 111) (b := true) (dst := some 113) (op := (.call { callee := .value (.func 7), args := #[(.tmp 112)], argTypes := #[30] })) (by kernel_rfl) (by kernel_rfl) (by kernel_rfl) (fun _ _ h => h) (call1 (enters_of Tryz.func7 (by kernel_rfl) rfl) (argT (p := (isQ (numQ a0 b0 m0) 5)) (by kernel_rfl) (fun _ _ h => h)) (fun w u1 h1 => sign_q h1) (fun _ _ h => h)),
      stepG (i := 49) (j := 46) (dj := 111) (b := true) (dst := some 114) (op := (.load 30 (.tmp 7))) (by kernel_rfl) (by kernel_rfl) (by kernel_rfl) (fun _ _ h => h) (loadV (List.Mem.tail _ (List.Mem.head _)) (by kernel_rfl) (fun _ _ h => h)),
      stepG (i := 50) (j := 46) (dj := 111) (b := true) (dst := some 115) (op := (.call { callee := .value (.func 31), args := #[(.tmp 114)], argTypes := #[30] })) (by kernel_rfl) (by kernel_rfl) (by kernel_rfl) (fun _ _ h => h) (call1 (enters_of Tryz.func31 (by kernel_rfl) rfl) (argT (p := (isQ (numQ a0 b0 m0) 5)) (by kernel_rfl) (fun _ _ h => h)) (fun w u1 h1 => num_q h1) (fun _ _ h => h)),
      stepG (i := 51) (j := 46) (dj := 111) (b := true) (dst := some 116) (op := (.call { callee := .value (.func 28), args := #[(.tmp 115)], argTypes := #[28] })) (by kernel_rfl) (by kernel_rfl) (by kernel_rfl) (fun _ _ h => h) (call1 (enters_of Tryz.func28 (by kernel_rfl) rfl) (argT (p := (isW ((numQ a0 b0 m0).num) 5)) (by kernel_rfl) (fun _ _ h => h)) (fun w u1 h1 => sign_w h1) (fun _ _ h => h)),
      stepG (i := 52) (j := 46) (dj := 111) (b := true) (dst := some 117) (op := (.binOp .eql 3 (.tmp 113) (.tmp 116) 3)) (by kernel_rfl) (by kernel_rfl) (by kernel_rfl) (fun _ _ h => h) (eql (m := (Int.sign ((numQ a0 b0 m0).num))) (n := (Int.sign ((numQ a0 b0 m0).num))) (argT (p := (isE (.int .i64 (Int.sign ((numQ a0 b0 m0).num))))) (by kernel_rfl) (fun _ _ h => h)) (argT (p := (isE (.int .i64 (Int.sign ((numQ a0 b0 m0).num))))) (by kernel_rfl) (fun _ _ h => h)) (fun w v h => h.trans (congrArg Value.bool (decide_eq_true rfl)))),
      stepN (i := 53) (dst := some 118) (op := (.pick (.tmp 111) (.tmp 117) (.const (.bool false)))) (by kernel_rfl) (pickT (argT (p := (isE (.bool true))) (by kernel_rfl) (fun _ _ h => h)) (argT (p := (isE (.bool true))) (by kernel_rfl) (fun _ _ h => h)) (fun _ _ h => h)),
      stepN (i := 54) (dst := some 6) (op := (.assign (.tmp 118))) (by kernel_rfl) (assign (argT (p := (isE (.bool true))) (by kernel_rfl) (fun _ _ h => h)) (fun _ _ h => h)), trivial⟩) ?_
  clear hS kf ac
  try clear w
  intro kf ac w hS
  exact wp_ret (ret_t (q := (isE (.bool true))) (by kernel_rfl) hS (List.Mem.tail _ (List.Mem.tail _ (List.Mem.tail _ (List.Mem.tail _ (List.Mem.tail _ (List.Mem.tail _ (List.Mem.tail _ (List.Mem.head _)))))))) (fun v h => ⟨v, rfl, (h), hS.grow⟩))
set_option maxRecDepth 100000 in
set_option maxHeartbeats 4000000 in
theorem lowest5_01 {w : World} {v0 v1 v2 : Value} {a0 b0 : List Nat} {m0 : Bool} {l : List Nat} {m : Bool} (h0 : (isM a0 b0 m0) w v0) (h1 : (isS l) w v1) (h2 : (isE (.bool m)) w v2) (hk : signed (Mx.val (l.take 3)) m ≠ 0) (hd : (numQ a0 b0 m0).den = 1) : Calls Tryz.prog 4 #[v0, v1, v2] w (Ret w fun v w' => (isE (.bool true)) w' v) := by
  refine enter (s := soft) (n := 119) (c := (.seq (.region 0 (regionOps Tryz.f4 0) false) (.seq (.region 1 (regionOps Tryz.f4 1) false) (.seq (.region 2 (regionOps Tryz.f4 2) false) (.seq (.seq (.region 3 (regionOps Tryz.f4 3) false) (.cond (.tmp 29) (.region 4 (regionOps Tryz.f4 4) false) .skip)) (.seq (.region 5 (regionOps Tryz.f4 5) true) (.seq (.region 6 (regionOps Tryz.f4 6) true) (.seq (.region 7 (regionOps Tryz.f4 7) false) (.seq (.seq (.region 8 (regionOps Tryz.f4 8) false) (.cond (.tmp 58) (.region 9 (regionOps Tryz.f4 9) false) .skip)) (.seq (.region 10 (regionOps Tryz.f4 10) true) .ret)))))))))) Tryz.func4 (by kernel_rfl) (by kernel_rfl) (by simp) [(0, (isM a0 b0 m0)), (1, (isS l)), (2, (isE (.bool m)))] ⟨⟨by simp, h0⟩, ⟨by simp, h1⟩, ⟨by simp, h2⟩, trivial⟩ ?_
  intro kf ac hS
  refine plain_seq (m := 2) (by kernel_rfl) ?_
  refine box0 (p := 3) (y := 0) (t := 24) (q := (isM a0 b0 m0)) hS (by kernel_rfl) rfl rfl rfl (List.Mem.head _) shM trivial ⟨(stb_M _ _ _), (stb_S _), (stb_eq _), trivial⟩ ?_
  clear hS kf ac
  try clear w
  intro kf ac w hS
  refine const0 (p := 6) (c := (.bool false)) hS (by kernel_rfl) rfl rfl rfl ?_
  clear hS kf ac
  try clear w
  intro kf ac w hS
  refine plain_end ?_
  refine region_seq (s := soft) (kf0 := kf) (by kernel_rfl) hS (Rg.look [(15, (isM a0 b0 m0)),
      (16, (IsT [(isQ (numQ a0 b0 m0) 5), (isR (numQ a0 b0 m0) 32)])),
      (14, (IsT [(isQ (numQ a0 b0 m0) 5), (isR (numQ a0 b0 m0) 32)])),
      (17, (isQ (numQ a0 b0 m0) 5)),
      (18, (isR (numQ a0 b0 m0) 32)),
      (7, isX),
      (8, isX)])
    ⟨[(5, 7, 30), (6, 8, 35)], [(7, 7, 17, 30), (8, 8, 18, 35)]⟩ [⟨3, 24, (isM a0 b0 m0)⟩, ⟨7, 30, (isQ (numQ a0 b0 m0) 5)⟩, ⟨8, 35, (isR (numQ a0 b0 m0) 32)⟩] [(6, (isE (.bool false))), (0, (isM a0 b0 m0)), (1, (isS l)), (2, (isE (.bool m)))] (by kernel_rfl) (by kernel_rfl) (look_stb _ ⟨(stb_M _ _ _), (stb_T ⟨(stb_Q _ _), (stb_R _ _), trivial⟩), (stb_T ⟨(stb_Q _ _), (stb_R _ _), trivial⟩), (stb_Q _ _), (stb_R _ _), stb_true, stb_true, trivial⟩) ⟨(stb_M _ _ _), trivial⟩ ⟨(stb_eq _), (stb_M _ _ _), (stb_S _), (stb_eq _), trivial⟩ ⟨fun _ _ => trivial, fun _ _ => trivial, trivial⟩ ⟨shQ, shR, trivial⟩
    ⟨.inr (.inl ⟨rfl, _, (List.Mem.head _), rfl, rfl, (fun _ _ h => h)⟩), .inl ⟨_, (List.Mem.head _), rfl, rfl, (fun _ _ h => h)⟩, .inl ⟨_, (List.Mem.tail _ (List.Mem.head _)), rfl, rfl, (fun _ _ h => h)⟩, trivial⟩
    ⟨.inr ⟨(by kernel_rfl), _, (List.Mem.head _), rfl, (fun _ _ h => h)⟩, .inr ⟨(by kernel_rfl), _, (List.Mem.tail _ (List.Mem.head _)), rfl, (fun _ _ h => h)⟩, .inr ⟨(by kernel_rfl), _, (List.Mem.tail _ (List.Mem.tail _ (List.Mem.head _))), rfl, (fun _ _ h => h)⟩, .inr ⟨(by kernel_rfl), _, (List.Mem.tail _ (List.Mem.tail _ (List.Mem.tail _ (List.Mem.head _)))), rfl, (fun _ _ h => h)⟩, trivial⟩
    (steps (m := 9) (by kernel_rfl) ⟨stepN (i := 0) (dst := some 15) (op := (.load 24 (.tmp 3))) (by kernel_rfl) (loadV (List.Mem.head _) (by kernel_rfl) (fun _ _ h => h)),
      stepN (i := 1) (dst := some 16) (op := (.call { callee := .value (.func 5), args := #[(.tmp 15)], argTypes := #[24] })) (by kernel_rfl) (call1 (enters_of Tryz.func5 (by kernel_rfl) rfl) (argT (p := (isM a0 b0 m0)) (by kernel_rfl) (fun _ _ h => h)) (fun w u1 h1 => num_m h1) (fun _ _ h => h)),
      stepN (i := 2) (dst := some 14) (op := (.move (.tmp 16))) (by kernel_rfl) (move (argT (p := (IsT [(isQ (numQ a0 b0 m0) 5), (isR (numQ a0 b0 m0) 32)])) (by kernel_rfl) (fun _ _ h => h)) (fun _ _ h => h)),
      stepN (i := 3) (dst := some 17) (op := (.extract (.tmp 14) 0)) (by kernel_rfl) (extract (by kernel_rfl) (fun _ _ h => h) rfl (fun _ _ h => h)),
      stepN (i := 4) (dst := some 18) (op := (.extract (.tmp 14) 1)) (by kernel_rfl) (extract (by kernel_rfl) (fun _ _ h => h) rfl (fun _ _ h => h)),
      isAlloc rfl,
      isAlloc rfl,
      isStore rfl,
      isStore rfl, trivial⟩) ?_
  clear hS kf ac
  try clear w
  intro kf ac w hS
  refine region_seq (s := soft) (kf0 := kf) (by kernel_rfl) hS (Rg.look [(19, (isS l)),
      (20, (isS l)),
      (21, (isE (.int .i64 ((l.length : Nat) : Int)))),
      (22, (isE (.int .i64 (((min l.length 3 : Nat) : Int))))),
      (23, (isS (l.take 3))),
      (24, (isN (Mx.val (l.take 3)) 4)),
      (25, (isE (.bool m))),
      (26, (isW (signed (Mx.val (l.take 3)) m) 4)),
      (9, isX)])
    ⟨[(8, 9, 28)], [(9, 9, 26, 28)]⟩ [⟨3, 24, (isM a0 b0 m0)⟩, ⟨7, 30, (isQ (numQ a0 b0 m0) 5)⟩, ⟨8, 35, (isR (numQ a0 b0 m0) 32)⟩, ⟨9, 28, (isW (signed (Mx.val (l.take 3)) m) 4)⟩] [(6, (isE (.bool false))), (0, (isM a0 b0 m0)), (1, (isS l)), (2, (isE (.bool m)))] (by kernel_rfl) (by kernel_rfl) (look_stb _ ⟨(stb_S _), (stb_S _), (stb_eq _), (stb_eq _), (stb_S _), (stb_N _ _), (stb_eq _), (stb_W _ _), stb_true, trivial⟩) ⟨(stb_M _ _ _), (stb_Q _ _), (stb_R _ _), trivial⟩ ⟨(stb_eq _), (stb_M _ _ _), (stb_S _), (stb_eq _), trivial⟩ ⟨fun _ _ => trivial, trivial⟩ ⟨shW, trivial⟩
    ⟨.inr (.inl ⟨rfl, _, (List.Mem.head _), rfl, rfl, (fun _ _ h => h)⟩), .inr (.inl ⟨rfl, _, (List.Mem.tail _ (List.Mem.head _)), rfl, rfl, (fun _ _ h => h)⟩), .inr (.inl ⟨rfl, _, (List.Mem.tail _ (List.Mem.tail _ (List.Mem.head _))), rfl, rfl, (fun _ _ h => h)⟩), .inl ⟨_, (List.Mem.head _), rfl, rfl, (fun _ _ h => h)⟩, trivial⟩
    ⟨.inr ⟨(by kernel_rfl), _, (List.Mem.head _), rfl, (fun _ _ h => h)⟩, .inr ⟨(by kernel_rfl), _, (List.Mem.tail _ (List.Mem.head _)), rfl, (fun _ _ h => h)⟩, .inr ⟨(by kernel_rfl), _, (List.Mem.tail _ (List.Mem.tail _ (List.Mem.head _))), rfl, (fun _ _ h => h)⟩, .inr ⟨(by kernel_rfl), _, (List.Mem.tail _ (List.Mem.tail _ (List.Mem.tail _ (List.Mem.head _)))), rfl, (fun _ _ h => h)⟩, trivial⟩
    (steps (m := 10) (by kernel_rfl) ⟨stepN (i := 0) (dst := some 19) (op := (.move (.tmp 1))) (by kernel_rfl) (move (argO (p := (isS l)) (List.Mem.tail _ (List.Mem.tail _ (List.Mem.head _))) (by kernel_rfl)) (fun _ _ h => h)),
      stepN (i := 1) (dst := some 20) (op := (.move (.tmp 1))) (by kernel_rfl) (move (argO (p := (isS l)) (List.Mem.tail _ (List.Mem.tail _ (List.Mem.head _))) (by kernel_rfl)) (fun _ _ h => h)),
      stepN (i := 2) (dst := some 21) (op := (.call { callee := .builtin .len, args := #[(.tmp 20)], argTypes := #[22] })) (by kernel_rfl) (lenS (argT (p := (isS l)) (by kernel_rfl) (fun _ _ h => h)) rfl (fun _ _ h => h)),
      stepN (i := 3) (dst := some 22) (op := (.call { callee := .builtin .min, args := #[(.tmp 21), (.const (.int .i64 3))], argTypes := #[3, 3] })) (by kernel_rfl) (minI (r := ((min l.length 3 : Nat) : Int)) (argT (p := (isE (.int .i64 ((l.length : Nat) : Int)))) (by kernel_rfl) (fun _ _ h => h)) (argC (.int .i64 3)) (by omega) (fun _ _ h => h)),
      stepN (i := 4) (dst := some 23) (op := (.slice 22 (.tmp 19) none (some (.tmp 22)) none)) (by kernel_rfl) (upS (n := min l.length 3) (argT (p := (isS l)) (by kernel_rfl) (fun _ _ h => h)) (argT (p := (isE (.int .i64 (((min l.length 3 : Nat) : Int))))) (by kernel_rfl) (fun _ _ h => h)) (by omega) (fun w v h => (by rw [take_min] at h; exact h))),
      stepN (i := 5) (dst := some 24) (op := (.call { callee := .value (.func 27), args := #[(.tmp 23)], argTypes := #[22] })) (by kernel_rfl) (call1 (enters_of Tryz.func27 (by kernel_rfl) rfl) (argT (p := (isS (l.take 3))) (by kernel_rfl) (fun _ _ h => h)) (fun w u1 h1 => of_n 4 h1 (by simp [List.length_take]; omega) (by omega)) (fun _ _ h => h)),
      stepN (i := 6) (dst := some 25) (op := (.move (.tmp 2))) (by kernel_rfl) (move (argO (p := (isE (.bool m))) (List.Mem.tail _ (List.Mem.tail _ (List.Mem.tail _ (List.Mem.head _)))) (by kernel_rfl)) (fun _ _ h => h)),
      stepN (i := 7) (dst := some 26) (op := (.call { callee := .value (.func 26), args := #[(.tmp 24), (.tmp 25)], argTypes := #[26, 4] })) (by kernel_rfl) (call2 (enters_of Tryz.func26 (by kernel_rfl) rfl) (argT (p := (isN (Mx.val (l.take 3)) 4)) (by kernel_rfl) (fun _ _ h => h)) (argT (p := (isE (.bool m))) (by kernel_rfl) (fun _ _ h => h)) (fun w u1 u2 h1 h2 => by subst h2; exact of_w h1) (fun _ _ h => h)),
      isAlloc rfl,
      isStore rfl, trivial⟩) ?_
  clear hS kf ac
  try clear w
  intro kf ac w hS
  refine wp_seq ?_
  refine region_seq (s := soft) (kf0 := kf) (by kernel_rfl) hS (Rg.look [(27, (isW (signed (Mx.val (l.take 3)) m) 4)),
      (28, (isE (.int .i64 (Int.sign (signed (Mx.val (l.take 3)) m))))),
      (29, (isE (.bool false)))])
    ⟨[], []⟩ [⟨3, 24, (isM a0 b0 m0)⟩, ⟨7, 30, (isQ (numQ a0 b0 m0) 5)⟩, ⟨8, 35, (isR (numQ a0 b0 m0) 32)⟩, ⟨9, 28, (isW (signed (Mx.val (l.take 3)) m) 4)⟩] [(6, (isE (.bool false))), (0, (isM a0 b0 m0)), (1, (isS l)), (2, (isE (.bool m))), (29, (isE (.bool false)))] (by kernel_rfl) (by kernel_rfl) (look_stb _ ⟨(stb_W _ _), (stb_eq _), (stb_eq _), trivial⟩) ⟨(stb_M _ _ _), (stb_Q _ _), (stb_R _ _), (stb_W _ _), trivial⟩ ⟨(stb_eq _), (stb_M _ _ _), (stb_S _), (stb_eq _), trivial⟩ trivial trivial
    ⟨.inr (.inl ⟨rfl, _, (List.Mem.head _), rfl, rfl, (fun _ _ h => h)⟩), .inr (.inl ⟨rfl, _, (List.Mem.tail _ (List.Mem.head _)), rfl, rfl, (fun _ _ h => h)⟩), .inr (.inl ⟨rfl, _, (List.Mem.tail _ (List.Mem.tail _ (List.Mem.head _))), rfl, rfl, (fun _ _ h => h)⟩), .inr (.inl ⟨rfl, _, (List.Mem.tail _ (List.Mem.tail _ (List.Mem.tail _ (List.Mem.head _)))), rfl, rfl, (fun _ _ h => h)⟩), trivial⟩
    ⟨.inr ⟨(by kernel_rfl), _, (List.Mem.head _), rfl, (fun _ _ h => h)⟩, .inr ⟨(by kernel_rfl), _, (List.Mem.tail _ (List.Mem.head _)), rfl, (fun _ _ h => h)⟩, .inr ⟨(by kernel_rfl), _, (List.Mem.tail _ (List.Mem.tail _ (List.Mem.head _))), rfl, (fun _ _ h => h)⟩, .inr ⟨(by kernel_rfl), _, (List.Mem.tail _ (List.Mem.tail _ (List.Mem.tail _ (List.Mem.head _)))), rfl, (fun _ _ h => h)⟩, .inl ⟨(by kernel_rfl), rfl, (fun _ _ h => h)⟩, trivial⟩
    (steps (m := 3) (by kernel_rfl) ⟨stepN (i := 0) (dst := some 27) (op := (.load 28 (.tmp 9))) (by kernel_rfl) (loadV (List.Mem.tail _ (List.Mem.tail _ (List.Mem.tail _ (List.Mem.head _)))) (by kernel_rfl) (fun _ _ h => h)),
      stepN (i := 1) (dst := some 28) (op := (.call { callee := .value (.func 28), args := #[(.tmp 27)], argTypes := #[28] })) (by kernel_rfl) (call1 (enters_of Tryz.func28 (by kernel_rfl) rfl) (argT (p := (isW (signed (Mx.val (l.take 3)) m) 4)) (by kernel_rfl) (fun _ _ h => h)) (fun w u1 h1 => sign_w h1) (fun _ _ h => h)),
      stepN (i := 2) (dst := some 29) (op := (.binOp .eql 3 (.tmp 28) (.const (.int .i64 0)) 3)) (by kernel_rfl) (eql (m := (Int.sign (signed (Mx.val (l.take 3)) m))) (n := 0) (argT (p := (isE (.int .i64 (Int.sign (signed (Mx.val (l.take 3)) m))))) (by kernel_rfl) (fun _ _ h => h)) (argC (.int .i64 0)) (fun w v h => h.trans (congrArg Value.bool (decide_eq_false (fun e => hk (Int.sign_eq_zero_iff_zero.1 e)))))), trivial⟩) ?_
  clear hS kf ac
  try clear w
  intro kf ac w hS
  refine cond_false (q := (isE (.bool false))) hS (List.Mem.tail _ (List.Mem.tail _ (List.Mem.tail _ (List.Mem.tail _ (List.Mem.head _))))) (fun _ _ h => h) ?_
  refine skip_then ?_
  refine region_seq (s := soft) (kf0 := kf) (by kernel_rfl) hS (Rg.look [(32, (isQ (numQ a0 b0 m0) 5)),
      (33, (isW ((numQ a0 b0 m0).num) 5)),
      (34, (isW (signed (Mx.val (l.take 3)) m) 4)),
      (35, (isW (((numQ a0 b0 m0).num) * (signed (Mx.val (l.take 3)) m)) (5 + 4))),
      (36, (isQ (numQ a0 b0 m0) 5)),
      (37, (isN ((numQ a0 b0 m0).den) 5)),
      (38, (isW (signed ((numQ a0 b0 m0).den) false) 5)),
      (39, (isW (signed (Mx.val (l.take 3)) m) 4)),
      (40, (isW ((signed ((numQ a0 b0 m0).den) false) * (signed (Mx.val (l.take 3)) m)) (5 + 4))),
      (41, (IsT [(isQ (((((numQ a0 b0 m0).num) * (signed (Mx.val (l.take 3)) m) : Int) : Rat) / (((signed ((numQ a0 b0 m0).den) false) * (signed (Mx.val (l.take 3)) m) : Int) : Rat)) (max (5 + 4) (5 + 4) + 1)), (isE (.int .i64 0))])),
      (31, (IsT [(isQ (((((numQ a0 b0 m0).num) * (signed (Mx.val (l.take 3)) m) : Int) : Rat) / (((signed ((numQ a0 b0 m0).den) false) * (signed (Mx.val (l.take 3)) m) : Int) : Rat)) (max (5 + 4) (5 + 4) + 1)), (isE (.int .i64 0))])),
      (42, (isQ (((((numQ a0 b0 m0).num) * (signed (Mx.val (l.take 3)) m) : Int) : Rat) / (((signed ((numQ a0 b0 m0).den) false) * (signed (Mx.val (l.take 3)) m) : Int) : Rat)) (max (5 + 4) (5 + 4) + 1))),
      (43, (isE (.int .i64 0))),
      (10, isX),
      (11, (isE (.int .i64 0)))])
    ⟨[(13, 10, 30)], [(14, 10, 42, 30)]⟩ [⟨3, 24, (isM a0 b0 m0)⟩, ⟨7, 30, (isQ (numQ a0 b0 m0) 5)⟩, ⟨8, 35, (isR (numQ a0 b0 m0) 32)⟩, ⟨9, 28, (isW (signed (Mx.val (l.take 3)) m) 4)⟩, ⟨10, 30, (isQ (((((numQ a0 b0 m0).num) * (signed (Mx.val (l.take 3)) m) : Int) : Rat) / (((signed ((numQ a0 b0 m0).den) false) * (signed (Mx.val (l.take 3)) m) : Int) : Rat)) (max (5 + 4) (5 + 4) + 1))⟩] [(6, (isE (.bool false))), (0, (isM a0 b0 m0)), (1, (isS l)), (2, (isE (.bool m))), (29, (isE (.bool false))), (11, (isE (.int .i64 0)))] (by kernel_rfl) (by kernel_rfl) (look_stb _ ⟨(stb_Q _ _), (stb_W _ _), (stb_W _ _), (stb_W _ _), (stb_Q _ _), (stb_N _ _), (stb_W _ _), (stb_W _ _), (stb_W _ _), (stb_T ⟨(stb_Q _ _), (stb_eq _), trivial⟩), (stb_T ⟨(stb_Q _ _), (stb_eq _), trivial⟩), (stb_Q _ _), (stb_eq _), stb_true, (stb_eq _), trivial⟩) ⟨(stb_M _ _ _), (stb_Q _ _), (stb_R _ _), (stb_W _ _), trivial⟩ ⟨(stb_eq _), (stb_M _ _ _), (stb_S _), (stb_eq _), (stb_eq _), trivial⟩ ⟨fun _ _ => trivial, trivial⟩ ⟨shQ, trivial⟩
    ⟨.inr (.inl ⟨rfl, _, (List.Mem.head _), rfl, rfl, (fun _ _ h => h)⟩), .inr (.inl ⟨rfl, _, (List.Mem.tail _ (List.Mem.head _)), rfl, rfl, (fun _ _ h => h)⟩), .inr (.inl ⟨rfl, _, (List.Mem.tail _ (List.Mem.tail _ (List.Mem.head _))), rfl, rfl, (fun _ _ h => h)⟩), .inr (.inl ⟨rfl, _, (List.Mem.tail _ (List.Mem.tail _ (List.Mem.tail _ (List.Mem.head _)))), rfl, rfl, (fun _ _ h => h)⟩), .inl ⟨_, (List.Mem.head _), rfl, rfl, (fun _ _ h => h)⟩, trivial⟩
    ⟨.inr ⟨(by kernel_rfl), _, (List.Mem.head _), rfl, (fun _ _ h => h)⟩, .inr ⟨(by kernel_rfl), _, (List.Mem.tail _ (List.Mem.head _)), rfl, (fun _ _ h => h)⟩, .inr ⟨(by kernel_rfl), _, (List.Mem.tail _ (List.Mem.tail _ (List.Mem.head _))), rfl, (fun _ _ h => h)⟩, .inr ⟨(by kernel_rfl), _, (List.Mem.tail _ (List.Mem.tail _ (List.Mem.tail _ (List.Mem.head _)))), rfl, (fun _ _ h => h)⟩, .inr ⟨(by kernel_rfl), _, (List.Mem.tail _ (List.Mem.tail _ (List.Mem.tail _ (List.Mem.tail _ (List.Mem.head _))))), rfl, (fun _ _ h => h)⟩, .inl ⟨(by kernel_rfl), rfl, (fun _ _ h => h)⟩, trivial⟩
    (steps (m := 16) (by kernel_rfl) ⟨stepN (i := 0) (dst := some 32) (op := (.load 30 (.tmp 7))) (by kernel_rfl) (loadV (List.Mem.tail _ (List.Mem.head _)) (by kernel_rfl) (fun _ _ h => h)),
      stepN (i := 1) (dst := some 33) (op := (.call { callee := .value (.func 31), args := #[(.tmp 32)], argTypes := #[30] })) (by kernel_rfl) (call1 (enters_of Tryz.func31 (by kernel_rfl) rfl) (argT (p := (isQ (numQ a0 b0 m0) 5)) (by kernel_rfl) (fun _ _ h => h)) (fun w u1 h1 => num_q h1) (fun _ _ h => h)),
      stepN (i := 2) (dst := some 34) (op := (.load 28 (.tmp 9))) (by kernel_rfl) (loadV (List.Mem.tail _ (List.Mem.tail _ (List.Mem.tail _ (List.Mem.head _)))) (by kernel_rfl) (fun _ _ h => h)),
      stepN (i := 3) (dst := some 35) (op := (.call { callee := .value (.func 32), args := #[(.tmp 33), (.tmp 34)], argTypes := #[28, 28] })) (by kernel_rfl) (call2 (enters_of Tryz.func32 (by kernel_rfl) rfl) (argT (p := (isW ((numQ a0 b0 m0).num) 5)) (by kernel_rfl) (fun _ _ h => h)) (argT (p := (isW (signed (Mx.val (l.take 3)) m) 4)) (by kernel_rfl) (fun _ _ h => h)) (fun w u1 u2 h1 h2 => mul_w h1 h2 (by omega) (by omega)) (fun _ _ h => h)),
      stepN (i := 4) (dst := some 36) (op := (.load 30 (.tmp 7))) (by kernel_rfl) (loadV (List.Mem.tail _ (List.Mem.head _)) (by kernel_rfl) (fun _ _ h => h)),
      stepN (i := 5) (dst := some 37) (op := (.call { callee := .value (.func 33), args := #[(.tmp 36)], argTypes := #[30] })) (by kernel_rfl) (call1 (enters_of Tryz.func33 (by kernel_rfl) rfl) (argT (p := (isQ (numQ a0 b0 m0) 5)) (by kernel_rfl) (fun _ _ h => h)) (fun w u1 h1 => den_q h1) (fun _ _ h => h)),
      stepN (i := 6) (dst := some 38) (op := (.call { callee := .value (.func 26), args := #[(.tmp 37), (.const (.bool false))], argTypes := #[26, 4] })) (by kernel_rfl) (call2 (enters_of Tryz.func26 (by kernel_rfl) rfl) (argT (p := (isN ((numQ a0 b0 m0).den) 5)) (by kernel_rfl) (fun _ _ h => h)) (argC (.bool false)) (fun w u1 u2 h1 h2 => by subst h2; exact of_w h1) (fun _ _ h => h)),
      stepN (i := 7) (dst := some 39) (op := (.load 28 (.tmp 9))) (by kernel_rfl) (loadV (List.Mem.tail _ (List.Mem.tail _ (List.Mem.tail _ (List.Mem.head _)))) (by kernel_rfl) (fun _ _ h => h)),
      stepN (i := 8) (dst := some 40) (op := (.call { callee := .value (.func 32), args := #[(.tmp 38), (.tmp 39)], argTypes := #[28, 28] })) (by kernel_rfl) (call2 (enters_of Tryz.func32 (by kernel_rfl) rfl) (argT (p := (isW (signed ((numQ a0 b0 m0).den) false) 5)) (by kernel_rfl) (fun _ _ h => h)) (argT (p := (isW (signed (Mx.val (l.take 3)) m) 4)) (by kernel_rfl) (fun _ _ h => h)) (fun w u1 u2 h1 h2 => mul_w h1 h2 (by omega) (by omega)) (fun _ _ h => h)),
      stepN (i := 9) (dst := some 41) (op := (.call { callee := .value (.func 30), args := #[(.tmp 35), (.tmp 40)], argTypes := #[28, 28] })) (by kernel_rfl) (call2 (enters_of Tryz.func30 (by kernel_rfl) rfl) (argT (p := (isW (((numQ a0 b0 m0).num) * (signed (Mx.val (l.take 3)) m)) (5 + 4))) (by kernel_rfl) (fun _ _ h => h)) (argT (p := (isW ((signed ((numQ a0 b0 m0).den) false) * (signed (Mx.val (l.take 3)) m)) (5 + 4))) (by kernel_rfl) (fun _ _ h => h)) (fun w u1 u2 h1 h2 => of_q h1 h2 (by omega) (by omega) (den_times hk)) (fun _ _ h => h)),
      stepN (i := 10) (dst := some 31) (op := (.move (.tmp 41))) (by kernel_rfl) (move (argT (p := (IsT [(isQ (((((numQ a0 b0 m0).num) * (signed (Mx.val (l.take 3)) m) : Int) : Rat) / (((signed ((numQ a0 b0 m0).den) false) * (signed (Mx.val (l.take 3)) m) : Int) : Rat)) (max (5 + 4) (5 + 4) + 1)), (isE (.int .i64 0))])) (by kernel_rfl) (fun _ _ h => h)) (fun _ _ h => h)),
      stepN (i := 11) (dst := some 42) (op := (.extract (.tmp 31) 0)) (by kernel_rfl) (extract (by kernel_rfl) (fun _ _ h => h) rfl (fun _ _ h => h)),
      stepN (i := 12) (dst := some 43) (op := (.extract (.tmp 31) 1)) (by kernel_rfl) (extract (by kernel_rfl) (fun _ _ h => h) rfl (fun _ _ h => h)),
      isAlloc rfl,
      isStore rfl,
      stepN (i := 15) (dst := some 11) (op := (.assign (.tmp 43))) (by kernel_rfl) (assign (argT (p := (isE (.int .i64 0))) (by kernel_rfl) (fun _ _ h => h)) (fun _ _ h => h)), trivial⟩) ?_
  clear hS kf ac
  try clear w
  intro kf ac w hS
  refine region_seq (s := soft) (kf0 := kf) (by kernel_rfl) hS (Rg.look [(44, (isQ (numQ a0 b0 m0) 5)),
      (45, (isW ((numQ a0 b0 m0).num) 5)),
      (46, (isN (Int.natAbs ((numQ a0 b0 m0).num)) 5)),
      (47, (isQ (numQ a0 b0 m0) 5)),
      (48, (isN ((numQ a0 b0 m0).den) 5)),
      (49, (isN (Nat.gcd (Int.natAbs ((numQ a0 b0 m0).num)) ((numQ a0 b0 m0).den)) 5)),
      (12, isX)])
    ⟨[(6, 12, 26)], [(7, 12, 49, 26)]⟩ [⟨3, 24, (isM a0 b0 m0)⟩, ⟨7, 30, (isQ (numQ a0 b0 m0) 5)⟩, ⟨8, 35, (isR (numQ a0 b0 m0) 32)⟩, ⟨9, 28, (isW (signed (Mx.val (l.take 3)) m) 4)⟩, ⟨10, 30, (isQ (((((numQ a0 b0 m0).num) * (signed (Mx.val (l.take 3)) m) : Int) : Rat) / (((signed ((numQ a0 b0 m0).den) false) * (signed (Mx.val (l.take 3)) m) : Int) : Rat)) (max (5 + 4) (5 + 4) + 1))⟩, ⟨12, 26, (isN (Nat.gcd (Int.natAbs ((numQ a0 b0 m0).num)) ((numQ a0 b0 m0).den)) 5)⟩] [(6, (isE (.bool false))), (0, (isM a0 b0 m0)), (1, (isS l)), (2, (isE (.bool m))), (29, (isE (.bool false))), (11, (isE (.int .i64 0)))] (by kernel_rfl) (by kernel_rfl) (look_stb _ ⟨(stb_Q _ _), (stb_W _ _), (stb_N _ _), (stb_Q _ _), (stb_N _ _), (stb_N _ _), stb_true, trivial⟩) ⟨(stb_M _ _ _), (stb_Q _ _), (stb_R _ _), (stb_W _ _), (stb_Q _ _), trivial⟩ ⟨(stb_eq _), (stb_M _ _ _), (stb_S _), (stb_eq _), (stb_eq _), (stb_eq _), trivial⟩ ⟨fun _ _ => trivial, trivial⟩ ⟨shN, trivial⟩
    ⟨.inr (.inl ⟨rfl, _, (List.Mem.head _), rfl, rfl, (fun _ _ h => h)⟩), .inr (.inl ⟨rfl, _, (List.Mem.tail _ (List.Mem.head _)), rfl, rfl, (fun _ _ h => h)⟩), .inr (.inl ⟨rfl, _, (List.Mem.tail _ (List.Mem.tail _ (List.Mem.head _))), rfl, rfl, (fun _ _ h => h)⟩), .inr (.inl ⟨rfl, _, (List.Mem.tail _ (List.Mem.tail _ (List.Mem.tail _ (List.Mem.head _)))), rfl, rfl, (fun _ _ h => h)⟩), .inr (.inl ⟨rfl, _, (List.Mem.tail _ (List.Mem.tail _ (List.Mem.tail _ (List.Mem.tail _ (List.Mem.head _))))), rfl, rfl, (fun _ _ h => h)⟩), .inl ⟨_, (List.Mem.head _), rfl, rfl, (fun _ _ h => h)⟩, trivial⟩
    ⟨.inr ⟨(by kernel_rfl), _, (List.Mem.head _), rfl, (fun _ _ h => h)⟩, .inr ⟨(by kernel_rfl), _, (List.Mem.tail _ (List.Mem.head _)), rfl, (fun _ _ h => h)⟩, .inr ⟨(by kernel_rfl), _, (List.Mem.tail _ (List.Mem.tail _ (List.Mem.head _))), rfl, (fun _ _ h => h)⟩, .inr ⟨(by kernel_rfl), _, (List.Mem.tail _ (List.Mem.tail _ (List.Mem.tail _ (List.Mem.head _)))), rfl, (fun _ _ h => h)⟩, .inr ⟨(by kernel_rfl), _, (List.Mem.tail _ (List.Mem.tail _ (List.Mem.tail _ (List.Mem.tail _ (List.Mem.head _))))), rfl, (fun _ _ h => h)⟩, .inr ⟨(by kernel_rfl), _, (List.Mem.tail _ (List.Mem.tail _ (List.Mem.tail _ (List.Mem.tail _ (List.Mem.tail _ (List.Mem.head _)))))), rfl, (fun _ _ h => h)⟩, trivial⟩
    (steps (m := 8) (by kernel_rfl) ⟨stepN (i := 0) (dst := some 44) (op := (.load 30 (.tmp 7))) (by kernel_rfl) (loadV (List.Mem.tail _ (List.Mem.head _)) (by kernel_rfl) (fun _ _ h => h)),
      stepN (i := 1) (dst := some 45) (op := (.call { callee := .value (.func 31), args := #[(.tmp 44)], argTypes := #[30] })) (by kernel_rfl) (call1 (enters_of Tryz.func31 (by kernel_rfl) rfl) (argT (p := (isQ (numQ a0 b0 m0) 5)) (by kernel_rfl) (fun _ _ h => h)) (fun w u1 h1 => num_q h1) (fun _ _ h => h)),
      stepN (i := 2) (dst := some 46) (op := (.call { callee := .value (.func 35), args := #[(.tmp 45)], argTypes := #[28] })) (by kernel_rfl) (call1 (enters_of Tryz.func35 (by kernel_rfl) rfl) (argT (p := (isW ((numQ a0 b0 m0).num) 5)) (by kernel_rfl) (fun _ _ h => h)) (fun w u1 h1 => abs_w h1) (fun _ _ h => h)),
      stepN (i := 3) (dst := some 47) (op := (.load 30 (.tmp 7))) (by kernel_rfl) (loadV (List.Mem.tail _ (List.Mem.head _)) (by kernel_rfl) (fun _ _ h => h)),
      stepN (i := 4) (dst := some 48) (op := (.call { callee := .value (.func 33), args := #[(.tmp 47)], argTypes := #[30] })) (by kernel_rfl) (call1 (enters_of Tryz.func33 (by kernel_rfl) rfl) (argT (p := (isQ (numQ a0 b0 m0) 5)) (by kernel_rfl) (fun _ _ h => h)) (fun w u1 h1 => den_q h1) (fun _ _ h => h)),
      stepN (i := 5) (dst := some 49) (op := (.call { callee := .value (.func 34), args := #[(.tmp 46), (.tmp 48)], argTypes := #[26, 26] })) (by kernel_rfl) (call2 (enters_of Tryz.func34 (by kernel_rfl) rfl) (argT (p := (isN (Int.natAbs ((numQ a0 b0 m0).num)) 5)) (by kernel_rfl) (fun _ _ h => h)) (argT (p := (isN ((numQ a0 b0 m0).den) 5)) (by kernel_rfl) (fun _ _ h => h)) (fun w u1 u2 h1 h2 => gcd_n (k := 5) (h1.weak (by omega)) (h2.weak (by omega)) (by omega)) (fun _ _ h => h)),
      isAlloc rfl,
      isStore rfl, trivial⟩) ?_
  clear hS kf ac
  try clear w
  intro kf ac w hS
  refine region_seq (s := soft) (kf0 := kf) (by kernel_rfl) hS (Rg.look [(50, (isQ (numQ a0 b0 m0) 5)),
      (51, (isW ((numQ a0 b0 m0).num) 5)),
      (52, (isT (ztext ((numQ a0 b0 m0).num)))),
      (13, (isT (ztext ((numQ a0 b0 m0).num))))])
    ⟨[], []⟩ [⟨3, 24, (isM a0 b0 m0)⟩, ⟨7, 30, (isQ (numQ a0 b0 m0) 5)⟩, ⟨8, 35, (isR (numQ a0 b0 m0) 32)⟩, ⟨9, 28, (isW (signed (Mx.val (l.take 3)) m) 4)⟩, ⟨10, 30, (isQ (((((numQ a0 b0 m0).num) * (signed (Mx.val (l.take 3)) m) : Int) : Rat) / (((signed ((numQ a0 b0 m0).den) false) * (signed (Mx.val (l.take 3)) m) : Int) : Rat)) (max (5 + 4) (5 + 4) + 1))⟩, ⟨12, 26, (isN (Nat.gcd (Int.natAbs ((numQ a0 b0 m0).num)) ((numQ a0 b0 m0).den)) 5)⟩] [(6, (isE (.bool false))), (0, (isM a0 b0 m0)), (1, (isS l)), (2, (isE (.bool m))), (29, (isE (.bool false))), (11, (isE (.int .i64 0))), (13, (isT (ztext ((numQ a0 b0 m0).num))))] (by kernel_rfl) (by kernel_rfl) (look_stb _ ⟨(stb_Q _ _), (stb_W _ _), (stb_eq _), (stb_eq _), trivial⟩) ⟨(stb_M _ _ _), (stb_Q _ _), (stb_R _ _), (stb_W _ _), (stb_Q _ _), (stb_N _ _), trivial⟩ ⟨(stb_eq _), (stb_M _ _ _), (stb_S _), (stb_eq _), (stb_eq _), (stb_eq _), trivial⟩ trivial trivial
    ⟨.inr (.inl ⟨rfl, _, (List.Mem.head _), rfl, rfl, (fun _ _ h => h)⟩), .inr (.inl ⟨rfl, _, (List.Mem.tail _ (List.Mem.head _)), rfl, rfl, (fun _ _ h => h)⟩), .inr (.inl ⟨rfl, _, (List.Mem.tail _ (List.Mem.tail _ (List.Mem.head _))), rfl, rfl, (fun _ _ h => h)⟩), .inr (.inl ⟨rfl, _, (List.Mem.tail _ (List.Mem.tail _ (List.Mem.tail _ (List.Mem.head _)))), rfl, rfl, (fun _ _ h => h)⟩), .inr (.inl ⟨rfl, _, (List.Mem.tail _ (List.Mem.tail _ (List.Mem.tail _ (List.Mem.tail _ (List.Mem.head _))))), rfl, rfl, (fun _ _ h => h)⟩), .inr (.inl ⟨rfl, _, (List.Mem.tail _ (List.Mem.tail _ (List.Mem.tail _ (List.Mem.tail _ (List.Mem.tail _ (List.Mem.head _)))))), rfl, rfl, (fun _ _ h => h)⟩), trivial⟩
    ⟨.inr ⟨(by kernel_rfl), _, (List.Mem.head _), rfl, (fun _ _ h => h)⟩, .inr ⟨(by kernel_rfl), _, (List.Mem.tail _ (List.Mem.head _)), rfl, (fun _ _ h => h)⟩, .inr ⟨(by kernel_rfl), _, (List.Mem.tail _ (List.Mem.tail _ (List.Mem.head _))), rfl, (fun _ _ h => h)⟩, .inr ⟨(by kernel_rfl), _, (List.Mem.tail _ (List.Mem.tail _ (List.Mem.tail _ (List.Mem.head _)))), rfl, (fun _ _ h => h)⟩, .inr ⟨(by kernel_rfl), _, (List.Mem.tail _ (List.Mem.tail _ (List.Mem.tail _ (List.Mem.tail _ (List.Mem.head _))))), rfl, (fun _ _ h => h)⟩, .inr ⟨(by kernel_rfl), _, (List.Mem.tail _ (List.Mem.tail _ (List.Mem.tail _ (List.Mem.tail _ (List.Mem.tail _ (List.Mem.head _)))))), rfl, (fun _ _ h => h)⟩, .inl ⟨(by kernel_rfl), rfl, (fun _ _ h => h)⟩, trivial⟩
    (steps (m := 4) (by kernel_rfl) ⟨stepN (i := 0) (dst := some 50) (op := (.load 30 (.tmp 7))) (by kernel_rfl) (loadV (List.Mem.tail _ (List.Mem.head _)) (by kernel_rfl) (fun _ _ h => h)),
      stepN (i := 1) (dst := some 51) (op := (.call { callee := .value (.func 31), args := #[(.tmp 50)], argTypes := #[30] })) (by kernel_rfl) (call1 (enters_of Tryz.func31 (by kernel_rfl) rfl) (argT (p := (isQ (numQ a0 b0 m0) 5)) (by kernel_rfl) (fun _ _ h => h)) (fun w u1 h1 => num_q h1) (fun _ _ h => h)),
      stepN (i := 2) (dst := some 52) (op := (.call { callee := .value (.func 23), args := #[(.tmp 51)], argTypes := #[28] })) (by kernel_rfl) (call1 (enters_of Tryz.func23 (by kernel_rfl) rfl) (argT (p := (isW ((numQ a0 b0 m0).num) 5)) (by kernel_rfl) (fun _ _ h => h)) (fun w u1 h1 => print_w h1 (by omega)) (fun _ _ h => h)),
      stepN (i := 3) (dst := some 13) (op := (.assign (.tmp 52))) (by kernel_rfl) (assign (argT (p := (isT (ztext ((numQ a0 b0 m0).num)))) (by kernel_rfl) (fun _ _ h => h)) (fun _ _ h => h)), trivial⟩) ?_
  clear hS kf ac
  try clear w
  intro kf ac w hS
  refine wp_seq ?_
  refine region_seq (s := soft) (kf0 := kf) (by kernel_rfl) hS (Rg.look [(53, (isQ (numQ a0 b0 m0) 5)),
      (54, (isN ((numQ a0 b0 m0).den) 5)),
      (55, (isS ([1]))),
      (56, (isN 1 1)),
      (57, (isE (.int .i64 (Mx.cmp ((numQ a0 b0 m0).den) 1)))),
      (58, (isE (.bool false)))])
    ⟨[], []⟩ [⟨3, 24, (isM a0 b0 m0)⟩, ⟨7, 30, (isQ (numQ a0 b0 m0) 5)⟩, ⟨8, 35, (isR (numQ a0 b0 m0) 32)⟩, ⟨9, 28, (isW (signed (Mx.val (l.take 3)) m) 4)⟩, ⟨10, 30, (isQ (((((numQ a0 b0 m0).num) * (signed (Mx.val (l.take 3)) m) : Int) : Rat) / (((signed ((numQ a0 b0 m0).den) false) * (signed (Mx.val (l.take 3)) m) : Int) : Rat)) (max (5 + 4) (5 + 4) + 1))⟩, ⟨12, 26, (isN (Nat.gcd (Int.natAbs ((numQ a0 b0 m0).num)) ((numQ a0 b0 m0).den)) 5)⟩] [(6, (isE (.bool false))), (0, (isM a0 b0 m0)), (1, (isS l)), (2, (isE (.bool m))), (29, (isE (.bool false))), (11, (isE (.int .i64 0))), (13, (isT (ztext ((numQ a0 b0 m0).num)))), (58, (isE (.bool false)))] (by kernel_rfl) (by kernel_rfl) (look_stb _ ⟨(stb_Q _ _), (stb_N _ _), (stb_S _), (stb_N _ _), (stb_eq _), (stb_eq _), trivial⟩) ⟨(stb_M _ _ _), (stb_Q _ _), (stb_R _ _), (stb_W _ _), (stb_Q _ _), (stb_N _ _), trivial⟩ ⟨(stb_eq _), (stb_M _ _ _), (stb_S _), (stb_eq _), (stb_eq _), (stb_eq _), (stb_eq _), trivial⟩ trivial trivial
    ⟨.inr (.inl ⟨rfl, _, (List.Mem.head _), rfl, rfl, (fun _ _ h => h)⟩), .inr (.inl ⟨rfl, _, (List.Mem.tail _ (List.Mem.head _)), rfl, rfl, (fun _ _ h => h)⟩), .inr (.inl ⟨rfl, _, (List.Mem.tail _ (List.Mem.tail _ (List.Mem.head _))), rfl, rfl, (fun _ _ h => h)⟩), .inr (.inl ⟨rfl, _, (List.Mem.tail _ (List.Mem.tail _ (List.Mem.tail _ (List.Mem.head _)))), rfl, rfl, (fun _ _ h => h)⟩), .inr (.inl ⟨rfl, _, (List.Mem.tail _ (List.Mem.tail _ (List.Mem.tail _ (List.Mem.tail _ (List.Mem.head _))))), rfl, rfl, (fun _ _ h => h)⟩), .inr (.inl ⟨rfl, _, (List.Mem.tail _ (List.Mem.tail _ (List.Mem.tail _ (List.Mem.tail _ (List.Mem.tail _ (List.Mem.head _)))))), rfl, rfl, (fun _ _ h => h)⟩), trivial⟩
    ⟨.inr ⟨(by kernel_rfl), _, (List.Mem.head _), rfl, (fun _ _ h => h)⟩, .inr ⟨(by kernel_rfl), _, (List.Mem.tail _ (List.Mem.head _)), rfl, (fun _ _ h => h)⟩, .inr ⟨(by kernel_rfl), _, (List.Mem.tail _ (List.Mem.tail _ (List.Mem.head _))), rfl, (fun _ _ h => h)⟩, .inr ⟨(by kernel_rfl), _, (List.Mem.tail _ (List.Mem.tail _ (List.Mem.tail _ (List.Mem.head _)))), rfl, (fun _ _ h => h)⟩, .inr ⟨(by kernel_rfl), _, (List.Mem.tail _ (List.Mem.tail _ (List.Mem.tail _ (List.Mem.tail _ (List.Mem.head _))))), rfl, (fun _ _ h => h)⟩, .inr ⟨(by kernel_rfl), _, (List.Mem.tail _ (List.Mem.tail _ (List.Mem.tail _ (List.Mem.tail _ (List.Mem.tail _ (List.Mem.head _)))))), rfl, (fun _ _ h => h)⟩, .inr ⟨(by kernel_rfl), _, (List.Mem.tail _ (List.Mem.tail _ (List.Mem.tail _ (List.Mem.tail _ (List.Mem.tail _ (List.Mem.tail _ (List.Mem.head _))))))), rfl, (fun _ _ h => h)⟩, .inl ⟨(by kernel_rfl), rfl, (fun _ _ h => h)⟩, trivial⟩
    (steps (m := 6) (by kernel_rfl) ⟨stepN (i := 0) (dst := some 53) (op := (.load 30 (.tmp 7))) (by kernel_rfl) (loadV (List.Mem.tail _ (List.Mem.head _)) (by kernel_rfl) (fun _ _ h => h)),
      stepN (i := 1) (dst := some 54) (op := (.call { callee := .value (.func 33), args := #[(.tmp 53)], argTypes := #[30] })) (by kernel_rfl) (call1 (enters_of Tryz.func33 (by kernel_rfl) rfl) (argT (p := (isQ (numQ a0 b0 m0) 5)) (by kernel_rfl) (fun _ _ h => h)) (fun w u1 h1 => den_q h1) (fun _ _ h => h)),
      stepN (i := 2) (dst := some 55) (op := (.buildSlice 22 1 #[(0, (.const (.int .u64 1)))])) (by kernel_rfl) (buildOneZ (x := 1) (small_lt (by decide)) (fun _ _ h => h)),
      stepN (i := 3) (dst := some 56) (op := (.call { callee := .value (.func 27), args := #[(.tmp 55)], argTypes := #[22] })) (by kernel_rfl) (call1 (enters_of Tryz.func27 (by kernel_rfl) rfl) (argT (p := (isS ([1]))) (by kernel_rfl) (fun _ _ h => h)) (fun w u1 h1 => of_one h1) (fun _ _ h => h)),
      stepN (i := 4) (dst := some 57) (op := (.call { callee := .value (.func 36), args := #[(.tmp 54), (.tmp 56)], argTypes := #[26, 26] })) (by kernel_rfl) (call2 (enters_of Tryz.func36 (by kernel_rfl) rfl) (argT (p := (isN ((numQ a0 b0 m0).den) 5)) (by kernel_rfl) (fun _ _ h => h)) (argT (p := (isN 1 1)) (by kernel_rfl) (fun _ _ h => h)) (fun w u1 u2 h1 h2 => cmp_n h1 h2 (by omega)) (fun _ _ h => h)),
      stepN (i := 5) (dst := some 58) (op := (.binOp .neq 3 (.tmp 57) (.const (.int .i64 0)) 3)) (by kernel_rfl) (neq (m := (Mx.cmp ((numQ a0 b0 m0).den) 1)) (n := 0) (argT (p := (isE (.int .i64 (Mx.cmp ((numQ a0 b0 m0).den) 1)))) (by kernel_rfl) (fun _ _ h => h)) (argC (.int .i64 0)) (fun w v h => h.trans (congrArg Value.bool (by rw [Mx.cmp_eq hd]; rfl)))), trivial⟩) ?_
  clear hS kf ac
  try clear w
  intro kf ac w hS
  refine cond_false (q := (isE (.bool false))) hS (List.Mem.tail _ (List.Mem.tail _ (List.Mem.tail _ (List.Mem.tail _ (List.Mem.tail _ (List.Mem.tail _ (List.Mem.tail _ (List.Mem.head _)))))))) (fun _ _ h => h) ?_
  refine skip_then ?_
  refine region_seq (s := soft) (kf0 := kf) (by kernel_rfl) hS (Rg.look [(65, (isE (.bool true))),
      (66, (isE (.bool true))),
      (67, (isE (.int .i64 0))),
      (68, (isE (.bool true))),
      (69, (isE (.bool true))),
      (70, (isE (.bool true))),
      (71, (isQ (((((numQ a0 b0 m0).num) * (signed (Mx.val (l.take 3)) m) : Int) : Rat) / (((signed ((numQ a0 b0 m0).den) false) * (signed (Mx.val (l.take 3)) m) : Int) : Rat)) (max (5 + 4) (5 + 4) + 1))),
      (72, (isQ (numQ a0 b0 m0) 5)),
      (73, (isE (.int .i64 (cmpQ (((((numQ a0 b0 m0).num) * (signed (Mx.val (l.take 3)) m) : Int) : Rat) / (((signed ((numQ a0 b0 m0).den) false) * (signed (Mx.val (l.take 3)) m) : Int) : Rat)) (numQ a0 b0 m0))))),
      (74, (isE (.bool true))),
      (75, (isE (.bool true))),
      (76, (isE (.bool true))),
      (77, (isQ (((((numQ a0 b0 m0).num) * (signed (Mx.val (l.take 3)) m) : Int) : Rat) / (((signed ((numQ a0 b0 m0).den) false) * (signed (Mx.val (l.take 3)) m) : Int) : Rat)) (max (5 + 4) (5 + 4) + 1))),
      (78, (isT (qtext (((((numQ a0 b0 m0).num) * (signed (Mx.val (l.take 3)) m) : Int) : Rat) / (((signed ((numQ a0 b0 m0).den) false) * (signed (Mx.val (l.take 3)) m) : Int) : Rat))))),
      (79, (isQ (numQ a0 b0 m0) 5)),
      (80, (isT (qtext (numQ a0 b0 m0)))),
      (81, (isE (.bool true))),
      (82, (isE (.bool true))),
      (83, (isE (.bool true))),
      (84, (isN (Nat.gcd (Int.natAbs ((numQ a0 b0 m0).num)) ((numQ a0 b0 m0).den)) 5)),
      (85, (isS ([1]))),
      (86, (isN 1 1)),
      (87, (isE (.int .i64 (Mx.cmp (Nat.gcd (Int.natAbs ((numQ a0 b0 m0).num)) ((numQ a0 b0 m0).den)) 1)))),
      (88, (isE (.bool true))),
      (89, (isE (.bool true))),
      (90, (isE (.bool true))),
      (91, (isQ (numQ a0 b0 m0) 5)),
      (92, (isT (qtext (numQ a0 b0 m0)))),
      (93, (isT (ztext ((numQ a0 b0 m0).num)))),
      (94, (isE (.bool true))),
      (95, (isE (.bool true))),
      (96, (isE (.bool true))),
      (97, (isQ (numQ a0 b0 m0) 5)),
      (98, (isT (qtext (numQ a0 b0 m0)))),
      (99, (isR (numQ a0 b0 m0) 32)),
      (100, (isT (qtext (numQ a0 b0 m0)))),
      (101, (isE (.bool true))),
      (102, (isE (.bool true))),
      (103, (isE (.bool true))),
      (104, (isW (signed (Mx.val (l.take 3)) m) 4)),
      (105, (isQ ((signed (Mx.val (l.take 3)) m : Int) : Rat) (max 4 1))),
      (106, (isT (qtext ((signed (Mx.val (l.take 3)) m : Int) : Rat)))),
      (107, (isW (signed (Mx.val (l.take 3)) m) 4)),
      (108, (isT (ztext (signed (Mx.val (l.take 3)) m)))),
      (109, (isE (.bool true))),
      (110, (isE (.bool true))),
      (111, (isE (.bool true))),
      (112, (isQ (numQ a0 b0 m0) 5)),
      (113, (isE (.int .i64 (Int.sign ((numQ a0 b0 m0).num))))),
      (114, (isQ (numQ a0 b0 m0) 5)),
      (115, (isW ((numQ a0 b0 m0).num) 5)),
      (116, (isE (.int .i64 (Int.sign ((numQ a0 b0 m0).num))))),
      (117, (isE (.bool true))),
      (118, (isE (.bool true))),
      (6, (isE (.bool true)))])
    ⟨[], []⟩ [⟨3, 24, (isM a0 b0 m0)⟩, ⟨7, 30, (isQ (numQ a0 b0 m0) 5)⟩, ⟨8, 35, (isR (numQ a0 b0 m0) 32)⟩, ⟨9, 28, (isW (signed (Mx.val (l.take 3)) m) 4)⟩, ⟨10, 30, (isQ (((((numQ a0 b0 m0).num) * (signed (Mx.val (l.take 3)) m) : Int) : Rat) / (((signed ((numQ a0 b0 m0).den) false) * (signed (Mx.val (l.take 3)) m) : Int) : Rat)) (max (5 + 4) (5 + 4) + 1))⟩, ⟨12, 26, (isN (Nat.gcd (Int.natAbs ((numQ a0 b0 m0).num)) ((numQ a0 b0 m0).den)) 5)⟩] [(0, (isM a0 b0 m0)), (1, (isS l)), (2, (isE (.bool m))), (29, (isE (.bool false))), (11, (isE (.int .i64 0))), (13, (isT (ztext ((numQ a0 b0 m0).num)))), (58, (isE (.bool false))), (6, (isE (.bool true)))] (by kernel_rfl) (by kernel_rfl) (look_stb _ ⟨(stb_eq _), (stb_eq _), (stb_eq _), (stb_eq _), (stb_eq _), (stb_eq _), (stb_Q _ _), (stb_Q _ _), (stb_eq _), (stb_eq _), (stb_eq _), (stb_eq _), (stb_Q _ _), (stb_eq _), (stb_Q _ _), (stb_eq _), (stb_eq _), (stb_eq _), (stb_eq _), (stb_N _ _), (stb_S _), (stb_N _ _), (stb_eq _), (stb_eq _), (stb_eq _), (stb_eq _), (stb_Q _ _), (stb_eq _), (stb_eq _), (stb_eq _), (stb_eq _), (stb_eq _), (stb_Q _ _), (stb_eq _), (stb_R _ _), (stb_eq _), (stb_eq _), (stb_eq _), (stb_eq _), (stb_W _ _), (stb_Q _ _), (stb_eq _), (stb_W _ _), (stb_eq _), (stb_eq _), (stb_eq _), (stb_eq _), (stb_Q _ _), (stb_eq _), (stb_Q _ _), (stb_W _ _), (stb_eq _), (stb_eq _), (stb_eq _), (stb_eq _), trivial⟩) ⟨(stb_M _ _ _), (stb_Q _ _), (stb_R _ _), (stb_W _ _), (stb_Q _ _), (stb_N _ _), trivial⟩ ⟨(stb_eq _), (stb_M _ _ _), (stb_S _), (stb_eq _), (stb_eq _), (stb_eq _), (stb_eq _), (stb_eq _), trivial⟩ trivial trivial
    ⟨.inr (.inl ⟨rfl, _, (List.Mem.head _), rfl, rfl, (fun _ _ h => h)⟩), .inr (.inl ⟨rfl, _, (List.Mem.tail _ (List.Mem.head _)), rfl, rfl, (fun _ _ h => h)⟩), .inr (.inl ⟨rfl, _, (List.Mem.tail _ (List.Mem.tail _ (List.Mem.head _))), rfl, rfl, (fun _ _ h => h)⟩), .inr (.inl ⟨rfl, _, (List.Mem.tail _ (List.Mem.tail _ (List.Mem.tail _ (List.Mem.head _)))), rfl, rfl, (fun _ _ h => h)⟩), .inr (.inl ⟨rfl, _, (List.Mem.tail _ (List.Mem.tail _ (List.Mem.tail _ (List.Mem.tail _ (List.Mem.head _))))), rfl, rfl, (fun _ _ h => h)⟩), .inr (.inl ⟨rfl, _, (List.Mem.tail _ (List.Mem.tail _ (List.Mem.tail _ (List.Mem.tail _ (List.Mem.tail _ (List.Mem.head _)))))), rfl, rfl, (fun _ _ h => h)⟩), trivial⟩
    ⟨.inr ⟨(by kernel_rfl), _, (List.Mem.tail _ (List.Mem.head _)), rfl, (fun _ _ h => h)⟩, .inr ⟨(by kernel_rfl), _, (List.Mem.tail _ (List.Mem.tail _ (List.Mem.head _))), rfl, (fun _ _ h => h)⟩, .inr ⟨(by kernel_rfl), _, (List.Mem.tail _ (List.Mem.tail _ (List.Mem.tail _ (List.Mem.head _)))), rfl, (fun _ _ h => h)⟩, .inr ⟨(by kernel_rfl), _, (List.Mem.tail _ (List.Mem.tail _ (List.Mem.tail _ (List.Mem.tail _ (List.Mem.head _))))), rfl, (fun _ _ h => h)⟩, .inr ⟨(by kernel_rfl), _, (List.Mem.tail _ (List.Mem.tail _ (List.Mem.tail _ (List.Mem.tail _ (List.Mem.tail _ (List.Mem.head _)))))), rfl, (fun _ _ h => h)⟩, .inr ⟨(by kernel_rfl), _, (List.Mem.tail _ (List.Mem.tail _ (List.Mem.tail _ (List.Mem.tail _ (List.Mem.tail _ (List.Mem.tail _ (List.Mem.head _))))))), rfl, (fun _ _ h => h)⟩, .inr ⟨(by kernel_rfl), _, (List.Mem.tail _ (List.Mem.tail _ (List.Mem.tail _ (List.Mem.tail _ (List.Mem.tail _ (List.Mem.tail _ (List.Mem.tail _ (List.Mem.head _)))))))), rfl, (fun _ _ h => h)⟩, .inl ⟨(by kernel_rfl), rfl, (fun _ _ h => h)⟩, trivial⟩
    (steps (m := 55) (by kernel_rfl) ⟨stepN (i := 0) (dst := some 65) (op := (.call { callee := .value (.func 11), args := #[], argTypes := #[] })) (by kernel_rfl) (call0 (enters_of Tryz.func11 (by kernel_rfl) rfl) (fun w => wakes5 w) (fun _ _ h => h)),
      stepN (i := 1) (dst := some 66) (op := (.move (.tmp 65))) (by kernel_rfl) (move (argT (p := (isE (.bool true))) (by kernel_rfl) (fun _ _ h => h)) (fun _ _ h => h)),
      stepG (i := 2) (j := 1) (dj := 66) (b := true) (dst := some 67) (op := (.move (.tmp 11))) (by kernel_rfl) (by kernel_rfl) (by kernel_rfl) (fun _ _ h => h) (move (argO (p := (isE (.int .i64 0))) (List.Mem.tail _ (List.Mem.tail _ (List.Mem.tail _ (List.Mem.tail _ (List.Mem.tail _ (List.Mem.head _)))))) (by kernel_rfl)) (fun _ _ h => h)),
      stepG (i := 3) (j := 1) (dj := 66) (b := true) (dst := some 68) (op := (.binOp .eql 38 (.tmp 67) (.const (.int .i64 0)) 38)) (by kernel_rfl) (by kernel_rfl) (by kernel_rfl) (fun _ _ h => h) (eql (m := 0) (n := 0) (argT (p := (isE (.int .i64 0))) (by kernel_rfl) (fun _ _ h => h)) (argC (.int .i64 0)) (fun w v h => h.trans (congrArg Value.bool (rfl)))),
      stepN (i := 4) (dst := some 69) (op := (.pick (.tmp 66) (.tmp 68) (.const (.bool false)))) (by kernel_rfl) (pickT (argT (p := (isE (.bool true))) (by kernel_rfl) (fun _ _ h => h)) (argT (p := (isE (.bool true))) (by kernel_rfl) (fun _ _ h => h)) (fun _ _ h => h)),
      stepN (i := 5) (dst := some 70) (op := (.move (.tmp 69))) (by kernel_rfl) (move (argT (p := (isE (.bool true))) (by kernel_rfl) (fun _ _ h => h)) (fun _ _ h => h)),
      stepG (i := 6) (j := 5) (dj := 70) (b := true) (dst := some 71) (op := (.load 30 (.tmp 10))) (by kernel_rfl) (by kernel_rfl) (by kernel_rfl) (fun _ _ h => h) (loadV (List.Mem.tail _ (List.Mem.tail _ (List.Mem.tail _ (List.Mem.tail _ (List.Mem.head _))))) (by kernel_rfl) (fun _ _ h => h)),
      stepG (i := 7) (j := 5) (dj := 70) (b := true) (dst := some 72) (op := (.load 30 (.tmp 7))) (by kernel_rfl) (by kernel_rfl) (by kernel_rfl) (fun _ _ h => h) (loadV (List.Mem.tail _ (List.Mem.head _)) (by kernel_rfl) (fun _ _ h => h)),
      stepG (i := 8) (j := 5) (dj := 70) (b := true) (dst := some 73) (op := (.call { callee := .value (.func 18), args := #[(.tmp 71), (.tmp 72)], argTypes := #[30, 30] })) (by kernel_rfl) (by kernel_rfl) (by kernel_rfl) (fun _ _ h => h) (call2 (enters_of Tryz.func18 (by kernel_rfl) rfl) (argT (p := (isQ (((((numQ a0 b0 m0).num) * (signed (Mx.val (l.take 3)) m) : Int) : Rat) / (((signed ((numQ a0 b0 m0).den) false) * (signed (Mx.val (l.take 3)) m) : Int) : Rat)) (max (5 + 4) (5 + 4) + 1))) (by kernel_rfl) (fun _ _ h => h)) (argT (p := (isQ (numQ a0 b0 m0) 5)) (by kernel_rfl) (fun _ _ h => h)) (fun w u1 u2 h1 h2 => cmp_q h1 h2 (by omega) (by omega)) (fun _ _ h => h)),
      stepG (i := 9) (j := 5) (dj := 70) (b := true) (dst := some 74) (op := (.binOp .eql 3 (.tmp 73) (.const (.int .i64 0)) 3)) (by kernel_rfl) (by kernel_rfl) (by kernel_rfl) (fun _ _ h => h) (eql (m := (cmpQ (((((numQ a0 b0 m0).num) * (signed (Mx.val (l.take 3)) m) : Int) : Rat) / (((signed ((numQ a0 b0 m0).den) false) * (signed (Mx.val (l.take 3)) m) : Int) : Rat)) (numQ a0 b0 m0))) (n := 0) (argT (p := (isE (.int .i64 (cmpQ (((((numQ a0 b0 m0).num) * (signed (Mx.val (l.take 3)) m) : Int) : Rat) / (((signed ((numQ a0 b0 m0).den) false) * (signed (Mx.val (l.take 3)) m) : Int) : Rat)) (numQ a0 b0 m0))))) (by kernel_rfl) (fun _ _ h => h)) (argC (.int .i64 0)) (fun w v h => h.trans (congrArg Value.bool (cmp_id (times_both _ hk))))),
      stepN (i := 10) (dst := some 75) (op := (.pick (.tmp 70) (.tmp 74) (.const (.bool false)))) (by kernel_rfl) (pickT (argT (p := (isE (.bool true))) (by kernel_rfl) (fun _ _ h => h)) (argT (p := (isE (.bool true))) (by kernel_rfl) (fun _ _ h => h)) (fun _ _ h => h)),
      stepN (i := 11) (dst := some 76) (op := (.move (.tmp 75))) (by kernel_rfl) (move (argT (p := (isE (.bool true))) (by kernel_rfl) (fun _ _ h => h)) (fun _ _ h => h)),
      stepG (i := 12) (j := 11) (dj := 76) (b := true) (dst := some 77) (op := (.load 30 (.tmp 10))) (by kernel_rfl) (by kernel_rfl) (by kernel_rfl) (fun _ _ h => h) (loadV (List.Mem.tail _ (List.Mem.tail _ (List.Mem.tail _ (List.Mem.tail _ (List.Mem.head _))))) (by kernel_rfl) (fun _ _ h => h)),
      stepG (i := 13) (j := 11) (dj := 76) (b := true) (dst := some 78) (op := (.call { callee := .value (.func 8), args := #[(.tmp 77)], argTypes := #[30] })) (by kernel_rfl) (by kernel_rfl) (by kernel_rfl) (fun _ _ h => h) (call1 (enters_of Tryz.func8 (by kernel_rfl) rfl) (argT (p := (isQ (((((numQ a0 b0 m0).num) * (signed (Mx.val (l.take 3)) m) : Int) : Rat) / (((signed ((numQ a0 b0 m0).den) false) * (signed (Mx.val (l.take 3)) m) : Int) : Rat)) (max (5 + 4) (5 + 4) + 1))) (by kernel_rfl) (fun _ _ h => h)) (fun w u1 h1 => print_q h1 (by omega)) (fun _ _ h => h)),
      stepG (i := 14) (j := 11) (dj := 76) (b := true) (dst := some 79) (op := (.load 30 (.tmp 7))) (by kernel_rfl) (by kernel_rfl) (by kernel_rfl) (fun _ _ h => h) (loadV (List.Mem.tail _ (List.Mem.head _)) (by kernel_rfl) (fun _ _ h => h)),
      stepG (i := 15) (j := 11) (dj := 76) (b := true) (dst := some 80) (op := (.call { callee := .value (.func 8), args := #[(.tmp 79)], argTypes := #[30] })) (by kernel_rfl) (by kernel_rfl) (by kernel_rfl) (fun _ _ h => h) (call1 (enters_of Tryz.func8 (by kernel_rfl) rfl) (argT (p := (isQ (numQ a0 b0 m0) 5)) (by kernel_rfl) (fun _ _ h => h)) (fun w u1 h1 => print_q h1 (by omega)) (fun _ _ h => h)),
      stepG (i := 16) (j := 11) (dj := 76) (b := true) (dst := some 81) (op := (.binOp .eql 9 (.tmp 78) (.tmp 80) 9)) (by kernel_rfl) (by kernel_rfl) (by kernel_rfl) (fun _ _ h => h) (eqlS (l := qtext (((((numQ a0 b0 m0).num) * (signed (Mx.val (l.take 3)) m) : Int) : Rat) / (((signed ((numQ a0 b0 m0).den) false) * (signed (Mx.val (l.take 3)) m) : Int) : Rat))) (r := qtext (numQ a0 b0 m0)) (argT (p := (isT (qtext (((((numQ a0 b0 m0).num) * (signed (Mx.val (l.take 3)) m) : Int) : Rat) / (((signed ((numQ a0 b0 m0).den) false) * (signed (Mx.val (l.take 3)) m) : Int) : Rat))))) (by kernel_rfl) (fun _ _ h => h)) (argT (p := (isT (qtext (numQ a0 b0 m0)))) (by kernel_rfl) (fun _ _ h => h)) (fun w v h => h.trans (congrArg Value.bool (qtext_eq (times_both _ hk))))),
      stepN (i := 17) (dst := some 82) (op := (.pick (.tmp 76) (.tmp 81) (.const (.bool false)))) (by kernel_rfl) (pickT (argT (p := (isE (.bool true))) (by kernel_rfl) (fun _ _ h => h)) (argT (p := (isE (.bool true))) (by kernel_rfl) (fun _ _ h => h)) (fun _ _ h => h)),
      stepN (i := 18) (dst := some 83) (op := (.move (.tmp 82))) (by kernel_rfl) (move (argT (p := (isE (.bool true))) (by kernel_rfl) (fun _ _ h => h)) (fun _ _ h => h)),
      stepG (i := 19) (j := 18) (dj := 83) (b := true) (dst := some 84) (op := (.load 26 (.tmp 12))) (by kernel_rfl) (by kernel_rfl) (by kernel_rfl) (fun _ _ h => h) (loadV (List.Mem.tail _ (List.Mem.tail _ (List.Mem.tail _ (List.Mem.tail _ (List.Mem.tail _ (List.Mem.head _)))))) (by kernel_rfl) (fun _ _ h => h)),
      stepG (i := 20) (j := 18) (dj := 83) (b := true) (dst := some 85) (op := (.buildSlice 22 1 #[(0, (.const (.int .u64 1)))])) (by kernel_rfl) (by kernel_rfl) (by kernel_rfl) (fun _ _ h => h) (buildOneZ (x := 1) (small_lt (by decide)) (fun _ _ h => h)),
      stepG (i := 21) (j := 18) (dj := 83) (b := true) (dst := some 86) (op := (.call { callee := .value (.func 27), args := #[(.tmp 85)], argTypes := #[22] })) (by kernel_rfl) (by kernel_rfl) (by kernel_rfl) (fun _ _ h => h) (call1 (enters_of Tryz.func27 (by kernel_rfl) rfl) (argT (p := (isS ([1]))) (by kernel_rfl) (fun _ _ h => h)) (fun w u1 h1 => of_one h1) (fun _ _ h => h)),
      stepG (i := 22) (j := 18) (dj := 83) (b := true) (dst := some 87) (op := (.call { callee := .value (.func 36), args := #[(.tmp 84), (.tmp 86)], argTypes := #[26, 26] })) (by kernel_rfl) (by kernel_rfl) (by kernel_rfl) (fun _ _ h => h) (call2 (enters_of Tryz.func36 (by kernel_rfl) rfl) (argT (p := (isN (Nat.gcd (Int.natAbs ((numQ a0 b0 m0).num)) ((numQ a0 b0 m0).den)) 5)) (by kernel_rfl) (fun _ _ h => h)) (argT (p := (isN 1 1)) (by kernel_rfl) (fun _ _ h => h)) (fun w u1 u2 h1 h2 => cmp_n h1 h2 (by omega)) (fun _ _ h => h)),
      stepG (i := 23) (j := 18) (dj := 83) (b := true) (dst := some 88) (op := (.binOp .eql 3 (.tmp 87) (.const (.int .i64 0)) 3)) (by kernel_rfl) (by kernel_rfl) (by kernel_rfl) (fun _ _ h => h) (eql (m := (Mx.cmp (Nat.gcd (Int.natAbs ((numQ a0 b0 m0).num)) ((numQ a0 b0 m0).den)) 1)) (n := 0) (argT (p := (isE (.int .i64 (Mx.cmp (Nat.gcd (Int.natAbs ((numQ a0 b0 m0).num)) ((numQ a0 b0 m0).den)) 1)))) (by kernel_rfl) (fun _ _ h => h)) (argC (.int .i64 0)) (fun w v h => h.trans (congrArg Value.bool (low_gcd _)))),
      stepN (i := 24) (dst := some 89) (op := (.pick (.tmp 83) (.tmp 88) (.const (.bool false)))) (by kernel_rfl) (pickT (argT (p := (isE (.bool true))) (by kernel_rfl) (fun _ _ h => h)) (argT (p := (isE (.bool true))) (by kernel_rfl) (fun _ _ h => h)) (fun _ _ h => h)),
      stepN (i := 25) (dst := some 90) (op := (.move (.tmp 89))) (by kernel_rfl) (move (argT (p := (isE (.bool true))) (by kernel_rfl) (fun _ _ h => h)) (fun _ _ h => h)),
      stepG (i := 26) (j := 25) (dj := 90) (b := true) (dst := some 91) (op := (.load 30 (.tmp 7))) (by kernel_rfl) (by kernel_rfl) (by kernel_rfl) (fun _ _ h => h) (loadV (List.Mem.tail _ (List.Mem.head _)) (by kernel_rfl) (fun _ _ h => h)),
      stepG (i := 27) (j := 25) (dj := 90) (b := true) (dst := some 92) (op := (.call { callee := .value (.func 8), args := #[(.tmp 91)], argTypes := #[30] })) (by kernel_rfl) (by kernel_rfl) (by kernel_rfl) (fun _ _ h => h) (call1 (enters_of Tryz.func8 (by kernel_rfl) rfl) (argT (p := (isQ (numQ a0 b0 m0) 5)) (by kernel_rfl) (fun _ _ h => h)) (fun w u1 h1 => print_q h1 (by omega)) (fun _ _ h => h)),
      stepG (i := 28) (j := 25) (dj := 90) (b := true) (dst := some 93) (op := (.move (.tmp 13))) (by kernel_rfl) (by kernel_rfl) (by kernel_rfl) (fun _ _ h => h) (move (argO (p := (isT (ztext ((numQ a0 b0 m0).num)))) (List.Mem.tail _ (List.Mem.tail _ (List.Mem.tail _ (List.Mem.tail _ (List.Mem.tail _ (List.Mem.tail _ (List.Mem.head _))))))) (by kernel_rfl)) (fun _ _ h => h)),
      stepG (i := 29) (j := 25) (dj := 90) (b := true) (dst := some 94) (op := (.binOp .eql 9 (.tmp 92) (.tmp 93) 9)) (by kernel_rfl) (by kernel_rfl) (by kernel_rfl) (fun _ _ h => h) (eqlS (l := qtext (numQ a0 b0 m0)) (r := ztext ((numQ a0 b0 m0).num)) (argT (p := (isT (qtext (numQ a0 b0 m0)))) (by kernel_rfl) (fun _ _ h => h)) (argT (p := (isT (ztext ((numQ a0 b0 m0).num)))) (by kernel_rfl) (fun _ _ h => h)) (fun w v h => h.trans (congrArg Value.bool (by rw [qtext, if_pos hd]; simp)))),
      stepN (i := 30) (dst := some 95) (op := (.pick (.tmp 90) (.tmp 94) (.const (.bool false)))) (by kernel_rfl) (pickT (argT (p := (isE (.bool true))) (by kernel_rfl) (fun _ _ h => h)) (argT (p := (isE (.bool true))) (by kernel_rfl) (fun _ _ h => h)) (fun _ _ h => h)),
      stepN (i := 31) (dst := some 96) (op := (.move (.tmp 95))) (by kernel_rfl) (move (argT (p := (isE (.bool true))) (by kernel_rfl) (fun _ _ h => h)) (fun _ _ h => h)),
      stepG (i := 32) (j := 31) (dj := 96) (b := true) (dst := some 97) (op := (.load 30 (.tmp 7))) (by kernel_rfl) (by kernel_rfl) (by kernel_rfl) (fun _ _ h => h) (loadV (List.Mem.tail _ (List.Mem.head _)) (by kernel_rfl) (fun _ _ h => h)),
      stepG (i := 33) (j := 31) (dj := 96) (b := true) (dst := some 98) (op := (.call { callee := .value (.func 8), args := #[(.tmp 97)], argTypes := #[30] })) (by kernel_rfl) (by kernel_rfl) (by kernel_rfl) (fun _ _ h => h) (call1 (enters_of Tryz.func8 (by kernel_rfl) rfl) (argT (p := (isQ (numQ a0 b0 m0) 5)) (by kernel_rfl) (fun _ _ h => h)) (fun w u1 h1 => print_q h1 (by omega)) (fun _ _ h => h)),
      stepG (i := 34) (j := 31) (dj := 96) (b := true) (dst := some 99) (op := (.load 35 (.tmp 8))) (by kernel_rfl) (by kernel_rfl) (by kernel_rfl) (fun _ _ h => h) (loadV (List.Mem.tail _ (List.Mem.tail _ (List.Mem.head _))) (by kernel_rfl) (fun _ _ h => h)),
      stepG (i := 35) (j := 31) (dj := 96) (b := true) (dst := some 100) (op := (.call { callee := .value (.func 9), args := #[(.tmp 99)], argTypes := #[35] })) (by kernel_rfl) (by kernel_rfl) (by kernel_rfl) (fun _ _ h => h) (call1 (enters_of Tryz.func9 (by kernel_rfl) rfl) (argT (p := (isR (numQ a0 b0 m0) 32)) (by kernel_rfl) (fun _ _ h => h)) (fun w u1 h1 => print_r h1 (by omega)) (fun _ _ h => h)),
      stepG (i := 36) (j := 31) (dj := 96) (b := true) (dst := some 101) (op := (.binOp .eql 9 (.tmp 98) (.tmp 100) 9)) (by kernel_rfl) (by kernel_rfl) (by kernel_rfl) (fun _ _ h => h) (eqlS (l := qtext (numQ a0 b0 m0)) (r := qtext (numQ a0 b0 m0)) (argT (p := (isT (qtext (numQ a0 b0 m0)))) (by kernel_rfl) (fun _ _ h => h)) (argT (p := (isT (qtext (numQ a0 b0 m0)))) (by kernel_rfl) (fun _ _ h => h)) (fun w v h => h.trans (congrArg Value.bool (eq_self _)))),
      stepN (i := 37) (dst := some 102) (op := (.pick (.tmp 96) (.tmp 101) (.const (.bool false)))) (by kernel_rfl) (pickT (argT (p := (isE (.bool true))) (by kernel_rfl) (fun _ _ h => h)) (argT (p := (isE (.bool true))) (by kernel_rfl) (fun _ _ h => h)) (fun _ _ h => h)),
      stepN (i := 38) (dst := some 103) (op := (.move (.tmp 102))) (by kernel_rfl) (move (argT (p := (isE (.bool true))) (by kernel_rfl) (fun _ _ h => h)) (fun _ _ h => h)),
      stepG (i := 39) (j := 38) (dj := 103) (b := true) (dst := some 104) (op := (.load 28 (.tmp 9))) (by kernel_rfl) (by kernel_rfl) (by kernel_rfl) (fun _ _ h => h) (loadV (List.Mem.tail _ (List.Mem.tail _ (List.Mem.tail _ (List.Mem.head _)))) (by kernel_rfl) (fun _ _ h => h)),
      stepG (i := 40) (j := 38) (dj := 103) (b := true) (dst := some 105) (op := (.call { callee := .value (.func 38), args := #[(.tmp 104)], argTypes := #[28] })) (by kernel_rfl) (by kernel_rfl) (by kernel_rfl) (fun _ _ h => h) (call1 (enters_of Tryz.func38 (by kernel_rfl) rfl) (argT (p := (isW (signed (Mx.val (l.take 3)) m) 4)) (by kernel_rfl) (fun _ _ h => h)) (fun w u1 h1 => from_q h1) (fun _ _ h => h)),
      stepG (i := 41) (j := 38) (dj := 103) (b := true) (dst := some 106) (op := (.call { callee := .value (.func 8), args := #[(.tmp 105)], argTypes := #[30] })) (by kernel_rfl) (by kernel_rfl) (by kernel_rfl) (fun _ _ h => h) (call1 (enters_of Tryz.func8 (by kernel_rfl) rfl) (argT (p := (isQ ((signed (Mx.val (l.take 3)) m : Int) : Rat) (max 4 1))) (by kernel_rfl) (fun _ _ h => h)) (fun w u1 h1 => print_q h1 (by omega)) (fun _ _ h => h)),
      stepG (i := 42) (j := 38) (dj := 103) (b := true) (dst := some 107) (op := (.load 28 (.tmp 9))) (by kernel_rfl) (by kernel_rfl) (by kernel_rfl) (fun _ _ h => h) (loadV (List.Mem.tail _ (List.Mem.tail _ (List.Mem.tail _ (List.Mem.head _)))) (by kernel_rfl) (fun _ _ h => h)),
      stepG (i := 43) (j := 38) (dj := 103) (b := true) (dst := some 108) (op := (.call { callee := .value (.func 23), args := #[(.tmp 107)], argTypes := #[28] })) (by kernel_rfl) (by kernel_rfl) (by kernel_rfl) (fun _ _ h => h) (call1 (enters_of Tryz.func23 (by kernel_rfl) rfl) (argT (p := (isW (signed (Mx.val (l.take 3)) m) 4)) (by kernel_rfl) (fun _ _ h => h)) (fun w u1 h1 => print_w h1 (by omega)) (fun _ _ h => h)),
      stepG (i := 44) (j := 38) (dj := 103) (b := true) (dst := some 109) (op := (.binOp .eql 9 (.tmp 106) (.tmp 108) 9)) (by kernel_rfl) (by kernel_rfl) (by kernel_rfl) (fun _ _ h => h) (eqlS (l := qtext ((signed (Mx.val (l.take 3)) m : Int) : Rat)) (r := ztext (signed (Mx.val (l.take 3)) m)) (argT (p := (isT (qtext ((signed (Mx.val (l.take 3)) m : Int) : Rat)))) (by kernel_rfl) (fun _ _ h => h)) (argT (p := (isT (ztext (signed (Mx.val (l.take 3)) m)))) (by kernel_rfl) (fun _ _ h => h)) (fun w v h => h.trans (congrArg Value.bool (qtext_int _)))),
      stepN (i := 45) (dst := some 110) (op := (.pick (.tmp 103) (.tmp 109) (.const (.bool false)))) (by kernel_rfl) (pickT (argT (p := (isE (.bool true))) (by kernel_rfl) (fun _ _ h => h)) (argT (p := (isE (.bool true))) (by kernel_rfl) (fun _ _ h => h)) (fun _ _ h => h)),
      stepN (i := 46) (dst := some 111) (op := (.move (.tmp 110))) (by kernel_rfl) (move (argT (p := (isE (.bool true))) (by kernel_rfl) (fun _ _ h => h)) (fun _ _ h => h)),
      stepG (i := 47) (j := 46) (dj := 111) (b := true) (dst := some 112) (op := (.load 30 (.tmp 7))) (by kernel_rfl) (by kernel_rfl) (by kernel_rfl) (fun _ _ h => h) (loadV (List.Mem.tail _ (List.Mem.head _)) (by kernel_rfl) (fun _ _ h => h)),
      stepG (i := 48) (j := 46) (dj := 111) (b := true) (dst := some 113) (op := (.call { callee := .value (.func 7), args := #[(.tmp 112)], argTypes := #[30] })) (by kernel_rfl) (by kernel_rfl) (by kernel_rfl) (fun _ _ h => h) (call1 (enters_of Tryz.func7 (by kernel_rfl) rfl) (argT (p := (isQ (numQ a0 b0 m0) 5)) (by kernel_rfl) (fun _ _ h => h)) (fun w u1 h1 => sign_q h1) (fun _ _ h => h)),
      stepG (i := 49) (j := 46) (dj := 111) (b := true) (dst := some 114) (op := (.load 30 (.tmp 7))) (by kernel_rfl) (by kernel_rfl) (by kernel_rfl) (fun _ _ h => h) (loadV (List.Mem.tail _ (List.Mem.head _)) (by kernel_rfl) (fun _ _ h => h)),
      stepG (i := 50) (j := 46) (dj := 111) (b := true) (dst := some 115) (op := (.call { callee := .value (.func 31), args := #[(.tmp 114)], argTypes := #[30] })) (by kernel_rfl) (by kernel_rfl) (by kernel_rfl) (fun _ _ h => h) (call1 (enters_of Tryz.func31 (by kernel_rfl) rfl) (argT (p := (isQ (numQ a0 b0 m0) 5)) (by kernel_rfl) (fun _ _ h => h)) (fun w u1 h1 => num_q h1) (fun _ _ h => h)),
      stepG (i := 51) (j := 46) (dj := 111) (b := true) (dst := some 116) (op := (.call { callee := .value (.func 28), args := #[(.tmp 115)], argTypes := #[28] })) (by kernel_rfl) (by kernel_rfl) (by kernel_rfl) (fun _ _ h => h) (call1 (enters_of Tryz.func28 (by kernel_rfl) rfl) (argT (p := (isW ((numQ a0 b0 m0).num) 5)) (by kernel_rfl) (fun _ _ h => h)) (fun w u1 h1 => sign_w h1) (fun _ _ h => h)),
      stepG (i := 52) (j := 46) (dj := 111) (b := true) (dst := some 117) (op := (.binOp .eql 3 (.tmp 113) (.tmp 116) 3)) (by kernel_rfl) (by kernel_rfl) (by kernel_rfl) (fun _ _ h => h) (eql (m := (Int.sign ((numQ a0 b0 m0).num))) (n := (Int.sign ((numQ a0 b0 m0).num))) (argT (p := (isE (.int .i64 (Int.sign ((numQ a0 b0 m0).num))))) (by kernel_rfl) (fun _ _ h => h)) (argT (p := (isE (.int .i64 (Int.sign ((numQ a0 b0 m0).num))))) (by kernel_rfl) (fun _ _ h => h)) (fun w v h => h.trans (congrArg Value.bool (decide_eq_true rfl)))),
      stepN (i := 53) (dst := some 118) (op := (.pick (.tmp 111) (.tmp 117) (.const (.bool false)))) (by kernel_rfl) (pickT (argT (p := (isE (.bool true))) (by kernel_rfl) (fun _ _ h => h)) (argT (p := (isE (.bool true))) (by kernel_rfl) (fun _ _ h => h)) (fun _ _ h => h)),
      stepN (i := 54) (dst := some 6) (op := (.assign (.tmp 118))) (by kernel_rfl) (assign (argT (p := (isE (.bool true))) (by kernel_rfl) (fun _ _ h => h)) (fun _ _ h => h)), trivial⟩) ?_
  clear hS kf ac
  try clear w
  intro kf ac w hS
  exact wp_ret (ret_t (q := (isE (.bool true))) (by kernel_rfl) hS (List.Mem.tail _ (List.Mem.tail _ (List.Mem.tail _ (List.Mem.tail _ (List.Mem.tail _ (List.Mem.tail _ (List.Mem.tail _ (List.Mem.head _)))))))) (fun v h => ⟨v, rfl, (h), hS.grow⟩))
set_option maxRecDepth 100000 in
set_option maxHeartbeats 4000000 in
theorem lowest5_00 {w : World} {v0 v1 v2 : Value} {a0 b0 : List Nat} {m0 : Bool} {l : List Nat} {m : Bool} (h0 : (isM a0 b0 m0) w v0) (h1 : (isS l) w v1) (h2 : (isE (.bool m)) w v2) (hk : signed (Mx.val (l.take 3)) m ≠ 0) (hd : (numQ a0 b0 m0).den ≠ 1) : Calls Tryz.prog 4 #[v0, v1, v2] w (Ret w fun v w' => (isE (.bool true)) w' v) := by
  have hq1 := (num_qlen h0).1
  have hq2 := (num_qlen h0).2
  refine enter (s := soft) (n := 119) (c := (.seq (.region 0 (regionOps Tryz.f4 0) false) (.seq (.region 1 (regionOps Tryz.f4 1) false) (.seq (.region 2 (regionOps Tryz.f4 2) false) (.seq (.seq (.region 3 (regionOps Tryz.f4 3) false) (.cond (.tmp 29) (.region 4 (regionOps Tryz.f4 4) false) .skip)) (.seq (.region 5 (regionOps Tryz.f4 5) true) (.seq (.region 6 (regionOps Tryz.f4 6) true) (.seq (.region 7 (regionOps Tryz.f4 7) false) (.seq (.seq (.region 8 (regionOps Tryz.f4 8) false) (.cond (.tmp 58) (.region 9 (regionOps Tryz.f4 9) false) .skip)) (.seq (.region 10 (regionOps Tryz.f4 10) true) .ret)))))))))) Tryz.func4 (by kernel_rfl) (by kernel_rfl) (by simp) [(0, (isM a0 b0 m0)), (1, (isS l)), (2, (isE (.bool m)))] ⟨⟨by simp, h0⟩, ⟨by simp, h1⟩, ⟨by simp, h2⟩, trivial⟩ ?_
  intro kf ac hS
  refine plain_seq (m := 2) (by kernel_rfl) ?_
  refine box0 (p := 3) (y := 0) (t := 24) (q := (isM a0 b0 m0)) hS (by kernel_rfl) rfl rfl rfl (List.Mem.head _) shM trivial ⟨(stb_M _ _ _), (stb_S _), (stb_eq _), trivial⟩ ?_
  clear hS kf ac
  try clear w
  intro kf ac w hS
  refine const0 (p := 6) (c := (.bool false)) hS (by kernel_rfl) rfl rfl rfl ?_
  clear hS kf ac
  try clear w
  intro kf ac w hS
  refine plain_end ?_
  refine region_seq (s := soft) (kf0 := kf) (by kernel_rfl) hS (Rg.look [(15, (isM a0 b0 m0)),
      (16, (IsT [(isQ (numQ a0 b0 m0) 5), (isR (numQ a0 b0 m0) 32)])),
      (14, (IsT [(isQ (numQ a0 b0 m0) 5), (isR (numQ a0 b0 m0) 32)])),
      (17, (isQ (numQ a0 b0 m0) 5)),
      (18, (isR (numQ a0 b0 m0) 32)),
      (7, isX),
      (8, isX)])
    ⟨[(5, 7, 30), (6, 8, 35)], [(7, 7, 17, 30), (8, 8, 18, 35)]⟩ [⟨3, 24, (isM a0 b0 m0)⟩, ⟨7, 30, (isQ (numQ a0 b0 m0) 5)⟩, ⟨8, 35, (isR (numQ a0 b0 m0) 32)⟩] [(6, (isE (.bool false))), (0, (isM a0 b0 m0)), (1, (isS l)), (2, (isE (.bool m)))] (by kernel_rfl) (by kernel_rfl) (look_stb _ ⟨(stb_M _ _ _), (stb_T ⟨(stb_Q _ _), (stb_R _ _), trivial⟩), (stb_T ⟨(stb_Q _ _), (stb_R _ _), trivial⟩), (stb_Q _ _), (stb_R _ _), stb_true, stb_true, trivial⟩) ⟨(stb_M _ _ _), trivial⟩ ⟨(stb_eq _), (stb_M _ _ _), (stb_S _), (stb_eq _), trivial⟩ ⟨fun _ _ => trivial, fun _ _ => trivial, trivial⟩ ⟨shQ, shR, trivial⟩
    ⟨.inr (.inl ⟨rfl, _, (List.Mem.head _), rfl, rfl, (fun _ _ h => h)⟩), .inl ⟨_, (List.Mem.head _), rfl, rfl, (fun _ _ h => h)⟩, .inl ⟨_, (List.Mem.tail _ (List.Mem.head _)), rfl, rfl, (fun _ _ h => h)⟩, trivial⟩
    ⟨.inr ⟨(by kernel_rfl), _, (List.Mem.head _), rfl, (fun _ _ h => h)⟩, .inr ⟨(by kernel_rfl), _, (List.Mem.tail _ (List.Mem.head _)), rfl, (fun _ _ h => h)⟩, .inr ⟨(by kernel_rfl), _, (List.Mem.tail _ (List.Mem.tail _ (List.Mem.head _))), rfl, (fun _ _ h => h)⟩, .inr ⟨(by kernel_rfl), _, (List.Mem.tail _ (List.Mem.tail _ (List.Mem.tail _ (List.Mem.head _)))), rfl, (fun _ _ h => h)⟩, trivial⟩
    (steps (m := 9) (by kernel_rfl) ⟨stepN (i := 0) (dst := some 15) (op := (.load 24 (.tmp 3))) (by kernel_rfl) (loadV (List.Mem.head _) (by kernel_rfl) (fun _ _ h => h)),
      stepN (i := 1) (dst := some 16) (op := (.call { callee := .value (.func 5), args := #[(.tmp 15)], argTypes := #[24] })) (by kernel_rfl) (call1 (enters_of Tryz.func5 (by kernel_rfl) rfl) (argT (p := (isM a0 b0 m0)) (by kernel_rfl) (fun _ _ h => h)) (fun w u1 h1 => num_m h1) (fun _ _ h => h)),
      stepN (i := 2) (dst := some 14) (op := (.move (.tmp 16))) (by kernel_rfl) (move (argT (p := (IsT [(isQ (numQ a0 b0 m0) 5), (isR (numQ a0 b0 m0) 32)])) (by kernel_rfl) (fun _ _ h => h)) (fun _ _ h => h)),
      stepN (i := 3) (dst := some 17) (op := (.extract (.tmp 14) 0)) (by kernel_rfl) (extract (by kernel_rfl) (fun _ _ h => h) rfl (fun _ _ h => h)),
      stepN (i := 4) (dst := some 18) (op := (.extract (.tmp 14) 1)) (by kernel_rfl) (extract (by kernel_rfl) (fun _ _ h => h) rfl (fun _ _ h => h)),
      isAlloc rfl,
      isAlloc rfl,
      isStore rfl,
      isStore rfl, trivial⟩) ?_
  clear hS kf ac
  try clear w
  intro kf ac w hS
  refine region_seq (s := soft) (kf0 := kf) (by kernel_rfl) hS (Rg.look [(19, (isS l)),
      (20, (isS l)),
      (21, (isE (.int .i64 ((l.length : Nat) : Int)))),
      (22, (isE (.int .i64 (((min l.length 3 : Nat) : Int))))),
      (23, (isS (l.take 3))),
      (24, (isN (Mx.val (l.take 3)) 4)),
      (25, (isE (.bool m))),
      (26, (isW (signed (Mx.val (l.take 3)) m) 4)),
      (9, isX)])
    ⟨[(8, 9, 28)], [(9, 9, 26, 28)]⟩ [⟨3, 24, (isM a0 b0 m0)⟩, ⟨7, 30, (isQ (numQ a0 b0 m0) 5)⟩, ⟨8, 35, (isR (numQ a0 b0 m0) 32)⟩, ⟨9, 28, (isW (signed (Mx.val (l.take 3)) m) 4)⟩] [(6, (isE (.bool false))), (0, (isM a0 b0 m0)), (1, (isS l)), (2, (isE (.bool m)))] (by kernel_rfl) (by kernel_rfl) (look_stb _ ⟨(stb_S _), (stb_S _), (stb_eq _), (stb_eq _), (stb_S _), (stb_N _ _), (stb_eq _), (stb_W _ _), stb_true, trivial⟩) ⟨(stb_M _ _ _), (stb_Q _ _), (stb_R _ _), trivial⟩ ⟨(stb_eq _), (stb_M _ _ _), (stb_S _), (stb_eq _), trivial⟩ ⟨fun _ _ => trivial, trivial⟩ ⟨shW, trivial⟩
    ⟨.inr (.inl ⟨rfl, _, (List.Mem.head _), rfl, rfl, (fun _ _ h => h)⟩), .inr (.inl ⟨rfl, _, (List.Mem.tail _ (List.Mem.head _)), rfl, rfl, (fun _ _ h => h)⟩), .inr (.inl ⟨rfl, _, (List.Mem.tail _ (List.Mem.tail _ (List.Mem.head _))), rfl, rfl, (fun _ _ h => h)⟩), .inl ⟨_, (List.Mem.head _), rfl, rfl, (fun _ _ h => h)⟩, trivial⟩
    ⟨.inr ⟨(by kernel_rfl), _, (List.Mem.head _), rfl, (fun _ _ h => h)⟩, .inr ⟨(by kernel_rfl), _, (List.Mem.tail _ (List.Mem.head _)), rfl, (fun _ _ h => h)⟩, .inr ⟨(by kernel_rfl), _, (List.Mem.tail _ (List.Mem.tail _ (List.Mem.head _))), rfl, (fun _ _ h => h)⟩, .inr ⟨(by kernel_rfl), _, (List.Mem.tail _ (List.Mem.tail _ (List.Mem.tail _ (List.Mem.head _)))), rfl, (fun _ _ h => h)⟩, trivial⟩
    (steps (m := 10) (by kernel_rfl) ⟨stepN (i := 0) (dst := some 19) (op := (.move (.tmp 1))) (by kernel_rfl) (move (argO (p := (isS l)) (List.Mem.tail _ (List.Mem.tail _ (List.Mem.head _))) (by kernel_rfl)) (fun _ _ h => h)),
      stepN (i := 1) (dst := some 20) (op := (.move (.tmp 1))) (by kernel_rfl) (move (argO (p := (isS l)) (List.Mem.tail _ (List.Mem.tail _ (List.Mem.head _))) (by kernel_rfl)) (fun _ _ h => h)),
      stepN (i := 2) (dst := some 21) (op := (.call { callee := .builtin .len, args := #[(.tmp 20)], argTypes := #[22] })) (by kernel_rfl) (lenS (argT (p := (isS l)) (by kernel_rfl) (fun _ _ h => h)) rfl (fun _ _ h => h)),
      stepN (i := 3) (dst := some 22) (op := (.call { callee := .builtin .min, args := #[(.tmp 21), (.const (.int .i64 3))], argTypes := #[3, 3] })) (by kernel_rfl) (minI (r := ((min l.length 3 : Nat) : Int)) (argT (p := (isE (.int .i64 ((l.length : Nat) : Int)))) (by kernel_rfl) (fun _ _ h => h)) (argC (.int .i64 3)) (by omega) (fun _ _ h => h)),
      stepN (i := 4) (dst := some 23) (op := (.slice 22 (.tmp 19) none (some (.tmp 22)) none)) (by kernel_rfl) (upS (n := min l.length 3) (argT (p := (isS l)) (by kernel_rfl) (fun _ _ h => h)) (argT (p := (isE (.int .i64 (((min l.length 3 : Nat) : Int))))) (by kernel_rfl) (fun _ _ h => h)) (by omega) (fun w v h => (by rw [take_min] at h; exact h))),
      stepN (i := 5) (dst := some 24) (op := (.call { callee := .value (.func 27), args := #[(.tmp 23)], argTypes := #[22] })) (by kernel_rfl) (call1 (enters_of Tryz.func27 (by kernel_rfl) rfl) (argT (p := (isS (l.take 3))) (by kernel_rfl) (fun _ _ h => h)) (fun w u1 h1 => of_n 4 h1 (by simp [List.length_take]; omega) (by omega)) (fun _ _ h => h)),
      stepN (i := 6) (dst := some 25) (op := (.move (.tmp 2))) (by kernel_rfl) (move (argO (p := (isE (.bool m))) (List.Mem.tail _ (List.Mem.tail _ (List.Mem.tail _ (List.Mem.head _)))) (by kernel_rfl)) (fun _ _ h => h)),
      stepN (i := 7) (dst := some 26) (op := (.call { callee := .value (.func 26), args := #[(.tmp 24), (.tmp 25)], argTypes := #[26, 4] })) (by kernel_rfl) (call2 (enters_of Tryz.func26 (by kernel_rfl) rfl) (argT (p := (isN (Mx.val (l.take 3)) 4)) (by kernel_rfl) (fun _ _ h => h)) (argT (p := (isE (.bool m))) (by kernel_rfl) (fun _ _ h => h)) (fun w u1 u2 h1 h2 => by subst h2; exact of_w h1) (fun _ _ h => h)),
      isAlloc rfl,
      isStore rfl, trivial⟩) ?_
  clear hS kf ac
  try clear w
  intro kf ac w hS
  refine wp_seq ?_
  refine region_seq (s := soft) (kf0 := kf) (by kernel_rfl) hS (Rg.look [(27, (isW (signed (Mx.val (l.take 3)) m) 4)),
      (28, (isE (.int .i64 (Int.sign (signed (Mx.val (l.take 3)) m))))),
      (29, (isE (.bool false)))])
    ⟨[], []⟩ [⟨3, 24, (isM a0 b0 m0)⟩, ⟨7, 30, (isQ (numQ a0 b0 m0) 5)⟩, ⟨8, 35, (isR (numQ a0 b0 m0) 32)⟩, ⟨9, 28, (isW (signed (Mx.val (l.take 3)) m) 4)⟩] [(6, (isE (.bool false))), (0, (isM a0 b0 m0)), (1, (isS l)), (2, (isE (.bool m))), (29, (isE (.bool false)))] (by kernel_rfl) (by kernel_rfl) (look_stb _ ⟨(stb_W _ _), (stb_eq _), (stb_eq _), trivial⟩) ⟨(stb_M _ _ _), (stb_Q _ _), (stb_R _ _), (stb_W _ _), trivial⟩ ⟨(stb_eq _), (stb_M _ _ _), (stb_S _), (stb_eq _), trivial⟩ trivial trivial
    ⟨.inr (.inl ⟨rfl, _, (List.Mem.head _), rfl, rfl, (fun _ _ h => h)⟩), .inr (.inl ⟨rfl, _, (List.Mem.tail _ (List.Mem.head _)), rfl, rfl, (fun _ _ h => h)⟩), .inr (.inl ⟨rfl, _, (List.Mem.tail _ (List.Mem.tail _ (List.Mem.head _))), rfl, rfl, (fun _ _ h => h)⟩), .inr (.inl ⟨rfl, _, (List.Mem.tail _ (List.Mem.tail _ (List.Mem.tail _ (List.Mem.head _)))), rfl, rfl, (fun _ _ h => h)⟩), trivial⟩
    ⟨.inr ⟨(by kernel_rfl), _, (List.Mem.head _), rfl, (fun _ _ h => h)⟩, .inr ⟨(by kernel_rfl), _, (List.Mem.tail _ (List.Mem.head _)), rfl, (fun _ _ h => h)⟩, .inr ⟨(by kernel_rfl), _, (List.Mem.tail _ (List.Mem.tail _ (List.Mem.head _))), rfl, (fun _ _ h => h)⟩, .inr ⟨(by kernel_rfl), _, (List.Mem.tail _ (List.Mem.tail _ (List.Mem.tail _ (List.Mem.head _)))), rfl, (fun _ _ h => h)⟩, .inl ⟨(by kernel_rfl), rfl, (fun _ _ h => h)⟩, trivial⟩
    (steps (m := 3) (by kernel_rfl) ⟨stepN (i := 0) (dst := some 27) (op := (.load 28 (.tmp 9))) (by kernel_rfl) (loadV (List.Mem.tail _ (List.Mem.tail _ (List.Mem.tail _ (List.Mem.head _)))) (by kernel_rfl) (fun _ _ h => h)),
      stepN (i := 1) (dst := some 28) (op := (.call { callee := .value (.func 28), args := #[(.tmp 27)], argTypes := #[28] })) (by kernel_rfl) (call1 (enters_of Tryz.func28 (by kernel_rfl) rfl) (argT (p := (isW (signed (Mx.val (l.take 3)) m) 4)) (by kernel_rfl) (fun _ _ h => h)) (fun w u1 h1 => sign_w h1) (fun _ _ h => h)),
      stepN (i := 2) (dst := some 29) (op := (.binOp .eql 3 (.tmp 28) (.const (.int .i64 0)) 3)) (by kernel_rfl) (eql (m := (Int.sign (signed (Mx.val (l.take 3)) m))) (n := 0) (argT (p := (isE (.int .i64 (Int.sign (signed (Mx.val (l.take 3)) m))))) (by kernel_rfl) (fun _ _ h => h)) (argC (.int .i64 0)) (fun w v h => h.trans (congrArg Value.bool (decide_eq_false (fun e => hk (Int.sign_eq_zero_iff_zero.1 e)))))), trivial⟩) ?_
  clear hS kf ac
  try clear w
  intro kf ac w hS
  refine cond_false (q := (isE (.bool false))) hS (List.Mem.tail _ (List.Mem.tail _ (List.Mem.tail _ (List.Mem.tail _ (List.Mem.head _))))) (fun _ _ h => h) ?_
  refine skip_then ?_
  refine region_seq (s := soft) (kf0 := kf) (by kernel_rfl) hS (Rg.look [(32, (isQ (numQ a0 b0 m0) 5)),
      (33, (isW ((numQ a0 b0 m0).num) 5)),
      (34, (isW (signed (Mx.val (l.take 3)) m) 4)),
      (35, (isW (((numQ a0 b0 m0).num) * (signed (Mx.val (l.take 3)) m)) (5 + 4))),
      (36, (isQ (numQ a0 b0 m0) 5)),
      (37, (isN ((numQ a0 b0 m0).den) 5)),
      (38, (isW (signed ((numQ a0 b0 m0).den) false) 5)),
      (39, (isW (signed (Mx.val (l.take 3)) m) 4)),
      (40, (isW ((signed ((numQ a0 b0 m0).den) false) * (signed (Mx.val (l.take 3)) m)) (5 + 4))),
      (41, (IsT [(isQ (((((numQ a0 b0 m0).num) * (signed (Mx.val (l.take 3)) m) : Int) : Rat) / (((signed ((numQ a0 b0 m0).den) false) * (signed (Mx.val (l.take 3)) m) : Int) : Rat)) (max (5 + 4) (5 + 4) + 1)), (isE (.int .i64 0))])),
      (31, (IsT [(isQ (((((numQ a0 b0 m0).num) * (signed (Mx.val (l.take 3)) m) : Int) : Rat) / (((signed ((numQ a0 b0 m0).den) false) * (signed (Mx.val (l.take 3)) m) : Int) : Rat)) (max (5 + 4) (5 + 4) + 1)), (isE (.int .i64 0))])),
      (42, (isQ (((((numQ a0 b0 m0).num) * (signed (Mx.val (l.take 3)) m) : Int) : Rat) / (((signed ((numQ a0 b0 m0).den) false) * (signed (Mx.val (l.take 3)) m) : Int) : Rat)) (max (5 + 4) (5 + 4) + 1))),
      (43, (isE (.int .i64 0))),
      (10, isX),
      (11, (isE (.int .i64 0)))])
    ⟨[(13, 10, 30)], [(14, 10, 42, 30)]⟩ [⟨3, 24, (isM a0 b0 m0)⟩, ⟨7, 30, (isQ (numQ a0 b0 m0) 5)⟩, ⟨8, 35, (isR (numQ a0 b0 m0) 32)⟩, ⟨9, 28, (isW (signed (Mx.val (l.take 3)) m) 4)⟩, ⟨10, 30, (isQ (((((numQ a0 b0 m0).num) * (signed (Mx.val (l.take 3)) m) : Int) : Rat) / (((signed ((numQ a0 b0 m0).den) false) * (signed (Mx.val (l.take 3)) m) : Int) : Rat)) (max (5 + 4) (5 + 4) + 1))⟩] [(6, (isE (.bool false))), (0, (isM a0 b0 m0)), (1, (isS l)), (2, (isE (.bool m))), (29, (isE (.bool false))), (11, (isE (.int .i64 0)))] (by kernel_rfl) (by kernel_rfl) (look_stb _ ⟨(stb_Q _ _), (stb_W _ _), (stb_W _ _), (stb_W _ _), (stb_Q _ _), (stb_N _ _), (stb_W _ _), (stb_W _ _), (stb_W _ _), (stb_T ⟨(stb_Q _ _), (stb_eq _), trivial⟩), (stb_T ⟨(stb_Q _ _), (stb_eq _), trivial⟩), (stb_Q _ _), (stb_eq _), stb_true, (stb_eq _), trivial⟩) ⟨(stb_M _ _ _), (stb_Q _ _), (stb_R _ _), (stb_W _ _), trivial⟩ ⟨(stb_eq _), (stb_M _ _ _), (stb_S _), (stb_eq _), (stb_eq _), trivial⟩ ⟨fun _ _ => trivial, trivial⟩ ⟨shQ, trivial⟩
    ⟨.inr (.inl ⟨rfl, _, (List.Mem.head _), rfl, rfl, (fun _ _ h => h)⟩), .inr (.inl ⟨rfl, _, (List.Mem.tail _ (List.Mem.head _)), rfl, rfl, (fun _ _ h => h)⟩), .inr (.inl ⟨rfl, _, (List.Mem.tail _ (List.Mem.tail _ (List.Mem.head _))), rfl, rfl, (fun _ _ h => h)⟩), .inr (.inl ⟨rfl, _, (List.Mem.tail _ (List.Mem.tail _ (List.Mem.tail _ (List.Mem.head _)))), rfl, rfl, (fun _ _ h => h)⟩), .inl ⟨_, (List.Mem.head _), rfl, rfl, (fun _ _ h => h)⟩, trivial⟩
    ⟨.inr ⟨(by kernel_rfl), _, (List.Mem.head _), rfl, (fun _ _ h => h)⟩, .inr ⟨(by kernel_rfl), _, (List.Mem.tail _ (List.Mem.head _)), rfl, (fun _ _ h => h)⟩, .inr ⟨(by kernel_rfl), _, (List.Mem.tail _ (List.Mem.tail _ (List.Mem.head _))), rfl, (fun _ _ h => h)⟩, .inr ⟨(by kernel_rfl), _, (List.Mem.tail _ (List.Mem.tail _ (List.Mem.tail _ (List.Mem.head _)))), rfl, (fun _ _ h => h)⟩, .inr ⟨(by kernel_rfl), _, (List.Mem.tail _ (List.Mem.tail _ (List.Mem.tail _ (List.Mem.tail _ (List.Mem.head _))))), rfl, (fun _ _ h => h)⟩, .inl ⟨(by kernel_rfl), rfl, (fun _ _ h => h)⟩, trivial⟩
    (steps (m := 16) (by kernel_rfl) ⟨stepN (i := 0) (dst := some 32) (op := (.load 30 (.tmp 7))) (by kernel_rfl) (loadV (List.Mem.tail _ (List.Mem.head _)) (by kernel_rfl) (fun _ _ h => h)),
      stepN (i := 1) (dst := some 33) (op := (.call { callee := .value (.func 31), args := #[(.tmp 32)], argTypes := #[30] })) (by kernel_rfl) (call1 (enters_of Tryz.func31 (by kernel_rfl) rfl) (argT (p := (isQ (numQ a0 b0 m0) 5)) (by kernel_rfl) (fun _ _ h => h)) (fun w u1 h1 => num_q h1) (fun _ _ h => h)),
      stepN (i := 2) (dst := some 34) (op := (.load 28 (.tmp 9))) (by kernel_rfl) (loadV (List.Mem.tail _ (List.Mem.tail _ (List.Mem.tail _ (List.Mem.head _)))) (by kernel_rfl) (fun _ _ h => h)),
      stepN (i := 3) (dst := some 35) (op := (.call { callee := .value (.func 32), args := #[(.tmp 33), (.tmp 34)], argTypes := #[28, 28] })) (by kernel_rfl) (call2 (enters_of Tryz.func32 (by kernel_rfl) rfl) (argT (p := (isW ((numQ a0 b0 m0).num) 5)) (by kernel_rfl) (fun _ _ h => h)) (argT (p := (isW (signed (Mx.val (l.take 3)) m) 4)) (by kernel_rfl) (fun _ _ h => h)) (fun w u1 u2 h1 h2 => mul_w h1 h2 (by omega) (by omega)) (fun _ _ h => h)),
      stepN (i := 4) (dst := some 36) (op := (.load 30 (.tmp 7))) (by kernel_rfl) (loadV (List.Mem.tail _ (List.Mem.head _)) (by kernel_rfl) (fun _ _ h => h)),
      stepN (i := 5) (dst := some 37) (op := (.call { callee := .value (.func 33), args := #[(.tmp 36)], argTypes := #[30] })) (by kernel_rfl) (call1 (enters_of Tryz.func33 (by kernel_rfl) rfl) (argT (p := (isQ (numQ a0 b0 m0) 5)) (by kernel_rfl) (fun _ _ h => h)) (fun w u1 h1 => den_q h1) (fun _ _ h => h)),
      stepN (i := 6) (dst := some 38) (op := (.call { callee := .value (.func 26), args := #[(.tmp 37), (.const (.bool false))], argTypes := #[26, 4] })) (by kernel_rfl) (call2 (enters_of Tryz.func26 (by kernel_rfl) rfl) (argT (p := (isN ((numQ a0 b0 m0).den) 5)) (by kernel_rfl) (fun _ _ h => h)) (argC (.bool false)) (fun w u1 u2 h1 h2 => by subst h2; exact of_w h1) (fun _ _ h => h)),
      stepN (i := 7) (dst := some 39) (op := (.load 28 (.tmp 9))) (by kernel_rfl) (loadV (List.Mem.tail _ (List.Mem.tail _ (List.Mem.tail _ (List.Mem.head _)))) (by kernel_rfl) (fun _ _ h => h)),
      stepN (i := 8) (dst := some 40) (op := (.call { callee := .value (.func 32), args := #[(.tmp 38), (.tmp 39)], argTypes := #[28, 28] })) (by kernel_rfl) (call2 (enters_of Tryz.func32 (by kernel_rfl) rfl) (argT (p := (isW (signed ((numQ a0 b0 m0).den) false) 5)) (by kernel_rfl) (fun _ _ h => h)) (argT (p := (isW (signed (Mx.val (l.take 3)) m) 4)) (by kernel_rfl) (fun _ _ h => h)) (fun w u1 u2 h1 h2 => mul_w h1 h2 (by omega) (by omega)) (fun _ _ h => h)),
      stepN (i := 9) (dst := some 41) (op := (.call { callee := .value (.func 30), args := #[(.tmp 35), (.tmp 40)], argTypes := #[28, 28] })) (by kernel_rfl) (call2 (enters_of Tryz.func30 (by kernel_rfl) rfl) (argT (p := (isW (((numQ a0 b0 m0).num) * (signed (Mx.val (l.take 3)) m)) (5 + 4))) (by kernel_rfl) (fun _ _ h => h)) (argT (p := (isW ((signed ((numQ a0 b0 m0).den) false) * (signed (Mx.val (l.take 3)) m)) (5 + 4))) (by kernel_rfl) (fun _ _ h => h)) (fun w u1 u2 h1 h2 => of_q h1 h2 (by omega) (by omega) (den_times hk)) (fun _ _ h => h)),
      stepN (i := 10) (dst := some 31) (op := (.move (.tmp 41))) (by kernel_rfl) (move (argT (p := (IsT [(isQ (((((numQ a0 b0 m0).num) * (signed (Mx.val (l.take 3)) m) : Int) : Rat) / (((signed ((numQ a0 b0 m0).den) false) * (signed (Mx.val (l.take 3)) m) : Int) : Rat)) (max (5 + 4) (5 + 4) + 1)), (isE (.int .i64 0))])) (by kernel_rfl) (fun _ _ h => h)) (fun _ _ h => h)),
      stepN (i := 11) (dst := some 42) (op := (.extract (.tmp 31) 0)) (by kernel_rfl) (extract (by kernel_rfl) (fun _ _ h => h) rfl (fun _ _ h => h)),
      stepN (i := 12) (dst := some 43) (op := (.extract (.tmp 31) 1)) (by kernel_rfl) (extract (by kernel_rfl) (fun _ _ h => h) rfl (fun _ _ h => h)),
      isAlloc rfl,
      isStore rfl,
      stepN (i := 15) (dst := some 11) (op := (.assign (.tmp 43))) (by kernel_rfl) (assign (argT (p := (isE (.int .i64 0))) (by kernel_rfl) (fun _ _ h => h)) (fun _ _ h => h)), trivial⟩) ?_
  clear hS kf ac
  try clear w
  intro kf ac w hS
  refine region_seq (s := soft) (kf0 := kf) (by kernel_rfl) hS (Rg.look [(44, (isQ (numQ a0 b0 m0) 5)),
      (45, (isW ((numQ a0 b0 m0).num) 5)),
      (46, (isN (Int.natAbs ((numQ a0 b0 m0).num)) 5)),
      (47, (isQ (numQ a0 b0 m0) 5)),
      (48, (isN ((numQ a0 b0 m0).den) 5)),
      (49, (isN (Nat.gcd (Int.natAbs ((numQ a0 b0 m0).num)) ((numQ a0 b0 m0).den)) 5)),
      (12, isX)])
    ⟨[(6, 12, 26)], [(7, 12, 49, 26)]⟩ [⟨3, 24, (isM a0 b0 m0)⟩, ⟨7, 30, (isQ (numQ a0 b0 m0) 5)⟩, ⟨8, 35, (isR (numQ a0 b0 m0) 32)⟩, ⟨9, 28, (isW (signed (Mx.val (l.take 3)) m) 4)⟩, ⟨10, 30, (isQ (((((numQ a0 b0 m0).num) * (signed (Mx.val (l.take 3)) m) : Int) : Rat) / (((signed ((numQ a0 b0 m0).den) false) * (signed (Mx.val (l.take 3)) m) : Int) : Rat)) (max (5 + 4) (5 + 4) + 1))⟩, ⟨12, 26, (isN (Nat.gcd (Int.natAbs ((numQ a0 b0 m0).num)) ((numQ a0 b0 m0).den)) 5)⟩] [(6, (isE (.bool false))), (0, (isM a0 b0 m0)), (1, (isS l)), (2, (isE (.bool m))), (29, (isE (.bool false))), (11, (isE (.int .i64 0)))] (by kernel_rfl) (by kernel_rfl) (look_stb _ ⟨(stb_Q _ _), (stb_W _ _), (stb_N _ _), (stb_Q _ _), (stb_N _ _), (stb_N _ _), stb_true, trivial⟩) ⟨(stb_M _ _ _), (stb_Q _ _), (stb_R _ _), (stb_W _ _), (stb_Q _ _), trivial⟩ ⟨(stb_eq _), (stb_M _ _ _), (stb_S _), (stb_eq _), (stb_eq _), (stb_eq _), trivial⟩ ⟨fun _ _ => trivial, trivial⟩ ⟨shN, trivial⟩
    ⟨.inr (.inl ⟨rfl, _, (List.Mem.head _), rfl, rfl, (fun _ _ h => h)⟩), .inr (.inl ⟨rfl, _, (List.Mem.tail _ (List.Mem.head _)), rfl, rfl, (fun _ _ h => h)⟩), .inr (.inl ⟨rfl, _, (List.Mem.tail _ (List.Mem.tail _ (List.Mem.head _))), rfl, rfl, (fun _ _ h => h)⟩), .inr (.inl ⟨rfl, _, (List.Mem.tail _ (List.Mem.tail _ (List.Mem.tail _ (List.Mem.head _)))), rfl, rfl, (fun _ _ h => h)⟩), .inr (.inl ⟨rfl, _, (List.Mem.tail _ (List.Mem.tail _ (List.Mem.tail _ (List.Mem.tail _ (List.Mem.head _))))), rfl, rfl, (fun _ _ h => h)⟩), .inl ⟨_, (List.Mem.head _), rfl, rfl, (fun _ _ h => h)⟩, trivial⟩
    ⟨.inr ⟨(by kernel_rfl), _, (List.Mem.head _), rfl, (fun _ _ h => h)⟩, .inr ⟨(by kernel_rfl), _, (List.Mem.tail _ (List.Mem.head _)), rfl, (fun _ _ h => h)⟩, .inr ⟨(by kernel_rfl), _, (List.Mem.tail _ (List.Mem.tail _ (List.Mem.head _))), rfl, (fun _ _ h => h)⟩, .inr ⟨(by kernel_rfl), _, (List.Mem.tail _ (List.Mem.tail _ (List.Mem.tail _ (List.Mem.head _)))), rfl, (fun _ _ h => h)⟩, .inr ⟨(by kernel_rfl), _, (List.Mem.tail _ (List.Mem.tail _ (List.Mem.tail _ (List.Mem.tail _ (List.Mem.head _))))), rfl, (fun _ _ h => h)⟩, .inr ⟨(by kernel_rfl), _, (List.Mem.tail _ (List.Mem.tail _ (List.Mem.tail _ (List.Mem.tail _ (List.Mem.tail _ (List.Mem.head _)))))), rfl, (fun _ _ h => h)⟩, trivial⟩
    (steps (m := 8) (by kernel_rfl) ⟨stepN (i := 0) (dst := some 44) (op := (.load 30 (.tmp 7))) (by kernel_rfl) (loadV (List.Mem.tail _ (List.Mem.head _)) (by kernel_rfl) (fun _ _ h => h)),
      stepN (i := 1) (dst := some 45) (op := (.call { callee := .value (.func 31), args := #[(.tmp 44)], argTypes := #[30] })) (by kernel_rfl) (call1 (enters_of Tryz.func31 (by kernel_rfl) rfl) (argT (p := (isQ (numQ a0 b0 m0) 5)) (by kernel_rfl) (fun _ _ h => h)) (fun w u1 h1 => num_q h1) (fun _ _ h => h)),
      stepN (i := 2) (dst := some 46) (op := (.call { callee := .value (.func 35), args := #[(.tmp 45)], argTypes := #[28] })) (by kernel_rfl) (call1 (enters_of Tryz.func35 (by kernel_rfl) rfl) (argT (p := (isW ((numQ a0 b0 m0).num) 5)) (by kernel_rfl) (fun _ _ h => h)) (fun w u1 h1 => abs_w h1) (fun _ _ h => h)),
      stepN (i := 3) (dst := some 47) (op := (.load 30 (.tmp 7))) (by kernel_rfl) (loadV (List.Mem.tail _ (List.Mem.head _)) (by kernel_rfl) (fun _ _ h => h)),
      stepN (i := 4) (dst := some 48) (op := (.call { callee := .value (.func 33), args := #[(.tmp 47)], argTypes := #[30] })) (by kernel_rfl) (call1 (enters_of Tryz.func33 (by kernel_rfl) rfl) (argT (p := (isQ (numQ a0 b0 m0) 5)) (by kernel_rfl) (fun _ _ h => h)) (fun w u1 h1 => den_q h1) (fun _ _ h => h)),
      stepN (i := 5) (dst := some 49) (op := (.call { callee := .value (.func 34), args := #[(.tmp 46), (.tmp 48)], argTypes := #[26, 26] })) (by kernel_rfl) (call2 (enters_of Tryz.func34 (by kernel_rfl) rfl) (argT (p := (isN (Int.natAbs ((numQ a0 b0 m0).num)) 5)) (by kernel_rfl) (fun _ _ h => h)) (argT (p := (isN ((numQ a0 b0 m0).den) 5)) (by kernel_rfl) (fun _ _ h => h)) (fun w u1 u2 h1 h2 => gcd_n (k := 5) (h1.weak (by omega)) (h2.weak (by omega)) (by omega)) (fun _ _ h => h)),
      isAlloc rfl,
      isStore rfl, trivial⟩) ?_
  clear hS kf ac
  try clear w
  intro kf ac w hS
  refine region_seq (s := soft) (kf0 := kf) (by kernel_rfl) hS (Rg.look [(50, (isQ (numQ a0 b0 m0) 5)),
      (51, (isW ((numQ a0 b0 m0).num) 5)),
      (52, (isT (ztext ((numQ a0 b0 m0).num)))),
      (13, (isT (ztext ((numQ a0 b0 m0).num))))])
    ⟨[], []⟩ [⟨3, 24, (isM a0 b0 m0)⟩, ⟨7, 30, (isQ (numQ a0 b0 m0) 5)⟩, ⟨8, 35, (isR (numQ a0 b0 m0) 32)⟩, ⟨9, 28, (isW (signed (Mx.val (l.take 3)) m) 4)⟩, ⟨10, 30, (isQ (((((numQ a0 b0 m0).num) * (signed (Mx.val (l.take 3)) m) : Int) : Rat) / (((signed ((numQ a0 b0 m0).den) false) * (signed (Mx.val (l.take 3)) m) : Int) : Rat)) (max (5 + 4) (5 + 4) + 1))⟩, ⟨12, 26, (isN (Nat.gcd (Int.natAbs ((numQ a0 b0 m0).num)) ((numQ a0 b0 m0).den)) 5)⟩] [(6, (isE (.bool false))), (0, (isM a0 b0 m0)), (1, (isS l)), (2, (isE (.bool m))), (29, (isE (.bool false))), (11, (isE (.int .i64 0))), (13, (isT (ztext ((numQ a0 b0 m0).num))))] (by kernel_rfl) (by kernel_rfl) (look_stb _ ⟨(stb_Q _ _), (stb_W _ _), (stb_eq _), (stb_eq _), trivial⟩) ⟨(stb_M _ _ _), (stb_Q _ _), (stb_R _ _), (stb_W _ _), (stb_Q _ _), (stb_N _ _), trivial⟩ ⟨(stb_eq _), (stb_M _ _ _), (stb_S _), (stb_eq _), (stb_eq _), (stb_eq _), trivial⟩ trivial trivial
    ⟨.inr (.inl ⟨rfl, _, (List.Mem.head _), rfl, rfl, (fun _ _ h => h)⟩), .inr (.inl ⟨rfl, _, (List.Mem.tail _ (List.Mem.head _)), rfl, rfl, (fun _ _ h => h)⟩), .inr (.inl ⟨rfl, _, (List.Mem.tail _ (List.Mem.tail _ (List.Mem.head _))), rfl, rfl, (fun _ _ h => h)⟩), .inr (.inl ⟨rfl, _, (List.Mem.tail _ (List.Mem.tail _ (List.Mem.tail _ (List.Mem.head _)))), rfl, rfl, (fun _ _ h => h)⟩), .inr (.inl ⟨rfl, _, (List.Mem.tail _ (List.Mem.tail _ (List.Mem.tail _ (List.Mem.tail _ (List.Mem.head _))))), rfl, rfl, (fun _ _ h => h)⟩), .inr (.inl ⟨rfl, _, (List.Mem.tail _ (List.Mem.tail _ (List.Mem.tail _ (List.Mem.tail _ (List.Mem.tail _ (List.Mem.head _)))))), rfl, rfl, (fun _ _ h => h)⟩), trivial⟩
    ⟨.inr ⟨(by kernel_rfl), _, (List.Mem.head _), rfl, (fun _ _ h => h)⟩, .inr ⟨(by kernel_rfl), _, (List.Mem.tail _ (List.Mem.head _)), rfl, (fun _ _ h => h)⟩, .inr ⟨(by kernel_rfl), _, (List.Mem.tail _ (List.Mem.tail _ (List.Mem.head _))), rfl, (fun _ _ h => h)⟩, .inr ⟨(by kernel_rfl), _, (List.Mem.tail _ (List.Mem.tail _ (List.Mem.tail _ (List.Mem.head _)))), rfl, (fun _ _ h => h)⟩, .inr ⟨(by kernel_rfl), _, (List.Mem.tail _ (List.Mem.tail _ (List.Mem.tail _ (List.Mem.tail _ (List.Mem.head _))))), rfl, (fun _ _ h => h)⟩, .inr ⟨(by kernel_rfl), _, (List.Mem.tail _ (List.Mem.tail _ (List.Mem.tail _ (List.Mem.tail _ (List.Mem.tail _ (List.Mem.head _)))))), rfl, (fun _ _ h => h)⟩, .inl ⟨(by kernel_rfl), rfl, (fun _ _ h => h)⟩, trivial⟩
    (steps (m := 4) (by kernel_rfl) ⟨stepN (i := 0) (dst := some 50) (op := (.load 30 (.tmp 7))) (by kernel_rfl) (loadV (List.Mem.tail _ (List.Mem.head _)) (by kernel_rfl) (fun _ _ h => h)),
      stepN (i := 1) (dst := some 51) (op := (.call { callee := .value (.func 31), args := #[(.tmp 50)], argTypes := #[30] })) (by kernel_rfl) (call1 (enters_of Tryz.func31 (by kernel_rfl) rfl) (argT (p := (isQ (numQ a0 b0 m0) 5)) (by kernel_rfl) (fun _ _ h => h)) (fun w u1 h1 => num_q h1) (fun _ _ h => h)),
      stepN (i := 2) (dst := some 52) (op := (.call { callee := .value (.func 23), args := #[(.tmp 51)], argTypes := #[28] })) (by kernel_rfl) (call1 (enters_of Tryz.func23 (by kernel_rfl) rfl) (argT (p := (isW ((numQ a0 b0 m0).num) 5)) (by kernel_rfl) (fun _ _ h => h)) (fun w u1 h1 => print_w h1 (by omega)) (fun _ _ h => h)),
      stepN (i := 3) (dst := some 13) (op := (.assign (.tmp 52))) (by kernel_rfl) (assign (argT (p := (isT (ztext ((numQ a0 b0 m0).num)))) (by kernel_rfl) (fun _ _ h => h)) (fun _ _ h => h)), trivial⟩) ?_
  clear hS kf ac
  try clear w
  intro kf ac w hS
  refine wp_seq ?_
  refine region_seq (s := soft) (kf0 := kf) (by kernel_rfl) hS (Rg.look [(53, (isQ (numQ a0 b0 m0) 5)),
      (54, (isN ((numQ a0 b0 m0).den) 5)),
      (55, (isS ([1]))),
      (56, (isN 1 1)),
      (57, (isE (.int .i64 (Mx.cmp ((numQ a0 b0 m0).den) 1)))),
      (58, (isE (.bool true)))])
    ⟨[], []⟩ [⟨3, 24, (isM a0 b0 m0)⟩, ⟨7, 30, (isQ (numQ a0 b0 m0) 5)⟩, ⟨8, 35, (isR (numQ a0 b0 m0) 32)⟩, ⟨9, 28, (isW (signed (Mx.val (l.take 3)) m) 4)⟩, ⟨10, 30, (isQ (((((numQ a0 b0 m0).num) * (signed (Mx.val (l.take 3)) m) : Int) : Rat) / (((signed ((numQ a0 b0 m0).den) false) * (signed (Mx.val (l.take 3)) m) : Int) : Rat)) (max (5 + 4) (5 + 4) + 1))⟩, ⟨12, 26, (isN (Nat.gcd (Int.natAbs ((numQ a0 b0 m0).num)) ((numQ a0 b0 m0).den)) 5)⟩] [(6, (isE (.bool false))), (0, (isM a0 b0 m0)), (1, (isS l)), (2, (isE (.bool m))), (29, (isE (.bool false))), (11, (isE (.int .i64 0))), (13, (isT (ztext ((numQ a0 b0 m0).num)))), (58, (isE (.bool true)))] (by kernel_rfl) (by kernel_rfl) (look_stb _ ⟨(stb_Q _ _), (stb_N _ _), (stb_S _), (stb_N _ _), (stb_eq _), (stb_eq _), trivial⟩) ⟨(stb_M _ _ _), (stb_Q _ _), (stb_R _ _), (stb_W _ _), (stb_Q _ _), (stb_N _ _), trivial⟩ ⟨(stb_eq _), (stb_M _ _ _), (stb_S _), (stb_eq _), (stb_eq _), (stb_eq _), (stb_eq _), trivial⟩ trivial trivial
    ⟨.inr (.inl ⟨rfl, _, (List.Mem.head _), rfl, rfl, (fun _ _ h => h)⟩), .inr (.inl ⟨rfl, _, (List.Mem.tail _ (List.Mem.head _)), rfl, rfl, (fun _ _ h => h)⟩), .inr (.inl ⟨rfl, _, (List.Mem.tail _ (List.Mem.tail _ (List.Mem.head _))), rfl, rfl, (fun _ _ h => h)⟩), .inr (.inl ⟨rfl, _, (List.Mem.tail _ (List.Mem.tail _ (List.Mem.tail _ (List.Mem.head _)))), rfl, rfl, (fun _ _ h => h)⟩), .inr (.inl ⟨rfl, _, (List.Mem.tail _ (List.Mem.tail _ (List.Mem.tail _ (List.Mem.tail _ (List.Mem.head _))))), rfl, rfl, (fun _ _ h => h)⟩), .inr (.inl ⟨rfl, _, (List.Mem.tail _ (List.Mem.tail _ (List.Mem.tail _ (List.Mem.tail _ (List.Mem.tail _ (List.Mem.head _)))))), rfl, rfl, (fun _ _ h => h)⟩), trivial⟩
    ⟨.inr ⟨(by kernel_rfl), _, (List.Mem.head _), rfl, (fun _ _ h => h)⟩, .inr ⟨(by kernel_rfl), _, (List.Mem.tail _ (List.Mem.head _)), rfl, (fun _ _ h => h)⟩, .inr ⟨(by kernel_rfl), _, (List.Mem.tail _ (List.Mem.tail _ (List.Mem.head _))), rfl, (fun _ _ h => h)⟩, .inr ⟨(by kernel_rfl), _, (List.Mem.tail _ (List.Mem.tail _ (List.Mem.tail _ (List.Mem.head _)))), rfl, (fun _ _ h => h)⟩, .inr ⟨(by kernel_rfl), _, (List.Mem.tail _ (List.Mem.tail _ (List.Mem.tail _ (List.Mem.tail _ (List.Mem.head _))))), rfl, (fun _ _ h => h)⟩, .inr ⟨(by kernel_rfl), _, (List.Mem.tail _ (List.Mem.tail _ (List.Mem.tail _ (List.Mem.tail _ (List.Mem.tail _ (List.Mem.head _)))))), rfl, (fun _ _ h => h)⟩, .inr ⟨(by kernel_rfl), _, (List.Mem.tail _ (List.Mem.tail _ (List.Mem.tail _ (List.Mem.tail _ (List.Mem.tail _ (List.Mem.tail _ (List.Mem.head _))))))), rfl, (fun _ _ h => h)⟩, .inl ⟨(by kernel_rfl), rfl, (fun _ _ h => h)⟩, trivial⟩
    (steps (m := 6) (by kernel_rfl) ⟨stepN (i := 0) (dst := some 53) (op := (.load 30 (.tmp 7))) (by kernel_rfl) (loadV (List.Mem.tail _ (List.Mem.head _)) (by kernel_rfl) (fun _ _ h => h)),
      stepN (i := 1) (dst := some 54) (op := (.call { callee := .value (.func 33), args := #[(.tmp 53)], argTypes := #[30] })) (by kernel_rfl) (call1 (enters_of Tryz.func33 (by kernel_rfl) rfl) (argT (p := (isQ (numQ a0 b0 m0) 5)) (by kernel_rfl) (fun _ _ h => h)) (fun w u1 h1 => den_q h1) (fun _ _ h => h)),
      stepN (i := 2) (dst := some 55) (op := (.buildSlice 22 1 #[(0, (.const (.int .u64 1)))])) (by kernel_rfl) (buildOneZ (x := 1) (small_lt (by decide)) (fun _ _ h => h)),
      stepN (i := 3) (dst := some 56) (op := (.call { callee := .value (.func 27), args := #[(.tmp 55)], argTypes := #[22] })) (by kernel_rfl) (call1 (enters_of Tryz.func27 (by kernel_rfl) rfl) (argT (p := (isS ([1]))) (by kernel_rfl) (fun _ _ h => h)) (fun w u1 h1 => of_one h1) (fun _ _ h => h)),
      stepN (i := 4) (dst := some 57) (op := (.call { callee := .value (.func 36), args := #[(.tmp 54), (.tmp 56)], argTypes := #[26, 26] })) (by kernel_rfl) (call2 (enters_of Tryz.func36 (by kernel_rfl) rfl) (argT (p := (isN ((numQ a0 b0 m0).den) 5)) (by kernel_rfl) (fun _ _ h => h)) (argT (p := (isN 1 1)) (by kernel_rfl) (fun _ _ h => h)) (fun w u1 u2 h1 h2 => cmp_n h1 h2 (by omega)) (fun _ _ h => h)),
      stepN (i := 5) (dst := some 58) (op := (.binOp .neq 3 (.tmp 57) (.const (.int .i64 0)) 3)) (by kernel_rfl) (neq (m := (Mx.cmp ((numQ a0 b0 m0).den) 1)) (n := 0) (argT (p := (isE (.int .i64 (Mx.cmp ((numQ a0 b0 m0).den) 1)))) (by kernel_rfl) (fun _ _ h => h)) (argC (.int .i64 0)) (fun w v h => h.trans (congrArg Value.bool (by rw [cmp_zero hd]; rfl)))), trivial⟩) ?_
  clear hS kf ac
  try clear w
  intro kf ac w hS
  refine cond_true (q := (isE (.bool true))) hS (List.Mem.tail _ (List.Mem.tail _ (List.Mem.tail _ (List.Mem.tail _ (List.Mem.tail _ (List.Mem.tail _ (List.Mem.tail _ (List.Mem.head _)))))))) (fun _ _ h => h) ?_
  refine region_then (s := soft) (kf0 := kf) (by kernel_rfl) hS (Rg.look [(59, (isT (ztext ((numQ a0 b0 m0).num)))),
      (60, (isQ (numQ a0 b0 m0) 5)),
      (61, (isN ((numQ a0 b0 m0).den) 5)),
      (62, (isT (Tx.text ((numQ a0 b0 m0).den)))),
      (63, (isT ([47] ++ Tx.text ((numQ a0 b0 m0).den)))),
      (64, (isT (ztext ((numQ a0 b0 m0).num) ++ ([47] ++ Tx.text ((numQ a0 b0 m0).den))))),
      (13, (isT (ztext ((numQ a0 b0 m0).num) ++ ([47] ++ Tx.text ((numQ a0 b0 m0).den)))))])
    ⟨[], []⟩ [⟨3, 24, (isM a0 b0 m0)⟩, ⟨7, 30, (isQ (numQ a0 b0 m0) 5)⟩, ⟨8, 35, (isR (numQ a0 b0 m0) 32)⟩, ⟨9, 28, (isW (signed (Mx.val (l.take 3)) m) 4)⟩, ⟨10, 30, (isQ (((((numQ a0 b0 m0).num) * (signed (Mx.val (l.take 3)) m) : Int) : Rat) / (((signed ((numQ a0 b0 m0).den) false) * (signed (Mx.val (l.take 3)) m) : Int) : Rat)) (max (5 + 4) (5 + 4) + 1))⟩, ⟨12, 26, (isN (Nat.gcd (Int.natAbs ((numQ a0 b0 m0).num)) ((numQ a0 b0 m0).den)) 5)⟩] [(6, (isE (.bool false))), (0, (isM a0 b0 m0)), (1, (isS l)), (2, (isE (.bool m))), (29, (isE (.bool false))), (11, (isE (.int .i64 0))), (58, (isE (.bool true))), (13, (isT (ztext ((numQ a0 b0 m0).num) ++ ([47] ++ Tx.text ((numQ a0 b0 m0).den)))))] (by kernel_rfl) (by kernel_rfl) (look_stb _ ⟨(stb_eq _), (stb_Q _ _), (stb_N _ _), (stb_eq _), (stb_eq _), (stb_eq _), (stb_eq _), trivial⟩) ⟨(stb_M _ _ _), (stb_Q _ _), (stb_R _ _), (stb_W _ _), (stb_Q _ _), (stb_N _ _), trivial⟩ ⟨(stb_eq _), (stb_M _ _ _), (stb_S _), (stb_eq _), (stb_eq _), (stb_eq _), (stb_eq _), (stb_eq _), trivial⟩ trivial trivial
    ⟨.inr (.inl ⟨rfl, _, (List.Mem.head _), rfl, rfl, (fun _ _ h => h)⟩), .inr (.inl ⟨rfl, _, (List.Mem.tail _ (List.Mem.head _)), rfl, rfl, (fun _ _ h => h)⟩), .inr (.inl ⟨rfl, _, (List.Mem.tail _ (List.Mem.tail _ (List.Mem.head _))), rfl, rfl, (fun _ _ h => h)⟩), .inr (.inl ⟨rfl, _, (List.Mem.tail _ (List.Mem.tail _ (List.Mem.tail _ (List.Mem.head _)))), rfl, rfl, (fun _ _ h => h)⟩), .inr (.inl ⟨rfl, _, (List.Mem.tail _ (List.Mem.tail _ (List.Mem.tail _ (List.Mem.tail _ (List.Mem.head _))))), rfl, rfl, (fun _ _ h => h)⟩), .inr (.inl ⟨rfl, _, (List.Mem.tail _ (List.Mem.tail _ (List.Mem.tail _ (List.Mem.tail _ (List.Mem.tail _ (List.Mem.head _)))))), rfl, rfl, (fun _ _ h => h)⟩), trivial⟩
    ⟨.inr ⟨(by kernel_rfl), _, (List.Mem.head _), rfl, (fun _ _ h => h)⟩, .inr ⟨(by kernel_rfl), _, (List.Mem.tail _ (List.Mem.head _)), rfl, (fun _ _ h => h)⟩, .inr ⟨(by kernel_rfl), _, (List.Mem.tail _ (List.Mem.tail _ (List.Mem.head _))), rfl, (fun _ _ h => h)⟩, .inr ⟨(by kernel_rfl), _, (List.Mem.tail _ (List.Mem.tail _ (List.Mem.tail _ (List.Mem.head _)))), rfl, (fun _ _ h => h)⟩, .inr ⟨(by kernel_rfl), _, (List.Mem.tail _ (List.Mem.tail _ (List.Mem.tail _ (List.Mem.tail _ (List.Mem.head _))))), rfl, (fun _ _ h => h)⟩, .inr ⟨(by kernel_rfl), _, (List.Mem.tail _ (List.Mem.tail _ (List.Mem.tail _ (List.Mem.tail _ (List.Mem.tail _ (List.Mem.head _)))))), rfl, (fun _ _ h => h)⟩, .inr ⟨(by kernel_rfl), _, (List.Mem.tail _ (List.Mem.tail _ (List.Mem.tail _ (List.Mem.tail _ (List.Mem.tail _ (List.Mem.tail _ (List.Mem.tail _ (List.Mem.head _)))))))), rfl, (fun _ _ h => h)⟩, .inl ⟨(by kernel_rfl), rfl, (fun _ _ h => h)⟩, trivial⟩
    (steps (m := 7) (by kernel_rfl) ⟨stepN (i := 0) (dst := some 59) (op := (.move (.tmp 13))) (by kernel_rfl) (move (argO (p := (isT (ztext ((numQ a0 b0 m0).num)))) (List.Mem.tail _ (List.Mem.tail _ (List.Mem.tail _ (List.Mem.tail _ (List.Mem.tail _ (List.Mem.tail _ (List.Mem.head _))))))) (by kernel_rfl)) (fun _ _ h => h)),
      stepN (i := 1) (dst := some 60) (op := (.load 30 (.tmp 7))) (by kernel_rfl) (loadV (List.Mem.tail _ (List.Mem.head _)) (by kernel_rfl) (fun _ _ h => h)),
      stepN (i := 2) (dst := some 61) (op := (.call { callee := .value (.func 33), args := #[(.tmp 60)], argTypes := #[30] })) (by kernel_rfl) (call1 (enters_of Tryz.func33 (by kernel_rfl) rfl) (argT (p := (isQ (numQ a0 b0 m0) 5)) (by kernel_rfl) (fun _ _ h => h)) (fun w u1 h1 => den_q h1) (fun _ _ h => h)),
      stepN (i := 3) (dst := some 62) (op := (.call { callee := .value (.func 37), args := #[(.tmp 61)], argTypes := #[26] })) (by kernel_rfl) (call1 (enters_of Tryz.func37 (by kernel_rfl) rfl) (argT (p := (isN ((numQ a0 b0 m0).den) 5)) (by kernel_rfl) (fun _ _ h => h)) (fun w u1 h1 => print_any _ _ _ _ h1 (by omega)) (fun _ _ h => h)),
      stepN (i := 4) (dst := some 63) (op := (.binOp .add 9 (.const (.string (str [47]))) (.tmp 62) 9)) (by kernel_rfl) (addS (l := [47]) (r := Tx.text ((numQ a0 b0 m0).den)) (argC _) (argT (p := (isT (Tx.text ((numQ a0 b0 m0).den)))) (by kernel_rfl) (fun _ _ h => h)) (by simp; omega) (fun _ _ h => h)),
      stepN (i := 5) (dst := some 64) (op := (.binOp .add 9 (.tmp 59) (.tmp 63) 9)) (by kernel_rfl) (addS (l := ztext ((numQ a0 b0 m0).num)) (r := [47] ++ Tx.text ((numQ a0 b0 m0).den)) (argT (p := (isT (ztext ((numQ a0 b0 m0).num)))) (by kernel_rfl) (fun _ _ h => h)) (argT (p := (isT ([47] ++ Tx.text ((numQ a0 b0 m0).den)))) (by kernel_rfl) (fun _ _ h => h)) (by simp; omega) (fun _ _ h => h)),
      stepN (i := 6) (dst := some 13) (op := (.assign (.tmp 64))) (by kernel_rfl) (assign (argT (p := (isT (ztext ((numQ a0 b0 m0).num) ++ ([47] ++ Tx.text ((numQ a0 b0 m0).den))))) (by kernel_rfl) (fun _ _ h => h)) (fun _ _ h => h)), trivial⟩) ?_
  clear hS kf ac
  try clear w
  intro kf ac w hS
  refine region_seq (s := soft) (kf0 := kf) (by kernel_rfl) hS (Rg.look [(65, (isE (.bool true))),
      (66, (isE (.bool true))),
      (67, (isE (.int .i64 0))),
      (68, (isE (.bool true))),
      (69, (isE (.bool true))),
      (70, (isE (.bool true))),
      (71, (isQ (((((numQ a0 b0 m0).num) * (signed (Mx.val (l.take 3)) m) : Int) : Rat) / (((signed ((numQ a0 b0 m0).den) false) * (signed (Mx.val (l.take 3)) m) : Int) : Rat)) (max (5 + 4) (5 + 4) + 1))),
      (72, (isQ (numQ a0 b0 m0) 5)),
      (73, (isE (.int .i64 (cmpQ (((((numQ a0 b0 m0).num) * (signed (Mx.val (l.take 3)) m) : Int) : Rat) / (((signed ((numQ a0 b0 m0).den) false) * (signed (Mx.val (l.take 3)) m) : Int) : Rat)) (numQ a0 b0 m0))))),
      (74, (isE (.bool true))),
      (75, (isE (.bool true))),
      (76, (isE (.bool true))),
      (77, (isQ (((((numQ a0 b0 m0).num) * (signed (Mx.val (l.take 3)) m) : Int) : Rat) / (((signed ((numQ a0 b0 m0).den) false) * (signed (Mx.val (l.take 3)) m) : Int) : Rat)) (max (5 + 4) (5 + 4) + 1))),
      (78, (isT (qtext (((((numQ a0 b0 m0).num) * (signed (Mx.val (l.take 3)) m) : Int) : Rat) / (((signed ((numQ a0 b0 m0).den) false) * (signed (Mx.val (l.take 3)) m) : Int) : Rat))))),
      (79, (isQ (numQ a0 b0 m0) 5)),
      (80, (isT (qtext (numQ a0 b0 m0)))),
      (81, (isE (.bool true))),
      (82, (isE (.bool true))),
      (83, (isE (.bool true))),
      (84, (isN (Nat.gcd (Int.natAbs ((numQ a0 b0 m0).num)) ((numQ a0 b0 m0).den)) 5)),
      (85, (isS ([1]))),
      (86, (isN 1 1)),
      (87, (isE (.int .i64 (Mx.cmp (Nat.gcd (Int.natAbs ((numQ a0 b0 m0).num)) ((numQ a0 b0 m0).den)) 1)))),
      (88, (isE (.bool true))),
      (89, (isE (.bool true))),
      (90, (isE (.bool true))),
      (91, (isQ (numQ a0 b0 m0) 5)),
      (92, (isT (qtext (numQ a0 b0 m0)))),
      (93, (isT (ztext ((numQ a0 b0 m0).num) ++ ([47] ++ Tx.text ((numQ a0 b0 m0).den))))),
      (94, (isE (.bool true))),
      (95, (isE (.bool true))),
      (96, (isE (.bool true))),
      (97, (isQ (numQ a0 b0 m0) 5)),
      (98, (isT (qtext (numQ a0 b0 m0)))),
      (99, (isR (numQ a0 b0 m0) 32)),
      (100, (isT (qtext (numQ a0 b0 m0)))),
      (101, (isE (.bool true))),
      (102, (isE (.bool true))),
      (103, (isE (.bool true))),
      (104, (isW (signed (Mx.val (l.take 3)) m) 4)),
      (105, (isQ ((signed (Mx.val (l.take 3)) m : Int) : Rat) (max 4 1))),
      (106, (isT (qtext ((signed (Mx.val (l.take 3)) m : Int) : Rat)))),
      (107, (isW (signed (Mx.val (l.take 3)) m) 4)),
      (108, (isT (ztext (signed (Mx.val (l.take 3)) m)))),
      (109, (isE (.bool true))),
      (110, (isE (.bool true))),
      (111, (isE (.bool true))),
      (112, (isQ (numQ a0 b0 m0) 5)),
      (113, (isE (.int .i64 (Int.sign ((numQ a0 b0 m0).num))))),
      (114, (isQ (numQ a0 b0 m0) 5)),
      (115, (isW ((numQ a0 b0 m0).num) 5)),
      (116, (isE (.int .i64 (Int.sign ((numQ a0 b0 m0).num))))),
      (117, (isE (.bool true))),
      (118, (isE (.bool true))),
      (6, (isE (.bool true)))])
    ⟨[], []⟩ [⟨3, 24, (isM a0 b0 m0)⟩, ⟨7, 30, (isQ (numQ a0 b0 m0) 5)⟩, ⟨8, 35, (isR (numQ a0 b0 m0) 32)⟩, ⟨9, 28, (isW (signed (Mx.val (l.take 3)) m) 4)⟩, ⟨10, 30, (isQ (((((numQ a0 b0 m0).num) * (signed (Mx.val (l.take 3)) m) : Int) : Rat) / (((signed ((numQ a0 b0 m0).den) false) * (signed (Mx.val (l.take 3)) m) : Int) : Rat)) (max (5 + 4) (5 + 4) + 1))⟩, ⟨12, 26, (isN (Nat.gcd (Int.natAbs ((numQ a0 b0 m0).num)) ((numQ a0 b0 m0).den)) 5)⟩] [(0, (isM a0 b0 m0)), (1, (isS l)), (2, (isE (.bool m))), (29, (isE (.bool false))), (11, (isE (.int .i64 0))), (58, (isE (.bool true))), (13, (isT (ztext ((numQ a0 b0 m0).num) ++ ([47] ++ Tx.text ((numQ a0 b0 m0).den))))), (6, (isE (.bool true)))] (by kernel_rfl) (by kernel_rfl) (look_stb _ ⟨(stb_eq _), (stb_eq _), (stb_eq _), (stb_eq _), (stb_eq _), (stb_eq _), (stb_Q _ _), (stb_Q _ _), (stb_eq _), (stb_eq _), (stb_eq _), (stb_eq _), (stb_Q _ _), (stb_eq _), (stb_Q _ _), (stb_eq _), (stb_eq _), (stb_eq _), (stb_eq _), (stb_N _ _), (stb_S _), (stb_N _ _), (stb_eq _), (stb_eq _), (stb_eq _), (stb_eq _), (stb_Q _ _), (stb_eq _), (stb_eq _), (stb_eq _), (stb_eq _), (stb_eq _), (stb_Q _ _), (stb_eq _), (stb_R _ _), (stb_eq _), (stb_eq _), (stb_eq _), (stb_eq _), (stb_W _ _), (stb_Q _ _), (stb_eq _), (stb_W _ _), (stb_eq _), (stb_eq _), (stb_eq _), (stb_eq _), (stb_Q _ _), (stb_eq _), (stb_Q _ _), (stb_W _ _), (stb_eq _), (stb_eq _), (stb_eq _), (stb_eq _), trivial⟩) ⟨(stb_M _ _ _), (stb_Q _ _), (stb_R _ _), (stb_W _ _), (stb_Q _ _), (stb_N _ _), trivial⟩ ⟨(stb_eq _), (stb_M _ _ _), (stb_S _), (stb_eq _), (stb_eq _), (stb_eq _), (stb_eq _), (stb_eq _), trivial⟩ trivial trivial
    ⟨.inr (.inl ⟨rfl, _, (List.Mem.head _), rfl, rfl, (fun _ _ h => h)⟩), .inr (.inl ⟨rfl, _, (List.Mem.tail _ (List.Mem.head _)), rfl, rfl, (fun _ _ h => h)⟩), .inr (.inl ⟨rfl, _, (List.Mem.tail _ (List.Mem.tail _ (List.Mem.head _))), rfl, rfl, (fun _ _ h => h)⟩), .inr (.inl ⟨rfl, _, (List.Mem.tail _ (List.Mem.tail _ (List.Mem.tail _ (List.Mem.head _)))), rfl, rfl, (fun _ _ h => h)⟩), .inr (.inl ⟨rfl, _, (List.Mem.tail _ (List.Mem.tail _ (List.Mem.tail _ (List.Mem.tail _ (List.Mem.head _))))), rfl, rfl, (fun _ _ h => h)⟩), .inr (.inl ⟨rfl, _, (List.Mem.tail _ (List.Mem.tail _ (List.Mem.tail _ (List.Mem.tail _ (List.Mem.tail _ (List.Mem.head _)))))), rfl, rfl, (fun _ _ h => h)⟩), trivial⟩
    ⟨.inr ⟨(by kernel_rfl), _, (List.Mem.tail _ (List.Mem.head _)), rfl, (fun _ _ h => h)⟩, .inr ⟨(by kernel_rfl), _, (List.Mem.tail _ (List.Mem.tail _ (List.Mem.head _))), rfl, (fun _ _ h => h)⟩, .inr ⟨(by kernel_rfl), _, (List.Mem.tail _ (List.Mem.tail _ (List.Mem.tail _ (List.Mem.head _)))), rfl, (fun _ _ h => h)⟩, .inr ⟨(by kernel_rfl), _, (List.Mem.tail _ (List.Mem.tail _ (List.Mem.tail _ (List.Mem.tail _ (List.Mem.head _))))), rfl, (fun _ _ h => h)⟩, .inr ⟨(by kernel_rfl), _, (List.Mem.tail _ (List.Mem.tail _ (List.Mem.tail _ (List.Mem.tail _ (List.Mem.tail _ (List.Mem.head _)))))), rfl, (fun _ _ h => h)⟩, .inr ⟨(by kernel_rfl), _, (List.Mem.tail _ (List.Mem.tail _ (List.Mem.tail _ (List.Mem.tail _ (List.Mem.tail _ (List.Mem.tail _ (List.Mem.head _))))))), rfl, (fun _ _ h => h)⟩, .inr ⟨(by kernel_rfl), _, (List.Mem.tail _ (List.Mem.tail _ (List.Mem.tail _ (List.Mem.tail _ (List.Mem.tail _ (List.Mem.tail _ (List.Mem.tail _ (List.Mem.head _)))))))), rfl, (fun _ _ h => h)⟩, .inl ⟨(by kernel_rfl), rfl, (fun _ _ h => h)⟩, trivial⟩
    (steps (m := 55) (by kernel_rfl) ⟨stepN (i := 0) (dst := some 65) (op := (.call { callee := .value (.func 11), args := #[], argTypes := #[] })) (by kernel_rfl) (call0 (enters_of Tryz.func11 (by kernel_rfl) rfl) (fun w => wakes5 w) (fun _ _ h => h)),
      stepN (i := 1) (dst := some 66) (op := (.move (.tmp 65))) (by kernel_rfl) (move (argT (p := (isE (.bool true))) (by kernel_rfl) (fun _ _ h => h)) (fun _ _ h => h)),
      stepG (i := 2) (j := 1) (dj := 66) (b := true) (dst := some 67) (op := (.move (.tmp 11))) (by kernel_rfl) (by kernel_rfl) (by kernel_rfl) (fun _ _ h => h) (move (argO (p := (isE (.int .i64 0))) (List.Mem.tail _ (List.Mem.tail _ (List.Mem.tail _ (List.Mem.tail _ (List.Mem.tail _ (List.Mem.head _)))))) (by kernel_rfl)) (fun _ _ h => h)),
      stepG (i := 3) (j := 1) (dj := 66) (b := true) (dst := some 68) (op := (.binOp .eql 38 (.tmp 67) (.const (.int .i64 0)) 38)) (by kernel_rfl) (by kernel_rfl) (by kernel_rfl) (fun _ _ h => h) (eql (m := 0) (n := 0) (argT (p := (isE (.int .i64 0))) (by kernel_rfl) (fun _ _ h => h)) (argC (.int .i64 0)) (fun w v h => h.trans (congrArg Value.bool (rfl)))),
      stepN (i := 4) (dst := some 69) (op := (.pick (.tmp 66) (.tmp 68) (.const (.bool false)))) (by kernel_rfl) (pickT (argT (p := (isE (.bool true))) (by kernel_rfl) (fun _ _ h => h)) (argT (p := (isE (.bool true))) (by kernel_rfl) (fun _ _ h => h)) (fun _ _ h => h)),
      stepN (i := 5) (dst := some 70) (op := (.move (.tmp 69))) (by kernel_rfl) (move (argT (p := (isE (.bool true))) (by kernel_rfl) (fun _ _ h => h)) (fun _ _ h => h)),
      stepG (i := 6) (j := 5) (dj := 70) (b := true) (dst := some 71) (op := (.load 30 (.tmp 10))) (by kernel_rfl) (by kernel_rfl) (by kernel_rfl) (fun _ _ h => h) (loadV (List.Mem.tail _ (List.Mem.tail _ (List.Mem.tail _ (List.Mem.tail _ (List.Mem.head _))))) (by kernel_rfl) (fun _ _ h => h)),
      stepG (i := 7) (j := 5) (dj := 70) (b := true) (dst := some 72) (op := (.load 30 (.tmp 7))) (by kernel_rfl) (by kernel_rfl) (by kernel_rfl) (fun _ _ h => h) (loadV (List.Mem.tail _ (List.Mem.head _)) (by kernel_rfl) (fun _ _ h => h)),
      stepG (i := 8) (j := 5) (dj := 70) (b := true) (dst := some 73) (op := (.call { callee := .value (.func 18), args := #[(.tmp 71), (.tmp 72)], argTypes := #[30, 30] })) (by kernel_rfl) (by kernel_rfl) (by kernel_rfl) (fun _ _ h => h) (call2 (enters_of Tryz.func18 (by kernel_rfl) rfl) (argT (p := (isQ (((((numQ a0 b0 m0).num) * (signed (Mx.val (l.take 3)) m) : Int) : Rat) / (((signed ((numQ a0 b0 m0).den) false) * (signed (Mx.val (l.take 3)) m) : Int) : Rat)) (max (5 + 4) (5 + 4) + 1))) (by kernel_rfl) (fun _ _ h => h)) (argT (p := (isQ (numQ a0 b0 m0) 5)) (by kernel_rfl) (fun _ _ h => h)) (fun w u1 u2 h1 h2 => cmp_q h1 h2 (by omega) (by omega)) (fun _ _ h => h)),
      stepG (i := 9) (j := 5) (dj := 70) (b := true) (dst := some 74) (op := (.binOp .eql 3 (.tmp 73) (.const (.int .i64 0)) 3)) (by kernel_rfl) (by kernel_rfl) (by kernel_rfl) (fun _ _ h => h) (eql (m := (cmpQ (((((numQ a0 b0 m0).num) * (signed (Mx.val (l.take 3)) m) : Int) : Rat) / (((signed ((numQ a0 b0 m0).den) false) * (signed (Mx.val (l.take 3)) m) : Int) : Rat)) (numQ a0 b0 m0))) (n := 0) (argT (p := (isE (.int .i64 (cmpQ (((((numQ a0 b0 m0).num) * (signed (Mx.val (l.take 3)) m) : Int) : Rat) / (((signed ((numQ a0 b0 m0).den) false) * (signed (Mx.val (l.take 3)) m) : Int) : Rat)) (numQ a0 b0 m0))))) (by kernel_rfl) (fun _ _ h => h)) (argC (.int .i64 0)) (fun w v h => h.trans (congrArg Value.bool (cmp_id (times_both _ hk))))),
      stepN (i := 10) (dst := some 75) (op := (.pick (.tmp 70) (.tmp 74) (.const (.bool false)))) (by kernel_rfl) (pickT (argT (p := (isE (.bool true))) (by kernel_rfl) (fun _ _ h => h)) (argT (p := (isE (.bool true))) (by kernel_rfl) (fun _ _ h => h)) (fun _ _ h => h)),
      stepN (i := 11) (dst := some 76) (op := (.move (.tmp 75))) (by kernel_rfl) (move (argT (p := (isE (.bool true))) (by kernel_rfl) (fun _ _ h => h)) (fun _ _ h => h)),
      stepG (i := 12) (j := 11) (dj := 76) (b := true) (dst := some 77) (op := (.load 30 (.tmp 10))) (by kernel_rfl) (by kernel_rfl) (by kernel_rfl) (fun _ _ h => h) (loadV (List.Mem.tail _ (List.Mem.tail _ (List.Mem.tail _ (List.Mem.tail _ (List.Mem.head _))))) (by kernel_rfl) (fun _ _ h => h)),
      stepG (i := 13) (j := 11) (dj := 76) (b := true) (dst := some 78) (op := (.call { callee := .value (.func 8), args := #[(.tmp 77)], argTypes := #[30] })) (by kernel_rfl) (by kernel_rfl) (by kernel_rfl) (fun _ _ h => h) (call1 (enters_of Tryz.func8 (by kernel_rfl) rfl) (argT (p := (isQ (((((numQ a0 b0 m0).num) * (signed (Mx.val (l.take 3)) m) : Int) : Rat) / (((signed ((numQ a0 b0 m0).den) false) * (signed (Mx.val (l.take 3)) m) : Int) : Rat)) (max (5 + 4) (5 + 4) + 1))) (by kernel_rfl) (fun _ _ h => h)) (fun w u1 h1 => print_q h1 (by omega)) (fun _ _ h => h)),
      stepG (i := 14) (j := 11) (dj := 76) (b := true) (dst := some 79) (op := (.load 30 (.tmp 7))) (by kernel_rfl) (by kernel_rfl) (by kernel_rfl) (fun _ _ h => h) (loadV (List.Mem.tail _ (List.Mem.head _)) (by kernel_rfl) (fun _ _ h => h)),
      stepG (i := 15) (j := 11) (dj := 76) (b := true) (dst := some 80) (op := (.call { callee := .value (.func 8), args := #[(.tmp 79)], argTypes := #[30] })) (by kernel_rfl) (by kernel_rfl) (by kernel_rfl) (fun _ _ h => h) (call1 (enters_of Tryz.func8 (by kernel_rfl) rfl) (argT (p := (isQ (numQ a0 b0 m0) 5)) (by kernel_rfl) (fun _ _ h => h)) (fun w u1 h1 => print_q h1 (by omega)) (fun _ _ h => h)),
      stepG (i := 16) (j := 11) (dj := 76) (b := true) (dst := some 81) (op := (.binOp .eql 9 (.tmp 78) (.tmp 80) 9)) (by kernel_rfl) (by kernel_rfl) (by kernel_rfl) (fun _ _ h => h) (eqlS (l := qtext (((((numQ a0 b0 m0).num) * (signed (Mx.val (l.take 3)) m) : Int) : Rat) / (((signed ((numQ a0 b0 m0).den) false) * (signed (Mx.val (l.take 3)) m) : Int) : Rat))) (r := qtext (numQ a0 b0 m0)) (argT (p := (isT (qtext (((((numQ a0 b0 m0).num) * (signed (Mx.val (l.take 3)) m) : Int) : Rat) / (((signed ((numQ a0 b0 m0).den) false) * (signed (Mx.val (l.take 3)) m) : Int) : Rat))))) (by kernel_rfl) (fun _ _ h => h)) (argT (p := (isT (qtext (numQ a0 b0 m0)))) (by kernel_rfl) (fun _ _ h => h)) (fun w v h => h.trans (congrArg Value.bool (qtext_eq (times_both _ hk))))),
      stepN (i := 17) (dst := some 82) (op := (.pick (.tmp 76) (.tmp 81) (.const (.bool false)))) (by kernel_rfl) (pickT (argT (p := (isE (.bool true))) (by kernel_rfl) (fun _ _ h => h)) (argT (p := (isE (.bool true))) (by kernel_rfl) (fun _ _ h => h)) (fun _ _ h => h)),
      stepN (i := 18) (dst := some 83) (op := (.move (.tmp 82))) (by kernel_rfl) (move (argT (p := (isE (.bool true))) (by kernel_rfl) (fun _ _ h => h)) (fun _ _ h => h)),
      stepG (i := 19) (j := 18) (dj := 83) (b := true) (dst := some 84) (op := (.load 26 (.tmp 12))) (by kernel_rfl) (by kernel_rfl) (by kernel_rfl) (fun _ _ h => h) (loadV (List.Mem.tail _ (List.Mem.tail _ (List.Mem.tail _ (List.Mem.tail _ (List.Mem.tail _ (List.Mem.head _)))))) (by kernel_rfl) (fun _ _ h => h)),
      stepG (i := 20) (j := 18) (dj := 83) (b := true) (dst := some 85) (op := (.buildSlice 22 1 #[(0, (.const (.int .u64 1)))])) (by kernel_rfl) (by kernel_rfl) (by kernel_rfl) (fun _ _ h => h) (buildOneZ (x := 1) (small_lt (by decide)) (fun _ _ h => h)),
      stepG (i := 21) (j := 18) (dj := 83) (b := true) (dst := some 86) (op := (.call { callee := .value (.func 27), args := #[(.tmp 85)], argTypes := #[22] })) (by kernel_rfl) (by kernel_rfl) (by kernel_rfl) (fun _ _ h => h) (call1 (enters_of Tryz.func27 (by kernel_rfl) rfl) (argT (p := (isS ([1]))) (by kernel_rfl) (fun _ _ h => h)) (fun w u1 h1 => of_one h1) (fun _ _ h => h)),
      stepG (i := 22) (j := 18) (dj := 83) (b := true) (dst := some 87) (op := (.call { callee := .value (.func 36), args := #[(.tmp 84), (.tmp 86)], argTypes := #[26, 26] })) (by kernel_rfl) (by kernel_rfl) (by kernel_rfl) (fun _ _ h => h) (call2 (enters_of Tryz.func36 (by kernel_rfl) rfl) (argT (p := (isN (Nat.gcd (Int.natAbs ((numQ a0 b0 m0).num)) ((numQ a0 b0 m0).den)) 5)) (by kernel_rfl) (fun _ _ h => h)) (argT (p := (isN 1 1)) (by kernel_rfl) (fun _ _ h => h)) (fun w u1 u2 h1 h2 => cmp_n h1 h2 (by omega)) (fun _ _ h => h)),
      stepG (i := 23) (j := 18) (dj := 83) (b := true) (dst := some 88) (op := (.binOp .eql 3 (.tmp 87) (.const (.int .i64 0)) 3)) (by kernel_rfl) (by kernel_rfl) (by kernel_rfl) (fun _ _ h => h) (eql (m := (Mx.cmp (Nat.gcd (Int.natAbs ((numQ a0 b0 m0).num)) ((numQ a0 b0 m0).den)) 1)) (n := 0) (argT (p := (isE (.int .i64 (Mx.cmp (Nat.gcd (Int.natAbs ((numQ a0 b0 m0).num)) ((numQ a0 b0 m0).den)) 1)))) (by kernel_rfl) (fun _ _ h => h)) (argC (.int .i64 0)) (fun w v h => h.trans (congrArg Value.bool (low_gcd _)))),
      stepN (i := 24) (dst := some 89) (op := (.pick (.tmp 83) (.tmp 88) (.const (.bool false)))) (by kernel_rfl) (pickT (argT (p := (isE (.bool true))) (by kernel_rfl) (fun _ _ h => h)) (argT (p := (isE (.bool true))) (by kernel_rfl) (fun _ _ h => h)) (fun _ _ h => h)),
      stepN (i := 25) (dst := some 90) (op := (.move (.tmp 89))) (by kernel_rfl) (move (argT (p := (isE (.bool true))) (by kernel_rfl) (fun _ _ h => h)) (fun _ _ h => h)),
      stepG (i := 26) (j := 25) (dj := 90) (b := true) (dst := some 91) (op := (.load 30 (.tmp 7))) (by kernel_rfl) (by kernel_rfl) (by kernel_rfl) (fun _ _ h => h) (loadV (List.Mem.tail _ (List.Mem.head _)) (by kernel_rfl) (fun _ _ h => h)),
      stepG (i := 27) (j := 25) (dj := 90) (b := true) (dst := some 92) (op := (.call { callee := .value (.func 8), args := #[(.tmp 91)], argTypes := #[30] })) (by kernel_rfl) (by kernel_rfl) (by kernel_rfl) (fun _ _ h => h) (call1 (enters_of Tryz.func8 (by kernel_rfl) rfl) (argT (p := (isQ (numQ a0 b0 m0) 5)) (by kernel_rfl) (fun _ _ h => h)) (fun w u1 h1 => print_q h1 (by omega)) (fun _ _ h => h)),
      stepG (i := 28) (j := 25) (dj := 90) (b := true) (dst := some 93) (op := (.move (.tmp 13))) (by kernel_rfl) (by kernel_rfl) (by kernel_rfl) (fun _ _ h => h) (move (argO (p := (isT (ztext ((numQ a0 b0 m0).num) ++ ([47] ++ Tx.text ((numQ a0 b0 m0).den))))) (List.Mem.tail _ (List.Mem.tail _ (List.Mem.tail _ (List.Mem.tail _ (List.Mem.tail _ (List.Mem.tail _ (List.Mem.tail _ (List.Mem.head _)))))))) (by kernel_rfl)) (fun _ _ h => h)),
      stepG (i := 29) (j := 25) (dj := 90) (b := true) (dst := some 94) (op := (.binOp .eql 9 (.tmp 92) (.tmp 93) 9)) (by kernel_rfl) (by kernel_rfl) (by kernel_rfl) (fun _ _ h => h) (eqlS (l := qtext (numQ a0 b0 m0)) (r := ztext ((numQ a0 b0 m0).num) ++ ([47] ++ Tx.text ((numQ a0 b0 m0).den))) (argT (p := (isT (qtext (numQ a0 b0 m0)))) (by kernel_rfl) (fun _ _ h => h)) (argT (p := (isT (ztext ((numQ a0 b0 m0).num) ++ ([47] ++ Tx.text ((numQ a0 b0 m0).den))))) (by kernel_rfl) (fun _ _ h => h)) (fun w v h => h.trans (congrArg Value.bool (by rw [qtext, if_neg hd]; simp)))),
      stepN (i := 30) (dst := some 95) (op := (.pick (.tmp 90) (.tmp 94) (.const (.bool false)))) (by kernel_rfl) (pickT (argT (p := (isE (.bool true))) (by kernel_rfl) (fun _ _ h => h)) (argT (p := (isE (.bool true))) (by kernel_rfl) (fun _ _ h => h)) (fun _ _ h => h)),
      stepN (i := 31) (dst := some 96) (op := (.move (.tmp 95))) (by kernel_rfl) (move (argT (p := (isE (.bool true))) (by kernel_rfl) (fun _ _ h => h)) (fun _ _ h => h)),
      stepG (i := 32) (j := 31) (dj := 96) (b := true) (dst := some 97) (op := (.load 30 (.tmp 7))) (by kernel_rfl) (by kernel_rfl) (by kernel_rfl) (fun _ _ h => h) (loadV (List.Mem.tail _ (List.Mem.head _)) (by kernel_rfl) (fun _ _ h => h)),
      stepG (i := 33) (j := 31) (dj := 96) (b := true) (dst := some 98) (op := (.call { callee := .value (.func 8), args := #[(.tmp 97)], argTypes := #[30] })) (by kernel_rfl) (by kernel_rfl) (by kernel_rfl) (fun _ _ h => h) (call1 (enters_of Tryz.func8 (by kernel_rfl) rfl) (argT (p := (isQ (numQ a0 b0 m0) 5)) (by kernel_rfl) (fun _ _ h => h)) (fun w u1 h1 => print_q h1 (by omega)) (fun _ _ h => h)),
      stepG (i := 34) (j := 31) (dj := 96) (b := true) (dst := some 99) (op := (.load 35 (.tmp 8))) (by kernel_rfl) (by kernel_rfl) (by kernel_rfl) (fun _ _ h => h) (loadV (List.Mem.tail _ (List.Mem.tail _ (List.Mem.head _))) (by kernel_rfl) (fun _ _ h => h)),
      stepG (i := 35) (j := 31) (dj := 96) (b := true) (dst := some 100) (op := (.call { callee := .value (.func 9), args := #[(.tmp 99)], argTypes := #[35] })) (by kernel_rfl) (by kernel_rfl) (by kernel_rfl) (fun _ _ h => h) (call1 (enters_of Tryz.func9 (by kernel_rfl) rfl) (argT (p := (isR (numQ a0 b0 m0) 32)) (by kernel_rfl) (fun _ _ h => h)) (fun w u1 h1 => print_r h1 (by omega)) (fun _ _ h => h)),
      stepG (i := 36) (j := 31) (dj := 96) (b := true) (dst := some 101) (op := (.binOp .eql 9 (.tmp 98) (.tmp 100) 9)) (by kernel_rfl) (by kernel_rfl) (by kernel_rfl) (fun _ _ h => h) (eqlS (l := qtext (numQ a0 b0 m0)) (r := qtext (numQ a0 b0 m0)) (argT (p := (isT (qtext (numQ a0 b0 m0)))) (by kernel_rfl) (fun _ _ h => h)) (argT (p := (isT (qtext (numQ a0 b0 m0)))) (by kernel_rfl) (fun _ _ h => h)) (fun w v h => h.trans (congrArg Value.bool (eq_self _)))),
      stepN (i := 37) (dst := some 102) (op := (.pick (.tmp 96) (.tmp 101) (.const (.bool false)))) (by kernel_rfl) (pickT (argT (p := (isE (.bool true))) (by kernel_rfl) (fun _ _ h => h)) (argT (p := (isE (.bool true))) (by kernel_rfl) (fun _ _ h => h)) (fun _ _ h => h)),
      stepN (i := 38) (dst := some 103) (op := (.move (.tmp 102))) (by kernel_rfl) (move (argT (p := (isE (.bool true))) (by kernel_rfl) (fun _ _ h => h)) (fun _ _ h => h)),
      stepG (i := 39) (j := 38) (dj := 103) (b := true) (dst := some 104) (op := (.load 28 (.tmp 9))) (by kernel_rfl) (by kernel_rfl) (by kernel_rfl) (fun _ _ h => h) (loadV (List.Mem.tail _ (List.Mem.tail _ (List.Mem.tail _ (List.Mem.head _)))) (by kernel_rfl) (fun _ _ h => h)),
      stepG (i := 40) (j := 38) (dj := 103) (b := true) (dst := some 105) (op := (.call { callee := .value (.func 38), args := #[(.tmp 104)], argTypes := #[28] })) (by kernel_rfl) (by kernel_rfl) (by kernel_rfl) (fun _ _ h => h) (call1 (enters_of Tryz.func38 (by kernel_rfl) rfl) (argT (p := (isW (signed (Mx.val (l.take 3)) m) 4)) (by kernel_rfl) (fun _ _ h => h)) (fun w u1 h1 => from_q h1) (fun _ _ h => h)),
      stepG (i := 41) (j := 38) (dj := 103) (b := true) (dst := some 106) (op := (.call { callee := .value (.func 8), args := #[(.tmp 105)], argTypes := #[30] })) (by kernel_rfl) (by kernel_rfl) (by kernel_rfl) (fun _ _ h => h) (call1 (enters_of Tryz.func8 (by kernel_rfl) rfl) (argT (p := (isQ ((signed (Mx.val (l.take 3)) m : Int) : Rat) (max 4 1))) (by kernel_rfl) (fun _ _ h => h)) (fun w u1 h1 => print_q h1 (by omega)) (fun _ _ h => h)),
      stepG (i := 42) (j := 38) (dj := 103) (b := true) (dst := some 107) (op := (.load 28 (.tmp 9))) (by kernel_rfl) (by kernel_rfl) (by kernel_rfl) (fun _ _ h => h) (loadV (List.Mem.tail _ (List.Mem.tail _ (List.Mem.tail _ (List.Mem.head _)))) (by kernel_rfl) (fun _ _ h => h)),
      stepG (i := 43) (j := 38) (dj := 103) (b := true) (dst := some 108) (op := (.call { callee := .value (.func 23), args := #[(.tmp 107)], argTypes := #[28] })) (by kernel_rfl) (by kernel_rfl) (by kernel_rfl) (fun _ _ h => h) (call1 (enters_of Tryz.func23 (by kernel_rfl) rfl) (argT (p := (isW (signed (Mx.val (l.take 3)) m) 4)) (by kernel_rfl) (fun _ _ h => h)) (fun w u1 h1 => print_w h1 (by omega)) (fun _ _ h => h)),
      stepG (i := 44) (j := 38) (dj := 103) (b := true) (dst := some 109) (op := (.binOp .eql 9 (.tmp 106) (.tmp 108) 9)) (by kernel_rfl) (by kernel_rfl) (by kernel_rfl) (fun _ _ h => h) (eqlS (l := qtext ((signed (Mx.val (l.take 3)) m : Int) : Rat)) (r := ztext (signed (Mx.val (l.take 3)) m)) (argT (p := (isT (qtext ((signed (Mx.val (l.take 3)) m : Int) : Rat)))) (by kernel_rfl) (fun _ _ h => h)) (argT (p := (isT (ztext (signed (Mx.val (l.take 3)) m)))) (by kernel_rfl) (fun _ _ h => h)) (fun w v h => h.trans (congrArg Value.bool (qtext_int _)))),
      stepN (i := 45) (dst := some 110) (op := (.pick (.tmp 103) (.tmp 109) (.const (.bool false)))) (by kernel_rfl) (pickT (argT (p := (isE (.bool true))) (by kernel_rfl) (fun _ _ h => h)) (argT (p := (isE (.bool true))) (by kernel_rfl) (fun _ _ h => h)) (fun _ _ h => h)),
      stepN (i := 46) (dst := some 111) (op := (.move (.tmp 110))) (by kernel_rfl) (move (argT (p := (isE (.bool true))) (by kernel_rfl) (fun _ _ h => h)) (fun _ _ h => h)),
      stepG (i := 47) (j := 46) (dj := 111) (b := true) (dst := some 112) (op := (.load 30 (.tmp 7))) (by kernel_rfl) (by kernel_rfl) (by kernel_rfl) (fun _ _ h => h) (loadV (List.Mem.tail _ (List.Mem.head _)) (by kernel_rfl) (fun _ _ h => h)),
      stepG (i := 48) (j := 46) (dj := 111) (b := true) (dst := some 113) (op := (.call { callee := .value (.func 7), args := #[(.tmp 112)], argTypes := #[30] })) (by kernel_rfl) (by kernel_rfl) (by kernel_rfl) (fun _ _ h => h) (call1 (enters_of Tryz.func7 (by kernel_rfl) rfl) (argT (p := (isQ (numQ a0 b0 m0) 5)) (by kernel_rfl) (fun _ _ h => h)) (fun w u1 h1 => sign_q h1) (fun _ _ h => h)),
      stepG (i := 49) (j := 46) (dj := 111) (b := true) (dst := some 114) (op := (.load 30 (.tmp 7))) (by kernel_rfl) (by kernel_rfl) (by kernel_rfl) (fun _ _ h => h) (loadV (List.Mem.tail _ (List.Mem.head _)) (by kernel_rfl) (fun _ _ h => h)),
      stepG (i := 50) (j := 46) (dj := 111) (b := true) (dst := some 115) (op := (.call { callee := .value (.func 31), args := #[(.tmp 114)], argTypes := #[30] })) (by kernel_rfl) (by kernel_rfl) (by kernel_rfl) (fun _ _ h => h) (call1 (enters_of Tryz.func31 (by kernel_rfl) rfl) (argT (p := (isQ (numQ a0 b0 m0) 5)) (by kernel_rfl) (fun _ _ h => h)) (fun w u1 h1 => num_q h1) (fun _ _ h => h)),
      stepG (i := 51) (j := 46) (dj := 111) (b := true) (dst := some 116) (op := (.call { callee := .value (.func 28), args := #[(.tmp 115)], argTypes := #[28] })) (by kernel_rfl) (by kernel_rfl) (by kernel_rfl) (fun _ _ h => h) (call1 (enters_of Tryz.func28 (by kernel_rfl) rfl) (argT (p := (isW ((numQ a0 b0 m0).num) 5)) (by kernel_rfl) (fun _ _ h => h)) (fun w u1 h1 => sign_w h1) (fun _ _ h => h)),
      stepG (i := 52) (j := 46) (dj := 111) (b := true) (dst := some 117) (op := (.binOp .eql 3 (.tmp 113) (.tmp 116) 3)) (by kernel_rfl) (by kernel_rfl) (by kernel_rfl) (fun _ _ h => h) (eql (m := (Int.sign ((numQ a0 b0 m0).num))) (n := (Int.sign ((numQ a0 b0 m0).num))) (argT (p := (isE (.int .i64 (Int.sign ((numQ a0 b0 m0).num))))) (by kernel_rfl) (fun _ _ h => h)) (argT (p := (isE (.int .i64 (Int.sign ((numQ a0 b0 m0).num))))) (by kernel_rfl) (fun _ _ h => h)) (fun w v h => h.trans (congrArg Value.bool (decide_eq_true rfl)))),
      stepN (i := 53) (dst := some 118) (op := (.pick (.tmp 111) (.tmp 117) (.const (.bool false)))) (by kernel_rfl) (pickT (argT (p := (isE (.bool true))) (by kernel_rfl) (fun _ _ h => h)) (argT (p := (isE (.bool true))) (by kernel_rfl) (fun _ _ h => h)) (fun _ _ h => h)),
      stepN (i := 54) (dst := some 6) (op := (.assign (.tmp 118))) (by kernel_rfl) (assign (argT (p := (isE (.bool true))) (by kernel_rfl) (fun _ _ h => h)) (fun _ _ h => h)), trivial⟩) ?_
  clear hS kf ac
  try clear w
  intro kf ac w hS
  exact wp_ret (ret_t (q := (isE (.bool true))) (by kernel_rfl) hS (List.Mem.tail _ (List.Mem.tail _ (List.Mem.tail _ (List.Mem.tail _ (List.Mem.tail _ (List.Mem.tail _ (List.Mem.tail _ (List.Mem.head _)))))))) (fun v h => ⟨v, rfl, (h), hS.grow⟩))
theorem lowest5 {w : World} {v0 v1 v2 : Value} {a0 b0 : List Nat} {m0 : Bool} {l : List Nat} {m : Bool} (h0 : isM a0 b0 m0 w v0) (h1 : isS l w v1) (h2 : isE (.bool m) w v2) : Calls Tryz.prog 4 #[v0, v1, v2] w (Ret w fun v w' => isE (.bool true) w' v) := by
  by_cases hk : signed (Mx.val (l.take 3)) m = 0 <;> by_cases hd : (numQ a0 b0 m0).den = 1
  · exact lowest5_11 h0 h1 h2 hk hd
  · exact lowest5_10 h0 h1 h2 hk hd
  · exact lowest5_01 h0 h1 h2 hk hd
  · exact lowest5_00 h0 h1 h2 hk hd
end Go.Proofs.YtlkiikchjeapfaaGreatDoor.Z
