/- What the laws of layer 5 share: num, wakes. Written by a script (tools/laws). -/
import Derived.Test.YtlkiikchjeapfaaDoorFrN
namespace Go.Proofs.YtlkiikchjeapfaaDoor.Z
open Go.RowKit Go.Proofs.YtlkiikchjeapfaaDoor.Rg
set_option maxRecDepth 100000 in
set_option maxHeartbeats 4000000 in
theorem num_m0 {w : World} {v0 : Value} {a b : List Nat} {m : Bool} (h0 : (isM a b m) w v0) (hb : Mx.val (b.take 3) = 0) : Calls Tryd.prog 6 #[v0] w (Ret w fun v w' => (IsT [(isQ (numQ a b m) 5), (isR (numQ a b m) 32)]) w' v) := by
  refine enter (s := soft) (n := 54) (c := (.seq (.region 0 (regionOps Tryd.f6 0) false) (.seq (.region 1 (regionOps Tryd.f6 1) true) (.seq (.region 2 (regionOps Tryd.f6 2) false) (.seq (.region 3 (regionOps Tryd.f6 3) false) (.seq (.seq (.region 4 (regionOps Tryd.f6 4) false) (.cond (.tmp 32) (.region 5 (regionOps Tryd.f6 5) false) .skip)) (.seq (.region 6 (regionOps Tryd.f6 6) true) (.seq (.region 7 (regionOps Tryd.f6 7) true) .ret)))))))) Tryd.func6 (by kernel_rfl) (by kernel_rfl) (by simp) [(0, (isM a b m))] ⟨⟨by simp, h0⟩, trivial⟩ ?_
  intro kf ac hS
  refine plain_seq (m := 3) (by kernel_rfl) ?_
  refine box0 (p := 1) (y := 0) (t := 24) (q := (isM a b m)) hS (by kernel_rfl) rfl rfl rfl (List.Mem.head _) shM trivial ⟨(stb_M _ _ _), trivial⟩ ?_
  clear hS kf ac
  try clear w
  intro kf ac w hS
  refine alloc0 (p := 2) (t := 30) hS (by kernel_rfl) rfl rfl rfl (by kernel_rfl) ⟨(stb_M _ _ _), trivial⟩ ⟨(stb_M _ _ _), trivial⟩ ?_
  clear hS kf ac
  try clear w
  intro kf ac w hS
  refine alloc0 (p := 3) (t := 35) hS (by kernel_rfl) rfl rfl rfl (by kernel_rfl) ⟨stb_true, (stb_M _ _ _), trivial⟩ ⟨(stb_M _ _ _), trivial⟩ ?_
  clear hS kf ac
  try clear w
  intro kf ac w hS
  refine plain_end ?_
  refine region_seq (s := soft) (kf0 := kf) (by kernel_rfl) hS (Rg.look [(11, (isE (.pointer (some ⟨kf 1, 0, none⟩)))),
      (12, (isS a)),
      (13, (isE (.pointer (some ⟨kf 1, 0, none⟩)))),
      (14, (isS a)),
      (15, (isE (.int .i64 ((a.length : Nat) : Int)))),
      (16, (isE (.int .i64 (((min a.length 4 : Nat) : Int))))),
      (17, (isS (a.take 4))),
      (18, (isE (.pointer (some ⟨kf 1, 1, none⟩)))),
      (19, (isS b)),
      (20, (isE (.pointer (some ⟨kf 1, 1, none⟩)))),
      (21, (isS b)),
      (22, (isE (.int .i64 ((b.length : Nat) : Int)))),
      (23, (isE (.int .i64 (((min b.length 3 : Nat) : Int))))),
      (24, (isS (b.take 3))),
      (4, (isS (a.take 4))),
      (5, (isS (b.take 3)))])
    ⟨[], []⟩ [⟨3, 35, isX⟩, ⟨2, 30, isX⟩, ⟨1, 24, (isM a b m)⟩] [(0, (isM a b m)), (4, (isS (a.take 4))), (5, (isS (b.take 3)))] (by kernel_rfl) (by kernel_rfl) (look_stb _ ⟨(stb_eq _), (stb_S _), (stb_eq _), (stb_S _), (stb_eq _), (stb_eq _), (stb_S _), (stb_eq _), (stb_S _), (stb_eq _), (stb_S _), (stb_eq _), (stb_eq _), (stb_S _), (stb_S _), (stb_S _), trivial⟩) ⟨stb_true, stb_true, (stb_M _ _ _), trivial⟩ ⟨(stb_M _ _ _), trivial⟩ trivial trivial
    ⟨.inr (.inl ⟨rfl, _, (List.Mem.head _), rfl, rfl, (fun _ _ h => h)⟩), .inr (.inl ⟨rfl, _, (List.Mem.tail _ (List.Mem.head _)), rfl, rfl, (fun _ _ h => h)⟩), .inr (.inl ⟨rfl, _, (List.Mem.tail _ (List.Mem.tail _ (List.Mem.head _))), rfl, rfl, (fun _ _ h => h)⟩), trivial⟩
    ⟨.inr ⟨(by kernel_rfl), _, (List.Mem.head _), rfl, (fun _ _ h => h)⟩, .inl ⟨(by kernel_rfl), rfl, (fun _ _ h => h)⟩, .inl ⟨(by kernel_rfl), rfl, (fun _ _ h => h)⟩, trivial⟩
    (steps (m := 16) (by kernel_rfl) ⟨stepN (i := 0) (dst := some 11) (op := (.fieldAddr 24 (.tmp 1) 0)) (by kernel_rfl) (fieldV (off := 0) (sz := 1) (List.Mem.tail _ (List.Mem.tail _ (List.Mem.head _))) (by kernel_rfl) (fun _ _ h => h)),
      stepN (i := 1) (dst := some 12) (op := (.load 22 (.tmp 11))) (by kernel_rfl) (loadP (r := (isS a)) (by kernel_rfl) (fun _ _ h => h) (List.Mem.tail _ (List.Mem.tail _ (List.Mem.head _))) (by kernel_rfl) (by kernel_rfl) rfl fldMA (fun _ _ h => h)),
      stepN (i := 2) (dst := some 13) (op := (.fieldAddr 24 (.tmp 1) 0)) (by kernel_rfl) (fieldV (off := 0) (sz := 1) (List.Mem.tail _ (List.Mem.tail _ (List.Mem.head _))) (by kernel_rfl) (fun _ _ h => h)),
      stepN (i := 3) (dst := some 14) (op := (.load 22 (.tmp 13))) (by kernel_rfl) (loadP (r := (isS a)) (by kernel_rfl) (fun _ _ h => h) (List.Mem.tail _ (List.Mem.tail _ (List.Mem.head _))) (by kernel_rfl) (by kernel_rfl) rfl fldMA (fun _ _ h => h)),
      stepN (i := 4) (dst := some 15) (op := (.call { callee := .builtin .len, args := #[(.tmp 14)], argTypes := #[22] })) (by kernel_rfl) (lenS (argT (p := (isS a)) (by kernel_rfl) (fun _ _ h => h)) rfl (fun _ _ h => h)),
      stepN (i := 5) (dst := some 16) (op := (.call { callee := .builtin .min, args := #[(.tmp 15), (.const (.int .i64 4))], argTypes := #[3, 3] })) (by kernel_rfl) (minI (r := ((min a.length 4 : Nat) : Int)) (argT (p := (isE (.int .i64 ((a.length : Nat) : Int)))) (by kernel_rfl) (fun _ _ h => h)) (argC (.int .i64 4)) (by omega) (fun _ _ h => h)),
      stepN (i := 6) (dst := some 17) (op := (.slice 22 (.tmp 12) none (some (.tmp 16)) none)) (by kernel_rfl) (upS (n := min a.length 4) (argT (p := (isS a)) (by kernel_rfl) (fun _ _ h => h)) (argT (p := (isE (.int .i64 (((min a.length 4 : Nat) : Int))))) (by kernel_rfl) (fun _ _ h => h)) (by omega) (fun w v h => (by rw [take_min] at h; exact h))),
      stepN (i := 7) (dst := some 18) (op := (.fieldAddr 24 (.tmp 1) 1)) (by kernel_rfl) (fieldV (off := 1) (sz := 1) (List.Mem.tail _ (List.Mem.tail _ (List.Mem.head _))) (by kernel_rfl) (fun _ _ h => h)),
      stepN (i := 8) (dst := some 19) (op := (.load 22 (.tmp 18))) (by kernel_rfl) (loadP (r := (isS b)) (by kernel_rfl) (fun _ _ h => h) (List.Mem.tail _ (List.Mem.tail _ (List.Mem.head _))) (by kernel_rfl) (by kernel_rfl) rfl fldMB (fun _ _ h => h)),
      stepN (i := 9) (dst := some 20) (op := (.fieldAddr 24 (.tmp 1) 1)) (by kernel_rfl) (fieldV (off := 1) (sz := 1) (List.Mem.tail _ (List.Mem.tail _ (List.Mem.head _))) (by kernel_rfl) (fun _ _ h => h)),
      stepN (i := 10) (dst := some 21) (op := (.load 22 (.tmp 20))) (by kernel_rfl) (loadP (r := (isS b)) (by kernel_rfl) (fun _ _ h => h) (List.Mem.tail _ (List.Mem.tail _ (List.Mem.head _))) (by kernel_rfl) (by kernel_rfl) rfl fldMB (fun _ _ h => h)),
      stepN (i := 11) (dst := some 22) (op := (.call { callee := .builtin .len, args := #[(.tmp 21)], argTypes := #[22] })) (by kernel_rfl) (lenS (argT (p := (isS b)) (by kernel_rfl) (fun _ _ h => h)) rfl (fun _ _ h => h)),
      stepN (i := 12) (dst := some 23) (op := (.call { callee := .builtin .min, args := #[(.tmp 22), (.const (.int .i64 3))], argTypes := #[3, 3] })) (by kernel_rfl) (minI (r := ((min b.length 3 : Nat) : Int)) (argT (p := (isE (.int .i64 ((b.length : Nat) : Int)))) (by kernel_rfl) (fun _ _ h => h)) (argC (.int .i64 3)) (by omega) (fun _ _ h => h)),
      stepN (i := 13) (dst := some 24) (op := (.slice 22 (.tmp 19) none (some (.tmp 23)) none)) (by kernel_rfl) (upS (n := min b.length 3) (argT (p := (isS b)) (by kernel_rfl) (fun _ _ h => h)) (argT (p := (isE (.int .i64 (((min b.length 3 : Nat) : Int))))) (by kernel_rfl) (fun _ _ h => h)) (by omega) (fun w v h => (by rw [take_min] at h; exact h))),
      stepN (i := 14) (dst := some 4) (op := (.assign (.tmp 17))) (by kernel_rfl) (assign (argT (p := (isS (a.take 4))) (by kernel_rfl) (fun _ _ h => h)) (fun _ _ h => h)),
      stepN (i := 15) (dst := some 5) (op := (.assign (.tmp 24))) (by kernel_rfl) (assign (argT (p := (isS (b.take 3))) (by kernel_rfl) (fun _ _ h => h)) (fun _ _ h => h)), trivial⟩) ?_
  clear hS kf ac
  try clear w
  intro kf ac w hS
  refine region_seq (s := soft) (kf0 := kf) (by kernel_rfl) hS (Rg.look [(25, (isS (a.take 4))),
      (26, (isD (Mx.val (a.take 4)) 32)),
      (27, (isS (b.take 3))),
      (28, (isD (Mx.val (b.take 3)) 32)),
      (6, (isD (Mx.val (a.take 4)) 32)),
      (7, (isD (Mx.val (b.take 3)) 32))])
    ⟨[], []⟩ [⟨3, 35, isX⟩, ⟨2, 30, isX⟩, ⟨1, 24, (isM a b m)⟩] [(0, (isM a b m)), (4, (isS (a.take 4))), (5, (isS (b.take 3))), (6, (isD (Mx.val (a.take 4)) 32)), (7, (isD (Mx.val (b.take 3)) 32))] (by kernel_rfl) (by kernel_rfl) (look_stb _ ⟨(stb_S _), (stb_D _ _), (stb_S _), (stb_D _ _), (stb_D _ _), (stb_D _ _), trivial⟩) ⟨stb_true, stb_true, (stb_M _ _ _), trivial⟩ ⟨(stb_M _ _ _), (stb_S _), (stb_S _), trivial⟩ trivial trivial
    ⟨.inr (.inl ⟨rfl, _, (List.Mem.head _), rfl, rfl, (fun _ _ h => h)⟩), .inr (.inl ⟨rfl, _, (List.Mem.tail _ (List.Mem.head _)), rfl, rfl, (fun _ _ h => h)⟩), .inr (.inl ⟨rfl, _, (List.Mem.tail _ (List.Mem.tail _ (List.Mem.head _))), rfl, rfl, (fun _ _ h => h)⟩), trivial⟩
    ⟨.inr ⟨(by kernel_rfl), _, (List.Mem.head _), rfl, (fun _ _ h => h)⟩, .inr ⟨(by kernel_rfl), _, (List.Mem.tail _ (List.Mem.head _)), rfl, (fun _ _ h => h)⟩, .inr ⟨(by kernel_rfl), _, (List.Mem.tail _ (List.Mem.tail _ (List.Mem.head _))), rfl, (fun _ _ h => h)⟩, .inl ⟨(by kernel_rfl), rfl, (fun _ _ h => h)⟩, .inl ⟨(by kernel_rfl), rfl, (fun _ _ h => h)⟩, trivial⟩
    (steps (m := 6) (by kernel_rfl) ⟨stepN (i := 0) (dst := some 25) (op := (.move (.tmp 4))) (by kernel_rfl) (move (argO (p := (isS (a.take 4))) (List.Mem.tail _ (List.Mem.head _)) (by kernel_rfl)) (fun _ _ h => h)),
      stepN (i := 1) (dst := some 26) (op := (.call { callee := .value (.func 20), args := #[(.tmp 25)], argTypes := #[22] })) (by kernel_rfl) (call1 (enters_of Tryd.func20 (by kernel_rfl) rfl) (argT (p := (isS (a.take 4))) (by kernel_rfl) (fun _ _ h => h)) (fun w u1 h1 => refOf_any _ _ _ (by simp [List.length_take]; omega) h1) (fun _ _ h => IsD.weak' h (by simp [List.length_take]; omega))),
      stepN (i := 2) (dst := some 27) (op := (.move (.tmp 5))) (by kernel_rfl) (move (argO (p := (isS (b.take 3))) (List.Mem.tail _ (List.Mem.tail _ (List.Mem.head _))) (by kernel_rfl)) (fun _ _ h => h)),
      stepN (i := 3) (dst := some 28) (op := (.call { callee := .value (.func 20), args := #[(.tmp 27)], argTypes := #[22] })) (by kernel_rfl) (call1 (enters_of Tryd.func20 (by kernel_rfl) rfl) (argT (p := (isS (b.take 3))) (by kernel_rfl) (fun _ _ h => h)) (fun w u1 h1 => refOf_any _ _ _ (by simp [List.length_take]; omega) h1) (fun _ _ h => IsD.weak' h (by simp [List.length_take]; omega))),
      stepN (i := 4) (dst := some 6) (op := (.assign (.tmp 26))) (by kernel_rfl) (assign (argT (p := (isD (Mx.val (a.take 4)) 32)) (by kernel_rfl) (fun _ _ h => h)) (fun _ _ h => h)),
      stepN (i := 5) (dst := some 7) (op := (.assign (.tmp 28))) (by kernel_rfl) (assign (argT (p := (isD (Mx.val (b.take 3)) 32)) (by kernel_rfl) (fun _ _ h => h)) (fun _ _ h => h)), trivial⟩) ?_
  clear hS kf ac
  try clear w
  intro kf ac w hS
  refine region_seq (s := soft) (kf0 := kf) (by kernel_rfl) hS (Rg.look [(29, (isS (b.take 3))),
      (30, (isN (Mx.val (b.take 3)) 4)),
      (8, isX)])
    ⟨[(2, 8, 26)], [(3, 8, 30, 26)]⟩ [⟨3, 35, isX⟩, ⟨2, 30, isX⟩, ⟨1, 24, (isM a b m)⟩, ⟨8, 26, (isN (Mx.val (b.take 3)) 4)⟩] [(0, (isM a b m)), (4, (isS (a.take 4))), (5, (isS (b.take 3))), (6, (isD (Mx.val (a.take 4)) 32)), (7, (isD (Mx.val (b.take 3)) 32))] (by kernel_rfl) (by kernel_rfl) (look_stb _ ⟨(stb_S _), (stb_N _ _), stb_true, trivial⟩) ⟨stb_true, stb_true, (stb_M _ _ _), trivial⟩ ⟨(stb_M _ _ _), (stb_S _), (stb_S _), (stb_D _ _), (stb_D _ _), trivial⟩ ⟨fun _ _ => trivial, trivial⟩ ⟨shN, trivial⟩
    ⟨.inr (.inl ⟨rfl, _, (List.Mem.head _), rfl, rfl, (fun _ _ h => h)⟩), .inr (.inl ⟨rfl, _, (List.Mem.tail _ (List.Mem.head _)), rfl, rfl, (fun _ _ h => h)⟩), .inr (.inl ⟨rfl, _, (List.Mem.tail _ (List.Mem.tail _ (List.Mem.head _))), rfl, rfl, (fun _ _ h => h)⟩), .inl ⟨_, (List.Mem.head _), rfl, rfl, (fun _ _ h => h)⟩, trivial⟩
    ⟨.inr ⟨(by kernel_rfl), _, (List.Mem.head _), rfl, (fun _ _ h => h)⟩, .inr ⟨(by kernel_rfl), _, (List.Mem.tail _ (List.Mem.head _)), rfl, (fun _ _ h => h)⟩, .inr ⟨(by kernel_rfl), _, (List.Mem.tail _ (List.Mem.tail _ (List.Mem.head _))), rfl, (fun _ _ h => h)⟩, .inr ⟨(by kernel_rfl), _, (List.Mem.tail _ (List.Mem.tail _ (List.Mem.tail _ (List.Mem.head _)))), rfl, (fun _ _ h => h)⟩, .inr ⟨(by kernel_rfl), _, (List.Mem.tail _ (List.Mem.tail _ (List.Mem.tail _ (List.Mem.tail _ (List.Mem.head _))))), rfl, (fun _ _ h => h)⟩, trivial⟩
    (steps (m := 4) (by kernel_rfl) ⟨stepN (i := 0) (dst := some 29) (op := (.move (.tmp 5))) (by kernel_rfl) (move (argO (p := (isS (b.take 3))) (List.Mem.tail _ (List.Mem.tail _ (List.Mem.head _))) (by kernel_rfl)) (fun _ _ h => h)),
      stepN (i := 1) (dst := some 30) (op := (.call { callee := .value (.func 21), args := #[(.tmp 29)], argTypes := #[22] })) (by kernel_rfl) (call1 (enters_of Tryd.func21 (by kernel_rfl) rfl) (argT (p := (isS (b.take 3))) (by kernel_rfl) (fun _ _ h => h)) (fun w u1 h1 => of_n 4 h1 (by simp [List.length_take]; omega) (by omega)) (fun _ _ h => h)),
      isAlloc rfl,
      isStore rfl, trivial⟩) ?_
  clear hS kf ac
  try clear w
  intro kf ac w hS
  refine wp_seq ?_
  refine region_seq (s := soft) (kf0 := kf) (by kernel_rfl) hS (Rg.look [(31, (isN (Mx.val (b.take 3)) 4)),
      (32, (isE (.bool ((Mx.val (b.take 3)) == 0))))])
    ⟨[], []⟩ [⟨3, 35, isX⟩, ⟨2, 30, isX⟩, ⟨1, 24, (isM a b m)⟩, ⟨8, 26, (isN (Mx.val (b.take 3)) 4)⟩] [(0, (isM a b m)), (4, (isS (a.take 4))), (5, (isS (b.take 3))), (6, (isD (Mx.val (a.take 4)) 32)), (7, (isD (Mx.val (b.take 3)) 32)), (32, (isE (.bool ((Mx.val (b.take 3)) == 0))))] (by kernel_rfl) (by kernel_rfl) (look_stb _ ⟨(stb_N _ _), (stb_eq _), trivial⟩) ⟨stb_true, stb_true, (stb_M _ _ _), (stb_N _ _), trivial⟩ ⟨(stb_M _ _ _), (stb_S _), (stb_S _), (stb_D _ _), (stb_D _ _), trivial⟩ trivial trivial
    ⟨.inr (.inl ⟨rfl, _, (List.Mem.head _), rfl, rfl, (fun _ _ h => h)⟩), .inr (.inl ⟨rfl, _, (List.Mem.tail _ (List.Mem.head _)), rfl, rfl, (fun _ _ h => h)⟩), .inr (.inl ⟨rfl, _, (List.Mem.tail _ (List.Mem.tail _ (List.Mem.head _))), rfl, rfl, (fun _ _ h => h)⟩), .inr (.inl ⟨rfl, _, (List.Mem.tail _ (List.Mem.tail _ (List.Mem.tail _ (List.Mem.head _)))), rfl, rfl, (fun _ _ h => h)⟩), trivial⟩
    ⟨.inr ⟨(by kernel_rfl), _, (List.Mem.head _), rfl, (fun _ _ h => h)⟩, .inr ⟨(by kernel_rfl), _, (List.Mem.tail _ (List.Mem.head _)), rfl, (fun _ _ h => h)⟩, .inr ⟨(by kernel_rfl), _, (List.Mem.tail _ (List.Mem.tail _ (List.Mem.head _))), rfl, (fun _ _ h => h)⟩, .inr ⟨(by kernel_rfl), _, (List.Mem.tail _ (List.Mem.tail _ (List.Mem.tail _ (List.Mem.head _)))), rfl, (fun _ _ h => h)⟩, .inr ⟨(by kernel_rfl), _, (List.Mem.tail _ (List.Mem.tail _ (List.Mem.tail _ (List.Mem.tail _ (List.Mem.head _))))), rfl, (fun _ _ h => h)⟩, .inl ⟨(by kernel_rfl), rfl, (fun _ _ h => h)⟩, trivial⟩
    (steps (m := 2) (by kernel_rfl) ⟨stepN (i := 0) (dst := some 31) (op := (.load 26 (.tmp 8))) (by kernel_rfl) (loadV (List.Mem.tail _ (List.Mem.tail _ (List.Mem.tail _ (List.Mem.head _)))) (by kernel_rfl) (fun _ _ h => h)),
      stepN (i := 1) (dst := some 32) (op := (.call { callee := .value (.func 22), args := #[(.tmp 31)], argTypes := #[26] })) (by kernel_rfl) (call1 (enters_of Tryd.func22 (by kernel_rfl) rfl) (argT (p := (isN (Mx.val (b.take 3)) 4)) (by kernel_rfl) (fun _ _ h => h)) (fun w u1 h1 => zero_n h1) (fun _ _ h => h)), trivial⟩) ?_
  clear hS kf ac
  try clear w
  intro kf ac w hS
  refine cond_true (q := (isE (.bool ((Mx.val (b.take 3)) == 0)))) hS (List.Mem.tail _ (List.Mem.tail _ (List.Mem.tail _ (List.Mem.tail _ (List.Mem.tail _ (List.Mem.head _)))))) (fun _ _ h => h.trans (congrArg _ (by simp [hb]))) ?_
  refine region_then (s := soft) (kf0 := kf) (by kernel_rfl) hS (Rg.look [(33, (isS ([1]))),
      (34, (isN 1 1)),
      (35, (isD 1 1)),
      (7, (isD 1 1))])
    ⟨[], [(3, 8, 34, 26)]⟩ [⟨3, 35, isX⟩, ⟨2, 30, isX⟩, ⟨1, 24, (isM a b m)⟩, ⟨8, 26, (isN 1 1)⟩] [(0, (isM a b m)), (4, (isS (a.take 4))), (5, (isS (b.take 3))), (6, (isD (Mx.val (a.take 4)) 32)), (32, (isE (.bool ((Mx.val (b.take 3)) == 0)))), (7, (isD 1 1))] (by kernel_rfl) (by kernel_rfl) (look_stb _ ⟨(stb_S _), (stb_N _ _), (stb_D _ _), (stb_D _ _), trivial⟩) ⟨stb_true, stb_true, (stb_M _ _ _), (stb_N _ _), trivial⟩ ⟨(stb_M _ _ _), (stb_S _), (stb_S _), (stb_D _ _), (stb_D _ _), (stb_eq _), trivial⟩ trivial ⟨shN, trivial⟩
    ⟨.inr (.inl ⟨rfl, _, (List.Mem.head _), rfl, rfl, (fun _ _ h => h)⟩), .inr (.inl ⟨rfl, _, (List.Mem.tail _ (List.Mem.head _)), rfl, rfl, (fun _ _ h => h)⟩), .inr (.inl ⟨rfl, _, (List.Mem.tail _ (List.Mem.tail _ (List.Mem.head _))), rfl, rfl, (fun _ _ h => h)⟩), .inl ⟨_, (List.Mem.head _), rfl, rfl, (fun _ _ h => h)⟩, trivial⟩
    ⟨.inr ⟨(by kernel_rfl), _, (List.Mem.head _), rfl, (fun _ _ h => h)⟩, .inr ⟨(by kernel_rfl), _, (List.Mem.tail _ (List.Mem.head _)), rfl, (fun _ _ h => h)⟩, .inr ⟨(by kernel_rfl), _, (List.Mem.tail _ (List.Mem.tail _ (List.Mem.head _))), rfl, (fun _ _ h => h)⟩, .inr ⟨(by kernel_rfl), _, (List.Mem.tail _ (List.Mem.tail _ (List.Mem.tail _ (List.Mem.head _)))), rfl, (fun _ _ h => h)⟩, .inr ⟨(by kernel_rfl), _, (List.Mem.tail _ (List.Mem.tail _ (List.Mem.tail _ (List.Mem.tail _ (List.Mem.tail _ (List.Mem.head _)))))), rfl, (fun _ _ h => h)⟩, .inl ⟨(by kernel_rfl), rfl, (fun _ _ h => h)⟩, trivial⟩
    (steps (m := 5) (by kernel_rfl) ⟨stepN (i := 0) (dst := some 33) (op := (.buildSlice 22 1 #[(0, (.const (.int .u64 1)))])) (by kernel_rfl) (buildOneZ (x := 1) (small_lt (by decide)) (fun _ _ h => h)),
      stepN (i := 1) (dst := some 34) (op := (.call { callee := .value (.func 21), args := #[(.tmp 33)], argTypes := #[22] })) (by kernel_rfl) (call1 (enters_of Tryd.func21 (by kernel_rfl) rfl) (argT (p := (isS ([1]))) (by kernel_rfl) (fun _ _ h => h)) (fun w u1 h1 => of_one h1) (fun _ _ h => h)),
      stepN (i := 2) (dst := some 35) (op := (.buildSlice 31 1 #[(0, (.const (.int .i64 1)))])) (by kernel_rfl) (buildDone (x := 1) (by decide) (by decide) (fun _ _ h => h)),
      isStore rfl,
      stepN (i := 4) (dst := some 7) (op := (.assign (.tmp 35))) (by kernel_rfl) (assign (argT (p := (isD 1 1)) (by kernel_rfl) (fun _ _ h => h)) (fun _ _ h => h)), trivial⟩) ?_
  clear hS kf ac
  try clear w
  intro kf ac w hS
  refine region_seq (s := soft) (kf0 := kf) (by kernel_rfl) hS (Rg.look [(37, (isS (a.take 4))),
      (38, (isN (Mx.val (a.take 4)) 4)),
      (39, (isE (.pointer (some ⟨kf 1, 2, none⟩)))),
      (40, (isE (.bool m))),
      (41, (isW (signed (Mx.val (a.take 4)) m) 4)),
      (42, (isN 1 1)),
      (43, (isW (signed 1 false) 1)),
      (44, (IsT [(isQ (((signed (Mx.val (a.take 4)) m : Int) : Rat) / ((signed 1 false : Int) : Rat)) (max 4 1 + 1)), (isE (.int .i64 0))])),
      (36, (IsT [(isQ (((signed (Mx.val (a.take 4)) m : Int) : Rat) / ((signed 1 false : Int) : Rat)) (max 4 1 + 1)), (isE (.int .i64 0))])),
      (45, (isQ (((signed (Mx.val (a.take 4)) m : Int) : Rat) / ((signed 1 false : Int) : Rat)) (max 4 1 + 1))),
      (46, (isE (.int .i64 0))),
      (9, isX),
      (10, (isE (.int .i64 0)))])
    ⟨[(11, 9, 30)], [(12, 9, 45, 30)]⟩ [⟨3, 35, isX⟩, ⟨2, 30, isX⟩, ⟨1, 24, (isM a b m)⟩, ⟨8, 26, (isN 1 1)⟩, ⟨9, 30, (isQ (((signed (Mx.val (a.take 4)) m : Int) : Rat) / ((signed 1 false : Int) : Rat)) (max 4 1 + 1))⟩] [(0, (isM a b m)), (4, (isS (a.take 4))), (5, (isS (b.take 3))), (6, (isD (Mx.val (a.take 4)) 32)), (32, (isE (.bool ((Mx.val (b.take 3)) == 0)))), (7, (isD 1 1))] (by kernel_rfl) (by kernel_rfl) (look_stb _ ⟨(stb_S _), (stb_N _ _), (stb_eq _), (stb_eq _), (stb_W _ _), (stb_N _ _), (stb_W _ _), (stb_T ⟨(stb_Q _ _), (stb_eq _), trivial⟩), (stb_T ⟨(stb_Q _ _), (stb_eq _), trivial⟩), (stb_Q _ _), (stb_eq _), stb_true, (stb_eq _), trivial⟩) ⟨stb_true, stb_true, (stb_M _ _ _), (stb_N _ _), trivial⟩ ⟨(stb_M _ _ _), (stb_S _), (stb_S _), (stb_D _ _), (stb_eq _), (stb_D _ _), trivial⟩ ⟨fun _ _ => trivial, trivial⟩ ⟨shQ, trivial⟩
    ⟨.inr (.inl ⟨rfl, _, (List.Mem.head _), rfl, rfl, (fun _ _ h => h)⟩), .inr (.inl ⟨rfl, _, (List.Mem.tail _ (List.Mem.head _)), rfl, rfl, (fun _ _ h => h)⟩), .inr (.inl ⟨rfl, _, (List.Mem.tail _ (List.Mem.tail _ (List.Mem.head _))), rfl, rfl, (fun _ _ h => h)⟩), .inr (.inl ⟨rfl, _, (List.Mem.tail _ (List.Mem.tail _ (List.Mem.tail _ (List.Mem.head _)))), rfl, rfl, (fun _ _ h => h)⟩), .inl ⟨_, (List.Mem.head _), rfl, rfl, (fun _ _ h => h)⟩, trivial⟩
    ⟨.inr ⟨(by kernel_rfl), _, (List.Mem.head _), rfl, (fun _ _ h => h)⟩, .inr ⟨(by kernel_rfl), _, (List.Mem.tail _ (List.Mem.head _)), rfl, (fun _ _ h => h)⟩, .inr ⟨(by kernel_rfl), _, (List.Mem.tail _ (List.Mem.tail _ (List.Mem.head _))), rfl, (fun _ _ h => h)⟩, .inr ⟨(by kernel_rfl), _, (List.Mem.tail _ (List.Mem.tail _ (List.Mem.tail _ (List.Mem.head _)))), rfl, (fun _ _ h => h)⟩, .inr ⟨(by kernel_rfl), _, (List.Mem.tail _ (List.Mem.tail _ (List.Mem.tail _ (List.Mem.tail _ (List.Mem.head _))))), rfl, (fun _ _ h => h)⟩, .inr ⟨(by kernel_rfl), _, (List.Mem.tail _ (List.Mem.tail _ (List.Mem.tail _ (List.Mem.tail _ (List.Mem.tail _ (List.Mem.head _)))))), rfl, (fun _ _ h => h)⟩, trivial⟩
    (steps (m := 14) (by kernel_rfl) ⟨stepN (i := 0) (dst := some 37) (op := (.move (.tmp 4))) (by kernel_rfl) (move (argO (p := (isS (a.take 4))) (List.Mem.tail _ (List.Mem.head _)) (by kernel_rfl)) (fun _ _ h => h)),
      stepN (i := 1) (dst := some 38) (op := (.call { callee := .value (.func 21), args := #[(.tmp 37)], argTypes := #[22] })) (by kernel_rfl) (call1 (enters_of Tryd.func21 (by kernel_rfl) rfl) (argT (p := (isS (a.take 4))) (by kernel_rfl) (fun _ _ h => h)) (fun w u1 h1 => of_n 4 h1 (by simp [List.length_take]; omega) (by omega)) (fun _ _ h => h)),
      stepN (i := 2) (dst := some 39) (op := (.fieldAddr 24 (.tmp 1) 2)) (by kernel_rfl) (fieldV (off := 2) (sz := 1) (List.Mem.tail _ (List.Mem.tail _ (List.Mem.head _))) (by kernel_rfl) (fun _ _ h => h)),
      stepN (i := 3) (dst := some 40) (op := (.load 4 (.tmp 39))) (by kernel_rfl) (loadP (r := (isE (.bool m))) (by kernel_rfl) (fun _ _ h => h) (List.Mem.tail _ (List.Mem.tail _ (List.Mem.head _))) (by kernel_rfl) (by kernel_rfl) rfl fldMM (fun _ _ h => h)),
      stepN (i := 4) (dst := some 41) (op := (.call { callee := .value (.func 24), args := #[(.tmp 38), (.tmp 40)], argTypes := #[26, 4] })) (by kernel_rfl) (call2 (enters_of Tryd.func24 (by kernel_rfl) rfl) (argT (p := (isN (Mx.val (a.take 4)) 4)) (by kernel_rfl) (fun _ _ h => h)) (argT (p := (isE (.bool m))) (by kernel_rfl) (fun _ _ h => h)) (fun w u1 u2 h1 h2 => by subst h2; exact of_w h1) (fun _ _ h => h)),
      stepN (i := 5) (dst := some 42) (op := (.load 26 (.tmp 8))) (by kernel_rfl) (loadV (List.Mem.tail _ (List.Mem.tail _ (List.Mem.tail _ (List.Mem.head _)))) (by kernel_rfl) (fun _ _ h => h)),
      stepN (i := 6) (dst := some 43) (op := (.call { callee := .value (.func 24), args := #[(.tmp 42), (.const (.bool false))], argTypes := #[26, 4] })) (by kernel_rfl) (call2 (enters_of Tryd.func24 (by kernel_rfl) rfl) (argT (p := (isN 1 1)) (by kernel_rfl) (fun _ _ h => h)) (argC (.bool false)) (fun w u1 u2 h1 h2 => by subst h2; exact of_w h1) (fun _ _ h => h)),
      stepN (i := 7) (dst := some 44) (op := (.call { callee := .value (.func 23), args := #[(.tmp 41), (.tmp 43)], argTypes := #[28, 28] })) (by kernel_rfl) (call2 (enters_of Tryd.func23 (by kernel_rfl) rfl) (argT (p := (isW (signed (Mx.val (a.take 4)) m) 4)) (by kernel_rfl) (fun _ _ h => h)) (argT (p := (isW (signed 1 false) 1)) (by kernel_rfl) (fun _ _ h => h)) (fun w u1 u2 h1 h2 => of_q h1 h2 (by omega) (by omega) (Int.ne_of_gt (signed_pos (by decide)))) (fun _ _ h => h)),
      stepN (i := 8) (dst := some 36) (op := (.move (.tmp 44))) (by kernel_rfl) (move (argT (p := (IsT [(isQ (((signed (Mx.val (a.take 4)) m : Int) : Rat) / ((signed 1 false : Int) : Rat)) (max 4 1 + 1)), (isE (.int .i64 0))])) (by kernel_rfl) (fun _ _ h => h)) (fun _ _ h => h)),
      stepN (i := 9) (dst := some 45) (op := (.extract (.tmp 36) 0)) (by kernel_rfl) (extract (by kernel_rfl) (fun _ _ h => h) rfl (fun _ _ h => h)),
      stepN (i := 10) (dst := some 46) (op := (.extract (.tmp 36) 1)) (by kernel_rfl) (extract (by kernel_rfl) (fun _ _ h => h) rfl (fun _ _ h => h)),
      isAlloc rfl,
      isStore rfl,
      stepN (i := 13) (dst := some 10) (op := (.assign (.tmp 46))) (by kernel_rfl) (assign (argT (p := (isE (.int .i64 0))) (by kernel_rfl) (fun _ _ h => h)) (fun _ _ h => h)), trivial⟩) ?_
  clear hS kf ac
  try clear w
  intro kf ac w hS
  refine region_seq (s := soft) (kf0 := kf) (by kernel_rfl) hS (Rg.look [(47, (isQ (((signed (Mx.val (a.take 4)) m : Int) : Rat) / ((signed 1 false : Int) : Rat)) (max 4 1 + 1))),
      (48, (isD (Mx.val (a.take 4)) 32)),
      (49, (isE (.pointer (some ⟨kf 1, 2, none⟩)))),
      (50, (isE (.bool m))),
      (51, (isV (signed (Mx.val (a.take 4)) m) 32)),
      (52, (isD 1 1)),
      (53, (isR (mkRat (signed (Mx.val (a.take 4)) m) 1) (max 32 1)))])
    ⟨[], [(7, 2, 47, 30), (8, 3, 53, 35)]⟩ [⟨3, 35, (isR (mkRat (signed (Mx.val (a.take 4)) m) 1) (max 32 1))⟩, ⟨2, 30, (isQ (((signed (Mx.val (a.take 4)) m : Int) : Rat) / ((signed 1 false : Int) : Rat)) (max 4 1 + 1))⟩, ⟨1, 24, (isM a b m)⟩, ⟨8, 26, (isN 1 1)⟩, ⟨9, 30, (isQ (((signed (Mx.val (a.take 4)) m : Int) : Rat) / ((signed 1 false : Int) : Rat)) (max 4 1 + 1))⟩] [(0, (isM a b m)), (4, (isS (a.take 4))), (5, (isS (b.take 3))), (6, (isD (Mx.val (a.take 4)) 32)), (32, (isE (.bool ((Mx.val (b.take 3)) == 0)))), (7, (isD 1 1))] (by kernel_rfl) (by kernel_rfl) (look_stb _ ⟨(stb_Q _ _), (stb_D _ _), (stb_eq _), (stb_eq _), (stb_V _ _), (stb_D _ _), (stb_R _ _), trivial⟩) ⟨stb_true, stb_true, (stb_M _ _ _), (stb_N _ _), (stb_Q _ _), trivial⟩ ⟨(stb_M _ _ _), (stb_S _), (stb_S _), (stb_D _ _), (stb_eq _), (stb_D _ _), trivial⟩ trivial ⟨shQ, shR, trivial⟩
    ⟨.inl ⟨_, (List.Mem.tail _ (List.Mem.head _)), rfl, rfl, (fun _ _ h => h)⟩, .inl ⟨_, (List.Mem.head _), rfl, rfl, (fun _ _ h => h)⟩, .inr (.inl ⟨rfl, _, (List.Mem.tail _ (List.Mem.tail _ (List.Mem.head _))), rfl, rfl, (fun _ _ h => h)⟩), .inr (.inl ⟨rfl, _, (List.Mem.tail _ (List.Mem.tail _ (List.Mem.tail _ (List.Mem.head _)))), rfl, rfl, (fun _ _ h => h)⟩), .inr (.inl ⟨rfl, _, (List.Mem.tail _ (List.Mem.tail _ (List.Mem.tail _ (List.Mem.tail _ (List.Mem.head _))))), rfl, rfl, (fun _ _ h => h)⟩), trivial⟩
    ⟨.inr ⟨(by kernel_rfl), _, (List.Mem.head _), rfl, (fun _ _ h => h)⟩, .inr ⟨(by kernel_rfl), _, (List.Mem.tail _ (List.Mem.head _)), rfl, (fun _ _ h => h)⟩, .inr ⟨(by kernel_rfl), _, (List.Mem.tail _ (List.Mem.tail _ (List.Mem.head _))), rfl, (fun _ _ h => h)⟩, .inr ⟨(by kernel_rfl), _, (List.Mem.tail _ (List.Mem.tail _ (List.Mem.tail _ (List.Mem.head _)))), rfl, (fun _ _ h => h)⟩, .inr ⟨(by kernel_rfl), _, (List.Mem.tail _ (List.Mem.tail _ (List.Mem.tail _ (List.Mem.tail _ (List.Mem.head _))))), rfl, (fun _ _ h => h)⟩, .inr ⟨(by kernel_rfl), _, (List.Mem.tail _ (List.Mem.tail _ (List.Mem.tail _ (List.Mem.tail _ (List.Mem.tail _ (List.Mem.head _)))))), rfl, (fun _ _ h => h)⟩, trivial⟩
    (steps (m := 9) (by kernel_rfl) ⟨stepN (i := 0) (dst := some 47) (op := (.load 30 (.tmp 9))) (by kernel_rfl) (loadV (List.Mem.tail _ (List.Mem.tail _ (List.Mem.tail _ (List.Mem.tail _ (List.Mem.head _))))) (by kernel_rfl) (fun _ _ h => h)),
      stepN (i := 1) (dst := some 48) (op := (.move (.tmp 6))) (by kernel_rfl) (move (argO (p := (isD (Mx.val (a.take 4)) 32)) (List.Mem.tail _ (List.Mem.tail _ (List.Mem.tail _ (List.Mem.head _)))) (by kernel_rfl)) (fun _ _ h => h)),
      stepN (i := 2) (dst := some 49) (op := (.fieldAddr 24 (.tmp 1) 2)) (by kernel_rfl) (fieldV (off := 2) (sz := 1) (List.Mem.tail _ (List.Mem.tail _ (List.Mem.head _))) (by kernel_rfl) (fun _ _ h => h)),
      stepN (i := 3) (dst := some 50) (op := (.load 4 (.tmp 49))) (by kernel_rfl) (loadP (r := (isE (.bool m))) (by kernel_rfl) (fun _ _ h => h) (List.Mem.tail _ (List.Mem.tail _ (List.Mem.head _))) (by kernel_rfl) (by kernel_rfl) rfl fldMM (fun _ _ h => h)),
      stepN (i := 4) (dst := some 51) (op := (.call { callee := .value (.func 26), args := #[(.tmp 48), (.tmp 50)], argTypes := #[31, 4] })) (by kernel_rfl) (call2 (enters_of Tryd.func26 (by kernel_rfl) rfl) (argT (p := (isD (Mx.val (a.take 4)) 32)) (by kernel_rfl) (fun _ _ h => h)) (argT (p := (isE (.bool m))) (by kernel_rfl) (fun _ _ h => h)) (fun w u1 u2 h1 h2 => by subst h2; exact ofV_any h1) (fun _ _ h => h)),
      stepN (i := 5) (dst := some 52) (op := (.move (.tmp 7))) (by kernel_rfl) (move (argO (p := (isD 1 1)) (List.Mem.tail _ (List.Mem.tail _ (List.Mem.tail _ (List.Mem.tail _ (List.Mem.tail _ (List.Mem.head _)))))) (by kernel_rfl)) (fun _ _ h => h)),
      stepN (i := 6) (dst := some 53) (op := (.call { callee := .value (.func 25), args := #[(.tmp 51), (.tmp 52)], argTypes := #[33, 31] })) (by kernel_rfl) (call2 (enters_of Tryd.func25 (by kernel_rfl) rfl) (argT (p := (isV (signed (Mx.val (a.take 4)) m) 32)) (by kernel_rfl) (fun _ _ h => h)) (argT (p := (isD 1 1)) (by kernel_rfl) (fun _ _ h => h)) (fun w u1 u2 h1 h2 => make_r h1 h2 (by omega) (by omega) (by decide)) (fun _ _ h => h)),
      isStore rfl,
      isStore rfl, trivial⟩) ?_
  clear hS kf ac
  try clear w
  intro kf ac w hS
  exact wp_ret (ret_cc (q := (isQ (((signed (Mx.val (a.take 4)) m : Int) : Rat) / ((signed 1 false : Int) : Rat)) (max 4 1 + 1))) (r := (isR (mkRat (signed (Mx.val (a.take 4)) m) 1) (max 32 1))) (by kernel_rfl) hS (List.Mem.tail _ (List.Mem.head _)) (List.Mem.head _) (fun _ _ h1 h2 => ⟨_, rfl, IsT.mk2 (IsQ.weak (IsQ.eq h1 ((of_signed (by decide)).trans (numQ_one hb))) (by decide)) (IsR.weak (IsR.eq h2 (numQ_one hb)) (by decide)), hS.grow⟩))
set_option maxRecDepth 100000 in
set_option maxHeartbeats 4000000 in
theorem num_m1 {w : World} {v0 : Value} {a b : List Nat} {m : Bool} (h0 : (isM a b m) w v0) (hb : Mx.val (b.take 3) ≠ 0) : Calls Tryd.prog 6 #[v0] w (Ret w fun v w' => (IsT [(isQ (numQ a b m) 5), (isR (numQ a b m) 32)]) w' v) := by
  refine enter (s := soft) (n := 54) (c := (.seq (.region 0 (regionOps Tryd.f6 0) false) (.seq (.region 1 (regionOps Tryd.f6 1) true) (.seq (.region 2 (regionOps Tryd.f6 2) false) (.seq (.region 3 (regionOps Tryd.f6 3) false) (.seq (.seq (.region 4 (regionOps Tryd.f6 4) false) (.cond (.tmp 32) (.region 5 (regionOps Tryd.f6 5) false) .skip)) (.seq (.region 6 (regionOps Tryd.f6 6) true) (.seq (.region 7 (regionOps Tryd.f6 7) true) .ret)))))))) Tryd.func6 (by kernel_rfl) (by kernel_rfl) (by simp) [(0, (isM a b m))] ⟨⟨by simp, h0⟩, trivial⟩ ?_
  intro kf ac hS
  refine plain_seq (m := 3) (by kernel_rfl) ?_
  refine box0 (p := 1) (y := 0) (t := 24) (q := (isM a b m)) hS (by kernel_rfl) rfl rfl rfl (List.Mem.head _) shM trivial ⟨(stb_M _ _ _), trivial⟩ ?_
  clear hS kf ac
  try clear w
  intro kf ac w hS
  refine alloc0 (p := 2) (t := 30) hS (by kernel_rfl) rfl rfl rfl (by kernel_rfl) ⟨(stb_M _ _ _), trivial⟩ ⟨(stb_M _ _ _), trivial⟩ ?_
  clear hS kf ac
  try clear w
  intro kf ac w hS
  refine alloc0 (p := 3) (t := 35) hS (by kernel_rfl) rfl rfl rfl (by kernel_rfl) ⟨stb_true, (stb_M _ _ _), trivial⟩ ⟨(stb_M _ _ _), trivial⟩ ?_
  clear hS kf ac
  try clear w
  intro kf ac w hS
  refine plain_end ?_
  refine region_seq (s := soft) (kf0 := kf) (by kernel_rfl) hS (Rg.look [(11, (isE (.pointer (some ⟨kf 1, 0, none⟩)))),
      (12, (isS a)),
      (13, (isE (.pointer (some ⟨kf 1, 0, none⟩)))),
      (14, (isS a)),
      (15, (isE (.int .i64 ((a.length : Nat) : Int)))),
      (16, (isE (.int .i64 (((min a.length 4 : Nat) : Int))))),
      (17, (isS (a.take 4))),
      (18, (isE (.pointer (some ⟨kf 1, 1, none⟩)))),
      (19, (isS b)),
      (20, (isE (.pointer (some ⟨kf 1, 1, none⟩)))),
      (21, (isS b)),
      (22, (isE (.int .i64 ((b.length : Nat) : Int)))),
      (23, (isE (.int .i64 (((min b.length 3 : Nat) : Int))))),
      (24, (isS (b.take 3))),
      (4, (isS (a.take 4))),
      (5, (isS (b.take 3)))])
    ⟨[], []⟩ [⟨3, 35, isX⟩, ⟨2, 30, isX⟩, ⟨1, 24, (isM a b m)⟩] [(0, (isM a b m)), (4, (isS (a.take 4))), (5, (isS (b.take 3)))] (by kernel_rfl) (by kernel_rfl) (look_stb _ ⟨(stb_eq _), (stb_S _), (stb_eq _), (stb_S _), (stb_eq _), (stb_eq _), (stb_S _), (stb_eq _), (stb_S _), (stb_eq _), (stb_S _), (stb_eq _), (stb_eq _), (stb_S _), (stb_S _), (stb_S _), trivial⟩) ⟨stb_true, stb_true, (stb_M _ _ _), trivial⟩ ⟨(stb_M _ _ _), trivial⟩ trivial trivial
    ⟨.inr (.inl ⟨rfl, _, (List.Mem.head _), rfl, rfl, (fun _ _ h => h)⟩), .inr (.inl ⟨rfl, _, (List.Mem.tail _ (List.Mem.head _)), rfl, rfl, (fun _ _ h => h)⟩), .inr (.inl ⟨rfl, _, (List.Mem.tail _ (List.Mem.tail _ (List.Mem.head _))), rfl, rfl, (fun _ _ h => h)⟩), trivial⟩
    ⟨.inr ⟨(by kernel_rfl), _, (List.Mem.head _), rfl, (fun _ _ h => h)⟩, .inl ⟨(by kernel_rfl), rfl, (fun _ _ h => h)⟩, .inl ⟨(by kernel_rfl), rfl, (fun _ _ h => h)⟩, trivial⟩
    (steps (m := 16) (by kernel_rfl) ⟨stepN (i := 0) (dst := some 11) (op := (.fieldAddr 24 (.tmp 1) 0)) (by kernel_rfl) (fieldV (off := 0) (sz := 1) (List.Mem.tail _ (List.Mem.tail _ (List.Mem.head _))) (by kernel_rfl) (fun _ _ h => h)),
      stepN (i := 1) (dst := some 12) (op := (.load 22 (.tmp 11))) (by kernel_rfl) (loadP (r := (isS a)) (by kernel_rfl) (fun _ _ h => h) (List.Mem.tail _ (List.Mem.tail _ (List.Mem.head _))) (by kernel_rfl) (by kernel_rfl) rfl fldMA (fun _ _ h => h)),
      stepN (i := 2) (dst := some 13) (op := (.fieldAddr 24 (.tmp 1) 0)) (by kernel_rfl) (fieldV (off := 0) (sz := 1) (List.Mem.tail _ (List.Mem.tail _ (List.Mem.head _))) (by kernel_rfl) (fun _ _ h => h)),
      stepN (i := 3) (dst := some 14) (op := (.load 22 (.tmp 13))) (by kernel_rfl) (loadP (r := (isS a)) (by kernel_rfl) (fun _ _ h => h) (List.Mem.tail _ (List.Mem.tail _ (List.Mem.head _))) (by kernel_rfl) (by kernel_rfl) rfl fldMA (fun _ _ h => h)),
      stepN (i := 4) (dst := some 15) (op := (.call { callee := .builtin .len, args := #[(.tmp 14)], argTypes := #[22] })) (by kernel_rfl) (lenS (argT (p := (isS a)) (by kernel_rfl) (fun _ _ h => h)) rfl (fun _ _ h => h)),
      stepN (i := 5) (dst := some 16) (op := (.call { callee := .builtin .min, args := #[(.tmp 15), (.const (.int .i64 4))], argTypes := #[3, 3] })) (by kernel_rfl) (minI (r := ((min a.length 4 : Nat) : Int)) (argT (p := (isE (.int .i64 ((a.length : Nat) : Int)))) (by kernel_rfl) (fun _ _ h => h)) (argC (.int .i64 4)) (by omega) (fun _ _ h => h)),
      stepN (i := 6) (dst := some 17) (op := (.slice 22 (.tmp 12) none (some (.tmp 16)) none)) (by kernel_rfl) (upS (n := min a.length 4) (argT (p := (isS a)) (by kernel_rfl) (fun _ _ h => h)) (argT (p := (isE (.int .i64 (((min a.length 4 : Nat) : Int))))) (by kernel_rfl) (fun _ _ h => h)) (by omega) (fun w v h => (by rw [take_min] at h; exact h))),
      stepN (i := 7) (dst := some 18) (op := (.fieldAddr 24 (.tmp 1) 1)) (by kernel_rfl) (fieldV (off := 1) (sz := 1) (List.Mem.tail _ (List.Mem.tail _ (List.Mem.head _))) (by kernel_rfl) (fun _ _ h => h)),
      stepN (i := 8) (dst := some 19) (op := (.load 22 (.tmp 18))) (by kernel_rfl) (loadP (r := (isS b)) (by kernel_rfl) (fun _ _ h => h) (List.Mem.tail _ (List.Mem.tail _ (List.Mem.head _))) (by kernel_rfl) (by kernel_rfl) rfl fldMB (fun _ _ h => h)),
      stepN (i := 9) (dst := some 20) (op := (.fieldAddr 24 (.tmp 1) 1)) (by kernel_rfl) (fieldV (off := 1) (sz := 1) (List.Mem.tail _ (List.Mem.tail _ (List.Mem.head _))) (by kernel_rfl) (fun _ _ h => h)),
      stepN (i := 10) (dst := some 21) (op := (.load 22 (.tmp 20))) (by kernel_rfl) (loadP (r := (isS b)) (by kernel_rfl) (fun _ _ h => h) (List.Mem.tail _ (List.Mem.tail _ (List.Mem.head _))) (by kernel_rfl) (by kernel_rfl) rfl fldMB (fun _ _ h => h)),
      stepN (i := 11) (dst := some 22) (op := (.call { callee := .builtin .len, args := #[(.tmp 21)], argTypes := #[22] })) (by kernel_rfl) (lenS (argT (p := (isS b)) (by kernel_rfl) (fun _ _ h => h)) rfl (fun _ _ h => h)),
      stepN (i := 12) (dst := some 23) (op := (.call { callee := .builtin .min, args := #[(.tmp 22), (.const (.int .i64 3))], argTypes := #[3, 3] })) (by kernel_rfl) (minI (r := ((min b.length 3 : Nat) : Int)) (argT (p := (isE (.int .i64 ((b.length : Nat) : Int)))) (by kernel_rfl) (fun _ _ h => h)) (argC (.int .i64 3)) (by omega) (fun _ _ h => h)),
      stepN (i := 13) (dst := some 24) (op := (.slice 22 (.tmp 19) none (some (.tmp 23)) none)) (by kernel_rfl) (upS (n := min b.length 3) (argT (p := (isS b)) (by kernel_rfl) (fun _ _ h => h)) (argT (p := (isE (.int .i64 (((min b.length 3 : Nat) : Int))))) (by kernel_rfl) (fun _ _ h => h)) (by omega) (fun w v h => (by rw [take_min] at h; exact h))),
      stepN (i := 14) (dst := some 4) (op := (.assign (.tmp 17))) (by kernel_rfl) (assign (argT (p := (isS (a.take 4))) (by kernel_rfl) (fun _ _ h => h)) (fun _ _ h => h)),
      stepN (i := 15) (dst := some 5) (op := (.assign (.tmp 24))) (by kernel_rfl) (assign (argT (p := (isS (b.take 3))) (by kernel_rfl) (fun _ _ h => h)) (fun _ _ h => h)), trivial⟩) ?_
  clear hS kf ac
  try clear w
  intro kf ac w hS
  refine region_seq (s := soft) (kf0 := kf) (by kernel_rfl) hS (Rg.look [(25, (isS (a.take 4))),
      (26, (isD (Mx.val (a.take 4)) 32)),
      (27, (isS (b.take 3))),
      (28, (isD (Mx.val (b.take 3)) 32)),
      (6, (isD (Mx.val (a.take 4)) 32)),
      (7, (isD (Mx.val (b.take 3)) 32))])
    ⟨[], []⟩ [⟨3, 35, isX⟩, ⟨2, 30, isX⟩, ⟨1, 24, (isM a b m)⟩] [(0, (isM a b m)), (4, (isS (a.take 4))), (5, (isS (b.take 3))), (6, (isD (Mx.val (a.take 4)) 32)), (7, (isD (Mx.val (b.take 3)) 32))] (by kernel_rfl) (by kernel_rfl) (look_stb _ ⟨(stb_S _), (stb_D _ _), (stb_S _), (stb_D _ _), (stb_D _ _), (stb_D _ _), trivial⟩) ⟨stb_true, stb_true, (stb_M _ _ _), trivial⟩ ⟨(stb_M _ _ _), (stb_S _), (stb_S _), trivial⟩ trivial trivial
    ⟨.inr (.inl ⟨rfl, _, (List.Mem.head _), rfl, rfl, (fun _ _ h => h)⟩), .inr (.inl ⟨rfl, _, (List.Mem.tail _ (List.Mem.head _)), rfl, rfl, (fun _ _ h => h)⟩), .inr (.inl ⟨rfl, _, (List.Mem.tail _ (List.Mem.tail _ (List.Mem.head _))), rfl, rfl, (fun _ _ h => h)⟩), trivial⟩
    ⟨.inr ⟨(by kernel_rfl), _, (List.Mem.head _), rfl, (fun _ _ h => h)⟩, .inr ⟨(by kernel_rfl), _, (List.Mem.tail _ (List.Mem.head _)), rfl, (fun _ _ h => h)⟩, .inr ⟨(by kernel_rfl), _, (List.Mem.tail _ (List.Mem.tail _ (List.Mem.head _))), rfl, (fun _ _ h => h)⟩, .inl ⟨(by kernel_rfl), rfl, (fun _ _ h => h)⟩, .inl ⟨(by kernel_rfl), rfl, (fun _ _ h => h)⟩, trivial⟩
    (steps (m := 6) (by kernel_rfl) ⟨stepN (i := 0) (dst := some 25) (op := (.move (.tmp 4))) (by kernel_rfl) (move (argO (p := (isS (a.take 4))) (List.Mem.tail _ (List.Mem.head _)) (by kernel_rfl)) (fun _ _ h => h)),
      stepN (i := 1) (dst := some 26) (op := (.call { callee := .value (.func 20), args := #[(.tmp 25)], argTypes := #[22] })) (by kernel_rfl) (call1 (enters_of Tryd.func20 (by kernel_rfl) rfl) (argT (p := (isS (a.take 4))) (by kernel_rfl) (fun _ _ h => h)) (fun w u1 h1 => refOf_any _ _ _ (by simp [List.length_take]; omega) h1) (fun _ _ h => IsD.weak' h (by simp [List.length_take]; omega))),
      stepN (i := 2) (dst := some 27) (op := (.move (.tmp 5))) (by kernel_rfl) (move (argO (p := (isS (b.take 3))) (List.Mem.tail _ (List.Mem.tail _ (List.Mem.head _))) (by kernel_rfl)) (fun _ _ h => h)),
      stepN (i := 3) (dst := some 28) (op := (.call { callee := .value (.func 20), args := #[(.tmp 27)], argTypes := #[22] })) (by kernel_rfl) (call1 (enters_of Tryd.func20 (by kernel_rfl) rfl) (argT (p := (isS (b.take 3))) (by kernel_rfl) (fun _ _ h => h)) (fun w u1 h1 => refOf_any _ _ _ (by simp [List.length_take]; omega) h1) (fun _ _ h => IsD.weak' h (by simp [List.length_take]; omega))),
      stepN (i := 4) (dst := some 6) (op := (.assign (.tmp 26))) (by kernel_rfl) (assign (argT (p := (isD (Mx.val (a.take 4)) 32)) (by kernel_rfl) (fun _ _ h => h)) (fun _ _ h => h)),
      stepN (i := 5) (dst := some 7) (op := (.assign (.tmp 28))) (by kernel_rfl) (assign (argT (p := (isD (Mx.val (b.take 3)) 32)) (by kernel_rfl) (fun _ _ h => h)) (fun _ _ h => h)), trivial⟩) ?_
  clear hS kf ac
  try clear w
  intro kf ac w hS
  refine region_seq (s := soft) (kf0 := kf) (by kernel_rfl) hS (Rg.look [(29, (isS (b.take 3))),
      (30, (isN (Mx.val (b.take 3)) 4)),
      (8, isX)])
    ⟨[(2, 8, 26)], [(3, 8, 30, 26)]⟩ [⟨3, 35, isX⟩, ⟨2, 30, isX⟩, ⟨1, 24, (isM a b m)⟩, ⟨8, 26, (isN (Mx.val (b.take 3)) 4)⟩] [(0, (isM a b m)), (4, (isS (a.take 4))), (5, (isS (b.take 3))), (6, (isD (Mx.val (a.take 4)) 32)), (7, (isD (Mx.val (b.take 3)) 32))] (by kernel_rfl) (by kernel_rfl) (look_stb _ ⟨(stb_S _), (stb_N _ _), stb_true, trivial⟩) ⟨stb_true, stb_true, (stb_M _ _ _), trivial⟩ ⟨(stb_M _ _ _), (stb_S _), (stb_S _), (stb_D _ _), (stb_D _ _), trivial⟩ ⟨fun _ _ => trivial, trivial⟩ ⟨shN, trivial⟩
    ⟨.inr (.inl ⟨rfl, _, (List.Mem.head _), rfl, rfl, (fun _ _ h => h)⟩), .inr (.inl ⟨rfl, _, (List.Mem.tail _ (List.Mem.head _)), rfl, rfl, (fun _ _ h => h)⟩), .inr (.inl ⟨rfl, _, (List.Mem.tail _ (List.Mem.tail _ (List.Mem.head _))), rfl, rfl, (fun _ _ h => h)⟩), .inl ⟨_, (List.Mem.head _), rfl, rfl, (fun _ _ h => h)⟩, trivial⟩
    ⟨.inr ⟨(by kernel_rfl), _, (List.Mem.head _), rfl, (fun _ _ h => h)⟩, .inr ⟨(by kernel_rfl), _, (List.Mem.tail _ (List.Mem.head _)), rfl, (fun _ _ h => h)⟩, .inr ⟨(by kernel_rfl), _, (List.Mem.tail _ (List.Mem.tail _ (List.Mem.head _))), rfl, (fun _ _ h => h)⟩, .inr ⟨(by kernel_rfl), _, (List.Mem.tail _ (List.Mem.tail _ (List.Mem.tail _ (List.Mem.head _)))), rfl, (fun _ _ h => h)⟩, .inr ⟨(by kernel_rfl), _, (List.Mem.tail _ (List.Mem.tail _ (List.Mem.tail _ (List.Mem.tail _ (List.Mem.head _))))), rfl, (fun _ _ h => h)⟩, trivial⟩
    (steps (m := 4) (by kernel_rfl) ⟨stepN (i := 0) (dst := some 29) (op := (.move (.tmp 5))) (by kernel_rfl) (move (argO (p := (isS (b.take 3))) (List.Mem.tail _ (List.Mem.tail _ (List.Mem.head _))) (by kernel_rfl)) (fun _ _ h => h)),
      stepN (i := 1) (dst := some 30) (op := (.call { callee := .value (.func 21), args := #[(.tmp 29)], argTypes := #[22] })) (by kernel_rfl) (call1 (enters_of Tryd.func21 (by kernel_rfl) rfl) (argT (p := (isS (b.take 3))) (by kernel_rfl) (fun _ _ h => h)) (fun w u1 h1 => of_n 4 h1 (by simp [List.length_take]; omega) (by omega)) (fun _ _ h => h)),
      isAlloc rfl,
      isStore rfl, trivial⟩) ?_
  clear hS kf ac
  try clear w
  intro kf ac w hS
  refine wp_seq ?_
  refine region_seq (s := soft) (kf0 := kf) (by kernel_rfl) hS (Rg.look [(31, (isN (Mx.val (b.take 3)) 4)),
      (32, (isE (.bool ((Mx.val (b.take 3)) == 0))))])
    ⟨[], []⟩ [⟨3, 35, isX⟩, ⟨2, 30, isX⟩, ⟨1, 24, (isM a b m)⟩, ⟨8, 26, (isN (Mx.val (b.take 3)) 4)⟩] [(0, (isM a b m)), (4, (isS (a.take 4))), (5, (isS (b.take 3))), (6, (isD (Mx.val (a.take 4)) 32)), (7, (isD (Mx.val (b.take 3)) 32)), (32, (isE (.bool ((Mx.val (b.take 3)) == 0))))] (by kernel_rfl) (by kernel_rfl) (look_stb _ ⟨(stb_N _ _), (stb_eq _), trivial⟩) ⟨stb_true, stb_true, (stb_M _ _ _), (stb_N _ _), trivial⟩ ⟨(stb_M _ _ _), (stb_S _), (stb_S _), (stb_D _ _), (stb_D _ _), trivial⟩ trivial trivial
    ⟨.inr (.inl ⟨rfl, _, (List.Mem.head _), rfl, rfl, (fun _ _ h => h)⟩), .inr (.inl ⟨rfl, _, (List.Mem.tail _ (List.Mem.head _)), rfl, rfl, (fun _ _ h => h)⟩), .inr (.inl ⟨rfl, _, (List.Mem.tail _ (List.Mem.tail _ (List.Mem.head _))), rfl, rfl, (fun _ _ h => h)⟩), .inr (.inl ⟨rfl, _, (List.Mem.tail _ (List.Mem.tail _ (List.Mem.tail _ (List.Mem.head _)))), rfl, rfl, (fun _ _ h => h)⟩), trivial⟩
    ⟨.inr ⟨(by kernel_rfl), _, (List.Mem.head _), rfl, (fun _ _ h => h)⟩, .inr ⟨(by kernel_rfl), _, (List.Mem.tail _ (List.Mem.head _)), rfl, (fun _ _ h => h)⟩, .inr ⟨(by kernel_rfl), _, (List.Mem.tail _ (List.Mem.tail _ (List.Mem.head _))), rfl, (fun _ _ h => h)⟩, .inr ⟨(by kernel_rfl), _, (List.Mem.tail _ (List.Mem.tail _ (List.Mem.tail _ (List.Mem.head _)))), rfl, (fun _ _ h => h)⟩, .inr ⟨(by kernel_rfl), _, (List.Mem.tail _ (List.Mem.tail _ (List.Mem.tail _ (List.Mem.tail _ (List.Mem.head _))))), rfl, (fun _ _ h => h)⟩, .inl ⟨(by kernel_rfl), rfl, (fun _ _ h => h)⟩, trivial⟩
    (steps (m := 2) (by kernel_rfl) ⟨stepN (i := 0) (dst := some 31) (op := (.load 26 (.tmp 8))) (by kernel_rfl) (loadV (List.Mem.tail _ (List.Mem.tail _ (List.Mem.tail _ (List.Mem.head _)))) (by kernel_rfl) (fun _ _ h => h)),
      stepN (i := 1) (dst := some 32) (op := (.call { callee := .value (.func 22), args := #[(.tmp 31)], argTypes := #[26] })) (by kernel_rfl) (call1 (enters_of Tryd.func22 (by kernel_rfl) rfl) (argT (p := (isN (Mx.val (b.take 3)) 4)) (by kernel_rfl) (fun _ _ h => h)) (fun w u1 h1 => zero_n h1) (fun _ _ h => h)), trivial⟩) ?_
  clear hS kf ac
  try clear w
  intro kf ac w hS
  refine cond_false (q := (isE (.bool ((Mx.val (b.take 3)) == 0)))) hS (List.Mem.tail _ (List.Mem.tail _ (List.Mem.tail _ (List.Mem.tail _ (List.Mem.tail _ (List.Mem.head _)))))) (fun _ _ h => h.trans (congrArg _ (by simp [hb]))) ?_
  refine skip_then ?_
  refine region_seq (s := soft) (kf0 := kf) (by kernel_rfl) hS (Rg.look [(37, (isS (a.take 4))),
      (38, (isN (Mx.val (a.take 4)) 4)),
      (39, (isE (.pointer (some ⟨kf 1, 2, none⟩)))),
      (40, (isE (.bool m))),
      (41, (isW (signed (Mx.val (a.take 4)) m) 4)),
      (42, (isN (Mx.val (b.take 3)) 4)),
      (43, (isW (signed (Mx.val (b.take 3)) false) 4)),
      (44, (IsT [(isQ (((signed (Mx.val (a.take 4)) m : Int) : Rat) / ((signed (Mx.val (b.take 3)) false : Int) : Rat)) (max 4 4 + 1)), (isE (.int .i64 0))])),
      (36, (IsT [(isQ (((signed (Mx.val (a.take 4)) m : Int) : Rat) / ((signed (Mx.val (b.take 3)) false : Int) : Rat)) (max 4 4 + 1)), (isE (.int .i64 0))])),
      (45, (isQ (((signed (Mx.val (a.take 4)) m : Int) : Rat) / ((signed (Mx.val (b.take 3)) false : Int) : Rat)) (max 4 4 + 1))),
      (46, (isE (.int .i64 0))),
      (9, isX),
      (10, (isE (.int .i64 0)))])
    ⟨[(11, 9, 30)], [(12, 9, 45, 30)]⟩ [⟨3, 35, isX⟩, ⟨2, 30, isX⟩, ⟨1, 24, (isM a b m)⟩, ⟨8, 26, (isN (Mx.val (b.take 3)) 4)⟩, ⟨9, 30, (isQ (((signed (Mx.val (a.take 4)) m : Int) : Rat) / ((signed (Mx.val (b.take 3)) false : Int) : Rat)) (max 4 4 + 1))⟩] [(0, (isM a b m)), (4, (isS (a.take 4))), (5, (isS (b.take 3))), (6, (isD (Mx.val (a.take 4)) 32)), (7, (isD (Mx.val (b.take 3)) 32)), (32, (isE (.bool ((Mx.val (b.take 3)) == 0))))] (by kernel_rfl) (by kernel_rfl) (look_stb _ ⟨(stb_S _), (stb_N _ _), (stb_eq _), (stb_eq _), (stb_W _ _), (stb_N _ _), (stb_W _ _), (stb_T ⟨(stb_Q _ _), (stb_eq _), trivial⟩), (stb_T ⟨(stb_Q _ _), (stb_eq _), trivial⟩), (stb_Q _ _), (stb_eq _), stb_true, (stb_eq _), trivial⟩) ⟨stb_true, stb_true, (stb_M _ _ _), (stb_N _ _), trivial⟩ ⟨(stb_M _ _ _), (stb_S _), (stb_S _), (stb_D _ _), (stb_D _ _), (stb_eq _), trivial⟩ ⟨fun _ _ => trivial, trivial⟩ ⟨shQ, trivial⟩
    ⟨.inr (.inl ⟨rfl, _, (List.Mem.head _), rfl, rfl, (fun _ _ h => h)⟩), .inr (.inl ⟨rfl, _, (List.Mem.tail _ (List.Mem.head _)), rfl, rfl, (fun _ _ h => h)⟩), .inr (.inl ⟨rfl, _, (List.Mem.tail _ (List.Mem.tail _ (List.Mem.head _))), rfl, rfl, (fun _ _ h => h)⟩), .inr (.inl ⟨rfl, _, (List.Mem.tail _ (List.Mem.tail _ (List.Mem.tail _ (List.Mem.head _)))), rfl, rfl, (fun _ _ h => h)⟩), .inl ⟨_, (List.Mem.head _), rfl, rfl, (fun _ _ h => h)⟩, trivial⟩
    ⟨.inr ⟨(by kernel_rfl), _, (List.Mem.head _), rfl, (fun _ _ h => h)⟩, .inr ⟨(by kernel_rfl), _, (List.Mem.tail _ (List.Mem.head _)), rfl, (fun _ _ h => h)⟩, .inr ⟨(by kernel_rfl), _, (List.Mem.tail _ (List.Mem.tail _ (List.Mem.head _))), rfl, (fun _ _ h => h)⟩, .inr ⟨(by kernel_rfl), _, (List.Mem.tail _ (List.Mem.tail _ (List.Mem.tail _ (List.Mem.head _)))), rfl, (fun _ _ h => h)⟩, .inr ⟨(by kernel_rfl), _, (List.Mem.tail _ (List.Mem.tail _ (List.Mem.tail _ (List.Mem.tail _ (List.Mem.head _))))), rfl, (fun _ _ h => h)⟩, .inr ⟨(by kernel_rfl), _, (List.Mem.tail _ (List.Mem.tail _ (List.Mem.tail _ (List.Mem.tail _ (List.Mem.tail _ (List.Mem.head _)))))), rfl, (fun _ _ h => h)⟩, trivial⟩
    (steps (m := 14) (by kernel_rfl) ⟨stepN (i := 0) (dst := some 37) (op := (.move (.tmp 4))) (by kernel_rfl) (move (argO (p := (isS (a.take 4))) (List.Mem.tail _ (List.Mem.head _)) (by kernel_rfl)) (fun _ _ h => h)),
      stepN (i := 1) (dst := some 38) (op := (.call { callee := .value (.func 21), args := #[(.tmp 37)], argTypes := #[22] })) (by kernel_rfl) (call1 (enters_of Tryd.func21 (by kernel_rfl) rfl) (argT (p := (isS (a.take 4))) (by kernel_rfl) (fun _ _ h => h)) (fun w u1 h1 => of_n 4 h1 (by simp [List.length_take]; omega) (by omega)) (fun _ _ h => h)),
      stepN (i := 2) (dst := some 39) (op := (.fieldAddr 24 (.tmp 1) 2)) (by kernel_rfl) (fieldV (off := 2) (sz := 1) (List.Mem.tail _ (List.Mem.tail _ (List.Mem.head _))) (by kernel_rfl) (fun _ _ h => h)),
      stepN (i := 3) (dst := some 40) (op := (.load 4 (.tmp 39))) (by kernel_rfl) (loadP (r := (isE (.bool m))) (by kernel_rfl) (fun _ _ h => h) (List.Mem.tail _ (List.Mem.tail _ (List.Mem.head _))) (by kernel_rfl) (by kernel_rfl) rfl fldMM (fun _ _ h => h)),
      stepN (i := 4) (dst := some 41) (op := (.call { callee := .value (.func 24), args := #[(.tmp 38), (.tmp 40)], argTypes := #[26, 4] })) (by kernel_rfl) (call2 (enters_of Tryd.func24 (by kernel_rfl) rfl) (argT (p := (isN (Mx.val (a.take 4)) 4)) (by kernel_rfl) (fun _ _ h => h)) (argT (p := (isE (.bool m))) (by kernel_rfl) (fun _ _ h => h)) (fun w u1 u2 h1 h2 => by subst h2; exact of_w h1) (fun _ _ h => h)),
      stepN (i := 5) (dst := some 42) (op := (.load 26 (.tmp 8))) (by kernel_rfl) (loadV (List.Mem.tail _ (List.Mem.tail _ (List.Mem.tail _ (List.Mem.head _)))) (by kernel_rfl) (fun _ _ h => h)),
      stepN (i := 6) (dst := some 43) (op := (.call { callee := .value (.func 24), args := #[(.tmp 42), (.const (.bool false))], argTypes := #[26, 4] })) (by kernel_rfl) (call2 (enters_of Tryd.func24 (by kernel_rfl) rfl) (argT (p := (isN (Mx.val (b.take 3)) 4)) (by kernel_rfl) (fun _ _ h => h)) (argC (.bool false)) (fun w u1 u2 h1 h2 => by subst h2; exact of_w h1) (fun _ _ h => h)),
      stepN (i := 7) (dst := some 44) (op := (.call { callee := .value (.func 23), args := #[(.tmp 41), (.tmp 43)], argTypes := #[28, 28] })) (by kernel_rfl) (call2 (enters_of Tryd.func23 (by kernel_rfl) rfl) (argT (p := (isW (signed (Mx.val (a.take 4)) m) 4)) (by kernel_rfl) (fun _ _ h => h)) (argT (p := (isW (signed (Mx.val (b.take 3)) false) 4)) (by kernel_rfl) (fun _ _ h => h)) (fun w u1 u2 h1 h2 => of_q h1 h2 (by omega) (by omega) (Int.ne_of_gt (signed_pos hb))) (fun _ _ h => h)),
      stepN (i := 8) (dst := some 36) (op := (.move (.tmp 44))) (by kernel_rfl) (move (argT (p := (IsT [(isQ (((signed (Mx.val (a.take 4)) m : Int) : Rat) / ((signed (Mx.val (b.take 3)) false : Int) : Rat)) (max 4 4 + 1)), (isE (.int .i64 0))])) (by kernel_rfl) (fun _ _ h => h)) (fun _ _ h => h)),
      stepN (i := 9) (dst := some 45) (op := (.extract (.tmp 36) 0)) (by kernel_rfl) (extract (by kernel_rfl) (fun _ _ h => h) rfl (fun _ _ h => h)),
      stepN (i := 10) (dst := some 46) (op := (.extract (.tmp 36) 1)) (by kernel_rfl) (extract (by kernel_rfl) (fun _ _ h => h) rfl (fun _ _ h => h)),
      isAlloc rfl,
      isStore rfl,
      stepN (i := 13) (dst := some 10) (op := (.assign (.tmp 46))) (by kernel_rfl) (assign (argT (p := (isE (.int .i64 0))) (by kernel_rfl) (fun _ _ h => h)) (fun _ _ h => h)), trivial⟩) ?_
  clear hS kf ac
  try clear w
  intro kf ac w hS
  refine region_seq (s := soft) (kf0 := kf) (by kernel_rfl) hS (Rg.look [(47, (isQ (((signed (Mx.val (a.take 4)) m : Int) : Rat) / ((signed (Mx.val (b.take 3)) false : Int) : Rat)) (max 4 4 + 1))),
      (48, (isD (Mx.val (a.take 4)) 32)),
      (49, (isE (.pointer (some ⟨kf 1, 2, none⟩)))),
      (50, (isE (.bool m))),
      (51, (isV (signed (Mx.val (a.take 4)) m) 32)),
      (52, (isD (Mx.val (b.take 3)) 32)),
      (53, (isR (mkRat (signed (Mx.val (a.take 4)) m) (Mx.val (b.take 3))) (max 32 32)))])
    ⟨[], [(7, 2, 47, 30), (8, 3, 53, 35)]⟩ [⟨3, 35, (isR (mkRat (signed (Mx.val (a.take 4)) m) (Mx.val (b.take 3))) (max 32 32))⟩, ⟨2, 30, (isQ (((signed (Mx.val (a.take 4)) m : Int) : Rat) / ((signed (Mx.val (b.take 3)) false : Int) : Rat)) (max 4 4 + 1))⟩, ⟨1, 24, (isM a b m)⟩, ⟨8, 26, (isN (Mx.val (b.take 3)) 4)⟩, ⟨9, 30, (isQ (((signed (Mx.val (a.take 4)) m : Int) : Rat) / ((signed (Mx.val (b.take 3)) false : Int) : Rat)) (max 4 4 + 1))⟩] [(0, (isM a b m)), (4, (isS (a.take 4))), (5, (isS (b.take 3))), (6, (isD (Mx.val (a.take 4)) 32)), (7, (isD (Mx.val (b.take 3)) 32)), (32, (isE (.bool ((Mx.val (b.take 3)) == 0))))] (by kernel_rfl) (by kernel_rfl) (look_stb _ ⟨(stb_Q _ _), (stb_D _ _), (stb_eq _), (stb_eq _), (stb_V _ _), (stb_D _ _), (stb_R _ _), trivial⟩) ⟨stb_true, stb_true, (stb_M _ _ _), (stb_N _ _), (stb_Q _ _), trivial⟩ ⟨(stb_M _ _ _), (stb_S _), (stb_S _), (stb_D _ _), (stb_D _ _), (stb_eq _), trivial⟩ trivial ⟨shQ, shR, trivial⟩
    ⟨.inl ⟨_, (List.Mem.tail _ (List.Mem.head _)), rfl, rfl, (fun _ _ h => h)⟩, .inl ⟨_, (List.Mem.head _), rfl, rfl, (fun _ _ h => h)⟩, .inr (.inl ⟨rfl, _, (List.Mem.tail _ (List.Mem.tail _ (List.Mem.head _))), rfl, rfl, (fun _ _ h => h)⟩), .inr (.inl ⟨rfl, _, (List.Mem.tail _ (List.Mem.tail _ (List.Mem.tail _ (List.Mem.head _)))), rfl, rfl, (fun _ _ h => h)⟩), .inr (.inl ⟨rfl, _, (List.Mem.tail _ (List.Mem.tail _ (List.Mem.tail _ (List.Mem.tail _ (List.Mem.head _))))), rfl, rfl, (fun _ _ h => h)⟩), trivial⟩
    ⟨.inr ⟨(by kernel_rfl), _, (List.Mem.head _), rfl, (fun _ _ h => h)⟩, .inr ⟨(by kernel_rfl), _, (List.Mem.tail _ (List.Mem.head _)), rfl, (fun _ _ h => h)⟩, .inr ⟨(by kernel_rfl), _, (List.Mem.tail _ (List.Mem.tail _ (List.Mem.head _))), rfl, (fun _ _ h => h)⟩, .inr ⟨(by kernel_rfl), _, (List.Mem.tail _ (List.Mem.tail _ (List.Mem.tail _ (List.Mem.head _)))), rfl, (fun _ _ h => h)⟩, .inr ⟨(by kernel_rfl), _, (List.Mem.tail _ (List.Mem.tail _ (List.Mem.tail _ (List.Mem.tail _ (List.Mem.head _))))), rfl, (fun _ _ h => h)⟩, .inr ⟨(by kernel_rfl), _, (List.Mem.tail _ (List.Mem.tail _ (List.Mem.tail _ (List.Mem.tail _ (List.Mem.tail _ (List.Mem.head _)))))), rfl, (fun _ _ h => h)⟩, trivial⟩
    (steps (m := 9) (by kernel_rfl) ⟨stepN (i := 0) (dst := some 47) (op := (.load 30 (.tmp 9))) (by kernel_rfl) (loadV (List.Mem.tail _ (List.Mem.tail _ (List.Mem.tail _ (List.Mem.tail _ (List.Mem.head _))))) (by kernel_rfl) (fun _ _ h => h)),
      stepN (i := 1) (dst := some 48) (op := (.move (.tmp 6))) (by kernel_rfl) (move (argO (p := (isD (Mx.val (a.take 4)) 32)) (List.Mem.tail _ (List.Mem.tail _ (List.Mem.tail _ (List.Mem.head _)))) (by kernel_rfl)) (fun _ _ h => h)),
      stepN (i := 2) (dst := some 49) (op := (.fieldAddr 24 (.tmp 1) 2)) (by kernel_rfl) (fieldV (off := 2) (sz := 1) (List.Mem.tail _ (List.Mem.tail _ (List.Mem.head _))) (by kernel_rfl) (fun _ _ h => h)),
      stepN (i := 3) (dst := some 50) (op := (.load 4 (.tmp 49))) (by kernel_rfl) (loadP (r := (isE (.bool m))) (by kernel_rfl) (fun _ _ h => h) (List.Mem.tail _ (List.Mem.tail _ (List.Mem.head _))) (by kernel_rfl) (by kernel_rfl) rfl fldMM (fun _ _ h => h)),
      stepN (i := 4) (dst := some 51) (op := (.call { callee := .value (.func 26), args := #[(.tmp 48), (.tmp 50)], argTypes := #[31, 4] })) (by kernel_rfl) (call2 (enters_of Tryd.func26 (by kernel_rfl) rfl) (argT (p := (isD (Mx.val (a.take 4)) 32)) (by kernel_rfl) (fun _ _ h => h)) (argT (p := (isE (.bool m))) (by kernel_rfl) (fun _ _ h => h)) (fun w u1 u2 h1 h2 => by subst h2; exact ofV_any h1) (fun _ _ h => h)),
      stepN (i := 5) (dst := some 52) (op := (.move (.tmp 7))) (by kernel_rfl) (move (argO (p := (isD (Mx.val (b.take 3)) 32)) (List.Mem.tail _ (List.Mem.tail _ (List.Mem.tail _ (List.Mem.tail _ (List.Mem.head _))))) (by kernel_rfl)) (fun _ _ h => h)),
      stepN (i := 6) (dst := some 53) (op := (.call { callee := .value (.func 25), args := #[(.tmp 51), (.tmp 52)], argTypes := #[33, 31] })) (by kernel_rfl) (call2 (enters_of Tryd.func25 (by kernel_rfl) rfl) (argT (p := (isV (signed (Mx.val (a.take 4)) m) 32)) (by kernel_rfl) (fun _ _ h => h)) (argT (p := (isD (Mx.val (b.take 3)) 32)) (by kernel_rfl) (fun _ _ h => h)) (fun w u1 u2 h1 h2 => make_r h1 h2 (by omega) (by omega) hb) (fun _ _ h => h)),
      isStore rfl,
      isStore rfl, trivial⟩) ?_
  clear hS kf ac
  try clear w
  intro kf ac w hS
  exact wp_ret (ret_cc (q := (isQ (((signed (Mx.val (a.take 4)) m : Int) : Rat) / ((signed (Mx.val (b.take 3)) false : Int) : Rat)) (max 4 4 + 1))) (r := (isR (mkRat (signed (Mx.val (a.take 4)) m) (Mx.val (b.take 3))) (max 32 32))) (by kernel_rfl) hS (List.Mem.tail _ (List.Mem.head _)) (List.Mem.head _) (fun _ _ h1 h2 => ⟨_, rfl, IsT.mk2 (IsQ.weak (IsQ.eq h1 ((of_signed hb).trans (numQ_den hb))) (by decide)) (IsR.weak (IsR.eq h2 (numQ_den hb)) (by decide)), hS.grow⟩))
theorem num_m {w : World} {v : Value} {a b : List Nat} {m : Bool} (h : isM a b m w v) : Calls Tryd.prog 6 #[v] w (Ret w fun v' w' => IsT [isQ (numQ a b m) 5, isR (numQ a b m) 32] w' v') := by
  by_cases hb : Mx.val (b.take 3) = 0
  · exact num_m0 h hb
  · exact num_m1 h hb
set_option maxRecDepth 100000 in
set_option maxHeartbeats 4000000 in
theorem wakes5 (w : World)     : Calls Tryd.prog 12 #[] w (Ret w fun v w' => (isE (.bool true)) w' v) := by
  refine enter (s := soft) (n := 56) (c := (.seq (.region 0 (regionOps Tryd.f12 0) false) (.seq (.region 1 (regionOps Tryd.f12 1) false) (.seq (.region 2 (regionOps Tryd.f12 2) false) (.seq (.region 3 (regionOps Tryd.f12 3) false) (.seq (.region 4 (regionOps Tryd.f12 4) false) .ret)))))) Tryd.func12 (by kernel_rfl) (by kernel_rfl) (by simp) [] trivial ?_
  intro kf ac hS
  refine plain_seq (m := 1) (by kernel_rfl) ?_
  refine const0 (p := 0) (c := (.bool false)) hS (by kernel_rfl) rfl rfl rfl ?_
  clear hS kf ac
  try clear w
  intro kf ac w hS
  refine plain_end ?_
  refine region_seq (s := soft) (kf0 := kf) (by kernel_rfl) hS (Rg.look [(8, (isW 1 1)),
      (9, (isW 2 1)),
      (10, (IsT [(isQ (((1 : Int) : Rat) / ((2 : Int) : Rat)) (max 1 1 + 1)), (isE (.int .i64 0))])),
      (7, (IsT [(isQ (((1 : Int) : Rat) / ((2 : Int) : Rat)) (max 1 1 + 1)), (isE (.int .i64 0))])),
      (11, (isQ (((1 : Int) : Rat) / ((2 : Int) : Rat)) (max 1 1 + 1))),
      (12, (isE (.int .i64 0))),
      (1, isX),
      (2, (isE (.int .i64 0)))])
    ⟨[(6, 1, 30)], [(7, 1, 11, 30)]⟩ [⟨1, 30, (isQ (((1 : Int) : Rat) / ((2 : Int) : Rat)) (max 1 1 + 1))⟩] [(0, (isE (.bool false))), (2, (isE (.int .i64 0)))] (by kernel_rfl) (by kernel_rfl) (look_stb _ ⟨(stb_W _ _), (stb_W _ _), (stb_T ⟨(stb_Q _ _), (stb_eq _), trivial⟩), (stb_T ⟨(stb_Q _ _), (stb_eq _), trivial⟩), (stb_Q _ _), (stb_eq _), stb_true, (stb_eq _), trivial⟩) trivial ⟨(stb_eq _), trivial⟩ ⟨fun _ _ => trivial, trivial⟩ ⟨shQ, trivial⟩
    ⟨.inl ⟨_, (List.Mem.head _), rfl, rfl, (fun _ _ h => h)⟩, trivial⟩
    ⟨.inr ⟨(by kernel_rfl), _, (List.Mem.head _), rfl, (fun _ _ h => h)⟩, .inl ⟨(by kernel_rfl), rfl, (fun _ _ h => h)⟩, trivial⟩
    (steps (m := 9) (by kernel_rfl) ⟨stepN (i := 0) (dst := some 8) (op := (.call { callee := .value (.func 15), args := #[(.const (.int .i64 1))], argTypes := #[3] })) (by kernel_rfl) (call1 (enters_of Tryd.func15 (by kernel_rfl) rfl) (argC (.int .i64 1)) (fun w u1 h1 => by subst h1; exact from_w _ _ (by omega) (by omega)) (fun _ _ h => h)),
      stepN (i := 1) (dst := some 9) (op := (.call { callee := .value (.func 15), args := #[(.const (.int .i64 2))], argTypes := #[3] })) (by kernel_rfl) (call1 (enters_of Tryd.func15 (by kernel_rfl) rfl) (argC (.int .i64 2)) (fun w u1 h1 => by subst h1; exact from_w _ _ (by omega) (by omega)) (fun _ _ h => h)),
      stepN (i := 2) (dst := some 10) (op := (.call { callee := .value (.func 23), args := #[(.tmp 8), (.tmp 9)], argTypes := #[28, 28] })) (by kernel_rfl) (call2 (enters_of Tryd.func23 (by kernel_rfl) rfl) (argT (p := (isW 1 1)) (by kernel_rfl) (fun _ _ h => h)) (argT (p := (isW 2 1)) (by kernel_rfl) (fun _ _ h => h)) (fun w u1 u2 h1 h2 => of_q h1 h2 (by omega) (by omega) (by decide)) (fun _ _ h => h)),
      stepN (i := 3) (dst := some 7) (op := (.move (.tmp 10))) (by kernel_rfl) (move (argT (p := (IsT [(isQ (((1 : Int) : Rat) / ((2 : Int) : Rat)) (max 1 1 + 1)), (isE (.int .i64 0))])) (by kernel_rfl) (fun _ _ h => h)) (fun _ _ h => h)),
      stepN (i := 4) (dst := some 11) (op := (.extract (.tmp 7) 0)) (by kernel_rfl) (extract (by kernel_rfl) (fun _ _ h => h) rfl (fun _ _ h => h)),
      stepN (i := 5) (dst := some 12) (op := (.extract (.tmp 7) 1)) (by kernel_rfl) (extract (by kernel_rfl) (fun _ _ h => h) rfl (fun _ _ h => h)),
      isAlloc rfl,
      isStore rfl,
      stepN (i := 8) (dst := some 2) (op := (.assign (.tmp 12))) (by kernel_rfl) (assign (argT (p := (isE (.int .i64 0))) (by kernel_rfl) (fun _ _ h => h)) (fun _ _ h => h)), trivial⟩) ?_
  clear hS kf ac
  try clear w
  intro kf ac w hS
  refine region_seq (s := soft) (kf0 := kf) (by kernel_rfl) hS (Rg.look [(14, (isW (-2) 1)),
      (15, (isW (-6) 1)),
      (16, (IsT [(isQ ((((-2) : Int) : Rat) / (((-6) : Int) : Rat)) (max 1 1 + 1)), (isE (.int .i64 0))])),
      (13, (IsT [(isQ ((((-2) : Int) : Rat) / (((-6) : Int) : Rat)) (max 1 1 + 1)), (isE (.int .i64 0))])),
      (17, (isQ ((((-2) : Int) : Rat) / (((-6) : Int) : Rat)) (max 1 1 + 1))),
      (18, (isE (.int .i64 0))),
      (3, isX),
      (4, (isE (.int .i64 0)))])
    ⟨[(6, 3, 30)], [(7, 3, 17, 30)]⟩ [⟨1, 30, (isQ (((1 : Int) : Rat) / ((2 : Int) : Rat)) (max 1 1 + 1))⟩, ⟨3, 30, (isQ ((((-2) : Int) : Rat) / (((-6) : Int) : Rat)) (max 1 1 + 1))⟩] [(0, (isE (.bool false))), (2, (isE (.int .i64 0)))] (by kernel_rfl) (by kernel_rfl) (look_stb _ ⟨(stb_W _ _), (stb_W _ _), (stb_T ⟨(stb_Q _ _), (stb_eq _), trivial⟩), (stb_T ⟨(stb_Q _ _), (stb_eq _), trivial⟩), (stb_Q _ _), (stb_eq _), stb_true, (stb_eq _), trivial⟩) ⟨(stb_Q _ _), trivial⟩ ⟨(stb_eq _), (stb_eq _), trivial⟩ ⟨fun _ _ => trivial, trivial⟩ ⟨shQ, trivial⟩
    ⟨.inr (.inl ⟨rfl, _, (List.Mem.head _), rfl, rfl, (fun _ _ h => h)⟩), .inl ⟨_, (List.Mem.head _), rfl, rfl, (fun _ _ h => h)⟩, trivial⟩
    ⟨.inr ⟨(by kernel_rfl), _, (List.Mem.head _), rfl, (fun _ _ h => h)⟩, .inr ⟨(by kernel_rfl), _, (List.Mem.tail _ (List.Mem.head _)), rfl, (fun _ _ h => h)⟩, trivial⟩
    (steps (m := 9) (by kernel_rfl) ⟨stepN (i := 0) (dst := some 14) (op := (.call { callee := .value (.func 15), args := #[(.const (.int .i64 (-2)))], argTypes := #[3] })) (by kernel_rfl) (call1 (enters_of Tryd.func15 (by kernel_rfl) rfl) (argC (.int .i64 (-2))) (fun w u1 h1 => by subst h1; exact from_w _ _ (by omega) (by omega)) (fun _ _ h => h)),
      stepN (i := 1) (dst := some 15) (op := (.call { callee := .value (.func 15), args := #[(.const (.int .i64 (-6)))], argTypes := #[3] })) (by kernel_rfl) (call1 (enters_of Tryd.func15 (by kernel_rfl) rfl) (argC (.int .i64 (-6))) (fun w u1 h1 => by subst h1; exact from_w _ _ (by omega) (by omega)) (fun _ _ h => h)),
      stepN (i := 2) (dst := some 16) (op := (.call { callee := .value (.func 23), args := #[(.tmp 14), (.tmp 15)], argTypes := #[28, 28] })) (by kernel_rfl) (call2 (enters_of Tryd.func23 (by kernel_rfl) rfl) (argT (p := (isW (-2) 1)) (by kernel_rfl) (fun _ _ h => h)) (argT (p := (isW (-6) 1)) (by kernel_rfl) (fun _ _ h => h)) (fun w u1 u2 h1 h2 => of_q h1 h2 (by omega) (by omega) (by decide)) (fun _ _ h => h)),
      stepN (i := 3) (dst := some 13) (op := (.move (.tmp 16))) (by kernel_rfl) (move (argT (p := (IsT [(isQ ((((-2) : Int) : Rat) / (((-6) : Int) : Rat)) (max 1 1 + 1)), (isE (.int .i64 0))])) (by kernel_rfl) (fun _ _ h => h)) (fun _ _ h => h)),
      stepN (i := 4) (dst := some 17) (op := (.extract (.tmp 13) 0)) (by kernel_rfl) (extract (by kernel_rfl) (fun _ _ h => h) rfl (fun _ _ h => h)),
      stepN (i := 5) (dst := some 18) (op := (.extract (.tmp 13) 1)) (by kernel_rfl) (extract (by kernel_rfl) (fun _ _ h => h) rfl (fun _ _ h => h)),
      isAlloc rfl,
      isStore rfl,
      stepN (i := 8) (dst := some 4) (op := (.assign (.tmp 18))) (by kernel_rfl) (assign (argT (p := (isE (.int .i64 0))) (by kernel_rfl) (fun _ _ h => h)) (fun _ _ h => h)), trivial⟩) ?_
  clear hS kf ac
  try clear w
  intro kf ac w hS
  refine region_seq (s := soft) (kf0 := kf) (by kernel_rfl) hS (Rg.look [(20, (isW 1 1)),
      (21, (isW 0 0)),
      (22, (IsT [(isQ 0 1), (isE (.int .i64 8))])),
      (19, (IsT [(isQ 0 1), (isE (.int .i64 8))])),
      (23, (isQ 0 1)),
      (24, (isE (.int .i64 8))),
      (5, isX),
      (6, (isE (.int .i64 8)))])
    ⟨[(6, 5, 30)], [(7, 5, 23, 30)]⟩ [⟨1, 30, (isQ (((1 : Int) : Rat) / ((2 : Int) : Rat)) (max 1 1 + 1))⟩, ⟨3, 30, (isQ ((((-2) : Int) : Rat) / (((-6) : Int) : Rat)) (max 1 1 + 1))⟩, ⟨5, 30, (isQ 0 1)⟩] [(0, (isE (.bool false))), (2, (isE (.int .i64 0))), (6, (isE (.int .i64 8)))] (by kernel_rfl) (by kernel_rfl) (look_stb _ ⟨(stb_W _ _), (stb_W _ _), (stb_T ⟨(stb_Q _ _), (stb_eq _), trivial⟩), (stb_T ⟨(stb_Q _ _), (stb_eq _), trivial⟩), (stb_Q _ _), (stb_eq _), stb_true, (stb_eq _), trivial⟩) ⟨(stb_Q _ _), (stb_Q _ _), trivial⟩ ⟨(stb_eq _), (stb_eq _), trivial⟩ ⟨fun _ _ => trivial, trivial⟩ ⟨shQ, trivial⟩
    ⟨.inr (.inl ⟨rfl, _, (List.Mem.head _), rfl, rfl, (fun _ _ h => h)⟩), .inr (.inl ⟨rfl, _, (List.Mem.tail _ (List.Mem.head _)), rfl, rfl, (fun _ _ h => h)⟩), .inl ⟨_, (List.Mem.head _), rfl, rfl, (fun _ _ h => h)⟩, trivial⟩
    ⟨.inr ⟨(by kernel_rfl), _, (List.Mem.head _), rfl, (fun _ _ h => h)⟩, .inr ⟨(by kernel_rfl), _, (List.Mem.tail _ (List.Mem.head _)), rfl, (fun _ _ h => h)⟩, .inl ⟨(by kernel_rfl), rfl, (fun _ _ h => h)⟩, trivial⟩
    (steps (m := 9) (by kernel_rfl) ⟨stepN (i := 0) (dst := some 20) (op := (.call { callee := .value (.func 15), args := #[(.const (.int .i64 1))], argTypes := #[3] })) (by kernel_rfl) (call1 (enters_of Tryd.func15 (by kernel_rfl) rfl) (argC (.int .i64 1)) (fun w u1 h1 => by subst h1; exact from_w _ _ (by omega) (by omega)) (fun _ _ h => h)),
      stepN (i := 1) (dst := some 21) (op := (.build 28 #[])) (by kernel_rfl) (buildW0 (fun _ _ h => h)),
      stepN (i := 2) (dst := some 22) (op := (.call { callee := .value (.func 23), args := #[(.tmp 20), (.tmp 21)], argTypes := #[28, 28] })) (by kernel_rfl) (call2 (enters_of Tryd.func23 (by kernel_rfl) rfl) (argT (p := (isW 1 1)) (by kernel_rfl) (fun _ _ h => h)) (argT (p := (isW 0 0)) (by kernel_rfl) (fun _ _ h => h)) (fun w u1 u2 h1 h2 => of_zero h1 h2 rfl) (fun _ _ h => h)),
      stepN (i := 3) (dst := some 19) (op := (.move (.tmp 22))) (by kernel_rfl) (move (argT (p := (IsT [(isQ 0 1), (isE (.int .i64 8))])) (by kernel_rfl) (fun _ _ h => h)) (fun _ _ h => h)),
      stepN (i := 4) (dst := some 23) (op := (.extract (.tmp 19) 0)) (by kernel_rfl) (extract (by kernel_rfl) (fun _ _ h => h) rfl (fun _ _ h => h)),
      stepN (i := 5) (dst := some 24) (op := (.extract (.tmp 19) 1)) (by kernel_rfl) (extract (by kernel_rfl) (fun _ _ h => h) rfl (fun _ _ h => h)),
      isAlloc rfl,
      isStore rfl,
      stepN (i := 8) (dst := some 6) (op := (.assign (.tmp 24))) (by kernel_rfl) (assign (argT (p := (isE (.int .i64 8))) (by kernel_rfl) (fun _ _ h => h)) (fun _ _ h => h)), trivial⟩) ?_
  clear hS kf ac
  try clear w
  intro kf ac w hS
  refine region_seq (s := soft) (kf0 := kf) (by kernel_rfl) hS (Rg.look [(25, (isE (.int .i64 0))),
      (26, (isE (.bool true))),
      (27, (isE (.bool true))),
      (28, (isQ (((1 : Int) : Rat) / ((2 : Int) : Rat)) (max 1 1 + 1))),
      (29, (isQ ((((-2) : Int) : Rat) / (((-6) : Int) : Rat)) (max 1 1 + 1))),
      (30, (isQ ((((1 : Int) : Rat) / ((2 : Int) : Rat)) + ((((-2) : Int) : Rat) / (((-6) : Int) : Rat))) ((max 1 1 + 1) + (max 1 1 + 1) + 1))),
      (31, (isT (qtext ((((1 : Int) : Rat) / ((2 : Int) : Rat)) + ((((-2) : Int) : Rat) / (((-6) : Int) : Rat)))))),
      (32, (isE (.bool true))),
      (33, (isE (.bool true))),
      (34, (isE (.bool true))),
      (35, (isE (.int .i64 8))),
      (36, (isE (.bool true))),
      (37, (isE (.bool true))),
      (38, (isE (.bool true))),
      (39, (isQ (((1 : Int) : Rat) / ((2 : Int) : Rat)) (max 1 1 + 1))),
      (40, (isQ (-(((1 : Int) : Rat) / ((2 : Int) : Rat))) (max 1 1 + 1))),
      (41, (isW (Rat.floor (-(((1 : Int) : Rat) / ((2 : Int) : Rat)))) (max (max 1 1 + 1) 1 + 1))),
      (42, (isT (ztext (Rat.floor (-(((1 : Int) : Rat) / ((2 : Int) : Rat))))))),
      (43, (isE (.bool true))),
      (44, (isE (.bool true))),
      (45, (isE (.bool true))),
      (46, (isQ 0 1)),
      (47, (isT (qtext 0))),
      (48, (isE (.bool true))),
      (49, (isE (.bool true))),
      (50, (isE (.bool true))),
      (51, (isQ ((((-2) : Int) : Rat) / (((-6) : Int) : Rat)) (max 1 1 + 1))),
      (52, (isQ (((1 : Int) : Rat) / ((2 : Int) : Rat)) (max 1 1 + 1))),
      (53, (isE (.int .i64 (cmpQ ((((-2) : Int) : Rat) / (((-6) : Int) : Rat)) (((1 : Int) : Rat) / ((2 : Int) : Rat)))))),
      (54, (isE (.bool true))),
      (55, (isE (.bool true))),
      (0, (isE (.bool true)))])
    ⟨[], []⟩ [⟨1, 30, (isQ (((1 : Int) : Rat) / ((2 : Int) : Rat)) (max 1 1 + 1))⟩, ⟨3, 30, (isQ ((((-2) : Int) : Rat) / (((-6) : Int) : Rat)) (max 1 1 + 1))⟩, ⟨5, 30, (isQ 0 1)⟩] [(2, (isE (.int .i64 0))), (6, (isE (.int .i64 8))), (0, (isE (.bool true)))] (by kernel_rfl) (by kernel_rfl) (look_stb _ ⟨(stb_eq _), (stb_eq _), (stb_eq _), (stb_Q _ _), (stb_Q _ _), (stb_Q _ _), (stb_eq _), (stb_eq _), (stb_eq _), (stb_eq _), (stb_eq _), (stb_eq _), (stb_eq _), (stb_eq _), (stb_Q _ _), (stb_Q _ _), (stb_W _ _), (stb_eq _), (stb_eq _), (stb_eq _), (stb_eq _), (stb_Q _ _), (stb_eq _), (stb_eq _), (stb_eq _), (stb_eq _), (stb_Q _ _), (stb_Q _ _), (stb_eq _), (stb_eq _), (stb_eq _), (stb_eq _), trivial⟩) ⟨(stb_Q _ _), (stb_Q _ _), (stb_Q _ _), trivial⟩ ⟨(stb_eq _), (stb_eq _), (stb_eq _), trivial⟩ trivial trivial
    ⟨.inr (.inl ⟨rfl, _, (List.Mem.head _), rfl, rfl, (fun _ _ h => h)⟩), .inr (.inl ⟨rfl, _, (List.Mem.tail _ (List.Mem.head _)), rfl, rfl, (fun _ _ h => h)⟩), .inr (.inl ⟨rfl, _, (List.Mem.tail _ (List.Mem.tail _ (List.Mem.head _))), rfl, rfl, (fun _ _ h => h)⟩), trivial⟩
    ⟨.inr ⟨(by kernel_rfl), _, (List.Mem.tail _ (List.Mem.head _)), rfl, (fun _ _ h => h)⟩, .inr ⟨(by kernel_rfl), _, (List.Mem.tail _ (List.Mem.tail _ (List.Mem.head _))), rfl, (fun _ _ h => h)⟩, .inl ⟨(by kernel_rfl), rfl, (fun _ _ h => h)⟩, trivial⟩
    (steps (m := 32) (by kernel_rfl) ⟨stepN (i := 0) (dst := some 25) (op := (.move (.tmp 2))) (by kernel_rfl) (move (argO (p := (isE (.int .i64 0))) (List.Mem.tail _ (List.Mem.head _)) (by kernel_rfl)) (fun _ _ h => h)),
      stepN (i := 1) (dst := some 26) (op := (.binOp .eql 42 (.tmp 25) (.const (.int .i64 0)) 42)) (by kernel_rfl) (eql (m := 0) (n := 0) (argT (p := (isE (.int .i64 0))) (by kernel_rfl) (fun _ _ h => h)) (argC (.int .i64 0)) (fun w v h => h.trans (congrArg Value.bool (rfl)))),
      stepN (i := 2) (dst := some 27) (op := (.move (.tmp 26))) (by kernel_rfl) (move (argT (p := (isE (.bool true))) (by kernel_rfl) (fun _ _ h => h)) (fun _ _ h => h)),
      stepG (i := 3) (j := 2) (dj := 27) (b := true) (dst := some 28) (op := (.load 30 (.tmp 1))) (by kernel_rfl) (by kernel_rfl) (by kernel_rfl) (fun _ _ h => h) (loadV (List.Mem.head _) (by kernel_rfl) (fun _ _ h => h)),
      stepG (i := 4) (j := 2) (dj := 27) (b := true) (dst := some 29) (op := (.load 30 (.tmp 3))) (by kernel_rfl) (by kernel_rfl) (by kernel_rfl) (fun _ _ h => h) (loadV (List.Mem.tail _ (List.Mem.head _)) (by kernel_rfl) (fun _ _ h => h)),
      stepG (i := 5) (j := 2) (dj := 27) (b := true) (dst := some 30) (op := (.call { callee := .value (.func 7), args := #[(.tmp 28), (.tmp 29)], argTypes := #[30, 30] })) (by kernel_rfl) (by kernel_rfl) (by kernel_rfl) (fun _ _ h => h) (call2 (enters_of Tryd.func7 (by kernel_rfl) rfl) (argT (p := (isQ (((1 : Int) : Rat) / ((2 : Int) : Rat)) (max 1 1 + 1))) (by kernel_rfl) (fun _ _ h => h)) (argT (p := (isQ ((((-2) : Int) : Rat) / (((-6) : Int) : Rat)) (max 1 1 + 1))) (by kernel_rfl) (fun _ _ h => h)) (fun w u1 u2 h1 h2 => add_q h1 h2 (by omega) (by omega)) (fun _ _ h => h)),
      stepG (i := 6) (j := 2) (dj := 27) (b := true) (dst := some 31) (op := (.call { callee := .value (.func 35), args := #[(.tmp 30)], argTypes := #[30] })) (by kernel_rfl) (by kernel_rfl) (by kernel_rfl) (fun _ _ h => h) (call1 (enters_of Tryd.func35 (by kernel_rfl) rfl) (argT (p := (isQ ((((1 : Int) : Rat) / ((2 : Int) : Rat)) + ((((-2) : Int) : Rat) / (((-6) : Int) : Rat))) ((max 1 1 + 1) + (max 1 1 + 1) + 1))) (by kernel_rfl) (fun _ _ h => h)) (fun w u1 h1 => print_q h1 (by omega)) (fun _ _ h => h)),
      stepG (i := 7) (j := 2) (dj := 27) (b := true) (dst := some 32) (op := (.binOp .eql 9 (.tmp 31) (.const (.string (str [53, 47, 54]))) 9)) (by kernel_rfl) (by kernel_rfl) (by kernel_rfl) (fun _ _ h => h) (eqlS (l := qtext ((((1 : Int) : Rat) / ((2 : Int) : Rat)) + ((((-2) : Int) : Rat) / (((-6) : Int) : Rat)))) (r := [53, 47, 54]) (argT (p := (isT (qtext ((((1 : Int) : Rat) / ((2 : Int) : Rat)) + ((((-2) : Int) : Rat) / (((-6) : Int) : Rat)))))) (by kernel_rfl) (fun _ _ h => h)) (argC _) (fun w v h => h.trans (congrArg Value.bool (by rw [wake_a]; rfl)))),
      stepN (i := 8) (dst := some 33) (op := (.pick (.tmp 27) (.tmp 32) (.const (.bool false)))) (by kernel_rfl) (pickT (argT (p := (isE (.bool true))) (by kernel_rfl) (fun _ _ h => h)) (argT (p := (isE (.bool true))) (by kernel_rfl) (fun _ _ h => h)) (fun _ _ h => h)),
      stepN (i := 9) (dst := some 34) (op := (.move (.tmp 33))) (by kernel_rfl) (move (argT (p := (isE (.bool true))) (by kernel_rfl) (fun _ _ h => h)) (fun _ _ h => h)),
      stepG (i := 10) (j := 9) (dj := 34) (b := true) (dst := some 35) (op := (.move (.tmp 6))) (by kernel_rfl) (by kernel_rfl) (by kernel_rfl) (fun _ _ h => h) (move (argO (p := (isE (.int .i64 8))) (List.Mem.tail _ (List.Mem.tail _ (List.Mem.head _))) (by kernel_rfl)) (fun _ _ h => h)),
      stepG (i := 11) (j := 9) (dj := 34) (b := true) (dst := some 36) (op := (.binOp .eql 42 (.tmp 35) (.const (.int .i64 8)) 42)) (by kernel_rfl) (by kernel_rfl) (by kernel_rfl) (fun _ _ h => h) (eql (m := 8) (n := 8) (argT (p := (isE (.int .i64 8))) (by kernel_rfl) (fun _ _ h => h)) (argC (.int .i64 8)) (fun w v h => h.trans (congrArg Value.bool (rfl)))),
      stepN (i := 12) (dst := some 37) (op := (.pick (.tmp 34) (.tmp 36) (.const (.bool false)))) (by kernel_rfl) (pickT (argT (p := (isE (.bool true))) (by kernel_rfl) (fun _ _ h => h)) (argT (p := (isE (.bool true))) (by kernel_rfl) (fun _ _ h => h)) (fun _ _ h => h)),
      stepN (i := 13) (dst := some 38) (op := (.move (.tmp 37))) (by kernel_rfl) (move (argT (p := (isE (.bool true))) (by kernel_rfl) (fun _ _ h => h)) (fun _ _ h => h)),
      stepG (i := 14) (j := 13) (dj := 38) (b := true) (dst := some 39) (op := (.load 30 (.tmp 1))) (by kernel_rfl) (by kernel_rfl) (by kernel_rfl) (fun _ _ h => h) (loadV (List.Mem.head _) (by kernel_rfl) (fun _ _ h => h)),
      stepG (i := 15) (j := 13) (dj := 38) (b := true) (dst := some 40) (op := (.call { callee := .value (.func 19), args := #[(.tmp 39)], argTypes := #[30] })) (by kernel_rfl) (by kernel_rfl) (by kernel_rfl) (fun _ _ h => h) (call1 (enters_of Tryd.func19 (by kernel_rfl) rfl) (argT (p := (isQ (((1 : Int) : Rat) / ((2 : Int) : Rat)) (max 1 1 + 1))) (by kernel_rfl) (fun _ _ h => h)) (fun w u1 h1 => neg_q h1) (fun _ _ h => h)),
      stepG (i := 16) (j := 13) (dj := 38) (b := true) (dst := some 41) (op := (.call { callee := .value (.func 14), args := #[(.tmp 40)], argTypes := #[30] })) (by kernel_rfl) (by kernel_rfl) (by kernel_rfl) (fun _ _ h => h) (call1 (enters_of Tryd.func14 (by kernel_rfl) rfl) (argT (p := (isQ (-(((1 : Int) : Rat) / ((2 : Int) : Rat))) (max 1 1 + 1))) (by kernel_rfl) (fun _ _ h => h)) (fun w u1 h1 => floor_q h1 (by omega)) (fun _ _ h => h)),
      stepG (i := 17) (j := 13) (dj := 38) (b := true) (dst := some 42) (op := (.call { callee := .value (.func 36), args := #[(.tmp 41)], argTypes := #[28] })) (by kernel_rfl) (by kernel_rfl) (by kernel_rfl) (fun _ _ h => h) (call1 (enters_of Tryd.func36 (by kernel_rfl) rfl) (argT (p := (isW (Rat.floor (-(((1 : Int) : Rat) / ((2 : Int) : Rat)))) (max (max 1 1 + 1) 1 + 1))) (by kernel_rfl) (fun _ _ h => h)) (fun w u1 h1 => print_w h1 (by omega)) (fun _ _ h => h)),
      stepG (i := 18) (j := 13) (dj := 38) (b := true) (dst := some 43) (op := (.binOp .eql 9 (.tmp 42) (.const (.string (str [45, 49]))) 9)) (by kernel_rfl) (by kernel_rfl) (by kernel_rfl) (fun _ _ h => h) (eqlS (l := ztext (Rat.floor (-(((1 : Int) : Rat) / ((2 : Int) : Rat))))) (r := [45, 49]) (argT (p := (isT (ztext (Rat.floor (-(((1 : Int) : Rat) / ((2 : Int) : Rat))))))) (by kernel_rfl) (fun _ _ h => h)) (argC _) (fun w v h => h.trans (congrArg Value.bool (by rw [wake_b]; rfl)))),
      stepN (i := 19) (dst := some 44) (op := (.pick (.tmp 38) (.tmp 43) (.const (.bool false)))) (by kernel_rfl) (pickT (argT (p := (isE (.bool true))) (by kernel_rfl) (fun _ _ h => h)) (argT (p := (isE (.bool true))) (by kernel_rfl) (fun _ _ h => h)) (fun _ _ h => h)),
      stepN (i := 20) (dst := some 45) (op := (.move (.tmp 44))) (by kernel_rfl) (move (argT (p := (isE (.bool true))) (by kernel_rfl) (fun _ _ h => h)) (fun _ _ h => h)),
      stepG (i := 21) (j := 20) (dj := 45) (b := true) (dst := some 46) (op := (.build 30 #[])) (by kernel_rfl) (by kernel_rfl) (by kernel_rfl) (fun _ _ h => h) (buildF0 (fun w v h => IsF.q0 h)),
      stepG (i := 22) (j := 20) (dj := 45) (b := true) (dst := some 47) (op := (.call { callee := .value (.func 35), args := #[(.tmp 46)], argTypes := #[30] })) (by kernel_rfl) (by kernel_rfl) (by kernel_rfl) (fun _ _ h => h) (call1 (enters_of Tryd.func35 (by kernel_rfl) rfl) (argT (p := (isQ 0 1)) (by kernel_rfl) (fun _ _ h => h)) (fun w u1 h1 => print_q h1 (by omega)) (fun _ _ h => h)),
      stepG (i := 23) (j := 20) (dj := 45) (b := true) (dst := some 48) (op := (.binOp .eql 9 (.tmp 47) (.const (.string (str [48]))) 9)) (by kernel_rfl) (by kernel_rfl) (by kernel_rfl) (fun _ _ h => h) (eqlS (l := qtext 0) (r := [48]) (argT (p := (isT (qtext 0))) (by kernel_rfl) (fun _ _ h => h)) (argC _) (fun w v h => h.trans (congrArg Value.bool (by rw [wake_c]; rfl)))),
      stepN (i := 24) (dst := some 49) (op := (.pick (.tmp 45) (.tmp 48) (.const (.bool false)))) (by kernel_rfl) (pickT (argT (p := (isE (.bool true))) (by kernel_rfl) (fun _ _ h => h)) (argT (p := (isE (.bool true))) (by kernel_rfl) (fun _ _ h => h)) (fun _ _ h => h)),
      stepN (i := 25) (dst := some 50) (op := (.move (.tmp 49))) (by kernel_rfl) (move (argT (p := (isE (.bool true))) (by kernel_rfl) (fun _ _ h => h)) (fun _ _ h => h)),
      stepG (i := 26) (j := 25) (dj := 50) (b := true) (dst := some 51) (op := (.load 30 (.tmp 3))) (by kernel_rfl) (by kernel_rfl) (by kernel_rfl) (fun _ _ h => h) (loadV (List.Mem.tail _ (List.Mem.head _)) (by kernel_rfl) (fun _ _ h => h)),
      stepG (i := 27) (j := 25) (dj := 50) (b := true) (dst := some 52) (op := (.load 30 (.tmp 1))) (by kernel_rfl) (by kernel_rfl) (by kernel_rfl) (fun _ _ h => h) (loadV (List.Mem.head _) (by kernel_rfl) (fun _ _ h => h)),
      stepG (i := 28) (j := 25) (dj := 50) (b := true) (dst := some 53) (op := (.call { callee := .value (.func 9), args := #[(.tmp 51), (.tmp 52)], argTypes := #[30, 30] })) (by kernel_rfl) (by kernel_rfl) (by kernel_rfl) (fun _ _ h => h) (call2 (enters_of Tryd.func9 (by kernel_rfl) rfl) (argT (p := (isQ ((((-2) : Int) : Rat) / (((-6) : Int) : Rat)) (max 1 1 + 1))) (by kernel_rfl) (fun _ _ h => h)) (argT (p := (isQ (((1 : Int) : Rat) / ((2 : Int) : Rat)) (max 1 1 + 1))) (by kernel_rfl) (fun _ _ h => h)) (fun w u1 u2 h1 h2 => cmp_q h1 h2 (by omega) (by omega)) (fun _ _ h => h)),
      stepG (i := 29) (j := 25) (dj := 50) (b := true) (dst := some 54) (op := (.binOp .eql 3 (.tmp 53) (.const (.int .i64 (-1))) 3)) (by kernel_rfl) (by kernel_rfl) (by kernel_rfl) (fun _ _ h => h) (eql (m := (cmpQ ((((-2) : Int) : Rat) / (((-6) : Int) : Rat)) (((1 : Int) : Rat) / ((2 : Int) : Rat)))) (n := (-1)) (argT (p := (isE (.int .i64 (cmpQ ((((-2) : Int) : Rat) / (((-6) : Int) : Rat)) (((1 : Int) : Rat) / ((2 : Int) : Rat)))))) (by kernel_rfl) (fun _ _ h => h)) (argC (.int .i64 (-1))) (fun w v h => h.trans (congrArg Value.bool (decide_eq_true wake_d)))),
      stepN (i := 30) (dst := some 55) (op := (.pick (.tmp 50) (.tmp 54) (.const (.bool false)))) (by kernel_rfl) (pickT (argT (p := (isE (.bool true))) (by kernel_rfl) (fun _ _ h => h)) (argT (p := (isE (.bool true))) (by kernel_rfl) (fun _ _ h => h)) (fun _ _ h => h)),
      stepN (i := 31) (dst := some 0) (op := (.assign (.tmp 55))) (by kernel_rfl) (assign (argT (p := (isE (.bool true))) (by kernel_rfl) (fun _ _ h => h)) (fun _ _ h => h)), trivial⟩) ?_
  clear hS kf ac
  try clear w
  intro kf ac w hS
  exact wp_ret (ret_t (q := (isE (.bool true))) (by kernel_rfl) hS (List.Mem.tail _ (List.Mem.tail _ (List.Mem.head _))) (fun v h => ⟨v, rfl, h, hS.grow⟩))
end Go.Proofs.YtlkiikchjeapfaaDoor.Z
