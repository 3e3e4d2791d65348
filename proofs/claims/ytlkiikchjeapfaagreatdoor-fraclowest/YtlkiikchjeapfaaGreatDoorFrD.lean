/- Package frac: Add, Sub, Mul, Quo. Written by a script (tools/laws). -/
import Derived.Test.YtlkiikchjeapfaaGreatDoorFrC
namespace Go.Proofs.YtlkiikchjeapfaaGreatDoor.Z
open Go.RowKit Go.Proofs.YtlkiikchjeapfaaGreatDoor.Rg
set_option maxRecDepth 100000 in
set_option maxHeartbeats 4000000 in
theorem add_q {w : World} {v0 v1 : Value} {x y : Rat} {k j : Nat} (h0 : (isQ x k) w v0) (h1 : (isQ y j) w v1) (hk : k ≤ 268435456) (hj : j ≤ 268435456) : Calls Tryz.prog 12 #[v0, v1] w (Ret w fun v w' => (isQ (x + y) (k + j + 1)) w' v) := by
  have hx1 := h0.num_len
  have hx2 := h0.den_len
  have hy1 := h1.num_len
  have hy2 := h1.den_len
  have hxd := x.den_nz
  have hyd := y.den_nz
  have hx0 := h0.1
  have hy0 := h1.1
  have hg : Nat.gcd x.den y.den ≠ 0 := Nat.ne_of_gt (Nat.gcd_pos_of_pos_left _ x.den_pos)
  refine enter (s := soft) (n := 46) (c := (.seq (.region 0 (regionOps Tryz.f12 0) false) (.seq (.region 1 (regionOps Tryz.f12 1) true) (.seq (.region 2 (regionOps Tryz.f12 2) true) (.seq (.region 3 (regionOps Tryz.f12 3) true) (.seq (.region 4 (regionOps Tryz.f12 4) false) (.seq (.region 5 (regionOps Tryz.f12 5) true) .ret))))))) Tryz.func12 (by kernel_rfl) (by kernel_rfl) (by simp) [(0, (isQ x k)), (1, (isQ y j))] ⟨⟨by simp, h0⟩, ⟨by simp, h1⟩, trivial⟩ ?_
  intro kf a hS
  refine plain_seq (m := 3) (by kernel_rfl) ?_
  refine box0 (p := 2) (y := 0) (t := 30) (q := (isQ x k)) hS (by kernel_rfl) rfl rfl rfl (List.Mem.head _) shQ trivial ⟨(stb_Q _ _), (stb_Q _ _), trivial⟩ ?_
  clear hS kf a
  try clear w
  intro kf a w hS
  refine box0 (p := 3) (y := 1) (t := 30) (q := (isQ y j)) hS (by kernel_rfl) rfl rfl rfl (List.Mem.tail _ (List.Mem.head _)) shQ ⟨(stb_Q _ _), trivial⟩ ⟨(stb_Q _ _), (stb_Q _ _), trivial⟩ ?_
  clear hS kf a
  try clear w
  intro kf a w hS
  refine alloc0 (p := 4) (t := 30) hS (by kernel_rfl) rfl rfl rfl (by kernel_rfl) ⟨(stb_Q _ _), (stb_Q _ _), trivial⟩ ⟨(stb_Q _ _), (stb_Q _ _), trivial⟩ ?_
  clear hS kf a
  try clear w
  intro kf a w hS
  refine plain_end ?_
  refine region_seq (s := soft) (kf0 := kf) (by kernel_rfl) hS (Rg.look [(11, (isQ x k)),
      (12, (isN x.den k)),
      (13, (isQ y j)),
      (14, (isN y.den j)),
      (15, (isN (Nat.gcd x.den y.den) (max k j))),
      (5, isX)])
    ⟨[(5, 5, 26)], [(6, 5, 15, 26)]⟩ [⟨4, 30, isX⟩, ⟨3, 30, (isQ y j)⟩, ⟨2, 30, (isQ x k)⟩, ⟨5, 26, (isN (Nat.gcd x.den y.den) (max k j))⟩] [(0, (isQ x k)), (1, (isQ y j))] (by kernel_rfl) (by kernel_rfl) (look_stb _ ⟨(stb_Q _ _), (stb_N _ _), (stb_Q _ _), (stb_N _ _), (stb_N _ _), stb_true, trivial⟩) ⟨stb_true, (stb_Q _ _), (stb_Q _ _), trivial⟩ ⟨(stb_Q _ _), (stb_Q _ _), trivial⟩ ⟨fun _ _ => trivial, trivial⟩ ⟨shN, trivial⟩
    ⟨.inr (.inl ⟨rfl, _, (List.Mem.head _), rfl, rfl, (fun _ _ h => h)⟩), .inr (.inl ⟨rfl, _, (List.Mem.tail _ (List.Mem.head _)), rfl, rfl, (fun _ _ h => h)⟩), .inr (.inl ⟨rfl, _, (List.Mem.tail _ (List.Mem.tail _ (List.Mem.head _))), rfl, rfl, (fun _ _ h => h)⟩), .inl ⟨_, (List.Mem.head _), rfl, rfl, (fun _ _ h => h)⟩, trivial⟩
    ⟨.inr ⟨(by kernel_rfl), _, (List.Mem.head _), rfl, (fun _ _ h => h)⟩, .inr ⟨(by kernel_rfl), _, (List.Mem.tail _ (List.Mem.head _)), rfl, (fun _ _ h => h)⟩, trivial⟩
    (steps (m := 7) (by kernel_rfl) ⟨stepN (i := 0) (dst := some 11) (op := (.load 30 (.tmp 2))) (by kernel_rfl) (loadV (List.Mem.tail _ (List.Mem.tail _ (List.Mem.head _))) (by kernel_rfl) (fun _ _ h => h)),
      stepN (i := 1) (dst := some 12) (op := (.call { callee := .value (.func 33), args := #[(.tmp 11)], argTypes := #[30] })) (by kernel_rfl) (call1 (enters_of Tryz.func33 (by kernel_rfl) rfl) (argT (p := (isQ x k)) (by kernel_rfl) (fun _ _ h => h)) (fun w u1 h1 => den_q h1) (fun _ _ h => h)),
      stepN (i := 2) (dst := some 13) (op := (.load 30 (.tmp 3))) (by kernel_rfl) (loadV (List.Mem.tail _ (List.Mem.head _)) (by kernel_rfl) (fun _ _ h => h)),
      stepN (i := 3) (dst := some 14) (op := (.call { callee := .value (.func 33), args := #[(.tmp 13)], argTypes := #[30] })) (by kernel_rfl) (call1 (enters_of Tryz.func33 (by kernel_rfl) rfl) (argT (p := (isQ y j)) (by kernel_rfl) (fun _ _ h => h)) (fun w u1 h1 => den_q h1) (fun _ _ h => h)),
      stepN (i := 4) (dst := some 15) (op := (.call { callee := .value (.func 34), args := #[(.tmp 12), (.tmp 14)], argTypes := #[26, 26] })) (by kernel_rfl) (call2 (enters_of Tryz.func34 (by kernel_rfl) rfl) (argT (p := (isN x.den k)) (by kernel_rfl) (fun _ _ h => h)) (argT (p := (isN y.den j)) (by kernel_rfl) (fun _ _ h => h)) (fun w u1 u2 h1 h2 => gcd_n (k := max k j) (h1.weak (by omega)) (h2.weak (by omega)) (by omega)) (fun _ _ h => h)),
      isAlloc rfl,
      isStore rfl, trivial⟩) ?_
  clear hS kf a
  try clear w
  intro kf a w hS
  refine region_seq (s := soft) (kf0 := kf) (by kernel_rfl) hS (Rg.look [(16, (isQ x k)),
      (17, (isN x.den k)),
      (18, (isN (Nat.gcd x.den y.den) (max k j))),
      (19, (isN (x.den / (Nat.gcd x.den y.den)) k)),
      (20, (isQ y j)),
      (21, (isN y.den j)),
      (22, (isN (Nat.gcd x.den y.den) (max k j))),
      (23, (isN (y.den / (Nat.gcd x.den y.den)) j)),
      (6, isX),
      (7, isX)])
    ⟨[(8, 6, 26), (9, 7, 26)], [(10, 6, 19, 26), (11, 7, 23, 26)]⟩ [⟨4, 30, isX⟩, ⟨3, 30, (isQ y j)⟩, ⟨2, 30, (isQ x k)⟩, ⟨5, 26, (isN (Nat.gcd x.den y.den) (max k j))⟩, ⟨6, 26, (isN (x.den / (Nat.gcd x.den y.den)) k)⟩, ⟨7, 26, (isN (y.den / (Nat.gcd x.den y.den)) j)⟩] [(0, (isQ x k)), (1, (isQ y j))] (by kernel_rfl) (by kernel_rfl) (look_stb _ ⟨(stb_Q _ _), (stb_N _ _), (stb_N _ _), (stb_N _ _), (stb_Q _ _), (stb_N _ _), (stb_N _ _), (stb_N _ _), stb_true, stb_true, trivial⟩) ⟨stb_true, (stb_Q _ _), (stb_Q _ _), (stb_N _ _), trivial⟩ ⟨(stb_Q _ _), (stb_Q _ _), trivial⟩ ⟨fun _ _ => trivial, fun _ _ => trivial, trivial⟩ ⟨shN, shN, trivial⟩
    ⟨.inr (.inl ⟨rfl, _, (List.Mem.head _), rfl, rfl, (fun _ _ h => h)⟩), .inr (.inl ⟨rfl, _, (List.Mem.tail _ (List.Mem.head _)), rfl, rfl, (fun _ _ h => h)⟩), .inr (.inl ⟨rfl, _, (List.Mem.tail _ (List.Mem.tail _ (List.Mem.head _))), rfl, rfl, (fun _ _ h => h)⟩), .inr (.inl ⟨rfl, _, (List.Mem.tail _ (List.Mem.tail _ (List.Mem.tail _ (List.Mem.head _)))), rfl, rfl, (fun _ _ h => h)⟩), .inl ⟨_, (List.Mem.head _), rfl, rfl, (fun _ _ h => h)⟩, .inl ⟨_, (List.Mem.tail _ (List.Mem.head _)), rfl, rfl, (fun _ _ h => h)⟩, trivial⟩
    ⟨.inr ⟨(by kernel_rfl), _, (List.Mem.head _), rfl, (fun _ _ h => h)⟩, .inr ⟨(by kernel_rfl), _, (List.Mem.tail _ (List.Mem.head _)), rfl, (fun _ _ h => h)⟩, trivial⟩
    (steps (m := 12) (by kernel_rfl) ⟨stepN (i := 0) (dst := some 16) (op := (.load 30 (.tmp 2))) (by kernel_rfl) (loadV (List.Mem.tail _ (List.Mem.tail _ (List.Mem.head _))) (by kernel_rfl) (fun _ _ h => h)),
      stepN (i := 1) (dst := some 17) (op := (.call { callee := .value (.func 33), args := #[(.tmp 16)], argTypes := #[30] })) (by kernel_rfl) (call1 (enters_of Tryz.func33 (by kernel_rfl) rfl) (argT (p := (isQ x k)) (by kernel_rfl) (fun _ _ h => h)) (fun w u1 h1 => den_q h1) (fun _ _ h => h)),
      stepN (i := 2) (dst := some 18) (op := (.load 26 (.tmp 5))) (by kernel_rfl) (loadV (List.Mem.tail _ (List.Mem.tail _ (List.Mem.tail _ (List.Mem.head _)))) (by kernel_rfl) (fun _ _ h => h)),
      stepN (i := 3) (dst := some 19) (op := (.call { callee := .value (.func 47), args := #[(.tmp 17), (.tmp 18)], argTypes := #[26, 26] })) (by kernel_rfl) (call2 (enters_of Tryz.func47 (by kernel_rfl) rfl) (argT (p := (isN x.den k)) (by kernel_rfl) (fun _ _ h => h)) (argT (p := (isN (Nat.gcd x.den y.den) (max k j))) (by kernel_rfl) (fun _ _ h => h)) (fun w u1 u2 h1 h2 => part_z h1 h2 (by omega) hg) (fun _ _ h => h)),
      stepN (i := 4) (dst := some 20) (op := (.load 30 (.tmp 3))) (by kernel_rfl) (loadV (List.Mem.tail _ (List.Mem.head _)) (by kernel_rfl) (fun _ _ h => h)),
      stepN (i := 5) (dst := some 21) (op := (.call { callee := .value (.func 33), args := #[(.tmp 20)], argTypes := #[30] })) (by kernel_rfl) (call1 (enters_of Tryz.func33 (by kernel_rfl) rfl) (argT (p := (isQ y j)) (by kernel_rfl) (fun _ _ h => h)) (fun w u1 h1 => den_q h1) (fun _ _ h => h)),
      stepN (i := 6) (dst := some 22) (op := (.load 26 (.tmp 5))) (by kernel_rfl) (loadV (List.Mem.tail _ (List.Mem.tail _ (List.Mem.tail _ (List.Mem.head _)))) (by kernel_rfl) (fun _ _ h => h)),
      stepN (i := 7) (dst := some 23) (op := (.call { callee := .value (.func 47), args := #[(.tmp 21), (.tmp 22)], argTypes := #[26, 26] })) (by kernel_rfl) (call2 (enters_of Tryz.func47 (by kernel_rfl) rfl) (argT (p := (isN y.den j)) (by kernel_rfl) (fun _ _ h => h)) (argT (p := (isN (Nat.gcd x.den y.den) (max k j))) (by kernel_rfl) (fun _ _ h => h)) (fun w u1 u2 h1 h2 => part_z h1 h2 (by omega) hg) (fun _ _ h => h)),
      isAlloc rfl,
      isAlloc rfl,
      isStore rfl,
      isStore rfl, trivial⟩) ?_
  clear hS kf a
  try clear w
  intro kf a w hS
  refine region_seq (s := soft) (kf0 := kf) (by kernel_rfl) hS (Rg.look [(24, (isE (.pointer (some ⟨kf 2, 0, none⟩)))),
      (25, (isW x.num k)),
      (26, (isN (y.den / (Nat.gcd x.den y.den)) j)),
      (27, (isW (x.num * (y.den / (Nat.gcd x.den y.den) : Nat)) (k + j))),
      (28, (isE (.pointer (some ⟨kf 3, 0, none⟩)))),
      (29, (isW y.num j)),
      (30, (isN (x.den / (Nat.gcd x.den y.den)) k)),
      (31, (isW (y.num * (x.den / (Nat.gcd x.den y.den) : Nat)) (j + k))),
      (32, (isW ((x.num * (y.den / (Nat.gcd x.den y.den) : Nat)) + (y.num * (x.den / (Nat.gcd x.den y.den) : Nat))) ((max (k + j) (j + k)) + 1))),
      (8, isX)])
    ⟨[(9, 8, 28)], [(10, 8, 32, 28)]⟩ [⟨4, 30, isX⟩, ⟨3, 30, (isQ y j)⟩, ⟨2, 30, (isQ x k)⟩, ⟨5, 26, (isN (Nat.gcd x.den y.den) (max k j))⟩, ⟨6, 26, (isN (x.den / (Nat.gcd x.den y.den)) k)⟩, ⟨7, 26, (isN (y.den / (Nat.gcd x.den y.den)) j)⟩, ⟨8, 28, (isW ((x.num * (y.den / (Nat.gcd x.den y.den) : Nat)) + (y.num * (x.den / (Nat.gcd x.den y.den) : Nat))) ((max (k + j) (j + k)) + 1))⟩] [(0, (isQ x k)), (1, (isQ y j))] (by kernel_rfl) (by kernel_rfl) (look_stb _ ⟨(stb_eq _), (stb_W _ _), (stb_N _ _), (stb_W _ _), (stb_eq _), (stb_W _ _), (stb_N _ _), (stb_W _ _), (stb_W _ _), stb_true, trivial⟩) ⟨stb_true, (stb_Q _ _), (stb_Q _ _), (stb_N _ _), (stb_N _ _), (stb_N _ _), trivial⟩ ⟨(stb_Q _ _), (stb_Q _ _), trivial⟩ ⟨fun _ _ => trivial, trivial⟩ ⟨shW, trivial⟩
    ⟨.inr (.inl ⟨rfl, _, (List.Mem.head _), rfl, rfl, (fun _ _ h => h)⟩), .inr (.inl ⟨rfl, _, (List.Mem.tail _ (List.Mem.head _)), rfl, rfl, (fun _ _ h => h)⟩), .inr (.inl ⟨rfl, _, (List.Mem.tail _ (List.Mem.tail _ (List.Mem.head _))), rfl, rfl, (fun _ _ h => h)⟩), .inr (.inl ⟨rfl, _, (List.Mem.tail _ (List.Mem.tail _ (List.Mem.tail _ (List.Mem.head _)))), rfl, rfl, (fun _ _ h => h)⟩), .inr (.inl ⟨rfl, _, (List.Mem.tail _ (List.Mem.tail _ (List.Mem.tail _ (List.Mem.tail _ (List.Mem.head _))))), rfl, rfl, (fun _ _ h => h)⟩), .inr (.inl ⟨rfl, _, (List.Mem.tail _ (List.Mem.tail _ (List.Mem.tail _ (List.Mem.tail _ (List.Mem.tail _ (List.Mem.head _)))))), rfl, rfl, (fun _ _ h => h)⟩), .inl ⟨_, (List.Mem.head _), rfl, rfl, (fun _ _ h => h)⟩, trivial⟩
    ⟨.inr ⟨(by kernel_rfl), _, (List.Mem.head _), rfl, (fun _ _ h => h)⟩, .inr ⟨(by kernel_rfl), _, (List.Mem.tail _ (List.Mem.head _)), rfl, (fun _ _ h => h)⟩, trivial⟩
    (steps (m := 11) (by kernel_rfl) ⟨stepN (i := 0) (dst := some 24) (op := (.fieldAddr 30 (.tmp 2) 0)) (by kernel_rfl) (fieldV (off := 0) (sz := 2) (List.Mem.tail _ (List.Mem.tail _ (List.Mem.head _))) (by kernel_rfl) (fun _ _ h => h)),
      stepN (i := 1) (dst := some 25) (op := (.load 28 (.tmp 24))) (by kernel_rfl) (loadF (sz := 2) (r := (isW x.num k)) (by kernel_rfl) (fun _ _ h => h) (List.Mem.tail _ (List.Mem.tail _ (List.Mem.head _))) (by kernel_rfl) (by kernel_rfl) (by kernel_rfl) rfl fldQW (fun _ _ h => h)),
      stepN (i := 2) (dst := some 26) (op := (.load 26 (.tmp 7))) (by kernel_rfl) (loadV (List.Mem.tail _ (List.Mem.tail _ (List.Mem.tail _ (List.Mem.tail _ (List.Mem.tail _ (List.Mem.head _)))))) (by kernel_rfl) (fun _ _ h => h)),
      stepN (i := 3) (dst := some 27) (op := (.call { callee := .value (.func 48), args := #[(.tmp 25), (.tmp 26)], argTypes := #[28, 26] })) (by kernel_rfl) (call2 (enters_of Tryz.func48 (by kernel_rfl) rfl) (argT (p := (isW x.num k)) (by kernel_rfl) (fun _ _ h => h)) (argT (p := (isN (y.den / (Nat.gcd x.den y.den)) j)) (by kernel_rfl) (fun _ _ h => h)) (fun w u1 u2 h1 h2 => times_z h1 h2 (by omega) (by omega)) (fun _ _ h => h)),
      stepN (i := 4) (dst := some 28) (op := (.fieldAddr 30 (.tmp 3) 0)) (by kernel_rfl) (fieldV (off := 0) (sz := 2) (List.Mem.tail _ (List.Mem.head _)) (by kernel_rfl) (fun _ _ h => h)),
      stepN (i := 5) (dst := some 29) (op := (.load 28 (.tmp 28))) (by kernel_rfl) (loadF (sz := 2) (r := (isW y.num j)) (by kernel_rfl) (fun _ _ h => h) (List.Mem.tail _ (List.Mem.head _)) (by kernel_rfl) (by kernel_rfl) (by kernel_rfl) rfl fldQW (fun _ _ h => h)),
      stepN (i := 6) (dst := some 30) (op := (.load 26 (.tmp 6))) (by kernel_rfl) (loadV (List.Mem.tail _ (List.Mem.tail _ (List.Mem.tail _ (List.Mem.tail _ (List.Mem.head _))))) (by kernel_rfl) (fun _ _ h => h)),
      stepN (i := 7) (dst := some 31) (op := (.call { callee := .value (.func 48), args := #[(.tmp 29), (.tmp 30)], argTypes := #[28, 26] })) (by kernel_rfl) (call2 (enters_of Tryz.func48 (by kernel_rfl) rfl) (argT (p := (isW y.num j)) (by kernel_rfl) (fun _ _ h => h)) (argT (p := (isN (x.den / (Nat.gcd x.den y.den)) k)) (by kernel_rfl) (fun _ _ h => h)) (fun w u1 u2 h1 h2 => times_z h1 h2 (by omega) (by omega)) (fun _ _ h => h)),
      stepN (i := 8) (dst := some 32) (op := (.call { callee := .value (.func 49), args := #[(.tmp 27), (.tmp 31)], argTypes := #[28, 28] })) (by kernel_rfl) (call2 (enters_of Tryz.func49 (by kernel_rfl) rfl) (argT (p := (isW (x.num * (y.den / (Nat.gcd x.den y.den) : Nat)) (k + j))) (by kernel_rfl) (fun _ _ h => h)) (argT (p := (isW (y.num * (x.den / (Nat.gcd x.den y.den) : Nat)) (j + k))) (by kernel_rfl) (fun _ _ h => h)) (fun w u1 u2 h1 h2 => add_w h1 h2 (by omega) (by omega)) (fun _ _ h => h)),
      isAlloc rfl,
      isStore rfl, trivial⟩) ?_
  clear hS kf a
  try clear w
  intro kf a w hS
  refine region_seq (s := soft) (kf0 := kf) (by kernel_rfl) hS (Rg.look [(34, (isW ((x.num * (y.den / (Nat.gcd x.den y.den) : Nat)) + (y.num * (x.den / (Nat.gcd x.den y.den) : Nat))) ((max (k + j) (j + k)) + 1))),
      (35, (isN (Nat.gcd x.den y.den) (max k j))),
      (36, (IsT [(isW (((x.num * (y.den / (Nat.gcd x.den y.den) : Nat)) + (y.num * (x.den / (Nat.gcd x.den y.den) : Nat))) / (Nat.gcd (Int.natAbs ((x.num * (y.den / (Nat.gcd x.den y.den) : Nat)) + (y.num * (x.den / (Nat.gcd x.den y.den) : Nat)))) (Nat.gcd x.den y.den) : Nat)) ((max (k + j) (j + k)) + 1)), (isN ((Nat.gcd x.den y.den) / Nat.gcd (Int.natAbs ((x.num * (y.den / (Nat.gcd x.den y.den) : Nat)) + (y.num * (x.den / (Nat.gcd x.den y.den) : Nat)))) (Nat.gcd x.den y.den)) (max k j))])),
      (33, (IsT [(isW (((x.num * (y.den / (Nat.gcd x.den y.den) : Nat)) + (y.num * (x.den / (Nat.gcd x.den y.den) : Nat))) / (Nat.gcd (Int.natAbs ((x.num * (y.den / (Nat.gcd x.den y.den) : Nat)) + (y.num * (x.den / (Nat.gcd x.den y.den) : Nat)))) (Nat.gcd x.den y.den) : Nat)) ((max (k + j) (j + k)) + 1)), (isN ((Nat.gcd x.den y.den) / Nat.gcd (Int.natAbs ((x.num * (y.den / (Nat.gcd x.den y.den) : Nat)) + (y.num * (x.den / (Nat.gcd x.den y.den) : Nat)))) (Nat.gcd x.den y.den)) (max k j))])),
      (37, (isW (((x.num * (y.den / (Nat.gcd x.den y.den) : Nat)) + (y.num * (x.den / (Nat.gcd x.den y.den) : Nat))) / (Nat.gcd (Int.natAbs ((x.num * (y.den / (Nat.gcd x.den y.den) : Nat)) + (y.num * (x.den / (Nat.gcd x.den y.den) : Nat)))) (Nat.gcd x.den y.den) : Nat)) ((max (k + j) (j + k)) + 1))),
      (38, (isN ((Nat.gcd x.den y.den) / Nat.gcd (Int.natAbs ((x.num * (y.den / (Nat.gcd x.den y.den) : Nat)) + (y.num * (x.den / (Nat.gcd x.den y.den) : Nat)))) (Nat.gcd x.den y.den)) (max k j))),
      (9, isX),
      (10, isX)])
    ⟨[(6, 9, 28), (7, 10, 26)], [(8, 9, 37, 28), (9, 10, 38, 26)]⟩ [⟨4, 30, isX⟩, ⟨3, 30, (isQ y j)⟩, ⟨2, 30, (isQ x k)⟩, ⟨5, 26, (isN (Nat.gcd x.den y.den) (max k j))⟩, ⟨6, 26, (isN (x.den / (Nat.gcd x.den y.den)) k)⟩, ⟨7, 26, (isN (y.den / (Nat.gcd x.den y.den)) j)⟩, ⟨8, 28, (isW ((x.num * (y.den / (Nat.gcd x.den y.den) : Nat)) + (y.num * (x.den / (Nat.gcd x.den y.den) : Nat))) ((max (k + j) (j + k)) + 1))⟩, ⟨9, 28, (isW (((x.num * (y.den / (Nat.gcd x.den y.den) : Nat)) + (y.num * (x.den / (Nat.gcd x.den y.den) : Nat))) / (Nat.gcd (Int.natAbs ((x.num * (y.den / (Nat.gcd x.den y.den) : Nat)) + (y.num * (x.den / (Nat.gcd x.den y.den) : Nat)))) (Nat.gcd x.den y.den) : Nat)) ((max (k + j) (j + k)) + 1))⟩, ⟨10, 26, (isN ((Nat.gcd x.den y.den) / Nat.gcd (Int.natAbs ((x.num * (y.den / (Nat.gcd x.den y.den) : Nat)) + (y.num * (x.den / (Nat.gcd x.den y.den) : Nat)))) (Nat.gcd x.den y.den)) (max k j))⟩] [(0, (isQ x k)), (1, (isQ y j))] (by kernel_rfl) (by kernel_rfl) (look_stb _ ⟨(stb_W _ _), (stb_N _ _), (stb_T ⟨(stb_W _ _), (stb_N _ _), trivial⟩), (stb_T ⟨(stb_W _ _), (stb_N _ _), trivial⟩), (stb_W _ _), (stb_N _ _), stb_true, stb_true, trivial⟩) ⟨stb_true, (stb_Q _ _), (stb_Q _ _), (stb_N _ _), (stb_N _ _), (stb_N _ _), (stb_W _ _), trivial⟩ ⟨(stb_Q _ _), (stb_Q _ _), trivial⟩ ⟨fun _ _ => trivial, fun _ _ => trivial, trivial⟩ ⟨shW, shN, trivial⟩
    ⟨.inr (.inl ⟨rfl, _, (List.Mem.head _), rfl, rfl, (fun _ _ h => h)⟩), .inr (.inl ⟨rfl, _, (List.Mem.tail _ (List.Mem.head _)), rfl, rfl, (fun _ _ h => h)⟩), .inr (.inl ⟨rfl, _, (List.Mem.tail _ (List.Mem.tail _ (List.Mem.head _))), rfl, rfl, (fun _ _ h => h)⟩), .inr (.inl ⟨rfl, _, (List.Mem.tail _ (List.Mem.tail _ (List.Mem.tail _ (List.Mem.head _)))), rfl, rfl, (fun _ _ h => h)⟩), .inr (.inl ⟨rfl, _, (List.Mem.tail _ (List.Mem.tail _ (List.Mem.tail _ (List.Mem.tail _ (List.Mem.head _))))), rfl, rfl, (fun _ _ h => h)⟩), .inr (.inl ⟨rfl, _, (List.Mem.tail _ (List.Mem.tail _ (List.Mem.tail _ (List.Mem.tail _ (List.Mem.tail _ (List.Mem.head _)))))), rfl, rfl, (fun _ _ h => h)⟩), .inr (.inl ⟨rfl, _, (List.Mem.tail _ (List.Mem.tail _ (List.Mem.tail _ (List.Mem.tail _ (List.Mem.tail _ (List.Mem.tail _ (List.Mem.head _))))))), rfl, rfl, (fun _ _ h => h)⟩), .inl ⟨_, (List.Mem.head _), rfl, rfl, (fun _ _ h => h)⟩, .inl ⟨_, (List.Mem.tail _ (List.Mem.head _)), rfl, rfl, (fun _ _ h => h)⟩, trivial⟩
    ⟨.inr ⟨(by kernel_rfl), _, (List.Mem.head _), rfl, (fun _ _ h => h)⟩, .inr ⟨(by kernel_rfl), _, (List.Mem.tail _ (List.Mem.head _)), rfl, (fun _ _ h => h)⟩, trivial⟩
    (steps (m := 10) (by kernel_rfl) ⟨stepN (i := 0) (dst := some 34) (op := (.load 28 (.tmp 8))) (by kernel_rfl) (loadV (List.Mem.tail _ (List.Mem.tail _ (List.Mem.tail _ (List.Mem.tail _ (List.Mem.tail _ (List.Mem.tail _ (List.Mem.head _))))))) (by kernel_rfl) (fun _ _ h => h)),
      stepN (i := 1) (dst := some 35) (op := (.load 26 (.tmp 5))) (by kernel_rfl) (loadV (List.Mem.tail _ (List.Mem.tail _ (List.Mem.tail _ (List.Mem.head _)))) (by kernel_rfl) (fun _ _ h => h)),
      stepN (i := 2) (dst := some 36) (op := (.call { callee := .value (.func 50), args := #[(.tmp 34), (.tmp 35)], argTypes := #[28, 26] })) (by kernel_rfl) (call2 (enters_of Tryz.func50 (by kernel_rfl) rfl) (argT (p := (isW ((x.num * (y.den / (Nat.gcd x.den y.den) : Nat)) + (y.num * (x.den / (Nat.gcd x.den y.den) : Nat))) ((max (k + j) (j + k)) + 1))) (by kernel_rfl) (fun _ _ h => h)) (argT (p := (isN (Nat.gcd x.den y.den) (max k j))) (by kernel_rfl) (fun _ _ h => h)) (fun w u1 u2 h1 h2 => cancel_z h1 h2 (by omega) (by omega) hg) (fun _ _ h => h)),
      stepN (i := 3) (dst := some 33) (op := (.move (.tmp 36))) (by kernel_rfl) (move (argT (p := (IsT [(isW (((x.num * (y.den / (Nat.gcd x.den y.den) : Nat)) + (y.num * (x.den / (Nat.gcd x.den y.den) : Nat))) / (Nat.gcd (Int.natAbs ((x.num * (y.den / (Nat.gcd x.den y.den) : Nat)) + (y.num * (x.den / (Nat.gcd x.den y.den) : Nat)))) (Nat.gcd x.den y.den) : Nat)) ((max (k + j) (j + k)) + 1)), (isN ((Nat.gcd x.den y.den) / Nat.gcd (Int.natAbs ((x.num * (y.den / (Nat.gcd x.den y.den) : Nat)) + (y.num * (x.den / (Nat.gcd x.den y.den) : Nat)))) (Nat.gcd x.den y.den)) (max k j))])) (by kernel_rfl) (fun _ _ h => h)) (fun _ _ h => h)),
      stepN (i := 4) (dst := some 37) (op := (.extract (.tmp 33) 0)) (by kernel_rfl) (extract (by kernel_rfl) (fun _ _ h => h) rfl (fun _ _ h => h)),
      stepN (i := 5) (dst := some 38) (op := (.extract (.tmp 33) 1)) (by kernel_rfl) (extract (by kernel_rfl) (fun _ _ h => h) rfl (fun _ _ h => h)),
      isAlloc rfl,
      isAlloc rfl,
      isStore rfl,
      isStore rfl, trivial⟩) ?_
  clear hS kf a
  try clear w
  intro kf a w hS
  refine region_seq (s := soft) (kf0 := kf) (by kernel_rfl) hS (Rg.look [(39, (isW (((x.num * (y.den / (Nat.gcd x.den y.den) : Nat)) + (y.num * (x.den / (Nat.gcd x.den y.den) : Nat))) / (Nat.gcd (Int.natAbs ((x.num * (y.den / (Nat.gcd x.den y.den) : Nat)) + (y.num * (x.den / (Nat.gcd x.den y.den) : Nat)))) (Nat.gcd x.den y.den) : Nat)) ((max (k + j) (j + k)) + 1))),
      (40, (isN (x.den / (Nat.gcd x.den y.den)) k)),
      (41, (isN (y.den / (Nat.gcd x.den y.den)) j)),
      (42, (isN ((x.den / (Nat.gcd x.den y.den)) * (y.den / (Nat.gcd x.den y.den))) (k + j))),
      (43, (isN ((Nat.gcd x.den y.den) / Nat.gcd (Int.natAbs ((x.num * (y.den / (Nat.gcd x.den y.den) : Nat)) + (y.num * (x.den / (Nat.gcd x.den y.den) : Nat)))) (Nat.gcd x.den y.den)) (max k j))),
      (44, (isN (((x.den / (Nat.gcd x.den y.den)) * (y.den / (Nat.gcd x.den y.den))) * ((Nat.gcd x.den y.den) / Nat.gcd (Int.natAbs ((x.num * (y.den / (Nat.gcd x.den y.den) : Nat)) + (y.num * (x.den / (Nat.gcd x.den y.den) : Nat)))) (Nat.gcd x.den y.den))) ((k + j) + (max k j)))),
      (45, (isF (((x.num * (y.den / (Nat.gcd x.den y.den) : Nat)) + (y.num * (x.den / (Nat.gcd x.den y.den) : Nat))) / (Nat.gcd (Int.natAbs ((x.num * (y.den / (Nat.gcd x.den y.den) : Nat)) + (y.num * (x.den / (Nat.gcd x.den y.den) : Nat)))) (Nat.gcd x.den y.den) : Nat)) (((x.den / (Nat.gcd x.den y.den)) * (y.den / (Nat.gcd x.den y.den))) * ((Nat.gcd x.den y.den) / Nat.gcd (Int.natAbs ((x.num * (y.den / (Nat.gcd x.den y.den) : Nat)) + (y.num * (x.den / (Nat.gcd x.den y.den) : Nat)))) (Nat.gcd x.den y.den))) (max ((max (k + j) (j + k)) + 1) ((k + j) + (max k j)))))])
    ⟨[], [(7, 4, 45, 30)]⟩ [⟨4, 30, (isF (((x.num * (y.den / (Nat.gcd x.den y.den) : Nat)) + (y.num * (x.den / (Nat.gcd x.den y.den) : Nat))) / (Nat.gcd (Int.natAbs ((x.num * (y.den / (Nat.gcd x.den y.den) : Nat)) + (y.num * (x.den / (Nat.gcd x.den y.den) : Nat)))) (Nat.gcd x.den y.den) : Nat)) (((x.den / (Nat.gcd x.den y.den)) * (y.den / (Nat.gcd x.den y.den))) * ((Nat.gcd x.den y.den) / Nat.gcd (Int.natAbs ((x.num * (y.den / (Nat.gcd x.den y.den) : Nat)) + (y.num * (x.den / (Nat.gcd x.den y.den) : Nat)))) (Nat.gcd x.den y.den))) (max ((max (k + j) (j + k)) + 1) ((k + j) + (max k j))))⟩, ⟨3, 30, (isQ y j)⟩, ⟨2, 30, (isQ x k)⟩, ⟨5, 26, (isN (Nat.gcd x.den y.den) (max k j))⟩, ⟨6, 26, (isN (x.den / (Nat.gcd x.den y.den)) k)⟩, ⟨7, 26, (isN (y.den / (Nat.gcd x.den y.den)) j)⟩, ⟨8, 28, (isW ((x.num * (y.den / (Nat.gcd x.den y.den) : Nat)) + (y.num * (x.den / (Nat.gcd x.den y.den) : Nat))) ((max (k + j) (j + k)) + 1))⟩, ⟨9, 28, (isW (((x.num * (y.den / (Nat.gcd x.den y.den) : Nat)) + (y.num * (x.den / (Nat.gcd x.den y.den) : Nat))) / (Nat.gcd (Int.natAbs ((x.num * (y.den / (Nat.gcd x.den y.den) : Nat)) + (y.num * (x.den / (Nat.gcd x.den y.den) : Nat)))) (Nat.gcd x.den y.den) : Nat)) ((max (k + j) (j + k)) + 1))⟩, ⟨10, 26, (isN ((Nat.gcd x.den y.den) / Nat.gcd (Int.natAbs ((x.num * (y.den / (Nat.gcd x.den y.den) : Nat)) + (y.num * (x.den / (Nat.gcd x.den y.den) : Nat)))) (Nat.gcd x.den y.den)) (max k j))⟩] [(0, (isQ x k)), (1, (isQ y j))] (by kernel_rfl) (by kernel_rfl) (look_stb _ ⟨(stb_W _ _), (stb_N _ _), (stb_N _ _), (stb_N _ _), (stb_N _ _), (stb_N _ _), (stb_F _ _ _), trivial⟩) ⟨stb_true, (stb_Q _ _), (stb_Q _ _), (stb_N _ _), (stb_N _ _), (stb_N _ _), (stb_W _ _), (stb_W _ _), (stb_N _ _), trivial⟩ ⟨(stb_Q _ _), (stb_Q _ _), trivial⟩ trivial ⟨shF, trivial⟩
    ⟨.inl ⟨_, (List.Mem.head _), rfl, rfl, (fun _ _ h => h)⟩, .inr (.inl ⟨rfl, _, (List.Mem.tail _ (List.Mem.head _)), rfl, rfl, (fun _ _ h => h)⟩), .inr (.inl ⟨rfl, _, (List.Mem.tail _ (List.Mem.tail _ (List.Mem.head _))), rfl, rfl, (fun _ _ h => h)⟩), .inr (.inl ⟨rfl, _, (List.Mem.tail _ (List.Mem.tail _ (List.Mem.tail _ (List.Mem.head _)))), rfl, rfl, (fun _ _ h => h)⟩), .inr (.inl ⟨rfl, _, (List.Mem.tail _ (List.Mem.tail _ (List.Mem.tail _ (List.Mem.tail _ (List.Mem.head _))))), rfl, rfl, (fun _ _ h => h)⟩), .inr (.inl ⟨rfl, _, (List.Mem.tail _ (List.Mem.tail _ (List.Mem.tail _ (List.Mem.tail _ (List.Mem.tail _ (List.Mem.head _)))))), rfl, rfl, (fun _ _ h => h)⟩), .inr (.inl ⟨rfl, _, (List.Mem.tail _ (List.Mem.tail _ (List.Mem.tail _ (List.Mem.tail _ (List.Mem.tail _ (List.Mem.tail _ (List.Mem.head _))))))), rfl, rfl, (fun _ _ h => h)⟩), .inr (.inl ⟨rfl, _, (List.Mem.tail _ (List.Mem.tail _ (List.Mem.tail _ (List.Mem.tail _ (List.Mem.tail _ (List.Mem.tail _ (List.Mem.tail _ (List.Mem.head _)))))))), rfl, rfl, (fun _ _ h => h)⟩), .inr (.inl ⟨rfl, _, (List.Mem.tail _ (List.Mem.tail _ (List.Mem.tail _ (List.Mem.tail _ (List.Mem.tail _ (List.Mem.tail _ (List.Mem.tail _ (List.Mem.tail _ (List.Mem.head _))))))))), rfl, rfl, (fun _ _ h => h)⟩), trivial⟩
    ⟨.inr ⟨(by kernel_rfl), _, (List.Mem.head _), rfl, (fun _ _ h => h)⟩, .inr ⟨(by kernel_rfl), _, (List.Mem.tail _ (List.Mem.head _)), rfl, (fun _ _ h => h)⟩, trivial⟩
    (steps (m := 8) (by kernel_rfl) ⟨stepN (i := 0) (dst := some 39) (op := (.load 28 (.tmp 9))) (by kernel_rfl) (loadV (List.Mem.tail _ (List.Mem.tail _ (List.Mem.tail _ (List.Mem.tail _ (List.Mem.tail _ (List.Mem.tail _ (List.Mem.tail _ (List.Mem.head _)))))))) (by kernel_rfl) (fun _ _ h => h)),
      stepN (i := 1) (dst := some 40) (op := (.load 26 (.tmp 6))) (by kernel_rfl) (loadV (List.Mem.tail _ (List.Mem.tail _ (List.Mem.tail _ (List.Mem.tail _ (List.Mem.head _))))) (by kernel_rfl) (fun _ _ h => h)),
      stepN (i := 2) (dst := some 41) (op := (.load 26 (.tmp 7))) (by kernel_rfl) (loadV (List.Mem.tail _ (List.Mem.tail _ (List.Mem.tail _ (List.Mem.tail _ (List.Mem.tail _ (List.Mem.head _)))))) (by kernel_rfl) (fun _ _ h => h)),
      stepN (i := 3) (dst := some 42) (op := (.call { callee := .value (.func 51), args := #[(.tmp 40), (.tmp 41)], argTypes := #[26, 26] })) (by kernel_rfl) (call2 (enters_of Tryz.func51 (by kernel_rfl) rfl) (argT (p := (isN (x.den / (Nat.gcd x.den y.den)) k)) (by kernel_rfl) (fun _ _ h => h)) (argT (p := (isN (y.den / (Nat.gcd x.den y.den)) j)) (by kernel_rfl) (fun _ _ h => h)) (fun w u1 u2 h1 h2 => mul_n h1 h2 (by omega) (by omega)) (fun _ _ h => h)),
      stepN (i := 4) (dst := some 43) (op := (.load 26 (.tmp 10))) (by kernel_rfl) (loadV (List.Mem.tail _ (List.Mem.tail _ (List.Mem.tail _ (List.Mem.tail _ (List.Mem.tail _ (List.Mem.tail _ (List.Mem.tail _ (List.Mem.tail _ (List.Mem.head _))))))))) (by kernel_rfl) (fun _ _ h => h)),
      stepN (i := 5) (dst := some 44) (op := (.call { callee := .value (.func 51), args := #[(.tmp 42), (.tmp 43)], argTypes := #[26, 26] })) (by kernel_rfl) (call2 (enters_of Tryz.func51 (by kernel_rfl) rfl) (argT (p := (isN ((x.den / (Nat.gcd x.den y.den)) * (y.den / (Nat.gcd x.den y.den))) (k + j))) (by kernel_rfl) (fun _ _ h => h)) (argT (p := (isN ((Nat.gcd x.den y.den) / Nat.gcd (Int.natAbs ((x.num * (y.den / (Nat.gcd x.den y.den) : Nat)) + (y.num * (x.den / (Nat.gcd x.den y.den) : Nat)))) (Nat.gcd x.den y.den)) (max k j))) (by kernel_rfl) (fun _ _ h => h)) (fun w u1 u2 h1 h2 => mul_n h1 h2 (by omega) (by omega)) (fun _ _ h => h)),
      stepN (i := 6) (dst := some 45) (op := (.build 30 #[(0, (.tmp 39)), (1, (.tmp 44))])) (by kernel_rfl) (buildF (m := max ((max (k + j) (j + k)) + 1) ((k + j) + (max k j))) (argT (p := (isW (((x.num * (y.den / (Nat.gcd x.den y.den) : Nat)) + (y.num * (x.den / (Nat.gcd x.den y.den) : Nat))) / (Nat.gcd (Int.natAbs ((x.num * (y.den / (Nat.gcd x.den y.den) : Nat)) + (y.num * (x.den / (Nat.gcd x.den y.den) : Nat)))) (Nat.gcd x.den y.den) : Nat)) ((max (k + j) (j + k)) + 1))) (by kernel_rfl) (fun _ _ h => h)) (argT (p := (isN (((x.den / (Nat.gcd x.den y.den)) * (y.den / (Nat.gcd x.den y.den))) * ((Nat.gcd x.den y.den) / Nat.gcd (Int.natAbs ((x.num * (y.den / (Nat.gcd x.den y.den) : Nat)) + (y.num * (x.den / (Nat.gcd x.den y.den) : Nat)))) (Nat.gcd x.den y.den))) ((k + j) + (max k j)))) (by kernel_rfl) (fun _ _ h => h)) (by omega) (by omega) (fun _ _ h => h)),
      isStore rfl, trivial⟩) ?_
  clear hS kf a
  try clear w
  intro kf a w hS
  exact wp_ret (ret_c (q := (isF (((x.num * (y.den / (Nat.gcd x.den y.den) : Nat)) + (y.num * (x.den / (Nat.gcd x.den y.den) : Nat))) / (Nat.gcd (Int.natAbs ((x.num * (y.den / (Nat.gcd x.den y.den) : Nat)) + (y.num * (x.den / (Nat.gcd x.den y.den) : Nat)))) (Nat.gcd x.den y.den) : Nat)) (((x.den / (Nat.gcd x.den y.den)) * (y.den / (Nat.gcd x.den y.den))) * ((Nat.gcd x.den y.den) / Nat.gcd (Int.natAbs ((x.num * (y.den / (Nat.gcd x.den y.den) : Nat)) + (y.num * (x.den / (Nat.gcd x.den y.den) : Nat)))) (Nat.gcd x.den y.den))) (max ((max (k + j) (j + k)) + 1) ((k + j) + (max k j))))) (by kernel_rfl) hS (List.Mem.head _) (fun v h => ⟨v, rfl, (IsF.sum h (add_rat x y rfl rfl rfl) hx1 hx2 hy1 hy2), hS.grow⟩))
set_option maxRecDepth 100000 in
set_option maxHeartbeats 4000000 in
theorem sub_q {w : World} {v0 v1 : Value} {x y : Rat} {k j : Nat} (h0 : (isQ x k) w v0) (h1 : (isQ y j) w v1) (hk : k ≤ 268435456) (hj : j ≤ 268435456) : Calls Tryz.prog 14 #[v0, v1] w (Ret w fun v w' => (isQ (x - y) (k + j + 1)) w' v) := by
  refine enter (s := soft) (n := 9) (c := (.seq (.region 0 (regionOps Tryz.f14 0) false) (.seq (.region 1 (regionOps Tryz.f14 1) true) .ret))) Tryz.func14 (by kernel_rfl) (by kernel_rfl) (by simp) [(0, (isQ x k)), (1, (isQ y j))] ⟨⟨by simp, h0⟩, ⟨by simp, h1⟩, trivial⟩ ?_
  intro kf a hS
  refine plain_seq (m := 3) (by kernel_rfl) ?_
  refine box0 (p := 2) (y := 0) (t := 30) (q := (isQ x k)) hS (by kernel_rfl) rfl rfl rfl (List.Mem.head _) shQ trivial ⟨(stb_Q _ _), (stb_Q _ _), trivial⟩ ?_
  clear hS kf a
  try clear w
  intro kf a w hS
  refine box0 (p := 3) (y := 1) (t := 30) (q := (isQ y j)) hS (by kernel_rfl) rfl rfl rfl (List.Mem.tail _ (List.Mem.head _)) shQ ⟨(stb_Q _ _), trivial⟩ ⟨(stb_Q _ _), (stb_Q _ _), trivial⟩ ?_
  clear hS kf a
  try clear w
  intro kf a w hS
  refine alloc0 (p := 4) (t := 30) hS (by kernel_rfl) rfl rfl rfl (by kernel_rfl) ⟨(stb_Q _ _), (stb_Q _ _), trivial⟩ ⟨(stb_Q _ _), (stb_Q _ _), trivial⟩ ?_
  clear hS kf a
  try clear w
  intro kf a w hS
  refine plain_end ?_
  refine region_seq (s := soft) (kf0 := kf) (by kernel_rfl) hS (Rg.look [(5, (isQ x k)),
      (6, (isQ y j)),
      (7, (isQ (-y) j)),
      (8, (isQ (x + (-y)) (k + j + 1)))])
    ⟨[], [(4, 4, 8, 30)]⟩ [⟨4, 30, (isQ (x + (-y)) (k + j + 1))⟩, ⟨3, 30, (isQ y j)⟩, ⟨2, 30, (isQ x k)⟩] [(0, (isQ x k)), (1, (isQ y j))] (by kernel_rfl) (by kernel_rfl) (look_stb _ ⟨(stb_Q _ _), (stb_Q _ _), (stb_Q _ _), (stb_Q _ _), trivial⟩) ⟨stb_true, (stb_Q _ _), (stb_Q _ _), trivial⟩ ⟨(stb_Q _ _), (stb_Q _ _), trivial⟩ trivial ⟨shQ, trivial⟩
    ⟨.inl ⟨_, (List.Mem.head _), rfl, rfl, (fun _ _ h => h)⟩, .inr (.inl ⟨rfl, _, (List.Mem.tail _ (List.Mem.head _)), rfl, rfl, (fun _ _ h => h)⟩), .inr (.inl ⟨rfl, _, (List.Mem.tail _ (List.Mem.tail _ (List.Mem.head _))), rfl, rfl, (fun _ _ h => h)⟩), trivial⟩
    ⟨.inr ⟨(by kernel_rfl), _, (List.Mem.head _), rfl, (fun _ _ h => h)⟩, .inr ⟨(by kernel_rfl), _, (List.Mem.tail _ (List.Mem.head _)), rfl, (fun _ _ h => h)⟩, trivial⟩
    (steps (m := 5) (by kernel_rfl) ⟨stepN (i := 0) (dst := some 5) (op := (.load 30 (.tmp 2))) (by kernel_rfl) (loadV (List.Mem.tail _ (List.Mem.tail _ (List.Mem.head _))) (by kernel_rfl) (fun _ _ h => h)),
      stepN (i := 1) (dst := some 6) (op := (.load 30 (.tmp 3))) (by kernel_rfl) (loadV (List.Mem.tail _ (List.Mem.head _)) (by kernel_rfl) (fun _ _ h => h)),
      stepN (i := 2) (dst := some 7) (op := (.call { callee := .value (.func 20), args := #[(.tmp 6)], argTypes := #[30] })) (by kernel_rfl) (call1 (enters_of Tryz.func20 (by kernel_rfl) rfl) (argT (p := (isQ y j)) (by kernel_rfl) (fun _ _ h => h)) (fun w u1 h1 => neg_q h1) (fun _ _ h => h)),
      stepN (i := 3) (dst := some 8) (op := (.call { callee := .value (.func 12), args := #[(.tmp 5), (.tmp 7)], argTypes := #[30, 30] })) (by kernel_rfl) (call2 (enters_of Tryz.func12 (by kernel_rfl) rfl) (argT (p := (isQ x k)) (by kernel_rfl) (fun _ _ h => h)) (argT (p := (isQ (-y) j)) (by kernel_rfl) (fun _ _ h => h)) (fun w u1 u2 h1 h2 => add_q h1 h2 (by omega) (by omega)) (fun _ _ h => h)),
      isStore rfl, trivial⟩) ?_
  clear hS kf a
  try clear w
  intro kf a w hS
  exact wp_ret (ret_c (q := (isQ (x + (-y)) (k + j + 1))) (by kernel_rfl) hS (List.Mem.head _) (fun v h => ⟨v, rfl, (IsQ.eq h (Rat.sub_eq_add_neg x y).symm), hS.grow⟩))
set_option maxRecDepth 100000 in
set_option maxHeartbeats 4000000 in
theorem mul_q {w : World} {v0 v1 : Value} {x y : Rat} {k j : Nat} (h0 : (isQ x k) w v0) (h1 : (isQ y j) w v1) (hk : k ≤ 268435456) (hj : j ≤ 268435456) : Calls Tryz.prog 16 #[v0, v1] w (Ret w fun v w' => (isQ (x * y) (k + j)) w' v) := by
  have hx1 := h0.num_len
  have hx2 := h0.den_len
  have hy1 := h1.num_len
  have hy2 := h1.den_len
  have hxd := x.den_nz
  have hyd := y.den_nz
  have hx0 := h0.1
  have hy0 := h1.1
  refine enter (s := soft) (n := 32) (c := (.seq (.region 0 (regionOps Tryz.f16 0) false) (.seq (.region 1 (regionOps Tryz.f16 1) true) (.seq (.region 2 (regionOps Tryz.f16 2) true) (.seq (.region 3 (regionOps Tryz.f16 3) true) .ret))))) Tryz.func16 (by kernel_rfl) (by kernel_rfl) (by simp) [(0, (isQ x k)), (1, (isQ y j))] ⟨⟨by simp, h0⟩, ⟨by simp, h1⟩, trivial⟩ ?_
  intro kf a hS
  refine plain_seq (m := 3) (by kernel_rfl) ?_
  refine box0 (p := 2) (y := 0) (t := 30) (q := (isQ x k)) hS (by kernel_rfl) rfl rfl rfl (List.Mem.head _) shQ trivial ⟨(stb_Q _ _), (stb_Q _ _), trivial⟩ ?_
  clear hS kf a
  try clear w
  intro kf a w hS
  refine box0 (p := 3) (y := 1) (t := 30) (q := (isQ y j)) hS (by kernel_rfl) rfl rfl rfl (List.Mem.tail _ (List.Mem.head _)) shQ ⟨(stb_Q _ _), trivial⟩ ⟨(stb_Q _ _), (stb_Q _ _), trivial⟩ ?_
  clear hS kf a
  try clear w
  intro kf a w hS
  refine alloc0 (p := 4) (t := 30) hS (by kernel_rfl) rfl rfl rfl (by kernel_rfl) ⟨(stb_Q _ _), (stb_Q _ _), trivial⟩ ⟨(stb_Q _ _), (stb_Q _ _), trivial⟩ ?_
  clear hS kf a
  try clear w
  intro kf a w hS
  refine plain_end ?_
  refine region_seq (s := soft) (kf0 := kf) (by kernel_rfl) hS (Rg.look [(10, (isE (.pointer (some ⟨kf 2, 0, none⟩)))),
      (11, (isW x.num k)),
      (12, (isQ y j)),
      (13, (isN y.den j)),
      (14, (IsT [(isW (x.num / (Nat.gcd (Int.natAbs x.num) y.den : Nat)) k), (isN (y.den / Nat.gcd (Int.natAbs x.num) y.den) j)])),
      (9, (IsT [(isW (x.num / (Nat.gcd (Int.natAbs x.num) y.den : Nat)) k), (isN (y.den / Nat.gcd (Int.natAbs x.num) y.den) j)])),
      (15, (isW (x.num / (Nat.gcd (Int.natAbs x.num) y.den : Nat)) k)),
      (16, (isN (y.den / Nat.gcd (Int.natAbs x.num) y.den) j)),
      (5, isX),
      (6, isX)])
    ⟨[(8, 5, 28), (9, 6, 26)], [(10, 5, 15, 28), (11, 6, 16, 26)]⟩ [⟨4, 30, isX⟩, ⟨3, 30, (isQ y j)⟩, ⟨2, 30, (isQ x k)⟩, ⟨5, 28, (isW (x.num / (Nat.gcd (Int.natAbs x.num) y.den : Nat)) k)⟩, ⟨6, 26, (isN (y.den / Nat.gcd (Int.natAbs x.num) y.den) j)⟩] [(0, (isQ x k)), (1, (isQ y j))] (by kernel_rfl) (by kernel_rfl) (look_stb _ ⟨(stb_eq _), (stb_W _ _), (stb_Q _ _), (stb_N _ _), (stb_T ⟨(stb_W _ _), (stb_N _ _), trivial⟩), (stb_T ⟨(stb_W _ _), (stb_N _ _), trivial⟩), (stb_W _ _), (stb_N _ _), stb_true, stb_true, trivial⟩) ⟨stb_true, (stb_Q _ _), (stb_Q _ _), trivial⟩ ⟨(stb_Q _ _), (stb_Q _ _), trivial⟩ ⟨fun _ _ => trivial, fun _ _ => trivial, trivial⟩ ⟨shW, shN, trivial⟩
    ⟨.inr (.inl ⟨rfl, _, (List.Mem.head _), rfl, rfl, (fun _ _ h => h)⟩), .inr (.inl ⟨rfl, _, (List.Mem.tail _ (List.Mem.head _)), rfl, rfl, (fun _ _ h => h)⟩), .inr (.inl ⟨rfl, _, (List.Mem.tail _ (List.Mem.tail _ (List.Mem.head _))), rfl, rfl, (fun _ _ h => h)⟩), .inl ⟨_, (List.Mem.head _), rfl, rfl, (fun _ _ h => h)⟩, .inl ⟨_, (List.Mem.tail _ (List.Mem.head _)), rfl, rfl, (fun _ _ h => h)⟩, trivial⟩
    ⟨.inr ⟨(by kernel_rfl), _, (List.Mem.head _), rfl, (fun _ _ h => h)⟩, .inr ⟨(by kernel_rfl), _, (List.Mem.tail _ (List.Mem.head _)), rfl, (fun _ _ h => h)⟩, trivial⟩
    (steps (m := 12) (by kernel_rfl) ⟨stepN (i := 0) (dst := some 10) (op := (.fieldAddr 30 (.tmp 2) 0)) (by kernel_rfl) (fieldV (off := 0) (sz := 2) (List.Mem.tail _ (List.Mem.tail _ (List.Mem.head _))) (by kernel_rfl) (fun _ _ h => h)),
      stepN (i := 1) (dst := some 11) (op := (.load 28 (.tmp 10))) (by kernel_rfl) (loadF (sz := 2) (r := (isW x.num k)) (by kernel_rfl) (fun _ _ h => h) (List.Mem.tail _ (List.Mem.tail _ (List.Mem.head _))) (by kernel_rfl) (by kernel_rfl) (by kernel_rfl) rfl fldQW (fun _ _ h => h)),
      stepN (i := 2) (dst := some 12) (op := (.load 30 (.tmp 3))) (by kernel_rfl) (loadV (List.Mem.tail _ (List.Mem.head _)) (by kernel_rfl) (fun _ _ h => h)),
      stepN (i := 3) (dst := some 13) (op := (.call { callee := .value (.func 33), args := #[(.tmp 12)], argTypes := #[30] })) (by kernel_rfl) (call1 (enters_of Tryz.func33 (by kernel_rfl) rfl) (argT (p := (isQ y j)) (by kernel_rfl) (fun _ _ h => h)) (fun w u1 h1 => den_q h1) (fun _ _ h => h)),
      stepN (i := 4) (dst := some 14) (op := (.call { callee := .value (.func 50), args := #[(.tmp 11), (.tmp 13)], argTypes := #[28, 26] })) (by kernel_rfl) (call2 (enters_of Tryz.func50 (by kernel_rfl) rfl) (argT (p := (isW x.num k)) (by kernel_rfl) (fun _ _ h => h)) (argT (p := (isN y.den j)) (by kernel_rfl) (fun _ _ h => h)) (fun w u1 u2 h1 h2 => cancel_z h1 h2 (by omega) (by omega) (by assumption)) (fun _ _ h => h)),
      stepN (i := 5) (dst := some 9) (op := (.move (.tmp 14))) (by kernel_rfl) (move (argT (p := (IsT [(isW (x.num / (Nat.gcd (Int.natAbs x.num) y.den : Nat)) k), (isN (y.den / Nat.gcd (Int.natAbs x.num) y.den) j)])) (by kernel_rfl) (fun _ _ h => h)) (fun _ _ h => h)),
      stepN (i := 6) (dst := some 15) (op := (.extract (.tmp 9) 0)) (by kernel_rfl) (extract (by kernel_rfl) (fun _ _ h => h) rfl (fun _ _ h => h)),
      stepN (i := 7) (dst := some 16) (op := (.extract (.tmp 9) 1)) (by kernel_rfl) (extract (by kernel_rfl) (fun _ _ h => h) rfl (fun _ _ h => h)),
      isAlloc rfl,
      isAlloc rfl,
      isStore rfl,
      isStore rfl, trivial⟩) ?_
  clear hS kf a
  try clear w
  intro kf a w hS
  refine region_seq (s := soft) (kf0 := kf) (by kernel_rfl) hS (Rg.look [(18, (isE (.pointer (some ⟨kf 3, 0, none⟩)))),
      (19, (isW y.num j)),
      (20, (isQ x k)),
      (21, (isN x.den k)),
      (22, (IsT [(isW (y.num / (Nat.gcd (Int.natAbs y.num) x.den : Nat)) j), (isN (x.den / Nat.gcd (Int.natAbs y.num) x.den) k)])),
      (17, (IsT [(isW (y.num / (Nat.gcd (Int.natAbs y.num) x.den : Nat)) j), (isN (x.den / Nat.gcd (Int.natAbs y.num) x.den) k)])),
      (23, (isW (y.num / (Nat.gcd (Int.natAbs y.num) x.den : Nat)) j)),
      (24, (isN (x.den / Nat.gcd (Int.natAbs y.num) x.den) k)),
      (7, isX),
      (8, isX)])
    ⟨[(8, 7, 28), (9, 8, 26)], [(10, 7, 23, 28), (11, 8, 24, 26)]⟩ [⟨4, 30, isX⟩, ⟨3, 30, (isQ y j)⟩, ⟨2, 30, (isQ x k)⟩, ⟨5, 28, (isW (x.num / (Nat.gcd (Int.natAbs x.num) y.den : Nat)) k)⟩, ⟨6, 26, (isN (y.den / Nat.gcd (Int.natAbs x.num) y.den) j)⟩, ⟨7, 28, (isW (y.num / (Nat.gcd (Int.natAbs y.num) x.den : Nat)) j)⟩, ⟨8, 26, (isN (x.den / Nat.gcd (Int.natAbs y.num) x.den) k)⟩] [(0, (isQ x k)), (1, (isQ y j))] (by kernel_rfl) (by kernel_rfl) (look_stb _ ⟨(stb_eq _), (stb_W _ _), (stb_Q _ _), (stb_N _ _), (stb_T ⟨(stb_W _ _), (stb_N _ _), trivial⟩), (stb_T ⟨(stb_W _ _), (stb_N _ _), trivial⟩), (stb_W _ _), (stb_N _ _), stb_true, stb_true, trivial⟩) ⟨stb_true, (stb_Q _ _), (stb_Q _ _), (stb_W _ _), (stb_N _ _), trivial⟩ ⟨(stb_Q _ _), (stb_Q _ _), trivial⟩ ⟨fun _ _ => trivial, fun _ _ => trivial, trivial⟩ ⟨shW, shN, trivial⟩
    ⟨.inr (.inl ⟨rfl, _, (List.Mem.head _), rfl, rfl, (fun _ _ h => h)⟩), .inr (.inl ⟨rfl, _, (List.Mem.tail _ (List.Mem.head _)), rfl, rfl, (fun _ _ h => h)⟩), .inr (.inl ⟨rfl, _, (List.Mem.tail _ (List.Mem.tail _ (List.Mem.head _))), rfl, rfl, (fun _ _ h => h)⟩), .inr (.inl ⟨rfl, _, (List.Mem.tail _ (List.Mem.tail _ (List.Mem.tail _ (List.Mem.head _)))), rfl, rfl, (fun _ _ h => h)⟩), .inr (.inl ⟨rfl, _, (List.Mem.tail _ (List.Mem.tail _ (List.Mem.tail _ (List.Mem.tail _ (List.Mem.head _))))), rfl, rfl, (fun _ _ h => h)⟩), .inl ⟨_, (List.Mem.head _), rfl, rfl, (fun _ _ h => h)⟩, .inl ⟨_, (List.Mem.tail _ (List.Mem.head _)), rfl, rfl, (fun _ _ h => h)⟩, trivial⟩
    ⟨.inr ⟨(by kernel_rfl), _, (List.Mem.head _), rfl, (fun _ _ h => h)⟩, .inr ⟨(by kernel_rfl), _, (List.Mem.tail _ (List.Mem.head _)), rfl, (fun _ _ h => h)⟩, trivial⟩
    (steps (m := 12) (by kernel_rfl) ⟨stepN (i := 0) (dst := some 18) (op := (.fieldAddr 30 (.tmp 3) 0)) (by kernel_rfl) (fieldV (off := 0) (sz := 2) (List.Mem.tail _ (List.Mem.head _)) (by kernel_rfl) (fun _ _ h => h)),
      stepN (i := 1) (dst := some 19) (op := (.load 28 (.tmp 18))) (by kernel_rfl) (loadF (sz := 2) (r := (isW y.num j)) (by kernel_rfl) (fun _ _ h => h) (List.Mem.tail _ (List.Mem.head _)) (by kernel_rfl) (by kernel_rfl) (by kernel_rfl) rfl fldQW (fun _ _ h => h)),
      stepN (i := 2) (dst := some 20) (op := (.load 30 (.tmp 2))) (by kernel_rfl) (loadV (List.Mem.tail _ (List.Mem.tail _ (List.Mem.head _))) (by kernel_rfl) (fun _ _ h => h)),
      stepN (i := 3) (dst := some 21) (op := (.call { callee := .value (.func 33), args := #[(.tmp 20)], argTypes := #[30] })) (by kernel_rfl) (call1 (enters_of Tryz.func33 (by kernel_rfl) rfl) (argT (p := (isQ x k)) (by kernel_rfl) (fun _ _ h => h)) (fun w u1 h1 => den_q h1) (fun _ _ h => h)),
      stepN (i := 4) (dst := some 22) (op := (.call { callee := .value (.func 50), args := #[(.tmp 19), (.tmp 21)], argTypes := #[28, 26] })) (by kernel_rfl) (call2 (enters_of Tryz.func50 (by kernel_rfl) rfl) (argT (p := (isW y.num j)) (by kernel_rfl) (fun _ _ h => h)) (argT (p := (isN x.den k)) (by kernel_rfl) (fun _ _ h => h)) (fun w u1 u2 h1 h2 => cancel_z h1 h2 (by omega) (by omega) (by assumption)) (fun _ _ h => h)),
      stepN (i := 5) (dst := some 17) (op := (.move (.tmp 22))) (by kernel_rfl) (move (argT (p := (IsT [(isW (y.num / (Nat.gcd (Int.natAbs y.num) x.den : Nat)) j), (isN (x.den / Nat.gcd (Int.natAbs y.num) x.den) k)])) (by kernel_rfl) (fun _ _ h => h)) (fun _ _ h => h)),
      stepN (i := 6) (dst := some 23) (op := (.extract (.tmp 17) 0)) (by kernel_rfl) (extract (by kernel_rfl) (fun _ _ h => h) rfl (fun _ _ h => h)),
      stepN (i := 7) (dst := some 24) (op := (.extract (.tmp 17) 1)) (by kernel_rfl) (extract (by kernel_rfl) (fun _ _ h => h) rfl (fun _ _ h => h)),
      isAlloc rfl,
      isAlloc rfl,
      isStore rfl,
      isStore rfl, trivial⟩) ?_
  clear hS kf a
  try clear w
  intro kf a w hS
  refine region_seq (s := soft) (kf0 := kf) (by kernel_rfl) hS (Rg.look [(25, (isW (x.num / (Nat.gcd (Int.natAbs x.num) y.den : Nat)) k)),
      (26, (isW (y.num / (Nat.gcd (Int.natAbs y.num) x.den : Nat)) j)),
      (27, (isW ((x.num / (Nat.gcd (Int.natAbs x.num) y.den : Nat)) * (y.num / (Nat.gcd (Int.natAbs y.num) x.den : Nat))) (k + j))),
      (28, (isN (x.den / Nat.gcd (Int.natAbs y.num) x.den) k)),
      (29, (isN (y.den / Nat.gcd (Int.natAbs x.num) y.den) j)),
      (30, (isN ((x.den / Nat.gcd (Int.natAbs y.num) x.den) * (y.den / Nat.gcd (Int.natAbs x.num) y.den)) (k + j))),
      (31, (isF ((x.num / (Nat.gcd (Int.natAbs x.num) y.den : Nat)) * (y.num / (Nat.gcd (Int.natAbs y.num) x.den : Nat))) ((x.den / Nat.gcd (Int.natAbs y.num) x.den) * (y.den / Nat.gcd (Int.natAbs x.num) y.den)) (k + j)))])
    ⟨[], [(7, 4, 31, 30)]⟩ [⟨4, 30, (isF ((x.num / (Nat.gcd (Int.natAbs x.num) y.den : Nat)) * (y.num / (Nat.gcd (Int.natAbs y.num) x.den : Nat))) ((x.den / Nat.gcd (Int.natAbs y.num) x.den) * (y.den / Nat.gcd (Int.natAbs x.num) y.den)) (k + j))⟩, ⟨3, 30, (isQ y j)⟩, ⟨2, 30, (isQ x k)⟩, ⟨5, 28, (isW (x.num / (Nat.gcd (Int.natAbs x.num) y.den : Nat)) k)⟩, ⟨6, 26, (isN (y.den / Nat.gcd (Int.natAbs x.num) y.den) j)⟩, ⟨7, 28, (isW (y.num / (Nat.gcd (Int.natAbs y.num) x.den : Nat)) j)⟩, ⟨8, 26, (isN (x.den / Nat.gcd (Int.natAbs y.num) x.den) k)⟩] [(0, (isQ x k)), (1, (isQ y j))] (by kernel_rfl) (by kernel_rfl) (look_stb _ ⟨(stb_W _ _), (stb_W _ _), (stb_W _ _), (stb_N _ _), (stb_N _ _), (stb_N _ _), (stb_F _ _ _), trivial⟩) ⟨stb_true, (stb_Q _ _), (stb_Q _ _), (stb_W _ _), (stb_N _ _), (stb_W _ _), (stb_N _ _), trivial⟩ ⟨(stb_Q _ _), (stb_Q _ _), trivial⟩ trivial ⟨shF, trivial⟩
    ⟨.inl ⟨_, (List.Mem.head _), rfl, rfl, (fun _ _ h => h)⟩, .inr (.inl ⟨rfl, _, (List.Mem.tail _ (List.Mem.head _)), rfl, rfl, (fun _ _ h => h)⟩), .inr (.inl ⟨rfl, _, (List.Mem.tail _ (List.Mem.tail _ (List.Mem.head _))), rfl, rfl, (fun _ _ h => h)⟩), .inr (.inl ⟨rfl, _, (List.Mem.tail _ (List.Mem.tail _ (List.Mem.tail _ (List.Mem.head _)))), rfl, rfl, (fun _ _ h => h)⟩), .inr (.inl ⟨rfl, _, (List.Mem.tail _ (List.Mem.tail _ (List.Mem.tail _ (List.Mem.tail _ (List.Mem.head _))))), rfl, rfl, (fun _ _ h => h)⟩), .inr (.inl ⟨rfl, _, (List.Mem.tail _ (List.Mem.tail _ (List.Mem.tail _ (List.Mem.tail _ (List.Mem.tail _ (List.Mem.head _)))))), rfl, rfl, (fun _ _ h => h)⟩), .inr (.inl ⟨rfl, _, (List.Mem.tail _ (List.Mem.tail _ (List.Mem.tail _ (List.Mem.tail _ (List.Mem.tail _ (List.Mem.tail _ (List.Mem.head _))))))), rfl, rfl, (fun _ _ h => h)⟩), trivial⟩
    ⟨.inr ⟨(by kernel_rfl), _, (List.Mem.head _), rfl, (fun _ _ h => h)⟩, .inr ⟨(by kernel_rfl), _, (List.Mem.tail _ (List.Mem.head _)), rfl, (fun _ _ h => h)⟩, trivial⟩
    (steps (m := 8) (by kernel_rfl) ⟨stepN (i := 0) (dst := some 25) (op := (.load 28 (.tmp 5))) (by kernel_rfl) (loadV (List.Mem.tail _ (List.Mem.tail _ (List.Mem.tail _ (List.Mem.head _)))) (by kernel_rfl) (fun _ _ h => h)),
      stepN (i := 1) (dst := some 26) (op := (.load 28 (.tmp 7))) (by kernel_rfl) (loadV (List.Mem.tail _ (List.Mem.tail _ (List.Mem.tail _ (List.Mem.tail _ (List.Mem.tail _ (List.Mem.head _)))))) (by kernel_rfl) (fun _ _ h => h)),
      stepN (i := 2) (dst := some 27) (op := (.call { callee := .value (.func 32), args := #[(.tmp 25), (.tmp 26)], argTypes := #[28, 28] })) (by kernel_rfl) (call2 (enters_of Tryz.func32 (by kernel_rfl) rfl) (argT (p := (isW (x.num / (Nat.gcd (Int.natAbs x.num) y.den : Nat)) k)) (by kernel_rfl) (fun _ _ h => h)) (argT (p := (isW (y.num / (Nat.gcd (Int.natAbs y.num) x.den : Nat)) j)) (by kernel_rfl) (fun _ _ h => h)) (fun w u1 u2 h1 h2 => mul_w h1 h2 (by omega) (by omega)) (fun _ _ h => h)),
      stepN (i := 3) (dst := some 28) (op := (.load 26 (.tmp 8))) (by kernel_rfl) (loadV (List.Mem.tail _ (List.Mem.tail _ (List.Mem.tail _ (List.Mem.tail _ (List.Mem.tail _ (List.Mem.tail _ (List.Mem.head _))))))) (by kernel_rfl) (fun _ _ h => h)),
      stepN (i := 4) (dst := some 29) (op := (.load 26 (.tmp 6))) (by kernel_rfl) (loadV (List.Mem.tail _ (List.Mem.tail _ (List.Mem.tail _ (List.Mem.tail _ (List.Mem.head _))))) (by kernel_rfl) (fun _ _ h => h)),
      stepN (i := 5) (dst := some 30) (op := (.call { callee := .value (.func 51), args := #[(.tmp 28), (.tmp 29)], argTypes := #[26, 26] })) (by kernel_rfl) (call2 (enters_of Tryz.func51 (by kernel_rfl) rfl) (argT (p := (isN (x.den / Nat.gcd (Int.natAbs y.num) x.den) k)) (by kernel_rfl) (fun _ _ h => h)) (argT (p := (isN (y.den / Nat.gcd (Int.natAbs x.num) y.den) j)) (by kernel_rfl) (fun _ _ h => h)) (fun w u1 u2 h1 h2 => mul_n h1 h2 (by omega) (by omega)) (fun _ _ h => h)),
      stepN (i := 6) (dst := some 31) (op := (.build 30 #[(0, (.tmp 27)), (1, (.tmp 30))])) (by kernel_rfl) (buildF (m := k + j) (argT (p := (isW ((x.num / (Nat.gcd (Int.natAbs x.num) y.den : Nat)) * (y.num / (Nat.gcd (Int.natAbs y.num) x.den : Nat))) (k + j))) (by kernel_rfl) (fun _ _ h => h)) (argT (p := (isN ((x.den / Nat.gcd (Int.natAbs y.num) x.den) * (y.den / Nat.gcd (Int.natAbs x.num) y.den)) (k + j))) (by kernel_rfl) (fun _ _ h => h)) (by omega) (by omega) (fun _ _ h => h)),
      isStore rfl, trivial⟩) ?_
  clear hS kf a
  try clear w
  intro kf a w hS
  exact wp_ret (ret_c (q := (isF ((x.num / (Nat.gcd (Int.natAbs x.num) y.den : Nat)) * (y.num / (Nat.gcd (Int.natAbs y.num) x.den : Nat))) ((x.den / Nat.gcd (Int.natAbs y.num) x.den) * (y.den / Nat.gcd (Int.natAbs x.num) y.den)) (k + j))) (by kernel_rfl) hS (List.Mem.head _) (fun v h => ⟨v, rfl, (IsF.q h (by omega) (mul_rat x y).1 (mul_rat x y).2), hS.grow⟩))
set_option maxRecDepth 100000 in
set_option maxHeartbeats 4000000 in
theorem quo_zero {w : World} {v0 v1 : Value} {x y : Rat} {k j : Nat} (h0 : (isQ x k) w v0) (h1 : (isQ y j) w v1) (hy : y = 0) : Calls Tryz.prog 6 #[v0, v1] w (Ret w fun v w' => (IsT [(isQ 0 1), (isE (.int .i64 8))]) w' v) := by
  refine enter (s := soft) (n := 24) (c := (.seq (.region 0 (regionOps Tryz.f6 0) false) (.seq (.seq (.region 1 (regionOps Tryz.f6 1) false) (.cond (.tmp 9) (.seq (.region 2 (regionOps Tryz.f6 2) false) .ret) .skip)) (.seq (.region 3 (regionOps Tryz.f6 3) true) (.seq (.region 4 (regionOps Tryz.f6 4) false) .ret))))) Tryz.func6 (by kernel_rfl) (by kernel_rfl) (by simp) [(0, (isQ x k)), (1, (isQ y j))] ⟨⟨by simp, h0⟩, ⟨by simp, h1⟩, trivial⟩ ?_
  intro kf a hS
  refine plain_seq (m := 4) (by kernel_rfl) ?_
  refine box0 (p := 2) (y := 0) (t := 30) (q := (isQ x k)) hS (by kernel_rfl) rfl rfl rfl (List.Mem.head _) shQ trivial ⟨(stb_Q _ _), (stb_Q _ _), trivial⟩ ?_
  clear hS kf a
  try clear w
  intro kf a w hS
  refine box0 (p := 3) (y := 1) (t := 30) (q := (isQ y j)) hS (by kernel_rfl) rfl rfl rfl (List.Mem.tail _ (List.Mem.head _)) shQ ⟨(stb_Q _ _), trivial⟩ ⟨(stb_Q _ _), (stb_Q _ _), trivial⟩ ?_
  clear hS kf a
  try clear w
  intro kf a w hS
  refine alloc0 (p := 4) (t := 30) hS (by kernel_rfl) rfl rfl rfl (by kernel_rfl) ⟨(stb_Q _ _), (stb_Q _ _), trivial⟩ ⟨(stb_Q _ _), (stb_Q _ _), trivial⟩ ?_
  clear hS kf a
  try clear w
  intro kf a w hS
  refine const0 (p := 5) (c := (.int .i64 0)) hS (by kernel_rfl) rfl rfl rfl ?_
  clear hS kf a
  try clear w
  intro kf a w hS
  refine plain_end ?_
  refine wp_seq ?_
  refine region_seq (s := soft) (kf0 := kf) (by kernel_rfl) hS (Rg.look [(7, (isQ y j)),
      (8, (isE (.int .i64 (Int.sign (y.num))))),
      (9, (isE (.bool (decide (((Int.sign (y.num)) : Int) = 0)))))])
    ⟨[], []⟩ [⟨4, 30, isX⟩, ⟨3, 30, (isQ y j)⟩, ⟨2, 30, (isQ x k)⟩] [(5, (isE (.int .i64 0))), (0, (isQ x k)), (1, (isQ y j)), (9, (isE (.bool (decide (((Int.sign (y.num)) : Int) = 0)))))] (by kernel_rfl) (by kernel_rfl) (look_stb _ ⟨(stb_Q _ _), (stb_eq _), (stb_eq _), trivial⟩) ⟨stb_true, (stb_Q _ _), (stb_Q _ _), trivial⟩ ⟨(stb_eq _), (stb_Q _ _), (stb_Q _ _), trivial⟩ trivial trivial
    ⟨.inr (.inl ⟨rfl, _, (List.Mem.head _), rfl, rfl, (fun _ _ h => h)⟩), .inr (.inl ⟨rfl, _, (List.Mem.tail _ (List.Mem.head _)), rfl, rfl, (fun _ _ h => h)⟩), .inr (.inl ⟨rfl, _, (List.Mem.tail _ (List.Mem.tail _ (List.Mem.head _))), rfl, rfl, (fun _ _ h => h)⟩), trivial⟩
    ⟨.inr ⟨(by kernel_rfl), _, (List.Mem.head _), rfl, (fun _ _ h => h)⟩, .inr ⟨(by kernel_rfl), _, (List.Mem.tail _ (List.Mem.head _)), rfl, (fun _ _ h => h)⟩, .inr ⟨(by kernel_rfl), _, (List.Mem.tail _ (List.Mem.tail _ (List.Mem.head _))), rfl, (fun _ _ h => h)⟩, .inl ⟨(by kernel_rfl), rfl, (fun _ _ h => h)⟩, trivial⟩
    (steps (m := 3) (by kernel_rfl) ⟨stepN (i := 0) (dst := some 7) (op := (.load 30 (.tmp 3))) (by kernel_rfl) (loadV (List.Mem.tail _ (List.Mem.head _)) (by kernel_rfl) (fun _ _ h => h)),
      stepN (i := 1) (dst := some 8) (op := (.call { callee := .value (.func 7), args := #[(.tmp 7)], argTypes := #[30] })) (by kernel_rfl) (call1 (enters_of Tryz.func7 (by kernel_rfl) rfl) (argT (p := (isQ y j)) (by kernel_rfl) (fun _ _ h => h)) (fun w u1 h1 => sign_q h1) (fun _ _ h => h)),
      stepN (i := 2) (dst := some 9) (op := (.binOp .eql 3 (.tmp 8) (.const (.int .i64 0)) 3)) (by kernel_rfl) (eql (m := (Int.sign (y.num))) (n := 0) (argT (p := (isE (.int .i64 (Int.sign (y.num))))) (by kernel_rfl) (fun _ _ h => h)) (argC (.int .i64 0)) (fun _ _ h => h)), trivial⟩) ?_
  clear hS kf a
  try clear w
  intro kf a w hS
  refine cond_true (q := (isE (.bool (decide (((Int.sign (y.num)) : Int) = 0))))) hS (List.Mem.tail _ (List.Mem.tail _ (List.Mem.tail _ (List.Mem.head _)))) (fun _ _ h => h.trans (congrArg _ (by rw [sign_zero]; exact decide_eq_true hy))) ?_
  refine region_seq (s := soft) (kf0 := kf) (by kernel_rfl) hS (Rg.look [(10, (isF 0 0 1)),
      (5, (isE (.int .i64 8)))])
    ⟨[], [(1, 4, 10, 30)]⟩ [⟨4, 30, (isF 0 0 1)⟩, ⟨3, 30, (isQ y j)⟩, ⟨2, 30, (isQ x k)⟩] [(0, (isQ x k)), (1, (isQ y j)), (9, (isE (.bool (decide (((Int.sign (y.num)) : Int) = 0))))), (5, (isE (.int .i64 8)))] (by kernel_rfl) (by kernel_rfl) (look_stb _ ⟨(stb_F _ _ _), (stb_eq _), trivial⟩) ⟨stb_true, (stb_Q _ _), (stb_Q _ _), trivial⟩ ⟨(stb_eq _), (stb_Q _ _), (stb_Q _ _), (stb_eq _), trivial⟩ trivial ⟨shF, trivial⟩
    ⟨.inl ⟨_, (List.Mem.head _), rfl, rfl, (fun _ _ h => h)⟩, .inr (.inl ⟨rfl, _, (List.Mem.tail _ (List.Mem.head _)), rfl, rfl, (fun _ _ h => h)⟩), .inr (.inl ⟨rfl, _, (List.Mem.tail _ (List.Mem.tail _ (List.Mem.head _))), rfl, rfl, (fun _ _ h => h)⟩), trivial⟩
    ⟨.inr ⟨(by kernel_rfl), _, (List.Mem.tail _ (List.Mem.head _)), rfl, (fun _ _ h => h)⟩, .inr ⟨(by kernel_rfl), _, (List.Mem.tail _ (List.Mem.tail _ (List.Mem.head _))), rfl, (fun _ _ h => h)⟩, .inr ⟨(by kernel_rfl), _, (List.Mem.tail _ (List.Mem.tail _ (List.Mem.tail _ (List.Mem.head _)))), rfl, (fun _ _ h => h)⟩, .inl ⟨(by kernel_rfl), rfl, (fun _ _ h => h)⟩, trivial⟩
    (steps (m := 3) (by kernel_rfl) ⟨stepN (i := 0) (dst := some 10) (op := (.build 30 #[])) (by kernel_rfl) (buildF0 (fun _ _ h => h)),
      isStore rfl,
      stepN (i := 2) (dst := some 5) (op := (.assign (.const (.int .i64 8)))) (by kernel_rfl) (assign (argC (.int .i64 8)) (fun _ _ h => h)), trivial⟩) ?_
  clear hS kf a
  try clear w
  intro kf a w hS
  exact wp_ret (ret_ct (q := (isF 0 0 1)) (r := (isE (.int .i64 8))) (by kernel_rfl) hS (List.Mem.head _) (List.Mem.tail _ (List.Mem.tail _ (List.Mem.tail _ (List.Mem.head _)))) (fun _ _ h1 h2 => ⟨_, rfl, IsT.mk2 (IsF.q0 h1) h2, hS.grow⟩))
set_option maxRecDepth 100000 in
set_option maxHeartbeats 4000000 in
theorem quo_q {w : World} {v0 v1 : Value} {x y : Rat} {k j : Nat} (h0 : (isQ x k) w v0) (h1 : (isQ y j) w v1) (hk : k ≤ 268435456) (hj : j ≤ 268435456) (hy : y ≠ 0) : Calls Tryz.prog 6 #[v0, v1] w (Ret w fun v w' => (IsT [(isQ (x / y) (k + j)), (isE (.int .i64 0))]) w' v) := by
  have hx1 := h0.num_len
  have hx2 := h0.den_len
  have hy1 := h1.num_len
  have hy2 := h1.den_len
  have hxd := x.den_nz
  have hyd := y.den_nz
  have hx0 := h0.1
  have hy0 := h1.1
  refine enter (s := soft) (n := 24) (c := (.seq (.region 0 (regionOps Tryz.f6 0) false) (.seq (.seq (.region 1 (regionOps Tryz.f6 1) false) (.cond (.tmp 9) (.seq (.region 2 (regionOps Tryz.f6 2) false) .ret) .skip)) (.seq (.region 3 (regionOps Tryz.f6 3) true) (.seq (.region 4 (regionOps Tryz.f6 4) false) .ret))))) Tryz.func6 (by kernel_rfl) (by kernel_rfl) (by simp) [(0, (isQ x k)), (1, (isQ y j))] ⟨⟨by simp, h0⟩, ⟨by simp, h1⟩, trivial⟩ ?_
  intro kf a hS
  refine plain_seq (m := 4) (by kernel_rfl) ?_
  refine box0 (p := 2) (y := 0) (t := 30) (q := (isQ x k)) hS (by kernel_rfl) rfl rfl rfl (List.Mem.head _) shQ trivial ⟨(stb_Q _ _), (stb_Q _ _), trivial⟩ ?_
  clear hS kf a
  try clear w
  intro kf a w hS
  refine box0 (p := 3) (y := 1) (t := 30) (q := (isQ y j)) hS (by kernel_rfl) rfl rfl rfl (List.Mem.tail _ (List.Mem.head _)) shQ ⟨(stb_Q _ _), trivial⟩ ⟨(stb_Q _ _), (stb_Q _ _), trivial⟩ ?_
  clear hS kf a
  try clear w
  intro kf a w hS
  refine alloc0 (p := 4) (t := 30) hS (by kernel_rfl) rfl rfl rfl (by kernel_rfl) ⟨(stb_Q _ _), (stb_Q _ _), trivial⟩ ⟨(stb_Q _ _), (stb_Q _ _), trivial⟩ ?_
  clear hS kf a
  try clear w
  intro kf a w hS
  refine const0 (p := 5) (c := (.int .i64 0)) hS (by kernel_rfl) rfl rfl rfl ?_
  clear hS kf a
  try clear w
  intro kf a w hS
  refine plain_end ?_
  refine wp_seq ?_
  refine region_seq (s := soft) (kf0 := kf) (by kernel_rfl) hS (Rg.look [(7, (isQ y j)),
      (8, (isE (.int .i64 (Int.sign (y.num))))),
      (9, (isE (.bool (decide (((Int.sign (y.num)) : Int) = 0)))))])
    ⟨[], []⟩ [⟨4, 30, isX⟩, ⟨3, 30, (isQ y j)⟩, ⟨2, 30, (isQ x k)⟩] [(5, (isE (.int .i64 0))), (0, (isQ x k)), (1, (isQ y j)), (9, (isE (.bool (decide (((Int.sign (y.num)) : Int) = 0)))))] (by kernel_rfl) (by kernel_rfl) (look_stb _ ⟨(stb_Q _ _), (stb_eq _), (stb_eq _), trivial⟩) ⟨stb_true, (stb_Q _ _), (stb_Q _ _), trivial⟩ ⟨(stb_eq _), (stb_Q _ _), (stb_Q _ _), trivial⟩ trivial trivial
    ⟨.inr (.inl ⟨rfl, _, (List.Mem.head _), rfl, rfl, (fun _ _ h => h)⟩), .inr (.inl ⟨rfl, _, (List.Mem.tail _ (List.Mem.head _)), rfl, rfl, (fun _ _ h => h)⟩), .inr (.inl ⟨rfl, _, (List.Mem.tail _ (List.Mem.tail _ (List.Mem.head _))), rfl, rfl, (fun _ _ h => h)⟩), trivial⟩
    ⟨.inr ⟨(by kernel_rfl), _, (List.Mem.head _), rfl, (fun _ _ h => h)⟩, .inr ⟨(by kernel_rfl), _, (List.Mem.tail _ (List.Mem.head _)), rfl, (fun _ _ h => h)⟩, .inr ⟨(by kernel_rfl), _, (List.Mem.tail _ (List.Mem.tail _ (List.Mem.head _))), rfl, (fun _ _ h => h)⟩, .inl ⟨(by kernel_rfl), rfl, (fun _ _ h => h)⟩, trivial⟩
    (steps (m := 3) (by kernel_rfl) ⟨stepN (i := 0) (dst := some 7) (op := (.load 30 (.tmp 3))) (by kernel_rfl) (loadV (List.Mem.tail _ (List.Mem.head _)) (by kernel_rfl) (fun _ _ h => h)),
      stepN (i := 1) (dst := some 8) (op := (.call { callee := .value (.func 7), args := #[(.tmp 7)], argTypes := #[30] })) (by kernel_rfl) (call1 (enters_of Tryz.func7 (by kernel_rfl) rfl) (argT (p := (isQ y j)) (by kernel_rfl) (fun _ _ h => h)) (fun w u1 h1 => sign_q h1) (fun _ _ h => h)),
      stepN (i := 2) (dst := some 9) (op := (.binOp .eql 3 (.tmp 8) (.const (.int .i64 0)) 3)) (by kernel_rfl) (eql (m := (Int.sign (y.num))) (n := 0) (argT (p := (isE (.int .i64 (Int.sign (y.num))))) (by kernel_rfl) (fun _ _ h => h)) (argC (.int .i64 0)) (fun _ _ h => h)), trivial⟩) ?_
  clear hS kf a
  try clear w
  intro kf a w hS
  refine cond_false (q := (isE (.bool (decide (((Int.sign (y.num)) : Int) = 0))))) hS (List.Mem.tail _ (List.Mem.tail _ (List.Mem.tail _ (List.Mem.head _)))) (fun _ _ h => h.trans (congrArg _ (by rw [sign_zero]; exact decide_eq_false hy))) ?_
  refine skip_then ?_
  refine region_seq (s := soft) (kf0 := kf) (by kernel_rfl) hS (Rg.look [(11, (isQ y j)),
      (12, (isN y.den j)),
      (13, (isQ y j)),
      (14, (isE (.int .i64 (Int.sign (y.num))))),
      (15, (isE (.bool (decide (((Int.sign (y.num)) : Int) < 0))))),
      (16, (isW (signed y.den (decide (((Int.sign (y.num)) : Int) < 0))) j)),
      (17, (isE (.pointer (some ⟨kf 3, 0, none⟩)))),
      (18, (isW y.num j)),
      (19, (isN (Int.natAbs y.num) j)),
      (20, (isQ (y⁻¹) j)),
      (6, isX)])
    ⟨[(10, 6, 30)], [(11, 6, 20, 30)]⟩ [⟨4, 30, isX⟩, ⟨3, 30, (isQ y j)⟩, ⟨2, 30, (isQ x k)⟩, ⟨6, 30, (isQ (y⁻¹) j)⟩] [(5, (isE (.int .i64 0))), (0, (isQ x k)), (1, (isQ y j)), (9, (isE (.bool (decide (((Int.sign (y.num)) : Int) = 0)))))] (by kernel_rfl) (by kernel_rfl) (look_stb _ ⟨(stb_Q _ _), (stb_N _ _), (stb_Q _ _), (stb_eq _), (stb_eq _), (stb_W _ _), (stb_eq _), (stb_W _ _), (stb_N _ _), (stb_Q _ _), stb_true, trivial⟩) ⟨stb_true, (stb_Q _ _), (stb_Q _ _), trivial⟩ ⟨(stb_eq _), (stb_Q _ _), (stb_Q _ _), (stb_eq _), trivial⟩ ⟨fun _ _ => trivial, trivial⟩ ⟨shQ, trivial⟩
    ⟨.inr (.inl ⟨rfl, _, (List.Mem.head _), rfl, rfl, (fun _ _ h => h)⟩), .inr (.inl ⟨rfl, _, (List.Mem.tail _ (List.Mem.head _)), rfl, rfl, (fun _ _ h => h)⟩), .inr (.inl ⟨rfl, _, (List.Mem.tail _ (List.Mem.tail _ (List.Mem.head _))), rfl, rfl, (fun _ _ h => h)⟩), .inl ⟨_, (List.Mem.head _), rfl, rfl, (fun _ _ h => h)⟩, trivial⟩
    ⟨.inr ⟨(by kernel_rfl), _, (List.Mem.head _), rfl, (fun _ _ h => h)⟩, .inr ⟨(by kernel_rfl), _, (List.Mem.tail _ (List.Mem.head _)), rfl, (fun _ _ h => h)⟩, .inr ⟨(by kernel_rfl), _, (List.Mem.tail _ (List.Mem.tail _ (List.Mem.head _))), rfl, (fun _ _ h => h)⟩, .inr ⟨(by kernel_rfl), _, (List.Mem.tail _ (List.Mem.tail _ (List.Mem.tail _ (List.Mem.head _)))), rfl, (fun _ _ h => h)⟩, trivial⟩
    (steps (m := 12) (by kernel_rfl) ⟨stepN (i := 0) (dst := some 11) (op := (.load 30 (.tmp 3))) (by kernel_rfl) (loadV (List.Mem.tail _ (List.Mem.head _)) (by kernel_rfl) (fun _ _ h => h)),
      stepN (i := 1) (dst := some 12) (op := (.call { callee := .value (.func 33), args := #[(.tmp 11)], argTypes := #[30] })) (by kernel_rfl) (call1 (enters_of Tryz.func33 (by kernel_rfl) rfl) (argT (p := (isQ y j)) (by kernel_rfl) (fun _ _ h => h)) (fun w u1 h1 => den_q h1) (fun _ _ h => h)),
      stepN (i := 2) (dst := some 13) (op := (.load 30 (.tmp 3))) (by kernel_rfl) (loadV (List.Mem.tail _ (List.Mem.head _)) (by kernel_rfl) (fun _ _ h => h)),
      stepN (i := 3) (dst := some 14) (op := (.call { callee := .value (.func 7), args := #[(.tmp 13)], argTypes := #[30] })) (by kernel_rfl) (call1 (enters_of Tryz.func7 (by kernel_rfl) rfl) (argT (p := (isQ y j)) (by kernel_rfl) (fun _ _ h => h)) (fun w u1 h1 => sign_q h1) (fun _ _ h => h)),
      stepN (i := 4) (dst := some 15) (op := (.binOp .lss 3 (.tmp 14) (.const (.int .i64 0)) 3)) (by kernel_rfl) (lss (m := (Int.sign (y.num))) (n := 0) (argT (p := (isE (.int .i64 (Int.sign (y.num))))) (by kernel_rfl) (fun _ _ h => h)) (argC (.int .i64 0)) (fun _ _ h => h)),
      stepN (i := 5) (dst := some 16) (op := (.call { callee := .value (.func 26), args := #[(.tmp 12), (.tmp 15)], argTypes := #[26, 4] })) (by kernel_rfl) (call2 (enters_of Tryz.func26 (by kernel_rfl) rfl) (argT (p := (isN y.den j)) (by kernel_rfl) (fun _ _ h => h)) (argT (p := (isE (.bool (decide (((Int.sign (y.num)) : Int) < 0))))) (by kernel_rfl) (fun _ _ h => h)) (fun w u1 u2 h1 h2 => by subst h2; exact of_w h1) (fun _ _ h => h)),
      stepN (i := 6) (dst := some 17) (op := (.fieldAddr 30 (.tmp 3) 0)) (by kernel_rfl) (fieldV (off := 0) (sz := 2) (List.Mem.tail _ (List.Mem.head _)) (by kernel_rfl) (fun _ _ h => h)),
      stepN (i := 7) (dst := some 18) (op := (.load 28 (.tmp 17))) (by kernel_rfl) (loadF (sz := 2) (r := (isW y.num j)) (by kernel_rfl) (fun _ _ h => h) (List.Mem.tail _ (List.Mem.head _)) (by kernel_rfl) (by kernel_rfl) (by kernel_rfl) rfl fldQW (fun _ _ h => h)),
      stepN (i := 8) (dst := some 19) (op := (.call { callee := .value (.func 35), args := #[(.tmp 18)], argTypes := #[28] })) (by kernel_rfl) (call1 (enters_of Tryz.func35 (by kernel_rfl) rfl) (argT (p := (isW y.num j)) (by kernel_rfl) (fun _ _ h => h)) (fun w u1 h1 => abs_w h1) (fun _ _ h => h)),
      stepN (i := 9) (dst := some 20) (op := (.build 30 #[(0, (.tmp 16)), (1, (.tmp 19))])) (by kernel_rfl) (buildF (m := j) (argT (p := (isW (signed y.den (decide (((Int.sign (y.num)) : Int) < 0))) j)) (by kernel_rfl) (fun _ _ h => h)) (argT (p := (isN (Int.natAbs y.num) j)) (by kernel_rfl) (fun _ _ h => h)) (by omega) (by omega) (fun w v h => IsF.q h hy0 (inv_num hy) (inv_den hy))),
      isAlloc rfl,
      isStore rfl, trivial⟩) ?_
  clear hS kf a
  try clear w
  intro kf a w hS
  refine region_seq (s := soft) (kf0 := kf) (by kernel_rfl) hS (Rg.look [(21, (isQ x k)),
      (22, (isQ (y⁻¹) j)),
      (23, (isQ (x * (y⁻¹)) (k + j))),
      (5, (isE (.int .i64 0)))])
    ⟨[], [(3, 4, 23, 30)]⟩ [⟨4, 30, (isQ (x * (y⁻¹)) (k + j))⟩, ⟨3, 30, (isQ y j)⟩, ⟨2, 30, (isQ x k)⟩, ⟨6, 30, (isQ (y⁻¹) j)⟩] [(0, (isQ x k)), (1, (isQ y j)), (9, (isE (.bool (decide (((Int.sign (y.num)) : Int) = 0))))), (5, (isE (.int .i64 0)))] (by kernel_rfl) (by kernel_rfl) (look_stb _ ⟨(stb_Q _ _), (stb_Q _ _), (stb_Q _ _), (stb_eq _), trivial⟩) ⟨stb_true, (stb_Q _ _), (stb_Q _ _), (stb_Q _ _), trivial⟩ ⟨(stb_eq _), (stb_Q _ _), (stb_Q _ _), (stb_eq _), trivial⟩ trivial ⟨shQ, trivial⟩
    ⟨.inl ⟨_, (List.Mem.head _), rfl, rfl, (fun _ _ h => h)⟩, .inr (.inl ⟨rfl, _, (List.Mem.tail _ (List.Mem.head _)), rfl, rfl, (fun _ _ h => h)⟩), .inr (.inl ⟨rfl, _, (List.Mem.tail _ (List.Mem.tail _ (List.Mem.head _))), rfl, rfl, (fun _ _ h => h)⟩), .inr (.inl ⟨rfl, _, (List.Mem.tail _ (List.Mem.tail _ (List.Mem.tail _ (List.Mem.head _)))), rfl, rfl, (fun _ _ h => h)⟩), trivial⟩
    ⟨.inr ⟨(by kernel_rfl), _, (List.Mem.tail _ (List.Mem.head _)), rfl, (fun _ _ h => h)⟩, .inr ⟨(by kernel_rfl), _, (List.Mem.tail _ (List.Mem.tail _ (List.Mem.head _))), rfl, (fun _ _ h => h)⟩, .inr ⟨(by kernel_rfl), _, (List.Mem.tail _ (List.Mem.tail _ (List.Mem.tail _ (List.Mem.head _)))), rfl, (fun _ _ h => h)⟩, .inl ⟨(by kernel_rfl), rfl, (fun _ _ h => h)⟩, trivial⟩
    (steps (m := 5) (by kernel_rfl) ⟨stepN (i := 0) (dst := some 21) (op := (.load 30 (.tmp 2))) (by kernel_rfl) (loadV (List.Mem.tail _ (List.Mem.tail _ (List.Mem.head _))) (by kernel_rfl) (fun _ _ h => h)),
      stepN (i := 1) (dst := some 22) (op := (.load 30 (.tmp 6))) (by kernel_rfl) (loadV (List.Mem.tail _ (List.Mem.tail _ (List.Mem.tail _ (List.Mem.head _)))) (by kernel_rfl) (fun _ _ h => h)),
      stepN (i := 2) (dst := some 23) (op := (.call { callee := .value (.func 16), args := #[(.tmp 21), (.tmp 22)], argTypes := #[30, 30] })) (by kernel_rfl) (call2 (enters_of Tryz.func16 (by kernel_rfl) rfl) (argT (p := (isQ x k)) (by kernel_rfl) (fun _ _ h => h)) (argT (p := (isQ (y⁻¹) j)) (by kernel_rfl) (fun _ _ h => h)) (fun w u1 u2 h1 h2 => mul_q h1 h2 (by omega) (by omega)) (fun _ _ h => h)),
      isStore rfl,
      stepN (i := 4) (dst := some 5) (op := (.assign (.const (.int .i64 0)))) (by kernel_rfl) (assign (argC (.int .i64 0)) (fun _ _ h => h)), trivial⟩) ?_
  clear hS kf a
  try clear w
  intro kf a w hS
  exact wp_ret (ret_ct (q := (isQ (x * (y⁻¹)) (k + j))) (r := (isE (.int .i64 0))) (by kernel_rfl) hS (List.Mem.head _) (List.Mem.tail _ (List.Mem.tail _ (List.Mem.tail _ (List.Mem.head _)))) (fun _ _ h1 h2 => ⟨_, rfl, IsT.mk2 (h1) h2, hS.grow⟩))
end Go.Proofs.YtlkiikchjeapfaaGreatDoor.Z
