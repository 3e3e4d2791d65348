/- Package frac: its small helpers. Written by a script (tools/laws). -/
import Derived.Test.YtlkiikchjeapfaaGreatDoorFrA
import Derived.Test.YtlkiikchjeapfaaGreatDoorQuoQ
namespace Go.Proofs.YtlkiikchjeapfaaGreatDoor.Z
open Go.RowKit Go.Proofs.YtlkiikchjeapfaaGreatDoor.Rg
set_option maxRecDepth 100000 in
set_option maxHeartbeats 4000000 in
theorem part_z {w : World} {v0 v1 : Value} {n m k j : Nat} (h0 : (isN n k) w v0) (h1 : (isN m j) w v1) (hk : k ≤ 1073741824) (hm : m ≠ 0) : Calls Tryz.prog 47 #[v0, v1] w (Ret w fun v w' => (isN (n / m) k) w' v) := by
  refine enter (s := soft) (n := 16) (c := (.seq (.region 0 (regionOps Tryz.f47 0) false) (.seq (.region 1 (regionOps Tryz.f47 1) false) (.seq (.region 2 (regionOps Tryz.f47 2) false) .ret)))) Tryz.func47 (by kernel_rfl) (by kernel_rfl) (by simp) [(0, (isN n k)), (1, (isN m j))] ⟨⟨by simp, h0⟩, ⟨by simp, h1⟩, trivial⟩ ?_
  intro kf a hS
  refine plain_seq (m := 3) (by kernel_rfl) ?_
  refine box0 (p := 2) (y := 0) (t := 26) (q := (isN n k)) hS (by kernel_rfl) rfl rfl rfl (List.Mem.head _) shN trivial ⟨(stb_N _ _), (stb_N _ _), trivial⟩ ?_
  clear hS kf a
  try clear w
  intro kf a w hS
  refine box0 (p := 3) (y := 1) (t := 26) (q := (isN m j)) hS (by kernel_rfl) rfl rfl rfl (List.Mem.tail _ (List.Mem.head _)) shN ⟨(stb_N _ _), trivial⟩ ⟨(stb_N _ _), (stb_N _ _), trivial⟩ ?_
  clear hS kf a
  try clear w
  intro kf a w hS
  refine alloc0 (p := 4) (t := 26) hS (by kernel_rfl) rfl rfl rfl (by kernel_rfl) ⟨(stb_N _ _), (stb_N _ _), trivial⟩ ⟨(stb_N _ _), (stb_N _ _), trivial⟩ ?_
  clear hS kf a
  try clear w
  intro kf a w hS
  refine plain_end ?_
  refine region_seq (s := soft) (kf0 := kf) (by kernel_rfl) hS (Rg.look [(9, (isN n k)),
      (10, (isN m j)),
      (11, (IsT [(isN (n / m) k), (isN (n % m) j), (isE (.int .i64 0))])),
      (8, (IsT [(isN (n / m) k), (isN (n % m) j), (isE (.int .i64 0))])),
      (12, (isN (n / m) k)),
      (13, (isN (n % m) j)),
      (14, (isE (.int .i64 0))),
      (5, isX),
      (6, isX),
      (7, (isE (.int .i64 0)))])
    ⟨[(7, 5, 26), (8, 6, 26)], [(9, 5, 12, 26), (10, 6, 13, 26)]⟩ [⟨4, 26, isX⟩, ⟨3, 26, (isN m j)⟩, ⟨2, 26, (isN n k)⟩, ⟨5, 26, (isN (n / m) k)⟩, ⟨6, 26, (isN (n % m) j)⟩] [(0, (isN n k)), (1, (isN m j))] (by kernel_rfl) (by kernel_rfl) (look_stb _ ⟨(stb_N _ _), (stb_N _ _), (stb_T ⟨(stb_N _ _), (stb_N _ _), (stb_eq _), trivial⟩), (stb_T ⟨(stb_N _ _), (stb_N _ _), (stb_eq _), trivial⟩), (stb_N _ _), (stb_N _ _), (stb_eq _), stb_true, stb_true, (stb_eq _), trivial⟩) ⟨stb_true, (stb_N _ _), (stb_N _ _), trivial⟩ ⟨(stb_N _ _), (stb_N _ _), trivial⟩ ⟨fun _ _ => trivial, fun _ _ => trivial, trivial⟩ ⟨shN, shN, trivial⟩
    ⟨.inr (.inl ⟨rfl, _, (List.Mem.head _), rfl, rfl, (fun _ _ h => h)⟩), .inr (.inl ⟨rfl, _, (List.Mem.tail _ (List.Mem.head _)), rfl, rfl, (fun _ _ h => h)⟩), .inr (.inl ⟨rfl, _, (List.Mem.tail _ (List.Mem.tail _ (List.Mem.head _))), rfl, rfl, (fun _ _ h => h)⟩), .inl ⟨_, (List.Mem.head _), rfl, rfl, (fun _ _ h => h)⟩, .inl ⟨_, (List.Mem.tail _ (List.Mem.head _)), rfl, rfl, (fun _ _ h => h)⟩, trivial⟩
    ⟨.inr ⟨(by kernel_rfl), _, (List.Mem.head _), rfl, (fun _ _ h => h)⟩, .inr ⟨(by kernel_rfl), _, (List.Mem.tail _ (List.Mem.head _)), rfl, (fun _ _ h => h)⟩, trivial⟩
    (steps (m := 12) (by kernel_rfl) ⟨stepN (i := 0) (dst := some 9) (op := (.load 26 (.tmp 2))) (by kernel_rfl) (loadV (List.Mem.tail _ (List.Mem.tail _ (List.Mem.head _))) (by kernel_rfl) (fun _ _ h => h)),
      stepN (i := 1) (dst := some 10) (op := (.load 26 (.tmp 3))) (by kernel_rfl) (loadV (List.Mem.tail _ (List.Mem.head _)) (by kernel_rfl) (fun _ _ h => h)),
      stepN (i := 2) (dst := some 11) (op := (.call { callee := .value (.func 65), args := #[(.tmp 9), (.tmp 10)], argTypes := #[26, 26] })) (by kernel_rfl) (call2 (enters_of Tryz.func65 (by kernel_rfl) rfl) (argT (p := (isN n k)) (by kernel_rfl) (fun _ _ h => h)) (argT (p := (isN m j)) (by kernel_rfl) (fun _ _ h => h)) (fun w u1 u2 h1 h2 => div_n h1 h2 (by omega) hm) (fun _ _ ⟨_, _, e, g1, g2⟩ => e ▸ IsT.mk3 g1 g2 rfl)),
      stepN (i := 3) (dst := some 8) (op := (.move (.tmp 11))) (by kernel_rfl) (move (argT (p := (IsT [(isN (n / m) k), (isN (n % m) j), (isE (.int .i64 0))])) (by kernel_rfl) (fun _ _ h => h)) (fun _ _ h => h)),
      stepN (i := 4) (dst := some 12) (op := (.extract (.tmp 8) 0)) (by kernel_rfl) (extract (by kernel_rfl) (fun _ _ h => h) rfl (fun _ _ h => h)),
      stepN (i := 5) (dst := some 13) (op := (.extract (.tmp 8) 1)) (by kernel_rfl) (extract (by kernel_rfl) (fun _ _ h => h) rfl (fun _ _ h => h)),
      stepN (i := 6) (dst := some 14) (op := (.extract (.tmp 8) 2)) (by kernel_rfl) (extract (by kernel_rfl) (fun _ _ h => h) rfl (fun _ _ h => h)),
      isAlloc rfl,
      isAlloc rfl,
      isStore rfl,
      isStore rfl,
      stepN (i := 11) (dst := some 7) (op := (.assign (.tmp 14))) (by kernel_rfl) (assign (argT (p := (isE (.int .i64 0))) (by kernel_rfl) (fun _ _ h => h)) (fun _ _ h => h)), trivial⟩) ?_
  clear hS kf a
  try clear w
  intro kf a w hS
  refine region_seq (s := soft) (kf0 := kf) (by kernel_rfl) hS (Rg.look [(15, (isN (n / m) k))])
    ⟨[], [(1, 4, 15, 26)]⟩ [⟨4, 26, (isN (n / m) k)⟩, ⟨3, 26, (isN m j)⟩, ⟨2, 26, (isN n k)⟩, ⟨5, 26, (isN (n / m) k)⟩, ⟨6, 26, (isN (n % m) j)⟩] [(0, (isN n k)), (1, (isN m j))] (by kernel_rfl) (by kernel_rfl) (look_stb _ ⟨(stb_N _ _), trivial⟩) ⟨stb_true, (stb_N _ _), (stb_N _ _), (stb_N _ _), (stb_N _ _), trivial⟩ ⟨(stb_N _ _), (stb_N _ _), trivial⟩ trivial ⟨shN, trivial⟩
    ⟨.inl ⟨_, (List.Mem.head _), rfl, rfl, (fun _ _ h => h)⟩, .inr (.inl ⟨rfl, _, (List.Mem.tail _ (List.Mem.head _)), rfl, rfl, (fun _ _ h => h)⟩), .inr (.inl ⟨rfl, _, (List.Mem.tail _ (List.Mem.tail _ (List.Mem.head _))), rfl, rfl, (fun _ _ h => h)⟩), .inr (.inl ⟨rfl, _, (List.Mem.tail _ (List.Mem.tail _ (List.Mem.tail _ (List.Mem.head _)))), rfl, rfl, (fun _ _ h => h)⟩), .inr (.inl ⟨rfl, _, (List.Mem.tail _ (List.Mem.tail _ (List.Mem.tail _ (List.Mem.tail _ (List.Mem.head _))))), rfl, rfl, (fun _ _ h => h)⟩), trivial⟩
    ⟨.inr ⟨(by kernel_rfl), _, (List.Mem.head _), rfl, (fun _ _ h => h)⟩, .inr ⟨(by kernel_rfl), _, (List.Mem.tail _ (List.Mem.head _)), rfl, (fun _ _ h => h)⟩, trivial⟩
    (steps (m := 2) (by kernel_rfl) ⟨stepN (i := 0) (dst := some 15) (op := (.load 26 (.tmp 5))) (by kernel_rfl) (loadV (List.Mem.tail _ (List.Mem.tail _ (List.Mem.tail _ (List.Mem.head _)))) (by kernel_rfl) (fun _ _ h => h)),
      isStore rfl, trivial⟩) ?_
  clear hS kf a
  try clear w
  intro kf a w hS
  exact wp_ret (ret_c (q := (isN (n / m) k)) (by kernel_rfl) hS (List.Mem.head _) (fun v h => ⟨v, rfl, h, hS.grow⟩))
set_option maxRecDepth 100000 in
set_option maxHeartbeats 4000000 in
theorem times_z {w : World} {v0 v1 : Value} {z : Int} {n k j : Nat} (h0 : (isW z k) w v0) (h1 : (isN n j) w v1) (hk : k ≤ 1073741824) (hj : j ≤ 1073741824) : Calls Tryz.prog 48 #[v0, v1] w (Ret w fun v w' => (isW (z * (n : Nat)) (k + j)) w' v) := by
  refine enter (s := soft) (n := 9) (c := (.seq (.region 0 (regionOps Tryz.f48 0) false) (.seq (.region 1 (regionOps Tryz.f48 1) true) .ret))) Tryz.func48 (by kernel_rfl) (by kernel_rfl) (by simp) [(0, (isW z k)), (1, (isN n j))] ⟨⟨by simp, h0⟩, ⟨by simp, h1⟩, trivial⟩ ?_
  intro kf a hS
  refine plain_seq (m := 3) (by kernel_rfl) ?_
  refine box0 (p := 2) (y := 0) (t := 28) (q := (isW z k)) hS (by kernel_rfl) rfl rfl rfl (List.Mem.head _) shW trivial ⟨(stb_W _ _), (stb_N _ _), trivial⟩ ?_
  clear hS kf a
  try clear w
  intro kf a w hS
  refine box0 (p := 3) (y := 1) (t := 26) (q := (isN n j)) hS (by kernel_rfl) rfl rfl rfl (List.Mem.tail _ (List.Mem.head _)) shN ⟨(stb_W _ _), trivial⟩ ⟨(stb_W _ _), (stb_N _ _), trivial⟩ ?_
  clear hS kf a
  try clear w
  intro kf a w hS
  refine alloc0 (p := 4) (t := 28) hS (by kernel_rfl) rfl rfl rfl (by kernel_rfl) ⟨(stb_N _ _), (stb_W _ _), trivial⟩ ⟨(stb_W _ _), (stb_N _ _), trivial⟩ ?_
  clear hS kf a
  try clear w
  intro kf a w hS
  refine plain_end ?_
  refine region_seq (s := soft) (kf0 := kf) (by kernel_rfl) hS (Rg.look [(5, (isW z k)),
      (6, (isN n j)),
      (7, (isW (signed n false) j)),
      (8, (isW (z * (signed n false)) (k + j)))])
    ⟨[], [(4, 4, 8, 28)]⟩ [⟨4, 28, (isW (z * (signed n false)) (k + j))⟩, ⟨3, 26, (isN n j)⟩, ⟨2, 28, (isW z k)⟩] [(0, (isW z k)), (1, (isN n j))] (by kernel_rfl) (by kernel_rfl) (look_stb _ ⟨(stb_W _ _), (stb_N _ _), (stb_W _ _), (stb_W _ _), trivial⟩) ⟨stb_true, (stb_N _ _), (stb_W _ _), trivial⟩ ⟨(stb_W _ _), (stb_N _ _), trivial⟩ trivial ⟨shW, trivial⟩
    ⟨.inl ⟨_, (List.Mem.head _), rfl, rfl, (fun _ _ h => h)⟩, .inr (.inl ⟨rfl, _, (List.Mem.tail _ (List.Mem.head _)), rfl, rfl, (fun _ _ h => h)⟩), .inr (.inl ⟨rfl, _, (List.Mem.tail _ (List.Mem.tail _ (List.Mem.head _))), rfl, rfl, (fun _ _ h => h)⟩), trivial⟩
    ⟨.inr ⟨(by kernel_rfl), _, (List.Mem.head _), rfl, (fun _ _ h => h)⟩, .inr ⟨(by kernel_rfl), _, (List.Mem.tail _ (List.Mem.head _)), rfl, (fun _ _ h => h)⟩, trivial⟩
    (steps (m := 5) (by kernel_rfl) ⟨stepN (i := 0) (dst := some 5) (op := (.load 28 (.tmp 2))) (by kernel_rfl) (loadV (List.Mem.tail _ (List.Mem.tail _ (List.Mem.head _))) (by kernel_rfl) (fun _ _ h => h)),
      stepN (i := 1) (dst := some 6) (op := (.load 26 (.tmp 3))) (by kernel_rfl) (loadV (List.Mem.tail _ (List.Mem.head _)) (by kernel_rfl) (fun _ _ h => h)),
      stepN (i := 2) (dst := some 7) (op := (.call { callee := .value (.func 26), args := #[(.tmp 6), (.const (.bool false))], argTypes := #[26, 4] })) (by kernel_rfl) (call2 (enters_of Tryz.func26 (by kernel_rfl) rfl) (argT (p := (isN n j)) (by kernel_rfl) (fun _ _ h => h)) (argC (.bool false)) (fun w u1 u2 h1 h2 => by subst h2; exact of_w h1) (fun _ _ h => h)),
      stepN (i := 3) (dst := some 8) (op := (.call { callee := .value (.func 32), args := #[(.tmp 5), (.tmp 7)], argTypes := #[28, 28] })) (by kernel_rfl) (call2 (enters_of Tryz.func32 (by kernel_rfl) rfl) (argT (p := (isW z k)) (by kernel_rfl) (fun _ _ h => h)) (argT (p := (isW (signed n false) j)) (by kernel_rfl) (fun _ _ h => h)) (fun w u1 u2 h1 h2 => mul_w h1 h2 (by omega) (by omega)) (fun _ _ h => h)),
      isStore rfl, trivial⟩) ?_
  clear hS kf a
  try clear w
  intro kf a w hS
  exact wp_ret (ret_c (q := (isW (z * (signed n false)) (k + j))) (by kernel_rfl) hS (List.Mem.head _) (fun v h => ⟨v, rfl, (h), hS.grow⟩))
set_option maxRecDepth 100000 in
set_option maxHeartbeats 4000000 in
theorem cancel_z {w : World} {v0 v1 : Value} {z : Int} {n k j : Nat} (h0 : (isW z k) w v0) (h1 : (isN n j) w v1) (hk : k ≤ 1073741824) (hj : j ≤ 1073741824) (hn : n ≠ 0) : Calls Tryz.prog 50 #[v0, v1] w (Ret w fun v w' => (IsT [(isW (z / (Nat.gcd (Int.natAbs z) n : Nat)) k), (isN (n / (Nat.gcd (Int.natAbs z) n)) j)]) w' v) := by
  have hg : Nat.gcd (Int.natAbs z) n ≠ 0 := Nat.ne_of_gt (Nat.gcd_pos_of_pos_right _ (by omega))
  refine enter (s := soft) (n := 22) (c := (.seq (.region 0 (regionOps Tryz.f50 0) false) (.seq (.region 1 (regionOps Tryz.f50 1) true) (.seq (.region 2 (regionOps Tryz.f50 2) true) .ret)))) Tryz.func50 (by kernel_rfl) (by kernel_rfl) (by simp) [(0, (isW z k)), (1, (isN n j))] ⟨⟨by simp, h0⟩, ⟨by simp, h1⟩, trivial⟩ ?_
  intro kf a hS
  refine plain_seq (m := 4) (by kernel_rfl) ?_
  refine box0 (p := 2) (y := 0) (t := 28) (q := (isW z k)) hS (by kernel_rfl) rfl rfl rfl (List.Mem.head _) shW trivial ⟨(stb_W _ _), (stb_N _ _), trivial⟩ ?_
  clear hS kf a
  try clear w
  intro kf a w hS
  refine box0 (p := 3) (y := 1) (t := 26) (q := (isN n j)) hS (by kernel_rfl) rfl rfl rfl (List.Mem.tail _ (List.Mem.head _)) shN ⟨(stb_W _ _), trivial⟩ ⟨(stb_W _ _), (stb_N _ _), trivial⟩ ?_
  clear hS kf a
  try clear w
  intro kf a w hS
  refine alloc0 (p := 4) (t := 28) hS (by kernel_rfl) rfl rfl rfl (by kernel_rfl) ⟨(stb_N _ _), (stb_W _ _), trivial⟩ ⟨(stb_W _ _), (stb_N _ _), trivial⟩ ?_
  clear hS kf a
  try clear w
  intro kf a w hS
  refine alloc0 (p := 5) (t := 26) hS (by kernel_rfl) rfl rfl rfl (by kernel_rfl) ⟨stb_true, (stb_N _ _), (stb_W _ _), trivial⟩ ⟨(stb_W _ _), (stb_N _ _), trivial⟩ ?_
  clear hS kf a
  try clear w
  intro kf a w hS
  refine plain_end ?_
  refine region_seq (s := soft) (kf0 := kf) (by kernel_rfl) hS (Rg.look [(7, (isW z k)),
      (8, (isN (Int.natAbs z) k)),
      (9, (isN n j)),
      (10, (isN (Nat.gcd (Int.natAbs z) n) (max k j))),
      (6, isX)])
    ⟨[(4, 6, 26)], [(5, 6, 10, 26)]⟩ [⟨5, 26, isX⟩, ⟨4, 28, isX⟩, ⟨3, 26, (isN n j)⟩, ⟨2, 28, (isW z k)⟩, ⟨6, 26, (isN (Nat.gcd (Int.natAbs z) n) (max k j))⟩] [(0, (isW z k)), (1, (isN n j))] (by kernel_rfl) (by kernel_rfl) (look_stb _ ⟨(stb_W _ _), (stb_N _ _), (stb_N _ _), (stb_N _ _), stb_true, trivial⟩) ⟨stb_true, stb_true, (stb_N _ _), (stb_W _ _), trivial⟩ ⟨(stb_W _ _), (stb_N _ _), trivial⟩ ⟨fun _ _ => trivial, trivial⟩ ⟨shN, trivial⟩
    ⟨.inr (.inl ⟨rfl, _, (List.Mem.head _), rfl, rfl, (fun _ _ h => h)⟩), .inr (.inl ⟨rfl, _, (List.Mem.tail _ (List.Mem.head _)), rfl, rfl, (fun _ _ h => h)⟩), .inr (.inl ⟨rfl, _, (List.Mem.tail _ (List.Mem.tail _ (List.Mem.head _))), rfl, rfl, (fun _ _ h => h)⟩), .inr (.inl ⟨rfl, _, (List.Mem.tail _ (List.Mem.tail _ (List.Mem.tail _ (List.Mem.head _)))), rfl, rfl, (fun _ _ h => h)⟩), .inl ⟨_, (List.Mem.head _), rfl, rfl, (fun _ _ h => h)⟩, trivial⟩
    ⟨.inr ⟨(by kernel_rfl), _, (List.Mem.head _), rfl, (fun _ _ h => h)⟩, .inr ⟨(by kernel_rfl), _, (List.Mem.tail _ (List.Mem.head _)), rfl, (fun _ _ h => h)⟩, trivial⟩
    (steps (m := 6) (by kernel_rfl) ⟨stepN (i := 0) (dst := some 7) (op := (.load 28 (.tmp 2))) (by kernel_rfl) (loadV (List.Mem.tail _ (List.Mem.tail _ (List.Mem.tail _ (List.Mem.head _)))) (by kernel_rfl) (fun _ _ h => h)),
      stepN (i := 1) (dst := some 8) (op := (.call { callee := .value (.func 35), args := #[(.tmp 7)], argTypes := #[28] })) (by kernel_rfl) (call1 (enters_of Tryz.func35 (by kernel_rfl) rfl) (argT (p := (isW z k)) (by kernel_rfl) (fun _ _ h => h)) (fun w u1 h1 => abs_w h1) (fun _ _ h => h)),
      stepN (i := 2) (dst := some 9) (op := (.load 26 (.tmp 3))) (by kernel_rfl) (loadV (List.Mem.tail _ (List.Mem.tail _ (List.Mem.head _))) (by kernel_rfl) (fun _ _ h => h)),
      stepN (i := 3) (dst := some 10) (op := (.call { callee := .value (.func 34), args := #[(.tmp 8), (.tmp 9)], argTypes := #[26, 26] })) (by kernel_rfl) (call2 (enters_of Tryz.func34 (by kernel_rfl) rfl) (argT (p := (isN (Int.natAbs z) k)) (by kernel_rfl) (fun _ _ h => h)) (argT (p := (isN n j)) (by kernel_rfl) (fun _ _ h => h)) (fun w u1 u2 h1 h2 => gcd_n (k := max k j) (h1.weak (by omega)) (h2.weak (by omega)) (by omega)) (fun _ _ h => h)),
      isAlloc rfl,
      isStore rfl, trivial⟩) ?_
  clear hS kf a
  try clear w
  intro kf a w hS
  refine region_seq (s := soft) (kf0 := kf) (by kernel_rfl) hS (Rg.look [(11, (isW z k)),
      (12, (isN (Int.natAbs z) k)),
      (13, (isN (Nat.gcd (Int.natAbs z) n) (max k j))),
      (14, (isN ((Int.natAbs z) / (Nat.gcd (Int.natAbs z) n)) k)),
      (15, (isW z k)),
      (16, (isE (.int .i64 (Int.sign z)))),
      (17, (isE (.bool (decide (((Int.sign z) : Int) < 0))))),
      (18, (isW (signed ((Int.natAbs z) / (Nat.gcd (Int.natAbs z) n)) (decide (((Int.sign z) : Int) < 0))) k)),
      (19, (isN n j)),
      (20, (isN (Nat.gcd (Int.natAbs z) n) (max k j))),
      (21, (isN (n / (Nat.gcd (Int.natAbs z) n)) j))])
    ⟨[], [(11, 4, 18, 28), (12, 5, 21, 26)]⟩ [⟨5, 26, (isN (n / (Nat.gcd (Int.natAbs z) n)) j)⟩, ⟨4, 28, (isW (signed ((Int.natAbs z) / (Nat.gcd (Int.natAbs z) n)) (decide (((Int.sign z) : Int) < 0))) k)⟩, ⟨3, 26, (isN n j)⟩, ⟨2, 28, (isW z k)⟩, ⟨6, 26, (isN (Nat.gcd (Int.natAbs z) n) (max k j))⟩] [(0, (isW z k)), (1, (isN n j))] (by kernel_rfl) (by kernel_rfl) (look_stb _ ⟨(stb_W _ _), (stb_N _ _), (stb_N _ _), (stb_N _ _), (stb_W _ _), (stb_eq _), (stb_eq _), (stb_W _ _), (stb_N _ _), (stb_N _ _), (stb_N _ _), trivial⟩) ⟨stb_true, stb_true, (stb_N _ _), (stb_W _ _), (stb_N _ _), trivial⟩ ⟨(stb_W _ _), (stb_N _ _), trivial⟩ trivial ⟨shW, shN, trivial⟩
    ⟨.inl ⟨_, (List.Mem.tail _ (List.Mem.head _)), rfl, rfl, (fun _ _ h => h)⟩, .inl ⟨_, (List.Mem.head _), rfl, rfl, (fun _ _ h => h)⟩, .inr (.inl ⟨rfl, _, (List.Mem.tail _ (List.Mem.tail _ (List.Mem.head _))), rfl, rfl, (fun _ _ h => h)⟩), .inr (.inl ⟨rfl, _, (List.Mem.tail _ (List.Mem.tail _ (List.Mem.tail _ (List.Mem.head _)))), rfl, rfl, (fun _ _ h => h)⟩), .inr (.inl ⟨rfl, _, (List.Mem.tail _ (List.Mem.tail _ (List.Mem.tail _ (List.Mem.tail _ (List.Mem.head _))))), rfl, rfl, (fun _ _ h => h)⟩), trivial⟩
    ⟨.inr ⟨(by kernel_rfl), _, (List.Mem.head _), rfl, (fun _ _ h => h)⟩, .inr ⟨(by kernel_rfl), _, (List.Mem.tail _ (List.Mem.head _)), rfl, (fun _ _ h => h)⟩, trivial⟩
    (steps (m := 13) (by kernel_rfl) ⟨stepN (i := 0) (dst := some 11) (op := (.load 28 (.tmp 2))) (by kernel_rfl) (loadV (List.Mem.tail _ (List.Mem.tail _ (List.Mem.tail _ (List.Mem.head _)))) (by kernel_rfl) (fun _ _ h => h)),
      stepN (i := 1) (dst := some 12) (op := (.call { callee := .value (.func 35), args := #[(.tmp 11)], argTypes := #[28] })) (by kernel_rfl) (call1 (enters_of Tryz.func35 (by kernel_rfl) rfl) (argT (p := (isW z k)) (by kernel_rfl) (fun _ _ h => h)) (fun w u1 h1 => abs_w h1) (fun _ _ h => h)),
      stepN (i := 2) (dst := some 13) (op := (.load 26 (.tmp 6))) (by kernel_rfl) (loadV (List.Mem.tail _ (List.Mem.tail _ (List.Mem.tail _ (List.Mem.tail _ (List.Mem.head _))))) (by kernel_rfl) (fun _ _ h => h)),
      stepN (i := 3) (dst := some 14) (op := (.call { callee := .value (.func 47), args := #[(.tmp 12), (.tmp 13)], argTypes := #[26, 26] })) (by kernel_rfl) (call2 (enters_of Tryz.func47 (by kernel_rfl) rfl) (argT (p := (isN (Int.natAbs z) k)) (by kernel_rfl) (fun _ _ h => h)) (argT (p := (isN (Nat.gcd (Int.natAbs z) n) (max k j))) (by kernel_rfl) (fun _ _ h => h)) (fun w u1 u2 h1 h2 => part_z h1 h2 (by omega) hg) (fun _ _ h => h)),
      stepN (i := 4) (dst := some 15) (op := (.load 28 (.tmp 2))) (by kernel_rfl) (loadV (List.Mem.tail _ (List.Mem.tail _ (List.Mem.tail _ (List.Mem.head _)))) (by kernel_rfl) (fun _ _ h => h)),
      stepN (i := 5) (dst := some 16) (op := (.call { callee := .value (.func 28), args := #[(.tmp 15)], argTypes := #[28] })) (by kernel_rfl) (call1 (enters_of Tryz.func28 (by kernel_rfl) rfl) (argT (p := (isW z k)) (by kernel_rfl) (fun _ _ h => h)) (fun w u1 h1 => sign_w h1) (fun _ _ h => h)),
      stepN (i := 6) (dst := some 17) (op := (.binOp .lss 3 (.tmp 16) (.const (.int .i64 0)) 3)) (by kernel_rfl) (lss (m := (Int.sign z)) (n := 0) (argT (p := (isE (.int .i64 (Int.sign z)))) (by kernel_rfl) (fun _ _ h => h)) (argC (.int .i64 0)) (fun _ _ h => h)),
      stepN (i := 7) (dst := some 18) (op := (.call { callee := .value (.func 26), args := #[(.tmp 14), (.tmp 17)], argTypes := #[26, 4] })) (by kernel_rfl) (call2 (enters_of Tryz.func26 (by kernel_rfl) rfl) (argT (p := (isN ((Int.natAbs z) / (Nat.gcd (Int.natAbs z) n)) k)) (by kernel_rfl) (fun _ _ h => h)) (argT (p := (isE (.bool (decide (((Int.sign z) : Int) < 0))))) (by kernel_rfl) (fun _ _ h => h)) (fun w u1 u2 h1 h2 => by subst h2; exact of_w h1) (fun _ _ h => h)),
      stepN (i := 8) (dst := some 19) (op := (.load 26 (.tmp 3))) (by kernel_rfl) (loadV (List.Mem.tail _ (List.Mem.tail _ (List.Mem.head _))) (by kernel_rfl) (fun _ _ h => h)),
      stepN (i := 9) (dst := some 20) (op := (.load 26 (.tmp 6))) (by kernel_rfl) (loadV (List.Mem.tail _ (List.Mem.tail _ (List.Mem.tail _ (List.Mem.tail _ (List.Mem.head _))))) (by kernel_rfl) (fun _ _ h => h)),
      stepN (i := 10) (dst := some 21) (op := (.call { callee := .value (.func 47), args := #[(.tmp 19), (.tmp 20)], argTypes := #[26, 26] })) (by kernel_rfl) (call2 (enters_of Tryz.func47 (by kernel_rfl) rfl) (argT (p := (isN n j)) (by kernel_rfl) (fun _ _ h => h)) (argT (p := (isN (Nat.gcd (Int.natAbs z) n) (max k j))) (by kernel_rfl) (fun _ _ h => h)) (fun w u1 u2 h1 h2 => part_z h1 h2 (by omega) hg) (fun _ _ h => h)),
      isStore rfl,
      isStore rfl, trivial⟩) ?_
  clear hS kf a
  try clear w
  intro kf a w hS
  exact wp_ret (ret_cc (q := (isW (signed ((Int.natAbs z) / (Nat.gcd (Int.natAbs z) n)) (decide (((Int.sign z) : Int) < 0))) k)) (r := (isN (n / (Nat.gcd (Int.natAbs z) n)) j)) (by kernel_rfl) hS (List.Mem.tail _ (List.Mem.head _)) (List.Mem.head _) (fun _ _ h1 h2 => ⟨_, rfl, IsT.mk2 (signed_div (Nat.gcd_dvd_left _ _) ▸ h1) h2, hS.grow⟩))
end Go.Proofs.YtlkiikchjeapfaaGreatDoor.Z
