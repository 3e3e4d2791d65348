/- The reference of layer 5. Written by a script (tools/laws). -/
import Derived.Test.YtlkiikchjeapfaaGreatDoorFrF
namespace Go.Proofs.YtlkiikchjeapfaaGreatDoor.Z
open Go.RowKit Go.Proofs.YtlkiikchjeapfaaGreatDoor.Rg
set_option maxRecDepth 100000 in
set_option maxHeartbeats 4000000 in
theorem make_r {w : World} {v0 v1 : Value} {z : Int} {n k j : Nat} (h0 : (isV z k) w v0) (h1 : (isD n j) w v1) (hk : k ≤ 100000) (hj : j ≤ 100000) (hn : n ≠ 0) : Calls Tryz.prog 41 #[v0, v1] w (Ret w fun v w' => (isR (mkRat z n) (max k j)) w' v) := by
  have hg : 0 < Nat.gcd (Int.natAbs z) n := Nat.gcd_pos_of_pos_right _ (by omega)
  refine enter (s := soft) (n := 35) (c := (.seq (.region 0 (regionOps Tryz.f41 0) false) (.seq (.region 1 (regionOps Tryz.f41 1) false) (.seq (.region 2 (regionOps Tryz.f41 2) false) (.seq (.region 3 (regionOps Tryz.f41 3) false) (.seq (.region 4 (regionOps Tryz.f41 4) false) (.seq (.region 5 (regionOps Tryz.f41 5) false) .ret))))))) Tryz.func41 (by kernel_rfl) (by kernel_rfl) (by simp) [(0, (isV z k)), (1, (isD n j))] ⟨⟨by simp, h0⟩, ⟨by simp, h1⟩, trivial⟩ ?_
  intro kf a hS
  refine plain_seq (m := 2) (by kernel_rfl) ?_
  refine box0 (p := 2) (y := 0) (t := 33) (q := (isV z k)) hS (by kernel_rfl) rfl rfl rfl (List.Mem.head _) shV trivial ⟨(stb_V _ _), (stb_D _ _), trivial⟩ ?_
  clear hS kf a
  try clear w
  intro kf a w hS
  refine alloc0 (p := 4) (t := 35) hS (by kernel_rfl) rfl rfl rfl (by kernel_rfl) ⟨(stb_V _ _), trivial⟩ ⟨(stb_V _ _), (stb_D _ _), trivial⟩ ?_
  clear hS kf a
  try clear w
  intro kf a w hS
  refine plain_end ?_
  refine region_seq (s := soft) (kf0 := kf) (by kernel_rfl) hS (Rg.look [(11, (isE (.pointer (some ⟨kf 2, 0, none⟩)))),
      (12, (isD (Int.natAbs z) k)),
      (13, (isD n j)),
      (14, (isD (Nat.gcd (Int.natAbs z) n) (max k j))),
      (5, (isD (Nat.gcd (Int.natAbs z) n) (max k j)))])
    ⟨[], []⟩ [⟨4, 35, isX⟩, ⟨2, 33, (isV z k)⟩] [(0, (isV z k)), (1, (isD n j)), (5, (isD (Nat.gcd (Int.natAbs z) n) (max k j)))] (by kernel_rfl) (by kernel_rfl) (look_stb _ ⟨(stb_eq _), (stb_D _ _), (stb_D _ _), (stb_D _ _), (stb_D _ _), trivial⟩) ⟨stb_true, (stb_V _ _), trivial⟩ ⟨(stb_V _ _), (stb_D _ _), trivial⟩ trivial trivial
    ⟨.inr (.inl ⟨rfl, _, (List.Mem.head _), rfl, rfl, (fun _ _ h => h)⟩), .inr (.inl ⟨rfl, _, (List.Mem.tail _ (List.Mem.head _)), rfl, rfl, (fun _ _ h => h)⟩), trivial⟩
    ⟨.inr ⟨(by kernel_rfl), _, (List.Mem.head _), rfl, (fun _ _ h => h)⟩, .inr ⟨(by kernel_rfl), _, (List.Mem.tail _ (List.Mem.head _)), rfl, (fun _ _ h => h)⟩, .inl ⟨(by kernel_rfl), rfl, (fun _ _ h => h)⟩, trivial⟩
    (steps (m := 5) (by kernel_rfl) ⟨stepN (i := 0) (dst := some 11) (op := (.fieldAddr 33 (.tmp 2) 0)) (by kernel_rfl) (fieldV (off := 0) (sz := 1) (List.Mem.tail _ (List.Mem.head _)) (by kernel_rfl) (fun _ _ h => h)),
      stepN (i := 1) (dst := some 12) (op := (.load 31 (.tmp 11))) (by kernel_rfl) (loadP (r := (isD (Int.natAbs z) k)) (by kernel_rfl) (fun _ _ h => h) (List.Mem.tail _ (List.Mem.head _)) (by kernel_rfl) (by kernel_rfl) rfl fldVD (fun _ _ h => h)),
      stepN (i := 2) (dst := some 13) (op := (.move (.tmp 1))) (by kernel_rfl) (move (argO (p := (isD n j)) (List.Mem.tail _ (List.Mem.head _)) (by kernel_rfl)) (fun _ _ h => h)),
      stepN (i := 3) (dst := some 14) (op := (.call { callee := .value (.func 76), args := #[(.tmp 12), (.tmp 13)], argTypes := #[31, 31] })) (by kernel_rfl) (call2 (enters_of Tryz.func76 (by kernel_rfl) rfl) (argT (p := (isD (Int.natAbs z) k)) (by kernel_rfl) (fun _ _ h => h)) (argT (p := (isD n j)) (by kernel_rfl) (fun _ _ h => h)) (fun w u1 u2 h1 h2 => refGcd_any _ _ _ _ _ (max k j) (by omega) (h1.weak' (by omega)) (h2.weak' (by omega))) (fun _ _ h => h)),
      stepN (i := 4) (dst := some 5) (op := (.assign (.tmp 14))) (by kernel_rfl) (assign (argT (p := (isD (Nat.gcd (Int.natAbs z) n) (max k j))) (by kernel_rfl) (fun _ _ h => h)) (fun _ _ h => h)), trivial⟩) ?_
  clear hS kf a
  try clear w
  intro kf a w hS
  refine region_seq (s := soft) (kf0 := kf) (by kernel_rfl) hS (Rg.look [(16, (isE (.pointer (some ⟨kf 2, 0, none⟩)))),
      (17, (isD (Int.natAbs z) k)),
      (18, (isD (Nat.gcd (Int.natAbs z) n) (max k j))),
      (19, (IsT [(isD ((Int.natAbs z) / (Nat.gcd (Int.natAbs z) n)) k), (isD ((Int.natAbs z) % (Nat.gcd (Int.natAbs z) n)) (max k j))])),
      (15, (IsT [(isD ((Int.natAbs z) / (Nat.gcd (Int.natAbs z) n)) k), (isD ((Int.natAbs z) % (Nat.gcd (Int.natAbs z) n)) (max k j))])),
      (20, (isD ((Int.natAbs z) / (Nat.gcd (Int.natAbs z) n)) k)),
      (21, (isD ((Int.natAbs z) % (Nat.gcd (Int.natAbs z) n)) (max k j))),
      (6, (isD ((Int.natAbs z) / (Nat.gcd (Int.natAbs z) n)) k)),
      (7, (isD ((Int.natAbs z) % (Nat.gcd (Int.natAbs z) n)) (max k j)))])
    ⟨[], []⟩ [⟨4, 35, isX⟩, ⟨2, 33, (isV z k)⟩] [(0, (isV z k)), (1, (isD n j)), (5, (isD (Nat.gcd (Int.natAbs z) n) (max k j))), (6, (isD ((Int.natAbs z) / (Nat.gcd (Int.natAbs z) n)) k))] (by kernel_rfl) (by kernel_rfl) (look_stb _ ⟨(stb_eq _), (stb_D _ _), (stb_D _ _), (stb_T ⟨(stb_D _ _), (stb_D _ _), trivial⟩), (stb_T ⟨(stb_D _ _), (stb_D _ _), trivial⟩), (stb_D _ _), (stb_D _ _), (stb_D _ _), (stb_D _ _), trivial⟩) ⟨stb_true, (stb_V _ _), trivial⟩ ⟨(stb_V _ _), (stb_D _ _), (stb_D _ _), trivial⟩ trivial trivial
    ⟨.inr (.inl ⟨rfl, _, (List.Mem.head _), rfl, rfl, (fun _ _ h => h)⟩), .inr (.inl ⟨rfl, _, (List.Mem.tail _ (List.Mem.head _)), rfl, rfl, (fun _ _ h => h)⟩), trivial⟩
    ⟨.inr ⟨(by kernel_rfl), _, (List.Mem.head _), rfl, (fun _ _ h => h)⟩, .inr ⟨(by kernel_rfl), _, (List.Mem.tail _ (List.Mem.head _)), rfl, (fun _ _ h => h)⟩, .inr ⟨(by kernel_rfl), _, (List.Mem.tail _ (List.Mem.tail _ (List.Mem.head _))), rfl, (fun _ _ h => h)⟩, .inl ⟨(by kernel_rfl), rfl, (fun _ _ h => h)⟩, trivial⟩
    (steps (m := 9) (by kernel_rfl) ⟨stepN (i := 0) (dst := some 16) (op := (.fieldAddr 33 (.tmp 2) 0)) (by kernel_rfl) (fieldV (off := 0) (sz := 1) (List.Mem.tail _ (List.Mem.head _)) (by kernel_rfl) (fun _ _ h => h)),
      stepN (i := 1) (dst := some 17) (op := (.load 31 (.tmp 16))) (by kernel_rfl) (loadP (r := (isD (Int.natAbs z) k)) (by kernel_rfl) (fun _ _ h => h) (List.Mem.tail _ (List.Mem.head _)) (by kernel_rfl) (by kernel_rfl) rfl fldVD (fun _ _ h => h)),
      stepN (i := 2) (dst := some 18) (op := (.move (.tmp 5))) (by kernel_rfl) (move (argO (p := (isD (Nat.gcd (Int.natAbs z) n) (max k j))) (List.Mem.tail _ (List.Mem.tail _ (List.Mem.head _))) (by kernel_rfl)) (fun _ _ h => h)),
      stepN (i := 3) (dst := some 19) (op := (.call { callee := .value (.func 77), args := #[(.tmp 17), (.tmp 18)], argTypes := #[31, 31] })) (by kernel_rfl) (call2 (enters_of Tryz.func77 (by kernel_rfl) rfl) (argT (p := (isD (Int.natAbs z) k)) (by kernel_rfl) (fun _ _ h => h)) (argT (p := (isD (Nat.gcd (Int.natAbs z) n) (max k j))) (by kernel_rfl) (fun _ _ h => h)) (fun w u1 u2 h1 h2 => refDivMod_any _ _ _ _ _ _ _ (by omega) (by omega) h1 h2 hg) (fun _ _ ⟨_, _, e, g1, g2⟩ => e ▸ IsT.mk2 g1 g2)),
      stepN (i := 4) (dst := some 15) (op := (.move (.tmp 19))) (by kernel_rfl) (move (argT (p := (IsT [(isD ((Int.natAbs z) / (Nat.gcd (Int.natAbs z) n)) k), (isD ((Int.natAbs z) % (Nat.gcd (Int.natAbs z) n)) (max k j))])) (by kernel_rfl) (fun _ _ h => h)) (fun _ _ h => h)),
      stepN (i := 5) (dst := some 20) (op := (.extract (.tmp 15) 0)) (by kernel_rfl) (extract (by kernel_rfl) (fun _ _ h => h) rfl (fun _ _ h => h)),
      stepN (i := 6) (dst := some 21) (op := (.extract (.tmp 15) 1)) (by kernel_rfl) (extract (by kernel_rfl) (fun _ _ h => h) rfl (fun _ _ h => h)),
      stepN (i := 7) (dst := some 6) (op := (.assign (.tmp 20))) (by kernel_rfl) (assign (argT (p := (isD ((Int.natAbs z) / (Nat.gcd (Int.natAbs z) n)) k)) (by kernel_rfl) (fun _ _ h => h)) (fun _ _ h => h)),
      stepN (i := 8) (dst := some 7) (op := (.assign (.tmp 21))) (by kernel_rfl) (assign (argT (p := (isD ((Int.natAbs z) % (Nat.gcd (Int.natAbs z) n)) (max k j))) (by kernel_rfl) (fun _ _ h => h)) (fun _ _ h => h)), trivial⟩) ?_
  clear hS kf a
  try clear w
  intro kf a w hS
  refine region_seq (s := soft) (kf0 := kf) (by kernel_rfl) hS (Rg.look [(23, (isD n j)),
      (24, (isD (Nat.gcd (Int.natAbs z) n) (max k j))),
      (25, (IsT [(isD (n / (Nat.gcd (Int.natAbs z) n)) j), (isD (n % (Nat.gcd (Int.natAbs z) n)) (max k j))])),
      (22, (IsT [(isD (n / (Nat.gcd (Int.natAbs z) n)) j), (isD (n % (Nat.gcd (Int.natAbs z) n)) (max k j))])),
      (26, (isD (n / (Nat.gcd (Int.natAbs z) n)) j)),
      (27, (isD (n % (Nat.gcd (Int.natAbs z) n)) (max k j))),
      (8, (isD (n / (Nat.gcd (Int.natAbs z) n)) j)),
      (9, (isD (n % (Nat.gcd (Int.natAbs z) n)) (max k j)))])
    ⟨[], []⟩ [⟨4, 35, isX⟩, ⟨2, 33, (isV z k)⟩] [(0, (isV z k)), (1, (isD n j)), (5, (isD (Nat.gcd (Int.natAbs z) n) (max k j))), (6, (isD ((Int.natAbs z) / (Nat.gcd (Int.natAbs z) n)) k)), (8, (isD (n / (Nat.gcd (Int.natAbs z) n)) j))] (by kernel_rfl) (by kernel_rfl) (look_stb _ ⟨(stb_D _ _), (stb_D _ _), (stb_T ⟨(stb_D _ _), (stb_D _ _), trivial⟩), (stb_T ⟨(stb_D _ _), (stb_D _ _), trivial⟩), (stb_D _ _), (stb_D _ _), (stb_D _ _), (stb_D _ _), trivial⟩) ⟨stb_true, (stb_V _ _), trivial⟩ ⟨(stb_V _ _), (stb_D _ _), (stb_D _ _), (stb_D _ _), trivial⟩ trivial trivial
    ⟨.inr (.inl ⟨rfl, _, (List.Mem.head _), rfl, rfl, (fun _ _ h => h)⟩), .inr (.inl ⟨rfl, _, (List.Mem.tail _ (List.Mem.head _)), rfl, rfl, (fun _ _ h => h)⟩), trivial⟩
    ⟨.inr ⟨(by kernel_rfl), _, (List.Mem.head _), rfl, (fun _ _ h => h)⟩, .inr ⟨(by kernel_rfl), _, (List.Mem.tail _ (List.Mem.head _)), rfl, (fun _ _ h => h)⟩, .inr ⟨(by kernel_rfl), _, (List.Mem.tail _ (List.Mem.tail _ (List.Mem.head _))), rfl, (fun _ _ h => h)⟩, .inr ⟨(by kernel_rfl), _, (List.Mem.tail _ (List.Mem.tail _ (List.Mem.tail _ (List.Mem.head _)))), rfl, (fun _ _ h => h)⟩, .inl ⟨(by kernel_rfl), rfl, (fun _ _ h => h)⟩, trivial⟩
    (steps (m := 8) (by kernel_rfl) ⟨stepN (i := 0) (dst := some 23) (op := (.move (.tmp 1))) (by kernel_rfl) (move (argO (p := (isD n j)) (List.Mem.tail _ (List.Mem.head _)) (by kernel_rfl)) (fun _ _ h => h)),
      stepN (i := 1) (dst := some 24) (op := (.move (.tmp 5))) (by kernel_rfl) (move (argO (p := (isD (Nat.gcd (Int.natAbs z) n) (max k j))) (List.Mem.tail _ (List.Mem.tail _ (List.Mem.head _))) (by kernel_rfl)) (fun _ _ h => h)),
      stepN (i := 2) (dst := some 25) (op := (.call { callee := .value (.func 77), args := #[(.tmp 23), (.tmp 24)], argTypes := #[31, 31] })) (by kernel_rfl) (call2 (enters_of Tryz.func77 (by kernel_rfl) rfl) (argT (p := (isD n j)) (by kernel_rfl) (fun _ _ h => h)) (argT (p := (isD (Nat.gcd (Int.natAbs z) n) (max k j))) (by kernel_rfl) (fun _ _ h => h)) (fun w u1 u2 h1 h2 => refDivMod_any _ _ _ _ _ _ _ (by omega) (by omega) h1 h2 hg) (fun _ _ ⟨_, _, e, g1, g2⟩ => e ▸ IsT.mk2 g1 g2)),
      stepN (i := 3) (dst := some 22) (op := (.move (.tmp 25))) (by kernel_rfl) (move (argT (p := (IsT [(isD (n / (Nat.gcd (Int.natAbs z) n)) j), (isD (n % (Nat.gcd (Int.natAbs z) n)) (max k j))])) (by kernel_rfl) (fun _ _ h => h)) (fun _ _ h => h)),
      stepN (i := 4) (dst := some 26) (op := (.extract (.tmp 22) 0)) (by kernel_rfl) (extract (by kernel_rfl) (fun _ _ h => h) rfl (fun _ _ h => h)),
      stepN (i := 5) (dst := some 27) (op := (.extract (.tmp 22) 1)) (by kernel_rfl) (extract (by kernel_rfl) (fun _ _ h => h) rfl (fun _ _ h => h)),
      stepN (i := 6) (dst := some 8) (op := (.assign (.tmp 26))) (by kernel_rfl) (assign (argT (p := (isD (n / (Nat.gcd (Int.natAbs z) n)) j)) (by kernel_rfl) (fun _ _ h => h)) (fun _ _ h => h)),
      stepN (i := 7) (dst := some 9) (op := (.assign (.tmp 27))) (by kernel_rfl) (assign (argT (p := (isD (n % (Nat.gcd (Int.natAbs z) n)) (max k j))) (by kernel_rfl) (fun _ _ h => h)) (fun _ _ h => h)), trivial⟩) ?_
  clear hS kf a
  try clear w
  intro kf a w hS
  refine region_seq (s := soft) (kf0 := kf) (by kernel_rfl) hS (Rg.look [(28, (isD ((Int.natAbs z) / (Nat.gcd (Int.natAbs z) n)) k)),
      (29, (isE (.pointer (some ⟨kf 2, 1, none⟩)))),
      (30, (isE (.bool (decide (z < 0))))),
      (31, (isV (signed ((Int.natAbs z) / (Nat.gcd (Int.natAbs z) n)) (decide (z < 0))) k)),
      (10, isX)])
    ⟨[(4, 10, 33)], [(5, 10, 31, 33)]⟩ [⟨4, 35, isX⟩, ⟨2, 33, (isV z k)⟩, ⟨10, 33, (isV (signed ((Int.natAbs z) / (Nat.gcd (Int.natAbs z) n)) (decide (z < 0))) k)⟩] [(0, (isV z k)), (1, (isD n j)), (5, (isD (Nat.gcd (Int.natAbs z) n) (max k j))), (6, (isD ((Int.natAbs z) / (Nat.gcd (Int.natAbs z) n)) k)), (8, (isD (n / (Nat.gcd (Int.natAbs z) n)) j))] (by kernel_rfl) (by kernel_rfl) (look_stb _ ⟨(stb_D _ _), (stb_eq _), (stb_eq _), (stb_V _ _), stb_true, trivial⟩) ⟨stb_true, (stb_V _ _), trivial⟩ ⟨(stb_V _ _), (stb_D _ _), (stb_D _ _), (stb_D _ _), (stb_D _ _), trivial⟩ ⟨fun _ _ => trivial, trivial⟩ ⟨shV, trivial⟩
    ⟨.inr (.inl ⟨rfl, _, (List.Mem.head _), rfl, rfl, (fun _ _ h => h)⟩), .inr (.inl ⟨rfl, _, (List.Mem.tail _ (List.Mem.head _)), rfl, rfl, (fun _ _ h => h)⟩), .inl ⟨_, (List.Mem.head _), rfl, rfl, (fun _ _ h => h)⟩, trivial⟩
    ⟨.inr ⟨(by kernel_rfl), _, (List.Mem.head _), rfl, (fun _ _ h => h)⟩, .inr ⟨(by kernel_rfl), _, (List.Mem.tail _ (List.Mem.head _)), rfl, (fun _ _ h => h)⟩, .inr ⟨(by kernel_rfl), _, (List.Mem.tail _ (List.Mem.tail _ (List.Mem.head _))), rfl, (fun _ _ h => h)⟩, .inr ⟨(by kernel_rfl), _, (List.Mem.tail _ (List.Mem.tail _ (List.Mem.tail _ (List.Mem.head _)))), rfl, (fun _ _ h => h)⟩, .inr ⟨(by kernel_rfl), _, (List.Mem.tail _ (List.Mem.tail _ (List.Mem.tail _ (List.Mem.tail _ (List.Mem.head _))))), rfl, (fun _ _ h => h)⟩, trivial⟩
    (steps (m := 6) (by kernel_rfl) ⟨stepN (i := 0) (dst := some 28) (op := (.move (.tmp 6))) (by kernel_rfl) (move (argO (p := (isD ((Int.natAbs z) / (Nat.gcd (Int.natAbs z) n)) k)) (List.Mem.tail _ (List.Mem.tail _ (List.Mem.tail _ (List.Mem.head _)))) (by kernel_rfl)) (fun _ _ h => h)),
      stepN (i := 1) (dst := some 29) (op := (.fieldAddr 33 (.tmp 2) 1)) (by kernel_rfl) (fieldV (off := 1) (sz := 1) (List.Mem.tail _ (List.Mem.head _)) (by kernel_rfl) (fun _ _ h => h)),
      stepN (i := 2) (dst := some 30) (op := (.load 4 (.tmp 29))) (by kernel_rfl) (loadP (r := (isE (.bool (decide (z < 0))))) (by kernel_rfl) (fun _ _ h => h) (List.Mem.tail _ (List.Mem.head _)) (by kernel_rfl) (by kernel_rfl) rfl fldVB (fun _ _ h => h)),
      stepN (i := 3) (dst := some 31) (op := (.call { callee := .value (.func 42), args := #[(.tmp 28), (.tmp 30)], argTypes := #[31, 4] })) (by kernel_rfl) (call2 (enters_of Tryz.func42 (by kernel_rfl) rfl) (argT (p := (isD ((Int.natAbs z) / (Nat.gcd (Int.natAbs z) n)) k)) (by kernel_rfl) (fun _ _ h => h)) (argT (p := (isE (.bool (decide (z < 0))))) (by kernel_rfl) (fun _ _ h => h)) (fun w u1 u2 h1 h2 => by subst h2; exact ofV_any h1) (fun _ _ h => h)),
      isAlloc rfl,
      isStore rfl, trivial⟩) ?_
  clear hS kf a
  try clear w
  intro kf a w hS
  refine region_seq (s := soft) (kf0 := kf) (by kernel_rfl) hS (Rg.look [(32, (isV (signed ((Int.natAbs z) / (Nat.gcd (Int.natAbs z) n)) (decide (z < 0))) k)),
      (33, (isD (n / (Nat.gcd (Int.natAbs z) n)) j)),
      (34, (isG (signed ((Int.natAbs z) / (Nat.gcd (Int.natAbs z) n)) (decide (z < 0))) (n / (Nat.gcd (Int.natAbs z) n)) (max k j)))])
    ⟨[], [(3, 4, 34, 35)]⟩ [⟨4, 35, (isG (signed ((Int.natAbs z) / (Nat.gcd (Int.natAbs z) n)) (decide (z < 0))) (n / (Nat.gcd (Int.natAbs z) n)) (max k j))⟩, ⟨2, 33, (isV z k)⟩, ⟨10, 33, (isV (signed ((Int.natAbs z) / (Nat.gcd (Int.natAbs z) n)) (decide (z < 0))) k)⟩] [(0, (isV z k)), (1, (isD n j)), (5, (isD (Nat.gcd (Int.natAbs z) n) (max k j))), (6, (isD ((Int.natAbs z) / (Nat.gcd (Int.natAbs z) n)) k)), (8, (isD (n / (Nat.gcd (Int.natAbs z) n)) j))] (by kernel_rfl) (by kernel_rfl) (look_stb _ ⟨(stb_V _ _), (stb_D _ _), (stb_G _ _ _), trivial⟩) ⟨stb_true, (stb_V _ _), (stb_V _ _), trivial⟩ ⟨(stb_V _ _), (stb_D _ _), (stb_D _ _), (stb_D _ _), (stb_D _ _), trivial⟩ trivial ⟨shG, trivial⟩
    ⟨.inl ⟨_, (List.Mem.head _), rfl, rfl, (fun _ _ h => h)⟩, .inr (.inl ⟨rfl, _, (List.Mem.tail _ (List.Mem.head _)), rfl, rfl, (fun _ _ h => h)⟩), .inr (.inl ⟨rfl, _, (List.Mem.tail _ (List.Mem.tail _ (List.Mem.head _))), rfl, rfl, (fun _ _ h => h)⟩), trivial⟩
    ⟨.inr ⟨(by kernel_rfl), _, (List.Mem.head _), rfl, (fun _ _ h => h)⟩, .inr ⟨(by kernel_rfl), _, (List.Mem.tail _ (List.Mem.head _)), rfl, (fun _ _ h => h)⟩, .inr ⟨(by kernel_rfl), _, (List.Mem.tail _ (List.Mem.tail _ (List.Mem.head _))), rfl, (fun _ _ h => h)⟩, .inr ⟨(by kernel_rfl), _, (List.Mem.tail _ (List.Mem.tail _ (List.Mem.tail _ (List.Mem.head _)))), rfl, (fun _ _ h => h)⟩, .inr ⟨(by kernel_rfl), _, (List.Mem.tail _ (List.Mem.tail _ (List.Mem.tail _ (List.Mem.tail _ (List.Mem.head _))))), rfl, (fun _ _ h => h)⟩, trivial⟩
    (steps (m := 4) (by kernel_rfl) ⟨stepN (i := 0) (dst := some 32) (op := (.load 33 (.tmp 10))) (by kernel_rfl) (loadV (List.Mem.tail _ (List.Mem.tail _ (List.Mem.head _))) (by kernel_rfl) (fun _ _ h => h)),
      stepN (i := 1) (dst := some 33) (op := (.move (.tmp 8))) (by kernel_rfl) (move (argO (p := (isD (n / (Nat.gcd (Int.natAbs z) n)) j)) (List.Mem.tail _ (List.Mem.tail _ (List.Mem.tail _ (List.Mem.tail _ (List.Mem.head _))))) (by kernel_rfl)) (fun _ _ h => h)),
      stepN (i := 2) (dst := some 34) (op := (.build 35 #[(0, (.tmp 32)), (1, (.tmp 33))])) (by kernel_rfl) (buildG (m := max k j) (argT (p := (isV (signed ((Int.natAbs z) / (Nat.gcd (Int.natAbs z) n)) (decide (z < 0))) k)) (by kernel_rfl) (fun _ _ h => h)) (argT (p := (isD (n / (Nat.gcd (Int.natAbs z) n)) j)) (by kernel_rfl) (fun _ _ h => h)) (by omega) (by omega) (fun _ _ h => h)),
      isStore rfl, trivial⟩) ?_
  clear hS kf a
  try clear w
  intro kf a w hS
  exact wp_ret (ret_c (q := (isG (signed ((Int.natAbs z) / (Nat.gcd (Int.natAbs z) n)) (decide (z < 0))) (n / (Nat.gcd (Int.natAbs z) n)) (max k j))) (by kernel_rfl) hS (List.Mem.head _) (fun v h => ⟨v, rfl, (IsG.r h (by rw [signed_div' (Nat.gcd_dvd_left _ _)]; exact cancel_rat hn) (Nat.le_refl _)), hS.grow⟩))
set_option maxRecDepth 100000 in
set_option maxHeartbeats 4000000 in
theorem cross_r {w : World} {v0 v1 : Value} {x y : Rat} {k j : Nat} (h0 : (isR x k) w v0) (h1 : (isR y j) w v1) (hk : k ≤ 100000) (hj : j ≤ 100000) : Calls Tryz.prog 44 #[v0, v1] w (Ret w fun v w' => (isV (x.num * (y.den : Nat)) (k + j + 1)) w' v) := by
  refine enter (s := soft) (n := 13) (c := (.seq (.region 0 (regionOps Tryz.f44 0) false) (.seq (.region 1 (regionOps Tryz.f44 1) false) (.seq (.region 2 (regionOps Tryz.f44 2) false) .ret)))) Tryz.func44 (by kernel_rfl) (by kernel_rfl) (by simp) [(0, (isR x k)), (1, (isR y j))] ⟨⟨by simp, h0⟩, ⟨by simp, h1⟩, trivial⟩ ?_
  intro kf a hS
  refine plain_seq (m := 3) (by kernel_rfl) ?_
  refine box0 (p := 2) (y := 0) (t := 35) (q := (isR x k)) hS (by kernel_rfl) rfl rfl rfl (List.Mem.head _) shR trivial ⟨(stb_R _ _), (stb_R _ _), trivial⟩ ?_
  clear hS kf a
  try clear w
  intro kf a w hS
  refine box0 (p := 3) (y := 1) (t := 35) (q := (isR y j)) hS (by kernel_rfl) rfl rfl rfl (List.Mem.tail _ (List.Mem.head _)) shR ⟨(stb_R _ _), trivial⟩ ⟨(stb_R _ _), (stb_R _ _), trivial⟩ ?_
  clear hS kf a
  try clear w
  intro kf a w hS
  refine alloc0 (p := 4) (t := 33) hS (by kernel_rfl) rfl rfl rfl (by kernel_rfl) ⟨(stb_R _ _), (stb_R _ _), trivial⟩ ⟨(stb_R _ _), (stb_R _ _), trivial⟩ ?_
  clear hS kf a
  try clear w
  intro kf a w hS
  refine plain_end ?_
  refine region_seq (s := soft) (kf0 := kf) (by kernel_rfl) hS (Rg.look [(6, (isE (.pointer (some ⟨kf 3, 2, none⟩)))),
      (7, (isD y.den j)),
      (8, (isV (signed y.den false) j)),
      (5, isX)])
    ⟨[(3, 5, 33)], [(4, 5, 8, 33)]⟩ [⟨4, 33, isX⟩, ⟨3, 35, (isR y j)⟩, ⟨2, 35, (isR x k)⟩, ⟨5, 33, (isV (signed y.den false) j)⟩] [(0, (isR x k)), (1, (isR y j))] (by kernel_rfl) (by kernel_rfl) (look_stb _ ⟨(stb_eq _), (stb_D _ _), (stb_V _ _), stb_true, trivial⟩) ⟨stb_true, (stb_R _ _), (stb_R _ _), trivial⟩ ⟨(stb_R _ _), (stb_R _ _), trivial⟩ ⟨fun _ _ => trivial, trivial⟩ ⟨shV, trivial⟩
    ⟨.inr (.inl ⟨rfl, _, (List.Mem.head _), rfl, rfl, (fun _ _ h => h)⟩), .inr (.inl ⟨rfl, _, (List.Mem.tail _ (List.Mem.head _)), rfl, rfl, (fun _ _ h => h)⟩), .inr (.inl ⟨rfl, _, (List.Mem.tail _ (List.Mem.tail _ (List.Mem.head _))), rfl, rfl, (fun _ _ h => h)⟩), .inl ⟨_, (List.Mem.head _), rfl, rfl, (fun _ _ h => h)⟩, trivial⟩
    ⟨.inr ⟨(by kernel_rfl), _, (List.Mem.head _), rfl, (fun _ _ h => h)⟩, .inr ⟨(by kernel_rfl), _, (List.Mem.tail _ (List.Mem.head _)), rfl, (fun _ _ h => h)⟩, trivial⟩
    (steps (m := 5) (by kernel_rfl) ⟨stepN (i := 0) (dst := some 6) (op := (.fieldAddr 35 (.tmp 3) 1)) (by kernel_rfl) (fieldV (off := 2) (sz := 1) (List.Mem.tail _ (List.Mem.head _)) (by kernel_rfl) (fun _ _ h => h)),
      stepN (i := 1) (dst := some 7) (op := (.load 31 (.tmp 6))) (by kernel_rfl) (loadP (r := (isD y.den j)) (by kernel_rfl) (fun _ _ h => h) (List.Mem.tail _ (List.Mem.head _)) (by kernel_rfl) (by kernel_rfl) rfl fldRD (fun _ _ h => h)),
      stepN (i := 2) (dst := some 8) (op := (.call { callee := .value (.func 42), args := #[(.tmp 7), (.const (.bool false))], argTypes := #[31, 4] })) (by kernel_rfl) (call2 (enters_of Tryz.func42 (by kernel_rfl) rfl) (argT (p := (isD y.den j)) (by kernel_rfl) (fun _ _ h => h)) (argC (.bool false)) (fun w u1 u2 h1 h2 => by subst h2; exact ofV_any h1) (fun _ _ h => h)),
      isAlloc rfl,
      isStore rfl, trivial⟩) ?_
  clear hS kf a
  try clear w
  intro kf a w hS
  refine region_seq (s := soft) (kf0 := kf) (by kernel_rfl) hS (Rg.look [(9, (isE (.pointer (some ⟨kf 2, 0, none⟩)))),
      (10, (isV x.num k)),
      (11, (isV (signed y.den false) j)),
      (12, (isV (x.num * (signed y.den false)) (k + j + 1)))])
    ⟨[], [(4, 4, 12, 33)]⟩ [⟨4, 33, (isV (x.num * (signed y.den false)) (k + j + 1))⟩, ⟨3, 35, (isR y j)⟩, ⟨2, 35, (isR x k)⟩, ⟨5, 33, (isV (signed y.den false) j)⟩] [(0, (isR x k)), (1, (isR y j))] (by kernel_rfl) (by kernel_rfl) (look_stb _ ⟨(stb_eq _), (stb_V _ _), (stb_V _ _), (stb_V _ _), trivial⟩) ⟨stb_true, (stb_R _ _), (stb_R _ _), (stb_V _ _), trivial⟩ ⟨(stb_R _ _), (stb_R _ _), trivial⟩ trivial ⟨shV, trivial⟩
    ⟨.inl ⟨_, (List.Mem.head _), rfl, rfl, (fun _ _ h => h)⟩, .inr (.inl ⟨rfl, _, (List.Mem.tail _ (List.Mem.head _)), rfl, rfl, (fun _ _ h => h)⟩), .inr (.inl ⟨rfl, _, (List.Mem.tail _ (List.Mem.tail _ (List.Mem.head _))), rfl, rfl, (fun _ _ h => h)⟩), .inr (.inl ⟨rfl, _, (List.Mem.tail _ (List.Mem.tail _ (List.Mem.tail _ (List.Mem.head _)))), rfl, rfl, (fun _ _ h => h)⟩), trivial⟩
    ⟨.inr ⟨(by kernel_rfl), _, (List.Mem.head _), rfl, (fun _ _ h => h)⟩, .inr ⟨(by kernel_rfl), _, (List.Mem.tail _ (List.Mem.head _)), rfl, (fun _ _ h => h)⟩, trivial⟩
    (steps (m := 5) (by kernel_rfl) ⟨stepN (i := 0) (dst := some 9) (op := (.fieldAddr 35 (.tmp 2) 0)) (by kernel_rfl) (fieldV (off := 0) (sz := 2) (List.Mem.tail _ (List.Mem.tail _ (List.Mem.head _))) (by kernel_rfl) (fun _ _ h => h)),
      stepN (i := 1) (dst := some 10) (op := (.load 33 (.tmp 9))) (by kernel_rfl) (loadF (sz := 2) (r := (isV x.num k)) (by kernel_rfl) (fun _ _ h => h) (List.Mem.tail _ (List.Mem.tail _ (List.Mem.head _))) (by kernel_rfl) (by kernel_rfl) (by kernel_rfl) rfl fldRV (fun _ _ h => h)),
      stepN (i := 2) (dst := some 11) (op := (.load 33 (.tmp 5))) (by kernel_rfl) (loadV (List.Mem.tail _ (List.Mem.tail _ (List.Mem.tail _ (List.Mem.head _)))) (by kernel_rfl) (fun _ _ h => h)),
      stepN (i := 3) (dst := some 12) (op := (.call { callee := .value (.func 45), args := #[(.tmp 10), (.tmp 11)], argTypes := #[33, 33] })) (by kernel_rfl) (call2 (enters_of Tryz.func45 (by kernel_rfl) rfl) (argT (p := (isV x.num k)) (by kernel_rfl) (fun _ _ h => h)) (argT (p := (isV (signed y.den false) j)) (by kernel_rfl) (fun _ _ h => h)) (fun w u1 u2 h1 h2 => mulV h1 h2 (by omega) (by omega)) (fun _ _ h => h)),
      isStore rfl, trivial⟩) ?_
  clear hS kf a
  try clear w
  intro kf a w hS
  exact wp_ret (ret_c (q := (isV (x.num * (signed y.den false)) (k + j + 1))) (by kernel_rfl) hS (List.Mem.head _) (fun v h => ⟨v, rfl, (h), hS.grow⟩))
set_option maxRecDepth 100000 in
set_option maxHeartbeats 4000000 in
theorem of_r1 {w : World} {v0 v1 : Value} {z n : Int} {k j : Nat} (h0 : (isV z k) w v0) (h1 : (isV n j) w v1) (hk : k ≤ 100000) (hj : j ≤ 100000) (hn : n < 0) : Calls Tryz.prog 46 #[v0, v1] w (Ret w fun v w' => (isR (((z : Int) : Rat) / ((n : Int) : Rat)) (max k j)) w' v) := by
  refine enter (s := soft) (n := 13) (c := (.seq (.region 0 (regionOps Tryz.f46 0) false) (.seq (.seq (.region 1 (regionOps Tryz.f46 1) false) (.cond (.tmp 6) (.region 2 (regionOps Tryz.f46 2) false) .skip)) (.seq (.region 3 (regionOps Tryz.f46 3) false) .ret)))) Tryz.func46 (by kernel_rfl) (by kernel_rfl) (by simp) [(0, (isV z k)), (1, (isV n j))] ⟨⟨by simp, h0⟩, ⟨by simp, h1⟩, trivial⟩ ?_
  intro kf a hS
  refine plain_seq (m := 3) (by kernel_rfl) ?_
  refine box0 (p := 2) (y := 0) (t := 33) (q := (isV z k)) hS (by kernel_rfl) rfl rfl rfl (List.Mem.head _) shV trivial ⟨(stb_V _ _), (stb_V _ _), trivial⟩ ?_
  clear hS kf a
  try clear w
  intro kf a w hS
  refine box0 (p := 3) (y := 1) (t := 33) (q := (isV n j)) hS (by kernel_rfl) rfl rfl rfl (List.Mem.tail _ (List.Mem.head _)) shV ⟨(stb_V _ _), trivial⟩ ⟨(stb_V _ _), (stb_V _ _), trivial⟩ ?_
  clear hS kf a
  try clear w
  intro kf a w hS
  refine alloc0 (p := 4) (t := 35) hS (by kernel_rfl) rfl rfl rfl (by kernel_rfl) ⟨(stb_V _ _), (stb_V _ _), trivial⟩ ⟨(stb_V _ _), (stb_V _ _), trivial⟩ ?_
  clear hS kf a
  try clear w
  intro kf a w hS
  refine plain_end ?_
  refine wp_seq ?_
  refine region_seq (s := soft) (kf0 := kf) (by kernel_rfl) hS (Rg.look [(5, (isE (.pointer (some ⟨kf 3, 1, none⟩)))),
      (6, (isE (.bool (decide (n < 0)))))])
    ⟨[], []⟩ [⟨4, 35, isX⟩, ⟨3, 33, (isV n j)⟩, ⟨2, 33, (isV z k)⟩] [(0, (isV z k)), (1, (isV n j)), (6, (isE (.bool (decide (n < 0)))))] (by kernel_rfl) (by kernel_rfl) (look_stb _ ⟨(stb_eq _), (stb_eq _), trivial⟩) ⟨stb_true, (stb_V _ _), (stb_V _ _), trivial⟩ ⟨(stb_V _ _), (stb_V _ _), trivial⟩ trivial trivial
    ⟨.inr (.inl ⟨rfl, _, (List.Mem.head _), rfl, rfl, (fun _ _ h => h)⟩), .inr (.inl ⟨rfl, _, (List.Mem.tail _ (List.Mem.head _)), rfl, rfl, (fun _ _ h => h)⟩), .inr (.inl ⟨rfl, _, (List.Mem.tail _ (List.Mem.tail _ (List.Mem.head _))), rfl, rfl, (fun _ _ h => h)⟩), trivial⟩
    ⟨.inr ⟨(by kernel_rfl), _, (List.Mem.head _), rfl, (fun _ _ h => h)⟩, .inr ⟨(by kernel_rfl), _, (List.Mem.tail _ (List.Mem.head _)), rfl, (fun _ _ h => h)⟩, .inl ⟨(by kernel_rfl), rfl, (fun _ _ h => h)⟩, trivial⟩
    (steps (m := 2) (by kernel_rfl) ⟨stepN (i := 0) (dst := some 5) (op := (.fieldAddr 33 (.tmp 3) 1)) (by kernel_rfl) (fieldV (off := 1) (sz := 1) (List.Mem.tail _ (List.Mem.head _)) (by kernel_rfl) (fun _ _ h => h)),
      stepN (i := 1) (dst := some 6) (op := (.load 4 (.tmp 5))) (by kernel_rfl) (loadP (r := (isE (.bool (decide (n < 0))))) (by kernel_rfl) (fun _ _ h => h) (List.Mem.tail _ (List.Mem.head _)) (by kernel_rfl) (by kernel_rfl) rfl fldVB (fun _ _ h => h)), trivial⟩) ?_
  clear hS kf a
  try clear w
  intro kf a w hS
  refine cond_true (q := (isE (.bool (decide (n < 0))))) hS (List.Mem.tail _ (List.Mem.tail _ (List.Mem.head _))) (fun _ _ h => h.trans (congrArg _ (decide_eq_true hn))) ?_
  refine region_then (s := soft) (kf0 := kf) (by kernel_rfl) hS (Rg.look [(7, (isV z k)),
      (8, (isV (-z) k))])
    ⟨[], [(2, 2, 8, 33)]⟩ [⟨4, 35, isX⟩, ⟨3, 33, (isV n j)⟩, ⟨2, 33, (isV (-z) k)⟩] [(0, (isV z k)), (1, (isV n j)), (6, (isE (.bool (decide (n < 0)))))] (by kernel_rfl) (by kernel_rfl) (look_stb _ ⟨(stb_V _ _), (stb_V _ _), trivial⟩) ⟨stb_true, (stb_V _ _), (stb_V _ _), trivial⟩ ⟨(stb_V _ _), (stb_V _ _), (stb_eq _), trivial⟩ trivial ⟨shV, trivial⟩
    ⟨.inr (.inl ⟨rfl, _, (List.Mem.head _), rfl, rfl, (fun _ _ h => h)⟩), .inr (.inl ⟨rfl, _, (List.Mem.tail _ (List.Mem.head _)), rfl, rfl, (fun _ _ h => h)⟩), .inl ⟨_, (List.Mem.head _), rfl, rfl, (fun _ _ h => h)⟩, trivial⟩
    ⟨.inr ⟨(by kernel_rfl), _, (List.Mem.head _), rfl, (fun _ _ h => h)⟩, .inr ⟨(by kernel_rfl), _, (List.Mem.tail _ (List.Mem.head _)), rfl, (fun _ _ h => h)⟩, .inr ⟨(by kernel_rfl), _, (List.Mem.tail _ (List.Mem.tail _ (List.Mem.head _))), rfl, (fun _ _ h => h)⟩, trivial⟩
    (steps (m := 3) (by kernel_rfl) ⟨stepN (i := 0) (dst := some 7) (op := (.load 33 (.tmp 2))) (by kernel_rfl) (loadV (List.Mem.tail _ (List.Mem.tail _ (List.Mem.head _))) (by kernel_rfl) (fun _ _ h => h)),
      stepN (i := 1) (dst := some 8) (op := (.call { callee := .value (.func 57), args := #[(.tmp 7)], argTypes := #[33] })) (by kernel_rfl) (call1 (enters_of Tryz.func57 (by kernel_rfl) rfl) (argT (p := (isV z k)) (by kernel_rfl) (fun _ _ h => h)) (fun w u1 h1 => negV h1) (fun _ _ h => h)),
      isStore rfl, trivial⟩) ?_
  clear hS kf a
  try clear w
  intro kf a w hS
  refine region_seq (s := soft) (kf0 := kf) (by kernel_rfl) hS (Rg.look [(9, (isV (-z) k)),
      (10, (isE (.pointer (some ⟨kf 3, 0, none⟩)))),
      (11, (isD (Int.natAbs n) j)),
      (12, (isR (mkRat (-z) (Int.natAbs n)) (max k j)))])
    ⟨[], [(4, 4, 12, 35)]⟩ [⟨4, 35, (isR (mkRat (-z) (Int.natAbs n)) (max k j))⟩, ⟨3, 33, (isV n j)⟩, ⟨2, 33, (isV (-z) k)⟩] [(0, (isV z k)), (1, (isV n j)), (6, (isE (.bool (decide (n < 0)))))] (by kernel_rfl) (by kernel_rfl) (look_stb _ ⟨(stb_V _ _), (stb_eq _), (stb_D _ _), (stb_R _ _), trivial⟩) ⟨stb_true, (stb_V _ _), (stb_V _ _), trivial⟩ ⟨(stb_V _ _), (stb_V _ _), (stb_eq _), trivial⟩ trivial ⟨shR, trivial⟩
    ⟨.inl ⟨_, (List.Mem.head _), rfl, rfl, (fun _ _ h => h)⟩, .inr (.inl ⟨rfl, _, (List.Mem.tail _ (List.Mem.head _)), rfl, rfl, (fun _ _ h => h)⟩), .inr (.inl ⟨rfl, _, (List.Mem.tail _ (List.Mem.tail _ (List.Mem.head _))), rfl, rfl, (fun _ _ h => h)⟩), trivial⟩
    ⟨.inr ⟨(by kernel_rfl), _, (List.Mem.head _), rfl, (fun _ _ h => h)⟩, .inr ⟨(by kernel_rfl), _, (List.Mem.tail _ (List.Mem.head _)), rfl, (fun _ _ h => h)⟩, .inr ⟨(by kernel_rfl), _, (List.Mem.tail _ (List.Mem.tail _ (List.Mem.head _))), rfl, (fun _ _ h => h)⟩, trivial⟩
    (steps (m := 5) (by kernel_rfl) ⟨stepN (i := 0) (dst := some 9) (op := (.load 33 (.tmp 2))) (by kernel_rfl) (loadV (List.Mem.tail _ (List.Mem.tail _ (List.Mem.head _))) (by kernel_rfl) (fun _ _ h => h)),
      stepN (i := 1) (dst := some 10) (op := (.fieldAddr 33 (.tmp 3) 0)) (by kernel_rfl) (fieldV (off := 0) (sz := 1) (List.Mem.tail _ (List.Mem.head _)) (by kernel_rfl) (fun _ _ h => h)),
      stepN (i := 2) (dst := some 11) (op := (.load 31 (.tmp 10))) (by kernel_rfl) (loadP (r := (isD (Int.natAbs n) j)) (by kernel_rfl) (fun _ _ h => h) (List.Mem.tail _ (List.Mem.head _)) (by kernel_rfl) (by kernel_rfl) rfl fldVD (fun _ _ h => h)),
      stepN (i := 3) (dst := some 12) (op := (.call { callee := .value (.func 41), args := #[(.tmp 9), (.tmp 11)], argTypes := #[33, 31] })) (by kernel_rfl) (call2 (enters_of Tryz.func41 (by kernel_rfl) rfl) (argT (p := (isV (-z) k)) (by kernel_rfl) (fun _ _ h => h)) (argT (p := (isD (Int.natAbs n) j)) (by kernel_rfl) (fun _ _ h => h)) (fun w u1 u2 h1 h2 => make_r h1 h2 (by omega) (by omega) (by omega)) (fun _ _ h => h)),
      isStore rfl, trivial⟩) ?_
  clear hS kf a
  try clear w
  intro kf a w hS
  exact wp_ret (ret_c (q := (isR (mkRat (-z) (Int.natAbs n)) (max k j))) (by kernel_rfl) hS (List.Mem.head _) (fun v h => ⟨v, rfl, (IsR.eq h (of_rat_neg_eq hn).symm), hS.grow⟩))
set_option maxRecDepth 100000 in
set_option maxHeartbeats 4000000 in
theorem of_r2 {w : World} {v0 v1 : Value} {z n : Int} {k j : Nat} (h0 : (isV z k) w v0) (h1 : (isV n j) w v1) (hk : k ≤ 100000) (hj : j ≤ 100000) (hn : 0 < n) : Calls Tryz.prog 46 #[v0, v1] w (Ret w fun v w' => (isR (((z : Int) : Rat) / ((n : Int) : Rat)) (max k j)) w' v) := by
  refine enter (s := soft) (n := 13) (c := (.seq (.region 0 (regionOps Tryz.f46 0) false) (.seq (.seq (.region 1 (regionOps Tryz.f46 1) false) (.cond (.tmp 6) (.region 2 (regionOps Tryz.f46 2) false) .skip)) (.seq (.region 3 (regionOps Tryz.f46 3) false) .ret)))) Tryz.func46 (by kernel_rfl) (by kernel_rfl) (by simp) [(0, (isV z k)), (1, (isV n j))] ⟨⟨by simp, h0⟩, ⟨by simp, h1⟩, trivial⟩ ?_
  intro kf a hS
  refine plain_seq (m := 3) (by kernel_rfl) ?_
  refine box0 (p := 2) (y := 0) (t := 33) (q := (isV z k)) hS (by kernel_rfl) rfl rfl rfl (List.Mem.head _) shV trivial ⟨(stb_V _ _), (stb_V _ _), trivial⟩ ?_
  clear hS kf a
  try clear w
  intro kf a w hS
  refine box0 (p := 3) (y := 1) (t := 33) (q := (isV n j)) hS (by kernel_rfl) rfl rfl rfl (List.Mem.tail _ (List.Mem.head _)) shV ⟨(stb_V _ _), trivial⟩ ⟨(stb_V _ _), (stb_V _ _), trivial⟩ ?_
  clear hS kf a
  try clear w
  intro kf a w hS
  refine alloc0 (p := 4) (t := 35) hS (by kernel_rfl) rfl rfl rfl (by kernel_rfl) ⟨(stb_V _ _), (stb_V _ _), trivial⟩ ⟨(stb_V _ _), (stb_V _ _), trivial⟩ ?_
  clear hS kf a
  try clear w
  intro kf a w hS
  refine plain_end ?_
  refine wp_seq ?_
  refine region_seq (s := soft) (kf0 := kf) (by kernel_rfl) hS (Rg.look [(5, (isE (.pointer (some ⟨kf 3, 1, none⟩)))),
      (6, (isE (.bool (decide (n < 0)))))])
    ⟨[], []⟩ [⟨4, 35, isX⟩, ⟨3, 33, (isV n j)⟩, ⟨2, 33, (isV z k)⟩] [(0, (isV z k)), (1, (isV n j)), (6, (isE (.bool (decide (n < 0)))))] (by kernel_rfl) (by kernel_rfl) (look_stb _ ⟨(stb_eq _), (stb_eq _), trivial⟩) ⟨stb_true, (stb_V _ _), (stb_V _ _), trivial⟩ ⟨(stb_V _ _), (stb_V _ _), trivial⟩ trivial trivial
    ⟨.inr (.inl ⟨rfl, _, (List.Mem.head _), rfl, rfl, (fun _ _ h => h)⟩), .inr (.inl ⟨rfl, _, (List.Mem.tail _ (List.Mem.head _)), rfl, rfl, (fun _ _ h => h)⟩), .inr (.inl ⟨rfl, _, (List.Mem.tail _ (List.Mem.tail _ (List.Mem.head _))), rfl, rfl, (fun _ _ h => h)⟩), trivial⟩
    ⟨.inr ⟨(by kernel_rfl), _, (List.Mem.head _), rfl, (fun _ _ h => h)⟩, .inr ⟨(by kernel_rfl), _, (List.Mem.tail _ (List.Mem.head _)), rfl, (fun _ _ h => h)⟩, .inl ⟨(by kernel_rfl), rfl, (fun _ _ h => h)⟩, trivial⟩
    (steps (m := 2) (by kernel_rfl) ⟨stepN (i := 0) (dst := some 5) (op := (.fieldAddr 33 (.tmp 3) 1)) (by kernel_rfl) (fieldV (off := 1) (sz := 1) (List.Mem.tail _ (List.Mem.head _)) (by kernel_rfl) (fun _ _ h => h)),
      stepN (i := 1) (dst := some 6) (op := (.load 4 (.tmp 5))) (by kernel_rfl) (loadP (r := (isE (.bool (decide (n < 0))))) (by kernel_rfl) (fun _ _ h => h) (List.Mem.tail _ (List.Mem.head _)) (by kernel_rfl) (by kernel_rfl) rfl fldVB (fun _ _ h => h)), trivial⟩) ?_
  clear hS kf a
  try clear w
  intro kf a w hS
  refine cond_false (q := (isE (.bool (decide (n < 0))))) hS (List.Mem.tail _ (List.Mem.tail _ (List.Mem.head _))) (fun _ _ h => h.trans (congrArg _ (decide_eq_false (by omega)))) ?_
  refine skip_then ?_
  refine region_seq (s := soft) (kf0 := kf) (by kernel_rfl) hS (Rg.look [(9, (isV z k)),
      (10, (isE (.pointer (some ⟨kf 3, 0, none⟩)))),
      (11, (isD (Int.natAbs n) j)),
      (12, (isR (mkRat z (Int.natAbs n)) (max k j)))])
    ⟨[], [(4, 4, 12, 35)]⟩ [⟨4, 35, (isR (mkRat z (Int.natAbs n)) (max k j))⟩, ⟨3, 33, (isV n j)⟩, ⟨2, 33, (isV z k)⟩] [(0, (isV z k)), (1, (isV n j)), (6, (isE (.bool (decide (n < 0)))))] (by kernel_rfl) (by kernel_rfl) (look_stb _ ⟨(stb_V _ _), (stb_eq _), (stb_D _ _), (stb_R _ _), trivial⟩) ⟨stb_true, (stb_V _ _), (stb_V _ _), trivial⟩ ⟨(stb_V _ _), (stb_V _ _), (stb_eq _), trivial⟩ trivial ⟨shR, trivial⟩
    ⟨.inl ⟨_, (List.Mem.head _), rfl, rfl, (fun _ _ h => h)⟩, .inr (.inl ⟨rfl, _, (List.Mem.tail _ (List.Mem.head _)), rfl, rfl, (fun _ _ h => h)⟩), .inr (.inl ⟨rfl, _, (List.Mem.tail _ (List.Mem.tail _ (List.Mem.head _))), rfl, rfl, (fun _ _ h => h)⟩), trivial⟩
    ⟨.inr ⟨(by kernel_rfl), _, (List.Mem.head _), rfl, (fun _ _ h => h)⟩, .inr ⟨(by kernel_rfl), _, (List.Mem.tail _ (List.Mem.head _)), rfl, (fun _ _ h => h)⟩, .inr ⟨(by kernel_rfl), _, (List.Mem.tail _ (List.Mem.tail _ (List.Mem.head _))), rfl, (fun _ _ h => h)⟩, trivial⟩
    (steps (m := 5) (by kernel_rfl) ⟨stepN (i := 0) (dst := some 9) (op := (.load 33 (.tmp 2))) (by kernel_rfl) (loadV (List.Mem.tail _ (List.Mem.tail _ (List.Mem.head _))) (by kernel_rfl) (fun _ _ h => h)),
      stepN (i := 1) (dst := some 10) (op := (.fieldAddr 33 (.tmp 3) 0)) (by kernel_rfl) (fieldV (off := 0) (sz := 1) (List.Mem.tail _ (List.Mem.head _)) (by kernel_rfl) (fun _ _ h => h)),
      stepN (i := 2) (dst := some 11) (op := (.load 31 (.tmp 10))) (by kernel_rfl) (loadP (r := (isD (Int.natAbs n) j)) (by kernel_rfl) (fun _ _ h => h) (List.Mem.tail _ (List.Mem.head _)) (by kernel_rfl) (by kernel_rfl) rfl fldVD (fun _ _ h => h)),
      stepN (i := 3) (dst := some 12) (op := (.call { callee := .value (.func 41), args := #[(.tmp 9), (.tmp 11)], argTypes := #[33, 31] })) (by kernel_rfl) (call2 (enters_of Tryz.func41 (by kernel_rfl) rfl) (argT (p := (isV z k)) (by kernel_rfl) (fun _ _ h => h)) (argT (p := (isD (Int.natAbs n) j)) (by kernel_rfl) (fun _ _ h => h)) (fun w u1 u2 h1 h2 => make_r h1 h2 (by omega) (by omega) (by omega)) (fun _ _ h => h)),
      isStore rfl, trivial⟩) ?_
  clear hS kf a
  try clear w
  intro kf a w hS
  exact wp_ret (ret_c (q := (isR (mkRat z (Int.natAbs n)) (max k j))) (by kernel_rfl) hS (List.Mem.head _) (fun v h => ⟨v, rfl, (IsR.eq h (of_rat_pos_eq hn).symm), hS.grow⟩))
theorem of_r {w : World} {v0 v1 : Value} {z n : Int} {k j : Nat} (h0 : isV z k w v0) (h1 : isV n j w v1) (hk : k ≤ 100000) (hj : j ≤ 100000) (hn : n ≠ 0) : Calls Tryz.prog 46 #[v0, v1] w (Ret w fun v w' => isR (((z : Int) : Rat) / ((n : Int) : Rat)) (max k j) w' v) := by
  rcases Int.lt_or_gt_of_ne hn with h | h
  · exact of_r1 h0 h1 hk hj h
  · exact of_r2 h0 h1 hk hj h
set_option maxRecDepth 100000 in
set_option maxHeartbeats 4000000 in
theorem add_r {w : World} {v0 v1 : Value} {x y : Rat} {k j : Nat} (h0 : (isR x k) w v0) (h1 : (isR y j) w v1) (hk : k ≤ 10000) (hj : j ≤ 10000) : Calls Tryz.prog 13 #[v0, v1] w (Ret w fun v w' => (isR (x + y) (k + j + 2)) w' v) := by
  refine enter (s := soft) (n := 26) (c := (.seq (.region 0 (regionOps Tryz.f13 0) false) (.seq (.region 1 (regionOps Tryz.f13 1) false) (.seq (.region 2 (regionOps Tryz.f13 2) false) (.seq (.region 3 (regionOps Tryz.f13 3) false) (.seq (.region 4 (regionOps Tryz.f13 4) false) (.seq (.region 5 (regionOps Tryz.f13 5) false) .ret))))))) Tryz.func13 (by kernel_rfl) (by kernel_rfl) (by simp) [(0, (isR x k)), (1, (isR y j))] ⟨⟨by simp, h0⟩, ⟨by simp, h1⟩, trivial⟩ ?_
  intro kf a hS
  refine plain_seq (m := 3) (by kernel_rfl) ?_
  refine box0 (p := 2) (y := 0) (t := 35) (q := (isR x k)) hS (by kernel_rfl) rfl rfl rfl (List.Mem.head _) shR trivial ⟨(stb_R _ _), (stb_R _ _), trivial⟩ ?_
  clear hS kf a
  try clear w
  intro kf a w hS
  refine box0 (p := 3) (y := 1) (t := 35) (q := (isR y j)) hS (by kernel_rfl) rfl rfl rfl (List.Mem.tail _ (List.Mem.head _)) shR ⟨(stb_R _ _), trivial⟩ ⟨(stb_R _ _), (stb_R _ _), trivial⟩ ?_
  clear hS kf a
  try clear w
  intro kf a w hS
  refine alloc0 (p := 4) (t := 35) hS (by kernel_rfl) rfl rfl rfl (by kernel_rfl) ⟨(stb_R _ _), (stb_R _ _), trivial⟩ ⟨(stb_R _ _), (stb_R _ _), trivial⟩ ?_
  clear hS kf a
  try clear w
  intro kf a w hS
  refine plain_end ?_
  refine region_seq (s := soft) (kf0 := kf) (by kernel_rfl) hS (Rg.look [(9, (isR x k)),
      (10, (isR y j)),
      (11, (isV (x.num * (y.den : Nat)) (k + j + 1))),
      (5, isX)])
    ⟨[(3, 5, 33)], [(4, 5, 11, 33)]⟩ [⟨4, 35, isX⟩, ⟨3, 35, (isR y j)⟩, ⟨2, 35, (isR x k)⟩, ⟨5, 33, (isV (x.num * (y.den : Nat)) (k + j + 1))⟩] [(0, (isR x k)), (1, (isR y j))] (by kernel_rfl) (by kernel_rfl) (look_stb _ ⟨(stb_R _ _), (stb_R _ _), (stb_V _ _), stb_true, trivial⟩) ⟨stb_true, (stb_R _ _), (stb_R _ _), trivial⟩ ⟨(stb_R _ _), (stb_R _ _), trivial⟩ ⟨fun _ _ => trivial, trivial⟩ ⟨shV, trivial⟩
    ⟨.inr (.inl ⟨rfl, _, (List.Mem.head _), rfl, rfl, (fun _ _ h => h)⟩), .inr (.inl ⟨rfl, _, (List.Mem.tail _ (List.Mem.head _)), rfl, rfl, (fun _ _ h => h)⟩), .inr (.inl ⟨rfl, _, (List.Mem.tail _ (List.Mem.tail _ (List.Mem.head _))), rfl, rfl, (fun _ _ h => h)⟩), .inl ⟨_, (List.Mem.head _), rfl, rfl, (fun _ _ h => h)⟩, trivial⟩
    ⟨.inr ⟨(by kernel_rfl), _, (List.Mem.head _), rfl, (fun _ _ h => h)⟩, .inr ⟨(by kernel_rfl), _, (List.Mem.tail _ (List.Mem.head _)), rfl, (fun _ _ h => h)⟩, trivial⟩
    (steps (m := 5) (by kernel_rfl) ⟨stepN (i := 0) (dst := some 9) (op := (.load 35 (.tmp 2))) (by kernel_rfl) (loadV (List.Mem.tail _ (List.Mem.tail _ (List.Mem.head _))) (by kernel_rfl) (fun _ _ h => h)),
      stepN (i := 1) (dst := some 10) (op := (.load 35 (.tmp 3))) (by kernel_rfl) (loadV (List.Mem.tail _ (List.Mem.head _)) (by kernel_rfl) (fun _ _ h => h)),
      stepN (i := 2) (dst := some 11) (op := (.call { callee := .value (.func 44), args := #[(.tmp 9), (.tmp 10)], argTypes := #[35, 35] })) (by kernel_rfl) (call2 (enters_of Tryz.func44 (by kernel_rfl) rfl) (argT (p := (isR x k)) (by kernel_rfl) (fun _ _ h => h)) (argT (p := (isR y j)) (by kernel_rfl) (fun _ _ h => h)) (fun w u1 u2 h1 h2 => cross_r h1 h2 (by omega) (by omega)) (fun _ _ h => h)),
      isAlloc rfl,
      isStore rfl, trivial⟩) ?_
  clear hS kf a
  try clear w
  intro kf a w hS
  refine region_seq (s := soft) (kf0 := kf) (by kernel_rfl) hS (Rg.look [(12, (isR y j)),
      (13, (isR x k)),
      (14, (isV (y.num * (x.den : Nat)) (j + k + 1))),
      (6, isX)])
    ⟨[(3, 6, 33)], [(4, 6, 14, 33)]⟩ [⟨4, 35, isX⟩, ⟨3, 35, (isR y j)⟩, ⟨2, 35, (isR x k)⟩, ⟨5, 33, (isV (x.num * (y.den : Nat)) (k + j + 1))⟩, ⟨6, 33, (isV (y.num * (x.den : Nat)) (j + k + 1))⟩] [(0, (isR x k)), (1, (isR y j))] (by kernel_rfl) (by kernel_rfl) (look_stb _ ⟨(stb_R _ _), (stb_R _ _), (stb_V _ _), stb_true, trivial⟩) ⟨stb_true, (stb_R _ _), (stb_R _ _), (stb_V _ _), trivial⟩ ⟨(stb_R _ _), (stb_R _ _), trivial⟩ ⟨fun _ _ => trivial, trivial⟩ ⟨shV, trivial⟩
    ⟨.inr (.inl ⟨rfl, _, (List.Mem.head _), rfl, rfl, (fun _ _ h => h)⟩), .inr (.inl ⟨rfl, _, (List.Mem.tail _ (List.Mem.head _)), rfl, rfl, (fun _ _ h => h)⟩), .inr (.inl ⟨rfl, _, (List.Mem.tail _ (List.Mem.tail _ (List.Mem.head _))), rfl, rfl, (fun _ _ h => h)⟩), .inr (.inl ⟨rfl, _, (List.Mem.tail _ (List.Mem.tail _ (List.Mem.tail _ (List.Mem.head _)))), rfl, rfl, (fun _ _ h => h)⟩), .inl ⟨_, (List.Mem.head _), rfl, rfl, (fun _ _ h => h)⟩, trivial⟩
    ⟨.inr ⟨(by kernel_rfl), _, (List.Mem.head _), rfl, (fun _ _ h => h)⟩, .inr ⟨(by kernel_rfl), _, (List.Mem.tail _ (List.Mem.head _)), rfl, (fun _ _ h => h)⟩, trivial⟩
    (steps (m := 5) (by kernel_rfl) ⟨stepN (i := 0) (dst := some 12) (op := (.load 35 (.tmp 3))) (by kernel_rfl) (loadV (List.Mem.tail _ (List.Mem.head _)) (by kernel_rfl) (fun _ _ h => h)),
      stepN (i := 1) (dst := some 13) (op := (.load 35 (.tmp 2))) (by kernel_rfl) (loadV (List.Mem.tail _ (List.Mem.tail _ (List.Mem.head _))) (by kernel_rfl) (fun _ _ h => h)),
      stepN (i := 2) (dst := some 14) (op := (.call { callee := .value (.func 44), args := #[(.tmp 12), (.tmp 13)], argTypes := #[35, 35] })) (by kernel_rfl) (call2 (enters_of Tryz.func44 (by kernel_rfl) rfl) (argT (p := (isR y j)) (by kernel_rfl) (fun _ _ h => h)) (argT (p := (isR x k)) (by kernel_rfl) (fun _ _ h => h)) (fun w u1 u2 h1 h2 => cross_r h1 h2 (by omega) (by omega)) (fun _ _ h => h)),
      isAlloc rfl,
      isStore rfl, trivial⟩) ?_
  clear hS kf a
  try clear w
  intro kf a w hS
  refine region_seq (s := soft) (kf0 := kf) (by kernel_rfl) hS (Rg.look [(15, (isV (x.num * (y.den : Nat)) (k + j + 1))),
      (16, (isV (y.num * (x.den : Nat)) (j + k + 1))),
      (17, (isV ((x.num * (y.den : Nat)) + (y.num * (x.den : Nat))) (max (k + j + 1) (j + k + 1) + 1))),
      (7, isX)])
    ⟨[(3, 7, 33)], [(4, 7, 17, 33)]⟩ [⟨4, 35, isX⟩, ⟨3, 35, (isR y j)⟩, ⟨2, 35, (isR x k)⟩, ⟨5, 33, (isV (x.num * (y.den : Nat)) (k + j + 1))⟩, ⟨6, 33, (isV (y.num * (x.den : Nat)) (j + k + 1))⟩, ⟨7, 33, (isV ((x.num * (y.den : Nat)) + (y.num * (x.den : Nat))) (max (k + j + 1) (j + k + 1) + 1))⟩] [(0, (isR x k)), (1, (isR y j))] (by kernel_rfl) (by kernel_rfl) (look_stb _ ⟨(stb_V _ _), (stb_V _ _), (stb_V _ _), stb_true, trivial⟩) ⟨stb_true, (stb_R _ _), (stb_R _ _), (stb_V _ _), (stb_V _ _), trivial⟩ ⟨(stb_R _ _), (stb_R _ _), trivial⟩ ⟨fun _ _ => trivial, trivial⟩ ⟨shV, trivial⟩
    ⟨.inr (.inl ⟨rfl, _, (List.Mem.head _), rfl, rfl, (fun _ _ h => h)⟩), .inr (.inl ⟨rfl, _, (List.Mem.tail _ (List.Mem.head _)), rfl, rfl, (fun _ _ h => h)⟩), .inr (.inl ⟨rfl, _, (List.Mem.tail _ (List.Mem.tail _ (List.Mem.head _))), rfl, rfl, (fun _ _ h => h)⟩), .inr (.inl ⟨rfl, _, (List.Mem.tail _ (List.Mem.tail _ (List.Mem.tail _ (List.Mem.head _)))), rfl, rfl, (fun _ _ h => h)⟩), .inr (.inl ⟨rfl, _, (List.Mem.tail _ (List.Mem.tail _ (List.Mem.tail _ (List.Mem.tail _ (List.Mem.head _))))), rfl, rfl, (fun _ _ h => h)⟩), .inl ⟨_, (List.Mem.head _), rfl, rfl, (fun _ _ h => h)⟩, trivial⟩
    ⟨.inr ⟨(by kernel_rfl), _, (List.Mem.head _), rfl, (fun _ _ h => h)⟩, .inr ⟨(by kernel_rfl), _, (List.Mem.tail _ (List.Mem.head _)), rfl, (fun _ _ h => h)⟩, trivial⟩
    (steps (m := 5) (by kernel_rfl) ⟨stepN (i := 0) (dst := some 15) (op := (.load 33 (.tmp 5))) (by kernel_rfl) (loadV (List.Mem.tail _ (List.Mem.tail _ (List.Mem.tail _ (List.Mem.head _)))) (by kernel_rfl) (fun _ _ h => h)),
      stepN (i := 1) (dst := some 16) (op := (.load 33 (.tmp 6))) (by kernel_rfl) (loadV (List.Mem.tail _ (List.Mem.tail _ (List.Mem.tail _ (List.Mem.tail _ (List.Mem.head _))))) (by kernel_rfl) (fun _ _ h => h)),
      stepN (i := 2) (dst := some 17) (op := (.call { callee := .value (.func 52), args := #[(.tmp 15), (.tmp 16)], argTypes := #[33, 33] })) (by kernel_rfl) (call2 (enters_of Tryz.func52 (by kernel_rfl) rfl) (argT (p := (isV (x.num * (y.den : Nat)) (k + j + 1))) (by kernel_rfl) (fun _ _ h => h)) (argT (p := (isV (y.num * (x.den : Nat)) (j + k + 1))) (by kernel_rfl) (fun _ _ h => h)) (fun w u1 u2 h1 h2 => addV h1 h2 (by omega) (by omega)) (fun _ _ h => h)),
      isAlloc rfl,
      isStore rfl, trivial⟩) ?_
  clear hS kf a
  try clear w
  intro kf a w hS
  refine region_seq (s := soft) (kf0 := kf) (by kernel_rfl) hS (Rg.look [(18, (isE (.pointer (some ⟨kf 2, 2, none⟩)))),
      (19, (isD x.den k)),
      (20, (isE (.pointer (some ⟨kf 3, 2, none⟩)))),
      (21, (isD y.den j)),
      (22, (isD (x.den * y.den) (k + j + 1))),
      (8, (isD (x.den * y.den) (k + j + 1)))])
    ⟨[], []⟩ [⟨4, 35, isX⟩, ⟨3, 35, (isR y j)⟩, ⟨2, 35, (isR x k)⟩, ⟨5, 33, (isV (x.num * (y.den : Nat)) (k + j + 1))⟩, ⟨6, 33, (isV (y.num * (x.den : Nat)) (j + k + 1))⟩, ⟨7, 33, (isV ((x.num * (y.den : Nat)) + (y.num * (x.den : Nat))) (max (k + j + 1) (j + k + 1) + 1))⟩] [(0, (isR x k)), (1, (isR y j)), (8, (isD (x.den * y.den) (k + j + 1)))] (by kernel_rfl) (by kernel_rfl) (look_stb _ ⟨(stb_eq _), (stb_D _ _), (stb_eq _), (stb_D _ _), (stb_D _ _), (stb_D _ _), trivial⟩) ⟨stb_true, (stb_R _ _), (stb_R _ _), (stb_V _ _), (stb_V _ _), (stb_V _ _), trivial⟩ ⟨(stb_R _ _), (stb_R _ _), trivial⟩ trivial trivial
    ⟨.inr (.inl ⟨rfl, _, (List.Mem.head _), rfl, rfl, (fun _ _ h => h)⟩), .inr (.inl ⟨rfl, _, (List.Mem.tail _ (List.Mem.head _)), rfl, rfl, (fun _ _ h => h)⟩), .inr (.inl ⟨rfl, _, (List.Mem.tail _ (List.Mem.tail _ (List.Mem.head _))), rfl, rfl, (fun _ _ h => h)⟩), .inr (.inl ⟨rfl, _, (List.Mem.tail _ (List.Mem.tail _ (List.Mem.tail _ (List.Mem.head _)))), rfl, rfl, (fun _ _ h => h)⟩), .inr (.inl ⟨rfl, _, (List.Mem.tail _ (List.Mem.tail _ (List.Mem.tail _ (List.Mem.tail _ (List.Mem.head _))))), rfl, rfl, (fun _ _ h => h)⟩), .inr (.inl ⟨rfl, _, (List.Mem.tail _ (List.Mem.tail _ (List.Mem.tail _ (List.Mem.tail _ (List.Mem.tail _ (List.Mem.head _)))))), rfl, rfl, (fun _ _ h => h)⟩), trivial⟩
    ⟨.inr ⟨(by kernel_rfl), _, (List.Mem.head _), rfl, (fun _ _ h => h)⟩, .inr ⟨(by kernel_rfl), _, (List.Mem.tail _ (List.Mem.head _)), rfl, (fun _ _ h => h)⟩, .inl ⟨(by kernel_rfl), rfl, (fun _ _ h => h)⟩, trivial⟩
    (steps (m := 6) (by kernel_rfl) ⟨stepN (i := 0) (dst := some 18) (op := (.fieldAddr 35 (.tmp 2) 1)) (by kernel_rfl) (fieldV (off := 2) (sz := 1) (List.Mem.tail _ (List.Mem.tail _ (List.Mem.head _))) (by kernel_rfl) (fun _ _ h => h)),
      stepN (i := 1) (dst := some 19) (op := (.load 31 (.tmp 18))) (by kernel_rfl) (loadP (r := (isD x.den k)) (by kernel_rfl) (fun _ _ h => h) (List.Mem.tail _ (List.Mem.tail _ (List.Mem.head _))) (by kernel_rfl) (by kernel_rfl) rfl fldRD (fun _ _ h => h)),
      stepN (i := 2) (dst := some 20) (op := (.fieldAddr 35 (.tmp 3) 1)) (by kernel_rfl) (fieldV (off := 2) (sz := 1) (List.Mem.tail _ (List.Mem.head _)) (by kernel_rfl) (fun _ _ h => h)),
      stepN (i := 3) (dst := some 21) (op := (.load 31 (.tmp 20))) (by kernel_rfl) (loadP (r := (isD y.den j)) (by kernel_rfl) (fun _ _ h => h) (List.Mem.tail _ (List.Mem.head _)) (by kernel_rfl) (by kernel_rfl) rfl fldRD (fun _ _ h => h)),
      stepN (i := 4) (dst := some 22) (op := (.call { callee := .value (.func 53), args := #[(.tmp 19), (.tmp 21)], argTypes := #[31, 31] })) (by kernel_rfl) (call2 (enters_of Tryz.func53 (by kernel_rfl) rfl) (argT (p := (isD x.den k)) (by kernel_rfl) (fun _ _ h => h)) (argT (p := (isD y.den j)) (by kernel_rfl) (fun _ _ h => h)) (fun w u1 u2 h1 h2 => refMul_any _ _ _ _ _ _ _ (by omega) (by omega) h1 h2) (fun _ _ h => h)),
      stepN (i := 5) (dst := some 8) (op := (.assign (.tmp 22))) (by kernel_rfl) (assign (argT (p := (isD (x.den * y.den) (k + j + 1))) (by kernel_rfl) (fun _ _ h => h)) (fun _ _ h => h)), trivial⟩) ?_
  clear hS kf a
  try clear w
  intro kf a w hS
  refine region_seq (s := soft) (kf0 := kf) (by kernel_rfl) hS (Rg.look [(23, (isV ((x.num * (y.den : Nat)) + (y.num * (x.den : Nat))) (max (k + j + 1) (j + k + 1) + 1))),
      (24, (isD (x.den * y.den) (k + j + 1))),
      (25, (isR (mkRat ((x.num * (y.den : Nat)) + (y.num * (x.den : Nat))) (x.den * y.den)) (max (max (k + j + 1) (j + k + 1) + 1) (k + j + 1))))])
    ⟨[], [(3, 4, 25, 35)]⟩ [⟨4, 35, (isR (mkRat ((x.num * (y.den : Nat)) + (y.num * (x.den : Nat))) (x.den * y.den)) (max (max (k + j + 1) (j + k + 1) + 1) (k + j + 1)))⟩, ⟨3, 35, (isR y j)⟩, ⟨2, 35, (isR x k)⟩, ⟨5, 33, (isV (x.num * (y.den : Nat)) (k + j + 1))⟩, ⟨6, 33, (isV (y.num * (x.den : Nat)) (j + k + 1))⟩, ⟨7, 33, (isV ((x.num * (y.den : Nat)) + (y.num * (x.den : Nat))) (max (k + j + 1) (j + k + 1) + 1))⟩] [(0, (isR x k)), (1, (isR y j)), (8, (isD (x.den * y.den) (k + j + 1)))] (by kernel_rfl) (by kernel_rfl) (look_stb _ ⟨(stb_V _ _), (stb_D _ _), (stb_R _ _), trivial⟩) ⟨stb_true, (stb_R _ _), (stb_R _ _), (stb_V _ _), (stb_V _ _), (stb_V _ _), trivial⟩ ⟨(stb_R _ _), (stb_R _ _), (stb_D _ _), trivial⟩ trivial ⟨shR, trivial⟩
    ⟨.inl ⟨_, (List.Mem.head _), rfl, rfl, (fun _ _ h => h)⟩, .inr (.inl ⟨rfl, _, (List.Mem.tail _ (List.Mem.head _)), rfl, rfl, (fun _ _ h => h)⟩), .inr (.inl ⟨rfl, _, (List.Mem.tail _ (List.Mem.tail _ (List.Mem.head _))), rfl, rfl, (fun _ _ h => h)⟩), .inr (.inl ⟨rfl, _, (List.Mem.tail _ (List.Mem.tail _ (List.Mem.tail _ (List.Mem.head _)))), rfl, rfl, (fun _ _ h => h)⟩), .inr (.inl ⟨rfl, _, (List.Mem.tail _ (List.Mem.tail _ (List.Mem.tail _ (List.Mem.tail _ (List.Mem.head _))))), rfl, rfl, (fun _ _ h => h)⟩), .inr (.inl ⟨rfl, _, (List.Mem.tail _ (List.Mem.tail _ (List.Mem.tail _ (List.Mem.tail _ (List.Mem.tail _ (List.Mem.head _)))))), rfl, rfl, (fun _ _ h => h)⟩), trivial⟩
    ⟨.inr ⟨(by kernel_rfl), _, (List.Mem.head _), rfl, (fun _ _ h => h)⟩, .inr ⟨(by kernel_rfl), _, (List.Mem.tail _ (List.Mem.head _)), rfl, (fun _ _ h => h)⟩, .inr ⟨(by kernel_rfl), _, (List.Mem.tail _ (List.Mem.tail _ (List.Mem.head _))), rfl, (fun _ _ h => h)⟩, trivial⟩
    (steps (m := 4) (by kernel_rfl) ⟨stepN (i := 0) (dst := some 23) (op := (.load 33 (.tmp 7))) (by kernel_rfl) (loadV (List.Mem.tail _ (List.Mem.tail _ (List.Mem.tail _ (List.Mem.tail _ (List.Mem.tail _ (List.Mem.head _)))))) (by kernel_rfl) (fun _ _ h => h)),
      stepN (i := 1) (dst := some 24) (op := (.move (.tmp 8))) (by kernel_rfl) (move (argO (p := (isD (x.den * y.den) (k + j + 1))) (List.Mem.tail _ (List.Mem.tail _ (List.Mem.head _))) (by kernel_rfl)) (fun _ _ h => h)),
      stepN (i := 2) (dst := some 25) (op := (.call { callee := .value (.func 41), args := #[(.tmp 23), (.tmp 24)], argTypes := #[33, 31] })) (by kernel_rfl) (call2 (enters_of Tryz.func41 (by kernel_rfl) rfl) (argT (p := (isV ((x.num * (y.den : Nat)) + (y.num * (x.den : Nat))) (max (k + j + 1) (j + k + 1) + 1))) (by kernel_rfl) (fun _ _ h => h)) (argT (p := (isD (x.den * y.den) (k + j + 1))) (by kernel_rfl) (fun _ _ h => h)) (fun w u1 u2 h1 h2 => make_r h1 h2 (by omega) (by omega) (Nat.ne_of_gt (Nat.mul_pos x.den_pos y.den_pos))) (fun _ _ h => h)),
      isStore rfl, trivial⟩) ?_
  clear hS kf a
  try clear w
  intro kf a w hS
  exact wp_ret (ret_c (q := (isR (mkRat ((x.num * (y.den : Nat)) + (y.num * (x.den : Nat))) (x.den * y.den)) (max (max (k + j + 1) (j + k + 1) + 1) (k + j + 1)))) (by kernel_rfl) hS (List.Mem.head _) (fun v h => ⟨v, rfl, ((IsR.eq h (Rat.add_def' x y).symm).weak (by omega)), hS.grow⟩))
set_option maxRecDepth 100000 in
set_option maxHeartbeats 4000000 in
theorem neg_r {w : World} {v0 : Value} {q : Rat} {k : Nat} (h0 : (isR q k) w v0)  : Calls Tryz.prog 21 #[v0] w (Ret w fun v w' => (isR (-q) k) w' v) := by
  refine enter (s := soft) (n := 11) (c := (.seq (.region 0 (regionOps Tryz.f21 0) false) (.seq (.region 1 (regionOps Tryz.f21 1) false) (.seq (.region 2 (regionOps Tryz.f21 2) false) .ret)))) Tryz.func21 (by kernel_rfl) (by kernel_rfl) (by simp) [(0, (isR q k))] ⟨⟨by simp, h0⟩, trivial⟩ ?_
  intro kf a hS
  refine plain_seq (m := 2) (by kernel_rfl) ?_
  refine box0 (p := 1) (y := 0) (t := 35) (q := (isR q k)) hS (by kernel_rfl) rfl rfl rfl (List.Mem.head _) shR trivial ⟨(stb_R _ _), trivial⟩ ?_
  clear hS kf a
  try clear w
  intro kf a w hS
  refine alloc0 (p := 2) (t := 35) hS (by kernel_rfl) rfl rfl rfl (by kernel_rfl) ⟨(stb_R _ _), trivial⟩ ⟨(stb_R _ _), trivial⟩ ?_
  clear hS kf a
  try clear w
  intro kf a w hS
  refine plain_end ?_
  refine region_seq (s := soft) (kf0 := kf) (by kernel_rfl) hS (Rg.look [(4, (isE (.pointer (some ⟨kf 1, 0, none⟩)))),
      (5, (isV q.num k)),
      (6, (isV (-q.num) k)),
      (3, isX)])
    ⟨[(3, 3, 33)], [(4, 3, 6, 33)]⟩ [⟨2, 35, isX⟩, ⟨1, 35, (isR q k)⟩, ⟨3, 33, (isV (-q.num) k)⟩] [(0, (isR q k))] (by kernel_rfl) (by kernel_rfl) (look_stb _ ⟨(stb_eq _), (stb_V _ _), (stb_V _ _), stb_true, trivial⟩) ⟨stb_true, (stb_R _ _), trivial⟩ ⟨(stb_R _ _), trivial⟩ ⟨fun _ _ => trivial, trivial⟩ ⟨shV, trivial⟩
    ⟨.inr (.inl ⟨rfl, _, (List.Mem.head _), rfl, rfl, (fun _ _ h => h)⟩), .inr (.inl ⟨rfl, _, (List.Mem.tail _ (List.Mem.head _)), rfl, rfl, (fun _ _ h => h)⟩), .inl ⟨_, (List.Mem.head _), rfl, rfl, (fun _ _ h => h)⟩, trivial⟩
    ⟨.inr ⟨(by kernel_rfl), _, (List.Mem.head _), rfl, (fun _ _ h => h)⟩, trivial⟩
    (steps (m := 5) (by kernel_rfl) ⟨stepN (i := 0) (dst := some 4) (op := (.fieldAddr 35 (.tmp 1) 0)) (by kernel_rfl) (fieldV (off := 0) (sz := 2) (List.Mem.tail _ (List.Mem.head _)) (by kernel_rfl) (fun _ _ h => h)),
      stepN (i := 1) (dst := some 5) (op := (.load 33 (.tmp 4))) (by kernel_rfl) (loadF (sz := 2) (r := (isV q.num k)) (by kernel_rfl) (fun _ _ h => h) (List.Mem.tail _ (List.Mem.head _)) (by kernel_rfl) (by kernel_rfl) (by kernel_rfl) rfl fldRV (fun _ _ h => h)),
      stepN (i := 2) (dst := some 6) (op := (.call { callee := .value (.func 57), args := #[(.tmp 5)], argTypes := #[33] })) (by kernel_rfl) (call1 (enters_of Tryz.func57 (by kernel_rfl) rfl) (argT (p := (isV q.num k)) (by kernel_rfl) (fun _ _ h => h)) (fun w u1 h1 => negV h1) (fun _ _ h => h)),
      isAlloc rfl,
      isStore rfl, trivial⟩) ?_
  clear hS kf a
  try clear w
  intro kf a w hS
  refine region_seq (s := soft) (kf0 := kf) (by kernel_rfl) hS (Rg.look [(7, (isV (-q.num) k)),
      (8, (isE (.pointer (some ⟨kf 1, 2, none⟩)))),
      (9, (isD q.den k)),
      (10, (isG (-q.num) q.den k))])
    ⟨[], [(4, 2, 10, 35)]⟩ [⟨2, 35, (isG (-q.num) q.den k)⟩, ⟨1, 35, (isR q k)⟩, ⟨3, 33, (isV (-q.num) k)⟩] [(0, (isR q k))] (by kernel_rfl) (by kernel_rfl) (look_stb _ ⟨(stb_V _ _), (stb_eq _), (stb_D _ _), (stb_G _ _ _), trivial⟩) ⟨stb_true, (stb_R _ _), (stb_V _ _), trivial⟩ ⟨(stb_R _ _), trivial⟩ trivial ⟨shG, trivial⟩
    ⟨.inl ⟨_, (List.Mem.head _), rfl, rfl, (fun _ _ h => h)⟩, .inr (.inl ⟨rfl, _, (List.Mem.tail _ (List.Mem.head _)), rfl, rfl, (fun _ _ h => h)⟩), .inr (.inl ⟨rfl, _, (List.Mem.tail _ (List.Mem.tail _ (List.Mem.head _))), rfl, rfl, (fun _ _ h => h)⟩), trivial⟩
    ⟨.inr ⟨(by kernel_rfl), _, (List.Mem.head _), rfl, (fun _ _ h => h)⟩, trivial⟩
    (steps (m := 5) (by kernel_rfl) ⟨stepN (i := 0) (dst := some 7) (op := (.load 33 (.tmp 3))) (by kernel_rfl) (loadV (List.Mem.tail _ (List.Mem.tail _ (List.Mem.head _))) (by kernel_rfl) (fun _ _ h => h)),
      stepN (i := 1) (dst := some 8) (op := (.fieldAddr 35 (.tmp 1) 1)) (by kernel_rfl) (fieldV (off := 2) (sz := 1) (List.Mem.tail _ (List.Mem.head _)) (by kernel_rfl) (fun _ _ h => h)),
      stepN (i := 2) (dst := some 9) (op := (.load 31 (.tmp 8))) (by kernel_rfl) (loadP (r := (isD q.den k)) (by kernel_rfl) (fun _ _ h => h) (List.Mem.tail _ (List.Mem.head _)) (by kernel_rfl) (by kernel_rfl) rfl fldRD (fun _ _ h => h)),
      stepN (i := 3) (dst := some 10) (op := (.build 35 #[(0, (.tmp 7)), (1, (.tmp 9))])) (by kernel_rfl) (buildG (m := k) (argT (p := (isV (-q.num) k)) (by kernel_rfl) (fun _ _ h => h)) (argT (p := (isD q.den k)) (by kernel_rfl) (fun _ _ h => h)) (by omega) (by omega) (fun _ _ h => h)),
      isStore rfl, trivial⟩) ?_
  clear hS kf a
  try clear w
  intro kf a w hS
  exact wp_ret (ret_c (q := (isG (-q.num) q.den k)) (by kernel_rfl) hS (List.Mem.head _) (fun v h => ⟨v, rfl, (IsG.r h ⟨rfl, rfl⟩ (by omega)), hS.grow⟩))
set_option maxRecDepth 100000 in
set_option maxHeartbeats 4000000 in
theorem sub_r {w : World} {v0 v1 : Value} {x y : Rat} {k j : Nat} (h0 : (isR x k) w v0) (h1 : (isR y j) w v1) (hk : k ≤ 10000) (hj : j ≤ 10000) : Calls Tryz.prog 15 #[v0, v1] w (Ret w fun v w' => (isR (x - y) (k + j + 2)) w' v) := by
  refine enter (s := soft) (n := 11) (c := (.seq (.region 0 (regionOps Tryz.f15 0) false) (.seq (.region 1 (regionOps Tryz.f15 1) false) (.seq (.region 2 (regionOps Tryz.f15 2) false) .ret)))) Tryz.func15 (by kernel_rfl) (by kernel_rfl) (by simp) [(0, (isR x k)), (1, (isR y j))] ⟨⟨by simp, h0⟩, ⟨by simp, h1⟩, trivial⟩ ?_
  intro kf a hS
  refine plain_seq (m := 3) (by kernel_rfl) ?_
  refine box0 (p := 2) (y := 0) (t := 35) (q := (isR x k)) hS (by kernel_rfl) rfl rfl rfl (List.Mem.head _) shR trivial ⟨(stb_R _ _), (stb_R _ _), trivial⟩ ?_
  clear hS kf a
  try clear w
  intro kf a w hS
  refine box0 (p := 3) (y := 1) (t := 35) (q := (isR y j)) hS (by kernel_rfl) rfl rfl rfl (List.Mem.tail _ (List.Mem.head _)) shR ⟨(stb_R _ _), trivial⟩ ⟨(stb_R _ _), (stb_R _ _), trivial⟩ ?_
  clear hS kf a
  try clear w
  intro kf a w hS
  refine alloc0 (p := 4) (t := 35) hS (by kernel_rfl) rfl rfl rfl (by kernel_rfl) ⟨(stb_R _ _), (stb_R _ _), trivial⟩ ⟨(stb_R _ _), (stb_R _ _), trivial⟩ ?_
  clear hS kf a
  try clear w
  intro kf a w hS
  refine plain_end ?_
  refine region_seq (s := soft) (kf0 := kf) (by kernel_rfl) hS (Rg.look [(6, (isR y j)),
      (7, (isR (-y) j)),
      (5, isX)])
    ⟨[(2, 5, 35)], [(3, 5, 7, 35)]⟩ [⟨4, 35, isX⟩, ⟨3, 35, (isR y j)⟩, ⟨2, 35, (isR x k)⟩, ⟨5, 35, (isR (-y) j)⟩] [(0, (isR x k)), (1, (isR y j))] (by kernel_rfl) (by kernel_rfl) (look_stb _ ⟨(stb_R _ _), (stb_R _ _), stb_true, trivial⟩) ⟨stb_true, (stb_R _ _), (stb_R _ _), trivial⟩ ⟨(stb_R _ _), (stb_R _ _), trivial⟩ ⟨fun _ _ => trivial, trivial⟩ ⟨shR, trivial⟩
    ⟨.inr (.inl ⟨rfl, _, (List.Mem.head _), rfl, rfl, (fun _ _ h => h)⟩), .inr (.inl ⟨rfl, _, (List.Mem.tail _ (List.Mem.head _)), rfl, rfl, (fun _ _ h => h)⟩), .inr (.inl ⟨rfl, _, (List.Mem.tail _ (List.Mem.tail _ (List.Mem.head _))), rfl, rfl, (fun _ _ h => h)⟩), .inl ⟨_, (List.Mem.head _), rfl, rfl, (fun _ _ h => h)⟩, trivial⟩
    ⟨.inr ⟨(by kernel_rfl), _, (List.Mem.head _), rfl, (fun _ _ h => h)⟩, .inr ⟨(by kernel_rfl), _, (List.Mem.tail _ (List.Mem.head _)), rfl, (fun _ _ h => h)⟩, trivial⟩
    (steps (m := 4) (by kernel_rfl) ⟨stepN (i := 0) (dst := some 6) (op := (.load 35 (.tmp 3))) (by kernel_rfl) (loadV (List.Mem.tail _ (List.Mem.head _)) (by kernel_rfl) (fun _ _ h => h)),
      stepN (i := 1) (dst := some 7) (op := (.call { callee := .value (.func 21), args := #[(.tmp 6)], argTypes := #[35] })) (by kernel_rfl) (call1 (enters_of Tryz.func21 (by kernel_rfl) rfl) (argT (p := (isR y j)) (by kernel_rfl) (fun _ _ h => h)) (fun w u1 h1 => neg_r h1) (fun _ _ h => h)),
      isAlloc rfl,
      isStore rfl, trivial⟩) ?_
  clear hS kf a
  try clear w
  intro kf a w hS
  refine region_seq (s := soft) (kf0 := kf) (by kernel_rfl) hS (Rg.look [(8, (isR x k)),
      (9, (isR (-y) j)),
      (10, (isR (x + (-y)) (k + j + 2)))])
    ⟨[], [(3, 4, 10, 35)]⟩ [⟨4, 35, (isR (x + (-y)) (k + j + 2))⟩, ⟨3, 35, (isR y j)⟩, ⟨2, 35, (isR x k)⟩, ⟨5, 35, (isR (-y) j)⟩] [(0, (isR x k)), (1, (isR y j))] (by kernel_rfl) (by kernel_rfl) (look_stb _ ⟨(stb_R _ _), (stb_R _ _), (stb_R _ _), trivial⟩) ⟨stb_true, (stb_R _ _), (stb_R _ _), (stb_R _ _), trivial⟩ ⟨(stb_R _ _), (stb_R _ _), trivial⟩ trivial ⟨shR, trivial⟩
    ⟨.inl ⟨_, (List.Mem.head _), rfl, rfl, (fun _ _ h => h)⟩, .inr (.inl ⟨rfl, _, (List.Mem.tail _ (List.Mem.head _)), rfl, rfl, (fun _ _ h => h)⟩), .inr (.inl ⟨rfl, _, (List.Mem.tail _ (List.Mem.tail _ (List.Mem.head _))), rfl, rfl, (fun _ _ h => h)⟩), .inr (.inl ⟨rfl, _, (List.Mem.tail _ (List.Mem.tail _ (List.Mem.tail _ (List.Mem.head _)))), rfl, rfl, (fun _ _ h => h)⟩), trivial⟩
    ⟨.inr ⟨(by kernel_rfl), _, (List.Mem.head _), rfl, (fun _ _ h => h)⟩, .inr ⟨(by kernel_rfl), _, (List.Mem.tail _ (List.Mem.head _)), rfl, (fun _ _ h => h)⟩, trivial⟩
    (steps (m := 4) (by kernel_rfl) ⟨stepN (i := 0) (dst := some 8) (op := (.load 35 (.tmp 2))) (by kernel_rfl) (loadV (List.Mem.tail _ (List.Mem.tail _ (List.Mem.head _))) (by kernel_rfl) (fun _ _ h => h)),
      stepN (i := 1) (dst := some 9) (op := (.load 35 (.tmp 5))) (by kernel_rfl) (loadV (List.Mem.tail _ (List.Mem.tail _ (List.Mem.tail _ (List.Mem.head _)))) (by kernel_rfl) (fun _ _ h => h)),
      stepN (i := 2) (dst := some 10) (op := (.call { callee := .value (.func 13), args := #[(.tmp 8), (.tmp 9)], argTypes := #[35, 35] })) (by kernel_rfl) (call2 (enters_of Tryz.func13 (by kernel_rfl) rfl) (argT (p := (isR x k)) (by kernel_rfl) (fun _ _ h => h)) (argT (p := (isR (-y) j)) (by kernel_rfl) (fun _ _ h => h)) (fun w u1 u2 h1 h2 => add_r h1 h2 (by omega) (by omega)) (fun _ _ h => h)),
      isStore rfl, trivial⟩) ?_
  clear hS kf a
  try clear w
  intro kf a w hS
  exact wp_ret (ret_c (q := (isR (x + (-y)) (k + j + 2))) (by kernel_rfl) hS (List.Mem.head _) (fun v h => ⟨v, rfl, (IsR.eq h (Rat.sub_eq_add_neg x y).symm), hS.grow⟩))
set_option maxRecDepth 100000 in
set_option maxHeartbeats 4000000 in
theorem mul_r {w : World} {v0 v1 : Value} {x y : Rat} {k j : Nat} (h0 : (isR x k) w v0) (h1 : (isR y j) w v1) (hk : k ≤ 10000) (hj : j ≤ 10000) : Calls Tryz.prog 17 #[v0, v1] w (Ret w fun v w' => (isR (x * y) (k + j + 1)) w' v) := by
  refine enter (s := soft) (n := 20) (c := (.seq (.region 0 (regionOps Tryz.f17 0) false) (.seq (.region 1 (regionOps Tryz.f17 1) false) (.seq (.region 2 (regionOps Tryz.f17 2) false) (.seq (.region 3 (regionOps Tryz.f17 3) false) .ret))))) Tryz.func17 (by kernel_rfl) (by kernel_rfl) (by simp) [(0, (isR x k)), (1, (isR y j))] ⟨⟨by simp, h0⟩, ⟨by simp, h1⟩, trivial⟩ ?_
  intro kf a hS
  refine plain_seq (m := 3) (by kernel_rfl) ?_
  refine box0 (p := 2) (y := 0) (t := 35) (q := (isR x k)) hS (by kernel_rfl) rfl rfl rfl (List.Mem.head _) shR trivial ⟨(stb_R _ _), (stb_R _ _), trivial⟩ ?_
  clear hS kf a
  try clear w
  intro kf a w hS
  refine box0 (p := 3) (y := 1) (t := 35) (q := (isR y j)) hS (by kernel_rfl) rfl rfl rfl (List.Mem.tail _ (List.Mem.head _)) shR ⟨(stb_R _ _), trivial⟩ ⟨(stb_R _ _), (stb_R _ _), trivial⟩ ?_
  clear hS kf a
  try clear w
  intro kf a w hS
  refine alloc0 (p := 4) (t := 35) hS (by kernel_rfl) rfl rfl rfl (by kernel_rfl) ⟨(stb_R _ _), (stb_R _ _), trivial⟩ ⟨(stb_R _ _), (stb_R _ _), trivial⟩ ?_
  clear hS kf a
  try clear w
  intro kf a w hS
  refine plain_end ?_
  refine region_seq (s := soft) (kf0 := kf) (by kernel_rfl) hS (Rg.look [(7, (isE (.pointer (some ⟨kf 2, 0, none⟩)))),
      (8, (isV x.num k)),
      (9, (isE (.pointer (some ⟨kf 3, 0, none⟩)))),
      (10, (isV y.num j)),
      (11, (isV (x.num * y.num) (k + j + 1))),
      (5, isX)])
    ⟨[(5, 5, 33)], [(6, 5, 11, 33)]⟩ [⟨4, 35, isX⟩, ⟨3, 35, (isR y j)⟩, ⟨2, 35, (isR x k)⟩, ⟨5, 33, (isV (x.num * y.num) (k + j + 1))⟩] [(0, (isR x k)), (1, (isR y j))] (by kernel_rfl) (by kernel_rfl) (look_stb _ ⟨(stb_eq _), (stb_V _ _), (stb_eq _), (stb_V _ _), (stb_V _ _), stb_true, trivial⟩) ⟨stb_true, (stb_R _ _), (stb_R _ _), trivial⟩ ⟨(stb_R _ _), (stb_R _ _), trivial⟩ ⟨fun _ _ => trivial, trivial⟩ ⟨shV, trivial⟩
    ⟨.inr (.inl ⟨rfl, _, (List.Mem.head _), rfl, rfl, (fun _ _ h => h)⟩), .inr (.inl ⟨rfl, _, (List.Mem.tail _ (List.Mem.head _)), rfl, rfl, (fun _ _ h => h)⟩), .inr (.inl ⟨rfl, _, (List.Mem.tail _ (List.Mem.tail _ (List.Mem.head _))), rfl, rfl, (fun _ _ h => h)⟩), .inl ⟨_, (List.Mem.head _), rfl, rfl, (fun _ _ h => h)⟩, trivial⟩
    ⟨.inr ⟨(by kernel_rfl), _, (List.Mem.head _), rfl, (fun _ _ h => h)⟩, .inr ⟨(by kernel_rfl), _, (List.Mem.tail _ (List.Mem.head _)), rfl, (fun _ _ h => h)⟩, trivial⟩
    (steps (m := 7) (by kernel_rfl) ⟨stepN (i := 0) (dst := some 7) (op := (.fieldAddr 35 (.tmp 2) 0)) (by kernel_rfl) (fieldV (off := 0) (sz := 2) (List.Mem.tail _ (List.Mem.tail _ (List.Mem.head _))) (by kernel_rfl) (fun _ _ h => h)),
      stepN (i := 1) (dst := some 8) (op := (.load 33 (.tmp 7))) (by kernel_rfl) (loadF (sz := 2) (r := (isV x.num k)) (by kernel_rfl) (fun _ _ h => h) (List.Mem.tail _ (List.Mem.tail _ (List.Mem.head _))) (by kernel_rfl) (by kernel_rfl) (by kernel_rfl) rfl fldRV (fun _ _ h => h)),
      stepN (i := 2) (dst := some 9) (op := (.fieldAddr 35 (.tmp 3) 0)) (by kernel_rfl) (fieldV (off := 0) (sz := 2) (List.Mem.tail _ (List.Mem.head _)) (by kernel_rfl) (fun _ _ h => h)),
      stepN (i := 3) (dst := some 10) (op := (.load 33 (.tmp 9))) (by kernel_rfl) (loadF (sz := 2) (r := (isV y.num j)) (by kernel_rfl) (fun _ _ h => h) (List.Mem.tail _ (List.Mem.head _)) (by kernel_rfl) (by kernel_rfl) (by kernel_rfl) rfl fldRV (fun _ _ h => h)),
      stepN (i := 4) (dst := some 11) (op := (.call { callee := .value (.func 45), args := #[(.tmp 8), (.tmp 10)], argTypes := #[33, 33] })) (by kernel_rfl) (call2 (enters_of Tryz.func45 (by kernel_rfl) rfl) (argT (p := (isV x.num k)) (by kernel_rfl) (fun _ _ h => h)) (argT (p := (isV y.num j)) (by kernel_rfl) (fun _ _ h => h)) (fun w u1 u2 h1 h2 => mulV h1 h2 (by omega) (by omega)) (fun _ _ h => h)),
      isAlloc rfl,
      isStore rfl, trivial⟩) ?_
  clear hS kf a
  try clear w
  intro kf a w hS
  refine region_seq (s := soft) (kf0 := kf) (by kernel_rfl) hS (Rg.look [(12, (isE (.pointer (some ⟨kf 2, 2, none⟩)))),
      (13, (isD x.den k)),
      (14, (isE (.pointer (some ⟨kf 3, 2, none⟩)))),
      (15, (isD y.den j)),
      (16, (isD (x.den * y.den) (k + j + 1))),
      (6, (isD (x.den * y.den) (k + j + 1)))])
    ⟨[], []⟩ [⟨4, 35, isX⟩, ⟨3, 35, (isR y j)⟩, ⟨2, 35, (isR x k)⟩, ⟨5, 33, (isV (x.num * y.num) (k + j + 1))⟩] [(0, (isR x k)), (1, (isR y j)), (6, (isD (x.den * y.den) (k + j + 1)))] (by kernel_rfl) (by kernel_rfl) (look_stb _ ⟨(stb_eq _), (stb_D _ _), (stb_eq _), (stb_D _ _), (stb_D _ _), (stb_D _ _), trivial⟩) ⟨stb_true, (stb_R _ _), (stb_R _ _), (stb_V _ _), trivial⟩ ⟨(stb_R _ _), (stb_R _ _), trivial⟩ trivial trivial
    ⟨.inr (.inl ⟨rfl, _, (List.Mem.head _), rfl, rfl, (fun _ _ h => h)⟩), .inr (.inl ⟨rfl, _, (List.Mem.tail _ (List.Mem.head _)), rfl, rfl, (fun _ _ h => h)⟩), .inr (.inl ⟨rfl, _, (List.Mem.tail _ (List.Mem.tail _ (List.Mem.head _))), rfl, rfl, (fun _ _ h => h)⟩), .inr (.inl ⟨rfl, _, (List.Mem.tail _ (List.Mem.tail _ (List.Mem.tail _ (List.Mem.head _)))), rfl, rfl, (fun _ _ h => h)⟩), trivial⟩
    ⟨.inr ⟨(by kernel_rfl), _, (List.Mem.head _), rfl, (fun _ _ h => h)⟩, .inr ⟨(by kernel_rfl), _, (List.Mem.tail _ (List.Mem.head _)), rfl, (fun _ _ h => h)⟩, .inl ⟨(by kernel_rfl), rfl, (fun _ _ h => h)⟩, trivial⟩
    (steps (m := 6) (by kernel_rfl) ⟨stepN (i := 0) (dst := some 12) (op := (.fieldAddr 35 (.tmp 2) 1)) (by kernel_rfl) (fieldV (off := 2) (sz := 1) (List.Mem.tail _ (List.Mem.tail _ (List.Mem.head _))) (by kernel_rfl) (fun _ _ h => h)),
      stepN (i := 1) (dst := some 13) (op := (.load 31 (.tmp 12))) (by kernel_rfl) (loadP (r := (isD x.den k)) (by kernel_rfl) (fun _ _ h => h) (List.Mem.tail _ (List.Mem.tail _ (List.Mem.head _))) (by kernel_rfl) (by kernel_rfl) rfl fldRD (fun _ _ h => h)),
      stepN (i := 2) (dst := some 14) (op := (.fieldAddr 35 (.tmp 3) 1)) (by kernel_rfl) (fieldV (off := 2) (sz := 1) (List.Mem.tail _ (List.Mem.head _)) (by kernel_rfl) (fun _ _ h => h)),
      stepN (i := 3) (dst := some 15) (op := (.load 31 (.tmp 14))) (by kernel_rfl) (loadP (r := (isD y.den j)) (by kernel_rfl) (fun _ _ h => h) (List.Mem.tail _ (List.Mem.head _)) (by kernel_rfl) (by kernel_rfl) rfl fldRD (fun _ _ h => h)),
      stepN (i := 4) (dst := some 16) (op := (.call { callee := .value (.func 53), args := #[(.tmp 13), (.tmp 15)], argTypes := #[31, 31] })) (by kernel_rfl) (call2 (enters_of Tryz.func53 (by kernel_rfl) rfl) (argT (p := (isD x.den k)) (by kernel_rfl) (fun _ _ h => h)) (argT (p := (isD y.den j)) (by kernel_rfl) (fun _ _ h => h)) (fun w u1 u2 h1 h2 => refMul_any _ _ _ _ _ _ _ (by omega) (by omega) h1 h2) (fun _ _ h => h)),
      stepN (i := 5) (dst := some 6) (op := (.assign (.tmp 16))) (by kernel_rfl) (assign (argT (p := (isD (x.den * y.den) (k + j + 1))) (by kernel_rfl) (fun _ _ h => h)) (fun _ _ h => h)), trivial⟩) ?_
  clear hS kf a
  try clear w
  intro kf a w hS
  refine region_seq (s := soft) (kf0 := kf) (by kernel_rfl) hS (Rg.look [(17, (isV (x.num * y.num) (k + j + 1))),
      (18, (isD (x.den * y.den) (k + j + 1))),
      (19, (isR (mkRat (x.num * y.num) (x.den * y.den)) (max (k + j + 1) (k + j + 1))))])
    ⟨[], [(3, 4, 19, 35)]⟩ [⟨4, 35, (isR (mkRat (x.num * y.num) (x.den * y.den)) (max (k + j + 1) (k + j + 1)))⟩, ⟨3, 35, (isR y j)⟩, ⟨2, 35, (isR x k)⟩, ⟨5, 33, (isV (x.num * y.num) (k + j + 1))⟩] [(0, (isR x k)), (1, (isR y j)), (6, (isD (x.den * y.den) (k + j + 1)))] (by kernel_rfl) (by kernel_rfl) (look_stb _ ⟨(stb_V _ _), (stb_D _ _), (stb_R _ _), trivial⟩) ⟨stb_true, (stb_R _ _), (stb_R _ _), (stb_V _ _), trivial⟩ ⟨(stb_R _ _), (stb_R _ _), (stb_D _ _), trivial⟩ trivial ⟨shR, trivial⟩
    ⟨.inl ⟨_, (List.Mem.head _), rfl, rfl, (fun _ _ h => h)⟩, .inr (.inl ⟨rfl, _, (List.Mem.tail _ (List.Mem.head _)), rfl, rfl, (fun _ _ h => h)⟩), .inr (.inl ⟨rfl, _, (List.Mem.tail _ (List.Mem.tail _ (List.Mem.head _))), rfl, rfl, (fun _ _ h => h)⟩), .inr (.inl ⟨rfl, _, (List.Mem.tail _ (List.Mem.tail _ (List.Mem.tail _ (List.Mem.head _)))), rfl, rfl, (fun _ _ h => h)⟩), trivial⟩
    ⟨.inr ⟨(by kernel_rfl), _, (List.Mem.head _), rfl, (fun _ _ h => h)⟩, .inr ⟨(by kernel_rfl), _, (List.Mem.tail _ (List.Mem.head _)), rfl, (fun _ _ h => h)⟩, .inr ⟨(by kernel_rfl), _, (List.Mem.tail _ (List.Mem.tail _ (List.Mem.head _))), rfl, (fun _ _ h => h)⟩, trivial⟩
    (steps (m := 4) (by kernel_rfl) ⟨stepN (i := 0) (dst := some 17) (op := (.load 33 (.tmp 5))) (by kernel_rfl) (loadV (List.Mem.tail _ (List.Mem.tail _ (List.Mem.tail _ (List.Mem.head _)))) (by kernel_rfl) (fun _ _ h => h)),
      stepN (i := 1) (dst := some 18) (op := (.move (.tmp 6))) (by kernel_rfl) (move (argO (p := (isD (x.den * y.den) (k + j + 1))) (List.Mem.tail _ (List.Mem.tail _ (List.Mem.head _))) (by kernel_rfl)) (fun _ _ h => h)),
      stepN (i := 2) (dst := some 19) (op := (.call { callee := .value (.func 41), args := #[(.tmp 17), (.tmp 18)], argTypes := #[33, 31] })) (by kernel_rfl) (call2 (enters_of Tryz.func41 (by kernel_rfl) rfl) (argT (p := (isV (x.num * y.num) (k + j + 1))) (by kernel_rfl) (fun _ _ h => h)) (argT (p := (isD (x.den * y.den) (k + j + 1))) (by kernel_rfl) (fun _ _ h => h)) (fun w u1 u2 h1 h2 => make_r h1 h2 (by omega) (by omega) (Nat.ne_of_gt (Nat.mul_pos x.den_pos y.den_pos))) (fun _ _ h => h)),
      isStore rfl, trivial⟩) ?_
  clear hS kf a
  try clear w
  intro kf a w hS
  exact wp_ret (ret_c (q := (isR (mkRat (x.num * y.num) (x.den * y.den)) (max (k + j + 1) (k + j + 1)))) (by kernel_rfl) hS (List.Mem.head _) (fun v h => ⟨v, rfl, ((IsR.eq h (Rat.mul_def' x y).symm).weak (by omega)), hS.grow⟩))
set_option maxRecDepth 100000 in
set_option maxHeartbeats 4000000 in
theorem quo_r {w : World} {v0 v1 : Value} {x y : Rat} {k j : Nat} (h0 : (isR x k) w v0) (h1 : (isR y j) w v1) (hk : k ≤ 10000) (hj : j ≤ 10000) (hy : y ≠ 0) : Calls Tryz.prog 10 #[v0, v1] w (Ret w fun v w' => (isR (x / y) (k + j + 1)) w' v) := by
  have hb : y.num * (x.den : Nat) ≠ 0 := Int.mul_ne_zero (fun e => hy (Rat.num_eq_zero.1 e)) (by have := x.den_pos; omega)
  refine enter (s := soft) (n := 21) (c := (.seq (.region 0 (regionOps Tryz.f10 0) false) (.seq (.region 1 (regionOps Tryz.f10 1) false) (.seq (.region 2 (regionOps Tryz.f10 2) false) (.seq (.region 3 (regionOps Tryz.f10 3) false) (.seq (.region 4 (regionOps Tryz.f10 4) false) .ret)))))) Tryz.func10 (by kernel_rfl) (by kernel_rfl) (by simp) [(0, (isR x k)), (1, (isR y j))] ⟨⟨by simp, h0⟩, ⟨by simp, h1⟩, trivial⟩ ?_
  intro kf a hS
  refine plain_seq (m := 3) (by kernel_rfl) ?_
  refine box0 (p := 2) (y := 0) (t := 35) (q := (isR x k)) hS (by kernel_rfl) rfl rfl rfl (List.Mem.head _) shR trivial ⟨(stb_R _ _), (stb_R _ _), trivial⟩ ?_
  clear hS kf a
  try clear w
  intro kf a w hS
  refine box0 (p := 3) (y := 1) (t := 35) (q := (isR y j)) hS (by kernel_rfl) rfl rfl rfl (List.Mem.tail _ (List.Mem.head _)) shR ⟨(stb_R _ _), trivial⟩ ⟨(stb_R _ _), (stb_R _ _), trivial⟩ ?_
  clear hS kf a
  try clear w
  intro kf a w hS
  refine alloc0 (p := 4) (t := 35) hS (by kernel_rfl) rfl rfl rfl (by kernel_rfl) ⟨(stb_R _ _), (stb_R _ _), trivial⟩ ⟨(stb_R _ _), (stb_R _ _), trivial⟩ ?_
  clear hS kf a
  try clear w
  intro kf a w hS
  refine plain_end ?_
  refine region_seq (s := soft) (kf0 := kf) (by kernel_rfl) hS (Rg.look [(8, (isR x k)),
      (9, (isR y j)),
      (10, (isV (x.num * (y.den : Nat)) (k + j + 1))),
      (5, isX)])
    ⟨[(3, 5, 33)], [(4, 5, 10, 33)]⟩ [⟨4, 35, isX⟩, ⟨3, 35, (isR y j)⟩, ⟨2, 35, (isR x k)⟩, ⟨5, 33, (isV (x.num * (y.den : Nat)) (k + j + 1))⟩] [(0, (isR x k)), (1, (isR y j))] (by kernel_rfl) (by kernel_rfl) (look_stb _ ⟨(stb_R _ _), (stb_R _ _), (stb_V _ _), stb_true, trivial⟩) ⟨stb_true, (stb_R _ _), (stb_R _ _), trivial⟩ ⟨(stb_R _ _), (stb_R _ _), trivial⟩ ⟨fun _ _ => trivial, trivial⟩ ⟨shV, trivial⟩
    ⟨.inr (.inl ⟨rfl, _, (List.Mem.head _), rfl, rfl, (fun _ _ h => h)⟩), .inr (.inl ⟨rfl, _, (List.Mem.tail _ (List.Mem.head _)), rfl, rfl, (fun _ _ h => h)⟩), .inr (.inl ⟨rfl, _, (List.Mem.tail _ (List.Mem.tail _ (List.Mem.head _))), rfl, rfl, (fun _ _ h => h)⟩), .inl ⟨_, (List.Mem.head _), rfl, rfl, (fun _ _ h => h)⟩, trivial⟩
    ⟨.inr ⟨(by kernel_rfl), _, (List.Mem.head _), rfl, (fun _ _ h => h)⟩, .inr ⟨(by kernel_rfl), _, (List.Mem.tail _ (List.Mem.head _)), rfl, (fun _ _ h => h)⟩, trivial⟩
    (steps (m := 5) (by kernel_rfl) ⟨stepN (i := 0) (dst := some 8) (op := (.load 35 (.tmp 2))) (by kernel_rfl) (loadV (List.Mem.tail _ (List.Mem.tail _ (List.Mem.head _))) (by kernel_rfl) (fun _ _ h => h)),
      stepN (i := 1) (dst := some 9) (op := (.load 35 (.tmp 3))) (by kernel_rfl) (loadV (List.Mem.tail _ (List.Mem.head _)) (by kernel_rfl) (fun _ _ h => h)),
      stepN (i := 2) (dst := some 10) (op := (.call { callee := .value (.func 44), args := #[(.tmp 8), (.tmp 9)], argTypes := #[35, 35] })) (by kernel_rfl) (call2 (enters_of Tryz.func44 (by kernel_rfl) rfl) (argT (p := (isR x k)) (by kernel_rfl) (fun _ _ h => h)) (argT (p := (isR y j)) (by kernel_rfl) (fun _ _ h => h)) (fun w u1 u2 h1 h2 => cross_r h1 h2 (by omega) (by omega)) (fun _ _ h => h)),
      isAlloc rfl,
      isStore rfl, trivial⟩) ?_
  clear hS kf a
  try clear w
  intro kf a w hS
  refine region_seq (s := soft) (kf0 := kf) (by kernel_rfl) hS (Rg.look [(11, (isE (.pointer (some ⟨kf 2, 2, none⟩)))),
      (12, (isD x.den k)),
      (13, (isV (signed x.den false) k)),
      (6, isX)])
    ⟨[(3, 6, 33)], [(4, 6, 13, 33)]⟩ [⟨4, 35, isX⟩, ⟨3, 35, (isR y j)⟩, ⟨2, 35, (isR x k)⟩, ⟨5, 33, (isV (x.num * (y.den : Nat)) (k + j + 1))⟩, ⟨6, 33, (isV (signed x.den false) k)⟩] [(0, (isR x k)), (1, (isR y j))] (by kernel_rfl) (by kernel_rfl) (look_stb _ ⟨(stb_eq _), (stb_D _ _), (stb_V _ _), stb_true, trivial⟩) ⟨stb_true, (stb_R _ _), (stb_R _ _), (stb_V _ _), trivial⟩ ⟨(stb_R _ _), (stb_R _ _), trivial⟩ ⟨fun _ _ => trivial, trivial⟩ ⟨shV, trivial⟩
    ⟨.inr (.inl ⟨rfl, _, (List.Mem.head _), rfl, rfl, (fun _ _ h => h)⟩), .inr (.inl ⟨rfl, _, (List.Mem.tail _ (List.Mem.head _)), rfl, rfl, (fun _ _ h => h)⟩), .inr (.inl ⟨rfl, _, (List.Mem.tail _ (List.Mem.tail _ (List.Mem.head _))), rfl, rfl, (fun _ _ h => h)⟩), .inr (.inl ⟨rfl, _, (List.Mem.tail _ (List.Mem.tail _ (List.Mem.tail _ (List.Mem.head _)))), rfl, rfl, (fun _ _ h => h)⟩), .inl ⟨_, (List.Mem.head _), rfl, rfl, (fun _ _ h => h)⟩, trivial⟩
    ⟨.inr ⟨(by kernel_rfl), _, (List.Mem.head _), rfl, (fun _ _ h => h)⟩, .inr ⟨(by kernel_rfl), _, (List.Mem.tail _ (List.Mem.head _)), rfl, (fun _ _ h => h)⟩, trivial⟩
    (steps (m := 5) (by kernel_rfl) ⟨stepN (i := 0) (dst := some 11) (op := (.fieldAddr 35 (.tmp 2) 1)) (by kernel_rfl) (fieldV (off := 2) (sz := 1) (List.Mem.tail _ (List.Mem.tail _ (List.Mem.head _))) (by kernel_rfl) (fun _ _ h => h)),
      stepN (i := 1) (dst := some 12) (op := (.load 31 (.tmp 11))) (by kernel_rfl) (loadP (r := (isD x.den k)) (by kernel_rfl) (fun _ _ h => h) (List.Mem.tail _ (List.Mem.tail _ (List.Mem.head _))) (by kernel_rfl) (by kernel_rfl) rfl fldRD (fun _ _ h => h)),
      stepN (i := 2) (dst := some 13) (op := (.call { callee := .value (.func 42), args := #[(.tmp 12), (.const (.bool false))], argTypes := #[31, 4] })) (by kernel_rfl) (call2 (enters_of Tryz.func42 (by kernel_rfl) rfl) (argT (p := (isD x.den k)) (by kernel_rfl) (fun _ _ h => h)) (argC (.bool false)) (fun w u1 u2 h1 h2 => by subst h2; exact ofV_any h1) (fun _ _ h => h)),
      isAlloc rfl,
      isStore rfl, trivial⟩) ?_
  clear hS kf a
  try clear w
  intro kf a w hS
  refine region_seq (s := soft) (kf0 := kf) (by kernel_rfl) hS (Rg.look [(14, (isE (.pointer (some ⟨kf 3, 0, none⟩)))),
      (15, (isV y.num j)),
      (16, (isV (signed x.den false) k)),
      (17, (isV (y.num * (signed x.den false)) (j + k + 1))),
      (7, isX)])
    ⟨[(4, 7, 33)], [(5, 7, 17, 33)]⟩ [⟨4, 35, isX⟩, ⟨3, 35, (isR y j)⟩, ⟨2, 35, (isR x k)⟩, ⟨5, 33, (isV (x.num * (y.den : Nat)) (k + j + 1))⟩, ⟨6, 33, (isV (signed x.den false) k)⟩, ⟨7, 33, (isV (y.num * (signed x.den false)) (j + k + 1))⟩] [(0, (isR x k)), (1, (isR y j))] (by kernel_rfl) (by kernel_rfl) (look_stb _ ⟨(stb_eq _), (stb_V _ _), (stb_V _ _), (stb_V _ _), stb_true, trivial⟩) ⟨stb_true, (stb_R _ _), (stb_R _ _), (stb_V _ _), (stb_V _ _), trivial⟩ ⟨(stb_R _ _), (stb_R _ _), trivial⟩ ⟨fun _ _ => trivial, trivial⟩ ⟨shV, trivial⟩
    ⟨.inr (.inl ⟨rfl, _, (List.Mem.head _), rfl, rfl, (fun _ _ h => h)⟩), .inr (.inl ⟨rfl, _, (List.Mem.tail _ (List.Mem.head _)), rfl, rfl, (fun _ _ h => h)⟩), .inr (.inl ⟨rfl, _, (List.Mem.tail _ (List.Mem.tail _ (List.Mem.head _))), rfl, rfl, (fun _ _ h => h)⟩), .inr (.inl ⟨rfl, _, (List.Mem.tail _ (List.Mem.tail _ (List.Mem.tail _ (List.Mem.head _)))), rfl, rfl, (fun _ _ h => h)⟩), .inr (.inl ⟨rfl, _, (List.Mem.tail _ (List.Mem.tail _ (List.Mem.tail _ (List.Mem.tail _ (List.Mem.head _))))), rfl, rfl, (fun _ _ h => h)⟩), .inl ⟨_, (List.Mem.head _), rfl, rfl, (fun _ _ h => h)⟩, trivial⟩
    ⟨.inr ⟨(by kernel_rfl), _, (List.Mem.head _), rfl, (fun _ _ h => h)⟩, .inr ⟨(by kernel_rfl), _, (List.Mem.tail _ (List.Mem.head _)), rfl, (fun _ _ h => h)⟩, trivial⟩
    (steps (m := 6) (by kernel_rfl) ⟨stepN (i := 0) (dst := some 14) (op := (.fieldAddr 35 (.tmp 3) 0)) (by kernel_rfl) (fieldV (off := 0) (sz := 2) (List.Mem.tail _ (List.Mem.head _)) (by kernel_rfl) (fun _ _ h => h)),
      stepN (i := 1) (dst := some 15) (op := (.load 33 (.tmp 14))) (by kernel_rfl) (loadF (sz := 2) (r := (isV y.num j)) (by kernel_rfl) (fun _ _ h => h) (List.Mem.tail _ (List.Mem.head _)) (by kernel_rfl) (by kernel_rfl) (by kernel_rfl) rfl fldRV (fun _ _ h => h)),
      stepN (i := 2) (dst := some 16) (op := (.load 33 (.tmp 6))) (by kernel_rfl) (loadV (List.Mem.tail _ (List.Mem.tail _ (List.Mem.tail _ (List.Mem.tail _ (List.Mem.head _))))) (by kernel_rfl) (fun _ _ h => h)),
      stepN (i := 3) (dst := some 17) (op := (.call { callee := .value (.func 45), args := #[(.tmp 15), (.tmp 16)], argTypes := #[33, 33] })) (by kernel_rfl) (call2 (enters_of Tryz.func45 (by kernel_rfl) rfl) (argT (p := (isV y.num j)) (by kernel_rfl) (fun _ _ h => h)) (argT (p := (isV (signed x.den false) k)) (by kernel_rfl) (fun _ _ h => h)) (fun w u1 u2 h1 h2 => mulV h1 h2 (by omega) (by omega)) (fun _ _ h => h)),
      isAlloc rfl,
      isStore rfl, trivial⟩) ?_
  clear hS kf a
  try clear w
  intro kf a w hS
  refine region_seq (s := soft) (kf0 := kf) (by kernel_rfl) hS (Rg.look [(18, (isV (x.num * (y.den : Nat)) (k + j + 1))),
      (19, (isV (y.num * (signed x.den false)) (j + k + 1))),
      (20, (isR (((x.num * (y.den : Nat) : Int) : Rat) / ((y.num * (signed x.den false) : Int) : Rat)) (max (k + j + 1) (j + k + 1))))])
    ⟨[], [(3, 4, 20, 35)]⟩ [⟨4, 35, (isR (((x.num * (y.den : Nat) : Int) : Rat) / ((y.num * (signed x.den false) : Int) : Rat)) (max (k + j + 1) (j + k + 1)))⟩, ⟨3, 35, (isR y j)⟩, ⟨2, 35, (isR x k)⟩, ⟨5, 33, (isV (x.num * (y.den : Nat)) (k + j + 1))⟩, ⟨6, 33, (isV (signed x.den false) k)⟩, ⟨7, 33, (isV (y.num * (signed x.den false)) (j + k + 1))⟩] [(0, (isR x k)), (1, (isR y j))] (by kernel_rfl) (by kernel_rfl) (look_stb _ ⟨(stb_V _ _), (stb_V _ _), (stb_R _ _), trivial⟩) ⟨stb_true, (stb_R _ _), (stb_R _ _), (stb_V _ _), (stb_V _ _), (stb_V _ _), trivial⟩ ⟨(stb_R _ _), (stb_R _ _), trivial⟩ trivial ⟨shR, trivial⟩
    ⟨.inl ⟨_, (List.Mem.head _), rfl, rfl, (fun _ _ h => h)⟩, .inr (.inl ⟨rfl, _, (List.Mem.tail _ (List.Mem.head _)), rfl, rfl, (fun _ _ h => h)⟩), .inr (.inl ⟨rfl, _, (List.Mem.tail _ (List.Mem.tail _ (List.Mem.head _))), rfl, rfl, (fun _ _ h => h)⟩), .inr (.inl ⟨rfl, _, (List.Mem.tail _ (List.Mem.tail _ (List.Mem.tail _ (List.Mem.head _)))), rfl, rfl, (fun _ _ h => h)⟩), .inr (.inl ⟨rfl, _, (List.Mem.tail _ (List.Mem.tail _ (List.Mem.tail _ (List.Mem.tail _ (List.Mem.head _))))), rfl, rfl, (fun _ _ h => h)⟩), .inr (.inl ⟨rfl, _, (List.Mem.tail _ (List.Mem.tail _ (List.Mem.tail _ (List.Mem.tail _ (List.Mem.tail _ (List.Mem.head _)))))), rfl, rfl, (fun _ _ h => h)⟩), trivial⟩
    ⟨.inr ⟨(by kernel_rfl), _, (List.Mem.head _), rfl, (fun _ _ h => h)⟩, .inr ⟨(by kernel_rfl), _, (List.Mem.tail _ (List.Mem.head _)), rfl, (fun _ _ h => h)⟩, trivial⟩
    (steps (m := 4) (by kernel_rfl) ⟨stepN (i := 0) (dst := some 18) (op := (.load 33 (.tmp 5))) (by kernel_rfl) (loadV (List.Mem.tail _ (List.Mem.tail _ (List.Mem.tail _ (List.Mem.head _)))) (by kernel_rfl) (fun _ _ h => h)),
      stepN (i := 1) (dst := some 19) (op := (.load 33 (.tmp 7))) (by kernel_rfl) (loadV (List.Mem.tail _ (List.Mem.tail _ (List.Mem.tail _ (List.Mem.tail _ (List.Mem.tail _ (List.Mem.head _)))))) (by kernel_rfl) (fun _ _ h => h)),
      stepN (i := 2) (dst := some 20) (op := (.call { callee := .value (.func 46), args := #[(.tmp 18), (.tmp 19)], argTypes := #[33, 33] })) (by kernel_rfl) (call2 (enters_of Tryz.func46 (by kernel_rfl) rfl) (argT (p := (isV (x.num * (y.den : Nat)) (k + j + 1))) (by kernel_rfl) (fun _ _ h => h)) (argT (p := (isV (y.num * (signed x.den false)) (j + k + 1))) (by kernel_rfl) (fun _ _ h => h)) (fun w u1 u2 h1 h2 => of_r h1 h2 (by omega) (by omega) hb) (fun _ _ h => h)),
      isStore rfl, trivial⟩) ?_
  clear hS kf a
  try clear w
  intro kf a w hS
  exact wp_ret (ret_c (q := (isR (((x.num * (y.den : Nat) : Int) : Rat) / ((y.num * (signed x.den false) : Int) : Rat)) (max (k + j + 1) (j + k + 1)))) (by kernel_rfl) hS (List.Mem.head _) (fun v h => ⟨v, rfl, ((IsR.eq h (quo_rat x y)).weak (by omega)), hS.grow⟩))
set_option maxRecDepth 100000 in
set_option maxHeartbeats 4000000 in
theorem cmp_r {w : World} {v0 v1 : Value} {x y : Rat} {k j : Nat} (h0 : (isR x k) w v0) (h1 : (isR y j) w v1) (hk : k ≤ 10000) (hj : j ≤ 10000) : Calls Tryz.prog 19 #[v0, v1] w (Ret w fun v w' => (isE (.int .i64 (cmpQ x y))) w' v) := by
  refine enter (s := soft) (n := 16) (c := (.seq (.region 0 (regionOps Tryz.f19 0) false) (.seq (.region 1 (regionOps Tryz.f19 1) false) (.seq (.region 2 (regionOps Tryz.f19 2) false) (.seq (.region 3 (regionOps Tryz.f19 3) false) .ret))))) Tryz.func19 (by kernel_rfl) (by kernel_rfl) (by simp) [(0, (isR x k)), (1, (isR y j))] ⟨⟨by simp, h0⟩, ⟨by simp, h1⟩, trivial⟩ ?_
  intro kf a hS
  refine plain_seq (m := 3) (by kernel_rfl) ?_
  refine box0 (p := 2) (y := 0) (t := 35) (q := (isR x k)) hS (by kernel_rfl) rfl rfl rfl (List.Mem.head _) shR trivial ⟨(stb_R _ _), (stb_R _ _), trivial⟩ ?_
  clear hS kf a
  try clear w
  intro kf a w hS
  refine box0 (p := 3) (y := 1) (t := 35) (q := (isR y j)) hS (by kernel_rfl) rfl rfl rfl (List.Mem.tail _ (List.Mem.head _)) shR ⟨(stb_R _ _), trivial⟩ ⟨(stb_R _ _), (stb_R _ _), trivial⟩ ?_
  clear hS kf a
  try clear w
  intro kf a w hS
  refine const0 (p := 4) (c := (.int .i64 0)) hS (by kernel_rfl) rfl rfl rfl ?_
  clear hS kf a
  try clear w
  intro kf a w hS
  refine plain_end ?_
  refine region_seq (s := soft) (kf0 := kf) (by kernel_rfl) hS (Rg.look [(7, (isR x k)),
      (8, (isR y j)),
      (9, (isV (x.num * (y.den : Nat)) (k + j + 1))),
      (5, isX)])
    ⟨[(3, 5, 33)], [(4, 5, 9, 33)]⟩ [⟨3, 35, (isR y j)⟩, ⟨2, 35, (isR x k)⟩, ⟨5, 33, (isV (x.num * (y.den : Nat)) (k + j + 1))⟩] [(4, (isE (.int .i64 0))), (0, (isR x k)), (1, (isR y j))] (by kernel_rfl) (by kernel_rfl) (look_stb _ ⟨(stb_R _ _), (stb_R _ _), (stb_V _ _), stb_true, trivial⟩) ⟨(stb_R _ _), (stb_R _ _), trivial⟩ ⟨(stb_eq _), (stb_R _ _), (stb_R _ _), trivial⟩ ⟨fun _ _ => trivial, trivial⟩ ⟨shV, trivial⟩
    ⟨.inr (.inl ⟨rfl, _, (List.Mem.head _), rfl, rfl, (fun _ _ h => h)⟩), .inr (.inl ⟨rfl, _, (List.Mem.tail _ (List.Mem.head _)), rfl, rfl, (fun _ _ h => h)⟩), .inl ⟨_, (List.Mem.head _), rfl, rfl, (fun _ _ h => h)⟩, trivial⟩
    ⟨.inr ⟨(by kernel_rfl), _, (List.Mem.head _), rfl, (fun _ _ h => h)⟩, .inr ⟨(by kernel_rfl), _, (List.Mem.tail _ (List.Mem.head _)), rfl, (fun _ _ h => h)⟩, .inr ⟨(by kernel_rfl), _, (List.Mem.tail _ (List.Mem.tail _ (List.Mem.head _))), rfl, (fun _ _ h => h)⟩, trivial⟩
    (steps (m := 5) (by kernel_rfl) ⟨stepN (i := 0) (dst := some 7) (op := (.load 35 (.tmp 2))) (by kernel_rfl) (loadV (List.Mem.tail _ (List.Mem.head _)) (by kernel_rfl) (fun _ _ h => h)),
      stepN (i := 1) (dst := some 8) (op := (.load 35 (.tmp 3))) (by kernel_rfl) (loadV (List.Mem.head _) (by kernel_rfl) (fun _ _ h => h)),
      stepN (i := 2) (dst := some 9) (op := (.call { callee := .value (.func 44), args := #[(.tmp 7), (.tmp 8)], argTypes := #[35, 35] })) (by kernel_rfl) (call2 (enters_of Tryz.func44 (by kernel_rfl) rfl) (argT (p := (isR x k)) (by kernel_rfl) (fun _ _ h => h)) (argT (p := (isR y j)) (by kernel_rfl) (fun _ _ h => h)) (fun w u1 u2 h1 h2 => cross_r h1 h2 (by omega) (by omega)) (fun _ _ h => h)),
      isAlloc rfl,
      isStore rfl, trivial⟩) ?_
  clear hS kf a
  try clear w
  intro kf a w hS
  refine region_seq (s := soft) (kf0 := kf) (by kernel_rfl) hS (Rg.look [(10, (isR y j)),
      (11, (isR x k)),
      (12, (isV (y.num * (x.den : Nat)) (j + k + 1))),
      (6, isX)])
    ⟨[(3, 6, 33)], [(4, 6, 12, 33)]⟩ [⟨3, 35, (isR y j)⟩, ⟨2, 35, (isR x k)⟩, ⟨5, 33, (isV (x.num * (y.den : Nat)) (k + j + 1))⟩, ⟨6, 33, (isV (y.num * (x.den : Nat)) (j + k + 1))⟩] [(4, (isE (.int .i64 0))), (0, (isR x k)), (1, (isR y j))] (by kernel_rfl) (by kernel_rfl) (look_stb _ ⟨(stb_R _ _), (stb_R _ _), (stb_V _ _), stb_true, trivial⟩) ⟨(stb_R _ _), (stb_R _ _), (stb_V _ _), trivial⟩ ⟨(stb_eq _), (stb_R _ _), (stb_R _ _), trivial⟩ ⟨fun _ _ => trivial, trivial⟩ ⟨shV, trivial⟩
    ⟨.inr (.inl ⟨rfl, _, (List.Mem.head _), rfl, rfl, (fun _ _ h => h)⟩), .inr (.inl ⟨rfl, _, (List.Mem.tail _ (List.Mem.head _)), rfl, rfl, (fun _ _ h => h)⟩), .inr (.inl ⟨rfl, _, (List.Mem.tail _ (List.Mem.tail _ (List.Mem.head _))), rfl, rfl, (fun _ _ h => h)⟩), .inl ⟨_, (List.Mem.head _), rfl, rfl, (fun _ _ h => h)⟩, trivial⟩
    ⟨.inr ⟨(by kernel_rfl), _, (List.Mem.head _), rfl, (fun _ _ h => h)⟩, .inr ⟨(by kernel_rfl), _, (List.Mem.tail _ (List.Mem.head _)), rfl, (fun _ _ h => h)⟩, .inr ⟨(by kernel_rfl), _, (List.Mem.tail _ (List.Mem.tail _ (List.Mem.head _))), rfl, (fun _ _ h => h)⟩, trivial⟩
    (steps (m := 5) (by kernel_rfl) ⟨stepN (i := 0) (dst := some 10) (op := (.load 35 (.tmp 3))) (by kernel_rfl) (loadV (List.Mem.head _) (by kernel_rfl) (fun _ _ h => h)),
      stepN (i := 1) (dst := some 11) (op := (.load 35 (.tmp 2))) (by kernel_rfl) (loadV (List.Mem.tail _ (List.Mem.head _)) (by kernel_rfl) (fun _ _ h => h)),
      stepN (i := 2) (dst := some 12) (op := (.call { callee := .value (.func 44), args := #[(.tmp 10), (.tmp 11)], argTypes := #[35, 35] })) (by kernel_rfl) (call2 (enters_of Tryz.func44 (by kernel_rfl) rfl) (argT (p := (isR y j)) (by kernel_rfl) (fun _ _ h => h)) (argT (p := (isR x k)) (by kernel_rfl) (fun _ _ h => h)) (fun w u1 u2 h1 h2 => cross_r h1 h2 (by omega) (by omega)) (fun _ _ h => h)),
      isAlloc rfl,
      isStore rfl, trivial⟩) ?_
  clear hS kf a
  try clear w
  intro kf a w hS
  refine region_seq (s := soft) (kf0 := kf) (by kernel_rfl) hS (Rg.look [(13, (isV (x.num * (y.den : Nat)) (k + j + 1))),
      (14, (isV (y.num * (x.den : Nat)) (j + k + 1))),
      (15, (isE (.int .i64 (Int.sign ((x.num * (y.den : Nat)) - (y.num * (x.den : Nat))))))),
      (4, (isE (.int .i64 (Int.sign ((x.num * (y.den : Nat)) - (y.num * (x.den : Nat)))))))])
    ⟨[], []⟩ [⟨3, 35, (isR y j)⟩, ⟨2, 35, (isR x k)⟩, ⟨5, 33, (isV (x.num * (y.den : Nat)) (k + j + 1))⟩, ⟨6, 33, (isV (y.num * (x.den : Nat)) (j + k + 1))⟩] [(0, (isR x k)), (1, (isR y j)), (4, (isE (.int .i64 (Int.sign ((x.num * (y.den : Nat)) - (y.num * (x.den : Nat)))))))] (by kernel_rfl) (by kernel_rfl) (look_stb _ ⟨(stb_V _ _), (stb_V _ _), (stb_eq _), (stb_eq _), trivial⟩) ⟨(stb_R _ _), (stb_R _ _), (stb_V _ _), (stb_V _ _), trivial⟩ ⟨(stb_eq _), (stb_R _ _), (stb_R _ _), trivial⟩ trivial trivial
    ⟨.inr (.inl ⟨rfl, _, (List.Mem.head _), rfl, rfl, (fun _ _ h => h)⟩), .inr (.inl ⟨rfl, _, (List.Mem.tail _ (List.Mem.head _)), rfl, rfl, (fun _ _ h => h)⟩), .inr (.inl ⟨rfl, _, (List.Mem.tail _ (List.Mem.tail _ (List.Mem.head _))), rfl, rfl, (fun _ _ h => h)⟩), .inr (.inl ⟨rfl, _, (List.Mem.tail _ (List.Mem.tail _ (List.Mem.tail _ (List.Mem.head _)))), rfl, rfl, (fun _ _ h => h)⟩), trivial⟩
    ⟨.inr ⟨(by kernel_rfl), _, (List.Mem.tail _ (List.Mem.head _)), rfl, (fun _ _ h => h)⟩, .inr ⟨(by kernel_rfl), _, (List.Mem.tail _ (List.Mem.tail _ (List.Mem.head _))), rfl, (fun _ _ h => h)⟩, .inl ⟨(by kernel_rfl), rfl, (fun _ _ h => h)⟩, trivial⟩
    (steps (m := 4) (by kernel_rfl) ⟨stepN (i := 0) (dst := some 13) (op := (.load 33 (.tmp 5))) (by kernel_rfl) (loadV (List.Mem.tail _ (List.Mem.tail _ (List.Mem.head _))) (by kernel_rfl) (fun _ _ h => h)),
      stepN (i := 1) (dst := some 14) (op := (.load 33 (.tmp 6))) (by kernel_rfl) (loadV (List.Mem.tail _ (List.Mem.tail _ (List.Mem.tail _ (List.Mem.head _)))) (by kernel_rfl) (fun _ _ h => h)),
      stepN (i := 2) (dst := some 15) (op := (.call { callee := .value (.func 55), args := #[(.tmp 13), (.tmp 14)], argTypes := #[33, 33] })) (by kernel_rfl) (call2 (enters_of Tryz.func55 (by kernel_rfl) rfl) (argT (p := (isV (x.num * (y.den : Nat)) (k + j + 1))) (by kernel_rfl) (fun _ _ h => h)) (argT (p := (isV (y.num * (x.den : Nat)) (j + k + 1))) (by kernel_rfl) (fun _ _ h => h)) (fun w u1 u2 h1 h2 => cmpV h1 h2 (by omega) (by omega)) (fun _ _ h => h)),
      stepN (i := 3) (dst := some 4) (op := (.assign (.tmp 15))) (by kernel_rfl) (assign (argT (p := (isE (.int .i64 (Int.sign ((x.num * (y.den : Nat)) - (y.num * (x.den : Nat))))))) (by kernel_rfl) (fun _ _ h => h)) (fun _ _ h => h)), trivial⟩) ?_
  clear hS kf a
  try clear w
  intro kf a w hS
  exact wp_ret (ret_t (q := (isE (.int .i64 (Int.sign ((x.num * (y.den : Nat)) - (y.num * (x.den : Nat))))))) (by kernel_rfl) hS (List.Mem.tail _ (List.Mem.tail _ (List.Mem.head _))) (fun v h => ⟨v, rfl, (h), hS.grow⟩))
set_option maxRecDepth 100000 in
set_option maxHeartbeats 4000000 in
theorem floor_r {w : World} {v0 : Value} {q : Rat} {k : Nat} (h0 : (isR q k) w v0) (hk : k ≤ 1000) : Calls Tryz.prog 25 #[v0] w (Ret w fun v w' => (isV (Rat.floor q) 2000) w' v) := by
  have hm : signed q.den false ≠ 0 := by have := q.den_pos; simp only [signed, Bool.false_eq_true, if_false]; omega
  refine enter (s := soft) (n := 17) (c := (.seq (.region 0 (regionOps Tryz.f25 0) false) (.seq (.region 1 (regionOps Tryz.f25 1) false) (.seq (.region 2 (regionOps Tryz.f25 2) false) (.seq (.region 3 (regionOps Tryz.f25 3) false) .ret))))) Tryz.func25 (by kernel_rfl) (by kernel_rfl) (by simp) [(0, (isR q k))] ⟨⟨by simp, h0⟩, trivial⟩ ?_
  intro kf a hS
  refine plain_seq (m := 2) (by kernel_rfl) ?_
  refine box0 (p := 1) (y := 0) (t := 35) (q := (isR q k)) hS (by kernel_rfl) rfl rfl rfl (List.Mem.head _) shR trivial ⟨(stb_R _ _), trivial⟩ ?_
  clear hS kf a
  try clear w
  intro kf a w hS
  refine alloc0 (p := 2) (t := 33) hS (by kernel_rfl) rfl rfl rfl (by kernel_rfl) ⟨(stb_R _ _), trivial⟩ ⟨(stb_R _ _), trivial⟩ ?_
  clear hS kf a
  try clear w
  intro kf a w hS
  refine plain_end ?_
  refine region_seq (s := soft) (kf0 := kf) (by kernel_rfl) hS (Rg.look [(6, (isE (.pointer (some ⟨kf 1, 2, none⟩)))),
      (7, (isD q.den k)),
      (8, (isV (signed q.den false) k)),
      (3, isX)])
    ⟨[(3, 3, 33)], [(4, 3, 8, 33)]⟩ [⟨2, 33, isX⟩, ⟨1, 35, (isR q k)⟩, ⟨3, 33, (isV (signed q.den false) k)⟩] [(0, (isR q k))] (by kernel_rfl) (by kernel_rfl) (look_stb _ ⟨(stb_eq _), (stb_D _ _), (stb_V _ _), stb_true, trivial⟩) ⟨stb_true, (stb_R _ _), trivial⟩ ⟨(stb_R _ _), trivial⟩ ⟨fun _ _ => trivial, trivial⟩ ⟨shV, trivial⟩
    ⟨.inr (.inl ⟨rfl, _, (List.Mem.head _), rfl, rfl, (fun _ _ h => h)⟩), .inr (.inl ⟨rfl, _, (List.Mem.tail _ (List.Mem.head _)), rfl, rfl, (fun _ _ h => h)⟩), .inl ⟨_, (List.Mem.head _), rfl, rfl, (fun _ _ h => h)⟩, trivial⟩
    ⟨.inr ⟨(by kernel_rfl), _, (List.Mem.head _), rfl, (fun _ _ h => h)⟩, trivial⟩
    (steps (m := 5) (by kernel_rfl) ⟨stepN (i := 0) (dst := some 6) (op := (.fieldAddr 35 (.tmp 1) 1)) (by kernel_rfl) (fieldV (off := 2) (sz := 1) (List.Mem.tail _ (List.Mem.head _)) (by kernel_rfl) (fun _ _ h => h)),
      stepN (i := 1) (dst := some 7) (op := (.load 31 (.tmp 6))) (by kernel_rfl) (loadP (r := (isD q.den k)) (by kernel_rfl) (fun _ _ h => h) (List.Mem.tail _ (List.Mem.head _)) (by kernel_rfl) (by kernel_rfl) rfl fldRD (fun _ _ h => h)),
      stepN (i := 2) (dst := some 8) (op := (.call { callee := .value (.func 42), args := #[(.tmp 7), (.const (.bool false))], argTypes := #[31, 4] })) (by kernel_rfl) (call2 (enters_of Tryz.func42 (by kernel_rfl) rfl) (argT (p := (isD q.den k)) (by kernel_rfl) (fun _ _ h => h)) (argC (.bool false)) (fun w u1 u2 h1 h2 => by subst h2; exact ofV_any h1) (fun _ _ h => h)),
      isAlloc rfl,
      isStore rfl, trivial⟩) ?_
  clear hS kf a
  try clear w
  intro kf a w hS
  refine region_seq (s := soft) (kf0 := kf) (by kernel_rfl) hS (Rg.look [(10, (isE (.pointer (some ⟨kf 1, 0, none⟩)))),
      (11, (isV q.num k)),
      (12, (isV (signed q.den false) k)),
      (13, (IsT [(isV (zdiv q.num (signed q.den false)) 2000), (isV (zmod q.num (signed q.den false)) 10000)])),
      (9, (IsT [(isV (zdiv q.num (signed q.den false)) 2000), (isV (zmod q.num (signed q.den false)) 10000)])),
      (14, (isV (zdiv q.num (signed q.den false)) 2000)),
      (15, (isV (zmod q.num (signed q.den false)) 10000)),
      (4, isX),
      (5, isX)])
    ⟨[(7, 4, 33), (8, 5, 33)], [(9, 4, 14, 33), (10, 5, 15, 33)]⟩ [⟨2, 33, isX⟩, ⟨1, 35, (isR q k)⟩, ⟨3, 33, (isV (signed q.den false) k)⟩, ⟨4, 33, (isV (zdiv q.num (signed q.den false)) 2000)⟩, ⟨5, 33, (isV (zmod q.num (signed q.den false)) 10000)⟩] [(0, (isR q k))] (by kernel_rfl) (by kernel_rfl) (look_stb _ ⟨(stb_eq _), (stb_V _ _), (stb_V _ _), (stb_T ⟨(stb_V _ _), (stb_V _ _), trivial⟩), (stb_T ⟨(stb_V _ _), (stb_V _ _), trivial⟩), (stb_V _ _), (stb_V _ _), stb_true, stb_true, trivial⟩) ⟨stb_true, (stb_R _ _), (stb_V _ _), trivial⟩ ⟨(stb_R _ _), trivial⟩ ⟨fun _ _ => trivial, fun _ _ => trivial, trivial⟩ ⟨shV, shV, trivial⟩
    ⟨.inr (.inl ⟨rfl, _, (List.Mem.head _), rfl, rfl, (fun _ _ h => h)⟩), .inr (.inl ⟨rfl, _, (List.Mem.tail _ (List.Mem.head _)), rfl, rfl, (fun _ _ h => h)⟩), .inr (.inl ⟨rfl, _, (List.Mem.tail _ (List.Mem.tail _ (List.Mem.head _))), rfl, rfl, (fun _ _ h => h)⟩), .inl ⟨_, (List.Mem.head _), rfl, rfl, (fun _ _ h => h)⟩, .inl ⟨_, (List.Mem.tail _ (List.Mem.head _)), rfl, rfl, (fun _ _ h => h)⟩, trivial⟩
    ⟨.inr ⟨(by kernel_rfl), _, (List.Mem.head _), rfl, (fun _ _ h => h)⟩, trivial⟩
    (steps (m := 11) (by kernel_rfl) ⟨stepN (i := 0) (dst := some 10) (op := (.fieldAddr 35 (.tmp 1) 0)) (by kernel_rfl) (fieldV (off := 0) (sz := 2) (List.Mem.tail _ (List.Mem.head _)) (by kernel_rfl) (fun _ _ h => h)),
      stepN (i := 1) (dst := some 11) (op := (.load 33 (.tmp 10))) (by kernel_rfl) (loadF (sz := 2) (r := (isV q.num k)) (by kernel_rfl) (fun _ _ h => h) (List.Mem.tail _ (List.Mem.head _)) (by kernel_rfl) (by kernel_rfl) (by kernel_rfl) rfl fldRV (fun _ _ h => h)),
      stepN (i := 2) (dst := some 12) (op := (.load 33 (.tmp 3))) (by kernel_rfl) (loadV (List.Mem.tail _ (List.Mem.tail _ (List.Mem.head _))) (by kernel_rfl) (fun _ _ h => h)),
      stepN (i := 3) (dst := some 13) (op := (.call { callee := .value (.func 59), args := #[(.tmp 11), (.tmp 12)], argTypes := #[33, 33] })) (by kernel_rfl) (call2 (enters_of Tryz.func59 (by kernel_rfl) rfl) (argT (p := (isV q.num k)) (by kernel_rfl) (fun _ _ h => h)) (argT (p := (isV (signed q.den false) k)) (by kernel_rfl) (fun _ _ h => h)) (fun w u1 u2 h1 h2 => floorV_any h1 h2 (by omega) (by omega) hm) (fun _ _ ⟨_, _, e, g1, g2⟩ => e ▸ IsT.mk2 g1 g2)),
      stepN (i := 4) (dst := some 9) (op := (.move (.tmp 13))) (by kernel_rfl) (move (argT (p := (IsT [(isV (zdiv q.num (signed q.den false)) 2000), (isV (zmod q.num (signed q.den false)) 10000)])) (by kernel_rfl) (fun _ _ h => h)) (fun _ _ h => h)),
      stepN (i := 5) (dst := some 14) (op := (.extract (.tmp 9) 0)) (by kernel_rfl) (extract (by kernel_rfl) (fun _ _ h => h) rfl (fun _ _ h => h)),
      stepN (i := 6) (dst := some 15) (op := (.extract (.tmp 9) 1)) (by kernel_rfl) (extract (by kernel_rfl) (fun _ _ h => h) rfl (fun _ _ h => h)),
      isAlloc rfl,
      isAlloc rfl,
      isStore rfl,
      isStore rfl, trivial⟩) ?_
  clear hS kf a
  try clear w
  intro kf a w hS
  refine region_seq (s := soft) (kf0 := kf) (by kernel_rfl) hS (Rg.look [(16, (isV (zdiv q.num (signed q.den false)) 2000))])
    ⟨[], [(1, 2, 16, 33)]⟩ [⟨2, 33, (isV (zdiv q.num (signed q.den false)) 2000)⟩, ⟨1, 35, (isR q k)⟩, ⟨3, 33, (isV (signed q.den false) k)⟩, ⟨4, 33, (isV (zdiv q.num (signed q.den false)) 2000)⟩, ⟨5, 33, (isV (zmod q.num (signed q.den false)) 10000)⟩] [(0, (isR q k))] (by kernel_rfl) (by kernel_rfl) (look_stb _ ⟨(stb_V _ _), trivial⟩) ⟨stb_true, (stb_R _ _), (stb_V _ _), (stb_V _ _), (stb_V _ _), trivial⟩ ⟨(stb_R _ _), trivial⟩ trivial ⟨shV, trivial⟩
    ⟨.inl ⟨_, (List.Mem.head _), rfl, rfl, (fun _ _ h => h)⟩, .inr (.inl ⟨rfl, _, (List.Mem.tail _ (List.Mem.head _)), rfl, rfl, (fun _ _ h => h)⟩), .inr (.inl ⟨rfl, _, (List.Mem.tail _ (List.Mem.tail _ (List.Mem.head _))), rfl, rfl, (fun _ _ h => h)⟩), .inr (.inl ⟨rfl, _, (List.Mem.tail _ (List.Mem.tail _ (List.Mem.tail _ (List.Mem.head _)))), rfl, rfl, (fun _ _ h => h)⟩), .inr (.inl ⟨rfl, _, (List.Mem.tail _ (List.Mem.tail _ (List.Mem.tail _ (List.Mem.tail _ (List.Mem.head _))))), rfl, rfl, (fun _ _ h => h)⟩), trivial⟩
    ⟨.inr ⟨(by kernel_rfl), _, (List.Mem.head _), rfl, (fun _ _ h => h)⟩, trivial⟩
    (steps (m := 2) (by kernel_rfl) ⟨stepN (i := 0) (dst := some 16) (op := (.load 33 (.tmp 4))) (by kernel_rfl) (loadV (List.Mem.tail _ (List.Mem.tail _ (List.Mem.tail _ (List.Mem.head _)))) (by kernel_rfl) (fun _ _ h => h)),
      isStore rfl, trivial⟩) ?_
  clear hS kf a
  try clear w
  intro kf a w hS
  exact wp_ret (ret_c (q := (isV (zdiv q.num (signed q.den false)) 2000)) (by kernel_rfl) hS (List.Mem.head _) (fun v h => ⟨v, rfl, (floor_zdiv q ▸ h), hS.grow⟩))
set_option maxRecDepth 100000 in
set_option maxHeartbeats 4000000 in
theorem print_r1 {w : World} {v0 : Value} {q : Rat} {k : Nat} (h0 : (isR q k) w v0) (hk : k ≤ 100000) (hd : q.den = 1) : Calls Tryz.prog 9 #[v0] w (Ret w fun v w' => (isT (qtext q)) w' v) := by
  have hl : Dx.len q.den = 1 := by rw [hd]; exact dlen_one
  refine enter (s := soft) (n := 27) (c := (.seq (.region 0 (regionOps Tryz.f9 0) false) (.seq (.region 1 (regionOps Tryz.f9 1) false) (.seq (.seq (.region 2 (regionOps Tryz.f9 2) false) (.cond (.tmp 18) (.seq (.region 3 (regionOps Tryz.f9 3) false) .ret) .skip)) (.seq (.region 4 (regionOps Tryz.f9 4) false) (.seq (.region 5 (regionOps Tryz.f9 5) false) .ret)))))) Tryz.func9 (by kernel_rfl) (by kernel_rfl) (by simp) [(0, (isR q k))] ⟨⟨by simp, h0⟩, trivial⟩ ?_
  intro kf a hS
  refine plain_seq (m := 2) (by kernel_rfl) ?_
  refine box0 (p := 1) (y := 0) (t := 35) (q := (isR q k)) hS (by kernel_rfl) rfl rfl rfl (List.Mem.head _) shR trivial ⟨(stb_R _ _), trivial⟩ ?_
  clear hS kf a
  try clear w
  intro kf a w hS
  refine const0 (p := 2) (c := (.string (str []))) hS (by kernel_rfl) rfl rfl rfl ?_
  clear hS kf a
  try clear w
  intro kf a w hS
  refine plain_end ?_
  refine region_seq (s := soft) (kf0 := kf) (by kernel_rfl) hS (Rg.look [(5, (isE (.pointer (some ⟨kf 1, 0, none⟩)))),
      (6, (isV q.num k)),
      (7, (isT (ztext q.num))),
      (3, (isT (ztext q.num)))])
    ⟨[], []⟩ [⟨1, 35, (isR q k)⟩] [(2, (isE (.string (str [])))), (0, (isR q k)), (3, (isT (ztext q.num)))] (by kernel_rfl) (by kernel_rfl) (look_stb _ ⟨(stb_eq _), (stb_V _ _), (stb_eq _), (stb_eq _), trivial⟩) ⟨(stb_R _ _), trivial⟩ ⟨(stb_eq _), (stb_R _ _), trivial⟩ trivial trivial
    ⟨.inr (.inl ⟨rfl, _, (List.Mem.head _), rfl, rfl, (fun _ _ h => h)⟩), trivial⟩
    ⟨.inr ⟨(by kernel_rfl), _, (List.Mem.head _), rfl, (fun _ _ h => h)⟩, .inr ⟨(by kernel_rfl), _, (List.Mem.tail _ (List.Mem.head _)), rfl, (fun _ _ h => h)⟩, .inl ⟨(by kernel_rfl), rfl, (fun _ _ h => h)⟩, trivial⟩
    (steps (m := 4) (by kernel_rfl) ⟨stepN (i := 0) (dst := some 5) (op := (.fieldAddr 35 (.tmp 1) 0)) (by kernel_rfl) (fieldV (off := 0) (sz := 2) (List.Mem.head _) (by kernel_rfl) (fun _ _ h => h)),
      stepN (i := 1) (dst := some 6) (op := (.load 33 (.tmp 5))) (by kernel_rfl) (loadF (sz := 2) (r := (isV q.num k)) (by kernel_rfl) (fun _ _ h => h) (List.Mem.head _) (by kernel_rfl) (by kernel_rfl) (by kernel_rfl) rfl fldRV (fun _ _ h => h)),
      stepN (i := 2) (dst := some 7) (op := (.call { callee := .value (.func 24), args := #[(.tmp 6)], argTypes := #[33] })) (by kernel_rfl) (call1 (enters_of Tryz.func24 (by kernel_rfl) rfl) (argT (p := (isV q.num k)) (by kernel_rfl) (fun _ _ h => h)) (fun w u1 h1 => printV h1 (by omega)) (fun _ _ h => h)),
      stepN (i := 3) (dst := some 3) (op := (.assign (.tmp 7))) (by kernel_rfl) (assign (argT (p := (isT (ztext q.num))) (by kernel_rfl) (fun _ _ h => h)) (fun _ _ h => h)), trivial⟩) ?_
  clear hS kf a
  try clear w
  intro kf a w hS
  refine wp_seq ?_
  refine region_seq (s := soft) (kf0 := kf) (by kernel_rfl) hS (Rg.look [(8, (isE (.pointer (some ⟨kf 1, 2, none⟩)))),
      (9, (isD q.den k)),
      (10, (isE (.int .i64 ((Dx.len q.den : Nat) : Int)))),
      (11, (isE (.bool true))),
      (12, (isE (.bool true))),
      (13, (isE (.pointer (some ⟨kf 1, 2, none⟩)))),
      (14, (isD q.den k)),
      (15, (isA (q.den : Nat))),
      (16, (isE (.int .i64 (q.den : Nat)))),
      (17, (isE (.bool true))),
      (18, (isE (.bool true)))])
    ⟨[], []⟩ [⟨1, 35, (isR q k)⟩] [(2, (isE (.string (str [])))), (0, (isR q k)), (3, (isT (ztext q.num))), (18, (isE (.bool true)))] (by kernel_rfl) (by kernel_rfl) (look_stb _ ⟨(stb_eq _), (stb_D _ _), (stb_eq _), (stb_eq _), (stb_eq _), (stb_eq _), (stb_D _ _), (stb_A _), (stb_eq _), (stb_eq _), (stb_eq _), trivial⟩) ⟨(stb_R _ _), trivial⟩ ⟨(stb_eq _), (stb_R _ _), (stb_eq _), trivial⟩ trivial trivial
    ⟨.inr (.inl ⟨rfl, _, (List.Mem.head _), rfl, rfl, (fun _ _ h => h)⟩), trivial⟩
    ⟨.inr ⟨(by kernel_rfl), _, (List.Mem.head _), rfl, (fun _ _ h => h)⟩, .inr ⟨(by kernel_rfl), _, (List.Mem.tail _ (List.Mem.head _)), rfl, (fun _ _ h => h)⟩, .inr ⟨(by kernel_rfl), _, (List.Mem.tail _ (List.Mem.tail _ (List.Mem.head _))), rfl, (fun _ _ h => h)⟩, .inl ⟨(by kernel_rfl), rfl, (fun _ _ h => h)⟩, trivial⟩
    (steps (m := 11) (by kernel_rfl) ⟨stepN (i := 0) (dst := some 8) (op := (.fieldAddr 35 (.tmp 1) 1)) (by kernel_rfl) (fieldV (off := 2) (sz := 1) (List.Mem.head _) (by kernel_rfl) (fun _ _ h => h)),
      stepN (i := 1) (dst := some 9) (op := (.load 31 (.tmp 8))) (by kernel_rfl) (loadP (r := (isD q.den k)) (by kernel_rfl) (fun _ _ h => h) (List.Mem.head _) (by kernel_rfl) (by kernel_rfl) rfl fldRD (fun _ _ h => h)),
      stepN (i := 2) (dst := some 10) (op := (.call { callee := .builtin .len, args := #[(.tmp 9)], argTypes := #[31] })) (by kernel_rfl) (lenD (argT (p := (isD q.den k)) (by kernel_rfl) (fun _ _ h => h)) rfl (fun _ _ h => h)),
      stepN (i := 3) (dst := some 11) (op := (.binOp .eql 3 (.tmp 10) (.const (.int .i64 1)) 3)) (by kernel_rfl) (eql (m := ((Dx.len q.den : Nat) : Int)) (n := 1) (argT (p := (isE (.int .i64 ((Dx.len q.den : Nat) : Int)))) (by kernel_rfl) (fun _ _ h => h)) (argC (.int .i64 1)) (fun w v h => h.trans (congrArg _ (by rw [hl]; rfl)))),
      stepN (i := 4) (dst := some 12) (op := (.move (.tmp 11))) (by kernel_rfl) (move (argT (p := (isE (.bool true))) (by kernel_rfl) (fun _ _ h => h)) (fun _ _ h => h)),
      stepG (i := 5) (j := 4) (dj := 12) (b := true) (dst := some 13) (op := (.fieldAddr 35 (.tmp 1) 1)) (by kernel_rfl) (by kernel_rfl) (by kernel_rfl) (fun _ _ h => h) (fieldV (off := 2) (sz := 1) (List.Mem.head _) (by kernel_rfl) (fun _ _ h => h)),
      stepG (i := 6) (j := 4) (dj := 12) (b := true) (dst := some 14) (op := (.load 31 (.tmp 13))) (by kernel_rfl) (by kernel_rfl) (by kernel_rfl) (fun _ _ h => h) (loadP (r := (isD q.den k)) (by kernel_rfl) (fun _ _ h => h) (List.Mem.head _) (by kernel_rfl) (by kernel_rfl) rfl fldRD (fun _ _ h => h)),
      stepG (i := 7) (j := 4) (dj := 12) (b := true) (dst := some 15) (op := (.indexAddr 31 (.tmp 14) (.const (.int .i64 0)))) (by kernel_rfl) (by kernel_rfl) (by kernel_rfl) (fun _ _ h => h) (idxD (argT (p := (isD q.den k)) (by kernel_rfl) (fun _ _ h => h)) hl (fun _ _ h => h)),
      stepG (i := 8) (j := 4) (dj := 12) (b := true) (dst := some 16) (op := (.load 3 (.tmp 15))) (by kernel_rfl) (by kernel_rfl) (by kernel_rfl) (fun _ _ h => h) (loadA (argT (p := (isA (q.den : Nat))) (by kernel_rfl) (fun _ _ h => h)) (fun _ _ h => h)),
      stepG (i := 9) (j := 4) (dj := 12) (b := true) (dst := some 17) (op := (.binOp .eql 3 (.tmp 16) (.const (.int .i64 1)) 3)) (by kernel_rfl) (by kernel_rfl) (by kernel_rfl) (fun _ _ h => h) (eql (m := (q.den : Nat)) (n := 1) (argT (p := (isE (.int .i64 (q.den : Nat)))) (by kernel_rfl) (fun _ _ h => h)) (argC (.int .i64 1)) (fun w v h => h.trans (congrArg _ (by rw [hd]; rfl)))),
      stepN (i := 10) (dst := some 18) (op := (.pick (.tmp 12) (.tmp 17) (.const (.bool false)))) (by kernel_rfl) (pickT (argT (p := (isE (.bool true))) (by kernel_rfl) (fun _ _ h => h)) (argT (p := (isE (.bool true))) (by kernel_rfl) (fun _ _ h => h)) (fun _ _ h => h)), trivial⟩) ?_
  clear hS kf a
  try clear w
  intro kf a w hS
  refine cond_true (q := (isE (.bool true))) hS (List.Mem.tail _ (List.Mem.tail _ (List.Mem.tail _ (List.Mem.head _)))) (fun _ _ h => h) ?_
  refine region_seq (s := soft) (kf0 := kf) (by kernel_rfl) hS (Rg.look [(19, (isT (ztext q.num))),
      (2, (isT (ztext q.num)))])
    ⟨[], []⟩ [⟨1, 35, (isR q k)⟩] [(0, (isR q k)), (3, (isT (ztext q.num))), (18, (isE (.bool true))), (2, (isT (ztext q.num)))] (by kernel_rfl) (by kernel_rfl) (look_stb _ ⟨(stb_eq _), (stb_eq _), trivial⟩) ⟨(stb_R _ _), trivial⟩ ⟨(stb_eq _), (stb_R _ _), (stb_eq _), (stb_eq _), trivial⟩ trivial trivial
    ⟨.inr (.inl ⟨rfl, _, (List.Mem.head _), rfl, rfl, (fun _ _ h => h)⟩), trivial⟩
    ⟨.inr ⟨(by kernel_rfl), _, (List.Mem.tail _ (List.Mem.head _)), rfl, (fun _ _ h => h)⟩, .inr ⟨(by kernel_rfl), _, (List.Mem.tail _ (List.Mem.tail _ (List.Mem.head _))), rfl, (fun _ _ h => h)⟩, .inr ⟨(by kernel_rfl), _, (List.Mem.tail _ (List.Mem.tail _ (List.Mem.tail _ (List.Mem.head _)))), rfl, (fun _ _ h => h)⟩, .inl ⟨(by kernel_rfl), rfl, (fun _ _ h => h)⟩, trivial⟩
    (steps (m := 2) (by kernel_rfl) ⟨stepN (i := 0) (dst := some 19) (op := (.move (.tmp 3))) (by kernel_rfl) (move (argO (p := (isT (ztext q.num))) (List.Mem.tail _ (List.Mem.tail _ (List.Mem.head _))) (by kernel_rfl)) (fun _ _ h => h)),
      stepN (i := 1) (dst := some 2) (op := (.assign (.tmp 19))) (by kernel_rfl) (assign (argT (p := (isT (ztext q.num))) (by kernel_rfl) (fun _ _ h => h)) (fun _ _ h => h)), trivial⟩) ?_
  clear hS kf a
  try clear w
  intro kf a w hS
  exact wp_ret (ret_t (q := (isT (ztext q.num))) (by kernel_rfl) hS (List.Mem.tail _ (List.Mem.tail _ (List.Mem.tail _ (List.Mem.head _)))) (fun v h => ⟨v, rfl, (by rw [qtext, if_pos hd]; exact h), hS.grow⟩))
set_option maxRecDepth 100000 in
set_option maxHeartbeats 4000000 in
theorem print_r2 {w : World} {v0 : Value} {q : Rat} {k : Nat} (h0 : (isR q k) w v0) (hk : k ≤ 100000) (hd : q.den ≠ 1) (hl : Dx.len q.den ≠ 1) : Calls Tryz.prog 9 #[v0] w (Ret w fun v w' => (isT (qtext q)) w' v) := by
  have hl1 := ztext_dlen h0.num_dlen
  have hl2 := text_dlen h0.den_dlen
  refine enter (s := soft) (n := 27) (c := (.seq (.region 0 (regionOps Tryz.f9 0) false) (.seq (.region 1 (regionOps Tryz.f9 1) false) (.seq (.seq (.region 2 (regionOps Tryz.f9 2) false) (.cond (.tmp 18) (.seq (.region 3 (regionOps Tryz.f9 3) false) .ret) .skip)) (.seq (.region 4 (regionOps Tryz.f9 4) false) (.seq (.region 5 (regionOps Tryz.f9 5) false) .ret)))))) Tryz.func9 (by kernel_rfl) (by kernel_rfl) (by simp) [(0, (isR q k))] ⟨⟨by simp, h0⟩, trivial⟩ ?_
  intro kf a hS
  refine plain_seq (m := 2) (by kernel_rfl) ?_
  refine box0 (p := 1) (y := 0) (t := 35) (q := (isR q k)) hS (by kernel_rfl) rfl rfl rfl (List.Mem.head _) shR trivial ⟨(stb_R _ _), trivial⟩ ?_
  clear hS kf a
  try clear w
  intro kf a w hS
  refine const0 (p := 2) (c := (.string (str []))) hS (by kernel_rfl) rfl rfl rfl ?_
  clear hS kf a
  try clear w
  intro kf a w hS
  refine plain_end ?_
  refine region_seq (s := soft) (kf0 := kf) (by kernel_rfl) hS (Rg.look [(5, (isE (.pointer (some ⟨kf 1, 0, none⟩)))),
      (6, (isV q.num k)),
      (7, (isT (ztext q.num))),
      (3, (isT (ztext q.num)))])
    ⟨[], []⟩ [⟨1, 35, (isR q k)⟩] [(2, (isE (.string (str [])))), (0, (isR q k)), (3, (isT (ztext q.num)))] (by kernel_rfl) (by kernel_rfl) (look_stb _ ⟨(stb_eq _), (stb_V _ _), (stb_eq _), (stb_eq _), trivial⟩) ⟨(stb_R _ _), trivial⟩ ⟨(stb_eq _), (stb_R _ _), trivial⟩ trivial trivial
    ⟨.inr (.inl ⟨rfl, _, (List.Mem.head _), rfl, rfl, (fun _ _ h => h)⟩), trivial⟩
    ⟨.inr ⟨(by kernel_rfl), _, (List.Mem.head _), rfl, (fun _ _ h => h)⟩, .inr ⟨(by kernel_rfl), _, (List.Mem.tail _ (List.Mem.head _)), rfl, (fun _ _ h => h)⟩, .inl ⟨(by kernel_rfl), rfl, (fun _ _ h => h)⟩, trivial⟩
    (steps (m := 4) (by kernel_rfl) ⟨stepN (i := 0) (dst := some 5) (op := (.fieldAddr 35 (.tmp 1) 0)) (by kernel_rfl) (fieldV (off := 0) (sz := 2) (List.Mem.head _) (by kernel_rfl) (fun _ _ h => h)),
      stepN (i := 1) (dst := some 6) (op := (.load 33 (.tmp 5))) (by kernel_rfl) (loadF (sz := 2) (r := (isV q.num k)) (by kernel_rfl) (fun _ _ h => h) (List.Mem.head _) (by kernel_rfl) (by kernel_rfl) (by kernel_rfl) rfl fldRV (fun _ _ h => h)),
      stepN (i := 2) (dst := some 7) (op := (.call { callee := .value (.func 24), args := #[(.tmp 6)], argTypes := #[33] })) (by kernel_rfl) (call1 (enters_of Tryz.func24 (by kernel_rfl) rfl) (argT (p := (isV q.num k)) (by kernel_rfl) (fun _ _ h => h)) (fun w u1 h1 => printV h1 (by omega)) (fun _ _ h => h)),
      stepN (i := 3) (dst := some 3) (op := (.assign (.tmp 7))) (by kernel_rfl) (assign (argT (p := (isT (ztext q.num))) (by kernel_rfl) (fun _ _ h => h)) (fun _ _ h => h)), trivial⟩) ?_
  clear hS kf a
  try clear w
  intro kf a w hS
  refine wp_seq ?_
  refine region_seq (s := soft) (kf0 := kf) (by kernel_rfl) hS (Rg.look [(8, (isE (.pointer (some ⟨kf 1, 2, none⟩)))),
      (9, (isD q.den k)),
      (10, (isE (.int .i64 ((Dx.len q.den : Nat) : Int)))),
      (11, (isE (.bool false))),
      (12, (isE (.bool false))),
      (13, (isE undef)),
      (14, (isE undef)),
      (15, (isE undef)),
      (16, (isE undef)),
      (17, (isE undef)),
      (18, (isE (.bool false)))])
    ⟨[], []⟩ [⟨1, 35, (isR q k)⟩] [(2, (isE (.string (str [])))), (0, (isR q k)), (3, (isT (ztext q.num))), (18, (isE (.bool false)))] (by kernel_rfl) (by kernel_rfl) (look_stb _ ⟨(stb_eq _), (stb_D _ _), (stb_eq _), (stb_eq _), (stb_eq _), (stb_eq _), (stb_eq _), (stb_eq _), (stb_eq _), (stb_eq _), (stb_eq _), trivial⟩) ⟨(stb_R _ _), trivial⟩ ⟨(stb_eq _), (stb_R _ _), (stb_eq _), trivial⟩ trivial trivial
    ⟨.inr (.inl ⟨rfl, _, (List.Mem.head _), rfl, rfl, (fun _ _ h => h)⟩), trivial⟩
    ⟨.inr ⟨(by kernel_rfl), _, (List.Mem.head _), rfl, (fun _ _ h => h)⟩, .inr ⟨(by kernel_rfl), _, (List.Mem.tail _ (List.Mem.head _)), rfl, (fun _ _ h => h)⟩, .inr ⟨(by kernel_rfl), _, (List.Mem.tail _ (List.Mem.tail _ (List.Mem.head _))), rfl, (fun _ _ h => h)⟩, .inl ⟨(by kernel_rfl), rfl, (fun _ _ h => h)⟩, trivial⟩
    (steps (m := 11) (by kernel_rfl) ⟨stepN (i := 0) (dst := some 8) (op := (.fieldAddr 35 (.tmp 1) 1)) (by kernel_rfl) (fieldV (off := 2) (sz := 1) (List.Mem.head _) (by kernel_rfl) (fun _ _ h => h)),
      stepN (i := 1) (dst := some 9) (op := (.load 31 (.tmp 8))) (by kernel_rfl) (loadP (r := (isD q.den k)) (by kernel_rfl) (fun _ _ h => h) (List.Mem.head _) (by kernel_rfl) (by kernel_rfl) rfl fldRD (fun _ _ h => h)),
      stepN (i := 2) (dst := some 10) (op := (.call { callee := .builtin .len, args := #[(.tmp 9)], argTypes := #[31] })) (by kernel_rfl) (lenD (argT (p := (isD q.den k)) (by kernel_rfl) (fun _ _ h => h)) rfl (fun _ _ h => h)),
      stepN (i := 3) (dst := some 11) (op := (.binOp .eql 3 (.tmp 10) (.const (.int .i64 1)) 3)) (by kernel_rfl) (eql (m := ((Dx.len q.den : Nat) : Int)) (n := 1) (argT (p := (isE (.int .i64 ((Dx.len q.den : Nat) : Int)))) (by kernel_rfl) (fun _ _ h => h)) (argC (.int .i64 1)) (fun w v h => h.trans (congrArg _ (decide_eq_false (by omega))))),
      stepN (i := 4) (dst := some 12) (op := (.move (.tmp 11))) (by kernel_rfl) (move (argT (p := (isE (.bool false))) (by kernel_rfl) (fun _ _ h => h)) (fun _ _ h => h)),
      stepS (i := 5) (j := 4) (dj := 12) (b := true) (c := false) (dst := some 13) (op := (.fieldAddr 35 (.tmp 1) 1)) (by kernel_rfl) (by kernel_rfl) (by kernel_rfl) (fun _ _ h => h) rfl (fun d hd w => by cases hd; exact rfl),
      stepS (i := 6) (j := 4) (dj := 12) (b := true) (c := false) (dst := some 14) (op := (.load 31 (.tmp 13))) (by kernel_rfl) (by kernel_rfl) (by kernel_rfl) (fun _ _ h => h) rfl (fun d hd w => by cases hd; exact rfl),
      stepS (i := 7) (j := 4) (dj := 12) (b := true) (c := false) (dst := some 15) (op := (.indexAddr 31 (.tmp 14) (.const (.int .i64 0)))) (by kernel_rfl) (by kernel_rfl) (by kernel_rfl) (fun _ _ h => h) rfl (fun d hd w => by cases hd; exact rfl),
      stepS (i := 8) (j := 4) (dj := 12) (b := true) (c := false) (dst := some 16) (op := (.load 3 (.tmp 15))) (by kernel_rfl) (by kernel_rfl) (by kernel_rfl) (fun _ _ h => h) rfl (fun d hd w => by cases hd; exact rfl),
      stepS (i := 9) (j := 4) (dj := 12) (b := true) (c := false) (dst := some 17) (op := (.binOp .eql 3 (.tmp 16) (.const (.int .i64 1)) 3)) (by kernel_rfl) (by kernel_rfl) (by kernel_rfl) (fun _ _ h => h) rfl (fun d hd w => by cases hd; exact rfl),
      stepN (i := 10) (dst := some 18) (op := (.pick (.tmp 12) (.tmp 17) (.const (.bool false)))) (by kernel_rfl) (pickF (argT (p := (isE (.bool false))) (by kernel_rfl) (fun _ _ h => h)) (argC (.bool false)) (fun _ _ h => h)), trivial⟩) ?_
  clear hS kf a
  try clear w
  intro kf a w hS
  refine cond_false (q := (isE (.bool false))) hS (List.Mem.tail _ (List.Mem.tail _ (List.Mem.tail _ (List.Mem.head _)))) (fun _ _ h => h) ?_
  refine skip_then ?_
  refine region_seq (s := soft) (kf0 := kf) (by kernel_rfl) hS (Rg.look [(20, (isE (.pointer (some ⟨kf 1, 2, none⟩)))),
      (21, (isD q.den k)),
      (22, (isT (Tx.text q.den))),
      (4, (isT (Tx.text q.den)))])
    ⟨[], []⟩ [⟨1, 35, (isR q k)⟩] [(2, (isE (.string (str [])))), (0, (isR q k)), (3, (isT (ztext q.num))), (18, (isE (.bool false))), (4, (isT (Tx.text q.den)))] (by kernel_rfl) (by kernel_rfl) (look_stb _ ⟨(stb_eq _), (stb_D _ _), (stb_eq _), (stb_eq _), trivial⟩) ⟨(stb_R _ _), trivial⟩ ⟨(stb_eq _), (stb_R _ _), (stb_eq _), (stb_eq _), trivial⟩ trivial trivial
    ⟨.inr (.inl ⟨rfl, _, (List.Mem.head _), rfl, rfl, (fun _ _ h => h)⟩), trivial⟩
    ⟨.inr ⟨(by kernel_rfl), _, (List.Mem.head _), rfl, (fun _ _ h => h)⟩, .inr ⟨(by kernel_rfl), _, (List.Mem.tail _ (List.Mem.head _)), rfl, (fun _ _ h => h)⟩, .inr ⟨(by kernel_rfl), _, (List.Mem.tail _ (List.Mem.tail _ (List.Mem.head _))), rfl, (fun _ _ h => h)⟩, .inr ⟨(by kernel_rfl), _, (List.Mem.tail _ (List.Mem.tail _ (List.Mem.tail _ (List.Mem.head _)))), rfl, (fun _ _ h => h)⟩, .inl ⟨(by kernel_rfl), rfl, (fun _ _ h => h)⟩, trivial⟩
    (steps (m := 4) (by kernel_rfl) ⟨stepN (i := 0) (dst := some 20) (op := (.fieldAddr 35 (.tmp 1) 1)) (by kernel_rfl) (fieldV (off := 2) (sz := 1) (List.Mem.head _) (by kernel_rfl) (fun _ _ h => h)),
      stepN (i := 1) (dst := some 21) (op := (.load 31 (.tmp 20))) (by kernel_rfl) (loadP (r := (isD q.den k)) (by kernel_rfl) (fun _ _ h => h) (List.Mem.head _) (by kernel_rfl) (by kernel_rfl) rfl fldRD (fun _ _ h => h)),
      stepN (i := 2) (dst := some 22) (op := (.call { callee := .value (.func 43), args := #[(.tmp 21)], argTypes := #[31] })) (by kernel_rfl) (call1 (enters_of Tryz.func43 (by kernel_rfl) rfl) (argT (p := (isD q.den k)) (by kernel_rfl) (fun _ _ h => h)) (fun w u1 h1 => refPrint_any _ _ _ _ h1 (by omega)) (fun _ _ h => h)),
      stepN (i := 3) (dst := some 4) (op := (.assign (.tmp 22))) (by kernel_rfl) (assign (argT (p := (isT (Tx.text q.den))) (by kernel_rfl) (fun _ _ h => h)) (fun _ _ h => h)), trivial⟩) ?_
  clear hS kf a
  try clear w
  intro kf a w hS
  refine region_seq (s := soft) (kf0 := kf) (by kernel_rfl) hS (Rg.look [(23, (isT (ztext q.num))),
      (24, (isT (ztext q.num ++ [47]))),
      (25, (isT (Tx.text q.den))),
      (26, (isT (ztext q.num ++ [47] ++ Tx.text q.den))),
      (2, (isT (ztext q.num ++ [47] ++ Tx.text q.den)))])
    ⟨[], []⟩ [⟨1, 35, (isR q k)⟩] [(0, (isR q k)), (3, (isT (ztext q.num))), (18, (isE (.bool false))), (4, (isT (Tx.text q.den))), (2, (isT (ztext q.num ++ [47] ++ Tx.text q.den)))] (by kernel_rfl) (by kernel_rfl) (look_stb _ ⟨(stb_eq _), (stb_eq _), (stb_eq _), (stb_eq _), (stb_eq _), trivial⟩) ⟨(stb_R _ _), trivial⟩ ⟨(stb_eq _), (stb_R _ _), (stb_eq _), (stb_eq _), (stb_eq _), trivial⟩ trivial trivial
    ⟨.inr (.inl ⟨rfl, _, (List.Mem.head _), rfl, rfl, (fun _ _ h => h)⟩), trivial⟩
    ⟨.inr ⟨(by kernel_rfl), _, (List.Mem.tail _ (List.Mem.head _)), rfl, (fun _ _ h => h)⟩, .inr ⟨(by kernel_rfl), _, (List.Mem.tail _ (List.Mem.tail _ (List.Mem.head _))), rfl, (fun _ _ h => h)⟩, .inr ⟨(by kernel_rfl), _, (List.Mem.tail _ (List.Mem.tail _ (List.Mem.tail _ (List.Mem.head _)))), rfl, (fun _ _ h => h)⟩, .inr ⟨(by kernel_rfl), _, (List.Mem.tail _ (List.Mem.tail _ (List.Mem.tail _ (List.Mem.tail _ (List.Mem.head _))))), rfl, (fun _ _ h => h)⟩, .inl ⟨(by kernel_rfl), rfl, (fun _ _ h => h)⟩, trivial⟩
    (steps (m := 5) (by kernel_rfl) ⟨stepN (i := 0) (dst := some 23) (op := (.move (.tmp 3))) (by kernel_rfl) (move (argO (p := (isT (ztext q.num))) (List.Mem.tail _ (List.Mem.tail _ (List.Mem.head _))) (by kernel_rfl)) (fun _ _ h => h)),
      stepN (i := 1) (dst := some 24) (op := (.binOp .add 9 (.tmp 23) (.const (.string (str [47]))) 9)) (by kernel_rfl) (addS (l := ztext q.num) (r := [47]) (argT (p := (isT (ztext q.num))) (by kernel_rfl) (fun _ _ h => h)) (argC _) (by simp; omega) (fun _ _ h => h)),
      stepN (i := 2) (dst := some 25) (op := (.move (.tmp 4))) (by kernel_rfl) (move (argO (p := (isT (Tx.text q.den))) (List.Mem.tail _ (List.Mem.tail _ (List.Mem.tail _ (List.Mem.tail _ (List.Mem.head _))))) (by kernel_rfl)) (fun _ _ h => h)),
      stepN (i := 3) (dst := some 26) (op := (.binOp .add 9 (.tmp 24) (.tmp 25) 9)) (by kernel_rfl) (addS (l := ztext q.num ++ [47]) (r := Tx.text q.den) (argT (p := (isT (ztext q.num ++ [47]))) (by kernel_rfl) (fun _ _ h => h)) (argT (p := (isT (Tx.text q.den))) (by kernel_rfl) (fun _ _ h => h)) (by simp; omega) (fun _ _ h => h)),
      stepN (i := 4) (dst := some 2) (op := (.assign (.tmp 26))) (by kernel_rfl) (assign (argT (p := (isT (ztext q.num ++ [47] ++ Tx.text q.den))) (by kernel_rfl) (fun _ _ h => h)) (fun _ _ h => h)), trivial⟩) ?_
  clear hS kf a
  try clear w
  intro kf a w hS
  exact wp_ret (ret_t (q := (isT (ztext q.num ++ [47] ++ Tx.text q.den))) (by kernel_rfl) hS (List.Mem.tail _ (List.Mem.tail _ (List.Mem.tail _ (List.Mem.tail _ (List.Mem.head _))))) (fun v h => ⟨v, rfl, (by rw [qtext, if_neg hd]; exact h), hS.grow⟩))
set_option maxRecDepth 100000 in
set_option maxHeartbeats 4000000 in
theorem print_r3 {w : World} {v0 : Value} {q : Rat} {k : Nat} (h0 : (isR q k) w v0) (hk : k ≤ 100000) (hd : q.den ≠ 1) (hl : Dx.len q.den = 1) : Calls Tryz.prog 9 #[v0] w (Ret w fun v w' => (isT (qtext q)) w' v) := by
  have hl1 := ztext_dlen h0.num_dlen
  have hl2 := text_dlen h0.den_dlen
  refine enter (s := soft) (n := 27) (c := (.seq (.region 0 (regionOps Tryz.f9 0) false) (.seq (.region 1 (regionOps Tryz.f9 1) false) (.seq (.seq (.region 2 (regionOps Tryz.f9 2) false) (.cond (.tmp 18) (.seq (.region 3 (regionOps Tryz.f9 3) false) .ret) .skip)) (.seq (.region 4 (regionOps Tryz.f9 4) false) (.seq (.region 5 (regionOps Tryz.f9 5) false) .ret)))))) Tryz.func9 (by kernel_rfl) (by kernel_rfl) (by simp) [(0, (isR q k))] ⟨⟨by simp, h0⟩, trivial⟩ ?_
  intro kf a hS
  refine plain_seq (m := 2) (by kernel_rfl) ?_
  refine box0 (p := 1) (y := 0) (t := 35) (q := (isR q k)) hS (by kernel_rfl) rfl rfl rfl (List.Mem.head _) shR trivial ⟨(stb_R _ _), trivial⟩ ?_
  clear hS kf a
  try clear w
  intro kf a w hS
  refine const0 (p := 2) (c := (.string (str []))) hS (by kernel_rfl) rfl rfl rfl ?_
  clear hS kf a
  try clear w
  intro kf a w hS
  refine plain_end ?_
  refine region_seq (s := soft) (kf0 := kf) (by kernel_rfl) hS (Rg.look [(5, (isE (.pointer (some ⟨kf 1, 0, none⟩)))),
      (6, (isV q.num k)),
      (7, (isT (ztext q.num))),
      (3, (isT (ztext q.num)))])
    ⟨[], []⟩ [⟨1, 35, (isR q k)⟩] [(2, (isE (.string (str [])))), (0, (isR q k)), (3, (isT (ztext q.num)))] (by kernel_rfl) (by kernel_rfl) (look_stb _ ⟨(stb_eq _), (stb_V _ _), (stb_eq _), (stb_eq _), trivial⟩) ⟨(stb_R _ _), trivial⟩ ⟨(stb_eq _), (stb_R _ _), trivial⟩ trivial trivial
    ⟨.inr (.inl ⟨rfl, _, (List.Mem.head _), rfl, rfl, (fun _ _ h => h)⟩), trivial⟩
    ⟨.inr ⟨(by kernel_rfl), _, (List.Mem.head _), rfl, (fun _ _ h => h)⟩, .inr ⟨(by kernel_rfl), _, (List.Mem.tail _ (List.Mem.head _)), rfl, (fun _ _ h => h)⟩, .inl ⟨(by kernel_rfl), rfl, (fun _ _ h => h)⟩, trivial⟩
    (steps (m := 4) (by kernel_rfl) ⟨stepN (i := 0) (dst := some 5) (op := (.fieldAddr 35 (.tmp 1) 0)) (by kernel_rfl) (fieldV (off := 0) (sz := 2) (List.Mem.head _) (by kernel_rfl) (fun _ _ h => h)),
      stepN (i := 1) (dst := some 6) (op := (.load 33 (.tmp 5))) (by kernel_rfl) (loadF (sz := 2) (r := (isV q.num k)) (by kernel_rfl) (fun _ _ h => h) (List.Mem.head _) (by kernel_rfl) (by kernel_rfl) (by kernel_rfl) rfl fldRV (fun _ _ h => h)),
      stepN (i := 2) (dst := some 7) (op := (.call { callee := .value (.func 24), args := #[(.tmp 6)], argTypes := #[33] })) (by kernel_rfl) (call1 (enters_of Tryz.func24 (by kernel_rfl) rfl) (argT (p := (isV q.num k)) (by kernel_rfl) (fun _ _ h => h)) (fun w u1 h1 => printV h1 (by omega)) (fun _ _ h => h)),
      stepN (i := 3) (dst := some 3) (op := (.assign (.tmp 7))) (by kernel_rfl) (assign (argT (p := (isT (ztext q.num))) (by kernel_rfl) (fun _ _ h => h)) (fun _ _ h => h)), trivial⟩) ?_
  clear hS kf a
  try clear w
  intro kf a w hS
  refine wp_seq ?_
  refine region_seq (s := soft) (kf0 := kf) (by kernel_rfl) hS (Rg.look [(8, (isE (.pointer (some ⟨kf 1, 2, none⟩)))),
      (9, (isD q.den k)),
      (10, (isE (.int .i64 ((Dx.len q.den : Nat) : Int)))),
      (11, (isE (.bool true))),
      (12, (isE (.bool true))),
      (13, (isE (.pointer (some ⟨kf 1, 2, none⟩)))),
      (14, (isD q.den k)),
      (15, (isA (q.den : Nat))),
      (16, (isE (.int .i64 (q.den : Nat)))),
      (17, (isE (.bool false))),
      (18, (isE (.bool false)))])
    ⟨[], []⟩ [⟨1, 35, (isR q k)⟩] [(2, (isE (.string (str [])))), (0, (isR q k)), (3, (isT (ztext q.num))), (18, (isE (.bool false)))] (by kernel_rfl) (by kernel_rfl) (look_stb _ ⟨(stb_eq _), (stb_D _ _), (stb_eq _), (stb_eq _), (stb_eq _), (stb_eq _), (stb_D _ _), (stb_A _), (stb_eq _), (stb_eq _), (stb_eq _), trivial⟩) ⟨(stb_R _ _), trivial⟩ ⟨(stb_eq _), (stb_R _ _), (stb_eq _), trivial⟩ trivial trivial
    ⟨.inr (.inl ⟨rfl, _, (List.Mem.head _), rfl, rfl, (fun _ _ h => h)⟩), trivial⟩
    ⟨.inr ⟨(by kernel_rfl), _, (List.Mem.head _), rfl, (fun _ _ h => h)⟩, .inr ⟨(by kernel_rfl), _, (List.Mem.tail _ (List.Mem.head _)), rfl, (fun _ _ h => h)⟩, .inr ⟨(by kernel_rfl), _, (List.Mem.tail _ (List.Mem.tail _ (List.Mem.head _))), rfl, (fun _ _ h => h)⟩, .inl ⟨(by kernel_rfl), rfl, (fun _ _ h => h)⟩, trivial⟩
    (steps (m := 11) (by kernel_rfl) ⟨stepN (i := 0) (dst := some 8) (op := (.fieldAddr 35 (.tmp 1) 1)) (by kernel_rfl) (fieldV (off := 2) (sz := 1) (List.Mem.head _) (by kernel_rfl) (fun _ _ h => h)),
      stepN (i := 1) (dst := some 9) (op := (.load 31 (.tmp 8))) (by kernel_rfl) (loadP (r := (isD q.den k)) (by kernel_rfl) (fun _ _ h => h) (List.Mem.head _) (by kernel_rfl) (by kernel_rfl) rfl fldRD (fun _ _ h => h)),
      stepN (i := 2) (dst := some 10) (op := (.call { callee := .builtin .len, args := #[(.tmp 9)], argTypes := #[31] })) (by kernel_rfl) (lenD (argT (p := (isD q.den k)) (by kernel_rfl) (fun _ _ h => h)) rfl (fun _ _ h => h)),
      stepN (i := 3) (dst := some 11) (op := (.binOp .eql 3 (.tmp 10) (.const (.int .i64 1)) 3)) (by kernel_rfl) (eql (m := ((Dx.len q.den : Nat) : Int)) (n := 1) (argT (p := (isE (.int .i64 ((Dx.len q.den : Nat) : Int)))) (by kernel_rfl) (fun _ _ h => h)) (argC (.int .i64 1)) (fun w v h => h.trans (congrArg _ (by rw [hl]; rfl)))),
      stepN (i := 4) (dst := some 12) (op := (.move (.tmp 11))) (by kernel_rfl) (move (argT (p := (isE (.bool true))) (by kernel_rfl) (fun _ _ h => h)) (fun _ _ h => h)),
      stepG (i := 5) (j := 4) (dj := 12) (b := true) (dst := some 13) (op := (.fieldAddr 35 (.tmp 1) 1)) (by kernel_rfl) (by kernel_rfl) (by kernel_rfl) (fun _ _ h => h) (fieldV (off := 2) (sz := 1) (List.Mem.head _) (by kernel_rfl) (fun _ _ h => h)),
      stepG (i := 6) (j := 4) (dj := 12) (b := true) (dst := some 14) (op := (.load 31 (.tmp 13))) (by kernel_rfl) (by kernel_rfl) (by kernel_rfl) (fun _ _ h => h) (loadP (r := (isD q.den k)) (by kernel_rfl) (fun _ _ h => h) (List.Mem.head _) (by kernel_rfl) (by kernel_rfl) rfl fldRD (fun _ _ h => h)),
      stepG (i := 7) (j := 4) (dj := 12) (b := true) (dst := some 15) (op := (.indexAddr 31 (.tmp 14) (.const (.int .i64 0)))) (by kernel_rfl) (by kernel_rfl) (by kernel_rfl) (fun _ _ h => h) (idxD (argT (p := (isD q.den k)) (by kernel_rfl) (fun _ _ h => h)) hl (fun _ _ h => h)),
      stepG (i := 8) (j := 4) (dj := 12) (b := true) (dst := some 16) (op := (.load 3 (.tmp 15))) (by kernel_rfl) (by kernel_rfl) (by kernel_rfl) (fun _ _ h => h) (loadA (argT (p := (isA (q.den : Nat))) (by kernel_rfl) (fun _ _ h => h)) (fun _ _ h => h)),
      stepG (i := 9) (j := 4) (dj := 12) (b := true) (dst := some 17) (op := (.binOp .eql 3 (.tmp 16) (.const (.int .i64 1)) 3)) (by kernel_rfl) (by kernel_rfl) (by kernel_rfl) (fun _ _ h => h) (eql (m := (q.den : Nat)) (n := 1) (argT (p := (isE (.int .i64 (q.den : Nat)))) (by kernel_rfl) (fun _ _ h => h)) (argC (.int .i64 1)) (fun w v h => h.trans (congrArg _ (decide_eq_false (by omega))))),
      stepN (i := 10) (dst := some 18) (op := (.pick (.tmp 12) (.tmp 17) (.const (.bool false)))) (by kernel_rfl) (pickT (argT (p := (isE (.bool true))) (by kernel_rfl) (fun _ _ h => h)) (argT (p := (isE (.bool false))) (by kernel_rfl) (fun _ _ h => h)) (fun _ _ h => h)), trivial⟩) ?_
  clear hS kf a
  try clear w
  intro kf a w hS
  refine cond_false (q := (isE (.bool false))) hS (List.Mem.tail _ (List.Mem.tail _ (List.Mem.tail _ (List.Mem.head _)))) (fun _ _ h => h) ?_
  refine skip_then ?_
  refine region_seq (s := soft) (kf0 := kf) (by kernel_rfl) hS (Rg.look [(20, (isE (.pointer (some ⟨kf 1, 2, none⟩)))),
      (21, (isD q.den k)),
      (22, (isT (Tx.text q.den))),
      (4, (isT (Tx.text q.den)))])
    ⟨[], []⟩ [⟨1, 35, (isR q k)⟩] [(2, (isE (.string (str [])))), (0, (isR q k)), (3, (isT (ztext q.num))), (18, (isE (.bool false))), (4, (isT (Tx.text q.den)))] (by kernel_rfl) (by kernel_rfl) (look_stb _ ⟨(stb_eq _), (stb_D _ _), (stb_eq _), (stb_eq _), trivial⟩) ⟨(stb_R _ _), trivial⟩ ⟨(stb_eq _), (stb_R _ _), (stb_eq _), (stb_eq _), trivial⟩ trivial trivial
    ⟨.inr (.inl ⟨rfl, _, (List.Mem.head _), rfl, rfl, (fun _ _ h => h)⟩), trivial⟩
    ⟨.inr ⟨(by kernel_rfl), _, (List.Mem.head _), rfl, (fun _ _ h => h)⟩, .inr ⟨(by kernel_rfl), _, (List.Mem.tail _ (List.Mem.head _)), rfl, (fun _ _ h => h)⟩, .inr ⟨(by kernel_rfl), _, (List.Mem.tail _ (List.Mem.tail _ (List.Mem.head _))), rfl, (fun _ _ h => h)⟩, .inr ⟨(by kernel_rfl), _, (List.Mem.tail _ (List.Mem.tail _ (List.Mem.tail _ (List.Mem.head _)))), rfl, (fun _ _ h => h)⟩, .inl ⟨(by kernel_rfl), rfl, (fun _ _ h => h)⟩, trivial⟩
    (steps (m := 4) (by kernel_rfl) ⟨stepN (i := 0) (dst := some 20) (op := (.fieldAddr 35 (.tmp 1) 1)) (by kernel_rfl) (fieldV (off := 2) (sz := 1) (List.Mem.head _) (by kernel_rfl) (fun _ _ h => h)),
      stepN (i := 1) (dst := some 21) (op := (.load 31 (.tmp 20))) (by kernel_rfl) (loadP (r := (isD q.den k)) (by kernel_rfl) (fun _ _ h => h) (List.Mem.head _) (by kernel_rfl) (by kernel_rfl) rfl fldRD (fun _ _ h => h)),
      stepN (i := 2) (dst := some 22) (op := (.call { callee := .value (.func 43), args := #[(.tmp 21)], argTypes := #[31] })) (by kernel_rfl) (call1 (enters_of Tryz.func43 (by kernel_rfl) rfl) (argT (p := (isD q.den k)) (by kernel_rfl) (fun _ _ h => h)) (fun w u1 h1 => refPrint_any _ _ _ _ h1 (by omega)) (fun _ _ h => h)),
      stepN (i := 3) (dst := some 4) (op := (.assign (.tmp 22))) (by kernel_rfl) (assign (argT (p := (isT (Tx.text q.den))) (by kernel_rfl) (fun _ _ h => h)) (fun _ _ h => h)), trivial⟩) ?_
  clear hS kf a
  try clear w
  intro kf a w hS
  refine region_seq (s := soft) (kf0 := kf) (by kernel_rfl) hS (Rg.look [(23, (isT (ztext q.num))),
      (24, (isT (ztext q.num ++ [47]))),
      (25, (isT (Tx.text q.den))),
      (26, (isT (ztext q.num ++ [47] ++ Tx.text q.den))),
      (2, (isT (ztext q.num ++ [47] ++ Tx.text q.den)))])
    ⟨[], []⟩ [⟨1, 35, (isR q k)⟩] [(0, (isR q k)), (3, (isT (ztext q.num))), (18, (isE (.bool false))), (4, (isT (Tx.text q.den))), (2, (isT (ztext q.num ++ [47] ++ Tx.text q.den)))] (by kernel_rfl) (by kernel_rfl) (look_stb _ ⟨(stb_eq _), (stb_eq _), (stb_eq _), (stb_eq _), (stb_eq _), trivial⟩) ⟨(stb_R _ _), trivial⟩ ⟨(stb_eq _), (stb_R _ _), (stb_eq _), (stb_eq _), (stb_eq _), trivial⟩ trivial trivial
    ⟨.inr (.inl ⟨rfl, _, (List.Mem.head _), rfl, rfl, (fun _ _ h => h)⟩), trivial⟩
    ⟨.inr ⟨(by kernel_rfl), _, (List.Mem.tail _ (List.Mem.head _)), rfl, (fun _ _ h => h)⟩, .inr ⟨(by kernel_rfl), _, (List.Mem.tail _ (List.Mem.tail _ (List.Mem.head _))), rfl, (fun _ _ h => h)⟩, .inr ⟨(by kernel_rfl), _, (List.Mem.tail _ (List.Mem.tail _ (List.Mem.tail _ (List.Mem.head _)))), rfl, (fun _ _ h => h)⟩, .inr ⟨(by kernel_rfl), _, (List.Mem.tail _ (List.Mem.tail _ (List.Mem.tail _ (List.Mem.tail _ (List.Mem.head _))))), rfl, (fun _ _ h => h)⟩, .inl ⟨(by kernel_rfl), rfl, (fun _ _ h => h)⟩, trivial⟩
    (steps (m := 5) (by kernel_rfl) ⟨stepN (i := 0) (dst := some 23) (op := (.move (.tmp 3))) (by kernel_rfl) (move (argO (p := (isT (ztext q.num))) (List.Mem.tail _ (List.Mem.tail _ (List.Mem.head _))) (by kernel_rfl)) (fun _ _ h => h)),
      stepN (i := 1) (dst := some 24) (op := (.binOp .add 9 (.tmp 23) (.const (.string (str [47]))) 9)) (by kernel_rfl) (addS (l := ztext q.num) (r := [47]) (argT (p := (isT (ztext q.num))) (by kernel_rfl) (fun _ _ h => h)) (argC _) (by simp; omega) (fun _ _ h => h)),
      stepN (i := 2) (dst := some 25) (op := (.move (.tmp 4))) (by kernel_rfl) (move (argO (p := (isT (Tx.text q.den))) (List.Mem.tail _ (List.Mem.tail _ (List.Mem.tail _ (List.Mem.tail _ (List.Mem.head _))))) (by kernel_rfl)) (fun _ _ h => h)),
      stepN (i := 3) (dst := some 26) (op := (.binOp .add 9 (.tmp 24) (.tmp 25) 9)) (by kernel_rfl) (addS (l := ztext q.num ++ [47]) (r := Tx.text q.den) (argT (p := (isT (ztext q.num ++ [47]))) (by kernel_rfl) (fun _ _ h => h)) (argT (p := (isT (Tx.text q.den))) (by kernel_rfl) (fun _ _ h => h)) (by simp; omega) (fun _ _ h => h)),
      stepN (i := 4) (dst := some 2) (op := (.assign (.tmp 26))) (by kernel_rfl) (assign (argT (p := (isT (ztext q.num ++ [47] ++ Tx.text q.den))) (by kernel_rfl) (fun _ _ h => h)) (fun _ _ h => h)), trivial⟩) ?_
  clear hS kf a
  try clear w
  intro kf a w hS
  exact wp_ret (ret_t (q := (isT (ztext q.num ++ [47] ++ Tx.text q.den))) (by kernel_rfl) hS (List.Mem.tail _ (List.Mem.tail _ (List.Mem.tail _ (List.Mem.tail _ (List.Mem.head _))))) (fun v h => ⟨v, rfl, (by rw [qtext, if_neg hd]; exact h), hS.grow⟩))
theorem print_r {w : World} {v : Value} {q : Rat} {k : Nat} (h : isR q k w v) (hk : k ≤ 100000) : Calls Tryz.prog 9 #[v] w (Ret w fun v' w' => isT (qtext q) w' v') := by
  by_cases hd : q.den = 1
  · exact print_r1 h hk hd
  · by_cases hl : Dx.len q.den = 1
    · exact print_r3 h hk hd hl
    · exact print_r2 h hk hd hl
end Go.Proofs.YtlkiikchjeapfaaGreatDoor.Z
