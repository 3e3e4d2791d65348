/- The reference of layer 5. Written by a script (tools/laws). -/
import Derived.Test.YtlkiikchjeapfaaDoorFrF
namespace Go.Proofs.YtlkiikchjeapfaaDoor.Z
open Go.RowKit Go.Proofs.YtlkiikchjeapfaaDoor.Rg
set_option maxRecDepth 100000 in
set_option maxHeartbeats 4000000 in
theorem make_r {w : World} {v0 v1 : Value} {z : Int} {n k j : Nat} (h0 : (isV z k) w v0) (h1 : (isD n j) w v1) (hk : k ≤ 100000) (hj : j ≤ 100000) (hn : n ≠ 0) : Calls Tryd.prog 25 #[v0, v1] w (Ret w fun v w' => (isR (mkRat z n) (max k j)) w' v) := by
  have hg : 0 < Nat.gcd (Int.natAbs z) n := Nat.gcd_pos_of_pos_right _ (by omega)
  refine enter (s := soft) (n := 35) (c := (.seq (.region 0 (regionOps Tryd.f25 0) false) (.seq (.region 1 (regionOps Tryd.f25 1) false) (.seq (.region 2 (regionOps Tryd.f25 2) false) (.seq (.region 3 (regionOps Tryd.f25 3) false) (.seq (.region 4 (regionOps Tryd.f25 4) false) (.seq (.region 5 (regionOps Tryd.f25 5) false) .ret))))))) Tryd.func25 (by kernel_rfl) (by kernel_rfl) (by simp) [(0, (isV z k)), (1, (isD n j))] ⟨⟨by simp, h0⟩, ⟨by simp, h1⟩, trivial⟩ ?_
  intro kf a hS
  refine plain_seq (m := 2) (by kernel_rfl) ?_
  refine box0 (p := 2) (y := 0) (t := 33) (q := (isV z k)) hS (by kernel_rfl) rfl rfl rfl (List.Mem.head _) shV trivial ⟨(stb_V _ _), (stb_D _ _), trivial⟩ ?_
  clear hS kf a
  try clear w
  intro kf a w hS
  refine alloc0 (p := 4) (t := 35) hS (by kernel_rfl) rfl rfl rfl (by kernel_rfl) ⟨(stb_V _ _), trivial⟩ ⟨(stb_V _ _), (stb_D _ _), trivial⟩ ?_
  clear hS kf a
  try clear w
  intro kf a w hS
  refine plain_end ?_
  refine region_seq (s := soft) (kf0 := kf) (by kernel_rfl) hS (Rg.look [(11, (isE (.pointer (some ⟨kf 2, 0, none⟩)))),
      (12, (isD (Int.natAbs z) k)),
      (13, (isD n j)),
      (14, (isD (Nat.gcd (Int.natAbs z) n) (max k j))),
      (5, (isD (Nat.gcd (Int.natAbs z) n) (max k j)))])
    ⟨[], []⟩ [⟨4, 35, isX⟩, ⟨2, 33, (isV z k)⟩] [(0, (isV z k)), (1, (isD n j)), (5, (isD (Nat.gcd (Int.natAbs z) n) (max k j)))] (by kernel_rfl) (by kernel_rfl) (look_stb _ ⟨(stb_eq _), (stb_D _ _), (stb_D _ _), (stb_D _ _), (stb_D _ _), trivial⟩) ⟨stb_true, (stb_V _ _), trivial⟩ ⟨(stb_V _ _), (stb_D _ _), trivial⟩ trivial trivial
    ⟨.inr (.inl ⟨rfl, _, (List.Mem.head _), rfl, rfl, (fun _ _ h => h)⟩), .inr (.inl ⟨rfl, _, (List.Mem.tail _ (List.Mem.head _)), rfl, rfl, (fun _ _ h => h)⟩), trivial⟩
    ⟨.inr ⟨(by kernel_rfl), _, (List.Mem.head _), rfl, (fun _ _ h => h)⟩, .inr ⟨(by kernel_rfl), _, (List.Mem.tail _ (List.Mem.head _)), rfl, (fun _ _ h => h)⟩, .inl ⟨(by kernel_rfl), rfl, (fun _ _ h => h)⟩, trivial⟩
    (steps (m := 5) (by kernel_rfl) ⟨stepN (i := 0) (dst := some 11) (op := (.fieldAddr 33 (.tmp 2) 0)) (by kernel_rfl) (fieldV (off := 0) (sz := 1) (List.Mem.tail _ (List.Mem.head _)) (by kernel_rfl) (fun _ _ h => h)),
      stepN (i := 1) (dst := some 12) (op := (.load 31 (.tmp 11))) (by kernel_rfl) (loadP (r := (isD (Int.natAbs z) k)) (by kernel_rfl) (fun _ _ h => h) (List.Mem.tail _ (List.Mem.head _)) (by kernel_rfl) (by kernel_rfl) rfl fldVD (fun _ _ h => h)),
      stepN (i := 2) (dst := some 13) (op := (.move (.tmp 1))) (by kernel_rfl) (move (argO (p := (isD n j)) (List.Mem.tail _ (List.Mem.head _)) (by kernel_rfl)) (fun _ _ h => h)),
      stepN (i := 3) (dst := some 14) (op := (.call { callee := .value (.func 50), args := #[(.tmp 12), (.tmp 13)], argTypes := #[31, 31] })) (by kernel_rfl) (call2 (enters_of Tryd.func50 (by kernel_rfl) rfl) (argT (p := (isD (Int.natAbs z) k)) (by kernel_rfl) (fun _ _ h => h)) (argT (p := (isD n j)) (by kernel_rfl) (fun _ _ h => h)) (fun w u1 u2 h1 h2 => refGcd_any _ _ _ _ _ (max k j) (by omega) (h1.weak' (by omega)) (h2.weak' (by omega))) (fun _ _ h => h)),
      stepN (i := 4) (dst := some 5) (op := (.assign (.tmp 14))) (by kernel_rfl) (assign (argT (p := (isD (Nat.gcd (Int.natAbs z) n) (max k j))) (by kernel_rfl) (fun _ _ h => h)) (fun _ _ h => h)), trivial⟩) ?_
  clear hS kf a
  try clear w
  intro kf a w hS
  refine region_seq (s := soft) (kf0 := kf) (by kernel_rfl) hS (Rg.look [(16, (isE (.pointer (some ⟨kf 2, 0, none⟩)))),
      (17, (isD (Int.natAbs z) k)),
      (18, (isD (Nat.gcd (Int.natAbs z) n) (max k j))),
      (19, (IsT [(isD ((Int.natAbs z) / (Nat.gcd (Int.natAbs z) n)) k), (isD ((Int.natAbs z) % (Nat.gcd (Int.natAbs z) n)) (max k j))])),
      (15, (IsT [(isD ((Int.natAbs z) / (Nat.gcd (Int.natAbs z) n)) k), (isD ((Int.natAbs z) % (Nat.gcd (Int.natAbs z) n)) (max k j))])),
      (20, (isD ((Int.natAbs z) / (Nat.gcd (Int.natAbs z) n)) k)),
      (21, (isD ((Int.natAbs z) % (Nat.gcd (Int.natAbs z) n)) (max k j))),
      (6, (isD ((Int.natAbs z) / (Nat.gcd (Int.natAbs z) n)) k)),
      (7, (isD ((Int.natAbs z) % (Nat.gcd (Int.natAbs z) n)) (max k j)))])
    ⟨[], []⟩ [⟨4, 35, isX⟩, ⟨2, 33, (isV z k)⟩] [(0, (isV z k)), (1, (isD n j)), (5, (isD (Nat.gcd (Int.natAbs z) n) (max k j))), (6, (isD ((Int.natAbs z) / (Nat.gcd (Int.natAbs z) n)) k))] (by kernel_rfl) (by kernel_rfl) (look_stb _ ⟨(stb_eq _), (stb_D _ _), (stb_D _ _), (stb_T ⟨(stb_D _ _), (stb_D _ _), trivial⟩), (stb_T ⟨(stb_D _ _), (stb_D _ _), trivial⟩), (stb_D _ _), (stb_D _ _), (stb_D _ _), (stb_D _ _), trivial⟩) ⟨stb_true, (stb_V _ _), trivial⟩ ⟨(stb_V _ _), (stb_D _ _), (stb_D _ _), trivial⟩ trivial trivial
    ⟨.inr (.inl ⟨rfl, _, (List.Mem.head _), rfl, rfl, (fun _ _ h => h)⟩), .inr (.inl ⟨rfl, _, (List.Mem.tail _ (List.Mem.head _)), rfl, rfl, (fun _ _ h => h)⟩), trivial⟩
    ⟨.inr ⟨(by kernel_rfl), _, (List.Mem.head _), rfl, (fun _ _ h => h)⟩, .inr ⟨(by kernel_rfl), _, (List.Mem.tail _ (List.Mem.head _)), rfl, (fun _ _ h => h)⟩, .inr ⟨(by kernel_rfl), _, (List.Mem.tail _ (List.Mem.tail _ (List.Mem.head _))), rfl, (fun _ _ h => h)⟩, .inl ⟨(by kernel_rfl), rfl, (fun _ _ h => h)⟩, trivial⟩
    (steps (m := 9) (by kernel_rfl) ⟨stepN (i := 0) (dst := some 16) (op := (.fieldAddr 33 (.tmp 2) 0)) (by kernel_rfl) (fieldV (off := 0) (sz := 1) (List.Mem.tail _ (List.Mem.head _)) (by kernel_rfl) (fun _ _ h => h)),
      stepN (i := 1) (dst := some 17) (op := (.load 31 (.tmp 16))) (by kernel_rfl) (loadP (r := (isD (Int.natAbs z) k)) (by kernel_rfl) (fun _ _ h => h) (List.Mem.tail _ (List.Mem.head _)) (by kernel_rfl) (by kernel_rfl) rfl fldVD (fun _ _ h => h)),
      stepN (i := 2) (dst := some 18) (op := (.move (.tmp 5))) (by kernel_rfl) (move (argO (p := (isD (Nat.gcd (Int.natAbs z) n) (max k j))) (List.Mem.tail _ (List.Mem.tail _ (List.Mem.head _))) (by kernel_rfl)) (fun _ _ h => h)),
      stepN (i := 3) (dst := some 19) (op := (.call { callee := .value (.func 51), args := #[(.tmp 17), (.tmp 18)], argTypes := #[31, 31] })) (by kernel_rfl) (call2 (enters_of Tryd.func51 (by kernel_rfl) rfl) (argT (p := (isD (Int.natAbs z) k)) (by kernel_rfl) (fun _ _ h => h)) (argT (p := (isD (Nat.gcd (Int.natAbs z) n) (max k j))) (by kernel_rfl) (fun _ _ h => h)) (fun w u1 u2 h1 h2 => refDivMod_any _ _ _ _ _ _ _ (by omega) (by omega) h1 h2 hg) (fun _ _ ⟨_, _, e, g1, g2⟩ => e ▸ IsT.mk2 g1 g2)),
      stepN (i := 4) (dst := some 15) (op := (.move (.tmp 19))) (by kernel_rfl) (move (argT (p := (IsT [(isD ((Int.natAbs z) / (Nat.gcd (Int.natAbs z) n)) k), (isD ((Int.natAbs z) % (Nat.gcd (Int.natAbs z) n)) (max k j))])) (by kernel_rfl) (fun _ _ h => h)) (fun _ _ h => h)),
      stepN (i := 5) (dst := some 20) (op := (.extract (.tmp 15) 0)) (by kernel_rfl) (extract (by kernel_rfl) (fun _ _ h => h) rfl (fun _ _ h => h)),
      stepN (i := 6) (dst := some 21) (op := (.extract (.tmp 15) 1)) (by kernel_rfl) (extract (by kernel_rfl) (fun _ _ h => h) rfl (fun _ _ h => h)),
      stepN (i := 7) (dst := some 6) (op := (.assign (.tmp 20))) (by kernel_rfl) (assign (argT (p := (isD ((Int.natAbs z) / (Nat.gcd (Int.natAbs z) n)) k)) (by kernel_rfl) (fun _ _ h => h)) (fun _ _ h => h)),
      stepN (i := 8) (dst := some 7) (op := (.assign (.tmp 21))) (by kernel_rfl) (assign (argT (p := (isD ((Int.natAbs z) % (Nat.gcd (Int.natAbs z) n)) (max k j))) (by kernel_rfl) (fun _ _ h => h)) (fun _ _ h => h)), trivial⟩) ?_
  clear hS kf a
  try clear w
  intro kf a w hS
  refine region_seq (s := soft) (kf0 := kf) (by kernel_rfl) hS (Rg.look [(23, (isD n j)),
      (24, (isD (Nat.gcd (Int.natAbs z) n) (max k j))),
      (25, (IsT [(isD (n / (Nat.gcd (Int.natAbs z) n)) j), (isD (n % (Nat.gcd (Int.natAbs z) n)) (max k j))])),
      (22, (IsT [(isD (n / (Nat.gcd (Int.natAbs z) n)) j), (isD (n % (Nat.gcd (Int.natAbs z) n)) (max k j))])),
      (26, (isD (n / (Nat.gcd (Int.natAbs z) n)) j)),
      (27, (isD (n % (Nat.gcd (Int.natAbs z) n)) (max k j))),
      (8, (isD (n / (Nat.gcd (Int.natAbs z) n)) j)),
      (9, (isD (n % (Nat.gcd (Int.natAbs z) n)) (max k j)))])
    ⟨[], []⟩ [⟨4, 35, isX⟩, ⟨2, 33, (isV z k)⟩] [(0, (isV z k)), (1, (isD n j)), (5, (isD (Nat.gcd (Int.natAbs z) n) (max k j))), (6, (isD ((Int.natAbs z) / (Nat.gcd (Int.natAbs z) n)) k)), (8, (isD (n / (Nat.gcd (Int.natAbs z) n)) j))] (by kernel_rfl) (by kernel_rfl) (look_stb _ ⟨(stb_D _ _), (stb_D _ _), (stb_T ⟨(stb_D _ _), (stb_D _ _), trivial⟩), (stb_T ⟨(stb_D _ _), (stb_D _ _), trivial⟩), (stb_D _ _), (stb_D _ _), (stb_D _ _), (stb_D _ _), trivial⟩) ⟨stb_true, (stb_V _ _), trivial⟩ ⟨(stb_V _ _), (stb_D _ _), (stb_D _ _), (stb_D _ _), trivial⟩ trivial trivial
    ⟨.inr (.inl ⟨rfl, _, (List.Mem.head _), rfl, rfl, (fun _ _ h => h)⟩), .inr (.inl ⟨rfl, _, (List.Mem.tail _ (List.Mem.head _)), rfl, rfl, (fun _ _ h => h)⟩), trivial⟩
    ⟨.inr ⟨(by kernel_rfl), _, (List.Mem.head _), rfl, (fun _ _ h => h)⟩, .inr ⟨(by kernel_rfl), _, (List.Mem.tail _ (List.Mem.head _)), rfl, (fun _ _ h => h)⟩, .inr ⟨(by kernel_rfl), _, (List.Mem.tail _ (List.Mem.tail _ (List.Mem.head _))), rfl, (fun _ _ h => h)⟩, .inr ⟨(by kernel_rfl), _, (List.Mem.tail _ (List.Mem.tail _ (List.Mem.tail _ (List.Mem.head _)))), rfl, (fun _ _ h => h)⟩, .inl ⟨(by kernel_rfl), rfl, (fun _ _ h => h)⟩, trivial⟩
    (steps (m := 8) (by kernel_rfl) ⟨stepN (i := 0) (dst := some 23) (op := (.move (.tmp 1))) (by kernel_rfl) (move (argO (p := (isD n j)) (List.Mem.tail _ (List.Mem.head _)) (by kernel_rfl)) (fun _ _ h => h)),
      stepN (i := 1) (dst := some 24) (op := (.move (.tmp 5))) (by kernel_rfl) (move (argO (p := (isD (Nat.gcd (Int.natAbs z) n) (max k j))) (List.Mem.tail _ (List.Mem.tail _ (List.Mem.head _))) (by kernel_rfl)) (fun _ _ h => h)),
      stepN (i := 2) (dst := some 25) (op := (.call { callee := .value (.func 51), args := #[(.tmp 23), (.tmp 24)], argTypes := #[31, 31] })) (by kernel_rfl) (call2 (enters_of Tryd.func51 (by kernel_rfl) rfl) (argT (p := (isD n j)) (by kernel_rfl) (fun _ _ h => h)) (argT (p := (isD (Nat.gcd (Int.natAbs z) n) (max k j))) (by kernel_rfl) (fun _ _ h => h)) (fun w u1 u2 h1 h2 => refDivMod_any _ _ _ _ _ _ _ (by omega) (by omega) h1 h2 hg) (fun _ _ ⟨_, _, e, g1, g2⟩ => e ▸ IsT.mk2 g1 g2)),
      stepN (i := 3) (dst := some 22) (op := (.move (.tmp 25))) (by kernel_rfl) (move (argT (p := (IsT [(isD (n / (Nat.gcd (Int.natAbs z) n)) j), (isD (n % (Nat.gcd (Int.natAbs z) n)) (max k j))])) (by kernel_rfl) (fun _ _ h => h)) (fun _ _ h => h)),
      stepN (i := 4) (dst := some 26) (op := (.extract (.tmp 22) 0)) (by kernel_rfl) (extract (by kernel_rfl) (fun _ _ h => h) rfl (fun _ _ h => h)),
      stepN (i := 5) (dst := some 27) (op := (.extract (.tmp 22) 1)) (by kernel_rfl) (extract (by kernel_rfl) (fun _ _ h => h) rfl (fun _ _ h => h)),
      stepN (i := 6) (dst := some 8) (op := (.assign (.tmp 26))) (by kernel_rfl) (assign (argT (p := (isD (n / (Nat.gcd (Int.natAbs z) n)) j)) (by kernel_rfl) (fun _ _ h => h)) (fun _ _ h => h)),
      stepN (i := 7) (dst := some 9) (op := (.assign (.tmp 27))) (by kernel_rfl) (assign (argT (p := (isD (n % (Nat.gcd (Int.natAbs z) n)) (max k j))) (by kernel_rfl) (fun _ _ h => h)) (fun _ _ h => h)), trivial⟩) ?_
  clear hS kf a
  try clear w
  intro kf a w hS
  refine region_seq (s := soft) (kf0 := kf) (by kernel_rfl) hS (Rg.look [(28, (isD ((Int.natAbs z) / (Nat.gcd (Int.natAbs z) n)) k)),
      (29, (isE (.pointer (some ⟨kf 2, 1, none⟩)))),
      (30, (isE (.bool (decide (z < 0))))),
      (31, (isV (signed ((Int.natAbs z) / (Nat.gcd (Int.natAbs z) n)) (decide (z < 0))) k)),
      (10, isX)])
    ⟨[(4, 10, 33)], [(5, 10, 31, 33)]⟩ [⟨4, 35, isX⟩, ⟨2, 33, (isV z k)⟩, ⟨10, 33, (isV (signed ((Int.natAbs z) / (Nat.gcd (Int.natAbs z) n)) (decide (z < 0))) k)⟩] [(0, (isV z k)), (1, (isD n j)), (5, (isD (Nat.gcd (Int.natAbs z) n) (max k j))), (6, (isD ((Int.natAbs z) / (Nat.gcd (Int.natAbs z) n)) k)), (8, (isD (n / (Nat.gcd (Int.natAbs z) n)) j))] (by kernel_rfl) (by kernel_rfl) (look_stb _ ⟨(stb_D _ _), (stb_eq _), (stb_eq _), (stb_V _ _), stb_true, trivial⟩) ⟨stb_true, (stb_V _ _), trivial⟩ ⟨(stb_V _ _), (stb_D _ _), (stb_D _ _), (stb_D _ _), (stb_D _ _), trivial⟩ ⟨fun _ _ => trivial, trivial⟩ ⟨shV, trivial⟩
    ⟨.inr (.inl ⟨rfl, _, (List.Mem.head _), rfl, rfl, (fun _ _ h => h)⟩), .inr (.inl ⟨rfl, _, (List.Mem.tail _ (List.Mem.head _)), rfl, rfl, (fun _ _ h => h)⟩), .inl ⟨_, (List.Mem.head _), rfl, rfl, (fun _ _ h => h)⟩, trivial⟩
    ⟨.inr ⟨(by kernel_rfl), _, (List.Mem.head _), rfl, (fun _ _ h => h)⟩, .inr ⟨(by kernel_rfl), _, (List.Mem.tail _ (List.Mem.head _)), rfl, (fun _ _ h => h)⟩, .inr ⟨(by kernel_rfl), _, (List.Mem.tail _ (List.Mem.tail _ (List.Mem.head _))), rfl, (fun _ _ h => h)⟩, .inr ⟨(by kernel_rfl), _, (List.Mem.tail _ (List.Mem.tail _ (List.Mem.tail _ (List.Mem.head _)))), rfl, (fun _ _ h => h)⟩, .inr ⟨(by kernel_rfl), _, (List.Mem.tail _ (List.Mem.tail _ (List.Mem.tail _ (List.Mem.tail _ (List.Mem.head _))))), rfl, (fun _ _ h => h)⟩, trivial⟩
    (steps (m := 6) (by kernel_rfl) ⟨stepN (i := 0) (dst := some 28) (op := (.move (.tmp 6))) (by kernel_rfl) (move (argO (p := (isD ((Int.natAbs z) / (Nat.gcd (Int.natAbs z) n)) k)) (List.Mem.tail _ (List.Mem.tail _ (List.Mem.tail _ (List.Mem.head _)))) (by kernel_rfl)) (fun _ _ h => h)),
      stepN (i := 1) (dst := some 29) (op := (.fieldAddr 33 (.tmp 2) 1)) (by kernel_rfl) (fieldV (off := 1) (sz := 1) (List.Mem.tail _ (List.Mem.head _)) (by kernel_rfl) (fun _ _ h => h)),
      stepN (i := 2) (dst := some 30) (op := (.load 4 (.tmp 29))) (by kernel_rfl) (loadP (r := (isE (.bool (decide (z < 0))))) (by kernel_rfl) (fun _ _ h => h) (List.Mem.tail _ (List.Mem.head _)) (by kernel_rfl) (by kernel_rfl) rfl fldVB (fun _ _ h => h)),
      stepN (i := 3) (dst := some 31) (op := (.call { callee := .value (.func 26), args := #[(.tmp 28), (.tmp 30)], argTypes := #[31, 4] })) (by kernel_rfl) (call2 (enters_of Tryd.func26 (by kernel_rfl) rfl) (argT (p := (isD ((Int.natAbs z) / (Nat.gcd (Int.natAbs z) n)) k)) (by kernel_rfl) (fun _ _ h => h)) (argT (p := (isE (.bool (decide (z < 0))))) (by kernel_rfl) (fun _ _ h => h)) (fun w u1 u2 h1 h2 => by subst h2; exact ofV_any h1) (fun _ _ h => h)),
      isAlloc rfl,
      isStore rfl, trivial⟩) ?_
  clear hS kf a
  try clear w
  intro kf a w hS
  refine region_seq (s := soft) (kf0 := kf) (by kernel_rfl) hS (Rg.look [(32, (isV (signed ((Int.natAbs z) / (Nat.gcd (Int.natAbs z) n)) (decide (z < 0))) k)),
      (33, (isD (n / (Nat.gcd (Int.natAbs z) n)) j)),
      (34, (isG (signed ((Int.natAbs z) / (Nat.gcd (Int.natAbs z) n)) (decide (z < 0))) (n / (Nat.gcd (Int.natAbs z) n)) (max k j)))])
    ⟨[], [(3, 4, 34, 35)]⟩ [⟨4, 35, (isG (signed ((Int.natAbs z) / (Nat.gcd (Int.natAbs z) n)) (decide (z < 0))) (n / (Nat.gcd (Int.natAbs z) n)) (max k j))⟩, ⟨2, 33, (isV z k)⟩, ⟨10, 33, (isV (signed ((Int.natAbs z) / (Nat.gcd (Int.natAbs z) n)) (decide (z < 0))) k)⟩] [(0, (isV z k)), (1, (isD n j)), (5, (isD (Nat.gcd (Int.natAbs z) n) (max k j))), (6, (isD ((Int.natAbs z) / (Nat.gcd (Int.natAbs z) n)) k)), (8, (isD (n / (Nat.gcd (Int.natAbs z) n)) j))] (by kernel_rfl) (by kernel_rfl) (look_stb _ ⟨(stb_V _ _), (stb_D _ _), (stb_G _ _ _), trivial⟩) ⟨stb_true, (stb_V _ _), (stb_V _ _), trivial⟩ ⟨(stb_V _ _), (stb_D _ _), (stb_D _ _), (stb_D _ _), (stb_D _ _), trivial⟩ trivial ⟨shG, trivial⟩
    ⟨.inl ⟨_, (List.Mem.head _), rfl, rfl, (fun _ _ h => h)⟩, .inr (.inl ⟨rfl, _, (List.Mem.tail _ (List.Mem.head _)), rfl, rfl, (fun _ _ h => h)⟩), .inr (.inl ⟨rfl, _, (List.Mem.tail _ (List.Mem.tail _ (List.Mem.head _))), rfl, rfl, (fun _ _ h => h)⟩), trivial⟩
    ⟨.inr ⟨(by kernel_rfl), _, (List.Mem.head _), rfl, (fun _ _ h => h)⟩, .inr ⟨(by kernel_rfl), _, (List.Mem.tail _ (List.Mem.head _)), rfl, (fun _ _ h => h)⟩, .inr ⟨(by kernel_rfl), _, (List.Mem.tail _ (List.Mem.tail _ (List.Mem.head _))), rfl, (fun _ _ h => h)⟩, .inr ⟨(by kernel_rfl), _, (List.Mem.tail _ (List.Mem.tail _ (List.Mem.tail _ (List.Mem.head _)))), rfl, (fun _ _ h => h)⟩, .inr ⟨(by kernel_rfl), _, (List.Mem.tail _ (List.Mem.tail _ (List.Mem.tail _ (List.Mem.tail _ (List.Mem.head _))))), rfl, (fun _ _ h => h)⟩, trivial⟩
    (steps (m := 4) (by kernel_rfl) ⟨stepN (i := 0) (dst := some 32) (op := (.load 33 (.tmp 10))) (by kernel_rfl) (loadV (List.Mem.tail _ (List.Mem.tail _ (List.Mem.head _))) (by kernel_rfl) (fun _ _ h => h)),
      stepN (i := 1) (dst := some 33) (op := (.move (.tmp 8))) (by kernel_rfl) (move (argO (p := (isD (n / (Nat.gcd (Int.natAbs z) n)) j)) (List.Mem.tail _ (List.Mem.tail _ (List.Mem.tail _ (List.Mem.tail _ (List.Mem.head _))))) (by kernel_rfl)) (fun _ _ h => h)),
      stepN (i := 2) (dst := some 34) (op := (.build 35 #[(0, (.tmp 32)), (1, (.tmp 33))])) (by kernel_rfl) (buildG (m := max k j) (argT (p := (isV (signed ((Int.natAbs z) / (Nat.gcd (Int.natAbs z) n)) (decide (z < 0))) k)) (by kernel_rfl) (fun _ _ h => h)) (argT (p := (isD (n / (Nat.gcd (Int.natAbs z) n)) j)) (by kernel_rfl) (fun _ _ h => h)) (by omega) (by omega) (fun _ _ h => h)),
      isStore rfl, trivial⟩) ?_
  clear hS kf a
  try clear w
  intro kf a w hS
  exact wp_ret (ret_c (q := (isG (signed ((Int.natAbs z) / (Nat.gcd (Int.natAbs z) n)) (decide (z < 0))) (n / (Nat.gcd (Int.natAbs z) n)) (max k j))) (by kernel_rfl) hS (List.Mem.head _) (fun v h => ⟨v, rfl, (IsG.r h (by rw [signed_div' (Nat.gcd_dvd_left _ _)]; exact cancel_rat hn) (Nat.le_refl _)), hS.grow⟩))
end Go.Proofs.YtlkiikchjeapfaaDoor.Z
