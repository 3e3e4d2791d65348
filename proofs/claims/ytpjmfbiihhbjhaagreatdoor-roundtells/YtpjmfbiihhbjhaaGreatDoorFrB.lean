/- Package frac: its small helpers. Written by a script (tools/laws). -/
import Derived.Test.YtpjmfbiihhbjhaaGreatDoorFrA
import Derived.Test.YtpjmfbiihhbjhaaGreatDoorQuoQ
namespace Go.Proofs.YtpjmfbiihhbjhaaGreatDoor.Z
open Go.RowKit Go.Proofs.YtpjmfbiihhbjhaaGreatDoor.Rg
set_option linter.unusedVariables false
set_option maxRecDepth 100000 in
set_option maxHeartbeats 4000000 in
theorem part_z {w : World} {v0 v1 : Value} {n m k j : Nat} (h0 : (isN n k) w v0) (h1 : (isN m j) w v1) (hk : k ≤ 1073741824) (hm : m ≠ 0) : Calls Tryz.prog 54 #[v0, v1] w (Ret w fun v w' => (isN (n / m) k) w' v) := by
  refine start (n := 16) (id := 0) (ops := regionOps Tryz.f54 0) (c := (.seq (.region 1 (regionOps Tryz.f54 1) false) (.seq (.region 2 (regionOps Tryz.f54 2) false) .ret))) Tryz.func54 [(0, kN n k), (1, kN m j)] [.box 2 26 0, .box 3 26 1, .al 4 26] [⟨4, 26, .X⟩, ⟨3, 26, kN m j⟩, ⟨2, 26, kN n k⟩] [(0, kN n k), (1, kN m j)] ⟨⟨by simp, h0⟩, ⟨by simp, h1⟩, trivial⟩ ?_
  intro kf ac w hS
  refine R mo hS ⟨[(7, 5, 26), (8, 6, 26)], [(9, 5, 12, 26), (10, 6, 13, 26)]⟩ [(9, kN n k), (10, kN m j), (11, .T [kN (n / m) k, kN (n % m) j, .E (.int .i64 0)]), (8, .T [kN (n / m) k, kN (n % m) j, .E (.int .i64 0)]), (12, kN (n / m) k), (13, kN (n % m) j), (14, .E (.int .i64 0)), (7, .E (.int .i64 0))] [] [⟨4, 26, .X⟩, ⟨3, 26, kN m j⟩, ⟨2, 26, kN n k⟩, ⟨5, 26, kN (n / m) k⟩, ⟨6, 26, kN (n % m) j⟩] [(0, kN n k), (1, kN m j)] 12 ⟨sn (ld 9 2), sn (ld 10 3), sn (c2 11 en34 (aT 9) (aT 10) (fun _ _ _ h1 h2 => div_t h1 h2 (by omega) hm)), sn (mv 8 (aT 11)), sn (ex 12 8 0 rfl rfl), sn (ex 13 8 1 rfl rfl), sn (ex 14 8 2 rfl rfl), sa, sa, ss, ss, sn (asg 7 (aT 14)), trivial⟩ fun kf ac w hS => ?_
  refine R mo hS ⟨[], [(1, 4, 15, 26)]⟩ [(15, kN (n / m) k)] [] [⟨4, 26, kN (n / m) k⟩, ⟨3, 26, kN m j⟩, ⟨2, 26, kN n k⟩, ⟨5, 26, kN (n / m) k⟩, ⟨6, 26, kN (n % m) j⟩] [(0, kN n k), (1, kN m j)] 2 ⟨sn (ld 15 5), ss, trivial⟩ fun kf ac w hS => ?_
  exact wp_ret (rc 4 hS fun v h => ⟨v, rfl, h, hS.grow⟩)
set_option maxRecDepth 100000 in
set_option maxHeartbeats 4000000 in
theorem times_z {w : World} {v0 v1 : Value} {z : Int} {n k j : Nat} (h0 : (isW z k) w v0) (h1 : (isN n j) w v1) (hk : k ≤ 1073741824) (hj : j ≤ 1073741824) : Calls Tryz.prog 52 #[v0, v1] w (Ret w fun v w' => (isW (z * (n : Nat)) (k + j)) w' v) := by
  refine start (n := 9) (id := 0) (ops := regionOps Tryz.f52 0) (c := (.seq (.region 1 (regionOps Tryz.f52 1) true) .ret)) Tryz.func52 [(0, kW z k), (1, kN n j)] [.box 2 28 0, .box 3 26 1, .al 4 28] [⟨4, 28, .X⟩, ⟨3, 26, kN n j⟩, ⟨2, 28, kW z k⟩] [(0, kW z k), (1, kN n j)] ⟨⟨by simp, h0⟩, ⟨by simp, h1⟩, trivial⟩ ?_
  intro kf ac w hS
  refine R mo hS ⟨[], [(4, 4, 8, 28)]⟩ [(5, kW z k), (6, kN n j), (7, kW (signed n false) j), (8, kW (z * (signed n false)) (k + j))] [] [⟨4, 28, kW (z * (signed n false)) (k + j)⟩, ⟨3, 26, kN n j⟩, ⟨2, 28, kW z k⟩] [(0, kW z k), (1, kN n j)] 5 ⟨sn (ld 5 2), sn (ld 6 3), sn (c2 7 en24 (aT 6) (aC (.bool false)) (fun _ _ _ h1 h2 => by cases h2; exact of_w h1)), sn (c2 8 en74 (aT 5) (aT 7) (fun _ _ _ h1 h2 => mul_w h1 h2 (by omega) (by omega))), ss, trivial⟩ fun kf ac w hS => ?_
  exact wp_ret (rc 4 hS fun v h => ⟨v, rfl, (h), hS.grow⟩)
set_option maxRecDepth 100000 in
set_option maxHeartbeats 4000000 in
theorem cancel_z {w : World} {v0 v1 : Value} {z : Int} {n k j : Nat} (h0 : (isW z k) w v0) (h1 : (isN n j) w v1) (hk : k ≤ 1073741824) (hj : j ≤ 1073741824) (hn : n ≠ 0) : Calls Tryz.prog 56 #[v0, v1] w (Ret w fun v w' => (.T [kW (z / (Nat.gcd (Int.natAbs z) n : Nat)) k, kN (n / (Nat.gcd (Int.natAbs z) n)) j] : Kd Tryz.prog).p w' v) := by
  have hg : Nat.gcd (Int.natAbs z) n ≠ 0 := Nat.ne_of_gt (Nat.gcd_pos_of_pos_right _ (by omega))
  refine start (n := 22) (id := 0) (ops := regionOps Tryz.f56 0) (c := (.seq (.region 1 (regionOps Tryz.f56 1) true) (.seq (.region 2 (regionOps Tryz.f56 2) true) .ret))) Tryz.func56 [(0, kW z k), (1, kN n j)] [.box 2 28 0, .box 3 26 1, .al 4 28, .al 5 26] [⟨5, 26, .X⟩, ⟨4, 28, .X⟩, ⟨3, 26, kN n j⟩, ⟨2, 28, kW z k⟩] [(0, kW z k), (1, kN n j)] ⟨⟨by simp, h0⟩, ⟨by simp, h1⟩, trivial⟩ ?_
  intro kf ac w hS
  refine R mo hS ⟨[(4, 6, 26)], [(5, 6, 10, 26)]⟩ [(7, kW z k), (8, kN (Int.natAbs z) k), (9, kN n j), (10, kN (Nat.gcd (Int.natAbs z) n) (max k j))] [] [⟨5, 26, .X⟩, ⟨4, 28, .X⟩, ⟨3, 26, kN n j⟩, ⟨2, 28, kW z k⟩, ⟨6, 26, kN (Nat.gcd (Int.natAbs z) n) (max k j)⟩] [(0, kW z k), (1, kN n j)] 6 ⟨sn (ld 7 2), sn (c1 8 en25 (aT 7) (fun _ _ h1 => abs_w h1)), sn (ld 9 3), sn (c2 10 en53 (aT 8) (aT 9) (fun _ _ _ h1 h2 => gcd_n (k := max k j) (IsN.weak h1 (by omega)) (IsN.weak h2 (by omega)) (by omega))), sa, ss, trivial⟩ fun kf ac w hS => ?_
  refine R mo hS ⟨[], [(11, 4, 18, 28), (12, 5, 21, 26)]⟩ [(11, kW z k), (12, kN (Int.natAbs z) k), (13, kN (Nat.gcd (Int.natAbs z) n) (max k j)), (14, kN ((Int.natAbs z) / (Nat.gcd (Int.natAbs z) n)) k), (15, kW z k), (16, .E (.int .i64 (Int.sign z))), (17, .E (.bool (decide (((Int.sign z) : Int) < 0)))), (18, kW (signed ((Int.natAbs z) / (Nat.gcd (Int.natAbs z) n)) (decide (((Int.sign z) : Int) < 0))) k), (19, kN n j), (20, kN (Nat.gcd (Int.natAbs z) n) (max k j)), (21, kN (n / (Nat.gcd (Int.natAbs z) n)) j)] [] [⟨5, 26, kN (n / (Nat.gcd (Int.natAbs z) n)) j⟩, ⟨4, 28, kW (signed ((Int.natAbs z) / (Nat.gcd (Int.natAbs z) n)) (decide (((Int.sign z) : Int) < 0))) k⟩, ⟨3, 26, kN n j⟩, ⟨2, 28, kW z k⟩, ⟨6, 26, kN (Nat.gcd (Int.natAbs z) n) (max k j)⟩] [(0, kW z k), (1, kN n j)] 13 ⟨sn (ld 11 2), sn (c1 12 en25 (aT 11) (fun _ _ h1 => abs_w h1)), sn (ld 13 6), sn (c2 14 en54 (aT 12) (aT 13) (fun _ _ _ h1 h2 => part_z h1 h2 (by omega) hg)), sn (ld 15 2), sn (c1 16 en8 (aT 15) (fun _ _ h1 => sign_w h1)), sn (bLt 17 (aT 16) (aC (.int .i64 0)) rfl), sn (c2 18 en24 (aT 14) (aT 17) (fun _ _ _ h1 h2 => by cases h2; exact of_w h1)), sn (ld 19 3), sn (ld 20 6), sn (c2 21 en54 (aT 19) (aT 20) (fun _ _ _ h1 h2 => part_z h1 h2 (by omega) hg)), ss, ss, trivial⟩ fun kf ac w hS => ?_
  exact wp_ret (rcc 4 5 hS fun _ _ h1 h2 => ⟨_, rfl, tup2 (signed_div (Nat.gcd_dvd_left _ _) ▸ h1) h2, hS.grow⟩)
end Go.Proofs.YtpjmfbiihhbjhaaGreatDoor.Z
