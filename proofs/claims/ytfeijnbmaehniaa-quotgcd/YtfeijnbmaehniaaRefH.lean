/- Contracts of the reference of layer 2: Power, Gcd. -/
import Derived.Test.YtfeijnbmaehniaaRefG
import Derived.Deep.LoopGhost
namespace Go.Proofs.Ytfeijnbmaehniaa
open Go.RowKit

theorem pow2_lt {t s : Nat} (h : t < s) : 2 ^ t < 2 ^ s := Nat.pow_lt_pow_right (by omega) h
theorem dlen_pow {t : Nat} (h : t ≤ 300) : Dx.len (2 ^ t) ≤ 40 := by
  have := dlen_bound (n := 2 ^ t) (L := 5) (Nat.lt_of_lt_of_eq (pow2_lt (s := 64 * 5) (by omega)) (Mx.B_pow 5).symm)
  omega
theorem isD_one (w : World) (x : Nat) (h0 : x ≠ 0) (hx : x < 10000) : IsD (w.alloc (.cells #[.int .i64 (x : Int)] 3)) (.slice (some ⟨w.heap.size, 0, none⟩) 1 1) x 1 := by
  have hl : Dx.limbs x = [x] := by
    have := Dx.limbs_val [x] (by intro y hy; rw [List.mem_singleton.1 hy]; exact hx) (.inr (by simpa using h0))
    rwa [Dx.val_one] at this
  have hn : Dx.len x = 1 := by unfold Dx.len; rw [hl]; rfl
  refine ⟨some ⟨w.heap.size, 0, none⟩, 1, by rw [hn], by omega, ?_, by omega⟩
  rw [hl]
  intro _
  refine ⟨w.heap.size, 0, rfl, by simp, fun j y hy => ?_⟩
  match j, hy with
  | 0, hy => simp at hy; subst hy; simp [go_sem]

set_option maxHeartbeats 1000000 in
theorem refPower_any (w : World) (n : Nat) (hn : n ≤ 300) : Calls Try.prog 22 #[.int .i64 (n : Int)] w (Ret w fun v w' => IsD w' v (2 ^ n) 40) := by
  go_enter Try.func22, Try.ntmps22
  go_wp2_with fail
  refine (refSmall_any _ 256 (by omega)).mono ?_
  rintro e w1 ⟨v1, rfl, h1, g1⟩
  have hp := (isD_one w 1 (by omega) (by omega)).grow g1
  have gw1 : Grow w w1 := ((Grow.refl w).alloc _).trans g1
  have hp2 : IsD w1 (.slice (some ⟨w.heap.size, 0, none⟩) 1 1) (2 ^ (n - n)) 40 := by rw [Nat.sub_self]; exact hp.more (by omega)
  have HP := Lib.hid hp2
  have H1 := Lib.hid (fun W (g : Grow w1 W) => h1.grow g)
  have GW := Lib.hid gw1
  clear hp hp2 h1 g1 gw1
  go_upto_block 0 with fail
  go_cut [0, 3] (fun nv pv W => ∃ t : Nat, t ≤ n ∧ nv = .int .i64 (t : Int) ∧ IsD W pv (2 ^ (n - t)) 40 ∧ Grow w1 W)
  case first =>
    go_wp2_with fail
    go_loopw [0, 3] (fun nv pv wr => ∃ t : Nat, t ≤ n ∧ nv = .int .i64 (t : Int) ∧ IsD wr pv (2 ^ (n - t)) 40 ∧ Grow w1 wr) (fun nv _ _ => (intOf nv).toNat)
    case atStart => exact ⟨n, Nat.le_refl _, rfl, HP.out, Grow.refl _⟩
    case round =>
      obtain ⟨t, htn, rfl, hD, hg⟩ := hrel
      by_cases h8 : 8 ≤ t
      · have HD := Lib.hid hD
        clear hD
        have ht8 : ((t - 8 : Nat) : Int) = (t : Int) - 8 := by omega
        go_wp2_with fail
        refine (refMul_any _ _ _ (2 ^ (n - t)) 256 40 5 (by omega) (by omega) HD.out (H1.out _ hg)).mono ?_
        rintro e w2 ⟨v2, rfl, h2, g2⟩
        rw [show 2 ^ (n - t) * 256 = 2 ^ (n - (t - 8)) by rw [show n - (t - 8) = n - t + 8 by omega, Nat.pow_add]] at h2
        have H2 := Lib.hid (h2.tight (dlen_pow (t := n - (t - 8)) (by omega)))
        have HG := Lib.hid (hg.trans g2)
        clear h2 g2 hg
        go_wp2_with fail
        go_roundw
        case rel => exact ⟨t - 8, by omega, by rw [ht8], H2.out, HG.out⟩
        case measure => simp [intOf]; omega
      · have HD := Lib.hid hD
        clear hD
        go_wp2_with fail
        go_meet
        exact ⟨t, htn, rfl, HD.out, hg⟩
  case rest =>
    obtain ⟨w2, rfl⟩ : ∃ y, y = wc := ⟨wc, rfl⟩
    obtain ⟨t0, htn, rfl, hD, hg⟩ := hcut
    have HD := Lib.hid (hD.grow ((Grow.refl w2).alloc (.cells #[.int .i64 ((2 : Nat) : Int)] 3)))
    have H2 := Lib.hid (isD_one w2 2 (by omega) (by omega))
    have GW2 := Lib.hid (GW.out.trans hg)
    clear hD hg
    go_wp2_with fail
    go_loopw [0, 3] (fun nv pv wr => ∃ t : Nat, t ≤ n ∧ nv = .int .i64 (t : Int) ∧ IsD wr pv (2 ^ (n - t)) 40 ∧ Grow (w2.alloc (.cells #[.int .i64 ((2 : Nat) : Int)] 3)) wr) (fun nv _ _ => (intOf nv).toNat)
    case atStart => exact ⟨t0, htn, rfl, HD.out, Grow.refl _⟩
    case round =>
      obtain ⟨t, ht, rfl, hD, hg⟩ := hrel
      by_cases h1 : 0 < t
      · have HD := Lib.hid hD
        clear hD
        have ht1 : ((t - 1 : Nat) : Int) = (t : Int) - 1 := by omega
        go_wp2_with fail
        refine (refMul_any _ _ _ (2 ^ (n - t)) 2 40 1 (by omega) (by omega) HD.out (H2.out.grow hg)).mono ?_
        rintro e w3 ⟨v3, rfl, h3, g3⟩
        rw [show 2 ^ (n - t) * 2 = 2 ^ (n - (t - 1)) by rw [show n - (t - 1) = n - t + 1 by omega, Nat.pow_succ]] at h3
        have H3 := Lib.hid (h3.tight (dlen_pow (t := n - (t - 1)) (by omega)))
        have HG := Lib.hid (hg.trans g3)
        clear h3 g3 hg
        go_wp2_with fail
        go_roundw
        case rel => exact ⟨t - 1, by omega, by rw [ht1], H3.out, HG.out⟩
        case measure => simp [intOf]; omega
      · obtain rfl : t = 0 := by omega
        have HD := Lib.hid hD
        clear hD
        go_wp2_with fail
        go_ret
        exact Ret.mk HD.out (GW2.out.trans (((Grow.refl _).alloc _).trans hg))

set_option maxHeartbeats 1000000 in
theorem refGcd_any (w : World) (va vb : Value) (n m k : Nat) (hk : k ≤ 1048576) (ha : IsD w va n k) (hb : IsD w vb m k) :
    Calls Try.prog 25 #[va, vb] w (Ret w fun v w' => IsD w' v (Nat.gcd n m) k) := by
  have HA := Lib.hid ha
  have HB := Lib.hid hb
  clear ha hb
  go_enter Try.func25, Try.ntmps25
  go_wp2_with fail
  go_loopg [0, 1] m (fun gk av bv wr => ∃ a b : Nat, b ≤ gk ∧ IsD wr av a k ∧ IsD wr bv b k ∧ Nat.gcd a b = Nat.gcd n m ∧ Grow w wr)
  case atStart => exact ⟨n, m, Nat.le_refl _, HA.out, HB.out, rfl, Grow.refl _⟩
  case round =>
    obtain ⟨a, b, hbk, hA, hB, hgc, hg⟩ := hrel
    have HA2 := Lib.hid hA
    have HB2 := Lib.hid hB
    have HGC := Lib.hid hgc
    obtain ⟨A1, c1, rfl, _, _, _⟩ := hB
    clear hA hgc
    by_cases h0 : b = 0
    · subst h0
      have hgz := HGC.out
      rw [Nat.gcd_zero_right] at hgz
      have HGZ := Lib.hid hgz
      have HA3 := Lib.hid (hgz ▸ HA2.out : IsD wr u0 (Nat.gcd n m) k)
      clear hgz HA2
      go_wp2_with fail
      go_ret
      exact Ret.mk HA3.out hg
    · have hlb : Dx.len b ≠ 0 := fun h => h0 (Dx.eq_zero_of_len h)
      have hl0 : 0 < Dx.len b := by omega
      have HH := Lib.hid (show 0 < b by omega)
      clear hlb h0
      go_wp2_with fail
      refine (refDivMod_any _ _ _ a b k k hk hk HA2.out HB2.out HH.out).mono ?_
      rintro e w1 ⟨v1, rfl, ⟨q, r, rfl, hq, hr⟩, g1⟩
      have HR := Lib.hid hr
      have HB3 := Lib.hid (HB2.out.grow g1)
      have HG := Lib.hid (hg.trans g1)
      clear hq hr g1 hg
      go_wp2_with fail
      go_roundg (a % b)
      case measure => have := Nat.mod_lt a HH.out; omega
      case rel => exact ⟨b, a % b, Nat.le_refl _, HB3.out, HR.out, by rw [← HGC.out, Nat.gcd_comm a b, Nat.gcd_rec b a, Nat.gcd_comm], HG.out⟩
end Go.Proofs.Ytfeijnbmaehniaa
