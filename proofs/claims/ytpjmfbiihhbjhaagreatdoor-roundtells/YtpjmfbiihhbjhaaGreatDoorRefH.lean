/- Contracts of the reference of layer 2: Power, Gcd. -/
import Derived.Test.YtpjmfbiihhbjhaaGreatDoorRefG
import Derived.Deep.LoopGhost
namespace Go.Proofs.YtpjmfbiihhbjhaaGreatDoor
open Go.RowKit

theorem pow2_lt {t s : Nat} (h : t < s) : 2 ^ t < 2 ^ s := Nat.pow_lt_pow_right (by omega) h
theorem dlen_pow {t : Nat} (h : t ≤ 300) : Dx.len (2 ^ t) ≤ 40 := by
  have := dlen_bound (n := 2 ^ t) (L := 5) (Nat.lt_of_lt_of_eq (pow2_lt (s := 64 * 5) (by omega)) (Mx.B_pow 5).symm)
  omega
theorem isD_one (w : World) (x : Nat) (h0 : x ≠ 0) (hx : x < 10000) : IsD (w.alloc (.cells #[.int .i64 (x : Int)] 3)) (.slice (some ⟨w.heap.size, 0, none⟩) 1 1) x 1 := by
  have hl : Dx.limbs x = [x] := by
    have := Dx.limbs_val [x] (by intro y hy; rw [List.mem_singleton.1 hy]; exact hx) (.inr (by simpa using h0))
    rwa [Dx.val_one] at this
  have hn : Dx.len x = 1 := by unfold Dx.len; rw [hl]; rfl
  refine ⟨some ⟨w.heap.size, 0, none⟩, 1, by rw [hn], by omega, ?_, by omega⟩
  rw [hl]
  intro _
  refine ⟨w.heap.size, 0, rfl, by simp, fun j y hy => ?_⟩
  match j, hy with
  | 0, hy => simp at hy; subst hy; simp [go_sem]


set_option maxHeartbeats 1000000 in
theorem refGcd_any (w : World) (va vb : Value) (n m k : Nat) (hk : k ≤ 1048576) (ha : IsD w va n k) (hb : IsD w vb m k) :
    Calls Tryz.prog 64 #[va, vb] w (Ret w fun v w' => IsD w' v (Nat.gcd n m) k) := by
  have HA := Lib.hid ha
  have HB := Lib.hid hb
  clear ha hb
  go_enter Tryz.func64, Tryz.ntmps64
  go_wp2_with fail
  go_loopg [0, 1] m (fun gk av bv wr => ∃ a b : Nat, b ≤ gk ∧ IsD wr av a k ∧ IsD wr bv b k ∧ Nat.gcd a b = Nat.gcd n m ∧ Grow w wr)
  case atStart => exact ⟨n, m, Nat.le_refl _, HA.out, HB.out, rfl, Grow.refl _⟩
  case round =>
    obtain ⟨a, b, hbk, hA, hB, hgc, hg⟩ := hrel
    have HA2 := Lib.hid hA
    have HB2 := Lib.hid hB
    have HGC := Lib.hid hgc
    obtain ⟨A1, c1, rfl, _, _, _⟩ := hB
    clear hA hgc
    by_cases h0 : b = 0
    · subst h0
      have hgz := HGC.out
      rw [Nat.gcd_zero_right] at hgz
      have HGZ := Lib.hid hgz
      have HA3 := Lib.hid (hgz ▸ HA2.out : IsD wr u0 (Nat.gcd n m) k)
      clear hgz HA2
      go_wp2_with fail
      go_ret
      exact Ret.mk HA3.out hg
    · have hlb : Dx.len b ≠ 0 := fun h => h0 (Dx.eq_zero_of_len h)
      have hl0 : 0 < Dx.len b := by omega
      have HH := Lib.hid (show 0 < b by omega)
      clear hlb h0
      go_wp2_with fail
      refine (refDivMod_any _ _ _ a b k k hk hk HA2.out HB2.out HH.out).mono ?_
      rintro e w1 ⟨v1, rfl, ⟨q, r, rfl, hq, hr⟩, g1⟩
      have HR := Lib.hid hr
      have HB3 := Lib.hid (HB2.out.grow g1)
      have HG := Lib.hid (hg.trans g1)
      clear hq hr g1 hg
      go_wp2_with fail
      go_roundg (a % b)
      case measure => have := Nat.mod_lt a HH.out; omega
      case rel => exact ⟨b, a % b, Nat.le_refl _, HB3.out, HR.out, by rw [← HGC.out, Nat.gcd_comm a b, Nat.gcd_rec b a, Nat.gcd_comm], HG.out⟩
end Go.Proofs.YtpjmfbiihhbjhaaGreatDoor
