/- slices.Equal at []int. -/
import Derived.Test.YtfeijnbmaehniaaRefE
import Derived.Test.YtfeijnbmaehniaaNatG
namespace Go.Proofs.Ytfeijnbmaehniaa
open Go.RowKit

set_option maxHeartbeats 1000000 in
theorem equalInt_any (w : World) (va vb : Value) (l r : List Nat) (hn : l.length ≤ 17592186044416) (ha : DS w va l) (hb : DS w vb r) :
    Calls Try.prog 39 #[va, vb] w (Ret w fun v' _ => v' = .bool (l == r)) := by
  obtain ⟨A, c, rfl, hc, hbl, hl⟩ := ha
  obtain ⟨D, d, rfl, hd, hbr, hr⟩ := hb
  clear hbl hbr
  by_cases hlen : l.length = r.length
  · have hne : (((l.length : Nat) : Int) != ((r.length : Nat) : Int)) = false := by simp; omega
    have hr2 : r.length ≤ 17592186044416 := by omega
    have HL := Lib.hid hlen
    clear hlen
    go_enter Try.func39, Try.ntmps39
    go_wp2
    go_loopw [13] (fun iv wr => ∃ i : Nat, i ≤ l.length ∧ iv = .int .i64 i ∧ SameTo l r i ∧ Grow w wr) (fun iv _ => l.length - (intOf iv).toNat)
    case atStart => exact ⟨0, Nat.zero_le _, rfl, fun j hj => by omega, Grow.refl _⟩
    case round =>
      obtain ⟨i, hi, rfl, hs, hg⟩ := hrel
      by_cases hlt : i < l.length
      · have hlr : i < r.length := by have := HL.out; omega
        obtain ⟨b1, o1, rfl, hb1, hd1⟩ := (hl.grow hg).at (by intro e; subst e; simp at hlt)
        obtain ⟨b2, o2, rfl, hb2, hd2⟩ := (hr.grow hg).at (by intro e; subst e; simp at hlr)
        have hx := hd1 i hlt
        have hy := hd2 i hlr
        clear hd1 hd2
        generalize hex : l.getD i 0 = x at hx
        generalize hey : r.getD i 0 = y at hy
        have HX := Lib.hid hex
        have HY := Lib.hid hey
        clear hex hey
        have hi1 : (i : Int) < (l.length : Int) := by omega
        have hi2 : (i : Int) < (r.length : Int) := by omega
        by_cases hxy : x = y
        · subst hxy
          go_wp2
          go_quiet (fail)
          go_wp2
          go_roundw
          case rel => exact ⟨i + 1, by omega, by go_num, fun j hj => by
            rcases Nat.lt_or_ge j i with h3 | h3
            · exact hs j h3
            · obtain rfl : j = i := by omega
              rw [HX.out, HY.out], hg.drewN _⟩
          case measure => simp [intOf]; omega
        · have hne2 : ((x : Int) != (y : Int)) = true := by simp; omega
          go_wp2
          go_quiet (fail)
          go_wp2
          go_ret
          exact Ret.mk (by
            have : (l == r) = false := by
              rw [beq_eq_false_iff_ne]
              intro e
              subst e
              exact hxy (HX.out.symm.trans HY.out)
            rw [this]; rfl) (hg.drewN _)
      · go_wp2
        go_ret
        exact Ret.mk (by
          have : (l == r) = true := by
            rw [beq_iff_eq]
            exact Mx.ext_getD l r HL.out fun j hj => hs j (by omega)
          rw [this]; rfl) hg
  · have hne : (((l.length : Nat) : Int) != ((r.length : Nat) : Int)) = true := by simp; omega
    have e : (l == r) = false := by
      rw [beq_eq_false_iff_ne]
      intro e
      exact hlen (by rw [e])
    rw [e]
    clear hlen e
    go_enter Try.func39, Try.ntmps39
    go_wp2
    go_ret
    exact Ret.mk rfl (Grow.refl _)

theorem IsD.ds {w : World} {v : Value} {n k : Nat} (h : IsD w v n k) : DS w v (Dx.limbs n) := by
  obtain ⟨A, c, e, hc, hl, _⟩ := h
  exact ⟨A, c, e, hc, Dx.limbs_lt n, hl⟩

end Go.Proofs.Ytfeijnbmaehniaa
