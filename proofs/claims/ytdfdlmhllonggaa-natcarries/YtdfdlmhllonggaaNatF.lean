/- Contracts of package nat: Bits; of the library: math/bits.Len64 (by the shelf's contract), slices.Equal at []uint64. -/
import Derived.Test.YtdfdlmhllonggaaNatE
import Derived.Shelf.Strconv.Itoa0
namespace Go.Proofs.Ytdfdlmhllonggaa
open Go.RowKit

def lays129_ren : Go.Shelf.Ren := ⟨fun | 129 => 38 | n => n, fun | 53 => 37 | 3 => 3 | 4 => 4 | 46 => 40 | 5 => 5 | 9 => 9 | n => n, fun | n => n⟩
theorem lays129 : Go.Proofs.Lays.n129 Try.prog lays129_ren := {
  mixed := by kernel_rfl
  f129 := Try.func38.trans (congrArg some (by kernel_rfl))
  t3 := Try.underlying3
  a3 := Try.isAgg3
  z3 := Try.sizeOf3
  v3 := Try.zeroValue3
  t4 := Try.underlying4
  a4 := Try.isAgg4
  z4 := Try.sizeOf4
  v4 := Try.zeroValue4
  t5 := Try.underlying5
  a5 := Try.isAgg5
  z5 := Try.sizeOf5
  v5 := Try.zeroValue5
  t9 := Try.underlying9
  a9 := Try.isAgg9
  z9 := Try.sizeOf9
  v9 := Try.zeroValue9
  t46 := Try.underlying40
  a46 := Try.isAgg40
  z46 := Try.sizeOf40
  v46 := Try.zeroValue40
  t53 := Try.underlying37
  a53 := Try.isAgg37
  z53 := Try.sizeOf37
  v53 := Try.zeroValue37 }

theorem bitLen_bits (x : Nat) (hx : x < Mx.B) : Lib.bitLen x = Mx.bits x := by
  have key : ∀ f x, x < 2 ^ f → Lib.bitLenAux f x = Mx.bits x := by
    intro f
    induction f with
    | zero =>
      intro x h
      obtain rfl : x = 0 := by simpa using h
      rfl
    | succ f ih =>
      intro x h
      rw [Lib.bitLenAux]
      by_cases h0 : x = 0
      · subst h0; rfl
      · rw [if_neg h0, ih (x / 2) (by rw [Nat.pow_succ] at h; omega)]
        by_cases h1 : x / 2 = 0
        · obtain rfl : x = 1 := by omega
          rfl
        · have a := Mx.bits_le h1
          have b := Mx.bits_lt (x / 2)
          have c := Mx.bits_pos h1
          have e : 2 ^ Mx.bits (x / 2) = 2 ^ (Mx.bits (x / 2) - 1) * 2 := by rw [← Nat.pow_succ]; congr 1; omega
          have := Mx.bits_unique (n := x) (k := Mx.bits (x / 2)) (by omega) (by rw [Nat.pow_succ]; omega)
          omega
  exact key 64 x hx

theorem len64_any (x : Nat) (hx : x < Mx.B) (w : World) : Calls Try.prog 38 #[.int .u64 (x : Int)] w fun e w' => e = .returned (.int .i64 ((Mx.bits x : Nat) : Int)) ∧ w = w' := by
  rw [← bitLen_bits x hx]
  refine (Any.bits_Len64 lays129 (x : Int) w (by omega) (by rw [Mx.B_eq] at hx; omega)).mono fun e w' ⟨he, hw⟩ => ⟨?_, hw.symm⟩
  rw [he, Int.toNat_natCast]

set_option maxHeartbeats 1000000 in
theorem bits_any (w : World) (v : Value) (n : Nat) (hn : Mx.len n ≤ 17592186044416) (h : IsNat w v n) :
    Calls Try.prog 24 #[v] w (Ret w fun v' _ => v' = .int .i64 ((Mx.bits n : Nat) : Int)) := by
  have HZ := Lib.hid (fun W (g : Grow w W) => zero_any W v n (h.grow g))
  obtain ⟨A, c, rfl, hc, hl⟩ := h
  by_cases h0 : n = 0
  · subst h0
    simp only [BEq.rfl] at HZ
    go_enter Try.func24, Try.ntmps24
    go_wp2_with (refine (HZ.out _ ((Grow.refl w).alloc _)).mono ?_; rintro e w1 ⟨v1, rfl, rfl, hg⟩)
    go_ret
    exact Ret.mk rfl (((Grow.refl w).alloc _).trans hg)
  · have hb := Mx.bits_limbs h0
    have hx := Mx.getD_lt _ (Mx.limbs_lt n) (Mx.len n - 1)
    have hlp : 0 < Mx.len n := by
      rcases Nat.eq_zero_or_pos (Mx.len n) with h1 | h1
      · exact absurd (Mx.eq_zero_of_len h1) h0
      · exact h1
    have e0 : (n == 0) = false := by simpa using h0
    rw [e0] at HZ
    obtain ⟨b1, o1, rfl, hb1, hd1⟩ := hl.at (Mx.limbs_ne hlp)
    have hcx := hd1 (Mx.len n - 1) (by unfold Mx.len at hlp ⊢; omega)
    clear hd1 e0
    generalize (Mx.limbs n).getD (Mx.len n - 1) 0 = x at *
    have HL := Lib.hid (fun W => len64_any x hx W)
    have hbx : Mx.bits x ≤ 64 := Mx.bits_le_of_lt (by rw [Mx.B_eq] at hx; omega)
    generalize Mx.bits x = y at *
    have HB := Lib.hid hb.1
    have hk2 : ((Mx.len n : Int) - 1).toNat = Mx.len n - 1 := by omega
    clear hb hx
    go_enter Try.func24, Try.ntmps24
    go_wp2_with fail
    refine (HZ.out _ ((Grow.refl w).alloc _)).mono ?_
    rintro e w1 ⟨v1, rfl, rfl, hg⟩
    have hgw : Grow w w1 := ((Grow.refl w).alloc _).trans hg
    have hcx' := (hgw.cell (p := ⟨b1, o1 + (Mx.len n - 1), none⟩) hb1).trans hcx
    have hbox := hg.new.1
    clear hg hcx HZ
    have hp1 : (0 : Int) < (Mx.len n : Int) := by omega
    go_wp2_with (go_at_call 38; refine (HL.out _).mono ?_; rintro e w' ⟨rfl, rfl⟩)
    go_ret
    exact Ret.mk (by rw [HB.out]; simp; omega) hgw

/-- The two lists are the same below place k. -/
def SameTo (l r : List Nat) (k : Nat) : Prop := ∀ j, j < k → l.getD j 0 = r.getD j 0

set_option maxHeartbeats 1000000 in
theorem equalU64_any (w : World) (va vb : Value) (l r : List Nat) (hn : l.length ≤ 17592186044416) (ha : Sl w va l) (hb : Sl w vb r) :
    Calls Try.prog 22 #[va, vb] w (Ret w fun v' _ => v' = .bool (l == r)) := by
  obtain ⟨A, c, rfl, hc, hbl, hl⟩ := ha
  obtain ⟨D, d, rfl, hd, hbr, hr⟩ := hb
  clear hbl hbr
  by_cases hlen : l.length = r.length
  · have hne : (((l.length : Nat) : Int) != ((r.length : Nat) : Int)) = false := by simp; omega
    have hr2 : r.length ≤ 17592186044416 := by omega
    have HL := Lib.hid hlen
    clear hlen
    go_enter Try.func22, Try.ntmps22
    go_wp2
    go_loopw [13] (fun iv wr => ∃ i : Nat, i ≤ l.length ∧ iv = .int .i64 i ∧ SameTo l r i ∧ Grow w wr) (fun iv _ => l.length - (intOf iv).toNat)
    case atStart => exact ⟨0, Nat.zero_le _, rfl, fun j hj => by omega, Grow.refl _⟩
    case round =>
      obtain ⟨i, hi, rfl, hs, hg⟩ := hrel
      by_cases hlt : i < l.length
      · have hlr : i < r.length := by have := HL.out; omega
        obtain ⟨b1, o1, rfl, hb1, hd1⟩ := (hl.grow hg).at (by intro e; subst e; simp at hlt)
        obtain ⟨b2, o2, rfl, hb2, hd2⟩ := (hr.grow hg).at (by intro e; subst e; simp at hlr)
        have hx := hd1 i hlt
        have hy := hd2 i hlr
        clear hd1 hd2
        generalize hex : l.getD i 0 = x at hx
        generalize hey : r.getD i 0 = y at hy
        have HX := Lib.hid hex
        have HY := Lib.hid hey
        clear hex hey
        have hi1 : (i : Int) < (l.length : Int) := by omega
        have hi2 : (i : Int) < (r.length : Int) := by omega
        by_cases hxy : x = y
        · subst hxy
          go_wp2
          go_quiet (fail)
          go_wp2
          go_roundw
          case rel => exact ⟨i + 1, by omega, by go_num, fun j hj => by
            rcases Nat.lt_or_ge j i with h3 | h3
            · exact hs j h3
            · obtain rfl : j = i := by omega
              rw [HX.out, HY.out], hg.drewN _⟩
          case measure => simp [intOf]; omega
        · have hne2 : ((x : Int) != (y : Int)) = true := by simp; omega
          go_wp2
          go_quiet (fail)
          go_wp2
          go_ret
          exact Ret.mk (by
            have : (l == r) = false := by
              rw [beq_eq_false_iff_ne]
              intro e
              subst e
              exact hxy (HX.out.symm.trans HY.out)
            rw [this]; rfl) (hg.drewN _)
      · go_wp2
        go_ret
        exact Ret.mk (by
          have : (l == r) = true := by
            rw [beq_iff_eq]
            exact Mx.ext_getD l r HL.out fun j hj => hs j (by omega)
          rw [this]; rfl) hg
  · have hne : (((l.length : Nat) : Int) != ((r.length : Nat) : Int)) = true := by simp; omega
    have e : (l == r) = false := by
      rw [beq_eq_false_iff_ne]
      intro e
      exact hlen (by rw [e])
    rw [e]
    clear hlen e
    go_enter Try.func22, Try.ntmps22
    go_wp2
    go_ret
    exact Ret.mk rfl (Grow.refl _)
end Go.Proofs.Ytdfdlmhllonggaa
