/- Contracts of package nat: Bits; of the library: math/bits.Len64 (by the shelf's contract). -/
import Derived.Test.YtckcjiojfpaikaaDoorNatE
import Derived.Shelf.Strconv.Itoa0
namespace Go.Proofs.YtckcjiojfpaikaaDoor
open Go.RowKit

def lays129_ren : Go.Shelf.Ren := ⟨fun | 129 => 44 | n => n, fun | 53 => 48 | 3 => 3 | 4 => 4 | 46 => 67 | 5 => 5 | 9 => 9 | n => n, fun | n => n⟩
theorem lays129 : Go.Proofs.Lays.n129 Tryd.prog lays129_ren := {
  mixed := by kernel_rfl
  f129 := Tryd.func44.trans (congrArg some (by kernel_rfl))
  t3 := Tryd.underlying3
  a3 := Tryd.isAgg3
  z3 := Tryd.sizeOf3
  v3 := Tryd.zeroValue3
  t4 := Tryd.underlying4
  a4 := Tryd.isAgg4
  z4 := Tryd.sizeOf4
  v4 := Tryd.zeroValue4
  t5 := Tryd.underlying5
  a5 := Tryd.isAgg5
  z5 := Tryd.sizeOf5
  v5 := Tryd.zeroValue5
  t9 := Tryd.underlying9
  a9 := Tryd.isAgg9
  z9 := Tryd.sizeOf9
  v9 := Tryd.zeroValue9
  t46 := Tryd.underlying67
  a46 := Tryd.isAgg67
  z46 := Tryd.sizeOf67
  v46 := Tryd.zeroValue67
  t53 := Tryd.underlying48
  a53 := Tryd.isAgg48
  z53 := Tryd.sizeOf48
  v53 := Tryd.zeroValue48 }

theorem bitLen_bits (x : Nat) (hx : x < Mx.B) : Lib.bitLen x = Mx.bits x := by
  have key : ∀ f x, x < 2 ^ f → Lib.bitLenAux f x = Mx.bits x := by
    intro f
    induction f with
    | zero =>
      intro x h
      obtain rfl : x = 0 := by simpa using h
      rfl
    | succ f ih =>
      intro x h
      rw [Lib.bitLenAux]
      by_cases h0 : x = 0
      · subst h0; rfl
      · rw [if_neg h0, ih (x / 2) (by rw [Nat.pow_succ] at h; omega)]
        by_cases h1 : x / 2 = 0
        · obtain rfl : x = 1 := by omega
          rfl
        · have a := Mx.bits_le h1
          have b := Mx.bits_lt (x / 2)
          have c := Mx.bits_pos h1
          have e : 2 ^ Mx.bits (x / 2) = 2 ^ (Mx.bits (x / 2) - 1) * 2 := by rw [← Nat.pow_succ]; congr 1; omega
          have := Mx.bits_unique (n := x) (k := Mx.bits (x / 2)) (by omega) (by rw [Nat.pow_succ]; omega)
          omega
  exact key 64 x hx

theorem len64_any (x : Nat) (hx : x < Mx.B) (w : World) : Calls Tryd.prog 44 #[.int .u64 (x : Int)] w fun e w' => e = .returned (.int .i64 ((Mx.bits x : Nat) : Int)) ∧ w = w' := by
  rw [← bitLen_bits x hx]
  refine (Any.bits_Len64 lays129 (x : Int) w (by omega) (by rw [Mx.B_eq] at hx; omega)).mono fun e w' ⟨he, hw⟩ => ⟨?_, hw.symm⟩
  rw [he, Int.toNat_natCast]

set_option maxHeartbeats 1000000 in
theorem bits_any (w : World) (v : Value) (n : Nat) (hn : Mx.len n ≤ 17592186044416) (h : IsNat w v n) :
    Calls Tryd.prog 22 #[v] w (Ret w fun v' _ => v' = .int .i64 ((Mx.bits n : Nat) : Int)) := by
  have HZ := Lib.hid (fun W (g : Grow w W) => zero_any W v n (h.grow g))
  obtain ⟨A, c, rfl, hc, hl⟩ := h
  by_cases h0 : n = 0
  · subst h0
    simp only [BEq.rfl] at HZ
    go_enter Tryd.func22, Tryd.ntmps22
    go_wp2_with (refine (HZ.out _ ((Grow.refl w).alloc _)).mono ?_; rintro e w1 ⟨v1, rfl, rfl, hg⟩)
    go_ret
    exact Ret.mk rfl (((Grow.refl w).alloc _).trans hg)
  · have hb := Mx.bits_limbs h0
    have hx := Mx.getD_lt _ (Mx.limbs_lt n) (Mx.len n - 1)
    have hlp : 0 < Mx.len n := by
      rcases Nat.eq_zero_or_pos (Mx.len n) with h1 | h1
      · exact absurd (Mx.eq_zero_of_len h1) h0
      · exact h1
    have e0 : (n == 0) = false := by simpa using h0
    rw [e0] at HZ
    obtain ⟨b1, o1, rfl, hb1, hd1⟩ := hl.at (Mx.limbs_ne hlp)
    have hcx := hd1 (Mx.len n - 1) (by unfold Mx.len at hlp ⊢; omega)
    clear hd1 e0
    generalize (Mx.limbs n).getD (Mx.len n - 1) 0 = x at *
    have HL := Lib.hid (fun W => len64_any x hx W)
    have hbx : Mx.bits x ≤ 64 := Mx.bits_le_of_lt (by rw [Mx.B_eq] at hx; omega)
    generalize Mx.bits x = y at *
    have HB := Lib.hid hb.1
    have hk2 : ((Mx.len n : Int) - 1).toNat = Mx.len n - 1 := by omega
    clear hb hx
    go_enter Tryd.func22, Tryd.ntmps22
    go_wp2_with fail
    refine (HZ.out _ ((Grow.refl w).alloc _)).mono ?_
    rintro e w1 ⟨v1, rfl, rfl, hg⟩
    have hgw : Grow w w1 := ((Grow.refl w).alloc _).trans hg
    have hcx' := (hgw.cell (p := ⟨b1, o1 + (Mx.len n - 1), none⟩) hb1).trans hcx
    have hbox := hg.new.1
    clear hg hcx HZ
    have hp1 : (0 : Int) < (Mx.len n : Int) := by omega
    go_wp2_with (go_at_call 44; refine (HL.out _).mono ?_; rintro e w' ⟨rfl, rfl⟩)
    go_ret
    exact Ret.mk (by rw [HB.out]; simp; omega) hgw

/-- The two lists are the same below place k. -/
def SameTo (l r : List Nat) (k : Nat) : Prop := ∀ j, j < k → l.getD j 0 = r.getD j 0

end Go.Proofs.YtckcjiojfpaikaaDoor
