/- Contracts of package nat: Sub; of the library: math/bits.Sub64. -/
import Derived.Test.YtfeijnbmaehniaaNatC
import Derived.Shelf.Spec.BitsCarry
namespace Go.Proofs.Ytfeijnbmaehniaa
open Go.RowKit

theorem sub64_run (x y b : Nat) (hb : b ≤ 1) (w : World) : (callFunc 61 #[.int .u64 (x : Int), .int .u64 (y : Int), .int .u64 (b : Int)]).run Try.prog w =
    .ok (.value (.tuple #[.int .u64 ((Mx.subLo x y b : Nat) : Int), .int .u64 ((Mx.subHi x y b : Nat) : Int)])) w := by
  rw [run_callFunc_extern Try.func61 (by kernel_rfl) (by kernel_rfl) (by kernel_rfl) (e := sub64Entry) (by kernel_rfl), run_sub64 x y b hb]
  rfl

set_option maxHeartbeats 1000000 in
theorem sub_less (w : World) (va vb : Value) (n m : Nat) (hn : Mx.len n ≤ 4294967296) (ha : IsNat w va n) (hb : IsNat w vb m) (hlt : n < m) :
    Calls Try.prog 62 #[va, vb] w (Ret w fun v' w' => ∃ u, v' = .tuple #[u, .bool false] ∧ IsNat w' u 0) := by
  have HC := Lib.hid (fun W (g : Grow w W) => cmp_any W va vb n m (by omega) (ha.grow g) (hb.grow g))
  rw [Mx.cmp_lt hlt] at HC
  obtain ⟨A, c, rfl, hc, hl⟩ := ha
  obtain ⟨D, d, rfl, hd, hr⟩ := hb
  go_enter Try.func62, Try.ntmps62
  go_wp2_with fail
  refine (HC.out _ ((((Grow.refl w).alloc _).alloc _).alloc _)).mono ?_
  rintro e w1 ⟨v1, rfl, rfl, hg⟩
  obtain ⟨hrc, hrz⟩ := hg.new
  simp only [World.size_alloc] at hrc hrz
  clear HC
  have HG := Lib.hid hg
  clear hg
  go_wp2_with fail
  refine bodyPost_ret (v := .tuple #[.agg #[.slice none 0 0], .bool false]) (by simp [results, Try.results62, go_sem, hrc]) rfl (Ret.mk ⟨_, rfl, none, 0, rfl, Nat.le_refl _, Cells.nil _ _⟩ ?_)
  exact Grow.setCell (((((Grow.refl w).alloc _).alloc _).alloc _).trans HG.out) (by show w.heap.size ≤ w.heap.size + 1 + 1; omega) _

set_option maxHeartbeats 1000000 in
theorem sub_ok (w : World) (va vb : Value) (n m : Nat) (hn : Mx.len n ≤ 4294967296) (ha : IsNat w va n) (hb : IsNat w vb m) (hle : m ≤ n) :
    Calls Try.prog 62 #[va, vb] w (Ret w fun v' w' => ∃ u, v' = .tuple #[u, .bool true] ∧ IsNat w' u (n - m)) := by
  have HC := Lib.hid (fun W (g : Grow w W) => cmp_any W va vb n m (by omega) (ha.grow g) (hb.grow g))
  have hcm : 0 ≤ Mx.cmp n m := by unfold Mx.cmp; rw [if_neg (by omega)]; split <;> omega
  obtain ⟨A, c, rfl, hc, hl⟩ := ha
  obtain ⟨D, d, rfl, hd, hr⟩ := hb
  have hmk := fun W => run_make_row' (P := Try.prog) 22 47 (.int .u64 0) 8 Try.underlying22 info37 rfl .i64 .i64 (Mx.len n) (by omega) (by omega) W
  generalize Mx.cmp n m = cm at *
  have hcm' : decide (cm < 0) = false := by simp; omega
  have hlen := Mx.len_mono hle
  go_enter Try.func62, Try.ntmps62
  go_wp2_with fail
  refine (HC.out _ ((((Grow.refl w).alloc _).alloc _).alloc _)).mono ?_
  rintro e w1 ⟨v1, rfl, rfl, hg⟩
  obtain ⟨hc1, hc2, hrc, hrz⟩ := hg.new3
  clear HC
  have hgw : Grow w w1 := ((((Grow.refl w).alloc _).alloc _).alloc _).trans hg
  clear hg
  have hr3 : w.heap.size + 1 + 1 < w1.heap.size := lt_of_cell hrc
  have hr1 : w.heap.size < w1.heap.size := by omega
  have hr2 : w.heap.size + 1 < w1.heap.size := by omega
  have HR := Lib.hid hrc
  have HZ := Lib.hid hrz
  clear hrc hrz
  go_wp2
  clear hmk
  go_loopw [7, 22] (fun cv iv wr => ∃ i : Nat, i ≤ Mx.len n ∧ iv = .int .i64 i ∧ cv = .int .u64 ((Mx.subTo (Mx.limbs n) (Mx.limbs m) i).2 : Nat) ∧ Grow w1 wr ∧ Blk wr w1.heap.size ((Mx.subTo (Mx.limbs n) (Mx.limbs m) i).1 ++ List.replicate (Mx.len n - i) 0)) (fun _ iv _ => Mx.len n - (intOf iv).toNat)
  case atStart => exact ⟨0, Nat.zero_le _, rfl, rfl, (Grow.refl _).alloc _, Blk.made _ _⟩
  case round =>
    obtain ⟨i, hi, rfl, rfl, hg, hblk⟩ := hrel
    have hs0 : w1.heap.size < wr.heap.size := hblk.lt
    have hlenS := Mx.subTo_length (Mx.limbs n) (Mx.limbs m) i
    have hcar := Mx.subTo_borrow (Mx.limbs n) (Mx.limbs m) i
    have hd2 : wr.cell? ⟨w.heap.size + 1, 0, none⟩ = some (.slice D (Mx.len m) d) := (hg.cell (p := ⟨w.heap.size + 1, 0, none⟩) hr2).trans hc2
    by_cases hlt : i < Mx.len n
    · have hstep : Mx.subTo (Mx.limbs n) (Mx.limbs m) (i + 1) = ((Mx.subTo (Mx.limbs n) (Mx.limbs m) i).1 ++ [Mx.subLo ((Mx.limbs n).getD i 0) ((Mx.limbs m).getD i 0) (Mx.subTo (Mx.limbs n) (Mx.limbs m) i).2], Mx.subHi ((Mx.limbs n).getD i 0) ((Mx.limbs m).getD i 0) (Mx.subTo (Mx.limbs n) (Mx.limbs m) i).2) := rfl
      obtain ⟨b1, o1, rfl, hb1, hd1⟩ := (hl.grow (hgw.trans hg)).at (Mx.limbs_ne (by omega))
      have hcx := hd1 i hlt
      have HLA := Lib.hid (limbAt_any wr D (Mx.limbs m) d i (hr.grow (hgw.trans hg)))
      clear hd1
      generalize (Mx.limbs n).getD i 0 = x at hcx hstep
      generalize (Mx.limbs m).getD i 0 = y at hstep HLA
      generalize (Mx.subTo (Mx.limbs n) (Mx.limbs m) i).2 = cr at *
      generalize (Mx.subTo (Mx.limbs n) (Mx.limbs m) i).1 = ss at *
      have HS := Lib.hid hstep
      have HA := Lib.hid (fun W => sub64_run x y cr hcar W)
      have hgc := hblk.cell (i := i) (by simp; omega)
      have hgf := hblk.frozen i
      have hblk' := hblk.set i (Mx.subLo x y cr)
      rw [show Mx.len n - i = (Mx.len n - (i + 1)) + 1 by omega, set_mid ss i _ _ hlenS] at hblk'
      have HB := Lib.hid hblk'
      generalize (List.getD _ i 0 : Nat) = z at hgc
      have hi1 : (i : Int) < (Mx.len n : Int) := by omega
      clear hstep hblk' hlenS hblk hcar
      go_wp2_with (first | (go_at_call 42; refine HLA.out.mono ?_; rintro e w' ⟨rfl, rfl⟩) | (simp only [HA.out]))
      go_roundw
      case rel => exact ⟨i + 1, by omega, by go_num, by rw [HS.out], hg.setCell (Nat.le_refl _) _, by rw [HS.out]; exact HB.out⟩
      case measure => simp [intOf]; omega
    · obtain rfl : i = Mx.len n := by omega
      have hall := Mx.subTo_all (Mx.limbs n) (Mx.limbs m) (Mx.limbs_lt n) (Mx.limbs_lt m) hlen (by rw [Mx.val_limbs, Mx.val_limbs]; exact hle)
      rw [Mx.val_limbs, Mx.val_limbs] at hall
      have hltA := Mx.subTo_lt (Mx.limbs n) (Mx.limbs m) (Mx.len n)
      rw [show (Mx.limbs n).length = Mx.len n from rfl] at hall
      generalize (Mx.subTo (Mx.limbs n) (Mx.limbs m) (Mx.len n)).2 = cr at *
      generalize (Mx.subTo (Mx.limbs n) (Mx.limbs m) (Mx.len n)).1 = ss at *
      rw [show Mx.len n - Mx.len n = 0 by omega, List.replicate_zero, List.append_nil] at hblk
      have hsl := hblk.sl hltA
      rw [hlenS] at hsl
      have HK := Lib.hid (keep_any _ _ ss (by omega) hsl)
      rw [hall] at HK
      clear hall hltA hblk hsl hlenS hcar
      go_wp2_with fail
      refine HK.out.mono ?_
      rintro e w5 ⟨v5, rfl, hk, hg5⟩
      have hg35 : Grow w1 w5 := hg.trans hg5
      have hrc : w5.cell? ⟨w.heap.size + 1 + 1, 0, none⟩ = some (.slice none 0 0) := (hg35.cell (p := ⟨w.heap.size + 1 + 1, 0, none⟩) hr3).trans HR.out
      have hrz : w5.frozen? ⟨w.heap.size + 1 + 1, 0, none⟩ = false := (Below.frozen hg35 (p := ⟨w.heap.size + 1 + 1, 0, none⟩) hr3).trans HZ.out
      obtain ⟨A2, c2, rfl, hk2, hl2⟩ := hk
      clear HK hg5
      go_wp2_with fail
      refine bodyPost_ret (v := .tuple #[.agg #[.slice A2 (Mx.len (n - m)) c2], .bool true]) (by simp [results, Try.results62, go_sem, hrc]) rfl (Ret.mk ⟨_, rfl, A2, c2, rfl, hk2, hl2.store hrc _⟩ ?_)
      exact Grow.setCell (hgw.trans hg35) (by show w.heap.size ≤ w.heap.size + 1 + 1; omega) _
end Go.Proofs.Ytfeijnbmaehniaa
