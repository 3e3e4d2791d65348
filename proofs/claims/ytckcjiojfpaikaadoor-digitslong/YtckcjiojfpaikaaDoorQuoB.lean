/- Contracts of package quot: up. -/
import Derived.Test.YtckcjiojfpaikaaDoorQuoA
import Derived.RegionTactic
import Derived.BigRegion
namespace Go.Proofs.YtckcjiojfpaikaaDoor
open Go.RowKit

theorem set_at (s r : List Nat) (k a x : Nat) (hs : s.length = k) : (s ++ a :: r).set k x = s ++ x :: r := by
  subst hs
  rw [List.set_append_right _ _ (Nat.le_refl _)]
  simp
theorem get_at (s r : List Nat) (k a : Nat) (hs : s.length = k) : (s ++ a :: r).getD k 0 = a := by
  subst hs
  simp [List.getD_eq_getElem?_getD]

theorem up_step {l h : List Nat} {i c p : Nat} (hp : p ≤ 64) (hl : h.length = i) (hv : Mx.val h + Mx.B ^ i * c = Mx.val (l.take i) * 2 ^ p) :
    Mx.val (h ++ [c + l.getD i 0 * 2 ^ p % Mx.B]) + Mx.B ^ (i + 1) * (l.getD i 0 / 2 ^ (64 - p)) = Mx.val (l.take (i + 1)) * 2 ^ p := by
  have e := Mx.up_parts (x := l.getD i 0) hp
  rw [Mx.val_append, Mx.val_one, hl, Mx.val_take_succ, Nat.add_mul, ← hv, Nat.pow_succ, Nat.mul_assoc (Mx.B ^ i) (l.getD i 0)]
  generalize l.getD i 0 * 2 ^ p % Mx.B = lo at *
  generalize l.getD i 0 / 2 ^ (64 - p) = hi at *
  rw [e, Nat.mul_add, Nat.mul_add, Nat.mul_assoc]
  omega
theorem up_end {l h : List Nat} {c p q n : Nat} (hn : n = 64 * q + p) (hl : h.length = l.length) (hv : Mx.val h + Mx.B ^ l.length * c = Mx.val (l.take l.length) * 2 ^ p) :
    Mx.val (List.replicate q 0 ++ h ++ [c]) = Mx.val l * 2 ^ n := by
  rw [List.append_assoc, Mx.val_append, Mx.val_replicate, Nat.zero_add, List.length_replicate, Mx.val_append, Mx.val_one, hl, hv, List.take_length, Mx.B_pow, hn, Nat.pow_add, Nat.mul_left_comm]

theorem up_int (c x p : Nat) (hp : p ≤ 64) (hc : c < 2 ^ p) : bits .or .u64 (c : Int) (IntKind.u64.wrap ((x : Int) * 2 ^ p)) = ((c + x * 2 ^ p % Mx.B : Nat) : Int) := by
  rw [shl_nat, ← Mx.up_or hp hc]
  exact bits_or_u64_nat _ _ (Nat.lt_of_lt_of_le hc (by show _ ≤ Mx.B; rw [← Mx.B_split hp]; exact Nat.le_mul_of_pos_right _ (Mx.pow2_pos _))) (Nat.mod_lt _ Mx.B_pos)

set_option maxHeartbeats 1000000 in
theorem up_any (w : World) (A : Option Addr) (l : List Nat) (c n : Nat) (hm : l.length ≤ 4294967296) (hb : ∀ x ∈ l, x < Mx.B) (hn : n ≤ 4294967296) (hl : Cells w A l) :
    Calls Tryd.prog 72 #[.slice A l.length c, .int .i64 (n : Int)] w fun e w' => ∃ v l', e = .returned v ∧ FreshSl w w' v l' ∧ (∀ x ∈ l', x < Mx.B) ∧ Mx.val l' = Mx.val l * 2 ^ n ∧ l'.length = l.length + n / 64 + 1 := by
  have h1 : ((n : Int)).tdiv 64 = ((n / 64 : Nat) : Int) := rfl
  have h2 : ((n : Int)).tmod 64 = ((n % 64 : Nat) : Int) := rfl
  have hq : n / 64 ≤ n := Nat.div_le_self _ _
  have hp : n % 64 < 64 := Nat.mod_lt _ (by omega)
  have hnn : n = 64 * (n / 64) + n % 64 := (Nat.div_add_mod n 64).symm
  have HB := Lib.hid hb
  have HN := Lib.hid hnn
  clear hnn hb
  generalize n / 64 = q at *
  generalize n % 64 = p at *
  have hmk : ∀ W, Sem.run Tryd.prog (Instr.makeSlice 22 (.int .i64 ((l.length : Int) + (q : Int) + 1)) (.int .i64 ((l.length : Int) + (q : Int) + 1))) W = .ok (.slice (some ⟨W.heap.size, 0, none⟩) (l.length + q + 1) (l.length + q + 1)) (W.alloc (.cells (madeCells #[.int .u64 0] (l.length + q + 1)) 48)) := fun W =>
    run_make_row' (P := Tryd.prog) 22 48 (.int .u64 0) 8 Tryd.underlying22 info37 rfl .i64 .i64 (l.length + q + 1) (by omega) (by omega) W
  go_enter Tryd.func72, Tryd.ntmps72
  go_wp2
  clear hmk
  go_loopw [22] (fun iv wr => ∃ (i : Nat) (h : List Nat) (cr : Nat), i ≤ l.length ∧ iv = .int .i64 i ∧ h.length = i ∧ (∀ x ∈ h, x < Mx.B) ∧ cr < 2 ^ p ∧ Mx.val h + Mx.B ^ i * cr = Mx.val (l.take i) * 2 ^ p ∧ Grow w wr ∧ Blk wr w.heap.size (List.replicate q 0 ++ h ++ cr :: List.replicate (l.length - i) 0)) (fun iv _ => l.length - (intOf iv).toNat)
  case atStart =>
    refine ⟨0, [], 0, Nat.zero_le _, rfl, rfl, by simp, Mx.pow2_pos _, by simp [Mx.val], (Grow.refl _).alloc _, ?_⟩
    have e : List.replicate q 0 ++ [] ++ 0 :: List.replicate (l.length - 0) 0 = List.replicate (l.length + q + 1) 0 := by
      rw [List.append_nil, ← List.replicate_succ, List.replicate_append_replicate]; congr 1; omega
    rw [e]
    exact Blk.made _ _
  case round =>
    obtain ⟨i, h, cr, hi, rfl, hlen, hlt, hcr, hval, hg, hblk⟩ := hrel
    by_cases hik : i < l.length
    · obtain ⟨b1, o1, rfl, hb1, hd1⟩ := (hl.grow hg).at (by intro e; subst e; simp at hik)
      have hcx := hd1 i hik
      have hx := Mx.getD_lt l HB.out i
      have hst := up_step (l := l) (p := p) (by omega) hlen hval
      clear hd1
      generalize l.getD i 0 = x at *
      have hl1 : (List.replicate q 0 ++ h).length = i + q := by simp [hlen]; omega
      have hgc := hblk.cell (i := i + q) (by simp; omega)
      rw [get_at _ _ _ _ hl1] at hgc
      have hgf := hblk.frozen (i + q)
      have hbk1 := hblk.set (i + q) (cr + x * 2 ^ p % Mx.B)
      rw [set_at _ _ _ _ _ hl1] at hbk1
      have hUI := up_int cr x p (by omega) hcr
      have hi3 : ((i : Int) + (q : Int)).toNat = i + q := by omega
      have hi4 : ((i : Int) + (q : Int) + 1).toNat = i + q + 1 := by omega
      have hi5 : (i : Int) + (q : Int) < (l.length : Int) + (q : Int) + 1 := by omega
      have hi6 : (i : Int) + (q : Int) + 1 < (l.length : Int) + (q : Int) + 1 := by omega
      have hi7 : (i : Int) < (l.length : Int) := by omega
      have HV := Lib.hid hst
      have HBK := Lib.hid hbk1
      have HUI := Lib.hid hUI
      clear hst hbk1 hUI hval
      go_wp2
      go_region
      rw [HUI.out]
      have hbk2 : Blk (wr.setCell ⟨w.heap.size, i + q, none⟩ (.int .u64 ((cr + x * 2 ^ p % Mx.B : Nat) : Int))).drew w.heap.size _ := HBK.out
      have hg2 : Grow w (wr.setCell ⟨w.heap.size, i + q, none⟩ (.int .u64 ((cr + x * 2 ^ p % Mx.B : Nat) : Int))).drew := (hg.setCell (Nat.le_refl _) _).drew
      generalize (wr.setCell ⟨w.heap.size, i + q, none⟩ (.int .u64 ((cr + x * 2 ^ p % Mx.B : Nat) : Int))).drew = w2 at *
      generalize hy : cr + x * 2 ^ p % Mx.B = y at *
      have hbk3 : Blk w2 w.heap.size ((List.replicate q 0 ++ h ++ [y]) ++ 0 :: List.replicate (l.length - (i + 1)) 0) := by
        have e : l.length - i = (l.length - (i + 1)) + 1 := by omega
        rw [e, List.replicate_succ] at hbk2
        simpa using hbk2
      have hl2 : (List.replicate q 0 ++ h ++ [y]).length = i + q + 1 := by simp [hlen]; omega
      have hgc2 := hbk3.cell (i := i + q + 1) (by rw [List.length_append, hl2]; simp)
      rw [get_at _ _ _ _ hl2] at hgc2
      have hgf2 := hbk3.frozen (i + q + 1)
      have hbk4 := hbk3.set (i + q + 1) (x / 2 ^ (64 - p))
      rw [set_at _ _ _ _ _ hl2] at hbk4
      have HB4 := Lib.hid hbk4
      have HX := Lib.hid (shr_nat x (64 - p))
      clear hbk2 hbk3 hbk4 HBK HUI hgc hgf hcx
      go_wp2
      rw [HX.out]
      go_roundw
      case rel =>
        refine ⟨i + 1, h ++ [y], x / 2 ^ (64 - p), by omega, by go_num, by simp [hlen], ?_, Mx.up_hi_lt (by omega) hx, HV.out, hg2.setCell (Nat.le_refl _) _, ?_⟩
        · intro z hz
          rcases List.mem_append.1 hz with hz | hz
          · exact hlt z hz
          · rw [List.mem_singleton.1 hz, ← hy]; exact Mx.up_or_lt (by omega) hcr
        · have := HB4.out
          rwa [List.append_assoc (List.replicate q 0) h [y]] at this
      case measure => simp [intOf]; omega
    · obtain rfl : i = l.length := by omega
      have HBK := Lib.hid hblk
      have HV := Lib.hid hval
      clear hblk hval
      go_wp2
      go_ret
      have hbk := HBK.out
      rw [Nat.sub_self, List.replicate_zero] at hbk
      have hll : (List.replicate q 0 ++ h ++ [cr]).length = l.length + q + 1 := by simp [hlen]; omega
      refine ⟨_, List.replicate q 0 ++ h ++ [cr], rfl, ⟨w.heap.size, by rw [hll]; rfl, Nat.le_refl _, hbk, hg⟩, ?_, up_end HN.out hlen HV.out, hll⟩
      intro z hz
      rcases List.mem_append.1 hz with hz | hz
      · rcases List.mem_append.1 hz with hz | hz
        · rw [(List.mem_replicate.1 hz).2]; exact Mx.B_pos
        · exact hlt z hz
      · rw [List.mem_singleton.1 hz]
        exact Nat.lt_of_lt_of_le hcr (by rw [← Mx.B_split (p := p) (by omega)]; exact Nat.le_mul_of_pos_right _ (Mx.pow2_pos _))
end Go.Proofs.YtckcjiojfpaikaaDoor
