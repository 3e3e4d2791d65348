/- Contracts of package quot: limbAt, limbFrom, down. -/
import Derived.Test.YtckcjiojfpaikaaDoorQuoMath
import Derived.Test.YtckcjiojfpaikaaDoorNatG
import Derived.Laws.Bits64b
import Derived.Laws.Shifts
namespace Go.Proofs.YtckcjiojfpaikaaDoor
open Go.RowKit

set_option maxHeartbeats 400000 in
theorem quotLimbAt_any (w : World) (A : Option Addr) (l : List Nat) (c i : Nat) (hl : Cells w A l) :
    Calls Tryd.prog 89 #[.slice A l.length c, .int .i64 (i : Int)] w fun e w' => e = .returned (.int .u64 ((l.getD i 0 : Nat) : Int)) ∧ w = w' := by
  by_cases h : i < l.length
  · have hn : l ≠ [] := by intro e; subst e; simp at h
    obtain ⟨b, o, rfl, hbl, hc⟩ := hl.at hn
    have hci := hc i h
    clear hc
    generalize l.getD i 0 = x at *
    go_enter Tryd.func89, Tryd.ntmps89
    go_wp2
    go_ret
    exact ⟨rfl, rfl⟩
  · have e : l.getD i 0 = 0 := by rw [List.getD_eq_getElem?_getD, List.getElem?_eq_none (by omega)]; rfl
    rw [e]
    clear e
    go_enter Tryd.func89, Tryd.ntmps89
    go_wp2
    go_ret
    exact ⟨rfl, rfl⟩

theorem shr_nat (x k : Nat) : (x : Int) / 2 ^ k = ((x / 2 ^ k : Nat) : Int) := by rw [Int.natCast_ediv, Int.natCast_pow]; rfl
theorem shl_nat (x k : Nat) : IntKind.u64.wrap ((x : Int) * 2 ^ k) = ((x * 2 ^ k % Mx.B : Nat) : Int) := by
  rw [IntKind.wrap_u64, Int.natCast_emod, Int.natCast_mul, Int.natCast_pow]; rfl
theorem limbFrom_int (x y p : Nat) (hx : x < Mx.B) : bits .or .u64 ((x : Int) / 2 ^ p) (IntKind.u64.wrap ((y : Int) * 2 ^ (64 - p))) = ((x / 2 ^ p ||| y * 2 ^ (64 - p) % Mx.B : Nat) : Int) := by
  rw [shr_nat, shl_nat]
  exact bits_or_u64_nat _ _ (Nat.lt_of_le_of_lt (Nat.div_le_self _ _) hx) (Nat.mod_lt _ Mx.B_pos)

set_option maxHeartbeats 400000 in
theorem limbFrom_any (w : World) (A : Option Addr) (l : List Nat) (c n : Nat) (hb : ∀ x ∈ l, x < Mx.B) (hn : n ≤ 4611686018427387904) (hl : Cells w A l) :
    Calls Tryd.prog 82 #[.slice A l.length c, .int .i64 (n : Int)] w fun e w' => e = .returned (.int .u64 ((Mx.val l / 2 ^ n % Mx.B : Nat) : Int)) ∧ ∃ m, w' = w.drewN m := by
  rw [← Mx.limbFrom_eq l hb n]
  have hx := Mx.getD_lt l hb (n / 64)
  have h1 : ((n : Int)).tdiv 64 = ((n / 64 : Nat) : Int) := rfl
  have h2 : ((n : Int)).tmod 64 = ((n % 64 : Nat) : Int) := rfl
  have HA := Lib.hid (fun k => quotLimbAt_any (w.drewN k) A l c (n / 64) (hl.grow ((Grow.refl w).drewN k)))
  have HC := Lib.hid (fun k => quotLimbAt_any (w.drewN k) A l c (n / 64 + 1) (hl.grow ((Grow.refl w).drewN k)))
  rw [Int.natCast_add, Int.natCast_one] at HC
  have hp : n % 64 < 64 := Nat.mod_lt _ (by omega)
  have hq : n / 64 ≤ n := Nat.div_le_self _ _
  generalize l.getD (n / 64) 0 = x at *
  generalize l.getD (n / 64 + 1) 0 = y at *
  generalize n / 64 = q at *
  generalize n % 64 = p at *
  clear hb hl
  go_enter Tryd.func82, Tryd.ntmps82
  go_wp2
  go_quiet ((go_at_call 89; first | with_reducible exact quiet_left (HA.out _) | with_reducible exact quiet_left (HC.out _)))
  simp only [limbFrom_int x y p hx]
  go_wp2
  go_ret
  exact ⟨rfl, nq, rfl⟩

set_option maxHeartbeats 1000000 in
theorem down_any (w : World) (A : Option Addr) (l : List Nat) (c n : Nat) (hm : l.length ≤ 17592186044416) (hb : ∀ x ∈ l, x < Mx.B) (hn : n ≤ 1152921504606846976) (hl : Cells w A l) :
    Calls Tryd.prog 74 #[.slice A l.length c, .int .i64 (n : Int)] w fun e w' => ∃ v l', e = .returned v ∧ FreshSl w w' v l' ∧ (∀ x ∈ l', x < Mx.B) ∧ Mx.val l' = Mx.val l / 2 ^ n ∧ l'.length = l.length - n / 64 := by
  have hall := Mx.down_all l hb n
  have h1 : ((n : Int)).tdiv 64 = ((n / 64 : Nat) : Int) := rfl
  have hq : n / 64 ≤ n := Nat.div_le_self _ _
  have h3 : max (0 : Int) ((l.length : Int) - ((n / 64 : Nat) : Int)) = ((l.length - n / 64 : Nat) : Int) := by omega
  have hkl : l.length - n / 64 ≤ 17592186044416 := by omega
  have h4 : l.length - n / 64 ≤ l.length := by omega
  have HLF := Lib.hid (fun W (g : Grow w W) i (hi : i ≤ 17592186044416) => limbFrom_any W A l c (n + i * 64) hb (by omega) (hl.grow g))
  have e64 : ∀ i : Nat, ((n + i * 64 : Nat) : Int) = (n : Int) + (i : Int) * 64 := by intro i; omega
  simp only [e64] at HLF
  clear e64
  generalize hkk : l.length - n / 64 = k at *
  generalize n / 64 = q at *
  have HALL := Lib.hid hall
  have hmk := fun W => run_make_row' (P := Tryd.prog) 22 48 (.int .u64 0) 8 Tryd.underlying22 info37 rfl .i64 .i64 k (by omega) (by omega) W
  clear hall hb hl
  go_enter Tryd.func74, Tryd.ntmps74
  go_wp2
  clear hmk
  go_loopw [16] (fun iv wr => ∃ (i : Nat) (out : List Nat), i ≤ k ∧ iv = .int .i64 i ∧ out.length = i ∧ (∀ x ∈ out, x < Mx.B) ∧ Mx.val out = Mx.val l / 2 ^ n % Mx.B ^ i ∧ Grow w wr ∧ Blk wr w.heap.size (out ++ List.replicate (k - i) 0)) (fun iv _ => k - (intOf iv).toNat)
  case atStart => exact ⟨0, [], Nat.zero_le _, rfl, rfl, by simp, by simp [Mx.val, Nat.mod_one], (Grow.refl _).alloc _, Blk.made _ _⟩
  case round =>
    obtain ⟨i, out, hi, rfl, hlen, hlt, hval, hg, hblk⟩ := hrel
    by_cases hik : i < k
    · have hlf := HLF.out wr hg i (by omega)
      rw [← Mx.pow2_step] at hlf
      have hst := Mx.mod_step (Mx.val l / 2 ^ n) i
      have hxl : Mx.val l / 2 ^ n / Mx.B ^ i % Mx.B < Mx.B := Nat.mod_lt _ Mx.B_pos
      generalize Mx.val l / 2 ^ n / Mx.B ^ i % Mx.B = x at *
      have HF := Lib.hid hlf
      have HBK := Lib.hid hblk
      clear hlf hblk
      go_wp2_with fail
      refine HF.out.mono ?_
      rintro e w1 ⟨rfl, m, rfl⟩
      have hbk : Blk (wr.drewN m) w.heap.size (out ++ List.replicate (k - i) 0) := HBK.out.grow ((Grow.refl _).drewN m)
      have hgc := hbk.cell (i := i) (by simp; omega)
      have hgf := hbk.frozen i
      have hbk' := hbk.set i x
      rw [show k - i = (k - (i + 1)) + 1 by omega, set_mid out i _ _ hlen] at hbk'
      have HB2 := Lib.hid hbk'
      have HG2 := Lib.hid (hg.drewN m)
      generalize (List.getD _ i 0 : Nat) = z at hgc
      have hi1 : (i : Int) < (k : Int) := by omega
      clear hbk hbk' HF HBK
      generalize wr.drewN m = w2 at *
      go_wp2
      go_roundw
      case rel =>
        refine ⟨i + 1, out ++ [x], by omega, by go_num, by simp [hlen], ?_, ?_, HG2.out.setCell (Nat.le_refl _) _, HB2.out⟩
        · intro y hy
          rcases List.mem_append.1 hy with hy | hy
          · exact hlt y hy
          · rw [List.mem_singleton.1 hy]; exact hxl
        · rw [Mx.val_append, hval, Mx.val_one, hlen, hst]
      case measure => simp [intOf]; omega
    · obtain rfl : i = k := by omega
      have HBK := Lib.hid hblk
      clear hblk
      go_wp2
      go_ret
      have hbk := HBK.out
      rw [Nat.sub_self, List.replicate_zero, List.append_nil] at hbk
      exact ⟨_, out, rfl, ⟨w.heap.size, by rw [hlen]; rfl, Nat.le_refl _, hbk, hg⟩, hlt, by rw [hval, HALL.out], hlen⟩
end Go.Proofs.YtckcjiojfpaikaaDoor
