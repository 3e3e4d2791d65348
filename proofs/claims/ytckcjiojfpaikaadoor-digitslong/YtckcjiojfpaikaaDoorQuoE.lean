/- Contracts of package quot: guess, takeOff. -/
import Derived.Test.YtckcjiojfpaikaaDoorQuoD
import Derived.WalkMore
import Derived.ScopeJumps
namespace Go.Proofs.YtckcjiojfpaikaaDoor
open Go.RowKit

theorem only_drewN {w w' : World} {g : Nat} (h : w.grownBy w' (some g)) (n : Nat) : w.grownBy (w'.drewN n) (some g) := ⟨h.os, h.tape, h.output, h.size, h.block⟩
theorem only_trans {a b c : World} {g : Nat} (h : a.grownBy b (some g)) (k : b.grownBy c (some g)) : a.grownBy c (some g) :=
  ⟨k.os.trans h.os, k.tape.trans h.tape, k.output.trans h.output, Nat.le_trans h.size k.size, fun i hi hne => (k.block i (Nat.lt_of_lt_of_le hi h.size) hne).trans (h.block i hi hne)⟩

theorem quiet_more {P : Program} {f : FuncId} {args : Array Value} {w : World} {n : Nat} {v : Value}
    (h : Calls P f args (w.drewN n) fun e w' => e = .returned v ∧ ∃ m, w' = (w.drewN n).drewN m) : Calls P f args (w.drewN n) fun e w'' => e = .returned v ∧ ∃ m, w'' = w.drewN m :=
  h.mono fun _ _ ⟨he, m, hm⟩ => ⟨he, n + m, hm.trans (by simp [World.drewN, Nat.add_assoc])⟩

/-- How often y goes into two limbs, but no more than a limb can be. -/
def gss (hi lo y : Nat) : Nat := if y ≤ hi then 18446744073709551615 else (hi * Mx.B + lo) / y
theorem gss_lt {hi lo y : Nat} (hlo : lo < Mx.B) : gss hi lo y < Mx.B := by
  unfold gss
  split
  · rw [Mx.B_eq]; omega
  · rw [Nat.div_lt_iff_lt_mul (by omega)]
    have e1 : (hi + 1) * Mx.B ≤ y * Mx.B := Nat.mul_le_mul_right _ (by omega)
    rw [Nat.succ_mul] at e1
    rw [Nat.mul_comm Mx.B y]
    omega
theorem gss_top {hi lo y q : Nat} (hy : 0 < y) (hq : q < Mx.B) (h : q * y ≤ hi * Mx.B + lo) : q ≤ gss hi lo y := by
  unfold gss
  split
  · rw [Mx.B_eq] at hq; omega
  · exact (Nat.le_div_iff_mul_le hy).2 h

set_option maxHeartbeats 400000 in
theorem guess_any (hi lo y : Nat) (hlo : lo < Mx.B) (hy : y < Mx.B) (hyt : 9223372036854775808 ≤ y) (w : World) :
    Calls Tryd.prog 79 #[.int .u64 (hi : Int), .int .u64 (lo : Int), .int .u64 (y : Int)] w fun e w' => e = .returned (.int .u64 ((gss hi lo y : Nat) : Int)) ∧ ∃ m, w' = w.drewN m := by
  by_cases h : y ≤ hi
  · rw [show gss hi lo y = 18446744073709551615 from if_pos h]
    clear hlo hy
    go_enter Tryd.func79, Tryd.ntmps79
    go_wp2
    go_ret
    exact ⟨rfl, 0, rfl⟩
  · have HD := Lib.hid (div64_any hi lo y (by omega) hlo hy hyt w)
    rw [show gss hi lo y = (hi * Mx.B + lo) / y from if_neg h]
    generalize (hi * Mx.B + lo) / y = t at *
    clear hlo hy
    go_enter Tryd.func79, Tryd.ntmps79
    go_wp2_with (go_at_call 87; refine HD.out.mono ?_; rintro e w' ⟨⟨r, rfl⟩, m, rfl⟩)
    go_ret
    exact ⟨rfl, m, rfl⟩

/-- A guess by the first limbs is never too small. -/
theorem guess_top {s l : List Nat} {n q : Nat} (hl : l.length = n + 1) (hs : ∀ x ∈ s, x < Mx.B) (hq : q * Mx.val l ≤ Mx.val (s.take (n + 2))) : q * l.getD n 0 ≤ s.getD (n + 1) 0 * Mx.B + s.getD n 0 := by
  have e1 : Mx.val l = Mx.val (l.take n) + Mx.B ^ n * l.getD n 0 := by
    rw [← Mx.val_take_succ, List.take_of_length_le (by omega)]
  have e2 : Mx.val (s.take n) < Mx.B ^ n := by
    refine Nat.lt_of_lt_of_le (Mx.val_lt (s.take n) (fun x hx => hs x (List.mem_of_mem_take hx))) (Nat.pow_le_pow_right Mx.B_pos ?_)
    rw [List.length_take]; omega
  rw [Mx.val_take_succ, Mx.val_take_succ, e1, Nat.pow_succ] at hq
  generalize l.getD n 0 = y at *
  generalize s.getD n 0 = lo at *
  generalize s.getD (n + 1) 0 = hi at *
  have e3 : Mx.B ^ n * (q * y) < Mx.B ^ n * (hi * Mx.B + lo + 1) := by
    have e4 : Mx.B ^ n * (q * y) ≤ q * (Mx.val (l.take n) + Mx.B ^ n * y) := by
      rw [Nat.mul_add, Nat.mul_left_comm q]
      exact Nat.le_add_left _ _
    have e5 : Mx.B ^ n * (hi * Mx.B + lo + 1) = Mx.B ^ n * Mx.B * hi + Mx.B ^ n * lo + Mx.B ^ n := by
      rw [Nat.mul_add, Nat.mul_add, Nat.mul_one, Nat.mul_assoc, Nat.mul_comm Mx.B hi]
    omega
  have := Nat.lt_of_mul_lt_mul_left e3
  omega

/-- What is known of takeOff's window while a guess is put right: so often was the divisor taken off, and it was too often, or not. -/
structure Off (V b P t : Nat) (s : Bool) (r : Nat) : Prop where
  sum : r + t * b = V + P * s.toNat
  low : r < P
  top : V / b ≤ t

theorem Off.first {V b P t r br : Nat} (hbr : br ≤ 1) (hs : r + t * b = V + P * br) (hl : r < P) (ht : V / b ≤ t) : Off V b P t ((br : Int) != 0) r := by
  refine ⟨?_, hl, ht⟩
  rcases Nat.eq_zero_or_pos br with h | h
  · subst h; simpa using hs
  · obtain rfl : br = 1 := by omega
    simpa using hs
theorem Off.over {V b P t r : Nat} (hb : 0 < b) (h : Off V b P t true r) : V / b < t := by
  rw [Nat.div_lt_iff_lt_mul hb]
  have h1 := h.sum
  have h2 := h.low
  simp only [Bool.toNat_true, Nat.mul_one] at h1
  omega
theorem Off.next {V b P t r r' c : Nat} (hb : 0 < b) (h : Off V b P t true r) (hc : c ≤ 1) (hr : r' + P * c = r + b) (hl : r' < P) : Off V b P (t - 1) (!((c : Int) != 0)) r' := by
  have h0 := h.over hb
  have h1 := h.sum
  simp only [Bool.toNat_true, Nat.mul_one] at h1
  have hpos : 0 < t := Nat.lt_of_le_of_lt (Nat.zero_le _) h0
  obtain ⟨k, rfl⟩ : ∃ k, t = k + 1 := ⟨t - 1, by omega⟩
  rw [Nat.succ_mul] at h1
  refine ⟨?_, hl, by omega⟩
  rw [Nat.add_sub_cancel]
  rcases Nat.eq_zero_or_pos c with hc0 | hc0
  · subst hc0
    simp at hr ⊢
    omega
  · obtain rfl : c = 1 := by omega
    simp at hr ⊢
    omega
theorem Off.done {V b P t r : Nat} (hb : 0 < b) (h : Off V b P t false r) : t = V / b ∧ r = V % b := by
  have h1 := h.sum
  simp only [Bool.toNat_false, Nat.mul_zero, Nat.add_zero] at h1
  have h2 : t ≤ V / b := (Nat.le_div_iff_mul_le hb).2 (by omega)
  have h3 : t = V / b := Nat.le_antisymm h2 h.top
  refine ⟨h3, ?_⟩
  have h4 := Nat.mod_add_div V b
  rw [← h3, Nat.mul_comm] at h4
  omega

theorem patch_patch {L r s : List Nat} {o : Nat} (h : r.length = s.length) (hL : o + r.length ≤ L.length) : Mx.patch (Mx.patch L o r) o s = Mx.patch L o s := by
  unfold Mx.patch
  have h1 : (L.take o).length = o := by rw [List.length_take]; omega
  rw [List.append_assoc (L.take o) r, List.take_append_of_le_length (by omega), List.take_of_length_le (by omega)]
  congr 1
  rw [List.drop_append, h1, List.drop_of_length_le (by omega), List.nil_append, ← h, List.drop_append]
  simp
theorem patch_window {L r : List Nat} {o : Nat} (hL : o + r.length ≤ L.length) : ((Mx.patch L o r).drop o).take r.length = r := by
  unfold Mx.patch
  have h1 : (L.take o).length = o := by rw [List.length_take]; omega
  rw [List.append_assoc, List.drop_append, h1, List.drop_of_length_le (by omega), List.nil_append, Nat.sub_self, List.drop_zero, List.take_append_of_le_length (Nat.le_refl _), List.take_length]
theorem patch_lt {L r : List Nat} {o : Nat} (hL : ∀ y ∈ L, y < Mx.B) (hr : ∀ y ∈ r, y < Mx.B) : ∀ y ∈ Mx.patch L o r, y < Mx.B := by
  intro y hy
  unfold Mx.patch at hy
  rcases List.mem_append.1 hy with hy | hy
  · rcases List.mem_append.1 hy with hy | hy
    · exact hL y (List.mem_of_mem_take hy)
    · exact hr y hy
  · exact hL y (List.mem_of_mem_drop hy)
end Go.Proofs.YtckcjiojfpaikaaDoor
