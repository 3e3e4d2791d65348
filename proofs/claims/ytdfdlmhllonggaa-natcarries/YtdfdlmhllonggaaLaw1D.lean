/- For the law NatCarries: math/bits.Mul, append onto a full slice, powers of the base. -/
import Derived.Test.YtdfdlmhllonggaaNatG
import Derived.Deep.RegionLaw
import Derived.Laws.CopyOwn
namespace Go.Proofs.Ytdfdlmhllonggaa
open Go.RowKit

set_option maxHeartbeats 1000000 in
theorem mulU_any (x y : Nat) (hx : x < Mx.B) (hy : y < Mx.B) (w : World) :
    Calls Try.prog 41 #[.int .u64 (x : Int), .int .u64 (y : Int)] w fun e w' => e = .returned (.tuple #[.int .u64 ((Mx.mulHi x y : Nat) : Int), .int .u64 ((Mx.mulLo x y : Nat) : Int)]) ∧ w = w' := by
  have HM := Lib.hid (fun W => mul64_any x y hx hy W)
  clear hx hy
  generalize Mx.mulLo x y = ml at *
  generalize Mx.mulHi x y = mh at *
  go_enter Try.func41, Try.ntmps41
  go_wp2_with (go_at_call 42; refine (HM.out _).mono ?_; rintro e w' ⟨rfl, rfl⟩)
  exact bodyPost_ret (v := .tuple #[.int .u64 (mh : Int), .int .u64 (ml : Int)]) (by simp [results, Try.results41, go_sem]) rfl ⟨rfl, rfl⟩

/-- A slice over a whole block, with no room behind it. -/
def Full (w : World) (v : Value) (l : List Nat) : Prop := ∃ g, v = .slice (some ⟨g, 0, none⟩) l.length l.length ∧ Blk w g l
theorem Full.grow {w w' : World} {v : Value} {l : List Nat} (h : Full w v l) (g : Grow w w') : Full w' v l := by
  obtain ⟨b, e, h⟩ := h
  exact ⟨b, e, h.grow g⟩

theorem addr_add (b o j : Nat) : (Addr.mk b o none).add j = ⟨b, o + j, none⟩ := by unfold Addr.add; split <;> simp_all

theorem append_full (w : World) (ty : TypeId) (va vx : Value) (l : List Nat) (x : Nat) (hl : l.length ≤ 1000000) (hlb : ∀ y ∈ l, y < Mx.B) (ha : Full w va l) (hx : Sl w vx [x]) :
    ∃ v' w', (Builtin.append_ #[22, 22] ty #[va, vx]).run Try.prog w = .ok v' w' ∧ Sl w' v' (l ++ [x]) ∧ Grow w w' := by
  obtain ⟨g, rfl, hb⟩ := ha
  obtain ⟨A, c, rfl, hc, hxb, hxc⟩ := hx
  obtain ⟨b, o, rfl, hbl, hcell⟩ := hxc (by simp)
  obtain ⟨i0, hi, hz0, hz1, hz2⟩ := info_parts info37
  have holds : ∀ j u, (vals l)[j]? = some u → w.cell? ((⟨g, 0, none⟩ : Addr).add j) = some u := fun j u hu => by
    rw [addr_add, Nat.zero_add, cell_of_row w g j _ _ _ hb]
    simpa using hu
  have hnews : ∀ j u, (vals [x])[j]? = some u → w.cell? ((⟨b, o, none⟩ : Addr).add j) = some u := fun j u hu => by
    rw [vals_get] at hu
    obtain ⟨y, hy, rfl⟩ := Option.map_eq_some_iff.1 hu
    rw [addr_add]
    exact hcell j y hy
  have hr := run_append_grow (P := Try.prog) w 22 ty 37 i0 (.int .u64 0) Try.underlying22 hi hz0 ⟨g, 0, none⟩ l.length l.length (vals l) (by rw [vals_length, hz1, Nat.mul_one]) holds
    ⟨b, o, none⟩ 1 c (vals [x]) (by rw [vals_length, hz1]; rfl) hnews (by omega) (by omega) (growslice_fits (by omega) (by rw [hz2]; omega))
  refine ⟨_, _, hr, ?_, ((Grow.refl w).drew).alloc _⟩
  have hge := grownCap_ge w (l.length + 1) l.length 37
  refine ⟨_, _, by rw [List.length_append]; rfl, by rw [List.length_append]; exact hge, ?_, fun _ => ⟨w.heap.size, 0, rfl, by simp, fun j y hy => ?_⟩⟩
  · intro y hy
    rcases List.mem_append.1 hy with h | h
    · exact hlb y h
    · exact hxb y h
  · rw [Nat.zero_add, cell_of_row _ w.heap.size j _ _ _ (heap_alloc_new w.drew _)]
    have hj : j < (vals l ++ vals [x]).length := by
      have := (List.getElem?_eq_some_iff.1 hy).1
      rw [List.length_append] at this ⊢
      rw [vals_length, vals_length]
      exact this
    have e : (vals l ++ vals [x])[j]? = some (.int .u64 (y : Int)) := by
      have : vals l ++ vals [x] = vals (l ++ [x]) := by simp [vals]
      rw [this, vals_get, hy]
      rfl
    simp only [Array.getElem?_append, List.size_toArray, List.getElem?_toArray]
    rw [List.getElem?_append] at e
    rw [List.length_append] at hj
    simp only [Array.size_append, List.size_toArray]
    rw [if_pos hj]
    exact e

/-- All ones. -/
theorem val_ones (k : Nat) : Mx.val (List.replicate k top) + 1 = Mx.B ^ k := by
  induction k with
  | zero => rfl
  | succ k ih =>
    rw [List.replicate_succ, Nat.pow_succ]
    have e : Mx.val (top :: List.replicate k top) = top + Mx.B * Mx.val (List.replicate k top) := rfl
    rw [e, ← ih, Nat.add_mul, Nat.mul_comm (Mx.val _) Mx.B]
    have : top + 1 = Mx.B := rfl
    omega
theorem val_pow (k : Nat) : Mx.val (List.replicate k 0 ++ [1]) = Mx.B ^ k := by
  rw [Mx.val_append, Mx.val_replicate, List.length_replicate, Mx.val_one, Nat.zero_add, Nat.mul_one]
theorem pow_lt (k : Nat) : ∀ x ∈ List.replicate k 0 ++ [1], x < Mx.B := by
  intro x hx
  rcases List.mem_append.1 hx with h | h
  · rw [(List.mem_replicate.1 h).2]; exact Mx.B_pos
  · rw [List.mem_singleton.1 h]; exact Mx.B_one
theorem limbs_pow (k : Nat) : Mx.limbs (Mx.B ^ k) = List.replicate k 0 ++ [1] := by
  rw [← val_pow]
  exact Mx.limbs_val _ (pow_lt k) (.inr (by simp))
theorem limbs_ones (k : Nat) : Mx.limbs (Mx.val (List.replicate k top)) = List.replicate k top := by
  refine Mx.limbs_val _ (fun x hx => by rw [(List.mem_replicate.1 hx).2]; exact top_lt) ?_
  rcases k with _ | k
  · exact .inl rfl
  · refine .inr ?_
    rw [List.replicate_succ', List.getLast?_concat]
    intro h
    injection h with h
    exact absurd h (by unfold top; omega)
theorem bits_pow (k : Nat) : Mx.bits (Mx.B ^ k) = 64 * k + 1 := by
  rw [Mx.B_pow]
  exact Mx.bits_unique (Nat.le_refl _) (Nat.pow_lt_pow_right (by omega) (by omega))

/-- So many of V, and noughts up to k. -/
def rep (V n k : Nat) : List Nat := List.replicate n V ++ List.replicate (k - n) 0
theorem rep_zero (V k : Nat) : rep V 0 k = List.replicate k 0 := by simp [rep]
theorem rep_all (V k : Nat) : rep V k k = List.replicate k V := by simp [rep]
theorem rep_length {V n k : Nat} (h : n ≤ k) : (rep V n k).length = k := by simp [rep]; omega
theorem rep_splice {V n m k : Nat} (h : n + m ≤ k) : splice (vals (rep V n k)) n (vals (List.replicate m V)) = vals (rep V (n + m) k) := by
  have e1 : vals (rep V n k) = vals (List.replicate n V) ++ vals (List.replicate (k - n) 0) := by simp [vals, rep]
  have e2 : vals (rep V (n + m) k) = vals (List.replicate n V) ++ (vals (List.replicate m V) ++ vals (List.replicate (k - (n + m)) 0)) := by
    simp [vals, rep, ← List.append_assoc, List.replicate_append_replicate]
  have l1 : (vals (List.replicate n V)).length = n := by rw [vals_length, List.length_replicate]
  rw [e1, e2]
  unfold splice
  rw [List.take_left' l1, vals_length, List.length_replicate, List.drop_append, List.drop_of_length_le (by omega), l1, List.nil_append]
  congr 2
  simp only [vals, List.map_replicate, List.drop_replicate]
  congr 1
  omega
end Go.Proofs.Ytdfdlmhllonggaa
