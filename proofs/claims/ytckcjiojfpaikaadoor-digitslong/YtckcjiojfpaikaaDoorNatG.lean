/- Numbers with a bound of limbs, for callers; a slice that came in. -/
import Derived.Test.YtckcjiojfpaikaaDoorNatF
import Derived.OpenShut
import Derived.ProofKit
namespace Go.Proofs.YtckcjiojfpaikaaDoor
open Go.RowKit

theorem sl_built (w : World) (l : List Nat) (hb : ∀ x ∈ l, x < Mx.B) : Sl (w.alloc (.cells (vals l).toArray 48)) (.slice (some ⟨w.heap.size, 0, none⟩) l.length l.length) l := (Blk.new w l).sl hb

def top : Nat := 18446744073709551615
theorem len_one {x : Nat} (h : x < Mx.B) : Mx.len (Mx.val [x]) ≤ 1 := Mx.len_val [x] (by intro y hy; simp at hy; rw [hy]; exact h)
theorem top_lt : top < Mx.B := by rw [Mx.B_eq]; unfold top; omega
theorem small_lt {x : Nat} (h : x ≤ 1000) : x < Mx.B := by rw [Mx.B_eq]; omega

/-- A slice of uint64 that came in. -/
theorem sl_of_row {w : World} {a : Option Addr} {len cap : Nat} {zs : List Int} (h : (a = none ∧ len = 0 ∧ cap = 0 ∧ zs = []) ∨
    ∃ x, a = some x ∧ len ≤ cap ∧ cap ≤ maxLen ∧ zs.length = cap ∧ (∀ i, i < zs.length → w.cell? (x.add i) = some (.int .u64 (zs.getD i 0))) ∧ ∀ n ∈ zs, (Lit.int .u64 n).wf = true) :
    Sl w (.slice a len cap) ((zs.take len).map Int.toNat) := by
  rcases h with ⟨rfl, rfl, rfl, rfl⟩ | ⟨x, rfl, hl, hm, hz, hc, hw⟩
  · exact ⟨none, 0, rfl, Nat.le_refl _, by simp, Cells.nil _ _⟩
  · have hlen : ((zs.take len).map Int.toNat).length = len := by simp; omega
    refine ⟨some x, cap, by rw [hlen], by omega, ?_, ?_⟩
    · intro y hy
      simp only [List.mem_map] at hy
      obtain ⟨z, hz1, rfl⟩ := hy
      have := bounds_u64 (hw z (List.mem_of_mem_take hz1))
      rw [Mx.B_eq]
      omega
    · intro hn
      have hp : 0 < len := by
        rcases Nat.eq_zero_or_pos len with h0 | h0
        · subst h0; simp at hn
        · exact h0
      obtain ⟨b, off, rfl, hc2⟩ := ints_at hc (by omega : 0 < zs.length)
      refine ⟨b, off, rfl, lt_of_cell (hc2 0 (by omega)), fun j y hy => ?_⟩
      rw [List.getElem?_map] at hy
      obtain ⟨z, hz1, rfl⟩ := Option.map_eq_some_iff.1 hy
      rw [List.getElem?_take] at hz1
      split at hz1
      · next hj =>
        have h2 := hc2 j (by omega)
        rw [List.getD_eq_getElem?_getD, hz1, Option.getD_some] at h2
        have := bounds_u64 (hw z (List.mem_of_getElem? hz1))
        rw [h2, Int.toNat_of_nonneg this.1]
      · cases hz1

/-- The number n, of k limbs at most. -/
def IsN (w : World) (v : Value) (n k : Nat) : Prop := IsNat w v n ∧ Mx.len n ≤ k
theorem IsN.grow {w w' : World} {v : Value} {n k : Nat} (h : IsN w v n k) (g : Grow w w') : IsN w' v n k := ⟨h.1.grow g, h.2⟩

theorem of_n {w : World} {v : Value} {l : List Nat} (k : Nat) (h : Sl w v l) (hk : l.length ≤ k) (hm : k ≤ 4294967296) :
    Calls Tryd.prog 8 #[v] w (Ret w fun v' w' => IsN w' v' (Mx.val l) k) :=
  (of_any w v l (by omega) h).mono fun _ _ r => r.mono fun _ _ q => ⟨q, Nat.le_trans (Mx.len_val l (by obtain ⟨_, _, _, _, hb, _⟩ := h; exact hb)) hk⟩
theorem add_n {w : World} {va vb : Value} {n m k j : Nat} (ha : IsN w va n k) (hb : IsN w vb m j) (hk : k ≤ 4294967296) (hj : j ≤ 4294967296) :
    Calls Tryd.prog 34 #[va, vb] w (Ret w fun v' w' => IsN w' v' (n + m) (max k j + 1)) :=
  (add_any w va vb n m (Nat.le_trans ha.2 hk) (Nat.le_trans hb.2 hj) ha.1 hb.1).mono fun _ _ r => r.mono fun _ _ q => ⟨q, by
    have h1 := Mx.len_add n m
    have h2 := ha.2
    have h3 := hb.2
    omega⟩
theorem mul_n {w : World} {va vb : Value} {n m k j : Nat} (ha : IsN w va n k) (hb : IsN w vb m j) (hk : k ≤ 4294967296) (hj : j ≤ 4294967296) :
    Calls Tryd.prog 25 #[va, vb] w (Ret w fun v' w' => IsN w' v' (n * m) (k + j)) :=
  (mul_any w va vb n m (Nat.le_trans ha.2 hk) (Nat.le_trans hb.2 hj) ha.1 hb.1).mono fun _ _ r => r.mono fun _ _ q => ⟨q, by
    have h1 := Mx.len_mul n m
    have h2 := ha.2
    have h3 := hb.2
    omega⟩
theorem cmp_n {w : World} {va vb : Value} {n m k j : Nat} (ha : IsN w va n k) (hb : IsN w vb m j) (hk : k ≤ 4294967296) :
    Calls Tryd.prog 15 #[va, vb] w (Ret w fun v' _ => v' = .int .i64 (Mx.cmp n m)) :=
  cmp_any w va vb n m (by have := ha.2; omega) ha.1 hb.1
theorem cmp_n0 {w : World} {va vb : Value} {n m k j : Nat} (ha : IsN w va n k) (hb : IsN w vb m j) (hk : k ≤ 4294967296) (he : n = m) :
    Calls Tryd.prog 15 #[va, vb] w (Ret w fun v' _ => v' = .int .i64 0) := by
  have h := cmp_n ha hb hk
  rwa [Mx.cmp_eq he] at h
theorem zero_n {w : World} {v : Value} {n k : Nat} (h : IsN w v n k) : Calls Tryd.prog 17 #[v] w (Ret w fun v' _ => v' = .bool (n == 0)) := zero_any w v n h.1
theorem bits_n {w : World} {v : Value} {n k : Nat} (h : IsN w v n k) (hk : k ≤ 4294967296) : Calls Tryd.prog 22 #[v] w (Ret w fun v' _ => v' = .int .i64 ((Mx.bits n : Nat) : Int)) :=
  bits_any w v n (by have := h.2; omega) h.1
theorem IsN.zero (w : World) : IsN w (.agg #[.slice none 0 0]) 0 0 := ⟨⟨none, 0, rfl, Nat.le_refl _, Cells.nil _ _⟩, Nat.le_refl _⟩
end Go.Proofs.YtckcjiojfpaikaaDoor
