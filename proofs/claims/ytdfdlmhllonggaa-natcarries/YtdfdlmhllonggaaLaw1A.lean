/- What the laws of layer 1 share: cut, wakes. -/
import Derived.Test.YtdfdlmhllonggaaNatF
import Derived.OpenShut
import Derived.ProofKit
namespace Go.Proofs.Ytdfdlmhllonggaa
open Go.RowKit

theorem sl_built (w : World) (l : List Nat) (hb : ∀ x ∈ l, x < Mx.B) : Sl (w.alloc (.cells (vals l).toArray 37)) (.slice (some ⟨w.heap.size, 0, none⟩) l.length l.length) l := (Blk.new w l).sl hb

def top : Nat := 18446744073709551615
theorem wake_num : Mx.val [top] + Mx.val [1] = Mx.val [0, 1] := by simp [Mx.val, top, Mx.B_eq]
theorem wake_limbs : Mx.limbs (Mx.val [0, 1]) = [0, 1] := Mx.limbs_val [0, 1] (by intro x hx; simp at hx; rcases hx with rfl | rfl <;> simp [Mx.B_eq]) (.inr (by simp))
theorem wake_bits : Mx.bits (Mx.val [0, 1]) = 65 := by
  have e : Mx.val [0, 1] = 2 ^ 64 := by simp [Mx.val, Mx.B_eq]
  rw [e]
  exact Mx.bits_unique (k := 64) (Nat.le_refl _) (by decide)
theorem wake_len : Mx.len (Mx.val [0, 1]) = 2 := by unfold Mx.len; rw [wake_limbs]; rfl
theorem len_one {x : Nat} (h : x < Mx.B) : Mx.len (Mx.val [x]) ≤ 1 := Mx.len_val [x] (by intro y hy; simp at hy; rw [hy]; exact h)
theorem top_lt : top < Mx.B := by rw [Mx.B_eq]; unfold top; omega
theorem small_lt {x : Nat} (h : x ≤ 1000) : x < Mx.B := by rw [Mx.B_eq]; omega
theorem wake_cmp : Mx.cmp (Mx.val [5]) (Mx.val [3, 1]) = -1 := Mx.cmp_lt (by simp [Mx.val, Mx.B_eq])

set_option maxHeartbeats 1000000 in
theorem wakes_any (w : World) : Calls Try.prog 14 #[] w (Ret w fun v' _ => v' = .bool true) := by
  go_enter Try.func14, Try.ntmps14
  go_wp2_with fail
  refine (of_any _ _ [top] (by simp) (sl_built _ [top] (by intro y hy; simp at hy; rw [hy]; exact top_lt))).mono ?_
  rintro e w1 ⟨v1, rfl, h1, g1⟩
  go_wp2_with fail
  refine (of_any _ _ [1] (by simp) (sl_built _ [1] (by intro y hy; simp at hy; rw [hy]; exact Mx.B_one))).mono ?_
  rintro e w2 ⟨v2, rfl, h2, g2⟩
  have h1' := h1.grow (((Grow.refl w1).alloc _).trans g2)
  have gw : Grow w w2 := (((Grow.refl w).alloc _).trans g1).trans (((Grow.refl w1).alloc _).trans g2)
  clear h1 g1 g2
  go_wp2_with fail
  refine (add_any _ _ _ _ _ (Nat.le_trans (len_one top_lt) (by omega)) (Nat.le_trans (len_one Mx.B_one) (by omega)) h1' h2).mono ?_
  rintro e w3 ⟨v3, rfl, h3, g3⟩
  rw [wake_num] at h3
  have gw3 := gw.trans g3
  clear h1' h2 g3 gw
  obtain ⟨A, c, rfl, hc, hl⟩ := h3
  have HN := Lib.hid (fun W (g : Grow w3 W) => (⟨A, c, rfl, hc, hl.grow g⟩ : IsNat W (.agg #[.slice A (Mx.len (Mx.val [0, 1])) c]) (Mx.val [0, 1])))
  clear hc hl
  go_wp2_with fail
  refine (limbs_any _ _ _ (by rw [wake_len]; omega) (HN.out _ ((Grow.refl w3).alloc _))).mono ?_
  rintro e w4 ⟨v4, rfl, h4⟩
  have g4 := h4.choose_spec.2.2.2
  have s4 := h4.sl (Mx.limbs_lt _)
  rw [wake_limbs] at s4
  clear h4
  have hbox := g4.new.1
  have hlt := lt_of_cell hbox
  have HG4 := Lib.hid g4
  clear g4
  go_wp2_with fail
  refine (equalU64_any _ _ _ [0, 1] [0, 1] (by simp) (s4.grow ((Grow.refl w4).alloc _)) (sl_built _ [0, 1] (by intro y hy; simp at hy; rcases hy with rfl | rfl <;> exact small_lt (by omega)))).mono ?_
  rintro e w5 ⟨v5, rfl, rfl, g5⟩
  have g45 : Grow w4 w5 := ((Grow.refl w4).alloc _).trans g5
  have g35 : Grow w3 w5 := ((Grow.refl w3).alloc _).trans (HG4.out.trans g45)
  have hbox5 := (g45.cell (p := ⟨w3.heap.size, 0, none⟩) hlt).trans hbox
  have gw5 := gw3.trans g35
  clear s4 hbox g5 g45 HG4 hlt
  simp only [BEq.rfl]
  go_wp2_with fail
  refine (bits_any _ _ _ (by rw [wake_len]; omega) (HN.out _ g35)).mono ?_
  rw [wake_bits]
  rintro e w6 ⟨v6, rfl, rfl, g6⟩
  have gw6 := gw5.trans g6
  clear HN hbox5 gw5 g6 g35 gw3
  go_wp2_with fail
  refine (of_any _ _ [0, 0] (by simp) (sl_built _ [0, 0] (by intro y hy; simp at hy; rw [hy]; exact Mx.B_pos))).mono ?_
  rintro e w7 ⟨v7, rfl, h7, g7⟩
  have gw7 := gw6.trans (((Grow.refl w6).alloc _).trans g7)
  rw [show Mx.val [0, 0] = 0 from rfl] at h7
  clear g7 gw6
  go_wp2_with fail
  refine (zero_any _ _ _ h7).mono ?_
  rintro e w8 ⟨v8, rfl, rfl, g8⟩
  have gw8 := gw7.trans g8
  clear g8 gw7 h7
  simp only [BEq.rfl]
  go_wp2_with fail
  refine (of_any _ _ [5] (by simp) (sl_built _ [5] (by intro y hy; simp at hy; rw [hy]; exact small_lt (by omega)))).mono ?_
  rintro e w9 ⟨v9, rfl, h9, g9⟩
  have gw9 := gw8.trans (((Grow.refl w8).alloc _).trans g9)
  clear g9 gw8
  go_wp2_with fail
  refine (of_any _ _ [3, 1] (by simp) (sl_built _ [3, 1] (by intro y hy; simp at hy; rcases hy with rfl | rfl <;> exact small_lt (by omega)))).mono ?_
  rintro e w10 ⟨v10, rfl, h10, g10⟩
  have g910 : Grow w9 w10 := ((Grow.refl w9).alloc _).trans g10
  have gw10 := gw9.trans g910
  have h9' := h9.grow g910
  clear g10 gw9 g910 h9
  go_wp2_with fail
  refine (cmp_any _ _ _ _ _ (Nat.le_trans (len_one (small_lt (by omega))) (by omega)) h9' h10).mono ?_
  rw [wake_cmp]
  rintro e w11 ⟨v11, rfl, rfl, g11⟩
  have gw11 := gw10.trans g11
  clear g11 gw10 h9' h10
  go_wp2_with fail
  go_ret
  exact Ret.mk rfl gw11

/-- A slice of uint64 that came in. -/
theorem sl_of_row {w : World} {a : Option Addr} {len cap : Nat} {zs : List Int} (h : (a = none ∧ len = 0 ∧ cap = 0 ∧ zs = []) ∨
    ∃ x, a = some x ∧ len ≤ cap ∧ cap ≤ maxLen ∧ zs.length = cap ∧ (∀ i, i < zs.length → w.cell? (x.add i) = some (.int .u64 (zs.getD i 0))) ∧ ∀ n ∈ zs, (Lit.int .u64 n).wf = true) :
    Sl w (.slice a len cap) ((zs.take len).map Int.toNat) := by
  rcases h with ⟨rfl, rfl, rfl, rfl⟩ | ⟨x, rfl, hl, hm, hz, hc, hw⟩
  · exact ⟨none, 0, rfl, Nat.le_refl _, by simp, Cells.nil _ _⟩
  · have hlen : ((zs.take len).map Int.toNat).length = len := by simp; omega
    refine ⟨some x, cap, by rw [hlen], by omega, ?_, ?_⟩
    · intro y hy
      simp only [List.mem_map] at hy
      obtain ⟨z, hz1, rfl⟩ := hy
      have := bounds_u64 (hw z (List.mem_of_mem_take hz1))
      rw [Mx.B_eq]
      omega
    · intro hn
      have hp : 0 < len := by
        rcases Nat.eq_zero_or_pos len with h0 | h0
        · subst h0; simp at hn
        · exact h0
      obtain ⟨b, off, rfl, hc2⟩ := ints_at hc (by omega : 0 < zs.length)
      refine ⟨b, off, rfl, lt_of_cell (hc2 0 (by omega)), fun j y hy => ?_⟩
      rw [List.getElem?_map] at hy
      obtain ⟨z, hz1, rfl⟩ := Option.map_eq_some_iff.1 hy
      rw [List.getElem?_take] at hz1
      split at hz1
      · next hj =>
        have h2 := hc2 j (by omega)
        rw [List.getD_eq_getElem?_getD, hz1, Option.getD_some] at h2
        have := bounds_u64 (hw z (List.mem_of_getElem? hz1))
        rw [h2, Int.toNat_of_nonneg this.1]
      · cases hz1

/-- The number n, of k limbs at most. -/
def IsN (w : World) (v : Value) (n k : Nat) : Prop := IsNat w v n ∧ Mx.len n ≤ k
theorem IsN.grow {w w' : World} {v : Value} {n k : Nat} (h : IsN w v n k) (g : Grow w w') : IsN w' v n k := ⟨h.1.grow g, h.2⟩

set_option maxHeartbeats 400000 in
theorem cut_any (w : World) (v : Value) (l : List Nat) (h : Sl w v l) : Calls Try.prog 9 #[v] w (Ret w fun v' w' => Sl w' v' (l.take 12)) := by
  obtain ⟨A, c, rfl, hc, hb, hcl⟩ := h
  have hlen : (min ((l.length : Nat) : Int) 12).toNat = (l.take 12).length := by rw [List.length_take]; omega
  have HB := Lib.hid hb
  have HL := Lib.hid hlen
  clear hb hlen
  go_enter Try.func9, Try.ntmps9
  go_wp2
  go_ret
  refine Ret.mk ⟨A, c, ?_, by rw [List.length_take]; omega, fun x hx => HB.out x (List.mem_of_mem_take hx), hcl.take 12⟩ (Grow.refl _)
  rw [← HL.out]
  rfl

theorem of_n {w : World} {v : Value} {l : List Nat} (k : Nat) (h : Sl w v l) (hk : l.length ≤ k) (hm : k ≤ 4294967296) :
    Calls Try.prog 8 #[v] w (Ret w fun v' w' => IsN w' v' (Mx.val l) k) :=
  (of_any w v l (by omega) h).mono fun _ _ r => r.mono fun _ _ q => ⟨q, Nat.le_trans (Mx.len_val l (by obtain ⟨_, _, _, _, hb, _⟩ := h; exact hb)) hk⟩
theorem add_n {w : World} {va vb : Value} {n m k j : Nat} (ha : IsN w va n k) (hb : IsN w vb m j) (hk : k ≤ 4294967296) (hj : j ≤ 4294967296) :
    Calls Try.prog 16 #[va, vb] w (Ret w fun v' w' => IsN w' v' (n + m) (max k j + 1)) :=
  (add_any w va vb n m (Nat.le_trans ha.2 hk) (Nat.le_trans hb.2 hj) ha.1 hb.1).mono fun _ _ r => r.mono fun _ _ q => ⟨q, by
    have h1 := Mx.len_add n m
    have h2 := ha.2
    have h3 := hb.2
    omega⟩
theorem mul_n {w : World} {va vb : Value} {n m k j : Nat} (ha : IsN w va n k) (hb : IsN w vb m j) (hk : k ≤ 4294967296) (hj : j ≤ 4294967296) :
    Calls Try.prog 18 #[va, vb] w (Ret w fun v' w' => IsN w' v' (n * m) (k + j)) :=
  (mul_any w va vb n m (Nat.le_trans ha.2 hk) (Nat.le_trans hb.2 hj) ha.1 hb.1).mono fun _ _ r => r.mono fun _ _ q => ⟨q, by
    have h1 := Mx.len_mul n m
    have h2 := ha.2
    have h3 := hb.2
    omega⟩
theorem sub_n {w : World} {va vb : Value} {n m k j : Nat} (ha : IsN w va n k) (hb : IsN w vb m j) (hk : k ≤ 4294967296) (hle : m ≤ n) :
    Calls Try.prog 11 #[va, vb] w (Ret w fun v' w' => ∃ u, v' = .tuple #[u, .bool true] ∧ IsN w' u (n - m) k) :=
  (sub_ok w va vb n m (Nat.le_trans ha.2 hk) ha.1 hb.1 hle).mono fun _ _ r => r.mono fun _ _ ⟨u, e, q⟩ => ⟨u, e, q, Nat.le_trans (Mx.len_sub n m) ha.2⟩
theorem cmp_n {w : World} {va vb : Value} {n m k j : Nat} (ha : IsN w va n k) (hb : IsN w vb m j) (hk : k ≤ 4294967296) :
    Calls Try.prog 25 #[va, vb] w (Ret w fun v' _ => v' = .int .i64 (Mx.cmp n m)) :=
  cmp_any w va vb n m (by have := ha.2; omega) ha.1 hb.1
theorem cmp_n0 {w : World} {va vb : Value} {n m k j : Nat} (ha : IsN w va n k) (hb : IsN w vb m j) (hk : k ≤ 4294967296) (he : n = m) :
    Calls Try.prog 25 #[va, vb] w (Ret w fun v' _ => v' = .int .i64 0) := by
  have h := cmp_n ha hb hk
  rwa [Mx.cmp_eq he] at h
theorem zero_n {w : World} {v : Value} {n k : Nat} (h : IsN w v n k) : Calls Try.prog 23 #[v] w (Ret w fun v' _ => v' = .bool (n == 0)) := zero_any w v n h.1
theorem bits_n {w : World} {v : Value} {n k : Nat} (h : IsN w v n k) (hk : k ≤ 4294967296) : Calls Try.prog 24 #[v] w (Ret w fun v' _ => v' = .int .i64 ((Mx.bits n : Nat) : Int)) :=
  bits_any w v n (by have := h.2; omega) h.1
theorem IsN.zero (w : World) : IsN w (.agg #[.slice none 0 0]) 0 0 := ⟨⟨none, 0, rfl, Nat.le_refl _, Cells.nil _ _⟩, Nat.le_refl _⟩
end Go.Proofs.Ytdfdlmhllonggaa
