/- Contracts of package nat's small functions: withoutNoughts, fresh, keep, Of, Limbs, Zero, limbAt. -/
import Derived.Test.YtckcjiojfpaikaaDoorMem
import Derived.Laws.CopyOwn
import Derived.Deep.OwnRows
namespace Go.Proofs.YtckcjiojfpaikaaDoor
open Go.RowKit

/-- From k on there are noughts. -/
def NoughtsFrom (l : List Nat) (k : Nat) : Prop := ∀ j, k ≤ j → j < l.length → l.getD j 0 = 0

theorem len_of_noughts {l : List Nat} {k : Nat} (hb : ∀ x ∈ l, x < Mx.B) (hk : k ≤ l.length) (hz : NoughtsFrom l k) (hl : k = 0 ∨ l.getD (k - 1) 0 ≠ 0) : Mx.len (Mx.val l) = k := by
  unfold Mx.len
  rw [Mx.limbs_take l k hb hk hz hl, List.length_take, Nat.min_eq_left hk]

set_option maxHeartbeats 400000 in
theorem withoutNoughts_any (w : World) (A : Option Addr) (l : List Nat) (c : Nat) (hc : l.length ≤ c) (hm : l.length ≤ 1152921504606846975) (hb : ∀ x ∈ l, x < Mx.B) (hl : Cells w A l) :
    Calls Tryd.prog 28 #[.slice A l.length c] w fun e w' => e = .returned (.slice A (Mx.len (Mx.val l)) (Mx.len (Mx.val l))) ∧ w = w' := by
  have HB := Lib.hid hb
  clear hb
  go_enter Tryd.func28, Tryd.ntmps28
  go_wp2
  go_loop [3] (fun n => ∃ k : Nat, k ≤ l.length ∧ n = .int .i64 k ∧ NoughtsFrom l k) (fun n => (intOf n).toNat)
  case atStart => exact ⟨l.length, Nat.le_refl _, rfl, fun j h1 h2 => by omega⟩
  case round =>
    obtain ⟨k, hk, rfl, hz⟩ := hrel
    by_cases hpos : 0 < k
    · have hn : l ≠ [] := by intro e; subst e; simp at hk; omega
      obtain ⟨b, o, rfl, hbl, hcell⟩ := hl.at hn
      have hck := hcell (k - 1) (by omega)
      clear hcell
      generalize hx : l.getD (k - 1) 0 = x at hck
      have HX := Lib.hid hx
      clear hx
      have hk1 : (0 : Int) < (k : Int) := by omega
      have hk2 : ((k : Int) - 1).toNat = k - 1 := by omega
      by_cases h0 : x = 0
      · subst h0
        go_wp2
        go_round
        case rel => exact ⟨k - 1, by omega, by go_num, fun j h1 h2 => by
          rcases Nat.lt_or_ge j k with h3 | h3
          · obtain rfl : j = k - 1 := by omega
            exact HX.out
          · exact hz j h3 h2⟩
        case measure => simp [intOf]; omega
      · have h0' : ((x : Int) == 0) = false := by simp; omega
        go_wp2
        go_ret
        exact ⟨by rw [len_of_noughts HB.out hk hz (.inr (by rw [HX.out]; exact h0))]; rfl, rfl⟩
    · obtain rfl : k = 0 := by omega
      go_wp2
      go_ret
      exact ⟨by rw [len_of_noughts HB.out hk hz (.inl rfl)]; rfl, rfl⟩

/-- Numbers as values. -/
def vals (l : List Nat) : List Value := l.map fun x => Value.int .u64 ((x : Nat) : Int)
theorem vals_length (l : List Nat) : (vals l).length = l.length := by simp [vals]
theorem vals_get (l : List Nat) (j : Nat) : (vals l)[j]? = (l[j]?).map fun x => Value.int .u64 ((x : Nat) : Int) := by simp [vals]
theorem vals_one (l : List Nat) : ∀ v ∈ vals l, v.oneCell' = true := by
  intro v hv
  simp only [vals, List.mem_map] at hv
  obtain ⟨x, _, rfl⟩ := hv
  rfl

/-- A new block, made by this call, holds just the limbs l; v is the slice over all of it. -/
def FreshSl (w w' : World) (v : Value) (l : List Nat) : Prop :=
  ∃ b, v = .slice (some ⟨b, 0, none⟩) l.length l.length ∧ w.heap.size ≤ b ∧ w'.heap[b]? = some (.cells (vals l).toArray 48 (0, 0)) ∧ Grow w w'

theorem lt_of_heap {w : World} {b : Nat} {o : Obj} (h : w.heap[b]? = some o) : b < w.heap.size := by
  rcases Nat.lt_or_ge b w.heap.size with hlt | hge
  · exact hlt
  · rw [Array.getElem?_eq_none hge] at h; cases h

theorem Cells.of_block {w : World} {b : Nat} {l : List Nat} {t : TypeId} (h : w.heap[b]? = some (.cells (vals l).toArray t (0, 0))) : Cells w (some ⟨b, 0, none⟩) l := fun _ =>
  ⟨b, 0, rfl, lt_of_heap h, fun j x hx => by
    rw [cell_of_row w b (0 + j) _ t (0, 0) h]
    simp [vals_get, hx]⟩

theorem FreshSl.sl {w w' : World} {v : Value} {l : List Nat} (h : FreshSl w w' v l) (hb : ∀ x ∈ l, x < Mx.B) : Sl w' v l := by
  obtain ⟨b, e, _, hh, _⟩ := h
  exact ⟨_, _, e, Nat.le_refl _, hb, Cells.of_block hh⟩

theorem splice_all (cur cs : List Value) (h : cur.length = cs.length) : splice cur 0 cs = cs := by
  simp [splice, ← h]

theorem made_list (n : Nat) : (madeCells #[Value.int .u64 0] n) = (List.replicate n (Value.int .u64 0)).toArray := by
  apply Array.ext
  · simp [size_madeCells]
  · intro i h1 h2
    simp [madeCells, Nat.mod_one]

theorem info37s : (Tryd.prog.info? 48).map (·.size) = some 1 := by kernel_rfl

set_option maxHeartbeats 400000 in
theorem fresh_any (w : World) (A : Option Addr) (l : List Nat) (c : Nat) (hm : l.length ≤ 17592186044416) (hl : Cells w A l) :
    Calls Tryd.prog 27 #[.slice A l.length c] w fun e w' => ∃ v, e = .returned v ∧ FreshSl w w' v l := by
  have hmk := fun W => run_make_row' (P := Tryd.prog) 22 48 (.int .u64 0) 8 Tryd.underlying22 info37 rfl .i64 .i64 l.length (by omega) (by omega) W
  rcases List.eq_nil_or_concat l with h0 | h0
  · subst h0
    have hcp := run_copy_none (P := Tryd.prog) (w.alloc (.cells (madeCells #[.int .u64 0] 0) 48)) 22 22 3 48 (some ⟨w.heap.size, 0, none⟩) A 0 0 0 c Tryd.underlying22 info37s rfl
    simp at hmk
    simp only [List.length_nil]
    go_enter Tryd.func27, Tryd.ntmps27
    go_wp2
    go_ret
    refine ⟨_, rfl, w.heap.size, rfl, Nat.le_refl _, ?_, (Grow.refl w).alloc _⟩
    rw [heap_alloc_new]
    simp [vals, made_list]
  · have hn : l ≠ [] := by obtain ⟨a, b, rfl⟩ := h0; simp
    obtain ⟨b, o, rfl, hbl, hc⟩ := hl hn
    have hg : (w.alloc (.cells (madeCells #[.int .u64 0] l.length) 48)).heap[w.heap.size]? = some (.cells (madeCells #[.int .u64 0] l.length) 48 (0, 0)) := heap_alloc_new w _
    have hcp := run_copy_row (P := Tryd.prog) (w.alloc (.cells (madeCells #[.int .u64 0] l.length) 48)) 22 22 3 48 w.heap.size 0 l.length l.length ⟨b, o, none⟩ l.length c
      (madeCells #[.int .u64 0] l.length) 48 (vals l) Tryd.underlying22 info37s hg (by rw [vals_length]; exact (Nat.min_self _).symm)
      (fun j v hv => by
        rw [vals_get] at hv
        obtain ⟨x, hx, rfl⟩ := Option.map_eq_some_iff.1 hv
        have e : (Addr.mk b o none).add j = ⟨b, o + j, none⟩ := by unfold Addr.add; split <;> simp_all
        rw [e, World.cell?_alloc_lt w _ _ hbl]
        exact hc j x hx)
      (by rw [vals_length, size_madeCells]; omega) (vals_one l)
    have e : (List.take 0 (madeCells #[Value.int .u64 0] l.length).toList ++ vals l ++ List.drop (0 + (vals l).length) (madeCells #[Value.int .u64 0] l.length).toList).toArray = (vals l).toArray := by
      rw [List.drop_of_length_le (by rw [vals_length, Array.length_toList, size_madeCells]; omega)]
      simp
    rw [e] at hcp
    have hh := setRow_heap (w.alloc (.cells (madeCells #[.int .u64 0] l.length) 48)) w.heap.size _ (vals l).toArray 48 (0, 0) hg
    have hB : Grow w ((w.alloc (.cells (madeCells #[.int .u64 0] l.length) 48)).setRow w.heap.size (vals l).toArray) := below_setRow ((Grow.refl w).alloc _) (Nat.le_refl _) _
    have HH := Lib.hid hh
    have HV := Lib.hid (vals_length l)
    clear hh e hg hc
    generalize hw : (w.alloc (.cells (madeCells #[.int .u64 0] l.length) 48)).setRow w.heap.size (vals l).toArray = w2 at hcp HH hB
    clear hw
    go_enter Tryd.func27, Tryd.ntmps27
    go_wp2
    go_ret
    exact ⟨_, rfl, w.heap.size, rfl, Nat.le_refl _, HH.out, hB⟩

/-- What a function of this program that only makes memory leaves: a value of which P is known, and nothing old turned. -/
def Ret (w : World) (P : Value → World → Prop) (e : Ending) (w' : World) : Prop := ∃ v, e = .returned v ∧ P v w' ∧ Grow w w'
theorem Ret.mk {w w' : World} {P : Value → World → Prop} {v : Value} (h : P v w') (g : Grow w w') : Ret w P (.returned v) w' := ⟨v, rfl, h, g⟩
theorem Ret.mono {w w' : World} {P P' : Value → World → Prop} {e : Ending} (h : Ret w P e w') (hp : ∀ v w', P v w' → P' v w') : Ret w P' e w' := by
  obtain ⟨v, rfl, h, g⟩ := h
  exact ⟨v, rfl, hp _ _ h, g⟩

set_option maxHeartbeats 400000 in
theorem keep_any (w : World) (v : Value) (l : List Nat) (hm : l.length ≤ 17592186044416) (h : Sl w v l) :
    Calls Tryd.prog 26 #[v] w (Ret w fun v' w' => IsNat w' v' (Mx.val l)) := by
  obtain ⟨A, c, rfl, hc, hb, hl⟩ := h
  have hlen := Mx.len_val l hb
  have hlim : Cells w A (Mx.limbs (Mx.val l)) := by
    have e : Mx.limbs (Mx.val l) = l.take (Mx.len (Mx.val l)) := Mx.limbs_val_take l hb
    rw [e]
    exact hl.take _
  have HWN := Lib.hid (fun W hW => withoutNoughts_any W A l c hc (by omega) hb hW)
  clear hb hc
  generalize hn : Mx.val l = n at *
  have HN := Lib.hid hn
  clear hn
  by_cases h0 : Mx.len n = 0
  · have hz : n = 0 := Mx.eq_zero_of_len h0
    subst hz
    clear h0
    simp only [Mx.len_zero] at HWN
    go_enter Tryd.func26, Tryd.ntmps26
    go_wp2_with (refine (HWN.out _ (hl.grow ((Grow.refl w).alloc _))).mono ?_; rintro e w' ⟨rfl, rfl⟩)
    exact bodyPost_ret (v := .agg #[.slice none 0 0]) (by simp [results, Tryd.results26, go_sem]) rfl
      (Ret.mk ⟨none, 0, rfl, Nat.le_refl _, Cells.nil _ _⟩ ((Grow.refl w).alloc _))
  · have h0' : (((Mx.len n : Nat) : Int) == 0) = false := by simp; omega
    go_enter Tryd.func26, Tryd.ntmps26
    go_wp2_with (refine (HWN.out _ (hl.grow ((Grow.refl w).alloc _))).mono ?_; rintro e w' ⟨rfl, rfl⟩)
    have hg : Grow w (w.alloc (Obj.cells #[Value.slice A (Mx.len n) (Mx.len n)] 24)) := (Grow.refl w).alloc _
    exact bodyPost_ret (v := .agg #[.slice A (Mx.len n) (Mx.len n)]) (by simp [results, Tryd.results26, go_sem]) rfl
      (Ret.mk ⟨A, Mx.len n, rfl, Nat.le_refl _, hlim.grow hg⟩ hg)

set_option maxHeartbeats 400000 in
theorem of_any (w : World) (v : Value) (l : List Nat) (hm : l.length ≤ 17592186044416) (h : Sl w v l) :
    Calls Tryd.prog 8 #[v] w (Ret w fun v' w' => IsNat w' v' (Mx.val l)) := by
  obtain ⟨A, c, rfl, hc, hb, hl⟩ := h
  have hlim : Cells w A (l.take (Mx.len (Mx.val l))) := hl.take _
  have hbt : ∀ x ∈ l.take (Mx.len (Mx.val l)), x < Mx.B := fun x hx => hb x (List.mem_of_mem_take hx)
  have hvt : Mx.val (l.take (Mx.len (Mx.val l))) = Mx.val l := by rw [← Mx.limbs_val_take l hb, Mx.val_limbs]
  have hlt : (l.take (Mx.len (Mx.val l))).length = Mx.len (Mx.val l) := by rw [List.length_take, Nat.min_eq_left (Mx.len_val l hb)]
  have HWN := Lib.hid (fun W hW => withoutNoughts_any W A l c hc (by omega) hb hW)
  have hlen := Mx.len_val l hb
  generalize hn : Mx.val l = n at *
  generalize ht : l.take (Mx.len n) = r at *
  have HB := Lib.hid hbt
  have HV := Lib.hid hvt
  rw [← hlt] at HWN
  have hr : r.length ≤ 17592186044416 := by omega
  clear hb hc hn ht hbt hvt hlt hlen
  go_enter Tryd.func8, Tryd.ntmps8
  go_wp2_with fail
  refine (HWN.out _ (hl.grow ((Grow.refl w).alloc _))).mono ?_
  rintro e w' ⟨rfl, rfl⟩
  go_wp2_with fail
  refine (fresh_any _ A r r.length hr (hlim.grow ((Grow.refl w).alloc _))).mono ?_
  rintro e w1 ⟨v1, rfl, hf⟩
  have hg1 : Grow w w1 := ((Grow.refl w).alloc _).trans hf.choose_spec.2.2.2
  go_wp2_with fail
  refine (keep_any _ _ r hr (hf.sl HB.out)).mono ?_
  rintro e w2 ⟨v2, rfl, hk, hg2⟩
  have hg : Grow (w.alloc (Obj.cells #[Value.slice none 0 0] 24)) w2 := hf.choose_spec.2.2.2.trans hg2
  rw [HV.out] at hk
  clear hf hg1 hg2 HWN HB hlim hl HV
  obtain ⟨hc, hz⟩ := hg.new
  have HG := Lib.hid hg
  clear hg
  obtain ⟨A2, c2, rfl, hc2, hl2⟩ := hk
  go_wp2_with fail
  refine bodyPost_ret (v := .agg #[.slice A2 (Mx.len n) c2]) (by simp [results, Tryd.results8, go_sem, hc]) rfl (Ret.mk ⟨A2, c2, rfl, hc2, hl2.store hc _⟩ ?_)
  exact Grow.setCell (((Grow.refl w).alloc _).trans HG.out) (Nat.le_refl _) _
end Go.Proofs.YtckcjiojfpaikaaDoor
