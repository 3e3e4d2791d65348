/- The library's slices.Repeat, of one limb. -/
import Derived.Test.YtdfdlmhllonggaaLaw1D
namespace Go.Proofs.Ytdfdlmhllonggaa
open Go.RowKit

theorem inBlock_n {i : Nat} {Q : Exit → Act → World → Prop} {a : Act} {w : World} (h : Q .normal a w) : Exit.inBlock i Q .normal a w := h

/-- One step of a region that draws: the copy of Repeat's loop. -/
theorem step_rep {ops : Array Oper} {o : Oper} {a : Act} {w : World} {K : Act → World → Prop} {Q : Exit → Act → World → Prop} {E : Prop} {g n k V c1 c2 : Nat} {w0 : World} (hgd : o.guard = none)
    (ho : o.op = .call { callee := .builtin .copy, args := #[.tmp 41, .tmp 44], argTypes := #[22, 22] })
    (hd : a.eval (.tmp 41) = .slice (some ⟨g, n, none⟩) (k - n) c1) (hs : a.eval (.tmp 44) = .slice (some ⟨g, 0, none⟩) n c2)
    (hb : Blk w g (rep V n k)) (hnk : n < k) (hb0 : Grow w0 w) (hg : w0.heap.size ≤ g)
    (h : ∀ w', Hid (Blk w' g (rep V (n + min n (k - n)) k)) → Grow w0 w' → K (a.put o.dst (.int .i64 ((min n (k - n) : Nat) : Int))) w') :
    if Region.wanted o (yielded ops a.tmps) = true then Oper.wp Try.prog o a w K Q else E := by
  have hlen : (vals (List.replicate (min n (k - n)) V)).length = min n (k - n) := by rw [vals_length, List.length_replicate]
  refine step_copy_splice hgd (.tmp 41) (.tmp 44) 22 22 ho 37 Try.underlying22 info37s (some ⟨g, n, none⟩) (some ⟨g, 0, none⟩) (k - n) c1 n c2 hd hs g n (vals (rep V n k)) 37 hb
    (vals (List.replicate (min n (k - n)) V)) hlen (fun _ => ⟨rfl, ⟨g, 0, none⟩, rfl, fun j v hv => ?_⟩) (by rw [hlen, vals_length, rep_length (by omega)]; omega) (vals_one _) w0.heap.size w0 hb0 hg fun w' hh hb' => ?_
  · rw [addr_add, Nat.zero_add]
    have hj : j < min n (k - n) := by have := (List.getElem?_eq_some_iff.1 hv).1; rw [hlen] at this; exact this
    rw [Blk.cell hb (by rw [rep_length (by omega)]; omega)]
    rw [vals_get] at hv
    have e : (rep V n k).getD j 0 = V := by
      unfold rep
      rw [List.getD_eq_getElem?_getD, List.getElem?_append_left (by rw [List.length_replicate]; omega), List.getElem?_replicate, if_pos (by omega)]
      rfl
    rw [e]
    rw [List.getElem?_replicate, if_pos hj] at hv
    exact hv
  · rw [hlen]
    have hh' : Blk w' g (rep V (n + min n (k - n)) k) := by
      have := hh.out
      rw [rep_splice (by omega)] at this
      exact this
    exact h w' (Lib.hid hh') hb'

theorem copy_first (w : World) (k V b o c : Nat) (hbl : b < w.heap.size) (hcell : w.cell? ⟨b, o, none⟩ = some (.int .u64 (V : Int))) :
    ∃ w2, (Builtin.copy_ #[22, 22] 3 #[.slice (some ⟨w.heap.size, 0, none⟩) k k, .slice (some ⟨b, o, none⟩) 1 c]).run Try.prog (w.alloc (.cells (madeCells #[.int .u64 0] k) 37)) =
      .ok (.int .i64 ((min 1 k : Nat) : Int)) w2 ∧ Blk w2 w.heap.size (rep V (min 1 k) k) ∧ Grow w w2 := by
  rcases Nat.eq_zero_or_pos k with h0 | h0
  · subst h0
    refine ⟨_, run_copy_none (P := Try.prog) (w.alloc (.cells (madeCells #[.int .u64 0] 0) 37)) 22 22 3 37 (some ⟨w.heap.size, 0, none⟩) (some ⟨b, o, none⟩) 0 0 1 c Try.underlying22 info37s rfl, ?_, (Grow.refl w).alloc _⟩
    exact Blk.made w 0
  · have hg : (w.alloc (.cells (madeCells #[.int .u64 0] k) 37)).heap[w.heap.size]? = some (.cells (madeCells #[.int .u64 0] k) 37 (0, 0)) := heap_alloc_new w _
    have hm : min 1 k = 1 := by omega
    have hcp := run_copy_row (P := Try.prog) (w.alloc (.cells (madeCells #[.int .u64 0] k) 37)) 22 22 3 37 w.heap.size 0 k k ⟨b, o, none⟩ 1 c
      (madeCells #[.int .u64 0] k) 37 (vals [V]) Try.underlying22 info37s hg (by show 1 = min 1 k; omega)
      (fun j v hv => by
        rw [vals_get] at hv
        obtain ⟨x, hx, rfl⟩ := Option.map_eq_some_iff.1 hv
        rcases j with _ | j
        · rw [addr_add, World.cell?_alloc_lt w _ _ hbl]
          simp at hx
          subst hx
          exact hcell
        · simp at hx)
      (by rw [vals_length, size_madeCells]; simp; omega) (vals_one _)
    have e : (List.take 0 (madeCells #[Value.int .u64 0] k).toList ++ vals [V] ++ List.drop (0 + (vals [V]).length) (madeCells #[Value.int .u64 0] k).toList) = vals (rep V 1 k) := by
      rw [made_list]
      simp [vals, rep]
    rw [e] at hcp
    refine ⟨_, by rw [hm]; exact hcp, ?_, below_setRow ((Grow.refl w).alloc _) (Nat.le_refl _) _⟩
    rw [hm]
    exact setRow_heap (w.alloc (.cells (madeCells #[.int .u64 0] k) 37)) w.heap.size _ _ 37 (0, 0) hg

set_option maxRecDepth 100000 in
set_option maxHeartbeats 2000000 in
theorem repeat_any (w : World) (vx : Value) (k V : Nat) (hk : k ≤ 1000) (hV : V < Mx.B) (hx : Sl w vx [V]) :
    Calls Try.prog 26 #[vx, .int .i64 (k : Int)] w (Ret w fun v' w' => Sl w' v' (List.replicate k V)) := by
  obtain ⟨A, c, rfl, hc, hb, hcl⟩ := hx
  simp only [List.length_cons, List.length_nil, Nat.zero_add] at hc ⊢
  obtain ⟨b, o, rfl, hbl, hcell⟩ := hcl (by simp)
  have hcell := hcell 0 V rfl
  have HM := Lib.hid (fun W => mulU_any 1 k Mx.B_one (by rw [Mx.B_eq]; omega) W)
  have e1 : Mx.mulHi 1 k = 0 := by unfold Mx.mulHi; rw [Nat.one_mul, Mx.B_eq]; omega
  have e2 : Mx.mulLo 1 k = k := by unfold Mx.mulLo; rw [Nat.one_mul, Mx.B_eq]; omega
  rw [e1, e2] at HM
  clear hcl hb e1 e2
  have HV := Lib.hid hV
  clear hV
  have hmk := fun W => run_make_row' (P := Try.prog) 22 37 (.int .u64 0) 8 Try.underlying22 info37 rfl .i64 .i64 k (by omega) (by omega) W
  obtain ⟨w2, hcp, hb2, g2⟩ := copy_first w k V b o c hbl (by simpa using hcell)
  have hm1 : min 1 k ≤ k := Nat.min_le_right _ _
  have hm2 : 0 < min 1 k ∨ k = 0 := by omega
  have hm3 : min 1 k ≤ 1 := Nat.min_le_left _ _
  generalize min 1 k = n0 at *
  have HB2 := Lib.hid hb2
  clear hb2
  go_enter Try.func26, Try.ntmps26
  go_wp2_with (go_at_call 41; refine (HM.out _).mono ?_; rintro e w' ⟨rfl, rfl⟩)
  go_loopw [8] (fun nv wr => ∃ n : Nat, nv = .int .i64 (n : Int) ∧ n ≤ k ∧ (0 < n ∨ k = 0) ∧ Blk wr w.heap.size (rep V n k) ∧ Grow w wr) (fun nv _ => k - (intOf nv).toNat)
  case atStart => exact ⟨n0, rfl, hm1, hm2, HB2.out, g2⟩
  case round =>
    obtain ⟨n, rfl, hn1, hn2, hbk, hg⟩ := hrel
    have HBK := Lib.hid hbk
    clear hbk HB2
    by_cases hlt : n < k
    · have hn0 : 0 < n := by omega
      have hi1 : (n : Int) < (k : Int) := by omega
      have hi2 : (n : Int) ≤ (k : Int) := by omega
      have hi3 : ((k : Int) - (n : Int)).toNat = k - n := by omega
      have hne : ¬ k = n := by omega
      go_wp2_with fail
      go_region_law (refine step_rep (g := w.heap.size) (n := n) (k := k) (V := V) (w0 := w) rfl rfl (by simp [Act.eval, Act.put]; try rfl) (by simp [Act.eval, Act.put]; try rfl) (by exact HBK.out) hlt (by exact hg.drew) (Nat.le_refl _) ?_; intro w4 hb4 hg4)
      have hmn : n + min n (k - n) ≤ k := by omega
      have hmp : 0 < min n (k - n) := by omega
      generalize min n (k - n) = m at *
      have hw : IntKind.i64.wrap ((n : Int) + (m : Int)) = (n : Int) + (m : Int) := IntWalk.i64_in _ (by omega)
      simp [Act.put, hw]
      refine inBlock_n ?_
      go_roundw
      case rel => exact ⟨_, _, _, _, _, _, _, _, _, _, _, _, _, _, ⟨n + m, by go_num, hmn, .inl (by omega), hb4.out, hg4⟩, rfl⟩
      case measure => simp [intOf]; omega
    · have hkn : n = k := by omega
      subst hkn
      go_wp2
      go_ret
      have hbk := HBK.out
      rw [rep_all] at hbk
      have hs := Blk.sl hbk (fun x hx => by rw [(List.mem_replicate.1 hx).2]; exact HV.out)
      rw [List.length_replicate] at hs
      exact Ret.mk hs hg
end Go.Proofs.Ytdfdlmhllonggaa
