/- Contracts of package nat: Add; of the library: math/bits.Add64, Sub64. -/
import Derived.Test.YtckcjiojfpaikaaDoorNatB
import Derived.Laws.Externs
namespace Go.Proofs.YtckcjiojfpaikaaDoor
open Go.RowKit

theorem add64_run (x y c : Nat) (hx : x < Mx.B) (hy : y < Mx.B) (hc : c ≤ 1) (w : World) : (callFunc 58 #[.int .u64 (x : Int), .int .u64 (y : Int), .int .u64 (c : Int)]).run Tryd.prog w =
    .ok (.value (.tuple #[.int .u64 ((Mx.addLo x y c : Nat) : Int), .int .u64 ((Mx.addHi x y c : Nat) : Int)])) w := by
  rw [Mx.B_eq] at hx hy
  rw [run_callFunc_extern Tryd.func58 (by kernel_rfl) (by kernel_rfl) (by kernel_rfl) (e := add64Entry) (by kernel_rfl), run_add64 x y c (by omega) (by omega) (by omega) (by omega)]
  simp only [Result.andThen, Mx.addLo, Mx.addHi, Mx.B_eq]
  congr 5 <;> omega

/-- A block of limbs that is known whole. -/
def Blk (w : World) (g : Nat) (l : List Nat) : Prop := w.heap[g]? = some (.cells (vals l).toArray 48 (0, 0))
theorem Blk.lt {w : World} {g : Nat} {l : List Nat} (h : Blk w g l) : g < w.heap.size := lt_of_heap h
theorem Blk.cell {w : World} {g : Nat} {l : List Nat} (h : Blk w g l) {i : Nat} (hi : i < l.length) : w.cell? ⟨g, i, none⟩ = some (.int .u64 (l.getD i 0 : Nat)) := by
  rw [cell_of_row w g i _ _ _ h]
  simp [vals_get, List.getElem?_eq_getElem hi]
theorem Blk.frozen {w : World} {g : Nat} {l : List Nat} (h : Blk w g l) (i : Nat) : w.frozen? ⟨g, i, none⟩ = false := by
  unfold Blk at h
  simp [World.frozen?, h]
theorem Blk.new (w : World) (l : List Nat) : Blk (w.alloc (.cells (vals l).toArray 48)) w.heap.size l := heap_alloc_new w _
theorem Blk.grow {w w' : World} {g : Nat} {l : List Nat} (h : Blk w g l) (k : Grow w w') : Blk w' g l := (k.block g h.lt).trans h
theorem Blk.alloc {w : World} {g : Nat} {l : List Nat} (h : Blk w g l) (o : Obj) : Blk (w.alloc o) g l := h.grow ((Grow.refl w).alloc o)
theorem Blk.set {w : World} {g : Nat} {l : List Nat} (h : Blk w g l) (i x : Nat) : Blk (w.setCell ⟨g, i, none⟩ (.int .u64 (x : Int))) g (l.set i x) := by
  unfold Blk at h ⊢
  simp [World.setCell, Array.getElem?_modify, h, vals, List.map_set]
theorem Blk.far {w : World} {g : Nat} {l : List Nat} (h : Blk w g l) {p : Addr} (hp : g ≠ p.block) (u : Value) : Blk (w.setCell p u) g l := (Below.heap_setCell w p u g hp).trans h
theorem Blk.sl {w : World} {g : Nat} {l : List Nat} (h : Blk w g l) (hb : ∀ x ∈ l, x < Mx.B) : Sl w (.slice (some ⟨g, 0, none⟩) l.length l.length) l := ⟨_, _, rfl, Nat.le_refl _, hb, Cells.of_block h⟩
theorem Blk.made (w : World) (n : Nat) : Blk (w.alloc (.cells (madeCells #[.int .u64 0] n) 48)) w.heap.size (List.replicate n 0) := by
  have := Blk.new w (List.replicate n 0)
  have e : (vals (List.replicate n 0)).toArray = madeCells #[.int .u64 0] n := by rw [made_list]; simp [vals]
  rwa [e] at this

theorem set_mid (s : List Nat) (i k x : Nat) (hs : s.length = i) : (s ++ List.replicate (k + 1) 0).set i x = (s ++ [x]) ++ List.replicate k 0 := by
  subst hs
  rw [List.replicate_succ, List.set_append_right _ _ (Nat.le_refl _)]
  simp

set_option maxHeartbeats 1000000 in
theorem add_any (w : World) (va vb : Value) (n m : Nat) (hn : Mx.len n ≤ 4294967296) (hm : Mx.len m ≤ 4294967296) (ha : IsNat w va n) (hb : IsNat w vb m) :
    Calls Tryd.prog 34 #[va, vb] w (Ret w fun v' w' => IsNat w' v' (n + m)) := by
  obtain ⟨A, c, rfl, hc, hl⟩ := ha
  obtain ⟨D, d, rfl, hd, hr⟩ := hb
  have hmk : ∀ k : Nat, k ≤ 4294967296 → ∀ W, Sem.run Tryd.prog (Instr.makeSlice 22 (.int .i64 ((k : Int) + 1)) (.int .i64 ((k : Int) + 1))) W = .ok (.slice (some ⟨W.heap.size, 0, none⟩) (k + 1) (k + 1)) (W.alloc (.cells (madeCells #[.int .u64 0] (k + 1)) 48)) := fun k hk W =>
    run_make_row' (P := Tryd.prog) 22 48 (.int .u64 0) 8 Tryd.underlying22 info37 rfl .i64 .i64 (k + 1) (by omega) (by omega) W
  by_cases hlen : Mx.len n < Mx.len m
  · have hmk1 := hmk (Mx.len m) hm
    have hle : (Mx.limbs n).length ≤ (Mx.limbs m).length := by unfold Mx.len at hlen; omega
    clear hmk
    go_enter Tryd.func34, Tryd.ntmps34
    go_wp2
    go_quiet (fail)
    generalize hW : World.drewN _ _ = W3
    have hg3 : Grow (((w.alloc (Obj.cells #[Value.slice A (Mx.len n) c] 24)).alloc (Obj.cells #[Value.slice D (Mx.len m) d] 24)).alloc (Obj.cells #[Value.slice none 0 0] 24)) W3 := hW ▸ (Grow.refl _).drewN _
    have hgw : Grow w W3 := ((((Grow.refl w).alloc _).alloc _).alloc _).trans hg3
    obtain ⟨hres, hfz⟩ := hg3.new
    simp only [World.size_alloc] at hres hfz
    have HR := Lib.hid hres
    have HZ := Lib.hid hfz
    have hr3 : w.heap.size + 1 + 1 < W3.heap.size := lt_of_cell hres
    clear hW hg3 hres hfz
    go_wp2
    clear hmk1
    go_loopw [8, 28] (fun cv iv wr => ∃ i : Nat, i ≤ Mx.len m ∧ iv = .int .i64 i ∧ cv = .int .u64 ((Mx.addTo (Mx.limbs m) (Mx.limbs n) i).2 : Nat) ∧ Grow W3 wr ∧ Blk wr W3.heap.size ((Mx.addTo (Mx.limbs m) (Mx.limbs n) i).1 ++ List.replicate (Mx.len m + 1 - i) 0)) (fun _ iv _ => Mx.len m - (intOf iv).toNat)
    case atStart => exact ⟨0, Nat.zero_le _, rfl, rfl, (Grow.refl _).alloc _, Blk.made _ _⟩
    case round =>
      obtain ⟨i, hi, rfl, rfl, hg, hblk⟩ := hrel
      have hs0 : W3.heap.size < wr.heap.size := hblk.lt
      have hlenS := Mx.addTo_length (Mx.limbs m) (Mx.limbs n) i
      have hcar := Mx.addTo_carry (Mx.limbs_lt m) (Mx.limbs_lt n) i
      by_cases hlt : i < Mx.len m
      · have hstep : Mx.addTo (Mx.limbs m) (Mx.limbs n) (i + 1) = ((Mx.addTo (Mx.limbs m) (Mx.limbs n) i).1 ++ [Mx.addLo ((Mx.limbs m).getD i 0) ((Mx.limbs n).getD i 0) (Mx.addTo (Mx.limbs m) (Mx.limbs n) i).2], Mx.addHi ((Mx.limbs m).getD i 0) ((Mx.limbs n).getD i 0) (Mx.addTo (Mx.limbs m) (Mx.limbs n) i).2) := rfl
        have hx := Mx.getD_lt _ (Mx.limbs_lt m) i
        have hy := Mx.getD_lt _ (Mx.limbs_lt n) i
        obtain ⟨b1, o1, rfl, hb1, hd1⟩ := (hr.grow (hgw.trans hg)).at (Mx.limbs_ne (by omega))
        have hcx := hd1 i hlt
        have HLA := Lib.hid (limbAt_any wr A (Mx.limbs n) c i (hl.grow (hgw.trans hg)))
        clear hd1
        generalize (Mx.limbs m).getD i 0 = x at hcx hstep hx
        generalize (Mx.limbs n).getD i 0 = y at hstep hy HLA
        generalize (Mx.addTo (Mx.limbs m) (Mx.limbs n) i).2 = cr at *
        generalize (Mx.addTo (Mx.limbs m) (Mx.limbs n) i).1 = ss at *
        have HS := Lib.hid hstep
        have HA := Lib.hid (fun W => add64_run x y cr hx hy hcar W)
        have hgc := hblk.cell (i := i) (by simp; omega)
        have hgf := hblk.frozen i
        have hblk' := hblk.set i (Mx.addLo x y cr)
        rw [show Mx.len m + 1 - i = (Mx.len m + 1 - (i + 1)) + 1 by omega, set_mid ss i _ _ hlenS] at hblk'
        have HB := Lib.hid hblk'
        have HLS := Lib.hid hlenS
        generalize (List.getD _ i 0 : Nat) = z at hgc
        have hi1 : (i : Int) < (Mx.len m : Int) := by omega
        have hi2 : (i : Int) < (Mx.len m : Int) + 1 := by omega
        clear hstep hblk' hlenS hblk hcar hx hy
        go_wp2_with (first | (go_at_call 59; refine HLA.out.mono ?_; rintro e w' ⟨rfl, rfl⟩) | (simp only [HA.out]))
        go_roundw
        case rel => exact ⟨i + 1, by omega, by go_num, by rw [HS.out], hg.setCell (Nat.le_refl _) _, by rw [HS.out]; exact HB.out⟩
        case measure => simp [intOf]; omega
      · obtain rfl : i = Mx.len m := by omega
        have hall := Mx.addTo_all (Mx.limbs m) (Mx.limbs n) hle
        rw [Mx.val_limbs, Mx.val_limbs, Nat.add_comm] at hall
        have hltA := Mx.addTo_lt (Mx.limbs m) (Mx.limbs n) (Mx.len m)
        rw [show (Mx.limbs m).length = Mx.len m from rfl] at hall
        generalize (Mx.addTo (Mx.limbs m) (Mx.limbs n) (Mx.len m)).2 = cr at *
        generalize (Mx.addTo (Mx.limbs m) (Mx.limbs n) (Mx.len m)).1 = ss at *
        have hgc := hblk.cell (i := Mx.len m) (by simp; omega)
        have hgf := hblk.frozen (Mx.len m)
        have hblk' := hblk.set (Mx.len m) cr
        rw [show Mx.len m + 1 - Mx.len m = 0 + 1 by omega, set_mid ss _ _ _ hlenS, List.replicate_zero, List.append_nil] at hblk'
        have hbd : ∀ x ∈ ss ++ [cr], x < Mx.B := by
          intro x hx
          rw [List.mem_append, List.mem_singleton] at hx
          rcases hx with hx | rfl
          · exact hltA x hx
          · exact Nat.lt_of_le_of_lt hcar Mx.B_one
        have hll : (ss ++ [cr]).length = Mx.len m + 1 := by rw [List.length_append, hlenS]; rfl
        have hsl := hblk'.sl hbd
        rw [hll] at hsl
        have hgk : Grow W3 (wr.setCell ⟨W3.heap.size, Mx.len m, none⟩ (.int .u64 (cr : Int))) := hg.setCell (Nat.le_refl _) _
        have HK := Lib.hid (keep_any _ _ (ss ++ [cr]) (by omega) hsl)
        rw [hall] at HK
        have HRC := Lib.hid hgk
        generalize (List.getD _ (Mx.len m) 0 : Nat) = z at hgc
        clear hall hltA hblk hblk' hbd hll hsl hgk hlenS hcar
        generalize hw4 : wr.setCell ⟨W3.heap.size, Mx.len m, none⟩ (.int .u64 (cr : Int)) = w4 at HK HRC
        have HW4 := Lib.hid hw4
        clear hw4
        have hi2 : (Mx.len m : Int) < (Mx.len m : Int) + 1 := by omega
        go_wp2_with fail
        rw [HW4.out]
        refine HK.out.mono ?_
        rintro e w5 ⟨v5, rfl, hk, hg5⟩
        have hg35 : Grow W3 w5 := HRC.out.trans hg5
        have hrc : w5.cell? ⟨w.heap.size + 1 + 1, 0, none⟩ = some (.slice none 0 0) := (hg35.cell (p := ⟨w.heap.size + 1 + 1, 0, none⟩) hr3).trans HR.out
        have hrz : w5.frozen? ⟨w.heap.size + 1 + 1, 0, none⟩ = false := (Below.frozen hg35 (p := ⟨w.heap.size + 1 + 1, 0, none⟩) hr3).trans HZ.out
        obtain ⟨A2, c2, rfl, hc2, hl2⟩ := hk
        clear HK hg5 HW4 HRC
        go_wp2_with fail
        refine bodyPost_ret (v := .agg #[.slice A2 (Mx.len (n + m)) c2]) (by simp [results, Tryd.results34, go_sem, hrc]) rfl (Ret.mk ⟨A2, c2, rfl, hc2, hl2.store hrc _⟩ ?_)
        exact Grow.setCell (hgw.trans hg35) (by show w.heap.size ≤ w.heap.size + 1 + 1; omega) _
  · have hmk1 := hmk (Mx.len n) hn
    have hle : (Mx.limbs m).length ≤ (Mx.limbs n).length := by unfold Mx.len at hlen; omega
    clear hmk
    go_enter Tryd.func34, Tryd.ntmps34
    go_wp2
    go_quiet (fail)
    generalize hW : World.drewN _ _ = W3
    have hg3 : Grow (((w.alloc (Obj.cells #[Value.slice A (Mx.len n) c] 24)).alloc (Obj.cells #[Value.slice D (Mx.len m) d] 24)).alloc (Obj.cells #[Value.slice none 0 0] 24)) W3 := hW ▸ (Grow.refl _).drewN _
    have hgw : Grow w W3 := ((((Grow.refl w).alloc _).alloc _).alloc _).trans hg3
    obtain ⟨hres, hfz⟩ := hg3.new
    simp only [World.size_alloc] at hres hfz
    have HR := Lib.hid hres
    have HZ := Lib.hid hfz
    have hr3 : w.heap.size + 1 + 1 < W3.heap.size := lt_of_cell hres
    clear hW hg3 hres hfz
    go_wp2
    clear hmk1
    go_loopw [8, 28] (fun cv iv wr => ∃ i : Nat, i ≤ Mx.len n ∧ iv = .int .i64 i ∧ cv = .int .u64 ((Mx.addTo (Mx.limbs n) (Mx.limbs m) i).2 : Nat) ∧ Grow W3 wr ∧ Blk wr W3.heap.size ((Mx.addTo (Mx.limbs n) (Mx.limbs m) i).1 ++ List.replicate (Mx.len n + 1 - i) 0)) (fun _ iv _ => Mx.len n - (intOf iv).toNat)
    case atStart => exact ⟨0, Nat.zero_le _, rfl, rfl, (Grow.refl _).alloc _, Blk.made _ _⟩
    case round =>
      obtain ⟨i, hi, rfl, rfl, hg, hblk⟩ := hrel
      have hs0 : W3.heap.size < wr.heap.size := hblk.lt
      have hlenS := Mx.addTo_length (Mx.limbs n) (Mx.limbs m) i
      have hcar := Mx.addTo_carry (Mx.limbs_lt n) (Mx.limbs_lt m) i
      by_cases hlt : i < Mx.len n
      · have hstep : Mx.addTo (Mx.limbs n) (Mx.limbs m) (i + 1) = ((Mx.addTo (Mx.limbs n) (Mx.limbs m) i).1 ++ [Mx.addLo ((Mx.limbs n).getD i 0) ((Mx.limbs m).getD i 0) (Mx.addTo (Mx.limbs n) (Mx.limbs m) i).2], Mx.addHi ((Mx.limbs n).getD i 0) ((Mx.limbs m).getD i 0) (Mx.addTo (Mx.limbs n) (Mx.limbs m) i).2) := rfl
        have hx := Mx.getD_lt _ (Mx.limbs_lt n) i
        have hy := Mx.getD_lt _ (Mx.limbs_lt m) i
        obtain ⟨b1, o1, rfl, hb1, hd1⟩ := (hl.grow (hgw.trans hg)).at (Mx.limbs_ne (by omega))
        have hcx := hd1 i hlt
        have HLA := Lib.hid (limbAt_any wr D (Mx.limbs m) d i (hr.grow (hgw.trans hg)))
        clear hd1
        generalize (Mx.limbs n).getD i 0 = x at hcx hstep hx
        generalize (Mx.limbs m).getD i 0 = y at hstep hy HLA
        generalize (Mx.addTo (Mx.limbs n) (Mx.limbs m) i).2 = cr at *
        generalize (Mx.addTo (Mx.limbs n) (Mx.limbs m) i).1 = ss at *
        have HS := Lib.hid hstep
        have HA := Lib.hid (fun W => add64_run x y cr hx hy hcar W)
        have hgc := hblk.cell (i := i) (by simp; omega)
        have hgf := hblk.frozen i
        have hblk' := hblk.set i (Mx.addLo x y cr)
        rw [show Mx.len n + 1 - i = (Mx.len n + 1 - (i + 1)) + 1 by omega, set_mid ss i _ _ hlenS] at hblk'
        have HB := Lib.hid hblk'
        have HLS := Lib.hid hlenS
        generalize (List.getD _ i 0 : Nat) = z at hgc
        have hi1 : (i : Int) < (Mx.len n : Int) := by omega
        have hi2 : (i : Int) < (Mx.len n : Int) + 1 := by omega
        clear hstep hblk' hlenS hblk hcar hx hy
        go_wp2_with (first | (go_at_call 59; refine HLA.out.mono ?_; rintro e w' ⟨rfl, rfl⟩) | (simp only [HA.out]))
        go_roundw
        case rel => exact ⟨i + 1, by omega, by go_num, by rw [HS.out], hg.setCell (Nat.le_refl _) _, by rw [HS.out]; exact HB.out⟩
        case measure => simp [intOf]; omega
      · obtain rfl : i = Mx.len n := by omega
        have hall := Mx.addTo_all (Mx.limbs n) (Mx.limbs m) hle
        rw [Mx.val_limbs, Mx.val_limbs] at hall
        have hltA := Mx.addTo_lt (Mx.limbs n) (Mx.limbs m) (Mx.len n)
        rw [show (Mx.limbs n).length = Mx.len n from rfl] at hall
        generalize (Mx.addTo (Mx.limbs n) (Mx.limbs m) (Mx.len n)).2 = cr at *
        generalize (Mx.addTo (Mx.limbs n) (Mx.limbs m) (Mx.len n)).1 = ss at *
        have hgc := hblk.cell (i := Mx.len n) (by simp; omega)
        have hgf := hblk.frozen (Mx.len n)
        have hblk' := hblk.set (Mx.len n) cr
        rw [show Mx.len n + 1 - Mx.len n = 0 + 1 by omega, set_mid ss _ _ _ hlenS, List.replicate_zero, List.append_nil] at hblk'
        have hbd : ∀ x ∈ ss ++ [cr], x < Mx.B := by
          intro x hx
          rw [List.mem_append, List.mem_singleton] at hx
          rcases hx with hx | rfl
          · exact hltA x hx
          · exact Nat.lt_of_le_of_lt hcar Mx.B_one
        have hll : (ss ++ [cr]).length = Mx.len n + 1 := by rw [List.length_append, hlenS]; rfl
        have hsl := hblk'.sl hbd
        rw [hll] at hsl
        have hgk : Grow W3 (wr.setCell ⟨W3.heap.size, Mx.len n, none⟩ (.int .u64 (cr : Int))) := hg.setCell (Nat.le_refl _) _
        have HK := Lib.hid (keep_any _ _ (ss ++ [cr]) (by omega) hsl)
        rw [hall] at HK
        have HRC := Lib.hid hgk
        generalize (List.getD _ (Mx.len n) 0 : Nat) = z at hgc
        clear hall hltA hblk hblk' hbd hll hsl hgk hlenS hcar
        generalize hw4 : wr.setCell ⟨W3.heap.size, Mx.len n, none⟩ (.int .u64 (cr : Int)) = w4 at HK HRC
        have HW4 := Lib.hid hw4
        clear hw4
        have hi2 : (Mx.len n : Int) < (Mx.len n : Int) + 1 := by omega
        go_wp2_with fail
        rw [HW4.out]
        refine HK.out.mono ?_
        rintro e w5 ⟨v5, rfl, hk, hg5⟩
        have hg35 : Grow W3 w5 := HRC.out.trans hg5
        have hrc : w5.cell? ⟨w.heap.size + 1 + 1, 0, none⟩ = some (.slice none 0 0) := (hg35.cell (p := ⟨w.heap.size + 1 + 1, 0, none⟩) hr3).trans HR.out
        have hrz : w5.frozen? ⟨w.heap.size + 1 + 1, 0, none⟩ = false := (Below.frozen hg35 (p := ⟨w.heap.size + 1 + 1, 0, none⟩) hr3).trans HZ.out
        obtain ⟨A2, c2, rfl, hc2, hl2⟩ := hk
        clear HK hg5 HW4 HRC
        go_wp2_with fail
        refine bodyPost_ret (v := .agg #[.slice A2 (Mx.len (n + m)) c2]) (by simp [results, Tryd.results34, go_sem, hrc]) rfl (Ret.mk ⟨A2, c2, rfl, hc2, hl2.store hrc _⟩ ?_)
        exact Grow.setCell (hgw.trans hg35) (by show w.heap.size ≤ w.heap.size + 1 + 1; omega) _
end Go.Proofs.YtckcjiojfpaikaaDoor
