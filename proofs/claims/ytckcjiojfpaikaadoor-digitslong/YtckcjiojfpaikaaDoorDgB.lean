/- Contracts of package digits: group. -/
import Derived.Test.YtckcjiojfpaikaaDoorDgA
import Derived.Deep.MidRow
import Derived.Deep.DeepCutAuto
import Derived.Deep.CutBlock
namespace Go.Proofs.YtckcjiojfpaikaaDoor
open Go.RowKit

/-- Bytes as cells. -/
def bvals (l : List UInt8) : List Value := l.map fun b => Value.int .u8 ((b.toNat : Nat) : Int)
theorem bvals_length (l : List UInt8) : (bvals l).length = l.length := by simp [bvals]
/-- A block of bytes that is known whole. -/
def BlkB (w : World) (g : Nat) (l : List UInt8) : Prop := w.heap[g]? = some (.cells (bvals l).toArray 88 (0, 0))
theorem BlkB.lt {w : World} {g : Nat} {l : List UInt8} (h : BlkB w g l) : g < w.heap.size := lt_of_heap h
theorem BlkB.cell {w : World} {g : Nat} {l : List UInt8} (h : BlkB w g l) {i : Nat} (hi : i < l.length) : w.cell? ⟨g, i, none⟩ = some (.int .u8 (((l.getD i 0).toNat : Nat) : Int)) := by
  rw [cell_of_row w g i _ _ _ h]
  simp [bvals, List.getElem?_eq_getElem hi]
theorem BlkB.frozen {w : World} {g : Nat} {l : List UInt8} (h : BlkB w g l) (i : Nat) : w.frozen? ⟨g, i, none⟩ = false := by
  unfold BlkB at h
  simp [World.frozen?, h]
theorem BlkB.set {w : World} {g : Nat} {l : List UInt8} (h : BlkB w g l) (i : Nat) (b : UInt8) : BlkB (w.setCell ⟨g, i, none⟩ (.int .u8 ((b.toNat : Nat) : Int))) g (l.set i b) := by
  unfold BlkB at h ⊢
  simp [World.setCell, Array.getElem?_modify, h, bvals, List.map_set]

theorem bvals_one (l : List UInt8) : ∀ v ∈ bvals l, v.oneCell' = true := by
  intro v hv
  unfold bvals at hv
  obtain ⟨b, _, rfl⟩ := List.mem_map.1 hv
  rfl
theorem BlkB.range {w : World} {g : Nat} {l : List UInt8} (h : BlkB w g l) : w.rangeAt g 0 (bvals l) := fun j v hv => by
  rw [Nat.zero_add, cell_of_row w g j _ _ _ h]
  simpa using hv
theorem BlkB.there {w : World} {g : Nat} {l : List UInt8} (h : BlkB w g l) : w.there g 0 l.length := fun j hj =>
  ⟨by rw [Nat.zero_add, h.cell hj]; rfl, h.frozen _⟩
theorem BlkB.grow {w w' : World} {g : Nat} {l : List UInt8} (h : BlkB w g l) (k : Grow w w') : BlkB w' g l := (k.block g h.lt).trans h
theorem BlkB.far {w : World} {g : Nat} {l : List UInt8} (h : BlkB w g l) {p : Addr} (hp : g ≠ p.block) (u : Value) : BlkB (w.setCell p u) g l := (Below.heap_setCell w p u g hp).trans h
/-- A new array of bytes. -/
theorem BlkB.new (w : World) : BlkB (w.alloc (Obj.cells #[.int .u8 0, .int .u8 0, .int .u8 0, .int .u8 0, .int .u8 0, .int .u8 0, .int .u8 0, .int .u8 0, .int .u8 0, .int .u8 0, .int .u8 0, .int .u8 0, .int .u8 0, .int .u8 0, .int .u8 0, .int .u8 0, .int .u8 0, .int .u8 0, .int .u8 0] 88)) w.heap.size (List.replicate 19 0) := heap_alloc_new w _
theorem info19 : (Tryd.prog.info? 88).map (·.size) = some 19 := by kernel_rfl
theorem results_cell_mid {P : Program} {fn : Func} {p : Tmp} {ty : TypeId} (h : fn.results = #[.cell p ty]) (tmps : Array Value) (w : World) (g o : Nat) (cs : List Value) (d : TypeDesc)
    (hp : tmps.getD p undef = .pointer (some ⟨g, o, none⟩)) (hg : w.rangeAt g o cs)
    (hu : P.underlying ty = some d) (hd : d.isRow = true) (hi : (P.info? ty).map (·.size) = some cs.length) :
    (results fn tmps).run P w = .ok (.agg cs.toArray) w := by
  have hp' : tmps[p]?.getD undef = .pointer (some ⟨g, o, none⟩) := by simpa using hp
  simp [results, h, hp', asAddr, run_loadVar_mid w g o ty cs d hg hu hd hi]
theorem Grow.setCells {a : World} {p : Nat} (hp : a.heap.size ≤ p) : ∀ (vs : List Value) (o : Nat) (w : World), Grow a w → Grow a (w.setCells p o vs)
  | [], _, _, h => h
  | v :: r, o, w, h => by rw [World.setCells]; exact Grow.setCells hp r _ _ (h.setCell hp v)
theorem dgt_set (x k : Nat) (r : List UInt8) : (List.replicate (k + 1) 0 ++ r).set k (UInt8.ofNat (48 + x % 10)) = List.replicate k 0 ++ UInt8.ofNat (48 + x % 10) :: r := by
  rw [List.replicate_succ', List.append_assoc, List.set_append_right _ _ (by simp)]
  simp
/-- How the digits come, the last one first. -/
theorem dgt_step (n j : Nat) : UInt8.ofNat (48 + n / 10 ^ j % 10) :: Tx.dgt j n = Tx.dgt (j + 1) n := by
  rw [Nat.add_comm j 1, Tx.dgt_add]
  rfl

set_option maxHeartbeats 1000000 in
theorem group_any (w : World) (v : Value) (n : Nat) (hn : n < 10 ^ 19) (h : IsNat w v n) :
    Calls Tryd.prog 56 #[v] w (Ret w fun v' _ => v' = .agg (bvals (Tx.dgt 19 n)).toArray) := by
  have hnB : n < Mx.B := Nat.lt_of_lt_of_le hn (by rw [Mx.B_eq]; decide)
  have hlen : Mx.len n ≤ 1 := by
    have := len_one hnB
    rwa [Mx.val_one] at this
  have HZ := Lib.hid (fun W (g : Grow w W) => zero_any W v n (h.grow g))
  have HL := Lib.hid (fun W (g : Grow w W) => limbs_any W v n (by omega) (h.grow g))
  obtain ⟨z, hz⟩ : ∃ z : Bool, (n == 0) = z := ⟨_, rfl⟩
  rw [hz] at HZ
  have HZZ := Lib.hid hz
  clear hz
  obtain ⟨A, c, rfl, hc, hl⟩ := h
  clear hc hl
  go_enter Tryd.func56, Tryd.ntmps56
  go_wp2_with fail
  refine (HZ.out _ (((Grow.refl w).alloc _).alloc _)).mono ?_
  rintro e w1 ⟨v1, rfl, rfl, hg⟩
  have c0 : w1.cell? ⟨w.heap.size, 0, none⟩ = some (.slice A (Mx.len n) c) := (hg.cell (p := ⟨w.heap.size, 0, none⟩) (by show w.heap.size < _; simp; omega)).trans (by simp [go_sem])
  have hb1 : BlkB w1 (w.heap.size + 1) (List.replicate 19 0) := by
    have := BlkB.new (w.alloc (Obj.cells #[Value.slice A (Mx.len n) c] 24))
    rw [World.size_alloc] at this
    exact this.grow hg
  have gw1 : Grow w w1 := (((Grow.refl w).alloc _).alloc _).trans hg
  clear hg HZ
  go_upto_if 8 with fail
  go_cut [3] (fun s3 W => s3 = .int .u64 (n : Int) ∧ Grow w W ∧ BlkB W (w.heap.size + 1) (List.replicate 19 0))
  case first =>
    cases z with
    | true =>
      clear HL
      go_wp2_with fail
      go_meet
      have h0 : n = 0 := by simpa using HZZ.out
      exact ⟨by rw [h0]; rfl, gw1, hb1⟩
    | false =>
      have h0 : n ≠ 0 := by simpa using HZZ.out
      have hlm : Mx.limbs n = [n] := by
        rw [Mx.limbs_pos n h0, Nat.mod_eq_of_lt hnB, Nat.div_eq_of_lt hnB]; rfl
      clear h0
      go_wp2_with fail
      refine (HL.out w1 gw1).mono ?_
      rintro e w2 ⟨v2, rfl, hf⟩
      rw [hlm] at hf
      have hsl := hf.sl (by intro x hx; simp at hx; rw [hx]; exact hnB)
      obtain ⟨_, _, _, _, hgf⟩ := hf
      have g2 : Grow w w2 := gw1.trans hgf
      have hb2 := hb1.grow hgf
      obtain ⟨A2, c2, rfl, hc2, _, hcells⟩ := hsl
      obtain ⟨b2, o2, rfl, hb2l, hcell⟩ := hcells.at (by simp)
      have hx := hcell 0 (by simp)
      simp at hx
      clear hcells hcell HL hlm c0 hb1 gw1 hgf
      go_wp2_with fail
      go_meet
      exact ⟨rfl, g2, hb2⟩
  case rest =>
    clear c0 hb1 gw1 HL hlen
    obtain ⟨rfl, gw, hb⟩ := hcut
    obtain ⟨w2, rfl⟩ : ∃ x, x = wc := ⟨wc, rfl⟩
    have hgb := hb.lt
    go_wp2_with fail
    go_loopw [3, 5] (fun lv iv wr => ∃ j : Nat, j ≤ 19 ∧ iv = .int .i64 (18 - (j : Int)) ∧ lv = .int .u64 ((n / 10 ^ j : Nat) : Int) ∧ Grow w wr ∧ BlkB wr (w.heap.size + 1) (List.replicate 19 0) ∧ BlkB wr w2.heap.size (List.replicate (19 - j) 0 ++ Tx.dgt j n)) (fun _ iv _ => (intOf iv + 1).toNat)
    case atStart => exact ⟨0, by omega, rfl, by simp, gw.alloc _, hb.grow ((Grow.refl _).alloc _), by simpa [Tx.dgt] using BlkB.new w2⟩
    case round =>
      obtain ⟨j, hj, rfl, rfl, hg, hbr, hbd⟩ := hrel
      by_cases hlt : j < 19
      · obtain ⟨k, hk⟩ : ∃ k, 19 - j = k + 1 := ⟨18 - j, by omega⟩
        have hkk : (18 : Int) - (j : Int) = (k : Int) := by omega
        rw [hk] at hbd
        rw [hkk]
        have hcell := hbd.cell (i := k) (by simp; omega)
        have hfz := hbd.frozen k
        have hset := hbd.set k (UInt8.ofNat (48 + n / 10 ^ j % 10))
        rw [dgt_set, dgt_step, Tx.digit_toNat] at hset
        have hle : n / 10 ^ j < Mx.B := Nat.lt_of_le_of_lt (Nat.div_le_self _ _) hnB
        have hnx : n / 10 ^ (j + 1) = n / 10 ^ j / 10 := by rw [Nat.pow_succ, Nat.div_div_eq_div_mul]
        have HS := Lib.hid hset
        have HN := Lib.hid hnx
        clear hset hnx
        generalize n / 10 ^ j = x at *
        generalize (List.replicate (k + 1) 0 ++ Tx.dgt j n).getD k 0 = old at *
        have hk18 : k < 19 := by omega
        have e1 : ((x : Int) % 10) % 256 = ((x % 10 : Nat) : Int) := by omega
        go_wp2_with fail
        have e2 : (48 : Int) + (x : Int) % 10 = ((48 + x % 10 : Nat) : Int) := by omega
        have e3 : IntKind.u64.wrap ((x : Int) / 10) = ((x / 10 : Nat) : Int) := by rw [IntKind.wrap_u64]; rw [Mx.B_eq] at hle; omega
        rw [e2, e3]
        refine ⟨⟨j + 1, by omega, ?_, by rw [HN.out], hg.setCell (by show w.heap.size ≤ w2.heap.size; omega) _, hbr.far (by show w.heap.size + 1 ≠ w2.heap.size; omega) _, ?_⟩, by simp only [intOf]; omega⟩
        · congr 1; omega
        · have e4 : 19 - (j + 1) = k := by omega
          rw [e4]
          exact HS.out
      · have e : j = 19 := by omega
        subst e
        rw [Nat.sub_self, List.replicate_zero, List.nil_append] at hbd
        have hneg : ((18 : Int) - (19 : Nat)) = -1 := by omega
        rw [hneg]
        have hsz : (bvals (Tx.dgt 19 n)).length = 19 := by rw [bvals_length, Tx.dgt_length]
        have hraw : wr.heap[w2.heap.size]? = some (.cells (bvals (Tx.dgt 19 n)).toArray 88 (0, 0)) := hbd
        have H1 := Lib.hid hraw
        have H2 := Lib.hid hbr
        clear hbd hbr hraw
        have hi19 : (Tryd.prog.info? 88).map (·.size) = some (bvals (Tx.dgt 19 n)).toArray.size := by rw [info19]; simp [hsz]
        have hth : wr.there (w.heap.size + 1) 0 (bvals (Tx.dgt 19 n)).toArray.size := by
          have := H2.out.there
          rw [List.length_replicate] at this
          simpa [hsz] using this
        have h1c : (bvals (Tx.dgt 19 n)).toArray.all (·.oneCell') = true := all_oneCell_toArray (bvals_one _)
        have hend : (wr.setCells (w.heap.size + 1) 0 (bvals (Tx.dgt 19 n))).rangeAt (w.heap.size + 1) 0 (bvals (Tx.dgt 19 n)) := World.rangeAt_setCells_same _ _ _ _ (by simpa using hth)
        have HI := Lib.hid hi19
        have HT := Lib.hid hth
        have HE := Lib.hid hend
        have HC := Lib.hid h1c
        clear hi19 hth hend h1c
        have H3 := Lib.hid hsz
        clear hsz
        generalize hcs : bvals (Tx.dgt 19 n) = cs at *
        have HCS := Lib.hid hcs
        clear hcs
        go_upto_region 10 with fail
        go_wp2_with (first | (refine wpList_load_row rfl 88 _ rfl w2.heap.size rfl _ _ _ _ H1.out Tryd.underlying88 rfl HI.out ?_) | (refine wpList_store_mid rfl 88 _ _ rfl (w.heap.size + 1) 0 cs.toArray rfl rfl HT.out HI.out HC.out ?_))
        refine bodyPost_ret (v := .agg cs.toArray) (results_cell_mid rfl _ _ (w.heap.size + 1) 0 cs _ rfl HE.out Tryd.underlying88 rfl (by rw [info19, H3.out])) rfl ?_
        exact Ret.mk (by rw [HCS.out]) (Grow.setCells (Nat.le_succ _) _ _ _ hg)
end Go.Proofs.YtckcjiojfpaikaaDoor
