/- The contracts of digits.Length and digits.Parse. -/
import Derived.Test.YtckcjiojfpaikaaDoorDgG
import Derived.Test.YtckcjiojfpaikaaDoorRgfNat
import Derived.Laws.DeepStrings4
namespace Go.Proofs.YtckcjiojfpaikaaDoor
open Go.RowKit
set_option maxRecDepth 20000

theorem str_size (l : List UInt8) : (str l).size = l.length := Lib.size_mk l
theorem length_any (w : World) (vn : Value) (n b : Nat) (hn : IsN w vn n b) (hb : b ≤ 536870912) :
    Calls Tryd.prog 14 #[vn] w (Ret w fun v' _ => v' = .int .i64 ((Tx.digs n : Nat) : Int)) := by
  obtain ⟨A4, l4, c4, rfl⟩ := hn.cell
  have HP := Lib.hid (fun W (g : Grow w W) => print_any W _ n b (hn.grow g) hb)
  have hsz : (str (Tx.text n)).size = Tx.digs n := by rw [str_size, Tx.text_length]
  generalize str (Tx.text n) = s at *
  clear hn
  go_enter Tryd.func14, Tryd.ntmps14
  go_wp2_with fail
  refine (HP.out _ ((Grow.refl w).alloc _)).mono ?_
  rintro e w1 ⟨v1, rfl, rfl, hg⟩
  have HG := Lib.hid (((Grow.refl w).alloc _).trans hg)
  clear hg HP
  go_wp2_with fail
  go_ret
  exact Ret.mk rfl HG.out

theorem slice_string (w : World) (s : ByteArray) (i k : Nat) (h : i + k ≤ s.size) : (Instr.slice 9 (.string s) (some (.int .i64 (i : Int))) (some (.int .i64 ((i : Int) + (k : Int)))) none).run Tryd.prog w = .ok (.string (s.extract i (i + k))) w := by
  have h1 := run_slice_string_if (P := Tryd.prog) (w := w) 9 s .i64 .i64 (i : Int) ((i : Int) + (k : Int)) Tryd.underlying9
  rw [if_pos (by omega), if_pos (by omega)] at h1
  rw [h1]
  rfl
noncomputable def parseOps10 : Array Oper := Rg.regionOps Tryd.f10 10
theorem en_read : Enters Tryd.prog 33 := enters_of Tryd.func33 (by kernel_rfl) rfl
/-- What each operation yields. -/
def parseF (n d b at' : Nat) (s p : ByteArray) : Rg.Facts := fun k w v =>
  match k with
  | 33 => IsN w v n b
  | 34 => Sl w v [10000000000000000000]
  | 35 => IsN w v (Mx.val [10000000000000000000]) 1
  | 36 => IsN w v (n * Mx.val [10000000000000000000]) (b + 1)
  | 37 => v = .string s
  | 38 => v = .int .i64 (at' : Int)
  | 39 => v = .int .i64 (at' : Int)
  | 40 => v = .int .i64 ((at' : Int) + 19)
  | 41 => v = .string p
  | 42 => v = .int .u64 (d : Int)
  | 43 => Sl w v [d]
  | 44 => IsN w v (Mx.val [d]) 1
  | 45 => IsN w v (n * Mx.val [10000000000000000000] + Mx.val [d]) (max (b + 1) 1 + 1)
  | _ => True

set_option maxRecDepth 100000 in
set_option maxHeartbeats 1000000 in
theorem parse_region10 {Q : Exit → Act → World → Prop} {a0 : Act} {w0 : World} {n d b at' : Nat} {s : ByteArray} {p5 : Addr} {A5 : Option Addr} {l5 c5 : Nat} (hn : a0.tmps.size = 47)
    (h5 : a0.tmps.getD 5 undef = .pointer (some p5)) (h0 : a0.tmps.getD 0 undef = .string s) (h6 : a0.tmps.getD 6 undef = .int .i64 (at' : Int))
    (k5 : w0.cell? p5 = some (.slice A5 l5 c5)) (f5 : w0.frozen? p5 = false) (n5 : IsN w0 (.agg #[.slice A5 l5 c5]) n b) (hb : b ≤ 1000000) (hat : at' + 19 ≤ s.size) (hs : s.size ≤ 4096)
    (hdg : ∀ c ∈ bytesOf (s.extract at' (at' + 19)), Tx.isDig c) (hd : Tx.rd (bytesOf (s.extract at' (at' + 19))) = d)
    (fin : ∀ f w A l c, Grow w0 w → IsN w (.agg #[.slice A l c]) (n * 10000000000000000000 + d) (max (b + 1) 1 + 1) → Q .normal (Rg.puts f [33, 34, 35, 36, 37, 38, 39, 40, 41, 42, 43, 44, 45] a0) (w.setCell p5 (.slice A l c))) :
    (Code.region 10 parseOps10 true).wp Tryd.prog Q a0 w0 := by
  have hpz : (s.extract at' (at' + 19)).size = 19 := by
    rw [ByteArray.size_extract]
    omega
  have hdB : d < Mx.B := by
    rw [← hd]
    have := Tx.rd_lt _ hdg
    rw [← Lib.size_eq, hpz] at this
    rw [Mx.B_eq]
    omega
  refine Rg.region3 (n := 47) (F := fun k _ w v => parseF n d b at' s (s.extract at' (at' + 19)) k w v) 13 [] [33, 34, 35, 36, 37, 38, 39, 40, 41, 42, 43, 44, 45] (by kernel_rfl) (by kernel_rfl) hn (by kernel_rfl) rfl (by kernel_rfl) ?_ (fun _ _ _ _ _ h _ => h) (fun i hi => ?_) ?_
  · intro k _ w w' v h hg
    unfold parseF at h ⊢
    split at h <;> first | exact h | exact h.grow hg
  · match i, hi with
    | 0, _ => exact Rg.step2O (F := parseF n d b at' s (s.extract at' (at' + 19))) (by kernel_rfl) (Rg.loadNat (d := 33) (p := 5) h5 (by kernel_rfl) k5 n5 (fun _ _ h => h))
    | 1, _ => exact Rg.step2O (F := parseF n d b at' s (s.extract at' (at' + 19))) (by kernel_rfl) (Rg.buildOne (d := 34) (c := 10000000000000000000) (by rw [Mx.B_eq]; omega) (fun _ _ h => h))
    | 2, _ => exact Rg.step2O (F := parseF n d b at' s (s.extract at' (at' + 19))) (by kernel_rfl) (Rg.callOf1 (d := 35) (x := 34) (k := 1) (l := [10000000000000000000]) (ts := #[22]) (by kernel_rfl) (fun _ _ h => h) (by simp) (by omega) (fun _ _ h => h))
    | 3, _ => exact Rg.step2O (F := parseF n d b at' s (s.extract at' (at' + 19))) (by kernel_rfl) (Rg.callMul (d := 36) (x := 33) (y := 35) (n := n) (m := Mx.val [10000000000000000000]) (k := b) (j := 1) (ts := #[24, 24]) (by kernel_rfl) (by kernel_rfl) (fun _ _ h => h) (fun _ _ h => h) (by omega) (by omega) (fun _ _ h => h))
    | 4, _ => exact Rg.step2O (F := parseF n d b at' s (s.extract at' (at' + 19))) (by kernel_rfl) (Rg.move (d := 37) (x := .tmp 0) fun a w hg ha D => (ha.2.2 0 (by kernel_rfl)).trans h0)
    | 5, _ => exact Rg.step2O (F := parseF n d b at' s (s.extract at' (at' + 19))) (by kernel_rfl) (Rg.move (d := 38) (x := .tmp 6) fun a w hg ha D => (ha.2.2 6 (by kernel_rfl)).trans h6)
    | 6, _ => exact Rg.step2O (F := parseF n d b at' s (s.extract at' (at' + 19))) (by kernel_rfl) (Rg.move (d := 39) (x := .tmp 6) fun a w hg ha D => (ha.2.2 6 (by kernel_rfl)).trans h6)
    | 7, _ =>
      refine Rg.step2O (F := parseF n d b at' s (s.extract at' (at' + 19))) (dst := some 40) (op := .binOp .add 3 (.tmp 39) (.const (.int .i64 19)) 3) (by kernel_rfl) fun o a w ho hd hg ha D => ?_
      have e : a.tmps.getD 39 undef = .int .i64 (at' : Int) := D 39 (by kernel_rfl)
      refine Rg.valOf (v := .int .i64 ((at' : Int) + 19)) (w' := w) ?_ hd rfl (Grow.refl w)
      simp only [Array.getD_eq_getD_getElem?] at e
      have hw : IntKind.i64.wrap ((at' : Int) + 19) = (at' : Int) + 19 := IntWalk.i64_in _ (by omega)
      simp [execOp, ho, go_sem, Act.eval, e, hw]
    | 8, _ =>
      refine Rg.step2O (F := parseF n d b at' s (s.extract at' (at' + 19))) (dst := some 41) (op := .slice 9 (.tmp 37) (some (.tmp 38)) (some (.tmp 40)) none) (by kernel_rfl) fun o a w ho hd hg ha D => ?_
      have e1 : a.tmps.getD 37 undef = .string s := D 37 (by kernel_rfl)
      have e2 : a.tmps.getD 38 undef = .int .i64 (at' : Int) := D 38 (by kernel_rfl)
      have e3 : a.tmps.getD 40 undef = .int .i64 ((at' : Int) + 19) := D 40 (by kernel_rfl)
      refine Rg.valOf (v := .string (s.extract at' (at' + 19))) (w' := w) ?_ hd rfl (Grow.refl w)
      have hsl := slice_string w s at' 19 hat
      have e1' : a.eval (.tmp 37) = .string s := e1
      have e2' : a.eval (.tmp 38) = .int .i64 (at' : Int) := e2
      have e3' : a.eval (.tmp 40) = .int .i64 ((at' : Int) + 19) := e3
      simp only [execOp, ho, e1', e2', e3', Option.map_some, Option.map_none, Sem.run_bind, run_sliceAt_string _ 9 _ _ _ _ Tryd.underlying9]
      exact congrArg (fun r => Result.andThen r fun a w' => Sem.run Tryd.prog (pure (Next.value a)) w') hsl
    | 9, _ =>
      refine Rg.step2O (F := parseF n d b at' s (s.extract at' (at' + 19))) (dst := some 42) (op := .call { callee := .value (.func 33), args := #[.tmp 41], argTypes := #[9] }) (by kernel_rfl) fun o a w ho hd' hg ha D => ?_
      have e1 : a.tmps.getD 41 undef = .string (s.extract at' (at' + 19)) := D 41 (by kernel_rfl)
      refine Rg.call1 ho en_read hd' (R := fun e w' => e = .returned (.int .u64 (d : Int)) ∧ w = w') ?_ fun e w' ⟨h1, h2⟩ => ⟨_, h1, rfl, h2 ▸ Grow.refl w⟩
      rw [e1, ← hd]
      exact read_any w _ (by omega) hdg
    | 10, _ =>
      refine Rg.step2O (F := parseF n d b at' s (s.extract at' (at' + 19))) (dst := some 43) (op := .buildSlice 22 1 #[(0, .tmp 42)]) (by kernel_rfl) fun o a w ho hd hg ha D => ?_
      have e42 : a.tmps.getD 42 undef = .int .u64 (d : Int) := D 42 (by kernel_rfl)
      refine Rg.valOf (v := .slice (some ⟨w.heap.size, 0, none⟩) 1 1) (w' := w.alloc (.cells (vals [d]).toArray 48)) ?_ hd (sl_built w [d] (by intro y hy; simp at hy; rw [hy]; exact hdB)) ((Grow.refl w).alloc _)
      simp only [Array.getD_eq_getD_getElem?] at e42
      simp [execOp, ho, go_sem, vals, Act.eval, e42]
    | 11, _ => exact Rg.step2O (F := parseF n d b at' s (s.extract at' (at' + 19))) (by kernel_rfl) (Rg.callOf1 (d := 44) (x := 43) (k := 1) (l := [d]) (ts := #[22]) (by kernel_rfl) (fun _ _ h => h) (by simp) (by omega) (fun _ _ h => h))
    | 12, _ => exact Rg.step2O (F := parseF n d b at' s (s.extract at' (at' + 19))) (by kernel_rfl) (Rg.callAdd (d := 45) (x := 36) (y := 44) (n := n * Mx.val [10000000000000000000]) (m := Mx.val [d]) (k := b + 1) (j := 1) (ts := #[24, 24]) (by kernel_rfl) (by kernel_rfl) (fun _ _ h => h) (fun _ _ h => h) (by omega) (by omega) (fun _ _ h => h))
    | i + 13, h => exact absurd h (by omega)
  · intro f w hg hf
    have h45 : IsN w (f 45) (n * Mx.val [10000000000000000000] + Mx.val [d]) (max (b + 1) 1 + 1) := hf 45 rfl
    have h45' := h45
    obtain ⟨A, l, c, e⟩ := h45.cell
    rw [e, Mx.val_one, Mx.val_one] at h45'
    have hpg := Rg.puts_get f [33, 34, 35, 36, 37, 38, 39, 40, 41, 42, 43, 44, 45] a0
    refine Rg.store_last (p := 5) (x := 45) (b := p5) (A' := A) (L' := l) (C' := c) (by kernel_rfl) ?_ ?_ (hg.cells1 k5) ((Below.frozen hg (lt_of_cell' k5)).trans f5) (fin f w A l c hg h45')
    · rw [hpg 5 (by omega)]; exact h5
    · rw [hpg 45 (by omega)]; exact e

/-- What Parse answers. -/
def Parsed (s : ByteArray) (v : Value) (w' : World) : Prop := ∃ u, v = .tuple #[u, .int .i64 0] ∧ IsN w' u (Tx.rd (bytesOf s)) s.size
theorem rd_len (l : List UInt8) (h : ∀ b ∈ l, Tx.isDig b) : Mx.len (Tx.rd l) ≤ l.length := by
  refine len_of_bits (Mx.bits_le_of_lt (Nat.lt_of_lt_of_le (Tx.rd_lt l h) ?_))
  rw [Nat.pow_mul]
  exact Nat.pow_le_pow_left (by decide) _
theorem isText_t (w : World) (s : ByteArray) (hs : s.size ≤ 4096) (h : Tx.okText (bytesOf s)) : Calls Tryd.prog 32 #[.string s] w fun e w' => e = .returned (.bool true) ∧ w = w' := isText_any w s true (by omega) ⟨fun _ => h, fun _ => rfl⟩
theorem isText_f (w : World) (s : ByteArray) (hs : s.size ≤ 4096) (h : ¬ Tx.okText (bytesOf s)) : Calls Tryd.prog 32 #[.string s] w fun e w' => e = .returned (.bool false) ∧ w = w' := isText_any w s false (by omega) ⟨fun h0 => (by cases h0), fun h' => absurd h' h⟩

theorem parse_long (w : World) (s : ByteArray) (hs : 4096 < s.size) (hs2 : s.size ≤ 4611686018427387904) :
    Calls Tryd.prog 10 #[.string s] w (Ret w fun v _ => v = .tuple #[.agg #[.slice none 0 0], .int .i64 7]) := by
  have hs' : (4096 : Int) < (s.size : Int) := by omega
  go_enter Tryd.func10, Tryd.ntmps10
  go_wp2_with fail
  refine bodyPost_ret (v := .tuple #[.agg #[.slice none 0 0], .int .i64 7]) (by simp [results, Tryd.results10, go_sem]) rfl (Ret.mk rfl ((Grow.refl w).alloc _))
theorem parse_bad (w : World) (s : ByteArray) (hs : s.size ≤ 4096) (ht : ¬ Tx.okText (bytesOf s)) :
    Calls Tryd.prog 10 #[.string s] w (Ret w fun v _ => v = .tuple #[.agg #[.slice none 0 0], .int .i64 5]) := by
  have hs' : ¬ (4096 : Int) < (s.size : Int) := by omega
  have HI := Lib.hid (fun W => isText_f W s hs ht)
  clear ht
  go_enter Tryd.func10, Tryd.ntmps10
  go_wp2_with fail
  refine (HI.out _).mono ?_
  rintro e w1 ⟨rfl, rfl⟩
  go_wp2_with fail
  refine bodyPost_ret (v := .tuple #[.agg #[.slice none 0 0], .int .i64 5]) (by simp [results, Tryd.results10, go_sem]) rfl (Ret.mk rfl ((Grow.refl w).alloc _))

theorem extract_bytes (s : ByteArray) (i j : Nat) : bytesOf (s.extract i j) = ((bytesOf s).drop i).take (j - i) := by rw [Lib.extract_eq]
theorem take_more (l : List UInt8) (i k : Nat) : l.take (i + k) = l.take i ++ (l.drop i).take k := List.take_add

set_option maxHeartbeats 2000000 in
theorem parse_ok (w : World) (s : ByteArray) (hs : s.size ≤ 4096) (ht : Tx.okText (bytesOf s)) :
    Calls Tryd.prog 10 #[.string s] w (Ret w (Parsed s)) := by
  have hs' : ¬ (4096 : Int) < (s.size : Int) := by omega
  have hlen : s.size = (bytesOf s).length := Lib.size_eq s
  have hpos : 0 < s.size := by
    rw [hlen]
    rcases ht.2 with h | h
    · rw [h]; simp
    · exact List.length_pos_iff.2 h.1
  have HI := Lib.hid (fun W => isText_t W s hs ht)
  have HD := Lib.hid ht.1
  clear ht
  obtain ⟨r, hr⟩ : ∃ r, (s.size - 1) % 19 = r := ⟨_, rfl⟩
  have hrl : r < 19 := by omega
  obtain ⟨t, hT⟩ : ∃ t, s.size = r + 1 + 19 * t := ⟨(s.size - 1) / 19, by have := Nat.div_add_mod (s.size - 1) 19; omega⟩
  have hrem : Int.tmod ((s.size : Int) - 1) 19 = (r : Int) := by
    have e : ((s.size : Int) - 1) = ((s.size - 1 : Nat) : Int) := by omega
    rw [e]
    exact congrArg Int.ofNat hr
  have HLEN := Lib.hid hlen
  have HR := Lib.hid hr
  have HT := Lib.hid hT
  have hrs : r + 1 ≤ s.size := by omega
  clear hr hT hlen
  have hfirst : bytesOf (s.extract 0 (r + 1)) = (bytesOf s).take (r + 1) := by rw [extract_bytes]; rfl
  have HF := Lib.hid hfirst
  have hfz : (s.extract 0 (r + 1)).size = r + 1 := by rw [ByteArray.size_extract]; omega
  have HRD := Lib.hid (fun W => read_any W (s.extract 0 (r + 1)) (by omega) (fun b hb => HD.out b (by rw [hfirst] at hb; exact List.mem_of_mem_take hb)))
  rw [hfirst] at HRD
  clear hfirst hfz
  go_enter Tryd.func10, Tryd.ntmps10
  go_wp2_with fail
  refine (HI.out _).mono ?_
  rintro e w1 ⟨rfl, rfl⟩
  go_wp2_with fail
  refine (HRD.out _).mono ?_
  rintro e w1 ⟨rfl, rfl⟩
  have hx0 : Tx.rd ((bytesOf s).take (r + 1)) < Mx.B := by
    have h1 := Tx.rd_lt ((bytesOf s).take (r + 1)) (fun b hb => HD.out b (List.mem_of_mem_take hb))
    have h2 : 10 ^ ((bytesOf s).take (r + 1)).length ≤ 10 ^ 19 := Nat.pow_le_pow_right (by decide) (by rw [List.length_take]; omega)
    rw [Mx.B_eq]
    omega
  have HX0 : Hid (∀ k, Mx.len (Tx.rd ((bytesOf s).take k)) ≤ s.size) := Lib.hid fun k => by
    have h1 := rd_len ((bytesOf s).take k) (fun b hb => HD.out b (List.mem_of_mem_take hb))
    rw [List.length_take, ← HLEN.out] at h1
    omega
  clear HI HRD HF HR
  go_wp2_with fail
  refine (num_at (x := Tx.rd ((bytesOf s).take (r + 1))) (by simp) hx0).mono ?_
  rintro e w2 ⟨v2, rfl, h2, g2⟩
  obtain ⟨A2, l2, c2, rfl⟩ := h2.cell
  have gw2 : Grow w w2 := (((Grow.refl w).alloc _).alloc _).trans g2
  have cr : w2.cell? ⟨w.heap.size, 0, none⟩ = some (.slice none 0 0) := (g2.cell (p := ⟨w.heap.size, 0, none⟩) (by show w.heap.size < _; simp; omega)).trans (by simp [go_sem])
  have fr : w2.frozen? ⟨w.heap.size, 0, none⟩ = false := (Below.frozen g2 (p := ⟨w.heap.size, 0, none⟩) (by show w.heap.size < _; simp; omega)).trans (by simp [go_sem])
  have hwl : w.heap.size < w2.heap.size := lt_of_cell cr
  have hV : VarN (w2.alloc (Obj.cells #[Value.slice A2 l2 c2] 24)) w2.heap.size (Tx.rd ((bytesOf s).take (r + 1))) s.size := VarN.new ⟨h2.1, HX0.out _⟩ (Grow.refl _)
  clear g2 hx0 h2
  go_upto_block 0 with fail
  have hi : ∀ (W : World), w2.alloc (Obj.cells #[Value.slice A2 l2 c2] 24) = W → Grow w W ∧ VarN W w2.heap.size (Tx.rd ((bytesOf s).take (r + 1))) s.size ∧ W.frozen? ⟨w2.heap.size, 0, none⟩ = false ∧ W.cell? ⟨w.heap.size, 0, none⟩ = some (.slice none 0 0) ∧ W.frozen? ⟨w.heap.size, 0, none⟩ = false := by
    intro W hW
    have ga : Grow w2 W := hW ▸ (Grow.refl w2).alloc _
    refine ⟨gw2.trans ga, hW ▸ hV, ?_, ga.cells1 cr, (Below.frozen ga (p := ⟨w.heap.size, 0, none⟩) hwl).trans fr⟩
    rw [← hW]
    simp [go_sem]
  clear hV cr fr gw2
  generalize hW : w2.alloc (Obj.cells #[Value.slice A2 l2 c2] 24) = W at *
  have HW := Lib.hid (hi W rfl)
  clear hi hW
  go_wp2_with fail
  go_loopw [6] (fun av wr => ∃ i at' : Nat, i ≤ t ∧ at' = r + 1 + 19 * i ∧ av = .int .i64 (at' : Int) ∧ Grow w wr ∧ VarN wr w2.heap.size (Tx.rd ((bytesOf s).take at')) s.size ∧ wr.frozen? ⟨w2.heap.size, 0, none⟩ = false ∧ wr.cell? ⟨w.heap.size, 0, none⟩ = some (.slice none 0 0) ∧ wr.frozen? ⟨w.heap.size, 0, none⟩ = false) (fun av _ => s.size - (intOf av).toNat)
  case atStart => exact ⟨0, r + 1, Nat.zero_le _, rfl, rfl, HW.out⟩
  case round =>
    obtain ⟨i, at', hit, hat, rfl, hg, hv, hf, hcr, hfr⟩ := hrel
    clear HW
    have HAT := Lib.hid hat
    obtain ⟨A5, l5, c5, k5, n5⟩ := hv
    have hrs5 : w2.heap.size < wr.heap.size := lt_of_cell k5
    by_cases hlt : i < t
    · have hat2 : at' + 19 ≤ s.size := by have := HT.out; omega
      have hlt' : (at' : Int) < (s.size : Int) := by omega
      have hpb : bytesOf (s.extract at' (at' + 19)) = ((bytesOf s).drop at').take 19 := by rw [extract_bytes, Nat.add_sub_cancel_left]
      have hdg : ∀ c ∈ bytesOf (s.extract at' (at' + 19)), Tx.isDig c := fun c hc => HD.out c (by rw [hpb] at hc; exact List.mem_of_mem_drop (List.mem_of_mem_take hc))
      have hnx : Tx.rd ((bytesOf s).take (at' + 19)) = Tx.rd ((bytesOf s).take at') * 10000000000000000000 + Tx.rd (bytesOf (s.extract at' (at' + 19))) := by
        rw [take_more, Tx.rd_append, hpb]
        congr 2
        rw [List.length_take, List.length_drop, ← HLEN.out, Nat.min_eq_left (by omega)]
      have HNX := Lib.hid hnx
      have HDG := Lib.hid hdg
      have HN5 := Lib.hid (And.intro k5 (And.intro hf n5))
      have HGG := Lib.hid (And.intro hg (And.intro hcr hfr))
      clear hnx hdg hpb k5 hf n5 hg hcr hfr hat
      go_upto_region 10 with fail
      refine Rg.region_eq (ops' := parseOps10) (by kernel_rfl) (parse_region10 (n := Tx.rd ((bytesOf s).take at')) (b := s.size) (at' := at') (s := s) rfl rfl rfl rfl HN5.out.1 HN5.out.2.1 HN5.out.2.2 (by omega) hat2 hs HDG.out rfl ?_)
      intro f w3 A6 l6 c6 g3 n6
      rw [← HNX.out] at n6
      have H6 := Lib.hid (And.intro g3 n6)
      clear g3 n6
      simp only [Rg.puts, Act.put, List.setIfInBounds_toArray, List.set_cons_succ, List.set_cons_zero]
      have hnew : Grow w (w3.setCell ⟨w2.heap.size, 0, none⟩ (.slice A6 l6 c6)) ∧ VarN (w3.setCell ⟨w2.heap.size, 0, none⟩ (.slice A6 l6 c6)) w2.heap.size (Tx.rd ((bytesOf s).take (at' + 19))) s.size ∧ (w3.setCell ⟨w2.heap.size, 0, none⟩ (.slice A6 l6 c6)).frozen? ⟨w2.heap.size, 0, none⟩ = false ∧ (w3.setCell ⟨w2.heap.size, 0, none⟩ (.slice A6 l6 c6)).cell? ⟨w.heap.size, 0, none⟩ = some (.slice none 0 0) ∧ (w3.setCell ⟨w2.heap.size, 0, none⟩ (.slice A6 l6 c6)).frozen? ⟨w.heap.size, 0, none⟩ = false := by
        obtain ⟨g3, n6⟩ := H6.out
        obtain ⟨hg, hcr, hfr⟩ := HGG.out
        obtain ⟨k5, hf, _⟩ := HN5.out
        have k5' := g3.cells1 k5
        have hne : (⟨w.heap.size, 0, none⟩ : Addr) ≠ ⟨w2.heap.size, 0, none⟩ := by intro e; injection e with e; omega
        refine ⟨(hg.trans g3).setCell (p := ⟨w2.heap.size, 0, none⟩) (Nat.le_of_lt hwl) _, ⟨A6, l6, c6, by simp [go_sem, k5'], IsN.store (n := Tx.rd ((bytesOf s).take (at' + 19))) (b := s.size) ⟨n6.1, HX0.out _⟩ k5' _⟩, ?_, ?_, ?_⟩
        · simpa using (Below.frozen g3 (p := ⟨w2.heap.size, 0, none⟩) hrs5).trans hf
        · rw [World.cell?_setCell_other _ _ _ _ hne.symm]
          exact g3.cells1 hcr
        · simpa using (Below.frozen g3 (p := ⟨w.heap.size, 0, none⟩) (lt_of_cell hcr)).trans hfr
      have HNEW := Lib.hid hnew
      clear hnew H6 HGG HN5 HDG HNX
      go_wp2_with fail
      go_roundw
      case rel =>
        have e : (at' : Int) + 19 = ((at' + 19 : Nat) : Int) := by omega
        rw [e]
        exact ⟨i + 1, at' + 19, by omega, by rw [HAT.out]; omega, rfl, HNEW.out⟩
      case measure => simp [intOf]; omega
    · have he : at' = s.size := by have := HT.out; have : i = t := by omega
                                   subst this; omega
      have hlt' : ¬ (at' : Int) < (s.size : Int) := by omega
      have htk : (bytesOf s).take at' = bytesOf s := by rw [he, HLEN.out, List.take_length]
      rw [htk] at n5
      have N5 := Lib.hid n5
      clear n5 htk he HAT hat
      go_wp2_with fail
      refine bodyPost_ret (v := .tuple #[.agg #[.slice A5 l5 c5], .int .i64 0]) (by simp [results, Tryd.results10, go_sem, hcr]) rfl ?_
      exact Ret.mk ⟨_, rfl, N5.out.store hcr _⟩ (hg.setCell (p := ⟨w.heap.size, 0, none⟩) (Nat.le_refl _) _)
end Go.Proofs.YtckcjiojfpaikaaDoor
