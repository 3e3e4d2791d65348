/- The law SplitTells holds, as its tied card says: for every input the Go function answers true, and each argument reads as it did. No condition beyond the card's own. -/
import Derived.Test.YtjpilacbapibjaaGreatDoorRows
import Derived.Test.YtjpilacbapibjaaGreatDoorCards
import Derived.Test.YtjpilacbapibjaaGreatDoorTie
import Derived.Test.YtjpilacbapibjaaGreatDoorMT1
import Derived.Test.YtjpilacbapibjaaGreatDoorMT23
import Derived.Test.YtjpilacbapibjaaGreatDoorMT32
import Derived.WalkKit
import Derived.ProofKit
import Derived.OpenShut
import Derived.ShutString
import Derived.ChangeOld
import Derived.Below
import Derived.Lib.SmallJoins
namespace Go.Proofs.YtjpilacbapibjaaGreatDoor.splitTells
open Go.ChangeShapes Go.WideShapes Go.ChangeAt Go.RowKit
open Go.ChangeMaps (open_string shut_string)
set_option linter.unusedVariables false

theorem own : ownKnob Tryz.prog.godebug = none := by kernel_rfl
theorem laidOut : laidOutB Tryz.prog = true := by kernel_rfl

/-- A slice of integers that came in: it is nil; or it leads to a row of 'cap' cells, the numbers 'zs', each fitting its kind. -/
def IsRow (k : IntKind) (w : World) (a : Option Addr) (len cap : Nat) (zs : List Int) : Prop :=
  (a = none ∧ len = 0 ∧ cap = 0 ∧ zs = []) ∨
  ∃ x, a = some x ∧ len ≤ cap ∧ cap ≤ maxLen ∧ zs.length = cap ∧ (∀ i, i < zs.length → w.cell? (x.add i) = some (.int k (zs.getD i 0))) ∧ ∀ n ∈ zs, (Lit.int k n).wf = true

theorem arr14 {cs : Array Value} (h : cs.size = 14) : ∃ c0 c1 c2 c3 c4 c5 c6 c7 c8 c9 c10 c11 c12 c13, cs = #[c0, c1, c2, c3, c4, c5, c6, c7, c8, c9, c10, c11, c12, c13] := by
  rcases cs with ⟨l⟩
  rcases l with _ | ⟨c0, _ | ⟨c1, _ | ⟨c2, _ | ⟨c3, _ | ⟨c4, _ | ⟨c5, _ | ⟨c6, _ | ⟨c7, _ | ⟨c8, _ | ⟨c9, _ | ⟨c10, _ | ⟨c11, _ | ⟨c12, _ | ⟨c13, _ | ⟨x, l⟩⟩⟩⟩⟩⟩⟩⟩⟩⟩⟩⟩⟩⟩⟩ <;> simp at h
  exact ⟨c0, c1, c2, c3, c4, c5, c6, c7, c8, c9, c10, c11, c12, c13, rfl⟩

/-- A slice of dates that came in: rows of three cells each. -/
def IsRowD (w : World) (a : Option Addr) (len cap : Nat) (zs : List (Int × Int × Int)) : Prop :=
  (a = none ∧ len = 0 ∧ cap = 0 ∧ zs = []) ∨ ∃ x, a = some x ∧ len ≤ cap ∧ cap ≤ maxLen ∧ zs.length = len ∧ ∀ i, i < len → ∀ j v, ([.int .i64 (zs.getD i (0, 0, 0)).1, .int .i64 (zs.getD i (0, 0, 0)).2.1, .int .i64 (zs.getD i (0, 0, 0)).2.2] : List Value)[j]? = some v → w.cell? ((x.add (i * 3)).add j) = some v
theorem dates_of {H : Type} {enc : TypeId × Value → H} {P : Program} {w : World} {base : Nat} {spare : Nat → Bool} {held : Bool} {n e t : TypeId} {fs : Array Field} {a : Addr} {len : Nat} {elems : List (DataW H × List MemPlace)} (hC : P.cellsOf e = 3) (hc : P.cellsOf t = 1) (he : P.underlying e = some (.struct fs)) (ht : P.underlying t = some (.int .i64))
    (hf : ∀ j, j < 3 → ∃ f, fs[j]? = some f ∧ f.offset = j ∧ f.type = t) (hlen : elems.length = len) (hel : ∀ i, i < len → (w.cells? base (a.add (i * P.cellsOf e)) (P.cellsOf e)).bind (DataW.trod enc P w base spare held n e) = elems[i]?) :
    ∃ zs : List (Int × Int × Int), zs.length = len ∧ ∀ i, i < len → ∀ j v, ([.int .i64 (zs.getD i (0, 0, 0)).1, .int .i64 (zs.getD i (0, 0, 0)).2.1, .int .i64 (zs.getD i (0, 0, 0)).2.2] : List Value)[j]? = some v → w.cell? ((a.add (i * 3)).add j) = some v := by
  have each : ∀ i, i < len → ∃ z : Int × Int × Int, ∀ j v, ([.int .i64 z.1, .int .i64 z.2.1, .int .i64 z.2.2] : List Value)[j]? = some v → w.cell? ((a.add (i * 3)).add j) = some v := by
    intro i hi
    have h1 := hel i hi
    rw [List.getElem?_eq_getElem (by omega), hC, Option.bind_eq_some_iff] at h1
    obtain ⟨cs, h2, h3⟩ := h1
    obtain ⟨_, hl, hcs⟩ := World.cells?_some h2
    obtain ⟨xs, m, _, _, _, hx, hg⟩ := DataW.trod_struct he h3
    have cell : ∀ j, j < 3 → ∃ k, cs[j]? = some (.int .i64 k) := by
      intro j hj
      obtain ⟨f, f1, f2, f3⟩ := hf j hj
      have h4 := hg j f f1
      have hjx : j < xs.length := by rw [hx]; exact (Array.getElem?_eq_some_iff.1 f1).1
      rw [f2, f3, hc, List.getElem?_eq_getElem hjx] at h4
      obtain ⟨k, e1, _⟩ := DataW.trod_int ht h4
      refine ⟨k, ?_⟩
      have h5 : ((cs.drop j).take 1)[0]? = some (.int .i64 k) := by rw [e1]; rfl
      rw [List.getElem?_take, if_pos (by decide), List.getElem?_drop] at h5
      simpa using h5
    obtain ⟨k0, e0⟩ := cell 0 (by decide)
    obtain ⟨k1, e1⟩ := cell 1 (by decide)
    obtain ⟨k2, e2⟩ := cell 2 (by decide)
    refine ⟨(k0, k1, k2), fun j v hv => ?_⟩
    have hj : j < 3 := (List.getElem?_eq_some_iff.1 hv).1
    rw [hcs j hj]
    rcases (by omega : j = 0 ∨ j = 1 ∨ j = 2) with rfl | rfl | rfl
    · exact e0.trans hv
    · exact e1.trans hv
    · exact e2.trans hv
  obtain ⟨f, hF⟩ : ∃ f : Nat → Int × Int × Int, ∀ i, i < len → ∀ j v, ([.int .i64 (f i).1, .int .i64 (f i).2.1, .int .i64 (f i).2.2] : List Value)[j]? = some v → w.cell? ((a.add (i * 3)).add j) = some v := ⟨fun i => if h : i < len then (each i h).choose else (0, 0, 0), fun i h => by simp only [dif_pos h]; exact (each i h).choose_spec⟩
  refine ⟨(List.range len).map f, by simp, fun i hi j v hv => hF i hi j v ?_⟩
  have e : ((List.range len).map f).getD i (0, 0, 0) = f i := by rw [List.getD_eq_getElem?_getD, List.getElem?_map, List.getElem?_range hi]; rfl
  rwa [e] at hv

/-! ### The walk: the Go text returns true, and writes nothing that was there. -/
theorem walk (a0_0 : Int) (a0_1 : Int) (a0_2 : Int) (a0_3 : Int) (a0_4 : Option Addr) (len0_4 cap0_4 : Nat) (z0_4 : List Int) (a0_5 : Option Addr) (len0_5 cap0_5 : Nat) (z0_5 : List Int) (a0_6 : Int) (a0_7 : Int) (a0_8 : Int) (a0_9 : Int) (a0_10 : Int) (a0_11 : Int) (a0_12 : Int) (a0_13 : Option Addr) (len0_13 cap0_13 : Nat) (z0_13 : List (Int × Int × Int)) (w : World) (hT : X.isTb w undef) (w0_0 : (Lit.int .i64 a0_0).wf = true) (w0_1 : (Lit.int .i64 a0_1).wf = true) (w0_2 : (Lit.int .i64 a0_2).wf = true) (w0_3 : (Lit.int .u16 a0_3).wf = true) (w0_4 : IsRow .i16 w a0_4 len0_4 cap0_4 z0_4) (w0_5 : IsRow .i16 w a0_5 len0_5 cap0_5 z0_5) (w0_6 : (Lit.int .u8 a0_6).wf = true) (w0_7 : (Lit.int .i64 a0_7).wf = true) (w0_8 : (Lit.int .i64 a0_8).wf = true) (w0_9 : (Lit.int .i64 a0_9).wf = true) (w0_10 : (Lit.int .i64 a0_10).wf = true) (w0_11 : (Lit.int .i64 a0_11).wf = true) (w0_12 : (Lit.int .i64 a0_12).wf = true) (w0_13 : IsRowD w a0_13 len0_13 cap0_13 z0_13) :
    Calls Tryz.prog 3 #[.agg #[.int .i64 a0_0, .int .i64 a0_1, .int .i64 a0_2, .int .u16 a0_3, .slice a0_4 len0_4 cap0_4, .slice a0_5 len0_5 cap0_5, .int .u8 a0_6, .int .i64 a0_7, .int .i64 a0_8, .int .i64 a0_9, .int .i64 a0_10, .int .i64 a0_11, .int .i64 a0_12, .slice a0_13 len0_13 cap0_13]] w fun e w' => e = .returned (.bool true) ∧ Below w.heap.size w w' := by
  have hn := bounds_u16 w0_3
  obtain ⟨r1, b1⟩ := X.rowI_rd w0_4
  obtain ⟨r2, _⟩ := X.rowI_rd w0_5
  have r3 := X.rowD_rd w0_13
  exact (X.splitTells_t (a := a0_0) (b := a0_1) (c := a0_2) (n := a0_3) (p := a0_6) (y1 := a0_7) (m1 := a0_8) (d1 := a0_9) (y2 := a0_10) (m2 := a0_11) (d2 := a0_12) (cs := z0_4.take len0_4) (bs := z0_5.take len0_5) (ds := z0_13) ⟨_, rfl, _, rfl, _, rfl, _, rfl, _, rfl, _, _, rfl, r1, _, _, rfl, r2, _, rfl, _, rfl, _, rfl, _, rfl, _, rfl, _, rfl, _, rfl, _, _, rfl, r3, rfl⟩ hT ⟨by omega, by omega⟩ fun c hc => by have := bounds_i16 (b1 c hc); omega).mono fun e w' ⟨v, he, hv, hg⟩ => ⟨by rw [he, hv], hg⟩

/-! ### What the walk gives, for every argument and every world. -/
set_option maxRecDepth 100000 in
theorem contract (H : Type) (enc : TypeId × Value → H) (W : World) (base : Nat) (args : Array Value) (ds gs : List (DataW H)) (before : List MemPlace)
    (hval0 : ∀ (j : Nat) t v, Tryz.f3.params[j]? = some t → args[j]? = some v → Value.okWide Tryz.prog W .any base t v)
    (hW : DataW.Whole enc Tryz.prog Tryz.f3.params.toList Rows.splitTellsSpec.vars false W args.toList ds gs before) (hL : laidMetH Tryz.prog laidList W) (hS : W.ShapedOpen Tryz.prog) :
    Calls Tryz.prog 3 args W fun e W' => ∃ v, e = .returned v ∧ Rows.splitTellsSpec.post enc Tryz.prog Tryz.f3 false true false false W args v W' := by
  have hval : ∀ (j : Nat) t v, Tryz.f3.params[j]? = some t → args[j]? = some v → Value.okWide Tryz.prog W .any base t v := hval0
  have hW' := hW
  obtain ⟨p, q, hA0, hV, rfl, hfz, hnd⟩ := hW
  have hA : DataW.TrodAll enc Tryz.prog W 0 (fun _ => true) true Tryz.f3.params.toList args.toList ds p := hA0
  rw [Tryz.params3] at hA hval
  obtain ⟨v0, vs0, d0, ds0, p0, q0, hargs, rfl, rfl, h0, r0⟩ := trodAll_cons hA
  obtain ⟨rfl, rfl, rfl⟩ := trodAll_nil r0
  obtain rfl : args = #[v0] := by cases args; simp_all
  obtain ⟨rfl, rfl⟩ := trodVars_none hV
  have k0 := h0
  have lt0 : ∀ x ∈ p0, x.block < W.heap.size := by obtain ⟨m, hm⟩ := k0; exact DataW.trod_lt m _ _ _ hm
  obtain ⟨cs0, rfl, sz0⟩ := okWide_struct Tryz.underlying31 (hval 0 31 v0 rfl rfl)
  obtain ⟨c0_0, c0_1, c0_2, c0_3, c0_4, c0_5, c0_6, c0_7, c0_8, c0_9, c0_10, c0_11, c0_12, c0_13, rfl⟩ := arr14 (sz0.trans (by kernel_rfl : Tryz.prog.cellsOf 31 = 14))
  obtain ⟨fu0, hf0⟩ := h0
  have g0 : DataW.trod enc Tryz.prog W 0 (fun _ => true) true fu0 31 [c0_0, c0_1, c0_2, c0_3, c0_4, c0_5, c0_6, c0_7, c0_8, c0_9, c0_10, c0_11, c0_12, c0_13] = some (d0, p0) := hf0
  obtain ⟨xs0_1, n0_1, _, _, _, hl0_1, hx0_1⟩ := DataW.trod_struct Tryz.underlying31 g0
  have hm0_1 : xs0_1.length = 4 := hl0_1
  have e0_1_0 : DataW.trod enc Tryz.prog W 0 (fun _ => true) true n0_1 26 (([c0_0, c0_1, c0_2, c0_3, c0_4, c0_5, c0_6, c0_7, c0_8, c0_9, c0_10, c0_11, c0_12, c0_13].drop 0).take (Tryz.prog.cellsOf 26)) = xs0_1[0]? := hx0_1 0 _ rfl
  rw [show Tryz.prog.cellsOf 26 = 7 from by kernel_rfl, List.getElem?_eq_getElem (by omega)] at e0_1_0
  have fe0_1_0 : DataW.trod enc Tryz.prog W 0 (fun _ => true) true n0_1 26 [c0_0, c0_1, c0_2, c0_3, c0_4, c0_5, c0_6] = some (xs0_1[0]'(by omega)) := e0_1_0
  obtain ⟨xs0_2, n0_2, _, _, _, hl0_2, hx0_2⟩ := DataW.trod_struct Tryz.underlying26 fe0_1_0
  have hm0_2 : xs0_2.length = 5 := hl0_2
  have e0_2_0 : DataW.trod enc Tryz.prog W 0 (fun _ => true) true n0_2 22 (([c0_0, c0_1, c0_2, c0_3, c0_4, c0_5, c0_6].drop 0).take (Tryz.prog.cellsOf 22)) = xs0_2[0]? := hx0_2 0 _ rfl
  rw [show Tryz.prog.cellsOf 22 = 3 from by kernel_rfl, List.getElem?_eq_getElem (by omega)] at e0_2_0
  have fe0_2_0 : DataW.trod enc Tryz.prog W 0 (fun _ => true) true n0_2 22 [c0_0, c0_1, c0_2] = some (xs0_2[0]'(by omega)) := e0_2_0
  obtain ⟨xs0_3, n0_3, _, _, _, hl0_3, hx0_3⟩ := DataW.trod_array Tryz.underlying22 fe0_2_0
  have hm0_3 : xs0_3.length = 3 := hl0_3
  have e0_3_0 : DataW.trod enc Tryz.prog W 0 (fun _ => true) true n0_3 3 (([c0_0, c0_1, c0_2].drop (0 * Tryz.prog.cellsOf 3)).take (Tryz.prog.cellsOf 3)) = xs0_3[0]? := hx0_3 0 (by omega)
  rw [show Tryz.prog.cellsOf 3 = 1 from by kernel_rfl, List.getElem?_eq_getElem (by omega)] at e0_3_0
  have fe0_3_0 : DataW.trod enc Tryz.prog W 0 (fun _ => true) true n0_3 3 [c0_0] = some (xs0_3[0]'(by omega)) := e0_3_0
  obtain ⟨a0_0, ea0_0, _, w0_0⟩ := DataW.trod_int Tryz.underlying3 fe0_3_0
  obtain rfl : c0_0 = .int .i64 a0_0 := by simpa [Value.cells] using ea0_0
  have e0_3_1 : DataW.trod enc Tryz.prog W 0 (fun _ => true) true n0_3 3 (([.int .i64 a0_0, c0_1, c0_2].drop (1 * Tryz.prog.cellsOf 3)).take (Tryz.prog.cellsOf 3)) = xs0_3[1]? := hx0_3 1 (by omega)
  rw [show Tryz.prog.cellsOf 3 = 1 from by kernel_rfl, List.getElem?_eq_getElem (by omega)] at e0_3_1
  have fe0_3_1 : DataW.trod enc Tryz.prog W 0 (fun _ => true) true n0_3 3 [c0_1] = some (xs0_3[1]'(by omega)) := e0_3_1
  obtain ⟨a0_1, ea0_1, _, w0_1⟩ := DataW.trod_int Tryz.underlying3 fe0_3_1
  obtain rfl : c0_1 = .int .i64 a0_1 := by simpa [Value.cells] using ea0_1
  have e0_3_2 : DataW.trod enc Tryz.prog W 0 (fun _ => true) true n0_3 3 (([.int .i64 a0_0, .int .i64 a0_1, c0_2].drop (2 * Tryz.prog.cellsOf 3)).take (Tryz.prog.cellsOf 3)) = xs0_3[2]? := hx0_3 2 (by omega)
  rw [show Tryz.prog.cellsOf 3 = 1 from by kernel_rfl, List.getElem?_eq_getElem (by omega)] at e0_3_2
  have fe0_3_2 : DataW.trod enc Tryz.prog W 0 (fun _ => true) true n0_3 3 [c0_2] = some (xs0_3[2]'(by omega)) := e0_3_2
  obtain ⟨a0_2, ea0_2, _, w0_2⟩ := DataW.trod_int Tryz.underlying3 fe0_3_2
  obtain rfl : c0_2 = .int .i64 a0_2 := by simpa [Value.cells] using ea0_2
  have e0_2_1 : DataW.trod enc Tryz.prog W 0 (fun _ => true) true n0_2 23 (([.int .i64 a0_0, .int .i64 a0_1, .int .i64 a0_2, c0_3, c0_4, c0_5, c0_6].drop 3).take (Tryz.prog.cellsOf 23)) = xs0_2[1]? := hx0_2 1 _ rfl
  rw [show Tryz.prog.cellsOf 23 = 1 from by kernel_rfl, List.getElem?_eq_getElem (by omega)] at e0_2_1
  have fe0_2_1 : DataW.trod enc Tryz.prog W 0 (fun _ => true) true n0_2 23 [c0_3] = some (xs0_2[1]'(by omega)) := e0_2_1
  obtain ⟨a0_3, ea0_3, _, w0_3⟩ := DataW.trod_int Tryz.underlying23 fe0_2_1
  obtain rfl : c0_3 = .int .u16 a0_3 := by simpa [Value.cells] using ea0_3
  have e0_2_2 : DataW.trod enc Tryz.prog W 0 (fun _ => true) true n0_2 24 (([.int .i64 a0_0, .int .i64 a0_1, .int .i64 a0_2, .int .u16 a0_3, c0_4, c0_5, c0_6].drop 4).take (Tryz.prog.cellsOf 24)) = xs0_2[2]? := hx0_2 2 _ rfl
  rw [show Tryz.prog.cellsOf 24 = 1 from by kernel_rfl, List.getElem?_eq_getElem (by omega)] at e0_2_2
  have fe0_2_2 : DataW.trod enc Tryz.prog W 0 (fun _ => true) true n0_2 24 [c0_4] = some (xs0_2[2]'(by omega)) := e0_2_2
  obtain ⟨a0_4, len0_4, cap0_4, z0_4, eu0_4, w0_4⟩ : ∃ a len cap zs, c0_4 = .slice a len cap ∧ IsRow .i16 W a len cap zs := by
    rcases open_ints Tryz.underlying24 Tryz.underlying53 (by kernel_rfl) fe0_2_2 with ⟨hcs, _⟩ | ⟨x, l, c, zs, hcs, _, hl, hm, hz, _, hcell, hwz⟩
    · exact ⟨none, 0, 0, [], by simpa using hcs, .inl ⟨rfl, rfl, rfl, rfl⟩⟩
    · exact ⟨some x, l, c, zs, by simpa using hcs, .inr ⟨_, rfl, hl, hm, by simpa using hz, hcell, hwz⟩⟩
  subst eu0_4
  have e0_2_3 : DataW.trod enc Tryz.prog W 0 (fun _ => true) true n0_2 24 (([.int .i64 a0_0, .int .i64 a0_1, .int .i64 a0_2, .int .u16 a0_3, .slice a0_4 len0_4 cap0_4, c0_5, c0_6].drop 5).take (Tryz.prog.cellsOf 24)) = xs0_2[3]? := hx0_2 3 _ rfl
  rw [show Tryz.prog.cellsOf 24 = 1 from by kernel_rfl, List.getElem?_eq_getElem (by omega)] at e0_2_3
  have fe0_2_3 : DataW.trod enc Tryz.prog W 0 (fun _ => true) true n0_2 24 [c0_5] = some (xs0_2[3]'(by omega)) := e0_2_3
  obtain ⟨a0_5, len0_5, cap0_5, z0_5, eu0_5, w0_5⟩ : ∃ a len cap zs, c0_5 = .slice a len cap ∧ IsRow .i16 W a len cap zs := by
    rcases open_ints Tryz.underlying24 Tryz.underlying53 (by kernel_rfl) fe0_2_3 with ⟨hcs, _⟩ | ⟨x, l, c, zs, hcs, _, hl, hm, hz, _, hcell, hwz⟩
    · exact ⟨none, 0, 0, [], by simpa using hcs, .inl ⟨rfl, rfl, rfl, rfl⟩⟩
    · exact ⟨some x, l, c, zs, by simpa using hcs, .inr ⟨_, rfl, hl, hm, by simpa using hz, hcell, hwz⟩⟩
  subst eu0_5
  have e0_2_4 : DataW.trod enc Tryz.prog W 0 (fun _ => true) true n0_2 5 (([.int .i64 a0_0, .int .i64 a0_1, .int .i64 a0_2, .int .u16 a0_3, .slice a0_4 len0_4 cap0_4, .slice a0_5 len0_5 cap0_5, c0_6].drop 6).take (Tryz.prog.cellsOf 5)) = xs0_2[4]? := hx0_2 4 _ rfl
  rw [show Tryz.prog.cellsOf 5 = 1 from by kernel_rfl, List.getElem?_eq_getElem (by omega)] at e0_2_4
  have fe0_2_4 : DataW.trod enc Tryz.prog W 0 (fun _ => true) true n0_2 5 [c0_6] = some (xs0_2[4]'(by omega)) := e0_2_4
  obtain ⟨a0_6, ea0_6, _, w0_6⟩ := DataW.trod_int Tryz.underlying5 fe0_2_4
  obtain rfl : c0_6 = .int .u8 a0_6 := by simpa [Value.cells] using ea0_6
  have e0_1_1 : DataW.trod enc Tryz.prog W 0 (fun _ => true) true n0_1 28 (([.int .i64 a0_0, .int .i64 a0_1, .int .i64 a0_2, .int .u16 a0_3, .slice a0_4 len0_4 cap0_4, .slice a0_5 len0_5 cap0_5, .int .u8 a0_6, c0_7, c0_8, c0_9, c0_10, c0_11, c0_12, c0_13].drop 7).take (Tryz.prog.cellsOf 28)) = xs0_1[1]? := hx0_1 1 _ rfl
  rw [show Tryz.prog.cellsOf 28 = 3 from by kernel_rfl, List.getElem?_eq_getElem (by omega)] at e0_1_1
  have fe0_1_1 : DataW.trod enc Tryz.prog W 0 (fun _ => true) true n0_1 28 [c0_7, c0_8, c0_9] = some (xs0_1[1]'(by omega)) := e0_1_1
  obtain ⟨xs0_11, n0_11, _, _, _, hl0_11, hx0_11⟩ := DataW.trod_struct Tryz.underlying28 fe0_1_1
  have hm0_11 : xs0_11.length = 3 := hl0_11
  have e0_11_0 : DataW.trod enc Tryz.prog W 0 (fun _ => true) true n0_11 3 (([c0_7, c0_8, c0_9].drop 0).take (Tryz.prog.cellsOf 3)) = xs0_11[0]? := hx0_11 0 _ rfl
  rw [show Tryz.prog.cellsOf 3 = 1 from by kernel_rfl, List.getElem?_eq_getElem (by omega)] at e0_11_0
  have fe0_11_0 : DataW.trod enc Tryz.prog W 0 (fun _ => true) true n0_11 3 [c0_7] = some (xs0_11[0]'(by omega)) := e0_11_0
  obtain ⟨a0_7, ea0_7, _, w0_7⟩ := DataW.trod_int Tryz.underlying3 fe0_11_0
  obtain rfl : c0_7 = .int .i64 a0_7 := by simpa [Value.cells] using ea0_7
  have e0_11_1 : DataW.trod enc Tryz.prog W 0 (fun _ => true) true n0_11 3 (([.int .i64 a0_7, c0_8, c0_9].drop 1).take (Tryz.prog.cellsOf 3)) = xs0_11[1]? := hx0_11 1 _ rfl
  rw [show Tryz.prog.cellsOf 3 = 1 from by kernel_rfl, List.getElem?_eq_getElem (by omega)] at e0_11_1
  have fe0_11_1 : DataW.trod enc Tryz.prog W 0 (fun _ => true) true n0_11 3 [c0_8] = some (xs0_11[1]'(by omega)) := e0_11_1
  obtain ⟨a0_8, ea0_8, _, w0_8⟩ := DataW.trod_int Tryz.underlying3 fe0_11_1
  obtain rfl : c0_8 = .int .i64 a0_8 := by simpa [Value.cells] using ea0_8
  have e0_11_2 : DataW.trod enc Tryz.prog W 0 (fun _ => true) true n0_11 3 (([.int .i64 a0_7, .int .i64 a0_8, c0_9].drop 2).take (Tryz.prog.cellsOf 3)) = xs0_11[2]? := hx0_11 2 _ rfl
  rw [show Tryz.prog.cellsOf 3 = 1 from by kernel_rfl, List.getElem?_eq_getElem (by omega)] at e0_11_2
  have fe0_11_2 : DataW.trod enc Tryz.prog W 0 (fun _ => true) true n0_11 3 [c0_9] = some (xs0_11[2]'(by omega)) := e0_11_2
  obtain ⟨a0_9, ea0_9, _, w0_9⟩ := DataW.trod_int Tryz.underlying3 fe0_11_2
  obtain rfl : c0_9 = .int .i64 a0_9 := by simpa [Value.cells] using ea0_9
  have e0_1_2 : DataW.trod enc Tryz.prog W 0 (fun _ => true) true n0_1 28 (([.int .i64 a0_0, .int .i64 a0_1, .int .i64 a0_2, .int .u16 a0_3, .slice a0_4 len0_4 cap0_4, .slice a0_5 len0_5 cap0_5, .int .u8 a0_6, .int .i64 a0_7, .int .i64 a0_8, .int .i64 a0_9, c0_10, c0_11, c0_12, c0_13].drop 10).take (Tryz.prog.cellsOf 28)) = xs0_1[2]? := hx0_1 2 _ rfl
  rw [show Tryz.prog.cellsOf 28 = 3 from by kernel_rfl, List.getElem?_eq_getElem (by omega)] at e0_1_2
  have fe0_1_2 : DataW.trod enc Tryz.prog W 0 (fun _ => true) true n0_1 28 [c0_10, c0_11, c0_12] = some (xs0_1[2]'(by omega)) := e0_1_2
  obtain ⟨xs0_15, n0_15, _, _, _, hl0_15, hx0_15⟩ := DataW.trod_struct Tryz.underlying28 fe0_1_2
  have hm0_15 : xs0_15.length = 3 := hl0_15
  have e0_15_0 : DataW.trod enc Tryz.prog W 0 (fun _ => true) true n0_15 3 (([c0_10, c0_11, c0_12].drop 0).take (Tryz.prog.cellsOf 3)) = xs0_15[0]? := hx0_15 0 _ rfl
  rw [show Tryz.prog.cellsOf 3 = 1 from by kernel_rfl, List.getElem?_eq_getElem (by omega)] at e0_15_0
  have fe0_15_0 : DataW.trod enc Tryz.prog W 0 (fun _ => true) true n0_15 3 [c0_10] = some (xs0_15[0]'(by omega)) := e0_15_0
  obtain ⟨a0_10, ea0_10, _, w0_10⟩ := DataW.trod_int Tryz.underlying3 fe0_15_0
  obtain rfl : c0_10 = .int .i64 a0_10 := by simpa [Value.cells] using ea0_10
  have e0_15_1 : DataW.trod enc Tryz.prog W 0 (fun _ => true) true n0_15 3 (([.int .i64 a0_10, c0_11, c0_12].drop 1).take (Tryz.prog.cellsOf 3)) = xs0_15[1]? := hx0_15 1 _ rfl
  rw [show Tryz.prog.cellsOf 3 = 1 from by kernel_rfl, List.getElem?_eq_getElem (by omega)] at e0_15_1
  have fe0_15_1 : DataW.trod enc Tryz.prog W 0 (fun _ => true) true n0_15 3 [c0_11] = some (xs0_15[1]'(by omega)) := e0_15_1
  obtain ⟨a0_11, ea0_11, _, w0_11⟩ := DataW.trod_int Tryz.underlying3 fe0_15_1
  obtain rfl : c0_11 = .int .i64 a0_11 := by simpa [Value.cells] using ea0_11
  have e0_15_2 : DataW.trod enc Tryz.prog W 0 (fun _ => true) true n0_15 3 (([.int .i64 a0_10, .int .i64 a0_11, c0_12].drop 2).take (Tryz.prog.cellsOf 3)) = xs0_15[2]? := hx0_15 2 _ rfl
  rw [show Tryz.prog.cellsOf 3 = 1 from by kernel_rfl, List.getElem?_eq_getElem (by omega)] at e0_15_2
  have fe0_15_2 : DataW.trod enc Tryz.prog W 0 (fun _ => true) true n0_15 3 [c0_12] = some (xs0_15[2]'(by omega)) := e0_15_2
  obtain ⟨a0_12, ea0_12, _, w0_12⟩ := DataW.trod_int Tryz.underlying3 fe0_15_2
  obtain rfl : c0_12 = .int .i64 a0_12 := by simpa [Value.cells] using ea0_12
  have e0_1_3 : DataW.trod enc Tryz.prog W 0 (fun _ => true) true n0_1 29 (([.int .i64 a0_0, .int .i64 a0_1, .int .i64 a0_2, .int .u16 a0_3, .slice a0_4 len0_4 cap0_4, .slice a0_5 len0_5 cap0_5, .int .u8 a0_6, .int .i64 a0_7, .int .i64 a0_8, .int .i64 a0_9, .int .i64 a0_10, .int .i64 a0_11, .int .i64 a0_12, c0_13].drop 13).take (Tryz.prog.cellsOf 29)) = xs0_1[3]? := hx0_1 3 _ rfl
  rw [show Tryz.prog.cellsOf 29 = 1 from by kernel_rfl, List.getElem?_eq_getElem (by omega)] at e0_1_3
  have fe0_1_3 : DataW.trod enc Tryz.prog W 0 (fun _ => true) true n0_1 29 [c0_13] = some (xs0_1[3]'(by omega)) := e0_1_3
  obtain ⟨a0_13, len0_13, cap0_13, z0_13, eu0_13, w0_13⟩ : ∃ a len cap zs, c0_13 = .slice a len cap ∧ IsRowD W a len cap zs := by
    rcases DataW.trod_slice Tryz.underlying29 fe0_1_3 with ⟨hcs, _⟩ | ⟨x, l, c, elems, rest, n, _, hcs, _, _, hl, hm, hlen, hel, _⟩
    · exact ⟨none, 0, 0, [], by simpa using hcs, .inl ⟨rfl, rfl, rfl, rfl⟩⟩
    · obtain ⟨zs, hz, hc⟩ := dates_of (by kernel_rfl) (by kernel_rfl) Tryz.underlying28 Tryz.underlying3 (fun j hj => (by rcases (by omega : j = 0 ∨ j = 1 ∨ j = 2) with rfl | rfl | rfl <;> exact ⟨_, rfl, rfl, rfl⟩)) hlen hel
      exact ⟨some x, l, c, zs, by simpa using hcs, .inr ⟨_, rfl, hl, hm, hz, hc⟩⟩
  subst eu0_13
  clear hA0 hval0
  refine (walk a0_0 a0_1 a0_2 a0_3 a0_4 len0_4 cap0_4 z0_4 a0_5 len0_5 cap0_5 z0_5 a0_6 a0_7 a0_8 a0_9 a0_10 a0_11 a0_12 a0_13 len0_13 cap0_13 z0_13 W (tb_of hS hL) w0_0 w0_1 w0_2 w0_3 w0_4 w0_5 w0_6 w0_7 w0_8 w0_9 w0_10 w0_11 w0_12 w0_13).mono fun e W' ⟨he, bel⟩ => ?_
  subst he
  exact ⟨_, rfl, _, _, _, [], _, [], hW', trodAll_mk1 (shut_bool Tryz.underlying4 _), (trodAll_cons_mk (Below.trod laidOut (by kernel_rfl) (of_decide_eq_true (by kernel_rfl)) k0 bel lt0) trodAll_mk0), rfl, bel.frame _, fun h => by cases h⟩

theorem reads (os : Os) {H : Type} (enc : TypeId × Value → H) : ∃ places, DataW.whole enc Tryz.prog ((laidWorld os).forCall (fun _ _ => 0) ⟨#[], #[.agg #[.int .i64 0, .int .i64 0, .int .i64 0, .int .u16 0, .slice none 0 0, .slice none 0 0, .int .u8 0, .int .i64 0, .int .i64 0, .int .i64 0, .int .i64 0, .int .i64 0, .int .i64 0, .slice none 0 0]], []⟩).memory Tryz.f3.params.toList Rows.splitTellsSpec.vars false ((#[.agg #[.int .i64 0, .int .i64 0, .int .i64 0, .int .u16 0, .slice none 0 0, .slice none 0 0, .int .u8 0, .int .i64 0, .int .i64 0, .int .i64 0, .int .i64 0, .int .i64 0, .int .i64 0, .slice none 0 0]] : Array Value)).toList 8 = some ([.agg [.agg [.agg [.lit (.int .i64 0), .lit (.int .i64 0), .lit (.int .i64 0)], .lit (.int .u16 0), .nil, .nil, .lit (.int .u8 0)], .agg [.lit (.int .i64 0), .lit (.int .i64 0), .lit (.int .i64 0)], .agg [.lit (.int .i64 0), .lit (.int .i64 0), .lit (.int .i64 0)], .nil]], [], places) :=
  ⟨[], by kernel_rfl⟩

set_option maxRecDepth 100000 in
theorem lifted (os : Os) (started : os.Started) (H : Type) (enc : TypeId × Value → H) (F : Stop.Interp) :
    ReturnsInHanded {} Tryz.checked os 3 .any ((OpenSpec.ofChange Rows.splitTellsSpec).preRow enc Tryz.prog Tryz.f3 Rows.splitTellsRow.domain false Rows.splitTellsRow.laid) (((OpenSpec.ofChange Rows.splitTellsSpec).at F).post enc Tryz.prog Tryz.f3 false true false false) := by
  obtain ⟨places, hx⟩ := reads os enc
  refine returnsInHanded_of_row (C := Tryz.checked) (s := OpenSpec.ofChange Rows.splitTellsSpec) own started (by kernel_rfl) Tryz.func3
    (witness_row_at (enc := enc) (C := Tryz.checked) false (laidWorld os) #[.agg #[.int .i64 0, .int .i64 0, .int .i64 0, .int .u16 0, .slice none 0 0, .slice none 0 0, .int .u8 0, .int .i64 0, .int .i64 0, .int .i64 0, .int .i64 0, .int .i64 0, .int .i64 0, .slice none 0 0]] rfl (by kernel_rfl) (by kernel_rfl) (by kernel_rfl)
      (OpenSpec.preRow_of_cond 8 hx (by kernel_rfl) (fun k hk => by cases hk) (by kernel_rfl) (laid_met os _))) ?_
  intro W base args ds gs before hval hW _ hk _ hL hS _
  exact contract H enc W base args ds gs before hval hW hL hS

theorem said : Rows.SplitTellsSaid :=
  OpenClaim.holds_of_cond 3 Tryz.f3 rfl rfl rfl rfl rfl rfl rfl ⟨rfl, rfl, rfl, rfl, rfl⟩ rfl rfl rfl rfl rfl (by kernel_rfl) Tryz.func3 (by kernel_rfl)
    (of_decide_eq_true (by kernel_rfl)) (by unfold Func.isWrapper; first | (rw [if_pos (by decide +kernel)]; kernel_rfl) | (rw [if_neg (by decide +kernel)]; exact ⟨rfl, rfl⟩))
    (fun os started H enc _ F => by rw [OpenClaim.pre_eq_preRow]; exact lifted os started H enc F)

/-- No parameter wants a stand-in; the program's own looks are off: what the card asks. -/
theorem plain (f : FuncId) (fn : Func) (hf : Tryz.pinned.checked.prog.funcNamed "chattel/chattellaw12.SplitTells" = some f) (hfn : Tryz.pinned.checked.prog.funcs[f]? = some fn) :
    false = Tryz.pinned.checked.prog.looks [] ∧ ∀ (j : Nat) t, fn.params[j]? = some t → Tryz.pinned.checked.prog.wantsStandIn t = false := by
  obtain rfl : f = 3 := Option.some.inj ((show Tryz.prog.funcNamed "chattel/chattellaw12.SplitTells" = some 3 by kernel_rfl).symm.trans hf) |>.symm
  obtain rfl : fn = Tryz.f3 := (Option.some.inj (Tryz.func3.symm.trans hfn)).symm
  refine ⟨by kernel_rfl, fun j t ht => ?_⟩
  rw [Tryz.params3] at ht
  have hm : t ∈ [31] := by simpa using Array.mem_of_getElem? ht
  have hall : ([31].all fun u => !Tryz.prog.wantsStandIn u) = true := by kernel_rfl
  exact (show Tryz.prog.wantsStandIn t = false by simpa using List.all_eq_true.1 hall t hm)

/-- The statement. -/
theorem proved : Rows.SplitTellsCardSaid :=
  Claim7.holds_tied_plain_at .later [] _ _ _ _ said (fun _ h => by cases h) (by kernel_rfl) (fun _ h => by cases h) splitTells_row_tie rfl ⟨rfl, rfl⟩ (by kernel_rfl) rfl plain (by kernel_rfl)
end Go.Proofs.YtjpilacbapibjaaGreatDoor.splitTells
