/- The law SplitOrder holds, as its tied card says: for every input the Go function answers true, and each argument reads as it did. No condition beyond the card's own. -/
import Derived.Test.YtjpilacbapibjaaGreatDoorRows
import Derived.Test.YtjpilacbapibjaaGreatDoorCards
import Derived.Test.YtjpilacbapibjaaGreatDoorTie
import Derived.Test.YtjpilacbapibjaaGreatDoorMO1
import Derived.Test.YtjpilacbapibjaaGreatDoorMO23
import Derived.Test.YtjpilacbapibjaaGreatDoorMO32
import Derived.WalkKit
import Derived.ProofKit
import Derived.OpenShut
import Derived.ShutString
import Derived.ChangeOld
import Derived.Below
import Derived.Lib.SmallJoins
namespace Go.Proofs.YtjpilacbapibjaaGreatDoor.splitOrder
open Go.ChangeShapes Go.WideShapes Go.ChangeAt Go.RowKit
open Go.ChangeMaps (open_string shut_string)
set_option linter.unusedVariables false

theorem own : ownKnob Tryz.prog.godebug = none := by kernel_rfl
theorem laidOut : laidOutB Tryz.prog = true := by kernel_rfl

/-- A slice of integers that came in: it is nil; or it leads to a row of 'cap' cells, the numbers 'zs', each fitting its kind. -/
def IsRow (k : IntKind) (w : World) (a : Option Addr) (len cap : Nat) (zs : List Int) : Prop :=
  (a = none ∧ len = 0 ∧ cap = 0 ∧ zs = []) ∨
  ∃ x, a = some x ∧ len ≤ cap ∧ cap ≤ maxLen ∧ zs.length = cap ∧ (∀ i, i < zs.length → w.cell? (x.add i) = some (.int k (zs.getD i 0))) ∧ ∀ n ∈ zs, (Lit.int k n).wf = true

theorem arr7 {cs : Array Value} (h : cs.size = 7) : ∃ c0 c1 c2 c3 c4 c5 c6, cs = #[c0, c1, c2, c3, c4, c5, c6] := by
  rcases cs with ⟨l⟩
  rcases l with _ | ⟨c0, _ | ⟨c1, _ | ⟨c2, _ | ⟨c3, _ | ⟨c4, _ | ⟨c5, _ | ⟨c6, _ | ⟨x, l⟩⟩⟩⟩⟩⟩⟩⟩ <;> simp at h
  exact ⟨c0, c1, c2, c3, c4, c5, c6, rfl⟩

/-! ### The walk: the Go text returns true, and writes nothing that was there. -/
theorem walk (a0_0 : Int) (a0_1 : Int) (a0_2 : Int) (a0_3 : Int) (a0_4 : Option Addr) (len0_4 cap0_4 : Nat) (z0_4 : List Int) (a0_5 : Option Addr) (len0_5 cap0_5 : Nat) (z0_5 : List Int) (a0_6 : Int) (a1 : Int) (w : World) (hT : X.isTb w undef) (w0_0 : (Lit.int .i64 a0_0).wf = true) (w0_1 : (Lit.int .i64 a0_1).wf = true) (w0_2 : (Lit.int .i64 a0_2).wf = true) (w0_3 : (Lit.int .u16 a0_3).wf = true) (w0_4 : IsRow .i16 w a0_4 len0_4 cap0_4 z0_4) (w0_5 : IsRow .i16 w a0_5 len0_5 cap0_5 z0_5) (w0_6 : (Lit.int .u8 a0_6).wf = true) (w1 : (Lit.int .u16 a1).wf = true) :
    Calls Tryz.prog 7 #[.agg #[.int .i64 a0_0, .int .i64 a0_1, .int .i64 a0_2, .int .u16 a0_3, .slice a0_4 len0_4 cap0_4, .slice a0_5 len0_5 cap0_5, .int .u8 a0_6], .int .u16 a1] w fun e w' => e = .returned (.bool true) ∧ Below w.heap.size w w' := by
  have hn := bounds_u16 w0_3
  have hq := bounds_u16 w1
  obtain ⟨r1, b1⟩ := X.rowI_rd w0_4
  obtain ⟨r2, _⟩ := X.rowI_rd w0_5
  exact (X.splitOrder_t (a := a0_0) (b := a0_1) (c := a0_2) (n := a0_3) (p := a0_6) (q := a1) (cs := z0_4.take len0_4) (bs := z0_5.take len0_5) ⟨_, rfl, _, rfl, _, rfl, _, rfl, _, rfl, _, _, rfl, r1, _, _, rfl, r2, _, rfl, rfl⟩ rfl hT ⟨by omega, by omega⟩ ⟨by omega, by omega⟩ fun c hc => by have := bounds_i16 (b1 c hc); omega).mono fun e w' ⟨v, he, hv, hg⟩ => ⟨by rw [he, hv], hg⟩

/-! ### What the walk gives, for every argument and every world. -/
set_option maxRecDepth 100000 in
theorem contract (H : Type) (enc : TypeId × Value → H) (W : World) (base : Nat) (args : Array Value) (ds gs : List (DataW H)) (before : List MemPlace)
    (hval0 : ∀ (j : Nat) t v, Tryz.f7.params[j]? = some t → args[j]? = some v → Value.okWide Tryz.prog W .any base t v)
    (hW : DataW.Whole enc Tryz.prog Tryz.f7.params.toList Rows.splitOrderSpec.vars false W args.toList ds gs before) (hL : laidMetH Tryz.prog laidList W) (hS : W.ShapedOpen Tryz.prog) :
    Calls Tryz.prog 7 args W fun e W' => ∃ v, e = .returned v ∧ Rows.splitOrderSpec.post enc Tryz.prog Tryz.f7 false true false false W args v W' := by
  have hval : ∀ (j : Nat) t v, Tryz.f7.params[j]? = some t → args[j]? = some v → Value.okWide Tryz.prog W .any base t v := hval0
  have hW' := hW
  obtain ⟨p, q, hA0, hV, rfl, hfz, hnd⟩ := hW
  have hA : DataW.TrodAll enc Tryz.prog W 0 (fun _ => true) true Tryz.f7.params.toList args.toList ds p := hA0
  rw [Tryz.params7] at hA hval
  obtain ⟨v0, vs0, d0, ds0, p0, q0, hargs, rfl, rfl, h0, r0⟩ := trodAll_cons hA
  obtain ⟨v1, vs1, d1, ds1, p1, q1, rfl, rfl, rfl, h1, r1⟩ := trodAll_cons r0
  obtain ⟨rfl, rfl, rfl⟩ := trodAll_nil r1
  obtain rfl : args = #[v0, v1] := by cases args; simp_all
  obtain ⟨rfl, rfl⟩ := trodVars_none hV
  have k0 := h0
  have lt0 : ∀ x ∈ p0, x.block < W.heap.size := by obtain ⟨m, hm⟩ := k0; exact DataW.trod_lt m _ _ _ hm
  obtain ⟨cs0, rfl, sz0⟩ := okWide_struct Tryz.underlying26 (hval 0 26 v0 rfl rfl)
  obtain ⟨c0_0, c0_1, c0_2, c0_3, c0_4, c0_5, c0_6, rfl⟩ := arr7 (sz0.trans (by kernel_rfl : Tryz.prog.cellsOf 26 = 7))
  obtain ⟨fu0, hf0⟩ := h0
  have g0 : DataW.trod enc Tryz.prog W 0 (fun _ => true) true fu0 26 [c0_0, c0_1, c0_2, c0_3, c0_4, c0_5, c0_6] = some (d0, p0) := hf0
  obtain ⟨xs0_1, n0_1, _, _, _, hl0_1, hx0_1⟩ := DataW.trod_struct Tryz.underlying26 g0
  have hm0_1 : xs0_1.length = 5 := hl0_1
  have e0_1_0 : DataW.trod enc Tryz.prog W 0 (fun _ => true) true n0_1 22 (([c0_0, c0_1, c0_2, c0_3, c0_4, c0_5, c0_6].drop 0).take (Tryz.prog.cellsOf 22)) = xs0_1[0]? := hx0_1 0 _ rfl
  rw [show Tryz.prog.cellsOf 22 = 3 from by kernel_rfl, List.getElem?_eq_getElem (by omega)] at e0_1_0
  have fe0_1_0 : DataW.trod enc Tryz.prog W 0 (fun _ => true) true n0_1 22 [c0_0, c0_1, c0_2] = some (xs0_1[0]'(by omega)) := e0_1_0
  obtain ⟨xs0_2, n0_2, _, _, _, hl0_2, hx0_2⟩ := DataW.trod_array Tryz.underlying22 fe0_1_0
  have hm0_2 : xs0_2.length = 3 := hl0_2
  have e0_2_0 : DataW.trod enc Tryz.prog W 0 (fun _ => true) true n0_2 3 (([c0_0, c0_1, c0_2].drop (0 * Tryz.prog.cellsOf 3)).take (Tryz.prog.cellsOf 3)) = xs0_2[0]? := hx0_2 0 (by omega)
  rw [show Tryz.prog.cellsOf 3 = 1 from by kernel_rfl, List.getElem?_eq_getElem (by omega)] at e0_2_0
  have fe0_2_0 : DataW.trod enc Tryz.prog W 0 (fun _ => true) true n0_2 3 [c0_0] = some (xs0_2[0]'(by omega)) := e0_2_0
  obtain ⟨a0_0, ea0_0, _, w0_0⟩ := DataW.trod_int Tryz.underlying3 fe0_2_0
  obtain rfl : c0_0 = .int .i64 a0_0 := by simpa [Value.cells] using ea0_0
  have e0_2_1 : DataW.trod enc Tryz.prog W 0 (fun _ => true) true n0_2 3 (([.int .i64 a0_0, c0_1, c0_2].drop (1 * Tryz.prog.cellsOf 3)).take (Tryz.prog.cellsOf 3)) = xs0_2[1]? := hx0_2 1 (by omega)
  rw [show Tryz.prog.cellsOf 3 = 1 from by kernel_rfl, List.getElem?_eq_getElem (by omega)] at e0_2_1
  have fe0_2_1 : DataW.trod enc Tryz.prog W 0 (fun _ => true) true n0_2 3 [c0_1] = some (xs0_2[1]'(by omega)) := e0_2_1
  obtain ⟨a0_1, ea0_1, _, w0_1⟩ := DataW.trod_int Tryz.underlying3 fe0_2_1
  obtain rfl : c0_1 = .int .i64 a0_1 := by simpa [Value.cells] using ea0_1
  have e0_2_2 : DataW.trod enc Tryz.prog W 0 (fun _ => true) true n0_2 3 (([.int .i64 a0_0, .int .i64 a0_1, c0_2].drop (2 * Tryz.prog.cellsOf 3)).take (Tryz.prog.cellsOf 3)) = xs0_2[2]? := hx0_2 2 (by omega)
  rw [show Tryz.prog.cellsOf 3 = 1 from by kernel_rfl, List.getElem?_eq_getElem (by omega)] at e0_2_2
  have fe0_2_2 : DataW.trod enc Tryz.prog W 0 (fun _ => true) true n0_2 3 [c0_2] = some (xs0_2[2]'(by omega)) := e0_2_2
  obtain ⟨a0_2, ea0_2, _, w0_2⟩ := DataW.trod_int Tryz.underlying3 fe0_2_2
  obtain rfl : c0_2 = .int .i64 a0_2 := by simpa [Value.cells] using ea0_2
  have e0_1_1 : DataW.trod enc Tryz.prog W 0 (fun _ => true) true n0_1 23 (([.int .i64 a0_0, .int .i64 a0_1, .int .i64 a0_2, c0_3, c0_4, c0_5, c0_6].drop 3).take (Tryz.prog.cellsOf 23)) = xs0_1[1]? := hx0_1 1 _ rfl
  rw [show Tryz.prog.cellsOf 23 = 1 from by kernel_rfl, List.getElem?_eq_getElem (by omega)] at e0_1_1
  have fe0_1_1 : DataW.trod enc Tryz.prog W 0 (fun _ => true) true n0_1 23 [c0_3] = some (xs0_1[1]'(by omega)) := e0_1_1
  obtain ⟨a0_3, ea0_3, _, w0_3⟩ := DataW.trod_int Tryz.underlying23 fe0_1_1
  obtain rfl : c0_3 = .int .u16 a0_3 := by simpa [Value.cells] using ea0_3
  have e0_1_2 : DataW.trod enc Tryz.prog W 0 (fun _ => true) true n0_1 24 (([.int .i64 a0_0, .int .i64 a0_1, .int .i64 a0_2, .int .u16 a0_3, c0_4, c0_5, c0_6].drop 4).take (Tryz.prog.cellsOf 24)) = xs0_1[2]? := hx0_1 2 _ rfl
  rw [show Tryz.prog.cellsOf 24 = 1 from by kernel_rfl, List.getElem?_eq_getElem (by omega)] at e0_1_2
  have fe0_1_2 : DataW.trod enc Tryz.prog W 0 (fun _ => true) true n0_1 24 [c0_4] = some (xs0_1[2]'(by omega)) := e0_1_2
  obtain ⟨a0_4, len0_4, cap0_4, z0_4, eu0_4, w0_4⟩ : ∃ a len cap zs, c0_4 = .slice a len cap ∧ IsRow .i16 W a len cap zs := by
    rcases open_ints Tryz.underlying24 Tryz.underlying53 (by kernel_rfl) fe0_1_2 with ⟨hcs, _⟩ | ⟨x, l, c, zs, hcs, _, hl, hm, hz, _, hcell, hwz⟩
    · exact ⟨none, 0, 0, [], by simpa using hcs, .inl ⟨rfl, rfl, rfl, rfl⟩⟩
    · exact ⟨some x, l, c, zs, by simpa using hcs, .inr ⟨_, rfl, hl, hm, by simpa using hz, hcell, hwz⟩⟩
  subst eu0_4
  have e0_1_3 : DataW.trod enc Tryz.prog W 0 (fun _ => true) true n0_1 24 (([.int .i64 a0_0, .int .i64 a0_1, .int .i64 a0_2, .int .u16 a0_3, .slice a0_4 len0_4 cap0_4, c0_5, c0_6].drop 5).take (Tryz.prog.cellsOf 24)) = xs0_1[3]? := hx0_1 3 _ rfl
  rw [show Tryz.prog.cellsOf 24 = 1 from by kernel_rfl, List.getElem?_eq_getElem (by omega)] at e0_1_3
  have fe0_1_3 : DataW.trod enc Tryz.prog W 0 (fun _ => true) true n0_1 24 [c0_5] = some (xs0_1[3]'(by omega)) := e0_1_3
  obtain ⟨a0_5, len0_5, cap0_5, z0_5, eu0_5, w0_5⟩ : ∃ a len cap zs, c0_5 = .slice a len cap ∧ IsRow .i16 W a len cap zs := by
    rcases open_ints Tryz.underlying24 Tryz.underlying53 (by kernel_rfl) fe0_1_3 with ⟨hcs, _⟩ | ⟨x, l, c, zs, hcs, _, hl, hm, hz, _, hcell, hwz⟩
    · exact ⟨none, 0, 0, [], by simpa using hcs, .inl ⟨rfl, rfl, rfl, rfl⟩⟩
    · exact ⟨some x, l, c, zs, by simpa using hcs, .inr ⟨_, rfl, hl, hm, by simpa using hz, hcell, hwz⟩⟩
  subst eu0_5
  have e0_1_4 : DataW.trod enc Tryz.prog W 0 (fun _ => true) true n0_1 5 (([.int .i64 a0_0, .int .i64 a0_1, .int .i64 a0_2, .int .u16 a0_3, .slice a0_4 len0_4 cap0_4, .slice a0_5 len0_5 cap0_5, c0_6].drop 6).take (Tryz.prog.cellsOf 5)) = xs0_1[4]? := hx0_1 4 _ rfl
  rw [show Tryz.prog.cellsOf 5 = 1 from by kernel_rfl, List.getElem?_eq_getElem (by omega)] at e0_1_4
  have fe0_1_4 : DataW.trod enc Tryz.prog W 0 (fun _ => true) true n0_1 5 [c0_6] = some (xs0_1[4]'(by omega)) := e0_1_4
  obtain ⟨a0_6, ea0_6, _, w0_6⟩ := DataW.trod_int Tryz.underlying5 fe0_1_4
  obtain rfl : c0_6 = .int .u8 a0_6 := by simpa [Value.cells] using ea0_6
  have k1 := h1
  have lt1 : ∀ x ∈ p1, x.block < W.heap.size := by obtain ⟨m, hm⟩ := k1; exact DataW.trod_lt m _ _ _ hm
  obtain ⟨a1, rfl, rfl, rfl, w1⟩ := open_int Tryz.underlying23 (hval 1 23 v1 rfl rfl) h1
  clear hA0 hval0
  refine (walk a0_0 a0_1 a0_2 a0_3 a0_4 len0_4 cap0_4 z0_4 a0_5 len0_5 cap0_5 z0_5 a0_6 a1 W (tb_of hS hL) w0_0 w0_1 w0_2 w0_3 w0_4 w0_5 w0_6 w1).mono fun e W' ⟨he, bel⟩ => ?_
  subst he
  exact ⟨_, rfl, _, _, _, [], _, [], hW', trodAll_mk1 (shut_bool Tryz.underlying4 _), (trodAll_cons_mk (Below.trod laidOut (by kernel_rfl) (of_decide_eq_true (by kernel_rfl)) k0 bel lt0) (trodAll_cons_mk (Below.trod laidOut (by kernel_rfl) (of_decide_eq_true (by kernel_rfl)) k1 bel lt1) trodAll_mk0)), rfl, bel.frame _, fun h => by cases h⟩

theorem reads (os : Os) {H : Type} (enc : TypeId × Value → H) : ∃ places, DataW.whole enc Tryz.prog ((laidWorld os).forCall (fun _ _ => 0) ⟨#[], #[.agg #[.int .i64 0, .int .i64 0, .int .i64 0, .int .u16 0, .slice none 0 0, .slice none 0 0, .int .u8 0], .int .u16 0], []⟩).memory Tryz.f7.params.toList Rows.splitOrderSpec.vars false ((#[.agg #[.int .i64 0, .int .i64 0, .int .i64 0, .int .u16 0, .slice none 0 0, .slice none 0 0, .int .u8 0], .int .u16 0] : Array Value)).toList 8 = some ([.agg [.agg [.lit (.int .i64 0), .lit (.int .i64 0), .lit (.int .i64 0)], .lit (.int .u16 0), .nil, .nil, .lit (.int .u8 0)], .lit (.int .u16 0)], [], places) :=
  ⟨[], by kernel_rfl⟩

set_option maxRecDepth 100000 in
theorem lifted (os : Os) (started : os.Started) (H : Type) (enc : TypeId × Value → H) (F : Stop.Interp) :
    ReturnsInHanded {} Tryz.checked os 7 .any ((OpenSpec.ofChange Rows.splitOrderSpec).preRow enc Tryz.prog Tryz.f7 Rows.splitOrderRow.domain false Rows.splitOrderRow.laid) (((OpenSpec.ofChange Rows.splitOrderSpec).at F).post enc Tryz.prog Tryz.f7 false true false false) := by
  obtain ⟨places, hx⟩ := reads os enc
  refine returnsInHanded_of_row (C := Tryz.checked) (s := OpenSpec.ofChange Rows.splitOrderSpec) own started (by kernel_rfl) Tryz.func7
    (witness_row_at (enc := enc) (C := Tryz.checked) false (laidWorld os) #[.agg #[.int .i64 0, .int .i64 0, .int .i64 0, .int .u16 0, .slice none 0 0, .slice none 0 0, .int .u8 0], .int .u16 0] rfl (by kernel_rfl) (by kernel_rfl) (by kernel_rfl)
      (OpenSpec.preRow_of_cond 8 hx (by kernel_rfl) (fun k hk => by cases hk) (by kernel_rfl) (laid_met os _))) ?_
  intro W base args ds gs before hval hW _ hk _ hL hS _
  exact contract H enc W base args ds gs before hval hW hL hS

theorem said : Rows.SplitOrderSaid :=
  OpenClaim.holds_of_cond 7 Tryz.f7 rfl rfl rfl rfl rfl rfl rfl ⟨rfl, rfl, rfl, rfl, rfl⟩ rfl rfl rfl rfl rfl (by kernel_rfl) Tryz.func7 (by kernel_rfl)
    (of_decide_eq_true (by kernel_rfl)) (by unfold Func.isWrapper; first | (rw [if_pos (by decide +kernel)]; kernel_rfl) | (rw [if_neg (by decide +kernel)]; exact ⟨rfl, rfl⟩))
    (fun os started H enc _ F => by rw [OpenClaim.pre_eq_preRow]; exact lifted os started H enc F)

/-- No parameter wants a stand-in; the program's own looks are off: what the card asks. -/
theorem plain (f : FuncId) (fn : Func) (hf : Tryz.pinned.checked.prog.funcNamed "chattel/chattellaw12.SplitOrder" = some f) (hfn : Tryz.pinned.checked.prog.funcs[f]? = some fn) :
    false = Tryz.pinned.checked.prog.looks [] ∧ ∀ (j : Nat) t, fn.params[j]? = some t → Tryz.pinned.checked.prog.wantsStandIn t = false := by
  obtain rfl : f = 7 := Option.some.inj ((show Tryz.prog.funcNamed "chattel/chattellaw12.SplitOrder" = some 7 by kernel_rfl).symm.trans hf) |>.symm
  obtain rfl : fn = Tryz.f7 := (Option.some.inj (Tryz.func7.symm.trans hfn)).symm
  refine ⟨by kernel_rfl, fun j t ht => ?_⟩
  rw [Tryz.params7] at ht
  have hm : t ∈ [26, 23] := by simpa using Array.mem_of_getElem? ht
  have hall : ([26, 23].all fun u => !Tryz.prog.wantsStandIn u) = true := by kernel_rfl
  exact (show Tryz.prog.wantsStandIn t = false by simpa using List.all_eq_true.1 hall t hm)

/-- The statement. -/
theorem proved : Rows.SplitOrderCardSaid :=
  Claim7.holds_tied_plain_at .later [] _ _ _ _ said (fun _ h => by cases h) (by kernel_rfl) (fun _ h => by cases h) splitOrder_row_tie rfl ⟨rfl, rfl⟩ (by kernel_rfl) rfl plain (by kernel_rfl)
end Go.Proofs.YtjpilacbapibjaaGreatDoor.splitOrder
