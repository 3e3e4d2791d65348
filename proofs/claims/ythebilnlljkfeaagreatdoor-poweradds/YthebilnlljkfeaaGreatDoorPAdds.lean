/- The law PowerAdds holds, as its tied card says: for every input the Go function answers true, and each argument reads as it did. No condition beyond the card's own. -/
import Derived.Test.YthebilnlljkfeaaGreatDoorRows
import Derived.Test.YthebilnlljkfeaaGreatDoorCards
import Derived.Test.YthebilnlljkfeaaGreatDoorTie
import Derived.Test.YthebilnlljkfeaaGreatDoorLaid
import Derived.Test.YthebilnlljkfeaaGreatDoorL13Adds
import Derived.WalkKit
import Derived.ProofKit
import Derived.OpenShut
import Derived.ShutString
import Derived.ChangeOld
import Derived.Below
import Derived.Lib.SmallJoins
namespace Go.Proofs.YthebilnlljkfeaaGreatDoor.powerAdds
open Go.ChangeShapes Go.WideShapes Go.ChangeAt Go.RowKit
open Go.ChangeMaps (open_string shut_string)
set_option linter.unusedVariables false

theorem own : ownKnob Tryz.prog.godebug = none := by kernel_rfl
theorem laidOut : laidOutB Tryz.prog = true := by kernel_rfl

/-- A slice of integers that came in: it is nil; or it leads to a row of 'cap' cells, the numbers 'zs', each fitting its kind. -/
def IsRow (k : IntKind) (w : World) (a : Option Addr) (len cap : Nat) (zs : List Int) : Prop :=
  (a = none ∧ len = 0 ∧ cap = 0 ∧ zs = []) ∨
  ∃ x, a = some x ∧ len ≤ cap ∧ cap ≤ maxLen ∧ zs.length = cap ∧ (∀ i, i < zs.length → w.cell? (x.add i) = some (.int k (zs.getD i 0))) ∧ ∀ n ∈ zs, (Lit.int k n).wf = true

theorem arr6 {cs : Array Value} (h : cs.size = 6) : ∃ c0 c1 c2 c3 c4 c5, cs = #[c0, c1, c2, c3, c4, c5] := by
  rcases cs with ⟨l⟩
  rcases l with _ | ⟨c0, _ | ⟨c1, _ | ⟨c2, _ | ⟨c3, _ | ⟨c4, _ | ⟨c5, _ | ⟨x, l⟩⟩⟩⟩⟩⟩⟩ <;> simp at h
  exact ⟨c0, c1, c2, c3, c4, c5, rfl⟩

/-! ### The walk: the Go text returns true, and writes nothing that was there. -/
theorem walk (a0_0 : Int) (a0_1 : Int) (a0_2 : Int) (a0_3 : Int) (a0_4 : Int) (a0_5 : Int) (w : World) (w0_0 : (Lit.int .i16 a0_0).wf = true) (w0_1 : (Lit.int .i16 a0_1).wf = true) (w0_2 : (Lit.int .i16 a0_2).wf = true) (w0_3 : (Lit.int .i16 a0_3).wf = true) (w0_4 : (Lit.int .u8 a0_4).wf = true) (w0_5 : (Lit.int .u8 a0_5).wf = true) :
    Calls Tryz.prog 7 #[.agg #[.int .i16 a0_0, .int .i16 a0_1, .int .i16 a0_2, .int .i16 a0_3, .int .u8 a0_4, .int .u8 a0_5]] w fun e w' => e = .returned (.bool true) ∧ Below w.heap.size w w' := by
  have h0 := bounds_i16 w0_0
  have h1 := bounds_i16 w0_1
  have h2 := bounds_i16 w0_2
  have h3 := bounds_i16 w0_3
  have h4 := bounds_u8 w0_4
  have h5 := bounds_u8 w0_5
  rcases Classical.em (X.q13 a0_2 a0_3 < 0) with h | h
  · exact (X.adds13_n (a := a0_0) (b := a0_1) (c := a0_2) (d := a0_3) (n := a0_4) (m := a0_5) rfl ⟨by omega, by omega⟩ ⟨by omega, by omega⟩ ⟨by omega, by omega⟩ ⟨by omega, by omega⟩ ⟨by omega, by omega⟩ ⟨by omega, by omega⟩ h).mono fun e w' ⟨v, he, hv, hg⟩ => ⟨by rw [he, hv], hg⟩
  · exact (X.adds13_p (a := a0_0) (b := a0_1) (c := a0_2) (d := a0_3) (n := a0_4) (m := a0_5) rfl ⟨by omega, by omega⟩ ⟨by omega, by omega⟩ ⟨by omega, by omega⟩ ⟨by omega, by omega⟩ ⟨by omega, by omega⟩ ⟨by omega, by omega⟩ h).mono fun e w' ⟨v, he, hv, hg⟩ => ⟨by rw [he, hv], hg⟩

/-! ### What the walk gives, for every argument and every world. -/
set_option maxRecDepth 100000 in
theorem contract (H : Type) (enc : TypeId × Value → H) (W : World) (base : Nat) (args : Array Value) (ds gs : List (DataW H)) (before : List MemPlace)
    (hval0 : ∀ (j : Nat) t v, Tryz.f7.params[j]? = some t → args[j]? = some v → Value.okWide Tryz.prog W .any base t v)
    (hW : DataW.Whole enc Tryz.prog Tryz.f7.params.toList Rows.powerAddsSpec.vars false W args.toList ds gs before) :
    Calls Tryz.prog 7 args W fun e W' => ∃ v, e = .returned v ∧ Rows.powerAddsSpec.post enc Tryz.prog Tryz.f7 false true false false W args v W' := by
  have hval : ∀ (j : Nat) t v, Tryz.f7.params[j]? = some t → args[j]? = some v → Value.okWide Tryz.prog W .any base t v := hval0
  have hW' := hW
  obtain ⟨p, q, hA0, hV, rfl, hfz, hnd⟩ := hW
  have hA : DataW.TrodAll enc Tryz.prog W 0 (fun _ => true) true Tryz.f7.params.toList args.toList ds p := hA0
  rw [Tryz.params7] at hA hval
  obtain ⟨v0, vs0, d0, ds0, p0, q0, hargs, rfl, rfl, h0, r0⟩ := trodAll_cons hA
  obtain ⟨rfl, rfl, rfl⟩ := trodAll_nil r0
  obtain rfl : args = #[v0] := by cases args; simp_all
  obtain ⟨rfl, rfl⟩ := trodVars_none hV
  have k0 := h0
  have lt0 : ∀ x ∈ p0, x.block < W.heap.size := by obtain ⟨m, hm⟩ := k0; exact DataW.trod_lt m _ _ _ hm
  obtain ⟨cs0, rfl, sz0⟩ := okWide_struct Tryz.underlying67 (hval 0 67 v0 rfl rfl)
  obtain ⟨c0_0, c0_1, c0_2, c0_3, c0_4, c0_5, rfl⟩ := arr6 (sz0.trans (by kernel_rfl : Tryz.prog.cellsOf 67 = 6))
  obtain ⟨fu0, hf0⟩ := h0
  have g0 : DataW.trod enc Tryz.prog W 0 (fun _ => true) true fu0 67 [c0_0, c0_1, c0_2, c0_3, c0_4, c0_5] = some (d0, p0) := hf0
  obtain ⟨xs0_1, n0_1, _, _, _, hl0_1, hx0_1⟩ := DataW.trod_struct Tryz.underlying67 g0
  have hm0_1 : xs0_1.length = 4 := hl0_1
  have e0_1_0 : DataW.trod enc Tryz.prog W 0 (fun _ => true) true n0_1 50 (([c0_0, c0_1, c0_2, c0_3, c0_4, c0_5].drop 0).take (Tryz.prog.cellsOf 50)) = xs0_1[0]? := hx0_1 0 _ rfl
  rw [show Tryz.prog.cellsOf 50 = 2 from by kernel_rfl, List.getElem?_eq_getElem (by omega)] at e0_1_0
  have fe0_1_0 : DataW.trod enc Tryz.prog W 0 (fun _ => true) true n0_1 50 [c0_0, c0_1] = some (xs0_1[0]'(by omega)) := e0_1_0
  obtain ⟨xs0_2, n0_2, _, _, _, hl0_2, hx0_2⟩ := DataW.trod_array Tryz.underlying50 fe0_1_0
  have hm0_2 : xs0_2.length = 2 := hl0_2
  have e0_2_0 : DataW.trod enc Tryz.prog W 0 (fun _ => true) true n0_2 49 (([c0_0, c0_1].drop (0 * Tryz.prog.cellsOf 49)).take (Tryz.prog.cellsOf 49)) = xs0_2[0]? := hx0_2 0 (by omega)
  rw [show Tryz.prog.cellsOf 49 = 1 from by kernel_rfl, List.getElem?_eq_getElem (by omega)] at e0_2_0
  have fe0_2_0 : DataW.trod enc Tryz.prog W 0 (fun _ => true) true n0_2 49 [c0_0] = some (xs0_2[0]'(by omega)) := e0_2_0
  obtain ⟨a0_0, ea0_0, _, w0_0⟩ := DataW.trod_int Tryz.underlying49 fe0_2_0
  obtain rfl : c0_0 = .int .i16 a0_0 := by simpa [Value.cells] using ea0_0
  have e0_2_1 : DataW.trod enc Tryz.prog W 0 (fun _ => true) true n0_2 49 (([.int .i16 a0_0, c0_1].drop (1 * Tryz.prog.cellsOf 49)).take (Tryz.prog.cellsOf 49)) = xs0_2[1]? := hx0_2 1 (by omega)
  rw [show Tryz.prog.cellsOf 49 = 1 from by kernel_rfl, List.getElem?_eq_getElem (by omega)] at e0_2_1
  have fe0_2_1 : DataW.trod enc Tryz.prog W 0 (fun _ => true) true n0_2 49 [c0_1] = some (xs0_2[1]'(by omega)) := e0_2_1
  obtain ⟨a0_1, ea0_1, _, w0_1⟩ := DataW.trod_int Tryz.underlying49 fe0_2_1
  obtain rfl : c0_1 = .int .i16 a0_1 := by simpa [Value.cells] using ea0_1
  have e0_1_1 : DataW.trod enc Tryz.prog W 0 (fun _ => true) true n0_1 50 (([.int .i16 a0_0, .int .i16 a0_1, c0_2, c0_3, c0_4, c0_5].drop 2).take (Tryz.prog.cellsOf 50)) = xs0_1[1]? := hx0_1 1 _ rfl
  rw [show Tryz.prog.cellsOf 50 = 2 from by kernel_rfl, List.getElem?_eq_getElem (by omega)] at e0_1_1
  have fe0_1_1 : DataW.trod enc Tryz.prog W 0 (fun _ => true) true n0_1 50 [c0_2, c0_3] = some (xs0_1[1]'(by omega)) := e0_1_1
  obtain ⟨xs0_5, n0_5, _, _, _, hl0_5, hx0_5⟩ := DataW.trod_array Tryz.underlying50 fe0_1_1
  have hm0_5 : xs0_5.length = 2 := hl0_5
  have e0_5_0 : DataW.trod enc Tryz.prog W 0 (fun _ => true) true n0_5 49 (([c0_2, c0_3].drop (0 * Tryz.prog.cellsOf 49)).take (Tryz.prog.cellsOf 49)) = xs0_5[0]? := hx0_5 0 (by omega)
  rw [show Tryz.prog.cellsOf 49 = 1 from by kernel_rfl, List.getElem?_eq_getElem (by omega)] at e0_5_0
  have fe0_5_0 : DataW.trod enc Tryz.prog W 0 (fun _ => true) true n0_5 49 [c0_2] = some (xs0_5[0]'(by omega)) := e0_5_0
  obtain ⟨a0_2, ea0_2, _, w0_2⟩ := DataW.trod_int Tryz.underlying49 fe0_5_0
  obtain rfl : c0_2 = .int .i16 a0_2 := by simpa [Value.cells] using ea0_2
  have e0_5_1 : DataW.trod enc Tryz.prog W 0 (fun _ => true) true n0_5 49 (([.int .i16 a0_2, c0_3].drop (1 * Tryz.prog.cellsOf 49)).take (Tryz.prog.cellsOf 49)) = xs0_5[1]? := hx0_5 1 (by omega)
  rw [show Tryz.prog.cellsOf 49 = 1 from by kernel_rfl, List.getElem?_eq_getElem (by omega)] at e0_5_1
  have fe0_5_1 : DataW.trod enc Tryz.prog W 0 (fun _ => true) true n0_5 49 [c0_3] = some (xs0_5[1]'(by omega)) := e0_5_1
  obtain ⟨a0_3, ea0_3, _, w0_3⟩ := DataW.trod_int Tryz.underlying49 fe0_5_1
  obtain rfl : c0_3 = .int .i16 a0_3 := by simpa [Value.cells] using ea0_3
  have e0_1_2 : DataW.trod enc Tryz.prog W 0 (fun _ => true) true n0_1 5 (([.int .i16 a0_0, .int .i16 a0_1, .int .i16 a0_2, .int .i16 a0_3, c0_4, c0_5].drop 4).take (Tryz.prog.cellsOf 5)) = xs0_1[2]? := hx0_1 2 _ rfl
  rw [show Tryz.prog.cellsOf 5 = 1 from by kernel_rfl, List.getElem?_eq_getElem (by omega)] at e0_1_2
  have fe0_1_2 : DataW.trod enc Tryz.prog W 0 (fun _ => true) true n0_1 5 [c0_4] = some (xs0_1[2]'(by omega)) := e0_1_2
  obtain ⟨a0_4, ea0_4, _, w0_4⟩ := DataW.trod_int Tryz.underlying5 fe0_1_2
  obtain rfl : c0_4 = .int .u8 a0_4 := by simpa [Value.cells] using ea0_4
  have e0_1_3 : DataW.trod enc Tryz.prog W 0 (fun _ => true) true n0_1 5 (([.int .i16 a0_0, .int .i16 a0_1, .int .i16 a0_2, .int .i16 a0_3, .int .u8 a0_4, c0_5].drop 5).take (Tryz.prog.cellsOf 5)) = xs0_1[3]? := hx0_1 3 _ rfl
  rw [show Tryz.prog.cellsOf 5 = 1 from by kernel_rfl, List.getElem?_eq_getElem (by omega)] at e0_1_3
  have fe0_1_3 : DataW.trod enc Tryz.prog W 0 (fun _ => true) true n0_1 5 [c0_5] = some (xs0_1[3]'(by omega)) := e0_1_3
  obtain ⟨a0_5, ea0_5, _, w0_5⟩ := DataW.trod_int Tryz.underlying5 fe0_1_3
  obtain rfl : c0_5 = .int .u8 a0_5 := by simpa [Value.cells] using ea0_5
  clear hA0 hval0
  refine (walk a0_0 a0_1 a0_2 a0_3 a0_4 a0_5 W w0_0 w0_1 w0_2 w0_3 w0_4 w0_5).mono fun e W' ⟨he, bel⟩ => ?_
  subst he
  exact ⟨_, rfl, _, _, _, [], _, [], hW', trodAll_mk1 (shut_bool Tryz.underlying4 _), (trodAll_cons_mk (Below.trod laidOut (by kernel_rfl) (of_decide_eq_true (by kernel_rfl)) k0 bel lt0) trodAll_mk0), rfl, bel.frame _, fun h => by cases h⟩

theorem reads (os : Os) {H : Type} (enc : TypeId × Value → H) : ∃ places, DataW.whole enc Tryz.prog ((laidWorld os).forCall (fun _ _ => 0) ⟨#[], #[.agg #[.int .i16 0, .int .i16 0, .int .i16 0, .int .i16 0, .int .u8 0, .int .u8 0]], []⟩).memory Tryz.f7.params.toList Rows.powerAddsSpec.vars false ((#[.agg #[.int .i16 0, .int .i16 0, .int .i16 0, .int .i16 0, .int .u8 0, .int .u8 0]] : Array Value)).toList 8 = some ([.agg [.agg [.lit (.int .i16 0), .lit (.int .i16 0)], .agg [.lit (.int .i16 0), .lit (.int .i16 0)], .lit (.int .u8 0), .lit (.int .u8 0)]], [], places) :=
  ⟨[], by kernel_rfl⟩

set_option maxRecDepth 100000 in
theorem lifted (os : Os) (started : os.Started) (H : Type) (enc : TypeId × Value → H) (F : Stop.Interp) :
    ReturnsInHanded {} Tryz.checked os 7 .any ((OpenSpec.ofChange Rows.powerAddsSpec).preRow enc Tryz.prog Tryz.f7 Rows.powerAddsRow.domain false Rows.powerAddsRow.laid) (((OpenSpec.ofChange Rows.powerAddsSpec).at F).post enc Tryz.prog Tryz.f7 false true false false) := by
  obtain ⟨places, hx⟩ := reads os enc
  refine returnsInHanded_of_row (C := Tryz.checked) (s := OpenSpec.ofChange Rows.powerAddsSpec) own started (by kernel_rfl) Tryz.func7
    (witness_row_at (enc := enc) (C := Tryz.checked) false (laidWorld os) #[.agg #[.int .i16 0, .int .i16 0, .int .i16 0, .int .i16 0, .int .u8 0, .int .u8 0]] rfl (by kernel_rfl) (by kernel_rfl) (by kernel_rfl)
      (OpenSpec.preRow_of_cond 8 hx (by kernel_rfl) (fun k hk => by cases hk) (by kernel_rfl) (laid_met os _))) ?_
  intro W base args ds gs before hval hW _ hk _ hL hS _
  exact contract H enc W base args ds gs before hval hW

theorem said : Rows.PowerAddsSaid :=
  OpenClaim.holds_of_cond 7 Tryz.f7 rfl rfl rfl rfl rfl rfl rfl ⟨rfl, rfl, rfl, rfl, rfl⟩ rfl rfl rfl rfl rfl (by kernel_rfl) Tryz.func7 (by kernel_rfl)
    (of_decide_eq_true (by kernel_rfl)) (by unfold Func.isWrapper; first | (rw [if_pos (by decide +kernel)]; kernel_rfl) | (rw [if_neg (by decide +kernel)]; exact ⟨rfl, rfl⟩))
    (fun os started H enc _ F => by rw [OpenClaim.pre_eq_preRow]; exact lifted os started H enc F)

/-- No parameter wants a stand-in; the program's own looks are off: what the card asks. -/
theorem plain (f : FuncId) (fn : Func) (hf : Tryz.pinned.checked.prog.funcNamed "chattel/chattellaw13.PowerAdds" = some f) (hfn : Tryz.pinned.checked.prog.funcs[f]? = some fn) :
    false = Tryz.pinned.checked.prog.looks [] ∧ ∀ (j : Nat) t, fn.params[j]? = some t → Tryz.pinned.checked.prog.wantsStandIn t = false := by
  obtain rfl : f = 7 := Option.some.inj ((show Tryz.prog.funcNamed "chattel/chattellaw13.PowerAdds" = some 7 by kernel_rfl).symm.trans hf) |>.symm
  obtain rfl : fn = Tryz.f7 := (Option.some.inj (Tryz.func7.symm.trans hfn)).symm
  refine ⟨by kernel_rfl, fun j t ht => ?_⟩
  rw [Tryz.params7] at ht
  have hm : t ∈ [67] := by simpa using Array.mem_of_getElem? ht
  have hall : ([67].all fun u => !Tryz.prog.wantsStandIn u) = true := by kernel_rfl
  exact (show Tryz.prog.wantsStandIn t = false by simpa using List.all_eq_true.1 hall t hm)

/-- The statement. -/
theorem proved : Rows.PowerAddsCardSaid :=
  Claim7.holds_tied_plain_at .later [] _ _ _ _ said (fun _ h => by cases h) (by kernel_rfl) (fun _ h => by cases h) powerAdds_row_tie rfl ⟨rfl, rfl⟩ (by kernel_rfl) rfl plain (by kernel_rfl)
end Go.Proofs.YthebilnlljkfeaaGreatDoor.powerAdds
