/- A calculus of whole functions: a state is told by what lies in the variables that a function has made, and by what is known of its slots; a region leads from state to state, whatever its order. No program is named here. -/
import Derived.Test.YtlkiikchjeapfaaGreatDoorBRg
import Derived.Laws.Tables
import Derived.Laws.Rows
import Derived.Deep.MidRow
namespace Go.Proofs.YtlkiikchjeapfaaGreatDoor.Z
open Go.RowKit Go.Proofs.YtlkiikchjeapfaaGreatDoor.Rg
variable {P : Program} {s : Value → Bool}

abbrev Pr := World → Value → Prop

/-- Memory has grown; of what there was, rows of cells of the kind s alone may have turned, to such ones. -/
structure Evo (s : Value → Bool) (w w' : World) : Prop where
  size : w.heap.size ≤ w'.heap.size
  block : ∀ b, b < w.heap.size → w'.heap[b]? = w.heap[b]? ∨ ∃ cs cs' t, w.heap[b]? = some (.cells cs t (0, 0)) ∧ w'.heap[b]? = some (.cells cs' t (0, 0)) ∧ cs.all s = true ∧ cs'.all s = true
theorem Evo.refl (w : World) : Evo s w w := ⟨Nat.le_refl _, fun _ _ => .inl rfl⟩
theorem Evo.trans {a b c : World} (h : Evo s a b) (k : Evo s b c) : Evo s a c := by
  refine ⟨Nat.le_trans h.size k.size, fun x hx => ?_⟩
  rcases h.block x hx with h1 | ⟨cs, cs', t, h1, h2, h3, h4⟩
  · rcases k.block x (Nat.lt_of_lt_of_le hx h.size) with k1 | ⟨ds, ds', t', k1, k2, k3, k4⟩
    · exact .inl (k1.trans h1)
    · exact .inr ⟨ds, ds', t', h1 ▸ k1, k2, k3, k4⟩
  · rcases k.block x (Nat.lt_of_lt_of_le hx h.size) with k1 | ⟨ds, ds', t', k1, k2, k3, k4⟩
    · exact .inr ⟨cs, cs', t, h1, k1.trans h2, h3, h4⟩
    · rw [h2] at k1
      injection k1 with k1
      injection k1 with e1 e2 e3
      subst e1 e2
      exact .inr ⟨cs, ds', t, h1, k2, h3, k4⟩
theorem Evo.of_grow {a b : World} (h : Grow a b) : Evo s a b := ⟨h.size, fun x hx => .inl (Below.block h x hx)⟩
theorem Evo.set {w : World} {k : Nat} {cs cs' : Array Value} {t : TypeId} (h : w.heap[k]? = some (.cells cs t (0, 0))) (h1 : cs.all s = true) (h2 : cs'.all s = true) : Evo s w (w.setRow k cs') := by
  refine ⟨by simp, fun b _ => ?_⟩
  by_cases e : b = k
  · subst e; exact .inr ⟨cs, cs', t, h, setRow_heap w b cs cs' t _ h, h1, h2⟩
  · exact .inl (setRow_other w k b cs' e)
theorem grow_set {a w : World} (h : Grow a w) {k : Nat} (hk : a.heap.size ≤ k) (cs : Array Value) : Grow a (w.setRow k cs) :=
  ⟨h.os, h.tape, h.output, by rw [setRow_size]; exact h.size, fun b hb => (setRow_other w k b cs (by omega)).trans (Below.block h b hb)⟩

/-- What stays known. -/
def Stb (s : Value → Bool) (p : Pr) : Prop := ∀ w w' v, p w v → Evo s w w' → p w' v
theorem stb_eq (c : Value) : Stb s (fun _ v => v = c) := fun _ _ _ h _ => h
theorem stb_true : Stb s (fun _ _ => True) := fun _ _ _ h _ => h

def aggB (P : Program) (t : TypeId) : Bool := match P.underlying t with
  | some (.struct _) => true
  | some (.array _ _) => true
  | _ => false
/-- The cells are those of a value of type t. -/
structure Fits (s : Value → Bool) (P : Program) (t : TypeId) (cs : Array Value) : Prop where
  agg : aggB P t = true
  size : (P.info? t).map (·.size) = some cs.size
  one : cs.all (·.oneCell') = true
  soft : cs.all s = true
/-- The cells of a new variable of type t. -/
def zeroOf (P : Program) (t : TypeId) : Array Value := ((P.info? t).bind (·.zero)).elim #[] Value.cells
def zeroB (s : Value → Bool) (P : Program) (t : TypeId) : Bool := match P.info? t with
  | some i => match i.zero with
    | some (.agg cs) => Nat.beq i.size cs.size && cs.all (·.oneCell') && cs.all s && aggB P t
    | _ => false
  | none => false
theorem zero_fits {t : TypeId} (h : zeroB s P t = true) : Fits s P t (zeroOf P t) ∧ ∃ i, P.info? t = some i ∧ i.zero = some (.agg (zeroOf P t)) := by
  unfold zeroB at h
  split at h
  · next i hi =>
    split at h
    · next cs hz =>
      simp only [Bool.and_eq_true] at h
      obtain ⟨⟨⟨h1, h2⟩, h3⟩, h4⟩ := h
      have e : zeroOf P t = cs := by simp [zeroOf, hi, hz, Value.cells]
      rw [e]
      exact ⟨⟨h4, by rw [hi]; simpa using Nat.eq_of_beq_eq_true h1, h2, h3⟩, i, hi, hz⟩
    · cases h
  · cases h
theorem run_alloc {w : World} {t : TypeId} {o : Oper} {ρ : Operand → Value} (h : zeroB s P t = true) (ho : o.op = .alloc t) : (execOp ρ o).run P w = .ok (.value (.pointer (some ⟨w.heap.size, 0, none⟩))) (w.alloc (.cells (zeroOf P t) t)) := by
  obtain ⟨_, i, hi, hz⟩ := zero_fits h
  have hz' : (zeroValue t).run P w = .ok (.agg (zeroOf P t)) w := by
    unfold zeroValue typeInfo
    simp [go_sem, hi, hz]
  unfold execOp
  simp only [ho, Instr.alloc, Sem.run_bind, hz', Result.andThen_ok, Sem.run_pure]
  rfl
theorem run_box {w : World} {t : TypeId} {o : Oper} {ρ : Operand → Value} {x : Operand} {cs : Array Value} (ho : o.op = .box t x) (hx : ρ x = .agg cs) : (execOp ρ o).run P w = .ok (.value (.pointer (some ⟨w.heap.size, 0, none⟩))) (w.alloc (.cells cs t)) := by
  unfold execOp
  simp only [ho, hx, Instr.box, Sem.run_bind, Sem.run_pure]
  rfl
theorem agg_desc {t : TypeId} (h : aggB P t = true) : ∃ d, P.underlying t = some d ∧ (match d with | .struct _ | .array _ _ => true | _ => false) = true := by
  unfold aggB at h
  split at h
  · next e => exact ⟨_, e, rfl⟩
  · next e => exact ⟨_, e, rfl⟩
  · cases h
theorem run_store {w : World} {t : TypeId} {o : Oper} {ρ : Operand → Value} {p x : Operand} {k : Nat} {cs old : Array Value} (ho : o.op = .store t p x) (hp : ρ p = .pointer (some ⟨k, 0, none⟩)) (hx : ρ x = .agg cs) (hk : w.heap[k]? = some (.cells old t (0, 0))) (hs : old.size = cs.size)
    (hf : Fits s P t cs) : (execOp ρ o).run P w = .ok .skip (w.setRow k cs) := by
  unfold execOp
  simp only [ho, hp, hx, Instr.storeAt, Instr.sureAddr, Sem.run_bind, Sem.run_pure, Result.andThen_ok, run_storeVar_row w k t t old cs hk hf.size hs hf.one]
theorem run_load {w : World} {t : TypeId} {o : Oper} {ρ : Operand → Value} {p : Operand} {k : Nat} {cs : Array Value} (ho : o.op = .load t p) (hp : ρ p = .pointer (some ⟨k, 0, none⟩)) (hk : w.heap[k]? = some (.cells cs t (0, 0)))
    (hf : Fits s P t cs) : (execOp ρ o).run P w = .ok (.value (.agg cs)) w := by
  obtain ⟨d, hu, hd⟩ := agg_desc hf.agg
  unfold execOp
  simp only [ho, hp, Instr.loadAt, Instr.sureAddr, Sem.run_bind, Sem.run_pure, Result.andThen_ok, run_loadVar_row w k t t cs _ d hk hu (by cases d <;> first | rfl | exact hd) hf.size]

/-! ### Regions by what holds on the way -/
section
variable {ops : Array Oper} {Q : Exit → Act → World → Prop} {n : Nat}
/-- What holds on the way, L: what has been done. -/
theorem region_inv {id : Nat} {b : Bool} {a0 : Act} {w0 : World} (I : Array Bool → Act → World → Prop) (hm : P.follows .mixedOrders = true) (hwf : wfV n ops = true)
    (h0 : ∀ w, (w = w0 ∨ w = w0.drew) → I (Array.replicate ops.size false) a0 w)
    (step : ∀ L i o a w, L.size = ops.size → ops[i]? = some o → L.getD i false = false → (∀ e, e ∈ o.after → Region.binds .any e = true → L.getD e.on false = true) → I L a w → wpOp P ops Q i (I (L.setIfInBounds i true)) a w)
    (fin : ∀ L a w, (∀ i, i < ops.size → L.getD i false = true) → I L a w → Q .normal a w) : (Code.region id ops b).wp P Q a0 w0 := by
  cases b with
  | true =>
    have key : ∀ (fuel : Nat) (L : Array Bool) (a : Act) (w : World), L.size = ops.size → L.toList.count false = fuel → I L a w → wpAny P .any ops Q fuel L a w := by
      intro fuel
      induction fuel with
      | zero =>
        intro L a w hL hc hI
        have hr : Region.ready .any ops L = [] := by
          rw [List.eq_nil_iff_forall_not_mem]
          intro i hi
          unfold Region.ready at hi
          rw [List.mem_filter] at hi
          obtain ⟨hi1, hi2⟩ := hi
          rw [List.mem_range] at hi1
          simp only [Bool.and_eq_true, Bool.not_eq_true'] at hi2
          have hs : i < L.size := by omega
          have h0 : L[i] = false := by
            have := hi2.1
            rwa [Array.getD_eq_getD_getElem?, Array.getElem?_eq_getElem hs, Option.getD_some] at this
          have : false ∈ L.toList := by rw [← h0]; simp
          rw [List.count_eq_zero] at hc
          exact hc this
        exact ⟨hr, fin L a w (all_listedV hwf hL hr) hI⟩
      | succ fuel ih =>
        intro L a w hL hc hI
        refine ⟨fun hr => fin L a w (all_listedV hwf hL hr) hI, fun i hi => ?_⟩
        unfold Region.ready at hi
        rw [List.mem_filter] at hi
        obtain ⟨hi1, hi2⟩ := hi
        rw [List.mem_range] at hi1
        simp only [Bool.and_eq_true, Bool.not_eq_true'] at hi2
        have hget : ops[i]? = some ops[i] := Array.getElem?_eq_getElem hi1
        have hs : i < L.size := by omega
        have h0 : L.toList[i]? = some false := by
          have := hi2.1
          rw [Array.getD_eq_getD_getElem?, Array.getElem?_eq_getElem hs, Option.getD_some] at this
          rw [Array.getElem?_toList, Array.getElem?_eq_getElem hs, this]
        have hLi : L.getD i false = false := by
          rw [Array.getD_eq_getD_getElem?, ← Array.getElem?_toList, h0]; rfl
        refine wpOp_mono (fun a' w' hI' => ih _ _ _ (by simpa using hL) ?_ hI') (step L i ops[i] a w hL hget hLi ?_ hI)
        · have := count_set L.toList i h0
          rw [Array.toList_setIfInBounds]
          omega
        · intro e he hb
          have := hi2.2
          rw [hget] at this
          simp only [Option.map_some, Option.getD_some] at this
          rw [Array.all_eq_true'] at this
          have := this e he
          simpa [hb] using this
    exact wp_region_any hm (key _ _ _ _ (by simp) (by simp) (h0 _ (.inr rfl)))
  | false =>
    have hwf' := hwf
    simp only [wfV, Bool.and_eq_true, decide_eq_true_eq] at hwf'
    obtain ⟨_, hed⟩ := hwf'
    have key : ∀ (k m : Nat) (L : Array Bool) (a : Act) (w : World), m + k = ops.size → L.size = ops.size → (∀ i, i < m → L.getD i false = true) → (∀ i, m ≤ i → L.getD i false = false) → I L a w → wpOps P ops Q (List.range' m k) a w := by
      intro k
      induction k with
      | zero =>
        intro m L a w hmk hL hd hn hI
        show Q .normal a w
        exact fin L a w (fun i hi => hd i (by omega)) hI
      | succ k ih =>
        intro m L a w hmk hL hd hn hI
        rw [List.range'_succ, wpOps_cons]
        have hlt : m < ops.size := by omega
        have hget : ops[m]? = some ops[m] := Array.getElem?_eq_getElem hlt
        refine wpOp_mono (fun a' w' hI' => ih (m + 1) _ _ _ (by omega) (by simpa using hL) (fun i hi => ?_) (fun i hi => ?_) hI') (step L m ops[m] a w hL hget (hn m (Nat.le_refl _)) ?_ hI)
        · rw [Array.getD_eq_getD_getElem?, Array.getElem?_setIfInBounds]
          by_cases e : m = i
          · subst e; simp [hL, hlt]
          · rw [if_neg e, ← Array.getD_eq_getD_getElem?]; exact hd i (by omega)
        · rw [Array.getD_eq_getD_getElem?, Array.getElem?_setIfInBounds, if_neg (by omega), ← Array.getD_eq_getD_getElem?]
          exact hn i (by omega)
        · intro e he hb
          have hz : (ops[m], m) ∈ ops.toList.zipIdx := by
            rw [List.mem_zipIdx_iff_getElem?, Array.getElem?_toList]
            exact hget
          have h1 := List.all_eq_true.1 hed _ hz
          simp only at h1
          rw [Array.all_eq_true'] at h1
          have h2 := h1 e he
          rw [hb] at h2
          exact hd _ (by simpa using h2)
    refine wp_region ?_
    rw [List.range_eq_range']
    exact key ops.size 0 _ a0 w0 (by omega) (by simp) (fun i hi => by omega) (fun i _ => by rw [Array.getD_eq_getD_getElem?, Array.getElem?_replicate]; split <;> rfl) (h0 w0 (.inl rfl))
end
end Go.Proofs.YtlkiikchjeapfaaGreatDoor.Z
