/- One text out of: Zr, Zs, Zt, Zu, Zw, Zy, Zl. -/
import Derived.Test.YtalcafbeepimgaaGreatDoorBRg
import Derived.Laws.Tables
import Derived.Laws.Rows
import Derived.Deep.MidRow
import Derived.KernelRfl
import Derived.Deep.LoopGhost
/- A calculus of whole functions: a state is told by what lies in the variables that a function has made, and by what is known of its slots; a region leads from state to state, whatever its order. No program is named here. -/
namespace Go.Proofs.YtalcafbeepimgaaGreatDoor.Z
open Go.RowKit Go.Proofs.YtalcafbeepimgaaGreatDoor.Rg
variable {P : Program} {s : Array Value → TypeId → Bool}

abbrev Pr := World → Value → Prop

/-- Memory has grown; of what there was, rows of cells of the kind s alone may have turned, to such ones. -/
structure Evo (s : Array Value → TypeId → Bool) (w w' : World) : Prop where
  size : w.heap.size ≤ w'.heap.size
  block : ∀ b, b < w.heap.size → w'.heap[b]? = w.heap[b]? ∨ ∃ cs cs' t, w.heap[b]? = some (.cells cs t (0, 0)) ∧ w'.heap[b]? = some (.cells cs' t (0, 0)) ∧ s cs t = true ∧ s cs' t = true
theorem Evo.refl (w : World) : Evo s w w := ⟨Nat.le_refl _, fun _ _ => .inl rfl⟩
theorem Evo.trans {a b c : World} (h : Evo s a b) (k : Evo s b c) : Evo s a c := by
  refine ⟨Nat.le_trans h.size k.size, fun x hx => ?_⟩
  rcases h.block x hx with h1 | ⟨cs, cs', t, h1, h2, h3, h4⟩
  · rcases k.block x (Nat.lt_of_lt_of_le hx h.size) with k1 | ⟨ds, ds', t', k1, k2, k3, k4⟩
    · exact .inl (k1.trans h1)
    · exact .inr ⟨ds, ds', t', h1 ▸ k1, k2, k3, k4⟩
  · rcases k.block x (Nat.lt_of_lt_of_le hx h.size) with k1 | ⟨ds, ds', t', k1, k2, k3, k4⟩
    · exact .inr ⟨cs, cs', t, h1, k1.trans h2, h3, h4⟩
    · rw [h2] at k1
      injection k1 with k1
      injection k1 with e1 e2 e3
      subst e1 e2
      exact .inr ⟨cs, ds', t, h1, k2, h3, k4⟩
theorem Evo.of_grow {a b : World} (h : Grow a b) : Evo s a b := ⟨h.size, fun x hx => .inl (Below.block h x hx)⟩
theorem Evo.set {w : World} {k : Nat} {cs cs' : Array Value} {t : TypeId} (h : w.heap[k]? = some (.cells cs t (0, 0))) (h1 : s cs t = true) (h2 : s cs' t = true) : Evo s w (w.setRow k cs') := by
  refine ⟨by simp, fun b _ => ?_⟩
  by_cases e : b = k
  · subst e; exact .inr ⟨cs, cs', t, h, setRow_heap w b cs cs' t _ h, h1, h2⟩
  · exact .inl (setRow_other w k b cs' e)
theorem grow_set {a w : World} (h : Grow a w) {k : Nat} (hk : a.heap.size ≤ k) (cs : Array Value) : Grow a (w.setRow k cs) :=
  ⟨h.os, h.tape, h.output, by rw [setRow_size]; exact h.size, fun b hb => (setRow_other w k b cs (by omega)).trans (Below.block h b hb)⟩

/-- What stays known. -/
def Stb (s : Array Value → TypeId → Bool) (p : Pr) : Prop := ∀ w w' v, p w v → Evo s w w' → p w' v
theorem stb_eq (c : Value) : Stb s (fun _ v => v = c) := fun _ _ _ h _ => h
theorem stb_true : Stb s (fun _ _ => True) := fun _ _ _ h _ => h

def aggB (P : Program) (t : TypeId) : Bool := match P.underlying t with
  | some (.struct _) => true
  | some (.array _ _) => true
  | _ => false
/-- The cells are those of a value of type t. -/
structure Fits (s : Array Value → TypeId → Bool) (P : Program) (t : TypeId) (cs : Array Value) : Prop where
  agg : aggB P t = true
  size : (P.info? t).map (·.size) = some cs.size
  one : cs.all (·.oneCell') = true
  soft : s cs t = true
/-- The cells of a new variable of type t. -/
def zeroOf (P : Program) (t : TypeId) : Array Value := ((P.info? t).bind (·.zero)).elim #[] Value.cells
def zeroB (s : Array Value → TypeId → Bool) (P : Program) (t : TypeId) : Bool := match P.info? t with
  | some i => match i.zero with
    | some (.agg cs) => Nat.beq i.size cs.size && cs.all (·.oneCell') && s cs t && aggB P t
    | _ => false
  | none => false
theorem zero_fits {t : TypeId} (h : zeroB s P t = true) : Fits s P t (zeroOf P t) ∧ ∃ i, P.info? t = some i ∧ i.zero = some (.agg (zeroOf P t)) := by
  unfold zeroB at h
  split at h
  · next i hi =>
    split at h
    · next cs hz =>
      simp only [Bool.and_eq_true] at h
      obtain ⟨⟨⟨h1, h2⟩, h3⟩, h4⟩ := h
      have e : zeroOf P t = cs := by simp [zeroOf, hi, hz, Value.cells]
      rw [e]
      exact ⟨⟨h4, by rw [hi]; simpa using Nat.eq_of_beq_eq_true h1, h2, h3⟩, i, hi, hz⟩
    · cases h
  · cases h
theorem run_alloc {w : World} {t : TypeId} {o : Oper} {ρ : Operand → Value} (h : zeroB s P t = true) (ho : o.op = .alloc t) : (execOp ρ o).run P w = .ok (.value (.pointer (some ⟨w.heap.size, 0, none⟩))) (w.alloc (.cells (zeroOf P t) t)) := by
  obtain ⟨_, i, hi, hz⟩ := zero_fits h
  have hz' : (zeroValue t).run P w = .ok (.agg (zeroOf P t)) w := by
    unfold zeroValue typeInfo
    simp [go_sem, hi, hz]
  unfold execOp
  simp only [ho, Instr.alloc, Sem.run_bind, hz', Result.andThen_ok, Sem.run_pure]
  rfl
theorem run_box {w : World} {t : TypeId} {o : Oper} {ρ : Operand → Value} {x : Operand} {cs : Array Value} (ho : o.op = .box t x) (hx : ρ x = .agg cs) : (execOp ρ o).run P w = .ok (.value (.pointer (some ⟨w.heap.size, 0, none⟩))) (w.alloc (.cells cs t)) := by
  unfold execOp
  simp only [ho, hx, Instr.box, Sem.run_bind, Sem.run_pure]
  rfl
theorem agg_desc {t : TypeId} (h : aggB P t = true) : ∃ d, P.underlying t = some d ∧ (match d with | .struct _ | .array _ _ => true | _ => false) = true := by
  unfold aggB at h
  split at h
  · next e => exact ⟨_, e, rfl⟩
  · next e => exact ⟨_, e, rfl⟩
  · cases h
theorem run_store {w : World} {t : TypeId} {o : Oper} {ρ : Operand → Value} {p x : Operand} {k : Nat} {cs old : Array Value} (ho : o.op = .store t p x) (hp : ρ p = .pointer (some ⟨k, 0, none⟩)) (hx : ρ x = .agg cs) (hk : w.heap[k]? = some (.cells old t (0, 0))) (hs : old.size = cs.size)
    (hf : Fits s P t cs) : (execOp ρ o).run P w = .ok .skip (w.setRow k cs) := by
  unfold execOp
  simp only [ho, hp, hx, Instr.storeAt, Instr.sureAddr, Sem.run_bind, Sem.run_pure, Result.andThen_ok, run_storeVar_row w k t t old cs hk hf.size hs hf.one]
theorem run_load {w : World} {t : TypeId} {o : Oper} {ρ : Operand → Value} {p : Operand} {k : Nat} {cs : Array Value} (ho : o.op = .load t p) (hp : ρ p = .pointer (some ⟨k, 0, none⟩)) (hk : w.heap[k]? = some (.cells cs t (0, 0)))
    (hf : Fits s P t cs) : (execOp ρ o).run P w = .ok (.value (.agg cs)) w := by
  obtain ⟨d, hu, hd⟩ := agg_desc hf.agg
  unfold execOp
  simp only [ho, hp, Instr.loadAt, Instr.sureAddr, Sem.run_bind, Sem.run_pure, Result.andThen_ok, run_loadVar_row w k t t cs _ d hk hu (by cases d <;> first | rfl | exact hd) hf.size]

/-! ### Regions by what holds on the way -/
section
variable {ops : Array Oper} {Q : Exit → Act → World → Prop} {n : Nat}
/-- What holds on the way, L: what has been done. -/
theorem region_inv {id : Nat} {b : Bool} {a0 : Act} {w0 : World} (I : Array Bool → Act → World → Prop) (hm : P.follows .mixedOrders = true) (hwf : wfV n ops = true)
    (h0 : ∀ w, (w = w0 ∨ w = w0.drew) → I (Array.replicate ops.size false) a0 w)
    (step : ∀ L i o a w, L.size = ops.size → ops[i]? = some o → L.getD i false = false → (∀ e, e ∈ o.after → Region.binds .any e = true → L.getD e.on false = true) → I L a w → wpOp P ops Q i (I (L.setIfInBounds i true)) a w)
    (fin : ∀ L a w, (∀ i, i < ops.size → L.getD i false = true) → I L a w → Q .normal a w) : (Code.region id ops b).wp P Q a0 w0 := by
  cases b with
  | true =>
    have key : ∀ (fuel : Nat) (L : Array Bool) (a : Act) (w : World), L.size = ops.size → L.toList.count false = fuel → I L a w → wpAny P .any ops Q fuel L a w := by
      intro fuel
      induction fuel with
      | zero =>
        intro L a w hL hc hI
        have hr : Region.ready .any ops L = [] := by
          rw [List.eq_nil_iff_forall_not_mem]
          intro i hi
          unfold Region.ready at hi
          rw [List.mem_filter] at hi
          obtain ⟨hi1, hi2⟩ := hi
          rw [List.mem_range] at hi1
          simp only [Bool.and_eq_true, Bool.not_eq_true'] at hi2
          have hs : i < L.size := by omega
          have h0 : L[i] = false := by
            have := hi2.1
            rwa [Array.getD_eq_getD_getElem?, Array.getElem?_eq_getElem hs, Option.getD_some] at this
          have : false ∈ L.toList := by rw [← h0]; simp
          rw [List.count_eq_zero] at hc
          exact hc this
        exact ⟨hr, fin L a w (all_listedV hwf hL hr) hI⟩
      | succ fuel ih =>
        intro L a w hL hc hI
        refine ⟨fun hr => fin L a w (all_listedV hwf hL hr) hI, fun i hi => ?_⟩
        unfold Region.ready at hi
        rw [List.mem_filter] at hi
        obtain ⟨hi1, hi2⟩ := hi
        rw [List.mem_range] at hi1
        simp only [Bool.and_eq_true, Bool.not_eq_true'] at hi2
        have hget : ops[i]? = some ops[i] := Array.getElem?_eq_getElem hi1
        have hs : i < L.size := by omega
        have h0 : L.toList[i]? = some false := by
          have := hi2.1
          rw [Array.getD_eq_getD_getElem?, Array.getElem?_eq_getElem hs, Option.getD_some] at this
          rw [Array.getElem?_toList, Array.getElem?_eq_getElem hs, this]
        have hLi : L.getD i false = false := by
          rw [Array.getD_eq_getD_getElem?, ← Array.getElem?_toList, h0]; rfl
        refine wpOp_mono (fun a' w' hI' => ih _ _ _ (by simpa using hL) ?_ hI') (step L i ops[i] a w hL hget hLi ?_ hI)
        · have := count_set L.toList i h0
          rw [Array.toList_setIfInBounds]
          omega
        · intro e he hb
          have := hi2.2
          rw [hget] at this
          simp only [Option.map_some, Option.getD_some] at this
          rw [Array.all_eq_true'] at this
          have := this e he
          simpa [hb] using this
    exact wp_region_any hm (key _ _ _ _ (by simp) (by simp) (h0 _ (.inr rfl)))
  | false =>
    have hwf' := hwf
    simp only [wfV, Bool.and_eq_true, decide_eq_true_eq] at hwf'
    obtain ⟨_, hed⟩ := hwf'
    have key : ∀ (k m : Nat) (L : Array Bool) (a : Act) (w : World), m + k = ops.size → L.size = ops.size → (∀ i, i < m → L.getD i false = true) → (∀ i, m ≤ i → L.getD i false = false) → I L a w → wpOps P ops Q (List.range' m k) a w := by
      intro k
      induction k with
      | zero =>
        intro m L a w hmk hL hd hn hI
        show Q .normal a w
        exact fin L a w (fun i hi => hd i (by omega)) hI
      | succ k ih =>
        intro m L a w hmk hL hd hn hI
        rw [List.range'_succ, wpOps_cons]
        have hlt : m < ops.size := by omega
        have hget : ops[m]? = some ops[m] := Array.getElem?_eq_getElem hlt
        refine wpOp_mono (fun a' w' hI' => ih (m + 1) _ _ _ (by omega) (by simpa using hL) (fun i hi => ?_) (fun i hi => ?_) hI') (step L m ops[m] a w hL hget (hn m (Nat.le_refl _)) ?_ hI)
        · rw [Array.getD_eq_getD_getElem?, Array.getElem?_setIfInBounds]
          by_cases e : m = i
          · subst e; simp [hL, hlt]
          · rw [if_neg e, ← Array.getD_eq_getD_getElem?]; exact hd i (by omega)
        · rw [Array.getD_eq_getD_getElem?, Array.getElem?_setIfInBounds, if_neg (by omega), ← Array.getD_eq_getD_getElem?]
          exact hn i (by omega)
        · intro e he hb
          have hz : (ops[m], m) ∈ ops.toList.zipIdx := by
            rw [List.mem_zipIdx_iff_getElem?, Array.getElem?_toList]
            exact hget
          have h1 := List.all_eq_true.1 hed _ hz
          simp only at h1
          rw [Array.all_eq_true'] at h1
          have h2 := h1 e he
          rw [hb] at h2
          exact hd _ (by simpa using h2)
    refine wp_region ?_
    rw [List.range_eq_range']
    exact key ops.size 0 _ a0 w0 (by omega) (by simp) (fun i hi => by omega) (fun i _ => by rw [Array.getD_eq_getD_getElem?, Array.getElem?_replicate]; split <;> rfl) (h0 w0 (.inl rfl))
end
end Go.Proofs.YtalcafbeepimgaaGreatDoor.Z

/- The calculus of whole functions: states, and the rule for a region that reads variables, makes some and stores into them. No program is named here. -/
namespace Go.Proofs.YtalcafbeepimgaaGreatDoor.Z
open Go.RowKit Go.Proofs.YtalcafbeepimgaaGreatDoor.Rg
variable {P : Program} {s : Array Value → TypeId → Bool}

def AllL {α : Type} (p : α → Prop) : List α → Prop
  | [] => True
  | x :: l => p x ∧ AllL p l
theorem AllL.mem {α : Type} {p : α → Prop} : ∀ {l : List α}, AllL p l → ∀ x ∈ l, p x := by
  intro l
  induction l with
  | nil => intro _ x h; cases h
  | cons y l ih =>
    intro h x hx
    rcases List.mem_cons.1 hx with rfl | hx
    · exact h.1
    · exact ih h.2 x hx

/-- A variable: the slot that points to it, its type, what is known of the value that it holds. -/
structure Vr where
  slot : Nat
  ty : TypeId
  val : Pr

/-- A state: G: the variables; D: what is known of slots; wE: the memory at the function's entry; kf: where the variables lie. -/
structure St (s : Array Value → TypeId → Bool) (P : Program) (n : Nat) (G : List Vr) (D : List (Nat × Pr)) (wE : World) (kf : Nat → Nat) (a : Act) (w : World) : Prop where
  size : a.tmps.size = n
  defers : a.defers = []
  grow : Grow wE w
  vars : ∀ x ∈ G, a.tmps.getD x.slot undef = .pointer (some ⟨kf x.slot, 0, none⟩) ∧ wE.heap.size ≤ kf x.slot ∧ ∃ cs, w.heap[kf x.slot]? = some (.cells cs x.ty (0, 0)) ∧ Fits s P x.ty cs ∧ x.val w (.agg cs)
  apart : ∀ x ∈ G, ∀ y ∈ G, x.slot ≠ y.slot → kf x.slot ≠ kf y.slot
  facts : ∀ x ∈ D, x.2 w (a.tmps.getD x.1 undef)

/-- What a region makes (operation, slot, type) and stores (operation, the variable's slot, the stored slot, type). -/
structure VS where
  al : List (Nat × Nat × TypeId)
  st : List (Nat × Nat × Nat × TypeId)
def isAl (V : VS) (i : Nat) : Bool := V.al.any fun x => Nat.beq x.1 i
def isSt (V : VS) (i : Nat) : Bool := V.st.any fun x => Nat.beq x.1 i
def slots (G : List Vr) : List (Nat × TypeId) := G.map fun x => (x.slot, x.ty)
def okA (s : Array Value → TypeId → Bool) (P : Program) (ops : Array Oper) (G : List (Nat × TypeId)) (x : Nat × Nat × TypeId) : Bool :=
  (match info ops x.1 with
    | some (some p, .alloc t, none) => Nat.beq p x.2.1 && Nat.beq t x.2.2
    | _ => false) && zeroB s P x.2.2 && G.all (fun y => !Nat.beq y.1 x.2.1)
def okS (ops : Array Oper) (G : List (Nat × TypeId)) (V : VS) (x : Nat × Nat × Nat × TypeId) : Bool :=
  (match info ops x.1 with
    | some (none, .store t (.tmp p) (.tmp y), none) => Nat.beq p x.2.1 && Nat.beq y x.2.2.1 && Nat.beq t x.2.2.2
    | _ => false) && depI ops x.1 x.2.2.1 && V.al.all (fun z => !Nat.beq z.2.1 x.2.2.1) &&
  (G.any (fun y => Nat.beq y.1 x.2.1 && Nat.beq y.2 x.2.2.2) || (depI ops x.1 x.2.1 && V.al.any fun z => Nat.beq z.2.1 x.2.1 && Nat.beq z.2.2 x.2.2.2))
def okB (s : Array Value → TypeId → Bool) (P : Program) (ops : Array Oper) (G : List (Nat × TypeId)) (V : VS) : Bool :=
  V.al.all (okA s P ops G) && V.st.all (okS ops G V) && G.all (fun y => !(dsts ops).contains y.1) && decide ((V.st.map (·.2.1)).Nodup)

/-- Does operation j wait for operation i? -/
def predI (ops : Array Oper) (j i : Nat) : Bool := match ops[j]? with
  | some o => o.after.any fun e => Region.binds .any e && Nat.beq e.on i
  | none => false
/-- No store into the variable at slot p comes ahead of operation i. -/
def readB (ops : Array Oper) (V : VS) (i p : Nat) : Bool := V.st.all fun x => !Nat.beq x.2.1 p || predI ops x.1 i
/-- Slot d isn't written ahead of operation i. -/
def readS (ops : Array Oper) (i d : Nat) : Bool := ops.toList.zipIdx.all fun x => !(x.1.dst == some d) || (x.1.after.any fun e => Region.binds .any e && Nat.beq e.on i) || Nat.beq x.2 i

section
variable {ops : Array Oper} {Q : Exit → Act → World → Prop} {n : Nat} {F : Facts} {G : List Vr} {D : List (Nat × Pr)} {V : VS} {a0 : Act} {w0 wE : World} {kf0 : Nat → Nat}

/-- What an operation may lean on. -/
structure Ctx (s : Array Value → TypeId → Bool) (P : Program) (ops : Array Oper) (F : Facts) (G : List Vr) (D : List (Nat × Pr)) (V : VS) (kf0 : Nat → Nat) (i : Nat) (a : Act) (w : World) : Prop where
  dep : ∀ d, depI ops i d = true → F d w (a.tmps.getD d undef)
  ptr : ∀ x ∈ G, a.tmps.getD x.slot undef = .pointer (some ⟨kf0 x.slot, 0, none⟩)
  rd : ∀ x ∈ G, readB ops V i x.slot = true → ∃ cs, w.heap[kf0 x.slot]? = some (.cells cs x.ty (0, 0)) ∧ Fits s P x.ty cs ∧ x.val w (.agg cs)
  old : ∀ x ∈ D, readS ops i x.1 = true → x.2 w (a.tmps.getD x.1 undef)

/-- What operation i owes. -/
def Step (s : Array Value → TypeId → Bool) (P : Program) (ops : Array Oper) (Q : Exit → Act → World → Prop) (F : Facts) (G : List Vr) (D : List (Nat × Pr)) (V : VS) (kf0 : Nat → Nat) (i : Nat) : Prop :=
  ∀ o, ops[i]? = some o → ∀ a w, Ctx s P ops F G D V kf0 i a w → wpOp P ops Q i (fun a' w' => ∃ v, a' = a.put o.dst v ∧ (∀ d, o.dst = some d → F d w' v) ∧ Grow w w') a w

/-- Which variables there are. -/
def live (G : List Vr) (V : VS) (L : Array Bool) (p : Nat) (t : TypeId) : Prop := (∃ x ∈ G, x.slot = p ∧ x.ty = t) ∨ ∃ i, (i, p, t) ∈ V.al ∧ L.getD i false = true

/-- What holds on the way. -/
structure Inv (s : Array Value → TypeId → Bool) (P : Program) (ops : Array Oper) (F : Facts) (n : Nat) (G : List Vr) (V : VS) (a0 : Act) (w0 wE : World) (kf0 kf : Nat → Nat) (L : Array Bool) (a : Act) (w : World) : Prop where
  hk : ∀ x ∈ G, kf x.slot = kf0 x.slot
  size : a.tmps.size = n
  defers : a.defers = []
  gr : Grow wE w
  ev : Evo s w0 w
  keep : ∀ d, (∀ i o, ops[i]? = some o → L.getD i false = true → o.dst ≠ some d) → a.tmps.getD d undef = a0.tmps.getD d undef
  facts : ∀ i o d, ops[i]? = some o → L.getD i false = true → isAl V i = false → o.dst = some d → F d w (a.tmps.getD d undef)
  clos : ∀ i o e, ops[i]? = some o → L.getD i false = true → e ∈ o.after → Region.binds .any e = true → L.getD e.on false = true
  vars : ∀ p t, live G V L p t → a.tmps.getD p undef = .pointer (some ⟨kf p, 0, none⟩) ∧ wE.heap.size ≤ kf p ∧ ∃ cs, w.heap[kf p]? = some (.cells cs t (0, 0)) ∧ Fits s P t cs ∧ ∀ j y t', (j, p, y, t') ∈ V.st → L.getD j false = true → a.tmps.getD y undef = .agg cs
  gval : ∀ x ∈ G, (∀ j y t, (j, x.slot, y, t) ∈ V.st → L.getD j false = false) → ∃ cs, w.heap[kf x.slot]? = some (.cells cs x.ty (0, 0)) ∧ x.val w (.agg cs)
  aval : ∀ i p t, (i, p, t) ∈ V.al → L.getD i false = true → (∀ j y t, (j, p, y, t) ∈ V.st → L.getD j false = false) → w.heap[kf p]? = some (.cells (zeroOf P t) t (0, 0))
  apart : ∀ p t q t', live G V L p t → live G V L q t' → p ≠ q → kf p ≠ kf q

theorem info_some {i : Nat} {x : Option Nat × Op × Option (Nat × Bool)} (h : info ops i = some x) : ∃ o, ops[i]? = some o ∧ o.dst = x.1 ∧ o.op = x.2.1 ∧ o.guard = x.2.2 := by
  unfold info at h
  cases ho : ops[i]? with
  | none => rw [ho] at h; cases h
  | some o =>
    rw [ho, Option.map_some] at h
    injection h with h
    subst h
    exact ⟨o, rfl, rfl, rfl, rfl⟩
theorem al_info (hok : okB s P ops (slots G) V = true) {i p : Nat} {t : TypeId} (h : (i, p, t) ∈ V.al) : (∃ o, ops[i]? = some o ∧ o.dst = some p ∧ o.op = .alloc t ∧ o.guard = none) ∧ zeroB s P t = true ∧ ∀ x ∈ G, x.slot ≠ p := by
  simp only [okB, Bool.and_eq_true] at hok
  have h1 := List.all_eq_true.1 hok.1.1.1 _ h
  simp only [okA, Bool.and_eq_true] at h1
  obtain ⟨⟨h1, h2⟩, h3⟩ := h1
  refine ⟨?_, h2, fun x hx e => ?_⟩
  · split at h1
    · next p' t' he =>
      simp only [Bool.and_eq_true] at h1
      have e1 := Nat.eq_of_beq_eq_true h1.1
      have e2 := Nat.eq_of_beq_eq_true h1.2
      subst e1 e2
      obtain ⟨o, ho, a1, a2, a3⟩ := info_some he
      exact ⟨o, ho, a1, a2, a3⟩
    · cases h1
  · have := List.all_eq_true.1 h3 (x.slot, x.ty) (List.mem_map.2 ⟨x, hx, rfl⟩)
    subst e
    simp at this
theorem st_info (hok : okB s P ops (slots G) V = true) {i p y : Nat} {t : TypeId} (h : (i, p, y, t) ∈ V.st) : (∃ o, ops[i]? = some o ∧ o.dst = none ∧ o.op = .store t (.tmp p) (.tmp y) ∧ o.guard = none) ∧ depI ops i y = true ∧ (∀ z ∈ V.al, z.2.1 ≠ y) ∧
    ((∃ x ∈ G, x.slot = p ∧ x.ty = t) ∨ (depI ops i p = true ∧ ∃ j, (j, p, t) ∈ V.al)) := by
  simp only [okB, Bool.and_eq_true] at hok
  have h1 := List.all_eq_true.1 hok.1.1.2 _ h
  simp only [okS, Bool.and_eq_true, Bool.or_eq_true] at h1
  obtain ⟨⟨⟨h1, h2⟩, h3⟩, h4⟩ := h1
  refine ⟨?_, h2, fun z hz e => ?_, ?_⟩
  · split at h1
    · next t' p' y' he =>
      simp only [Bool.and_eq_true] at h1
      have e1 := Nat.eq_of_beq_eq_true h1.1.1
      have e2 := Nat.eq_of_beq_eq_true h1.1.2
      have e3 := Nat.eq_of_beq_eq_true h1.2
      subst e1 e2 e3
      obtain ⟨o, ho, a1, a2, a3⟩ := info_some he
      exact ⟨o, ho, a1, a2, a3⟩
    · cases h1
  · have := List.all_eq_true.1 h3 z hz
    subst e
    simp at this
  · rcases h4 with h4 | ⟨h4, h5⟩
    · obtain ⟨z, hz, e⟩ := List.any_eq_true.1 h4
      obtain ⟨x, hx, rfl⟩ := List.mem_map.1 hz
      simp only [Bool.and_eq_true] at e
      exact .inl ⟨x, hx, Nat.eq_of_beq_eq_true e.1, Nat.eq_of_beq_eq_true e.2⟩
    · obtain ⟨⟨j, q, u⟩, hz, e⟩ := List.any_eq_true.1 h5
      simp only [Bool.and_eq_true] at e
      have e1 := Nat.eq_of_beq_eq_true e.1
      have e2 := Nat.eq_of_beq_eq_true e.2
      subst e1 e2
      exact .inr ⟨h4, j, hz⟩
theorem g_dst (hok : okB s P ops (slots G) V = true) {x : Vr} (hx : x ∈ G) : (dsts ops).contains x.slot = false := by
  simp only [okB, Bool.and_eq_true] at hok
  have := List.all_eq_true.1 hok.1.2 (x.slot, x.ty) (List.mem_map.2 ⟨x, hx, rfl⟩)
  simpa using this
theorem st_one (hok : okB s P ops (slots G) V = true) {i j p y z : Nat} {t u : TypeId} (h : (i, p, y, t) ∈ V.st) (h' : (j, p, z, u) ∈ V.st) : i = j ∧ y = z ∧ t = u := by
  simp only [okB, Bool.and_eq_true, decide_eq_true_eq] at hok
  have key : ∀ (l : List (Nat × Nat × Nat × TypeId)), (l.map (·.2.1)).Nodup → (i, p, y, t) ∈ l → (j, p, z, u) ∈ l → (i, p, y, t) = (j, p, z, u) := by
    intro l
    induction l with
    | nil => intro _ h; cases h
    | cons a l ih =>
      intro hn h1 h2
      rw [List.map_cons, List.nodup_cons] at hn
      rcases List.mem_cons.1 h1 with h1 | h1 <;> rcases List.mem_cons.1 h2 with h2 | h2
      · rw [h1, h2]
      · exact absurd (List.mem_map.2 ⟨_, h2, by rw [← h1]⟩) hn.1
      · exact absurd (List.mem_map.2 ⟨_, h1, by rw [← h2]⟩) hn.1
      · exact ih hn.2 h1 h2
  have := key V.st hok.2 h h'
  simp only [Prod.mk.injEq] at this
  exact ⟨this.1, this.2.2.1, this.2.2.2⟩
theorem dep_writer {i d : Nat} {o : Oper} (ho : ops[i]? = some o) (h : depI ops i d = true) : ∃ e ∈ o.after, Region.binds .any e = true ∧ ∃ q, ops[e.on]? = some q ∧ q.dst = some d := by
  rw [depI_eq ho] at h
  unfold depB at h
  rw [Array.any_eq_true] at h
  obtain ⟨k, hk, hd⟩ := h
  simp only [Bool.and_eq_true, beq_iff_eq] at hd
  cases hq : ops[(o.after[k]).on]? with
  | none => rw [hq] at hd; cases hd.2
  | some q => exact ⟨o.after[k], Array.getElem_mem hk, hd.1, q, hq, by rw [hq] at hd; exact hd.2⟩
theorem isAl_iff {i : Nat} : isAl V i = true ↔ ∃ p t, (i, p, t) ∈ V.al := by
  unfold isAl
  rw [List.any_eq_true]
  constructor
  · rintro ⟨⟨j, p, t⟩, h, e⟩
    have := Nat.eq_of_beq_eq_true e
    simp only at this
    subst this
    exact ⟨p, t, h⟩
  · rintro ⟨p, t, h⟩
    exact ⟨_, h, by simp⟩
theorem isSt_iff {i : Nat} : isSt V i = true ↔ ∃ p y t, (i, p, y, t) ∈ V.st := by
  unfold isSt
  rw [List.any_eq_true]
  constructor
  · rintro ⟨⟨j, p, y, t⟩, h, e⟩
    have := Nat.eq_of_beq_eq_true e
    simp only at this
    subst this
    exact ⟨p, y, t, h⟩
  · rintro ⟨p, y, t, h⟩
    exact ⟨_, h, by simp⟩
theorem put_other {a : Act} {dst : Option Nat} {v : Value} {e : Nat} (h : dst ≠ some e) : (a.put dst v).tmps.getD e undef = a.tmps.getD e undef := by
  cases dst with
  | none => rfl
  | some d =>
    have hne : d ≠ e := fun x => h (by rw [x])
    simp only [Act.put, Array.getD_eq_getD_getElem?, Array.getElem?_setIfInBounds]
    simp [hne]
theorem put_size (a : Act) (dst : Option Nat) (v : Value) : (a.put dst v).tmps.size = a.tmps.size := by
  cases dst <;> simp [Act.put]
theorem put_defers (a : Act) (dst : Option Nat) (v : Value) : (a.put dst v).defers = a.defers := by
  cases dst <;> rfl
theorem set_get {L : Array Bool} {i j : Nat} (h : (L.setIfInBounds i true).getD j false = true) : j = i ∨ L.getD j false = true := by
  by_cases e : i = j
  · exact .inl e.symm
  · exact .inr (getD_set h e)
theorem set_keep {L : Array Bool} {i j : Nat} (h : L.getD j false = true) : (L.setIfInBounds i true).getD j false = true := by
  rw [Array.getD_eq_getD_getElem?, Array.getElem?_setIfInBounds]
  by_cases e : i = j
  · subst e
    have : i < L.size := by
      rcases Nat.lt_or_ge i L.size with h' | h'
      · exact h'
      · rw [Array.getD_eq_getD_getElem?, Array.getElem?_eq_none h'] at h; cases h
    simp [this]
  · rw [if_neg e, ← Array.getD_eq_getD_getElem?]; exact h
theorem set_self {L : Array Bool} {i : Nat} (h : i < L.size) : (L.setIfInBounds i true).getD i false = true := by
  rw [Array.getD_eq_getD_getElem?, Array.getElem?_setIfInBounds]
  simp [h]

/-- What a slot holds that a done operation wrote is not written again. -/
theorem not_again (hwf : wfV n ops = true) {L : Array Bool} {i : Nat} {o : Oper} (hi : ops[i]? = some o) (hLi : L.getD i false = false) {e : Nat} (h : ∃ j q, ops[j]? = some q ∧ q.dst = some e ∧ L.getD j false = true) : o.dst ≠ some e := by
  intro hd
  obtain ⟨j, q, hj, hq, hLj⟩ := h
  simp only [wfV, Bool.and_eq_true, decide_eq_true_eq] at hwf
  have hi' : ops.toList[i]? = some o := by rw [Array.getElem?_toList]; exact hi
  have hj' : ops.toList[j]? = some q := by rw [Array.getElem?_toList]; exact hj
  have := nodup_filterMap_idx (fun x : Oper => x.dst) ops.toList hwf.1.2 i j o q e hi' hj' hd hq
  subst this
  rw [hLi] at hLj
  cases hLj
theorem not_var (hwf : wfV n ops = true) (hok : okB s P ops (slots G) V = true) {L : Array Bool} {i : Nat} {o : Oper} (hi : ops[i]? = some o) (hLi : L.getD i false = false) {p : Nat} {t : TypeId} (h : live G V L p t) : o.dst ≠ some p := by
  rcases h with ⟨x, hx, rfl, rfl⟩ | ⟨j, hj, hL⟩
  · intro hd
    have h1 := g_dst hok hx
    have h2 := mem_dsts hi hd
    rw [List.contains_eq_mem] at h1
    simp [h2] at h1
  · obtain ⟨⟨q, hq, hqd, _⟩, _⟩ := al_info hok hj
    exact not_again hwf hi hLi ⟨j, q, hq, hqd, hL⟩
theorem src_done (hok : okB s P ops (slots G) V = true) {kf : Nat → Nat} {L : Array Bool} {a : Act} {w : World} (hI : Inv s P ops F n G V a0 w0 wE kf0 kf L a w) {j p y : Nat} {t : TypeId} (h : (j, p, y, t) ∈ V.st) (hL : L.getD j false = true) : ∃ m q, ops[m]? = some q ∧ q.dst = some y ∧ L.getD m false = true := by
  obtain ⟨⟨o, ho, _⟩, hdep, _⟩ := st_info hok h
  obtain ⟨e, he, hb, q, hq, hqd⟩ := dep_writer ho hdep
  exact ⟨e.on, q, hq, hqd, hI.clos j o e ho hL he hb⟩
theorem live_set {L : Array Bool} {i p : Nat} {t : TypeId} (h : live G V (L.setIfInBounds i true) p t) : live G V L p t ∨ (i, p, t) ∈ V.al := by
  rcases h with h | ⟨j, hj, hL⟩
  · exact .inl (.inl h)
  · rcases set_get hL with e | e
    · subst e; exact .inr hj
    · exact .inl (.inr ⟨j, hj, e⟩)
theorem clos_set {kf : Nat → Nat} {L : Array Bool} {a : Act} {w : World} (hI : Inv s P ops F n G V a0 w0 wE kf0 kf L a w) {i : Nat} {o : Oper} (hi : ops[i]? = some o) (hdone : ∀ e, e ∈ o.after → Region.binds .any e = true → L.getD e.on false = true) :
    ∀ j q e, ops[j]? = some q → (L.setIfInBounds i true).getD j false = true → e ∈ q.after → Region.binds .any e = true → (L.setIfInBounds i true).getD e.on false = true := by
  intro j q e hj hL he hb
  rcases set_get hL with e1 | e1
  · subst e1
    rw [hi] at hj
    injection hj with hj
    subst hj
    exact set_keep (hdone e he hb)
  · exact set_keep (hI.clos j q e hj e1 he hb)

end
end Go.Proofs.YtalcafbeepimgaaGreatDoor.Z

/- The calculus of whole functions: the rule for a region. No program is named here. -/
namespace Go.Proofs.YtalcafbeepimgaaGreatDoor.Z
open Go.RowKit Go.Proofs.YtalcafbeepimgaaGreatDoor.Rg
variable {P : Program} {s : Array Value → TypeId → Bool}
section
variable {ops : Array Oper} {Q : Exit → Act → World → Prop} {n : Nat} {F : Facts} {G : List Vr} {D : List (Nat × Pr)} {V : VS} {a0 : Act} {w0 wE : World} {kf0 : Nat → Nat}

/-- An operation that only makes memory. -/
theorem inv_plain (hwf : wfV n ops = true) (hok : okB s P ops (slots G) V = true) (hF : ∀ d, Stb s (F d)) (hGs : ∀ x ∈ G, Stb s x.val) {kf : Nat → Nat} {L : Array Bool} {a : Act} {w : World} (hI : Inv s P ops F n G V a0 w0 wE kf0 kf L a w) {i : Nat} {o : Oper} (hi : ops[i]? = some o) (hLs : i < L.size) (hLi : L.getD i false = false)
    (hdone : ∀ e, e ∈ o.after → Region.binds .any e = true → L.getD e.on false = true) (hna : isAl V i = false) (hns : isSt V i = false) {v : Value} {w' : World} (hv : ∀ d, o.dst = some d → F d w' v) (hg : Grow w w') :
    Inv s P ops F n G V a0 w0 wE kf0 kf (L.setIfInBounds i true) (a.put o.dst v) w' := by
  have hlive : ∀ p t, live G V (L.setIfInBounds i true) p t → live G V L p t := fun p t h => (live_set h).elim id fun h' => by
    have := isAl_iff.2 ⟨p, t, h'⟩
    rw [hna] at this
    cases this
  have hst : ∀ j p y t, (j, p, y, t) ∈ V.st → (L.setIfInBounds i true).getD j false = true → L.getD j false = true := fun j p y t h hL => (set_get hL).elim (fun e => by
    subst e
    have := isSt_iff.2 ⟨p, y, t, h⟩
    rw [hns] at this
    cases this) id
  have hblk : ∀ {k : Nat} {x : Obj}, w.heap[k]? = some x → w'.heap[k]? = some x := fun {k x} h => (Below.block hg k (Array.getElem?_eq_some_iff.1 h).1).trans h
  have hev : Evo s w w' := Evo.of_grow hg
  have hback : ∀ j, L.getD j false = true → (L.setIfInBounds i true).getD j false = true := fun j h => set_keep h
  have hnot : ∀ j, (L.setIfInBounds i true).getD j false = false → L.getD j false = false := fun j h => by
    cases h' : L.getD j false with
    | false => rfl
    | true => rw [hback j h'] at h; cases h
  refine ⟨hI.hk, by rw [put_size]; exact hI.size, by rw [put_defers]; exact hI.defers, hI.gr.trans hg, hI.ev.trans hev, fun d hd => ?_, fun j q d hj hL hj2 hd => ?_, clos_set hI hi hdone, fun p t hp => ?_, fun x hx h => ?_, fun j p t hj hL h => ?_, fun p t q t' hp hq => hI.apart p t q t' (hlive p t hp) (hlive q t' hq)⟩
  · rw [put_other (fun hd' => hd i o hi (set_self hLs) hd')]
    exact hI.keep d fun j q hj hL => hd j q hj (set_keep hL)
  · rcases set_get hL with e | e
    · subst e
      rw [hi] at hj
      injection hj with hj
      subst hj
      have hlt : d < a.tmps.size := by
        rw [hI.size]
        simp only [wfV, Bool.and_eq_true] at hwf
        have := List.all_eq_true.1 hwf.1.1 d (mem_dsts hi hd)
        simpa using this
      rw [hd, put_getD a d d v hlt, if_pos rfl]
      exact hv d hd
    · rw [put_other (not_again hwf hi hLi ⟨j, q, hj, hd, e⟩)]
      exact hF d _ _ _ (hI.facts j q d hj e hj2 hd) hev
  · obtain ⟨h1, h2, cs, h3, h4, h5⟩ := hI.vars p t (hlive p t hp)
    refine ⟨by rw [put_other (not_var hwf hok hi hLi (hlive p t hp))]; exact h1, h2, cs, hblk h3, h4, fun j y t' hj hL => ?_⟩
    have hL' := hst j p y t' hj hL
    rw [put_other (not_again hwf hi hLi (src_done hok hI hj hL'))]
    exact h5 j y t' hj hL'
  · obtain ⟨cs, h1, h2⟩ := hI.gval x hx fun j y t hj => hnot j (h j y t hj)
    exact ⟨cs, hblk h1, hGs x hx _ _ _ h2 hev⟩
  · have hL' : L.getD j false = true := (set_get hL).elim (fun e => by
      subst e
      have := isAl_iff.2 ⟨p, t, hj⟩
      rw [hna] at this
      cases this) id
    exact hblk (hI.aval j p t hj hL' fun m y t' hm => hnot m (h m y t' hm))

/-- An operation that makes a variable. -/
theorem inv_alloc (hwf : wfV n ops = true) (hok : okB s P ops (slots G) V = true) (hF : ∀ d, Stb s (F d)) (hGs : ∀ x ∈ G, Stb s x.val) {kf : Nat → Nat} {L : Array Bool} {a : Act} {w : World} (hI : Inv s P ops F n G V a0 w0 wE kf0 kf L a w) {i p : Nat} {t : TypeId} (hal : (i, p, t) ∈ V.al) {o : Oper} (hi : ops[i]? = some o) (hd : o.dst = some p) (hLs : i < L.size) (hLi : L.getD i false = false)
    (hdone : ∀ e, e ∈ o.after → Region.binds .any e = true → L.getD e.on false = true) (hns : isSt V i = false) (hz : zeroB s P t = true) (hfit : Fits s P t (zeroOf P t)) (hpG : ∀ x ∈ G, x.slot ≠ p) :
    Inv s P ops F n G V a0 w0 wE kf0 (fun q => if q = p then w.heap.size else kf q) (L.setIfInBounds i true) (a.put o.dst (.pointer (some ⟨w.heap.size, 0, none⟩))) (w.alloc (.cells (zeroOf P t) t)) := by
  have hg : Grow w (w.alloc (.cells (zeroOf P t) t)) := (Grow.refl w).alloc _
  have hev : Evo s w (w.alloc (.cells (zeroOf P t) t)) := Evo.of_grow hg
  have hblk : ∀ {k : Nat} {x : Obj}, w.heap[k]? = some x → (w.alloc (.cells (zeroOf P t) t)).heap[k]? = some x := fun {k x} h => (Below.block hg k (Array.getElem?_eq_some_iff.1 h).1).trans h
  have hnew : (w.alloc (.cells (zeroOf P t) t)).heap[w.heap.size]? = some (.cells (zeroOf P t) t (0, 0)) := by unfold World.alloc; exact Array.getElem?_push_size
  have hlt : p < a.tmps.size := by
    rw [hI.size]
    have hwf' := hwf
    simp only [wfV, Bool.and_eq_true] at hwf'
    have := List.all_eq_true.1 hwf'.1.1 p (mem_dsts hi hd)
    simpa using this
  have hst : ∀ j p y t, (j, p, y, t) ∈ V.st → (L.setIfInBounds i true).getD j false = true → L.getD j false = true := fun j p y t h hL => (set_get hL).elim (fun e => by
    subst e
    have := isSt_iff.2 ⟨p, y, t, h⟩
    rw [hns] at this
    cases this) id
  have hnot : ∀ j, (L.setIfInBounds i true).getD j false = false → L.getD j false = false := fun j h => by
    cases h' : L.getD j false with
    | false => rfl
    | true => rw [set_keep h'] at h; cases h
  have hone : ∀ q u, (i, q, u) ∈ V.al → q = p := fun q u h => by
    obtain ⟨⟨o', ho', hd', _⟩, _⟩ := al_info hok h
    rw [hi] at ho'
    injection ho' with ho'
    subst ho'
    rw [hd] at hd'
    injection hd' with hd'
    exact hd'.symm
  have hpn : ∀ q u, live G V L q u → q ≠ p := fun q u h e => not_var hwf hok hi hLi h (by rw [hd, e])
  have hty : ∀ u, (i, p, u) ∈ V.al → u = t := fun u h => by
    obtain ⟨⟨o', ho', _, hop, _⟩, _⟩ := al_info hok h
    obtain ⟨⟨o2, ho2, _, hop2, _⟩, _⟩ := al_info hok hal
    rw [ho2] at ho'
    injection ho' with ho'
    subst ho'
    rw [hop2] at hop
    injection hop with hop
    exact hop.symm
  refine ⟨fun x hx => by rw [if_neg (hpG x hx)]; exact hI.hk x hx, by rw [put_size]; exact hI.size, by rw [put_defers]; exact hI.defers, hI.gr.trans hg, hI.ev.trans hev, fun d hdd => ?_, fun j q d hj hL hj2 hdd => ?_, clos_set hI hi hdone, fun q u hq => ?_, fun x hx h => ?_, fun j q u hj hL h => ?_, fun q u r u' hq hr hqr => ?_⟩
  · rw [put_other (fun hd' => hdd i o hi (set_self hLs) hd')]
    exact hI.keep d fun j q hj hL => hdd j q hj (set_keep hL)
  · rcases set_get hL with e | e
    · subst e
      have := isAl_iff.2 ⟨p, t, hal⟩
      rw [hj2] at this
      cases this
    · rw [put_other (not_again hwf hi hLi ⟨j, q, hj, hdd, e⟩)]
      exact hF d _ _ _ (hI.facts j q d hj e hj2 hdd) hev
  · rcases live_set hq with hq | hq
    · obtain ⟨h1, h2, cs, h3, h4, h5⟩ := hI.vars q u hq
      simp only [if_neg (hpn q u hq)]
      refine ⟨by rw [put_other (not_var hwf hok hi hLi hq)]; exact h1, h2, cs, hblk h3, h4, fun j y t' hj hL => ?_⟩
      have hL' := hst j q y t' hj hL
      rw [put_other (not_again hwf hi hLi (src_done hok hI hj hL'))]
      exact h5 j y t' hj hL'
    · have e := hone q u hq
      subst e
      have e2 := hty u hq
      subst e2
      simp only [if_true]
      refine ⟨by rw [hd, put_getD a q q _ hlt, if_pos rfl], hI.gr.size, _, hnew, hfit, fun j y t' hj hL => ?_⟩
      exfalso
      have hL' := hst j q y t' hj hL
      obtain ⟨⟨oj, hoj, _⟩, _, _, hor⟩ := st_info hok hj
      rcases hor with ⟨x, hx, e, _⟩ | ⟨hdep, m, hm⟩
      · exact hpG x hx e
      · obtain ⟨e, he, hb, r, hr, hrd⟩ := dep_writer hoj hdep
        have hLe := hI.clos j oj e hoj hL' he hb
        exact not_again hwf hi hLi ⟨e.on, r, hr, hrd, hLe⟩ hd
  · simp only [if_neg (hpG x hx)]
    obtain ⟨cs, h1, h2⟩ := hI.gval x hx fun j y t hj => hnot j (h j y t hj)
    exact ⟨cs, hblk h1, hGs x hx _ _ _ h2 hev⟩
  · rcases set_get hL with e | e
    · subst e
      have e := hone q u hj
      subst e
      have e2 := hty u hj
      subst e2
      simp only [if_true]
      exact hnew
    · simp only [if_neg (hpn q u (.inr ⟨j, hj, e⟩))]
      exact hblk (hI.aval j q u hj e fun m y t' hm => hnot m (h m y t' hm))
  · have hfresh : ∀ q u, live G V L q u → kf q < w.heap.size := fun q u h => by
      obtain ⟨_, _, cs, h3, _⟩ := hI.vars q u h
      exact (Array.getElem?_eq_some_iff.1 h3).1
    rcases live_set hq with hq | hq <;> rcases live_set hr with hr | hr
    · simp only [if_neg (hpn q u hq), if_neg (hpn r u' hr)]
      exact hI.apart q u r u' hq hr hqr
    · have e := hone r u' hr
      subst e
      simp only [if_neg (hpn q u hq), if_true]
      have := hfresh q u hq
      omega
    · have e := hone q u hq
      subst e
      simp only [if_neg (hpn r u' hr), if_true]
      have := hfresh r u' hr
      omega
    · exact absurd ((hone q u hq).trans (hone r u' hr).symm) hqr

/-- A store. -/
theorem inv_store (hok : okB s P ops (slots G) V = true) (hF : ∀ d, Stb s (F d)) (hGs : ∀ x ∈ G, Stb s x.val) {kf : Nat → Nat} {L : Array Bool} {a : Act} {w : World} (hI : Inv s P ops F n G V a0 w0 wE kf0 kf L a w) {i p y : Nat} {t : TypeId} (hst : (i, p, y, t) ∈ V.st) {o : Oper} (hi : ops[i]? = some o) (hd : o.dst = none) (hLs : i < L.size) (hLi : L.getD i false = false)
    (hdone : ∀ e, e ∈ o.after → Region.binds .any e = true → L.getD e.on false = true) (hna : isAl V i = false) (hlp : live G V L p t) {cs : Array Value} (hy : a.tmps.getD y undef = .agg cs) (hfit : Fits s P t cs) :
    Inv s P ops F n G V a0 w0 wE kf0 kf (L.setIfInBounds i true) (a.put o.dst undef) (w.setRow (kf p) cs) := by
  have hput : a.put o.dst undef = a := by rw [hd]; rfl
  rw [hput]
  obtain ⟨hp1, hp2, old, hp3, hp4, hp5⟩ := hI.vars p t hlp
  have hev : Evo s w (w.setRow (kf p) cs) := Evo.set hp3 hp4.soft hfit.soft
  have hlive : ∀ p t, live G V (L.setIfInBounds i true) p t → live G V L p t := fun p t h => (live_set h).elim id fun h' => by
    have := isAl_iff.2 ⟨p, t, h'⟩
    rw [hna] at this
    cases this
  have hnot : ∀ j, (L.setIfInBounds i true).getD j false = false → L.getD j false = false := fun j h => by
    cases h' : L.getD j false with
    | false => rfl
    | true => rw [set_keep h'] at h; cases h
  have hself : (w.setRow (kf p) cs).heap[kf p]? = some (.cells cs t (0, 0)) := setRow_heap w (kf p) old cs t _ hp3
  have hoth : ∀ {k : Nat}, k ≠ kf p → (w.setRow (kf p) cs).heap[k]? = w.heap[k]? := fun {k} h => setRow_other w (kf p) k cs h
  refine ⟨hI.hk, hI.size, hI.defers, grow_set hI.gr hp2 cs, hI.ev.trans hev, fun d hdd => hI.keep d fun j q hj hL => hdd j q hj (set_keep hL), fun j q d hj hL hj2 hdd => ?_, clos_set hI hi hdone, fun q u hq => ?_, fun x hx h => ?_, fun j q u hj hL h => ?_, fun q u r u' hq hr hqr => hI.apart q u r u' (hlive q u hq) (hlive r u' hr) hqr⟩
  · rcases set_get hL with e | e
    · subst e
      rw [hi] at hj
      injection hj with hj
      subst hj
      rw [hd] at hdd
      cases hdd
    · exact hF d _ _ _ (hI.facts j q d hj e hj2 hdd) hev
  · have hq' := hlive q u hq
    obtain ⟨h1, h2, cs', h3, h4, h5⟩ := hI.vars q u hq'
    by_cases hqp : q = p
    · subst hqp
      rw [hp3] at h3
      injection h3 with h3
      injection h3 with e1 e2
      subst e2
      refine ⟨h1, h2, cs, hself, hfit, fun j y' t' hj hL => ?_⟩
      obtain ⟨_, e2, _⟩ := st_one hok hst hj
      rw [← e2]
      exact hy
    · have hne : kf q ≠ kf p := hI.apart q u p t hq' hlp hqp
      refine ⟨h1, h2, cs', by rw [hoth hne]; exact h3, h4, fun j y' t' hj hL => ?_⟩
      rcases set_get hL with e | e
      · subst e
        obtain ⟨⟨o1, ho1, _, hop1, _⟩, _⟩ := st_info hok hst
        obtain ⟨⟨o2, ho2, _, hop2, _⟩, _⟩ := st_info hok hj
        rw [ho1] at ho2
        injection ho2 with ho2
        subst ho2
        rw [hop1] at hop2
        injection hop2 with _ hop2 _
        injection hop2 with hop2
        exact absurd hop2.symm hqp
      · exact h5 j y' t' hj e
  · by_cases hxp : x.slot = p
    · exfalso
      have := h i y t (by rw [hxp]; exact hst)
      rw [set_self hLs] at this
      cases this
    · obtain ⟨cs', h1, h2⟩ := hI.gval x hx fun j y t hj => hnot j (h j y t hj)
      exact ⟨cs', by rw [hoth (hI.apart x.slot x.ty p t (.inl ⟨x, hx, rfl, rfl⟩) hlp hxp)]; exact h1, hGs x hx _ _ _ h2 hev⟩
  · have hL' : L.getD j false = true := (set_get hL).elim (fun e => by
      subst e
      have := isAl_iff.2 ⟨q, u, hj⟩
      rw [hna] at this
      cases this) id
    by_cases hqp : q = p
    · exfalso
      have := h i y t (by rw [hqp]; exact hst)
      rw [set_self hLs] at this
      cases this
    · rw [hoth (hI.apart q u p t (.inr ⟨j, hj, hL'⟩) hlp hqp)]
      exact hI.aval j q u hj hL' fun m y t' hm => hnot m (h m y t' hm)

/-- A variable behind the region: stored into, or as it was, or new and 0. -/
def NewV (P : Program) (F : Facts) (G : List Vr) (V : VS) (x : Vr) : Prop :=
  (∃ y ∈ V.st, y.2.1 = x.slot ∧ y.2.2.2 = x.ty ∧ ∀ w v, F y.2.2.1 w v → x.val w v) ∨
  (V.st.all (fun y => !Nat.beq y.2.1 x.slot) = true ∧ ∃ y ∈ G, y.slot = x.slot ∧ y.ty = x.ty ∧ ∀ w v, y.val w v → x.val w v) ∨
  (V.st.all (fun y => !Nat.beq y.2.1 x.slot) = true ∧ ∃ y ∈ V.al, y.2.1 = x.slot ∧ y.2.2 = x.ty ∧ ∀ w, x.val w (.agg (zeroOf P x.ty)))
/-- A slot behind the region: written, or as it was. -/
def NewD (ops : Array Oper) (F : Facts) (D : List (Nat × Pr)) (V : VS) (x : Nat × Pr) : Prop :=
  ((dsts ops).contains x.1 = true ∧ V.al.all (fun z => !Nat.beq z.2.1 x.1) = true ∧ ∀ w v, F x.1 w v → x.2 w v) ∨
  ((dsts ops).contains x.1 = false ∧ ∃ y ∈ D, y.1 = x.1 ∧ ∀ w v, y.2 w v → x.2 w v)

/-- THE RULE: a region leads from state to state. -/
theorem region {id : Nat} {b : Bool} (hm : P.follows .mixedOrders = true) (hS : St s P n G D wE kf0 a0 w0) (F : Facts) (V : VS) (G' : List Vr) (D' : List (Nat × Pr)) (hwf : wfV n ops = true) (hok : okB s P ops (slots G) V = true)
    (hF : ∀ d, Stb s (F d)) (hGs : AllL (fun x : Vr => Stb s x.val) G) (hDs : AllL (fun x : Nat × Pr => Stb s x.2) D)
    (hal : AllL (fun x : Nat × Nat × TypeId => ∀ w v, F x.2.1 w v) V.al) (hst : AllL (fun x : Nat × Nat × Nat × TypeId => ∀ w v, F x.2.2.1 w v → ∃ cs, v = .agg cs ∧ Fits s P x.2.2.2 cs) V.st)
    (step : ∀ i, i < ops.size → isAl V i = false → isSt V i = false → Step s P ops Q F G D V kf0 i)
    (hG' : AllL (NewV P F G V) G') (hD' : AllL (NewD ops F D V) D')
    (fin : ∀ kf a w, St s P n G' D' wE kf a w → Q .normal a w) : (Code.region id ops b).wp P Q a0 w0 := by
  have hGm := hGs.mem
  have hDm := hDs.mem
  have noSt : ∀ {p : Nat}, V.st.all (fun y => !Nat.beq y.2.1 p) = true → ∀ j y t, (j, p, y, t) ∈ V.st → False := by
    intro p h j y t hj
    have := List.all_eq_true.1 h _ hj
    simp at this
  refine region_inv (n := n) (fun L a w => ∃ kf, Inv s P ops F n G V a0 w0 wE kf0 kf L a w) hm hwf ?_ ?_ ?_
  · -- the beginning
    intro w hw
    have hnone : ∀ j, (Array.replicate ops.size false).getD j false = true → False := by
      intro j h
      rw [Array.getD_eq_getD_getElem?, Array.getElem?_replicate] at h
      split at h <;> simp at h
    have hall : ∀ j, (Array.replicate ops.size false).getD j false = false := by
      intro j
      rw [Array.getD_eq_getD_getElem?, Array.getElem?_replicate]
      split <;> rfl
    have hheap : w.heap = w0.heap := by rcases hw with rfl | rfl <;> rfl
    have hg : Grow w0 w := by
      rcases hw with rfl | rfl
      · exact Grow.refl _
      · exact (Grow.refl _).drew
    have hev : Evo s w0 w := Evo.of_grow hg
    refine ⟨kf0, ⟨fun _ _ => rfl, hS.size, hS.defers, hS.grow.trans hg, hev, fun _ _ => rfl, fun i _ _ _ h => (hnone i h).elim, fun i _ _ _ h => (hnone i h).elim, fun p t h => ?_, fun x hx _ => ?_, fun i _ _ _ h => (hnone i h).elim, fun p t q t' hp hq hpq => ?_⟩⟩
    · rcases h with ⟨x, hx, rfl, rfl⟩ | ⟨i, _, h⟩
      · obtain ⟨h1, h2, cs, h3, h4, _⟩ := hS.vars x hx
        exact ⟨h1, h2, cs, by rw [hheap]; exact h3, h4, fun j _ _ _ h => (hnone j h).elim⟩
      · exact (hnone i h).elim
    · obtain ⟨_, _, cs, h3, _, h5⟩ := hS.vars x hx
      exact ⟨cs, by rw [hheap]; exact h3, hGm x hx _ _ _ h5 hev⟩
    · rcases hp with ⟨x, hx, rfl, rfl⟩ | ⟨i, _, h⟩
      · rcases hq with ⟨y, hy, rfl, rfl⟩ | ⟨i, _, h⟩
        · exact hS.apart x hx y hy hpq
        · exact (hnone i h).elim
      · exact (hnone i h).elim
  · -- a step
    rintro L i o a w hL hi hLi hdone ⟨kf, hI⟩
    have hLs : i < L.size := by
      rw [hL]
      exact (Array.getElem?_eq_some_iff.1 hi).1
    have hdepw : ∀ d, depI ops i d = true → ∃ j q, ops[j]? = some q ∧ q.dst = some d ∧ L.getD j false = true := by
      intro d hd
      obtain ⟨e, he, hb, q, hq, hqd⟩ := dep_writer hi hd
      exact ⟨e.on, q, hq, hqd, hdone e he hb⟩
    have hdepF : ∀ d, depI ops i d = true → F d w (a.tmps.getD d undef) := by
      intro d hd
      obtain ⟨j, q, hj, hq, hLj⟩ := hdepw d hd
      cases hja : isAl V j with
      | false => exact hI.facts j q d hj hLj hja hq
      | true =>
        obtain ⟨p, t, hpt⟩ := isAl_iff.1 hja
        obtain ⟨⟨o', ho', hd', _⟩, _⟩ := al_info hok hpt
        rw [hj] at ho'
        injection ho' with ho'
        subst ho'
        rw [hq] at hd'
        injection hd' with hd'
        subst hd'
        exact hal.mem _ hpt w _
    cases hia : isAl V i with
    | true =>
      obtain ⟨p, t, hpt⟩ := isAl_iff.1 hia
      obtain ⟨⟨o', ho', hd', hop, hgd⟩, hz, hpG⟩ := al_info hok hpt
      rw [hi] at ho'
      injection ho' with ho'
      subst ho'
      have hns : isSt V i = false := by
        cases h : isSt V i with
        | false => rfl
        | true =>
          obtain ⟨p', y', t', h'⟩ := isSt_iff.1 h
          obtain ⟨⟨o2, ho2, hd2, _⟩, _⟩ := st_info hok h'
          rw [hi] at ho2
          injection ho2 with ho2
          subst ho2
          rw [hd'] at hd2
          cases hd2
      refine run_wanted hi (by simp [Region.wanted, hgd]) ?_
      unfold Oper.wp
      rw [run_alloc hz hop]
      exact ⟨_, inv_alloc hwf hok hF hGm hI hpt hi hd' hLs hLi hdone hns hz (zero_fits hz).1 hpG⟩
    | false =>
      cases his : isSt V i with
      | true =>
        obtain ⟨p, y, t, hpt⟩ := isSt_iff.1 his
        obtain ⟨⟨o', ho', hd', hop, hgd⟩, hdy, hny, hor⟩ := st_info hok hpt
        rw [hi] at ho'
        injection ho' with ho'
        subst ho'
        have hlp : live G V L p t := by
          rcases hor with h | ⟨hdp, j, hj⟩
          · exact .inl h
          · obtain ⟨m, q, hm, hq, hLm⟩ := hdepw p hdp
            obtain ⟨⟨o2, ho2, hd2, _⟩, _⟩ := al_info hok hj
            have hwf' := hwf
            simp only [wfV, Bool.and_eq_true, decide_eq_true_eq] at hwf'
            have h1 : ops.toList[j]? = some o2 := by rw [Array.getElem?_toList]; exact ho2
            have h2 : ops.toList[m]? = some q := by rw [Array.getElem?_toList]; exact hm
            have := nodup_filterMap_idx (fun x : Oper => x.dst) ops.toList hwf'.1.2 j m o2 q p h1 h2 hd2 hq
            exact .inr ⟨j, hj, by rw [this]; exact hLm⟩
        obtain ⟨hp1, hp2, old, hp3, hp4, _⟩ := hI.vars p t hlp
        obtain ⟨cs, hcs, hfit⟩ := hst.mem _ hpt w _ (hdepF y hdy)
        have hsz : old.size = cs.size := by
          have h1 := hp4.size
          rw [hfit.size] at h1
          injection h1 with h1
          exact h1.symm
        refine run_wanted hi (by simp [Region.wanted, hgd]) ?_
        unfold Oper.wp
        rw [run_store (ρ := a.eval) hop hp1 hcs hp3 hsz hfit, Oper.upon_skip]
        exact ⟨_, inv_store hok hF hGm hI hpt hi hd' hLs hLi hdone hia hlp hcs hfit⟩
      | false =>
        have hctx : Ctx s P ops F G D V kf0 i a w := by
          refine ⟨hdepF, fun x hx => ?_, fun x hx hr => ?_, fun x hx hr => ?_⟩
          · have := (hI.vars x.slot x.ty (.inl ⟨x, hx, rfl, rfl⟩)).1
            rw [hI.hk x hx] at this
            exact this
          · have hns : ∀ j y t, (j, x.slot, y, t) ∈ V.st → L.getD j false = false := by
              intro j y t hj
              cases h : L.getD j false with
              | false => rfl
              | true =>
                exfalso
                have := List.all_eq_true.1 hr _ hj
                simp only [Bool.or_eq_true, Bool.not_eq_true'] at this
                rcases this with h1 | h1
                · simp at h1
                · unfold predI at h1
                  obtain ⟨⟨oj, hoj, _⟩, _⟩ := st_info hok hj
                  rw [hoj] at h1
                  simp only at h1
                  rw [Array.any_eq_true] at h1
                  obtain ⟨k, hk, h1⟩ := h1
                  simp only [Bool.and_eq_true] at h1
                  have h2 := hI.clos j oj _ hoj h (Array.getElem_mem hk) h1.1
                  rw [Nat.eq_of_beq_eq_true h1.2, hLi] at h2
                  cases h2
            obtain ⟨cs, h1, h2⟩ := hI.gval x hx hns
            obtain ⟨_, _, cs', h3, h4, _⟩ := hI.vars x.slot x.ty (.inl ⟨x, hx, rfl, rfl⟩)
            rw [h1] at h3
            injection h3 with h3
            injection h3 with h3
            subst h3
            rw [hI.hk x hx] at h1
            exact ⟨cs, h1, h4, h2⟩
          · have hk : a.tmps.getD x.1 undef = a0.tmps.getD x.1 undef := by
              refine hI.keep x.1 fun j q hj hLj hqd => ?_
              have hz : (q, j) ∈ ops.toList.zipIdx := by
                rw [List.mem_zipIdx_iff_getElem?, Array.getElem?_toList]
                exact hj
              have h1 := List.all_eq_true.1 hr _ hz
              simp only [Bool.or_eq_true, Bool.not_eq_true'] at h1
              rcases h1 with (h1 | h1) | h1
              · rw [hqd] at h1; simp at h1
              · rw [Array.any_eq_true] at h1
                obtain ⟨k, hk, h1⟩ := h1
                simp only [Bool.and_eq_true] at h1
                have h2 := hI.clos j q _ hj hLj (Array.getElem_mem hk) h1.1
                rw [Nat.eq_of_beq_eq_true h1.2, hLi] at h2
                cases h2
              · rw [Nat.eq_of_beq_eq_true h1, hLi] at hLj
                cases hLj
            rw [hk]
            exact hDm x hx _ _ _ (hS.facts x hx) hI.ev
        refine wpOp_mono ?_ (step i (by rw [← hL]; exact hLs) hia his o hi a w hctx)
        rintro a' w' ⟨v, rfl, hv, hg⟩
        exact ⟨kf, inv_plain hwf hok hF hGm hI hi hLs hLi hdone hia his hv hg⟩
  · -- the end
    rintro L a w hall ⟨kf, hI⟩
    have hdn : ∀ {i o}, ops[i]? = some o → L.getD i false = true := fun {i o} h => hall i (Array.getElem?_eq_some_iff.1 h).1
    have hF2 : ∀ d, (dsts ops).contains d = true → (∀ z ∈ V.al, z.2.1 ≠ d) → F d w (a.tmps.getD d undef) := by
      intro d hd hna
      have hd' : d ∈ dsts ops := by simpa using hd
      unfold dsts at hd'
      obtain ⟨o, ho, hod⟩ := List.mem_filterMap.1 hd'
      obtain ⟨i, hi, rfl⟩ := List.getElem_of_mem ho
      have hi2 : i < ops.size := by simpa using hi
      have hoi : ops[i]? = some ops.toList[i] := by rw [Array.getElem?_eq_getElem hi2]; simp
      refine hI.facts i _ d hoi (hdn hoi) ?_ hod
      cases hal' : isAl V i with
      | false => rfl
      | true =>
        exfalso
        obtain ⟨p, t, hpt⟩ := isAl_iff.1 hal'
        obtain ⟨⟨o', ho', hd', _⟩, _⟩ := al_info hok hpt
        rw [hoi] at ho'
        injection ho' with ho'
        rw [← ho', hod] at hd'
        injection hd' with hd'
        exact hna _ hpt hd'.symm
    have hFy : ∀ {j p y t}, (j, p, y, t) ∈ V.st → F y w (a.tmps.getD y undef) := by
      intro j p y t hj
      obtain ⟨⟨oj, hoj, _⟩, hdep, hny, _⟩ := st_info hok hj
      obtain ⟨e, he, hb, q, hq, hqd⟩ := dep_writer hoj hdep
      refine hF2 y ?_ hny
      have := mem_dsts hq hqd
      simpa using this
    have hlv : ∀ x : Vr, NewV P F G V x → live G V L x.slot x.ty := by
      intro x hx
      have hAl : ∀ y ∈ V.al, y.2.1 = x.slot → y.2.2 = x.ty → live G V L x.slot x.ty := by
        rintro ⟨i, p, t⟩ hy e1 e2
        simp only at e1 e2
        subst e1 e2
        obtain ⟨⟨o, ho, _⟩, _⟩ := al_info hok hy
        exact .inr ⟨i, hy, hdn ho⟩
      rcases hx with ⟨⟨j, p, y, t⟩, hy, e1, e2, _⟩ | ⟨_, y, hy, e1, e2, _⟩ | ⟨_, y, hy, e1, e2, _⟩
      · simp only at e1 e2
        subst e1 e2
        obtain ⟨_, _, _, hor⟩ := st_info hok hy
        rcases hor with h | ⟨_, m, hm⟩
        · exact .inl h
        · exact hAl _ hm rfl rfl
      · exact .inl ⟨y, hy, e1, e2⟩
      · exact hAl y hy e1 e2
    refine fin kf a w ⟨hI.size, hI.defers, hI.gr, fun x hx => ?_, fun x hx y hy hxy => hI.apart _ _ _ _ (hlv x (hG'.mem x hx)) (hlv y (hG'.mem y hy)) hxy, fun x hx => ?_⟩
    · have hnv := hG'.mem x hx
      obtain ⟨h1, h2, cs, h3, h4, h5⟩ := hI.vars x.slot x.ty (hlv x hnv)
      refine ⟨h1, h2, cs, h3, h4, ?_⟩
      rcases hnv with ⟨⟨j, p, y, t⟩, hy, e1, e2, e3⟩ | ⟨hns, y, hy, e1, e2, e3⟩ | ⟨hns, ⟨i, p, t⟩, hy, e1, e2, e3⟩
      · simp only at e1 e2 e3
        subst e1 e2
        have hyv := hFy hy
        obtain ⟨⟨oj, hoj, _⟩, _⟩ := st_info hok hy
        have := h5 j y x.ty hy (hdn hoj)
        rw [this] at hyv
        exact e3 w _ hyv
      · obtain ⟨cs', h6, h7⟩ := hI.gval y hy fun j z t hj => (noSt hns j z t (by rw [← e1]; exact hj)).elim
        rw [e1, h3] at h6
        injection h6 with h6
        injection h6 with h6
        subst h6
        exact e3 w _ h7
      · simp only at e1 e2
        subst e1 e2
        obtain ⟨⟨o, ho, _⟩, _⟩ := al_info hok hy
        have h6 := hI.aval i x.slot x.ty hy (hdn ho) fun j z t hj => (noSt hns j z t hj).elim
        rw [h3] at h6
        injection h6 with h6
        injection h6 with h6
        subst h6
        exact e3 w
    · rcases hD'.mem x hx with ⟨h1, h2, h3⟩ | ⟨h1, y, hy, e, h3⟩
      · refine h3 w _ (hF2 x.1 h1 fun z hz e => ?_)
        have := List.all_eq_true.1 h2 z hz
        rw [e] at this
        simp at this
      · refine h3 w _ ?_
        rw [← e]
        have hk : a.tmps.getD y.1 undef = a0.tmps.getD y.1 undef := by
          refine hI.keep y.1 fun j q hj _ hqd => ?_
          have h2 := mem_dsts hj hqd
          rw [← e, List.contains_eq_mem] at h1
          simp [h2] at h1
        rw [hk]
        exact hDm y hy _ _ _ (hS.facts y hy) hI.ev
end
end Go.Proofs.YtalcafbeepimgaaGreatDoor.Z

/- The calculus of whole functions: what operations owe; a function's entry, its end, its branches. No program is named here. -/
namespace Go.Proofs.YtalcafbeepimgaaGreatDoor.Z
open Go.RowKit Go.Proofs.YtalcafbeepimgaaGreatDoor.Rg
variable {P : Program} {s : Array Value → TypeId → Bool}

def softV : Value → Bool
  | .int .i64 _ => true
  | .int .u8 _ => true
  | .int _ _ => false
  | .string _ => false
  | _ => true
def isSv : Value → Bool
  | .slice _ _ _ => true
  | _ => false
/-- A variable's cells: no numbers but ints and bytes, no texts; two or more slices alone are none's, nor is a block of ints. -/
def soft (cs : Array Value) (t : TypeId) : Bool := cs.all softV && !(decide (2 ≤ cs.size) && cs.all isSv) && !Nat.beq t 3
theorem soft_all {cs : Array Value} {t : TypeId} (h : soft cs t = true) : cs.all softV = true := (Bool.and_eq_true_iff.1 (Bool.and_eq_true_iff.1 h).1).1
theorem soft_int {cs : Array Value} (h : soft cs 3 = true) : False := by
  have := (Bool.and_eq_true_iff.1 h).2
  rw [Nat.beq_refl] at this
  cases this

theorem look_stb : ∀ (fs : List (Nat × Pr)), AllL (fun x : Nat × Pr => Stb s x.2) fs → ∀ d, Stb s (Rg.look fs d) := by
  intro fs
  induction fs with
  | nil => intro _ d w w' v h _; exact h
  | cons x r ih =>
    intro hs d w w' v h g
    unfold Rg.look at h ⊢
    cases hb : Nat.beq x.1 d with
    | true => rw [hb] at h; exact hs.1 w w' v h g
    | false => rw [hb] at h; exact ih hs.2 d w w' v h g
theorem stb_prop (p : Prop) : Stb s (fun _ _ => p) := fun _ _ _ h _ => h

/-- A tuple of values of which each is known. -/
def IsT (ps : List Pr) : Pr := fun w v => ∃ vs : Array Value, v = .tuple vs ∧ vs.size = ps.length ∧ ∀ (j : Nat) (p : Pr), ps[j]? = some p → p w (vs.getD j undef)
theorem stb_T {ps : List Pr} (h : AllL (Stb s) ps) : Stb s (IsT ps) := by
  rintro w w' v ⟨vs, e, hz, hp⟩ g
  exact ⟨vs, e, hz, fun j p hj => h.mem p (List.mem_of_getElem? hj) _ _ _ (hp j p hj) g⟩
theorem IsT.mk2 {w : World} {a b : Value} {p q : Pr} (h1 : p w a) (h2 : q w b) : IsT [p, q] w (.tuple #[a, b]) := by
  refine ⟨#[a, b], rfl, rfl, fun j r hj => ?_⟩
  match j, hj with
  | 0, hj => cases hj; exact h1
  | 1, hj => cases hj; exact h2
  | j + 2, hj => cases hj
theorem IsT.mk3 {w : World} {a b c : Value} {p q r : Pr} (h1 : p w a) (h2 : q w b) (h3 : r w c) : IsT [p, q, r] w (.tuple #[a, b, c]) := by
  refine ⟨#[a, b, c], rfl, rfl, fun j u hj => ?_⟩
  match j, hj with
  | 0, hj => cases hj; exact h1
  | 1, hj => cases hj; exact h2
  | 2, hj => cases hj; exact h3
  | j + 3, hj => cases hj
theorem IsT.get2 {w : World} {v : Value} {p q : Pr} (h : IsT [p, q] w v) : ∃ a b, v = .tuple #[a, b] ∧ p w a ∧ q w b := by
  obtain ⟨⟨l⟩, rfl, hz, hp⟩ := h
  match l, hz with
  | [a, b], _ => exact ⟨a, b, rfl, hp 0 p rfl, hp 1 q rfl⟩
theorem IsT.get3 {w : World} {v : Value} {p q r : Pr} (h : IsT [p, q, r] w v) : ∃ a b c, v = .tuple #[a, b, c] ∧ p w a ∧ q w b ∧ r w c := by
  obtain ⟨⟨l⟩, rfl, hz, hp⟩ := h
  match l, hz with
  | [a, b, c], _ => exact ⟨a, b, c, rfl, hp 0 p rfl, hp 1 q rfl, hp 2 r rfl⟩

section
variable {ops : Array Oper} {Q : Exit → Act → World → Prop} {n : Nat} {F : Facts} {G : List Vr} {D : List (Nat × Pr)} {V : VS} {a0 : Act} {w0 wE : World} {kf0 : Nat → Nat} {i : Nat}

/-- What operation o, of destination and kind as they are told, owes. -/
def Owes (s : Array Value → TypeId → Bool) (P : Program) (ops : Array Oper) (Q : Exit → Act → World → Prop) (F : Facts) (G : List Vr) (D : List (Nat × Pr)) (V : VS) (kf0 : Nat → Nat) (i : Nat) (dst : Option Nat) (op : Op) : Prop :=
  ∀ (o : Oper) (a : Act) (w : World), o.op = op → o.dst = dst → Ctx s P ops F G D V kf0 i a w → o.wp P a w (fun a' w' => ∃ v, a' = a.put o.dst v ∧ (∀ d, o.dst = some d → F d w' v) ∧ Grow w w') Q
/-- A step that is asked for only where the operation is no store and makes no variable. -/
def StepAt (s : Array Value → TypeId → Bool) (P : Program) (ops : Array Oper) (Q : Exit → Act → World → Prop) (F : Facts) (G : List Vr) (D : List (Nat × Pr)) (V : VS) (kf0 : Nat → Nat) (i : Nat) : Prop := isAl V i = false → isSt V i = false → Step s P ops Q F G D V kf0 i
theorem steps {m : Nat} (hm : ops.size = m) (h : AllFrom (StepAt s P ops Q F G D V kf0) 0 m) : ∀ i, i < ops.size → isAl V i = false → isSt V i = false → Step s P ops Q F G D V kf0 i :=
  fun i hi => all_from m 0 h i (Nat.zero_le _) (by omega)
theorem isAlloc (h : isAl V i = true) : StepAt s P ops Q F G D V kf0 i := fun h' => by rw [h] at h'; cases h'
theorem isStore (h : isSt V i = true) : StepAt s P ops Q F G D V kf0 i := fun _ h' => by rw [h] at h'; cases h'

theorem ofRg {dst : Option Nat} {op : Op} (h : ∀ a0 w0, Rg.Owes P ops Q F a0 w0 i dst op) : Owes s P ops Q F G D V kf0 i dst op :=
  fun o a w ho hd c => h a w o a w ho hd (Grow.refl w) ⟨rfl, rfl, fun _ _ => rfl⟩ c.dep
theorem stepN {dst : Option Nat} {op : Op} (h : info ops i = some (dst, op, none)) (hs : Owes s P ops Q F G D V kf0 i dst op) : StepAt s P ops Q F G D V kf0 i := by
  intro _ _ o ho a w c
  obtain ⟨h1, h2, h3⟩ := Rg.info_parts h ho
  exact run_wanted ho (by simp [Region.wanted, h3]) (hs o a w h2 h1 c)
theorem stepG {j dj : Nat} {b : Bool} {dst : Option Nat} {op : Op} (h : info ops i = some (dst, op, some (j, b))) (hj : (ops[j]?).bind (·.dst) = some dj) (hdep : depI ops i dj = true) (hb : ∀ w v, F dj w v → v = .bool b)
    (hs : Owes s P ops Q F G D V kf0 i dst op) : StepAt s P ops Q F G D V kf0 i := by
  intro _ _ o ho a w c
  obtain ⟨h1, h2, h3⟩ := Rg.info_parts h ho
  exact run_wanted ho (by simp [Region.wanted, h3, yields hj (hb w _ (c.dep dj hdep))]) (hs o a w h2 h1 c)
theorem stepS {j dj : Nat} {b c : Bool} {dst : Option Nat} {op : Op} (h : info ops i = some (dst, op, some (j, b))) (hj : (ops[j]?).bind (·.dst) = some dj) (hdep : depI ops i dj = true) (hb : ∀ w v, F dj w v → v = .bool c) (hbc : (c == b) = false)
    (hu : ∀ d, dst = some d → ∀ w, F d w undef) : StepAt s P ops Q F G D V kf0 i := by
  intro _ _ o ho a w cx
  obtain ⟨h1, h2, h3⟩ := Rg.info_parts h ho
  have hv := hb w _ (cx.dep dj hdep)
  have hw : Region.wanted o (yielded ops a.tmps) = false := by
    simp only [Region.wanted, h3, yields hj hv]
    simpa using hbc
  unfold wpOp
  rw [ho]
  simp only [hw]
  exact ⟨undef, rfl, fun d hd' => hu d (h1 ▸ hd') w, Grow.refl w⟩
theorem stepU {j dj : Nat} {b : Bool} {dst : Option Nat} {op : Op} (h : info ops i = some (dst, op, some (j, b))) (hj : (ops[j]?).bind (·.dst) = some dj) (hdep : depI ops i dj = true) (hb : ∀ w v, F dj w v → v = undef)
    (hu : ∀ d, dst = some d → ∀ w, F d w undef) : StepAt s P ops Q F G D V kf0 i := by
  intro _ _ o ho a w cx
  obtain ⟨h1, h2, h3⟩ := Rg.info_parts h ho
  have hv := hb w _ (cx.dep dj hdep)
  have hw : Region.wanted o (yielded ops a.tmps) = false := by
    have hy : yielded ops a.tmps j = none := by
      unfold yielded
      rw [hj]
      simp only [Option.bind_some]
      rw [Array.getD_eq_getD_getElem?] at hv
      cases hx : a.tmps[dj]? with
      | none => rfl
      | some x => rw [hx, Option.getD_some] at hv; rw [hv]; rfl
    simp [Region.wanted, h3, hy]
  unfold wpOp
  rw [ho]
  simp only [hw]
  exact ⟨undef, rfl, fun d hd' => hu d (h1 ▸ hd') w, Grow.refl w⟩

/-- What is known of an operand. -/
def Arg (s : Array Value → TypeId → Bool) (P : Program) (ops : Array Oper) (F : Facts) (G : List Vr) (D : List (Nat × Pr)) (V : VS) (kf0 : Nat → Nat) (i : Nat) (x : Operand) (p : Pr) : Prop := ∀ a w, Ctx s P ops F G D V kf0 i a w → p w (a.eval x)
theorem argT {x : Nat} {p : Pr} (dx : depI ops i x = true) (hp : ∀ w v, F x w v → p w v) : Arg s P ops F G D V kf0 i (.tmp x) p := fun _ _ c => hp _ _ (c.dep x dx)
theorem argC (v : Value) : Arg s P ops F G D V kf0 i (.const v) (fun _ u => u = v) := fun _ _ _ => rfl
theorem argO {x : Nat} {p : Pr} (hx : (x, p) ∈ D) (hr : readS ops i x = true) : Arg s P ops F G D V kf0 i (.tmp x) p := fun _ _ c => c.old _ hx hr

theorem val {dst : Option Nat} {op : Op} {d : Nat} (h : ∀ o a w, o.op = op → Ctx s P ops F G D V kf0 i a w → ∃ v, (execOp a.eval o).run P w = .ok (.value v) w ∧ F d w v) (e : dst = some d) : Owes s P ops Q F G D V kf0 i dst op := by
  intro o a w ho hd c
  obtain ⟨v, hr, hv⟩ := h o a w ho c
  exact Rg.valOf hr (hd.trans e) hv (Grow.refl w)
theorem move {d : Nat} {x : Operand} {p : Pr} (hx : Arg s P ops F G D V kf0 i x p) (hF : ∀ w v, p w v → F d w v) : Owes s P ops Q F G D V kf0 i (some d) (.move x) :=
  val (fun o a w ho c => ⟨a.eval x, by simp [execOp, ho], hF _ _ (hx a w c)⟩) rfl
theorem assign {d : Nat} {x : Operand} {p : Pr} (hx : Arg s P ops F G D V kf0 i x p) (hF : ∀ w v, p w v → F d w v) : Owes s P ops Q F G D V kf0 i (some d) (.assign x) :=
  val (fun o a w ho c => ⟨a.eval x, by simp [execOp, ho], hF _ _ (hx a w c)⟩) rfl
theorem pickT {d : Nat} {c x y : Operand} {p : Pr} (hc : Arg s P ops F G D V kf0 i c (fun _ v => v = .bool true)) (hx : Arg s P ops F G D V kf0 i x p) (hF : ∀ w v, p w v → F d w v) : Owes s P ops Q F G D V kf0 i (some d) (.pick c x y) :=
  val (fun o a w ho cx => ⟨a.eval x, by have := hc a w cx; simp [execOp, ho, this, asBool], hF _ _ (hx a w cx)⟩) rfl
theorem pickF {d : Nat} {c x y : Operand} {p : Pr} (hc : Arg s P ops F G D V kf0 i c (fun _ v => v = .bool false)) (hy : Arg s P ops F G D V kf0 i y p) (hF : ∀ w v, p w v → F d w v) : Owes s P ops Q F G D V kf0 i (some d) (.pick c x y) :=
  val (fun o a w ho cx => ⟨a.eval y, by have := hc a w cx; simp [execOp, ho, this, asBool], hF _ _ (hy a w cx)⟩) rfl
theorem extract {d x j : Nat} {ps : List Pr} {p : Pr} (dx : depI ops i x = true) (hx : ∀ w v, F x w v → IsT ps w v) (hj : ps[j]? = some p) (hF : ∀ w v, p w v → F d w v) : Owes s P ops Q F G D V kf0 i (some d) (.extract (.tmp x) j) :=
  val (fun o a w ho c => by
    obtain ⟨vs, e, hz, hp⟩ := hx _ _ (c.dep x dx)
    have hlt : j < vs.size := by rw [hz]; exact (List.getElem?_eq_some_iff.1 hj).1
    refine ⟨vs.getD j undef, ?_, hF _ _ (hp j p hj)⟩
    have e' : a.eval (.tmp x) = .tuple vs := e
    simp only [Act.eval, Array.getD_eq_getD_getElem?] at e'
    simp [execOp, ho, Act.eval, e', Instr.extract, hlt]) rfl
theorem loadV {d p : Nat} {t : TypeId} {q : Pr} (hx : (⟨p, t, q⟩ : Vr) ∈ G) (hr : readB ops V i p = true) (hF : ∀ w v, q w v → F d w v) : Owes s P ops Q F G D V kf0 i (some d) (.load t (.tmp p)) :=
  val (fun o a w ho c => by
    obtain ⟨cs, h1, h2, h3⟩ := c.rd _ hx hr
    exact ⟨.agg cs, run_load ho (c.ptr _ hx) h1 h2, hF _ _ h3⟩) rfl
/-- Where field f of a struct lies, and how many cells it has. -/
def fieldB (P : Program) (t : TypeId) (f off sz : Nat) : Bool := match P.underlying t with
  | some (.struct fs) => match fs[f]? with
    | some fd => Nat.beq fd.offset off && (match P.info? fd.type with
      | some j => Nat.beq j.size sz && !Nat.beq sz 0
      | none => false)
    | none => false
  | _ => false
theorem fieldV {d p f off sz : Nat} {t : TypeId} {q : Pr} (hx : (⟨p, t, q⟩ : Vr) ∈ G) (hf : fieldB P t f off sz = true) (hF : ∀ w v, v = .pointer (some ⟨kf0 p, off, none⟩) → F d w v) : Owes s P ops Q F G D V kf0 i (some d) (.fieldAddr t (.tmp p) f) :=
  val (fun o a w ho c => by
    refine ⟨.pointer (some ⟨kf0 p, off, none⟩), ?_, hF _ _ rfl⟩
    unfold fieldB at hf
    split at hf
    · next fs hu =>
      split at hf
      · next fd hfd =>
        simp only [Bool.and_eq_true] at hf
        obtain ⟨h1, h2⟩ := hf
        split at h2
        · next j hj =>
          simp only [Bool.and_eq_true, Bool.not_eq_true'] at h2
          have e1 : fd.offset = off := Nat.eq_of_beq_eq_true h1
          have e2 := Nat.eq_of_beq_eq_true h2.1
          have e3 : sz ≠ 0 := fun e => by rw [e] at h2; cases h2.2
          have hp : a.eval (.tmp p) = .pointer (some ⟨kf0 p, 0, none⟩) := c.ptr _ hx
          subst e1
          unfold execOp
          simp only [Act.eval, Array.getD_eq_getD_getElem?] at hp
          simp [go_sem, ho, hp, Act.eval, Instr.fieldAt, Instr.sureAddr, underlying, fieldPlace, sizeOf, typeInfo, hu, hfd, hj, e2, e3]
        · cases h2
      · cases hf
    · cases hf) rfl
theorem fieldA {d q f o0 off sz : Nat} {t : TypeId} {x : Operand} (hx : Arg s P ops F G D V kf0 i x (fun _ v => v = .pointer (some ⟨kf0 q, o0, none⟩))) (hf : fieldB P t f off sz = true) (hF : ∀ w v, v = .pointer (some ⟨kf0 q, o0 + off, none⟩) → F d w v) : Owes s P ops Q F G D V kf0 i (some d) (.fieldAddr t x f) :=
  val (fun o a w ho c => by
    refine ⟨.pointer (some ⟨kf0 q, o0 + off, none⟩), ?_, hF _ _ rfl⟩
    unfold fieldB at hf
    split at hf
    · next fs hu =>
      split at hf
      · next fd hfd =>
        simp only [Bool.and_eq_true] at hf
        obtain ⟨h1, h2⟩ := hf
        split at h2
        · next j hj =>
          simp only [Bool.and_eq_true, Bool.not_eq_true'] at h2
          have e1 : fd.offset = off := Nat.eq_of_beq_eq_true h1
          have e2 := Nat.eq_of_beq_eq_true h2.1
          have e3 : sz ≠ 0 := fun e => by rw [e] at h2; cases h2.2
          have hp : a.eval x = .pointer (some ⟨kf0 q, o0, none⟩) := hx a w c
          subst e1
          unfold execOp
          simp only [ho, hp]
          simp [go_sem, Instr.fieldAt, Instr.sureAddr, underlying, fieldPlace, sizeOf, typeInfo, hu, hfd, hj, e2, e3]
        · cases h2
      · cases hf
    · cases hf) rfl
def aggD : TypeDesc → Bool
  | .struct _ => true
  | .array _ _ => true
  | _ => false
theorem run_loadCell {w : World} {t : TypeId} {b o : Nat} {v : Value} (h : w.cell? ⟨b, o, none⟩ = some v) {d : TypeDesc} (hu : P.underlying t = some d) (hd : aggD d = false) : (loadVar t ⟨b, o, none⟩).run P w = .ok v w := by
  unfold loadVar isAgg
  rw [Sem.run_bind, Sem.run_bind, run_underlying hu w]
  cases d <;> simp_all [go_sem, aggD]
def plainB (P : Program) (t : TypeId) : Bool := match P.underlying t with
  | some (.struct _) => false
  | some (.array _ _) => false
  | some _ => true
  | none => false
/-- A field that is a struct. -/
theorem loadF {d x p off sz : Nat} {t t' : TypeId} {q r : Pr} (dx : depI ops i x = true) (hx : ∀ w v, F x w v → v = .pointer (some ⟨kf0 p, off, none⟩)) (hv : (⟨p, t, q⟩ : Vr) ∈ G) (hr : readB ops V i p = true) (ha : aggB P t' = true) (hsz : (P.info? t').map (·.size) = some sz)
    (hle : ((P.info? t).map (·.size)).any (fun m => decide (off + sz ≤ m)) = true) (hq : ∀ w cs, q w (.agg cs) → r w (.agg (cs.extract off (off + sz)))) (hF : ∀ w v, r w v → F d w v) : Owes s P ops Q F G D V kf0 i (some d) (.load t' (.tmp x)) :=
  val (fun o a w ho c => by
    obtain ⟨cs, h1, h2, h3⟩ := c.rd _ hv hr
    have hp : a.eval (.tmp x) = .pointer (some ⟨kf0 p, off, none⟩) := hx _ _ (c.dep x dx)
    have hm : off + sz ≤ cs.size := by
      rw [h2.size] at hle
      simpa using hle
    refine ⟨.agg (cs.extract off (off + sz)), ?_, hF _ _ (hq _ _ h3)⟩
    obtain ⟨ds, hu, hd⟩ := agg_desc ha
    have hrun := run_loadVar_mid (P := P) w (kf0 p) off t' (cs.extract off (off + sz)).toList ds (fun j v hj => by
      simp only [World.cell?, h1, Option.isSome_none, Bool.false_eq_true, if_false]
      rw [Array.getElem?_toList, Array.getElem?_extract] at hj
      split at hj
      · exact hj
      · cases hj) hu (by cases ds <;> first | rfl | exact hd) (by
      rw [hsz, Array.length_toList, Array.size_extract]
      congr 1
      omega)
    unfold execOp
    simp only [ho, hp, Instr.loadAt, Instr.sureAddr, Sem.run_bind, Sem.run_pure, Result.andThen_ok, hrun, Array.toArray_toList]) rfl
/-- A field that is none. -/
theorem loadP {d x p off : Nat} {t t' : TypeId} {q r : Pr} (dx : depI ops i x = true) (hx : ∀ w v, F x w v → v = .pointer (some ⟨kf0 p, off, none⟩)) (hv : (⟨p, t, q⟩ : Vr) ∈ G) (hr : readB ops V i p = true) (ha : plainB P t' = true)
    (hle : ((P.info? t).map (·.size)).any (fun m => decide (off < m)) = true) (hq : ∀ w cs, q w (.agg cs) → r w (cs.getD off undef)) (hF : ∀ w v, r w v → F d w v) : Owes s P ops Q F G D V kf0 i (some d) (.load t' (.tmp x)) :=
  val (fun o a w ho c => by
    obtain ⟨cs, h1, h2, h3⟩ := c.rd _ hv hr
    have hp : a.eval (.tmp x) = .pointer (some ⟨kf0 p, off, none⟩) := hx _ _ (c.dep x dx)
    have hm : off < cs.size := by
      rw [h2.size] at hle
      simpa using hle
    refine ⟨cs.getD off undef, ?_, hF _ _ (hq _ _ h3)⟩
    have hc : w.cell? ⟨kf0 p, off, none⟩ = some (cs.getD off undef) := by
      simp [World.cell?, h1, hm]
    have : ∃ ds, P.underlying t' = some ds ∧ aggD ds = false := by
      unfold plainB at ha
      split at ha
      · cases ha
      · cases ha
      · next ds h1 h2 e => exact ⟨ds, e, by cases ds <;> first | rfl | exact (h1 _ rfl).elim | exact (h2 _ _ rfl).elim⟩
      · cases ha
    obtain ⟨ds, hu, hd⟩ := this
    unfold execOp
    simp only [ho, hp, Instr.loadAt, Instr.sureAddr, Sem.run_bind, Sem.run_pure, Result.andThen_ok, run_loadCell hc hu hd]) rfl

/-! ### Calls -/
theorem callN {d f : Nat} {xs : Array Operand} {ts : Array TypeId} {R : Value → World → Prop} (en : Enters P f) (hc : ∀ a w, Ctx s P ops F G D V kf0 i a w → Calls P f (xs.map a.eval) w (Ret w R)) (hF : ∀ w v, R v w → F d w v) :
    Owes s P ops Q F G D V kf0 i (some d) (.call { callee := .value (.func f), args := xs, argTypes := ts }) :=
  fun _ a w ho hd c => callOf ho en hd (hc a w c) fun _ _ ⟨v, e, h, g⟩ => ⟨v, e, hF _ _ h, g⟩
theorem call0 {d f : Nat} {ts : Array TypeId} {R : Value → World → Prop} (en : Enters P f) (hc : ∀ w, Calls P f #[] w (Ret w R)) (hF : ∀ w v, R v w → F d w v) :
    Owes s P ops Q F G D V kf0 i (some d) (.call { callee := .value (.func f), args := #[], argTypes := ts }) := callN en (fun _ w _ => by simp only [List.map_toArray, List.map_nil]; exact hc w) hF
theorem call1 {d f : Nat} {x : Operand} {ts : Array TypeId} {p : Pr} {R : Value → World → Prop} (en : Enters P f) (hx : Arg s P ops F G D V kf0 i x p) (hc : ∀ w u, p w u → Calls P f #[u] w (Ret w R)) (hF : ∀ w v, R v w → F d w v) :
    Owes s P ops Q F G D V kf0 i (some d) (.call { callee := .value (.func f), args := #[x], argTypes := ts }) := callN en (fun a w c => by simp only [List.map_toArray, List.map_cons, List.map_nil]; exact hc w _ (hx a w c)) hF
theorem call2 {d f : Nat} {x y : Operand} {ts : Array TypeId} {p q : Pr} {R : Value → World → Prop} (en : Enters P f) (hx : Arg s P ops F G D V kf0 i x p) (hy : Arg s P ops F G D V kf0 i y q) (hc : ∀ w u v, p w u → q w v → Calls P f #[u, v] w (Ret w R)) (hF : ∀ w v, R v w → F d w v) :
    Owes s P ops Q F G D V kf0 i (some d) (.call { callee := .value (.func f), args := #[x, y], argTypes := ts }) := callN en (fun a w c => by simp only [List.map_toArray, List.map_cons, List.map_nil]; exact hc w _ _ (hx a w c) (hy a w c)) hF
theorem call3 {d f : Nat} {x y z : Operand} {ts : Array TypeId} {p q r : Pr} {R : Value → World → Prop} (en : Enters P f) (hx : Arg s P ops F G D V kf0 i x p) (hy : Arg s P ops F G D V kf0 i y q) (hz : Arg s P ops F G D V kf0 i z r) (hc : ∀ w u v t, p w u → q w v → r w t → Calls P f #[u, v, t] w (Ret w R)) (hF : ∀ w v, R v w → F d w v) :
    Owes s P ops Q F G D V kf0 i (some d) (.call { callee := .value (.func f), args := #[x, y, z], argTypes := ts }) := callN en (fun a w c => by simp only [List.map_toArray, List.map_cons, List.map_nil]; exact hc w _ _ _ (hx a w c) (hy a w c) (hz a w c)) hF
end

end Go.Proofs.YtalcafbeepimgaaGreatDoor.Z

/- The calculus of whole functions: a function's entry, its end, its branches. No program is named here. -/
namespace Go.Proofs.YtalcafbeepimgaaGreatDoor.Z
open Go.RowKit Go.Proofs.YtalcafbeepimgaaGreatDoor.Rg
variable {P : Program} {s : Array Value → TypeId → Bool}
section
variable {n : Nat} {G : List Vr} {D : List (Nat × Pr)} {wE w : World} {kf : Nat → Nat} {a : Act} {ops : Array Oper} {Q : Exit → Act → World → Prop}
theorem enter {f : FuncId} {fn : Func} {c : Code} {args : Array Value} {R : Ending → World → Prop} (hf : P.funcs[f]? = some fn) (hb : fn.body = some c) (hn : fn.ntmps = n) (hle : args.size ≤ n) (D : List (Nat × Pr)) (hD : AllL (fun x : Nat × Pr => (x.1 < args.size ∨ n ≤ x.1) ∧ x.2 w (args.getD x.1 undef)) D)
    (h : ∀ kf a, St s P n [] D w kf a w → c.wp P (bodyPost P fn R) a w) : Calls P f args w R := by
  refine calls_of_wp hf hb (h (fun _ => 0) _ ⟨?_, rfl, Grow.refl w, (fun x hx => by cases hx), (fun x hx => by cases hx), fun x hx => ?_⟩)
  · simp; omega
  obtain ⟨h1, h2⟩ := hD.mem x hx
  have e : (args ++ Array.replicate (fn.ntmps - args.size) undef).getD x.1 undef = args.getD x.1 undef := by
    rcases h1 with h1 | h1
    · simp [Array.getD_eq_getD_getElem?, Array.getElem?_append, h1]
    · rw [Array.getD_eq_getD_getElem?, Array.getD_eq_getD_getElem?, Array.getElem?_eq_none (by simp; omega), Array.getElem?_eq_none (by omega)]
  rw [e]
  exact h2
theorem mem_put {a : Act} {p : Nat} {v : Value} (h : p < a.tmps.size) : (a.put (some p) v).tmps.getD p undef = v := by rw [put_getD a p p v h, if_pos rfl]
theorem slot_ne {p : Nat} (hG : G.all (fun x => !Nat.beq x.slot p) = true) : ∀ x ∈ G, x.slot ≠ p := fun x hx e => by
  have := List.all_eq_true.1 hG x hx
  rw [e] at this
  simp at this
theorem fact_ne {p : Nat} (hD : D.all (fun x => !Nat.beq x.1 p) = true) : ∀ x ∈ D, x.1 ≠ p := fun x hx e => by
  have := List.all_eq_true.1 hD x hx
  rw [e] at this
  simp at this
theorem St.mk_var {p : Nat} {t : TypeId} {q : Pr} {cs : Array Value} (hS : St s P n G D wE kf a w) (hp : p < n) (hG : G.all (fun x => !Nat.beq x.slot p) = true) (hD : D.all (fun x => !Nat.beq x.1 p) = true)
    (hfit : Fits s P t cs) (hq : q (w.alloc (.cells cs t)) (.agg cs)) (hGs : AllL (fun x : Vr => Stb s x.val) G) (hDs : AllL (fun x : Nat × Pr => Stb s x.2) D) :
    St s P n (⟨p, t, q⟩ :: G) D wE (fun r => if r = p then w.heap.size else kf r) (a.put (some p) (.pointer (some ⟨w.heap.size, 0, none⟩))) (w.alloc (.cells cs t)) := by
  have hg : Grow w (w.alloc (.cells cs t)) := (Grow.refl w).alloc _
  have hev : Evo s w (w.alloc (.cells cs t)) := Evo.of_grow hg
  have hGne := slot_ne hG
  have hDne := fact_ne hD
  have hlt : ∀ x ∈ G, kf x.slot < w.heap.size := fun x hx => by
    obtain ⟨_, _, _, h3, _⟩ := hS.vars x hx
    exact (Array.getElem?_eq_some_iff.1 h3).1
  refine ⟨by rw [put_size]; exact hS.size, by rw [put_defers]; exact hS.defers, hS.grow.trans hg, fun x hx => ?_, fun x hx z hz hxz => ?_, fun x hx => ?_⟩
  · rcases List.mem_cons.1 hx with rfl | hx
    · simp only [if_true]
      exact ⟨mem_put (by rw [hS.size]; exact hp), hS.grow.size, cs, by unfold World.alloc; exact Array.getElem?_push_size, hfit, hq⟩
    · obtain ⟨h1, h2, c', h3, h4, h5⟩ := hS.vars x hx
      simp only [if_neg (hGne x hx)]
      exact ⟨by rw [put_other (fun e => hGne x hx (by injection e with e; exact e.symm))]; exact h1, h2, c', (Below.block hg _ (hlt x hx)).trans h3, h4, hGs.mem x hx _ _ _ h5 hev⟩
  · rcases List.mem_cons.1 hx with rfl | hx <;> rcases List.mem_cons.1 hz with rfl | hz
    · exact absurd rfl hxz
    · simp only [if_true, if_neg (hGne z hz)]
      have := hlt z hz
      omega
    · simp only [if_true, if_neg (hGne x hx)]
      have := hlt x hx
      omega
    · simp only [if_neg (hGne x hx), if_neg (hGne z hz)]
      exact hS.apart x hx z hz hxz
  · rw [put_other (fun e => hDne x hx (by injection e with e; exact e.symm))]
    exact hDs.mem x hx _ _ _ (hS.facts x hx) hev

/-- A region of a fixed order, one operation after the other. -/
theorem plain_seq {id m : Nat} {y : Code} (hm : ops.size = m) (h : wpOps P ops (Exit.then (y.wp P Q) Q) (List.range' 0 m) a w) : (Code.seq (.region id ops false) y).wp P Q a w := by
  refine wp_seq (wp_region ?_)
  rw [List.range_eq_range', hm]
  exact h
theorem plain_end {y : Code} {m : Nat} (h : y.wp P Q a w) : wpOps P ops (Exit.then (y.wp P Q) Q) (List.range' m 0) a w := h
/-- A variable that is made out of what a slot holds. -/
theorem box0 {m k p y : Nat} {t : TypeId} {q : Pr} (hS : St s P n G D wE kf a w) (hi : info ops m = some (some p, .box t (.tmp y), none)) (hp : decide (p < n) = true) (hG : G.all (fun x => !Nat.beq x.slot p) = true) (hD : D.all (fun x => !Nat.beq x.1 p) = true)
    (hy : (y, q) ∈ D) (hsh : ∀ w v, q w v → ∃ cs, v = .agg cs ∧ Fits s P t cs) (hGs : AllL (fun x : Vr => Stb s x.val) G) (hDs : AllL (fun x : Nat × Pr => Stb s x.2) D)
    (h : ∀ kf a w, St s P n (⟨p, t, q⟩ :: G) D wE kf a w → wpOps P ops Q (List.range' (m + 1) k) a w) : wpOps P ops Q (List.range' m (k + 1)) a w := by
  obtain ⟨o, ho, hd, hop, hg⟩ := info_some hi
  rw [List.range'_succ, wpOps_cons]
  refine run_wanted ho (by simp [Region.wanted, hg]) ?_
  obtain ⟨cs, hcs, hfit⟩ := hsh _ _ (hS.facts _ hy)
  unfold Oper.wp
  rw [run_box (ρ := a.eval) hop hcs]
  have hq := hDs.mem _ hy _ (w.alloc (.cells cs t)) _ (hS.facts _ hy) (Evo.of_grow ((Grow.refl w).alloc _))
  have hcs' : a.tmps.getD y undef = .agg cs := hcs
  rw [hcs'] at hq
  simp only at hd
  show wpOps P ops Q (List.range' (m + 1) k) (a.put o.dst _) _
  rw [hd]
  exact h _ _ _ (hS.mk_var (of_decide_eq_true hp) hG hD hfit hq hGs hDs)
/-- A new variable. -/
theorem alloc0 {m k p : Nat} {t : TypeId} (hS : St s P n G D wE kf a w) (hi : info ops m = some (some p, .alloc t, none)) (hp : decide (p < n) = true) (hG : G.all (fun x => !Nat.beq x.slot p) = true) (hD : D.all (fun x => !Nat.beq x.1 p) = true)
    (hz : zeroB s P t = true) (hGs : AllL (fun x : Vr => Stb s x.val) G) (hDs : AllL (fun x : Nat × Pr => Stb s x.2) D)
    (h : ∀ kf a w, St s P n (⟨p, t, fun _ _ => True⟩ :: G) D wE kf a w → wpOps P ops Q (List.range' (m + 1) k) a w) : wpOps P ops Q (List.range' m (k + 1)) a w := by
  obtain ⟨o, ho, hd, hop, hg⟩ := info_some hi
  rw [List.range'_succ, wpOps_cons]
  refine run_wanted ho (by simp [Region.wanted, hg]) ?_
  unfold Oper.wp
  rw [run_alloc (ρ := a.eval) hz hop]
  simp only at hd
  show wpOps P ops Q (List.range' (m + 1) k) (a.put o.dst _) _
  rw [hd]
  exact h _ _ _ (hS.mk_var (of_decide_eq_true hp) hG hD (zero_fits hz).1 trivial hGs hDs)
/-- A slot that gets a constant. -/
theorem const0 {m k p : Nat} {c : Value} (hS : St s P n G D wE kf a w) (hi : info ops m = some (some p, .assign (.const c), none)) (hp : decide (p < n) = true) (hG : G.all (fun x => !Nat.beq x.slot p) = true) (hD : D.all (fun x => !Nat.beq x.1 p) = true)
    (h : ∀ kf a w, St s P n G ((p, fun _ v => v = c) :: D) wE kf a w → wpOps P ops Q (List.range' (m + 1) k) a w) : wpOps P ops Q (List.range' m (k + 1)) a w := by
  obtain ⟨o, ho, hd, hop, hg⟩ := info_some hi
  rw [List.range'_succ, wpOps_cons]
  refine run_wanted ho (by simp [Region.wanted, hg]) ?_
  have hGne := slot_ne hG
  have hDne := fact_ne hD
  unfold Oper.wp
  have hrun : (execOp a.eval o).run P w = .ok (.value c) w := by
    simp only at hop
    simp [execOp, hop, Act.eval]
  rw [hrun]
  simp only at hd
  show wpOps P ops Q (List.range' (m + 1) k) (a.put o.dst _) _
  rw [hd]
  refine h kf _ _ ⟨by rw [put_size]; exact hS.size, by rw [put_defers]; exact hS.defers, hS.grow, fun x hx => ?_, hS.apart, fun x hx => ?_⟩
  · obtain ⟨h1, h2⟩ := hS.vars x hx
    exact ⟨by rw [put_other (fun e => hGne x hx (by injection e with e; exact e.symm))]; exact h1, h2⟩
  · rcases List.mem_cons.1 hx with rfl | hx
    · exact mem_put (by rw [hS.size]; exact of_decide_eq_true hp)
    · rw [put_other (fun e => hDne x hx (by injection e with e; exact e.symm))]
      exact hS.facts x hx

/-- A region, and what follows. -/
theorem region_seq {id : Nat} {b : Bool} {y : Code} {a0 : Act} {w0 : World} {kf0 : Nat → Nat} (hm : P.follows .mixedOrders = true) (hS : St s P n G D wE kf0 a0 w0) (F : Facts) (V : VS) (G' : List Vr) (D' : List (Nat × Pr)) (hwf : wfV n ops = true) (hok : okB s P ops (slots G) V = true)
    (hF : ∀ d, Stb s (F d)) (hGs : AllL (fun x : Vr => Stb s x.val) G) (hDs : AllL (fun x : Nat × Pr => Stb s x.2) D)
    (hal : AllL (fun x : Nat × Nat × TypeId => ∀ w v, F x.2.1 w v) V.al) (hst : AllL (fun x : Nat × Nat × Nat × TypeId => ∀ w v, F x.2.2.1 w v → ∃ cs, v = .agg cs ∧ Fits s P x.2.2.2 cs) V.st)
    (hG' : AllL (NewV P F G V) G') (hD' : AllL (NewD ops F D V) D')
    (step : ∀ i, i < ops.size → isAl V i = false → isSt V i = false → Step s P ops (Exit.then (y.wp P Q) Q) F G D V kf0 i)
    (fin : ∀ kf a w, St s P n G' D' wE kf a w → y.wp P Q a w) : (Code.seq (.region id ops b) y).wp P Q a0 w0 :=
  wp_seq (region hm hS F V G' D' hwf hok hF hGs hDs hal hst step hG' hD' fin)
theorem region_then {id : Nat} {b : Bool} {K : Act → World → Prop} {a0 : Act} {w0 : World} {kf0 : Nat → Nat} (hm : P.follows .mixedOrders = true) (hS : St s P n G D wE kf0 a0 w0) (F : Facts) (V : VS) (G' : List Vr) (D' : List (Nat × Pr)) (hwf : wfV n ops = true) (hok : okB s P ops (slots G) V = true)
    (hF : ∀ d, Stb s (F d)) (hGs : AllL (fun x : Vr => Stb s x.val) G) (hDs : AllL (fun x : Nat × Pr => Stb s x.2) D)
    (hal : AllL (fun x : Nat × Nat × TypeId => ∀ w v, F x.2.1 w v) V.al) (hst : AllL (fun x : Nat × Nat × Nat × TypeId => ∀ w v, F x.2.2.1 w v → ∃ cs, v = .agg cs ∧ Fits s P x.2.2.2 cs) V.st)
    (hG' : AllL (NewV P F G V) G') (hD' : AllL (NewD ops F D V) D')
    (step : ∀ i, i < ops.size → isAl V i = false → isSt V i = false → Step s P ops (Exit.then K Q) F G D V kf0 i)
    (fin : ∀ kf a w, St s P n G' D' wE kf a w → K a w) : (Code.region id ops b).wp P (Exit.then K Q) a0 w0 :=
  region hm hS F V G' D' hwf hok hF hGs hDs hal hst step hG' hD' fin
theorem skip_then {K : Act → World → Prop} (h : K a w) : Code.skip.wp P (Exit.then K Q) a w := wp_skip h
theorem cond_true {c : Nat} {q : Pr} {x y : Code} (hS : St s P n G D wE kf a w) (hc : (c, q) ∈ D) (hq : ∀ w v, q w v → v = .bool true) (h : x.wp P Q a w) : (Code.cond (.tmp c) x y).wp P Q a w := wp_cond_true (hq _ _ (hS.facts _ hc)) h
theorem cond_false {c : Nat} {q : Pr} {x y : Code} (hS : St s P n G D wE kf a w) (hc : (c, q) ∈ D) (hq : ∀ w v, q w v → v = .bool false) (h : y.wp P Q a w) : (Code.cond (.tmp c) x y).wp P Q a w := wp_cond_false (hq _ _ (hS.facts _ hc)) h
/-- Less is known. -/
theorem St.mono {G' : List Vr} {D' : List (Nat × Pr)} (hS : St s P n G D wE kf a w) (hG : AllL (fun x : Vr => ∃ y ∈ G, y.slot = x.slot ∧ y.ty = x.ty ∧ ∀ w v, y.val w v → x.val w v) G') (hD : AllL (fun x : Nat × Pr => ∃ y ∈ D, y.1 = x.1 ∧ ∀ w v, y.2 w v → x.2 w v) D') : St s P n G' D' wE kf a w := by
  refine ⟨hS.size, hS.defers, hS.grow, fun x hx => ?_, fun x hx z hz h => ?_, fun x hx => ?_⟩
  · obtain ⟨y, hy, e1, e2, e3⟩ := hG.mem x hx
    obtain ⟨h1, h2, cs, h3, h4, h5⟩ := hS.vars y hy
    rw [← e1, ← e2]
    exact ⟨h1, h2, cs, h3, h4, e3 _ _ h5⟩
  · obtain ⟨y, hy, e1, _⟩ := hG.mem x hx
    obtain ⟨u, hu, f1, _⟩ := hG.mem z hz
    rw [← e1, ← f1]
    exact hS.apart y hy u hu (by rw [e1, f1]; exact h)
  · obtain ⟨y, hy, e1, e2⟩ := hD.mem x hx
    have := hS.facts y hy
    rw [e1] at this
    exact e2 _ _ this

/-- What a function answers, slot by slot. -/
theorem res_cell {p : Nat} {t : TypeId} {q : Pr} (hS : St s P n G D wE kf a w) (hx : (⟨p, t, q⟩ : Vr) ∈ G) : ∃ ad v, (asAddr (a.tmps.getD p undef)).run P w = .ok ad w ∧ (loadVar t ad).run P w = .ok v w ∧ q w v := by
  obtain ⟨h1, _, cs, h3, h4, h5⟩ := hS.vars _ hx
  obtain ⟨d, hu, hd⟩ := agg_desc h4.agg
  refine ⟨⟨kf p, 0, none⟩, .agg cs, ?_, run_loadVar_row w _ t t cs _ d h3 hu (by cases d <;> first | rfl | exact hd) h4.size, h5⟩
  simp only at h1
  rw [h1]
  rfl
theorem ret_t {fn : Func} {R : Ending → World → Prop} {u : Nat} {q : Pr} (hr : fn.results = #[.tmp u]) (hS : St s P n G D wE kf a w) (hx : (u, q) ∈ D) (h : ∀ v, q w v → R (.returned v) w) : bodyPost P fn R .ret a w :=
  ⟨hS.defers, a.tmps.getD u undef, by simp [results, hr], h _ (hS.facts _ hx)⟩
theorem ret_c {fn : Func} {R : Ending → World → Prop} {p : Nat} {t : TypeId} {q : Pr} (hr : fn.results = #[.cell p t]) (hS : St s P n G D wE kf a w) (hx : (⟨p, t, q⟩ : Vr) ∈ G) (h : ∀ v, q w v → R (.returned v) w) : bodyPost P fn R .ret a w := by
  obtain ⟨ad, v, h1, h2, hq⟩ := res_cell hS hx
  refine ⟨hS.defers, v, ?_, h v hq⟩
  unfold results
  rw [hr]
  simp only [Array.getD_eq_getD_getElem?] at h1
  simp [h1, h2]
theorem ret_ct {fn : Func} {R : Ending → World → Prop} {p u : Nat} {t : TypeId} {q r : Pr} (hr : fn.results = #[.cell p t, .tmp u]) (hS : St s P n G D wE kf a w) (hx : (⟨p, t, q⟩ : Vr) ∈ G) (hy : (u, r) ∈ D) (h : ∀ v z, q w v → r w z → R (.returned (.tuple #[v, z])) w) : bodyPost P fn R .ret a w := by
  obtain ⟨ad, v, h1, h2, hq⟩ := res_cell hS hx
  refine ⟨hS.defers, .tuple #[v, a.tmps.getD u undef], ?_, h v _ hq (hS.facts _ hy)⟩
  unfold results
  rw [hr]
  simp only [Array.getD_eq_getD_getElem?] at h1
  simp [h1, h2]
theorem ret_cc {fn : Func} {R : Ending → World → Prop} {p u : Nat} {t t' : TypeId} {q r : Pr} (hr : fn.results = #[.cell p t, .cell u t']) (hS : St s P n G D wE kf a w) (hx : (⟨p, t, q⟩ : Vr) ∈ G) (hy : (⟨u, t', r⟩ : Vr) ∈ G) (h : ∀ v z, q w v → r w z → R (.returned (.tuple #[v, z])) w) : bodyPost P fn R .ret a w := by
  obtain ⟨ad, v, h1, h2, hq⟩ := res_cell hS hx
  obtain ⟨ad', z, h1', h2', hq'⟩ := res_cell hS hy
  refine ⟨hS.defers, .tuple #[v, z], ?_, h v z hq hq'⟩
  unfold results
  rw [hr]
  simp only [Array.getD_eq_getD_getElem?] at h1 h1'
  simp [h1, h2, h1', h2']
end
end Go.Proofs.YtalcafbeepimgaaGreatDoor.Z

/- The calculus of whole functions, in short words: kinds that know that they stay and of which type they are; states that a region's stores compute. No program is named here. -/
namespace Go.Proofs.YtalcafbeepimgaaGreatDoor.Z
open Go.RowKit Go.Proofs.YtalcafbeepimgaaGreatDoor.Rg

/-- What is known of a value: it stays, and of these types it is. -/
structure Kd (P : Program) where
  p : Pr
  st : Stb soft p
  ty : TypeId → Bool
  fit : ∀ t, ty t = true → ∀ w v, p w v → ∃ cs, v = .agg cs ∧ Fits soft P t cs
variable {P : Program}
/-- A kind of no struct's. -/
abbrev Kd.of (p : Pr) (h : Stb soft p) : Kd P := ⟨p, h, fun _ => false, fun _ h => by cases h⟩
abbrev Kd.X : Kd P := .of (fun _ _ => True) stb_true
abbrev Kd.E (c : Value) : Kd P := .of (fun _ v => v = c) (stb_eq c)
abbrev Kd.i (m : Int) : Kd P := .E (.int .i64 m)
abbrev Kd.b (m : Bool) : Kd P := .E (.bool m)
abbrev Kd.t : Kd P := .E (.bool true)
abbrev Kd.f : Kd P := .E (.bool false)
/-- A kind of one struct's type. -/
abbrev Kd.at (p : Pr) (h : Stb soft p) (t : TypeId) (hf : ∀ w v, p w v → ∃ cs, v = .agg cs ∧ Fits soft P t cs) : Kd P := ⟨p, h, fun u => Nat.beq u t, fun u hu w v hv => by
  have e : u = t := Nat.eq_of_beq_eq_true hu
  rw [e]; exact hf w v hv⟩
def allK (w : World) : List (Kd P) → List Value → Prop
  | [], [] => True
  | k :: ks, v :: vs => k.p w v ∧ allK w ks vs
  | _, _ => False
theorem allK_get {w : World} : ∀ {ks : List (Kd P)} {vs : List Value}, allK w ks vs → ks.length = vs.length ∧ ∀ (j : Nat) (k : Kd P), ks[j]? = some k → k.p w (vs.getD j undef) := by
  intro ks
  induction ks with
  | nil =>
    intro vs h
    cases vs with
    | nil => exact ⟨rfl, fun j k h => by simp at h⟩
    | cons v vs => cases h
  | cons k ks ih =>
    intro vs h
    cases vs with
    | nil => cases h
    | cons v vs =>
      obtain ⟨h1, h2⟩ := h
      obtain ⟨e, g⟩ := ih h2
      refine ⟨by simp [e], fun j k' hj => ?_⟩
      cases j with
      | zero => simp at hj; subst hj; simpa using h1
      | succ j => simpa using g j k' (by simpa using hj)
theorem allK_stb {w w' : World} (g : Evo soft w w') : ∀ {ks : List (Kd P)} {vs : List Value}, allK w ks vs → allK w' ks vs := by
  intro ks
  induction ks with
  | nil => intro vs h; cases vs <;> exact h
  | cons k ks ih =>
    intro vs h
    cases vs with
    | nil => cases h
    | cons v vs => exact ⟨k.st _ _ _ h.1 g, ih h.2⟩
/-- A tuple. -/
abbrev Kd.T (ks : List (Kd P)) : Kd P := .of (fun w v => ∃ vs : List Value, v = .tuple vs.toArray ∧ allK w ks vs) (fun _ _ _ ⟨vs, e, h⟩ g => ⟨vs, e, allK_stb g h⟩)
theorem tup2 {w : World} {a b : Value} {k l : Kd P} (h1 : k.p w a) (h2 : l.p w b) : (Kd.T [k, l]).p w (.tuple #[a, b]) := ⟨[a, b], rfl, h1, h2, trivial⟩
theorem tup3 {w : World} {a b c : Value} {k l m : Kd P} (h1 : k.p w a) (h2 : l.p w b) (h3 : m.p w c) : (Kd.T [k, l, m]).p w (.tuple #[a, b, c]) := ⟨[a, b, c], rfl, h1, h2, h3, trivial⟩

abbrev FL (P : Program) := List (Nat × Kd P)
def lk : FL P → Nat → Kd P
  | [], _ => .X
  | x :: r, d => cond (Nat.beq x.1 d) x.2 (lk r d)
theorem lk_none : ∀ {fs : FL P} {d : Nat}, fs.all (fun x => !Nat.beq x.1 d) = true → lk fs d = .X := by
  intro fs
  induction fs with
  | nil => intro d _; rfl
  | cons x r ih =>
    intro d h
    simp only [List.all_cons, Bool.and_eq_true, Bool.not_eq_true'] at h
    unfold lk
    rw [h.1]
    exact ih h.2
/-- A variable. -/
structure Vk (P : Program) where
  slot : Nat
  ty : TypeId
  k : Kd P
def Vk.vr (x : Vk P) : Vr := ⟨x.slot, x.ty, x.k.p⟩
def lkG : List (Vk P) → Nat → Vk P
  | [], _ => ⟨0, 0, .X⟩
  | x :: r, d => cond (Nat.beq x.slot d) x (lkG r d)
theorem lkG_mem : ∀ {G : List (Vk P)} {d : Nat}, G.any (fun x => Nat.beq x.slot d) = true → lkG G d ∈ G ∧ (lkG G d).slot = d := by
  intro G
  induction G with
  | nil => intro d h; cases h
  | cons x r ih =>
    intro d h
    unfold lkG
    cases hb : Nat.beq x.slot d with
    | true => exact ⟨.head _, Nat.eq_of_beq_eq_true hb⟩
    | false =>
      simp only [List.any_cons, hb, Bool.false_or] at h
      exact ⟨.tail _ (ih h).1, (ih h).2⟩
theorem lkD_mem : ∀ {D : FL P} {d : Nat}, D.any (fun x => Nat.beq x.1 d) = true → (d, lk D d) ∈ D := by
  intro D
  induction D with
  | nil => intro d h; cases h
  | cons x r ih =>
    intro d h
    unfold lk
    cases hb : Nat.beq x.1 d with
    | true =>
      have e : x.1 = d := Nat.eq_of_beq_eq_true hb
      have : (d, x.2) = x := by rw [← e]
      show (d, x.2) ∈ x :: r
      rw [this]; exact .head _
    | false =>
      simp only [List.any_cons, hb, Bool.false_or] at h
      exact .tail _ (ih h)
abbrev gv (G : List (Vk P)) : List Vr := G.map Vk.vr
abbrev dv (D : FL P) : List (Nat × Pr) := D.map fun x => (x.1, x.2.p)
abbrev fv (fs : FL P) : Facts := fun d => (lk fs d).p
/-- A state. -/
abbrev S2 (P : Program) (n : Nat) (G : List (Vk P)) (D : FL P) (wE : World) (kf : Nat → Nat) (a : Act) (w : World) : Prop := St soft P n (gv G) (dv D) wE kf a w
theorem gv_stb (G : List (Vk P)) : AllL (fun x : Vr => Stb soft x.val) (gv G) := by
  induction G with
  | nil => trivial
  | cons x r ih => exact ⟨x.k.st, ih⟩
theorem dv_stb (D : FL P) : AllL (fun x : Nat × Pr => Stb soft x.2) (dv D) := by
  induction D with
  | nil => trivial
  | cons x r ih => exact ⟨x.2.st, ih⟩
theorem all_of {α : Type} {p : α → Prop} : ∀ {l : List α}, (∀ x ∈ l, p x) → AllL p l := by
  intro l
  induction l with
  | nil => intro _; trivial
  | cons x r ih => intro h; exact ⟨h x (.head _), ih fun y hy => h y (.tail _ hy)⟩

/-! ### The state behind a region -/
def srcOf (V : VS) (p : Nat) : Option (Nat × TypeId) := (V.st.find? fun x => Nat.beq x.2.1 p).map fun x => (x.2.2.1, x.2.2.2)
def newV (V : VS) (fs : FL P) (x : Vk P) : Vk P := match srcOf V x.slot with
  | some y => ⟨x.slot, x.ty, lk fs y.1⟩
  | none => x
def newG (G : List (Vk P)) (V : VS) (fs : FL P) : List (Vk P) := G.map (newV V fs) ++ V.al.map fun z => newV V fs ⟨z.2.1, z.2.2, .X⟩
def newD (D : FL P) (ds : List Nat) (fs : FL P) (keep : List Nat) : FL P := D.filter (fun x => !ds.contains x.1) ++ keep.map fun d => (d, lk fs d)
/-- All that a region is asked. -/
def regB (P : Program) (n : Nat) (ops : Array Oper) (G : List (Nat × TypeId)) (V : VS) (fs : FL P) (keep : List Nat) : Bool :=
  wfV n ops && okB soft P ops G V && V.al.all (fun z => fs.all (fun x => !Nat.beq x.1 z.2.1)) && V.st.all (fun x => (lk fs x.2.2.1).ty x.2.2.2) &&
  V.st.all (fun s => G.all (fun y => !Nat.beq y.1 s.2.1 || Nat.beq s.2.2.2 y.2) && V.al.all (fun z => !Nat.beq z.2.1 s.2.1 || Nat.beq s.2.2.2 z.2.2)) &&
  keep.all (fun d => (dsts ops).contains d && V.al.all (fun z => !Nat.beq z.2.1 d))
def slk (G : List (Vk P)) : List (Nat × TypeId) := G.map fun x => (x.slot, x.ty)

section
variable {ops : Array Oper} {Q : Exit → Act → World → Prop} {n : Nat} {G : List (Vk P)} {D : FL P} {V : VS} {fs : FL P} {keep : List Nat} {wE : World} {kf0 : Nat → Nat} {a0 : Act} {w0 : World}
theorem srcOf_some {p : Nat} {y : Nat × TypeId} (h : srcOf V p = some y) : ∃ j, (j, p, y.1, y.2) ∈ V.st := by
  unfold srcOf at h
  cases hf : V.st.find? fun x => Nat.beq x.2.1 p with
  | none => rw [hf] at h; cases h
  | some s =>
    rw [hf] at h
    simp only [Option.map_some, Option.some.injEq] at h
    subst h
    have h1 := List.find?_some hf
    have e : s.2.1 = p := Nat.eq_of_beq_eq_true h1
    refine ⟨s.1, ?_⟩
    have := List.mem_of_find?_eq_some hf
    rw [← e]; exact this
theorem srcOf_none {p : Nat} (h : srcOf V p = none) : V.st.all (fun y => !Nat.beq y.2.1 p) = true := by
  unfold srcOf at h
  cases hf : V.st.find? fun x => Nat.beq x.2.1 p with
  | some s => rw [hf] at h; cases h
  | none =>
    rw [List.all_eq_true]
    intro x hx
    have := List.find?_eq_none.1 hf x hx
    cases hb : Nat.beq x.2.1 p with
    | true => exact absurd hb this
    | false => rfl
theorem newV_slot (x : Vk P) : (newV V fs x).slot = x.slot ∧ (newV V fs x).ty = x.ty := by
  unfold newV
  split <;> exact ⟨rfl, rfl⟩
theorem newG_ok (hty : ∀ s ∈ V.st, (∀ x ∈ G, x.slot = s.2.1 → s.2.2.2 = x.ty) ∧ ∀ z ∈ V.al, z.2.1 = s.2.1 → s.2.2.2 = z.2.2) : AllL (NewV P (fv fs) (gv G) V) (gv (newG G V fs)) := by
  refine all_of fun x hx => ?_
  obtain ⟨u, hu, rfl⟩ := List.mem_map.1 hx
  rcases List.mem_append.1 hu with hu | hu
  · obtain ⟨y, hy, rfl⟩ := List.mem_map.1 hu
    unfold newV
    split
    · next s hs =>
      obtain ⟨j, hj⟩ := srcOf_some hs
      exact .inl ⟨_, hj, rfl, (hty _ hj).1 y hy rfl, fun _ _ h => h⟩
    · next hs => exact .inr (.inl ⟨srcOf_none hs, _, List.mem_map.2 ⟨y, hy, rfl⟩, rfl, rfl, fun _ _ h => h⟩)
  · obtain ⟨z, hz, rfl⟩ := List.mem_map.1 hu
    unfold newV
    split
    · next s hs =>
      obtain ⟨j, hj⟩ := srcOf_some hs
      exact .inl ⟨_, hj, rfl, (hty _ hj).2 z hz rfl, fun _ _ h => h⟩
    · next hs => exact .inr (.inr ⟨srcOf_none hs, _, hz, rfl, rfl, fun _ => trivial⟩)
theorem newD_ok (hk : ∀ d ∈ keep, (dsts ops).contains d = true ∧ V.al.all (fun z => !Nat.beq z.2.1 d) = true) : AllL (NewD ops (fv fs) (dv D) V) (dv (newD D (dsts ops) fs keep)) := by
  refine all_of fun x hx => ?_
  obtain ⟨u, hu, rfl⟩ := List.mem_map.1 hx
  rcases List.mem_append.1 hu with hu | hu
  · rw [List.mem_filter] at hu
    exact .inr ⟨by simpa using hu.2, _, List.mem_map.2 ⟨u, hu.1, rfl⟩, rfl, fun _ _ h => h⟩
  · obtain ⟨d, hd, rfl⟩ := List.mem_map.1 hu
    exact .inl ⟨(hk d hd).1, (hk d hd).2, fun _ _ h => h⟩
theorem reg {id : Nat} {b : Bool} (hm : P.follows .mixedOrders = true) (hS : S2 P n G D wE kf0 a0 w0) (hB : regB P n ops (slk G) V fs keep = true)
    (step : ∀ i, i < ops.size → isAl V i = false → isSt V i = false → Step soft P ops Q (fv fs) (gv G) (dv D) V kf0 i)
    (fin : ∀ kf a w, S2 P n (newG G V fs) (newD D (dsts ops) fs keep) wE kf a w → Q .normal a w) : (Code.region id ops b).wp P Q a0 w0 := by
  have hsl : slots (gv G) = slk G := by unfold slots slk gv; rw [List.map_map]; rfl
  simp only [regB, Bool.and_eq_true] at hB
  obtain ⟨⟨⟨⟨⟨h1, h2⟩, h3⟩, h4⟩, h5⟩, h6⟩ := hB
  refine region hm hS (fv fs) V _ _ h1 (by rw [hsl]; exact h2) (fun d => (lk fs d).st) (gv_stb G) (dv_stb D) ?_ ?_ step (newG_ok ?_) (newD_ok ?_) fin
  · refine all_of fun x hx w v => ?_
    have := List.all_eq_true.1 h3 x hx
    show (lk fs x.2.1).p w v
    rw [lk_none this]
    trivial
  · refine all_of fun x hx w v hv => ?_
    exact (lk fs x.2.2.1).fit _ (List.all_eq_true.1 h4 x hx) w v hv
  · intro s hs
    have h := List.all_eq_true.1 h5 s hs
    simp only [Bool.and_eq_true] at h
    refine ⟨fun x hx e => ?_, fun z hz e => ?_⟩
    · have := List.all_eq_true.1 h.1 (x.slot, x.ty) (List.mem_map.2 ⟨x, hx, rfl⟩)
      simp only [e, Bool.or_eq_true, Bool.not_eq_true'] at this
      rcases this with h' | h'
      · simp at h'
      · exact Nat.eq_of_beq_eq_true h'
    · have := List.all_eq_true.1 h.2 z hz
      simp only [e, Bool.or_eq_true, Bool.not_eq_true'] at this
      rcases this with h' | h'
      · simp at h'
      · exact Nat.eq_of_beq_eq_true h'
  · intro d hd
    have := List.all_eq_true.1 h6 d hd
    simpa only [Bool.and_eq_true] using this
/-- What is no longer asked for is left out. -/
def drD (dr : List Nat) (D : FL P) : FL P := D.filter fun x => !dr.contains x.1
def drG (dr : List Nat) (G : List (Vk P)) : List (Vk P) := G.filter fun x => !dr.contains x.slot
theorem dr_ok {dr : List Nat} {kf : Nat → Nat} {a : Act} {w : World} (hS : S2 P n G D wE kf a w) : S2 P n (drG dr G) (drD dr D) wE kf a w := by
  refine hS.mono (all_of fun x hx => ?_) (all_of fun x hx => ?_)
  · obtain ⟨y, hy, rfl⟩ := List.mem_map.1 hx
    exact ⟨_, List.mem_map.2 ⟨y, (List.mem_filter.1 hy).1, rfl⟩, rfl, rfl, fun _ _ h => h⟩
  · obtain ⟨y, hy, rfl⟩ := List.mem_map.1 hx
    exact ⟨_, List.mem_map.2 ⟨y, (List.mem_filter.1 hy).1, rfl⟩, rfl, fun _ _ h => h⟩
/-- A region, and what follows. -/
theorem R {id : Nat} {b : Bool} {y : Code} (hm : P.follows .mixedOrders = true) (hS : S2 P n G D wE kf0 a0 w0) (V : VS) (fs : FL P) (keep dr : List Nat) (G' : List (Vk P)) (D' : FL P) (m : Nat)
    (step : AllFrom (StepAt soft P ops (Exit.then (y.wp P Q) Q) (fv fs) (gv G) (dv D) V kf0) 0 m) (fin : ∀ kf a w, S2 P n G' D' wE kf a w → y.wp P Q a w)
    (hsz : ops.size = m := by kernel_rfl) (hB : regB P n ops (slk G) V fs keep = true := by kernel_rfl) (hG : drG dr (newG G V fs) = G' := by kernel_rfl) (hD : drD dr (newD D (dsts ops) fs keep) = D' := by kernel_rfl) : (Code.seq (.region id ops b) y).wp P Q a0 w0 := by
  subst hG hD
  exact wp_seq (reg hm hS hB (steps hsz step) fun kf a w h => fin kf a w (dr_ok h))
theorem Rt {id : Nat} {b : Bool} {K : Act → World → Prop} (hm : P.follows .mixedOrders = true) (hS : S2 P n G D wE kf0 a0 w0) (V : VS) (fs : FL P) (keep dr : List Nat) (G' : List (Vk P)) (D' : FL P) (m : Nat)
    (step : AllFrom (StepAt soft P ops (Exit.then K Q) (fv fs) (gv G) (dv D) V kf0) 0 m) (fin : ∀ kf a w, S2 P n G' D' wE kf a w → K a w)
    (hsz : ops.size = m := by kernel_rfl) (hB : regB P n ops (slk G) V fs keep = true := by kernel_rfl) (hG : drG dr (newG G V fs) = G' := by kernel_rfl) (hD : drD dr (newD D (dsts ops) fs keep) = D' := by kernel_rfl) : (Code.region id ops b).wp P (Exit.then K Q) a0 w0 := by
  subst hG hD
  exact reg hm hS hB (steps hsz step) fun kf a w h => fin kf a w (dr_ok h)

/-! ### Steps -/
variable {i : Nat}
/-- What operation i owes, whatever guards it. -/
def Body (P : Program) (ops : Array Oper) (Q : Exit → Act → World → Prop) (F : Facts) (G : List Vr) (D : List (Nat × Pr)) (V : VS) (kf0 : Nat → Nat) (i : Nat) : Prop :=
  ∀ o, ops[i]? = some o → ∀ a w, Ctx soft P ops F G D V kf0 i a w → o.wp P a w (fun a' w' => ∃ v, a' = a.put o.dst v ∧ (∀ d, o.dst = some d → F d w' v) ∧ Grow w w') Q
abbrev B2 (P : Program) (ops : Array Oper) (Q : Exit → Act → World → Prop) (fs : FL P) (G : List (Vk P)) (D : FL P) (V : VS) (kf0 : Nat → Nat) (i : Nat) : Prop := Body P ops Q (fv fs) (gv G) (dv D) V kf0 i
def gdOf (ops : Array Oper) (i : Nat) : Option (Option (Nat × Bool)) := (ops[i]?).map (·.guard)
abbrev St2 (P : Program) (ops : Array Oper) (Q : Exit → Act → World → Prop) (fs : FL P) (G : List (Vk P)) (D : FL P) (V : VS) (kf0 : Nat → Nat) (i : Nat) : Prop := StepAt soft P ops Q (fv fs) (gv G) (dv D) V kf0 i
theorem gdOf_at {g : Option (Nat × Bool)} (h : gdOf ops i = some g) {o : Oper} (ho : ops[i]? = some o) : o.guard = g := by
  unfold gdOf at h
  rw [ho] at h
  simpa using h
theorem sn (b : B2 P ops Q fs G D V kf0 i) (h : gdOf ops i = some none := by kernel_rfl) : St2 P ops Q fs G D V kf0 i := fun _ _ o ho a w c =>
  run_wanted ho (by simp [Region.wanted, gdOf_at h ho]) (b o ho a w c)
theorem sg (j dj : Nat) (b : Bool) (s : B2 P ops Q fs G D V kf0 i) (h : gdOf ops i = some (some (j, b)) := by kernel_rfl) (hj : (ops[j]?).bind (·.dst) = some dj := by kernel_rfl) (hdep : depI ops i dj = true := by kernel_rfl) (hb : ∀ w v, (lk fs dj).p w v → v = .bool b := by exact fun _ _ h => h) : St2 P ops Q fs G D V kf0 i := fun _ _ o ho a w c =>
  run_wanted ho (by simp [Region.wanted, gdOf_at h ho, yields hj (hb w _ (c.dep dj hdep))]) (s o ho a w c)
def dstOf (ops : Array Oper) (i : Nat) : Option (Option Nat) := (ops[i]?).map (·.dst)
theorem dstOf_at {d : Option Nat} (h : dstOf ops i = some d) {o : Oper} (ho : ops[i]? = some o) : o.dst = d := by
  unfold dstOf at h
  rw [ho] at h
  simpa using h
/-- Its guard says no. -/
theorem sz (j dj d : Nat) (b : Bool) (h : gdOf ops i = some (some (j, b)) := by kernel_rfl) (hj : (ops[j]?).bind (·.dst) = some dj := by kernel_rfl) (hdep : depI ops i dj = true := by kernel_rfl) (hd : dstOf ops i = some (some d) := by kernel_rfl) (hb : ∀ w v, (lk fs dj).p w v → v = .bool (!b) := by exact fun _ _ h => h)
    (hu : ∀ w, (lk fs d).p w undef := by exact fun _ => rfl) : St2 P ops Q fs G D V kf0 i := fun _ _ o ho a w c => by
  have hv := hb w _ (c.dep dj hdep)
  have hw : Region.wanted o (yielded ops a.tmps) = false := by
    simp only [Region.wanted, gdOf_at h ho, yields hj hv]
    cases b <;> rfl
  unfold wpOp
  rw [ho]
  simp only [hw]
  exact ⟨undef, rfl, fun e he => by rw [dstOf_at hd ho] at he; injection he with he; subst he; exact hu w, Grow.refl w⟩
/-- Its guard was not run. -/
theorem su (j dj d : Nat) (b : Bool) (h : gdOf ops i = some (some (j, b)) := by kernel_rfl) (hj : (ops[j]?).bind (·.dst) = some dj := by kernel_rfl) (hdep : depI ops i dj = true := by kernel_rfl) (hd : dstOf ops i = some (some d) := by kernel_rfl) (hb : ∀ w v, (lk fs dj).p w v → v = undef := by exact fun _ _ h => h)
    (hu : ∀ w, (lk fs d).p w undef := by exact fun _ => rfl) : St2 P ops Q fs G D V kf0 i := fun _ _ o ho a w c => by
  have hv := hb w _ (c.dep dj hdep)
  have hw : Region.wanted o (yielded ops a.tmps) = false := by
    have hy : yielded ops a.tmps j = none := by
      unfold yielded
      rw [hj]
      simp only [Option.bind_some]
      rw [Array.getD_eq_getD_getElem?] at hv
      cases hx : a.tmps[dj]? with
      | none => rfl
      | some x => rw [hx, Option.getD_some] at hv; rw [hv]; rfl
    simp [Region.wanted, gdOf_at h ho, hy]
  unfold wpOp
  rw [ho]
  simp only [hw]
  exact ⟨undef, rfl, fun e he => by rw [dstOf_at hd ho] at he; injection he with he; subst he; exact hu w, Grow.refl w⟩
theorem sa (h : isAl V i = true := by rfl) : St2 P ops Q fs G D V kf0 i := isAlloc h
theorem ss (h : isSt V i = true := by rfl) : St2 P ops Q fs G D V kf0 i := isStore h

/-! ### Operands -/
abbrev A2 (P : Program) (ops : Array Oper) (fs : FL P) (G : List (Vk P)) (D : FL P) (V : VS) (kf0 : Nat → Nat) (i : Nat) (x : Operand) (p : Pr) : Prop := Arg soft P ops (fv fs) (gv G) (dv D) V kf0 i x p
theorem aT (x : Nat) (h : depI ops i x = true := by kernel_rfl) : A2 P ops fs G D V kf0 i (.tmp x) (lk fs x).p := fun _ _ c => c.dep x h
theorem aO (x : Nat) (h : (D.any (fun y => Nat.beq y.1 x) && readS ops i x) = true := by kernel_rfl) : A2 P ops fs G D V kf0 i (.tmp x) (lk D x).p := fun _ _ c => by
  simp only [Bool.and_eq_true] at h
  exact c.old (x, (lk D x).p) (List.mem_map.2 ⟨_, lkD_mem h.1, rfl⟩) h.2
theorem aC (v : Value) : A2 P ops fs G D V kf0 i (.const v) (fun _ u => u = v) := fun _ _ _ => rfl

/-! ### Operations -/
def opOf (ops : Array Oper) (i : Nat) : Option (Option Nat × Op) := (ops[i]?).map fun o => (o.dst, o.op)
theorem opOf_at {x : Option Nat × Op} (h : opOf ops i = some x) {o : Oper} (ho : ops[i]? = some o) : o.dst = x.1 ∧ o.op = x.2 := by
  unfold opOf at h
  rw [ho] at h
  simp only [Option.map_some, Option.some.injEq] at h
  subst h
  exact ⟨rfl, rfl⟩
theorem ofOwes {dst : Option Nat} {op : Op} (s : Owes soft P ops Q (fv fs) (gv G) (dv D) V kf0 i dst op) (h : opOf ops i = some (dst, op) := by kernel_rfl) : B2 P ops Q fs G D V kf0 i := fun o ho a w c =>
  s o a w (opOf_at h ho).2 (opOf_at h ho).1 c
/-- The function that is called, and its arguments. -/
def callOp (ops : Array Oper) (i : Nat) : Option (Nat × Nat × List Operand) := match ops[i]? with
  | some o => match o.dst, o.op with
    | some d, .call c => match c.callee with
      | .value (.func f) => some (d, f, c.args.toList)
      | _ => none
    | _, _ => none
  | none => none
theorem callOp_at {d f : Nat} {xs : List Operand} (h : callOp ops i = some (d, f, xs)) {o : Oper} (ho : ops[i]? = some o) : ∃ ts, o.dst = some d ∧ o.op = .call { callee := .value (.func f), args := xs.toArray, argTypes := ts } := by
  unfold callOp at h
  rw [ho] at h
  simp only at h
  split at h
  · next d' c hd hop =>
    split at h
    · next f' hc =>
      injection h with h
      injection h with h1 h
      injection h with h2 h3
      subst h1 h2 h3
      refine ⟨c.argTypes, hd, ?_⟩
      rw [hop, ← hc]
    · cases h
  · cases h
variable {d f : Nat} {R : Value → World → Prop}
theorem cN {xs : List Operand} (en : Enters P f) (hc : ∀ a w, Ctx soft P ops (fv fs) (gv G) (dv D) V kf0 i a w → Calls P f (xs.map a.eval).toArray w (Ret w R)) (hF : ∀ w v, R v w → (lk fs d).p w v) (h : callOp ops i = some (d, f, xs)) : B2 P ops Q fs G D V kf0 i := fun o ho a w cx => by
  obtain ⟨ts, h1, h2⟩ := callOp_at h ho
  refine callOf h2 en h1 (R := Ret w R) (by rw [List.map_toArray]; exact hc a w cx) fun _ _ ⟨v, e, h, g⟩ => ⟨v, e, hF _ _ h, g⟩
theorem c0 (d : Nat) (en : Enters P f) (hc : ∀ w, Calls P f #[] w (Ret w R)) (hF : ∀ w v, R v w → (lk fs d).p w v := by exact fun _ _ h => h) (h : callOp ops i = some (d, f, []) := by kernel_rfl) : B2 P ops Q fs G D V kf0 i := cN en (fun _ w _ => by simp only [List.map_nil]; exact hc w) hF h
theorem c1 (d : Nat) (en : Enters P f) {x : Operand} {p : Pr} (ax : A2 P ops fs G D V kf0 i x p) (hc : ∀ w u, p w u → Calls P f #[u] w (Ret w R)) (hF : ∀ w v, R v w → (lk fs d).p w v := by exact fun _ _ h => h) (h : callOp ops i = some (d, f, [x]) := by kernel_rfl) : B2 P ops Q fs G D V kf0 i := cN en (fun a w cx => by simp only [List.map_cons, List.map_nil]; exact hc w _ (ax a w cx)) hF h
theorem c2 (d : Nat) (en : Enters P f) {x y : Operand} {p q : Pr} (ax : A2 P ops fs G D V kf0 i x p) (ay : A2 P ops fs G D V kf0 i y q) (hc : ∀ w u v, p w u → q w v → Calls P f #[u, v] w (Ret w R)) (hF : ∀ w v, R v w → (lk fs d).p w v := by exact fun _ _ h => h) (h : callOp ops i = some (d, f, [x, y]) := by kernel_rfl) : B2 P ops Q fs G D V kf0 i := cN en (fun a w cx => by simp only [List.map_cons, List.map_nil]; exact hc w _ _ (ax a w cx) (ay a w cx)) hF h
theorem c3 (d : Nat) (en : Enters P f) {x y z : Operand} {p q r : Pr} (ax : A2 P ops fs G D V kf0 i x p) (ay : A2 P ops fs G D V kf0 i y q) (az : A2 P ops fs G D V kf0 i z r) (hc : ∀ w u v t, p w u → q w v → r w t → Calls P f #[u, v, t] w (Ret w R)) (hF : ∀ w v, R v w → (lk fs d).p w v := by exact fun _ _ h => h) (h : callOp ops i = some (d, f, [x, y, z]) := by kernel_rfl) : B2 P ops Q fs G D V kf0 i := cN en (fun a w cx => by simp only [List.map_cons, List.map_nil]; exact hc w _ _ _ (ax a w cx) (ay a w cx) (az a w cx)) hF h
theorem c4 (d : Nat) (en : Enters P f) {x y z s : Operand} {p q r l : Pr} (ax : A2 P ops fs G D V kf0 i x p) (ay : A2 P ops fs G D V kf0 i y q) (az : A2 P ops fs G D V kf0 i z r) (as' : A2 P ops fs G D V kf0 i s l) (hc : ∀ w u v t m, p w u → q w v → r w t → l w m → Calls P f #[u, v, t, m] w (Ret w R)) (hF : ∀ w v, R v w → (lk fs d).p w v := by exact fun _ _ h => h) (h : callOp ops i = some (d, f, [x, y, z, s]) := by kernel_rfl) : B2 P ops Q fs G D V kf0 i := cN en (fun a w cx => by simp only [List.map_cons, List.map_nil]; exact hc w _ _ _ _ (ax a w cx) (ay a w cx) (az a w cx) (as' a w cx)) hF h
theorem mv (d : Nat) {x : Operand} {p : Pr} (ax : A2 P ops fs G D V kf0 i x p) (hF : ∀ w v, p w v → (lk fs d).p w v := by exact fun _ _ h => h) (h : opOf ops i = some (some d, .move x) := by kernel_rfl) : B2 P ops Q fs G D V kf0 i := ofOwes (move ax hF) h
theorem asg (d : Nat) {x : Operand} {p : Pr} (ax : A2 P ops fs G D V kf0 i x p) (hF : ∀ w v, p w v → (lk fs d).p w v := by exact fun _ _ h => h) (h : opOf ops i = some (some d, .assign x) := by kernel_rfl) : B2 P ops Q fs G D V kf0 i := ofOwes (assign ax hF) h
theorem pT (d : Nat) {cc x : Operand} {p q : Pr} (ac : A2 P ops fs G D V kf0 i cc q) (ax : A2 P ops fs G D V kf0 i x p) (y : Operand) (hq : ∀ w v, q w v → v = .bool true := by exact fun _ _ h => h) (hF : ∀ w v, p w v → (lk fs d).p w v := by exact fun _ _ h => h) (h : opOf ops i = some (some d, .pick cc x y) := by kernel_rfl) : B2 P ops Q fs G D V kf0 i := ofOwes (pickT (fun a w cx => hq _ _ (ac a w cx)) ax hF) h
theorem pF (d : Nat) {cc y : Operand} {p q : Pr} (ac : A2 P ops fs G D V kf0 i cc q) (x : Operand) (ay : A2 P ops fs G D V kf0 i y p) (hq : ∀ w v, q w v → v = .bool false := by exact fun _ _ h => h) (hF : ∀ w v, p w v → (lk fs d).p w v := by exact fun _ _ h => h) (h : opOf ops i = some (some d, .pick cc x y) := by kernel_rfl) : B2 P ops Q fs G D V kf0 i := ofOwes (pickF (fun a w cx => hq _ _ (ac a w cx)) ay hF) h
theorem ex (d x j : Nat) {ks : List (Kd P)} {k : Kd P} (hx : lk fs x = .T ks) (hk : ks[j]? = some k) (hF : ∀ w v, k.p w v → (lk fs d).p w v := by exact fun _ _ h => h) (dx : depI ops i x = true := by kernel_rfl) (h : opOf ops i = some (some d, .extract (.tmp x) j) := by kernel_rfl) : B2 P ops Q fs G D V kf0 i :=
  ofOwes (val (fun o a w ho cx => by
    have hv : (lk fs x).p w (a.tmps.getD x undef) := cx.dep x dx
    rw [hx] at hv
    obtain ⟨vs, e, ha⟩ := hv
    obtain ⟨hl, hg⟩ := allK_get ha
    have hlt : j < vs.length := by rw [← hl]; exact (List.getElem?_eq_some_iff.1 hk).1
    refine ⟨vs.getD j undef, ?_, hF _ _ (hg j k hk)⟩
    have e' : a.eval (.tmp x) = .tuple vs.toArray := e
    simp only [Act.eval, Array.getD_eq_getD_getElem?] at e'
    simp [execOp, ho, Act.eval, e', Instr.extract, hlt]) rfl) h
def hasG (G : List (Vk P)) (p : Nat) : Bool := G.any fun x => Nat.beq x.slot p
theorem hasG_mem {p : Nat} (h : hasG G p = true) : (⟨p, (lkG G p).ty, (lkG G p).k.p⟩ : Vr) ∈ gv G := by
  obtain ⟨h1, h2⟩ := lkG_mem h
  refine List.mem_map.2 ⟨_, h1, ?_⟩
  unfold Vk.vr
  rw [h2]
/-- A variable is read. -/
theorem ld (d p : Nat) (hF : ∀ w v, (lkG G p).k.p w v → (lk fs d).p w v := by exact fun _ _ h => h) (hg : hasG G p = true := by kernel_rfl) (hr : readB ops V i p = true := by kernel_rfl) (h : opOf ops i = some (some d, .load (lkG G p).ty (.tmp p)) := by kernel_rfl) : B2 P ops Q fs G D V kf0 i := ofOwes (loadV (hasG_mem hg) hr hF) h
/-- A field's address. -/
theorem fa (d p f off sz : Nat) (hF : ∀ w v, v = .pointer (some ⟨kf0 p, off, none⟩) → (lk fs d).p w v := by exact fun _ _ h => h) (hg : hasG G p = true := by kernel_rfl) (hf : fieldB P (lkG G p).ty f off sz = true := by kernel_rfl) (h : opOf ops i = some (some d, .fieldAddr (lkG G p).ty (.tmp p) f) := by kernel_rfl) : B2 P ops Q fs G D V kf0 i := ofOwes (fieldV (hasG_mem hg) hf hF) h
/-- A field that is a struct. -/
theorem lf (d x p off sz : Nat) (t' : TypeId) {r : Pr} (hq : ∀ w cs, (lkG G p).k.p w (.agg cs) → r w (.agg (cs.extract off (off + sz)))) (hF : ∀ w v, r w v → (lk fs d).p w v := by exact fun _ _ h => h) (hx : ∀ w v, (lk fs x).p w v → v = .pointer (some ⟨kf0 p, off, none⟩) := by exact fun _ _ h => h) (hg : hasG G p = true := by kernel_rfl)
    (hB : (depI ops i x && readB ops V i p && aggB P t' && ((P.info? t').map (·.size) == some sz) && ((P.info? (lkG G p).ty).map (·.size)).any (fun m => decide (off + sz ≤ m))) = true := by kernel_rfl) (h : opOf ops i = some (some d, .load t' (.tmp x)) := by kernel_rfl) : B2 P ops Q fs G D V kf0 i := by
  simp only [Bool.and_eq_true, beq_iff_eq] at hB
  obtain ⟨⟨⟨⟨h1, h2⟩, h3⟩, h4⟩, h5⟩ := hB
  exact ofOwes (loadF h1 hx (hasG_mem hg) h2 h3 h4 h5 hq hF) h
/-- A field that is none. -/
theorem lp (d x p off : Nat) (t' : TypeId) {r : Pr} (hq : ∀ w cs, (lkG G p).k.p w (.agg cs) → r w (cs.getD off undef)) (hF : ∀ w v, r w v → (lk fs d).p w v := by exact fun _ _ h => h) (hx : ∀ w v, (lk fs x).p w v → v = .pointer (some ⟨kf0 p, off, none⟩) := by exact fun _ _ h => h) (hg : hasG G p = true := by kernel_rfl)
    (hB : (depI ops i x && readB ops V i p && plainB P t' && ((P.info? (lkG G p).ty).map (·.size)).any (fun m => decide (off < m))) = true := by kernel_rfl) (h : opOf ops i = some (some d, .load t' (.tmp x)) := by kernel_rfl) : B2 P ops Q fs G D V kf0 i := by
  simp only [Bool.and_eq_true] at hB
  obtain ⟨⟨⟨h1, h2⟩, h3⟩, h4⟩ := hB
  exact ofOwes (loadP h1 hx (hasG_mem hg) h2 h3 h4 hq hF) h
end

/-! ### A function -/
section
variable {n : Nat} {G : List (Vk P)} {D : FL P} {wE w : World} {kf : Nat → Nat} {a : Act} {ops : Array Oper} {Q : Exit → Act → World → Prop}
/-- What the first region does: a variable out of an argument, a new one, a slot's first value. -/
inductive Ac
  | box (p : Nat) (t : TypeId) (y : Nat)
  | al (p : Nat) (t : TypeId)
  | cn (p : Nat) (v : Value)
def Ac.op : Ac → Option Nat × Op × Option (Nat × Bool)
  | .box p t y => (some p, .box t (.tmp y), none)
  | .al p t => (some p, .alloc t, none)
  | .cn p v => (some p, .assign (.const v), none)
def Ac.dst : Ac → Nat
  | .box p _ _ => p
  | .al p _ => p
  | .cn p _ => p
def acG : List Ac → List (Vk P) → FL P → List (Vk P)
  | [], G, _ => G
  | .box p t y :: r, G, D => acG r (⟨p, t, lk D y⟩ :: G) D
  | .al p t :: r, G, D => acG r (⟨p, t, .X⟩ :: G) D
  | .cn p v :: r, G, D => acG r G ((p, .E v) :: D)
def acD : List Ac → FL P → FL P
  | [], D => D
  | .cn p v :: r, D => acD r ((p, .E v) :: D)
  | _ :: r, D => acD r D
def acB (P : Program) (n : Nat) (ops : Array Oper) : List Ac → Nat → List (Vk P) → FL P → Bool
  | [], _, _, _ => true
  | x :: r, m, G, D => decide (x.dst < n) && G.all (fun y => !Nat.beq y.slot x.dst) && D.all (fun y => !Nat.beq y.1 x.dst) &&
    (match x with
      | .box p t y => D.any (fun z => Nat.beq z.1 y) && (lk D y).ty t && acB P n ops r (m + 1) (⟨p, t, lk D y⟩ :: G) D
      | .al p t => zeroB soft P t && acB P n ops r (m + 1) (⟨p, t, .X⟩ :: G) D
      | .cn p v => acB P n ops r (m + 1) G ((p, .E v) :: D))
def acI (ops : Array Oper) : List Ac → Nat → Prop
  | [], _ => True
  | x :: r, m => info ops m = some x.op ∧ acI ops r (m + 1)
theorem acI_of : ∀ (l : List Ac) (m : Nat), (List.range' m l.length).map (info ops) = l.map (fun x => some x.op) → acI ops l m := by
  intro l
  induction l with
  | nil => intro m _; trivial
  | cons x r ih =>
    intro m h
    rw [List.length_cons, List.range'_succ, List.map_cons, List.map_cons] at h
    injection h with h1 h2
    exact ⟨h1, ih (m + 1) h2⟩
theorem acs : ∀ (l : List Ac) (m : Nat) (G : List (Vk P)) (D : FL P) (kf : Nat → Nat) (a : Act) (w : World), S2 P n G D wE kf a w → acB P n ops l m G D = true → acI ops l m → (∀ kf a w, S2 P n (acG l G D) (acD l D) wE kf a w → Q .normal a w) → wpOps P ops Q (List.range' m l.length) a w := by
  intro l
  induction l with
  | nil => intro m G D kf a w hS _ _ fin; exact fin kf a w hS
  | cons x r ih =>
    intro m G D kf a w hS hB hI fin
    obtain ⟨hi, hI⟩ := hI
    simp only [acB, Bool.and_eq_true] at hB
    obtain ⟨⟨⟨h1, h2⟩, h3⟩, h4⟩ := hB
    have h2' : (gv G).all (fun y => !Nat.beq y.slot x.dst) = true := by
      rw [List.all_map]; exact h2
    have h3' : (dv D).all (fun y => !Nat.beq y.1 x.dst) = true := by
      rw [List.all_map]; exact h3
    cases x with
    | box p t y =>
      simp only [Bool.and_eq_true] at h4
      refine box0 (q := (lk D y).p) hS hi h1 h2' h3' (List.mem_map.2 ⟨_, lkD_mem h4.1.1, rfl⟩) (fun w v h => (lk D y).fit t h4.1.2 w v h) (gv_stb G) (dv_stb D) fun kf a w hS => ?_
      exact ih (m + 1) (⟨p, t, lk D y⟩ :: G) D kf a w hS h4.2 hI fin
    | al p t =>
      simp only [Bool.and_eq_true] at h4
      refine alloc0 hS hi h1 h2' h3' h4.1 (gv_stb G) (dv_stb D) fun kf a w hS => ?_
      exact ih (m + 1) (⟨p, t, .X⟩ :: G) D kf a w hS h4.2 hI fin
    | cn p v =>
      refine const0 (c := v) hS hi h1 h2' h3' fun kf a w hS => ?_
      exact ih (m + 1) G ((p, .E v) :: D) kf a w hS h4 hI fin
/-- A function's entry, and its first region. -/
theorem start {f : FuncId} {fn : Func} {id : Nat} {c : Code} {args : Array Value} {R : Ending → World → Prop} (hf : P.funcs[f]? = some fn) (D : FL P) (l : List Ac) (G' : List (Vk P)) (D' : FL P) (hD : AllL (fun x : Nat × Kd P => (x.1 < args.size ∨ n ≤ x.1) ∧ x.2.p w (args.getD x.1 undef)) D)
    (h : ∀ kf a w', S2 P n G' D' w kf a w' → c.wp P (bodyPost P fn R) a w') (hb : fn.body = some (.seq (.region id ops false) c) := by kernel_rfl) (hn : fn.ntmps = n := by kernel_rfl) (hle : decide (args.size ≤ n) = true := by rfl)
    (hsz : ops.size = l.length := by kernel_rfl) (hI : (List.range' 0 l.length).map (info ops) = l.map (fun x => some x.op) := by kernel_rfl) (hB : acB P n ops l 0 [] D = true := by kernel_rfl) (hG : acG l [] D = G' := by kernel_rfl) (hD' : acD l D = D' := by kernel_rfl) : Calls P f args w R := by
  subst hG hD'
  refine enter (s := soft) hf hb hn (of_decide_eq_true hle) (dv D) (all_of fun x hx => ?_) fun kf a hS => ?_
  · obtain ⟨y, hy, rfl⟩ := List.mem_map.1 hx
    exact hD.mem y hy
  · exact plain_seq hsz (acs l 0 [] D kf a w hS hB (acI_of l 0 hI) h)
/-- A branch by what is known. -/
theorem cT {K : Exit → Act → World → Prop} (c : Nat) {x y : Code} (hS : S2 P n G D wE kf a w) (h : x.wp P K a w) (hq : ∀ w v, (lk D c).p w v → v = .bool true := by exact fun _ _ h => h) (hc : D.any (fun z => Nat.beq z.1 c) = true := by kernel_rfl) : (Code.cond (.tmp c) x y).wp P K a w := cond_true (q := (lk D c).p) hS (List.mem_map.2 ⟨_, lkD_mem hc, rfl⟩) hq h
theorem cF {K : Exit → Act → World → Prop} (c : Nat) {x y : Code} (hS : S2 P n G D wE kf a w) (h : y.wp P K a w) (hq : ∀ w v, (lk D c).p w v → v = .bool false := by exact fun _ _ h => h) (hc : D.any (fun z => Nat.beq z.1 c) = true := by kernel_rfl) : (Code.cond (.tmp c) x y).wp P K a w := cond_false (q := (lk D c).p) hS (List.mem_map.2 ⟨_, lkD_mem hc, rfl⟩) hq h
/-- Ways that meet again. -/
theorem meet {c : Code} {K : Act → World → Prop} (G' : List (Vk P)) (D' : FL P) (tail : ∀ kf a w, S2 P n G' D' wE kf a w → K a w) (h : (∀ kf a w, S2 P n G' D' wE kf a w → K a w) → c.wp P (Exit.then K Q) a w) : c.wp P (Exit.then K Q) a w := h tail
def subB (G : List (Vk P)) (D : FL P) (G' : List (Nat × TypeId × Bool)) (D' : List Nat) : Bool := G'.all (fun x => hasG G x.1 && Nat.beq (lkG G x.1).ty x.2.1) && D'.all (fun d => D.any fun x => Nat.beq x.1 d)
def subG (G : List (Vk P)) (l : List (Nat × TypeId × Bool)) : List (Vk P) := l.map fun x => ⟨x.1, x.2.1, cond x.2.2 (lkG G x.1).k .X⟩
def subD (D : FL P) (l : List Nat) : FL P := l.map fun d => (d, lk D d)
/-- Less is asked for, in another order; of some variables nothing. -/
theorem S2.sub (hS : S2 P n G D wE kf a w) (lG : List (Nat × TypeId × Bool)) (lD : List Nat) {G' : List (Vk P)} {D' : FL P} (hB : subB G D lG lD = true := by kernel_rfl) (hG : subG G lG = G' := by kernel_rfl) (hD : subD D lD = D' := by kernel_rfl) : S2 P n G' D' wE kf a w := by
  subst hG hD
  simp only [subB, Bool.and_eq_true] at hB
  refine hS.mono (all_of fun x hx => ?_) (all_of fun x hx => ?_)
  · obtain ⟨y, hy, rfl⟩ := List.mem_map.1 hx
    obtain ⟨z, hz, rfl⟩ := List.mem_map.1 hy
    have h := List.all_eq_true.1 hB.1 z hz
    simp only [Bool.and_eq_true] at h
    refine ⟨_, hasG_mem h.1, rfl, Nat.eq_of_beq_eq_true h.2, fun w v h => ?_⟩
    show (cond z.2.2 (lkG G z.1).k Kd.X).p w v
    cases z.2.2 with
    | true => exact h
    | false => trivial
  · obtain ⟨y, hy, rfl⟩ := List.mem_map.1 hx
    obtain ⟨d, hd, rfl⟩ := List.mem_map.1 hy
    exact ⟨_, List.mem_map.2 ⟨_, lkD_mem (List.all_eq_true.1 hB.2 d hd), rfl⟩, rfl, fun _ _ h => h⟩
variable {fn : Func} {R : Ending → World → Prop}
theorem rt (u : Nat) (hS : S2 P n G D wE kf a w) (h : ∀ v, (lk D u).p w v → R (.returned v) w) (hr : fn.results = #[.tmp u] := by kernel_rfl) (hc : D.any (fun z => Nat.beq z.1 u) = true := by kernel_rfl) : bodyPost P fn R .ret a w := ret_t hr hS (List.mem_map.2 ⟨_, lkD_mem hc, rfl⟩) h
theorem rc (p : Nat) (hS : S2 P n G D wE kf a w) (h : ∀ v, (lkG G p).k.p w v → R (.returned v) w) (hr : fn.results = #[.cell p (lkG G p).ty] := by kernel_rfl) (hg : hasG G p = true := by kernel_rfl) : bodyPost P fn R .ret a w := ret_c hr hS (hasG_mem hg) h
theorem rct (p u : Nat) (hS : S2 P n G D wE kf a w) (h : ∀ v z, (lkG G p).k.p w v → (lk D u).p w z → R (.returned (.tuple #[v, z])) w) (hr : fn.results = #[.cell p (lkG G p).ty, .tmp u] := by kernel_rfl) (hg : hasG G p = true := by kernel_rfl) (hc : D.any (fun z => Nat.beq z.1 u) = true := by kernel_rfl) : bodyPost P fn R .ret a w := ret_ct hr hS (hasG_mem hg) (List.mem_map.2 ⟨_, lkD_mem hc, rfl⟩) h
theorem rcct (p u t : Nat) (hS : S2 P n G D wE kf a w) (h : ∀ v z y, (lkG G p).k.p w v → (lkG G u).k.p w z → (lk D t).p w y → R (.returned (.tuple #[v, z, y])) w) (hr : fn.results = #[.cell p (lkG G p).ty, .cell u (lkG G u).ty, .tmp t] := by kernel_rfl) (hg : (hasG G p && hasG G u && D.any (fun z => Nat.beq z.1 t)) = true := by kernel_rfl) : bodyPost P fn R .ret a w := by
  simp only [Bool.and_eq_true] at hg
  obtain ⟨ad, v, h1, h2, hq⟩ := res_cell hS (hasG_mem hg.1.1)
  obtain ⟨ad', z, h1', h2', hq'⟩ := res_cell hS (hasG_mem hg.1.2)
  refine ⟨hS.defers, .tuple #[v, z, a.tmps.getD t undef], ?_, h v z _ hq hq' (hS.facts _ (List.mem_map.2 ⟨_, lkD_mem hg.2, rfl⟩))⟩
  unfold results
  rw [hr]
  simp only [Array.getD_eq_getD_getElem?] at h1 h1'
  simp [h1, h2, h1', h2']
theorem rcc (p u : Nat) (hS : S2 P n G D wE kf a w) (h : ∀ v z, (lkG G p).k.p w v → (lkG G u).k.p w z → R (.returned (.tuple #[v, z])) w) (hr : fn.results = #[.cell p (lkG G p).ty, .cell u (lkG G u).ty] := by kernel_rfl) (hg : (hasG G p && hasG G u) = true := by kernel_rfl) : bodyPost P fn R .ret a w := by
  simp only [Bool.and_eq_true] at hg
  exact ret_cc hr hS (hasG_mem hg.1) (hasG_mem hg.2) h
end
end Go.Proofs.YtalcafbeepimgaaGreatDoor.Z

/- The calculus of whole functions: loops and blocks. No program is named here. -/
namespace Go.Proofs.YtalcafbeepimgaaGreatDoor.Z
open Go.RowKit Go.Proofs.YtalcafbeepimgaaGreatDoor.Rg
variable {P : Program} {n : Nat} {wE w : World} {kf : Nat → Nat} {a : Act} {Q : Exit → Act → World → Prop}

/-- A block: its end and its exits lead on. -/
theorem BK {id : Nat} {c : Code} {K : Act → World → Prop} (h : c.wp P (Exit.then K (Exit.inBlock id (Exit.then K Q))) a w) : (Code.block id c).wp P (Exit.then K Q) a w := by
  refine wp_block (wp_mono h fun e a w hq => ?_)
  cases e <;> exact hq
theorem XT {id : Nat} (h : Q (.exit id) a w) : (Code.exit id).wp P Q a w := wp_exit h
/-- A loop in its block, with what is handed from round to round (g), by C; it is left with C'. -/
theorem LP {γ : Type} {id : Nat} {c : Code} {K0 : Act → World → Prop} (C : γ → Prop) (μ : γ → Nat) (Gi : γ → List (Vk P)) (Di : γ → FL P) (C' : γ → Prop) (Gx : γ → List (Vk P)) (Dx : γ → FL P) (g0 : γ) (h0 : C g0) (hS : S2 P n (Gi g0) (Di g0) wE kf a w)
    (round : ∀ g kf a w, C g → S2 P n (Gi g) (Di g) wE kf a w → ∀ (J K : Act → World → Prop), (∀ g' kf a w, C g' → μ g' < μ g → S2 P n (Gi g') (Di g') wE kf a w → J a w) → (∀ g' kf a w, C' g' → S2 P n (Gx g') (Dx g') wE kf a w → K a w) → c.wp P (Exit.then J (Exit.inBlock id (Exit.then K Q))) a w)
    (rest : ∀ g kf a w, C' g → S2 P n (Gx g) (Dx g) wE kf a w → K0 a w) : (Code.block id (.loop c)).wp P (Exit.then K0 Q) a w := by
  refine wp_block (wp_loop_ghost (fun m a w => ∃ g kf, C g ∧ μ g = m ∧ S2 P n (Gi g) (Di g) wE kf a w) (μ g0) ⟨g0, kf, h0, rfl, hS⟩ ?_)
  rintro m a w ⟨g, kf, hC, rfl, hS⟩
  exact round g kf a w hC hS _ K0 (fun g' kf a w hC' hlt hS' => ⟨μ g', hlt, g', kf, hC', rfl, hS'⟩) rest
end Go.Proofs.YtalcafbeepimgaaGreatDoor.Z
