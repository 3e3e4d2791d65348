/- The calculus of whole functions: states, and the rule for a region that reads variables, makes some and stores into them. No program is named here. -/
import Derived.Test.YtlkiikchjeapfaaDoorZr
namespace Go.Proofs.YtlkiikchjeapfaaDoor.Z
open Go.RowKit Go.Proofs.YtlkiikchjeapfaaDoor.Rg
variable {P : Program} {s : Value → Bool}

def AllL {α : Type} (p : α → Prop) : List α → Prop
  | [] => True
  | x :: l => p x ∧ AllL p l
theorem AllL.mem {α : Type} {p : α → Prop} : ∀ {l : List α}, AllL p l → ∀ x ∈ l, p x := by
  intro l
  induction l with
  | nil => intro _ x h; cases h
  | cons y l ih =>
    intro h x hx
    rcases List.mem_cons.1 hx with rfl | hx
    · exact h.1
    · exact ih h.2 x hx

/-- A variable: the slot that points to it, its type, what is known of the value that it holds. -/
structure Vr where
  slot : Nat
  ty : TypeId
  val : Pr

/-- A state: G: the variables; D: what is known of slots; wE: the memory at the function's entry; kf: where the variables lie. -/
structure St (s : Value → Bool) (P : Program) (n : Nat) (G : List Vr) (D : List (Nat × Pr)) (wE : World) (kf : Nat → Nat) (a : Act) (w : World) : Prop where
  size : a.tmps.size = n
  defers : a.defers = []
  grow : Grow wE w
  vars : ∀ x ∈ G, a.tmps.getD x.slot undef = .pointer (some ⟨kf x.slot, 0, none⟩) ∧ wE.heap.size ≤ kf x.slot ∧ ∃ cs, w.heap[kf x.slot]? = some (.cells cs x.ty (0, 0)) ∧ Fits s P x.ty cs ∧ x.val w (.agg cs)
  apart : ∀ x ∈ G, ∀ y ∈ G, x.slot ≠ y.slot → kf x.slot ≠ kf y.slot
  facts : ∀ x ∈ D, x.2 w (a.tmps.getD x.1 undef)

/-- What a region makes (operation, slot, type) and stores (operation, the variable's slot, the stored slot, type). -/
structure VS where
  al : List (Nat × Nat × TypeId)
  st : List (Nat × Nat × Nat × TypeId)
def isAl (V : VS) (i : Nat) : Bool := V.al.any fun x => Nat.beq x.1 i
def isSt (V : VS) (i : Nat) : Bool := V.st.any fun x => Nat.beq x.1 i
def slots (G : List Vr) : List (Nat × TypeId) := G.map fun x => (x.slot, x.ty)
def okA (s : Value → Bool) (P : Program) (ops : Array Oper) (G : List (Nat × TypeId)) (x : Nat × Nat × TypeId) : Bool :=
  (match info ops x.1 with
    | some (some p, .alloc t, none) => Nat.beq p x.2.1 && Nat.beq t x.2.2
    | _ => false) && zeroB s P x.2.2 && G.all (fun y => !Nat.beq y.1 x.2.1)
def okS (ops : Array Oper) (G : List (Nat × TypeId)) (V : VS) (x : Nat × Nat × Nat × TypeId) : Bool :=
  (match info ops x.1 with
    | some (none, .store t (.tmp p) (.tmp y), none) => Nat.beq p x.2.1 && Nat.beq y x.2.2.1 && Nat.beq t x.2.2.2
    | _ => false) && depI ops x.1 x.2.2.1 && V.al.all (fun z => !Nat.beq z.2.1 x.2.2.1) &&
  (G.any (fun y => Nat.beq y.1 x.2.1 && Nat.beq y.2 x.2.2.2) || (depI ops x.1 x.2.1 && V.al.any fun z => Nat.beq z.2.1 x.2.1 && Nat.beq z.2.2 x.2.2.2))
def okB (s : Value → Bool) (P : Program) (ops : Array Oper) (G : List (Nat × TypeId)) (V : VS) : Bool :=
  V.al.all (okA s P ops G) && V.st.all (okS ops G V) && G.all (fun y => !(dsts ops).contains y.1) && decide ((V.st.map (·.2.1)).Nodup)

/-- Does operation j wait for operation i? -/
def predI (ops : Array Oper) (j i : Nat) : Bool := match ops[j]? with
  | some o => o.after.any fun e => Region.binds .any e && Nat.beq e.on i
  | none => false
/-- No store into the variable at slot p comes ahead of operation i. -/
def readB (ops : Array Oper) (V : VS) (i p : Nat) : Bool := V.st.all fun x => !Nat.beq x.2.1 p || predI ops x.1 i
/-- Slot d isn't written ahead of operation i. -/
def readS (ops : Array Oper) (i d : Nat) : Bool := ops.toList.zipIdx.all fun x => !(x.1.dst == some d) || (x.1.after.any fun e => Region.binds .any e && Nat.beq e.on i) || Nat.beq x.2 i

section
variable {ops : Array Oper} {Q : Exit → Act → World → Prop} {n : Nat} {F : Facts} {G : List Vr} {D : List (Nat × Pr)} {V : VS} {a0 : Act} {w0 wE : World} {kf0 : Nat → Nat}

/-- What an operation may lean on. -/
structure Ctx (s : Value → Bool) (P : Program) (ops : Array Oper) (F : Facts) (G : List Vr) (D : List (Nat × Pr)) (V : VS) (kf0 : Nat → Nat) (i : Nat) (a : Act) (w : World) : Prop where
  dep : ∀ d, depI ops i d = true → F d w (a.tmps.getD d undef)
  ptr : ∀ x ∈ G, a.tmps.getD x.slot undef = .pointer (some ⟨kf0 x.slot, 0, none⟩)
  rd : ∀ x ∈ G, readB ops V i x.slot = true → ∃ cs, w.heap[kf0 x.slot]? = some (.cells cs x.ty (0, 0)) ∧ Fits s P x.ty cs ∧ x.val w (.agg cs)
  old : ∀ x ∈ D, readS ops i x.1 = true → x.2 w (a.tmps.getD x.1 undef)

/-- What operation i owes. -/
def Step (s : Value → Bool) (P : Program) (ops : Array Oper) (Q : Exit → Act → World → Prop) (F : Facts) (G : List Vr) (D : List (Nat × Pr)) (V : VS) (kf0 : Nat → Nat) (i : Nat) : Prop :=
  ∀ o, ops[i]? = some o → ∀ a w, Ctx s P ops F G D V kf0 i a w → wpOp P ops Q i (fun a' w' => ∃ v, a' = a.put o.dst v ∧ (∀ d, o.dst = some d → F d w' v) ∧ Grow w w') a w

/-- Which variables there are. -/
def live (G : List Vr) (V : VS) (L : Array Bool) (p : Nat) (t : TypeId) : Prop := (∃ x ∈ G, x.slot = p ∧ x.ty = t) ∨ ∃ i, (i, p, t) ∈ V.al ∧ L.getD i false = true

/-- What holds on the way. -/
structure Inv (s : Value → Bool) (P : Program) (ops : Array Oper) (F : Facts) (n : Nat) (G : List Vr) (V : VS) (a0 : Act) (w0 wE : World) (kf0 kf : Nat → Nat) (L : Array Bool) (a : Act) (w : World) : Prop where
  hk : ∀ x ∈ G, kf x.slot = kf0 x.slot
  size : a.tmps.size = n
  defers : a.defers = []
  gr : Grow wE w
  ev : Evo s w0 w
  keep : ∀ d, (∀ i o, ops[i]? = some o → L.getD i false = true → o.dst ≠ some d) → a.tmps.getD d undef = a0.tmps.getD d undef
  facts : ∀ i o d, ops[i]? = some o → L.getD i false = true → isAl V i = false → o.dst = some d → F d w (a.tmps.getD d undef)
  clos : ∀ i o e, ops[i]? = some o → L.getD i false = true → e ∈ o.after → Region.binds .any e = true → L.getD e.on false = true
  vars : ∀ p t, live G V L p t → a.tmps.getD p undef = .pointer (some ⟨kf p, 0, none⟩) ∧ wE.heap.size ≤ kf p ∧ ∃ cs, w.heap[kf p]? = some (.cells cs t (0, 0)) ∧ Fits s P t cs ∧ ∀ j y t', (j, p, y, t') ∈ V.st → L.getD j false = true → a.tmps.getD y undef = .agg cs
  gval : ∀ x ∈ G, (∀ j y t, (j, x.slot, y, t) ∈ V.st → L.getD j false = false) → ∃ cs, w.heap[kf x.slot]? = some (.cells cs x.ty (0, 0)) ∧ x.val w (.agg cs)
  aval : ∀ i p t, (i, p, t) ∈ V.al → L.getD i false = true → (∀ j y t, (j, p, y, t) ∈ V.st → L.getD j false = false) → w.heap[kf p]? = some (.cells (zeroOf P t) t (0, 0))
  apart : ∀ p t q t', live G V L p t → live G V L q t' → p ≠ q → kf p ≠ kf q

theorem info_some {i : Nat} {x : Option Nat × Op × Option (Nat × Bool)} (h : info ops i = some x) : ∃ o, ops[i]? = some o ∧ o.dst = x.1 ∧ o.op = x.2.1 ∧ o.guard = x.2.2 := by
  unfold info at h
  cases ho : ops[i]? with
  | none => rw [ho] at h; cases h
  | some o =>
    rw [ho, Option.map_some] at h
    injection h with h
    subst h
    exact ⟨o, rfl, rfl, rfl, rfl⟩
theorem al_info (hok : okB s P ops (slots G) V = true) {i p : Nat} {t : TypeId} (h : (i, p, t) ∈ V.al) : (∃ o, ops[i]? = some o ∧ o.dst = some p ∧ o.op = .alloc t ∧ o.guard = none) ∧ zeroB s P t = true ∧ ∀ x ∈ G, x.slot ≠ p := by
  simp only [okB, Bool.and_eq_true] at hok
  have h1 := List.all_eq_true.1 hok.1.1.1 _ h
  simp only [okA, Bool.and_eq_true] at h1
  obtain ⟨⟨h1, h2⟩, h3⟩ := h1
  refine ⟨?_, h2, fun x hx e => ?_⟩
  · split at h1
    · next p' t' he =>
      simp only [Bool.and_eq_true] at h1
      have e1 := Nat.eq_of_beq_eq_true h1.1
      have e2 := Nat.eq_of_beq_eq_true h1.2
      subst e1 e2
      obtain ⟨o, ho, a1, a2, a3⟩ := info_some he
      exact ⟨o, ho, a1, a2, a3⟩
    · cases h1
  · have := List.all_eq_true.1 h3 (x.slot, x.ty) (List.mem_map.2 ⟨x, hx, rfl⟩)
    subst e
    simp at this
theorem st_info (hok : okB s P ops (slots G) V = true) {i p y : Nat} {t : TypeId} (h : (i, p, y, t) ∈ V.st) : (∃ o, ops[i]? = some o ∧ o.dst = none ∧ o.op = .store t (.tmp p) (.tmp y) ∧ o.guard = none) ∧ depI ops i y = true ∧ (∀ z ∈ V.al, z.2.1 ≠ y) ∧
    ((∃ x ∈ G, x.slot = p ∧ x.ty = t) ∨ (depI ops i p = true ∧ ∃ j, (j, p, t) ∈ V.al)) := by
  simp only [okB, Bool.and_eq_true] at hok
  have h1 := List.all_eq_true.1 hok.1.1.2 _ h
  simp only [okS, Bool.and_eq_true, Bool.or_eq_true] at h1
  obtain ⟨⟨⟨h1, h2⟩, h3⟩, h4⟩ := h1
  refine ⟨?_, h2, fun z hz e => ?_, ?_⟩
  · split at h1
    · next t' p' y' he =>
      simp only [Bool.and_eq_true] at h1
      have e1 := Nat.eq_of_beq_eq_true h1.1.1
      have e2 := Nat.eq_of_beq_eq_true h1.1.2
      have e3 := Nat.eq_of_beq_eq_true h1.2
      subst e1 e2 e3
      obtain ⟨o, ho, a1, a2, a3⟩ := info_some he
      exact ⟨o, ho, a1, a2, a3⟩
    · cases h1
  · have := List.all_eq_true.1 h3 z hz
    subst e
    simp at this
  · rcases h4 with h4 | ⟨h4, h5⟩
    · obtain ⟨z, hz, e⟩ := List.any_eq_true.1 h4
      obtain ⟨x, hx, rfl⟩ := List.mem_map.1 hz
      simp only [Bool.and_eq_true] at e
      exact .inl ⟨x, hx, Nat.eq_of_beq_eq_true e.1, Nat.eq_of_beq_eq_true e.2⟩
    · obtain ⟨⟨j, q, u⟩, hz, e⟩ := List.any_eq_true.1 h5
      simp only [Bool.and_eq_true] at e
      have e1 := Nat.eq_of_beq_eq_true e.1
      have e2 := Nat.eq_of_beq_eq_true e.2
      subst e1 e2
      exact .inr ⟨h4, j, hz⟩
theorem g_dst (hok : okB s P ops (slots G) V = true) {x : Vr} (hx : x ∈ G) : (dsts ops).contains x.slot = false := by
  simp only [okB, Bool.and_eq_true] at hok
  have := List.all_eq_true.1 hok.1.2 (x.slot, x.ty) (List.mem_map.2 ⟨x, hx, rfl⟩)
  simpa using this
theorem st_one (hok : okB s P ops (slots G) V = true) {i j p y z : Nat} {t u : TypeId} (h : (i, p, y, t) ∈ V.st) (h' : (j, p, z, u) ∈ V.st) : i = j ∧ y = z ∧ t = u := by
  simp only [okB, Bool.and_eq_true, decide_eq_true_eq] at hok
  have key : ∀ (l : List (Nat × Nat × Nat × TypeId)), (l.map (·.2.1)).Nodup → (i, p, y, t) ∈ l → (j, p, z, u) ∈ l → (i, p, y, t) = (j, p, z, u) := by
    intro l
    induction l with
    | nil => intro _ h; cases h
    | cons a l ih =>
      intro hn h1 h2
      rw [List.map_cons, List.nodup_cons] at hn
      rcases List.mem_cons.1 h1 with h1 | h1 <;> rcases List.mem_cons.1 h2 with h2 | h2
      · rw [h1, h2]
      · exact absurd (List.mem_map.2 ⟨_, h2, by rw [← h1]⟩) hn.1
      · exact absurd (List.mem_map.2 ⟨_, h1, by rw [← h2]⟩) hn.1
      · exact ih hn.2 h1 h2
  have := key V.st hok.2 h h'
  simp only [Prod.mk.injEq] at this
  exact ⟨this.1, this.2.2.1, this.2.2.2⟩
theorem dep_writer {i d : Nat} {o : Oper} (ho : ops[i]? = some o) (h : depI ops i d = true) : ∃ e ∈ o.after, Region.binds .any e = true ∧ ∃ q, ops[e.on]? = some q ∧ q.dst = some d := by
  rw [depI_eq ho] at h
  unfold depB at h
  rw [Array.any_eq_true] at h
  obtain ⟨k, hk, hd⟩ := h
  simp only [Bool.and_eq_true, beq_iff_eq] at hd
  cases hq : ops[(o.after[k]).on]? with
  | none => rw [hq] at hd; cases hd.2
  | some q => exact ⟨o.after[k], Array.getElem_mem hk, hd.1, q, hq, by rw [hq] at hd; exact hd.2⟩
theorem isAl_iff {i : Nat} : isAl V i = true ↔ ∃ p t, (i, p, t) ∈ V.al := by
  unfold isAl
  rw [List.any_eq_true]
  constructor
  · rintro ⟨⟨j, p, t⟩, h, e⟩
    have := Nat.eq_of_beq_eq_true e
    simp only at this
    subst this
    exact ⟨p, t, h⟩
  · rintro ⟨p, t, h⟩
    exact ⟨_, h, by simp⟩
theorem isSt_iff {i : Nat} : isSt V i = true ↔ ∃ p y t, (i, p, y, t) ∈ V.st := by
  unfold isSt
  rw [List.any_eq_true]
  constructor
  · rintro ⟨⟨j, p, y, t⟩, h, e⟩
    have := Nat.eq_of_beq_eq_true e
    simp only at this
    subst this
    exact ⟨p, y, t, h⟩
  · rintro ⟨p, y, t, h⟩
    exact ⟨_, h, by simp⟩
theorem put_other {a : Act} {dst : Option Nat} {v : Value} {e : Nat} (h : dst ≠ some e) : (a.put dst v).tmps.getD e undef = a.tmps.getD e undef := by
  cases dst with
  | none => rfl
  | some d =>
    have hne : d ≠ e := fun x => h (by rw [x])
    simp only [Act.put, Array.getD_eq_getD_getElem?, Array.getElem?_setIfInBounds]
    simp [hne]
theorem put_size (a : Act) (dst : Option Nat) (v : Value) : (a.put dst v).tmps.size = a.tmps.size := by
  cases dst <;> simp [Act.put]
theorem put_defers (a : Act) (dst : Option Nat) (v : Value) : (a.put dst v).defers = a.defers := by
  cases dst <;> rfl
theorem set_get {L : Array Bool} {i j : Nat} (h : (L.setIfInBounds i true).getD j false = true) : j = i ∨ L.getD j false = true := by
  by_cases e : i = j
  · exact .inl e.symm
  · exact .inr (getD_set h e)
theorem set_keep {L : Array Bool} {i j : Nat} (h : L.getD j false = true) : (L.setIfInBounds i true).getD j false = true := by
  rw [Array.getD_eq_getD_getElem?, Array.getElem?_setIfInBounds]
  by_cases e : i = j
  · subst e
    have : i < L.size := by
      rcases Nat.lt_or_ge i L.size with h' | h'
      · exact h'
      · rw [Array.getD_eq_getD_getElem?, Array.getElem?_eq_none h'] at h; cases h
    simp [this]
  · rw [if_neg e, ← Array.getD_eq_getD_getElem?]; exact h
theorem set_self {L : Array Bool} {i : Nat} (h : i < L.size) : (L.setIfInBounds i true).getD i false = true := by
  rw [Array.getD_eq_getD_getElem?, Array.getElem?_setIfInBounds]
  simp [h]

/-- What a slot holds that a done operation wrote is not written again. -/
theorem not_again (hwf : wfV n ops = true) {L : Array Bool} {i : Nat} {o : Oper} (hi : ops[i]? = some o) (hLi : L.getD i false = false) {e : Nat} (h : ∃ j q, ops[j]? = some q ∧ q.dst = some e ∧ L.getD j false = true) : o.dst ≠ some e := by
  intro hd
  obtain ⟨j, q, hj, hq, hLj⟩ := h
  simp only [wfV, Bool.and_eq_true, decide_eq_true_eq] at hwf
  have hi' : ops.toList[i]? = some o := by rw [Array.getElem?_toList]; exact hi
  have hj' : ops.toList[j]? = some q := by rw [Array.getElem?_toList]; exact hj
  have := nodup_filterMap_idx (fun x : Oper => x.dst) ops.toList hwf.1.2 i j o q e hi' hj' hd hq
  subst this
  rw [hLi] at hLj
  cases hLj
theorem not_var (hwf : wfV n ops = true) (hok : okB s P ops (slots G) V = true) {L : Array Bool} {i : Nat} {o : Oper} (hi : ops[i]? = some o) (hLi : L.getD i false = false) {p : Nat} {t : TypeId} (h : live G V L p t) : o.dst ≠ some p := by
  rcases h with ⟨x, hx, rfl, rfl⟩ | ⟨j, hj, hL⟩
  · intro hd
    have h1 := g_dst hok hx
    have h2 := mem_dsts hi hd
    rw [List.contains_eq_mem] at h1
    simp [h2] at h1
  · obtain ⟨⟨q, hq, hqd, _⟩, _⟩ := al_info hok hj
    exact not_again hwf hi hLi ⟨j, q, hq, hqd, hL⟩
theorem src_done (hok : okB s P ops (slots G) V = true) {kf : Nat → Nat} {L : Array Bool} {a : Act} {w : World} (hI : Inv s P ops F n G V a0 w0 wE kf0 kf L a w) {j p y : Nat} {t : TypeId} (h : (j, p, y, t) ∈ V.st) (hL : L.getD j false = true) : ∃ m q, ops[m]? = some q ∧ q.dst = some y ∧ L.getD m false = true := by
  obtain ⟨⟨o, ho, _⟩, hdep, _⟩ := st_info hok h
  obtain ⟨e, he, hb, q, hq, hqd⟩ := dep_writer ho hdep
  exact ⟨e.on, q, hq, hqd, hI.clos j o e ho hL he hb⟩
theorem live_set {L : Array Bool} {i p : Nat} {t : TypeId} (h : live G V (L.setIfInBounds i true) p t) : live G V L p t ∨ (i, p, t) ∈ V.al := by
  rcases h with h | ⟨j, hj, hL⟩
  · exact .inl (.inl h)
  · rcases set_get hL with e | e
    · subst e; exact .inr hj
    · exact .inl (.inr ⟨j, hj, e⟩)
theorem clos_set {kf : Nat → Nat} {L : Array Bool} {a : Act} {w : World} (hI : Inv s P ops F n G V a0 w0 wE kf0 kf L a w) {i : Nat} {o : Oper} (hi : ops[i]? = some o) (hdone : ∀ e, e ∈ o.after → Region.binds .any e = true → L.getD e.on false = true) :
    ∀ j q e, ops[j]? = some q → (L.setIfInBounds i true).getD j false = true → e ∈ q.after → Region.binds .any e = true → (L.setIfInBounds i true).getD e.on false = true := by
  intro j q e hj hL he hb
  rcases set_get hL with e1 | e1
  · subst e1
    rw [hi] at hj
    injection hj with hj
    subst hj
    exact set_keep (hdone e he hb)
  · exact set_keep (hI.clos j q e hj e1 he hb)

end
end Go.Proofs.YtlkiikchjeapfaaDoor.Z
