/- The calculus of whole functions: the rule for a region. No program is named here. -/
import Derived.Test.YtlkiikchjeapfaaGreatDoorZs
namespace Go.Proofs.YtlkiikchjeapfaaGreatDoor.Z
open Go.RowKit Go.Proofs.YtlkiikchjeapfaaGreatDoor.Rg
variable {P : Program} {s : Value → Bool}
section
variable {ops : Array Oper} {Q : Exit → Act → World → Prop} {n : Nat} {F : Facts} {G : List Vr} {D : List (Nat × Pr)} {V : VS} {a0 : Act} {w0 wE : World} {kf0 : Nat → Nat}

/-- An operation that only makes memory. -/
theorem inv_plain (hwf : wfV n ops = true) (hok : okB s P ops (slots G) V = true) (hF : ∀ d, Stb s (F d)) (hGs : ∀ x ∈ G, Stb s x.val) {kf : Nat → Nat} {L : Array Bool} {a : Act} {w : World} (hI : Inv s P ops F n G V a0 w0 wE kf0 kf L a w) {i : Nat} {o : Oper} (hi : ops[i]? = some o) (hLs : i < L.size) (hLi : L.getD i false = false)
    (hdone : ∀ e, e ∈ o.after → Region.binds .any e = true → L.getD e.on false = true) (hna : isAl V i = false) (hns : isSt V i = false) {v : Value} {w' : World} (hv : ∀ d, o.dst = some d → F d w' v) (hg : Grow w w') :
    Inv s P ops F n G V a0 w0 wE kf0 kf (L.setIfInBounds i true) (a.put o.dst v) w' := by
  have hlive : ∀ p t, live G V (L.setIfInBounds i true) p t → live G V L p t := fun p t h => (live_set h).elim id fun h' => by
    have := isAl_iff.2 ⟨p, t, h'⟩
    rw [hna] at this
    cases this
  have hst : ∀ j p y t, (j, p, y, t) ∈ V.st → (L.setIfInBounds i true).getD j false = true → L.getD j false = true := fun j p y t h hL => (set_get hL).elim (fun e => by
    subst e
    have := isSt_iff.2 ⟨p, y, t, h⟩
    rw [hns] at this
    cases this) id
  have hblk : ∀ {k : Nat} {x : Obj}, w.heap[k]? = some x → w'.heap[k]? = some x := fun {k x} h => (Below.block hg k (Array.getElem?_eq_some_iff.1 h).1).trans h
  have hev : Evo s w w' := Evo.of_grow hg
  have hback : ∀ j, L.getD j false = true → (L.setIfInBounds i true).getD j false = true := fun j h => set_keep h
  have hnot : ∀ j, (L.setIfInBounds i true).getD j false = false → L.getD j false = false := fun j h => by
    cases h' : L.getD j false with
    | false => rfl
    | true => rw [hback j h'] at h; cases h
  refine ⟨hI.hk, by rw [put_size]; exact hI.size, by rw [put_defers]; exact hI.defers, hI.gr.trans hg, hI.ev.trans hev, fun d hd => ?_, fun j q d hj hL hj2 hd => ?_, clos_set hI hi hdone, fun p t hp => ?_, fun x hx h => ?_, fun j p t hj hL h => ?_, fun p t q t' hp hq => hI.apart p t q t' (hlive p t hp) (hlive q t' hq)⟩
  · rw [put_other (fun hd' => hd i o hi (set_self hLs) hd')]
    exact hI.keep d fun j q hj hL => hd j q hj (set_keep hL)
  · rcases set_get hL with e | e
    · subst e
      rw [hi] at hj
      injection hj with hj
      subst hj
      have hlt : d < a.tmps.size := by
        rw [hI.size]
        simp only [wfV, Bool.and_eq_true] at hwf
        have := List.all_eq_true.1 hwf.1.1 d (mem_dsts hi hd)
        simpa using this
      rw [hd, put_getD a d d v hlt, if_pos rfl]
      exact hv d hd
    · rw [put_other (not_again hwf hi hLi ⟨j, q, hj, hd, e⟩)]
      exact hF d _ _ _ (hI.facts j q d hj e hj2 hd) hev
  · obtain ⟨h1, h2, cs, h3, h4, h5⟩ := hI.vars p t (hlive p t hp)
    refine ⟨by rw [put_other (not_var hwf hok hi hLi (hlive p t hp))]; exact h1, h2, cs, hblk h3, h4, fun j y t' hj hL => ?_⟩
    have hL' := hst j p y t' hj hL
    rw [put_other (not_again hwf hi hLi (src_done hok hI hj hL'))]
    exact h5 j y t' hj hL'
  · obtain ⟨cs, h1, h2⟩ := hI.gval x hx fun j y t hj => hnot j (h j y t hj)
    exact ⟨cs, hblk h1, hGs x hx _ _ _ h2 hev⟩
  · have hL' : L.getD j false = true := (set_get hL).elim (fun e => by
      subst e
      have := isAl_iff.2 ⟨p, t, hj⟩
      rw [hna] at this
      cases this) id
    exact hblk (hI.aval j p t hj hL' fun m y t' hm => hnot m (h m y t' hm))

/-- An operation that makes a variable. -/
theorem inv_alloc (hwf : wfV n ops = true) (hok : okB s P ops (slots G) V = true) (hF : ∀ d, Stb s (F d)) (hGs : ∀ x ∈ G, Stb s x.val) {kf : Nat → Nat} {L : Array Bool} {a : Act} {w : World} (hI : Inv s P ops F n G V a0 w0 wE kf0 kf L a w) {i p : Nat} {t : TypeId} (hal : (i, p, t) ∈ V.al) {o : Oper} (hi : ops[i]? = some o) (hd : o.dst = some p) (hLs : i < L.size) (hLi : L.getD i false = false)
    (hdone : ∀ e, e ∈ o.after → Region.binds .any e = true → L.getD e.on false = true) (hns : isSt V i = false) (hz : zeroB s P t = true) (hfit : Fits s P t (zeroOf P t)) (hpG : ∀ x ∈ G, x.slot ≠ p) :
    Inv s P ops F n G V a0 w0 wE kf0 (fun q => if q = p then w.heap.size else kf q) (L.setIfInBounds i true) (a.put o.dst (.pointer (some ⟨w.heap.size, 0, none⟩))) (w.alloc (.cells (zeroOf P t) t)) := by
  have hg : Grow w (w.alloc (.cells (zeroOf P t) t)) := (Grow.refl w).alloc _
  have hev : Evo s w (w.alloc (.cells (zeroOf P t) t)) := Evo.of_grow hg
  have hblk : ∀ {k : Nat} {x : Obj}, w.heap[k]? = some x → (w.alloc (.cells (zeroOf P t) t)).heap[k]? = some x := fun {k x} h => (Below.block hg k (Array.getElem?_eq_some_iff.1 h).1).trans h
  have hnew : (w.alloc (.cells (zeroOf P t) t)).heap[w.heap.size]? = some (.cells (zeroOf P t) t (0, 0)) := by unfold World.alloc; exact Array.getElem?_push_size
  have hlt : p < a.tmps.size := by
    rw [hI.size]
    have hwf' := hwf
    simp only [wfV, Bool.and_eq_true] at hwf'
    have := List.all_eq_true.1 hwf'.1.1 p (mem_dsts hi hd)
    simpa using this
  have hst : ∀ j p y t, (j, p, y, t) ∈ V.st → (L.setIfInBounds i true).getD j false = true → L.getD j false = true := fun j p y t h hL => (set_get hL).elim (fun e => by
    subst e
    have := isSt_iff.2 ⟨p, y, t, h⟩
    rw [hns] at this
    cases this) id
  have hnot : ∀ j, (L.setIfInBounds i true).getD j false = false → L.getD j false = false := fun j h => by
    cases h' : L.getD j false with
    | false => rfl
    | true => rw [set_keep h'] at h; cases h
  have hone : ∀ q u, (i, q, u) ∈ V.al → q = p := fun q u h => by
    obtain ⟨⟨o', ho', hd', _⟩, _⟩ := al_info hok h
    rw [hi] at ho'
    injection ho' with ho'
    subst ho'
    rw [hd] at hd'
    injection hd' with hd'
    exact hd'.symm
  have hpn : ∀ q u, live G V L q u → q ≠ p := fun q u h e => not_var hwf hok hi hLi h (by rw [hd, e])
  have hty : ∀ u, (i, p, u) ∈ V.al → u = t := fun u h => by
    obtain ⟨⟨o', ho', _, hop, _⟩, _⟩ := al_info hok h
    obtain ⟨⟨o2, ho2, _, hop2, _⟩, _⟩ := al_info hok hal
    rw [ho2] at ho'
    injection ho' with ho'
    subst ho'
    rw [hop2] at hop
    injection hop with hop
    exact hop.symm
  refine ⟨fun x hx => by rw [if_neg (hpG x hx)]; exact hI.hk x hx, by rw [put_size]; exact hI.size, by rw [put_defers]; exact hI.defers, hI.gr.trans hg, hI.ev.trans hev, fun d hdd => ?_, fun j q d hj hL hj2 hdd => ?_, clos_set hI hi hdone, fun q u hq => ?_, fun x hx h => ?_, fun j q u hj hL h => ?_, fun q u r u' hq hr hqr => ?_⟩
  · rw [put_other (fun hd' => hdd i o hi (set_self hLs) hd')]
    exact hI.keep d fun j q hj hL => hdd j q hj (set_keep hL)
  · rcases set_get hL with e | e
    · subst e
      have := isAl_iff.2 ⟨p, t, hal⟩
      rw [hj2] at this
      cases this
    · rw [put_other (not_again hwf hi hLi ⟨j, q, hj, hdd, e⟩)]
      exact hF d _ _ _ (hI.facts j q d hj e hj2 hdd) hev
  · rcases live_set hq with hq | hq
    · obtain ⟨h1, h2, cs, h3, h4, h5⟩ := hI.vars q u hq
      simp only [if_neg (hpn q u hq)]
      refine ⟨by rw [put_other (not_var hwf hok hi hLi hq)]; exact h1, h2, cs, hblk h3, h4, fun j y t' hj hL => ?_⟩
      have hL' := hst j q y t' hj hL
      rw [put_other (not_again hwf hi hLi (src_done hok hI hj hL'))]
      exact h5 j y t' hj hL'
    · have e := hone q u hq
      subst e
      have e2 := hty u hq
      subst e2
      simp only [if_true]
      refine ⟨by rw [hd, put_getD a q q _ hlt, if_pos rfl], hI.gr.size, _, hnew, hfit, fun j y t' hj hL => ?_⟩
      exfalso
      have hL' := hst j q y t' hj hL
      obtain ⟨⟨oj, hoj, _⟩, _, _, hor⟩ := st_info hok hj
      rcases hor with ⟨x, hx, e, _⟩ | ⟨hdep, m, hm⟩
      · exact hpG x hx e
      · obtain ⟨e, he, hb, r, hr, hrd⟩ := dep_writer hoj hdep
        have hLe := hI.clos j oj e hoj hL' he hb
        exact not_again hwf hi hLi ⟨e.on, r, hr, hrd, hLe⟩ hd
  · simp only [if_neg (hpG x hx)]
    obtain ⟨cs, h1, h2⟩ := hI.gval x hx fun j y t hj => hnot j (h j y t hj)
    exact ⟨cs, hblk h1, hGs x hx _ _ _ h2 hev⟩
  · rcases set_get hL with e | e
    · subst e
      have e := hone q u hj
      subst e
      have e2 := hty u hj
      subst e2
      simp only [if_true]
      exact hnew
    · simp only [if_neg (hpn q u (.inr ⟨j, hj, e⟩))]
      exact hblk (hI.aval j q u hj e fun m y t' hm => hnot m (h m y t' hm))
  · have hfresh : ∀ q u, live G V L q u → kf q < w.heap.size := fun q u h => by
      obtain ⟨_, _, cs, h3, _⟩ := hI.vars q u h
      exact (Array.getElem?_eq_some_iff.1 h3).1
    rcases live_set hq with hq | hq <;> rcases live_set hr with hr | hr
    · simp only [if_neg (hpn q u hq), if_neg (hpn r u' hr)]
      exact hI.apart q u r u' hq hr hqr
    · have e := hone r u' hr
      subst e
      simp only [if_neg (hpn q u hq), if_true]
      have := hfresh q u hq
      omega
    · have e := hone q u hq
      subst e
      simp only [if_neg (hpn r u' hr), if_true]
      have := hfresh r u' hr
      omega
    · exact absurd ((hone q u hq).trans (hone r u' hr).symm) hqr

/-- A store. -/
theorem inv_store (hok : okB s P ops (slots G) V = true) (hF : ∀ d, Stb s (F d)) (hGs : ∀ x ∈ G, Stb s x.val) {kf : Nat → Nat} {L : Array Bool} {a : Act} {w : World} (hI : Inv s P ops F n G V a0 w0 wE kf0 kf L a w) {i p y : Nat} {t : TypeId} (hst : (i, p, y, t) ∈ V.st) {o : Oper} (hi : ops[i]? = some o) (hd : o.dst = none) (hLs : i < L.size) (hLi : L.getD i false = false)
    (hdone : ∀ e, e ∈ o.after → Region.binds .any e = true → L.getD e.on false = true) (hna : isAl V i = false) (hlp : live G V L p t) {cs : Array Value} (hy : a.tmps.getD y undef = .agg cs) (hfit : Fits s P t cs) :
    Inv s P ops F n G V a0 w0 wE kf0 kf (L.setIfInBounds i true) (a.put o.dst undef) (w.setRow (kf p) cs) := by
  have hput : a.put o.dst undef = a := by rw [hd]; rfl
  rw [hput]
  obtain ⟨hp1, hp2, old, hp3, hp4, hp5⟩ := hI.vars p t hlp
  have hev : Evo s w (w.setRow (kf p) cs) := Evo.set hp3 hp4.soft hfit.soft
  have hlive : ∀ p t, live G V (L.setIfInBounds i true) p t → live G V L p t := fun p t h => (live_set h).elim id fun h' => by
    have := isAl_iff.2 ⟨p, t, h'⟩
    rw [hna] at this
    cases this
  have hnot : ∀ j, (L.setIfInBounds i true).getD j false = false → L.getD j false = false := fun j h => by
    cases h' : L.getD j false with
    | false => rfl
    | true => rw [set_keep h'] at h; cases h
  have hself : (w.setRow (kf p) cs).heap[kf p]? = some (.cells cs t (0, 0)) := setRow_heap w (kf p) old cs t _ hp3
  have hoth : ∀ {k : Nat}, k ≠ kf p → (w.setRow (kf p) cs).heap[k]? = w.heap[k]? := fun {k} h => setRow_other w (kf p) k cs h
  refine ⟨hI.hk, hI.size, hI.defers, grow_set hI.gr hp2 cs, hI.ev.trans hev, fun d hdd => hI.keep d fun j q hj hL => hdd j q hj (set_keep hL), fun j q d hj hL hj2 hdd => ?_, clos_set hI hi hdone, fun q u hq => ?_, fun x hx h => ?_, fun j q u hj hL h => ?_, fun q u r u' hq hr hqr => hI.apart q u r u' (hlive q u hq) (hlive r u' hr) hqr⟩
  · rcases set_get hL with e | e
    · subst e
      rw [hi] at hj
      injection hj with hj
      subst hj
      rw [hd] at hdd
      cases hdd
    · exact hF d _ _ _ (hI.facts j q d hj e hj2 hdd) hev
  · have hq' := hlive q u hq
    obtain ⟨h1, h2, cs', h3, h4, h5⟩ := hI.vars q u hq'
    by_cases hqp : q = p
    · subst hqp
      rw [hp3] at h3
      injection h3 with h3
      injection h3 with e1 e2
      subst e2
      refine ⟨h1, h2, cs, hself, hfit, fun j y' t' hj hL => ?_⟩
      obtain ⟨_, e2, _⟩ := st_one hok hst hj
      rw [← e2]
      exact hy
    · have hne : kf q ≠ kf p := hI.apart q u p t hq' hlp hqp
      refine ⟨h1, h2, cs', by rw [hoth hne]; exact h3, h4, fun j y' t' hj hL => ?_⟩
      rcases set_get hL with e | e
      · subst e
        obtain ⟨⟨o1, ho1, _, hop1, _⟩, _⟩ := st_info hok hst
        obtain ⟨⟨o2, ho2, _, hop2, _⟩, _⟩ := st_info hok hj
        rw [ho1] at ho2
        injection ho2 with ho2
        subst ho2
        rw [hop1] at hop2
        injection hop2 with _ hop2 _
        injection hop2 with hop2
        exact absurd hop2.symm hqp
      · exact h5 j y' t' hj e
  · by_cases hxp : x.slot = p
    · exfalso
      have := h i y t (by rw [hxp]; exact hst)
      rw [set_self hLs] at this
      cases this
    · obtain ⟨cs', h1, h2⟩ := hI.gval x hx fun j y t hj => hnot j (h j y t hj)
      exact ⟨cs', by rw [hoth (hI.apart x.slot x.ty p t (.inl ⟨x, hx, rfl, rfl⟩) hlp hxp)]; exact h1, hGs x hx _ _ _ h2 hev⟩
  · have hL' : L.getD j false = true := (set_get hL).elim (fun e => by
      subst e
      have := isAl_iff.2 ⟨q, u, hj⟩
      rw [hna] at this
      cases this) id
    by_cases hqp : q = p
    · exfalso
      have := h i y t (by rw [hqp]; exact hst)
      rw [set_self hLs] at this
      cases this
    · rw [hoth (hI.apart q u p t (.inr ⟨j, hj, hL'⟩) hlp hqp)]
      exact hI.aval j q u hj hL' fun m y t' hm => hnot m (h m y t' hm)

/-- A variable behind the region: stored into, or as it was, or new and 0. -/
def NewV (P : Program) (F : Facts) (G : List Vr) (V : VS) (x : Vr) : Prop :=
  (∃ y ∈ V.st, y.2.1 = x.slot ∧ y.2.2.2 = x.ty ∧ ∀ w v, F y.2.2.1 w v → x.val w v) ∨
  (V.st.all (fun y => !Nat.beq y.2.1 x.slot) = true ∧ ∃ y ∈ G, y.slot = x.slot ∧ y.ty = x.ty ∧ ∀ w v, y.val w v → x.val w v) ∨
  (V.st.all (fun y => !Nat.beq y.2.1 x.slot) = true ∧ ∃ y ∈ V.al, y.2.1 = x.slot ∧ y.2.2 = x.ty ∧ ∀ w, x.val w (.agg (zeroOf P x.ty)))
/-- A slot behind the region: written, or as it was. -/
def NewD (ops : Array Oper) (F : Facts) (D : List (Nat × Pr)) (V : VS) (x : Nat × Pr) : Prop :=
  ((dsts ops).contains x.1 = true ∧ V.al.all (fun z => !Nat.beq z.2.1 x.1) = true ∧ ∀ w v, F x.1 w v → x.2 w v) ∨
  ((dsts ops).contains x.1 = false ∧ ∃ y ∈ D, y.1 = x.1 ∧ ∀ w v, y.2 w v → x.2 w v)

/-- THE RULE: a region leads from state to state. -/
theorem region {id : Nat} {b : Bool} (hm : P.follows .mixedOrders = true) (hS : St s P n G D wE kf0 a0 w0) (F : Facts) (V : VS) (G' : List Vr) (D' : List (Nat × Pr)) (hwf : wfV n ops = true) (hok : okB s P ops (slots G) V = true)
    (hF : ∀ d, Stb s (F d)) (hGs : AllL (fun x : Vr => Stb s x.val) G) (hDs : AllL (fun x : Nat × Pr => Stb s x.2) D)
    (hal : AllL (fun x : Nat × Nat × TypeId => ∀ w v, F x.2.1 w v) V.al) (hst : AllL (fun x : Nat × Nat × Nat × TypeId => ∀ w v, F x.2.2.1 w v → ∃ cs, v = .agg cs ∧ Fits s P x.2.2.2 cs) V.st)
    (step : ∀ i, i < ops.size → isAl V i = false → isSt V i = false → Step s P ops Q F G D V kf0 i)
    (hG' : AllL (NewV P F G V) G') (hD' : AllL (NewD ops F D V) D')
    (fin : ∀ kf a w, St s P n G' D' wE kf a w → Q .normal a w) : (Code.region id ops b).wp P Q a0 w0 := by
  have hGm := hGs.mem
  have hDm := hDs.mem
  have noSt : ∀ {p : Nat}, V.st.all (fun y => !Nat.beq y.2.1 p) = true → ∀ j y t, (j, p, y, t) ∈ V.st → False := by
    intro p h j y t hj
    have := List.all_eq_true.1 h _ hj
    simp at this
  refine region_inv (n := n) (fun L a w => ∃ kf, Inv s P ops F n G V a0 w0 wE kf0 kf L a w) hm hwf ?_ ?_ ?_
  · -- the beginning
    intro w hw
    have hnone : ∀ j, (Array.replicate ops.size false).getD j false = true → False := by
      intro j h
      rw [Array.getD_eq_getD_getElem?, Array.getElem?_replicate] at h
      split at h <;> simp at h
    have hall : ∀ j, (Array.replicate ops.size false).getD j false = false := by
      intro j
      rw [Array.getD_eq_getD_getElem?, Array.getElem?_replicate]
      split <;> rfl
    have hheap : w.heap = w0.heap := by rcases hw with rfl | rfl <;> rfl
    have hg : Grow w0 w := by
      rcases hw with rfl | rfl
      · exact Grow.refl _
      · exact (Grow.refl _).drew
    have hev : Evo s w0 w := Evo.of_grow hg
    refine ⟨kf0, ⟨fun _ _ => rfl, hS.size, hS.defers, hS.grow.trans hg, hev, fun _ _ => rfl, fun i _ _ _ h => (hnone i h).elim, fun i _ _ _ h => (hnone i h).elim, fun p t h => ?_, fun x hx _ => ?_, fun i _ _ _ h => (hnone i h).elim, fun p t q t' hp hq hpq => ?_⟩⟩
    · rcases h with ⟨x, hx, rfl, rfl⟩ | ⟨i, _, h⟩
      · obtain ⟨h1, h2, cs, h3, h4, _⟩ := hS.vars x hx
        exact ⟨h1, h2, cs, by rw [hheap]; exact h3, h4, fun j _ _ _ h => (hnone j h).elim⟩
      · exact (hnone i h).elim
    · obtain ⟨_, _, cs, h3, _, h5⟩ := hS.vars x hx
      exact ⟨cs, by rw [hheap]; exact h3, hGm x hx _ _ _ h5 hev⟩
    · rcases hp with ⟨x, hx, rfl, rfl⟩ | ⟨i, _, h⟩
      · rcases hq with ⟨y, hy, rfl, rfl⟩ | ⟨i, _, h⟩
        · exact hS.apart x hx y hy hpq
        · exact (hnone i h).elim
      · exact (hnone i h).elim
  · -- a step
    rintro L i o a w hL hi hLi hdone ⟨kf, hI⟩
    have hLs : i < L.size := by
      rw [hL]
      exact (Array.getElem?_eq_some_iff.1 hi).1
    have hdepw : ∀ d, depI ops i d = true → ∃ j q, ops[j]? = some q ∧ q.dst = some d ∧ L.getD j false = true := by
      intro d hd
      obtain ⟨e, he, hb, q, hq, hqd⟩ := dep_writer hi hd
      exact ⟨e.on, q, hq, hqd, hdone e he hb⟩
    have hdepF : ∀ d, depI ops i d = true → F d w (a.tmps.getD d undef) := by
      intro d hd
      obtain ⟨j, q, hj, hq, hLj⟩ := hdepw d hd
      cases hja : isAl V j with
      | false => exact hI.facts j q d hj hLj hja hq
      | true =>
        obtain ⟨p, t, hpt⟩ := isAl_iff.1 hja
        obtain ⟨⟨o', ho', hd', _⟩, _⟩ := al_info hok hpt
        rw [hj] at ho'
        injection ho' with ho'
        subst ho'
        rw [hq] at hd'
        injection hd' with hd'
        subst hd'
        exact hal.mem _ hpt w _
    cases hia : isAl V i with
    | true =>
      obtain ⟨p, t, hpt⟩ := isAl_iff.1 hia
      obtain ⟨⟨o', ho', hd', hop, hgd⟩, hz, hpG⟩ := al_info hok hpt
      rw [hi] at ho'
      injection ho' with ho'
      subst ho'
      have hns : isSt V i = false := by
        cases h : isSt V i with
        | false => rfl
        | true =>
          obtain ⟨p', y', t', h'⟩ := isSt_iff.1 h
          obtain ⟨⟨o2, ho2, hd2, _⟩, _⟩ := st_info hok h'
          rw [hi] at ho2
          injection ho2 with ho2
          subst ho2
          rw [hd'] at hd2
          cases hd2
      refine run_wanted hi (by simp [Region.wanted, hgd]) ?_
      unfold Oper.wp
      rw [run_alloc hz hop]
      exact ⟨_, inv_alloc hwf hok hF hGm hI hpt hi hd' hLs hLi hdone hns hz (zero_fits hz).1 hpG⟩
    | false =>
      cases his : isSt V i with
      | true =>
        obtain ⟨p, y, t, hpt⟩ := isSt_iff.1 his
        obtain ⟨⟨o', ho', hd', hop, hgd⟩, hdy, hny, hor⟩ := st_info hok hpt
        rw [hi] at ho'
        injection ho' with ho'
        subst ho'
        have hlp : live G V L p t := by
          rcases hor with h | ⟨hdp, j, hj⟩
          · exact .inl h
          · obtain ⟨m, q, hm, hq, hLm⟩ := hdepw p hdp
            obtain ⟨⟨o2, ho2, hd2, _⟩, _⟩ := al_info hok hj
            have hwf' := hwf
            simp only [wfV, Bool.and_eq_true, decide_eq_true_eq] at hwf'
            have h1 : ops.toList[j]? = some o2 := by rw [Array.getElem?_toList]; exact ho2
            have h2 : ops.toList[m]? = some q := by rw [Array.getElem?_toList]; exact hm
            have := nodup_filterMap_idx (fun x : Oper => x.dst) ops.toList hwf'.1.2 j m o2 q p h1 h2 hd2 hq
            exact .inr ⟨j, hj, by rw [this]; exact hLm⟩
        obtain ⟨hp1, hp2, old, hp3, hp4, _⟩ := hI.vars p t hlp
        obtain ⟨cs, hcs, hfit⟩ := hst.mem _ hpt w _ (hdepF y hdy)
        have hsz : old.size = cs.size := by
          have h1 := hp4.size
          rw [hfit.size] at h1
          injection h1 with h1
          exact h1.symm
        refine run_wanted hi (by simp [Region.wanted, hgd]) ?_
        unfold Oper.wp
        rw [run_store (ρ := a.eval) hop hp1 hcs hp3 hsz hfit, Oper.upon_skip]
        exact ⟨_, inv_store hok hF hGm hI hpt hi hd' hLs hLi hdone hia hlp hcs hfit⟩
      | false =>
        have hctx : Ctx s P ops F G D V kf0 i a w := by
          refine ⟨hdepF, fun x hx => ?_, fun x hx hr => ?_, fun x hx hr => ?_⟩
          · have := (hI.vars x.slot x.ty (.inl ⟨x, hx, rfl, rfl⟩)).1
            rw [hI.hk x hx] at this
            exact this
          · have hns : ∀ j y t, (j, x.slot, y, t) ∈ V.st → L.getD j false = false := by
              intro j y t hj
              cases h : L.getD j false with
              | false => rfl
              | true =>
                exfalso
                have := List.all_eq_true.1 hr _ hj
                simp only [Bool.or_eq_true, Bool.not_eq_true'] at this
                rcases this with h1 | h1
                · simp at h1
                · unfold predI at h1
                  obtain ⟨⟨oj, hoj, _⟩, _⟩ := st_info hok hj
                  rw [hoj] at h1
                  simp only at h1
                  rw [Array.any_eq_true] at h1
                  obtain ⟨k, hk, h1⟩ := h1
                  simp only [Bool.and_eq_true] at h1
                  have h2 := hI.clos j oj _ hoj h (Array.getElem_mem hk) h1.1
                  rw [Nat.eq_of_beq_eq_true h1.2, hLi] at h2
                  cases h2
            obtain ⟨cs, h1, h2⟩ := hI.gval x hx hns
            obtain ⟨_, _, cs', h3, h4, _⟩ := hI.vars x.slot x.ty (.inl ⟨x, hx, rfl, rfl⟩)
            rw [h1] at h3
            injection h3 with h3
            injection h3 with h3
            subst h3
            rw [hI.hk x hx] at h1
            exact ⟨cs, h1, h4, h2⟩
          · have hk : a.tmps.getD x.1 undef = a0.tmps.getD x.1 undef := by
              refine hI.keep x.1 fun j q hj hLj hqd => ?_
              have hz : (q, j) ∈ ops.toList.zipIdx := by
                rw [List.mem_zipIdx_iff_getElem?, Array.getElem?_toList]
                exact hj
              have h1 := List.all_eq_true.1 hr _ hz
              simp only [Bool.or_eq_true, Bool.not_eq_true'] at h1
              rcases h1 with (h1 | h1) | h1
              · rw [hqd] at h1; simp at h1
              · rw [Array.any_eq_true] at h1
                obtain ⟨k, hk, h1⟩ := h1
                simp only [Bool.and_eq_true] at h1
                have h2 := hI.clos j q _ hj hLj (Array.getElem_mem hk) h1.1
                rw [Nat.eq_of_beq_eq_true h1.2, hLi] at h2
                cases h2
              · rw [Nat.eq_of_beq_eq_true h1, hLi] at hLj
                cases hLj
            rw [hk]
            exact hDm x hx _ _ _ (hS.facts x hx) hI.ev
        refine wpOp_mono ?_ (step i (by rw [← hL]; exact hLs) hia his o hi a w hctx)
        rintro a' w' ⟨v, rfl, hv, hg⟩
        exact ⟨kf, inv_plain hwf hok hF hGm hI hi hLs hLi hdone hia his hv hg⟩
  · -- the end
    rintro L a w hall ⟨kf, hI⟩
    have hdn : ∀ {i o}, ops[i]? = some o → L.getD i false = true := fun {i o} h => hall i (Array.getElem?_eq_some_iff.1 h).1
    have hF2 : ∀ d, (dsts ops).contains d = true → (∀ z ∈ V.al, z.2.1 ≠ d) → F d w (a.tmps.getD d undef) := by
      intro d hd hna
      have hd' : d ∈ dsts ops := by simpa using hd
      unfold dsts at hd'
      obtain ⟨o, ho, hod⟩ := List.mem_filterMap.1 hd'
      obtain ⟨i, hi, rfl⟩ := List.getElem_of_mem ho
      have hi2 : i < ops.size := by simpa using hi
      have hoi : ops[i]? = some ops.toList[i] := by rw [Array.getElem?_eq_getElem hi2]; simp
      refine hI.facts i _ d hoi (hdn hoi) ?_ hod
      cases hal' : isAl V i with
      | false => rfl
      | true =>
        exfalso
        obtain ⟨p, t, hpt⟩ := isAl_iff.1 hal'
        obtain ⟨⟨o', ho', hd', _⟩, _⟩ := al_info hok hpt
        rw [hoi] at ho'
        injection ho' with ho'
        rw [← ho', hod] at hd'
        injection hd' with hd'
        exact hna _ hpt hd'.symm
    have hFy : ∀ {j p y t}, (j, p, y, t) ∈ V.st → F y w (a.tmps.getD y undef) := by
      intro j p y t hj
      obtain ⟨⟨oj, hoj, _⟩, hdep, hny, _⟩ := st_info hok hj
      obtain ⟨e, he, hb, q, hq, hqd⟩ := dep_writer hoj hdep
      refine hF2 y ?_ hny
      have := mem_dsts hq hqd
      simpa using this
    have hlv : ∀ x : Vr, NewV P F G V x → live G V L x.slot x.ty := by
      intro x hx
      have hAl : ∀ y ∈ V.al, y.2.1 = x.slot → y.2.2 = x.ty → live G V L x.slot x.ty := by
        rintro ⟨i, p, t⟩ hy e1 e2
        simp only at e1 e2
        subst e1 e2
        obtain ⟨⟨o, ho, _⟩, _⟩ := al_info hok hy
        exact .inr ⟨i, hy, hdn ho⟩
      rcases hx with ⟨⟨j, p, y, t⟩, hy, e1, e2, _⟩ | ⟨_, y, hy, e1, e2, _⟩ | ⟨_, y, hy, e1, e2, _⟩
      · simp only at e1 e2
        subst e1 e2
        obtain ⟨_, _, _, hor⟩ := st_info hok hy
        rcases hor with h | ⟨_, m, hm⟩
        · exact .inl h
        · exact hAl _ hm rfl rfl
      · exact .inl ⟨y, hy, e1, e2⟩
      · exact hAl y hy e1 e2
    refine fin kf a w ⟨hI.size, hI.defers, hI.gr, fun x hx => ?_, fun x hx y hy hxy => hI.apart _ _ _ _ (hlv x (hG'.mem x hx)) (hlv y (hG'.mem y hy)) hxy, fun x hx => ?_⟩
    · have hnv := hG'.mem x hx
      obtain ⟨h1, h2, cs, h3, h4, h5⟩ := hI.vars x.slot x.ty (hlv x hnv)
      refine ⟨h1, h2, cs, h3, h4, ?_⟩
      rcases hnv with ⟨⟨j, p, y, t⟩, hy, e1, e2, e3⟩ | ⟨hns, y, hy, e1, e2, e3⟩ | ⟨hns, ⟨i, p, t⟩, hy, e1, e2, e3⟩
      · simp only at e1 e2 e3
        subst e1 e2
        have hyv := hFy hy
        obtain ⟨⟨oj, hoj, _⟩, _⟩ := st_info hok hy
        have := h5 j y x.ty hy (hdn hoj)
        rw [this] at hyv
        exact e3 w _ hyv
      · obtain ⟨cs', h6, h7⟩ := hI.gval y hy fun j z t hj => (noSt hns j z t (by rw [← e1]; exact hj)).elim
        rw [e1, h3] at h6
        injection h6 with h6
        injection h6 with h6
        subst h6
        exact e3 w _ h7
      · simp only at e1 e2
        subst e1 e2
        obtain ⟨⟨o, ho, _⟩, _⟩ := al_info hok hy
        have h6 := hI.aval i x.slot x.ty hy (hdn ho) fun j z t hj => (noSt hns j z t hj).elim
        rw [h3] at h6
        injection h6 with h6
        injection h6 with h6
        subst h6
        exact e3 w
    · rcases hD'.mem x hx with ⟨h1, h2, h3⟩ | ⟨h1, y, hy, e, h3⟩
      · refine h3 w _ (hF2 x.1 h1 fun z hz e => ?_)
        have := List.all_eq_true.1 h2 z hz
        rw [e] at this
        simp at this
      · refine h3 w _ ?_
        rw [← e]
        have hk : a.tmps.getD y.1 undef = a0.tmps.getD y.1 undef := by
          refine hI.keep y.1 fun j q hj _ hqd => ?_
          have h2 := mem_dsts hj hqd
          rw [← e, List.contains_eq_mem] at h1
          simp [h2] at h1
        rw [hk]
        exact hDm y hy _ _ _ (hS.facts y hy) hI.ev
end
end Go.Proofs.YtlkiikchjeapfaaGreatDoor.Z
