/- A region whose order is open, as Rg has it, with two things more: a slot's fact may speak of the slots on which it hangs; and in the end the frame is told as it is written. No program is named here. -/
import Derived.Test.YtckcjiojfpaikaaDoorRg
namespace Go.Proofs.YtckcjiojfpaikaaDoor.Rg
open Go.RowKit
variable {P : Program} {ops : Array Oper} {Q : Exit → Act → World → Prop}

/-- What is known of slots, told with all slots' values. -/
abbrev Facts2 := Nat → (Nat → Value) → World → Value → Prop
/-- A frame's slots. -/
def vals (a : Act) : Nat → Value := fun d => a.tmps.getD d undef

def Step2 (P : Program) (ops : Array Oper) (Q : Exit → Act → World → Prop) (F : Facts2) (a0 : Act) (w0 : World) (i : Nat) : Prop :=
  ∀ o, ops[i]? = some o → ∀ a w, Grow w0 w → Agree ops a0 a → (∀ d, depB ops o d = true → F d (vals a) w (vals a d)) →
    wpOp P ops Q i (fun a' w' => ∃ v, a' = a.put o.dst v ∧ (∀ d, o.dst = some d → F d (vals a) w' v) ∧ Grow w w') a w

/-- Each slot's fact speaks of slots on which it hangs. -/
def readsB (ops : Array Oper) (reads : List (Nat × Nat)) : Bool := reads.all fun x => ops.all fun o => o.dst != some x.1 || depB ops o x.2

/-- What holds on the way. -/
def Inv2 (ops : Array Oper) (F : Facts2) (a0 : Act) (w0 : World) (L : Array Bool) (a : Act) (w : World) : Prop :=
  Grow w0 w ∧ Agree ops a0 a ∧ (∀ i o d, ops[i]? = some o → L.getD i false = true → o.dst = some d → F d (vals a) w (vals a d)) ∧
    (∀ i o d, ops[i]? = some o → L.getD i false = true → depB ops o d = true → ∃ j p, ops[j]? = some p ∧ p.dst = some d ∧ L.getD j false = true)

section
variable {F : Facts2} {a0 : Act} {w0 : World} {n : Nat} {reads : List (Nat × Nat)}

theorem set_true {L : Array Bool} {i j : Nat} (h : L.getD j false = true) : (L.setIfInBounds i true).getD j false = true := by
  rw [Array.getD_eq_getD_getElem?] at h ⊢
  rw [Array.getElem?_setIfInBounds]
  split
  · next hij =>
    subst hij
    split
    · rfl
    · next hs => rw [Array.getElem?_eq_none (by omega)] at h; cases h
  · exact h
theorem get_set_self {L : Array Bool} {i : Nat} (h : i < L.size) : (L.setIfInBounds i true).getD i false = true := by
  rw [Array.getD_eq_getD_getElem?, Array.getElem?_setIfInBounds, if_pos rfl, if_pos h]
  rfl

theorem inv_step2 (hn : a0.tmps.size = n) (hwf : wfB n ops = true) (hrd : readsB ops reads = true) (hF : ∀ d f w w' v, F d f w v → Grow w w' → F d f w' v) (hV : ∀ d f f' w v, F d f w v → (∀ e, (d, e) ∈ reads → f e = f' e) → F d f' w v)
    {L : Array Bool} {a : Act} {w : World} (hI : Inv2 ops F a0 w0 L a w) {i : Nat} {o : Oper} (hi : ops[i]? = some o) (hLi : L.getD i false = false)
    (hdep : ∀ d, depB ops o d = true → ∃ j p, ops[j]? = some p ∧ p.dst = some d ∧ L.getD j false = true)
    {v : Value} {w' : World} (hv : ∀ d, o.dst = some d → F d (vals a) w' v) (hg : Grow w w') : Inv2 ops F a0 w0 (L.setIfInBounds i true) (a.put o.dst v) w' := by
  obtain ⟨h1, h2, h3, h4⟩ := hI
  simp only [wfB, Bool.and_eq_true, decide_eq_true_eq] at hwf
  obtain ⟨⟨hlt, hnd⟩, _⟩ := hwf
  -- a listed operation's slot is not the one that is written now
  have hother : ∀ d e, o.dst = some d → (∃ j p, ops[j]? = some p ∧ p.dst = some e ∧ L.getD j false = true) → d ≠ e := by
    rintro d e hd ⟨j, p, hj, hp, hLj⟩ rfl
    have hi' : ops.toList[i]? = some o := by rw [Array.getElem?_toList]; exact hi
    have hj' : ops.toList[j]? = some p := by rw [Array.getElem?_toList]; exact hj
    have := nodup_filterMap_idx (fun x : Oper => x.dst) ops.toList hnd i j o p d hi' hj' hd hp
    subst this
    rw [hLi] at hLj
    cases hLj
  have hvals : ∀ e, (∀ d, o.dst = some d → d ≠ e) → vals (a.put o.dst v) e = vals a e := by
    intro e he
    cases ho : o.dst with
    | none => rfl
    | some d =>
      have := he d ho
      simp only [vals, Act.put, Array.getD_eq_getD_getElem?, Array.getElem?_setIfInBounds]
      simp [this]
  have hreads : ∀ (q : Oper) (k d e : Nat), ops[k]? = some q → q.dst = some d → (d, e) ∈ reads → depB ops q e = true := by
    intro q k d e hk hd hre
    have := List.all_eq_true.1 hrd _ hre
    rw [Array.all_eq_true'] at this
    have h5 := this q (Array.mem_of_getElem? hk)
    simpa [hd] using h5
  refine ⟨h1.trans hg, put_agree hi h2 v, fun j p d hj hLj hd => ?_, fun j p d hj hLj hd => ?_⟩
  · by_cases hij : i = j
    · subst hij
      rw [hi] at hj
      injection hj with hj
      subst hj
      have hdl : d < a.tmps.size := by
        rw [h2.2.1, hn]
        have := List.all_eq_true.1 hlt d (mem_dsts hi hd)
        simpa using this
      have hnew : vals (a.put o.dst v) d = v := by
        rw [hd]; simp only [vals]; rw [put_getD a d d v hdl, if_pos rfl]
      rw [hnew]
      refine hV d (vals a) _ w' v (hv d hd) fun e he => (hvals e fun d' hd' => ?_).symm
      exact hother d' e hd' (hdep e (hreads o i d e hi hd he))
    · have hLj' := getD_set hLj hij
      have hne : ∀ d', o.dst = some d' → d' ≠ d := fun d' hd' => hother d' d hd' ⟨j, p, hj, hd, hLj'⟩
      rw [hvals d hne]
      refine hV d (vals a) _ w' _ (hF _ _ _ _ _ (h3 j p d hj hLj' hd) hg) fun e he => (hvals e fun d' hd' => ?_).symm
      exact hother d' e hd' (h4 j p e hj hLj' (hreads p j d e hj hd he))
  · by_cases hij : i = j
    · subst hij
      rw [hi] at hj
      injection hj with hj
      subst hj
      obtain ⟨k, q, hk, hq, hLk⟩ := hdep d hd
      exact ⟨k, q, hk, hq, set_true hLk⟩
    · obtain ⟨k, q, hk, hq, hLk⟩ := h4 j p d hj (getD_set hLj hij) hd
      exact ⟨k, q, hk, hq, set_true hLk⟩

theorem any_of_inv2 (hn : a0.tmps.size = n) (hwf : wfB n ops = true) (hrd : readsB ops reads = true) (hF : ∀ d f w w' v, F d f w v → Grow w w' → F d f w' v) (hV : ∀ d f f' w v, F d f w v → (∀ e, (d, e) ∈ reads → f e = f' e) → F d f' w v)
    (step : ∀ i, i < ops.size → Step2 P ops Q F a0 w0 i)
    (fin : ∀ a w, Grow w0 w → Agree ops a0 a → (∀ d, (dsts ops).contains d = true → F d (vals a) w (vals a d)) → Q .normal a w) :
    ∀ (fuel : Nat) (L : Array Bool) (a : Act) (w : World), L.size = ops.size → L.toList.count false = fuel → Inv2 ops F a0 w0 L a w → wpAny P .any ops Q fuel L a w := by
  have done : ∀ (L : Array Bool) (a : Act) (w : World), L.size = ops.size → Region.ready .any ops L = [] → Inv2 ops F a0 w0 L a w → Q .normal a w := by
    intro L a w hL hr hI
    refine fin a w hI.1 hI.2.1 fun d hd => ?_
    rw [List.contains_eq_mem] at hd
    have hd' : d ∈ dsts ops := by simpa using hd
    unfold dsts at hd'
    obtain ⟨o, ho, hod⟩ := List.mem_filterMap.1 hd'
    obtain ⟨i, hi, rfl⟩ := List.getElem_of_mem ho
    have hi2 : i < ops.size := by simpa using hi
    exact hI.2.2.1 i _ d (by rw [Array.getElem?_eq_getElem hi2]; simp) (all_listed hwf hL hr i hi2) hod
  intro fuel
  induction fuel with
  | zero =>
    intro L a w hL hc hI
    have hr : Region.ready .any ops L = [] := by
      rw [List.eq_nil_iff_forall_not_mem]
      intro i hi
      unfold Region.ready at hi
      rw [List.mem_filter] at hi
      obtain ⟨hi1, hi2⟩ := hi
      rw [List.mem_range] at hi1
      simp only [Bool.and_eq_true, Bool.not_eq_true'] at hi2
      have hs : i < L.size := by omega
      have h0 : L[i] = false := by
        have := hi2.1
        rwa [Array.getD_eq_getD_getElem?, Array.getElem?_eq_getElem hs, Option.getD_some] at this
      have : false ∈ L.toList := by rw [← h0]; simp
      rw [List.count_eq_zero] at hc
      exact hc this
    exact ⟨hr, done L a w hL hr hI⟩
  | succ fuel ih =>
    intro L a w hL hc hI
    refine ⟨fun hr => done L a w hL hr hI, fun i hi => ?_⟩
    unfold Region.ready at hi
    rw [List.mem_filter] at hi
    obtain ⟨hi1, hi2⟩ := hi
    rw [List.mem_range] at hi1
    simp only [Bool.and_eq_true, Bool.not_eq_true'] at hi2
    have hget : ops[i]? = some ops[i] := Array.getElem?_eq_getElem hi1
    have hs : i < L.size := by omega
    have h0 : L.toList[i]? = some false := by
      have := hi2.1
      rw [Array.getD_eq_getD_getElem?, Array.getElem?_eq_getElem hs, Option.getD_some] at this
      rw [Array.getElem?_toList, Array.getElem?_eq_getElem hs, this]
    have hLi : L.getD i false = false := by
      rw [Array.getD_eq_getD_getElem?, ← Array.getElem?_toList, h0]; rfl
    have hlisted : ∀ d, depB ops ops[i] d = true → ∃ j p, ops[j]? = some p ∧ p.dst = some d ∧ L.getD j false = true := by
      intro d hd
      unfold depB at hd
      rw [Array.any_eq_true] at hd
      obtain ⟨k, hk, hd⟩ := hd
      simp only [Bool.and_eq_true] at hd
      obtain ⟨hb, hd⟩ := hd
      have hlist : L.getD (ops[i].after[k]).on false = true := by
        have := hi2.2
        rw [hget] at this
        simp only [Option.map_some, Option.getD_some, Array.all_eq_true] at this
        have := this k hk
        simpa [hb] using this
      rw [beq_iff_eq] at hd
      cases hoj : ops[(ops[i].after[k]).on]? with
      | none => rw [hoj] at hd; cases hd
      | some p =>
        rw [hoj] at hd
        exact ⟨_, p, hoj, hd, hlist⟩
    have hdep : ∀ d, depB ops ops[i] d = true → F d (vals a) w (vals a d) := by
      intro d hd
      obtain ⟨j, p, hj, hp, hLj⟩ := hlisted d hd
      exact hI.2.2.1 j p d hj hLj hp
    refine wpOp_mono ?_ (step i hi1 ops[i] hget a w hI.1 hI.2.1 hdep)
    rintro a' w' ⟨v, rfl, hv, hg⟩
    refine ih _ _ _ (by simpa using hL) ?_ (inv_step2 hn hwf hrd hF hV hI hget hLi hlisted hv hg)
    have := count_set L.toList i h0
    rw [Array.toList_setIfInBounds]
    omega

/-- The frame that a region leaves: its slots written one after the other. -/
theorem put_size (a : Act) (d : Option Nat) (v : Value) : (a.put d v).tmps.size = a.tmps.size := by cases d <;> simp [Act.put]
theorem put_defers (a : Act) (d : Option Nat) (v : Value) : (a.put d v).defers = a.defers := by cases d <;> simp [Act.put]
def puts (f : Nat → Value) : List Nat → Act → Act
  | [], a => a
  | d :: r, a => puts f r (a.put (some d) (f d))
theorem puts_size (f : Nat → Value) : ∀ (l : List Nat) (a : Act), (puts f l a).tmps.size = a.tmps.size := by
  intro l
  induction l with
  | nil => intro a; rfl
  | cons d r ih => intro a; rw [puts, ih, put_size]
theorem puts_defers (f : Nat → Value) : ∀ (l : List Nat) (a : Act), (puts f l a).defers = a.defers := by
  intro l
  induction l with
  | nil => intro a; rfl
  | cons d r ih => intro a; rw [puts, ih, put_defers]
theorem puts_get (f : Nat → Value) : ∀ (l : List Nat) (a : Act) (e : Nat), e < a.tmps.size → (puts f l a).tmps.getD e undef = if l.contains e then f e else a.tmps.getD e undef := by
  intro l
  induction l with
  | nil => intro a e _; rfl
  | cons d r ih =>
    intro a e he
    rw [puts, ih _ _ (by rw [put_size]; exact he)]
    by_cases hr : r.contains e
    · rw [if_pos hr, if_pos (by rw [List.contains_cons, hr]; simp)]
    · rw [if_neg hr]
      by_cases hde : e = d
      · subst hde
        rw [put_getD a e e (f e) he, if_pos rfl, if_pos (by simp)]
      · rw [if_neg (by rw [List.contains_cons]; simpa [hde] using hr)]
        simp only [Act.put, Array.getD_eq_getD_getElem?, Array.getElem?_setIfInBounds]
        simp [Ne.symm hde]
theorem agree_puts {a0 a : Act} (h : Agree ops a0 a) : a = puts (vals a) (dsts ops) a0 := by
  have hs : a.tmps.size = (puts (vals a) (dsts ops) a0).tmps.size := by rw [puts_size]; exact h.2.1
  have ht : a.tmps = (puts (vals a) (dsts ops) a0).tmps := by
    apply Array.ext hs
    intro i hi1 hi2
    have e1 : a.tmps.getD i undef = a.tmps[i] := by rw [Array.getD_eq_getD_getElem?, Array.getElem?_eq_getElem hi1, Option.getD_some]
    have e2 : (puts (vals a) (dsts ops) a0).tmps.getD i undef = (puts (vals a) (dsts ops) a0).tmps[i] := by rw [Array.getD_eq_getD_getElem?, Array.getElem?_eq_getElem hi2, Option.getD_some]
    rw [← e1, ← e2, puts_get _ _ _ _ (by rw [puts_size] at hi2; exact hi2)]
    by_cases hc : (dsts ops).contains i = true
    · rw [if_pos hc]; rfl
    · rw [if_neg hc]
      exact h.2.2 i (by simpa using hc)
  have hd : a.defers = (puts (vals a) (dsts ops) a0).defers := by rw [puts_defers]; exact h.1
  cases a
  cases hp : puts (vals _) (dsts ops) a0
  rw [hp] at ht hd
  simp only at ht hd
  subst ht hd
  rfl

/-- THE RULE. -/
theorem region2 {id : Nat} (reads : List (Nat × Nat)) (ds : List Nat) (hm : P.follows .mixedOrders = true) (hn : a0.tmps.size = n) (hwf : wfB n ops = true) (hrd : readsB ops reads = true) (hds : dsts ops = ds)
    (hF : ∀ d f w w' v, F d f w v → Grow w w' → F d f w' v) (hV : ∀ d f f' w v, F d f w v → (∀ e, (d, e) ∈ reads → f e = f' e) → F d f' w v) (step : ∀ i, i < ops.size → Step2 P ops Q F a0 w0 i)
    (fin : ∀ f w, Grow w0 w → (∀ d, ds.contains d = true → F d f w (f d)) → Q .normal (puts f ds a0) w) : (Code.region id ops true).wp P Q a0 w0 := by
  refine wp_region_any hm (any_of_inv2 hn hwf hrd hF hV step (fun a w hg ha h => ?_) _ _ _ _ (by simp) (by simp) ⟨(Grow.refl w0).drew, ⟨rfl, rfl, fun _ _ => rfl⟩, fun i o d hi hL => ?_, fun i o d hi hL => ?_⟩)
  · rw [agree_puts ha, hds]
    exact fin (vals a) w hg (by rw [← hds]; exact h)
  · exfalso
    rw [Array.getD_eq_getD_getElem?, Array.getElem?_replicate] at hL
    split at hL <;> simp at hL
  · exfalso
    rw [Array.getD_eq_getD_getElem?, Array.getElem?_replicate] at hL
    split at hL <;> simp at hL

/-- What an operation without a guard owes, of destination and kind as they are told. -/
theorem step2N {i : Nat} {dst : Option Nat} {op : Op} (h : info ops i = some (dst, op, none))
    (hs : ∀ (o : Oper) (a : Act) (w : World), o.op = op → o.dst = dst → Grow w0 w → Agree ops a0 a → (∀ d, depI ops i d = true → F d (vals a) w (vals a d)) →
      o.wp P a w (fun a' w' => ∃ v, a' = a.put o.dst v ∧ (∀ d, o.dst = some d → F d (vals a) w' v) ∧ Grow w w') Q) : Step2 P ops Q F a0 w0 i := by
  intro o ho a w hg ha hd
  obtain ⟨h1, h2, h3⟩ := info_parts h ho
  exact run_wanted ho (by simp [Region.wanted, h3]) (hs o a w h2 h1 hg ha fun d hdi => hd d (by rw [← depI_eq ho]; exact hdi))
/-- A copy of a slot that the region does not write. -/
theorem move2 {i d e : Nat} (h : info ops i = some (some d, .move (.tmp e), none)) (hne : (dsts ops).contains e = false) (hf : ∀ f w, F d f w (a0.tmps.getD e undef)) : Step2 P ops Q F a0 w0 i :=
  step2N h fun o a w ho hd hg ha D => valOf (F := fun d w v => F d (vals a) w v) (v := a.tmps.getD e undef) (w' := w) (by simp [execOp, ho, Act.eval]) hd (by show F d (vals a) w _; rw [ha.2.2 e hne]; exact hf _ _) (Grow.refl w)
/-- A copy of a slot that it does. -/
theorem assign2 {i d e : Nat} (h : info ops i = some (some d, .assign (.tmp e), none)) (hdep : depI ops i e = true) (hf : ∀ f w, F e f w (f e) → F d f w (f e)) : Step2 P ops Q F a0 w0 i :=
  step2N h fun o a w ho hd hg ha D => valOf (F := fun d w v => F d (vals a) w v) (v := a.tmps.getD e undef) (w' := w) (by simp [execOp, ho, Act.eval]) hd (hf _ _ (D e hdep)) (Grow.refl w)
end
end Go.Proofs.YtckcjiojfpaikaaDoor.Rg
namespace Go.Proofs.YtckcjiojfpaikaaDoor.Rg
open Go.RowKit
variable {P : Program} {ops : Array Oper} {Q : Exit → Act → World → Prop}
/-! ### A region whose last operation comes behind all others (a store into a result's place) -/
def lastB (ops : Array Oper) (k : Nat) : Bool := ops.size == k + 1 && ((ops[k]?).map fun o => o.dst == none && (List.range k).all fun j => o.after.any fun e => Region.binds .any e && e.on == j).getD false

section
variable {F : Facts2} {a0 : Act} {w0 : World} {n : Nat} {reads : List (Nat × Nat)}

theorem any_of_inv3 {k : Nat} (hk : lastB ops k = true) (hn : a0.tmps.size = n) (hwf : wfB n ops = true) (hrd : readsB ops reads = true) (hF : ∀ d f w w' v, F d f w v → Grow w w' → F d f w' v) (hV : ∀ d f f' w v, F d f w v → (∀ e, (d, e) ∈ reads → f e = f' e) → F d f' w v)
    (step : ∀ i, i < k → Step2 P ops Q F a0 w0 i)
    (last : ∀ a w, Grow w0 w → Agree ops a0 a → (∀ d, (dsts ops).contains d = true → F d (vals a) w (vals a d)) → wpOp P ops Q k (fun a' w' => Q .normal a' w') a w) :
    ∀ (fuel : Nat) (L : Array Bool) (a : Act) (w : World), L.size = ops.size → L.toList.count false = fuel → L.getD k false = false → Inv2 ops F a0 w0 L a w → wpAny P .any ops Q fuel L a w := by
  simp only [lastB, Bool.and_eq_true, beq_iff_eq] at hk
  obtain ⟨hks, hko⟩ := hk
  have hkget : ops[k]? = some ops[k] := Array.getElem?_eq_getElem (by omega)
  rw [hkget] at hko
  simp only [Option.map_some, Option.getD_some, Bool.and_eq_true, beq_iff_eq] at hko
  obtain ⟨hkd, hka⟩ := hko
  have noEmpty : ∀ (L : Array Bool), L.size = ops.size → L.getD k false = false → Region.ready .any ops L = [] → False := by
    intro L hL hLk hr
    have := all_listed hwf hL hr k (by omega)
    rw [hLk] at this
    cases this
  intro fuel
  induction fuel with
  | zero =>
    intro L a w hL hc hLk hI
    exfalso
    have hs : k < L.size := by omega
    have h0 : L[k] = false := by rwa [Array.getD_eq_getD_getElem?, Array.getElem?_eq_getElem hs, Option.getD_some] at hLk
    have : false ∈ L.toList := by rw [← h0]; simp
    rw [List.count_eq_zero] at hc
    exact hc this
  | succ fuel ih =>
    intro L a w hL hc hLk hI
    refine ⟨fun hr => (noEmpty L hL hLk hr).elim, fun i hi => ?_⟩
    unfold Region.ready at hi
    rw [List.mem_filter] at hi
    obtain ⟨hi1, hi2⟩ := hi
    rw [List.mem_range] at hi1
    simp only [Bool.and_eq_true, Bool.not_eq_true'] at hi2
    have hget : ops[i]? = some ops[i] := Array.getElem?_eq_getElem hi1
    have hs : i < L.size := by omega
    have h0 : L.toList[i]? = some false := by
      have := hi2.1
      rw [Array.getD_eq_getD_getElem?, Array.getElem?_eq_getElem hs, Option.getD_some] at this
      rw [Array.getElem?_toList, Array.getElem?_eq_getElem hs, this]
    have hLi : L.getD i false = false := by
      rw [Array.getD_eq_getD_getElem?, ← Array.getElem?_toList, h0]; rfl
    by_cases hik : i = k
    · subst hik
      have hall : ∀ j, j < i → L.getD j false = true := by
        intro j hj
        have h1 := List.all_eq_true.1 hka j (List.mem_range.2 hj)
        rw [Array.any_eq_true] at h1
        obtain ⟨t, ht, h1⟩ := h1
        simp only [Bool.and_eq_true, beq_iff_eq] at h1
        have h2 := hi2.2
        rw [hget] at h2
        simp only [Option.map_some, Option.getD_some, Array.all_eq_true] at h2
        have h3 := h2 t ht
        rw [h1.1] at h3
        rw [h1.2] at h3
        simpa using h3
      refine wpOp_mono ?_ (last a w hI.1 hI.2.1 fun d hd => ?_)
      · intro a' w' hq
        refine wpAny_done ?_ hq fuel
        rw [List.eq_nil_iff_forall_not_mem]
        intro j hj
        unfold Region.ready at hj
        rw [List.mem_filter] at hj
        obtain ⟨hj1, hj2⟩ := hj
        rw [List.mem_range] at hj1
        simp only [Bool.and_eq_true, Bool.not_eq_true'] at hj2
        have hjt : (L.setIfInBounds i true).getD j true = true := by
          rcases Nat.lt_or_ge j i with h | h
          · rw [Array.getD_eq_getD_getElem?, Array.getElem?_setIfInBounds, if_neg (by omega), ← Array.getD_eq_getD_getElem?]
            have := hall j h
            rw [Array.getD_eq_getD_getElem?] at this ⊢
            rw [Array.getElem?_eq_getElem (by omega)] at this ⊢
            exact this
          · obtain rfl : j = i := by omega
            rw [Array.getD_eq_getD_getElem?, Array.getElem?_setIfInBounds, if_pos rfl, if_pos hs]
            rfl
        rw [hjt] at hj2
        exact absurd hj2.1 (by simp)
      · rw [List.contains_eq_mem] at hd
        have hd' : d ∈ dsts ops := by simpa using hd
        unfold dsts at hd'
        obtain ⟨o, ho, hod⟩ := List.mem_filterMap.1 hd'
        obtain ⟨j, hj, rfl⟩ := List.getElem_of_mem ho
        have hj2 : j < ops.size := by simpa using hj
        have hji : j < i := by
          rcases Nat.lt_or_ge j i with h | h
          · exact h
          · exfalso
            obtain rfl : j = i := by omega
            simp only [Array.getElem_toList] at hod
            rw [hkd] at hod
            cases hod
        exact hI.2.2.1 j _ d (by rw [Array.getElem?_eq_getElem hj2]; simp) (hall j hji) hod
    · have hlisted : ∀ d, depB ops ops[i] d = true → ∃ j p, ops[j]? = some p ∧ p.dst = some d ∧ L.getD j false = true := by
        intro d hd
        unfold depB at hd
        rw [Array.any_eq_true] at hd
        obtain ⟨t, ht, hd⟩ := hd
        simp only [Bool.and_eq_true] at hd
        obtain ⟨hb, hd⟩ := hd
        have hlist : L.getD (ops[i].after[t]).on false = true := by
          have := hi2.2
          rw [hget] at this
          simp only [Option.map_some, Option.getD_some, Array.all_eq_true] at this
          have := this t ht
          simpa [hb] using this
        rw [beq_iff_eq] at hd
        cases hoj : ops[(ops[i].after[t]).on]? with
        | none => rw [hoj] at hd; cases hd
        | some p =>
          rw [hoj] at hd
          exact ⟨_, p, hoj, hd, hlist⟩
      have hdep : ∀ d, depB ops ops[i] d = true → F d (vals a) w (vals a d) := by
        intro d hd
        obtain ⟨j, p, hj, hp, hLj⟩ := hlisted d hd
        exact hI.2.2.1 j p d hj hLj hp
      refine wpOp_mono ?_ (step i (by omega) ops[i] hget a w hI.1 hI.2.1 hdep)
      rintro a' w' ⟨v, rfl, hv, hg⟩
      refine ih _ _ _ (by simpa using hL) ?_ ?_ (inv_step2 hn hwf hrd hF hV hI hget hLi hlisted hv hg)
      · have := count_set L.toList i h0
        rw [Array.toList_setIfInBounds]
        omega
      · rw [Array.getD_eq_getD_getElem?, Array.getElem?_setIfInBounds, if_neg hik, ← Array.getD_eq_getD_getElem?]
        exact hLk

/-- THE RULE: all but the last operation in whatever order; then the last one. -/
theorem region3 {id : Nat} (k : Nat) (reads : List (Nat × Nat)) (ds : List Nat) (hm : P.follows .mixedOrders = true) (hk : lastB ops k = true) (hn : a0.tmps.size = n) (hwf : wfB n ops = true) (hrd : readsB ops reads = true) (hds : dsts ops = ds)
    (hF : ∀ d f w w' v, F d f w v → Grow w w' → F d f w' v) (hV : ∀ d f f' w v, F d f w v → (∀ e, (d, e) ∈ reads → f e = f' e) → F d f' w v) (step : ∀ i, i < k → Step2 P ops Q F a0 w0 i)
    (fin : ∀ f w, Grow w0 w → (∀ d, ds.contains d = true → F d f w (f d)) → wpOp P ops Q k (fun a' w' => Q .normal a' w') (puts f ds a0) w) : (Code.region id ops true).wp P Q a0 w0 := by
  have hks : k < ops.size := by
    simp only [lastB, Bool.and_eq_true, beq_iff_eq] at hk
    omega
  refine wp_region_any hm (any_of_inv3 hk hn hwf hrd hF hV step (fun a w hg ha h => ?_) _ _ _ _ (by simp) (by simp) ?_ ⟨(Grow.refl w0).drew, ⟨rfl, rfl, fun _ _ => rfl⟩, fun i o d hi hL => ?_, fun i o d hi hL => ?_⟩)
  · have e := agree_puts ha
    rw [hds] at e
    rw [e]
    exact fin (vals a) w hg (by rw [← hds]; exact h)
  · rw [Array.getD_eq_getD_getElem?, Array.getElem?_replicate, if_pos hks]
    rfl
  · exfalso
    rw [Array.getD_eq_getD_getElem?, Array.getElem?_replicate] at hL
    split at hL <;> simp at hL
  · exfalso
    rw [Array.getD_eq_getD_getElem?, Array.getElem?_replicate] at hL
    split at hL <;> simp at hL
end
end Go.Proofs.YtckcjiojfpaikaaDoor.Rg
