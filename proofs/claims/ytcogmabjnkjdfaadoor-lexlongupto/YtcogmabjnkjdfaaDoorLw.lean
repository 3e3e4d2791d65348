/- Texts in tokens: tokens that are joined are those tokens again; where they stand. -/
import Derived.Test.YtcogmabjnkjdfaaDoorLz
namespace Go.Proofs.YtcogmabjnkjdfaaDoor.X
open Go.RowKit Go.Proofs.YtcogmabjnkjdfaaDoor.Z

/-- What a token's text ends ahead of. -/
def stopB (c : UInt8) : Bool := !wordB c && !figB c
def Stops (r : List UInt8) : Prop := r = [] ∨ ∃ c u, r = c :: u ∧ stopB c = true
theorem takeN_app {p : UInt8 → Bool} {s r : List UInt8} (h : r = [] ∨ ∃ c u, r = c :: u ∧ p c = false) : takeN p (s.take (takeN p s) ++ r) = takeN p s := by
  have hl : (s.take (takeN p s)).length = takeN p s := by rw [List.length_take]; have := takeN_le p s; omega
  have hg : ∀ j, j < takeN p s → (s.take (takeN p s) ++ r).getD j 0 = s.getD j 0 := fun j hj => by
    rw [List.getD_eq_getElem?_getD, List.getD_eq_getElem?_getD, List.getElem?_append_left (by rw [hl]; exact hj), List.getElem?_take, if_pos hj]
  refine takeN_eq (by simp [hl]) (fun j hj => by rw [hg j hj]; exact takeN_get hj) ?_
  rcases h with rfl | ⟨c, u, rfl, hc⟩
  · left; simp [hl]
  · right
    rw [List.getD_eq_getElem?_getD, List.getElem?_append_right (by rw [hl]; exact Nat.le_refl _), hl, Nat.sub_self]
    simpa using hc
/-- A token that is one wherever it stands. -/
structure Gd (k : Int) (t : List UInt8) : Prop where
  ne : t ≠ []
  ok : ∀ r, Stops r → fK (t ++ r) = k ∧ fT (t ++ r) = t ∧ fE (t ++ r) = 0
theorem get0_app {t r : List UInt8} (h : 0 < t.length) : (t ++ r).getD 0 0 = t.getD 0 0 := by
  rw [List.getD_eq_getElem?_getD, List.getD_eq_getElem?_getD, List.getElem?_append_left h]
theorem get0_take {s : List UInt8} {n : Nat} (h : 0 < n) : (s.take n).getD 0 0 = s.getD 0 0 := by
  rw [List.getD_eq_getElem?_getD, List.getD_eq_getElem?_getD, List.getElem?_take, if_pos h]
theorem take_app {t r : List UInt8} {n : Nat} (h : t.length = n) : (t ++ r).take n = t := List.take_left' h
theorem tok_good {s : List UInt8} (h0 : 0 < s.length) (he : fE s = 0) : Gd (fK s) (fT s) := by
  obtain ⟨l1, l2, l3⟩ := f_len h0 he
  refine ⟨(fun e => by rw [e] at l1; cases l1), fun r hr => ?_⟩
  have hw : r = [] ∨ ∃ c u, r = c :: u ∧ wordB c = false := hr.imp id fun ⟨c, u, e, h⟩ => ⟨c, u, e, by simp [stopB] at h; exact h.1⟩
  have hf : r = [] ∨ ∃ c u, r = c :: u ∧ figB c = false := hr.imp id fun ⟨c, u, e, h⟩ => ⟨c, u, e, by simp [stopB] at h; exact h.2⟩
  have hb : (fT s ++ r).getD 0 0 = s.getD 0 0 := by
    rw [get0_app l1]
    conv => lhs; rw [l3]
    exact get0_take l1
  rcases first5 s with h1 | h1
  · have f := f_low h1
    have g := f_low (s := fT s ++ r) (by rw [hb]; exact h1)
    have e : takeN wordB (fT s ++ r) = takeN wordB s := by rw [f.2.1]; exact takeN_app hw
    have hl : (fT s).length = takeN wordB s := by rw [f.2.1, List.length_take]; have := takeN_le wordB s; omega
    rw [e, take_app hl] at g
    exact ⟨g.1.trans f.1.symm, g.2.1, g.2.2⟩
  · have num : lowB (s.getD 0 0) = false → numB (s.getD 0 0) = true → fK (fT s ++ r) = fK s ∧ fT (fT s ++ r) = fT s ∧ fE (fT s ++ r) = 0 := fun h1 h2 => by
      have f := f_num h1 h2
      have ft : fT s = s.take (takeN figB s) := by
        rw [f.2.1]
        have hx := f.2.2.symm.trans he
        unfold figE at hx
        unfold figT
        split at hx
        · rw [if_pos (by assumption)]
        · split at hx
          · rw [if_neg (by assumption), if_pos (by assumption)]
          · cases hx
      have g := f_num (s := fT s ++ r) (by rw [hb]; exact h1) (by rw [hb]; exact h2)
      have e : takeN figB (fT s ++ r) = takeN figB s := by rw [ft]; exact takeN_app hf
      have hl : (fT s).length = takeN figB s := by rw [ft, List.length_take]; have := takeN_le figB s; omega
      rw [e, take_app hl] at g
      rw [← ft] at f
      exact ⟨g.1.trans f.1.symm, g.2.1.trans f.2.1.symm, g.2.2.trans (f.2.2.symm.trans he)⟩
    rcases h1 with ⟨h1, h2⟩ | ⟨h1, _, h3⟩ | ⟨h1, h2, h3⟩ | ⟨h1, h2, h3⟩
    · exact num h1 (num_dig h2)
    · exact num h1 (num_45 h3)
    · have f := f_sign h1 h2 h3
      have g := f_sign (s := fT s ++ r) (by rw [hb]; exact h1) (by rw [hb]; exact h2) (by rw [hb]; exact h3)
      have hl : (fT s).length = 1 := by rw [f.2.1, List.length_take]; omega
      rw [take_app hl] at g
      exact ⟨g.1.trans f.1.symm, g.2.1, g.2.2⟩
    · rw [(f_none h1 h2 h3).2.2] at he; cases he
/-- A token's first byte begins no gap. -/
theorem Gd.gap {k : Int} {t : List UInt8} (g : Gd k t) {r : List UInt8} (hr : Stops r) : gapL false (t ++ r) = 0 := by
  have he := (g.ok r hr).2.2
  have h0 : 0 < (t ++ r).length := by
    have := List.length_pos_iff.2 g.ne
    simp; omega
  have hb : lowB ((t ++ r).getD 0 0) = true ∨ numB ((t ++ r).getD 0 0) = true ∨ signB ((t ++ r).getD 0 0) = true := by
    rcases first5 (t ++ r) with h | ⟨_, h⟩ | ⟨_, _, h⟩ | ⟨_, _, h⟩ | ⟨h1, h2, h3⟩
    · exact .inl h
    · exact .inr (.inl (num_dig h))
    · exact .inr (.inl (num_45 h))
    · exact .inr (.inr h)
    · rw [(f_none h1 h2 h3).2.2] at he; cases he
  have key : blankB ((t ++ r).getD 0 0) = false ∧ ¬ (t ++ r).getD 0 0 = 35 := by
    revert hb
    generalize (t ++ r).getD 0 0 = b
    intro h
    refine ⟨?_, fun e => by subst e; revert h; decide⟩
    cases hx : blankB b with
    | false => rfl
    | true =>
      unfold blankB at hx
      simp only [Bool.or_eq_true, beq_iff_eq] at hx
      rcases hx with ((rfl | rfl) | rfl) | rfl <;> revert h <;> decide
  have := gap_stop (s := t ++ r) (i := 0) h0 key.1 key.2
  simpa using this
/-! ### Laced tokens -/
def kt (t : Tk) : Int × List UInt8 := (t.k, t.t)
/-- A text of gaps and tokens. -/
def Lc : List UInt8 → List Tk → Prop
  | rest, [] => gapL false rest = rest.length
  | rest, x :: r => ∃ g tail, rest = g ++ (x.t ++ tail) ∧ gapL false rest = g.length ∧ Stops tail ∧ Lc tail r
theorem lex_laced : ∀ (l : List Tk) (rest pre : List UInt8), (∀ x ∈ l, Gd x.k x.t) → Lc rest l → ((lexR (pre ++ rest) (pre.length + gapL false rest)).1.map kt = l.map kt) ∧ (lexR (pre ++ rest) (pre.length + gapL false rest)).2 = (0, 0) := by
  intro l
  induction l with
  | nil =>
    intro rest pre _ h
    have h' : gapL false rest = rest.length := h
    rw [h', lexR_end (by simp)]
    exact ⟨rfl, rfl⟩
  | cons x r ih =>
    intro rest pre hg h
    obtain ⟨g, tail, e, hgap, hst, hl⟩ := h
    have gx := hg x (.head _)
    obtain ⟨k1, k2, k3⟩ := gx.ok tail hst
    have h0 : 0 < x.t.length := List.length_pos_iff.2 gx.ne
    rw [hgap]
    have hd : (pre ++ rest).drop (pre.length + g.length) = x.t ++ tail := by
      rw [e, ← List.append_assoc, ← List.length_append]
      exact List.drop_left
    have hlt : pre.length + g.length < (pre ++ rest).length := by rw [e]; simp; omega
    have hn : nextA (pre ++ rest) (pre.length + g.length) = (pre ++ g ++ x.t).length + gapL false tail := by
      unfold nextA
      rw [hd, k2]
      congr 1
      · simp; omega
      · rw [e]
        have : pre.length + g.length + x.t.length = (pre ++ g ++ x.t).length := by simp; omega
        rw [this, show pre ++ (g ++ (x.t ++ tail)) = (pre ++ g ++ x.t) ++ tail by simp [List.append_assoc]]
        rw [List.drop_left]
    rw [lexR_step hlt (by rw [hd]; exact k3), hd, k1, k2, hn]
    have hpe : pre ++ rest = (pre ++ g ++ x.t) ++ tail := by rw [e]; simp [List.append_assoc]
    obtain ⟨i1, i2⟩ := ih tail (pre ++ g ++ x.t) (fun y hy => hg y (.tail _ hy)) hl
    rw [← hpe] at i1 i2
    unfold fin
    rw [if_pos (by rw [i2])]
    exact ⟨by simp only [List.map_cons, List.singleton_append, i1]; rfl, rfl⟩
theorem lexA_good (s : List UInt8) : ∀ (f a : Nat), a ≤ s.length → ∀ x ∈ (lexA f s a).1, Gd x.k x.t := by
  intro f
  induction f with
  | zero => intro a _ x h; cases h
  | succ f ih =>
    intro a ha
    unfold lexA
    split
    · intro x h; cases h
    · split
      · next h1 h2 =>
        have h3 := next_gt (by omega) h2
        have h4 := ih (nextA s a) h3.2.1
        unfold fin
        split
        · intro x hx
          rcases List.mem_append.1 hx with hx | hx
          · rw [List.mem_singleton] at hx
            subst hx
            exact tok_good (by simp; omega) h2
          · exact h4 x hx
        · intro x h; cases h
      · intro x h; cases h
theorem lexS_good (s : List UInt8) : ∀ x ∈ (lexS s).1, Gd x.k x.t := by
  unfold lexS
  split
  · intro x h; cases h
  · exact lexA_good s _ _ (gap_le _ _)
theorem lexS_ok (s : List UInt8) : (lexS s).2.2 ≠ 0 → (lexS s).1 = [] := by
  unfold lexS
  split
  · exact fun _ => rfl
  · exact (lexA_ok s _ _).2
theorem lexS_z (s : List UInt8) : (lexS s).2.2 = 0 → (lexS s).2.1 = 0 := by
  unfold lexS
  split
  · exact fun _ => rfl
  · exact (lexA_ok s _ _).1
/-- What laced tokens are. -/
theorem lexS_laced {l : List Tk} {s : List UInt8} (hg : ∀ x ∈ l, Gd x.k x.t) (hl : Lc s l) (hs : s.length ≤ 1048576) : (lexS s).1.map kt = l.map kt ∧ (lexS s).2.2 = 0 := by
  have h := lex_laced l s [] hg hl
  simp only [List.nil_append, List.length_nil, Nat.zero_add] at h
  unfold lexS
  rw [if_neg (by omega)]
  exact ⟨h.1, by rw [h.2]⟩
/-- Joined by blanks. -/
theorem join_lc : ∀ (l : List Tk), (∀ x ∈ l, Gd x.k x.t) → Lc (Lib.join (l.map (·.t)) [32]) l ∧ Lc (32 :: Lib.join (l.map (·.t)) [32]) l ∧ gapL false (32 :: Lib.join (l.map (·.t)) [32]) = 1 + gapL false (Lib.join (l.map (·.t)) [32]) ∧ (l ≠ [] → gapL false (Lib.join (l.map (·.t)) [32]) = 0) := by
  intro l
  induction l with
  | nil => intro _; exact ⟨rfl, rfl, rfl, fun h => absurd rfl h⟩
  | cons x r ih =>
    intro hg
    have gx := hg x (.head _)
    obtain ⟨i1, i2, i3, i4⟩ := ih fun y hy => hg y (.tail _ hy)
    have key : ∃ tail, Lib.join ((x :: r).map (·.t)) [32] = x.t ++ tail ∧ Stops tail ∧ Lc tail r := by
      cases r with
      | nil => exact ⟨[], by simp [Lib.join_one], .inl rfl, rfl⟩
      | cons y r' =>
        refine ⟨32 :: Lib.join ((y :: r').map (·.t)) [32], ?_, .inr ⟨32, _, rfl, by decide⟩, i2⟩
        rw [List.map_cons, List.map_cons, Lib.join_cons, Lib.join_cons]
        simp [Lib.joinTail]
    obtain ⟨tail, e, hs, hl⟩ := key
    have hz : gapL false (Lib.join ((x :: r).map (·.t)) [32]) = 0 := by rw [e]; exact gx.gap hs
    have h32 : gapL false (32 :: Lib.join ((x :: r).map (·.t)) [32]) = 1 + gapL false (Lib.join ((x :: r).map (·.t)) [32]) := rfl
    exact ⟨⟨[], tail, e, hz, hs, hl⟩, ⟨[32], tail, by rw [e]; rfl, by rw [h32, hz]; rfl, hs, hl⟩, h32, fun _ => hz⟩

/-! ### Where tokens stand -/
def chain (s : List UInt8) : Nat → List Tk → Prop
  | _, [] => True
  | a, x :: r => a ≤ x.at' ∧ x.at' + x.t.length ≤ s.length ∧ x.t ≠ [] ∧ x.t.isPrefixOf (s.drop x.at') = true ∧ chain s (x.at' + x.t.length) r
theorem chain_le {s : List UInt8} : ∀ {l : List Tk} {a b : Nat}, a ≤ b → chain s b l → chain s a l := by
  intro l a b h hc
  cases l with
  | nil => trivial
  | cons x r => exact ⟨Nat.le_trans h hc.1, hc.2⟩
theorem lexA_chain (s : List UInt8) : ∀ (f a : Nat), a ≤ s.length → chain s a (lexA f s a).1 := by
  intro f
  induction f with
  | zero => intro a _; trivial
  | succ f ih =>
    intro a ha
    unfold lexA
    split
    · trivial
    · split
      · next h1 h2 =>
        have h3 := next_gt (by omega) h2
        obtain ⟨f1, f2, f3⟩ := f_len (s := s.drop a) (by simp; omega) h2
        unfold fin
        split
        · refine ⟨Nat.le_refl _, h3.2.2, fun e => ?_, ?_, ?_⟩
          · have e' : fT (s.drop a) = [] := e
            rw [e'] at f1
            cases f1
          · show (fT (s.drop a)).isPrefixOf (s.drop a) = true
            rw [List.isPrefixOf_iff_prefix, f3]
            exact List.take_prefix _ _
          · refine chain_le (b := nextA s a) ?_ (ih (nextA s a) h3.2.1)
            show a + (fT (s.drop a)).length ≤ nextA s a
            unfold nextA
            omega
        · trivial
      · trivial
theorem lexS_chain (s : List UInt8) : chain s 0 (lexS s).1 := by
  unfold lexS
  split
  · trivial
  · exact chain_le (Nat.zero_le _) (lexA_chain s _ _ (gap_le _ _))
/-- Where the tokens ahead of the i-th one end. -/
def endA (l : List Tk) : Nat → Nat
  | 0 => 0
  | i + 1 => (l.getD i ⟨0, [], 0⟩).at' + (l.getD i ⟨0, [], 0⟩).t.length
theorem chain_at {s : List UInt8} : ∀ {l : List Tk} {a : Nat}, chain s a l → ∀ i, i < l.length → (i = 0 ∨ endA l i ≤ (l.getD i ⟨0, [], 0⟩).at') ∧ a ≤ (l.getD i ⟨0, [], 0⟩).at' ∧ (l.getD i ⟨0, [], 0⟩).at' + (l.getD i ⟨0, [], 0⟩).t.length ≤ s.length ∧ (l.getD i ⟨0, [], 0⟩).t ≠ [] ∧ (l.getD i ⟨0, [], 0⟩).t.isPrefixOf (s.drop (l.getD i ⟨0, [], 0⟩).at') = true := by
  intro l
  induction l with
  | nil => intro a _ i h; cases h
  | cons x r ih =>
    intro a h i hi
    obtain ⟨h1, h2, h3, h4, h5⟩ := h
    cases i with
    | zero => exact ⟨.inl rfl, h1, h2, h3, h4⟩
    | succ i =>
      obtain ⟨j1, j2, j3⟩ := ih h5 i (by simpa using hi)
      refine ⟨.inr ?_, ?_, j3⟩
      · cases i with
        | zero => simpa [endA] using j2
        | succ i =>
          rcases j1 with j1 | j1
          · cases j1
          · simpa [endA] using j1
      · have : a ≤ x.at' + x.t.length := by omega
        exact Nat.le_trans this j2
theorem lexA_sum (s : List UInt8) : ∀ (f a : Nat), a ≤ s.length → (((lexA f s a).1.map (·.t)).map List.length).sum ≤ s.length - a := by
  intro f
  induction f with
  | zero => intro a _; exact Nat.zero_le _
  | succ f ih =>
    intro a ha
    unfold lexA
    split
    · exact Nat.zero_le _
    · split
      · next h1 h2 =>
        have h3 := next_gt (by omega) h2
        have h4 := ih (nextA s a) h3.2.1
        unfold fin
        split
        · simp only [List.map_append, List.map_cons, List.map_nil, List.sum_append, List.sum_cons, List.sum_nil]
          unfold nextA at h4 h3
          unfold nextA
          omega
        · exact Nat.zero_le _
      · exact Nat.zero_le _
theorem join_len (sep : List UInt8) : ∀ l : List (List UInt8), (Lib.join l sep).length ≤ (l.map List.length).sum + l.length * sep.length := by
  intro l
  cases l with
  | nil => simp [Lib.join_nil]
  | cons x r =>
    rw [Lib.join_cons, List.length_append]
    have : (Lib.joinTail sep r).length = (r.map List.length).sum + r.length * sep.length := by
      unfold Lib.joinTail
      induction r with
      | nil => simp
      | cons y r ih =>
        rw [List.map_cons, List.flatten_cons, List.length_append, ih]
        simp only [List.length_append, List.map_cons, List.sum_cons, List.length_cons, Nat.add_mul]
        omega
    rw [this]
    simp only [List.map_cons, List.sum_cons, List.length_cons, Nat.add_mul]
    omega
end Go.Proofs.YtcogmabjnkjdfaaDoor.X
