/- Texts in tokens: tokens, dates, the whole text. -/
import Derived.Test.YtcogmabjnkjdfaaDoorLx
namespace Go.Proofs.YtcogmabjnkjdfaaDoor.X
open Go.RowKit Go.Proofs.YtcogmabjnkjdfaaDoor.Z

/-! ### Dates -/
def dOk (i : Nat) (b : UInt8) : Bool := if i = 4 ∨ i = 7 then b == 45 else digB b
def dateB (t : List UInt8) : Bool := decide (t.length = 10) && (List.range 10).all fun i => dOk i (t.getD i 0)
def shp : List UInt8 := [48, 48, 48, 48, 45, 48, 48, 45, 48, 48]
theorem date_len {l : List UInt8} (h : ¬ l.length = 10) : false = dateB l := by simp [dateB, h]
theorem date_no {l : List UInt8} {i : Nat} (hi : i < 10) (h : dOk i (l.getD i 0) = false) : false = dateB l := by
  symm
  unfold dateB
  rw [Bool.and_eq_false_iff]
  right
  rw [List.all_eq_false]
  exact ⟨i, List.mem_range.2 hi, by rw [h]; simp⟩
theorem date_yes {l : List UInt8} (hl : l.length = 10) (h : ∀ j, j < 10 → dOk j (l.getD j 0) = true) : true = dateB l := by
  symm
  unfold dateB
  rw [Bool.and_eq_true, decide_eq_true_eq]
  exact ⟨hl, List.all_eq_true.2 fun i hi => h i (List.mem_range.1 hi)⟩
theorem date_get {l : List UInt8} (h : dateB l = true) : l.length = 10 ∧ ∀ j, j < 10 → dOk j (l.getD j 0) = true := by
  unfold dateB at h
  rw [Bool.and_eq_true, decide_eq_true_eq] at h
  exact ⟨h.1, fun j hj => List.all_eq_true.1 h.2 j (List.mem_range.2 hj)⟩
theorem i32_in {x : Int} (h1 : 0 ≤ x) (h2 : x ≤ 255) : IntKind.i32.wrap x = x := by
  have e : IntKind.i32.bits = 32 := rfl
  have e2 : IntKind.i32.signed = true := rfl
  simp [IntKind.wrap, e, e2]
  omega
theorem shp_at (i : Nat) (hi : i < 10) : ((i = 4 ∨ i = 7) ∧ shp.getD i 0 = 45) ∨ (¬ (i = 4 ∨ i = 7) ∧ shp.getD i 0 = 48) := by
  rcases i with _ | _ | _ | _ | _ | _ | _ | _ | _ | _ | i <;> first | (right; decide) | (left; decide) | omega
theorem asc {l : List UInt8} {i : Nat} (h : i < l.length) (hb : (l.getD i 0).toNat < 128) : rune l i = (l.getD i 0).toNat ∧ runeW l i = 1 := (dec_ok l i h).2.2.1 hb
theorem dig_asc {b : UInt8} (h : digB b = true) : b.toNat < 128 := by
  simp [digB] at h
  omega
/-- A round of the date's check. -/
theorem date5 (l : List UInt8) (i : Nat) : (l.length ≤ i) ∨ (i < l.length ∧ dOk i (l.getD i 0) = true ∧ digB (l.getD i 0) = true) ∨ (i < l.length ∧ dOk i (l.getD i 0) = true ∧ digB (l.getD i 0) = false) ∨ (i < l.length ∧ dOk i (l.getD i 0) = false ∧ digB (l.getD i 0) = true) ∨ (i < l.length ∧ dOk i (l.getD i 0) = false ∧ digB (l.getD i 0) = false) := by
  rcases Nat.lt_or_ge i l.length with h | h
  · cases h1 : dOk i (l.getD i 0) <;> cases h2 : digB (l.getD i 0) <;> simp [h]
  · exact .inl h
theorem date_b {l : List UInt8} {i : Nat} (h : i < l.length) : digI ((rune l i : Nat) : Int) = digB (l.getD i 0) := (goes_dig.step h).2.2.1
theorem date_ne1 {l : List UInt8} {i : Nat} (hl : l.length = 10) (h : i < l.length) (hb : digB (l.getD i 0) = true) : (!decide ((48 : Int) = (((shp.getD i 0).toNat : Nat) : Int))) = !(dOk i (l.getD i 0)) := by
  rcases shp_at i (by omega) with ⟨h1, h2⟩ | ⟨h1, h2⟩
  · rw [h2]
    unfold dOk
    rw [if_pos h1]
    have : (l.getD i 0 == 45) = false := by
      rw [beq_eq_false_iff_ne]
      intro e
      rw [e] at hb
      revert hb
      decide
    rw [this]
    rfl
  · rw [h2]
    unfold dOk
    rw [if_neg h1, hb]
    rfl
theorem date_ne2 {l : List UInt8} {i : Nat} (hl : l.length = 10) (h : i < l.length) (hb : digB (l.getD i 0) = false) : (!decide ((((rune l i : Nat)) : Int) = (((shp.getD i 0).toNat : Nat) : Int))) = !(dOk i (l.getD i 0)) := by
  congr 1
  obtain ⟨_, _, d3, d4, _⟩ := dec_ok l i h
  rcases shp_at i (by omega) with ⟨h1, h2⟩ | ⟨h1, h2⟩
  · rw [h2]
    unfold dOk
    rw [if_pos h1]
    rcases Nat.lt_or_ge (l.getD i 0).toNat 128 with h3 | h3
    · rw [(d3 h3).1]
      exact u8_eq (b := l.getD i 0) (c := 45)
    · rw [hi_ne h3 (by decide)]
      have := d4 h3
      refine decide_eq_false fun e => ?_
      have e' : ((rune l i : Nat) : Int) = 45 := e
      omega
  · rw [h2]
    unfold dOk
    rw [if_neg h1, hb]
    refine decide_eq_false fun e => ?_
    have e' : ((rune l i : Nat) : Int) = 48 := e
    rcases Nat.lt_or_ge (l.getD i 0).toNat 128 with h3 | h3
    · rw [(d3 h3).1] at e'
      unfold digB at hb
      rw [Bool.and_eq_false_iff, decide_eq_false_iff_not, decide_eq_false_iff_not] at hb
      omega
    · have := d4 h3
      omega
theorem date_w {l : List UInt8} {i : Nat} (h : i < l.length) (ho : dOk i (l.getD i 0) = true) : runeW l i = 1 := by
  refine (asc h ?_).2
  unfold dOk at ho
  split at ho
  · rw [beq_iff_eq] at ho
    rw [ho]
    decide
  · exact dig_asc ho

/-! ### A token -/
def figK (t : List UInt8) : Int := if dateB t = true then 2 else if pE t = 0 then 1 else 0
def figT (t : List UInt8) : List UInt8 := if dateB t = true then t else if pE t = 0 then t else []
def figE (t : List UInt8) : Int := if dateB t = true then 0 else if pE t = 0 then 0 else 5
def numB (b : UInt8) : Bool := digB b || b == 45
def fK (s : List UInt8) : Int := if lowB (s.getD 0 0) = true then 0 else if numB (s.getD 0 0) = true then figK (s.take (takeN figB s)) else if signB (s.getD 0 0) = true then 3 else 0
def fT (s : List UInt8) : List UInt8 := if lowB (s.getD 0 0) = true then s.take (takeN wordB s) else if numB (s.getD 0 0) = true then figT (s.take (takeN figB s)) else if signB (s.getD 0 0) = true then s.take 1 else []
def fE (s : List UInt8) : Int := if lowB (s.getD 0 0) = true then 0 else if numB (s.getD 0 0) = true then figE (s.take (takeN figB s)) else if signB (s.getD 0 0) = true then 0 else 4
theorem f_low {s : List UInt8} (h : lowB (s.getD 0 0) = true) : fK s = 0 ∧ fT s = s.take (takeN wordB s) ∧ fE s = 0 := by
  unfold fK fT fE
  rw [if_pos h, if_pos h, if_pos h]
  exact ⟨rfl, rfl, rfl⟩
theorem f_num {s : List UInt8} (h : lowB (s.getD 0 0) = false) (h2 : numB (s.getD 0 0) = true) : fK s = figK (s.take (takeN figB s)) ∧ fT s = figT (s.take (takeN figB s)) ∧ fE s = figE (s.take (takeN figB s)) := by
  have n1 : ¬ lowB (s.getD 0 0) = true := by rw [h]; simp
  unfold fK fT fE
  rw [if_neg n1, if_neg n1, if_neg n1, if_pos h2, if_pos h2, if_pos h2]
  exact ⟨rfl, rfl, rfl⟩
theorem f_sign {s : List UInt8} (h : lowB (s.getD 0 0) = false) (h2 : numB (s.getD 0 0) = false) (h3 : signB (s.getD 0 0) = true) : fK s = 3 ∧ fT s = s.take 1 ∧ fE s = 0 := by
  have n1 : ¬ lowB (s.getD 0 0) = true := by rw [h]; simp
  have n2 : ¬ numB (s.getD 0 0) = true := by rw [h2]; simp
  unfold fK fT fE
  rw [if_neg n1, if_neg n1, if_neg n1, if_neg n2, if_neg n2, if_neg n2, if_pos h3, if_pos h3, if_pos h3]
  exact ⟨rfl, rfl, rfl⟩
theorem f_none {s : List UInt8} (h : lowB (s.getD 0 0) = false) (h2 : numB (s.getD 0 0) = false) (h3 : signB (s.getD 0 0) = false) : fK s = 0 ∧ fT s = [] ∧ fE s = 4 := by
  have n1 : ¬ lowB (s.getD 0 0) = true := by rw [h]; simp
  have n2 : ¬ numB (s.getD 0 0) = true := by rw [h2]; simp
  have n3 : ¬ signB (s.getD 0 0) = true := by rw [h3]; simp
  unfold fK fT fE
  rw [if_neg n1, if_neg n1, if_neg n1, if_neg n2, if_neg n2, if_neg n2, if_neg n3, if_neg n3, if_neg n3]
  exact ⟨rfl, rfl, rfl⟩
theorem first5 (s : List UInt8) : lowB (s.getD 0 0) = true ∨ (lowB (s.getD 0 0) = false ∧ digB (s.getD 0 0) = true) ∨ (lowB (s.getD 0 0) = false ∧ digB (s.getD 0 0) = false ∧ s.getD 0 0 = 45) ∨ (lowB (s.getD 0 0) = false ∧ numB (s.getD 0 0) = false ∧ signB (s.getD 0 0) = true) ∨ (lowB (s.getD 0 0) = false ∧ numB (s.getD 0 0) = false ∧ signB (s.getD 0 0) = false) := by
  cases h1 : lowB (s.getD 0 0) with
  | true => exact .inl rfl
  | false =>
    cases h2 : digB (s.getD 0 0) with
    | true => exact .inr (.inl ⟨rfl, rfl⟩)
    | false =>
      by_cases h3 : s.getD 0 0 = 45
      · exact .inr (.inr (.inl ⟨rfl, rfl, h3⟩))
      · have h4 : numB (s.getD 0 0) = false := by unfold numB; rw [h2]; simpa using h3
        cases h5 : signB (s.getD 0 0) with
        | true => exact .inr (.inr (.inr (.inl ⟨rfl, h4, rfl⟩)))
        | false => exact .inr (.inr (.inr (.inr ⟨rfl, h4, rfl⟩)))
theorem num_dig {b : UInt8} (h : digB b = true) : numB b = true := by unfold numB; rw [h]; rfl
theorem num_45 {b : UInt8} (h : b = 45) : numB b = true := by rw [h]; decide
theorem num_no {b : UInt8} (h : numB b = false) : digB b = false ∧ ¬ b = 45 := by
  unfold numB at h
  rw [Bool.or_eq_false_iff] at h
  exact ⟨h.1, by simpa using h.2⟩
theorem takeN_pos {p : UInt8 → Bool} {s : List UInt8} (h0 : 0 < s.length) (h : p (s.getD 0 0) = true) : 0 < takeN p s := by
  rcases Nat.eq_zero_or_pos (takeN p s) with e | e
  · have := takeN_end (p := p) (s := s) (by omega)
    rw [e, h] at this
    cases this
  · exact e
/-- A token is not empty, and the text's beginning. -/
theorem f_len {s : List UInt8} (h0 : 0 < s.length) (h : fE s = 0) : 0 < (fT s).length ∧ (fT s).length ≤ s.length ∧ fT s = s.take (fT s).length := by
  have key : ∀ n, 0 < n → n ≤ s.length → fT s = s.take n → 0 < (fT s).length ∧ (fT s).length ≤ s.length ∧ fT s = s.take (fT s).length := fun n h1 h2 h3 => by
    have hl : (fT s).length = n := by rw [h3, List.length_take]; omega
    rw [hl]
    exact ⟨h1, h2, h3⟩
  rcases first5 s with h1 | ⟨h1, h2⟩ | ⟨h1, h2, h3⟩ | ⟨h1, h2, h3⟩ | ⟨h1, h2, h3⟩
  · exact key _ (takeN_pos h0 (by unfold wordB; rw [h1]; rfl)) (takeN_le _ _) (f_low h1).2.1
  · have hf := f_num h1 (num_dig h2)
    refine key _ (takeN_pos (p := figB) h0 (by unfold figB; rw [h2]; rfl)) (takeN_le _ _) ?_
    rw [hf.2.1]
    have he := hf.2.2.symm.trans h
    unfold figE at he
    unfold figT
    split at he
    · rw [if_pos (by assumption)]
    · split at he
      · rw [if_neg (by assumption), if_pos (by assumption)]
      · cases he
  · have hf := f_num h1 (num_45 h3)
    refine key _ (takeN_pos (p := figB) h0 (by unfold figB; rw [h3]; decide)) (takeN_le _ _) ?_
    rw [hf.2.1]
    have he := hf.2.2.symm.trans h
    unfold figE at he
    unfold figT
    split at he
    · rw [if_pos (by assumption)]
    · split at he
      · rw [if_neg (by assumption), if_pos (by assumption)]
      · cases he
  · exact key 1 (by omega) h0 (f_sign h1 h2 h3).2.1
  · rw [(f_none h1 h2 h3).2.2] at h; cases h

/-! ### A text -/
structure Tk where
  k : Int
  t : List UInt8
  at' : Nat
def tkR (t : Tk) : List Value := [.int .i64 t.k, .string (str t.t), .int .i64 ((t.at' : Nat) : Int)]
def tks (l : List Tk) : List (List Value) := l.map tkR
abbrev LR := List Tk × Nat × Int
def nextA (s : List UInt8) (at' : Nat) : Nat := at' + (fT (s.drop at')).length + gapL false (s.drop (at' + (fT (s.drop at')).length))
def fin (ts : List Tk) (r : LR) : LR := if r.2.2 = 0 then (ts ++ r.1, 0, 0) else ([], r.2.1, r.2.2)
def lexA : Nat → List UInt8 → Nat → LR
  | 0, _, _ => ([], 0, 0)
  | f + 1, s, a => if s.length ≤ a then ([], 0, 0) else if fE (s.drop a) = 0 then fin [⟨fK (s.drop a), fT (s.drop a), a⟩] (lexA f s (nextA s a)) else ([], a, fE (s.drop a))
def lexR (s : List UInt8) (a : Nat) : LR := lexA (s.length - a + 1) s a
def lexS (s : List UInt8) : LR := if 1048576 < s.length then ([], 0, 7) else lexR s (gapL false s)
theorem fin_fin (a b : List Tk) (r : LR) : fin a (fin b r) = fin (a ++ b) r := by
  unfold fin
  by_cases h : r.2.2 = 0 <;> simp [h]
theorem fin_nil (r : LR) (h : r.2.2 = 0 → r.2.1 = 0) (h2 : r.2.2 ≠ 0 → r.1 = []) : fin [] r = r := by
  obtain ⟨x, y, z⟩ := r
  unfold fin
  by_cases hz : z = 0
  · subst hz
    have hy := h rfl
    simp only at hy
    subst hy
    simp
  · have := h2 hz
    simp only at this
    subst this
    simp [hz]
theorem next_gt {s : List UInt8} {a : Nat} (h : a < s.length) (he : fE (s.drop a) = 0) : a < nextA s a ∧ nextA s a ≤ s.length ∧ a + (fT (s.drop a)).length ≤ s.length := by
  obtain ⟨h1, h2, _⟩ := f_len (s := s.drop a) (by simp; omega) he
  have h3 := gap_le (s.drop (a + (fT (s.drop a)).length)) false
  rw [List.length_drop] at h2 h3
  unfold nextA
  omega
theorem lex_fuel (s : List UInt8) : ∀ (f f' a : Nat), s.length < a + f → s.length < a + f' → lexA f s a = lexA f' s a := by
  intro f
  induction f with
  | zero =>
    intro f' a h h'
    cases f' with
    | zero => rfl
    | succ f' => unfold lexA; rw [if_pos (by omega)]
  | succ f ih =>
    intro f' a h h'
    cases f' with
    | zero => unfold lexA; rw [if_pos (by omega)]
    | succ f' =>
      unfold lexA
      by_cases h1 : s.length ≤ a
      · rw [if_pos h1, if_pos h1]
      · rw [if_neg h1, if_neg h1]
        by_cases h2 : fE (s.drop a) = 0
        · rw [if_pos h2, if_pos h2]
          have := next_gt (by omega) h2
          rw [ih f' _ (by omega) (by omega)]
        · rw [if_neg h2, if_neg h2]
theorem lexR_end {s : List UInt8} {a : Nat} (h : s.length ≤ a) : lexR s a = ([], 0, 0) := by unfold lexR lexA; rw [if_pos h]
theorem lexR_bad {s : List UInt8} {a : Nat} (h : a < s.length) (he : fE (s.drop a) ≠ 0) : lexR s a = ([], a, fE (s.drop a)) := by unfold lexR lexA; rw [if_neg (by omega), if_neg he]
theorem lexR_step {s : List UInt8} {a : Nat} (h : a < s.length) (he : fE (s.drop a) = 0) : lexR s a = fin [⟨fK (s.drop a), fT (s.drop a), a⟩] (lexR s (nextA s a)) := by
  have := next_gt h he
  conv => lhs; unfold lexR lexA
  rw [if_neg (by omega), if_pos he]
  unfold lexR
  rw [lex_fuel s _ (s.length - nextA s a + 1) _ (by omega) (by omega)]
/-- What is told on the way. -/
def LxI (s : List UInt8) (a : Nat) (ts : List Tk) : Prop := a ≤ s.length ∧ s.length ≤ 1048576 ∧ ts.length ≤ a ∧ fin ts (lexR s a) = lexS s
theorem LxI.end {s : List UInt8} {a : Nat} {ts : List Tk} (h : LxI s a ts) (ha : s.length ≤ a) : lexS s = (ts, 0, 0) := by
  rw [← h.2.2.2, lexR_end ha]
  simp [fin]
theorem LxI.bad {s : List UInt8} {a : Nat} {ts : List Tk} (h : LxI s a ts) (ha : a < s.length) (he : fE (s.drop a) ≠ 0) : lexS s = ([], a, fE (s.drop a)) := by
  rw [← h.2.2.2, lexR_bad ha he]
  simp [fin, he]
theorem LxI.step {s : List UInt8} {a : Nat} {ts : List Tk} (h : LxI s a ts) (ha : a < s.length) (he : fE (s.drop a) = 0) : LxI s (nextA s a) (ts ++ [⟨fK (s.drop a), fT (s.drop a), a⟩]) := by
  have h1 := next_gt ha he
  refine ⟨h1.2.1, h.2.1, ?_, ?_⟩
  · have := h.2.2.1
    simp only [List.length_append, List.length_cons, List.length_nil]
    omega
  · rw [← fin_fin, ← lexR_step ha he]
    exact h.2.2.2
theorem lexA_ok (s : List UInt8) : ∀ (f a : Nat), ((lexA f s a).2.2 = 0 → (lexA f s a).2.1 = 0) ∧ ((lexA f s a).2.2 ≠ 0 → (lexA f s a).1 = []) := by
  intro f
  induction f with
  | zero => intro a; exact ⟨fun _ => rfl, fun h => absurd rfl h⟩
  | succ f ih =>
    intro a
    unfold lexA
    split
    · exact ⟨fun _ => rfl, fun h => absurd rfl h⟩
    · split
      · unfold fin
        split
        · exact ⟨fun _ => rfl, fun h => absurd rfl h⟩
        · next hne => exact ⟨fun h => absurd h hne, fun _ => rfl⟩
      · next hne => exact ⟨fun h => absurd h hne, fun _ => rfl⟩
theorem LxI.start {s : List UInt8} (h : ¬ 1048576 < s.length) : LxI s (gapL false s) [] := by
  refine ⟨gap_le _ _, by omega, Nat.zero_le _, ?_⟩
  unfold lexS
  rw [if_neg h]
  exact fin_nil _ (lexA_ok s _ _).1 (lexA_ok s _ _).2
theorem tks_app (a b : List Tk) : tks (a ++ b) = tks a ++ tks b := by unfold tks; rw [List.map_append]
theorem tks_len (a : List Tk) : (tks a).length = a.length := by unfold tks; rw [List.length_map]
theorem lexS_long {s : List UInt8} (h : 1048576 < s.length) : lexS s = ([], 0, 7) := by unfold lexS; rw [if_pos h]
end Go.Proofs.YtcogmabjnkjdfaaDoor.X
