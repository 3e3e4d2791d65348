/- Texts in tokens: the plain mathematics of layer 8. -/
import Derived.Test.YtcogmabjnkjdfaaDoorBXk
import Derived.Test.YtcogmabjnkjdfaaDoorBRd
import Derived.Test.YtcogmabjnkjdfaaDoorDl
import Derived.Laws.RangeAny
namespace Go.Proofs.YtcogmabjnkjdfaaDoor.X
open Go.RowKit Go.Proofs.YtcogmabjnkjdfaaDoor.Z

def lowB (b : UInt8) : Bool := decide (97 ≤ b.toNat) && decide (b.toNat ≤ 122)
def digB (b : UInt8) : Bool := decide (48 ≤ b.toNat) && decide (b.toNat ≤ 57)
def blankB (b : UInt8) : Bool := b == 32 || b == 9 || b == 10 || b == 13
def signB (b : UInt8) : Bool := b == 123 || b == 125 || b == 61 || b == 59 || b == 44
def wordB (b : UInt8) : Bool := lowB b || digB b || b == 45
def figB (b : UInt8) : Bool := digB b || b == 46 || b == 45
def nlB (b : UInt8) : Bool := b != 10
def lowI (m : Int) : Bool := decide (97 ≤ m) && decide (m ≤ 122)
def digI (m : Int) : Bool := decide (48 ≤ m) && decide (m ≤ 57)
def wordI (m : Int) : Bool := lowI m || digI m || decide (m = 45)
def figI (m : Int) : Bool := digI m || decide (m = 46) || decide (m = 45)
def nlI (m : Int) : Bool := !decide (m = 10)

/-! ### Runes -/
theorem get_b (s : List UInt8) (i : Nat) : (⟨⟨s⟩⟩ : ByteArray).get! i = s.getD i 0 := by
  show (⟨s⟩ : Array UInt8)[i]! = s.getD i 0
  rw [List.getD_eq_getElem?_getD]
  by_cases h : i < s.length
  · rw [getElem!_pos (⟨s⟩ : Array UInt8) i h, List.getElem?_eq_getElem h]
    rfl
  · rw [getElem!_neg (⟨s⟩ : Array UInt8) i h, List.getElem?_eq_none (by omega)]
    rfl
theorem dec_ok (s : List UInt8) (pos : Nat) (h : pos < s.length) : 1 ≤ runeW s pos ∧ pos + runeW s pos ≤ s.length ∧ ((s.getD pos 0).toNat < 128 → rune s pos = (s.getD pos 0).toNat ∧ runeW s pos = 1) ∧ (128 ≤ (s.getD pos 0).toNat → 128 ≤ rune s pos) ∧ ∀ j, 0 < j → j < runeW s pos → 128 ≤ (s.getD (pos + j) 0).toNat := by
  have hsz : (⟨⟨s⟩⟩ : ByteArray).size = s.length := rfl
  have hh : 128 ≤ (s.getD pos 0).toNat → 128 ≤ rune s pos := fun hb => by
    have hlt : pos < (⟨⟨s⟩⟩ : ByteArray).size := h
    have := (decode_high (⟨⟨s⟩⟩ : ByteArray) pos hlt (by
      rw [← Go.get_at (⟨⟨s⟩⟩ : ByteArray) pos hlt, Nat.add_zero, get_b]
      exact hb)).1
    exact this
  refine ⟨?_, ?_, ?_, hh, ?_⟩
  all_goals
    unfold runeW
    try unfold rune
    simp only [Utf8.decode, get_b, hsz, Nat.add_zero, Bool.and_eq_true, decide_eq_true_eq, beq_iff_eq, ge_iff_le]
  · repeat' split
    all_goals simp
  · repeat' split
    all_goals (simp; omega)
  · intro hb
    rw [if_pos hb]
    exact ⟨rfl, rfl⟩
  · intro j h0
    repeat' split
    all_goals
      intro h1
      simp only at h1
      first
        | omega
        | (have h2 : j = 1 := by omega
           subst h2
           omega)
        | (have h2 : j = 1 ∨ j = 2 := by omega
           rcases h2 with rfl | rfl <;> omega)
        | (have h2 : j = 1 ∨ j = 2 ∨ j = 3 := by omega
           rcases h2 with rfl | rfl | rfl <;> omega)

/-! ### Runs -/
def takeN (p : UInt8 → Bool) (s : List UInt8) : Nat := (s.takeWhile p).length
theorem takeN_le (p : UInt8 → Bool) (s : List UInt8) : takeN p s ≤ s.length := (List.takeWhile_sublist p).length_le
theorem takeN_eq {p : UInt8 → Bool} : ∀ {s : List UInt8} {n : Nat}, n ≤ s.length → (∀ j, j < n → p (s.getD j 0) = true) → (n = s.length ∨ p (s.getD n 0) = false) → takeN p s = n := by
  intro s
  induction s with
  | nil => intro n h _ _; simp at h; subst h; rfl
  | cons b r ih =>
    intro n h h1 h2
    unfold takeN
    cases n with
    | zero =>
      rcases h2 with h2 | h2
      · simp at h2
      · have : p b = false := by simpa using h2
        rw [List.takeWhile_cons_of_neg (by rw [this]; simp)]
        rfl
    | succ n =>
      have hb : p b = true := by simpa using h1 0 (by omega)
      rw [List.takeWhile_cons_of_pos hb, List.length_cons]
      congr 1
      refine ih (by simpa using h) (fun j hj => by simpa using h1 (j + 1) (by omega)) ?_
      rcases h2 with h2 | h2
      · left; simpa using h2
      · right; simpa using h2
theorem takeN_get {p : UInt8 → Bool} : ∀ {s : List UInt8} {j : Nat}, j < takeN p s → p (s.getD j 0) = true := by
  intro s
  induction s with
  | nil => intro j h; simp [takeN] at h
  | cons b r ih =>
    intro j h
    unfold takeN at h
    cases hb : p b with
    | false => rw [List.takeWhile_cons_of_neg (by rw [hb]; simp)] at h; cases h
    | true =>
      rw [List.takeWhile_cons_of_pos hb] at h
      cases j with
      | zero => simpa using hb
      | succ j => simpa using ih (j := j) (by simpa [takeN] using h)
theorem takeN_end {p : UInt8 → Bool} : ∀ {s : List UInt8}, takeN p s < s.length → p (s.getD (takeN p s) 0) = false := by
  intro s
  induction s with
  | nil => intro h; cases h
  | cons b r ih =>
    intro h
    unfold takeN at h ⊢
    cases hb : p b with
    | false => rw [List.takeWhile_cons_of_neg (by rw [hb]; simp)]; simpa using hb
    | true =>
      rw [List.takeWhile_cons_of_pos hb] at h ⊢
      simpa [takeN] using ih (by simpa [takeN] using h)
/-- What a rune is to a byte: runes of a byte go with it; greater ones all alike. -/
structure Goes (I : Int → Bool) (p : UInt8 → Bool) : Prop where
  low : ∀ b : UInt8, b.toNat < 128 → I ((b.toNat : Nat) : Int) = p b
  high : ∃ c, (∀ m : Nat, 128 ≤ m → I (m : Int) = c) ∧ ∀ b : UInt8, 128 ≤ b.toNat → p b = c
theorem Goes.step {I : Int → Bool} {p : UInt8 → Bool} (g : Goes I p) {s : List UInt8} {i : Nat} (h : i < s.length) : 1 ≤ runeW s i ∧ i + runeW s i ≤ s.length ∧ (I ((rune s i : Nat) : Int) = p (s.getD i 0)) ∧ (I ((rune s i : Nat) : Int) = true → ∀ j, i ≤ j → j < i + runeW s i → p (s.getD j 0) = true) := by
  obtain ⟨d1, d2, d3, d4, d5⟩ := dec_ok s i h
  obtain ⟨c, c1, c2⟩ := g.high
  have e : I ((rune s i : Nat) : Int) = p (s.getD i 0) := by
    rcases Nat.lt_or_ge (s.getD i 0).toNat 128 with hb | hb
    · rw [(d3 hb).1]
      exact g.low _ hb
    · rw [c1 _ (d4 hb), c2 _ hb]
  refine ⟨d1, d2, e, fun hI j hj hj2 => ?_⟩
  rcases Nat.eq_or_lt_of_le hj with rfl | hj
  · rw [← e]; exact hI
  · rcases Nat.lt_or_ge (s.getD i 0).toNat 128 with hb | hb
    · have := (d3 hb).2
      omega
    · rw [c1 _ (d4 hb)] at hI
      have := d5 (j - i) (by omega) (by omega)
      rw [show i + (j - i) = j by omega] at this
      rw [c2 _ this]
      exact hI
theorem goes_low : Goes lowI lowB := ⟨fun b _ => by simp only [lowI, lowB]; congr 1 <;> simp only [decide_eq_decide] <;> omega, false, fun m h => by simp [lowI]; omega, fun b h => by simp [lowB]; omega⟩
theorem u8_eq {b c : UInt8} : decide (((b.toNat : Nat) : Int) = ((c.toNat : Nat) : Int)) = (b == c) := by
  rw [Bool.eq_iff_iff]
  simp only [decide_eq_true_eq, beq_iff_eq]
  exact ⟨fun h => UInt8.toNat_inj.1 (by omega), fun h => by rw [h]⟩
theorem goes_dig : Goes digI digB := ⟨fun b _ => by simp only [digI, digB]; congr 1 <;> simp only [decide_eq_decide] <;> omega, false, fun m h => by simp [digI]; omega, fun b h => by simp [digB]; omega⟩
theorem hi_ne {b c : UInt8} (h : 128 ≤ b.toNat) (hc : c.toNat < 128) : (b == c) = false := by
  rw [beq_eq_false_iff_ne]
  intro e
  rw [e] at h
  omega
theorem goes_word : Goes wordI wordB := by
  obtain ⟨c, l1, l2⟩ := goes_low.high
  refine ⟨fun b hb => ?_, false, fun m h => ?_, fun b h => ?_⟩
  · unfold wordI wordB
    rw [goes_low.low b hb, goes_dig.low b hb]
    congr 1
    exact u8_eq (b := b) (c := 45)
  · simp [wordI, lowI, digI]; omega
  · simp only [wordB, lowB, digB, hi_ne (c := 45) h (by decide), Bool.or_false]; simp; omega
theorem goes_fig : Goes figI figB := by
  refine ⟨fun b hb => ?_, false, fun m h => ?_, fun b h => ?_⟩
  · unfold figI figB
    rw [goes_dig.low b hb]
    congr 1
    · congr 1
      exact u8_eq (b := b) (c := 46)
    · exact u8_eq (b := b) (c := 45)
  · simp [figI, digI]; omega
  · simp only [figB, digB, hi_ne (c := 45) h (by decide), hi_ne (c := 46) h (by decide), Bool.or_false]; simp; omega
theorem goes_nl : Goes nlI nlB := by
  refine ⟨fun b hb => ?_, true, fun m h => ?_, fun b h => ?_⟩
  · unfold nlI nlB
    show (!decide (((b.toNat : Nat) : Int) = 10)) = !(b == 10)
    rw [← u8_eq (b := b) (c := 10)]
    rfl
  · simp [nlI]; omega
  · unfold nlB
    show (!(b == 10)) = true
    rw [hi_ne h (by decide)]
    rfl

/-! ### Gaps -/
def gapL : Bool → List UInt8 → Nat
  | _, [] => 0
  | true, b :: r => if b = 10 then 1 + gapL false r else 1 + gapL true r
  | false, b :: r => if blankB b then 1 + gapL false r else if b = 35 then 1 + gapL true r else 0
theorem gap_le : ∀ (s : List UInt8) (c : Bool), gapL c s ≤ s.length := by
  intro s
  induction s with
  | nil => intro c; cases c <;> simp [gapL]
  | cons b r ih =>
    intro c
    have h1 := ih true
    have h2 := ih false
    cases c <;> (unfold gapL; simp only [List.length_cons]; repeat' split) <;> omega
theorem gap_rem (s : List UInt8) : gapL true s = takeN nlB s + gapL false (s.drop (takeN nlB s)) := by
  induction s with
  | nil => rfl
  | cons b r ih =>
    unfold takeN
    by_cases hb : b = 10
    · subst hb
      rw [List.takeWhile_cons_of_neg (by decide)]
      simp [gapL, blankB]
    · have hp : nlB b = true := by simpa [nlB] using hb
      rw [List.takeWhile_cons_of_pos hp, List.length_cons, List.drop_succ_cons]
      have : gapL true (b :: r) = 1 + gapL true r := by show (if b = 10 then _ else _) = _; rw [if_neg hb]
      rw [this, ih]
      unfold takeN
      omega
theorem drop_get {s : List UInt8} {i : Nat} (h : i < s.length) : s.drop i = s.getD i 0 :: s.drop (i + 1) := by
  rw [List.drop_eq_getElem_cons h, List.getD_eq_getElem?_getD, List.getElem?_eq_getElem h]
  rfl
theorem gap_blank {s : List UInt8} {i : Nat} (h : i < s.length) (hb : blankB (s.getD i 0) = true) : gapL false (s.drop i) = 1 + gapL false (s.drop (i + 1)) := by
  rw [drop_get h]
  show (if blankB (s.getD i 0) then _ else _) = _
  rw [if_pos hb]
theorem gap_hash {s : List UInt8} {i : Nat} (h : i < s.length) (hb : blankB (s.getD i 0) = false) (hc : s.getD i 0 = 35) : gapL false (s.drop i) = takeN nlB (s.drop i) + gapL false (s.drop (i + takeN nlB (s.drop i))) ∧ 1 ≤ takeN nlB (s.drop i) := by
  have hd := drop_get h
  have h1 : gapL false (s.drop i) = gapL true (s.drop i) := by
    rw [hd]
    show (if blankB (s.getD i 0) then _ else _) = (if (s.getD i 0) = 10 then _ else _)
    rw [if_neg (by rw [hb]; simp), if_pos hc, hc, if_neg (by decide)]
  have h2 := gap_rem (s.drop i)
  rw [List.drop_drop] at h2
  refine ⟨h1.trans h2, ?_⟩
  rw [hd]
  unfold takeN
  rw [List.takeWhile_cons_of_pos (by rw [hc]; decide), List.length_cons]
  omega
theorem gap_stop {s : List UInt8} {i : Nat} (h : i < s.length) (hb : blankB (s.getD i 0) = false) (hc : ¬ s.getD i 0 = 35) : gapL false (s.drop i) = 0 := by
  rw [drop_get h]
  show (if blankB (s.getD i 0) then _ else _) = _
  rw [if_neg (by rw [hb]; simp), if_neg hc]
theorem gap_end {s : List UInt8} {i : Nat} (h : s.length ≤ i) : gapL false (s.drop i) = 0 := by
  rw [List.drop_eq_nil_of_le h]
  rfl
theorem ix_mem (c : UInt8) : ∀ l : List UInt8, decide (0 ≤ Lib.indexByte l c) = l.contains c := by
  intro l
  induction l with
  | nil => rfl
  | cons b r ih =>
    rw [Bool.eq_iff_iff] at ih ⊢
    simp only [decide_eq_true_eq, List.contains_iff_mem, List.mem_cons] at ih ⊢
    unfold Lib.indexByte
    by_cases hb : b = c
    · subst hb
      simp
    · have hc : ¬ c = b := fun e => hb e.symm
      simp only [hb, hc, false_or, if_false, beq_iff_eq, ← ih]
      split <;> omega
theorem ix_byte {l : List UInt8} {b : UInt8} : decide ((0 : Int) ≤ Lib.indexByte l ((((b.toNat : Nat) : Int)).toNat).toUInt8) = l.contains b := by
  rw [Int.toNat_natCast, show b.toNat.toUInt8 = b by simp]
  exact ix_mem b l
theorem ix_blank {b : UInt8} : decide ((0 : Int) ≤ Lib.indexByte [32, 9, 10, 13] ((((b.toNat : Nat) : Int)).toNat).toUInt8) = blankB b := by
  rw [ix_byte]
  rw [Bool.eq_iff_iff]
  simp [blankB, or_assoc]
theorem ix_sign {b : UInt8} : decide ((0 : Int) ≤ Lib.indexByte [123, 125, 61, 59, 44] ((((b.toNat : Nat) : Int)).toNat).toUInt8) = signB b := by
  rw [ix_byte]
  rw [Bool.eq_iff_iff]
  simp [signB, or_assoc]
end Go.Proofs.YtcogmabjnkjdfaaDoor.X
