/- Blanks and remarks between tokens. -/
import Derived.Test.YtcogmabjnkjdfaaDoorLw
import Derived.Shelf.Strings.Replace
namespace Go.Proofs.YtcogmabjnkjdfaaDoor.X
open Go.RowKit Go.Proofs.YtcogmabjnkjdfaaDoor.Z

/-- What stands for a token. -/
def blk (r t : List UInt8) : List UInt8 := [32, 9] ++ t ++ [13, 10, 35] ++ r ++ [10]
def bls (r : List UInt8) : List Tk → List UInt8
  | [] => [35] ++ r
  | x :: l => blk r x.t ++ bls r l
def blT (r : List UInt8) (l : List Tk) (i : Nat) : List UInt8 := (l.take i).foldl (fun t x => t ++ blk r x.t) ([35] ++ r ++ [10])
theorem blT_succ {r : List UInt8} {l : List Tk} {i : Nat} (h : i < l.length) : blT r l (i + 1) = blT r l i ++ blk r (l.getD i ⟨0, [], 0⟩).t := by
  unfold blT
  rw [List.take_add_one, List.getElem?_eq_getElem h, Option.toList_some, List.foldl_append, List.getD_eq_getElem?_getD, List.getElem?_eq_getElem h]
  rfl
theorem foldl_bls {r : List UInt8} : ∀ (l : List Tk) (t : List UInt8), l.foldl (fun t x => t ++ blk r x.t) t ++ ([35] ++ r) = t ++ bls r l := by
  intro l
  induction l with
  | nil => intro t; rfl
  | cons x l ih =>
    intro t
    rw [List.foldl_cons, ih]
    show t ++ blk r x.t ++ bls r l = t ++ (blk r x.t ++ bls r l)
    rw [List.append_assoc]
theorem blT_end {r : List UInt8} {l : List Tk} : blT r l l.length ++ [35] ++ r = [35] ++ r ++ [10] ++ bls r l := by
  unfold blT
  rw [List.take_length, List.append_assoc, foldl_bls]
theorem blk_len {r t : List UInt8} : (blk r t).length = t.length + r.length + 6 := by
  unfold blk
  simp
  omega
theorem blT_len {r : List UInt8} {l : List Tk} (hr : r.length ≤ 50) (hl : ∀ i, i < l.length → (l.getD i ⟨0, [], 0⟩).t.length ≤ 300) : ∀ i, i ≤ l.length → (blT r l i).length ≤ 52 + i * 356 := by
  intro i
  induction i with
  | zero =>
    intro _
    show ([35] ++ r ++ [10]).length ≤ _
    simp
    omega
  | succ i ih =>
    intro h
    rw [blT_succ h, List.length_append, blk_len]
    have h1 := ih (by omega)
    have h2 := hl i h
    omega
/-! ### Gaps -/
theorem gap_line : ∀ (r t : List UInt8), 10 ∉ r → gapL true (r ++ 10 :: t) = r.length + 1 + gapL false t := by
  intro r
  induction r with
  | nil => intro t _; show 1 + gapL false t = _; simp
  | cons b r ih =>
    intro t h
    have hb : ¬ b = 10 := fun e => h (by simp [e])
    show (if b = 10 then _ else 1 + gapL true (r ++ 10 :: t)) = _
    rw [if_neg hb, ih t fun e => h (by simp [e])]
    simp
    omega
theorem gap_last : ∀ (r : List UInt8), 10 ∉ r → gapL true r = r.length := by
  intro r
  induction r with
  | nil => intro _; rfl
  | cons b r ih =>
    intro h
    have hb : ¬ b = 10 := fun e => h (by simp [e])
    show (if b = 10 then _ else 1 + gapL true r) = _
    rw [if_neg hb, ih fun e => h (by simp [e])]
    simp
    omega
/-- What is a gap ahead of anything. -/
def Gap (g : List UInt8) : Prop := ∀ t, gapL false (g ++ t) = g.length + gapL false t
theorem gap_rm {r : List UInt8} (hr : 10 ∉ r) : Gap ([35] ++ r ++ [10]) := fun t => by
  have e : [35] ++ r ++ [10] ++ t = 35 :: (r ++ 10 :: t) := by simp
  rw [e]
  show 1 + gapL true (r ++ 10 :: t) = _
  rw [gap_line _ _ hr]
  simp
  omega
theorem Gap.app {g h : List UInt8} (a : Gap g) (b : Gap h) : Gap (g ++ h) := fun t => by
  rw [List.append_assoc, a, b, List.length_append]
  omega
theorem Lc.pre {g t : List UInt8} {l : List Tk} (hg : Gap g) (h : Lc t l) : Lc (g ++ t) l := by
  cases l with
  | nil =>
    have h' : gapL false t = t.length := h
    show gapL false (g ++ t) = (g ++ t).length
    rw [hg, h', List.length_append]
  | cons x r =>
    obtain ⟨g', tail, e, h1, h2, h3⟩ := h
    exact ⟨g ++ g', tail, by rw [e, List.append_assoc], by rw [hg, h1, List.length_append], h2, h3⟩
theorem bls_lc {r : List UInt8} (hr : 10 ∉ r) : ∀ l : List Tk, (∀ x ∈ l, Gd x.k x.t) → Lc (bls r l) l := by
  intro l
  induction l with
  | nil =>
    intro _
    show gapL false ([35] ++ r) = ([35] ++ r).length
    show 1 + gapL true r = _
    rw [gap_last r hr]
    simp
    omega
  | cons x l ih =>
    intro hg
    have gx := hg x (.head _)
    have hl := ih fun y hy => hg y (.tail _ hy)
    have hb : Gap [13, 10] := fun t => by
      show 1 + (1 + gapL false t) = _
      simp
      omega
    have hs : Stops (([13, 10] ++ ([35] ++ r ++ [10])) ++ bls r l) := .inr ⟨13, _, rfl, by decide⟩
    refine ⟨[32, 9], ([13, 10] ++ ([35] ++ r ++ [10])) ++ bls r l, ?_, ?_, hs, Lc.pre (hb.app (gap_rm hr)) hl⟩
    · show blk r x.t ++ bls r l = _
      unfold blk
      simp
    · have e : bls r (x :: l) = 32 :: 9 :: (x.t ++ (([13, 10] ++ ([35] ++ r ++ [10])) ++ bls r l)) := by
        show blk r x.t ++ bls r l = _
        unfold blk
        simp
      rw [e]
      show 1 + (1 + gapL false _) = _
      rw [gx.gap hs]
      rfl
/-- A text in which blanks and remarks stand between the tokens of another. -/
theorem blanks_ok {r u : List UInt8} (hr : 10 ∉ r) (hs : (blT r (lexS u).1 (lexS u).1.length ++ [35] ++ r).length ≤ 1048576) :
    (lexS (blT r (lexS u).1 (lexS u).1.length ++ [35] ++ r)).1.map kt = (lexS u).1.map kt ∧ (lexS (blT r (lexS u).1 (lexS u).1.length ++ [35] ++ r)).2.2 = 0 :=
  lexS_laced (lexS_good u) (by rw [blT_end]; exact Lc.pre (gap_rm hr) (bls_lc hr _ (lexS_good u))) hs
/-! ### Line ends told as blanks -/
def nl2 (l : List UInt8) : List UInt8 := l.map fun b => if b = 10 then 32 else b
theorem nl2_len (l : List UInt8) : (nl2 l).length = l.length := by simp [nl2]
theorem nl2_no (l : List UInt8) : 10 ∉ nl2 l := by
  unfold nl2
  intro h
  obtain ⟨b, _, h⟩ := List.mem_map.1 h
  split at h
  · revert h; decide
  · next hb => exact hb h
theorem replaceK_nl : ∀ s : List UInt8, Lib.replaceK [10] [32] (Lib.count s [10]) s = nl2 s := by
  intro s
  induction s with
  | nil => rw [Lib.count_one]; rfl
  | cons b l ih =>
    by_cases hb : b = 10
    · subst hb
      rw [Lib.count_cons_eq, Nat.add_comm 1, Lib.replaceK_hit [10] [32] _ _ 0 (by rw [Lib.index_one]; rfl)]
      show [] ++ [32] ++ Lib.replaceK [10] [32] (Lib.count l [10]) l = 32 :: nl2 l
      rw [ih]
      rfl
    · rw [Lib.count_cons_ne _ _ _ hb]
      have e : nl2 (b :: l) = b :: nl2 l := by simp [nl2, hb]
      rw [e, ← ih]
      cases hc : Lib.count l [10] with
      | zero => rfl
      | succ m =>
        obtain ⟨i, hi⟩ := Lib.index_of_count (s := l) (old := [10]) (by omega)
        have hi' : Lib.index (b :: l) [10] = ((i + 1 : Nat) : Int) := by
          rw [Lib.index_one] at hi ⊢
          show (if b == 10 then (0 : Int) else if Lib.indexByte l 10 == -1 then -1 else Lib.indexByte l 10 + 1) = _
          rw [hi, if_neg (by simpa using hb), if_neg (by simp)]
          omega
        rw [Lib.replaceK_hit _ _ _ _ _ hi, Lib.replaceK_hit _ _ _ _ _ hi']
        rfl
theorem replaceAll_nl (s : List UInt8) : Lib.replaceAll s [10] [32] = nl2 s := by
  unfold Lib.replaceAll Lib.replace Lib.replaceNum
  rw [if_neg (by decide), if_pos (.inl (by decide)), replaceK_nl]
end Go.Proofs.YtcogmabjnkjdfaaDoor.X
