/- Texts in tokens: texts joined, by the library's contracts. -/
import Derived.Test.YtcogmabjnkjdfaaDoorLy
import Derived.Test.YtcogmabjnkjdfaaDoorLibS
namespace Go.Proofs.YtcogmabjnkjdfaaDoor.X
open Go.RowKit Go.Proofs.YtcogmabjnkjdfaaDoor.Z

/-- The text of a row of one. -/
def stR : List Value → List UInt8
  | [.string ⟨⟨t⟩⟩] => t
  | _ => []
def rwS (t : List UInt8) : List Value := [.string (str t)]
theorem st_rw (ts : List (List UInt8)) : (ts.map rwS).map stR = ts := by
  rw [List.map_map]
  conv => rhs; rw [← List.map_id ts]
  exact List.map_congr_left fun t _ => rfl
theorem flat_one {α : Type} (f : α → Value) (ts : List α) : (ts.map fun t => [f t]).flatten = ts.map f := by
  induction ts with
  | nil => rfl
  | cons t r ih => rw [List.map_cons, List.flatten_cons, ih]; rfl
theorem sjoin_ts {w : World} {v u : Value} {ts : List (List UInt8)} {sep : List UInt8} (h1 : isRd (cxA w) true 1 (ts.map rwS) w v) (h2 : isT sep w u) (hN : ts.length ≤ 140737488355328) (hlen : (Lib.join ts sep).length ≤ 140737488355328) : Calls Tryd.prog 14 #[v, u] w (Ret w fun v' w' => isT (Lib.join ts sep) w' v') := by
  cases h2
  obtain ⟨_, A, cap, rfl, hc, hm, hcell⟩ := h1
  rw [List.length_map] at hc ⊢
  by_cases hn : ts = []
  · subst hn
    exact (Any.strings_Join_none lays156 extra156 A cap (str sep) w).mono fun _ _ ⟨e, h⟩ => ⟨_, e, rfl, by rw [h]; exact Grow.refl w⟩
  · obtain ⟨b, off, cs, t, fr, rfl, hb, _, _, hx⟩ := hcell (by simpa using hn)
    have e1 : (ts.map str).map (fun s : ByteArray => s.data.toList) = ts := by
      rw [List.map_map]
      conv => rhs; rw [← List.map_id ts]
      exact List.map_congr_left fun t _ => rfl
    have hcl : ∀ (j : Nat) (x : ByteArray), (ts.map str)[j]? = some x → w.cell? ⟨b, off + j, none⟩ = some (.string x) := by
      intro j x hj
      simp only [World.cell?, hb, Option.isSome_none, Bool.false_eq_true, if_false]
      refine hx j _ ?_
      rw [show (ts.map rwS).flatten = ts.map (fun t => Value.string (str t)) from flat_one _ ts]
      rw [List.getElem?_map] at hj ⊢
      obtain ⟨y, hy, rfl⟩ := Option.map_eq_some_iff.1 hj
      rw [hy]
      rfl
    have h := Any.strings_Join lays156 extra156 b off cap (ts.map str) (str sep) w hcl (lt_heap hb) (by rw [List.length_map]; exact hN) (by rw [List.length_map]; exact hc) (by rw [e1]; exact hlen)
    rw [List.length_map, e1] at h
    exact h.mono fun _ _ ⟨e, g⟩ => ⟨_, e, rfl, g⟩
theorem sjoin_t {w : World} {v u : Value} {x : List (List Value)} {sep : List UInt8} (h1 : isRd (cxA w) true 1 x w v) (h2 : isT sep w u) (hx : x = (x.map stR).map rwS) (hN : x.length ≤ 140737488355328) (hlen : (Lib.join (x.map stR) sep).length ≤ 140737488355328) : Calls Tryd.prog 14 #[v, u] w (Ret w fun v' w' => isT (Lib.join (x.map stR) sep) w' v') := by
  rw [hx] at h1
  exact sjoin_ts h1 h2 (by rw [List.length_map]; exact hN) hlen
theorem hasPre_t {w : World} {v u : Value} {l p : List UInt8} (h1 : isT l w v) (h2 : isT p w u) : Calls Tryd.prog 11 #[v, u] w (Ret w fun v' w' => isE (.bool (Lib.hasPrefix l p)) w' v') := by
  cases h1
  cases h2
  exact (Any.strings_HasPrefix lays99 (str l) (str p) w).mono fun _ _ ⟨e, h⟩ => ⟨_, e, rfl, by rw [h]; exact Grow.refl w⟩

/-! ### Rows of tokens -/
def k1R : List Value → Int
  | [.int .i64 k, _, _] => k
  | _ => 0
def txR : List Value → List UInt8
  | [_, .string ⟨⟨t⟩⟩, _] => t
  | _ => []
def a1R : List Value → Int
  | [_, _, .int .i64 k] => k
  | _ => 0
def rOk (r : List Value) : Prop := r = [.int .i64 (k1R r), .string (str (txR r)), .int .i64 (a1R r)]
theorem rOk_tk (t : Tk) : rOk (tkR t) := rfl
theorem tks_ok (l : List Tk) : ∀ r ∈ tks l, rOk r := fun r h => by
  obtain ⟨t, _, rfl⟩ := List.mem_map.1 h
  rfl
theorem tx_tks (l : List Tk) : (tks l).map txR = l.map (·.t) := by
  unfold tks
  rw [List.map_map]
  exact List.map_congr_left fun t _ => rfl
theorem rOk_at {x : List (List Value)} (h : ∀ r ∈ x, rOk r) {i : Nat} (hi : i < x.length) : x.getD i [] = [.int .i64 (k1R (x.getD i [])), .string (str (txR (x.getD i []))), .int .i64 (a1R (x.getD i []))] := by
  refine h _ ?_
  rw [List.getD_eq_getElem?_getD, List.getElem?_eq_getElem hi]
  exact List.getElem_mem hi
def sR (r : List Value) : List Value := [.string (str (txR r))]
/-- The texts of the first ones. -/
def jn (x : List (List Value)) (i : Nat) : List (List Value) := (x.take i).map sR ++ List.replicate (x.length - i) [.string (str [])]
theorem jn_zero (x : List (List Value)) : List.replicate x.length [.string (str [])] = jn x 0 := by simp [jn]
theorem jn_len {x : List (List Value)} {i : Nat} (h : i ≤ x.length) : (jn x i).length = x.length := by
  simp [jn, Nat.min_eq_left h]
  omega
theorem jn_set {x : List (List Value)} {i : Nat} (h : i < x.length) : (jn x i).set i [.string (str (txR (x.getD i [])))] = jn x (i + 1) := by
  have h1 : ((x.take i).map sR).length = i := by simp; omega
  have e : List.replicate (x.length - i) [Value.string (str [])] = [Value.string (str [])] :: List.replicate (x.length - (i + 1)) [.string (str [])] := by
    rw [← List.replicate_succ]
    congr 1
    omega
  unfold jn
  rw [List.set_append_right _ _ (by rw [h1]; exact Nat.le_refl _), h1, Nat.sub_self, e, List.set_cons_zero]
  have e2 : x.take (i + 1) = x.take i ++ [x.getD i []] := by
    rw [List.take_add_one, List.getElem?_eq_getElem h, List.getD_eq_getElem?_getD, List.getElem?_eq_getElem h]
    rfl
  rw [e2, List.map_append, List.append_assoc]
  rfl
theorem jn_end {x : List (List Value)} {i : Nat} (h : x.length ≤ i) : jn x i = (x.map txR).map rwS := by
  unfold jn
  rw [List.take_of_length_le h, Nat.sub_eq_zero_of_le h, List.map_map]
  simp
  exact fun r _ => rfl
theorem jn_st {x : List (List Value)} {i : Nat} (h : x.length ≤ i) : (jn x i).map stR = x.map txR := by rw [jn_end h, st_rw]
theorem jn_rw {x : List (List Value)} {i : Nat} (h : x.length ≤ i) : jn x i = ((jn x i).map stR).map rwS := by rw [jn_st h]; exact jn_end h
end Go.Proofs.YtcogmabjnkjdfaaDoor.X
