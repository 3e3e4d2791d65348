/- The reference's numbers (digits to the base 10000 in a []int): memory; at, Trim, Cmp. -/
import Derived.Test.YtckcjiojfpaikaaDoorDig
import Derived.Test.YtckcjiojfpaikaaDoorNatB
namespace Go.Proofs.YtckcjiojfpaikaaDoor
open Go.RowKit

/-- The cells from A on hold the numbers l, each an int. -/
def CellsD (w : World) (A : Option Addr) (l : List Nat) : Prop :=
  l ≠ [] → ∃ b o, A = some ⟨b, o, none⟩ ∧ b < w.heap.size ∧ ∀ j x : Nat, l[j]? = some x → w.cell? ⟨b, o + j, none⟩ = some (.int .i64 (x : Int))
theorem CellsD.grow {w w' : World} {A : Option Addr} {l : List Nat} (h : CellsD w A l) (g : Grow w w') : CellsD w' A l := fun hn => by
  obtain ⟨b, o, e, hb, hc⟩ := h hn
  exact ⟨b, o, e, Nat.lt_of_lt_of_le hb g.size, fun j x hx => (g.cell (p := ⟨b, o + j, none⟩) hb).trans (hc j x hx)⟩
theorem CellsD.nil (w : World) (A : Option Addr) : CellsD w A [] := fun h => absurd rfl h
theorem CellsD.take {w : World} {A : Option Addr} {l : List Nat} (h : CellsD w A l) (k : Nat) : CellsD w A (l.take k) := fun hn => by
  have hl : l ≠ [] := fun e => hn (by simp [e])
  obtain ⟨b, o, e, hb, hc⟩ := h hl
  refine ⟨b, o, e, hb, fun j x hx => hc j x ?_⟩
  rw [List.getElem?_take] at hx
  split at hx
  · exact hx
  · cases hx
theorem CellsD.at {w : World} {A : Option Addr} {l : List Nat} (h : CellsD w A l) (hn : l ≠ []) : ∃ b o, A = some ⟨b, o, none⟩ ∧ b < w.heap.size ∧ ∀ j, j < l.length → w.cell? ⟨b, o + j, none⟩ = some (.int .i64 (l.getD j 0 : Nat)) := by
  obtain ⟨b, o, e, hb, hc⟩ := h hn
  exact ⟨b, o, e, hb, fun j hj => by rw [List.getD_eq_getElem?_getD, List.getElem?_eq_getElem hj, Option.getD_some]; exact hc j _ (List.getElem?_eq_getElem hj)⟩
/-- A []int that reads as a list of digits. -/
def DS (w : World) (v : Value) (l : List Nat) : Prop := ∃ A c, v = .slice A l.length c ∧ l.length ≤ c ∧ (∀ x ∈ l, x < Dx.B) ∧ CellsD w A l
/-- The number n in its canonical digits, k of them at most. -/
def IsD (w : World) (v : Value) (n k : Nat) : Prop := ∃ A c, v = .slice A (Dx.len n) c ∧ Dx.len n ≤ c ∧ CellsD w A (Dx.limbs n) ∧ Dx.len n ≤ k
theorem DS.grow {w w' : World} {v : Value} {l : List Nat} (h : DS w v l) (g : Grow w w') : DS w' v l := by
  obtain ⟨A, c, e, hc, hb, hl⟩ := h
  exact ⟨A, c, e, hc, hb, hl.grow g⟩
theorem IsD.grow {w w' : World} {v : Value} {n k : Nat} (h : IsD w v n k) (g : Grow w w') : IsD w' v n k := by
  obtain ⟨A, c, e, hc, hl, hk⟩ := h
  exact ⟨A, c, e, hc, hl.grow g, hk⟩
theorem IsD.more {w : World} {v : Value} {n k k' : Nat} (h : IsD w v n k) (hk : k ≤ k') : IsD w v n k' := by
  obtain ⟨A, c, e, hc, hl, h2⟩ := h
  exact ⟨A, c, e, hc, hl, Nat.le_trans h2 hk⟩
theorem IsD.zero (w : World) : IsD w (.slice none 0 0) 0 0 := ⟨none, 0, rfl, Nat.le_refl _, CellsD.nil _ _, Nat.le_refl _⟩

set_option maxHeartbeats 400000 in
theorem refAt_any (w : World) (A : Option Addr) (l : List Nat) (c i : Nat) (hl : CellsD w A l) :
    Calls Tryd.prog 60 #[.slice A l.length c, .int .i64 (i : Int)] w fun e w' => e = .returned (.int .i64 ((l.getD i 0 : Nat) : Int)) ∧ w = w' := by
  by_cases h : i < l.length
  · have hn : l ≠ [] := by intro e; subst e; simp at h
    obtain ⟨b, o, rfl, hbl, hc⟩ := hl.at hn
    have hci := hc i h
    clear hc
    generalize l.getD i 0 = x at *
    go_enter Tryd.func60, Tryd.ntmps60
    go_wp2
    go_ret
    exact ⟨rfl, rfl⟩
  · have e : l.getD i 0 = 0 := by rw [List.getD_eq_getElem?_getD, List.getElem?_eq_none (by omega)]; rfl
    rw [e]
    clear e
    go_enter Tryd.func60, Tryd.ntmps60
    go_wp2
    go_ret
    exact ⟨rfl, rfl⟩

theorem dlen_of_noughts {l : List Nat} {k : Nat} (hb : ∀ x ∈ l, x < Dx.B) (hk : k ≤ l.length) (hz : NoughtsFrom l k) (hl : k = 0 ∨ l.getD (k - 1) 0 ≠ 0) : Dx.len (Dx.val l) = k := by
  unfold Dx.len
  rw [Dx.limbs_take l k hb hk hz hl, List.length_take, Nat.min_eq_left hk]

set_option maxHeartbeats 400000 in
theorem refTrim_any (w : World) (v : Value) (l : List Nat) (hm : l.length ≤ 1152921504606846975) (h : DS w v l) :
    Calls Tryd.prog 42 #[v] w fun e w' => ∃ v', e = .returned v' ∧ IsD w v' (Dx.val l) l.length ∧ w = w' := by
  obtain ⟨A, c, rfl, hc, hb, hl⟩ := h
  have HB := Lib.hid hb
  clear hb
  go_enter Tryd.func42, Tryd.ntmps42
  go_wp2
  go_loop [3] (fun n => ∃ k : Nat, k ≤ l.length ∧ n = .int .i64 k ∧ NoughtsFrom l k) (fun n => (intOf n).toNat)
  case atStart => exact ⟨l.length, Nat.le_refl _, rfl, fun j h1 h2 => by omega⟩
  case round =>
    obtain ⟨k, hk, rfl, hz⟩ := hrel
    by_cases hpos : 0 < k
    · have hn : l ≠ [] := by intro e; subst e; simp at hk; omega
      obtain ⟨b, o, rfl, hbl, hcell⟩ := hl.at hn
      have hck := hcell (k - 1) (by omega)
      clear hcell
      generalize hx : l.getD (k - 1) 0 = x at hck
      have HX := Lib.hid hx
      clear hx
      have hk1 : (0 : Int) < (k : Int) := by omega
      have hk2 : ((k : Int) - 1).toNat = k - 1 := by omega
      by_cases h0 : x = 0
      · subst h0
        go_wp2
        go_round
        case rel => exact ⟨k - 1, by omega, by go_num, fun j h1 h2 => by
          rcases Nat.lt_or_ge j k with h3 | h3
          · obtain rfl : j = k - 1 := by omega
            exact HX.out
          · exact hz j h3 h2⟩
        case measure => simp [intOf]; omega
      · have h0' : ((x : Int) == 0) = false := by simp; omega
        go_wp2
        go_ret
        refine ⟨_, rfl, ?_, rfl⟩
        have e := dlen_of_noughts HB.out hk hz (.inr (by rw [HX.out]; exact h0))
        refine ⟨_, c, by rw [e]; rfl, by omega, ?_, by omega⟩
        rw [Dx.limbs_val_take l HB.out]
        exact hl.take _
    · obtain rfl : k = 0 := by omega
      go_wp2
      go_ret
      refine ⟨_, rfl, ?_, rfl⟩
      have e := dlen_of_noughts HB.out hk hz (.inl rfl)
      refine ⟨A, c, by rw [e]; rfl, by omega, ?_, by omega⟩
      rw [Dx.limbs_val_take l HB.out]
      exact hl.take _

/-- Above place k the two lists are the same. -/
theorem dcmp_of_same {n m k : Nat} (hlen : Dx.len n = Dx.len m) (hk : k = 0) (h : SameFrom (Dx.limbs n) (Dx.limbs m) k) : n = m :=
  Dx.limbs_inj (Dx.ext_getD _ _ hlen fun j _ => h j (by omega))
theorem dlt_of_limb {n m k : Nat} (hlen : Dx.len n = Dx.len m) (hk : k < Dx.len n) (h : SameFrom (Dx.limbs n) (Dx.limbs m) (k + 1)) (hlt : (Dx.limbs n).getD k 0 < (Dx.limbs m).getD k 0) : n < m := by
  have := Dx.val_take_lt (Dx.limbs n) (Dx.limbs m) k hk (by unfold Dx.len at hlen hk; omega) hlen (Dx.limbs_lt n) (fun j hj => h j hj) hlt
  rwa [Dx.val_limbs, Dx.val_limbs] at this

end Go.Proofs.YtckcjiojfpaikaaDoor
