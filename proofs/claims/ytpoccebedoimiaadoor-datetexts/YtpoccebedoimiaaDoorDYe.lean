/- Package date, the rest: texts. Written by a script (tools/laws). -/
import Derived.Test.YtpoccebedoimiaaDoorDYd
import Derived.Test.YtpoccebedoimiaaDoorDl
import Derived.Test.YtpoccebedoimiaaDoorLibI
namespace Go.Proofs.YtpoccebedoimiaaDoor.X
open Go.Proofs.YtpoccebedoimiaaDoor.Da
open Go.RowKit Go.Proofs.YtpoccebedoimiaaDoor.Z
set_option linter.unusedVariables false
theorem itoa_t {w : World} {v : Value} {n : Nat} (h1 : isE (.int .i64 ((n : Nat) : Int)) w v) (hW : isTb w v) (hn : n ≤ 9999) : Calls Tryd.prog 35 #[v] w (Ret w fun v' w' => isT (Lib.decDigits n) w' v') := by
  cases h1
  refine (Any.strconv_Itoa lays171 (n : Int) (by omega) (by omega) w hW.1).mono fun e w' ⟨he, k, os, hw⟩ => ⟨_, he, ?_, ?_⟩
  · rw [Lib.itoa_nonneg]
  · rw [hw]
    refine ⟨rfl, rfl, rfl, by simp [Sort.grow, World.drewN], fun b hb => ?_⟩
    show (w.heap ++ os)[b]? = w.heap[b]?
    rw [Array.getElem?_append_left hb]
def shI (i : Nat) : Int := if i = 4 ∨ i = 7 then 45 else 48
theorem shp_i {i : Nat} (h : i < 10) : (((([48, 48, 48, 48, 45, 48, 48, 45, 48, 48] : List UInt8).getD i 0).toNat : Nat) : Int) = shI i := by
  rcases i with _ | _ | _ | _ | _ | _ | _ | _ | _ | _ | i <;> first | rfl | omega
theorem shI_d {i : Nat} (h : i = 4 ∨ i = 7) : shI i = 45 := by unfold shI; rw [if_pos h]
theorem shI_n {i : Nat} (h : ¬ (i = 4 ∨ i = 7)) : shI i = 48 := by unfold shI; rw [if_neg h]
theorem hs8 (l : List UInt8) (i : Nat) : 10 ≤ i ∨ (i < 10 ∧ shAt i (l.getD i 0) = true ∧ shI i = 45 ∧ (l.getD i 0).toNat = 45) ∨ (i < 10 ∧ shAt i (l.getD i 0) = true ∧ shI i = 48 ∧ 48 ≤ (l.getD i 0).toNat ∧ (l.getD i 0).toNat ≤ 57) ∨ (i < 10 ∧ ShNo i (l.getD i 0) ∧ shI i = 45 ∧ 48 ≤ (l.getD i 0).toNat ∧ (l.getD i 0).toNat ≤ 57) ∨ (i < 10 ∧ ShNo i (l.getD i 0) ∧ ¬ shI i = (l.getD i 0).toNat ∧ (l.getD i 0).toNat < 48) ∨ (i < 10 ∧ ShNo i (l.getD i 0) ∧ ¬ shI i = (l.getD i 0).toNat ∧ 57 < (l.getD i 0).toNat) := by
  have key := pr6 l i
  generalize l.getD i 0 = b at *
  rcases key with h | ⟨h1, h2, h3⟩ | ⟨h1, h2, h3⟩ | ⟨h1, h2, h3, h4, _⟩ | ⟨h1, h2, h3, h4⟩ | ⟨h1, h2, h3, h4⟩
  · exact .inl h
  · exact .inr (.inl ⟨h1, sh_dash h2 h3, shI_d h2, by rw [h3]; rfl⟩)
  · have hn : ¬ b.toNat = 45 := fun e => d45 h2 h3 (by omega)
    rcases Nat.lt_or_ge b.toNat 48 with h4 | h4
    · exact .inr (.inr (.inr (.inr (.inl ⟨h1, h3, by rw [shI_d h2]; omega, h4⟩))))
    · rcases Nat.lt_or_ge 57 b.toNat with h5 | h5
      · exact .inr (.inr (.inr (.inr (.inr ⟨h1, h3, by rw [shI_d h2]; omega, h5⟩))))
      · exact .inr (.inr (.inr (.inl ⟨h1, h3, shI_d h2, h4, h5⟩)))
  · exact .inr (.inr (.inl ⟨h1, sh_dig h2 h3 h4, shI_n h2, h3, h4⟩))
  · exact .inr (.inr (.inr (.inr (.inl ⟨h1, h3, by rw [shI_n h2]; omega, h4⟩))))
  · exact .inr (.inr (.inr (.inr (.inr ⟨h1, h3, by rw [shI_n h2]; omega, h4⟩))))
def rdL (l : List UInt8) : Nat → Nat
  | 0 => 0
  | i + 1 => 10 * rdL l i + Da.dv (l.getD i 0)
def dgsB (l : List UInt8) : Prop := ∀ j, j < l.length → 48 ≤ (l.getD j 0).toNat ∧ (l.getD j 0).toNat ≤ 57
theorem rdL_le {l : List UInt8} (h : dgsB l) : ∀ i, i ≤ l.length → rdL l i + 1 ≤ 10 ^ i := by
  intro i
  induction i with
  | zero => intro _; exact Nat.le_refl _
  | succ i ih =>
    intro hi
    have h1 := ih (by omega)
    have h2 := h i (by omega)
    have h3 : Da.dv (l.getD i 0) ≤ 9 := by unfold Da.dv; omega
    rw [Nat.pow_succ]
    show 10 * rdL l i + Da.dv (l.getD i 0) + 1 ≤ _
    omega
theorem rdL_in {l : List UInt8} (h : dgsB l) (hl : l.length ≤ 4) {i : Nat} (hi : i ≤ l.length) : rdL l i ≤ 9999 := by
  have h1 := rdL_le h i hi
  have h2 := Nat.pow_le_pow_right (show 0 < 10 by decide) (show i ≤ 4 by omega)
  omega
theorem cut_at (l : List UInt8) (a n j : Nat) (h : a + j < n) : ((l.take n).drop a).getD j 0 = l.getD (a + j) 0 := by
  rw [List.getD_eq_getElem?_getD, List.getD_eq_getElem?_getD, List.getElem?_drop, List.getElem?_take, if_pos h]
theorem cut_dg {l : List UInt8} (h : shB l = true) {a n : Nat} (hn : n ≤ 10) (hd : ∀ j, a ≤ j → j < n → ¬ (j = 4 ∨ j = 7)) : dgsB ((l.take n).drop a) := by
  intro j hj
  have hlen : l.length = 10 := by
    unfold shB at h
    rw [Bool.and_eq_true] at h
    exact of_decide_eq_true h.1
  have hj' : a + j < n := by simp at hj; omega
  have := (sh_iff hlen).1 h (a + j) (by omega)
  rw [cut_at l a n j hj']
  unfold shAt at this
  rw [if_neg (hd _ (by omega) hj')] at this
  exact of_decide_eq_true this
theorem sh_len10 {l : List UInt8} (h : shB l = true) : l.length = 10 := by
  unfold shB at h
  rw [Bool.and_eq_true] at h
  exact of_decide_eq_true h.1
theorem cut_y {l : List UInt8} : rdL ((l.take 4).drop 0) 4 = yOf l := by
  have e := fun j (h : 0 + j < 4) => cut_at l 0 4 j h
  simp only [rdL, yOf, e 0 (by decide), e 1 (by decide), e 2 (by decide), e 3 (by decide), Nat.zero_add, Nat.add_zero]
  omega
theorem cut_m {l : List UInt8} : rdL ((l.take 7).drop 5) 2 = mOf l := by
  have e := fun j (h : 5 + j < 7) => cut_at l 5 7 j h
  simp only [rdL, mOf, e 0 (by decide), e 1 (by decide), Nat.add_zero, Nat.reduceAdd]
  omega
theorem cut_d {l : List UInt8} : rdL ((l.take 10).drop 8) 2 = dOf l := by
  have e := fun j (h : 8 + j < 10) => cut_at l 8 10 j h
  simp only [rdL, dOf, e 0 (by decide), e 1 (by decide), Nat.add_zero, Nat.reduceAdd]
  omega
theorem take_all {l : List UInt8} (h : l.length = 10) : l.take 10 = l := List.take_of_length_le (by omega)
noncomputable def ctb13 : List (Ct dk) := [
  ct2 36 0 en36 vT1 vIn (fun x y => .s (.E (.string (str (List.replicate y x))))) (fun x y => [y ≤ 1000000]) fun _ _ p _ _ _  h1 h2 => rep_t h1 h2 p.1,
  ct1w 35 0 en35 vIn (.O .Tb) isTbk isTbk_ok (fun x => .s (.E (.string (str (Lib.decDigits x))))) (fun x => [x ≤ 9999]) fun _ p _ _ _  h1 hW => itoa_t h1 hW p.1] ++ ctb12
theorem padded_t {w : World} {v0 v1 : Value} {n k : Nat} (h0 : (isE (.int .i64 ((n : Nat) : Int))) w v0) (h1 : (isE (.int .i64 ((k : Nat) : Int))) w v1) (hw : isTb w v0) (hn : n < 10 ^ k) (hk : 1 ≤ k) (hk4 : k ≤ 4) : Calls Tryd.prog 27 #[v0, v1] w (Ret w fun v w' => (isT (dgs n k)) w' v) := by
  have hp := pad_ok (k - 1) n (by rw [show k - 1 + 1 = k by omega]; exact hn)
  rw [show k - 1 + 1 = k by omega] at hp
  have hn4 : n ≤ 9999 := by have := Nat.pow_le_pow_right (show 0 < 10 by decide) hk4; omega
  exact fx ctb13 Tryd.func27 (fun ι => if ι = 2 then [(3, 0, some (.s (.E (.int .i64 ((k - (Lib.decDigits n).length : Nat) : Int)))))] else []) [(0, .E (.int .i64 ((n : Nat) : Int))), (1, .E (.int .i64 ((k : Nat) : Int))), (1000000, .O .Tb)] (.s (.E (.string (str (dgs n k))))) ⟨h0, h1, hw, trivial⟩ ((n ≤ 9999) ∧ (IntKind.i64.wrap (((k : Nat) : Int) - (((Lib.decDigits n).length : Nat) : Int)) = ((k : Nat) : Int) - (((Lib.decDigits n).length : Nat) : Int)) ∧ (tI (((k : Nat) : Int) - (((Lib.decDigits n).length : Nat) : Int)) ((k - (Lib.decDigits n).length : Nat) : Int)) ∧ ((k - (Lib.decDigits n).length) ≤ 1000000) ∧ ((List.replicate (k - (Lib.decDigits n).length) 48 : List UInt8).length + (Lib.decDigits n : List UInt8).length ≤ 9223372036854775807) ∧ (tK (.E (.string (str ((List.replicate (k - (Lib.decDigits n).length) 48) ++ (Lib.decDigits n))))) (.E (.string (str (dgs n k)))))) ⟨(by omega), (i64_in (by omega) (by omega)), ⟨rfl, by omega⟩, (by omega), (by rw [List.length_replicate]; have := hp.1; omega), (fun _ _ _ _ _ h => by rw [hp.2] at h; exact h)⟩
noncomputable def ctb14 : List (Ct dk) := [
  ct2w 27 0 en27 vIn vIn (.O .Tb) isTbk isTbk_ok (fun x y => .s (.E (.string (str (dgs x y))))) (fun x y => [x < 10 ^ y, 1 ≤ y, y ≤ 4]) fun _ _ p _ _ _ _  h1 h2 hW => padded_t h1 h2 hW p.1 p.2.1 p.2.2.1] ++ ctb13
theorem pPrint_t {w : World} {v0 : Value} {y m d : Int} (h0 : (f0 w (.s (.E (.agg ⟨[.int .i64 y, .int .i64 m, .int .i64 d]⟩)))).p w v0) (hw : isTb w v0)  : Calls Tryd.prog 11 #[v0] w (Ret w fun v w' => (f0 w (.t [.E (.string (str (prT y m d))), .E (.int .i64 (chkI y m d))])).p w' v) := by
  exact fx ctb14 Tryd.func11 (fun ι => if ι = 4 then [(1, 0, some (.s (.E (.int .i64 ((y.toNat : Nat) : Int))))), (5, 0, some (.s (.E (.int .i64 ((m.toNat : Nat) : Int))))), (10, 0, some (.s (.E (.int .i64 ((d.toNat : Nat) : Int)))))] else []) [(0, .E (.agg ⟨[.int .i64 y, .int .i64 m, .int .i64 d]⟩)), (1000000, .O .Tb)] (.t [.E (.string (str (prT y m d))), .E (.int .i64 (chkI y m d))]) ⟨h0, hw, trivial⟩ (cnd ((!decide (((chkI y m d) : Int) = 0))) ((tK (.E (.string (str []))) (.E (.string (str (prT y m d))))) ∧ (tI (chkI y m d) (chkI y m d)) ∧ True) ((tI y ((y.toNat : Nat) : Int)) ∧ (y.toNat < 10 ^ 4) ∧ (1 ≤ 4) ∧ (4 ≤ 4) ∧ ((dgs y.toNat 4 : List UInt8).length + ([45] : List UInt8).length ≤ 9223372036854775807) ∧ (tI m ((m.toNat : Nat) : Int)) ∧ (m.toNat < 10 ^ 2) ∧ (1 ≤ 2) ∧ (2 ≤ 4) ∧ (((dgs y.toNat 4) ++ [45] : List UInt8).length + (dgs m.toNat 2 : List UInt8).length ≤ 9223372036854775807) ∧ ((((dgs y.toNat 4) ++ [45]) ++ (dgs m.toNat 2) : List UInt8).length + ([45] : List UInt8).length ≤ 9223372036854775807) ∧ (tI d ((d.toNat : Nat) : Int)) ∧ (d.toNat < 10 ^ 2) ∧ (1 ≤ 2) ∧ (2 ≤ 4) ∧ (((((dgs y.toNat 4) ++ [45]) ++ (dgs m.toNat 2)) ++ [45] : List UInt8).length + (dgs d.toNat 2 : List UInt8).length ≤ 9223372036854775807) ∧ ((tK (.E (.string (str (((((dgs y.toNat 4) ++ [45]) ++ (dgs m.toNat 2)) ++ [45]) ++ (dgs d.toNat 2))))) (.E (.string (str (prT y m d))))) ∧ (tI 0 (chkI y m d)) ∧ True))) ((Classical.em (¬ rightI y m d)).elim (fun hr => cnd_t (chk_n hr) ⟨(fun _ _ _ _ _ h => by first | (rw [(chk_0 hr).2.2.2]; exact h) | (rw [(chk_1 (by simpa using hr)).2.2.2, ← dgs_text]; exact h)), ⟨rfl, by first | rfl | exact (chk_1 (by simpa using hr)).1.symm⟩, trivial⟩) (fun hr => cnd_f (chk_y hr) ⟨⟨rfl, by have := pn_hy hr; omega⟩, (by have := pn_hy hr; show _ < 10000; omega), (by decide), (by decide), (by simp [dgs_len]), ⟨rfl, by have := pn_hy hr; omega⟩, (by have := pn_hy hr; show _ < 100; omega), (by decide), (by decide), (by simp [dgs_len]), (by simp [dgs_len]), ⟨rfl, by have := pn_hy hr; omega⟩, (by have := pn_hy hr; show _ < 100; omega), (by decide), (by decide), (by simp [dgs_len]), ⟨(fun _ _ _ _ _ h => by first | (rw [(chk_0 hr).2.2.2]; exact h) | (rw [(chk_1 (by simpa using hr)).2.2.2, ← dgs_text]; exact h)), ⟨rfl, by first | rfl | exact (chk_1 (by simpa using hr)).1.symm⟩, trivial⟩⟩))
noncomputable abbrev rhasShape_t := rX ctb14 Tryd.f33
noncomputable abbrev dhasShape_t (l : List UInt8) := dX ctb14 Tryd.f33 (.s (.E (.bool (shB l))))
noncomputable def hhasShape_t (l : List UInt8) : Nat → Hint K := fun _ => []
noncomputable def ihasShape_t_0 (l : List UInt8) (i : Nat) : Sx K := ⟨[(0, .E (.string (str l))), (9, .E (.int .i64 ((l.length : Nat) : Int))), (10, .E (.int .i64 ((i : Nat) : Int)))], []⟩
noncomputable def hhasShape_t_0_0 (l : List UInt8) (i : Nat) : Nat → Hint K := fun ι => if ι = 4 then [(0, 0, some (.s (.E (.bool false))))] else []
noncomputable def hhasShape_t_0_1 (l : List UInt8) (i : Nat) : Nat → Hint K := fun ι => if ι = 4 then [(0, 0, some (.s (.E (.bool true))))] else if ι = 7 then [(1, 0, some (.s (.E (.bool false))))] else if ι = 9 then [(2, 0, some (.s (.E (.int .u8 (shI i))))), (3, 0, some (.s (.E (.bool false))))] else if ι = 11 then [(0, 0, some (.s (.E (.int .i64 ((i + 1 : Nat) : Int)))))] else []
noncomputable def hhasShape_t_0_2 (l : List UInt8) (i : Nat) : Nat → Hint K := fun ι => if ι = 4 then [(0, 0, some (.s (.E (.bool true))))] else if ι = 7 then [(1, 0, some (.s (.E (.bool true)))), (4, 0, some (.s (.E (.bool true))))] else if ι = 9 then [(2, 0, some (.s (.E (.int .u8 (shI i))))), (3, 0, some (.s (.E (.bool false))))] else if ι = 11 then [(0, 0, some (.s (.E (.int .i64 ((i + 1 : Nat) : Int)))))] else []
noncomputable def hhasShape_t_0_3 (l : List UInt8) (i : Nat) : Nat → Hint K := fun ι => if ι = 4 then [(0, 0, some (.s (.E (.bool true))))] else if ι = 7 then [(1, 0, some (.s (.E (.bool true)))), (4, 0, some (.s (.E (.bool true))))] else if ι = 9 then [(2, 0, some (.s (.E (.int .u8 (shI i))))), (3, 0, some (.s (.E (.bool true))))] else []
noncomputable def hhasShape_t_0_4 (l : List UInt8) (i : Nat) : Nat → Hint K := fun ι => if ι = 4 then [(0, 0, some (.s (.E (.bool true))))] else if ι = 7 then [(1, 0, some (.s (.E (.bool false))))] else if ι = 9 then [(2, 0, some (.s (.E (.int .u8 (shI i))))), (3, 0, some (.s (.E (.bool true))))] else []
noncomputable def hhasShape_t_0_5 (l : List UInt8) (i : Nat) : Nat → Hint K := fun ι => if ι = 4 then [(0, 0, some (.s (.E (.bool true))))] else if ι = 7 then [(1, 0, some (.s (.E (.bool true)))), (4, 0, some (.s (.E (.bool false))))] else if ι = 9 then [(2, 0, some (.s (.E (.int .u8 (shI i))))), (3, 0, some (.s (.E (.bool true))))] else []
theorem hasShape_t {w : World} {v0 : Value} {l : List UInt8} (h0 : (isT l) w v0)  : Calls Tryd.prog 33 #[v0] w (Ret w fun v w' => (isE (.bool (shB l))) w' v) := by
  exact fx ctb14 Tryd.func33 ((hhasShape_t l)) [(0, .E (.string (str l)))] (.s (.E (.bool (shB l)))) ⟨h0, trivial⟩ (cnd ((!decide ((((l.length : Nat) : Int) : Int) = 10))) (false = (shB l)) (dhasShape_t l [1, 0, 1] [(hhasShape_t l)] [] (rhasShape_t (hhasShape_t l) 3 (rhasShape_t (hhasShape_t l) 1 (ent Tryd.prog Tryd.f33 (κ := K) [(0, .E (.string (str l)))]))))) ((Classical.em (¬ l.length = 10)).elim (fun hl => cnd_t (by simp; omega) (by first | exact (sh_len hl).symm | exact (sh_no (by omega) h8.1 h8.2.1).symm | exact ((sh_iff (by omega)).2 hC1).symm)) (fun hl => cnd_f (by simp; omega) (lpI (fun h S' J => dhasShape_t l [1, 0, 1, 0, 2] [(hhasShape_t l), h] [J] S') (fun i : Nat => i ≤ 10 ∧ ∀ j, j < i → shAt j (l.getD j 0) = true) (fun i => 10 - i) (ihasShape_t_0 l) (0) (rhasShape_t (hhasShape_t l) 3 (rhasShape_t (hhasShape_t l) 1 (ent Tryd.prog Tryd.f33 (κ := K) [(0, .E (.string (str l)))]))) (⟨by omega, fun j h => by omega⟩) (fun i hC1 J1 hJ1 => (by
    have h10 : l.length = 10 := by omega
    have hC1b := hC1.1
    rcases hs8 l i with h8 | h8 | h8 | h8 | h8 | h8
    · exact ⟨(hhasShape_t_0_0 l i), vcP (((decide ((((i : Nat) : Int) : Int) < ((l.length : Nat) : Int))) = false) ∧ (true = (shB l))) ⟨(decide_eq_false (by omega)), (have hC1 : ∀ j, j < 10 → shAt j (l.getD j 0) = true := (fun j hj => hC1.2 j (by omega)); (by first | exact (sh_len hl).symm | exact (sh_no (by omega) h8.1 h8.2.1).symm | exact ((sh_iff (by omega)).2 hC1).symm))⟩⟩
    · exact ⟨(hhasShape_t_0_1 l i), vcP (((decide ((((i : Nat) : Int) : Int) < ((l.length : Nat) : Int))) = true) ∧ (i < l.length) ∧ ((decide ((48 : Int) ≤ (((l.getD i 0).toNat : Nat) : Int))) = false) ∧ (i < ([48, 48, 48, 48, 45, 48, 48, 45, 48, 48] : List UInt8).length) ∧ (tB (((([48, 48, 48, 48, 45, 48, 48, 45, 48, 48] : List UInt8).getD i 0).toNat : Nat) : Int) (shI i)) ∧ ((!decide (((((l.getD i 0).toNat : Nat) : Int) : Int) = (shI i))) = false) ∧ (IntKind.i64.wrap (((i : Nat) : Int) + 1) = ((i : Nat) : Int) + 1) ∧ (tI (((i : Nat) : Int) + 1) ((i + 1 : Nat) : Int)) ∧ (J1 (rhasShape_t (hhasShape_t_0_1 l i) 11 (rhasShape_t (hhasShape_t_0_1 l i) 9 (rhasShape_t (hhasShape_t_0_1 l i) 7 (rhasShape_t (hhasShape_t_0_1 l i) 6 (rhasShape_t (hhasShape_t_0_1 l i) 5 (rhasShape_t (hhasShape_t_0_1 l i) 4 (ihasShape_t_0 l i))))))))) ⟨(decide_eq_true (by omega)), (by omega), (decide_eq_false (by omega)), (by simp; omega), ⟨rfl, shp_i h8.1⟩, (by rw [decide_eq_true (by omega)]; rfl), (i64_in (by omega) (by omega)), ⟨rfl, by omega⟩, (hJ1 (i + 1) _ (⟨by omega, sh_more hC1.2 h8.2.1⟩) (by omega) ⟨by kernel_rfl, by kernel_rfl⟩)⟩⟩
    · exact ⟨(hhasShape_t_0_2 l i), vcP (((decide ((((i : Nat) : Int) : Int) < ((l.length : Nat) : Int))) = true) ∧ (i < l.length) ∧ ((decide ((48 : Int) ≤ (((l.getD i 0).toNat : Nat) : Int))) = true) ∧ ((decide (((((l.getD i 0).toNat : Nat) : Int) : Int) ≤ 57)) = true) ∧ (i < ([48, 48, 48, 48, 45, 48, 48, 45, 48, 48] : List UInt8).length) ∧ (tB (((([48, 48, 48, 48, 45, 48, 48, 45, 48, 48] : List UInt8).getD i 0).toNat : Nat) : Int) (shI i)) ∧ ((!decide ((48 : Int) = (shI i))) = false) ∧ (IntKind.i64.wrap (((i : Nat) : Int) + 1) = ((i : Nat) : Int) + 1) ∧ (tI (((i : Nat) : Int) + 1) ((i + 1 : Nat) : Int)) ∧ (J1 (rhasShape_t (hhasShape_t_0_2 l i) 11 (rhasShape_t (hhasShape_t_0_2 l i) 9 (rhasShape_t (hhasShape_t_0_2 l i) 8 (rhasShape_t (hhasShape_t_0_2 l i) 7 (rhasShape_t (hhasShape_t_0_2 l i) 6 (rhasShape_t (hhasShape_t_0_2 l i) 5 (rhasShape_t (hhasShape_t_0_2 l i) 4 (ihasShape_t_0 l i)))))))))) ⟨(decide_eq_true (by omega)), (by omega), (decide_eq_true (by omega)), (decide_eq_true (by omega)), (by simp; omega), ⟨rfl, shp_i h8.1⟩, (by rw [decide_eq_true (by omega)]; rfl), (i64_in (by omega) (by omega)), ⟨rfl, by omega⟩, (hJ1 (i + 1) _ (⟨by omega, sh_more hC1.2 h8.2.1⟩) (by omega) ⟨by kernel_rfl, by kernel_rfl⟩)⟩⟩
    · exact ⟨(hhasShape_t_0_3 l i), vcP (((decide ((((i : Nat) : Int) : Int) < ((l.length : Nat) : Int))) = true) ∧ (i < l.length) ∧ ((decide ((48 : Int) ≤ (((l.getD i 0).toNat : Nat) : Int))) = true) ∧ ((decide (((((l.getD i 0).toNat : Nat) : Int) : Int) ≤ 57)) = true) ∧ (i < ([48, 48, 48, 48, 45, 48, 48, 45, 48, 48] : List UInt8).length) ∧ (tB (((([48, 48, 48, 48, 45, 48, 48, 45, 48, 48] : List UInt8).getD i 0).toNat : Nat) : Int) (shI i)) ∧ ((!decide ((48 : Int) = (shI i))) = true) ∧ (false = (shB l))) ⟨(decide_eq_true (by omega)), (by omega), (decide_eq_true (by omega)), (decide_eq_true (by omega)), (by simp; omega), ⟨rfl, shp_i h8.1⟩, (by rw [decide_eq_false (by omega)]; rfl), (by first | exact (sh_len hl).symm | exact (sh_no (by omega) h8.1 h8.2.1).symm | exact ((sh_iff (by omega)).2 hC1).symm)⟩⟩
    · exact ⟨(hhasShape_t_0_4 l i), vcP (((decide ((((i : Nat) : Int) : Int) < ((l.length : Nat) : Int))) = true) ∧ (i < l.length) ∧ ((decide ((48 : Int) ≤ (((l.getD i 0).toNat : Nat) : Int))) = false) ∧ (i < ([48, 48, 48, 48, 45, 48, 48, 45, 48, 48] : List UInt8).length) ∧ (tB (((([48, 48, 48, 48, 45, 48, 48, 45, 48, 48] : List UInt8).getD i 0).toNat : Nat) : Int) (shI i)) ∧ ((!decide (((((l.getD i 0).toNat : Nat) : Int) : Int) = (shI i))) = true) ∧ (false = (shB l))) ⟨(decide_eq_true (by omega)), (by omega), (decide_eq_false (by omega)), (by simp; omega), ⟨rfl, shp_i h8.1⟩, (by rw [decide_eq_false (by omega)]; rfl), (by first | exact (sh_len hl).symm | exact (sh_no (by omega) h8.1 h8.2.1).symm | exact ((sh_iff (by omega)).2 hC1).symm)⟩⟩
    · exact ⟨(hhasShape_t_0_5 l i), vcP (((decide ((((i : Nat) : Int) : Int) < ((l.length : Nat) : Int))) = true) ∧ (i < l.length) ∧ ((decide ((48 : Int) ≤ (((l.getD i 0).toNat : Nat) : Int))) = true) ∧ ((decide (((((l.getD i 0).toNat : Nat) : Int) : Int) ≤ 57)) = false) ∧ (i < ([48, 48, 48, 48, 45, 48, 48, 45, 48, 48] : List UInt8).length) ∧ (tB (((([48, 48, 48, 48, 45, 48, 48, 45, 48, 48] : List UInt8).getD i 0).toNat : Nat) : Int) (shI i)) ∧ ((!decide (((((l.getD i 0).toNat : Nat) : Int) : Int) = (shI i))) = true) ∧ (false = (shB l))) ⟨(decide_eq_true (by omega)), (by omega), (decide_eq_true (by omega)), (decide_eq_false (by omega)), (by simp; omega), ⟨rfl, shp_i h8.1⟩, (by rw [decide_eq_false (by omega)]; rfl), (by first | exact (sh_len hl).symm | exact (sh_no (by omega) h8.1 h8.2.1).symm | exact ((sh_iff (by omega)).2 hC1).symm)⟩⟩)))))
noncomputable abbrev rread_t := rX ctb14 Tryd.f34
noncomputable abbrev dread_t (l : List UInt8) := dX ctb14 Tryd.f34 (.s (.E (.int .i64 ((rdL l l.length : Nat) : Int))))
noncomputable def hread_t (l : List UInt8) : Nat → Hint K := fun _ => []
noncomputable def iread_t_0 (l : List UInt8) (i : Nat) : Sx K := ⟨[(2, .E (.int .i64 0)), (0, .E (.string (str l))), (6, .E (.int .i64 ((l.length : Nat) : Int))), (7, .E (.int .i64 ((i : Nat) : Int))), (3, .E (.int .i64 ((rdL l i : Nat) : Int)))], []⟩
noncomputable def hread_t_0_0 (l : List UInt8) (i : Nat) : Nat → Hint K := fun ι => if ι = 3 then [(0, 0, some (.s (.E (.bool true))))] else if ι = 5 then [(5, 0, some (.s (.E (.int .u8 ((Da.dv (l.getD i 0) : Nat) : Int))))), (6, 0, some (.s (.E (.int .i64 ((Da.dv (l.getD i 0) : Nat) : Int))))), (7, 0, some (.s (.E (.int .i64 ((rdL l (i + 1) : Nat) : Int)))))] else if ι = 6 then [(0, 0, some (.s (.E (.int .i64 ((i + 1 : Nat) : Int)))))] else []
noncomputable def hread_t_0_1 (l : List UInt8) (i : Nat) : Nat → Hint K := fun ι => if ι = 3 then [(0, 0, some (.s (.E (.bool false))))] else []
theorem read_t {w : World} {v0 : Value} {l : List UInt8} (h0 : (isT l) w v0) (hd : dgsB l) (hl : l.length ≤ 4) : Calls Tryd.prog 34 #[v0] w (Ret w fun v w' => (isE (.int .i64 ((rdL l l.length : Nat) : Int))) w' v) := by
  exact fx ctb14 Tryd.func34 ((hread_t l)) [(0, .E (.string (str l)))] (.s (.E (.int .i64 ((rdL l l.length : Nat) : Int)))) ⟨h0, trivial⟩ (dread_t l [1, 0, 1] [(hread_t l)] [] (rread_t (hread_t l) 2 (rread_t (hread_t l) 1 (ent Tryd.prog Tryd.f34 (κ := K) [(0, .E (.string (str l)))])))) (lpI (fun h S' J => dread_t l [1, 0, 1, 0, 2] [(hread_t l), h] [J] S') (fun i : Nat => i ≤ l.length) (fun i => l.length - i) (iread_t_0 l) (0) (rread_t (hread_t l) 2 (rread_t (hread_t l) 1 (ent Tryd.prog Tryd.f34 (κ := K) [(0, .E (.string (str l)))]))) (Nat.zero_le _) (fun i hC1 J1 hJ1 => (by
    have hri := rdL_in hd hl hC1
    rcases Nat.lt_or_ge i l.length with h8 | h8
    have hdi := hd i h8
    have hdv : Da.dv (l.getD i 0) + 48 = (l.getD i 0).toNat := by unfold Da.dv; omega
    · exact ⟨(hread_t_0_0 l i), vcP (((decide ((((i : Nat) : Int) : Int) < ((l.length : Nat) : Int))) = true) ∧ (IntKind.i64.wrap (10 * ((rdL l i : Nat) : Int)) = 10 * ((rdL l i : Nat) : Int)) ∧ (i < l.length) ∧ (IntKind.u8.wrap ((((l.getD i 0).toNat : Nat) : Int) - 48) = (((l.getD i 0).toNat : Nat) : Int) - 48) ∧ (tB ((((l.getD i 0).toNat : Nat) : Int) - 48) ((Da.dv (l.getD i 0) : Nat) : Int)) ∧ (tI (IntKind.i64.wrap ((Da.dv (l.getD i 0) : Nat) : Int)) ((Da.dv (l.getD i 0) : Nat) : Int)) ∧ (IntKind.i64.wrap ((10 * ((rdL l i : Nat) : Int)) + ((Da.dv (l.getD i 0) : Nat) : Int)) = (10 * ((rdL l i : Nat) : Int)) + ((Da.dv (l.getD i 0) : Nat) : Int)) ∧ (tI ((10 * ((rdL l i : Nat) : Int)) + ((Da.dv (l.getD i 0) : Nat) : Int)) ((rdL l (i + 1) : Nat) : Int)) ∧ (IntKind.i64.wrap (((i : Nat) : Int) + 1) = ((i : Nat) : Int) + 1) ∧ (tI (((i : Nat) : Int) + 1) ((i + 1 : Nat) : Int)) ∧ (J1 (rread_t (hread_t_0_0 l i) 6 (rread_t (hread_t_0_0 l i) 5 (rread_t (hread_t_0_0 l i) 4 (rread_t (hread_t_0_0 l i) 3 (iread_t_0 l i))))))) ⟨(decide_eq_true (by omega)), (i64_in (by omega) (by omega)), (h8), (u8_in (by omega) (by omega)), ⟨rfl, by omega⟩, ⟨rfl, i64_in (by omega) (by omega)⟩, (i64_in (by omega) (by omega)), ⟨rfl, by show _ = ((10 * rdL l i + Da.dv (l.getD i 0) : Nat) : Int); omega⟩, (i64_in (by omega) (by omega)), ⟨rfl, by omega⟩, (hJ1 (i + 1) _ (by omega) (by omega) ⟨by kernel_rfl, by kernel_rfl⟩)⟩⟩
    · exact ⟨(hread_t_0_1 l i), vcP (((decide ((((i : Nat) : Int) : Int) < ((l.length : Nat) : Int))) = false) ∧ (tI ((rdL l i : Nat) : Int) ((rdL l l.length : Nat) : Int))) ⟨(decide_eq_false (by omega)), (have hC1 : i = l.length := (by omega); ⟨rfl, by rw [hC1]⟩)⟩⟩)))
end Go.Proofs.YtpoccebedoimiaaDoor.X
