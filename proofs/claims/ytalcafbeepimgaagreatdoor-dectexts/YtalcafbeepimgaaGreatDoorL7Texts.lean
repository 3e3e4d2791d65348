/- The law DecTexts. Written by a script (tools/laws). -/
import Derived.Test.YtalcafbeepimgaaGreatDoorL7S
import Derived.Test.YtalcafbeepimgaaGreatDoorDXd
namespace Go.Proofs.YtalcafbeepimgaaGreatDoor.X
open Go.RowKit Go.Proofs.YtalcafbeepimgaaGreatDoor.Z
set_option linter.unusedVariables false
theorem nz_digs {a : List Nat} {b : Bool} {s : Int} {w : World} {v : Value} (h : isP7 a b s w v) : Tx.digs (nzZ a b).natAbs ≤ 4000 := by
  obtain ⟨A, l, c, _, A2, c2, _, _, hb, _⟩ := h
  have h1 : Mx.len (Mx.val (a.take 4)) ≤ 4 := Nat.le_trans (Mx.len_val _ fun x hx => hb x (List.mem_of_mem_take hx)) (by simp; omega)
  have h2 : (nzZ a b).natAbs = Mx.val (a.take 4) := by
    unfold nzZ signed
    split <;> simp
  rw [h2, ← Tx.text_length]
  have := text_len h1
  omega
theorem pS_rng (u : List UInt8) : 0 ≤ pS u ∧ pS u ≤ 64 := by
  unfold pS
  split
  · next h => have := (p_ok h).2.2; omega
  · omega
noncomputable def ctb56 : List (Ct dk) := [
  ct1 11 0 en11 vC (fun x => .s (.O (.W x.1 x.2.2))) (fun x => []) fun _ p _ _  h1 => dcoef h1,
  ct2 21 0 en21 vC vC (fun x y => .s (.E (.int .i64 (cmpD x.1 x.2.1 y.1 y.2.1)))) (fun x y => [0 ≤ x.2.1, x.2.1 ≤ 64, x.2.2 ≤ 100000, 0 ≤ y.2.1, y.2.1 ≤ 64, y.2.2 ≤ 100000]) fun _ _ p _ _ _  h1 h2 => dcmp h1 h2 p.1 p.2.1 p.2.2.1 p.2.2.2.1 p.2.2.2.2.1 p.2.2.2.2.2.1,
  ct1 15 0 en15 vE7 (fun x => .s (.E (.string (str (dtext x.1 (Int.toNat x.2.1)))))) (fun x => [0 ≤ x.2.1, x.2.1 ≤ 64, x.2.2 ≤ 100000]) fun _ p _ _  h1 => rprint h1 p.1 p.2.1 p.2.2.1,
  ct1 34 0 en34 vT (fun x => .t [.O (.E7 (pZ x) (pS x) 2000), .E (.int .i64 (pE x))]) (fun x => [x.length ≤ 4096]) fun _ p _ _  h1 => rparse h1 p.1,
  ct1 8 0 en8 vP (fun x => .t [.O (.C (nzZ x.1 x.2.1) (x.2.2 % 65) 4), .O (.E7 (nzZ x.1 x.2.1) (x.2.2 % 65) 32)]) (fun x => [0 ≤ x.2.2, x.2.2 < 256]) fun _ p _ _  h1 => num7 h1 p.1 p.2.1,
  ct0 17 0 en17 (.s (.E (.bool true))) fun _ => wakes7] ++ ctb55
theorem texts7 {w : World} {v0 v1 : Value} {a0 : List Nat} {b0 : Bool} {s0 : Int} {l : List UInt8} (h0 : (isP7 a0 b0 s0) w v0) (h1 : (isT l) w v1) (p0 : 0 ≤ s0) (q0 : s0 < 256) : Calls Tryz.prog 5 #[v0, v1] w (Ret w fun v w' => (isE (.bool true)) w' v) := by
  obtain ⟨x0, hx0⟩ : ∃ x, nzZ a0 b0 = x := ⟨_, rfl⟩
  obtain ⟨m0, hm0⟩ : ∃ m : Nat, s0 % 65 = (m : Int) := ⟨(s0 % 65).toNat, by omega⟩
  have r0 : m0 ≤ 64 := by omega
  have hp := p_dt (z := x0) r0 (hx0 ▸ nz_digs h0)
  obtain ⟨u, hu⟩ : ∃ u, l.take (min l.length 200) = u := ⟨_, rfl⟩
  have hul : u.length ≤ 200 := by rw [← hu]; simp; omega
  have hps := pS_rng u
  exact fx ctb56 Tryz.func5 (fun ι => if ι = 1 then [(3, 0, some (.s (.O (.C x0 ((m0 : Nat) : Int) 4)))), (4, 0, some (.s (.O (.E7 x0 ((m0 : Nat) : Int) 32))))] else if ι = 2 then [(1, 0, some (.s (.E (.string (str (dtext x0 m0))))))] else if ι = 3 then [(3, 0, some (.s (.O (.C x0 ((m0 : Nat) : Int) 4096)))), (4, 0, some (.s (.E (.int .i64 0))))] else if ι = 4 then [(3, 0, some (.s (.E (.int .i64 ((min l.length 200 : Nat) : Int))))), (4, 0, some (.s (.E (.string (str u)))))] else if ι = 7 then [(3, 0, some (.s (.E (.bool false)))), (6, 0, some (.s (.E (.bool false)))), (12, 0, some (.s (.E (.bool false)))), (19, 0, some (.s (.E (.bool false)))), (25, 0, some (.s (.E (.bool false)))), (30, 0, some (.s (.E (.bool false))))] else if ι = 10 then [(5, 0, some (.s (.E (.bool true)))), (10, 0, some (.s (.E (.bool true))))] else if ι = 11 then [(5, 0, some (.s (.E (.bool true)))), (12, 0, some (.s (.E (.bool true)))), (21, 0, some (.s (.E (.bool true))))] else []) [(0, .O (.P a0 b0 s0)), (1, .E (.string (str l)))] (.s (.E (.bool true))) ⟨h0, h1, trivial⟩ ((0 ≤ s0) ∧ (s0 < 256) ∧ (tK (.O (.C (nzZ a0 b0) (s0 % 65) 4)) (.O (.C x0 ((m0 : Nat) : Int) 4))) ∧ (tK (.O (.E7 (nzZ a0 b0) (s0 % 65) 32)) (.O (.E7 x0 ((m0 : Nat) : Int) 32))) ∧ (0 ≤ ((m0 : Nat) : Int)) ∧ (((m0 : Nat) : Int) ≤ 64) ∧ (4 ≤ 100000) ∧ (tK (.E (.string (str (dtext x0 (Int.toNat ((m0 : Nat) : Int)))))) (.E (.string (str (dtext x0 m0))))) ∧ (tK (.O (.C (pZ (dtext x0 m0)) (pS (dtext x0 m0)) 4096)) (.O (.C x0 ((m0 : Nat) : Int) 4096))) ∧ (tI (pE (dtext x0 m0)) 0) ∧ (tI (min ((l.length : Nat) : Int) 200) ((min l.length 200 : Nat) : Int)) ∧ (min l.length 200 ≤ l.length) ∧ (tK (.E (.string (str (l.take (min l.length 200))))) (.E (.string (str u)))) ∧ (u.length ≤ 4096) ∧ (0 ≤ ((m0 : Nat) : Int)) ∧ (((m0 : Nat) : Int) ≤ 64) ∧ (32 ≤ 100000) ∧ ((!((dtext x0 m0) == (dtext x0 (Int.toNat ((m0 : Nat) : Int))))) = false) ∧ ((!decide ((0 : Int) = 0)) = false) ∧ (0 ≤ ((m0 : Nat) : Int)) ∧ (((m0 : Nat) : Int) ≤ 64) ∧ (4096 ≤ 100000) ∧ ((!((dtext x0 (Int.toNat ((m0 : Nat) : Int))) == (dtext x0 m0))) = false) ∧ ((!decide ((((m0 : Nat) : Int) : Int) = ((m0 : Nat) : Int))) = false) ∧ (0 ≤ ((m0 : Nat) : Int)) ∧ (((m0 : Nat) : Int) ≤ 64) ∧ (4096 ≤ 100000) ∧ (0 ≤ ((m0 : Nat) : Int)) ∧ (((m0 : Nat) : Int) ≤ 64) ∧ (4 ≤ 100000) ∧ ((!decide (((cmpD x0 ((m0 : Nat) : Int) x0 ((m0 : Nat) : Int)) : Int) = 0)) = false) ∧ ((!decide (((pE u) : Int) = (pE u))) = false) ∧ (cnd ((!decide (((pE u) : Int) = 0))) (((decide (((Int.sign (pZ u)) : Int) = 0)) = true) ∧ ((decide (((pS u) : Int) = 0)) = true) ∧ (true = true)) ((0 ≤ (pS u)) ∧ ((pS u) ≤ 64) ∧ (4096 ≤ 100000) ∧ (((dtext (pZ u) (Int.toNat (pS u))) == u) = true) ∧ ((decide (((pS u) : Int) = (pS u))) = true) ∧ (4096 ≤ 536870912) ∧ (2000 ≤ 1000000) ∧ (((ztext (pZ u)) == (ztext (pZ u))) = true) ∧ (true = true)))) ⟨(by omega), (by omega), (fun _ _ h => by rw [hx0, hm0] at h; exact h), (fun _ _ h => by rw [hx0, hm0] at h; exact h), (by omega), (by omega), (by omega), (fun _ _ h => h), (fun _ _ h => by rw [hp.2.1, hp.2.2] at h; exact h), ⟨rfl, hp.1⟩, ⟨rfl, by omega⟩, (by omega), (fun _ _ h => by rw [hu] at h; exact h), (by omega), (by omega), (by omega), (by omega), (ne_self _), (rfl), (by omega), (by omega), (by omega), (ne_self _), (by simp), (by omega), (by omega), (by omega), (by omega), (by omega), (by omega), (by rw [cmpD_self]; rfl), (by simp), ((Classical.em (pE u ≠ 0)).elim (fun he => cnd_t (by simp [he]) ⟨(by rw [(p_bad he).1]; rfl), (by rw [(p_bad he).2]; rfl), rfl⟩) (fun he => cnd_f (by simpa using he) ⟨(by omega), (by omega), (by omega), (by rw [dt_p (Decidable.not_not.1 he)]; exact eq_self _), (decide_eq_true rfl), (by omega), (by omega), (eq_self _), rfl⟩))⟩
end Go.Proofs.YtalcafbeepimgaaGreatDoor.X
