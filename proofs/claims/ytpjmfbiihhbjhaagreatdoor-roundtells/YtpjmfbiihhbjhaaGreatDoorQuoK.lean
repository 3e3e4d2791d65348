/- Contracts of package quot: none, foresee. -/
import Derived.Test.YtpjmfbiihhbjhaaGreatDoorGcdMath
import Derived.Test.YtpjmfbiihhbjhaaGreatDoorBQuo
namespace Go.Proofs.YtpjmfbiihhbjhaaGreatDoor
open Go.RowKit

theorem wrap_nat (n : Nat) (h : n < Mx.B) : IntKind.u64.wrap (n : Int) = (n : Int) := IntWalk.u64_in _ (by rw [Mx.B_eq] at h; omega)
/-- Steps as a value. -/
def stepsV (a1 b1 a2 b2 : Nat) : Value := .agg #[.int .u64 (a1 : Int), .int .u64 (b1 : Int), .int .u64 (a2 : Int), .int .u64 (b2 : Int)]

/-- A variable of steps at block k. -/
structure Stp (w : World) (k a1 b1 a2 b2 : Nat) : Prop where
  c0 : w.cell? ⟨k, 0, none⟩ = some (.int .u64 (a1 : Int))
  c1 : w.cell? ⟨k, 1, none⟩ = some (.int .u64 (b1 : Int))
  c2 : w.cell? ⟨k, 2, none⟩ = some (.int .u64 (a2 : Int))
  c3 : w.cell? ⟨k, 3, none⟩ = some (.int .u64 (b2 : Int))
  fz : ∀ i, w.frozen? ⟨k, i, none⟩ = false
theorem Stp.lt {w : World} {k a1 b1 a2 b2 : Nat} (h : Stp w k a1 b1 a2 b2) : k < w.heap.size := lt_of_cell h.c0
theorem Stp.grow {w w' : World} {k a1 b1 a2 b2 : Nat} (h : Stp w k a1 b1 a2 b2) (g : Grow w w') : Stp w' k a1 b1 a2 b2 :=
  ⟨g.cells1 h.c0, g.cells1 h.c1, g.cells1 h.c2, g.cells1 h.c3, fun i => (Below.frozen g (p := ⟨k, i, none⟩) h.lt).trans (h.fz i)⟩
theorem Stp.new (w : World) (a1 b1 a2 b2 : Nat) (t : TypeId) : Stp (w.alloc (.cells #[.int .u64 (a1 : Int), .int .u64 (b1 : Int), .int .u64 (a2 : Int), .int .u64 (b2 : Int)] t)) w.heap.size a1 b1 a2 b2 :=
  ⟨by simp [go_sem], by simp [go_sem], by simp [go_sem], by simp [go_sem], fun i => by simp [go_sem]⟩

theorem Stp.set {w : World} {k a1 b1 a2 b2 : Nat} (h : Stp w k a1 b1 a2 b2) (a b c d : Nat) :
    Stp ((((w.setCell ⟨k, 0, none⟩ (.int .u64 (a : Int))).setCell ⟨k, 1, none⟩ (.int .u64 (b : Int))).setCell ⟨k, 2, none⟩ (.int .u64 (c : Int))).setCell ⟨k, 3, none⟩ (.int .u64 (d : Int))) k a b c d := by
  obtain ⟨h0, h1, h2, h3, h4⟩ := h
  have e1 : (w.setCell ⟨k, 0, none⟩ (.int .u64 (a : Int))).cell? ⟨k, 1, none⟩ = some (.int .u64 (b1 : Int)) := by rw [World.cell?_setCell_other _ _ _ _ (by intro e; injection e with _ e; cases e)]; exact h1
  have e2 : ((w.setCell ⟨k, 0, none⟩ (.int .u64 (a : Int))).setCell ⟨k, 1, none⟩ (.int .u64 (b : Int))).cell? ⟨k, 2, none⟩ = some (.int .u64 (a2 : Int)) := by
    rw [World.cell?_setCell_other _ _ _ _ (by intro e; injection e with _ e; cases e), World.cell?_setCell_other _ _ _ _ (by intro e; injection e with _ e; cases e)]; exact h2
  have e3 : (((w.setCell ⟨k, 0, none⟩ (.int .u64 (a : Int))).setCell ⟨k, 1, none⟩ (.int .u64 (b : Int))).setCell ⟨k, 2, none⟩ (.int .u64 (c : Int))).cell? ⟨k, 3, none⟩ = some (.int .u64 (b2 : Int)) := by
    rw [World.cell?_setCell_other _ _ _ _ (by intro e; injection e with _ e; cases e), World.cell?_setCell_other _ _ _ _ (by intro e; injection e with _ e; cases e), World.cell?_setCell_other _ _ _ _ (by intro e; injection e with _ e; cases e)]; exact h3
  refine ⟨?_, ?_, ?_, by simp [go_sem, e3], fun i => by simpa using h4 i⟩
  · rw [World.cell?_setCell_other _ _ _ _ (by intro e; injection e with _ e; cases e), World.cell?_setCell_other _ _ _ _ (by intro e; injection e with _ e; cases e), World.cell?_setCell_other _ _ _ _ (by intro e; injection e with _ e; cases e)]
    simp [go_sem, h0]
  · rw [World.cell?_setCell_other _ _ _ _ (by intro e; injection e with _ e; cases e), World.cell?_setCell_other _ _ _ _ (by intro e; injection e with _ e; cases e)]
    simp [go_sem, e1]
  · rw [World.cell?_setCell_other _ _ _ _ (by intro e; injection e with _ e; cases e)]
    simp [go_sem, e2]
theorem Stp.set_other {w : World} {k j a1 b1 a2 b2 : Nat} (h : Stp w k a1 b1 a2 b2) (hj : j ≠ k) (a b c d : Nat) :
    Stp ((((w.setCell ⟨j, 0, none⟩ (.int .u64 (a : Int))).setCell ⟨j, 1, none⟩ (.int .u64 (b : Int))).setCell ⟨j, 2, none⟩ (.int .u64 (c : Int))).setCell ⟨j, 3, none⟩ (.int .u64 (d : Int))) k a1 b1 a2 b2 := by
  have key : ∀ i n, ∀ (W : World) u, (W.setCell ⟨j, i, none⟩ u).cell? ⟨k, n, none⟩ = W.cell? ⟨k, n, none⟩ := fun i n W u => World.cell?_setCell_other _ _ _ _ (by intro e; injection e with e; exact hj e)
  exact ⟨by rw [key, key, key, key]; exact h.c0, by rw [key, key, key, key]; exact h.c1, by rw [key, key, key, key]; exact h.c2, by rw [key, key, key, key]; exact h.c3, fun i => by simpa using h.fz i⟩

set_option maxHeartbeats 400000 in
theorem none_any (w : World) : Calls Tryz.prog 101 #[] w (Ret w fun v _ => v = stepsV 1 0 0 1) := by
  go_enter Tryz.func101, Tryz.ntmps101
  go_wp2_with fail
  exact bodyPost_ret (v := stepsV 1 0 0 1) (by simp [results, Tryz.results101, go_sem, stepsV]) rfl (Ret.mk rfl ((Grow.refl _).alloc _))

set_option maxHeartbeats 2000000 in
theorem foresee_any (w : World) (x0 y0 : Nat) (hx : x0 < Mx.B) (hy : y0 ≤ x0) : Calls Tryz.prog 100 #[.int .u64 (x0 : Int), .int .u64 (y0 : Int)] w
    (Ret w fun v _ => ∃ x y a1 b1 a2 b2, v = stepsV a1 b1 a2 b2 ∧ Mx.Fore x0 y0 x y a1 b1 a2 b2 ∧ a1 < Mx.B ∧ b1 < Mx.B ∧ a2 < Mx.B ∧ b2 < Mx.B) := by
  have HB := Lib.hid (And.intro hx hy)
  clear hx hy
  go_enter Tryz.func100, Tryz.ntmps100
  go_wp2_with fail
  refine (none_any _).mono ?_
  rintro e w1 ⟨v1, rfl, rfl, g1⟩
  unfold stepsV
  go_wp2_with fail
  have S0 := ((Stp.new w 0 0 0 0 134).grow g1).grow ((Grow.refl w1).alloc (Obj.cells #[Value.int IntKind.u64 1, Value.int IntKind.u64 0, Value.int IntKind.u64 0, Value.int IntKind.u64 1] 134))
  have S1 := Stp.new w1 1 0 0 1 134
  have GW := Lib.hid ((((Grow.refl w).alloc _).trans g1).alloc (Obj.cells #[Value.int IntKind.u64 1, Value.int IntKind.u64 0, Value.int IntKind.u64 0, Value.int IntKind.u64 1] 134))
  have HS := Lib.hid (And.intro S0 S1)
  have hne : w.heap.size < w1.heap.size := by have := g1.size; simp at this; omega
  clear S0 S1 g1
  go_loopw [0, 1] (fun xv yv wr => ∃ x y a1 b1 a2 b2 : Nat, xv = .int .u64 (x : Int) ∧ yv = .int .u64 (y : Int) ∧ Mx.Fore x0 y0 x y a1 b1 a2 b2 ∧ (a1 < Mx.B ∧ b1 < Mx.B ∧ a2 < Mx.B ∧ b2 < Mx.B) ∧ Stp wr w.heap.size 0 0 0 0 ∧ Stp wr w1.heap.size a1 b1 a2 b2 ∧ Grow w wr) (fun _ yv _ => (intOf yv).toNat)
  case atStart => exact ⟨x0, y0, 1, 0, 0, 1, rfl, rfl, Mx.Fore.start HB.out.2, ⟨by rw [Mx.B_eq]; omega, by rw [Mx.B_eq]; omega, by rw [Mx.B_eq]; omega, by rw [Mx.B_eq]; omega⟩, HS.out.1, HS.out.2, GW.out⟩
  case round =>
    clear HS GW
    obtain ⟨x, y, a1, b1, a2, b2, rfl, rfl, hF, hb, S0, S1, gr⟩ := hrel
    have HF := Lib.hid (And.intro hF (And.intro hb gr))
    clear hF hb gr
    by_cases h0 : y = 0
    · subst h0
      have HS0 := Lib.hid S0
      have HS1 := Lib.hid S1
      obtain ⟨z0, z1, z2, z3, z4⟩ := S0
      obtain ⟨s0, s1, s2, s3, s4⟩ := S1
      have z40 := z4 0
      go_wp2_with fail
      have S := HS0.out.set a1 b1 a2 b2
      obtain ⟨hF, hb, gr⟩ := HF.out
      exact bodyPost_ret (v := stepsV a1 b1 a2 b2) (by simp [results, Tryz.results100, go_sem, stepsV, S.c0, S.c1, S.c2, S.c3]) rfl (Ret.mk ⟨x, 0, a1, b1, a2, b2, rfl, hF, hb⟩ ((((gr.setCell (Nat.le_refl _) _).setCell (Nat.le_refl _) _).setCell (Nat.le_refl _) _).setCell (Nat.le_refl _) _))
    · have hb0 : ((y : Int) != 0) = true := by simp; omega
      have hb1 : ¬ (y : Int) = 0 := by omega
      have HS0 := Lib.hid S0
      have HS1 := Lib.hid S1
      have H0 := Lib.hid h0
      obtain ⟨hF, hb, gr⟩ := HF.out
      have hdm : IntKind.u64.wrap ((x : Int) / (y : Int)) = ((x / y : Nat) : Int) := by
        rw [← Int.natCast_ediv]
        exact wrap_nat _ (by have h1 := Nat.div_le_self x y; have h2 := Nat.le_mul_of_pos_left x (hF.pos); have h3 := hF.ex; have h4 := HB.out.1; omega)
      have hmm : (x : Int) % (y : Int) = ((x % y : Nat) : Int) := (Int.natCast_emod x y).symm
      have HDM := Lib.hid (And.intro hdm hmm)
      have hA : a1 + x / y * a2 < Mx.B := by
        have h1 := hF.fits.2
        have h2 := Nat.le_mul_of_pos_right (a1 + x / y * a2) (Nat.pos_of_ne_zero h0)
        have h3 := HB.out
        omega
      have hBB : b1 + x / y * b2 < Mx.B := by
        have h1 := hF.fits.1
        have h2 := Nat.le_mul_of_pos_right (b1 + x / y * b2) (Nat.pos_of_ne_zero h0)
        have h3 := HB.out
        omega
      have hyB : y < Mx.B := by
        have h1 := Nat.le_mul_of_pos_left x hF.pos
        have h2 := hF.ex
        have h3 := hF.xy
        have h4 := HB.out.1
        omega
      have HX := Lib.hid (And.intro hA (And.intro hBB (And.intro (fun h1 => hF.sum h0 h1) (And.intro (fun h1 h2 => hF.next h0 h1 h2) (And.intro (Nat.mod_lt x (Nat.pos_of_ne_zero h0)) hyB)))))
      clear S0 S1 h0 hF hb gr hdm hmm hA hBB hyB
      go_wp2_with fail
      go_quiet (fail)
      rw [HDM.out.1, HDM.out.2]
      clear HDM
      generalize x / y = t at *
      generalize x % y = r at *
      have G2 := (Grow.refl wr).drewN nq
      generalize wr.drewN nq = w2 at *
      have HS0 := Lib.hid (HS0.out.grow G2)
      have HS1 := Lib.hid (HS1.out.grow G2)
      have GR := Lib.hid (HF.out.2.2.trans G2)
      clear G2
      obtain ⟨s0, s1, s2, s3, s4⟩ := HS1.out
      have hw : IntKind.u64.wrap ((a1 : Int) + IntKind.u64.wrap ((t : Int) * (a2 : Int))) = ((a1 + t * a2 : Nat) : Int) ∧ IntKind.u64.wrap ((b1 : Int) + IntKind.u64.wrap ((t : Int) * (b2 : Int))) = ((b1 + t * b2 : Nat) : Int) ∧ IntKind.u64.wrap ((t : Int) * (a2 : Int)) = ((t * a2 : Nat) : Int) ∧ IntKind.u64.wrap ((t : Int) * (b2 : Int)) = ((t * b2 : Nat) : Int) := by
        have h1 := HX.out.1
        have h2 := HX.out.2.1
        have e1 : IntKind.u64.wrap ((t : Int) * (a2 : Int)) = ((t * a2 : Nat) : Int) := by rw [← Int.natCast_mul]; exact wrap_nat _ (by omega)
        have e2 : IntKind.u64.wrap ((t : Int) * (b2 : Int)) = ((t * b2 : Nat) : Int) := by rw [← Int.natCast_mul]; exact wrap_nat _ (by omega)
        refine ⟨?_, ?_, e1, e2⟩
        · rw [e1, ← Int.natCast_add]; exact wrap_nat _ h1
        · rw [e2, ← Int.natCast_add]; exact wrap_nat _ h2
      have HW := Lib.hid hw
      clear hw
      go_upto_region 5 with fail
      rw [HW.out.1, HW.out.2.1, HW.out.2.2.1, HW.out.2.2.2]
      clear HW
      generalize a1 + t * a2 = A2 at *
      generalize b1 + t * b2 = B2 at *
      generalize t * a2 = ta at *
      generalize t * b2 = tb at *
      have G3 : Grow w2 (w2.alloc (Obj.cells #[Value.int IntKind.u64 (a2 : Int), Value.int IntKind.u64 (b2 : Int), Value.int IntKind.u64 (A2 : Int), Value.int IntKind.u64 (B2 : Int)] 134)) := (Grow.refl w2).alloc _
      have S8 := Stp.new w2 a2 b2 A2 B2 134
      have S0 := HS0.out.grow G3
      have S1 := HS1.out.grow G3
      have g3 := GR.out.trans G3
      have hne8 : w1.heap.size < w2.heap.size := HS1.out.lt
      clear s0 s1 s2 s3 s4 HS0 HS1 G3 GR
      generalize w2.alloc (Obj.cells #[Value.int IntKind.u64 (a2 : Int), Value.int IntKind.u64 (b2 : Int), Value.int IntKind.u64 (A2 : Int), Value.int IntKind.u64 (B2 : Int)] 134) = w3 at *
      generalize w2.heap.size = k8 at *
      have HS0 := Lib.hid S0
      have HS1 := Lib.hid S1
      have HS8 := Lib.hid S8
      have GR := Lib.hid g3
      clear g3 S0 S1 S8
      obtain ⟨hA, hBB, hsum, hnext, hry, hyB⟩ := HX.out
      have stop : ∀ (c : Bool), c = true → True := fun _ _ => trivial
      clear stop
      by_cases hlt : r < B2
      · have d1 : decide ((r : Int) < (B2 : Int)) = true := decide_eq_true (by omega)
        have HD := Lib.hid hlt
        clear hlt hA hBB hsum hnext hry hyB
        obtain ⟨z0, z1, z2, z3, z4⟩ := HS0.out
        have z40 := z4 0
        obtain ⟨s0, s1, s2, s3, s4⟩ := HS1.out
        obtain ⟨q0, q1, q2, q3, q4⟩ := HS8.out
        go_wp2_with fail
        have S := HS0.out.set a1 b1 a2 b2
        obtain ⟨hF, hb, _⟩ := HF.out
        exact bodyPost_ret (v := stepsV a1 b1 a2 b2) (by simp [results, Tryz.results100, go_sem, stepsV, S.c0, S.c1, S.c2, S.c3]) rfl (Ret.mk ⟨x, y, a1, b1, a2, b2, rfl, hF, hb⟩ ((((GR.out.setCell (Nat.le_refl _) _).setCell (Nat.le_refl _) _).setCell (Nat.le_refl _) _).setCell (Nat.le_refl _) _))
      · have d1 : decide ((r : Int) < (B2 : Int)) = false := decide_eq_false (by omega)
        have hs := hsum (by omega)
        have e1 : IntKind.u64.wrap ((y : Int) - (r : Int)) = ((y - r : Nat) : Int) := by
          rw [show (y : Int) - (r : Int) = ((y - r : Nat) : Int) by omega]
          exact wrap_nat _ (by omega)
        have e2 : IntKind.u64.wrap ((b2 : Int) + (B2 : Int)) = ((b2 + B2 : Nat) : Int) := by rw [← Int.natCast_add]; exact wrap_nat _ (by have := HB.out.1; omega)
        by_cases hl2 : y - r < b2 + B2
        · have d2 : decide (IntKind.u64.wrap ((y : Int) - (r : Int)) < IntKind.u64.wrap ((b2 : Int) + (B2 : Int))) = true := decide_eq_true (by rw [e1, e2]; omega)
          clear hA hBB hsum hnext hry hyB e1 e2 hl2 hs
          obtain ⟨z0, z1, z2, z3, z4⟩ := HS0.out
          have z40 := z4 0
          obtain ⟨s0, s1, s2, s3, s4⟩ := HS1.out
          obtain ⟨q0, q1, q2, q3, q4⟩ := HS8.out
          go_wp2_with fail
          have S := HS0.out.set a1 b1 a2 b2
          obtain ⟨hF, hb, _⟩ := HF.out
          exact bodyPost_ret (v := stepsV a1 b1 a2 b2) (by simp [results, Tryz.results100, go_sem, stepsV, S.c0, S.c1, S.c2, S.c3]) rfl (Ret.mk ⟨x, y, a1, b1, a2, b2, rfl, hF, hb⟩ ((((GR.out.setCell (Nat.le_refl _) _).setCell (Nat.le_refl _) _).setCell (Nat.le_refl _) _).setCell (Nat.le_refl _) _))
        · have d2 : decide (IntKind.u64.wrap ((y : Int) - (r : Int)) < IntKind.u64.wrap ((b2 : Int) + (B2 : Int))) = false := decide_eq_false (by rw [e1, e2]; omega)
          have HN := Lib.hid (And.intro (hnext (by omega) (by omega)) (And.intro hA (And.intro hBB hry)))
          clear hA hBB hsum hnext hry hyB e1 e2 hl2 hs
          obtain ⟨s0, s1, s2, s3, s4⟩ := HS1.out
          have s40 := s4 0
          have s41 := s4 1
          have s42 := s4 2
          have s43 := s4 3
          obtain ⟨q0, q1, q2, q3, q4⟩ := HS8.out
          go_wp2_with fail
          go_region
          go_wp2_with fail
          go_roundw
          case rel =>
            have hb := HF.out.2.1
            have hle : w.heap.size ≤ w1.heap.size := by omega
            exact ⟨y, r, a2, b2, A2, B2, rfl, rfl, HN.out.1, ⟨hb.2.2.1, hb.2.2.2, HN.out.2.1, HN.out.2.2.1⟩, (HS0.out.set_other (by omega) a2 b2 A2 B2).grow (Grow.refl _).drew, (HS1.out.set a2 b2 A2 B2).grow (Grow.refl _).drew, ((((GR.out.setCell hle _).setCell hle _).setCell hle _).setCell hle _).drew⟩
          case measure => simp [intOf]; exact HN.out.2.2.2
end Go.Proofs.YtpjmfbiihhbjhaaGreatDoor
