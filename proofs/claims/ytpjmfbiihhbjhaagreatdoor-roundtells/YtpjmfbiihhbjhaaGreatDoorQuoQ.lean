/- Contracts of package quot: lessen; Gcd of all numbers. -/
import Derived.Test.YtpjmfbiihhbjhaaGreatDoorQuoP
namespace Go.Proofs.YtpjmfbiihhbjhaaGreatDoor
open Go.RowKit

/-- What the cut behind lessen's region 2 keeps. -/
def LsC (w : World) (x0 y0 : Nat) (v7 : Value) (W : World) : Prop := ∃ k x y a1 b1 a2 b2, v7 = .pointer (some ⟨k, 0, none⟩) ∧ w.heap.size ≤ k ∧ Stp W k a1 b1 a2 b2 ∧ Mx.Fore x0 y0 x y a1 b1 a2 b2 ∧ a1 < Mx.B ∧ b1 < Mx.B ∧ a2 < Mx.B ∧ b2 < Mx.B ∧ Grow w W
def LsD (w : World) (c : Bool) (v25 : Value) (W : World) : Prop := v25 = .bool c ∧ Grow w W

/-- A block with no number in it. -/
def NoInt (w : World) (b : Nat) : Prop := b < w.heap.size ∧ ∀ i (x : Int), w.cell? ⟨b, i, none⟩ ≠ some (.int .u64 x)
theorem NoInt.grow {w w' : World} {b : Nat} (h : NoInt w b) (g : Grow w w') : NoInt w' b := ⟨Nat.lt_of_lt_of_le h.1 g.size, fun i x => by rw [g.cell (p := ⟨b, i, none⟩) h.1]; exact h.2 i x⟩
theorem NoInt.new (w : World) (t : TypeId) : NoInt (w.alloc (Obj.cells #[Value.slice none 0 0] t)) w.heap.size := by
  refine ⟨by simp, fun i x => ?_⟩
  rw [cell_of_row _ w.heap.size i _ _ _ (heap_alloc_new w _)]
  cases i <;> simp
theorem Cells.gb {R : List Nat} {w0 W : World} {A : Option Addr} {l : List Nat} (h : Cells w0 A l) (hW : Rg.GB R w0 W) (hR : ∀ b, R.contains b = true → NoInt w0 b) : Cells W A l := fun hn => by
  obtain ⟨b, o, e, hb, hc⟩ := h hn
  have hbR : R.contains b = false := by
    cases hr : R.contains b with
    | false => rfl
    | true =>
      exfalso
      cases l with
      | nil => exact hn rfl
      | cons x r => exact (hR b hr).2 (o + 0) _ (hc 0 x rfl)
  exact ⟨b, o, e, Nat.lt_of_lt_of_le hb hW.size, fun j x hx => hW.cell hbR (hc j x hx)⟩
theorem IsN.gb {R : List Nat} {w0 W : World} {v : Value} {n k : Nat} (h : IsN w0 v n k) (hW : Rg.GB R w0 W) (hR : ∀ b, R.contains b = true → NoInt w0 b) : IsN W v n k := by
  obtain ⟨⟨A, c, e, h1, h2⟩, h3⟩ := h
  exact ⟨⟨A, c, e, h1, h2.gb hW hR⟩, h3⟩

/-- What is known of lessen's variables. -/
structure LsS (w : World) (A2 : Option Addr) (l2 c2 : Nat) (A3 : Option Addr) (l3 c3 : Nat) (W : World) : Prop where
  k2 : W.cell? ⟨w.heap.size, 0, none⟩ = some (.slice A2 l2 c2)
  k3 : W.cell? ⟨w.heap.size + 1, 0, none⟩ = some (.slice A3 l3 c3)
  k4 : W.cell? ⟨w.heap.size + 1 + 1, 0, none⟩ = some (.slice none 0 0)
  f4 : W.frozen? ⟨w.heap.size + 1 + 1, 0, none⟩ = false
  k5 : W.cell? ⟨w.heap.size + 1 + 1 + 1, 0, none⟩ = some (.slice none 0 0)
  f5 : W.frozen? ⟨w.heap.size + 1 + 1 + 1, 0, none⟩ = false
  o4 : NoInt W (w.heap.size + 1 + 1)
  o5 : NoInt W (w.heap.size + 1 + 1 + 1)
  g : Grow w W
theorem LsS.grow {w W W' : World} {A2 A3 : Option Addr} {l2 c2 l3 c3 : Nat} (h : LsS w A2 l2 c2 A3 l3 c3 W) (g : Grow W W') : LsS w A2 l2 c2 A3 l3 c3 W' :=
  ⟨g.cells1 h.k2, g.cells1 h.k3, g.cells1 h.k4, (Below.frozen g (lt_of_cell' h.k4)).trans h.f4, g.cells1 h.k5, (Below.frozen g (lt_of_cell' h.k5)).trans h.f5, h.o4.grow g, h.o5.grow g, h.g.trans g⟩
theorem LsS.start (w : World) (A2 : Option Addr) (l2 c2 : Nat) (A3 : Option Addr) (l3 c3 : Nat) : LsS w A2 l2 c2 A3 l3 c3 ((((w.alloc (Obj.cells #[Value.slice A2 l2 c2] 26)).alloc (Obj.cells #[Value.slice A3 l3 c3] 26)).alloc (Obj.cells #[Value.slice none 0 0] 26)).alloc (Obj.cells #[Value.slice none 0 0] 26)) := by
  obtain ⟨k2, k3, k4, f4⟩ := Grow.new3 (w' := ((((w.alloc (Obj.cells #[Value.slice A2 l2 c2] 26)).alloc (Obj.cells #[Value.slice A3 l3 c3] 26)).alloc (Obj.cells #[Value.slice none 0 0] 26)).alloc (Obj.cells #[Value.slice none 0 0] 26))) ((Grow.refl _).alloc _)
  have h5 := Grow.new (w := ((w.alloc (Obj.cells #[Value.slice A2 l2 c2] 26)).alloc (Obj.cells #[Value.slice A3 l3 c3] 26)).alloc (Obj.cells #[Value.slice none 0 0] 26)) (v := .slice none 0 0) (t := 26) (Grow.refl _)
  have e : (((w.alloc (Obj.cells #[Value.slice A2 l2 c2] 26)).alloc (Obj.cells #[Value.slice A3 l3 c3] 26)).alloc (Obj.cells #[Value.slice none 0 0] 26)).heap.size = w.heap.size + 1 + 1 + 1 := by simp
  rw [e] at h5
  have o4 := (NoInt.new ((w.alloc (Obj.cells #[Value.slice A2 l2 c2] 26)).alloc (Obj.cells #[Value.slice A3 l3 c3] 26)) 26).grow ((Grow.refl _).alloc (Obj.cells #[Value.slice none 0 0] 26))
  have o5 := NoInt.new (((w.alloc (Obj.cells #[Value.slice A2 l2 c2] 26)).alloc (Obj.cells #[Value.slice A3 l3 c3] 26)).alloc (Obj.cells #[Value.slice none 0 0] 26)) 26
  have e' : ((w.alloc (Obj.cells #[Value.slice A2 l2 c2] 26)).alloc (Obj.cells #[Value.slice A3 l3 c3] 26)).heap.size = w.heap.size + 1 + 1 := by simp
  rw [e'] at o4
  rw [e] at o5
  exact ⟨k2, k3, k4, f4, h5.1, h5.2, o4, o5, ((((Grow.refl _).alloc _).alloc _).alloc _).alloc _⟩

set_option maxRecDepth 100000 in
set_option maxHeartbeats 2000000 in
theorem lessen_any (w : World) (va vb : Value) (a b : Nat) (hla : Mx.len a ≤ 1073741824) (ha : IsNat w va a) (hb : IsNat w vb b) (hba : b ≤ a) (h64 : 64 < Mx.bits b) :
    Calls Tryz.prog 84 #[va, vb] w (Ret w (LessRet a b)) := by
  have hlb : Mx.len b ≤ 1073741824 := Nat.le_trans (Mx.len_mono hba) hla
  have na : IsN w va a 1073741824 := ⟨ha, hla⟩
  have nb : IsN w vb b 1073741824 := ⟨hb, hlb⟩
  obtain ⟨A2, l2, c2, rfl⟩ := na.cell
  obtain ⟨A3, l3, c3, rfl⟩ := nb.cell
  obtain ⟨t1, t2, t3⟩ := Mx.top_bits hba h64
  have hbl := Mx.bits_len a
  have hbm := Mx.bits_mono hba
  obtain ⟨n, hn⟩ : ∃ n, n = Mx.bits a - 64 := ⟨_, rfl⟩
  rw [← hn] at t1 t2 t3
  have hb0 : b ≠ 0 := by
    rintro rfl
    rw [Mx.bits_zero] at h64
    omega
  have HB := Lib.hid (And.intro hla (And.intro hlb (And.intro hba (And.intro t1 (And.intro t3 hb0)))))
  have hnn : n ≤ 4611686018427387904 := by omega
  have hsub : ((Mx.bits a : Nat) : Int) - 64 = (n : Int) := by omega
  have hwr : IntKind.i64.wrap (((Mx.bits a : Nat) : Int) - 64) = (n : Int) := by rw [hsub]; exact IntWalk.i64_in _ (by omega)
  have HI := Lib.hid (And.intro hnn (And.intro hsub hwr))
  have HN := Lib.hid (And.intro na nb)
  clear ha hb hba h64 hla hlb t1 t2 t3 hbl hbm hn hnn hsub hwr na nb hb0
  go_enter Tryz.func84, Tryz.ntmps84
  go_upto_region 1 with fail
  have S1 := LsS.start w A2 l2 c2 A3 l3 c3
  generalize (((w.alloc (Obj.cells #[Value.slice A2 l2 c2] 26)).alloc (Obj.cells #[Value.slice A3 l3 c3] 26)).alloc (Obj.cells #[Value.slice none 0 0] 26)).alloc (Obj.cells #[Value.slice none 0 0] 26) = w1 at *
  have HS := Lib.hid S1
  obtain ⟨k2, k3, k4, f4, k5, f5, o4, o5, g1⟩ := S1
  clear g1 o4 o5
  go_wp2_with fail
  refine (bits_n (HN.out.1.grow HS.out.g) (by omega)).mono ?_
  rintro e w2 ⟨v2, rfl, rfl, g2⟩
  have HS := Lib.hid (HS.out.grow g2)
  clear k2 k3 k4 f4 k5 f5 g2
  obtain ⟨k2, k3, k4, f4, k5, f5, o4, o5, g2⟩ := HS.out
  clear g2 o4 o5
  go_upto_region 2 with fail
  have hw64 : wrap64 (n : Int) = (n : Int) := IntWalk.wrap64_in _ ⟨by omega, by have := HI.out.1; omega⟩
  rw [HI.out.2.1, hw64]
  clear hw64
  go_cut [7] (fun v7 W => LsC w2 (a / 2 ^ n) (b / 2 ^ n) v7 W)
  case first =>
    refine Rg.region_eq (ops' := lessOps2) (by kernel_rfl) (less_region2 (a := a) (b := b) (n := n) (x0 := a / 2 ^ n) (y0 := b / 2 ^ n) rfl rfl rfl rfl k2 k3 (HN.out.1.grow HS.out.g).1 (HN.out.2.grow HS.out.g).1 HB.out.1 HB.out.2.1 HI.out.1 rfl rfl HB.out.2.2.2.1 HB.out.2.2.2.2.1 ?_)
    intro f w3 k x y a1 b1 a2 b2 g3 e7 hk S hF q1 q2 q3 q4
    have H := Lib.hid (And.intro hk (And.intro S (And.intro hF (And.intro q1 (And.intro q2 (And.intro q3 (And.intro q4 g3)))))))
    clear hk S hF q1 q2 q3 q4 g3
    simp only [Rg.puts, Act.put, List.setIfInBounds_toArray, List.set_cons_succ, List.set_cons_zero]
    rw [e7]
    go_wp2_with fail
    go_meet
    exact ⟨k, x, y, a1, b1, a2, b2, rfl, H.out⟩
  case rest =>
    obtain ⟨w3, rfl⟩ : ∃ x, x = wc := ⟨wc, rfl⟩
    obtain ⟨k, x, y, a1, b1, a2, b2, rfl, hk, S, hF, q1, q2, q3, q4, g3⟩ := hcut
    have HF := Lib.hid (And.intro hF (And.intro q1 (And.intro q2 (And.intro q3 q4))))
    have hk5 : w.heap.size + 1 + 1 + 1 < k := Nat.lt_of_lt_of_le (lt_of_cell k5) hk
    have HST := Lib.hid S
    have HS := Lib.hid (HS.out.grow g3)
    clear k2 k3 k4 f4 k5 f5 hF q1 q2 q3 q4 g3 S hk
    go_upto_region 3 with fail
    go_cut [25] (fun v25 W => LsD w3 (decide (a1 = 1 ∧ b1 = 0 ∧ a2 = 0 ∧ b2 = 1)) v25 W)
    case first =>
      refine Rg.region_eq (ops' := lessOps3) (by kernel_rfl) (less_region3 (k := k) (a1 := a1) (b1 := b1) (a2 := a2) (b2 := b2) rfl rfl HST.out rfl ?_)
      intro f w4 g4 e25
      have H := Lib.hid g4
      clear g4
      simp only [Rg.puts, Act.put, List.setIfInBounds_toArray, List.set_cons_succ, List.set_cons_zero]
      rw [e25]
      go_wp2_with fail
      go_meet
      exact ⟨rfl, H.out⟩
    case rest =>
      obtain ⟨w4, rfl⟩ : ∃ x, x = wc := ⟨wc, rfl⟩
      obtain ⟨rfl, g4⟩ := hcut
      have HST := Lib.hid (HST.out.grow g4)
      have HS := Lib.hid (HS.out.grow g4)
      clear g4
      by_cases h0 : a2 = 0
      · have hd : decide (a1 = 1 ∧ b1 = 0 ∧ a2 = 0 ∧ b2 = 1) = true := by
          rcases HF.out.1.sure with h | h
          · exact decide_eq_true h
          · omega
        rw [hd]
        clear hd h0
        obtain ⟨k2, k3, k4, f4, k5, f5, o4, o5, g4⟩ := HS.out
        clear g4 o4 o5
        go_wp2_with fail
        refine (div_n (HN.out.1.grow HS.out.g) (HN.out.2.grow HS.out.g) (by omega) HB.out.2.2.2.2.2).mono ?_
        rintro e w5 ⟨v5, rfl, ⟨u5, t5, rfl, hu, ht⟩, g5⟩
        obtain ⟨Au, lu, cu, rfl⟩ := hu.cell
        obtain ⟨At, lt, ct, rfl⟩ := ht.cell
        have gg : Grow w5 ((w5.alloc (Obj.cells #[Value.slice Au lu cu] 26)).alloc (Obj.cells #[Value.slice At lt ct] 26)) := ((Grow.refl _).alloc _).alloc _
        obtain ⟨vu, vt⟩ := VarN.new2 hu ht (Grow.refl _)
        have hlt5 : w.heap.size + 1 + 1 + 1 < w5.heap.size := Nat.lt_of_lt_of_le (lt_of_cell k5) g5.size
        clear k2 k3 k4 f4 k5 f5
        have HS5 := Lib.hid (HS.out.grow (g5.trans gg))
        have HT := Lib.hid (ht.grow gg)
        have k9 : ((w5.alloc (Obj.cells #[Value.slice Au lu cu] 26)).alloc (Obj.cells #[Value.slice At lt ct] 26)).cell? ⟨w5.heap.size + 1, 0, none⟩ = some (.slice At lt ct) := (Grow.new2 (Grow.refl _)).2
        have HK9 := Lib.hid k9
        clear hu ht vu vt g5 gg k9
        go_upto_region 5 with fail
        obtain ⟨k2, k3, k4, f4, k5, f5, o4, o5, g6⟩ := HS5.out
        have hR : ∀ c, [w.heap.size + 1 + 1, w.heap.size + 1 + 1 + 1].contains c = true → NoInt ((w5.alloc (Obj.cells #[Value.slice Au lu cu] 26)).alloc (Obj.cells #[Value.slice At lt ct] 26)) c := by
          intro c hc
          have : c = w.heap.size + 1 + 1 ∨ c = w.heap.size + 1 + 1 + 1 := by simpa using hc
          rcases this with rfl | rfl
          · exact o4
          · exact o5
        refine Rg.region_eq (ops' := lessOps5) (by kernel_rfl) (less_region5 (w := w) (K := 1073741824) (p := b) (q := a % b) rfl rfl rfl rfl rfl ⟨by omega, by omega, by omega, by omega, by omega⟩ g6 k3 (fun W hW => (HN.out.2.grow g6).gb hW hR) HK9.out (fun W hW => HT.out.gb hW hR) ⟨by omega, by omega⟩ k4 f4 k5 f5 ?_)
        intro f w7 g7 v4 v5
        obtain ⟨A4, l4, c4, i4, n4⟩ := v4
        obtain ⟨A5, l5, c5, i5, n5⟩ := v5
        have HE := Lib.hid (And.intro g7 (And.intro n4 n5))
        clear k2 k3 k4 f4 k5 f5 o4 o5 g6 hR g7 n4 n5 HS5 HT HK9
        simp only [Rg.puts, Act.put, List.setIfInBounds_toArray, List.set_cons_succ, List.set_cons_zero]
        go_wp2_with fail
        refine bodyPost_ret (v := .tuple #[.agg #[.slice A4 l4 c4], .agg #[.slice A5 l5 c5]]) (by simp [results, Tryz.results84, go_sem, i4, i5]) rfl (Ret.mk ?_ HE.out.1)
        exact ⟨_, _, b, a % b, rfl, HE.out.2.1.1, HE.out.2.2.1, Nat.le_of_lt (Nat.mod_lt a (Nat.pos_of_ne_zero HB.out.2.2.2.2.2)), HB.out.2.2.1, Nat.mod_lt a (Nat.pos_of_ne_zero HB.out.2.2.2.2.2), by rw [Nat.gcd_comm a b, Nat.gcd_rec b a, Nat.gcd_comm]⟩
      · have hd : decide (a1 = 1 ∧ b1 = 0 ∧ a2 = 0 ∧ b2 = 1) = false := decide_eq_false (fun h => h0 h.2.2.1)
        rw [hd]
        obtain ⟨m1, m2, m3, m4⟩ := HF.out.1.less (a := a) (b := b) (T := 2 ^ n) (ea := a % 2 ^ n) (eb := b % 2 ^ n) h0 (by rw [Nat.mul_comm]; exact (Nat.div_add_mod a _).symm) (Nat.mod_lt _ (Mx.pow2_pos n)) (by rw [Nat.mul_comm]; exact (Nat.div_add_mod b _).symm) (Nat.mod_lt _ (Mx.pow2_pos n))
        have HM := Lib.hid (And.intro m1 (And.intro m2 (And.intro m3 m4)))
        clear hd h0 m1 m2 m3 m4
        go_upto_region 6 with fail
        obtain ⟨k2, k3, k4, f4, k5, f5, o4, o5, g6⟩ := HS.out
        refine Rg.region_eq (ops' := lessOps6) (by kernel_rfl) (less_region6 (w := w) (a := a) (b := b) (K := 1073741824) (k := k) rfl rfl rfl rfl rfl rfl ⟨by omega, by omega, by omega, by omega, by omega, by omega, by omega⟩ ⟨by omega, by omega⟩ g6 k2 HN.out.1 k3 HN.out.2 k4 f4 k5 f5 HST.out HF.out.2.1 HF.out.2.2.1 HF.out.2.2.2.1 HF.out.2.2.2.2 (by omega) rfl rfl ?_)
        intro f w7 g7 v4 v5
        obtain ⟨A4, l4, c4, i4, n4⟩ := v4
        obtain ⟨A5, l5, c5, i5, n5⟩ := v5
        have HE := Lib.hid (And.intro g7 (And.intro n4 n5))
        clear k2 k3 k4 f4 k5 f5 o4 o5 g6 g7 n4 n5
        simp only [Rg.puts, Act.put, List.setIfInBounds_toArray, List.set_cons_succ, List.set_cons_zero]
        go_wp2_with fail
        refine bodyPost_ret (v := .tuple #[.agg #[.slice A4 l4 c4], .agg #[.slice A5 l5 c5]]) (by simp [results, Tryz.results84, go_sem, i4, i5]) rfl (Ret.mk ?_ HE.out.1)
        exact ⟨_, _, Mx.far (a1 * a) (b1 * b), Mx.far (a2 * a) (b2 * b), rfl, HE.out.2.1.1, HE.out.2.2.1, HM.out.1, HM.out.2.1, HM.out.2.2.1, HM.out.2.2.2⟩

/-- Gcd, of all numbers that aren't too long. -/
theorem gcd_n {w : World} {va vb : Value} {n m k : Nat} (ha : IsN w va n k) (hb : IsN w vb m k) (hk : k ≤ 1073741824) :
    Calls Tryz.prog 53 #[va, vb] w (Ret w fun v w' => IsN w' v (Nat.gcd n m) k) := by
  have hmax : Mx.len (max n m) ≤ k := by
    rcases Nat.le_total n m with h | h
    · rw [Nat.max_eq_right h]; exact hb.2
    · rw [Nat.max_eq_left h]; exact ha.2
  refine (gcd_of w va vb n m (Nat.le_trans ha.2 hk) (Nat.le_trans hb.2 hk) ha.1 hb.1 ?_).mono fun _ _ r => r.mono fun v w' h => ⟨h, ?_⟩
  · intro W va vb a b hva hvb hba ham h64
    exact lessen_any W va vb a b (Nat.le_trans (Nat.le_trans (Mx.len_mono ham) hmax) hk) hva hvb hba h64
  · rcases Nat.eq_zero_or_pos n with h0 | h0
    · subst h0; rw [Nat.gcd_zero_left]; exact hb.2
    · exact Nat.le_trans (Mx.len_mono (Nat.gcd_le_left m h0)) ha.2
end Go.Proofs.YtpjmfbiihhbjhaaGreatDoor
