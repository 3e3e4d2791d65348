/- Contracts of package quot: Gcd, where what lessen does is known. -/
import Derived.Test.YtfeijnbmaehniaaQuoI
import Derived.Test.YtfeijnbmaehniaaRgfNat
import Derived.Deep.LoopGhost
namespace Go.Proofs.Ytfeijnbmaehniaa
open Go.RowKit

/-- What lessen leaves of two numbers. -/
def LessRet (a b : Nat) (v : Value) (w' : World) : Prop := ∃ x y a' b', v = .tuple #[x, y] ∧ IsNat w' x a' ∧ IsNat w' y b' ∧ b' ≤ a' ∧ a' ≤ a ∧ b' < b ∧ Nat.gcd a' b' = Nat.gcd a b

/-- What is known of Gcd's variables: they hold a and b, the greater one first. -/
structure GcdS (w : World) (n m a b : Nat) (A : Option Addr) (c : Nat) (D : Option Addr) (d : Nat) (W : World) : Prop where
  c0 : W.cell? ⟨w.heap.size, 0, none⟩ = some (.slice A (Mx.len a) c)
  f0 : W.frozen? ⟨w.heap.size, 0, none⟩ = false
  c1 : W.cell? ⟨w.heap.size + 1, 0, none⟩ = some (.slice D (Mx.len b) d)
  f1 : W.frozen? ⟨w.heap.size + 1, 0, none⟩ = false
  c2 : W.cell? ⟨w.heap.size + 1 + 1, 0, none⟩ = some (.slice none 0 0)
  f2 : W.frozen? ⟨w.heap.size + 1 + 1, 0, none⟩ = false
  na : IsNat W (.agg #[.slice A (Mx.len a) c]) a
  nb : IsNat W (.agg #[.slice D (Mx.len b) d]) b
  gw : Grow w W
  le : b ≤ a
  top : a ≤ max n m
  gcd : Nat.gcd a b = Nat.gcd n m
theorem GcdS.grow {w W W' : World} {n m a b c d : Nat} {A D : Option Addr} (h : GcdS w n m a b A c D d W) (g : Grow W W') : GcdS w n m a b A c D d W' :=
  ⟨g.cells1 h.c0, (Below.frozen g (lt_of_cell' h.c0)).trans h.f0, g.cells1 h.c1, (Below.frozen g (lt_of_cell' h.c1)).trans h.f1, g.cells1 h.c2, (Below.frozen g (lt_of_cell' h.c2)).trans h.f2, h.na.grow g, h.nb.grow g, h.gw.trans g, h.le, h.top, h.gcd⟩
theorem GcdS.next {w W : World} {n m a b c d a' b' c' d' : Nat} {A D A' D' : Option Addr} (h : GcdS w n m a b A c D d W) (hx : IsNat W (.agg #[.slice A' (Mx.len a') c']) a') (hy : IsNat W (.agg #[.slice D' (Mx.len b') d']) b') (h1 : b' ≤ a') (h2 : a' ≤ max n m) (h3 : Nat.gcd a' b' = Nat.gcd n m) :
    GcdS w n m a' b' A' c' D' d' ((W.setCell ⟨w.heap.size, 0, none⟩ (.slice A' (Mx.len a') c')).setCell ⟨w.heap.size + 1, 0, none⟩ (.slice D' (Mx.len b') d')) := by
  obtain ⟨s1, s2, s3⟩ := two_set (A' := A') (B' := D') (n' := Mx.len a') (m' := Mx.len b') (c' := c') (d' := d') h.c0 h.c1
  refine ⟨s1, ?_, s2, ?_, ?_, ?_, (hx.store h.c0 _).store s3 _, (hy.store h.c0 _).store s3 _, (h.gw.setCell (Nat.le_refl _) _).setCell (by show w.heap.size ≤ w.heap.size + 1; omega) _, h1, h2, h3⟩
  · simpa using h.f0
  · simpa using h.f1
  · rw [World.cell?_setCell_other _ _ _ _ (by intro e; injection e with e; omega), World.cell?_setCell_other _ _ _ _ (by intro e; injection e with e; omega)]; exact h.c2
  · simpa using h.f2

theorem en_limbs : Enters Try.prog 26 := enters_of Try.func26 (by kernel_rfl) rfl
theorem en_limbFrom : Enters Try.prog 49 := enters_of Try.func49 (by kernel_rfl) rfl
theorem en_gcdOfLimbs : Enters Try.prog 48 := enters_of Try.func48 (by kernel_rfl) rfl
noncomputable def gcdOps8 : Array Oper := Rg.regionOps Try.f24 8
/-- A slice over a new block with a number's limbs. -/
def LimbsAt (w : World) (v : Value) (x : Nat) : Prop := ∃ k, v = .slice (some ⟨k, 0, none⟩) (Mx.limbs x).length (Mx.limbs x).length ∧ Blk w k (Mx.limbs x)
theorem LimbsAt.grow {w w' : World} {v : Value} {x : Nat} (h : LimbsAt w v x) (g : Grow w w') : LimbsAt w' v x := by
  obtain ⟨k, e, hk⟩ := h
  exact ⟨k, e, hk.grow g⟩
theorem limbFrom_zero {w : World} {v : Value} {x : Nat} (hx : x < Mx.B) (h : LimbsAt w v x) : Calls Try.prog 49 #[v, .int .i64 0] w (Ret w fun v' _ => v' = .int .u64 (x : Int)) := by
  obtain ⟨k, rfl, hk⟩ := h
  have h := limbFrom_any w (some ⟨k, 0, none⟩) (Mx.limbs x) (Mx.limbs x).length 0 (Mx.limbs_lt x) (by omega) (Cells.of_block hk)
  rw [Mx.val_limbs, Nat.pow_zero, Nat.div_one, Nat.mod_eq_of_lt hx] at h
  refine Calls.mono h ?_
  rintro e w' ⟨rfl, m, rfl⟩
  exact Ret.mk rfl ((Grow.refl w).drewN m)
theorem gcdOfLimbs_ret (w : World) (x y : Nat) (hx : x < Mx.B) (hy : y < Mx.B) : Calls Try.prog 48 #[.int .u64 (x : Int), .int .u64 (y : Int)] w (Ret w fun v' _ => v' = .int .u64 ((Nat.gcd x y : Nat) : Int)) :=
  (gcdOfLimbs_any w x y hx hy).mono fun _ _ ⟨he, m, hm⟩ => by rw [he, hm]; exact Ret.mk rfl ((Grow.refl w).drewN m)
theorem limbs_ret (w : World) (v : Value) (x : Nat) (hx : Mx.len x ≤ 1073741824) (h : IsNat w v x) : Calls Try.prog 26 #[v] w (Ret w fun v' w' => LimbsAt w' v' x) :=
  (limbs_any w v x (by omega) h).mono fun _ _ ⟨v', he, hf⟩ => by
    obtain ⟨b, rfl, _, hk, g⟩ := hf.open
    rw [he]
    exact Ret.mk ⟨b, rfl, hk⟩ g
/-- What each operation of Gcd's last region yields. -/
def gcdF (vb vr : Value) (b r g : Nat) : Rg.Facts2 := fun d _ w v =>
  match d with
  | 33 => v = vb ∧ IsNat w v b
  | 34 => LimbsAt w v b
  | 35 => v = .int .u64 (b : Int)
  | 36 => v = vr ∧ IsNat w v r
  | 37 => LimbsAt w v r
  | 38 => v = .int .u64 (r : Int)
  | 39 => v = .int .u64 (g : Int)
  | 40 => Sl w v [g]
  | 41 => IsNat w v g
  | _ => True
set_option maxRecDepth 100000 in
set_option maxHeartbeats 1000000 in
theorem gcd_region8 {Q : Exit → Act → World → Prop} {a0 : Act} {w6 : World} {D3 D5 : Option Addr} {d3 d5 b r g : Nat} {p3 p6 p4 : Addr} (hn : a0.tmps.size = 42) (h3 : a0.tmps.getD 3 undef = .pointer (some p3)) (h6 : a0.tmps.getD 6 undef = .pointer (some p6)) (h4 : a0.tmps.getD 4 undef = .pointer (some p4))
    (c3 : w6.cell? p3 = some (.slice D3 (Mx.len b) d3)) (c6 : w6.cell? p6 = some (.slice D5 (Mx.len r) d5)) (c4 : w6.cell? p4 = some (.slice none 0 0)) (f4 : w6.frozen? p4 = false) (hb : IsNat w6 (.agg #[.slice D3 (Mx.len b) d3]) b) (hr : IsNat w6 (.agg #[.slice D5 (Mx.len r) d5]) r)
    (hbB : b < Mx.B) (hrB : r < Mx.B) (hgg : Nat.gcd b r = g) (hgB : g < Mx.B) (hlb : Mx.len b ≤ 1073741824) (hlr : Mx.len r ≤ 1073741824)
    (fin : ∀ f w A c, Grow w6 w → IsNat w (.agg #[.slice A (Mx.len g) c]) g → Q .normal (Rg.puts f [33, 34, 35, 36, 37, 38, 39, 40, 41] a0) (w.setCell p4 (.slice A (Mx.len g) c))) :
    (Code.region 8 gcdOps8 true).wp Try.prog Q a0 w6 := by
  refine Rg.region3 (n := 42) (F := gcdF (.agg #[.slice D3 (Mx.len b) d3]) (.agg #[.slice D5 (Mx.len r) d5]) b r g) 9 [] [33, 34, 35, 36, 37, 38, 39, 40, 41] (by kernel_rfl) (by kernel_rfl) hn (by kernel_rfl) (by kernel_rfl) (by kernel_rfl) ?_ ?_
    (fun i hi => Rg.all_from 9 0 ?_ i (Nat.zero_le _) (by omega)) ?_
  · intro d f w w' v h hg
    unfold gcdF at h ⊢
    split at h <;> try exact h
    · exact ⟨h.1, h.2.grow hg⟩
    · exact h.grow hg
    · exact ⟨h.1, h.2.grow hg⟩
    · exact h.grow hg
    · exact h.grow hg
    · exact h.grow hg
  · intro d f f' w v h _
    exact h
  · refine ⟨Rg.load2 (i := 0) (d := 33) (p := 3) (by kernel_rfl) h3 (by kernel_rfl) c3 (fun _ w hg => ⟨rfl, hb.grow hg⟩), ?_, ?_, Rg.load2 (i := 3) (d := 36) (p := 6) (by kernel_rfl) h6 (by kernel_rfl) c6 (fun _ w hg => ⟨rfl, hr.grow hg⟩), ?_, ?_, ?_, ?_, ?_, trivial⟩
    · refine Rg.step2N (i := 1) (dst := some 34) (op := .call { callee := .value (.func 26), args := #[.tmp 33], argTypes := #[24] }) (by kernel_rfl) fun o a w ho hd hg ha D => ?_
      exact Rg.call1 (F := fun d w v => gcdF (.agg #[.slice D3 (Mx.len b) d3]) (.agg #[.slice D5 (Mx.len r) d5]) b r g d (Rg.vals a) w v) ho en_limbs hd (limbs_ret w _ b hlb (D 33 (by kernel_rfl)).2) fun e w' ⟨v, e1, h1, g1⟩ => ⟨v, e1, h1, g1⟩
    · refine Rg.step2N (i := 2) (dst := some 35) (op := .call { callee := .value (.func 49), args := #[.tmp 34, .const (.int .i64 0)], argTypes := #[22, 3] }) (by kernel_rfl) fun o a w ho hd hg ha D => ?_
      exact Rg.callOf (F := fun d w v => gcdF (.agg #[.slice D3 (Mx.len b) d3]) (.agg #[.slice D5 (Mx.len r) d5]) b r g d (Rg.vals a) w v) (R := Ret w fun v' _ => v' = .int .u64 (b : Int)) ho en_limbFrom hd (by simp only [List.map_toArray, List.map_cons, List.map_nil, Act.eval]; exact limbFrom_zero hbB (D 34 (by kernel_rfl))) fun e w' ⟨v, e1, h1, g1⟩ => ⟨v, e1, h1, g1⟩
    · refine Rg.step2N (i := 4) (dst := some 37) (op := .call { callee := .value (.func 26), args := #[.tmp 36], argTypes := #[24] }) (by kernel_rfl) fun o a w ho hd hg ha D => ?_
      exact Rg.call1 (F := fun d w v => gcdF (.agg #[.slice D3 (Mx.len b) d3]) (.agg #[.slice D5 (Mx.len r) d5]) b r g d (Rg.vals a) w v) ho en_limbs hd (limbs_ret w _ r hlr (D 36 (by kernel_rfl)).2) fun e w' ⟨v, e1, h1, g1⟩ => ⟨v, e1, h1, g1⟩
    · refine Rg.step2N (i := 5) (dst := some 38) (op := .call { callee := .value (.func 49), args := #[.tmp 37, .const (.int .i64 0)], argTypes := #[22, 3] }) (by kernel_rfl) fun o a w ho hd hg ha D => ?_
      exact Rg.callOf (F := fun d w v => gcdF (.agg #[.slice D3 (Mx.len b) d3]) (.agg #[.slice D5 (Mx.len r) d5]) b r g d (Rg.vals a) w v) (R := Ret w fun v' _ => v' = .int .u64 (r : Int)) ho en_limbFrom hd (by simp only [List.map_toArray, List.map_cons, List.map_nil, Act.eval]; exact limbFrom_zero hrB (D 37 (by kernel_rfl))) fun e w' ⟨v, e1, h1, g1⟩ => ⟨v, e1, h1, g1⟩
    · refine Rg.step2N (i := 6) (dst := some 39) (op := .call { callee := .value (.func 48), args := #[.tmp 35, .tmp 38], argTypes := #[47, 47] }) (by kernel_rfl) fun o a w ho hd hg ha D => ?_
      have e35 : a.tmps.getD 35 undef = .int .u64 (b : Int) := D 35 (by kernel_rfl)
      have e38 : a.tmps.getD 38 undef = .int .u64 (r : Int) := D 38 (by kernel_rfl)
      exact Rg.call2 (F := fun d w v => gcdF (.agg #[.slice D3 (Mx.len b) d3]) (.agg #[.slice D5 (Mx.len r) d5]) b r g d (Rg.vals a) w v) (R := Ret w fun v' _ => v' = .int .u64 ((Nat.gcd b r : Nat) : Int)) ho en_gcdOfLimbs hd (by rw [e35, e38]; exact gcdOfLimbs_ret w b r hbB hrB) fun e w' ⟨v, e1, h1, g1⟩ => ⟨v, e1, by rw [← hgg]; exact h1, g1⟩
    · refine Rg.step2N (i := 7) (dst := some 40) (op := .buildSlice 22 1 #[(0, .tmp 39)]) (by kernel_rfl) fun o a w ho hd hg ha D => ?_
      have e39 : a.tmps.getD 39 undef = .int .u64 (g : Int) := D 39 (by kernel_rfl)
      refine Rg.valOf (F := fun d w v => gcdF (.agg #[.slice D3 (Mx.len b) d3]) (.agg #[.slice D5 (Mx.len r) d5]) b r g d (Rg.vals a) w v) (v := .slice (some ⟨w.heap.size, 0, none⟩) 1 1) (w' := w.alloc (.cells (vals [g]).toArray 47)) ?_ hd (sl_built w [g] (by intro y hy; simp at hy; rw [hy]; exact hgB)) ((Grow.refl w).alloc _)
      simp only [Array.getD_eq_getD_getElem?] at e39
      simp [execOp, ho, go_sem, vals, Act.eval, e39]
    · refine Rg.step2N (i := 8) (dst := some 41) (op := .call { callee := .value (.func 9), args := #[.tmp 40], argTypes := #[22] }) (by kernel_rfl) fun o a w ho hd hg ha D => ?_
      exact Rg.call1 (F := fun d w v => gcdF (.agg #[.slice D3 (Mx.len b) d3]) (.agg #[.slice D5 (Mx.len r) d5]) b r g d (Rg.vals a) w v) ho Rg.en_of hd (of_any w _ [g] (by simp) (D 40 (by kernel_rfl))) fun e w' ⟨v, e1, h1, g1⟩ => ⟨v, e1, by rw [Mx.val_one] at h1; exact h1, g1⟩
  · intro f w hg hf
    have h41 : IsNat w (f 41) g := hf 41 rfl
    have h41' := h41
    obtain ⟨A, c, e, _, _⟩ := h41
    rw [e] at h41'
    have hpg := Rg.puts_get f [33, 34, 35, 36, 37, 38, 39, 40, 41] a0
    refine Rg.store_last (p := 4) (x := 41) (b := p4) (A' := A) (L' := Mx.len g) (C' := c) (by kernel_rfl) ?_ ?_ (hg.cells1 c4) ((Below.frozen hg (lt_of_cell' c4)).trans f4) (fin f w A c hg h41')
    · rw [hpg 4 (by omega)]; exact h4
    · rw [hpg 41 (by omega)]; exact e

set_option maxHeartbeats 2000000 in
theorem gcd_of (w : World) (va vb : Value) (n m : Nat) (hn : Mx.len n ≤ 1073741824) (hm : Mx.len m ≤ 1073741824) (ha : IsNat w va n) (hb : IsNat w vb m)
    (HL : ∀ W va vb a b, IsNat W va a → IsNat W vb b → b ≤ a → a ≤ max n m → 64 < Mx.bits b → Calls Try.prog 47 #[va, vb] W (Ret W (LessRet a b))) :
    Calls Try.prog 24 #[va, vb] w (Ret w fun v w' => IsNat w' v (Nat.gcd n m)) := by
  have HC := Lib.hid (fun W (g : Grow w W) => cmp_any W va vb n m (by omega) (ha.grow g) (hb.grow g))
  have HLS := Lib.hid HL
  obtain ⟨A, c, rfl, hc, hl⟩ := ha
  obtain ⟨D, d, rfl, hd, hr⟩ := hb
  have HAB := Lib.hid (fun W (g : Grow w W) => And.intro (⟨A, c, rfl, hc, hl.grow g⟩ : IsNat W (.agg #[.slice A (Mx.len n) c]) n) (⟨D, d, rfl, hd, hr.grow g⟩ : IsNat W (.agg #[.slice D (Mx.len m) d]) m))
  clear hc hl hd hr HL
  go_enter Try.func24, Try.ntmps24
  go_wp2_with fail
  refine (HC.out _ ((((Grow.refl w).alloc _).alloc _).alloc _)).mono ?_
  rintro e w1 ⟨v1, rfl, rfl, hg⟩
  obtain ⟨c0, c1, c2, f2⟩ := hg.new3
  have hs : w.heap.size + 1 + 1 < w1.heap.size := lt_of_cell c2
  have f0 : w1.frozen? ⟨w.heap.size, 0, none⟩ = false := (Below.frozen hg (p := ⟨w.heap.size, 0, none⟩) (by show w.heap.size < _; simp; omega)).trans (by simp [go_sem])
  have f1 : w1.frozen? ⟨w.heap.size + 1, 0, none⟩ = false := (Below.frozen hg (p := ⟨w.heap.size + 1, 0, none⟩) (by show w.heap.size + 1 < _; simp)).trans (by simp [go_sem])
  have gw1 : Grow w w1 := ((((Grow.refl w).alloc _).alloc _).alloc _).trans hg
  have hS1 : n < m → GcdS w n m m n D d A c ((w1.setCell ⟨w.heap.size, 0, none⟩ (.slice D (Mx.len m) d)).setCell ⟨w.heap.size + 1, 0, none⟩ (.slice A (Mx.len n) c)) := by
    intro h
    obtain ⟨s1, s2, s3⟩ := two_set (A' := D) (B' := A) (n' := Mx.len m) (m' := Mx.len n) (c' := d) (d' := c) c0 c1
    refine ⟨s1, by simpa using f0, s2, by simpa using f1, ?_, by simpa using f2, (IsNat.store (HAB.out _ gw1).2 c0 _).store s3 _, (IsNat.store (HAB.out _ gw1).1 c0 _).store s3 _, (gw1.setCell (Nat.le_refl _) _).setCell (by show w.heap.size ≤ w.heap.size + 1; omega) _, by omega, by omega, Nat.gcd_comm _ _⟩
    rw [World.cell?_setCell_other _ _ _ _ (by intro e; injection e with e; omega), World.cell?_setCell_other _ _ _ _ (by intro e; injection e with e; omega)]; exact c2
  have hS2 : m ≤ n → GcdS w n m n m A c D d w1 := fun h => ⟨c0, f0, c1, f1, c2, f2, (HAB.out _ gw1).1, (HAB.out _ gw1).2, gw1, h, by omega, rfl⟩
  have HS := Lib.hid (And.intro hS1 hS2)
  have HCM := Lib.hid (And.intro (fun h : Mx.cmp n m < 0 => (by unfold Mx.cmp at h; split at h; assumption; split at h <;> omega : n < m)) (fun h : 0 ≤ Mx.cmp n m => (by unfold Mx.cmp at h; split at h; omega; omega : m ≤ n)))
  clear hg HC hS1 hS2 HAB gw1
  generalize Mx.cmp n m = cm at *
  go_upto_if 11 with fail
  go_cut [] (fun W => ∃ a b A c D d, GcdS w n m a b A c D d W)
  case first =>
    go_wp2_with fail
    all_goals go_meet
    · exact ⟨_, _, _, _, _, _, HS.out.1 (HCM.out.1 (by assumption))⟩
    · exact ⟨_, _, _, _, _, _, HS.out.2 (HCM.out.2 (by assumption))⟩
  case rest =>
    clear c0 c1 c2 f0 f1 f2 hs HCM HS
    obtain ⟨w2, rfl⟩ : ∃ x, x = wc := ⟨wc, rfl⟩
    obtain ⟨a, b, A2, c2, D2, d2, S2⟩ := hcut
    go_upto_block 0 with fail
    go_cut [] (fun W => ∃ a b A c D d, GcdS w n m a b A c D d W ∧ Mx.bits b ≤ 64)
    case first =>
      go_wp2_with fail
      go_loopg [] b (fun k wr => ∃ a b A c D d, b ≤ k ∧ GcdS w n m a b A c D d wr)
      case atStart => exact ⟨a, b, A2, c2, D2, d2, Nat.le_refl _, S2⟩
      case round =>
        obtain ⟨a, b, A3, c3, D3, d3, hbk, S3⟩ := hrel
        have hlb : Mx.len b ≤ 1073741824 := by
          have h1 := Mx.len_mono S3.le
          have h2 := Mx.len_mono S3.top
          have h3 : Mx.len (max n m) ≤ 1073741824 := by rcases Nat.le_total n m with h | h; rw [Nat.max_eq_right h]; exact hm; rw [Nat.max_eq_left h]; exact hn
          omega
        have HBI := Lib.hid (bits_any wr _ b (by omega) S3.nb)
        have HLE := Lib.hid (fun W (g : Grow wr W) => HLS.out W _ _ a b (S3.na.grow g) (S3.nb.grow g) S3.le S3.top)
        have HS3 := Lib.hid S3
        obtain ⟨c0, f0, c1, f1, c2, f2, _, _, _, _, _, _⟩ := S3
        have hbb : Mx.bits b ≤ 68719476736 := by have := Mx.bits_len b; omega
        generalize hbi : Mx.bits b = bi at *
        have HBB := Lib.hid hbi
        clear hbi
        by_cases h64 : 64 < bi
        · have h64' : decide ((64 : Int) < (bi : Int)) = true := decide_eq_true (by omega)
          go_wp2_with fail
          refine HBI.out.mono ?_
          rintro e w3 ⟨v3, rfl, rfl, g3⟩
          have S4 := HS3.out.grow g3
          clear c0 f0 c1 f1 c2 f2
          have HS4 := Lib.hid S4
          obtain ⟨c0, f0, c1, f1, c2, f2, _, _, _, _, _, _⟩ := S4
          go_wp2_with fail
          refine (HLE.out _ g3 h64).mono ?_
          rintro e w4 ⟨v4, rfl, ⟨x, y, a', b', rfl, hx, hy, h1, h2, h3, h4⟩, g4⟩
          have S5 := HS4.out.grow g4
          have HS5 := Lib.hid S5
          have HX := Lib.hid hx
          have HY := Lib.hid hy
          obtain ⟨A5, c5, rfl, _, _⟩ := hx
          obtain ⟨D5, d5, rfl, _, _⟩ := hy
          have HN := Lib.hid (And.intro h1 (And.intro h2 (And.intro h3 h4)))
          clear c0 f0 c1 f1 c2 f2 h1 h2 h3 h4
          obtain ⟨c0, f0, c1, f1, c2, f2, _, _, _, _, _, _⟩ := S5
          go_wp2_with fail
          go_roundg b'
          case measure => have := HN.out.2.2.1; omega
          case rel =>
            obtain ⟨h1, h2, h3, h4⟩ := HN.out
            exact ⟨a', b', A5, c5, D5, d5, Nat.le_refl _, HS5.out.next HX.out HY.out h1 (Nat.le_trans h2 HS5.out.top) (h4.trans HS5.out.gcd)⟩
        · have h64' : decide ((64 : Int) < (bi : Int)) = false := decide_eq_false (by omega)
          go_wp2_with fail
          refine HBI.out.mono ?_
          rintro e w3 ⟨v3, rfl, rfl, g3⟩
          go_wp2_with fail
          go_meet
          exact ⟨a, b, A3, c3, D3, d3, HS3.out.grow g3, by rw [HBB.out]; omega⟩
    case rest =>
      clear S2 HLS
      obtain ⟨w3, rfl⟩ : ∃ x, x = wc := ⟨wc, rfl⟩
      obtain ⟨a, b, A3, c3, D3, d3, S3, hbits⟩ := hcut
      have hb64 : b < Mx.B := Nat.lt_of_lt_of_le (Mx.bits_lt b) (by rw [show Mx.B = 2 ^ 64 from rfl]; exact Nat.pow_le_pow_right (by omega) hbits)
      have hla : Mx.len a ≤ 1073741824 := by
        have h2 := Mx.len_mono S3.top
        have h3 : Mx.len (max n m) ≤ 1073741824 := by rcases Nat.le_total n m with h | h; rw [Nat.max_eq_right h]; exact hm; rw [Nat.max_eq_left h]; exact hn
        omega
      have HZ := Lib.hid (zero_any w3 _ b S3.nb)
      have HDV := Lib.hid (fun W (g : Grow w3 W) => div_any W _ _ a b hla (S3.na.grow g) (S3.nb.grow g))
      have HS3 := Lib.hid S3
      obtain ⟨c0, f0, c1, f1, c2, f2, _, _, _, _, _, hgc⟩ := S3
      have HGC := Lib.hid hgc
      clear hgc
      by_cases h0 : b = 0
      · subst h0
        simp only [BEq.rfl] at HZ
        go_wp2_with fail
        refine HZ.out.mono ?_
        rintro e w4 ⟨v4, rfl, rfl, g4⟩
        have S4 := HS3.out.grow g4
        have HS4 := Lib.hid S4
        clear c0 f0 c1 f1 c2 f2
        obtain ⟨c0, f0, c1, f1, c2, f2, _, _, _, _, _, _⟩ := S4
        go_wp2_with fail
        have hgz := HGC.out
        rw [Nat.gcd_zero_right] at hgz
        refine bodyPost_ret (v := .agg #[.slice A3 (Mx.len a) c3]) (by simp [results, Try.results24, go_sem, c2]) rfl (Ret.mk (by rw [← hgz]; exact HS4.out.na.store c2 _) (HS4.out.gw.setCell (by show w.heap.size ≤ w.heap.size + 1 + 1; omega) _))
      · rw [show (b == 0) = false by rw [beq_eq_false_iff_ne]; exact h0] at HZ
        have HH := Lib.hid h0
        clear h0
        go_wp2_with fail
        refine HZ.out.mono ?_
        rintro e w4 ⟨v4, rfl, rfl, g4⟩
        have S4 := HS3.out.grow g4
        have HS4 := Lib.hid S4
        clear c0 f0 c1 f1 c2 f2
        obtain ⟨c0, f0, c1, f1, c2, f2, _, _, _, _, _, _⟩ := S4
        go_wp2_with fail
        refine (HDV.out _ g4 HH.out).mono ?_
        rintro e w5 ⟨v5, rfl, ⟨q, r, rfl, hq, hr⟩, g5⟩
        have S5 := HS4.out.grow g5
        have HS5 := Lib.hid S5
        have HR := Lib.hid hr
        obtain ⟨A5, c5, rfl, _, _⟩ := hq
        obtain ⟨D5, d5, rfl, _, _⟩ := hr
        clear c0 f0 c1 f1 c2 f2
        obtain ⟨c0, f0, c1, f1, c2, f2, _, _, _, _, _, _⟩ := S5
        have hs : w.heap.size + 1 + 1 < w5.heap.size := lt_of_cell c2
        go_wp2_with fail
        have g6 : Grow w5 ((w5.alloc (Obj.cells #[Value.slice A5 (Mx.len (a / b)) c5] 24)).alloc (Obj.cells #[Value.slice D5 (Mx.len (a % b)) d5] 24)) := ((Grow.refl _).alloc _).alloc _
        have hc6 : ((w5.alloc (Obj.cells #[Value.slice A5 (Mx.len (a / b)) c5] 24)).alloc (Obj.cells #[Value.slice D5 (Mx.len (a % b)) d5] 24)).cell? ⟨w5.heap.size + 1, 0, none⟩ = some (Value.slice D5 (Mx.len (a % b)) d5) := by simp [go_sem]
        generalize ((w5.alloc (Obj.cells #[Value.slice A5 (Mx.len (a / b)) c5] 24)).alloc (Obj.cells #[Value.slice D5 (Mx.len (a % b)) d5] 24)) = w6 at *
        have S6 := HS5.out.grow g6
        have HR6 := HR.out.grow g6
        have hlb : Mx.len b ≤ 1073741824 := Nat.le_trans (Mx.len_mono S6.le) hla
        have hab : a % b < b := Nat.mod_lt _ (by have := HH.out; omega)
        have hlr : Mx.len (a % b) ≤ 1073741824 := Nat.le_trans (Mx.len_mono (Nat.le_of_lt hab)) hlb
        have hge : Nat.gcd b (a % b) = Nat.gcd n m := by rw [← S6.gcd, Nat.gcd_comm a b, Nat.gcd_rec b a, Nat.gcd_comm]
        have hgl : Nat.gcd n m < Mx.B := by rw [← hge]; exact Nat.lt_of_le_of_lt (Nat.gcd_le_left _ (by have := HH.out; omega)) hb64
        refine Rg.region_eq (ops' := gcdOps8) (by kernel_rfl) (gcd_region8 (b := b) (r := a % b) (g := Nat.gcd n m) rfl rfl rfl rfl S6.c1 hc6 S6.c2 S6.f2 S6.nb HR6 hb64 (by omega) hge hgl hlb hlr ?_)
        intro f w7 A7 c7 g7 h7
        have c2' := g7.cells1 S6.c2
        have GW := Lib.hid (S6.gw.trans g7)
        have H7 := Lib.hid h7
        clear c0 f0 c1 f1 c2 f2 hc6 HR6 S6 hge hgl g6 g5 g4 HS3 HS4 HS5 HZ HDV HR hlb hlr hab g7 h7
        simp only [Rg.puts, Act.put, List.setIfInBounds_toArray, List.set_cons_succ, List.set_cons_zero]
        go_wp2_with fail
        refine bodyPost_ret (v := .agg #[.slice A7 (Mx.len (Nat.gcd n m)) c7]) (by simp [results, Try.results24, go_sem, c2']) rfl (Ret.mk (H7.out.store c2' _) (GW.out.setCell (by show w.heap.size ≤ w.heap.size + 1 + 1; omega) _))
end Go.Proofs.Ytfeijnbmaehniaa
