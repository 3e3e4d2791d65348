/- Contracts of package quot: Gcd, where what lessen does is known. -/
import Derived.Test.YtckcjiojfpaikaaDoorQuoI
import Derived.Test.YtckcjiojfpaikaaDoorRgfNat
import Derived.Deep.LoopGhost
namespace Go.Proofs.YtckcjiojfpaikaaDoor
open Go.RowKit
set_option maxRecDepth 20000

/-- What lessen leaves of two numbers. -/
def LessRet (a b : Nat) (v : Value) (w' : World) : Prop := ∃ x y a' b', v = .tuple #[x, y] ∧ IsNat w' x a' ∧ IsNat w' y b' ∧ b' ≤ a' ∧ a' ≤ a ∧ b' < b ∧ Nat.gcd a' b' = Nat.gcd a b

/-- What is known of Gcd's variables: they hold a and b, the greater one first. -/
structure GcdS (w : World) (n m a b : Nat) (A : Option Addr) (c : Nat) (D : Option Addr) (d : Nat) (W : World) : Prop where
  c0 : W.cell? ⟨w.heap.size, 0, none⟩ = some (.slice A (Mx.len a) c)
  f0 : W.frozen? ⟨w.heap.size, 0, none⟩ = false
  c1 : W.cell? ⟨w.heap.size + 1, 0, none⟩ = some (.slice D (Mx.len b) d)
  f1 : W.frozen? ⟨w.heap.size + 1, 0, none⟩ = false
  c2 : W.cell? ⟨w.heap.size + 1 + 1, 0, none⟩ = some (.slice none 0 0)
  f2 : W.frozen? ⟨w.heap.size + 1 + 1, 0, none⟩ = false
  na : IsNat W (.agg #[.slice A (Mx.len a) c]) a
  nb : IsNat W (.agg #[.slice D (Mx.len b) d]) b
  gw : Grow w W
  le : b ≤ a
  top : a ≤ max n m
  gcd : Nat.gcd a b = Nat.gcd n m
theorem GcdS.grow {w W W' : World} {n m a b c d : Nat} {A D : Option Addr} (h : GcdS w n m a b A c D d W) (g : Grow W W') : GcdS w n m a b A c D d W' :=
  ⟨g.cells1 h.c0, (Below.frozen g (lt_of_cell' h.c0)).trans h.f0, g.cells1 h.c1, (Below.frozen g (lt_of_cell' h.c1)).trans h.f1, g.cells1 h.c2, (Below.frozen g (lt_of_cell' h.c2)).trans h.f2, h.na.grow g, h.nb.grow g, h.gw.trans g, h.le, h.top, h.gcd⟩
theorem GcdS.next {w W : World} {n m a b c d a' b' c' d' : Nat} {A D A' D' : Option Addr} (h : GcdS w n m a b A c D d W) (hx : IsNat W (.agg #[.slice A' (Mx.len a') c']) a') (hy : IsNat W (.agg #[.slice D' (Mx.len b') d']) b') (h1 : b' ≤ a') (h2 : a' ≤ max n m) (h3 : Nat.gcd a' b' = Nat.gcd n m) :
    GcdS w n m a' b' A' c' D' d' ((W.setCell ⟨w.heap.size, 0, none⟩ (.slice A' (Mx.len a') c')).setCell ⟨w.heap.size + 1, 0, none⟩ (.slice D' (Mx.len b') d')) := by
  obtain ⟨s1, s2, s3⟩ := two_set (A' := A') (B' := D') (n' := Mx.len a') (m' := Mx.len b') (c' := c') (d' := d') h.c0 h.c1
  refine ⟨s1, ?_, s2, ?_, ?_, ?_, (hx.store h.c0 _).store s3 _, (hy.store h.c0 _).store s3 _, (h.gw.setCell (Nat.le_refl _) _).setCell (by show w.heap.size ≤ w.heap.size + 1; omega) _, h1, h2, h3⟩
  · simpa using h.f0
  · simpa using h.f1
  · rw [World.cell?_setCell_other _ _ _ _ (by intro e; injection e with e; omega), World.cell?_setCell_other _ _ _ _ (by intro e; injection e with e; omega)]; exact h.c2
  · simpa using h.f2

theorem en_limbs : Enters Tryd.prog 41 := enters_of Tryd.func41 (by kernel_rfl) rfl
theorem en_limbFrom : Enters Tryd.prog 82 := enters_of Tryd.func82 (by kernel_rfl) rfl
/-- A slice over a new block with a number's limbs. -/
def LimbsAt (w : World) (v : Value) (x : Nat) : Prop := ∃ k, v = .slice (some ⟨k, 0, none⟩) (Mx.limbs x).length (Mx.limbs x).length ∧ Blk w k (Mx.limbs x)
theorem LimbsAt.grow {w w' : World} {v : Value} {x : Nat} (h : LimbsAt w v x) (g : Grow w w') : LimbsAt w' v x := by
  obtain ⟨k, e, hk⟩ := h
  exact ⟨k, e, hk.grow g⟩
theorem limbFrom_zero {w : World} {v : Value} {x : Nat} (hx : x < Mx.B) (h : LimbsAt w v x) : Calls Tryd.prog 82 #[v, .int .i64 0] w (Ret w fun v' _ => v' = .int .u64 (x : Int)) := by
  obtain ⟨k, rfl, hk⟩ := h
  have h := limbFrom_any w (some ⟨k, 0, none⟩) (Mx.limbs x) (Mx.limbs x).length 0 (Mx.limbs_lt x) (by omega) (Cells.of_block hk)
  rw [Mx.val_limbs, Nat.pow_zero, Nat.div_one, Nat.mod_eq_of_lt hx] at h
  refine Calls.mono h ?_
  rintro e w' ⟨rfl, m, rfl⟩
  exact Ret.mk rfl ((Grow.refl w).drewN m)
theorem limbs_ret (w : World) (v : Value) (x : Nat) (hx : Mx.len x ≤ 1073741824) (h : IsNat w v x) : Calls Tryd.prog 41 #[v] w (Ret w fun v' w' => LimbsAt w' v' x) :=
  (limbs_any w v x (by omega) h).mono fun _ _ ⟨v', he, hf⟩ => by
    obtain ⟨b, rfl, _, hk, g⟩ := hf.open
    rw [he]
    exact Ret.mk ⟨b, rfl, hk⟩ g
/-- What each operation of Gcd's last region yields. -/
def gcdF (vb vr : Value) (b r g : Nat) : Rg.Facts2 := fun d _ w v =>
  match d with
  | 33 => v = vb ∧ IsNat w v b
  | 34 => LimbsAt w v b
  | 35 => v = .int .u64 (b : Int)
  | 36 => v = vr ∧ IsNat w v r
  | 37 => LimbsAt w v r
  | 38 => v = .int .u64 (r : Int)
  | 39 => v = .int .u64 (g : Int)
  | 40 => Sl w v [g]
  | 41 => IsNat w v g
  | _ => True

end Go.Proofs.YtckcjiojfpaikaaDoor
