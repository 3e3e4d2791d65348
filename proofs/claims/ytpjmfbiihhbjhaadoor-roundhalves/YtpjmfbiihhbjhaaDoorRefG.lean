/- Contracts of the reference (layers 1 and 2): DivMod. -/
import Derived.Test.YtpjmfbiihhbjhaaDoorDivMath
import Derived.Test.YtpjmfbiihhbjhaaDoorBRef
import Derived.Laws.AppendOwnNone
import Derived.Deep.CutBlock
import Derived.Deep.DeepCutAuto
import Derived.Deep.CutRange
namespace Go.Proofs.YtpjmfbiihhbjhaaDoor
open Go.RowKit

theorem BlkD.grow {w w' : World} {g : Nat} {l : List Nat} (h : BlkD w g l) (k : Grow w w') : BlkD w' g l := (k.block g h.lt).trans h
theorem dset_zero (j x : Nat) (qs : List Nat) : (List.replicate (j + 1) 0 ++ qs).set j x = List.replicate j 0 ++ x :: qs := by
  rw [List.replicate_succ', List.append_assoc, List.singleton_append]
  have hs : (List.replicate j (0 : Nat)).length = j := List.length_replicate ..
  rw [List.set_append_right _ _ (by omega), hs, Nat.sub_self]
  rfl
theorem dcell_zero {w : World} {g j : Nat} {qs : List Nat} (h : BlkD w g (List.replicate (j + 1) 0 ++ qs)) : ∃ z : Nat, w.cell? ⟨g, j, none⟩ = some (.int .i64 (z : Int)) :=
  ⟨_, h.cell (i := j) (by rw [List.length_append, List.length_replicate]; omega)⟩
theorem IsD.open {w : World} {v : Value} {n k : Nat} (h : IsD w v n k) : (∃ c, v = .slice none 0 c ∧ n = 0) ∨ ∃ ad c, v = .slice (some ad) (Dx.len n) c ∧ ∀ (j : Nat) u, (valsD (Dx.limbs n))[j]? = some u → w.cell? (ad.add j) = some u := by
  obtain ⟨A, c, rfl, hc, hl, hk⟩ := h
  by_cases hn : Dx.limbs n = []
  · have h0 : Dx.len n = 0 := by unfold Dx.len; rw [hn]; rfl
    cases A with
    | none => exact .inl ⟨c, by rw [h0], by rw [← Dx.val_limbs n, hn]; rfl⟩
    | some ad => exact .inr ⟨ad, c, rfl, by rw [hn]; intro j u h; simp [valsD] at h⟩
  · obtain ⟨b, o, rfl, hb, hcl⟩ := hl hn
    refine .inr ⟨_, c, rfl, fun j u hu => ?_⟩
    rw [valsD_get] at hu
    obtain ⟨x, hx, rfl⟩ := Option.map_eq_some_iff.1 hu
    have e : (Addr.mk b o none).add j = ⟨b, o + j, none⟩ := by unfold Addr.add; split <;> simp_all
    rw [e]
    exact hcl j x hx

theorem append_zero (base : Nat) (t ty e : TypeId) (i : TypeInfo) (size : Nat) {P : Program} {w : World} (ht : P.underlying t = some (.slice e)) (hi : P.info? e = some i)
    (v : Value) (n c : Nat) (xs : List Value) (hown : w.ownsRow base e size v n xs) : (Builtin.append_ #[t, t] ty #[v, .slice none 0 c]).run P w = .ok v w := by
  rcases hown.2 with ⟨rfl, rfl⟩ | ⟨g, cap, cur, rfl, _, _, hnc, _⟩
  · simp [Builtin.append_, run_underlying ht, sizeOf, typeInfo, hi, Builtin.lenOf, Builtin.firstCells]
  · simp [Builtin.append_, run_underlying ht, sizeOf, typeInfo, hi, Builtin.lenOf, Builtin.firstCells, hnc, storeCells]
theorem wpList_append_zero {P : Program} {w : World} {ops : Array Oper} {rest : List Oper} {o : Oper} {a : Act} {Q : Exit → Act → World → Prop} (hgd : o.guard = none) (s x : Operand) (t : TypeId)
    (ho : o.op = .call { callee := .builtin .append, args := #[s, x], argTypes := #[t, t] })
    (base : Nat) (e : TypeId) (i : TypeInfo) (size : Nat) (ht : P.underlying t = some (.slice e)) (hi : P.info? e = some i)
    (v : Value) (n c : Nat) (xs : List Value) (hs : a.eval s = v) (hown : w.ownsRow base e size v n xs) (hx : a.eval x = .slice none 0 c)
    (h : wpList P ops Q rest (a.put o.dst v) w) : wpList P ops Q (o :: rest) a w := by
  refine wpList_plain hgd fun K hK => ?_
  have hrun := append_zero (P := P) (w := w) base t o.type e i size ht hi v n c xs hown
  unfold Oper.wp
  simp [execOp, ho, resolve, invoke, builtin, hs, hx, hrun, Result.andThen]
  exact hK _ _ h

theorem CellsD.far {w : World} {A : Option Addr} {l : List Nat} (h : CellsD w A l) {p : Addr} (hp : ∀ a, A = some a → a.block ≠ p.block) (u : Value) : CellsD (w.setCell p u) A l := fun hn => by
  obtain ⟨b, o, e, hb, hc⟩ := h hn
  refine ⟨b, o, e, by simpa [World.setCell] using hb, fun j x hx => ?_⟩
  rw [World.cell?_setCell_other w p ⟨b, o + j, none⟩ u (fun e2 => hp _ e (by rw [e2]))]
  exact hc j x hx

/-- What is known behind the append: the new rest's digits lie in memory of their own. -/
def DivP (w wr : World) (x r : Nat) (v9 : Value) (W : World) : Prop :=
  ∃ A9 c9, v9 = .slice A9 (x :: Dx.limbs r).length c9 ∧ (x :: Dx.limbs r).length ≤ c9 ∧ CellsD W A9 (x :: Dx.limbs r) ∧ (∀ a, A9 = some a → a.block ≠ w.heap.size) ∧ Grow wr W
theorem divP_of {w wr W : World} {x r m : Nat} {v9 : Value} (h : W.ownsRow (w.heap.size + 1) 3 1 v9 m (valsD (x :: Dx.limbs r))) (hx : x < Dx.B) (g : Grow wr W) : DivP w wr x r v9 W := by
  have hd := ds_of_own h (by intro y hy; rcases List.mem_cons.1 hy with hy | hy; rw [hy]; exact hx; exact Dx.limbs_lt r y hy)
  obtain ⟨A, c, e, hc, _, hl⟩ := hd
  refine ⟨A, c, e, hc, hl, fun a ha => ?_, g⟩
  have := own_ge h (k := a.block) (by rw [e, ha]; rfl)
  omega

/-- What is known behind one digit: the quotient's digits so far, and the rest. -/
def DivD (w wr : World) (g n m j k i : Nat) (rv : Value) : Prop :=
  ∃ qs : List Nat, qs.length + i = k ∧ (∀ x ∈ qs, x < Dx.B) ∧ Dx.val qs = Dx.val ((Dx.limbs n).drop i) / m ∧ IsD wr rv (Dx.val ((Dx.limbs n).drop i) % m) j ∧ Grow w wr ∧ BlkD wr g (List.replicate i 0 ++ qs)

theorem dlen_mod {n m j : Nat} (hm : 0 < m) (h : Dx.len m ≤ j) : Dx.len (n % m) ≤ j := Nat.le_trans (Dx.len_mono (Nat.le_of_lt (Nat.mod_lt _ hm))) h

end Go.Proofs.YtpjmfbiihhbjhaaDoor
