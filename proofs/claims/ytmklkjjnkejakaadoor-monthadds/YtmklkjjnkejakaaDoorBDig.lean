/- One text out of: Own, DgB, DgC, DgD, DgE, DgF, DgG, DgH, DgI, DgJ, RgMore. -/
import Derived.Test.YtmklkjjnkejakaaDoorBNat
import Derived.Laws.AppendOwn
import Derived.OwnWalk
import Derived.Test.YtmklkjjnkejakaaDoorDgA
import Derived.Deep.MidRow
import Derived.Deep.DeepCutAuto
import Derived.Deep.CutBlock
import Derived.Test.YtmklkjjnkejakaaDoorBQuo
import Derived.Deep.RegionHeld3
import Derived.WalkMore
import Derived.Deep.LoopGhost
import Derived.Deep.AppendLies
import Derived.Test.YtmklkjjnkejakaaDoorBRef
import Derived.Shelf.Strings.Trim
import Derived.Laws.IdiomStrings
import Derived.Test.YtmklkjjnkejakaaDoorBRg
import Derived.Laws.DeepStrings4
/- A slice that a call itself made and appends to: all its block's cells are of one make, the room behind it too. No program is named here. -/
namespace Go.Proofs.YtmklkjjnkejakaaDoor
open Go.RowKit

/-- nil; or a slice over the beginning of a block, whose cells are all of the make E. -/
def Own (w : World) (e : TypeId) (E : Value → Prop) (v : Value) (xs : List Value) : Prop :=
  (v = .slice none 0 0 ∧ xs = []) ∨ ∃ g cap r, v = .slice (some ⟨g, 0, none⟩) xs.length cap ∧ w.heap[g]? = some (.cells (xs ++ r).toArray e (0, 0)) ∧ (xs ++ r).length = cap ∧ cap ≤ maxLen ∧ ∀ u ∈ xs ++ r, E u
theorem Own.nil (w : World) (e : TypeId) (E : Value → Prop) : Own w e E (.slice none 0 0) [] := .inl ⟨rfl, rfl⟩
/-- What a call leaves that appends to a slice of its caller's. -/
def Wrote (w : World) (v : Value) (w' : World) (v' : Value) : Prop := w.grownBy w' v.ownBlock ∧ (v'.ownBlock = v.ownBlock ∨ ∃ g, v'.ownBlock = some g ∧ w.heap.size ≤ g)
theorem Wrote.trans {w w1 w2 : World} {v v1 v2 : Value} (h : Wrote w v w1 v1) (k : Wrote w1 v1 w2 v2) : Wrote w v w2 v2 := by
  obtain ⟨h1, h2⟩ := h
  obtain ⟨k1, k2⟩ := k
  refine ⟨⟨k1.os.trans h1.os, k1.tape.trans h1.tape, k1.output.trans h1.output, Nat.le_trans h1.size k1.size, fun i hi hne => ?_⟩, ?_⟩
  · refine (k1.block i (Nat.lt_of_lt_of_le hi h1.size) fun e => ?_).trans (h1.block i hi hne)
    rcases h2 with h2 | ⟨g, h2, hg⟩
    · exact hne (e.trans h2)
    · rw [h2] at e
      injection e with e
      omega
  · rcases k2 with k2 | ⟨g, k2, hg⟩
    · rcases h2 with h2 | ⟨g, h2, hg⟩
      · exact .inl (k2.trans h2)
      · exact .inr ⟨g, k2.trans h2, hg⟩
    · exact .inr ⟨g, k2, Nat.le_trans h1.size hg⟩
theorem Wrote.of_grow {w w' : World} (v : Value) (h : Grow w w') : Wrote w v w' v := ⟨⟨h.os, h.tape, h.output, h.size, fun i hi _ => h.block i hi⟩, .inl rfl⟩
theorem Wrote.grow {w w' : World} {n c : Nat} {v' : Value} (h : Wrote w (.slice none n c) w' v') : Grow w w' := ⟨h.1.os, h.1.tape, h.1.output, h.1.size, fun i hi => h.1.block i hi (by simp [Value.ownBlock])⟩
theorem Wrote.pre {w w1 w2 : World} {v v2 : Value} (h : Grow w w1) (k : Wrote w1 v w2 v2) : Wrote w v w2 v2 := (Wrote.of_grow v h).trans k
theorem Wrote.size {w w' : World} {v v' : Value} (h : Wrote w v w' v') : w.heap.size ≤ w'.heap.size := h.1.size
/-- A cell that is of another make than the slice's is as it was. -/
theorem Wrote.cell {w w' : World} {e : TypeId} {E : Value → Prop} {v v' : Value} {xs : List Value} (h : Wrote w v w' v') (ho : Own w e E v xs) {p : Addr} {u : Value} (hp : w.cell? p = some u) (hu : ¬ E u) : w'.cell? p = some u := by
  have hlt := lt_of_cell' hp
  refine (World.cell?_of_block (h.1.block p.block hlt fun hb => ?_)).trans hp
  rcases ho with ⟨rfl, _⟩ | ⟨g, cap, r, rfl, hg, _, _, hE⟩
  · cases hb
  · simp only [Value.ownBlock, Option.some.injEq] at hb
    unfold World.cell? at hp
    rw [hb, hg] at hp
    simp only at hp
    refine hu (hE u ?_)
    split at hp
    · cases hp
    · simpa using Array.mem_of_getElem? hp
theorem Own.grow {w w' : World} {e : TypeId} {E : Value → Prop} {v : Value} {xs : List Value} (h : Own w e E v xs) (k : Grow w w') : Own w' e E v xs := by
  rcases h with h | ⟨g, cap, r, h1, h2, h3⟩
  · exact .inl h
  · exact .inr ⟨g, cap, r, h1, (k.block g (Array.getElem?_eq_some_iff.1 h2).1).trans h2, h3⟩
theorem Own.len {w : World} {e : TypeId} {E : Value → Prop} {v : Value} {xs : List Value} (h : Own w e E v xs) : ∃ A c, v = .slice A xs.length c ∧ xs.length ≤ c ∧ xs.length ≤ maxLen := by
  rcases h with ⟨h, rfl⟩ | ⟨g, cap, r, h1, h2, h3, h4, _⟩
  · exact ⟨_, _, h, Nat.zero_le _, Nat.zero_le _⟩
  · rw [List.length_append] at h3
    exact ⟨_, _, h1, by omega, by omega⟩
theorem Own.cells {w : World} {e : TypeId} {E : Value → Prop} {v : Value} {xs : List Value} (h : Own w e E v xs) (hn : xs ≠ []) : ∃ g c, v = .slice (some ⟨g, 0, none⟩) xs.length c ∧ xs.length ≤ c ∧ ∀ j u, xs[j]? = some u → w.cell? ⟨g, j, none⟩ = some u := by
  rcases h with ⟨_, rfl⟩ | ⟨g, cap, r, h1, h2, h3, h4, _⟩
  · exact absurd rfl hn
  · rw [List.length_append] at h3
    refine ⟨g, cap, h1, by omega, fun j u hj => ?_⟩
    rw [cell_of_row w g j _ _ _ h2]
    have := (List.getElem?_eq_some_iff.1 hj).1
    simp [List.getElem?_append_left this, hj]
theorem zero_mem {z u : Value} {n : Nat} (h : u ∈ (Builtin.zeroCells #[z] n).toList) : u = z := by
  simp [Builtin.zeroCells, Nat.mod_one] at h
  exact h.2.symm

theorem own_append {P : Program} {w : World} (t ty e : TypeId) (i : TypeInfo) (z : Value) (bytes : Nat) (ht : P.underlying t = some (.slice e)) (hi : P.info? e = some i) (hz : i.zero = some z) (hs : i.size = 1) (hby : i.bytes = bytes) {z0 : Value} (hz1 : z.cells = #[z0])
    {E : Value → Prop} (hE0 : E z0) (hE1 : ∀ u, E u → u.oneCell' = true) {v : Value} {xs : List Value} (h : Own w e E v xs) (a : Addr) (m c : Nat) (news : List Value) (hm : news.length = m) (hm0 : 0 < m)
    (hnews : ∀ j u, news[j]? = some u → w.cell? (a.add j) = some u) (hEn : ∀ u ∈ news, E u) (hb : (xs.length + m) * bytes ≤ 140737488355328) (h63 : xs.length + m ≤ maxLen) :
    ∃ v' w', (Builtin.append_ #[t, t] ty #[v, .slice (some a) m c]).run P w = .ok v' w' ∧ Own w' e E v' (xs ++ news) ∧ Wrote w v w' v' := by
  subst hby
  have h64 : xs.length + m ≤ 9223372036854775807 := by simp only [maxLen] at h63; omega
  rcases h with ⟨rfl, rfl⟩ | ⟨g, cap, r, rfl, hg, hcap, hmax, hE⟩
  · have hr := run_append_nil (P := P) w t ty e i z ht hi hz a m c news (by rw [hs, Nat.mul_one]; exact hm) hnews hm0 (by simp at h64; omega) (by simp at hb; omega)
    have hge := grownCap_ge w m 0 e
    refine ⟨_, _, hr, .inr ⟨w.heap.size, _, (Builtin.zeroCells z.cells (grownCap w m 0 e - m)).toList, by rw [List.nil_append, hm], ?_, ?_, grownCap_le_maxLen w m 0 e (by simpa using h63), ?_⟩, ⟨rfl, rfl, rfl, by simp, fun k hk _ => Go.heap_alloc_old w.drew _ hk⟩, .inr ⟨w.heap.size, rfl, Nat.le_refl _⟩⟩
    · refine (heap_alloc_new w.drew _).trans ?_
      simp
    · simp only [List.nil_append, List.length_append, Array.length_toList, size_zeroCells, hz1, hm, List.size_toArray, List.length_cons, List.length_nil]
      omega
    · intro u hu
      rw [List.nil_append] at hu
      rcases List.mem_append.1 hu with hu | hu
      · exact hEn u hu
      · rw [hz1] at hu
        rw [zero_mem hu]
        exact hE0
  · by_cases hroom : xs.length + m ≤ cap
    · have hr := run_append_room (P := P) w t ty e i ht hi g xs.length cap _ hg a m c news (by rw [hs, Nat.mul_one]; exact hm) hnews (fun u hu => hE1 u (hEn u hu)) hroom (by simp only [List.size_toArray, hcap, hs, Nat.mul_one, hm]; exact hroom)
      refine ⟨_, _, hr, .inr ⟨g, cap, r.drop m, by rw [List.length_append, hm], ?_, ?_, hmax, ?_⟩, ⟨rfl, rfl, rfl, by simp, fun k _ hk => setRow_other w g k _ (fun e => hk (by simp [Value.ownBlock, e]))⟩, .inl rfl⟩
      · rw [setRow_heap w g _ _ e _ hg, hs, Nat.mul_one, hm]
        simp [List.drop_append]
      · simp only [List.length_append, List.length_drop] at hcap ⊢
        omega
      · intro u hu
        rcases List.mem_append.1 hu with hu | hu
        · rcases List.mem_append.1 hu with hu | hu
          · exact hE u (List.mem_append_left _ hu)
          · exact hEn u hu
        · exact hE u (List.mem_append_right _ (List.mem_of_mem_drop hu))
    · have hr := run_append_grow (P := P) w t ty e i z ht hi hz ⟨g, 0, none⟩ xs.length cap xs (by rw [hs, Nat.mul_one]) (fun j u hj => by
        rw [Addr.add_lit, Nat.zero_add, cell_of_row w g j _ _ _ hg]
        have := (List.getElem?_eq_some_iff.1 hj).1
        simp [List.getElem?_append_left this, hj]) a m c news (by rw [hs, Nat.mul_one]; exact hm) hnews (by omega) (by omega) (growslice_fits (by omega) hb)
      have hge := grownCap_ge w (xs.length + m) cap e
      refine ⟨_, _, hr, .inr ⟨w.heap.size, _, (Builtin.zeroCells z.cells (grownCap w (xs.length + m) cap e - (xs.length + m))).toList, by rw [List.length_append, hm], ?_, ?_, grownCap_le_maxLen w _ cap e h63, ?_⟩, ⟨rfl, rfl, rfl, by simp, fun k hk _ => Go.heap_alloc_old w.drew _ hk⟩, .inr ⟨w.heap.size, rfl, Nat.le_refl _⟩⟩
      · refine (heap_alloc_new w.drew _).trans ?_
        simp
      · simp only [List.length_append, Array.length_toList, size_zeroCells, hz1, hm, List.size_toArray, List.length_cons, List.length_nil]
        omega
      · intro u hu
        rcases List.mem_append.1 hu with hu | hu
        · rcases List.mem_append.1 hu with hu | hu
          · exact hE u (List.mem_append_left _ hu)
          · exact hEn u hu
        · rw [hz1] at hu
          rw [zero_mem hu]
          exact hE0
theorem wpList_own_append {P : Program} {w : World} {ops : Array Oper} {rest : List Oper} {o : Oper} {a : Act} {Q : Exit → Act → World → Prop} (hgd : o.guard = none) (s x : Operand) (t : TypeId)
    (ho : o.op = .call { callee := .builtin .append, args := #[s, x], argTypes := #[t, t] }) (e : TypeId) (i : TypeInfo) (z : Value) (bytes : Nat) (ht : P.underlying t = some (.slice e)) (hi : P.info? e = some i) (hz : i.zero = some z) (hs : i.size = 1) (hby : i.bytes = bytes) {z0 : Value} (hz1 : z.cells = #[z0])
    {E : Value → Prop} (hE0 : E z0) (hE1 : ∀ u, E u → u.oneCell' = true) {v : Value} {xs : List Value} (hv : a.eval s = v) (h : Own w e E v xs) (ad : Addr) (m c : Nat) (news : List Value) (hx : a.eval x = .slice (some ad) m c) (hm : news.length = m) (hm0 : 0 < m)
    (hnews : ∀ j u, news[j]? = some u → w.cell? (ad.add j) = some u) (hEn : ∀ u ∈ news, E u) (hb : (xs.length + m) * bytes ≤ 140737488355328) (h63 : xs.length + m ≤ maxLen)
    (hk : ∀ v' w', Own w' e E v' (xs ++ news) → Wrote w v w' v' → wpList P ops Q rest (a.put o.dst v') w') : wpList P ops Q (o :: rest) a w :=
  wpList_plain hgd fun _ hK => by
    obtain ⟨v', w', hr, h2, h3⟩ := own_append (P := P) t o.type e i z bytes ht hi hz hs hby hz1 hE0 hE1 h ad m c news hm hm0 hnews hEn hb h63
    unfold Oper.wp execOp
    simp only [ho, resolve, invoke, builtin, Sem.run_bind, Sem.run_pure, Result.andThen_ok, List.map_toArray, List.map_cons, List.map_nil, hv, hx, hr]
    exact hK _ _ (hk v' w' h2 h3)
end Go.Proofs.YtmklkjjnkejakaaDoor

/- Contracts of package digits: group. -/
namespace Go.Proofs.YtmklkjjnkejakaaDoor
open Go.RowKit

/-- Bytes as cells. -/
def bvals (l : List UInt8) : List Value := l.map fun b => Value.int .u8 ((b.toNat : Nat) : Int)
theorem bvals_length (l : List UInt8) : (bvals l).length = l.length := by simp [bvals]

theorem bvals_one (l : List UInt8) : ∀ v ∈ bvals l, v.oneCell' = true := by
  intro v hv
  unfold bvals at hv
  obtain ⟨b, _, rfl⟩ := List.mem_map.1 hv
  rfl
theorem results_cell_mid {P : Program} {fn : Func} {p : Tmp} {ty : TypeId} (h : fn.results = #[.cell p ty]) (tmps : Array Value) (w : World) (g o : Nat) (cs : List Value) (d : TypeDesc)
    (hp : tmps.getD p undef = .pointer (some ⟨g, o, none⟩)) (hg : w.rangeAt g o cs)
    (hu : P.underlying ty = some d) (hd : d.isRow = true) (hi : (P.info? ty).map (·.size) = some cs.length) :
    (results fn tmps).run P w = .ok (.agg cs.toArray) w := by
  have hp' : tmps[p]?.getD undef = .pointer (some ⟨g, o, none⟩) := by simpa using hp
  simp [results, h, hp', asAddr, run_loadVar_mid w g o ty cs d hg hu hd hi]
theorem Grow.setCells {a : World} {p : Nat} (hp : a.heap.size ≤ p) : ∀ (vs : List Value) (o : Nat) (w : World), Grow a w → Grow a (w.setCells p o vs)
  | [], _, _, h => h
  | v :: r, o, w, h => by rw [World.setCells]; exact Grow.setCells hp r _ _ (h.setCell hp v)
theorem dgt_set (x k : Nat) (r : List UInt8) : (List.replicate (k + 1) 0 ++ r).set k (UInt8.ofNat (48 + x % 10)) = List.replicate k 0 ++ UInt8.ofNat (48 + x % 10) :: r := by
  rw [List.replicate_succ', List.append_assoc, List.set_append_right _ _ (by simp)]
  simp
/-- How the digits come, the last one first. -/
theorem dgt_step (n j : Nat) : UInt8.ofNat (48 + n / 10 ^ j % 10) :: Tx.dgt j n = Tx.dgt (j + 1) n := by
  rw [Nat.add_comm j 1, Tx.dgt_add]
  rfl

end Go.Proofs.YtmklkjjnkejakaaDoor

/- Contracts of package digits: write. The text grows in a block of its own, whose cells are bytes. -/
namespace Go.Proofs.YtmklkjjnkejakaaDoor
open Go.RowKit
set_option maxRecDepth 20000

/-- A byte. -/
def isB (u : Value) : Prop := ∃ x, u = .int .u8 x
/-- A slice. -/
def isS (u : Value) : Prop := ∃ A n c, u = .slice A n c
theorem isB_u64 (x : Int) : ¬ isB (.int .u64 x) := by rintro ⟨y, h⟩; cases h
theorem isB_slice (A : Option Addr) (n c : Nat) : ¬ isB (.slice A n c) := by rintro ⟨y, h⟩; cases h
theorem isS_u64 (x : Int) : ¬ isS (.int .u64 x) := by rintro ⟨A, n, c, h⟩; cases h
/-- The text as far as it is written. -/
abbrev Tex (w : World) (v : Value) (l : List UInt8) : Prop := Own w 5 isB v (bvals l)
theorem cells_wrote {E : Value → Prop} {e : TypeId} {w w' : World} {v v' : Value} {xs : List Value} {A : Option Addr} {l : List Nat} (h : Cells w A l) (k : Wrote w v w' v') (ho : Own w e E v xs) (hE : ∀ x, ¬ E (.int .u64 x)) : Cells w' A l := fun hn => by
  obtain ⟨b, o, rfl, hb, hc⟩ := h hn
  exact ⟨b, o, rfl, Nat.lt_of_lt_of_le hb k.size, fun j x hx => k.cell ho (hc j x hx) (hE _)⟩
theorem IsNat.wrote {E : Value → Prop} {e : TypeId} {w w' : World} {v v' u : Value} {xs : List Value} {n : Nat} (h : IsNat w u n) (k : Wrote w v w' v') (ho : Own w e E v xs) (hE : ∀ x, ¬ E (.int .u64 x)) : IsNat w' u n := by
  obtain ⟨A, c, e1, hc, hl⟩ := h
  exact ⟨A, c, e1, hc, cells_wrote hl k ho hE⟩
theorem IsN.wrote {E : Value → Prop} {e : TypeId} {w w' : World} {v v' u : Value} {xs : List Value} {n b : Nat} (h : IsN w u n b) (k : Wrote w v w' v') (ho : Own w e E v xs) (hE : ∀ x, ¬ E (.int .u64 x)) : IsN w' u n b := ⟨h.1.wrote k ho hE, h.2⟩

/-- The number at which the j-th cut is made. -/
def cutAt (j : Nat) : Nat := 10 ^ (19 * 2 ^ j)
theorem cutAt_pos (j : Nat) : 0 < cutAt j := Nat.pow_pos (by decide)
theorem cutAt_sq (j : Nat) : cutAt (j + 1) = cutAt j * cutAt j := by
  unfold cutAt
  rw [← Nat.pow_add]
  congr 1
  rw [Nat.pow_succ]
  omega
/-- The first k cuts, as a list's elements. -/
def Cuts (w : World) (v : Value) (k b : Nat) : Prop := ∃ A c, v = .slice A k c ∧ k ≤ c ∧ (k ≠ 0 → ∃ g o, A = some ⟨g, o, none⟩ ∧ ∀ j, j < k → ∃ A' l' c', w.cell? ⟨g, o + j, none⟩ = some (.slice A' l' c') ∧ IsN w (.agg #[.slice A' l' c']) (cutAt j) b)
theorem Cuts.grow {w w' : World} {v : Value} {k b : Nat} (h : Cuts w v k b) (g : Grow w w') : Cuts w' v k b := by
  obtain ⟨A, c, e, hc, h⟩ := h
  refine ⟨A, c, e, hc, fun hk => ?_⟩
  obtain ⟨g', o, e', h⟩ := h hk
  refine ⟨g', o, e', fun j hj => ?_⟩
  obtain ⟨A', l', c', h1, h2⟩ := h j hj
  exact ⟨A', l', c', g.cells1 h1, h2.grow g⟩
theorem Cuts.wrote {w w' : World} {v v' u : Value} {xs : List Value} {k b : Nat} (h : Cuts w u k b) (g : Wrote w v w' v') (ho : Own w 5 isB v xs) : Cuts w' u k b := by
  obtain ⟨A, c, e, hc, h⟩ := h
  refine ⟨A, c, e, hc, fun hk => ?_⟩
  obtain ⟨g', o, e', h⟩ := h hk
  refine ⟨g', o, e', fun j hj => ?_⟩
  obtain ⟨A', l', c', h1, h2⟩ := h j hj
  exact ⟨A', l', c', g.cell ho h1 (isB_slice _ _ _), h2.wrote g ho isB_u64⟩
/-- All but the last. -/
theorem Cuts.init {w : World} {A : Option Addr} {k c b : Nat} (h : Cuts w (.slice A (k + 1) c) (k + 1) b) : Cuts w (.slice A k c) k b := by
  obtain ⟨A, c, e, hc, h⟩ := h
  injection e with e1 e2 e3
  subst e1 e3
  refine ⟨_, _, rfl, by omega, fun _ => ?_⟩
  obtain ⟨g', o, e', h⟩ := h (by omega)
  exact ⟨g', o, e', fun j hj => h j (by omega)⟩

namespace Rg
section
variable {ops : Array Oper} {Q : Exit → Act → World → Prop} {F : Facts} {a0 : Act} {w0 : World}
end
end Rg

/-- What each operation yields. -/
def writeF (n m q s b g o k c : Nat) : Rg.Facts := fun d w v =>
  match d with
  | 24 => IsN w v n b
  | 25 => v = .slice (some ⟨g, o, none⟩) (k + 1) c
  | 26 => v = .int .i64 (k : Int)
  | 27 => v = .pointer (some ⟨g, o + k, none⟩)
  | 28 => IsN w v m b
  | 29 => IsQR w v q s b b
  | 23 => IsQR w v q s b b
  | 30 => IsN w v q b
  | 31 => IsN w v s b
  | 32 => v = .int .i64 0
  | 11 => v = .int .i64 0
  | _ => True

end Go.Proofs.YtmklkjjnkejakaaDoor

/- The contract of digits.write. -/
namespace Go.Proofs.YtmklkjjnkejakaaDoor
open Go.RowKit
set_option maxRecDepth 20000

theorem addr_add (b o j : Nat) : (Addr.mk b o none).add j = ⟨b, o + j, none⟩ := by unfold Addr.add; split <;> simp_all
theorem infoB : (Tryd.prog.info? 5).map (fun i => (i.zero, i.size, i.bytes)) = some (some (.int .u8 0), 1, 1) := by kernel_rfl
theorem bvals_append (l r : List UInt8) : bvals (l ++ r) = bvals l ++ bvals r := by simp [bvals]
theorem bvals_isB (l : List UInt8) : ∀ u ∈ bvals l, isB u := by
  intro u hu
  unfold bvals at hu
  obtain ⟨b, _, rfl⟩ := List.mem_map.1 hu
  exact ⟨_, rfl⟩
/-- What write leaves. -/
def WroteText (w : World) (v : Value) (l : List UInt8) (e : Ending) (w' : World) : Prop := ∃ v', e = .returned v' ∧ Tex w' v' l ∧ Wrote w v w' v'

end Go.Proofs.YtmklkjjnkejakaaDoor

/- The contract of digits.write: all of it. -/
namespace Go.Proofs.YtmklkjjnkejakaaDoor
open Go.RowKit
set_option maxRecDepth 20000

/-- What the cut behind write's division keeps. -/
def WriteC (w : World) (q s b : Nat) (v9 v10 : Value) (W : World) : Prop := ∃ i j, v9 = .pointer (some ⟨i, 0, none⟩) ∧ v10 = .pointer (some ⟨j, 0, none⟩) ∧ VarN W i q b ∧ VarN W j s b ∧ Grow w W
theorem dgt_cut (k n : Nat) : Tx.dgt (19 * 2 ^ k) (n / cutAt k) ++ Tx.dgt (19 * 2 ^ k) (n % cutAt k) = Tx.dgt (19 * 2 ^ (k + 1)) n := by
  unfold cutAt
  rw [Tx.dgt_mod, ← Tx.dgt_add]
  congr 1
  rw [Nat.pow_succ]
  omega
theorem cut_high {k n : Nat} (h : n < cutAt (k + 1)) : n / cutAt k < cutAt k := by
  rw [cutAt_sq] at h
  exact Nat.div_lt_of_lt_mul h

end Go.Proofs.YtmklkjjnkejakaaDoor

/- The contract of digits.cuts. -/
namespace Go.Proofs.YtmklkjjnkejakaaDoor
open Go.RowKit
set_option maxRecDepth 20000

theorem cutAt_zero : cutAt 0 = 10000000000000000000 := by decide
theorem cutAt_ne (j : Nat) : cutAt j ≠ 0 := Nat.pos_iff_ne_zero.1 (cutAt_pos j)
theorem cutAt_big (j : Nat) : 2 ≤ Mx.bits (cutAt j) := by
  have h : cutAt 0 ≤ cutAt j := Nat.pow_le_pow_right (by decide) (Nat.mul_le_mul_left _ (Nat.pow_le_pow_right (by decide) (Nat.zero_le j)))
  have h2 := Mx.bits_mono h
  have h3 : Mx.bits (cutAt 0) = 63 + 1 := by
    rw [cutAt_zero]
    exact Mx.bits_unique (by decide) (by decide)
  omega
theorem bits_sq (j : Nat) : Mx.bits (cutAt (j + 1)) = 2 * Mx.bits (cutAt j) ∨ Mx.bits (cutAt (j + 1)) = 2 * Mx.bits (cutAt j) - 1 := by
  rw [cutAt_sq]
  have := Mx.bits_mul (cutAt_ne j) (cutAt_ne j)
  omega
/-- Where the cuts end: the next one would be above n. -/
theorem cut_above {n j : Nat} (h : Mx.bits n < 2 * Mx.bits (cutAt j) - 1) : n < cutAt (j + 1) := by
  have h1 := bits_sq j
  have h2 := Mx.bits_lt n
  have h3 := Mx.bits_le (cutAt_ne (j + 1))
  refine Nat.lt_of_lt_of_le h2 (Nat.le_trans (Nat.pow_le_pow_right (by decide) ?_) h3)
  omega
theorem len_of_bits {n k : Nat} (h : Mx.bits n ≤ 64 * k) : Mx.len n ≤ k := by
  rcases Nat.eq_zero_or_pos n with rfl | hn
  · exact Nat.zero_le _
  · have h1 := Mx.bits_limbs (Nat.pos_iff_ne_zero.1 hn)
    have h2 := Mx.bits_pos h1.2
    omega
/-- The cells of the cuts' list. -/
def CutCells (w : World) (xs : List Value) (b : Nat) : Prop := ∀ j u, xs[j]? = some u → ∃ A l c, u = .slice A l c ∧ IsN w (.agg #[.slice A l c]) (cutAt j) b
theorem CutCells.grow {w w' : World} {xs : List Value} {b : Nat} (h : CutCells w xs b) (g : Grow w w') : CutCells w' xs b := fun j u hj => by
  obtain ⟨A, l, c, e, h1⟩ := h j u hj
  exact ⟨A, l, c, e, h1.grow g⟩
theorem CutCells.store {w : World} {xs : List Value} {b : Nat} (h : CutCells w xs b) {p : Addr} {A' : Option Addr} {k c : Nat} (hp : w.cell? p = some (.slice A' k c)) (u : Value) : CutCells (w.setCell p u) xs b := fun j u' hj => by
  obtain ⟨A, l, c, e, h1⟩ := h j u' hj
  exact ⟨A, l, c, e, h1.store hp u⟩
theorem Own.store_far {w : World} {e : TypeId} {E : Value → Prop} {v : Value} {xs : List Value} (h : Own w e E v xs) {p : Addr} (hp : v.ownBlock ≠ some p.block) (u : Value) : Own (w.setCell p u) e E v xs := by
  rcases h with h | ⟨g, cap, r, h1, h2, h3⟩
  · exact .inl h
  · refine .inr ⟨g, cap, r, h1, (Below.heap_setCell w p u g (fun e => hp (by rw [h1, ← e]; rfl))).trans h2, h3⟩
theorem VarN.store_far {w : World} {k n b : Nat} (h : VarN w k n b) {p : Nat} {A' : Option Addr} {l' c' : Nat} (hp : w.cell? ⟨p, 0, none⟩ = some (.slice A' l' c')) (hne : k ≠ p) (u : Value) : VarN (w.setCell ⟨p, 0, none⟩ u) k n b := by
  obtain ⟨A, l, c, h1, h2⟩ := h
  exact ⟨A, l, c, by rw [World.cell?_setCell_other _ _ _ _ (by intro e; injection e with e; exact hne e.symm)]; exact h1, h2.store hp u⟩
theorem bits_cut (j : Nat) : 3 * (19 * 2 ^ j) < Mx.bits (cutAt j) := by
  have h1 : 2 ^ (3 * (19 * 2 ^ j)) ≤ cutAt j := by
    unfold cutAt
    rw [Nat.pow_mul]
    exact Nat.pow_le_pow_left (by decide) _
  exact (Nat.pow_lt_pow_iff_right (by decide)).1 (Nat.lt_of_le_of_lt h1 (Mx.bits_lt _))


end Go.Proofs.YtmklkjjnkejakaaDoor

/- strings.TrimLeft at a nought; the contracts of digits.Print and digits.Length. -/
namespace Go.Proofs.YtmklkjjnkejakaaDoor
open Go.RowKit
set_option maxRecDepth 20000

/-- The string of a list's bytes. -/
abbrev str (l : List UInt8) : ByteArray := ⟨l.toArray⟩
theorem bytesOf_str (l : List UInt8) : bytesOf (str l) = l := rfl


/-- What is left of the digits without the noughts ahead; then the text. -/
theorem trim_text {k n : Nat} (h : n < 10 ^ k) (r : List UInt8) (hr : (Tx.dgt k n).dropWhile (· == 48) = r) : (r = [] ∧ Tx.text n = [48]) ∨ (r ≠ [] ∧ Tx.text n = r) := by
  by_cases h0 : n = 0
  · subst h0
    rw [Tx.trim_zero] at hr
    exact .inl ⟨hr.symm, Tx.text_zero⟩
  · rw [Tx.trim_dgt h h0] at hr
    subst hr
    exact .inr ⟨Tx.text_ne_nil n, rfl⟩
theorem str_empty {r : List UInt8} : (str r).toList.isEmpty = r.isEmpty := by rw [Lib.toList_data]

/-- The text as TrimLeft leaves it. -/
def Trimmed (n : Nat) (v : Value) : Prop := ∃ r, v = .string (str r) ∧ ((r = [] ∧ Tx.text n = [48]) ∨ (r ≠ [] ∧ Tx.text n = r))
/-- What each operation yields. -/
def printF (n b : Nat) : Rg.Facts := fun d w v =>
  match d with
  | 4 => IsN w v n b
  | 5 => IsN w v n b
  | 6 => ∃ k, Cuts w v k (b + 1) ∧ n < cutAt k ∧ 19 * 2 ^ k ≤ 64 * b + 64
  | 7 => ∃ k, Tex w v (Tx.dgt (19 * 2 ^ k) n) ∧ n < cutAt k
  | 8 => ∃ k, v = .string (str (Tx.dgt (19 * 2 ^ k) n)) ∧ n < cutAt k
  | 9 => Trimmed n v
  | 3 => Trimmed n v
  | _ => True


end Go.Proofs.YtmklkjjnkejakaaDoor

/- The contracts of digits.Length and digits.Parse. -/
namespace Go.Proofs.YtmklkjjnkejakaaDoor
open Go.RowKit
set_option maxRecDepth 20000

theorem str_size (l : List UInt8) : (str l).size = l.length := Lib.size_mk l

theorem slice_string (w : World) (s : ByteArray) (i k : Nat) (h : i + k ≤ s.size) : (Instr.slice 9 (.string s) (some (.int .i64 (i : Int))) (some (.int .i64 ((i : Int) + (k : Int)))) none).run Tryd.prog w = .ok (.string (s.extract i (i + k))) w := by
  have h1 := run_slice_string_if (P := Tryd.prog) (w := w) 9 s .i64 .i64 (i : Int) ((i : Int) + (k : Int)) Tryd.underlying9
  rw [if_pos (by omega), if_pos (by omega)] at h1
  rw [h1]
  rfl
/-- What each operation yields. -/
def parseF (n d b at' : Nat) (s p : ByteArray) : Rg.Facts := fun k w v =>
  match k with
  | 33 => IsN w v n b
  | 34 => Sl w v [10000000000000000000]
  | 35 => IsN w v (Mx.val [10000000000000000000]) 1
  | 36 => IsN w v (n * Mx.val [10000000000000000000]) (b + 1)
  | 37 => v = .string s
  | 38 => v = .int .i64 (at' : Int)
  | 39 => v = .int .i64 (at' : Int)
  | 40 => v = .int .i64 ((at' : Int) + 19)
  | 41 => v = .string p
  | 42 => v = .int .u64 (d : Int)
  | 43 => Sl w v [d]
  | 44 => IsN w v (Mx.val [d]) 1
  | 45 => IsN w v (n * Mx.val [10000000000000000000] + Mx.val [d]) (max (b + 1) 1 + 1)
  | _ => True


/-- What Parse answers. -/
def Parsed (s : ByteArray) (v : Value) (w' : World) : Prop := ∃ u, v = .tuple #[u, .int .i64 0] ∧ IsN w' u (Tx.rd (bytesOf s)) s.size
theorem rd_len (l : List UInt8) (h : ∀ b ∈ l, Tx.isDig b) : Mx.len (Tx.rd l) ≤ l.length := by
  refine len_of_bits (Mx.bits_le_of_lt (Nat.lt_of_lt_of_le (Tx.rd_lt l h) ?_))
  rw [Nat.pow_mul]
  exact Nat.pow_le_pow_left (by decide) _


theorem extract_bytes (s : ByteArray) (i j : Nat) : bytesOf (s.extract i j) = ((bytesOf s).drop i).take (j - i) := by rw [Lib.extract_eq]
theorem take_more (l : List UInt8) (i k : Nat) : l.take (i + k) = l.take i ++ (l.drop i).take k := List.take_add

end Go.Proofs.YtmklkjjnkejakaaDoor

/- The contracts of digits.power, digits.Pow and digits.Ten. -/
namespace Go.Proofs.YtmklkjjnkejakaaDoor
open Go.RowKit
set_option maxRecDepth 20000

theorem pow_bits (n k : Nat) : Mx.bits (n ^ k) ≤ Mx.bits n * k + 1 := by
  refine Mx.bits_le_of_lt ?_
  have h1 : n ^ k ≤ (2 ^ Mx.bits n) ^ k := Nat.pow_le_pow_left (Nat.le_of_lt (Mx.bits_lt n)) k
  rw [← Nat.pow_mul] at h1
  rw [Nat.pow_succ]
  have : 0 < 2 ^ (Mx.bits n * k) := Nat.pow_pos (by decide)
  omega
theorem pow_len {n k : Nat} (h : Mx.bits n * k ≤ 262144) : Mx.len (n ^ k) ≤ 4097 := len_of_bits (by have := pow_bits n k; omega)
theorem IsN.re {w : World} {v : Value} {n k j : Nat} (h : IsN w v n k) (hj : Mx.len n ≤ j) : IsN w v n j := ⟨h.1, hj⟩
theorem pow_even {n k : Nat} (h : k % 2 = 0) : n ^ (k / 2) * n ^ (k / 2) = n ^ k := by rw [← Nat.pow_add]; congr 1; omega
theorem pow_odd {n k : Nat} (h : ¬ k % 2 = 0) : n ^ (k / 2) * n ^ (k / 2) * n = n ^ k := by
  rw [← Nat.pow_add, ← Nat.pow_succ]; congr 1; omega


theorem power_ten (t : Nat) (ht : t ≤ 4096) : Mx.bits 10 * t ≤ 262144 := by
  have e : Mx.bits 10 = 3 + 1 := Mx.bits_unique (by decide) (by decide)
  rw [e]
  omega

/-- A number and an error's number. -/
def IsNE (w : World) (v : Value) (n b : Nat) (e : Int) : Prop := ∃ u, v = .tuple #[u, .int .i64 e] ∧ IsN w u n b
theorem IsNE.grow {w w' : World} {v : Value} {n b : Nat} {e : Int} (h : IsNE w v n b e) (g : Grow w w') : IsNE w' v n b e := by
  obtain ⟨u, h1, h2⟩ := h
  exact ⟨u, h1, h2.grow g⟩
/-- What Ten answers. -/
def tenE (t : Int) : Int := if t < 0 then 2 else if 4096 < t then 6 else 0
def tenN (t : Int) : Nat := if 0 ≤ t ∧ t ≤ 4096 then 10 ^ t.toNat else 0

end Go.Proofs.YtmklkjjnkejakaaDoor

/- The contract of digits.Pow. -/
namespace Go.Proofs.YtmklkjjnkejakaaDoor
open Go.RowKit
set_option maxRecDepth 20000

/-- What Pow answers. -/
def powE (n : Nat) (t : Int) : Int := if t < 0 then 2 else if 1200 < t ∨ 262144 < (Mx.bits n : Int) * t then 6 else 0
def powN (n : Nat) (t : Int) : Nat := if powE n t = 0 then n ^ t.toNat else 0
theorem powE_neg {n : Nat} {t : Int} (h : t < 0) : powE n t = 2 ∧ powN n t = 0 := by
  have e : powE n t = 2 := by unfold powE; rw [if_pos h]
  exact ⟨e, by unfold powN; rw [e, if_neg (by omega)]⟩
theorem powE_many {n : Nat} {t : Int} (h : ¬ t < 0) (h1 : 1200 < t ∨ 262144 < (Mx.bits n : Int) * t) : powE n t = 6 ∧ powN n t = 0 := by
  have e : powE n t = 6 := by unfold powE; rw [if_neg h, if_pos h1]
  exact ⟨e, by unfold powN; rw [e, if_neg (by omega)]⟩
theorem powE_ok {n k : Nat} (h1 : ¬ (1200 : Int) < (k : Int)) (h2 : ¬ 262144 < (Mx.bits n : Int) * (k : Int)) : powE n (k : Int) = 0 ∧ powN n (k : Int) = n ^ k := by
  have e : powE n (k : Int) = 0 := by unfold powE; rw [if_neg (by omega), if_neg (by rintro (h | h) <;> contradiction)]
  exact ⟨e, by unfold powN; rw [e, if_pos rfl]; rfl⟩

end Go.Proofs.YtmklkjjnkejakaaDoor

/- More steps of a region whose order is open: tests of errors' numbers and of texts; the calls of digits. -/
namespace Go.Proofs.YtmklkjjnkejakaaDoor.Rg
open Go.RowKit

section
variable {ops : Array Oper} {Q : Exit → Act → World → Prop} {F : Facts} {a0 : Act} {w0 : World}
theorem notB {i d x : Nat} {b c : Bool} (dx : depI ops i x = true) (hx : ∀ w v, F x w v → v = .bool b) (hb : (!b) = c) (hF : ∀ w v, v = .bool c → F d w v) :
    Owes Tryd.prog ops Q F a0 w0 i (some d) (.unOp .not 4 (.tmp x)) :=
  fun o a w ho hd hg ha D => valOf (v := .bool c) (w' := w) (by
    have e : a.tmps.getD x undef = .bool b := hx _ _ (D x dx)
    subst hb
    simp only [Array.getD_eq_getD_getElem?] at e
    simp [execOp, ho, go_sem, Act.eval, e]) hd (hF _ _ rfl) (Grow.refl w)
theorem neqI {i d x : Nat} {m c : Int} {b : Bool} (dx : depI ops i x = true) (hx : ∀ w v, F x w v → v = .int .i64 m) (hb : (m != c) = b) (hF : ∀ w v, v = .bool b → F d w v) :
    Owes Tryd.prog ops Q F a0 w0 i (some d) (.binOp .neq 3 (.tmp x) (.const (.int .i64 c)) 3) :=
  fun o a w ho hd hg ha D => valOf (v := .bool b) (w' := w) (by
    have e : a.tmps.getD x undef = .int .i64 m := hx _ _ (D x dx)
    subst hb
    simp only [Array.getD_eq_getD_getElem?] at e
    simp [execOp, ho, go_sem, Act.eval, e]) hd (hF _ _ rfl) (Grow.refl w)
theorem neqII {i d x y : Nat} {m c : Int} {b : Bool} (dx : depI ops i x = true) (dy : depI ops i y = true) (hx : ∀ w v, F x w v → v = .int .i64 m) (hy : ∀ w v, F y w v → v = .int .i64 c) (hb : (m != c) = b) (hF : ∀ w v, v = .bool b → F d w v) :
    Owes Tryd.prog ops Q F a0 w0 i (some d) (.binOp .neq 3 (.tmp x) (.tmp y) 3) :=
  fun o a w ho hd hg ha D => valOf (v := .bool b) (w' := w) (by
    have e : a.tmps.getD x undef = .int .i64 m := hx _ _ (D x dx)
    have e2 : a.tmps.getD y undef = .int .i64 c := hy _ _ (D y dy)
    subst hb
    simp only [Array.getD_eq_getD_getElem?] at e e2
    simp [execOp, ho, go_sem, Act.eval, e, e2]) hd (hF _ _ rfl) (Grow.refl w)
theorem neqE {i d x : Nat} {m c : Int} {b : Bool} (dx : depI ops i x = true) (hx : ∀ w v, F x w v → v = .int .i64 m) (hb : (m != c) = b) (hF : ∀ w v, v = .bool b → F d w v) :
    Owes Tryd.prog ops Q F a0 w0 i (some d) (.binOp .neq 28 (.tmp x) (.const (.int .i64 c)) 28) :=
  fun o a w ho hd hg ha D => valOf (v := .bool b) (w' := w) (by
    have e : a.tmps.getD x undef = .int .i64 m := hx _ _ (D x dx)
    subst hb
    simp only [Array.getD_eq_getD_getElem?] at e
    simp [execOp, ho, go_sem, Act.eval, e]) hd (hF _ _ rfl) (Grow.refl w)
theorem subII {i d x y : Nat} {m c r : Int} (dx : depI ops i x = true) (dy : depI ops i y = true) (hx : ∀ w v, F x w v → v = .int .i64 m) (hy : ∀ w v, F y w v → v = .int .i64 c) (hr : IntKind.i64.wrap (m - c) = r) (hF : ∀ w v, v = .int .i64 r → F d w v) :
    Owes Tryd.prog ops Q F a0 w0 i (some d) (.binOp .sub 3 (.tmp x) (.tmp y) 3) :=
  fun o a w ho hd hg ha D => valOf (v := .int .i64 r) (w' := w) (by
    have e : a.tmps.getD x undef = .int .i64 m := hx _ _ (D x dx)
    have e2 : a.tmps.getD y undef = .int .i64 c := hy _ _ (D y dy)
    simp only [Array.getD_eq_getD_getElem?] at e e2
    simp [execOp, ho, go_sem, Act.eval, e, e2, hr]) hd (hF _ _ rfl) (Grow.refl w)
theorem str_beq (l r : List UInt8) : ((str l).toList == (str r).toList) = (l == r) := by rw [Lib.toList_data, Lib.toList_data]
theorem eqlStr {i d x : Nat} {l r : List UInt8} {b : Bool} (dx : depI ops i x = true) (hx : ∀ w v, F x w v → v = .string (str l)) (hb : (l == r) = b) (hF : ∀ w v, v = .bool b → F d w v) :
    Owes Tryd.prog ops Q F a0 w0 i (some d) (.binOp .eql 9 (.tmp x) (.const (.string (str r))) 9) :=
  fun o a w ho hd hg ha D => valOf (v := .bool b) (w' := w) (by
    have e : a.tmps.getD x undef = .string (str l) := hx _ _ (D x dx)
    have h := str_beq l r
    rw [hb] at h
    clear hb
    generalize str l = s at *
    generalize str r = t at *
    simp only [Array.getD_eq_getD_getElem?] at e
    simp [execOp, ho, go_sem, Act.eval, e, h]) hd (hF _ _ rfl) (Grow.refl w)
theorem eqlStrII {i d x y : Nat} {l r : List UInt8} {b : Bool} (dx : depI ops i x = true) (dy : depI ops i y = true) (hx : ∀ w v, F x w v → v = .string (str l)) (hy : ∀ w v, F y w v → v = .string (str r)) (hb : (l == r) = b) (hF : ∀ w v, v = .bool b → F d w v) :
    Owes Tryd.prog ops Q F a0 w0 i (some d) (.binOp .eql 9 (.tmp x) (.tmp y) 9) :=
  fun o a w ho hd hg ha D => valOf (v := .bool b) (w' := w) (by
    have e : a.tmps.getD x undef = .string (str l) := hx _ _ (D x dx)
    have e2 : a.tmps.getD y undef = .string (str r) := hy _ _ (D y dy)
    have h := str_beq l r
    rw [hb] at h
    clear hb
    generalize str l = s at *
    generalize str r = t at *
    simp only [Array.getD_eq_getD_getElem?] at e e2
    simp [execOp, ho, go_sem, Act.eval, e, e2, h]) hd (hF _ _ rfl) (Grow.refl w)
end
end Go.Proofs.YtmklkjjnkejakaaDoor.Rg
