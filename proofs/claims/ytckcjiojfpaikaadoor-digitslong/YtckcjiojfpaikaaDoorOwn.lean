/- A slice that a call itself made and appends to: all its block's cells are of one make, the room behind it too. No program is named here. -/
import Derived.Test.YtckcjiojfpaikaaDoorMem
import Derived.Laws.AppendOwn
import Derived.OwnWalk
namespace Go.Proofs.YtckcjiojfpaikaaDoor
open Go.RowKit

/-- nil; or a slice over the beginning of a block, whose cells are all of the make E. -/
def Own (w : World) (e : TypeId) (E : Value → Prop) (v : Value) (xs : List Value) : Prop :=
  (v = .slice none 0 0 ∧ xs = []) ∨ ∃ g cap r, v = .slice (some ⟨g, 0, none⟩) xs.length cap ∧ w.heap[g]? = some (.cells (xs ++ r).toArray e (0, 0)) ∧ (xs ++ r).length = cap ∧ cap ≤ maxLen ∧ ∀ u ∈ xs ++ r, E u
theorem Own.nil (w : World) (e : TypeId) (E : Value → Prop) : Own w e E (.slice none 0 0) [] := .inl ⟨rfl, rfl⟩
/-- What a call leaves that appends to a slice of its caller's. -/
def Wrote (w : World) (v : Value) (w' : World) (v' : Value) : Prop := w.grownBy w' v.ownBlock ∧ (v'.ownBlock = v.ownBlock ∨ ∃ g, v'.ownBlock = some g ∧ w.heap.size ≤ g)
theorem Wrote.trans {w w1 w2 : World} {v v1 v2 : Value} (h : Wrote w v w1 v1) (k : Wrote w1 v1 w2 v2) : Wrote w v w2 v2 := by
  obtain ⟨h1, h2⟩ := h
  obtain ⟨k1, k2⟩ := k
  refine ⟨⟨k1.os.trans h1.os, k1.tape.trans h1.tape, k1.output.trans h1.output, Nat.le_trans h1.size k1.size, fun i hi hne => ?_⟩, ?_⟩
  · refine (k1.block i (Nat.lt_of_lt_of_le hi h1.size) fun e => ?_).trans (h1.block i hi hne)
    rcases h2 with h2 | ⟨g, h2, hg⟩
    · exact hne (e.trans h2)
    · rw [h2] at e
      injection e with e
      omega
  · rcases k2 with k2 | ⟨g, k2, hg⟩
    · rcases h2 with h2 | ⟨g, h2, hg⟩
      · exact .inl (k2.trans h2)
      · exact .inr ⟨g, k2.trans h2, hg⟩
    · exact .inr ⟨g, k2, Nat.le_trans h1.size hg⟩
theorem Wrote.of_grow {w w' : World} (v : Value) (h : Grow w w') : Wrote w v w' v := ⟨⟨h.os, h.tape, h.output, h.size, fun i hi _ => h.block i hi⟩, .inl rfl⟩
theorem Wrote.grow {w w' : World} {n c : Nat} {v' : Value} (h : Wrote w (.slice none n c) w' v') : Grow w w' := ⟨h.1.os, h.1.tape, h.1.output, h.1.size, fun i hi => h.1.block i hi (by simp [Value.ownBlock])⟩
theorem Wrote.pre {w w1 w2 : World} {v v2 : Value} (h : Grow w w1) (k : Wrote w1 v w2 v2) : Wrote w v w2 v2 := (Wrote.of_grow v h).trans k
theorem Wrote.size {w w' : World} {v v' : Value} (h : Wrote w v w' v') : w.heap.size ≤ w'.heap.size := h.1.size
/-- A cell that is of another make than the slice's is as it was. -/
theorem Wrote.cell {w w' : World} {e : TypeId} {E : Value → Prop} {v v' : Value} {xs : List Value} (h : Wrote w v w' v') (ho : Own w e E v xs) {p : Addr} {u : Value} (hp : w.cell? p = some u) (hu : ¬ E u) : w'.cell? p = some u := by
  have hlt := lt_of_cell' hp
  refine (World.cell?_of_block (h.1.block p.block hlt fun hb => ?_)).trans hp
  rcases ho with ⟨rfl, _⟩ | ⟨g, cap, r, rfl, hg, _, _, hE⟩
  · cases hb
  · simp only [Value.ownBlock, Option.some.injEq] at hb
    unfold World.cell? at hp
    rw [hb, hg] at hp
    simp only at hp
    refine hu (hE u ?_)
    split at hp
    · cases hp
    · simpa using Array.mem_of_getElem? hp
theorem Own.grow {w w' : World} {e : TypeId} {E : Value → Prop} {v : Value} {xs : List Value} (h : Own w e E v xs) (k : Grow w w') : Own w' e E v xs := by
  rcases h with h | ⟨g, cap, r, h1, h2, h3⟩
  · exact .inl h
  · exact .inr ⟨g, cap, r, h1, (k.block g (Array.getElem?_eq_some_iff.1 h2).1).trans h2, h3⟩
theorem Own.len {w : World} {e : TypeId} {E : Value → Prop} {v : Value} {xs : List Value} (h : Own w e E v xs) : ∃ A c, v = .slice A xs.length c ∧ xs.length ≤ c ∧ xs.length ≤ maxLen := by
  rcases h with ⟨h, rfl⟩ | ⟨g, cap, r, h1, h2, h3, h4, _⟩
  · exact ⟨_, _, h, Nat.zero_le _, Nat.zero_le _⟩
  · rw [List.length_append] at h3
    exact ⟨_, _, h1, by omega, by omega⟩
theorem Own.cells {w : World} {e : TypeId} {E : Value → Prop} {v : Value} {xs : List Value} (h : Own w e E v xs) (hn : xs ≠ []) : ∃ g c, v = .slice (some ⟨g, 0, none⟩) xs.length c ∧ xs.length ≤ c ∧ ∀ j u, xs[j]? = some u → w.cell? ⟨g, j, none⟩ = some u := by
  rcases h with ⟨_, rfl⟩ | ⟨g, cap, r, h1, h2, h3, h4, _⟩
  · exact absurd rfl hn
  · rw [List.length_append] at h3
    refine ⟨g, cap, h1, by omega, fun j u hj => ?_⟩
    rw [cell_of_row w g j _ _ _ h2]
    have := (List.getElem?_eq_some_iff.1 hj).1
    simp [List.getElem?_append_left this, hj]
theorem zero_mem {z u : Value} {n : Nat} (h : u ∈ (Builtin.zeroCells #[z] n).toList) : u = z := by
  simp [Builtin.zeroCells, Nat.mod_one] at h
  exact h.2.symm

theorem own_append {P : Program} {w : World} (t ty e : TypeId) (i : TypeInfo) (z : Value) (bytes : Nat) (ht : P.underlying t = some (.slice e)) (hi : P.info? e = some i) (hz : i.zero = some z) (hs : i.size = 1) (hby : i.bytes = bytes) {z0 : Value} (hz1 : z.cells = #[z0])
    {E : Value → Prop} (hE0 : E z0) (hE1 : ∀ u, E u → u.oneCell' = true) {v : Value} {xs : List Value} (h : Own w e E v xs) (a : Addr) (m c : Nat) (news : List Value) (hm : news.length = m) (hm0 : 0 < m)
    (hnews : ∀ j u, news[j]? = some u → w.cell? (a.add j) = some u) (hEn : ∀ u ∈ news, E u) (hb : (xs.length + m) * bytes ≤ 140737488355328) (h63 : xs.length + m ≤ maxLen) :
    ∃ v' w', (Builtin.append_ #[t, t] ty #[v, .slice (some a) m c]).run P w = .ok v' w' ∧ Own w' e E v' (xs ++ news) ∧ Wrote w v w' v' := by
  subst hby
  have h64 : xs.length + m ≤ 9223372036854775807 := by simp only [maxLen] at h63; omega
  rcases h with ⟨rfl, rfl⟩ | ⟨g, cap, r, rfl, hg, hcap, hmax, hE⟩
  · have hr := run_append_nil (P := P) w t ty e i z ht hi hz a m c news (by rw [hs, Nat.mul_one]; exact hm) hnews hm0 (by simp at h64; omega) (by simp at hb; omega)
    have hge := grownCap_ge w m 0 e
    refine ⟨_, _, hr, .inr ⟨w.heap.size, _, (Builtin.zeroCells z.cells (grownCap w m 0 e - m)).toList, by rw [List.nil_append, hm], ?_, ?_, grownCap_le_maxLen w m 0 e (by simpa using h63), ?_⟩, ⟨rfl, rfl, rfl, by simp, fun k hk _ => Go.heap_alloc_old w.drew _ hk⟩, .inr ⟨w.heap.size, rfl, Nat.le_refl _⟩⟩
    · refine (heap_alloc_new w.drew _).trans ?_
      simp
    · simp only [List.nil_append, List.length_append, Array.length_toList, size_zeroCells, hz1, hm, List.size_toArray, List.length_cons, List.length_nil]
      omega
    · intro u hu
      rw [List.nil_append] at hu
      rcases List.mem_append.1 hu with hu | hu
      · exact hEn u hu
      · rw [hz1] at hu
        rw [zero_mem hu]
        exact hE0
  · by_cases hroom : xs.length + m ≤ cap
    · have hr := run_append_room (P := P) w t ty e i ht hi g xs.length cap _ hg a m c news (by rw [hs, Nat.mul_one]; exact hm) hnews (fun u hu => hE1 u (hEn u hu)) hroom (by simp only [List.size_toArray, hcap, hs, Nat.mul_one, hm]; exact hroom)
      refine ⟨_, _, hr, .inr ⟨g, cap, r.drop m, by rw [List.length_append, hm], ?_, ?_, hmax, ?_⟩, ⟨rfl, rfl, rfl, by simp, fun k _ hk => setRow_other w g k _ (fun e => hk (by simp [Value.ownBlock, e]))⟩, .inl rfl⟩
      · rw [setRow_heap w g _ _ e _ hg, hs, Nat.mul_one, hm]
        simp [List.drop_append]
      · simp only [List.length_append, List.length_drop] at hcap ⊢
        omega
      · intro u hu
        rcases List.mem_append.1 hu with hu | hu
        · rcases List.mem_append.1 hu with hu | hu
          · exact hE u (List.mem_append_left _ hu)
          · exact hEn u hu
        · exact hE u (List.mem_append_right _ (List.mem_of_mem_drop hu))
    · have hr := run_append_grow (P := P) w t ty e i z ht hi hz ⟨g, 0, none⟩ xs.length cap xs (by rw [hs, Nat.mul_one]) (fun j u hj => by
        rw [Addr.add_lit, Nat.zero_add, cell_of_row w g j _ _ _ hg]
        have := (List.getElem?_eq_some_iff.1 hj).1
        simp [List.getElem?_append_left this, hj]) a m c news (by rw [hs, Nat.mul_one]; exact hm) hnews (by omega) (by omega) (growslice_fits (by omega) hb)
      have hge := grownCap_ge w (xs.length + m) cap e
      refine ⟨_, _, hr, .inr ⟨w.heap.size, _, (Builtin.zeroCells z.cells (grownCap w (xs.length + m) cap e - (xs.length + m))).toList, by rw [List.length_append, hm], ?_, ?_, grownCap_le_maxLen w _ cap e h63, ?_⟩, ⟨rfl, rfl, rfl, by simp, fun k hk _ => Go.heap_alloc_old w.drew _ hk⟩, .inr ⟨w.heap.size, rfl, Nat.le_refl _⟩⟩
      · refine (heap_alloc_new w.drew _).trans ?_
        simp
      · simp only [List.length_append, Array.length_toList, size_zeroCells, hz1, hm, List.size_toArray, List.length_cons, List.length_nil]
        omega
      · intro u hu
        rcases List.mem_append.1 hu with hu | hu
        · rcases List.mem_append.1 hu with hu | hu
          · exact hE u (List.mem_append_left _ hu)
          · exact hEn u hu
        · rw [hz1] at hu
          rw [zero_mem hu]
          exact hE0
theorem wpList_own_append {P : Program} {w : World} {ops : Array Oper} {rest : List Oper} {o : Oper} {a : Act} {Q : Exit → Act → World → Prop} (hgd : o.guard = none) (s x : Operand) (t : TypeId)
    (ho : o.op = .call { callee := .builtin .append, args := #[s, x], argTypes := #[t, t] }) (e : TypeId) (i : TypeInfo) (z : Value) (bytes : Nat) (ht : P.underlying t = some (.slice e)) (hi : P.info? e = some i) (hz : i.zero = some z) (hs : i.size = 1) (hby : i.bytes = bytes) {z0 : Value} (hz1 : z.cells = #[z0])
    {E : Value → Prop} (hE0 : E z0) (hE1 : ∀ u, E u → u.oneCell' = true) {v : Value} {xs : List Value} (hv : a.eval s = v) (h : Own w e E v xs) (ad : Addr) (m c : Nat) (news : List Value) (hx : a.eval x = .slice (some ad) m c) (hm : news.length = m) (hm0 : 0 < m)
    (hnews : ∀ j u, news[j]? = some u → w.cell? (ad.add j) = some u) (hEn : ∀ u ∈ news, E u) (hb : (xs.length + m) * bytes ≤ 140737488355328) (h63 : xs.length + m ≤ maxLen)
    (hk : ∀ v' w', Own w' e E v' (xs ++ news) → Wrote w v w' v' → wpList P ops Q rest (a.put o.dst v') w') : wpList P ops Q (o :: rest) a w :=
  wpList_plain hgd fun _ hK => by
    obtain ⟨v', w', hr, h2, h3⟩ := own_append (P := P) t o.type e i z bytes ht hi hz hs hby hz1 hE0 hE1 h ad m c news hm hm0 hnews hEn hb h63
    unfold Oper.wp execOp
    simp only [ho, resolve, invoke, builtin, Sem.run_bind, Sem.run_pure, Result.andThen_ok, List.map_toArray, List.map_cons, List.map_nil, hv, hx, hr]
    exact hK _ _ (hk v' w' h2 h3)
end Go.Proofs.YtckcjiojfpaikaaDoor
