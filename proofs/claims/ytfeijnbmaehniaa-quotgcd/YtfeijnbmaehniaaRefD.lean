/- The reference's Mul. -/
import Derived.Test.YtfeijnbmaehniaaRefC
import Derived.Test.YtfeijnbmaehniaaNatC
import Derived.IntWalk
namespace Go.Proofs.Ytfeijnbmaehniaa
open Go.RowKit

/-- A block of ints that is known whole. -/
def BlkD (w : World) (g : Nat) (l : List Nat) : Prop := w.heap[g]? = some (.cells (valsD l).toArray 3 (0, 0))
theorem BlkD.lt {w : World} {g : Nat} {l : List Nat} (h : BlkD w g l) : g < w.heap.size := lt_of_heap h
theorem BlkD.cell {w : World} {g : Nat} {l : List Nat} (h : BlkD w g l) {i : Nat} (hi : i < l.length) : w.cell? ⟨g, i, none⟩ = some (.int .i64 (l.getD i 0 : Nat)) := by
  rw [cell_of_row w g i _ _ _ h]
  simp [valsD_get, List.getElem?_eq_getElem hi]
theorem BlkD.frozen {w : World} {g : Nat} {l : List Nat} (h : BlkD w g l) (i : Nat) : w.frozen? ⟨g, i, none⟩ = false := by
  unfold BlkD at h
  simp [World.frozen?, h]
theorem BlkD.drewN {w : World} {g : Nat} {l : List Nat} (h : BlkD w g l) (n : Nat) : BlkD (w.drewN n) g l := h
theorem BlkD.set {w : World} {g : Nat} {l : List Nat} (h : BlkD w g l) (i x : Nat) : BlkD (w.setCell ⟨g, i, none⟩ (.int .i64 (x : Int))) g (l.set i x) := by
  unfold BlkD at h ⊢
  simp [World.setCell, Array.getElem?_modify, h, valsD, List.map_set]
theorem BlkD.ds {w : World} {g : Nat} {l : List Nat} (h : BlkD w g l) (hb : ∀ x ∈ l, x < Dx.B) : DS w (.slice (some ⟨g, 0, none⟩) l.length l.length) l :=
  ⟨_, _, rfl, Nat.le_refl _, hb, fun _ => ⟨g, 0, rfl, h.lt, fun j x hx => by
    rw [cell_of_row w g (0 + j) _ _ _ h]
    simp [valsD_get, hx]⟩⟩
theorem madeD (n : Nat) : (madeCells #[Value.int .i64 0] n) = (valsD (List.replicate n 0)).toArray := by
  apply Array.ext
  · simp [size_madeCells, valsD]
  · intro i h1 h2
    simp [madeCells, Nat.mod_one, valsD]
theorem BlkD.made (w : World) (n : Nat) : BlkD (w.alloc (.cells (madeCells #[.int .i64 0] n) 3)) w.heap.size (List.replicate n 0) := by
  unfold BlkD
  rw [← madeD]
  exact heap_alloc_new w _

theorem dmul_round (nl ml : List Nat) (i k : Nat) : (Dx.patch (Dx.mulList nl ml i ++ List.replicate (k + 1) 0) i (Dx.mulTo (((Dx.mulList nl ml i) ++ List.replicate (k + 1) 0).drop i) ml (nl.getD i 0) ml.length).1).set (i + ml.length) (Dx.mulTo (((Dx.mulList nl ml i) ++ List.replicate (k + 1) 0).drop i) ml (nl.getD i 0) ml.length).2
    = Dx.mulList nl ml (i + 1) ++ List.replicate k 0 := by
  have hq := Dx.mulList_length nl ml i
  have e := Dx.mulTo_drop (Dx.mulList nl ml i) (List.replicate (k + 1) 0) ml (nl.getD i 0) i (by omega)
  rw [e]
  have hstep : Dx.mulList nl ml (i + 1) = (Dx.mulList nl ml i).take i ++ (Dx.mulTo ((Dx.mulList nl ml i).drop i) ml (nl.getD i 0) ml.length).1 ++ [(Dx.mulTo ((Dx.mulList nl ml i).drop i) ml (nl.getD i 0) ml.length).2] := rfl
  have hr := Dx.mulTo_length ((Dx.mulList nl ml i).drop i) ml (nl.getD i 0) ml.length
  rw [hstep]
  generalize Dx.mulList nl ml i = Q at *
  generalize (Dx.mulTo (Q.drop i) ml (nl.getD i 0) ml.length).1 = r at *
  generalize (Dx.mulTo (Q.drop i) ml (nl.getD i 0) ml.length).2 = cr at *
  unfold Dx.patch
  have h1 : (Q ++ List.replicate (k + 1) 0).take i = Q.take i := by rw [List.take_append_of_le_length (by omega)]
  have h2 : (Q ++ List.replicate (k + 1) 0).drop (i + r.length) = List.replicate (k + 1) 0 := by
    rw [hr, ← hq, List.drop_left]
  rw [h1, h2]
  have h3 : (Q.take i ++ r).length = i + ml.length := by rw [List.length_append, List.length_take, hr]; omega
  rw [set_mid _ _ _ _ h3]

theorem set_self (l : List Nat) (j : Nat) (h : l.getD j 0 = 0) : l.set j 0 = l := by
  apply List.ext_getElem?
  intro i
  rw [List.getElem?_set]
  split
  · next e =>
    subst e
    split
    · next hl =>
      rw [List.getD_eq_getElem?_getD, List.getElem?_eq_getElem hl, Option.getD_some] at h
      rw [List.getElem?_eq_getElem hl, h]
    · next hl => rw [List.getElem?_eq_none (by omega)]
  · rfl

/-- The block behind the inner loop, however many rounds it took. -/
theorem inner_end (nl ml : List Nat) (i k t : Nat) (hk : i < nl.length) (ht : t = ml.length ∨ t = ml.length + 1)
    (hz : (Dx.mulTo (((Dx.mulList nl ml i) ++ List.replicate (nl.length + 1 - i) 0).drop i) ml (nl.getD i 0) t).2 = 0) (hn : ∀ x ∈ nl, x < Dx.B) (hm : ∀ x ∈ ml, x < Dx.B) (hkk : k = nl.length + 1 - (i + 1)) :
    Dx.patch ((Dx.mulList nl ml i) ++ List.replicate (nl.length + 1 - i) 0) i (Dx.mulTo (((Dx.mulList nl ml i) ++ List.replicate (nl.length + 1 - i) 0).drop i) ml (nl.getD i 0) t).1 = Dx.mulList nl ml (i + 1) ++ List.replicate k 0 := by
  have e0 : nl.length + 1 - i = k + 1 := by omega
  rw [e0] at hz ⊢
  have hq := Dx.mulList_length nl ml i
  have hr := Dx.mulTo_length (((Dx.mulList nl ml i) ++ List.replicate (k + 1) 0).drop i) ml (nl.getD i 0) ml.length
  have hround := dmul_round nl ml i k
  have hgd : ((Dx.mulList nl ml i) ++ List.replicate (k + 1) 0).getD (i + ml.length) 0 = 0 := by
    rw [List.getD_eq_getElem?_getD, List.getElem?_append_right (by omega), hq, Nat.sub_self]
    simp
  rcases ht with rfl | rfl
  · rw [hz] at hround
    rw [set_self] at hround
    · exact hround
    · have := Dx.patch_getD (L := (Dx.mulList nl ml i) ++ List.replicate (k + 1) 0) (o := i) (r := (Dx.mulTo (((Dx.mulList nl ml i) ++ List.replicate (k + 1) 0).drop i) ml (nl.getD i 0) ml.length).1) (by rw [hr, List.length_append, hq, List.length_replicate]; omega)
      rw [hr] at this
      rw [this, hgd]
  · have hcar := Dx.mulTo_carry (s := ((Dx.mulList nl ml i) ++ List.replicate (k + 1) 0).drop i) (l := ml) (x := nl.getD i 0) (fun y hy => by
      have := List.mem_of_mem_drop hy
      rcases List.mem_append.1 this with h | h
      · exact Dx.mulList_lt hn hm i y h
      · rw [(List.mem_replicate.1 h).2]; exact Dx.B_pos) hm (Dx.getD_lt nl hn i) ml.length
    have e1 : ml.getD ml.length 0 = 0 := by rw [List.getD_eq_getElem?_getD, List.getElem?_eq_none (Nat.le_refl _)]; rfl
    have e2 : (((Dx.mulList nl ml i) ++ List.replicate (k + 1) 0).drop i).getD ml.length 0 = 0 := by
      rw [List.getD_eq_getElem?_getD, List.getElem?_drop, ← List.getD_eq_getElem?_getD]
      exact hgd
    have hlast : (Dx.mulTo (((Dx.mulList nl ml i) ++ List.replicate (k + 1) 0).drop i) ml (nl.getD i 0) (ml.length + 1)).1 = (Dx.mulTo (((Dx.mulList nl ml i) ++ List.replicate (k + 1) 0).drop i) ml (nl.getD i 0) ml.length).1 ++ [(Dx.mulTo (((Dx.mulList nl ml i) ++ List.replicate (k + 1) 0).drop i) ml (nl.getD i 0) ml.length).2] := by
      show _ ++ [Dx.macLo _ _ _ _] = _
      rw [e1, e2]
      unfold Dx.macLo
      rw [Nat.mul_zero, Nat.zero_add, Nat.mod_eq_of_lt hcar]
    rw [hlast, ← Dx.patch_set (by rw [hr, List.length_append, hq, List.length_replicate]; omega), hr]
    exact hround

theorem mac_small {x y s c : Nat} (hx : x < 10000) (hy : y < 10000) (hs : s < 10000) (hc : c < 10000) : x * y ≤ 99980001 ∧ x * y + s + c ≤ 100000000 := by
  have h : x * y ≤ 9999 * 9999 := Nat.mul_le_mul (by omega) (by omega)
  omega

set_option maxHeartbeats 4000000 in
theorem refMul_any (w : World) (va vb : Value) (n m k j : Nat) (hk : k ≤ 4294967296) (hj : j ≤ 4294967296) (ha : IsD w va n k) (hb : IsD w vb m j) :
    Calls Try.prog 23 #[va, vb] w (Ret w fun v' w' => IsD w' v' (n * m) (k + j + 1)) := by
  obtain ⟨A, c, rfl, hc, hl, hkn⟩ := ha
  obtain ⟨D, d, rfl, hd, hr, hjm⟩ := hb
  have hmk : ∀ W, Sem.run Try.prog (Instr.makeSlice 30 (.int .i64 ((Dx.len n : Int) + (Dx.len m : Int) + 1)) (.int .i64 ((Dx.len n : Int) + (Dx.len m : Int) + 1))) W = .ok (.slice (some ⟨W.heap.size, 0, none⟩) (Dx.len n + Dx.len m + 1) (Dx.len n + Dx.len m + 1)) (W.alloc (.cells (madeCells #[.int .i64 0] (Dx.len n + Dx.len m + 1)) 3)) := fun W =>
    run_make_row' (P := Try.prog) 30 3 (.int .i64 0) 8 Try.underlying30 info3 rfl .i64 .i64 (Dx.len n + Dx.len m + 1) (by omega) (by omega) W
  go_enter Try.func23, Try.ntmps23
  go_wp2
  clear hmk
  go_loopw [6] (fun iv wr => ∃ i : Nat, i ≤ Dx.len n ∧ iv = .int .i64 i ∧ Grow w wr ∧ BlkD wr w.heap.size (Dx.mulList (Dx.limbs n) (Dx.limbs m) i ++ List.replicate (Dx.len n + 1 - i) 0)) (fun iv _ => Dx.len n - (intOf iv).toNat)
  case atStart =>
    refine ⟨0, Nat.zero_le _, rfl, (Grow.refl _).alloc _, ?_⟩
    have e : Dx.mulList (Dx.limbs n) (Dx.limbs m) 0 ++ List.replicate (Dx.len n + 1 - 0) 0 = List.replicate (Dx.len n + Dx.len m + 1) 0 := by
      show List.replicate (Dx.len m) 0 ++ _ = _
      rw [List.replicate_append_replicate]
      congr 1
      omega
    rw [e]
    exact BlkD.made _ _
  case round =>
    obtain ⟨i, hi, rfl, hg, hblk⟩ := hrel
    by_cases hlt : i < Dx.len n
    · have hx := Dx.getD_lt _ (Dx.limbs_lt n) i
      have hlen0 : (Dx.mulList (Dx.limbs n) (Dx.limbs m) i ++ List.replicate (Dx.len n + 1 - i) 0).length = Dx.len n + Dx.len m + 1 := by
        rw [List.length_append, Dx.mulList_length, List.length_replicate, show (Dx.limbs m).length = Dx.len m from rfl]; omega
      have hbd : ∀ y ∈ Dx.mulList (Dx.limbs n) (Dx.limbs m) i ++ List.replicate (Dx.len n + 1 - i) 0, y < Dx.B := by
        intro y hy
        rcases List.mem_append.1 hy with hy | hy
        · exact Dx.mulList_lt (Dx.limbs_lt n) (Dx.limbs_lt m) i y hy
        · rw [(List.mem_replicate.1 hy).2]; exact Dx.B_pos
      have HEnd := Lib.hid (fun t ht hz => inner_end (Dx.limbs n) (Dx.limbs m) i (Dx.len n + 1 - (i + 1)) t hlt ht hz (Dx.limbs_lt n) (Dx.limbs_lt m) rfl)
      rw [show (Dx.limbs m).length = Dx.len m from rfl, show (Dx.limbs n).length = Dx.len n from rfl] at HEnd
      have hzl : (Dx.mulList (Dx.limbs n) (Dx.limbs m) i ++ List.replicate (Dx.len n + 1 - i) 0).getD (i + Dx.len m) 0 = 0 := by
        rw [List.getD_eq_getElem?_getD, List.getElem?_append_right (by rw [Dx.mulList_length]; exact Nat.le_refl _), Dx.mulList_length, show (Dx.limbs m).length = Dx.len m from rfl, Nat.sub_self]
        rw [List.getElem?_replicate]
        split <;> rfl
      generalize Dx.mulList (Dx.limbs n) (Dx.limbs m) i ++ List.replicate (Dx.len n + 1 - i) 0 = L at *
      have HBD := Lib.hid hbd
      have HZL := Lib.hid hzl
      have HL0 := Lib.hid hlen0
      have HBK := Lib.hid hblk
      clear hbd hzl hlen0 hblk
      go_wp2
      go_loopw [7, 8] (fun cv kv wq => ∃ t : Nat, t ≤ Dx.len m + 1 ∧ kv = .int .i64 t ∧ cv = .int .i64 ((Dx.mulTo (L.drop i) (Dx.limbs m) ((Dx.limbs n).getD i 0) t).2 : Nat) ∧ Grow w wq ∧ BlkD wq w.heap.size (Dx.patch L i (Dx.mulTo (L.drop i) (Dx.limbs m) ((Dx.limbs n).getD i 0) t).1)) (fun _ kv _ => Dx.len m + 1 - (intOf kv).toNat)
      case atStart => exact ⟨0, Nat.zero_le _, rfl, rfl, hg, by rw [show (Dx.mulTo (L.drop i) (Dx.limbs m) ((Dx.limbs n).getD i 0) 0).1 = [] from rfl, Dx.patch_nil]; exact HBK.out⟩
      case round =>
        obtain ⟨t, ht, rfl, rfl, hg', hbk⟩ := hrel
        have hlenS := Dx.mulTo_length (L.drop i) (Dx.limbs m) ((Dx.limbs n).getD i 0) t
        have hcar := Dx.mulTo_carry (s := L.drop i) (l := Dx.limbs m) (x := (Dx.limbs n).getD i 0) (fun y hy => HBD.out y (List.mem_of_mem_drop hy)) (Dx.limbs_lt m) hx t
        by_cases hend : Dx.len m ≤ t ∧ (Dx.mulTo (L.drop i) (Dx.limbs m) ((Dx.limbs n).getD i 0) t).2 = 0
        · have hfin := HEnd.out t (by omega) hend.2
          rw [hfin] at hbk
          rw [hend.2]
          obtain ⟨he1, _⟩ := hend
          have HB2 := Lib.hid hbk
          clear hbk hfin hcar hlenS
          generalize (Dx.mulTo (L.drop i) (Dx.limbs m) ((Dx.limbs n).getD i 0) t).1 = ss at *
          have ht2 : ¬ (t < Dx.len m) := by omega
          go_wp2
          go_roundw
          case rel => exact ⟨i + 1, by omega, by go_num, hg', HB2.out⟩
          case measure => simp [intOf]; omega
        · have htm : t ≤ Dx.len m := by
            rcases Nat.lt_or_ge (Dx.len m) t with h | h
            · obtain rfl : t = Dx.len m + 1 := by omega
              refine absurd ⟨by omega, ?_⟩ hend
              have hc0 := Dx.mulTo_carry (s := L.drop i) (l := Dx.limbs m) (x := (Dx.limbs n).getD i 0) (fun y hy => HBD.out y (List.mem_of_mem_drop hy)) (Dx.limbs_lt m) hx (Dx.len m)
              show Dx.macHi _ ((Dx.limbs m).getD (Dx.len m) 0) ((L.drop i).getD (Dx.len m) 0) _ = 0
              have e1 : (Dx.limbs m).getD (Dx.len m) 0 = 0 := by rw [List.getD_eq_getElem?_getD, List.getElem?_eq_none (by exact Nat.le_refl _)]; rfl
              have e2 : (L.drop i).getD (Dx.len m) 0 = 0 := by
                rw [List.getD_eq_getElem?_getD, List.getElem?_drop, ← List.getD_eq_getElem?_getD]
                exact HZL.out
              rw [e1, e2]
              unfold Dx.macHi
              rw [Nat.mul_zero, Nat.zero_add]
              exact Nat.div_eq_of_lt hc0
            · exact h
          have hstep : Dx.mulTo (L.drop i) (Dx.limbs m) ((Dx.limbs n).getD i 0) (t + 1) = ((Dx.mulTo (L.drop i) (Dx.limbs m) ((Dx.limbs n).getD i 0) t).1 ++ [Dx.macLo ((Dx.limbs n).getD i 0) ((Dx.limbs m).getD t 0) ((L.drop i).getD t 0) (Dx.mulTo (L.drop i) (Dx.limbs m) ((Dx.limbs n).getD i 0) t).2], Dx.macHi ((Dx.limbs n).getD i 0) ((Dx.limbs m).getD t 0) ((L.drop i).getD t 0) (Dx.mulTo (L.drop i) (Dx.limbs m) ((Dx.limbs n).getD i 0) t).2) := rfl
          have hsd : (L.drop i).getD t 0 = L.getD (i + t) 0 := by rw [List.getD_eq_getElem?_getD, List.getD_eq_getElem?_getD, List.getElem?_drop]
          rw [hsd] at hstep
          have hs1 : L.getD (i + t) 0 < Dx.B := Dx.getD_lt L HBD.out _
          have hy1 : (Dx.limbs m).getD t 0 < Dx.B := Dx.getD_lt _ (Dx.limbs_lt m) _
          have hpg : (Dx.patch L i (Dx.mulTo (L.drop i) (Dx.limbs m) ((Dx.limbs n).getD i 0) t).1).getD (i + t) 0 = L.getD (i + t) 0 := by
            have := Dx.patch_getD (L := L) (r := (Dx.mulTo (L.drop i) (Dx.limbs m) ((Dx.limbs n).getD i 0) t).1) (o := i) (by rw [hlenS, HL0.out]; omega)
            rwa [hlenS] at this
          have hgc := hbk.cell (i := i + t) (by rw [Dx.patch_length (by rw [hlenS, HL0.out]; omega), HL0.out]; omega)
          rw [hpg] at hgc
          have hgf := hbk.frozen (i + t)
          have hset := hbk.set (i + t) (Dx.macLo ((Dx.limbs n).getD i 0) ((Dx.limbs m).getD t 0) (L.getD (i + t) 0) (Dx.mulTo (L.drop i) (Dx.limbs m) ((Dx.limbs n).getD i 0) t).2)
          have hps := Dx.patch_set (L := L) (r := (Dx.mulTo (L.drop i) (Dx.limbs m) ((Dx.limbs n).getD i 0) t).1) (o := i) (x := Dx.macLo ((Dx.limbs n).getD i 0) ((Dx.limbs m).getD t 0) (L.getD (i + t) 0) (Dx.mulTo (L.drop i) (Dx.limbs m) ((Dx.limbs n).getD i 0) t).2) (by rw [hlenS, HL0.out]; omega)
          rw [hlenS] at hps
          rw [hps] at hset
          obtain ⟨b1, o1, rfl, hb1, hd1⟩ := (hl.grow hg').at (Dx.limbs_ne (by omega))
          have hcx := hd1 i hlt
          have HA2 := Lib.hid (refAt_any _ D (Dx.limbs m) d t (hr.grow hg'))
          have hcp : Dx.len m ≤ t → 0 < (Dx.mulTo (L.drop i) (Dx.limbs m) ((Dx.limbs n).getD i 0) t).2 := fun h1 => by
            rcases Nat.eq_zero_or_pos (Dx.mulTo (L.drop i) (Dx.limbs m) ((Dx.limbs n).getD i 0) t).2 with h | h
            · exact absurd ⟨h1, h⟩ hend
            · exact h
          clear hd1 hpg hsd hps hbk hend hlenS
          generalize (Dx.limbs m).getD t 0 = y at *
          generalize L.getD (i + t) 0 = s at *
          generalize (Dx.mulTo (L.drop i) (Dx.limbs m) ((Dx.limbs n).getD i 0) t).2 = cr at *
          generalize (Dx.mulTo (L.drop i) (Dx.limbs m) ((Dx.limbs n).getD i 0) t).1 = ss at *
          generalize hxx : (Dx.limbs n).getD i 0 = x at *
          rw [Dx.B_eq] at hx hy1 hs1 hcar
          have hb := mac_small hx hy1 hs1 hcar
          have hlo : Dx.macLo x y s cr = (x * y + s + cr) % 10000 := rfl
          have hhi : Dx.macHi x y s cr = (x * y + s + cr) / 10000 := rfl
          generalize Dx.macLo x y s cr = lo at *
          generalize Dx.macHi x y s cr = hi' at *
          have hw1 : IntKind.i64.wrap ((x : Int) * (y : Int)) = ((x * y : Nat) : Int) := by rw [← Int.natCast_mul]; exact IntWalk.i64_in _ (by omega)
          generalize x * y = p at *
          have hw2 : IntKind.i64.wrap ((s : Int) + (p : Int)) = ((s + p : Nat) : Int) := by rw [← Int.natCast_add]; exact IntWalk.i64_in _ (by omega)
          have hq : s + p ≤ 100000000 := by omega
          have hw3 : IntKind.i64.wrap (((s + p : Nat) : Int) + (cr : Int)) = ((s + p + cr : Nat) : Int) := by rw [← Int.natCast_add]; exact IntWalk.i64_in _ (by omega)
          have hm : ((s + p + cr : Nat) : Int) % 10000 = (lo : Int) := by omega
          have hdv : ((s + p + cr : Nat) : Int) / 10000 = (hi' : Int) := by omega
          have hT : s + p + cr ≤ 100000000 := by omega
          generalize s + p + cr = T at *
          generalize s + p = q at *
          have HS := Lib.hid hstep
          have HSet := Lib.hid hset
          have HXX := Lib.hid hxx
          clear hstep hset hlo hhi hxx hx hy1 hs1 hcar
          have hi1 : (i : Int) < (Dx.len n : Int) := by omega
          have hi2 : IntKind.i64.wrap ((i : Int) + (t : Int)) = (i : Int) + (t : Int) := IntWalk.i64_in _ (by omega)
          have hi3 : ((i : Int) + (t : Int)).toNat = i + t := by omega
          have hi4 : (i : Int) + (t : Int) < (Dx.len n : Int) + (Dx.len m : Int) + 1 := by omega
          have hi5 : (0 : Int) ≤ (i : Int) + (t : Int) := by omega
          rcases Nat.lt_or_ge t (Dx.len m) with hc1 | hc1
          · clear hcp
            go_wp2_with fail
            refine HA2.out.mono ?_
            rintro e w' ⟨rfl, rfl⟩
            go_wp2_with fail
            go_quiet (fail)
            go_wp2_with fail
            go_roundw
            case rel => exact ⟨t + 1, by omega, by go_num, by rw [HS.out], (hg'.drewN _).setCell (Nat.le_refl _) _, by rw [HS.out]; exact HSet.out⟩
            case measure => simp [intOf]; omega
          · have hc3 := hcp hc1
            clear hcp
            go_wp2_with fail
            refine HA2.out.mono ?_
            rintro e w' ⟨rfl, rfl⟩
            go_wp2_with fail
            go_quiet (fail)
            go_wp2_with fail
            go_roundw
            case rel => exact ⟨t + 1, by omega, by go_num, by rw [HS.out], (hg'.drewN _).setCell (Nat.le_refl _) _, by rw [HS.out]; exact HSet.out⟩
            case measure => simp [intOf]; omega
    · obtain rfl : i = Dx.len n := by omega
      have hall := Dx.mulList_all n m
      have hltA := Dx.mulList_lt (Dx.limbs_lt n) (Dx.limbs_lt m) (Dx.len n)
      have hlenS := Dx.mulList_length (Dx.limbs n) (Dx.limbs m) (Dx.len n)
      rw [show (Dx.limbs m).length = Dx.len m from rfl] at hlenS
      generalize Dx.mulList (Dx.limbs n) (Dx.limbs m) (Dx.len n) = ss at *
      rw [show Dx.len n + 1 - Dx.len n = 1 by omega] at hblk
      have hv : Dx.val (ss ++ List.replicate 1 0) = n * m := by rw [Dx.val_append, Dx.val_replicate, Nat.mul_zero, Nat.add_zero, hall]
      have hds := hblk.ds (by
        intro y hy
        rcases List.mem_append.1 hy with hy | hy
        · exact hltA y hy
        · rw [(List.mem_replicate.1 hy).2]; exact Dx.B_pos)
      have hl2 : (ss ++ List.replicate 1 0).length = Dx.len n + Dx.len m + 1 := by rw [List.length_append, hlenS]; rfl
      have HT := Lib.hid (refTrim_any wr _ _ (by rw [hl2]; omega) hds)
      rw [hv, hl2] at HT
      clear hall hltA hlenS hblk hv hds hl2
      go_wp2_with fail
      refine HT.out.mono ?_
      rintro e w' ⟨v', rfl, hD, rfl⟩
      clear HT
      go_wp2_with fail
      go_ret
      exact Ret.mk (hD.more (by omega)) hg
end Go.Proofs.Ytfeijnbmaehniaa
