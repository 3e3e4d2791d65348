/- Contracts of package nat: addTimes, Mul; of the library: math/bits.Mul64 (by the shelf's contract, laid at this program). -/
import Derived.Test.YtckcjiojfpaikaaDoorNatD
import Derived.Shelf.Bits.Mul64
import Derived.Deep.RegionHeld3
import Derived.IntWalk
namespace Go.Proofs.YtckcjiojfpaikaaDoor
open Go.RowKit

def lays264_ren : Go.Shelf.Ren := ⟨fun | 264 => 64 | n => n, fun | 53 => 48 | 46 => 67 | n => n, fun | n => n⟩
theorem lays264 : Go.Proofs.Lays.n264 Tryd.prog lays264_ren := {
  mixed := by kernel_rfl
  f264 := Tryd.func64.trans (congrArg some (by kernel_rfl))
  t46 := Tryd.underlying67
  a46 := Tryd.isAgg67
  z46 := Tryd.sizeOf67
  v46 := Tryd.zeroValue67
  t53 := Tryd.underlying48
  a53 := Tryd.isAgg48
  z53 := Tryd.sizeOf48
  v53 := Tryd.zeroValue48 }
theorem mul64_any (x y : Nat) (hx : x < Mx.B) (hy : y < Mx.B) (w : World) :
    Calls Tryd.prog 64 #[.int .u64 (x : Int), .int .u64 (y : Int)] w fun e w' => e = .returned (.tuple #[.int .u64 ((Mx.mulHi x y : Nat) : Int), .int .u64 ((Mx.mulLo x y : Nat) : Int)]) ∧ w = w' :=
  (Any.bits_Mul64 lays264 x y hx hy w).mono fun _ _ ⟨he, hw⟩ => ⟨he, hw.symm⟩

/-- Only block g has turned. -/
theorem only_refl (w : World) (g : Nat) : w.grownBy w (some g) := World.grownBy.refl w _
theorem only_set {w w' : World} {g : Nat} (h : w.grownBy w' (some g)) (o : Nat) (u : Value) : w.grownBy (w'.setCell ⟨g, o, none⟩ u) (some g) :=
  ⟨h.os, h.tape, h.output, by simpa [World.setCell] using h.size, fun i hi hne => (Below.heap_setCell w' ⟨g, o, none⟩ u i (fun e => hne (by rw [e]))).trans (h.block i hi hne)⟩
theorem only_cell {w w' : World} {g : Nat} (h : w.grownBy w' (some g)) {p : Addr} (hp : p.block < w.heap.size) (hne : p.block ≠ g) : w'.cell? p = w.cell? p :=
  World.cell?_of_block (h.block p.block hp (fun e => hne (by injection e)))
theorem only_grow {w0 w w' : World} {g : Nat} (h : w.grownBy w' (some g)) (k : Grow w0 w) (hg : w0.heap.size ≤ g) : Grow w0 w' := Below.grown k h k.size (fun _ e => by injection e with e; omega)

theorem mul_word {x y s c : Nat} (hx : x < Mx.B) (hy : y < Mx.B) (hs : s < Mx.B) (hc : c < Mx.B) :
    Mx.addLo (Mx.addLo (Mx.mulLo x y) s 0) c 0 = Mx.macLo x y s c ∧ Mx.mulHi x y + Mx.addHi (Mx.mulLo x y) s 0 + Mx.addHi (Mx.addLo (Mx.mulLo x y) s 0) c 0 = Mx.macHi x y s c ∧ Mx.macHi x y s c < Mx.B := by
  have h1 : Mx.mulLo x y + Mx.B * Mx.mulHi x y = x * y := Nat.mod_add_div _ _
  have h2 := Mx.add_split (Mx.mulLo x y) s 0
  have h3 := Mx.add_split (Mx.addLo (Mx.mulLo x y) s 0) c 0
  have h := Mx.mac_parts (x := x) (y := y) (s := s) (c := c) h1 (by simpa using h2) (by simpa using h3) (Mx.addLo_lt _ _ _)
  exact ⟨h.1, h.2, Mx.macHi_lt hx hy hs hc⟩

theorem wrap_sum (a b : Nat) (h : a + b < Mx.B) : IntKind.u64.wrap ((a : Int) + (b : Int)) = ((a + b : Nat) : Int) := by
  rw [Mx.B_eq] at h
  rw [IntKind.wrap_u64]
  omega

set_option maxHeartbeats 1000000 in
theorem addTimes_any (w : World) (g o cp : Nat) (L : List Nat) (A : Option Addr) (l : List Nat) (c x : Nat) (hk : l.length ≤ 17592186044416) (hfit : o + l.length ≤ L.length) (hblk : Blk w g L) (hL : ∀ y ∈ L, y < Mx.B)
    (hl : Cells w A l) (hb : ∀ y ∈ l, y < Mx.B) (hx : x < Mx.B) (hne : l ≠ [] → ∀ b p, A = some ⟨b, p, none⟩ → b ≠ g) :
    Calls Tryd.prog 51 #[.slice (some ⟨g, o, none⟩) l.length cp, .slice A l.length c, .int .u64 (x : Int)] w fun e w' =>
      e = .returned (.int .u64 ((Mx.mulTo (L.drop o) l x l.length).2 : Nat)) ∧ w.grownBy w' (some g) ∧ Blk w' g (Mx.patch L o (Mx.mulTo (L.drop o) l x l.length).1) := by
  have HL := Lib.hid hL
  have HB := Lib.hid hb
  have HNE := Lib.hid hne
  clear hL hb hne
  go_enter Tryd.func51, Tryd.ntmps51
  go_wp2
  go_loopw [7, 15] (fun cv iv wr => ∃ i : Nat, i ≤ l.length ∧ iv = .int .i64 i ∧ cv = .int .u64 ((Mx.mulTo (L.drop o) l x i).2 : Nat) ∧ w.grownBy wr (some g) ∧ Blk wr g (Mx.patch L o (Mx.mulTo (L.drop o) l x i).1)) (fun _ iv _ => l.length - (intOf iv).toNat)
  case atStart => exact ⟨0, Nat.zero_le _, rfl, rfl, only_refl _ _, by rw [show (Mx.mulTo (L.drop o) l x 0).1 = [] from rfl, Mx.patch_nil]; exact hblk⟩
  case round =>
    obtain ⟨i, hi, rfl, rfl, hg, hbk⟩ := hrel
    have hlenS := Mx.mulTo_length (L.drop o) l x i
    by_cases hlt : i < l.length
    · have hcar := Mx.mulTo_carry (s := L.drop o) (l := l) (x := x) (fun y hy => HL.out y (List.mem_of_mem_drop hy)) HB.out hx i
      have hstep : Mx.mulTo (L.drop o) l x (i + 1) = ((Mx.mulTo (L.drop o) l x i).1 ++ [Mx.macLo x (l.getD i 0) ((L.drop o).getD i 0) (Mx.mulTo (L.drop o) l x i).2], Mx.macHi x (l.getD i 0) ((L.drop o).getD i 0) (Mx.mulTo (L.drop o) l x i).2) := rfl
      have hsd : (L.drop o).getD i 0 = L.getD (o + i) 0 := by rw [List.getD_eq_getElem?_getD, List.getD_eq_getElem?_getD, List.getElem?_drop]
      rw [hsd] at hstep
      have hs1 : L.getD (o + i) 0 < Mx.B := Mx.getD_lt L HL.out _
      have hy1 : l.getD i 0 < Mx.B := Mx.getD_lt l HB.out _
      have hnn : l ≠ [] := by intro e; subst e; simp at hlt
      obtain ⟨b1, o1, rfl, hb1, hd1⟩ := hl.at hnn
      have hcx := (only_cell hg (p := ⟨b1, o1 + i, none⟩) hb1 (HNE.out hnn b1 o1 rfl)).trans (hd1 i hlt)
      have hpg : (Mx.patch L o (Mx.mulTo (L.drop o) l x i).1).getD (o + i) 0 = L.getD (o + i) 0 := by
        have := Mx.patch_getD (L := L) (r := (Mx.mulTo (L.drop o) l x i).1) (o := o) (by omega)
        rwa [hlenS] at this
      have hgc := hbk.cell (i := o + i) (by rw [Mx.patch_length (by omega)]; omega)
      rw [hpg] at hgc
      have hgf := hbk.frozen (o + i)
      have hset := hbk.set (o + i) (Mx.macLo x (l.getD i 0) (L.getD (o + i) 0) (Mx.mulTo (L.drop o) l x i).2)
      have hps := Mx.patch_set (L := L) (r := (Mx.mulTo (L.drop o) l x i).1) (o := o) (x := Mx.macLo x (l.getD i 0) (L.getD (o + i) 0) (Mx.mulTo (L.drop o) l x i).2) (by omega)
      rw [hlenS] at hps
      rw [hps] at hset
      clear hd1 hpg hsd hps hbk
      generalize l.getD i 0 = y at *
      generalize L.getD (o + i) 0 = s at *
      generalize (Mx.mulTo (L.drop o) l x i).2 = cr at *
      generalize (Mx.mulTo (L.drop o) l x i).1 = ss at *
      have HS := Lib.hid hstep
      have HSet := Lib.hid hset
      have HM := Lib.hid (fun W => mul64_any x y hx hy1 W)
      have hml : Mx.mulLo x y < Mx.B := Nat.mod_lt _ Mx.B_pos
      have hmw := mul_word hx hy1 hs1 hcar
      have HA1 := Lib.hid (fun W => add64_run (Mx.mulLo x y) s 0 hml hs1 (by omega) W)
      have HA2 := Lib.hid (fun W => add64_run (Mx.addLo (Mx.mulLo x y) s 0) cr 0 (Mx.addLo_lt _ _ _) hcar (by omega) W)
      generalize Mx.mulLo x y = ml at *
      generalize Mx.mulHi x y = mh at *
      generalize Mx.addHi ml s 0 = h1 at *
      generalize Mx.addLo ml s 0 = a1 at *
      generalize Mx.addHi a1 cr 0 = h2 at *
      generalize Mx.addLo a1 cr 0 = a2 at *
      obtain ⟨hm1, hm2, hm3⟩ := hmw
      rw [← hm2] at hm3
      have hw1 := wrap_sum mh h1 (by omega)
      have hw2 := wrap_sum (mh + h1) h2 hm3
      rw [← hm1] at HS HSet
      rw [← hm2] at HS
      generalize mh + h1 = t1 at *
      generalize t1 + h2 = t2 at *
      have hi1 : (i : Int) < (l.length : Int) := by omega
      clear hstep hset hm1 hm2 hm3 hcar hs1 hy1 hml hlenS
      simp only [Int.natCast_zero] at HA1 HA2
      go_wp2_with (first | (go_at_call 64; refine (HM.out _).mono ?_; rintro e w' ⟨rfl, rfl⟩) | (simp only [HA1.out]) | (simp only [HA2.out]))
      go_roundw
      case rel => exact ⟨i + 1, by omega, by go_num, by rw [HS.out], only_set hg _ _, by rw [HS.out]; exact HSet.out⟩
      case measure => simp [intOf]; omega
    · obtain rfl : i = l.length := by omega
      have HBK := Lib.hid hbk
      clear hbk hlenS
      go_wp2
      go_ret
      exact ⟨rfl, hg, HBK.out⟩

/-- Product's block: what the round does to it. -/
theorem mul_round (nl ml : List Nat) (i k : Nat) : (Mx.patch (Mx.mulList nl ml i ++ List.replicate (k + 1) 0) i (Mx.mulTo (((Mx.mulList nl ml i) ++ List.replicate (k + 1) 0).drop i) ml (nl.getD i 0) ml.length).1).set (i + ml.length) (Mx.mulTo (((Mx.mulList nl ml i) ++ List.replicate (k + 1) 0).drop i) ml (nl.getD i 0) ml.length).2
    = Mx.mulList nl ml (i + 1) ++ List.replicate k 0 := by
  have hq := Mx.mulList_length nl ml i
  have e := Mx.mulTo_drop (Mx.mulList nl ml i) (List.replicate (k + 1) 0) ml (nl.getD i 0) i (by omega)
  rw [e]
  have hstep : Mx.mulList nl ml (i + 1) = (Mx.mulList nl ml i).take i ++ (Mx.mulTo ((Mx.mulList nl ml i).drop i) ml (nl.getD i 0) ml.length).1 ++ [(Mx.mulTo ((Mx.mulList nl ml i).drop i) ml (nl.getD i 0) ml.length).2] := rfl
  have hr := Mx.mulTo_length ((Mx.mulList nl ml i).drop i) ml (nl.getD i 0) ml.length
  rw [hstep]
  generalize Mx.mulList nl ml i = Q at *
  generalize (Mx.mulTo (Q.drop i) ml (nl.getD i 0) ml.length).1 = r at *
  generalize (Mx.mulTo (Q.drop i) ml (nl.getD i 0) ml.length).2 = cr at *
  unfold Mx.patch
  have h1 : (Q ++ List.replicate (k + 1) 0).take i = Q.take i := by rw [List.take_append_of_le_length (by omega)]
  have h2 : (Q ++ List.replicate (k + 1) 0).drop (i + r.length) = List.replicate (k + 1) 0 := by
    rw [hr, ← hq, List.drop_left]
  rw [h1, h2]
  have h3 : (Q.take i ++ r).length = i + ml.length := by rw [List.length_append, List.length_take, hr]; omega
  rw [set_mid _ _ _ _ h3]

set_option maxHeartbeats 1000000 in
theorem mul_any (w : World) (va vb : Value) (n m : Nat) (hn : Mx.len n ≤ 4294967296) (hm : Mx.len m ≤ 4294967296) (ha : IsNat w va n) (hb : IsNat w vb m) :
    Calls Tryd.prog 25 #[va, vb] w (Ret w fun v' w' => IsNat w' v' (n * m)) := by
  obtain ⟨A, c, rfl, hc, hl⟩ := ha
  obtain ⟨D, d, rfl, hd, hr⟩ := hb
  have hmk : ∀ W, Sem.run Tryd.prog (Instr.makeSlice 22 (.int .i64 ((Mx.len n : Int) + (Mx.len m : Int))) (.int .i64 ((Mx.len n : Int) + (Mx.len m : Int)))) W = .ok (.slice (some ⟨W.heap.size, 0, none⟩) (Mx.len n + Mx.len m) (Mx.len n + Mx.len m)) (W.alloc (.cells (madeCells #[.int .u64 0] (Mx.len n + Mx.len m)) 48)) := fun W =>
    run_make_row' (P := Tryd.prog) 22 48 (.int .u64 0) 8 Tryd.underlying22 info37 rfl .i64 .i64 (Mx.len n + Mx.len m) (by omega) (by omega) W
  go_enter Tryd.func25, Tryd.ntmps25
  go_wp2
  clear hmk
  go_loopw [21] (fun iv wr => ∃ i : Nat, i ≤ Mx.len n ∧ iv = .int .i64 i ∧ Grow (((w.alloc (Obj.cells #[Value.slice A (Mx.len n) c] 24)).alloc (Obj.cells #[Value.slice D (Mx.len m) d] 24)).alloc (Obj.cells #[Value.slice none 0 0] 24)) wr ∧ Blk wr (w.heap.size + 1 + 1 + 1) (Mx.mulList (Mx.limbs n) (Mx.limbs m) i ++ List.replicate (Mx.len n - i) 0)) (fun iv _ => Mx.len n - (intOf iv).toNat)
  case atStart =>
    refine ⟨0, Nat.zero_le _, rfl, (Grow.refl _).alloc _, ?_⟩
    have h := Blk.made (((w.alloc (Obj.cells #[Value.slice A (Mx.len n) c] 24)).alloc (Obj.cells #[Value.slice D (Mx.len m) d] 24)).alloc (Obj.cells #[Value.slice none 0 0] 24)) (Mx.len n + Mx.len m)
    have e : Mx.mulList (Mx.limbs n) (Mx.limbs m) 0 ++ List.replicate (Mx.len n - 0) 0 = List.replicate (Mx.len n + Mx.len m) 0 := by
      show List.replicate (Mx.len m) 0 ++ _ = _
      rw [List.replicate_append_replicate, Nat.sub_zero, Nat.add_comm]
    rw [e]
    simpa using h
  case round =>
    obtain ⟨i, hi, rfl, hg, hblk⟩ := hrel
    have hgw : Grow w wr := ((((Grow.refl w).alloc _).alloc _).alloc _).trans hg
    obtain ⟨hc1, hc2, hrc, hrz⟩ := hg.new3
    have hr3 : w.heap.size + 1 + 1 + 1 < wr.heap.size := hblk.lt
    by_cases hlt : i < Mx.len n
    · have hx := Mx.getD_lt _ (Mx.limbs_lt n) i
      obtain ⟨b1, o1, rfl, hb1, hd1⟩ := (hl.grow hgw).at (Mx.limbs_ne (by omega))
      have hcx := hd1 i hlt
      clear hd1
      have hround := mul_round (Mx.limbs n) (Mx.limbs m) i (Mx.len n - (i + 1))
      rw [show Mx.len n - (i + 1) + 1 = Mx.len n - i by omega] at hround
      have hlen0 : (Mx.mulList (Mx.limbs n) (Mx.limbs m) i ++ List.replicate (Mx.len n - i) 0).length = Mx.len n + Mx.len m := by
        rw [List.length_append, Mx.mulList_length, List.length_replicate, show (Mx.limbs m).length = Mx.len m from rfl]; omega
      have hbd : ∀ y ∈ Mx.mulList (Mx.limbs n) (Mx.limbs m) i ++ List.replicate (Mx.len n - i) 0, y < Mx.B := by
        intro y hy
        rcases List.mem_append.1 hy with hy | hy
        · exact Mx.mulList_lt (Mx.limbs_lt n) (Mx.limbs_lt m) i y hy
        · rw [(List.mem_replicate.1 hy).2]; exact Mx.B_pos
      have hne : Mx.limbs m ≠ [] → ∀ b p, D = some ⟨b, p, none⟩ → b ≠ w.heap.size + 1 + 1 + 1 := by
        rintro hnn b p rfl
        obtain ⟨b2, o2, e2, hb2, _⟩ := hr hnn
        injection e2 with e2
        injection e2 with e2 _ _
        omega
      have HAT := Lib.hid (addTimes_any wr.drew (w.heap.size + 1 + 1 + 1) i (Mx.len n + Mx.len m - i) _ D (Mx.limbs m) d ((Mx.limbs n).getD i 0) (by show Mx.len m ≤ _; omega) (by rw [hlen0]; show i + Mx.len m ≤ _; omega) hblk hbd (hr.grow hgw.drew) (Mx.limbs_lt m) hx hne)
      rw [show (Mx.limbs m).length = Mx.len m from rfl] at HAT hround
      have hi1 : (i : Int) < (Mx.len n : Int) := by omega
      have hi2 : (i : Int) + (Mx.len m : Int) < (Mx.len n : Int) + (Mx.len m : Int) := by omega
      have hi3 : ((i : Int) + (Mx.len m : Int)).toNat = i + Mx.len m := by omega
      have hi4 : IntKind.i64.wrap ((i : Int) + (Mx.len m : Int)) = (i : Int) + (Mx.len m : Int) := IntWalk.i64_in _ (by omega)
      have hi5 : ¬ (Mx.len n + Mx.len m = i) := by omega
      have hi6 : (i : Int) + (Mx.len m : Int) ≤ (Mx.len n : Int) + (Mx.len m : Int) := by omega
      have hi7 : (i : Int) ≤ (i : Int) + (Mx.len m : Int) := by omega
      have hi8 : (0 : Int) ≤ (i : Int) + (Mx.len m : Int) := by omega
      have hi9 : (0 : Int) ≤ (i : Int) := by omega
      have hbA : b1 ≠ w.heap.size + 1 + 1 + 1 := by
        obtain ⟨b2, o2, e2, hb2, _⟩ := hl (Mx.limbs_ne (by omega))
        injection e2 with e2
        injection e2 with e2 _ _
        omega
      have hlM := Mx.mulTo_length ((Mx.mulList (Mx.limbs n) (Mx.limbs m) i ++ List.replicate (Mx.len n - i) 0).drop i) (Mx.limbs m) ((Mx.limbs n).getD i 0) (Mx.len m)
      have hpl := Mx.patch_length (L := Mx.mulList (Mx.limbs n) (Mx.limbs m) i ++ List.replicate (Mx.len n - i) 0) (o := i) (r := (Mx.mulTo ((Mx.mulList (Mx.limbs n) (Mx.limbs m) i ++ List.replicate (Mx.len n - i) 0).drop i) (Mx.limbs m) ((Mx.limbs n).getD i 0) (Mx.len m)).1) (by omega)
      rw [hlen0] at hpl
      generalize (Mx.limbs n).getD i 0 = x at *
      generalize Mx.mulTo ((Mx.mulList (Mx.limbs n) (Mx.limbs m) i ++ List.replicate (Mx.len n - i) 0).drop i) (Mx.limbs m) x (Mx.len m) = mt at *
      generalize Mx.patch (Mx.mulList (Mx.limbs n) (Mx.limbs m) i ++ List.replicate (Mx.len n - i) 0) i mt.1 = pt at *
      have HRD := Lib.hid hround
      have HPL := Lib.hid hpl
      have HG := Lib.hid hg
      clear hround hlM hpl hlen0 hblk hbd hne hrc hrz hg
      go_wp2
      go_region_held3 (fun w' => w'.cell? ⟨w.heap.size + 1, 0, none⟩ = some (.slice D (Mx.len m) d)) (first | exact hc2 | assumption | (rw [World.cell?_setCell_other _ _ _ _ (by intro e; injection e with e1 e2 e3; omega)]; assumption)) ((go_at_call 51; refine HAT.out.mono ?_; rintro e w1 ⟨rfl, hon, hbk⟩; have hc2' : w1.cell? ⟨w.heap.size + 1, 0, none⟩ = some (.slice D (Mx.len m) d) := (only_cell hon (p := ⟨w.heap.size + 1, 0, none⟩) (by show w.heap.size + 1 < wr.heap.size; omega) (by show w.heap.size + 1 ≠ w.heap.size + 1 + 1 + 1; omega)).trans hc2; have hgc := hbk.cell (i := i + Mx.len m) (by rw [HPL.out]; omega); have hgf := hbk.frozen (i + Mx.len m); have HBS := Lib.hid (hbk.set (i + Mx.len m) mt.2); have HON := Lib.hid hon; clear hon hbk))
      rw [HRD.out] at HBS
      go_wp2
      go_roundw
      case rel => exact ⟨i + 1, by omega, by go_num, Grow.setCell (only_grow HON.out HG.out.drew (by simp)) (by simp) _, HBS.out⟩
      case measure => simp [intOf]; omega
    · obtain rfl : i = Mx.len n := by omega
      have hall := Mx.mulList_all n m
      have hltA := Mx.mulList_lt (Mx.limbs_lt n) (Mx.limbs_lt m) (Mx.len n)
      have hlenS := Mx.mulList_length (Mx.limbs n) (Mx.limbs m) (Mx.len n)
      rw [show (Mx.limbs m).length = Mx.len m from rfl] at hlenS
      generalize Mx.mulList (Mx.limbs n) (Mx.limbs m) (Mx.len n) = ss at *
      rw [show Mx.len n - Mx.len n = 0 by omega, List.replicate_zero, List.append_nil] at hblk
      have hsl := hblk.sl hltA
      rw [hlenS] at hsl
      have HK := Lib.hid (keep_any _ _ ss (by omega) hsl)
      rw [hall] at HK
      have HR := Lib.hid hrc
      have HZ := Lib.hid hrz
      clear hall hltA hblk hsl hlenS hrc hrz
      go_wp2_with fail
      refine HK.out.mono ?_
      rintro e w5 ⟨v5, rfl, hk, hg5⟩
      have hr4 : w.heap.size + 1 + 1 < wr.heap.size := by omega
      have hrc : w5.cell? ⟨w.heap.size + 1 + 1, 0, none⟩ = some (.slice none 0 0) := (hg5.cell (p := ⟨w.heap.size + 1 + 1, 0, none⟩) hr4).trans HR.out
      have hrz : w5.frozen? ⟨w.heap.size + 1 + 1, 0, none⟩ = false := (Below.frozen hg5 (p := ⟨w.heap.size + 1 + 1, 0, none⟩) hr4).trans HZ.out
      obtain ⟨A2, c2, rfl, hk2, hl2⟩ := hk
      have hgf := hgw.trans hg5
      clear HK hg5
      go_wp2_with fail
      refine bodyPost_ret (v := .agg #[.slice A2 (Mx.len (n * m)) c2]) (by simp [results, Tryd.results25, go_sem, hrc]) rfl (Ret.mk ⟨A2, c2, rfl, hk2, hl2.store hrc _⟩ ?_)
      exact Grow.setCell hgf (by show w.heap.size ≤ w.heap.size + 1 + 1; omega) _
end Go.Proofs.YtckcjiojfpaikaaDoor
