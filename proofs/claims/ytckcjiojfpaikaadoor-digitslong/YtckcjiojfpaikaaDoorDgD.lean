/- The contract of digits.write. -/
import Derived.Test.YtckcjiojfpaikaaDoorDgC
namespace Go.Proofs.YtckcjiojfpaikaaDoor
open Go.RowKit
set_option maxRecDepth 20000

theorem addr_add (b o j : Nat) : (Addr.mk b o none).add j = ⟨b, o + j, none⟩ := by unfold Addr.add; split <;> simp_all
theorem infoB : (Tryd.prog.info? 5).map (fun i => (i.zero, i.size, i.bytes)) = some (some (.int .u8 0), 1, 1) := by kernel_rfl
theorem bvals_append (l r : List UInt8) : bvals (l ++ r) = bvals l ++ bvals r := by simp [bvals]
theorem bvals_isB (l : List UInt8) : ∀ u ∈ bvals l, isB u := by
  intro u hu
  unfold bvals at hu
  obtain ⟨b, _, rfl⟩ := List.mem_map.1 hu
  exact ⟨_, rfl⟩
theorem store19 (w : World) (cs : List Value) (h : cs.length = 19) (h1 : ∀ v ∈ cs, v.oneCell' = true) :
    Sem.run Tryd.prog (storeCells ⟨w.heap.size, 0, none⟩ cs) (w.alloc (Obj.cells #[.int .u8 0, .int .u8 0, .int .u8 0, .int .u8 0, .int .u8 0, .int .u8 0, .int .u8 0, .int .u8 0, .int .u8 0, .int .u8 0, .int .u8 0, .int .u8 0, .int .u8 0, .int .u8 0, .int .u8 0, .int .u8 0, .int .u8 0, .int .u8 0, .int .u8 0] 88)) = .ok () ((w.alloc (Obj.cells #[.int .u8 0, .int .u8 0, .int .u8 0, .int .u8 0, .int .u8 0, .int .u8 0, .int .u8 0, .int .u8 0, .int .u8 0, .int .u8 0, .int .u8 0, .int .u8 0, .int .u8 0, .int .u8 0, .int .u8 0, .int .u8 0, .int .u8 0, .int .u8 0, .int .u8 0] 88)).setCells w.heap.size 0 cs) ∧
    ((w.alloc (Obj.cells #[.int .u8 0, .int .u8 0, .int .u8 0, .int .u8 0, .int .u8 0, .int .u8 0, .int .u8 0, .int .u8 0, .int .u8 0, .int .u8 0, .int .u8 0, .int .u8 0, .int .u8 0, .int .u8 0, .int .u8 0, .int .u8 0, .int .u8 0, .int .u8 0, .int .u8 0] 88)).setCells w.heap.size 0 cs).rangeAt w.heap.size 0 cs ∧ Grow w ((w.alloc (Obj.cells #[.int .u8 0, .int .u8 0, .int .u8 0, .int .u8 0, .int .u8 0, .int .u8 0, .int .u8 0, .int .u8 0, .int .u8 0, .int .u8 0, .int .u8 0, .int .u8 0, .int .u8 0, .int .u8 0, .int .u8 0, .int .u8 0, .int .u8 0, .int .u8 0, .int .u8 0] 88)).setCells w.heap.size 0 cs) := by
  have hth := (BlkB.new w).there
  rw [List.length_replicate, ← h] at hth
  refine ⟨?_, World.rangeAt_setCells_same _ _ _ _ hth, Grow.setCells (Nat.le_refl _) _ _ _ ((Grow.refl w).alloc _)⟩
  exact run_storeCells_cells (P := Tryd.prog) w.heap.size 0 cs 0 _ (fun j hj => (hth j hj).1) (fun j hj => (hth j hj).2) h1
/-- What write leaves. -/
def WroteText (w : World) (v : Value) (l : List UInt8) (e : Ending) (w' : World) : Prop := ∃ v', e = .returned v' ∧ Tex w' v' l ∧ Wrote w v w' v'

set_option maxHeartbeats 1000000 in
theorem write_group (w : World) (vt vn : Value) (A : Option Addr) (c : Nat) (l : List UInt8) (n b : Nat) (ht : Tex w vt l) (hn : IsN w vn n b) (hlt : n < 10 ^ 19) (hl : l.length + 19 ≤ 140737488355328) (L : List UInt8) (hL : l ++ Tx.dgt 19 n = L) :
    Calls Tryd.prog 30 #[vt, vn, .slice A 0 c] w (WroteText w vt L) := by
  have HG := Lib.hid (fun W (g : Grow w W) => group_any W vn n hlt (hn.1.grow g))
  have HT := Lib.hid ht
  obtain ⟨i0, hi, hz0, hz1, hz2⟩ := info_parts infoB
  obtain ⟨At, ct, e1, _, _⟩ := ht.len
  rw [bvals_length] at e1
  obtain ⟨A4, l4, c4, rfl⟩ := hn.cell
  have hm : maxLen = 9223372036854775807 := rfl
  clear hn ht
  subst e1
  have hsz : (bvals (Tx.dgt 19 n)).length = 19 := by rw [bvals_length, Tx.dgt_length]
  have H19 : Hid ((Tryd.prog.info? 88).map (·.size) = some (bvals (Tx.dgt 19 n)).toArray.size) := Lib.hid (by rw [info19]; simp [hsz])
  have H1C := Lib.hid (bvals_one (Tx.dgt 19 n))
  have HBS := Lib.hid (bvals_isB (Tx.dgt 19 n))
  have hap := bvals_append l (Tx.dgt 19 n)
  rw [hL] at hap
  have HAP := Lib.hid hap
  have HSZ := Lib.hid hsz
  clear hsz hap hL
  generalize hcs : bvals (Tx.dgt 19 n) = cs at *
  clear hcs
  go_enter Tryd.func30, Tryd.ntmps30
  go_wp2_with fail
  refine (HG.out _ ((Grow.refl w).alloc _)).mono ?_
  rintro e w1 ⟨v1, rfl, rfl, hg⟩
  have g1 : Grow w w1 := ((Grow.refl w).alloc _).trans hg
  clear hg HG
  obtain ⟨hst, hrg, hgr⟩ := store19 w1 cs HSZ.out H1C.out
  have HR := Lib.hid (And.intro hrg hgr)
  have hsz := HSZ.out
  clear hrg hgr
  go_upto_region 3 with fail
  clear hst
  obtain ⟨hrg, hgr⟩ := HR.out
  have g2 := g1.trans hgr
  have ht2 := HT.out.grow g2
  clear HR hgr HT
  generalize hW : World.setCells _ w1.heap.size 0 cs = W at *
  clear hW
  go_wp2_with (at_builtin; refine wpList_own_append rfl _ _ 46 rfl 5 i0 (.int .u8 0) 1 Tryd.underlying46 hi hz0 hz1 hz2 rfl (E := isB) ⟨_, rfl⟩ (by rintro _ ⟨x, rfl⟩; rfl) rfl ht2 ⟨w1.heap.size, 0, none⟩ 19 19 cs rfl HSZ.out (by omega) (fun j u hj => by rw [addr_add, Nat.zero_add]; have := hrg j u hj; rwa [Nat.zero_add] at this) HBS.out (by rw [bvals_length]; omega) (by rw [bvals_length, hm]; omega) ?_)
  intro v' w3 hown hwr
  rw [← HAP.out] at hown
  have HO := Lib.hid (And.intro hown hwr)
  clear hown hwr
  go_wp2_with fail
  go_ret
  exact ⟨v', rfl, HO.out.1, Wrote.pre g2 HO.out.2⟩
end Go.Proofs.YtckcjiojfpaikaaDoor
