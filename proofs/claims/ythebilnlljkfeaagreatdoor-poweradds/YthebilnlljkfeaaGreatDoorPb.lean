/- slices.Backward at fractions: what it hands to a loop over it. -/
import Derived.Test.YthebilnlljkfeaaGreatDoorBK
import Derived.Test.YthebilnlljkfeaaGreatDoorZi
import Derived.RangeFuncNested
import Derived.RangeFuncBound
import Derived.RangeFuncCalls
import Derived.RangeFuncLeaves
import Derived.Shelf.Abstract
import Derived.Shelf.RegionOpen
import Derived.WalkKit
import Derived.OwnWalkIn
import Derived.TacticsInMore
import Derived.LoopNIn
import Derived.LoopIn
namespace Go.Proofs.YthebilnlljkfeaaGreatDoor.Z
open Go.RowKit Go.Shelf
attribute [local go_sem] Oper.semAt_some
def KeepB (n₀ B:Nat) (W W':World):Prop:= ∀b,b<n₀∨b=B→W'.heap[b]? =W.heap[b]?
theorem KeepB.refl (n₀ B:Nat) (W:World):KeepB n₀ B W W:=fun _ _=>rfl
theorem KeepB.trans {n₀ B:Nat} {X Y W:World} (h:KeepB n₀ B X Y) (k:KeepB n₀ B Y W):KeepB n₀ B X W:=fun b hb=>(k b hb).trans (h b hb)
theorem KeepB.cell {n₀ B:Nat} {W W':World} (h:KeepB n₀ B W W') {p:Addr} (hp:p.block<n₀∨p.block=B):W'.cell? p=W.cell? p:=World.cell?_of_block (h _ hp)
variable {α:Type}
set_option maxRecDepth 100000 in
set_option maxHeartbeats 2000000 in
theorem back1_in (F:Fence) (n:Nat) (hf:F.fn 86) (hro:F.round=none) (hn:1≤n) (l Bs Bo n₀ b off cap:Nat) (xs:List α) (g:α→Value×Value×Value) (ix:α→Nat) (hix: ∀k x,xs[k]? =some x→ix x=k) (hlen:xs.length≤1000000000) (hb:b<n₀) (J Jx:List α→World→Prop)
  (hY: ∀pre x W,J pre W→pre.length<xs.length→YieldAt F (n-1) Tryz.prog l #[.int .i64 (ix x:Nat), .agg #[(g x).1,(g x).2.1,(g x).2.2]] W fun e W'=>
   (e= .returned (.bool true)∧J (pre++ [x]) W'∧KeepB n₀ Bs W W')∨(e= .returned (.bool false)∧Jx (pre++ [x]) W'))
  (W:World) (hBs:W.cell? ⟨Bs,Bo,none⟩=some (.slice (some ⟨b,off,none⟩) xs.length cap)) (hc: ∀k x,xs[k]? =some x→W.cell? ⟨b,off+k*3,none⟩=some (g x).1∧W.cell? ⟨b,off+k*3+1,none⟩=some (g x).2.1∧W.cell? ⟨b,off+k*3+2,none⟩=some (g x).2.2) (h0:J [] W):
  CallsIn F n Tryz.prog 86 #[.func (.yield l) #[] #[], .pointer (some ⟨Bs,Bo,none⟩)] W fun e W'=>(∃v,e= .returned v)∧
   ((∃ys,ys=xs.reverse∧J ys W')∨(∃pre,True∧Jx pre W')):=by
 refine callsIn_of_wp Tryz.func86 rfl hf ?_ hro
 simp only [Tryz.ntmps86,List.size_toArray,List.length_cons,List.length_nil,Nat.reduceAdd,Nat.reduceSub,Array.replicate_succ,Array.replicate_zero,List.push_toArray,List.append_toArray,List.nil_append,List.cons_append]
 gi_wp2
 gi_loopw [3] (fun i wr=> ∃k:Nat,k≤xs.length∧i= .int .i64 ((k:Int) -1)∧J (xs.reverse.take (xs.length-k)) wr∧KeepB n₀ Bs W wr)
  (fun i _=>(intOf i+1).toNat)
 case atStart=>exact ⟨xs.length,Nat.le_refl _,by go_num,by simpa using h0,KeepB.refl _ _ _⟩
 case round=>
  obtain ⟨k,hk,rfl,hJs,hnx⟩:=hrel
  cases k with
  |zero=>
   gi_wp2
   go_end0
   exact ⟨⟨_,rfl⟩,(.inl ⟨_,rfl,by rw [Nat.sub_zero,List.take_of_length_le (by rw [List.length_reverse];exact Nat.le_refl _)] at hJs;exact hJs⟩)⟩
  |succ k=>
   have hget:xs[k]? =some xs[k]:=List.getElem?_eq_getElem hk
   have hstep:xs.reverse.take (xs.length-k)=xs.reverse.take (xs.length-(k+1))++ [xs[k]]:=by
    have e:xs.length-k=(xs.length-(k+1))+1:=by omega
    rw [e,List.take_add_one,List.getElem?_reverse (by omega)]
    have e2:xs.length-1-(xs.length-(k+1))=k:=by omega
    rw [e2,hget]
    rfl
   obtain ⟨c0,c1,c2⟩:=hc k _ hget
   have d0:=(hnx.cell (p:=⟨b,off+k*3,none⟩) (.inl hb)).trans c0
   have d1:=(hnx.cell (p:=⟨b,off+k*3+1,none⟩) (.inl hb)).trans c1
   have d2:=(hnx.cell (p:=⟨b,off+k*3+2,none⟩) (.inl hb)).trans c2
   have dB:=(hnx.cell (p:=⟨Bs,Bo,none⟩) (.inr rfl)).trans hBs
   obtain ⟨fn,tmps,assign,body,hy,hR⟩:=hY _ xs[k] wr hJs (by rw [List.length_take,List.length_reverse];omega)
   have ei:((k+1:Nat):Int) -1=(k:Int):=by omega
   rw [hix k _ hget] at hy
   rw [ei]
   gi_wp2
   refine hR.mono ?_
   rintro e W3 (⟨rfl,hJ3,hk3⟩|⟨rfl,hJx3⟩)
   ·gi_wp2
    go_roundw
    case rel=>exact ⟨k,by omega,by go_num,by rw [hstep];exact hJ3,hnx.trans hk3⟩
    case measure=>simp [intOf]
   ·gi_wp2
    refine bodyPost_ret (results_none rfl _ _ _) rfl ?_
    exact ⟨⟨_,rfl⟩, .inr ⟨_,trivial,hJx3⟩⟩
set_option maxRecDepth 100000 in
set_option maxHeartbeats 1000000 in
theorem back1_nil (F:Fence) (n:Nat) (hf:F.fn 86) (hro:F.round=none) (l Bs Bo:Nat) (A:Option Addr) (cap:Nat) (J:List α→World→Prop) (W:World) (hBs:W.cell? ⟨Bs,Bo,none⟩=some (.slice A 0 cap)) (h0:J [] W):
  CallsIn F n Tryz.prog 86 #[.func (.yield l) #[] #[], .pointer (some ⟨Bs,Bo,none⟩)] W fun e W'=>(∃v,e= .returned v)∧J [] W':=by
 refine callsIn_of_wp Tryz.func86 rfl hf ?_ hro
 simp only [Tryz.ntmps86,List.size_toArray,List.length_cons,List.length_nil,Nat.reduceAdd,Nat.reduceSub,Array.replicate_succ,Array.replicate_zero,List.push_toArray,List.append_toArray,List.nil_append,List.cons_append]
 gi_wp2
 gi_loopw [3] (fun i wr=>i= .int .i64 (-1)∧J [] wr) (fun _ _=>0)
 case atStart=>exact ⟨by go_num,h0⟩
 case round=>
  obtain ⟨rfl,hJs⟩:=hrel
  gi_wp2
  go_end0
  exact ⟨⟨_,rfl⟩,hJs⟩
set_option maxHeartbeats 1000000 in
theorem back_in (F:Fence) (n:Nat) (hf:F.fn 57) (hro:F.round=none) (a:Option Addr) (len cap:Nat) (w:World):
  CallsIn F n Tryz.prog 57 #[.slice a len cap] w fun e w'=>e= .returned (.func (.func 86) #[] #[.pointer (some ⟨w.heap.size,0,none⟩)])∧w'=w.alloc (.cells #[.slice a len cap] 61):=by
 refine callsIn_of_wp Tryz.func57 rfl hf ?_ hro
 simp only [Tryz.ntmps57,List.size_toArray,List.length_cons,List.length_nil,Nat.reduceAdd,Nat.reduceSub,Array.replicate_succ,Array.replicate_zero,List.push_toArray,List.append_toArray,List.nil_append,List.cons_append]
 gi_wp2
 go_ret
 exact ⟨rfl,rfl⟩
theorem back_stops (F:Fence) (n:Nat) (hf:F.fn 86) (hro:F.round=none) (hn:1≤n) (Bs Bo n₀:Nat) (sv:Value) (xs:List α) (g:α→Value×Value×Value) (ix:α→Nat) (hix: ∀k x,xs[k]? =some x→ix x=k) (hlen:xs.length≤1000000000) (w:World) (hBs:Bs<w.heap.size)
  (hc:w.cell? ⟨Bs,Bo,none⟩=some sv) (hn₀:n₀≤w.heap.size) (hI:((∃A cap,sv= .slice A 0 cap)∧xs= [])∨ ∃b off cap,sv= .slice (some ⟨b,off,none⟩) xs.length cap∧b<n₀∧ ∀k x,xs[k]? =some x→w.cell? ⟨b,off+k*3,none⟩=some (g x).1∧w.cell? ⟨b,off+k*3+1,none⟩=some (g x).2.1∧w.cell? ⟨b,off+k*3+2,none⟩=some (g x).2.2):
  SeqStopsK F n Tryz.prog 86 #[.pointer (some ⟨Bs,Bo,none⟩)] (fun x:α=> #[.int .i64 (ix x:Nat), .agg #[(g x).1,(g x).2.1,(g x).2.2]]) (KeepB n₀ Bs) (fun ys=>ys=xs.reverse) (fun _=>True) xs.length w:=fun l J Jx W hW _ _ hY h0=>by
 have hc':=(hW.cell (p:=⟨Bs,Bo,none⟩) hBs).trans hc
 rcases hI with ⟨⟨A,cap,rfl⟩,rfl⟩|⟨b,off,cap,rfl,hb,hcs⟩
 ·exact (back1_nil F n hf hro l Bs Bo A cap J W hc' h0).mono fun e W' ⟨he,hj⟩=>⟨he, .inl ⟨_,rfl,hj⟩⟩
 ·have hbw:b<w.heap.size:=Nat.lt_of_lt_of_le hb hn₀
  exact back1_in F n hf hro hn l Bs Bo n₀ b off cap xs g ix hix hlen hb J Jx hY W hc' (fun k x h=>⟨(hW.cell (p:=⟨b,off+k*3,none⟩) hbw).trans (hcs k x h).1,(hW.cell (p:=⟨b,off+k*3+1,none⟩) hbw).trans (hcs k x h).2.1,(hW.cell (p:=⟨b,off+k*3+2,none⟩) hbw).trans (hcs k x h).2.2⟩) h0
end Go.Proofs.YthebilnlljkfeaaGreatDoor.Z
