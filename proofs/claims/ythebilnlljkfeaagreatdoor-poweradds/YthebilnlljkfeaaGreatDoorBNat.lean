/- One text out of: Mem, NatA, NatB, NatC, NatD, NatE, NatF, NatG, NatV. -/
import Derived.Test.YthebilnlljkfeaaGreatDoorMath
import Derived.Test.YthebilnlljkfeaaGreatDoorChecked
import Derived.WalkKit
import Derived.Below
import Derived.Deep.Draws
import Derived.Lib.Hide
import Derived.Laws.CopyOwn
import Derived.Deep.OwnRows
import Derived.Deep.QuietTactic
import Derived.BigQuiet
import Derived.Laws.Externs
import Derived.Shelf.Spec.BitsCarry
import Derived.Shelf.Bits.Mul64
import Derived.Deep.RegionHeld3
import Derived.IntWalk
import Derived.Shelf.Strconv.Itoa0
import Derived.OpenShut
import Derived.ProofKit
namespace Go.Proofs.YthebilnlljkfeaaGreatDoor
open Go.RowKit
def Grow (w w':World):Prop:=Below w.heap.size w w'
theorem Grow.refl (w:World):Grow w w:=Below.refl _ _
theorem Grow.trans {a b c:World} (h:Grow a b) (k:Grow b c):Grow a c:=Below.trans h (Below.mono k h.size)
theorem Grow.drew {a w:World} (h:Grow a w):Grow a w.drew:=Below.drew h
theorem Grow.alloc {a w:World} (h:Grow a w) (o:Obj):Grow a (w.alloc o):=Below.alloc h h.size o
theorem Grow.setCell {a w:World} (h:Grow a w) {p:Addr} (hp:a.heap.size≤p.block) (u:Value):Grow a (w.setCell p u):=Below.setCell h hp u
theorem Grow.size {a w:World} (h:Grow a w):a.heap.size≤w.heap.size:=Below.size h
theorem Grow.cell {a w:World} (h:Grow a w) {p:Addr} (hp:p.block<a.heap.size):w.cell? p=a.cell? p:=Below.cell h hp
theorem Grow.drewN {a w:World} (h:Grow a w) (n:Nat):Grow a (w.drewN n):=⟨h.os,h.tape,h.output,h.size,h.block⟩
theorem Grow.of_below {a w:World} (h:Below a.heap.size a w):Grow a w:=h
def Cells (w:World) (A:Option Addr) (l:List Nat):Prop:=
 l≠ []→ ∃b o,A=some ⟨b,o,none⟩∧b<w.heap.size∧ ∀j x:Nat,l[j]? =some x→w.cell? ⟨b,o+j,none⟩=some (.int .u64 (x:Int))
theorem Cells.grow {w w':World} {A:Option Addr} {l:List Nat} (h:Cells w A l) (g:Grow w w'):Cells w' A l:=fun hn=>by
 obtain ⟨b,o,e,hb,hc⟩:=h hn
 exact ⟨b,o,e,Nat.lt_of_lt_of_le hb g.size,fun j x hx=>(g.cell (p:=⟨b,o+j,none⟩) hb).trans (hc j x hx)⟩
theorem Cells.store {w:World} {A:Option Addr} {l:List Nat} (h:Cells w A l) {p:Addr} {A':Option Addr} {n c:Nat} (hp:w.cell? p=some (.slice A' n c)) (u:Value):Cells (w.setCell p u) A l:=fun hn=>by
 obtain ⟨b,o,e,hb,hc⟩:=h hn
 refine ⟨b,o,e,by simpa [World.setCell] using hb,fun j x hx=> ?_⟩
 rw [World.cell?_setCell_other w p ⟨b,o+j,none⟩ u (fun e=> ?_)]
 ·exact hc j x hx
 ·have h1:=hc j x hx
  rw [←e,hp] at h1
  cases h1
theorem Grow.new {w w':World} {v:Value} {t:TypeId} (h:Grow (w.alloc (Obj.cells #[v] t)) w'):w'.cell? ⟨w.heap.size,0,none⟩=some v∧w'.frozen? ⟨w.heap.size,0,none⟩=false:=by
 have hlt:(⟨w.heap.size,0,none⟩:Addr).block<(w.alloc (Obj.cells #[v] t)).heap.size:=by simp
 refine ⟨(Below.cell h hlt).trans ?_,(Below.frozen h hlt).trans ?_⟩
 ·simp [go_sem]
 ·simp [go_sem]
theorem Grow.new2 {w w':World} {v u:Value} {t t':TypeId} (h:Grow ((w.alloc (Obj.cells #[v] t)).alloc (Obj.cells #[u] t')) w'):
  w'.cell? ⟨w.heap.size,0,none⟩=some v∧w'.cell? ⟨w.heap.size+1,0,none⟩=some u:=by
 have h1:(⟨w.heap.size,0,none⟩:Addr).block<((w.alloc (Obj.cells #[v] t)).alloc (Obj.cells #[u] t')).heap.size:=by simp;omega
 have h2:(⟨w.heap.size+1,0,none⟩:Addr).block<((w.alloc (Obj.cells #[v] t)).alloc (Obj.cells #[u] t')).heap.size:=by simp
 exact ⟨(Below.cell h h1).trans (by simp [go_sem]),(Below.cell h h2).trans (by simp [go_sem])⟩
theorem Grow.new3 {w w':World} {v u x:Value} {t t' t'':TypeId} (h:Grow (((w.alloc (Obj.cells #[v] t)).alloc (Obj.cells #[u] t')).alloc (Obj.cells #[x] t'')) w'):
  w'.cell? ⟨w.heap.size,0,none⟩=some v∧w'.cell? ⟨w.heap.size+1,0,none⟩=some u∧w'.cell? ⟨w.heap.size+1+1,0,none⟩=some x∧w'.frozen? ⟨w.heap.size+1+1,0,none⟩=false:=by
 have h1:(⟨w.heap.size,0,none⟩:Addr).block<(((w.alloc (Obj.cells #[v] t)).alloc (Obj.cells #[u] t')).alloc (Obj.cells #[x] t'')).heap.size:=by simp;omega
 have h2:(⟨w.heap.size+1,0,none⟩:Addr).block<(((w.alloc (Obj.cells #[v] t)).alloc (Obj.cells #[u] t')).alloc (Obj.cells #[x] t'')).heap.size:=by simp
 have h3:(⟨w.heap.size+1+1,0,none⟩:Addr).block<(((w.alloc (Obj.cells #[v] t)).alloc (Obj.cells #[u] t')).alloc (Obj.cells #[x] t'')).heap.size:=by simp
 exact ⟨(Below.cell h h1).trans (by simp [go_sem]),(Below.cell h h2).trans (by simp [go_sem]),(Below.cell h h3).trans (by simp [go_sem]),(Below.frozen h h3).trans (by simp [go_sem])⟩
theorem lt_of_cell {w:World} {b o:Nat} {v:Value} (h:w.cell? ⟨b,o,none⟩=some v):b<w.heap.size:=by
 rcases Nat.lt_or_ge b w.heap.size with hlt|hge
 ·exact hlt
 ·simp [World.cell?,Array.getElem?_eq_none hge] at h
theorem lt_of_cell' {w:World} {p:Addr} {v:Value} (h:w.cell? p=some v):p.block<w.heap.size:=by
 rcases Nat.lt_or_ge p.block w.heap.size with hlt|hge
 ·exact hlt
 ·simp [World.cell?,Array.getElem?_eq_none hge] at h
theorem Grow.cells1 {W W':World} (g:Grow W W') {a:Addr} {u:Value} (h:W.cell? a=some u):W'.cell? a=some u:=(g.cell (lt_of_cell' h)).trans h
theorem Grow.cells2 {W W':World} (g:Grow W W') {a b:Addr} {u v:Value} (h:W.cell? a=some u∧W.cell? b=some v):W'.cell? a=some u∧W'.cell? b=some v:=⟨g.cells1 h.1,g.cells1 h.2⟩
theorem Grow.cells3 {W W':World} (g:Grow W W') {a b c:Addr} {u v t:Value} (h:W.cell? a=some u∧W.cell? b=some v∧W.cell? c=some t):W'.cell? a=some u∧W'.cell? b=some v∧W'.cell? c=some t:=⟨g.cells1 h.1,g.cells2 h.2⟩
theorem Grow.cells4 {W W':World} (g:Grow W W') {a b c d:Addr} {u v t s:Value} (h:W.cell? a=some u∧W.cell? b=some v∧W.cell? c=some t∧W.cell? d=some s):W'.cell? a=some u∧W'.cell? b=some v∧W'.cell? c=some t∧W'.cell? d=some s:=⟨g.cells1 h.1,g.cells3 h.2⟩
theorem Cells.nil (w:World) (A:Option Addr):Cells w A []:=fun h=>absurd rfl h
theorem Cells.take {w:World} {A:Option Addr} {l:List Nat} (h:Cells w A l) (k:Nat):Cells w A (l.take k):=fun hn=>by
 have hl:l≠ []:=fun e=>hn (by simp [e])
 obtain ⟨b,o,e,hb,hc⟩:=h hl
 refine ⟨b,o,e,hb,fun j x hx=>hc j x ?_⟩
 rw [List.getElem?_take] at hx
 split at hx
 ·exact hx
 ·cases hx
theorem Cells.at {w:World} {A:Option Addr} {l:List Nat} (h:Cells w A l) (hn:l≠ []): ∃b o,A=some ⟨b,o,none⟩∧b<w.heap.size∧ ∀j,j<l.length→w.cell? ⟨b,o+j,none⟩=some (.int .u64 (l.getD j 0:Nat)):=by
 obtain ⟨b,o,e,hb,hc⟩:=h hn
 exact ⟨b,o,e,hb,fun j hj=>by rw [List.getD_eq_getElem?_getD,List.getElem?_eq_getElem hj,Option.getD_some];exact hc j _ (List.getElem?_eq_getElem hj)⟩
def Sl (w:World) (v:Value) (l:List Nat):Prop:= ∃A c,v= .slice A l.length c∧l.length≤c∧(∀x∈l,x<Mx.B)∧Cells w A l
def IsNat (w:World) (v:Value) (n:Nat):Prop:= ∃A c,v= .agg #[.slice A (Mx.len n) c]∧Mx.len n≤c∧Cells w A (Mx.limbs n)
theorem Sl.grow {w w':World} {v:Value} {l:List Nat} (h:Sl w v l) (g:Grow w w'):Sl w' v l:=by
 obtain ⟨A,c,e,hc,hb,hl⟩:=h
 exact ⟨A,c,e,hc,hb,hl.grow g⟩
theorem IsNat.grow {w w':World} {v:Value} {n:Nat} (h:IsNat w v n) (g:Grow w w'):IsNat w' v n:=by
 obtain ⟨A,c,e,hc,hl⟩:=h
 exact ⟨A,c,e,hc,hl.grow g⟩
theorem quiet_left {P:Program} {f:FuncId} {args:Array Value} {w:World} {n:Nat} {v:Value}
  (h:Calls P f args (w.drewN n) fun e w'=>e= .returned v∧w.drewN n=w'):Calls P f args (w.drewN n) fun e w''=>e= .returned v∧ ∃m,w''=w.drewN m:=
 h.mono fun _ _ ⟨he,hm⟩=>⟨he,n,hm.symm⟩
theorem info37:(Tryz.prog.info? 76).map (fun i=>(i.zero,i.size,i.bytes))=some (some (.int .u64 0),1,8):=by kernel_rfl
end Go.Proofs.YthebilnlljkfeaaGreatDoor
namespace Go.Proofs.YthebilnlljkfeaaGreatDoor
open Go.RowKit
def NoughtsFrom (l:List Nat) (k:Nat):Prop:= ∀j,k≤j→j<l.length→l.getD j 0=0
theorem len_of_noughts {l:List Nat} {k:Nat} (hb: ∀x∈l,x<Mx.B) (hk:k≤l.length) (hz:NoughtsFrom l k) (hl:k=0∨l.getD (k-1) 0≠0):Mx.len (Mx.val l)=k:=by
 unfold Mx.len
 rw [Mx.limbs_take l k hb hk hz hl,List.length_take,Nat.min_eq_left hk]
set_option maxHeartbeats 400000 in
theorem withoutNoughts_any (w:World) (A:Option Addr) (l:List Nat) (c:Nat) (hc:l.length≤c) (hm:l.length≤1152921504606846975) (hb: ∀x∈l,x<Mx.B) (hl:Cells w A l):
  Calls Tryz.prog 65 #[.slice A l.length c] w fun e w'=>e= .returned (.slice A (Mx.len (Mx.val l)) (Mx.len (Mx.val l)))∧w=w':=by
 have HB:=Lib.hid hb
 clear hb
 go_enter Tryz.func65,Tryz.ntmps65
 go_wp2
 go_loop [3] (fun n=> ∃k:Nat,k≤l.length∧n= .int .i64 k∧NoughtsFrom l k) (fun n=>(intOf n).toNat)
 case atStart=>exact ⟨l.length,Nat.le_refl _,rfl,fun j h1 h2=>by omega⟩
 case round=>
  obtain ⟨k,hk,rfl,hz⟩:=hrel
  by_cases hpos:0<k
  ·have hn:l≠ []:=by intro e;subst e;simp at hk;omega
   obtain ⟨b,o,rfl,hbl,hcell⟩:=hl.at hn
   have hck:=hcell (k-1) (by omega)
   clear hcell
   generalize hx:l.getD (k-1) 0=x at hck
   have HX:=Lib.hid hx
   clear hx
   have hk1:(0:Int)<(k:Int):=by omega
   have hk2:((k:Int) -1).toNat=k-1:=by omega
   by_cases h0:x=0
   ·subst h0
    go_wp2
    go_round
    case rel=>exact ⟨k-1,by omega,by go_num,fun j h1 h2=>by
     rcases Nat.lt_or_ge j k with h3|h3
     ·obtain rfl:j=k-1:=by omega
      exact HX.out
     ·exact hz j h3 h2⟩
    case measure=>simp [intOf];omega
   ·have h0':((x:Int)==0)=false:=by simp;omega
    go_wp2
    go_ret
    exact ⟨by rw [len_of_noughts HB.out hk hz (.inr (by rw [HX.out];exact h0))];rfl,rfl⟩
  ·obtain rfl:k=0:=by omega
   go_wp2
   go_ret
   exact ⟨by rw [len_of_noughts HB.out hk hz (.inl rfl)];rfl,rfl⟩
def vals (l:List Nat):List Value:=l.map fun x=>Value.int .u64 ((x:Nat):Int)
theorem vals_length (l:List Nat):(vals l).length=l.length:=by simp [vals]
theorem vals_get (l:List Nat) (j:Nat):(vals l)[j]? =(l[j]?).map fun x=>Value.int .u64 ((x:Nat):Int):=by simp [vals]
theorem vals_one (l:List Nat): ∀v∈vals l,v.oneCell'=true:=by
 intro v hv
 simp only [vals,List.mem_map] at hv
 obtain ⟨x,_,rfl⟩:=hv
 rfl
def FreshSl (w w':World) (v:Value) (l:List Nat):Prop:=
 ∃b,v= .slice (some ⟨b,0,none⟩) l.length l.length∧w.heap.size≤b∧w'.heap[b]? =some (.cells (vals l).toArray 76 (0,0))∧Grow w w'
theorem lt_of_heap {w:World} {b:Nat} {o:Obj} (h:w.heap[b]? =some o):b<w.heap.size:=by
 rcases Nat.lt_or_ge b w.heap.size with hlt|hge
 ·exact hlt
 ·rw [Array.getElem?_eq_none hge] at h;cases h
theorem Cells.of_block {w:World} {b:Nat} {l:List Nat} {t:TypeId} (h:w.heap[b]? =some (.cells (vals l).toArray t (0,0))):Cells w (some ⟨b,0,none⟩) l:=fun _=>
 ⟨b,0,rfl,lt_of_heap h,fun j x hx=>by
  rw [cell_of_row w b (0+j) _ t (0,0) h]
  simp [vals_get,hx]⟩
theorem FreshSl.sl {w w':World} {v:Value} {l:List Nat} (h:FreshSl w w' v l) (hb: ∀x∈l,x<Mx.B):Sl w' v l:=by
 obtain ⟨b,e,_,hh,_⟩:=h
 exact ⟨_,_,e,Nat.le_refl _,hb,Cells.of_block hh⟩
theorem splice_all (cur cs:List Value) (h:cur.length=cs.length):splice cur 0 cs=cs:=by
 simp [splice,←h]
theorem made_list (n:Nat):(madeCells #[Value.int .u64 0] n)=(List.replicate n (Value.int .u64 0)).toArray:=by
 apply Array.ext
 ·simp [size_madeCells]
 ·intro i h1 h2
  simp [madeCells,Nat.mod_one]
theorem info37s:(Tryz.prog.info? 76).map (·.size)=some 1:=by kernel_rfl
set_option maxHeartbeats 400000 in
theorem fresh_any (w:World) (A:Option Addr) (l:List Nat) (c:Nat) (hm:l.length≤17592186044416) (hl:Cells w A l):
  Calls Tryz.prog 64 #[.slice A l.length c] w fun e w'=> ∃v,e= .returned v∧FreshSl w w' v l:=by
 have hmk:=fun W=>run_make_row' (P:=Tryz.prog) 22 76 (.int .u64 0) 8 Tryz.underlying22 info37 rfl .i64 .i64 l.length (by omega) (by omega) W
 rcases List.eq_nil_or_concat l with h0|h0
 ·subst h0
  have hcp:=run_copy_none (P:=Tryz.prog) (w.alloc (.cells (madeCells #[.int .u64 0] 0) 76)) 22 22 3 76 (some ⟨w.heap.size,0,none⟩) A 0 0 0 c Tryz.underlying22 info37s rfl
  simp at hmk
  simp only [List.length_nil]
  go_enter Tryz.func64,Tryz.ntmps64
  go_wp2
  go_ret
  refine ⟨_,rfl,w.heap.size,rfl,Nat.le_refl _, ?_,(Grow.refl w).alloc _⟩
  rw [heap_alloc_new]
  simp [vals,made_list]
 ·have hn:l≠ []:=by obtain ⟨a,b,rfl⟩:=h0;simp
  obtain ⟨b,o,rfl,hbl,hc⟩:=hl hn
  have hg:(w.alloc (.cells (madeCells #[.int .u64 0] l.length) 76)).heap[w.heap.size]? =some (.cells (madeCells #[.int .u64 0] l.length) 76 (0,0)):=heap_alloc_new w _
  have hcp:=run_copy_row (P:=Tryz.prog) (w.alloc (.cells (madeCells #[.int .u64 0] l.length) 76)) 22 22 3 76 w.heap.size 0 l.length l.length ⟨b,o,none⟩ l.length c
   (madeCells #[.int .u64 0] l.length) 76 (vals l) Tryz.underlying22 info37s hg (by rw [vals_length];exact (Nat.min_self _).symm)
   (fun j v hv=>by
    rw [vals_get] at hv
    obtain ⟨x,hx,rfl⟩:=Option.map_eq_some_iff.1 hv
    have e:(Addr.mk b o none).add j=⟨b,o+j,none⟩:=by unfold Addr.add;split<;>simp_all
    rw [e,World.cell?_alloc_lt w _ _ hbl]
    exact hc j x hx)
   (by rw [vals_length,size_madeCells];omega) (vals_one l)
  have e:(List.take 0 (madeCells #[Value.int .u64 0] l.length).toList++vals l++List.drop (0+(vals l).length) (madeCells #[Value.int .u64 0] l.length).toList).toArray=(vals l).toArray:=by
   rw [List.drop_of_length_le (by rw [vals_length,Array.length_toList,size_madeCells];omega)]
   simp
  rw [e] at hcp
  have hh:=setRow_heap (w.alloc (.cells (madeCells #[.int .u64 0] l.length) 76)) w.heap.size _ (vals l).toArray 76 (0,0) hg
  have hB:Grow w ((w.alloc (.cells (madeCells #[.int .u64 0] l.length) 76)).setRow w.heap.size (vals l).toArray):=below_setRow ((Grow.refl w).alloc _) (Nat.le_refl _) _
  have HH:=Lib.hid hh
  have HV:=Lib.hid (vals_length l)
  clear hh e hg hc
  generalize hw:(w.alloc (.cells (madeCells #[.int .u64 0] l.length) 76)).setRow w.heap.size (vals l).toArray=w2 at hcp HH hB
  clear hw
  go_enter Tryz.func64,Tryz.ntmps64
  go_wp2
  go_ret
  exact ⟨_,rfl,w.heap.size,rfl,Nat.le_refl _,HH.out,hB⟩
def Ret (w:World) (P:Value→World→Prop) (e:Ending) (w':World):Prop:= ∃v,e= .returned v∧P v w'∧Grow w w'
theorem Ret.mk {w w':World} {P:Value→World→Prop} {v:Value} (h:P v w') (g:Grow w w'):Ret w P (.returned v) w':=⟨v,rfl,h,g⟩
theorem Ret.mono {w w':World} {P P':Value→World→Prop} {e:Ending} (h:Ret w P e w') (hp: ∀v w',P v w'→P' v w'):Ret w P' e w':=by
 obtain ⟨v,rfl,h,g⟩:=h
 exact ⟨v,rfl,hp _ _ h,g⟩
set_option maxHeartbeats 400000 in
theorem keep_any (w:World) (v:Value) (l:List Nat) (hm:l.length≤17592186044416) (h:Sl w v l):
  Calls Tryz.prog 63 #[v] w (Ret w fun v' w'=>IsNat w' v' (Mx.val l)):=by
 obtain ⟨A,c,rfl,hc,hb,hl⟩:=h
 have hlen:=Mx.len_val l hb
 have hlim:Cells w A (Mx.limbs (Mx.val l)):=by
  have e:Mx.limbs (Mx.val l)=l.take (Mx.len (Mx.val l)):=Mx.limbs_val_take l hb
  rw [e]
  exact hl.take _
 have HWN:=Lib.hid (fun W hW=>withoutNoughts_any W A l c hc (by omega) hb hW)
 clear hb hc
 generalize hn:Mx.val l=n at*
 have HN:=Lib.hid hn
 clear hn
 by_cases h0:Mx.len n=0
 ·have hz:n=0:=Mx.eq_zero_of_len h0
  subst hz
  clear h0
  simp only [Mx.len_zero] at HWN
  go_enter Tryz.func63,Tryz.ntmps63
  go_wp2_with (refine (HWN.out _ (hl.grow ((Grow.refl w).alloc _))).mono ?_;rintro e w' ⟨rfl,rfl⟩)
  exact bodyPost_ret (v:= .agg #[.slice none 0 0]) (by simp [results,Tryz.results63,go_sem]) rfl
   (Ret.mk ⟨none,0,rfl,Nat.le_refl _,Cells.nil _ _⟩ ((Grow.refl w).alloc _))
 ·have h0':(((Mx.len n:Nat):Int)==0)=false:=by simp;omega
  go_enter Tryz.func63,Tryz.ntmps63
  go_wp2_with (refine (HWN.out _ (hl.grow ((Grow.refl w).alloc _))).mono ?_;rintro e w' ⟨rfl,rfl⟩)
  have hg:Grow w (w.alloc (Obj.cells #[Value.slice A (Mx.len n) (Mx.len n)] 24)):=(Grow.refl w).alloc _
  exact bodyPost_ret (v:= .agg #[.slice A (Mx.len n) (Mx.len n)]) (by simp [results,Tryz.results63,go_sem]) rfl
   (Ret.mk ⟨A,Mx.len n,rfl,Nat.le_refl _,hlim.grow hg⟩ hg)
set_option maxHeartbeats 400000 in
theorem of_any (w:World) (v:Value) (l:List Nat) (hm:l.length≤17592186044416) (h:Sl w v l):
  Calls Tryz.prog 35 #[v] w (Ret w fun v' w'=>IsNat w' v' (Mx.val l)):=by
 obtain ⟨A,c,rfl,hc,hb,hl⟩:=h
 have hlim:Cells w A (l.take (Mx.len (Mx.val l))):=hl.take _
 have hbt: ∀x∈l.take (Mx.len (Mx.val l)),x<Mx.B:=fun x hx=>hb x (List.mem_of_mem_take hx)
 have hvt:Mx.val (l.take (Mx.len (Mx.val l)))=Mx.val l:=by rw [←Mx.limbs_val_take l hb,Mx.val_limbs]
 have hlt:(l.take (Mx.len (Mx.val l))).length=Mx.len (Mx.val l):=by rw [List.length_take,Nat.min_eq_left (Mx.len_val l hb)]
 have HWN:=Lib.hid (fun W hW=>withoutNoughts_any W A l c hc (by omega) hb hW)
 have hlen:=Mx.len_val l hb
 generalize hn:Mx.val l=n at*
 generalize ht:l.take (Mx.len n)=r at*
 have HB:=Lib.hid hbt
 have HV:=Lib.hid hvt
 rw [←hlt] at HWN
 have hr:r.length≤17592186044416:=by omega
 clear hb hc hn ht hbt hvt hlt hlen
 go_enter Tryz.func35,Tryz.ntmps35
 go_wp2_with fail
 refine (HWN.out _ (hl.grow ((Grow.refl w).alloc _))).mono ?_
 rintro e w' ⟨rfl,rfl⟩
 go_wp2_with fail
 refine (fresh_any _ A r r.length hr (hlim.grow ((Grow.refl w).alloc _))).mono ?_
 rintro e w1 ⟨v1,rfl,hf⟩
 have hg1:Grow w w1:=((Grow.refl w).alloc _).trans hf.choose_spec.2.2.2
 go_wp2_with fail
 refine (keep_any _ _ r hr (hf.sl HB.out)).mono ?_
 rintro e w2 ⟨v2,rfl,hk,hg2⟩
 have hg:Grow (w.alloc (Obj.cells #[Value.slice none 0 0] 24)) w2:=hf.choose_spec.2.2.2.trans hg2
 rw [HV.out] at hk
 clear hf hg1 hg2 HWN HB hlim hl HV
 obtain ⟨hc,hz⟩:=hg.new
 have HG:=Lib.hid hg
 clear hg
 obtain ⟨A2,c2,rfl,hc2,hl2⟩:=hk
 go_wp2_with fail
 refine bodyPost_ret (v:= .agg #[.slice A2 (Mx.len n) c2]) (by simp [results,Tryz.results35,go_sem,hc]) rfl (Ret.mk ⟨A2,c2,rfl,hc2,hl2.store hc _⟩ ?_)
 exact Grow.setCell (((Grow.refl w).alloc _).trans HG.out) (Nat.le_refl _) _
end Go.Proofs.YthebilnlljkfeaaGreatDoor
namespace Go.Proofs.YthebilnlljkfeaaGreatDoor
open Go.RowKit
theorem FreshSl.of_alloc {w w':World} {v:Value} {l:List Nat} {o:Obj} (h:FreshSl (w.alloc o) w' v l):FreshSl w w' v l:=by
 obtain ⟨b,e,hb,hh,hg⟩:=h
 exact ⟨b,e,by simp at hb;omega,hh,((Grow.refl w).alloc o).trans hg⟩
set_option maxHeartbeats 400000 in
theorem limbs_any (w:World) (v:Value) (n:Nat) (hm:Mx.len n≤17592186044416) (h:IsNat w v n):
  Calls Tryz.prog 82 #[v] w fun e w'=> ∃v',e= .returned v'∧FreshSl w w' v' (Mx.limbs n):=by
 obtain ⟨A,c,rfl,hc,hl⟩:=h
 have HF:=Lib.hid (fun W (hW:Cells W A (Mx.limbs n))=>fresh_any W A (Mx.limbs n) c hm hW)
 go_enter Tryz.func82,Tryz.ntmps82
 go_wp2_with fail
 refine (HF.out _ (hl.grow ((Grow.refl w).alloc _))).mono ?_
 rintro e w1 ⟨v1,rfl,hf⟩
 go_wp2_with fail
 go_ret
 exact ⟨v1,rfl,hf.of_alloc⟩
set_option maxHeartbeats 400000 in
theorem zero_any (w:World) (v:Value) (n:Nat) (h:IsNat w v n):
  Calls Tryz.prog 34 #[v] w (Ret w fun v' _=>v'= .bool (n==0)):=by
 obtain ⟨A,c,rfl,hc,hl⟩:=h
 have e:(n==0)=(((Mx.len n:Nat):Int)==0):=by
  rw [Bool.eq_iff_iff]
  simp only [beq_iff_eq]
  constructor
  ·rintro rfl;rfl
  ·intro h;exact Mx.eq_zero_of_len (by omega)
 rw [e]
 clear e
 go_enter Tryz.func34,Tryz.ntmps34
 go_wp2
 go_ret
 exact Ret.mk rfl ((Grow.refl w).alloc _)
set_option maxHeartbeats 400000 in
theorem limbAt_any (w:World) (A:Option Addr) (l:List Nat) (c i:Nat) (hl:Cells w A l):
  Calls Tryz.prog 112 #[.slice A l.length c, .int .i64 (i:Int)] w fun e w'=>e= .returned (.int .u64 ((l.getD i 0:Nat):Int))∧w=w':=by
 by_cases h:i<l.length
 ·have hn:l≠ []:=by intro e;subst e;simp at h
  obtain ⟨b,o,rfl,hbl,hc⟩:=hl.at hn
  have hci:=hc i h
  clear hc
  generalize l.getD i 0=x at*
  go_enter Tryz.func112,Tryz.ntmps112
  go_wp2
  go_ret
  exact ⟨rfl,rfl⟩
 ·have e:l.getD i 0=0:=by rw [List.getD_eq_getElem?_getD,List.getElem?_eq_none (by omega)];rfl
  rw [e]
  clear e
  go_enter Tryz.func112,Tryz.ntmps112
  go_wp2
  go_ret
  exact ⟨rfl,rfl⟩
set_option maxHeartbeats 400000 in
theorem compareInt_any (w:World) (n m:Nat):
  Calls Tryz.prog 66 #[.int .i64 (n:Int), .int .i64 (m:Int)] w fun e w'=>e= .returned (.int .i64 (Mx.cmp n m))∧w=w':=by
 rcases Nat.lt_trichotomy n m with h|h|h
 ·rw [Mx.cmp_lt h]
  go_enter Tryz.func66,Tryz.ntmps66
  go_wp2
  go_ret
  exact ⟨rfl,rfl⟩
 ·subst h
  rw [Mx.cmp_self]
  go_enter Tryz.func66,Tryz.ntmps66
  go_wp2
  go_ret
  exact ⟨rfl,rfl⟩
 ·rw [Mx.cmp_gt h]
  have h': ¬n<m:=by omega
  go_enter Tryz.func66,Tryz.ntmps66
  go_wp2
  go_ret
  exact ⟨rfl,rfl⟩
set_option maxHeartbeats 400000 in
theorem compareU64_any (w:World) (n m:Nat):
  Calls Tryz.prog 67 #[.int .u64 (n:Int), .int .u64 (m:Int)] w fun e w'=>e= .returned (.int .i64 (Mx.cmp n m))∧w=w':=by
 rcases Nat.lt_trichotomy n m with h|h|h
 ·rw [Mx.cmp_lt h]
  go_enter Tryz.func67,Tryz.ntmps67
  go_wp2
  go_ret
  exact ⟨rfl,rfl⟩
 ·subst h
  rw [Mx.cmp_self]
  go_enter Tryz.func67,Tryz.ntmps67
  go_wp2
  go_ret
  exact ⟨rfl,rfl⟩
 ·rw [Mx.cmp_gt h]
  have h': ¬n<m:=by omega
  go_enter Tryz.func67,Tryz.ntmps67
  go_wp2
  go_ret
  exact ⟨rfl,rfl⟩
def SameFrom (l r:List Nat) (k:Nat):Prop:= ∀j,k≤j→l.getD j 0=r.getD j 0
theorem cmp_of_same {n m k:Nat} (hlen:Mx.len n=Mx.len m) (hk:k=0) (h:SameFrom (Mx.limbs n) (Mx.limbs m) k):Mx.cmp n m=0:=
 Mx.cmp_eq (Mx.limbs_inj (Mx.ext_getD _ _ hlen fun j _=>h j (by omega)))
theorem cmp_of_limb {n m k:Nat} (hlen:Mx.len n=Mx.len m) (hk:k<Mx.len n) (h:SameFrom (Mx.limbs n) (Mx.limbs m) (k+1)) (hne:(Mx.limbs n).getD k 0≠(Mx.limbs m).getD k 0):
  Mx.cmp n m=Mx.cmp ((Mx.limbs n).getD k 0) ((Mx.limbs m).getD k 0):=by
 rcases Nat.lt_or_gt_of_ne hne with hlt|hgt
 ·rw [Mx.cmp_lt hlt]
  have:=Mx.val_take_lt (Mx.limbs n) (Mx.limbs m) k hk (by unfold Mx.len at hlen hk;omega) hlen (Mx.limbs_lt n) (fun j hj=>h j hj) hlt
  rw [Mx.val_limbs,Mx.val_limbs] at this
  exact Mx.cmp_lt this
 ·rw [Mx.cmp_gt hgt]
  have:=Mx.val_take_lt (Mx.limbs m) (Mx.limbs n) k (by unfold Mx.len at hlen hk;omega) hk hlen.symm (Mx.limbs_lt m) (fun j hj=>(h j hj).symm) hgt
  rw [Mx.val_limbs,Mx.val_limbs] at this
  exact Mx.cmp_gt this
set_option maxHeartbeats 1000000 in
theorem cmp_any (w:World) (va vb:Value) (n m:Nat) (hm:Mx.len n≤17592186044416) (ha:IsNat w va n) (hb:IsNat w vb m):
  Calls Tryz.prog 37 #[va,vb] w (Ret w fun v' _=>v'= .int .i64 (Mx.cmp n m)):=by
 obtain ⟨A,c,rfl,hc,hl⟩:=ha
 obtain ⟨D,d,rfl,hd,hr⟩:=hb
 by_cases hlen:Mx.len n=Mx.len m
 ·have HC:=Lib.hid (fun W=>compareInt_any W (Mx.len n) (Mx.len m))
  have HL:=Lib.hid hlen
  rw [Mx.cmp_eq hlen] at HC
  clear hlen
  have hm2:Mx.len m≤17592186044416:=by rw [←HL.out];exact hm
  go_enter Tryz.func37,Tryz.ntmps37
  go_wp2_with (refine (HC.out _).mono ?_;rintro e w' ⟨rfl,rfl⟩)
  go_loopw [6] (fun i wr=> ∃k:Nat,k≤Mx.len n∧i= .int .i64 ((k:Int) -1)∧SameFrom (Mx.limbs n) (Mx.limbs m) k∧Grow ((w.alloc (Obj.cells #[Value.slice A (Mx.len n) c] 24)).alloc (Obj.cells #[Value.slice D (Mx.len m) d] 24)) wr) (fun i _=>(intOf i+1).toNat)
  case atStart=>exact ⟨Mx.len n,Nat.le_refl _,rfl,fun j hj=>by
   have h1:(Mx.limbs n)[j]? =none:=List.getElem?_eq_none hj
   have h2:(Mx.limbs m)[j]? =none:=List.getElem?_eq_none (by have:=HL.out;unfold Mx.len at this hj;omega)
   rw [List.getD_eq_getElem?_getD,List.getD_eq_getElem?_getD,h1,h2],Grow.refl _⟩
  case round=>
   obtain ⟨k,hk,rfl,hs,hg⟩:=hrel
   have hgw:Grow w wr:=(((Grow.refl w).alloc _).alloc _).trans hg
   obtain ⟨hc1,hc2⟩:=hg.new2
   have HG:=Lib.hid hg
   clear hg
   rcases Nat.eq_zero_or_pos k with h0|h0
   ·subst h0
    go_wp2
    go_ret
    exact Ret.mk (by rw [cmp_of_same HL.out rfl hs];rfl) hgw
   ·obtain ⟨k,rfl⟩: ∃k',k=k'+1:=⟨k-1,by omega⟩
    rw [show (((k+1:Nat):Int) -1)=(k:Int) by omega]
    have hk1:(k:Int)<(Mx.len n:Int):=by omega
    have hk2:(k:Int)<(Mx.len m:Int):=by have:=HL.out;omega
    have hn1:Mx.limbs n≠ []:=Mx.limbs_ne (by omega)
    have hn2:Mx.limbs m≠ []:=Mx.limbs_ne (by omega)
    obtain ⟨b1,o1,rfl,hb1,hd1⟩:=(hl.grow hgw).at hn1
    obtain ⟨b2,o2,rfl,hb2,hd2⟩:=(hr.grow hgw).at hn2
    have hx:=hd1 k (show k<Mx.len n by omega)
    have hy:=hd2 k (show k<Mx.len m by omega)
    clear hd1 hd2
    generalize hex:(Mx.limbs n).getD k 0=x at hx
    generalize hey:(Mx.limbs m).getD k 0=y at hy
    have HX:=Lib.hid hex
    have HY:=Lib.hid hey
    clear hex hey
    by_cases hxy:x=y
    ·subst hxy
     have HC:=Lib.hid (fun W=>compareU64_any W x x)
     rw [Mx.cmp_self] at HC
     go_wp2
     go_quiet ((go_at_call 67;exact quiet_left (HC.out _)))
     go_wp2
     go_roundw
     case rel=>exact ⟨k,by omega,rfl,fun j hj=>by
      rcases Nat.lt_or_ge k j with h3|h3
      ·exact hs j h3
      ·obtain rfl:j=k:=by omega
       rw [HX.out,HY.out],HG.out.drewN _⟩
     case measure=>simp [intOf]
    ·have hne:(Mx.cmp x y !=0)=true:=by
      rcases Nat.lt_or_gt_of_ne hxy with h|h
      ·rw [Mx.cmp_lt h];rfl
      ·rw [Mx.cmp_gt h];rfl
     have hres:=cmp_of_limb HL.out (by omega) hs (by rw [HX.out,HY.out];exact hxy)
     rw [HX.out,HY.out] at hres
     generalize hz:Mx.cmp x y=z at*
     have HC:=Lib.hid (fun W=>compareU64_any W x y)
     rw [hz] at HC
     have HR:=Lib.hid hres
     clear hz hres
     go_wp2
     go_quiet ((go_at_call 67;exact quiet_left (HC.out _)))
     go_wp2
     go_ret
     exact Ret.mk (by rw [HR.out];rfl) (hgw.drewN _)
 ·have e:Mx.cmp n m=Mx.cmp (Mx.len n) (Mx.len m):=by
   rcases Nat.lt_or_gt_of_ne hlen with h|h
   ·rw [Mx.cmp_lt h,Mx.cmp_lt (Mx.lt_of_len h)]
   ·rw [Mx.cmp_gt h,Mx.cmp_gt (Mx.lt_of_len h)]
  rw [e]
  clear e
  have hne:(Mx.cmp (Mx.len n) (Mx.len m) !=0)=true:=by
   rcases Nat.lt_or_gt_of_ne hlen with h|h
   ·rw [Mx.cmp_lt h];rfl
   ·rw [Mx.cmp_gt h];rfl
  generalize hx:Mx.cmp (Mx.len n) (Mx.len m)=x at*
  have HC:=Lib.hid (fun W=>compareInt_any W (Mx.len n) (Mx.len m))
  rw [hx] at HC
  clear hx hlen
  go_enter Tryz.func37,Tryz.ntmps37
  go_wp2_with (refine (HC.out _).mono ?_;rintro e w' ⟨rfl,rfl⟩)
  go_ret
  exact Ret.mk rfl (((Grow.refl w).alloc _).alloc _)
end Go.Proofs.YthebilnlljkfeaaGreatDoor
namespace Go.Proofs.YthebilnlljkfeaaGreatDoor
open Go.RowKit
theorem add64_run (x y c:Nat) (hx:x<Mx.B) (hy:y<Mx.B) (hc:c≤1) (w:World):(callFunc 111 #[.int .u64 (x:Int), .int .u64 (y:Int), .int .u64 (c:Int)]).run Tryz.prog w=
  .ok (.value (.tuple #[.int .u64 ((Mx.addLo x y c:Nat):Int), .int .u64 ((Mx.addHi x y c:Nat):Int)])) w:=by
 rw [Mx.B_eq] at hx hy
 rw [run_callFunc_extern Tryz.func111 (by kernel_rfl) (by kernel_rfl) (by kernel_rfl) (e:=add64Entry) (by kernel_rfl),run_add64 x y c (by omega) (by omega) (by omega) (by omega)]
 simp only [Result.andThen,Mx.addLo,Mx.addHi,Mx.B_eq]
 congr 5<;>omega
def Blk (w:World) (g:Nat) (l:List Nat):Prop:=w.heap[g]? =some (.cells (vals l).toArray 76 (0,0))
theorem Blk.lt {w:World} {g:Nat} {l:List Nat} (h:Blk w g l):g<w.heap.size:=lt_of_heap h
theorem Blk.cell {w:World} {g:Nat} {l:List Nat} (h:Blk w g l) {i:Nat} (hi:i<l.length):w.cell? ⟨g,i,none⟩=some (.int .u64 (l.getD i 0:Nat)):=by
 rw [cell_of_row w g i _ _ _ h]
 simp [vals_get,List.getElem?_eq_getElem hi]
theorem Blk.frozen {w:World} {g:Nat} {l:List Nat} (h:Blk w g l) (i:Nat):w.frozen? ⟨g,i,none⟩=false:=by
 unfold Blk at h
 simp [World.frozen?,h]
theorem Blk.new (w:World) (l:List Nat):Blk (w.alloc (.cells (vals l).toArray 76)) w.heap.size l:=heap_alloc_new w _
theorem Blk.grow {w w':World} {g:Nat} {l:List Nat} (h:Blk w g l) (k:Grow w w'):Blk w' g l:=(k.block g h.lt).trans h
theorem Blk.alloc {w:World} {g:Nat} {l:List Nat} (h:Blk w g l) (o:Obj):Blk (w.alloc o) g l:=h.grow ((Grow.refl w).alloc o)
theorem Blk.set {w:World} {g:Nat} {l:List Nat} (h:Blk w g l) (i x:Nat):Blk (w.setCell ⟨g,i,none⟩ (.int .u64 (x:Int))) g (l.set i x):=by
 unfold Blk at h⊢
 simp [World.setCell,Array.getElem?_modify,h,vals,List.map_set]
theorem Blk.far {w:World} {g:Nat} {l:List Nat} (h:Blk w g l) {p:Addr} (hp:g≠p.block) (u:Value):Blk (w.setCell p u) g l:=(Below.heap_setCell w p u g hp).trans h
theorem Blk.sl {w:World} {g:Nat} {l:List Nat} (h:Blk w g l) (hb: ∀x∈l,x<Mx.B):Sl w (.slice (some ⟨g,0,none⟩) l.length l.length) l:=⟨_,_,rfl,Nat.le_refl _,hb,Cells.of_block h⟩
theorem Blk.made (w:World) (n:Nat):Blk (w.alloc (.cells (madeCells #[.int .u64 0] n) 76)) w.heap.size (List.replicate n 0):=by
 have:=Blk.new w (List.replicate n 0)
 have e:(vals (List.replicate n 0)).toArray=madeCells #[.int .u64 0] n:=by rw [made_list];simp [vals]
 rwa [e] at this
theorem set_mid (s:List Nat) (i k x:Nat) (hs:s.length=i):(s++List.replicate (k+1) 0).set i x=(s++ [x])++List.replicate k 0:=by
 subst hs
 rw [List.replicate_succ,List.set_append_right _ _ (Nat.le_refl _)]
 simp
set_option maxHeartbeats 1000000 in
theorem add_any (w:World) (va vb:Value) (n m:Nat) (hn:Mx.len n≤4294967296) (hm:Mx.len m≤4294967296) (ha:IsNat w va n) (hb:IsNat w vb m):
  Calls Tryz.prog 83 #[va,vb] w (Ret w fun v' w'=>IsNat w' v' (n+m)):=by
 obtain ⟨A,c,rfl,hc,hl⟩:=ha
 obtain ⟨D,d,rfl,hd,hr⟩:=hb
 have hmk: ∀k:Nat,k≤4294967296→ ∀W,Sem.run Tryz.prog (Instr.makeSlice 22 (.int .i64 ((k:Int)+1)) (.int .i64 ((k:Int)+1))) W= .ok (.slice (some ⟨W.heap.size,0,none⟩) (k+1) (k+1)) (W.alloc (.cells (madeCells #[.int .u64 0] (k+1)) 76)):=fun k hk W=>
  run_make_row' (P:=Tryz.prog) 22 76 (.int .u64 0) 8 Tryz.underlying22 info37 rfl .i64 .i64 (k+1) (by omega) (by omega) W
 by_cases hlen:Mx.len n<Mx.len m
 ·have hmk1:=hmk (Mx.len m) hm
  have hle:(Mx.limbs n).length≤(Mx.limbs m).length:=by unfold Mx.len at hlen;omega
  clear hmk
  go_enter Tryz.func83,Tryz.ntmps83
  go_wp2
  go_quiet (fail)
  generalize hW:World.drewN _ _=W3
  have hg3:Grow (((w.alloc (Obj.cells #[Value.slice A (Mx.len n) c] 24)).alloc (Obj.cells #[Value.slice D (Mx.len m) d] 24)).alloc (Obj.cells #[Value.slice none 0 0] 24)) W3:=hW▸(Grow.refl _).drewN _
  have hgw:Grow w W3:=((((Grow.refl w).alloc _).alloc _).alloc _).trans hg3
  obtain ⟨hres,hfz⟩:=hg3.new
  simp only [World.size_alloc] at hres hfz
  have HR:=Lib.hid hres
  have HZ:=Lib.hid hfz
  have hr3:w.heap.size+1+1<W3.heap.size:=lt_of_cell hres
  clear hW hg3 hres hfz
  go_wp2
  clear hmk1
  go_loopw [8,28] (fun cv iv wr=> ∃i:Nat,i≤Mx.len m∧iv= .int .i64 i∧cv= .int .u64 ((Mx.addTo (Mx.limbs m) (Mx.limbs n) i).2:Nat)∧Grow W3 wr∧Blk wr W3.heap.size ((Mx.addTo (Mx.limbs m) (Mx.limbs n) i).1++List.replicate (Mx.len m+1-i) 0)) (fun _ iv _=>Mx.len m-(intOf iv).toNat)
  case atStart=>exact ⟨0,Nat.zero_le _,rfl,rfl,(Grow.refl _).alloc _,Blk.made _ _⟩
  case round=>
   obtain ⟨i,hi,rfl,rfl,hg,hblk⟩:=hrel
   have hs0:W3.heap.size<wr.heap.size:=hblk.lt
   have hlenS:=Mx.addTo_length (Mx.limbs m) (Mx.limbs n) i
   have hcar:=Mx.addTo_carry (Mx.limbs_lt m) (Mx.limbs_lt n) i
   by_cases hlt:i<Mx.len m
   ·have hstep:Mx.addTo (Mx.limbs m) (Mx.limbs n) (i+1)=((Mx.addTo (Mx.limbs m) (Mx.limbs n) i).1++ [Mx.addLo ((Mx.limbs m).getD i 0) ((Mx.limbs n).getD i 0) (Mx.addTo (Mx.limbs m) (Mx.limbs n) i).2],Mx.addHi ((Mx.limbs m).getD i 0) ((Mx.limbs n).getD i 0) (Mx.addTo (Mx.limbs m) (Mx.limbs n) i).2):=rfl
    have hx:=Mx.getD_lt _ (Mx.limbs_lt m) i
    have hy:=Mx.getD_lt _ (Mx.limbs_lt n) i
    obtain ⟨b1,o1,rfl,hb1,hd1⟩:=(hr.grow (hgw.trans hg)).at (Mx.limbs_ne (by omega))
    have hcx:=hd1 i hlt
    have HLA:=Lib.hid (limbAt_any wr A (Mx.limbs n) c i (hl.grow (hgw.trans hg)))
    clear hd1
    generalize (Mx.limbs m).getD i 0=x at hcx hstep hx
    generalize (Mx.limbs n).getD i 0=y at hstep hy HLA
    generalize (Mx.addTo (Mx.limbs m) (Mx.limbs n) i).2=cr at*
    generalize (Mx.addTo (Mx.limbs m) (Mx.limbs n) i).1=ss at*
    have HS:=Lib.hid hstep
    have HA:=Lib.hid (fun W=>add64_run x y cr hx hy hcar W)
    have hgc:=hblk.cell (i:=i) (by simp;omega)
    have hgf:=hblk.frozen i
    have hblk':=hblk.set i (Mx.addLo x y cr)
    rw [show Mx.len m+1-i=(Mx.len m+1-(i+1))+1 by omega,set_mid ss i _ _ hlenS] at hblk'
    have HB:=Lib.hid hblk'
    have HLS:=Lib.hid hlenS
    generalize (List.getD _ i 0:Nat)=z at hgc
    have hi1:(i:Int)<(Mx.len m:Int):=by omega
    have hi2:(i:Int)<(Mx.len m:Int)+1:=by omega
    clear hstep hblk' hlenS hblk hcar hx hy
    go_wp2_with (first|(go_at_call 112;refine HLA.out.mono ?_;rintro e w' ⟨rfl,rfl⟩)|(simp only [HA.out]))
    go_roundw
    case rel=>exact ⟨i+1,by omega,by go_num,by rw [HS.out],hg.setCell (Nat.le_refl _) _,by rw [HS.out];exact HB.out⟩
    case measure=>simp [intOf];omega
   ·obtain rfl:i=Mx.len m:=by omega
    have hall:=Mx.addTo_all (Mx.limbs m) (Mx.limbs n) hle
    rw [Mx.val_limbs,Mx.val_limbs,Nat.add_comm] at hall
    have hltA:=Mx.addTo_lt (Mx.limbs m) (Mx.limbs n) (Mx.len m)
    rw [show (Mx.limbs m).length=Mx.len m from rfl] at hall
    generalize (Mx.addTo (Mx.limbs m) (Mx.limbs n) (Mx.len m)).2=cr at*
    generalize (Mx.addTo (Mx.limbs m) (Mx.limbs n) (Mx.len m)).1=ss at*
    have hgc:=hblk.cell (i:=Mx.len m) (by simp;omega)
    have hgf:=hblk.frozen (Mx.len m)
    have hblk':=hblk.set (Mx.len m) cr
    rw [show Mx.len m+1-Mx.len m=0+1 by omega,set_mid ss _ _ _ hlenS,List.replicate_zero,List.append_nil] at hblk'
    have hbd: ∀x∈ss++ [cr],x<Mx.B:=by
     intro x hx
     rw [List.mem_append,List.mem_singleton] at hx
     rcases hx with hx|rfl
     ·exact hltA x hx
     ·exact Nat.lt_of_le_of_lt hcar Mx.B_one
    have hll:(ss++ [cr]).length=Mx.len m+1:=by rw [List.length_append,hlenS];rfl
    have hsl:=hblk'.sl hbd
    rw [hll] at hsl
    have hgk:Grow W3 (wr.setCell ⟨W3.heap.size,Mx.len m,none⟩ (.int .u64 (cr:Int))):=hg.setCell (Nat.le_refl _) _
    have HK:=Lib.hid (keep_any _ _ (ss++ [cr]) (by omega) hsl)
    rw [hall] at HK
    have HRC:=Lib.hid hgk
    generalize (List.getD _ (Mx.len m) 0:Nat)=z at hgc
    clear hall hltA hblk hblk' hbd hll hsl hgk hlenS hcar
    generalize hw4:wr.setCell ⟨W3.heap.size,Mx.len m,none⟩ (.int .u64 (cr:Int))=w4 at HK HRC
    have HW4:=Lib.hid hw4
    clear hw4
    have hi2:(Mx.len m:Int)<(Mx.len m:Int)+1:=by omega
    go_wp2_with fail
    rw [HW4.out]
    refine HK.out.mono ?_
    rintro e w5 ⟨v5,rfl,hk,hg5⟩
    have hg35:Grow W3 w5:=HRC.out.trans hg5
    have hrc:w5.cell? ⟨w.heap.size+1+1,0,none⟩=some (.slice none 0 0):=(hg35.cell (p:=⟨w.heap.size+1+1,0,none⟩) hr3).trans HR.out
    have hrz:w5.frozen? ⟨w.heap.size+1+1,0,none⟩=false:=(Below.frozen hg35 (p:=⟨w.heap.size+1+1,0,none⟩) hr3).trans HZ.out
    obtain ⟨A2,c2,rfl,hc2,hl2⟩:=hk
    clear HK hg5 HW4 HRC
    go_wp2_with fail
    refine bodyPost_ret (v:= .agg #[.slice A2 (Mx.len (n+m)) c2]) (by simp [results,Tryz.results83,go_sem,hrc]) rfl (Ret.mk ⟨A2,c2,rfl,hc2,hl2.store hrc _⟩ ?_)
    exact Grow.setCell (hgw.trans hg35) (by show w.heap.size≤w.heap.size+1+1;omega) _
 ·have hmk1:=hmk (Mx.len n) hn
  have hle:(Mx.limbs m).length≤(Mx.limbs n).length:=by unfold Mx.len at hlen;omega
  clear hmk
  go_enter Tryz.func83,Tryz.ntmps83
  go_wp2
  go_quiet (fail)
  generalize hW:World.drewN _ _=W3
  have hg3:Grow (((w.alloc (Obj.cells #[Value.slice A (Mx.len n) c] 24)).alloc (Obj.cells #[Value.slice D (Mx.len m) d] 24)).alloc (Obj.cells #[Value.slice none 0 0] 24)) W3:=hW▸(Grow.refl _).drewN _
  have hgw:Grow w W3:=((((Grow.refl w).alloc _).alloc _).alloc _).trans hg3
  obtain ⟨hres,hfz⟩:=hg3.new
  simp only [World.size_alloc] at hres hfz
  have HR:=Lib.hid hres
  have HZ:=Lib.hid hfz
  have hr3:w.heap.size+1+1<W3.heap.size:=lt_of_cell hres
  clear hW hg3 hres hfz
  go_wp2
  clear hmk1
  go_loopw [8,28] (fun cv iv wr=> ∃i:Nat,i≤Mx.len n∧iv= .int .i64 i∧cv= .int .u64 ((Mx.addTo (Mx.limbs n) (Mx.limbs m) i).2:Nat)∧Grow W3 wr∧Blk wr W3.heap.size ((Mx.addTo (Mx.limbs n) (Mx.limbs m) i).1++List.replicate (Mx.len n+1-i) 0)) (fun _ iv _=>Mx.len n-(intOf iv).toNat)
  case atStart=>exact ⟨0,Nat.zero_le _,rfl,rfl,(Grow.refl _).alloc _,Blk.made _ _⟩
  case round=>
   obtain ⟨i,hi,rfl,rfl,hg,hblk⟩:=hrel
   have hs0:W3.heap.size<wr.heap.size:=hblk.lt
   have hlenS:=Mx.addTo_length (Mx.limbs n) (Mx.limbs m) i
   have hcar:=Mx.addTo_carry (Mx.limbs_lt n) (Mx.limbs_lt m) i
   by_cases hlt:i<Mx.len n
   ·have hstep:Mx.addTo (Mx.limbs n) (Mx.limbs m) (i+1)=((Mx.addTo (Mx.limbs n) (Mx.limbs m) i).1++ [Mx.addLo ((Mx.limbs n).getD i 0) ((Mx.limbs m).getD i 0) (Mx.addTo (Mx.limbs n) (Mx.limbs m) i).2],Mx.addHi ((Mx.limbs n).getD i 0) ((Mx.limbs m).getD i 0) (Mx.addTo (Mx.limbs n) (Mx.limbs m) i).2):=rfl
    have hx:=Mx.getD_lt _ (Mx.limbs_lt n) i
    have hy:=Mx.getD_lt _ (Mx.limbs_lt m) i
    obtain ⟨b1,o1,rfl,hb1,hd1⟩:=(hl.grow (hgw.trans hg)).at (Mx.limbs_ne (by omega))
    have hcx:=hd1 i hlt
    have HLA:=Lib.hid (limbAt_any wr D (Mx.limbs m) d i (hr.grow (hgw.trans hg)))
    clear hd1
    generalize (Mx.limbs n).getD i 0=x at hcx hstep hx
    generalize (Mx.limbs m).getD i 0=y at hstep hy HLA
    generalize (Mx.addTo (Mx.limbs n) (Mx.limbs m) i).2=cr at*
    generalize (Mx.addTo (Mx.limbs n) (Mx.limbs m) i).1=ss at*
    have HS:=Lib.hid hstep
    have HA:=Lib.hid (fun W=>add64_run x y cr hx hy hcar W)
    have hgc:=hblk.cell (i:=i) (by simp;omega)
    have hgf:=hblk.frozen i
    have hblk':=hblk.set i (Mx.addLo x y cr)
    rw [show Mx.len n+1-i=(Mx.len n+1-(i+1))+1 by omega,set_mid ss i _ _ hlenS] at hblk'
    have HB:=Lib.hid hblk'
    have HLS:=Lib.hid hlenS
    generalize (List.getD _ i 0:Nat)=z at hgc
    have hi1:(i:Int)<(Mx.len n:Int):=by omega
    have hi2:(i:Int)<(Mx.len n:Int)+1:=by omega
    clear hstep hblk' hlenS hblk hcar hx hy
    go_wp2_with (first|(go_at_call 112;refine HLA.out.mono ?_;rintro e w' ⟨rfl,rfl⟩)|(simp only [HA.out]))
    go_roundw
    case rel=>exact ⟨i+1,by omega,by go_num,by rw [HS.out],hg.setCell (Nat.le_refl _) _,by rw [HS.out];exact HB.out⟩
    case measure=>simp [intOf];omega
   ·obtain rfl:i=Mx.len n:=by omega
    have hall:=Mx.addTo_all (Mx.limbs n) (Mx.limbs m) hle
    rw [Mx.val_limbs,Mx.val_limbs] at hall
    have hltA:=Mx.addTo_lt (Mx.limbs n) (Mx.limbs m) (Mx.len n)
    rw [show (Mx.limbs n).length=Mx.len n from rfl] at hall
    generalize (Mx.addTo (Mx.limbs n) (Mx.limbs m) (Mx.len n)).2=cr at*
    generalize (Mx.addTo (Mx.limbs n) (Mx.limbs m) (Mx.len n)).1=ss at*
    have hgc:=hblk.cell (i:=Mx.len n) (by simp;omega)
    have hgf:=hblk.frozen (Mx.len n)
    have hblk':=hblk.set (Mx.len n) cr
    rw [show Mx.len n+1-Mx.len n=0+1 by omega,set_mid ss _ _ _ hlenS,List.replicate_zero,List.append_nil] at hblk'
    have hbd: ∀x∈ss++ [cr],x<Mx.B:=by
     intro x hx
     rw [List.mem_append,List.mem_singleton] at hx
     rcases hx with hx|rfl
     ·exact hltA x hx
     ·exact Nat.lt_of_le_of_lt hcar Mx.B_one
    have hll:(ss++ [cr]).length=Mx.len n+1:=by rw [List.length_append,hlenS];rfl
    have hsl:=hblk'.sl hbd
    rw [hll] at hsl
    have hgk:Grow W3 (wr.setCell ⟨W3.heap.size,Mx.len n,none⟩ (.int .u64 (cr:Int))):=hg.setCell (Nat.le_refl _) _
    have HK:=Lib.hid (keep_any _ _ (ss++ [cr]) (by omega) hsl)
    rw [hall] at HK
    have HRC:=Lib.hid hgk
    generalize (List.getD _ (Mx.len n) 0:Nat)=z at hgc
    clear hall hltA hblk hblk' hbd hll hsl hgk hlenS hcar
    generalize hw4:wr.setCell ⟨W3.heap.size,Mx.len n,none⟩ (.int .u64 (cr:Int))=w4 at HK HRC
    have HW4:=Lib.hid hw4
    clear hw4
    have hi2:(Mx.len n:Int)<(Mx.len n:Int)+1:=by omega
    go_wp2_with fail
    rw [HW4.out]
    refine HK.out.mono ?_
    rintro e w5 ⟨v5,rfl,hk,hg5⟩
    have hg35:Grow W3 w5:=HRC.out.trans hg5
    have hrc:w5.cell? ⟨w.heap.size+1+1,0,none⟩=some (.slice none 0 0):=(hg35.cell (p:=⟨w.heap.size+1+1,0,none⟩) hr3).trans HR.out
    have hrz:w5.frozen? ⟨w.heap.size+1+1,0,none⟩=false:=(Below.frozen hg35 (p:=⟨w.heap.size+1+1,0,none⟩) hr3).trans HZ.out
    obtain ⟨A2,c2,rfl,hc2,hl2⟩:=hk
    clear HK hg5 HW4 HRC
    go_wp2_with fail
    refine bodyPost_ret (v:= .agg #[.slice A2 (Mx.len (n+m)) c2]) (by simp [results,Tryz.results83,go_sem,hrc]) rfl (Ret.mk ⟨A2,c2,rfl,hc2,hl2.store hrc _⟩ ?_)
    exact Grow.setCell (hgw.trans hg35) (by show w.heap.size≤w.heap.size+1+1;omega) _
end Go.Proofs.YthebilnlljkfeaaGreatDoor
namespace Go.Proofs.YthebilnlljkfeaaGreatDoor
open Go.RowKit
theorem sub64_run (x y b:Nat) (hb:b≤1) (w:World):(callFunc 113 #[.int .u64 (x:Int), .int .u64 (y:Int), .int .u64 (b:Int)]).run Tryz.prog w=
  .ok (.value (.tuple #[.int .u64 ((Mx.subLo x y b:Nat):Int), .int .u64 ((Mx.subHi x y b:Nat):Int)])) w:=by
 rw [run_callFunc_extern Tryz.func113 (by kernel_rfl) (by kernel_rfl) (by kernel_rfl) (e:=sub64Entry) (by kernel_rfl),run_sub64 x y b hb]
 rfl
set_option maxHeartbeats 1000000 in
theorem sub_less (w:World) (va vb:Value) (n m:Nat) (hn:Mx.len n≤4294967296) (ha:IsNat w va n) (hb:IsNat w vb m) (hlt:n<m):
  Calls Tryz.prog 84 #[va,vb] w (Ret w fun v' w'=> ∃u,v'= .tuple #[u, .bool false]∧IsNat w' u 0):=by
 have HC:=Lib.hid (fun W (g:Grow w W)=>cmp_any W va vb n m (by omega) (ha.grow g) (hb.grow g))
 rw [Mx.cmp_lt hlt] at HC
 obtain ⟨A,c,rfl,hc,hl⟩:=ha
 obtain ⟨D,d,rfl,hd,hr⟩:=hb
 go_enter Tryz.func84,Tryz.ntmps84
 go_wp2_with fail
 refine (HC.out _ ((((Grow.refl w).alloc _).alloc _).alloc _)).mono ?_
 rintro e w1 ⟨v1,rfl,rfl,hg⟩
 obtain ⟨hrc,hrz⟩:=hg.new
 simp only [World.size_alloc] at hrc hrz
 clear HC
 have HG:=Lib.hid hg
 clear hg
 go_wp2_with fail
 refine bodyPost_ret (v:= .tuple #[.agg #[.slice none 0 0], .bool false]) (by simp [results,Tryz.results84,go_sem,hrc]) rfl (Ret.mk ⟨_,rfl,none,0,rfl,Nat.le_refl _,Cells.nil _ _⟩ ?_)
 exact Grow.setCell (((((Grow.refl w).alloc _).alloc _).alloc _).trans HG.out) (by show w.heap.size≤w.heap.size+1+1;omega) _
set_option maxHeartbeats 1000000 in
theorem sub_ok (w:World) (va vb:Value) (n m:Nat) (hn:Mx.len n≤4294967296) (ha:IsNat w va n) (hb:IsNat w vb m) (hle:m≤n):
  Calls Tryz.prog 84 #[va,vb] w (Ret w fun v' w'=> ∃u,v'= .tuple #[u, .bool true]∧IsNat w' u (n-m)):=by
 have HC:=Lib.hid (fun W (g:Grow w W)=>cmp_any W va vb n m (by omega) (ha.grow g) (hb.grow g))
 have hcm:0≤Mx.cmp n m:=by unfold Mx.cmp;rw [if_neg (by omega)];split<;>omega
 obtain ⟨A,c,rfl,hc,hl⟩:=ha
 obtain ⟨D,d,rfl,hd,hr⟩:=hb
 have hmk:=fun W=>run_make_row' (P:=Tryz.prog) 22 76 (.int .u64 0) 8 Tryz.underlying22 info37 rfl .i64 .i64 (Mx.len n) (by omega) (by omega) W
 generalize Mx.cmp n m=cm at*
 have hcm':decide (cm<0)=false:=by simp;omega
 have hlen:=Mx.len_mono hle
 go_enter Tryz.func84,Tryz.ntmps84
 go_wp2_with fail
 refine (HC.out _ ((((Grow.refl w).alloc _).alloc _).alloc _)).mono ?_
 rintro e w1 ⟨v1,rfl,rfl,hg⟩
 obtain ⟨hc1,hc2,hrc,hrz⟩:=hg.new3
 clear HC
 have hgw:Grow w w1:=((((Grow.refl w).alloc _).alloc _).alloc _).trans hg
 clear hg
 have hr3:w.heap.size+1+1<w1.heap.size:=lt_of_cell hrc
 have hr1:w.heap.size<w1.heap.size:=by omega
 have hr2:w.heap.size+1<w1.heap.size:=by omega
 have HR:=Lib.hid hrc
 have HZ:=Lib.hid hrz
 clear hrc hrz
 go_wp2
 clear hmk
 go_loopw [7,22] (fun cv iv wr=> ∃i:Nat,i≤Mx.len n∧iv= .int .i64 i∧cv= .int .u64 ((Mx.subTo (Mx.limbs n) (Mx.limbs m) i).2:Nat)∧Grow w1 wr∧Blk wr w1.heap.size ((Mx.subTo (Mx.limbs n) (Mx.limbs m) i).1++List.replicate (Mx.len n-i) 0)) (fun _ iv _=>Mx.len n-(intOf iv).toNat)
 case atStart=>exact ⟨0,Nat.zero_le _,rfl,rfl,(Grow.refl _).alloc _,Blk.made _ _⟩
 case round=>
  obtain ⟨i,hi,rfl,rfl,hg,hblk⟩:=hrel
  have hs0:w1.heap.size<wr.heap.size:=hblk.lt
  have hlenS:=Mx.subTo_length (Mx.limbs n) (Mx.limbs m) i
  have hcar:=Mx.subTo_borrow (Mx.limbs n) (Mx.limbs m) i
  have hd2:wr.cell? ⟨w.heap.size+1,0,none⟩=some (.slice D (Mx.len m) d):=(hg.cell (p:=⟨w.heap.size+1,0,none⟩) hr2).trans hc2
  by_cases hlt:i<Mx.len n
  ·have hstep:Mx.subTo (Mx.limbs n) (Mx.limbs m) (i+1)=((Mx.subTo (Mx.limbs n) (Mx.limbs m) i).1++ [Mx.subLo ((Mx.limbs n).getD i 0) ((Mx.limbs m).getD i 0) (Mx.subTo (Mx.limbs n) (Mx.limbs m) i).2],Mx.subHi ((Mx.limbs n).getD i 0) ((Mx.limbs m).getD i 0) (Mx.subTo (Mx.limbs n) (Mx.limbs m) i).2):=rfl
   obtain ⟨b1,o1,rfl,hb1,hd1⟩:=(hl.grow (hgw.trans hg)).at (Mx.limbs_ne (by omega))
   have hcx:=hd1 i hlt
   have HLA:=Lib.hid (limbAt_any wr D (Mx.limbs m) d i (hr.grow (hgw.trans hg)))
   clear hd1
   generalize (Mx.limbs n).getD i 0=x at hcx hstep
   generalize (Mx.limbs m).getD i 0=y at hstep HLA
   generalize (Mx.subTo (Mx.limbs n) (Mx.limbs m) i).2=cr at*
   generalize (Mx.subTo (Mx.limbs n) (Mx.limbs m) i).1=ss at*
   have HS:=Lib.hid hstep
   have HA:=Lib.hid (fun W=>sub64_run x y cr hcar W)
   have hgc:=hblk.cell (i:=i) (by simp;omega)
   have hgf:=hblk.frozen i
   have hblk':=hblk.set i (Mx.subLo x y cr)
   rw [show Mx.len n-i=(Mx.len n-(i+1))+1 by omega,set_mid ss i _ _ hlenS] at hblk'
   have HB:=Lib.hid hblk'
   generalize (List.getD _ i 0:Nat)=z at hgc
   have hi1:(i:Int)<(Mx.len n:Int):=by omega
   clear hstep hblk' hlenS hblk hcar
   go_wp2_with (first|(go_at_call 112;refine HLA.out.mono ?_;rintro e w' ⟨rfl,rfl⟩)|(simp only [HA.out]))
   go_roundw
   case rel=>exact ⟨i+1,by omega,by go_num,by rw [HS.out],hg.setCell (Nat.le_refl _) _,by rw [HS.out];exact HB.out⟩
   case measure=>simp [intOf];omega
  ·obtain rfl:i=Mx.len n:=by omega
   have hall:=Mx.subTo_all (Mx.limbs n) (Mx.limbs m) (Mx.limbs_lt n) (Mx.limbs_lt m) hlen (by rw [Mx.val_limbs,Mx.val_limbs];exact hle)
   rw [Mx.val_limbs,Mx.val_limbs] at hall
   have hltA:=Mx.subTo_lt (Mx.limbs n) (Mx.limbs m) (Mx.len n)
   rw [show (Mx.limbs n).length=Mx.len n from rfl] at hall
   generalize (Mx.subTo (Mx.limbs n) (Mx.limbs m) (Mx.len n)).2=cr at*
   generalize (Mx.subTo (Mx.limbs n) (Mx.limbs m) (Mx.len n)).1=ss at*
   rw [show Mx.len n-Mx.len n=0 by omega,List.replicate_zero,List.append_nil] at hblk
   have hsl:=hblk.sl hltA
   rw [hlenS] at hsl
   have HK:=Lib.hid (keep_any _ _ ss (by omega) hsl)
   rw [hall] at HK
   clear hall hltA hblk hsl hlenS hcar
   go_wp2_with fail
   refine HK.out.mono ?_
   rintro e w5 ⟨v5,rfl,hk,hg5⟩
   have hg35:Grow w1 w5:=hg.trans hg5
   have hrc:w5.cell? ⟨w.heap.size+1+1,0,none⟩=some (.slice none 0 0):=(hg35.cell (p:=⟨w.heap.size+1+1,0,none⟩) hr3).trans HR.out
   have hrz:w5.frozen? ⟨w.heap.size+1+1,0,none⟩=false:=(Below.frozen hg35 (p:=⟨w.heap.size+1+1,0,none⟩) hr3).trans HZ.out
   obtain ⟨A2,c2,rfl,hk2,hl2⟩:=hk
   clear HK hg5
   go_wp2_with fail
   refine bodyPost_ret (v:= .tuple #[.agg #[.slice A2 (Mx.len (n-m)) c2], .bool true]) (by simp [results,Tryz.results84,go_sem,hrc]) rfl (Ret.mk ⟨_,rfl,A2,c2,rfl,hk2,hl2.store hrc _⟩ ?_)
   exact Grow.setCell (hgw.trans hg35) (by show w.heap.size≤w.heap.size+1+1;omega) _
end Go.Proofs.YthebilnlljkfeaaGreatDoor
namespace Go.Proofs.YthebilnlljkfeaaGreatDoor
open Go.RowKit
def lays264_ren:Go.Shelf.Ren:=⟨fun|264=>114|n=>n,fun|53=>76|46=>126|n=>n,fun|n=>n⟩
theorem lays264:Go.Proofs.Lays.n264 Tryz.prog lays264_ren:={
 mixed:=by kernel_rfl
 f264:=Tryz.func114.trans (congrArg some (by kernel_rfl))
 t46:=Tryz.underlying126
 a46:=Tryz.isAgg126
 z46:=Tryz.sizeOf126
 v46:=Tryz.zeroValue126
 t53:=Tryz.underlying76
 a53:=Tryz.isAgg76
 z53:=Tryz.sizeOf76
 v53:=Tryz.zeroValue76}
theorem mul64_any (x y:Nat) (hx:x<Mx.B) (hy:y<Mx.B) (w:World):
  Calls Tryz.prog 114 #[.int .u64 (x:Int), .int .u64 (y:Int)] w fun e w'=>e= .returned (.tuple #[.int .u64 ((Mx.mulHi x y:Nat):Int), .int .u64 ((Mx.mulLo x y:Nat):Int)])∧w=w':=
 (Any.bits_Mul64 lays264 x y hx hy w).mono fun _ _ ⟨he,hw⟩=>⟨he,hw.symm⟩
theorem only_refl (w:World) (g:Nat):w.grownBy w (some g):=World.grownBy.refl w _
theorem only_set {w w':World} {g:Nat} (h:w.grownBy w' (some g)) (o:Nat) (u:Value):w.grownBy (w'.setCell ⟨g,o,none⟩ u) (some g):=
 ⟨h.os,h.tape,h.output,by simpa [World.setCell] using h.size,fun i hi hne=>(Below.heap_setCell w' ⟨g,o,none⟩ u i (fun e=>hne (by rw [e]))).trans (h.block i hi hne)⟩
theorem only_cell {w w':World} {g:Nat} (h:w.grownBy w' (some g)) {p:Addr} (hp:p.block<w.heap.size) (hne:p.block≠g):w'.cell? p=w.cell? p:=
 World.cell?_of_block (h.block p.block hp (fun e=>hne (by injection e)))
theorem only_grow {w0 w w':World} {g:Nat} (h:w.grownBy w' (some g)) (k:Grow w0 w) (hg:w0.heap.size≤g):Grow w0 w':=Below.grown k h k.size (fun _ e=>by injection e with e;omega)
theorem mul_word {x y s c:Nat} (hx:x<Mx.B) (hy:y<Mx.B) (hs:s<Mx.B) (hc:c<Mx.B):
  Mx.addLo (Mx.addLo (Mx.mulLo x y) s 0) c 0=Mx.macLo x y s c∧Mx.mulHi x y+Mx.addHi (Mx.mulLo x y) s 0+Mx.addHi (Mx.addLo (Mx.mulLo x y) s 0) c 0=Mx.macHi x y s c∧Mx.macHi x y s c<Mx.B:=by
 have h1:Mx.mulLo x y+Mx.B*Mx.mulHi x y=x*y:=Nat.mod_add_div _ _
 have h2:=Mx.add_split (Mx.mulLo x y) s 0
 have h3:=Mx.add_split (Mx.addLo (Mx.mulLo x y) s 0) c 0
 have h:=Mx.mac_parts (x:=x) (y:=y) (s:=s) (c:=c) h1 (by simpa using h2) (by simpa using h3) (Mx.addLo_lt _ _ _)
 exact ⟨h.1,h.2,Mx.macHi_lt hx hy hs hc⟩
theorem wrap_sum (a b:Nat) (h:a+b<Mx.B):IntKind.u64.wrap ((a:Int)+(b:Int))=((a+b:Nat):Int):=by
 rw [Mx.B_eq] at h
 rw [IntKind.wrap_u64]
 omega
set_option maxHeartbeats 1000000 in
theorem addTimes_any (w:World) (g o cp:Nat) (L:List Nat) (A:Option Addr) (l:List Nat) (c x:Nat) (hk:l.length≤17592186044416) (hfit:o+l.length≤L.length) (hblk:Blk w g L) (hL: ∀y∈L,y<Mx.B)
  (hl:Cells w A l) (hb: ∀y∈l,y<Mx.B) (hx:x<Mx.B) (hne:l≠ []→ ∀b p,A=some ⟨b,p,none⟩→b≠g):
  Calls Tryz.prog 85 #[.slice (some ⟨g,o,none⟩) l.length cp, .slice A l.length c, .int .u64 (x:Int)] w fun e w'=>
   e= .returned (.int .u64 ((Mx.mulTo (L.drop o) l x l.length).2:Nat))∧w.grownBy w' (some g)∧Blk w' g (Mx.patch L o (Mx.mulTo (L.drop o) l x l.length).1):=by
 have HL:=Lib.hid hL
 have HB:=Lib.hid hb
 have HNE:=Lib.hid hne
 clear hL hb hne
 go_enter Tryz.func85,Tryz.ntmps85
 go_wp2
 go_loopw [7,15] (fun cv iv wr=> ∃i:Nat,i≤l.length∧iv= .int .i64 i∧cv= .int .u64 ((Mx.mulTo (L.drop o) l x i).2:Nat)∧w.grownBy wr (some g)∧Blk wr g (Mx.patch L o (Mx.mulTo (L.drop o) l x i).1)) (fun _ iv _=>l.length-(intOf iv).toNat)
 case atStart=>exact ⟨0,Nat.zero_le _,rfl,rfl,only_refl _ _,by rw [show (Mx.mulTo (L.drop o) l x 0).1= [] from rfl,Mx.patch_nil];exact hblk⟩
 case round=>
  obtain ⟨i,hi,rfl,rfl,hg,hbk⟩:=hrel
  have hlenS:=Mx.mulTo_length (L.drop o) l x i
  by_cases hlt:i<l.length
  ·have hcar:=Mx.mulTo_carry (s:=L.drop o) (l:=l) (x:=x) (fun y hy=>HL.out y (List.mem_of_mem_drop hy)) HB.out hx i
   have hstep:Mx.mulTo (L.drop o) l x (i+1)=((Mx.mulTo (L.drop o) l x i).1++ [Mx.macLo x (l.getD i 0) ((L.drop o).getD i 0) (Mx.mulTo (L.drop o) l x i).2],Mx.macHi x (l.getD i 0) ((L.drop o).getD i 0) (Mx.mulTo (L.drop o) l x i).2):=rfl
   have hsd:(L.drop o).getD i 0=L.getD (o+i) 0:=by rw [List.getD_eq_getElem?_getD,List.getD_eq_getElem?_getD,List.getElem?_drop]
   rw [hsd] at hstep
   have hs1:L.getD (o+i) 0<Mx.B:=Mx.getD_lt L HL.out _
   have hy1:l.getD i 0<Mx.B:=Mx.getD_lt l HB.out _
   have hnn:l≠ []:=by intro e;subst e;simp at hlt
   obtain ⟨b1,o1,rfl,hb1,hd1⟩:=hl.at hnn
   have hcx:=(only_cell hg (p:=⟨b1,o1+i,none⟩) hb1 (HNE.out hnn b1 o1 rfl)).trans (hd1 i hlt)
   have hpg:(Mx.patch L o (Mx.mulTo (L.drop o) l x i).1).getD (o+i) 0=L.getD (o+i) 0:=by
    have:=Mx.patch_getD (L:=L) (r:=(Mx.mulTo (L.drop o) l x i).1) (o:=o) (by omega)
    rwa [hlenS] at this
   have hgc:=hbk.cell (i:=o+i) (by rw [Mx.patch_length (by omega)];omega)
   rw [hpg] at hgc
   have hgf:=hbk.frozen (o+i)
   have hset:=hbk.set (o+i) (Mx.macLo x (l.getD i 0) (L.getD (o+i) 0) (Mx.mulTo (L.drop o) l x i).2)
   have hps:=Mx.patch_set (L:=L) (r:=(Mx.mulTo (L.drop o) l x i).1) (o:=o) (x:=Mx.macLo x (l.getD i 0) (L.getD (o+i) 0) (Mx.mulTo (L.drop o) l x i).2) (by omega)
   rw [hlenS] at hps
   rw [hps] at hset
   clear hd1 hpg hsd hps hbk
   generalize l.getD i 0=y at*
   generalize L.getD (o+i) 0=s at*
   generalize (Mx.mulTo (L.drop o) l x i).2=cr at*
   generalize (Mx.mulTo (L.drop o) l x i).1=ss at*
   have HS:=Lib.hid hstep
   have HSet:=Lib.hid hset
   have HM:=Lib.hid (fun W=>mul64_any x y hx hy1 W)
   have hml:Mx.mulLo x y<Mx.B:=Nat.mod_lt _ Mx.B_pos
   have hmw:=mul_word hx hy1 hs1 hcar
   have HA1:=Lib.hid (fun W=>add64_run (Mx.mulLo x y) s 0 hml hs1 (by omega) W)
   have HA2:=Lib.hid (fun W=>add64_run (Mx.addLo (Mx.mulLo x y) s 0) cr 0 (Mx.addLo_lt _ _ _) hcar (by omega) W)
   generalize Mx.mulLo x y=ml at*
   generalize Mx.mulHi x y=mh at*
   generalize Mx.addHi ml s 0=h1 at*
   generalize Mx.addLo ml s 0=a1 at*
   generalize Mx.addHi a1 cr 0=h2 at*
   generalize Mx.addLo a1 cr 0=a2 at*
   obtain ⟨hm1,hm2,hm3⟩:=hmw
   rw [←hm2] at hm3
   have hw1:=wrap_sum mh h1 (by omega)
   have hw2:=wrap_sum (mh+h1) h2 hm3
   rw [←hm1] at HS HSet
   rw [←hm2] at HS
   generalize mh+h1=t1 at*
   generalize t1+h2=t2 at*
   have hi1:(i:Int)<(l.length:Int):=by omega
   clear hstep hset hm1 hm2 hm3 hcar hs1 hy1 hml hlenS
   simp only [Int.natCast_zero] at HA1 HA2
   go_wp2_with (first|(go_at_call 114;refine (HM.out _).mono ?_;rintro e w' ⟨rfl,rfl⟩)|(simp only [HA1.out])|(simp only [HA2.out]))
   go_roundw
   case rel=>exact ⟨i+1,by omega,by go_num,by rw [HS.out],only_set hg _ _,by rw [HS.out];exact HSet.out⟩
   case measure=>simp [intOf];omega
  ·obtain rfl:i=l.length:=by omega
   have HBK:=Lib.hid hbk
   clear hbk hlenS
   go_wp2
   go_ret
   exact ⟨rfl,hg,HBK.out⟩
theorem mul_round (nl ml:List Nat) (i k:Nat):(Mx.patch (Mx.mulList nl ml i++List.replicate (k+1) 0) i (Mx.mulTo (((Mx.mulList nl ml i)++List.replicate (k+1) 0).drop i) ml (nl.getD i 0) ml.length).1).set (i+ml.length) (Mx.mulTo (((Mx.mulList nl ml i)++List.replicate (k+1) 0).drop i) ml (nl.getD i 0) ml.length).2
  =Mx.mulList nl ml (i+1)++List.replicate k 0:=by
 have hq:=Mx.mulList_length nl ml i
 have e:=Mx.mulTo_drop (Mx.mulList nl ml i) (List.replicate (k+1) 0) ml (nl.getD i 0) i (by omega)
 rw [e]
 have hstep:Mx.mulList nl ml (i+1)=(Mx.mulList nl ml i).take i++(Mx.mulTo ((Mx.mulList nl ml i).drop i) ml (nl.getD i 0) ml.length).1++ [(Mx.mulTo ((Mx.mulList nl ml i).drop i) ml (nl.getD i 0) ml.length).2]:=rfl
 have hr:=Mx.mulTo_length ((Mx.mulList nl ml i).drop i) ml (nl.getD i 0) ml.length
 rw [hstep]
 generalize Mx.mulList nl ml i=Q at*
 generalize (Mx.mulTo (Q.drop i) ml (nl.getD i 0) ml.length).1=r at*
 generalize (Mx.mulTo (Q.drop i) ml (nl.getD i 0) ml.length).2=cr at*
 unfold Mx.patch
 have h1:(Q++List.replicate (k+1) 0).take i=Q.take i:=by rw [List.take_append_of_le_length (by omega)]
 have h2:(Q++List.replicate (k+1) 0).drop (i+r.length)=List.replicate (k+1) 0:=by
  rw [hr,←hq,List.drop_left]
 rw [h1,h2]
 have h3:(Q.take i++r).length=i+ml.length:=by rw [List.length_append,List.length_take,hr];omega
 rw [set_mid _ _ _ _ h3]
set_option maxHeartbeats 1000000 in
theorem mul_any (w:World) (va vb:Value) (n m:Nat) (hn:Mx.len n≤4294967296) (hm:Mx.len m≤4294967296) (ha:IsNat w va n) (hb:IsNat w vb m):
  Calls Tryz.prog 54 #[va,vb] w (Ret w fun v' w'=>IsNat w' v' (n*m)):=by
 obtain ⟨A,c,rfl,hc,hl⟩:=ha
 obtain ⟨D,d,rfl,hd,hr⟩:=hb
 have hmk: ∀W,Sem.run Tryz.prog (Instr.makeSlice 22 (.int .i64 ((Mx.len n:Int)+(Mx.len m:Int))) (.int .i64 ((Mx.len n:Int)+(Mx.len m:Int)))) W= .ok (.slice (some ⟨W.heap.size,0,none⟩) (Mx.len n+Mx.len m) (Mx.len n+Mx.len m)) (W.alloc (.cells (madeCells #[.int .u64 0] (Mx.len n+Mx.len m)) 76)):=fun W=>
  run_make_row' (P:=Tryz.prog) 22 76 (.int .u64 0) 8 Tryz.underlying22 info37 rfl .i64 .i64 (Mx.len n+Mx.len m) (by omega) (by omega) W
 go_enter Tryz.func54,Tryz.ntmps54
 go_wp2
 clear hmk
 go_loopw [21] (fun iv wr=> ∃i:Nat,i≤Mx.len n∧iv= .int .i64 i∧Grow (((w.alloc (Obj.cells #[Value.slice A (Mx.len n) c] 24)).alloc (Obj.cells #[Value.slice D (Mx.len m) d] 24)).alloc (Obj.cells #[Value.slice none 0 0] 24)) wr∧Blk wr (w.heap.size+1+1+1) (Mx.mulList (Mx.limbs n) (Mx.limbs m) i++List.replicate (Mx.len n-i) 0)) (fun iv _=>Mx.len n-(intOf iv).toNat)
 case atStart=>
  refine ⟨0,Nat.zero_le _,rfl,(Grow.refl _).alloc _, ?_⟩
  have h:=Blk.made (((w.alloc (Obj.cells #[Value.slice A (Mx.len n) c] 24)).alloc (Obj.cells #[Value.slice D (Mx.len m) d] 24)).alloc (Obj.cells #[Value.slice none 0 0] 24)) (Mx.len n+Mx.len m)
  have e:Mx.mulList (Mx.limbs n) (Mx.limbs m) 0++List.replicate (Mx.len n-0) 0=List.replicate (Mx.len n+Mx.len m) 0:=by
   show List.replicate (Mx.len m) 0++_=_
   rw [List.replicate_append_replicate,Nat.sub_zero,Nat.add_comm]
  rw [e]
  simpa using h
 case round=>
  obtain ⟨i,hi,rfl,hg,hblk⟩:=hrel
  have hgw:Grow w wr:=((((Grow.refl w).alloc _).alloc _).alloc _).trans hg
  obtain ⟨hc1,hc2,hrc,hrz⟩:=hg.new3
  have hr3:w.heap.size+1+1+1<wr.heap.size:=hblk.lt
  by_cases hlt:i<Mx.len n
  ·have hx:=Mx.getD_lt _ (Mx.limbs_lt n) i
   obtain ⟨b1,o1,rfl,hb1,hd1⟩:=(hl.grow hgw).at (Mx.limbs_ne (by omega))
   have hcx:=hd1 i hlt
   clear hd1
   have hround:=mul_round (Mx.limbs n) (Mx.limbs m) i (Mx.len n-(i+1))
   rw [show Mx.len n-(i+1)+1=Mx.len n-i by omega] at hround
   have hlen0:(Mx.mulList (Mx.limbs n) (Mx.limbs m) i++List.replicate (Mx.len n-i) 0).length=Mx.len n+Mx.len m:=by
    rw [List.length_append,Mx.mulList_length,List.length_replicate,show (Mx.limbs m).length=Mx.len m from rfl];omega
   have hbd: ∀y∈Mx.mulList (Mx.limbs n) (Mx.limbs m) i++List.replicate (Mx.len n-i) 0,y<Mx.B:=by
    intro y hy
    rcases List.mem_append.1 hy with hy|hy
    ·exact Mx.mulList_lt (Mx.limbs_lt n) (Mx.limbs_lt m) i y hy
    ·rw [(List.mem_replicate.1 hy).2];exact Mx.B_pos
   have hne:Mx.limbs m≠ []→ ∀b p,D=some ⟨b,p,none⟩→b≠w.heap.size+1+1+1:=by
    rintro hnn b p rfl
    obtain ⟨b2,o2,e2,hb2,_⟩:=hr hnn
    injection e2 with e2
    injection e2 with e2 _ _
    omega
   have HAT:=Lib.hid (addTimes_any wr.drew (w.heap.size+1+1+1) i (Mx.len n+Mx.len m-i) _ D (Mx.limbs m) d ((Mx.limbs n).getD i 0) (by show Mx.len m≤_;omega) (by rw [hlen0];show i+Mx.len m≤_;omega) hblk hbd (hr.grow hgw.drew) (Mx.limbs_lt m) hx hne)
   rw [show (Mx.limbs m).length=Mx.len m from rfl] at HAT hround
   have hi1:(i:Int)<(Mx.len n:Int):=by omega
   have hi2:(i:Int)+(Mx.len m:Int)<(Mx.len n:Int)+(Mx.len m:Int):=by omega
   have hi3:((i:Int)+(Mx.len m:Int)).toNat=i+Mx.len m:=by omega
   have hi4:IntKind.i64.wrap ((i:Int)+(Mx.len m:Int))=(i:Int)+(Mx.len m:Int):=IntWalk.i64_in _ (by omega)
   have hi5: ¬(Mx.len n+Mx.len m=i):=by omega
   have hi6:(i:Int)+(Mx.len m:Int)≤(Mx.len n:Int)+(Mx.len m:Int):=by omega
   have hi7:(i:Int)≤(i:Int)+(Mx.len m:Int):=by omega
   have hi8:(0:Int)≤(i:Int)+(Mx.len m:Int):=by omega
   have hi9:(0:Int)≤(i:Int):=by omega
   have hbA:b1≠w.heap.size+1+1+1:=by
    obtain ⟨b2,o2,e2,hb2,_⟩:=hl (Mx.limbs_ne (by omega))
    injection e2 with e2
    injection e2 with e2 _ _
    omega
   have hlM:=Mx.mulTo_length ((Mx.mulList (Mx.limbs n) (Mx.limbs m) i++List.replicate (Mx.len n-i) 0).drop i) (Mx.limbs m) ((Mx.limbs n).getD i 0) (Mx.len m)
   have hpl:=Mx.patch_length (L:=Mx.mulList (Mx.limbs n) (Mx.limbs m) i++List.replicate (Mx.len n-i) 0) (o:=i) (r:=(Mx.mulTo ((Mx.mulList (Mx.limbs n) (Mx.limbs m) i++List.replicate (Mx.len n-i) 0).drop i) (Mx.limbs m) ((Mx.limbs n).getD i 0) (Mx.len m)).1) (by omega)
   rw [hlen0] at hpl
   generalize (Mx.limbs n).getD i 0=x at*
   generalize Mx.mulTo ((Mx.mulList (Mx.limbs n) (Mx.limbs m) i++List.replicate (Mx.len n-i) 0).drop i) (Mx.limbs m) x (Mx.len m)=mt at*
   generalize Mx.patch (Mx.mulList (Mx.limbs n) (Mx.limbs m) i++List.replicate (Mx.len n-i) 0) i mt.1=pt at*
   have HRD:=Lib.hid hround
   have HPL:=Lib.hid hpl
   have HG:=Lib.hid hg
   clear hround hlM hpl hlen0 hblk hbd hne hrc hrz hg
   go_wp2
   go_region_held3 (fun w'=>w'.cell? ⟨w.heap.size+1,0,none⟩=some (.slice D (Mx.len m) d)) (first|exact hc2|assumption|(rw [World.cell?_setCell_other _ _ _ _ (by intro e;injection e with e1 e2 e3;omega)];assumption)) ((go_at_call 85;refine HAT.out.mono ?_;rintro e w1 ⟨rfl,hon,hbk⟩;have hc2':w1.cell? ⟨w.heap.size+1,0,none⟩=some (.slice D (Mx.len m) d):=(only_cell hon (p:=⟨w.heap.size+1,0,none⟩) (by show w.heap.size+1<wr.heap.size;omega) (by show w.heap.size+1≠w.heap.size+1+1+1;omega)).trans hc2;have hgc:=hbk.cell (i:=i+Mx.len m) (by rw [HPL.out];omega);have hgf:=hbk.frozen (i+Mx.len m);have HBS:=Lib.hid (hbk.set (i+Mx.len m) mt.2);have HON:=Lib.hid hon;clear hon hbk))
   rw [HRD.out] at HBS
   go_wp2
   go_roundw
   case rel=>exact ⟨i+1,by omega,by go_num,Grow.setCell (only_grow HON.out HG.out.drew (by simp)) (by simp) _,HBS.out⟩
   case measure=>simp [intOf];omega
  ·obtain rfl:i=Mx.len n:=by omega
   have hall:=Mx.mulList_all n m
   have hltA:=Mx.mulList_lt (Mx.limbs_lt n) (Mx.limbs_lt m) (Mx.len n)
   have hlenS:=Mx.mulList_length (Mx.limbs n) (Mx.limbs m) (Mx.len n)
   rw [show (Mx.limbs m).length=Mx.len m from rfl] at hlenS
   generalize Mx.mulList (Mx.limbs n) (Mx.limbs m) (Mx.len n)=ss at*
   rw [show Mx.len n-Mx.len n=0 by omega,List.replicate_zero,List.append_nil] at hblk
   have hsl:=hblk.sl hltA
   rw [hlenS] at hsl
   have HK:=Lib.hid (keep_any _ _ ss (by omega) hsl)
   rw [hall] at HK
   have HR:=Lib.hid hrc
   have HZ:=Lib.hid hrz
   clear hall hltA hblk hsl hlenS hrc hrz
   go_wp2_with fail
   refine HK.out.mono ?_
   rintro e w5 ⟨v5,rfl,hk,hg5⟩
   have hr4:w.heap.size+1+1<wr.heap.size:=by omega
   have hrc:w5.cell? ⟨w.heap.size+1+1,0,none⟩=some (.slice none 0 0):=(hg5.cell (p:=⟨w.heap.size+1+1,0,none⟩) hr4).trans HR.out
   have hrz:w5.frozen? ⟨w.heap.size+1+1,0,none⟩=false:=(Below.frozen hg5 (p:=⟨w.heap.size+1+1,0,none⟩) hr4).trans HZ.out
   obtain ⟨A2,c2,rfl,hk2,hl2⟩:=hk
   have hgf:=hgw.trans hg5
   clear HK hg5
   go_wp2_with fail
   refine bodyPost_ret (v:= .agg #[.slice A2 (Mx.len (n*m)) c2]) (by simp [results,Tryz.results54,go_sem,hrc]) rfl (Ret.mk ⟨A2,c2,rfl,hk2,hl2.store hrc _⟩ ?_)
   exact Grow.setCell hgf (by show w.heap.size≤w.heap.size+1+1;omega) _
end Go.Proofs.YthebilnlljkfeaaGreatDoor
namespace Go.Proofs.YthebilnlljkfeaaGreatDoor
open Go.RowKit
def lays129_ren:Go.Shelf.Ren:=⟨fun|129=>62|n=>n,fun|53=>76|3=>3|4=>4|46=>126|5=>5|9=>9|n=>n,fun|n=>n⟩
theorem lays129:Go.Proofs.Lays.n129 Tryz.prog lays129_ren:={
 mixed:=by kernel_rfl
 f129:=Tryz.func62.trans (congrArg some (by kernel_rfl))
 t3:=Tryz.underlying3
 a3:=Tryz.isAgg3
 z3:=Tryz.sizeOf3
 v3:=Tryz.zeroValue3
 t4:=Tryz.underlying4
 a4:=Tryz.isAgg4
 z4:=Tryz.sizeOf4
 v4:=Tryz.zeroValue4
 t5:=Tryz.underlying5
 a5:=Tryz.isAgg5
 z5:=Tryz.sizeOf5
 v5:=Tryz.zeroValue5
 t9:=Tryz.underlying9
 a9:=Tryz.isAgg9
 z9:=Tryz.sizeOf9
 v9:=Tryz.zeroValue9
 t46:=Tryz.underlying126
 a46:=Tryz.isAgg126
 z46:=Tryz.sizeOf126
 v46:=Tryz.zeroValue126
 t53:=Tryz.underlying76
 a53:=Tryz.isAgg76
 z53:=Tryz.sizeOf76
 v53:=Tryz.zeroValue76}
theorem bitLen_bits (x:Nat) (hx:x<Mx.B):Lib.bitLen x=Mx.bits x:=by
 have key: ∀f x,x<2^f→Lib.bitLenAux f x=Mx.bits x:=by
  intro f
  induction f with
  |zero=>
   intro x h
   obtain rfl:x=0:=by simpa using h
   rfl
  |succ f ih=>
   intro x h
   rw [Lib.bitLenAux]
   by_cases h0:x=0
   ·subst h0;rfl
   ·rw [if_neg h0,ih (x/2) (by rw [Nat.pow_succ] at h;omega)]
    by_cases h1:x/2=0
    ·obtain rfl:x=1:=by omega
     rfl
    ·have a:=Mx.bits_le h1
     have b:=Mx.bits_lt (x/2)
     have c:=Mx.bits_pos h1
     have e:2^Mx.bits (x/2)=2^(Mx.bits (x/2) -1)*2:=by rw [←Nat.pow_succ];congr 1;omega
     have:=Mx.bits_unique (n:=x) (k:=Mx.bits (x/2)) (by omega) (by rw [Nat.pow_succ];omega)
     omega
 exact key 64 x hx
theorem len64_any (x:Nat) (hx:x<Mx.B) (w:World):Calls Tryz.prog 62 #[.int .u64 (x:Int)] w fun e w'=>e= .returned (.int .i64 ((Mx.bits x:Nat):Int))∧w=w':=by
 rw [←bitLen_bits x hx]
 refine (Any.bits_Len64 lays129 (x:Int) w (by omega) (by rw [Mx.B_eq] at hx;omega)).mono fun e w' ⟨he,hw⟩=>⟨?_,hw.symm⟩
 rw [he,Int.toNat_natCast]
set_option maxHeartbeats 1000000 in
theorem bits_any (w:World) (v:Value) (n:Nat) (hn:Mx.len n≤17592186044416) (h:IsNat w v n):
  Calls Tryz.prog 32 #[v] w (Ret w fun v' _=>v'= .int .i64 ((Mx.bits n:Nat):Int)):=by
 have HZ:=Lib.hid (fun W (g:Grow w W)=>zero_any W v n (h.grow g))
 obtain ⟨A,c,rfl,hc,hl⟩:=h
 by_cases h0:n=0
 ·subst h0
  simp only [BEq.rfl] at HZ
  go_enter Tryz.func32,Tryz.ntmps32
  go_wp2_with (refine (HZ.out _ ((Grow.refl w).alloc _)).mono ?_;rintro e w1 ⟨v1,rfl,rfl,hg⟩)
  go_ret
  exact Ret.mk rfl (((Grow.refl w).alloc _).trans hg)
 ·have hb:=Mx.bits_limbs h0
  have hx:=Mx.getD_lt _ (Mx.limbs_lt n) (Mx.len n-1)
  have hlp:0<Mx.len n:=by
   rcases Nat.eq_zero_or_pos (Mx.len n) with h1|h1
   ·exact absurd (Mx.eq_zero_of_len h1) h0
   ·exact h1
  have e0:(n==0)=false:=by simpa using h0
  rw [e0] at HZ
  obtain ⟨b1,o1,rfl,hb1,hd1⟩:=hl.at (Mx.limbs_ne hlp)
  have hcx:=hd1 (Mx.len n-1) (by unfold Mx.len at hlp⊢;omega)
  clear hd1 e0
  generalize (Mx.limbs n).getD (Mx.len n-1) 0=x at*
  have HL:=Lib.hid (fun W=>len64_any x hx W)
  have hbx:Mx.bits x≤64:=Mx.bits_le_of_lt (by rw [Mx.B_eq] at hx;omega)
  generalize Mx.bits x=y at*
  have HB:=Lib.hid hb.1
  have hk2:((Mx.len n:Int) -1).toNat=Mx.len n-1:=by omega
  clear hb hx
  go_enter Tryz.func32,Tryz.ntmps32
  go_wp2_with fail
  refine (HZ.out _ ((Grow.refl w).alloc _)).mono ?_
  rintro e w1 ⟨v1,rfl,rfl,hg⟩
  have hgw:Grow w w1:=((Grow.refl w).alloc _).trans hg
  have hcx':=(hgw.cell (p:=⟨b1,o1+(Mx.len n-1),none⟩) hb1).trans hcx
  have hbox:=hg.new.1
  clear hg hcx HZ
  have hp1:(0:Int)<(Mx.len n:Int):=by omega
  go_wp2_with (go_at_call 62;refine (HL.out _).mono ?_;rintro e w' ⟨rfl,rfl⟩)
  go_ret
  exact Ret.mk (by rw [HB.out];simp;omega) hgw
def SameTo (l r:List Nat) (k:Nat):Prop:= ∀j,j<k→l.getD j 0=r.getD j 0
end Go.Proofs.YthebilnlljkfeaaGreatDoor
namespace Go.Proofs.YthebilnlljkfeaaGreatDoor
open Go.RowKit
theorem sl_built (w:World) (l:List Nat) (hb: ∀x∈l,x<Mx.B):Sl (w.alloc (.cells (vals l).toArray 76)) (.slice (some ⟨w.heap.size,0,none⟩) l.length l.length) l:=(Blk.new w l).sl hb
def top:Nat:=18446744073709551615
theorem len_one {x:Nat} (h:x<Mx.B):Mx.len (Mx.val [x])≤1:=Mx.len_val [x] (by intro y hy;simp at hy;rw [hy];exact h)
theorem top_lt:top<Mx.B:=by rw [Mx.B_eq];unfold top;omega
theorem small_lt {x:Nat} (h:x≤1000):x<Mx.B:=by rw [Mx.B_eq];omega
theorem sl_of_row {w:World} {a:Option Addr} {len cap:Nat} {zs:List Int} (h:(a=none∧len=0∧cap=0∧zs= [])∨
  ∃x,a=some x∧len≤cap∧cap≤maxLen∧zs.length=cap∧(∀i,i<zs.length→w.cell? (x.add i)=some (.int .u64 (zs.getD i 0)))∧ ∀n∈zs,(Lit.int .u64 n).wf=true):
  Sl w (.slice a len cap) ((zs.take len).map Int.toNat):=by
 rcases h with ⟨rfl,rfl,rfl,rfl⟩|⟨x,rfl,hl,hm,hz,hc,hw⟩
 ·exact ⟨none,0,rfl,Nat.le_refl _,by simp,Cells.nil _ _⟩
 ·have hlen:((zs.take len).map Int.toNat).length=len:=by simp;omega
  refine ⟨some x,cap,by rw [hlen],by omega, ?_, ?_⟩
  ·intro y hy
   simp only [List.mem_map] at hy
   obtain ⟨z,hz1,rfl⟩:=hy
   have:=bounds_u64 (hw z (List.mem_of_mem_take hz1))
   rw [Mx.B_eq]
   omega
  ·intro hn
   have hp:0<len:=by
    rcases Nat.eq_zero_or_pos len with h0|h0
    ·subst h0;simp at hn
    ·exact h0
   obtain ⟨b,off,rfl,hc2⟩:=ints_at hc (by omega:0<zs.length)
   refine ⟨b,off,rfl,lt_of_cell (hc2 0 (by omega)),fun j y hy=> ?_⟩
   rw [List.getElem?_map] at hy
   obtain ⟨z,hz1,rfl⟩:=Option.map_eq_some_iff.1 hy
   rw [List.getElem?_take] at hz1
   split at hz1
   ·next hj=>
    have h2:=hc2 j (by omega)
    rw [List.getD_eq_getElem?_getD,hz1,Option.getD_some] at h2
    have:=bounds_u64 (hw z (List.mem_of_getElem? hz1))
    rw [h2,Int.toNat_of_nonneg this.1]
   ·cases hz1
def IsN (w:World) (v:Value) (n k:Nat):Prop:=IsNat w v n∧Mx.len n≤k
theorem IsN.grow {w w':World} {v:Value} {n k:Nat} (h:IsN w v n k) (g:Grow w w'):IsN w' v n k:=⟨h.1.grow g,h.2⟩
theorem of_n {w:World} {v:Value} {l:List Nat} (k:Nat) (h:Sl w v l) (hk:l.length≤k) (hm:k≤4294967296):
  Calls Tryz.prog 35 #[v] w (Ret w fun v' w'=>IsN w' v' (Mx.val l) k):=
 (of_any w v l (by omega) h).mono fun _ _ r=>r.mono fun _ _ q=>⟨q,Nat.le_trans (Mx.len_val l (by obtain ⟨_,_,_,_,hb,_⟩:=h;exact hb)) hk⟩
theorem add_n {w:World} {va vb:Value} {n m k j:Nat} (ha:IsN w va n k) (hb:IsN w vb m j) (hk:k≤4294967296) (hj:j≤4294967296):
  Calls Tryz.prog 83 #[va,vb] w (Ret w fun v' w'=>IsN w' v' (n+m) (max k j+1)):=
 (add_any w va vb n m (Nat.le_trans ha.2 hk) (Nat.le_trans hb.2 hj) ha.1 hb.1).mono fun _ _ r=>r.mono fun _ _ q=>⟨q,by
  have h1:=Mx.len_add n m
  have h2:=ha.2
  have h3:=hb.2
  omega⟩
theorem mul_n {w:World} {va vb:Value} {n m k j:Nat} (ha:IsN w va n k) (hb:IsN w vb m j) (hk:k≤4294967296) (hj:j≤4294967296):
  Calls Tryz.prog 54 #[va,vb] w (Ret w fun v' w'=>IsN w' v' (n*m) (k+j)):=
 (mul_any w va vb n m (Nat.le_trans ha.2 hk) (Nat.le_trans hb.2 hj) ha.1 hb.1).mono fun _ _ r=>r.mono fun _ _ q=>⟨q,by
  have h1:=Mx.len_mul n m
  have h2:=ha.2
  have h3:=hb.2
  omega⟩
theorem sub_n {w:World} {va vb:Value} {n m k j:Nat} (ha:IsN w va n k) (hb:IsN w vb m j) (hk:k≤4294967296) (hle:m≤n):
  Calls Tryz.prog 84 #[va,vb] w (Ret w fun v' w'=> ∃u,v'= .tuple #[u, .bool true]∧IsN w' u (n-m) k):=
 (sub_ok w va vb n m (Nat.le_trans ha.2 hk) ha.1 hb.1 hle).mono fun _ _ r=>r.mono fun _ _ ⟨u,e,q⟩=>⟨u,e,q,Nat.le_trans (Mx.len_sub n m) ha.2⟩
theorem cmp_n {w:World} {va vb:Value} {n m k j:Nat} (ha:IsN w va n k) (hb:IsN w vb m j) (hk:k≤4294967296):
  Calls Tryz.prog 37 #[va,vb] w (Ret w fun v' _=>v'= .int .i64 (Mx.cmp n m)):=
 cmp_any w va vb n m (by have:=ha.2;omega) ha.1 hb.1
theorem cmp_n0 {w:World} {va vb:Value} {n m k j:Nat} (ha:IsN w va n k) (hb:IsN w vb m j) (hk:k≤4294967296) (he:n=m):
  Calls Tryz.prog 37 #[va,vb] w (Ret w fun v' _=>v'= .int .i64 0):=by
 have h:=cmp_n ha hb hk
 rwa [Mx.cmp_eq he] at h
theorem zero_n {w:World} {v:Value} {n k:Nat} (h:IsN w v n k):Calls Tryz.prog 34 #[v] w (Ret w fun v' _=>v'= .bool (n==0)):=zero_any w v n h.1
theorem bits_n {w:World} {v:Value} {n k:Nat} (h:IsN w v n k) (hk:k≤4294967296):Calls Tryz.prog 32 #[v] w (Ret w fun v' _=>v'= .int .i64 ((Mx.bits n:Nat):Int)):=
 bits_any w v n (by have:=h.2;omega) h.1
theorem IsN.zero (w:World):IsN w (.agg #[.slice none 0 0]) 0 0:=⟨⟨none,0,rfl,Nat.le_refl _,Cells.nil _ _⟩,Nat.le_refl _⟩
end Go.Proofs.YthebilnlljkfeaaGreatDoor
namespace Go.Proofs.YthebilnlljkfeaaGreatDoor
open Go.RowKit
theorem IsN.weak {w:World} {v:Value} {n k j:Nat} (h:IsN w v n k) (hk:k≤j):IsN w v n j:=⟨h.1,Nat.le_trans h.2 hk⟩
def VarN (w:World) (k n b:Nat):Prop:= ∃A l c,w.cell? ⟨k,0,none⟩=some (.slice A l c)∧IsN w (.agg #[.slice A l c]) n b
theorem VarN.grow {w w':World} {k n b:Nat} (h:VarN w k n b) (g:Grow w w'):VarN w' k n b:=by
 obtain ⟨A,l,c,h1,h2⟩:=h
 exact ⟨A,l,c,g.cells1 h1,h2.grow g⟩
theorem VarN.new {w w':World} {A:Option Addr} {l c n b:Nat} (h:IsN w (.agg #[.slice A l c]) n b) (g:Grow (w.alloc (Obj.cells #[Value.slice A l c] 24)) w'):VarN w' w.heap.size n b:=
 ⟨A,l,c,g.new.1,h.grow (((Grow.refl w).alloc _).trans g)⟩
theorem VarN.new2 {w w':World} {A D:Option Addr} {l c l' c' n b m d:Nat} (h:IsN w (.agg #[.slice A l c]) n b) (h':IsN w (.agg #[.slice D l' c']) m d)
  (g:Grow ((w.alloc (Obj.cells #[Value.slice A l c] 24)).alloc (Obj.cells #[Value.slice D l' c'] 24)) w'):VarN w' w.heap.size n b∧VarN w' (w.heap.size+1) m d:=
 ⟨⟨A,l,c,g.new2.1,h.grow ((((Grow.refl w).alloc _).alloc _).trans g)⟩,⟨D,l',c',g.new2.2,h'.grow ((((Grow.refl w).alloc _).alloc _).trans g)⟩⟩
theorem one_n (w:World) (x:Nat) (hx:x≤1000):Calls Tryz.prog 35 #[.slice (some ⟨w.heap.size,0,none⟩) 1 1] (w.alloc (.cells #[.int .u64 (x:Int)] 76)) (Ret (w.alloc (.cells #[.int .u64 (x:Int)] 76)) fun v' w'=>IsN w' v' x 1):=by
 have h:=of_n 1 (sl_built w [x] (by intro y hy;simp at hy;rw [hy];exact small_lt hx)) (by simp) (by omega)
 rw [Mx.val_one] at h
 exact h
theorem one_at {w:World} {k:Nat} {x:Nat} (hk:w.heap.size=k) (hx:x≤1000):Calls Tryz.prog 35 #[.slice (some ⟨k,0,none⟩) 1 1] (w.alloc (.cells #[.int .u64 (x:Int)] 76)) (Ret (w.alloc (.cells #[.int .u64 (x:Int)] 76)) fun v' w'=>IsN w' v' x 1):=by
 subst hk
 exact one_n w x hx
theorem IsN.cell {w:World} {v:Value} {n k:Nat} (h:IsN w v n k): ∃A l c,v= .agg #[.slice A l c]:=by
 obtain ⟨⟨A,c,e,_,_⟩,_⟩:=h
 exact ⟨A,_,c,e⟩
theorem two_new {w W:World} {v u:Value} {t:TypeId} (h:Grow ((w.alloc (Obj.cells #[v] t)).alloc (Obj.cells #[u] t)) W):W.cell? ⟨w.heap.size,0,none⟩=some v∧W.cell? ⟨w.heap.size+1,0,none⟩=some u:=h.new2
theorem num_n (w:World) (x:Nat) (hx:x<Mx.B):Calls Tryz.prog 35 #[.slice (some ⟨w.heap.size,0,none⟩) 1 1] (w.alloc (.cells #[.int .u64 (x:Int)] 76)) (Ret (w.alloc (.cells #[.int .u64 (x:Int)] 76)) fun v w'=>IsN w' v x 1):=by
 have h:=of_n 1 (sl_built w [x] (by intro y hy;simp at hy;rw [hy];exact hx)) (by simp) (by omega)
 rw [Mx.val_one] at h
 exact h
theorem num_at {w:World} {k:Nat} {x:Nat} (hk:w.heap.size=k) (hx:x<Mx.B):Calls Tryz.prog 35 #[.slice (some ⟨k,0,none⟩) 1 1] (w.alloc (.cells #[.int .u64 (x:Int)] 76)) (Ret (w.alloc (.cells #[.int .u64 (x:Int)] 76)) fun v w'=>IsN w' v x 1):=by
 subst hk
 exact num_n w x hx
end Go.Proofs.YthebilnlljkfeaaGreatDoor
