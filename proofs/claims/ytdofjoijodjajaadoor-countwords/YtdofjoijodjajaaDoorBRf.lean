/- One text out of: OneS, RefT, RefP, DivMath, RefG, RefH. -/
import Derived.Test.YtdofjoijodjajaaDoorBDig
import Derived.Test.YtdofjoijodjajaaDoorBRef
import Derived.Laws.AppendOwnNone
import Derived.Deep.CutBlock
import Derived.Deep.DeepCutAuto
import Derived.Deep.CutRange
import Derived.Deep.LoopGhost
namespace Go.Proofs.YtdofjoijodjajaaDoor
open Go.RowKit
set_option maxRecDepth 20000
theorem one_string (w:World) (c:UInt8) (g:Nat) (hg:w.heap.size=g):(convert 68 9 (.slice (some ⟨g,0,none⟩) 1 1)).run Tryd.prog (w.alloc (Obj.cells #[.int .u8 (c.toNat:Int)] 5))= .ok (.string (str [c])) (w.alloc (Obj.cells #[.int .u8 (c.toNat:Int)] 5)):=by
 subst hg
 refine run_convert_bytes_back (w.alloc (Obj.cells #[.int .u8 (c.toNat:Int)] 5)) _ _ 5 ⟨w.heap.size,0,none⟩ 1 [c] Tryd.underlying68 Tryd.underlying5 Tryd.underlying9 fun j hj=> ?_
 match j,hj with
 |0,_=>simp [Addr.add,go_sem]
 |j+1,h=>simp at h
theorem ok_many {c:UInt8} (k:Nat) (hk:k≠0) (hc:Tx.isDig c) (h0:c≠48):Tx.okText (List.replicate k c):=by
 refine ⟨fun b hb=>by rw [(List.mem_replicate.1 hb).2];exact hc, .inr ⟨by simpa using hk, ?_⟩⟩
 obtain ⟨j,rfl⟩: ∃j,k=j+1:=⟨k-1,by omega⟩
 rw [List.replicate_succ]
 simpa using h0
end Go.Proofs.YtdofjoijodjajaaDoor
namespace Go.Proofs.YtdofjoijodjajaaDoor
open Go.RowKit
set_option maxRecDepth 20000
theorem dlimbs_one:Dx.limbs 1= [1]:=by decide
end Go.Proofs.YtdofjoijodjajaaDoor
namespace Go.Proofs.YtdofjoijodjajaaDoor
open Go.RowKit
set_option maxRecDepth 20000
theorem dlimb_at (n:Nat): ∀i,(Dx.limbs n).getD i 0=n/10^(4*i)%10000:=by
 intro i
 induction i generalizing n with
 |zero=>
  rcases Nat.eq_zero_or_pos n with rfl|h
  ·rfl
  ·rw [Dx.limbs_pos n (by omega)]
   simp [Dx.B_eq]
 |succ i ih=>
  rcases Nat.eq_zero_or_pos n with rfl|h
  ·rw [Dx.limbs_zero];simp
  ·rw [Dx.limbs_pos n (by omega),List.getD_cons_succ,ih,Nat.div_div_eq_div_mul,Dx.B_eq]
   congr 2
   rw [Nat.mul_succ,Nat.pow_add,Nat.mul_comm]
theorem dnum_lt (n:Nat):n<10^(4*Dx.len n):=by
 have h:=Dx.lt_pow_len n
 have e:Dx.B^Dx.len n=10^(4*Dx.len n):=by rw [Nat.pow_mul];rfl
 rwa [e] at h
theorem cat_str (c:UInt8) (l:List UInt8):str [c]++str l=str (c::l):=by
 apply ByteArray.ext
 simp [str]
theorem digit_of (x j:Nat) (hj:j<4):x%10000/10^j%10=x/10^j%10:=by
 match j,hj with
 |0,_=>simp
 |1,_=>simp;omega
 |2,_=>simp;omega
 |3,_=>simp;omega
end Go.Proofs.YtdofjoijodjajaaDoor
namespace Go.Proofs.YtdofjoijodjajaaDoor.Dx
theorem div_step {b d v:Nat} (hb:0<b) (hd:d<B):
  (d+B*v)/b=(d+B*(v%b))/b+B*(v/b)∧(d+B*v)%b=(d+B*(v%b))%b∧(d+B*(v%b))/b<B:=by
 have hv:v=v%b+b*(v/b):=(Nat.mod_add_div v b).symm
 have e:d+B*v=(d+B*(v%b))+b*(B*(v/b)):=by
  rw [show B*v=B*(v%b)+B*(b*(v/b)) by rw [←Nat.mul_add,←hv],Nat.mul_left_comm]
  omega
 refine ⟨?_, ?_, ?_⟩
 ·rw [e,Nat.add_mul_div_left _ _ hb]
 ·rw [e,Nat.add_mul_mod_self_left]
 ·have hr:v%b<b:=Nat.mod_lt _ hb
  rw [Nat.div_lt_iff_lt_mul hb]
  have:B*(v%b)+B≤B*b:=by
   rw [←Nat.mul_succ]
   exact Nat.mul_le_mul_left _ hr
  omega
theorem search_low {b r m:Nat} (hb:0<b) (h:b*m≤r):m≤r/b:=(Nat.le_div_iff_mul_le hb).2 (by rw [Nat.mul_comm];exact h)
theorem search_high {b r m:Nat} (hb:0<b) (hm:0<m) (h:r<b*m):r/b≤m-1:=by
 have:r/b<m:=(Nat.div_lt_iff_lt_mul hb).2 (by rw [Nat.mul_comm];exact h)
 omega
theorem search_mid {low high:Nat} (h:low<high):low<(low+high+1)/2∧(low+high+1)/2≤high:=by omega
theorem rest_sub {b r:Nat}:r-b*(r/b)=r%b:=by have:=Nat.mod_add_div r b;omega
theorem val_drop (l:List Nat) (i:Nat) (h:i<l.length):val (l.drop i)=l.getD i 0+B*val (l.drop (i+1)):=by
 rw [List.drop_eq_getElem_cons h]
 simp [val,List.getD_eq_getElem?_getD,List.getElem?_eq_getElem h]
theorem quot_step {l q:List Nat} {b i:Nat} (hb:0<b) (hl: ∀x∈l,x<B) (h:i<l.length) (hq:val q=val (l.drop (i+1))/b):
  val ((l.getD i 0+B*(val (l.drop (i+1))%b))/b::q)=val (l.drop i)/b∧(l.getD i 0+B*(val (l.drop (i+1))%b))%b=val (l.drop i)%b∧(l.getD i 0+B*(val (l.drop (i+1))%b))/b<B:=by
 obtain ⟨e1,e2,e3⟩:=div_step (d:=l.getD i 0) (v:=val (l.drop (i+1))) hb (getD_lt l hl i)
 rw [val_drop l i h]
 refine ⟨?_,e2.symm,e3⟩
 rw [e1,←hq]
 rfl
end Go.Proofs.YtdofjoijodjajaaDoor.Dx
namespace Go.Proofs.YtdofjoijodjajaaDoor
open Go.RowKit
theorem BlkD.grow {w w':World} {g:Nat} {l:List Nat} (h:BlkD w g l) (k:Grow w w'):BlkD w' g l:=(k.block g h.lt).trans h
theorem dset_zero (j x:Nat) (qs:List Nat):(List.replicate (j+1) 0++qs).set j x=List.replicate j 0++x::qs:=by
 rw [List.replicate_succ',List.append_assoc,List.singleton_append]
 have hs:(List.replicate j (0:Nat)).length=j:=List.length_replicate ..
 rw [List.set_append_right _ _ (by omega),hs,Nat.sub_self]
 rfl
theorem dcell_zero {w:World} {g j:Nat} {qs:List Nat} (h:BlkD w g (List.replicate (j+1) 0++qs)): ∃z:Nat,w.cell? ⟨g,j,none⟩=some (.int .i64 (z:Int)):=
 ⟨_,h.cell (i:=j) (by rw [List.length_append,List.length_replicate];omega)⟩
theorem IsD.open {w:World} {v:Value} {n k:Nat} (h:IsD w v n k):(∃c,v= .slice none 0 c∧n=0)∨ ∃ad c,v= .slice (some ad) (Dx.len n) c∧ ∀(j:Nat) u,(valsD (Dx.limbs n))[j]? =some u→w.cell? (ad.add j)=some u:=by
 obtain ⟨A,c,rfl,hc,hl,hk⟩:=h
 by_cases hn:Dx.limbs n= []
 ·have h0:Dx.len n=0:=by unfold Dx.len;rw [hn];rfl
  cases A with
  |none=>exact .inl ⟨c,by rw [h0],by rw [←Dx.val_limbs n,hn];rfl⟩
  |some ad=>exact .inr ⟨ad,c,rfl,by rw [hn];intro j u h;simp [valsD] at h⟩
 ·obtain ⟨b,o,rfl,hb,hcl⟩:=hl hn
  refine .inr ⟨_,c,rfl,fun j u hu=> ?_⟩
  rw [valsD_get] at hu
  obtain ⟨x,hx,rfl⟩:=Option.map_eq_some_iff.1 hu
  have e:(Addr.mk b o none).add j=⟨b,o+j,none⟩:=by unfold Addr.add;split<;>simp_all
  rw [e]
  exact hcl j x hx
theorem append_zero (base:Nat) (t ty e:TypeId) (i:TypeInfo) (size:Nat) {P:Program} {w:World} (ht:P.underlying t=some (.slice e)) (hi:P.info? e=some i)
  (v:Value) (n c:Nat) (xs:List Value) (hown:w.ownsRow base e size v n xs):(Builtin.append_ #[t,t] ty #[v, .slice none 0 c]).run P w= .ok v w:=by
 rcases hown.2 with ⟨rfl,rfl⟩|⟨g,cap,cur,rfl,_,_,hnc,_⟩
 ·simp [Builtin.append_,run_underlying ht,sizeOf,typeInfo,hi,Builtin.lenOf,Builtin.firstCells]
 ·simp [Builtin.append_,run_underlying ht,sizeOf,typeInfo,hi,Builtin.lenOf,Builtin.firstCells,hnc,storeCells]
theorem wpList_append_zero {P:Program} {w:World} {ops:Array Oper} {rest:List Oper} {o:Oper} {a:Act} {Q:Exit→Act→World→Prop} (hgd:o.guard=none) (s x:Operand) (t:TypeId)
  (ho:o.op= .call {callee:= .builtin .append,args:= #[s,x],argTypes:= #[t,t]})
  (base:Nat) (e:TypeId) (i:TypeInfo) (size:Nat) (ht:P.underlying t=some (.slice e)) (hi:P.info? e=some i)
  (v:Value) (n c:Nat) (xs:List Value) (hs:a.eval s=v) (hown:w.ownsRow base e size v n xs) (hx:a.eval x= .slice none 0 c)
  (h:wpList P ops Q rest (a.put o.dst v) w):wpList P ops Q (o::rest) a w:=by
 refine wpList_plain hgd fun K hK=> ?_
 have hrun:=append_zero (P:=P) (w:=w) base t o.type e i size ht hi v n c xs hown
 unfold Oper.wp
 simp [execOp,ho,resolve,invoke,builtin,hs,hx,hrun,Result.andThen]
 exact hK _ _ h
theorem CellsD.far {w:World} {A:Option Addr} {l:List Nat} (h:CellsD w A l) {p:Addr} (hp: ∀a,A=some a→a.block≠p.block) (u:Value):CellsD (w.setCell p u) A l:=fun hn=>by
 obtain ⟨b,o,e,hb,hc⟩:=h hn
 have hne: ¬p.block=b:=fun e2=>hp _ e e2.symm
 obtain ⟨cs,fr,hb⟩:=hb
 refine ⟨b,o,e,⟨cs,fr,by simp [World.setCell,Array.getElem?_modify,hne,hb]⟩,fun j x hx=> ?_⟩
 rw [World.cell?_setCell_other w p ⟨b,o+j,none⟩ u (fun e2=>hp _ e (by rw [e2]))]
 exact hc j x hx
def DivP (w wr:World) (x r:Nat) (v9:Value) (W:World):Prop:=
 ∃A9 c9,v9= .slice A9 (x::Dx.limbs r).length c9∧(x::Dx.limbs r).length≤c9∧CellsD W A9 (x::Dx.limbs r)∧(∀a,A9=some a→a.block≠w.heap.size)∧Grow wr W
def DivD (w wr:World) (g n m j k i:Nat) (rv:Value):Prop:=
 ∃qs:List Nat,qs.length+i=k∧(∀x∈qs,x<Dx.B)∧Dx.val qs=Dx.val ((Dx.limbs n).drop i)/m∧IsD wr rv (Dx.val ((Dx.limbs n).drop i)%m) j∧Grow w wr∧BlkD wr g (List.replicate i 0++qs)
theorem dlen_mod {n m j:Nat} (hm:0<m) (h:Dx.len m≤j):Dx.len (n%m)≤j:=Nat.le_trans (Dx.len_mono (Nat.le_of_lt (Nat.mod_lt _ hm))) h
end Go.Proofs.YtdofjoijodjajaaDoor
namespace Go.Proofs.YtdofjoijodjajaaDoor
open Go.RowKit
theorem pow2_lt {t s:Nat} (h:t<s):2^t<2^s:=Nat.pow_lt_pow_right (by omega) h
theorem dlen_pow {t:Nat} (h:t≤300):Dx.len (2^t)≤40:=by
 have:=dlen_bound (n:=2^t) (L:=5) (Nat.lt_of_lt_of_eq (pow2_lt (s:=64*5) (by omega)) (Mx.B_pow 5).symm)
 omega
end Go.Proofs.YtdofjoijodjajaaDoor
