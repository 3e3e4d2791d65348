/- One text out of: OneS, RefT, RefP, DivMath, RefG, RefH. -/
import Derived.Test.YthebilnlljkfeaaGreatDoorBDig
import Derived.Test.YthebilnlljkfeaaGreatDoorBRef
import Derived.Laws.AppendOwnNone
import Derived.Deep.CutBlock
import Derived.Deep.DeepCutAuto
import Derived.Deep.CutRange
import Derived.Deep.LoopGhost
namespace Go.Proofs.YthebilnlljkfeaaGreatDoor
open Go.RowKit
set_option maxRecDepth 20000
theorem one_string (w:World) (c:UInt8) (g:Nat) (hg:w.heap.size=g):(convert 103 9 (.slice (some ⟨g,0,none⟩) 1 1)).run Tryz.prog (w.alloc (Obj.cells #[.int .u8 (c.toNat:Int)] 5))= .ok (.string (str [c])) (w.alloc (Obj.cells #[.int .u8 (c.toNat:Int)] 5)):=by
 subst hg
 refine run_convert_bytes_back (w.alloc (Obj.cells #[.int .u8 (c.toNat:Int)] 5)) _ _ 5 ⟨w.heap.size,0,none⟩ 1 [c] Tryz.underlying103 Tryz.underlying5 Tryz.underlying9 fun j hj=> ?_
 match j,hj with
 |0,_=>simp [Addr.add,go_sem]
 |j+1,h=>simp at h
theorem ok_many {c:UInt8} (k:Nat) (hk:k≠0) (hc:Tx.isDig c) (h0:c≠48):Tx.okText (List.replicate k c):=by
 refine ⟨fun b hb=>by rw [(List.mem_replicate.1 hb).2];exact hc, .inr ⟨by simpa using hk, ?_⟩⟩
 obtain ⟨j,rfl⟩: ∃j,k=j+1:=⟨k-1,by omega⟩
 rw [List.replicate_succ]
 simpa using h0
end Go.Proofs.YthebilnlljkfeaaGreatDoor
namespace Go.Proofs.YthebilnlljkfeaaGreatDoor
open Go.RowKit
set_option maxRecDepth 20000
theorem dlimbs_one:Dx.limbs 1= [1]:=by decide
theorem isD_1 (w:World):IsD (w.alloc (Obj.cells #[.int .i64 1] 3)) (.slice (some ⟨w.heap.size,0,none⟩) 1 1) 1 1:=by
 have e:Dx.len 1=1:=by unfold Dx.len;rw [dlimbs_one];rfl
 refine ⟨some ⟨w.heap.size,0,none⟩,1,by rw [e],by rw [e];exact Nat.le_refl _, ?_,by rw [e];exact Nat.le_refl _⟩
 rw [dlimbs_one]
 exact fun _=>⟨w.heap.size,0,rfl,⟨_,_,heap_alloc_new w _⟩,fun j x hj=>by
  match j,hj with
  |0,hj=>simp at hj;subst hj;simp [go_sem]⟩
end Go.Proofs.YthebilnlljkfeaaGreatDoor
namespace Go.Proofs.YthebilnlljkfeaaGreatDoor
open Go.RowKit
set_option maxRecDepth 20000
theorem dlimb_at (n:Nat): ∀i,(Dx.limbs n).getD i 0=n/10^(4*i)%10000:=by
 intro i
 induction i generalizing n with
 |zero=>
  rcases Nat.eq_zero_or_pos n with rfl|h
  ·rfl
  ·rw [Dx.limbs_pos n (by omega)]
   simp [Dx.B_eq]
 |succ i ih=>
  rcases Nat.eq_zero_or_pos n with rfl|h
  ·rw [Dx.limbs_zero];simp
  ·rw [Dx.limbs_pos n (by omega),List.getD_cons_succ,ih,Nat.div_div_eq_div_mul,Dx.B_eq]
   congr 2
   rw [Nat.mul_succ,Nat.pow_add,Nat.mul_comm]
theorem dnum_lt (n:Nat):n<10^(4*Dx.len n):=by
 have h:=Dx.lt_pow_len n
 have e:Dx.B^Dx.len n=10^(4*Dx.len n):=by rw [Nat.pow_mul];rfl
 rwa [e] at h
theorem cat_str (c:UInt8) (l:List UInt8):str [c]++str l=str (c::l):=by
 apply ByteArray.ext
 simp [str]
theorem digit_of (x j:Nat) (hj:j<4):x%10000/10^j%10=x/10^j%10:=by
 match j,hj with
 |0,_=>simp
 |1,_=>simp;omega
 |2,_=>simp;omega
 |3,_=>simp;omega
set_option maxHeartbeats 2000000 in
theorem refPrint_any (w:World) (va:Value) (n k:Nat) (ha:IsD w va n k) (hk:k≤1000000):
  Calls Tryz.prog 41 #[va] w (Ret w fun v' _=>v'= .string (str (Tx.text n))):=by
 obtain ⟨A,c,rfl,hc,hl,hkn⟩:=ha
 by_cases h0:n=0
 ·have hl0:Dx.len n=0:=by rw [h0];rfl
  have HT:Hid (Tx.text n= [48]):=Lib.hid (by rw [h0];exact Tx.text_zero)
  rw [hl0]
  clear h0 hl0 hl hc hkn
  go_enter Tryz.func41,Tryz.ntmps41
  go_wp2_with fail
  go_ret
  exact Ret.mk (by rw [HT.out];rfl) (Grow.refl _)
 have hlp:0<Dx.len n:=by
  rcases Nat.eq_zero_or_pos (Dx.len n) with h|h
  ·exact absurd (Dx.eq_zero_of_len h) h0
  ·exact h
 have HTR:Hid ((Tx.dgt (4*Dx.len n) n).dropWhile (· ==48)=Tx.text n):=Lib.hid (Tx.trim_dgt (dnum_lt n) h0)
 have hlp': ¬(Dx.len n:Int)=0:=by omega
 have hb0:((Dx.len n:Int)==0)=false:=beq_eq_false_iff_ne.2 hlp'
 clear h0 hlp'
 have HCL:=Lib.hid hl
 clear hl
 go_enter Tryz.func41,Tryz.ntmps41
 go_wp2_with fail
 go_loopw [3,4] (fun sv iv wr=> ∃i:Nat,i≤Dx.len n∧iv= .int .i64 (i:Int)∧sv= .string (str (Tx.dgt (4*i) n))∧Grow w wr) (fun _ iv _=>Dx.len n-(intOf iv).toNat)
 case atStart=>exact ⟨0,Nat.zero_le _,rfl,rfl,Grow.refl _⟩
 case round=>
  obtain ⟨i,hi,rfl,rfl,hg⟩:=hrel
  by_cases hlt:i<Dx.len n
  ·obtain ⟨bk,o,rfl,hbk,hcell⟩:=(HCL.out.grow hg).at (Dx.limbs_ne hlp)
   have hcx:=hcell i hlt
   have hdl:=dlimb_at n i
   have HDL:=Lib.hid hdl
   clear hdl hcell
   generalize (Dx.limbs n).getD i 0=d0 at*
   have hd0:d0<10000:=by rw [HDL.out];omega
   go_wp2_with fail
   go_loopw [3,5,6] (fun sv dv kv wq=> ∃j:Nat,j≤4∧kv= .int .i64 (j:Int)∧dv= .int .i64 ((d0/10^j:Nat):Int)∧sv= .string (str (Tx.dgt (4*i+j) n))∧Grow w wq) (fun _ _ kv _=>4-(intOf kv).toNat)
   case atStart=>exact ⟨0,by omega,rfl,by simp,rfl,hg⟩
   case round=>
    obtain ⟨j,hj,rfl,rfl,rfl,hq⟩:=hrel
    clear hcx hbk
    by_cases hj4:j<4
    ·have hj':(j:Int)<4:=by omega
     obtain ⟨cc,hcc⟩: ∃cc:UInt8,cc=UInt8.ofNat (48+d0/10^j%10):=⟨_,rfl⟩
     have hct:cc.toNat=48+d0/10^j%10:=by rw [hcc,Tx.digit_toNat]
     have hnext:cc::Tx.dgt (4*i+j) n=Tx.dgt (4*i+(j+1)) n:=by
      have e:d0/10^j%10=n/10^(4*i+j)%10:=by
       rw [HDL.out,digit_of _ _ hj4,Nat.div_div_eq_div_mul,←Nat.pow_add]
      rw [hcc,e,dgt_step]
      rfl
     have hdn:d0/10^(j+1)=d0/10^j/10:=by rw [Nat.pow_succ,Nat.div_div_eq_div_mul]
     have hle:d0/10^j≤d0:=Nat.div_le_self _ _
     have hcat:=cat_str cc (Tx.dgt (4*i+j) n)
     have hs0:(str (Tx.dgt (4*i+j) n)).size≤4000004:=by rw [str_size,Tx.dgt_length];omega
     rw [hnext] at hcat
     have HDN:=Lib.hid hdn
     clear hnext hdn hcc
     generalize str (Tx.dgt (4*i+j) n)=s0 at*
     generalize hs1:str (Tx.dgt (4*i+(j+1)) n)=s1 at*
     have HS1:=Lib.hid hs1
     clear hs1
     generalize d0/10^j=x at*
     have h48:48+(x:Int)%10=(cc.toNat:Int):=by omega
     have h256:(cc.toNat:Int)%256=(cc.toNat:Int):=by omega
     clear hct
     have hcv:=one_string wr cc wr.heap.size rfl
     go_wp2_with fail
     refine ⟨⟨j+1,by omega,by go_num, ?_,by rw [HS1.out],hq.alloc _⟩,by simp [intOf];omega⟩
     rw [HDN.out]
     congr 1
    ·have he:j=4:=by omega
     subst he
     have hlt':(i:Int)<(Dx.len n:Int):=by omega
     go_wp2_with fail
     go_roundw
     case rel=>exact ⟨i+1,by omega,by go_num,by rw [Nat.mul_succ],hq⟩
     case measure=>simp [intOf];omega
  ·have he:i=Dx.len n:=by omega
   subst he
   have hlt': ¬(Dx.len n:Int)<(Dx.len n:Int):=by omega
   obtain ⟨l,hld⟩: ∃l,Tx.dgt (4*Dx.len n) n=l:=⟨_,rfl⟩
   rw [hld] at HTR⊢
   have hll:l.length≤4000000:=by rw [←hld,Tx.dgt_length];omega
   clear hld HCL
   have hsz:(str l).size=l.length:=str_size l
   have hby:bytesOf (str l)=l:=rfl
   generalize str l=sl at*
   have HBY:=Lib.hid hby
   clear hby
   go_wp2_with fail
   go_loop [7] (fun iv=> ∃i:Nat,i≤l.length∧iv= .int .i64 (i:Int)∧ ∀(q:Nat) b,q<i→l[q]? =some b→b=48) (fun iv=>l.length-(intOf iv).toNat)
   case atStart=>exact ⟨0,Nat.zero_le _,rfl,fun q b hq=>absurd hq (Nat.not_lt_zero _)⟩
   case round=>
    obtain ⟨i,hi,rfl,hz⟩:=hrel
    have hil:i<l.length:=by
     rcases Nat.lt_or_ge i l.length with h|h
     ·exact h
     ·have e:=Lib.trimLeftB_drop l 48 i hi hz (fun b hb=>by rw [List.getElem?_eq_none h] at hb;cases hb)
      have e2:Tx.text n=l.drop i:=by rw [←HTR.out];exact e
      rw [List.drop_of_length_le h] at e2
      exact absurd e2 (Tx.text_ne_nil n)
    have hi2:i<sl.size:=by omega
    have hat:=byte_at sl i hi2
    rw [HBY.out] at hat
    have HZ:=Lib.hid hz
    have hk48:(48:UInt8).toNat=48:=rfl
    clear hz
    have hil':(i:Int)<(sl.size:Int):=by omega
    by_cases h48:(sl[i]'hi2)=48
    ·have h48':((sl[i]'hi2).toNat:Int)=48:=by rw [h48];rfl
     have HA:=Lib.hid (And.intro hat h48)
     clear hat h48
     go_wp2_with fail
     refine ⟨⟨i+1,by omega,by go_num,fun q b hq hb=> ?_⟩,by simp [intOf];omega⟩
     by_cases e:q=i
     ·subst e
      rw [HA.out.1] at hb
      injection hb with hb
      rw [←hb]
      exact HA.out.2
     ·exact HZ.out q b (by omega) hb
    ·have h48': ¬((sl[i]'hi2).toNat:Int)=48:=fun e=>h48 (UInt8.toNat_inj.1 (by omega))
     have HE:Hid (str (Tx.text n)=sl.extract i l.length):=Lib.hid (by
      have e:=Lib.trimLeftB_drop l 48 i hi HZ.out (fun b hb=>by
       rw [hat] at hb
       injection hb with hb
       rw [←hb]
       exact h48)
      have e2:Tx.text n=l.drop i:=by rw [←HTR.out];exact e
      rw [e2,Lib.extract_eq]
      show str (l.drop i)=str (((bytesOf sl).drop i).take (l.length-i))
      rw [HBY.out,List.take_of_length_le (by simp)])
     clear h48 hat
     go_wp2_with fail
     go_ret
     exact Ret.mk (by rw [HE.out];rfl) hg
end Go.Proofs.YthebilnlljkfeaaGreatDoor
namespace Go.Proofs.YthebilnlljkfeaaGreatDoor.Dx
theorem div_step {b d v:Nat} (hb:0<b) (hd:d<B):
  (d+B*v)/b=(d+B*(v%b))/b+B*(v/b)∧(d+B*v)%b=(d+B*(v%b))%b∧(d+B*(v%b))/b<B:=by
 have hv:v=v%b+b*(v/b):=(Nat.mod_add_div v b).symm
 have e:d+B*v=(d+B*(v%b))+b*(B*(v/b)):=by
  rw [show B*v=B*(v%b)+B*(b*(v/b)) by rw [←Nat.mul_add,←hv],Nat.mul_left_comm]
  omega
 refine ⟨?_, ?_, ?_⟩
 ·rw [e,Nat.add_mul_div_left _ _ hb]
 ·rw [e,Nat.add_mul_mod_self_left]
 ·have hr:v%b<b:=Nat.mod_lt _ hb
  rw [Nat.div_lt_iff_lt_mul hb]
  have:B*(v%b)+B≤B*b:=by
   rw [←Nat.mul_succ]
   exact Nat.mul_le_mul_left _ hr
  omega
theorem search_low {b r m:Nat} (hb:0<b) (h:b*m≤r):m≤r/b:=(Nat.le_div_iff_mul_le hb).2 (by rw [Nat.mul_comm];exact h)
theorem search_high {b r m:Nat} (hb:0<b) (hm:0<m) (h:r<b*m):r/b≤m-1:=by
 have:r/b<m:=(Nat.div_lt_iff_lt_mul hb).2 (by rw [Nat.mul_comm];exact h)
 omega
theorem search_mid {low high:Nat} (h:low<high):low<(low+high+1)/2∧(low+high+1)/2≤high:=by omega
theorem rest_sub {b r:Nat}:r-b*(r/b)=r%b:=by have:=Nat.mod_add_div r b;omega
theorem val_drop (l:List Nat) (i:Nat) (h:i<l.length):val (l.drop i)=l.getD i 0+B*val (l.drop (i+1)):=by
 rw [List.drop_eq_getElem_cons h]
 simp [val,List.getD_eq_getElem?_getD,List.getElem?_eq_getElem h]
theorem quot_step {l q:List Nat} {b i:Nat} (hb:0<b) (hl: ∀x∈l,x<B) (h:i<l.length) (hq:val q=val (l.drop (i+1))/b):
  val ((l.getD i 0+B*(val (l.drop (i+1))%b))/b::q)=val (l.drop i)/b∧(l.getD i 0+B*(val (l.drop (i+1))%b))%b=val (l.drop i)%b∧(l.getD i 0+B*(val (l.drop (i+1))%b))/b<B:=by
 obtain ⟨e1,e2,e3⟩:=div_step (d:=l.getD i 0) (v:=val (l.drop (i+1))) hb (getD_lt l hl i)
 rw [val_drop l i h]
 refine ⟨?_,e2.symm,e3⟩
 rw [e1,←hq]
 rfl
end Go.Proofs.YthebilnlljkfeaaGreatDoor.Dx
namespace Go.Proofs.YthebilnlljkfeaaGreatDoor
open Go.RowKit
theorem BlkD.grow {w w':World} {g:Nat} {l:List Nat} (h:BlkD w g l) (k:Grow w w'):BlkD w' g l:=(k.block g h.lt).trans h
theorem dset_zero (j x:Nat) (qs:List Nat):(List.replicate (j+1) 0++qs).set j x=List.replicate j 0++x::qs:=by
 rw [List.replicate_succ',List.append_assoc,List.singleton_append]
 have hs:(List.replicate j (0:Nat)).length=j:=List.length_replicate ..
 rw [List.set_append_right _ _ (by omega),hs,Nat.sub_self]
 rfl
theorem dcell_zero {w:World} {g j:Nat} {qs:List Nat} (h:BlkD w g (List.replicate (j+1) 0++qs)): ∃z:Nat,w.cell? ⟨g,j,none⟩=some (.int .i64 (z:Int)):=
 ⟨_,h.cell (i:=j) (by rw [List.length_append,List.length_replicate];omega)⟩
theorem IsD.open {w:World} {v:Value} {n k:Nat} (h:IsD w v n k):(∃c,v= .slice none 0 c∧n=0)∨ ∃ad c,v= .slice (some ad) (Dx.len n) c∧ ∀(j:Nat) u,(valsD (Dx.limbs n))[j]? =some u→w.cell? (ad.add j)=some u:=by
 obtain ⟨A,c,rfl,hc,hl,hk⟩:=h
 by_cases hn:Dx.limbs n= []
 ·have h0:Dx.len n=0:=by unfold Dx.len;rw [hn];rfl
  cases A with
  |none=>exact .inl ⟨c,by rw [h0],by rw [←Dx.val_limbs n,hn];rfl⟩
  |some ad=>exact .inr ⟨ad,c,rfl,by rw [hn];intro j u h;simp [valsD] at h⟩
 ·obtain ⟨b,o,rfl,hb,hcl⟩:=hl hn
  refine .inr ⟨_,c,rfl,fun j u hu=> ?_⟩
  rw [valsD_get] at hu
  obtain ⟨x,hx,rfl⟩:=Option.map_eq_some_iff.1 hu
  have e:(Addr.mk b o none).add j=⟨b,o+j,none⟩:=by unfold Addr.add;split<;>simp_all
  rw [e]
  exact hcl j x hx
theorem append_zero (base:Nat) (t ty e:TypeId) (i:TypeInfo) (size:Nat) {P:Program} {w:World} (ht:P.underlying t=some (.slice e)) (hi:P.info? e=some i)
  (v:Value) (n c:Nat) (xs:List Value) (hown:w.ownsRow base e size v n xs):(Builtin.append_ #[t,t] ty #[v, .slice none 0 c]).run P w= .ok v w:=by
 rcases hown.2 with ⟨rfl,rfl⟩|⟨g,cap,cur,rfl,_,_,hnc,_⟩
 ·simp [Builtin.append_,run_underlying ht,sizeOf,typeInfo,hi,Builtin.lenOf,Builtin.firstCells]
 ·simp [Builtin.append_,run_underlying ht,sizeOf,typeInfo,hi,Builtin.lenOf,Builtin.firstCells,hnc,storeCells]
theorem wpList_append_zero {P:Program} {w:World} {ops:Array Oper} {rest:List Oper} {o:Oper} {a:Act} {Q:Exit→Act→World→Prop} (hgd:o.guard=none) (s x:Operand) (t:TypeId)
  (ho:o.op= .call {callee:= .builtin .append,args:= #[s,x],argTypes:= #[t,t]})
  (base:Nat) (e:TypeId) (i:TypeInfo) (size:Nat) (ht:P.underlying t=some (.slice e)) (hi:P.info? e=some i)
  (v:Value) (n c:Nat) (xs:List Value) (hs:a.eval s=v) (hown:w.ownsRow base e size v n xs) (hx:a.eval x= .slice none 0 c)
  (h:wpList P ops Q rest (a.put o.dst v) w):wpList P ops Q (o::rest) a w:=by
 refine wpList_plain hgd fun K hK=> ?_
 have hrun:=append_zero (P:=P) (w:=w) base t o.type e i size ht hi v n c xs hown
 unfold Oper.wp
 simp [execOp,ho,resolve,invoke,builtin,hs,hx,hrun,Result.andThen]
 exact hK _ _ h
theorem CellsD.far {w:World} {A:Option Addr} {l:List Nat} (h:CellsD w A l) {p:Addr} (hp: ∀a,A=some a→a.block≠p.block) (u:Value):CellsD (w.setCell p u) A l:=fun hn=>by
 obtain ⟨b,o,e,hb,hc⟩:=h hn
 have hne: ¬p.block=b:=fun e2=>hp _ e e2.symm
 obtain ⟨cs,fr,hb⟩:=hb
 refine ⟨b,o,e,⟨cs,fr,by simp [World.setCell,Array.getElem?_modify,hne,hb]⟩,fun j x hx=> ?_⟩
 rw [World.cell?_setCell_other w p ⟨b,o+j,none⟩ u (fun e2=>hp _ e (by rw [e2]))]
 exact hc j x hx
set_option maxHeartbeats 400000 in
theorem refTrim_at (w:World) (A:Option Addr) (c:Nat) (l:List Nat) (hm:l.length≤1152921504606846975) (hc:l.length≤c) (hb: ∀x∈l,x<Dx.B) (hl:CellsD w A l):
  Calls Tryz.prog 97 #[.slice A l.length c] w fun e w'=>e= .returned (.slice A (Dx.len (Dx.val l)) c)∧w=w':=by
 have HB:=Lib.hid hb
 clear hb
 go_enter Tryz.func97,Tryz.ntmps97
 go_wp2
 go_loop [3] (fun n=> ∃k:Nat,k≤l.length∧n= .int .i64 k∧NoughtsFrom l k) (fun n=>(intOf n).toNat)
 case atStart=>exact ⟨l.length,Nat.le_refl _,rfl,fun j h1 h2=>by omega⟩
 case round=>
  obtain ⟨k,hk,rfl,hz⟩:=hrel
  by_cases hpos:0<k
  ·have hn:l≠ []:=by intro e;subst e;simp at hk;omega
   obtain ⟨b,o,rfl,hbl,hcell⟩:=hl.at hn
   have hck:=hcell (k-1) (by omega)
   clear hcell
   generalize hx:l.getD (k-1) 0=x at hck
   have HX:=Lib.hid hx
   clear hx
   have hk1:(0:Int)<(k:Int):=by omega
   have hk2:((k:Int) -1).toNat=k-1:=by omega
   by_cases h0:x=0
   ·subst h0
    go_wp2
    go_round
    case rel=>exact ⟨k-1,by omega,by go_num,fun j h1 h2=>by
     rcases Nat.lt_or_ge j k with h3|h3
     ·obtain rfl:j=k-1:=by omega
      exact HX.out
     ·exact hz j h3 h2⟩
    case measure=>simp [intOf];omega
   ·have h0':((x:Int)==0)=false:=by simp;omega
    go_wp2
    go_ret
    have e:=dlen_of_noughts HB.out hk hz (.inr (by rw [HX.out];exact h0))
    exact ⟨by rw [e];rfl,rfl⟩
  ·obtain rfl:k=0:=by omega
   go_wp2
   go_ret
   have e:=dlen_of_noughts HB.out hk hz (.inl rfl)
   exact ⟨by rw [e];rfl,rfl⟩
def DivP (w wr:World) (x r:Nat) (v9:Value) (W:World):Prop:=
 ∃A9 c9,v9= .slice A9 (x::Dx.limbs r).length c9∧(x::Dx.limbs r).length≤c9∧CellsD W A9 (x::Dx.limbs r)∧(∀a,A9=some a→a.block≠w.heap.size)∧Grow wr W
theorem divP_of {w wr W:World} {x r m:Nat} {v9:Value} (h:W.ownsRow (w.heap.size+1) 3 1 v9 m (valsD (x::Dx.limbs r))) (hx:x<Dx.B) (g:Grow wr W):DivP w wr x r v9 W:=by
 have hd:=ds_of_own h (by intro y hy;rcases List.mem_cons.1 hy with hy|hy;rw [hy];exact hx;exact Dx.limbs_lt r y hy)
 obtain ⟨A,c,e,hc,_,hl⟩:=hd
 refine ⟨A,c,e,hc,hl,fun a ha=> ?_,g⟩
 have:=own_ge h (k:=a.block) (by rw [e,ha];rfl)
 omega
def DivD (w wr:World) (g n m j k i:Nat) (rv:Value):Prop:=
 ∃qs:List Nat,qs.length+i=k∧(∀x∈qs,x<Dx.B)∧Dx.val qs=Dx.val ((Dx.limbs n).drop i)/m∧IsD wr rv (Dx.val ((Dx.limbs n).drop i)%m) j∧Grow w wr∧BlkD wr g (List.replicate i 0++qs)
theorem dlen_mod {n m j:Nat} (hm:0<m) (h:Dx.len m≤j):Dx.len (n%m)≤j:=Nat.le_trans (Dx.len_mono (Nat.le_of_lt (Nat.mod_lt _ hm))) h
set_option maxHeartbeats 4000000 in
theorem refDivMod_any (w:World) (va vb:Value) (n m k j:Nat) (hk:k≤1048576) (hj:j≤1048576) (ha:IsD w va n k) (hb:IsD w vb m j) (hm:0<m):
  Calls Tryz.prog 99 #[va,vb] w (Ret w fun v w'=> ∃q r,v= .tuple #[q,r]∧IsD w' q (n/m) k∧IsD w' r (n%m) j):=by
 have hjm:Dx.len m≤j:=hb.choose_spec.choose_spec.2.2.2
 have HB:=Lib.hid (fun W (g:Grow w W)=>(hb.grow g:IsD W vb m j))
 obtain ⟨A,c,rfl,hc,hl,hkn⟩:=ha
 obtain ⟨i0,hi,hz0,hz1,hz2⟩:=info_parts info3
 clear hb
 have hmk:=fun W=>run_make_row' (P:=Tryz.prog) 29 3 (.int .i64 0) 8 Tryz.underlying29 info3 rfl .i64 .i64 (Dx.len n) (by omega) (by omega) W
 go_enter Tryz.func99,Tryz.ntmps99
 go_wp2_with fail
 clear hmk
 go_loopw [7,8] (fun rv iv wr=> ∃i:Nat,i≤Dx.len n∧iv= .int .i64 ((i:Int) -1)∧DivD w wr w.heap.size n m j (Dx.len n) i rv) (fun _ iv _=>(intOf iv+1).toNat)
 case atStart=>
  refine ⟨Dx.len n,Nat.le_refl _,rfl,[],by simp,by simp, ?_, ?_,(Grow.refl _).alloc _,by rw [List.append_nil];exact BlkD.made _ _⟩
  ·rw [show (Dx.limbs n).drop (Dx.len n)= [] from List.drop_of_length_le (Nat.le_refl _)];simp [Dx.val]
  ·rw [show (Dx.limbs n).drop (Dx.len n)= [] from List.drop_of_length_le (Nat.le_refl _)]
   show IsD _ _ (0%m) j
   rw [Nat.zero_mod]
   exact (IsD.zero _).more (Nat.zero_le _)
 case round=>
  obtain ⟨i,hik,rfl,qs,hql,hqb,hqv,hrest,hg,hblk⟩:=hrel
  rcases Nat.eq_zero_or_pos i with h0|h0
  ·subst h0
   rw [List.drop_zero,Dx.val_limbs] at hqv hrest
   rw [List.replicate_zero,List.nil_append] at hblk
   have hds:=hblk.ds hqb
   have HT:=Lib.hid (refTrim_any wr _ qs (by omega) hds)
   have hqk:qs.length=Dx.len n:=by omega
   rw [hqv,hqk] at HT
   have HR:=Lib.hid hrest
   clear hds hrest hblk
   go_wp2_with fail
   refine HT.out.mono ?_
   rintro e w1 ⟨v1,rfl,h1,rfl⟩
   go_wp2_with fail
   go_ret2
   exact Ret.mk ⟨v1,u7,rfl,h1.more hkn,HR.out⟩ hg
  ·obtain ⟨t,rfl⟩: ∃t,i=t+1:=⟨i-1,by omega⟩
   rw [show (((t+1:Nat):Int) -1)=(t:Int) by omega]
   have hnn:Dx.limbs n≠ []:=fun e=>by
    have:Dx.len n=0:=by unfold Dx.len;rw [e];rfl
    omega
   obtain ⟨b1,o1,rfl,hb1,hd1⟩:=(hl.grow hg).at hnn
   have hcx:=hd1 t (by show t<Dx.len n;omega)
   have hxB:=Dx.getD_lt _ (Dx.limbs_lt n) t
   have hstep:=Dx.quot_step (l:=Dx.limbs n) (q:=qs) (b:=m) (i:=t) hm (Dx.limbs_lt n) (by show t<Dx.len n;omega) hqv
   clear hd1
   generalize (Dx.limbs n).getD t 0=x at*
   generalize hrr:Dx.val ((Dx.limbs n).drop (t+1))%m=r at*
   have hrm:r<m:=by rw [←hrr];exact Nat.mod_lt _ hm
   have HST:=Lib.hid hstep
   have HRR:=Lib.hid hrr
   have hlr:Dx.len r≤j:=Nat.le_trans (Dx.len_mono (Nat.le_of_lt hrm)) hjm
   have hlt1:w.heap.size+1≤wr.heap.size:=hblk.lt
   have HBK:=Lib.hid hblk
   have HQB:=Lib.hid hqb
   clear hstep hrr hqv hblk hqb
   have e1:(t:Int)<(Dx.len n:Int):=by omega
   go_upto_region 6 with fail
   go_cut [9] from 24 to 69 (fun v9 W=>DivP w wr x r v9 W)
   case first=>
    rcases hrest.open with ⟨c7,rfl,rfl⟩|⟨ad,c7,rfl,hnews⟩
    ·have hown:(wr.alloc (Obj.cells #[.int .i64 (x:Int)] 3)).ownsRow (w.heap.size+1) 3 1 (.slice (some ⟨wr.heap.size,0,none⟩) 1 1) 1 [.int .i64 (x:Int)]:=World.ownsRow_lit wr #[.int .i64 (x:Int)] 1 hlt1 (by unfold maxLen;omega) rfl
     have HO:=Lib.hid hown
     clear hown
     go_wp2_with (at_builtin;refine wpList_append_zero rfl _ _ 29 rfl (w.heap.size+1) 3 i0 1 Tryz.underlying29 hi _ _ c7 _ rfl HO.out rfl ?_)
     go_meet
     exact divP_of (r:=0) HO.out hxB ((Grow.refl _).alloc _)
    ·have hown:(wr.alloc (Obj.cells #[.int .i64 (x:Int)] 3)).ownsRow (w.heap.size+1) 3 1 (.slice (some ⟨wr.heap.size,0,none⟩) 1 1) 1 [.int .i64 (x:Int)]:=World.ownsRow_lit wr #[.int .i64 (x:Int)] 1 hlt1 (by unfold maxLen;omega) rfl
     have HO:=Lib.hid hown
     have HN:=Lib.hid (fun j u h=>(((Grow.refl wr).alloc (Obj.cells #[.int .i64 (x:Int)] 3)).cells1 (hnews j u h)))
     clear hown hnews
     go_wp2_with (at_builtin;refine wpList_append_own _ rfl _ _ 29 rfl (w.heap.size+1) 3 i0 (.int .i64 0) 1 8 Tryz.underlying29 hi hz0 hz1 hz2 rfl (by decide) _ _ _ rfl HO.out ad (Dx.len r) c7 (valsD (Dx.limbs r)) rfl (by rw [valsD_length,Nat.mul_one];rfl) HN.out (by intro u hu;simp only [valsD,List.mem_map] at hu;obtain ⟨y,_,rfl⟩:=hu;rfl) (by unfold maxLen;omega) (by omega) (by simp;omega) ?_)
     intro v' w1 hown' hgrow _
     have R1:Grow wr w1:=Below.grown ((Grow.refl wr).alloc _) hgrow (by simp) (fun k e=>by simp [Value.ownBlock] at e;omega)
     have HO2:=Lib.hid (show w1.ownsRow (w.heap.size+1) 3 1 v' (1+Dx.len r) (valsD (x::Dx.limbs r)) from hown')
     clear hown' hgrow
     go_wp2_with fail
     go_meet
     exact divP_of HO2.out hxB R1
   case rest=>
    obtain ⟨w2,rfl⟩: ∃y,y=wc:=⟨wc,rfl⟩
    obtain ⟨A9,c9,rfl,hc9,hl9,hA9,g2⟩:=hcut
    have hgw2:Grow w w2:=hg.trans g2
    have hxl: ∀y∈x::Dx.limbs r,y<Dx.B:=by intro y hy;rcases List.mem_cons.1 hy with hy|hy;rw [hy];exact hxB;exact Dx.limbs_lt r y hy
    have hlT:(x::Dx.limbs r).length≤j+1:=by show Dx.len r+1≤_;omega
    have HT:=Lib.hid (refTrim_at w2 A9 c9 (x::Dx.limbs r) (by omega) hc9 hxl hl9)
    have hvT:Dx.val (x::Dx.limbs r)=x+Dx.B*r:=by show x+Dx.B*Dx.val (Dx.limbs r)=_;rw [Dx.val_limbs]
    have hlt9:Dx.len (Dx.val (x::Dx.limbs r))≤(x::Dx.limbs r).length:=Dx.len_val _ hxl
    have hcT:CellsD w2 A9 (Dx.limbs (Dx.val (x::Dx.limbs r))):=by rw [Dx.limbs_val_take _ hxl];exact hl9.take _
    rw [hvT] at HT hlt9 hcT
    have hTq:=HST.out.2.2
    generalize hTT:x+Dx.B*r=T at*
    rw [Dx.B_eq] at hTq
    have HTT:=Lib.hid hTT
    have H3:=Lib.hid (fun W (hW:CellsD W A9 (Dx.limbs T))=>(⟨A9,c9,rfl,by omega,hW,by omega⟩:IsD W (.slice A9 (Dx.len T) c9) T (j+1)))
    have HcT:=Lib.hid hcT
    generalize (x::Dx.limbs r).length=lxr at*
    clear hrest hcx hTT hl9 hxl hvT hcT
    go_wp2_with fail
    refine HT.out.mono ?_
    rintro e w3 ⟨rfl,rfl⟩
    clear HT
    go_upto_block 2 with fail
    go_cut [10] from 24 to 69 (fun v10 W=>v10= .int .i64 ((T/m:Nat):Int)∧Grow w2 W)
    case first=>
     go_wp2_with fail
     go_loopw [10,11] (fun lv hv W=> ∃lo hi:Nat,lv= .int .i64 (lo:Int)∧hv= .int .i64 (hi:Int)∧lo≤T/m∧T/m≤hi∧hi≤9999∧Grow w2 W) (fun lv hv _=>(intOf hv-intOf lv).toNat)
     case atStart=>exact ⟨0,9999,rfl,rfl,Nat.zero_le _,by omega,by omega,Grow.refl _⟩
     case round=>
      obtain ⟨lo,hi2,rfl,rfl,hlo,hhi,h99,g4⟩:=hrel
      by_cases hlt:lo<hi2
      ·have hsm:=Dx.search_mid hlt
       have hmid:((lo:Int)+(hi2:Int)+1)/2=(((lo+hi2+1)/2:Nat):Int):=by omega
       have hsl:=fun h=>Dx.search_low (b:=m) (r:=T) (m:=(lo+hi2+1)/2) hm h
       have hsh:=fun h=>Dx.search_high (b:=m) (r:=T) (m:=(lo+hi2+1)/2) hm (by omega) h
       generalize (lo+hi2+1)/2=mid at*
       have HS:=Lib.hid (And.intro hsl hsh)
       have HMI:=Lib.hid hmid
       have HLH:=Lib.hid (And.intro hlo hhi)
       clear hsl hsh hlo hhi hmid
       go_wp2_with fail
       rw [HMI.out]
       refine (refSmall_any _ mid (by omega)).mono ?_
       rintro e w5 ⟨v5,rfl,h5,g5⟩
       go_wp2_with fail
       refine (refMul_any _ _ _ m mid j 5 (by omega) (by omega) (HB.out _ (hgw2.trans (g4.trans g5))) h5).mono ?_
       rintro e w6 ⟨v6,rfl,h6,g6⟩
       go_wp2_with fail
       refine (refCmp_any _ _ _ (m*mid) T (j+5+1) (j+1) (by omega) h6 (H3.out _ (HcT.out.grow (g4.trans (g5.trans g6))))).mono ?_
       rintro e w7 ⟨v7,rfl,rfl,g7⟩
       have g47:Grow w2 w7:=g4.trans (g5.trans (g6.trans g7))
       have HG7:=Lib.hid g47
       clear h5 h6 g5 g6 g7 g4 g47
       by_cases hle:m*mid≤T
       ·have hc0:decide (Mx.cmp (m*mid) T≤0)=true:=decide_eq_true (by unfold Mx.cmp;split<;>(try split)<;>omega)
        have HLE:=Lib.hid (HS.out.1 hle)
        clear hle
        generalize Mx.cmp (m*mid) T=cm at*
        go_wp2_with fail
        go_roundw
        case rel=>exact ⟨mid,hi2,rfl,rfl,HLE.out,HLH.out.2,h99,HG7.out⟩
        case measure=>simp [intOf];omega
       ·have hc0:decide (Mx.cmp (m*mid) T≤0)=false:=decide_eq_false (by unfold Mx.cmp;rw [if_neg (by omega),if_neg (by omega)];omega)
        have HLE:=Lib.hid (HS.out.2 (by omega))
        have hm1:((mid-1:Nat):Int)=(mid:Int) -1:=by omega
        clear hle
        generalize Mx.cmp (m*mid) T=cm at*
        go_wp2_with fail
        go_roundw
        case rel=>exact ⟨lo,mid-1,rfl,by rw [hm1],HLH.out.1,HLE.out,by omega,HG7.out⟩
        case measure=>simp [intOf];omega
      ·obtain rfl:lo=T/m:=by omega
       have HG4:=Lib.hid g4
       clear g4
       generalize T/m=qd at*
       go_wp2_with fail
       go_meet
       exact ⟨rfl,HG4.out⟩
    case rest=>
     obtain ⟨w4,rfl⟩: ∃y,y=wc:=⟨wc,rfl⟩
     obtain ⟨rfl,g4⟩:=hcut
     have hbk4:=HBK.out.grow (g2.trans g4)
     obtain ⟨z,hcz⟩:=dcell_zero hbk4
     have hfz:=hbk4.frozen t
     have hrsub:=Dx.rest_sub (b:=m) (r:=T)
     have hqle:m*(T/m)≤T:=by rw [Nat.mul_comm];exact Nat.div_mul_le_self _ _
     have hst:=HST.out
     generalize T/m=qd at*
     have hset:=hbk4.set t qd
     rw [dset_zero] at hset
     have HSET:=Lib.hid hset
     have HST2:=Lib.hid (And.intro hst (And.intro hrsub hqle))
     have hgw4:Grow w (w4.setCell ⟨w.heap.size,t,none⟩ (.int .i64 (qd:Int))):=(hgw2.trans g4).setCell (Nat.le_refl _) _
     have hc5:=(HcT.out.grow g4).far (p:=⟨w.heap.size,t,none⟩) hA9 (.int .i64 (qd:Int))
     have HC5:=Lib.hid (And.intro hc5 (And.intro hset hgw4))
     clear hbk4 hset hst hrsub hqle hgw4 hc5 HSET
     have hqd:qd<10000:=hTq
     go_wp2_with fail
     obtain ⟨hc5,hset,hgw4⟩:=HC5.out
     generalize w4.setCell ⟨w.heap.size,t,none⟩ (.int .i64 (qd:Int))=w5 at*
     refine (refSmall_any _ qd (by omega)).mono ?_
     rintro e w6 ⟨v6,rfl,h6,g6⟩
     go_wp2_with fail
     refine (refMul_any _ _ _ m qd j 5 (by omega) (by omega) (HB.out _ (hgw4.trans g6)) h6).mono ?_
     rintro e w7 ⟨v7,rfl,h7,g7⟩
     have HD7:=Lib.hid (And.intro (H3.out _ (hc5.grow (g6.trans g7))) h7)
     have HS7:=Lib.hid (And.intro (hset.grow (g6.trans g7)) (hgw4.trans (g6.trans g7)))
     clear h6 h7 g6 g7 hc5 hset hgw4 HC5
     go_wp2_with fail
     refine (refSub_any _ _ _ T (m*qd) (j+1) (j+5+1) (by omega) HD7.out.1 HD7.out.2 HST2.out.2.2).mono ?_
     rintro e w8 ⟨v8,rfl,h8,g8⟩
     rw [HST2.out.2.1] at h8
     have HD8:=Lib.hid (h8.tight (dlen_mod hm hjm))
     have HS8:=Lib.hid (And.intro (HS7.out.1.grow g8) (HS7.out.2.trans g8))
     clear h8 g8 HD7 HS7
     go_wp2_with fail
     go_roundw
     case rel=>
      obtain ⟨⟨q1,q2,q3⟩,_,_⟩:=HST2.out
      refine ⟨t,by omega,rfl,qd::qs,by simp;omega, ?_,q1,by rw [←q2];exact HD8.out,HS8.out.2,HS8.out.1⟩
      intro y hy
      rcases List.mem_cons.1 hy with hy|hy
      ·rw [hy];exact q3
      ·exact HQB.out y hy
     case measure=>simp [intOf]
end Go.Proofs.YthebilnlljkfeaaGreatDoor
namespace Go.Proofs.YthebilnlljkfeaaGreatDoor
open Go.RowKit
theorem pow2_lt {t s:Nat} (h:t<s):2^t<2^s:=Nat.pow_lt_pow_right (by omega) h
theorem dlen_pow {t:Nat} (h:t≤300):Dx.len (2^t)≤40:=by
 have:=dlen_bound (n:=2^t) (L:=5) (Nat.lt_of_lt_of_eq (pow2_lt (s:=64*5) (by omega)) (Mx.B_pow 5).symm)
 omega
theorem isD_one (w:World) (x:Nat) (h0:x≠0) (hx:x<10000):IsD (w.alloc (.cells #[.int .i64 (x:Int)] 3)) (.slice (some ⟨w.heap.size,0,none⟩) 1 1) x 1:=by
 have hl:Dx.limbs x= [x]:=by
  have:=Dx.limbs_val [x] (by intro y hy;rw [List.mem_singleton.1 hy];exact hx) (.inr (by simpa using h0))
  rwa [Dx.val_one] at this
 have hn:Dx.len x=1:=by unfold Dx.len;rw [hl];rfl
 refine ⟨some ⟨w.heap.size,0,none⟩,1,by rw [hn],by omega, ?_,by omega⟩
 rw [hl]
 intro _
 refine ⟨w.heap.size,0,rfl,⟨_,_,heap_alloc_new w _⟩,fun j y hy=> ?_⟩
 match j,hy with
 |0,hy=>simp at hy;subst hy;simp [go_sem]
set_option maxHeartbeats 1000000 in
theorem refGcd_any (w:World) (va vb:Value) (n m k:Nat) (hk:k≤1048576) (ha:IsD w va n k) (hb:IsD w vb m k):
  Calls Tryz.prog 98 #[va,vb] w (Ret w fun v w'=>IsD w' v (Nat.gcd n m) k):=by
 have HA:=Lib.hid ha
 have HB:=Lib.hid hb
 clear ha hb
 go_enter Tryz.func98,Tryz.ntmps98
 go_wp2_with fail
 go_loopg [0,1] m (fun gk av bv wr=> ∃a b:Nat,b≤gk∧IsD wr av a k∧IsD wr bv b k∧Nat.gcd a b=Nat.gcd n m∧Grow w wr)
 case atStart=>exact ⟨n,m,Nat.le_refl _,HA.out,HB.out,rfl,Grow.refl _⟩
 case round=>
  obtain ⟨a,b,hbk,hA,hB,hgc,hg⟩:=hrel
  have HA2:=Lib.hid hA
  have HB2:=Lib.hid hB
  have HGC:=Lib.hid hgc
  obtain ⟨A1,c1,rfl,_,_,_⟩:=hB
  clear hA hgc
  by_cases h0:b=0
  ·subst h0
   have hgz:=HGC.out
   rw [Nat.gcd_zero_right] at hgz
   have HGZ:=Lib.hid hgz
   have HA3:=Lib.hid (hgz▸HA2.out:IsD wr u0 (Nat.gcd n m) k)
   clear hgz HA2
   go_wp2_with fail
   go_ret
   exact Ret.mk HA3.out hg
  ·have hlb:Dx.len b≠0:=fun h=>h0 (Dx.eq_zero_of_len h)
   have hl0:0<Dx.len b:=by omega
   have HH:=Lib.hid (show 0<b by omega)
   clear hlb h0
   go_wp2_with fail
   refine (refDivMod_any _ _ _ a b k k hk hk HA2.out HB2.out HH.out).mono ?_
   rintro e w1 ⟨v1,rfl,⟨q,r,rfl,hq,hr⟩,g1⟩
   have HR:=Lib.hid hr
   have HB3:=Lib.hid (HB2.out.grow g1)
   have HG:=Lib.hid (hg.trans g1)
   clear hq hr g1 hg
   go_wp2_with fail
   go_roundg (a%b)
   case measure=>have:=Nat.mod_lt a HH.out;omega
   case rel=>exact ⟨b,a%b,Nat.le_refl _,HB3.out,HR.out,by rw [←HGC.out,Nat.gcd_comm a b,Nat.gcd_rec b a,Nat.gcd_comm],HG.out⟩
end Go.Proofs.YthebilnlljkfeaaGreatDoor
