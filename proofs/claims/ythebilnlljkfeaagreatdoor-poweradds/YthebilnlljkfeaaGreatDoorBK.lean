/- One text out of: Zx, Zm, FrA, FrF, FrN, Zg, Dk. -/
import Derived.Test.YthebilnlljkfeaaGreatDoorBZ
import Derived.Test.YthebilnlljkfeaaGreatDoorWhM
import Derived.Test.YthebilnlljkfeaaGreatDoorBRf
namespace Go.Proofs.YthebilnlljkfeaaGreatDoor.Z
open Go.RowKit Go.Proofs.YthebilnlljkfeaaGreatDoor.Rg
variable {cx:Cx}
abbrev isE (c:Value):Pr:=fun _ v=>v=c
abbrev isX:Pr:=fun _ _=>True
abbrev isN (n k:Nat):Pr:=fun w v=>IsN w v n k
abbrev isW (z:Int) (k:Nat):Pr:=fun w v=>IsW w v z k
abbrev isD (n k:Nat):Pr:=fun w v=>IsD w v n k
abbrev isV (z:Int) (k:Nat):Pr:=fun w v=>IsV w v z k
abbrev isS (l:List Nat):Pr:=fun w v=>Sl w v l
abbrev isT (l:List UInt8):Pr:=fun _ v=>v= .string (str l)
def isA (x:Int):Pr:=fun w v=> ∃b o,v= .pointer (some ⟨b,o,none⟩)∧IntB w b∧w.cell? ⟨b,o,none⟩=some (.int .i64 x)
theorem cell_evo {w w':World} {b o:Nat} {k:IntKind} {x:Int} (hk:softV (.int k x)=false) (h:w.cell? ⟨b,o,none⟩=some (.int k x)) (g:Evo soft w w'):w'.cell? ⟨b,o,none⟩=some (.int k x):=by
 rcases g.block b (lt_of_cell h) with h1|⟨ob,_,h1,_,h3,_⟩
 ·rw [←h]
  simp only [World.cell?,h1]
 ·exfalso
  unfold softO at h3
  split at h3
  ·next cs t=>
   have hc:cs[o]? =some (.int k x):=by
    simpa [World.cell?,h1] using h
   obtain ⟨ho,e⟩:=Array.getElem?_eq_some_iff.1 hc
   have:=Array.all_eq_true.1 (soft_all h3) o ho
   rw [e,hk] at this
   cases this
  ·simp [World.cell?,h1] at h
  ·cases h3
theorem intB_evo {w w':World} {b:Nat} (h:IntB w b) (g:Evo soft w w'):w'.heap[b]? =w.heap[b]? :=by
 rcases g.block b h.lt with h1|⟨ob,_,h1,_,h3,_⟩
 ·exact h1
 ·obtain ⟨cs2,fr,h⟩:=h
  rw [h] at h1
  injection h1 with h1
  subst h1
  unfold softO at h3
  split at h3
  ·next e=>
   injection e with e1 e2
   subst e2
   exact (soft_int h3).elim
  ·next e=>cases e
  ·cases h3
theorem intB_keep {w w':World} {b:Nat} (h:IntB w b) (g:Evo soft w w'):IntB w' b:=by
 have e:=intB_evo h g
 obtain ⟨cs,fr,h⟩:=h
 exact ⟨cs,fr,e.trans h⟩
theorem cell_int {w w':World} {b o:Nat} {x:Value} (hb:IntB w b) (h:w.cell? ⟨b,o,none⟩=some x) (g:Evo soft w w'):w'.cell? ⟨b,o,none⟩=some x:=by
 rw [←h]
 simp only [World.cell?,intB_evo hb g]
theorem Cells.evo {w w':World} {A:Option Addr} {l:List Nat} (h:Cells w A l) (g:Evo soft w w'):Cells w' A l:=fun hn=>by
 obtain ⟨b,o,e,hb,hc⟩:=h hn
 exact ⟨b,o,e,Nat.lt_of_lt_of_le hb g.size,fun j x hx=>cell_evo rfl (hc j x hx) g⟩
theorem CellsD.evo {w w':World} {A:Option Addr} {l:List Nat} (h:CellsD w A l) (g:Evo soft w w'):CellsD w' A l:=fun hn=>by
 obtain ⟨b,o,e,hb,hc⟩:=h hn
 exact ⟨b,o,e,intB_keep hb g,fun j x hx=>cell_int hb (hc j x hx) g⟩
theorem stb_N (n k:Nat):Stb soft (isN n k):=fun _ _ _ ⟨⟨A,c,e,h1,h2⟩,h3⟩ g=>⟨⟨A,c,e,h1,Cells.evo h2 g⟩,h3⟩
theorem stb_W (z:Int) (k:Nat):Stb soft (isW z k):=fun _ _ _ ⟨A,l,c,e,h⟩ g=>⟨A,l,c,e,stb_N _ _ _ _ _ h g⟩
theorem stb_D (n k:Nat):Stb soft (isD n k):=fun _ _ _ ⟨A,c,e,h1,h2,h3⟩ g=>⟨A,c,e,h1,CellsD.evo h2 g,h3⟩
theorem stb_V (z:Int) (k:Nat):Stb soft (isV z k):=fun _ _ _ ⟨A,l,c,e,h⟩ g=>⟨A,l,c,e,stb_D _ _ _ _ _ h g⟩
theorem stb_S (l:List Nat):Stb soft (isS l):=fun _ _ _ ⟨A,c,e,h1,h2,h3⟩ g=>⟨A,c,e,h1,h2,Cells.evo h3 g⟩
theorem stb_A (x:Int):Stb soft (isA x):=fun _ _ _ ⟨b,o,e,hb,h⟩ g=>⟨b,o,e,intB_keep hb g,cell_int hb h g⟩
theorem aggN:aggB Tryz.prog 24=true:=by kernel_rfl
theorem sizeN:(Tryz.prog.info? 24).map (·.size)=some 1:=by kernel_rfl
theorem shN {n k:Nat}: ∀w v,isN n k w v→ ∃cs,v= .agg cs∧Fits soft Tryz.prog 24 cs:=fun _ _ h=>by
 obtain ⟨A,l,c,e⟩:=IsN.cell h
 exact ⟨_,e,aggN,sizeN,by simp [Value.oneCell'],by simp [soft,softV];first|rfl|exact ⟨rfl,rfl⟩⟩
theorem aggW:aggB Tryz.prog 26=true:=by kernel_rfl
theorem sizeW:(Tryz.prog.info? 26).map (·.size)=some 2:=by kernel_rfl
theorem shW {z:Int} {k:Nat}: ∀w v,isW z k w v→ ∃cs,v= .agg cs∧Fits soft Tryz.prog 26 cs:=fun _ _ ⟨_,_,_,e,_⟩=>⟨_,e,aggW,sizeW,by simp [Value.oneCell'],by simp [soft,softV];first|rfl|exact ⟨rfl,rfl⟩⟩
theorem aggV:aggB Tryz.prog 31=true:=by kernel_rfl
theorem sizeV:(Tryz.prog.info? 31).map (·.size)=some 2:=by kernel_rfl
theorem shV {z:Int} {k:Nat}: ∀w v,isV z k w v→ ∃cs,v= .agg cs∧Fits soft Tryz.prog 31 cs:=fun _ _ ⟨_,_,_,e,_⟩=>⟨_,e,aggV,sizeV,by simp [Value.oneCell'],by simp [soft,softV];first|rfl|exact ⟨rfl,rfl⟩⟩
theorem fldVD {z:Int} {k:Nat}: ∀w cs,isV z k w (.agg cs)→isD z.natAbs k w (cs.getD 0 undef):=fun _ _ ⟨_,_,_,e,h⟩=>by
 injection e with e
 subst e
 exact h
theorem fldVB {z:Int} {k:Nat}: ∀w cs,isV z k w (.agg cs)→isE (.bool (decide (z<0))) w (cs.getD 1 undef):=fun _ _ ⟨_,_,_,e,_⟩=>by
 injection e with e
 subst e
 rfl
section
variable {P:Program} {s:Array Value→TypeId→Bool} {ops:Array Oper} {Q:Exit→Act→World→Prop} {F:Facts} {G:List Vr} {D:List (Nat×Pr)} {V:VS} {kf0:Nat→Nat} {i d:Nat} {x y:Operand} {t t2:TypeId}
theorem bin {b:BinOp} {u v r:Value} (hx:Arg s P ops F G D V kf0 i x (isE u)) (hy:Arg s P ops F G D V kf0 i y (isE v)) (hg: ∀w,(eqGuard b t x y u v).run P w= .ok () w) (hr: ∀w,(binOp b t u v).run P w= .ok r w) (hF: ∀w z,z=r→F d w z):
  Owes s P ops Q F G D V kf0 i (some d) (.binOp b t x y t2):=
 val (fun o a w ho c=>⟨r,by
  have e1:a.eval x=u:=hx a w c
  have e2:a.eval y=v:=hy a w c
  unfold execOp
  simp only [ho,e1,e2,Sem.run_bind,hg,hr,Result.andThen_ok,Sem.run_pure],hF _ _ rfl⟩) rfl
theorem guardI {b:BinOp} {k k':IntKind} {m n:Int} (w:World):(eqGuard b t x y (.int k m) (.int k' n)).run P w= .ok () w:=by cases b<;>rfl
theorem guardS {b:BinOp} {m n:ByteArray} (w:World):(eqGuard b t x y (.string m) (.string n)).run P w= .ok () w:=by cases b<;>rfl
theorem guardB {b:BinOp} {m n:Bool} (w:World):(eqGuard b t x y (.bool m) (.bool n)).run P w= .ok () w:=by cases b<;>rfl
variable {k:IntKind} {m n:Int}
theorem lss (hx:Arg s P ops F G D V kf0 i x (isE (.int k m))) (hy:Arg s P ops F G D V kf0 i y (isE (.int k n))) (hF: ∀w z,z= .bool (decide (m<n))→F d w z):Owes s P ops Q F G D V kf0 i (some d) (.binOp .lss t x y t2):=bin hx hy guardI (fun w=>by simp [binOp,go_sem]) hF
theorem leq (hx:Arg s P ops F G D V kf0 i x (isE (.int k m))) (hy:Arg s P ops F G D V kf0 i y (isE (.int k n))) (hF: ∀w z,z= .bool (decide (m≤n))→F d w z):Owes s P ops Q F G D V kf0 i (some d) (.binOp .leq t x y t2):=bin hx hy guardI (fun w=>by simp [binOp,go_sem]) hF
theorem gtr (hx:Arg s P ops F G D V kf0 i x (isE (.int k m))) (hy:Arg s P ops F G D V kf0 i y (isE (.int k n))) (hF: ∀w z,z= .bool (decide (n<m))→F d w z):Owes s P ops Q F G D V kf0 i (some d) (.binOp .gtr t x y t2):=bin hx hy guardI (fun w=>by simp [binOp,go_sem]) hF
theorem geq (hx:Arg s P ops F G D V kf0 i x (isE (.int k m))) (hy:Arg s P ops F G D V kf0 i y (isE (.int k n))) (hF: ∀w z,z= .bool (decide (n≤m))→F d w z):Owes s P ops Q F G D V kf0 i (some d) (.binOp .geq t x y t2):=bin hx hy guardI (fun w=>by simp [binOp,go_sem]) hF
theorem eql (hx:Arg s P ops F G D V kf0 i x (isE (.int k m))) (hy:Arg s P ops F G D V kf0 i y (isE (.int k n))) (hF: ∀w z,z= .bool (decide (m=n))→F d w z):Owes s P ops Q F G D V kf0 i (some d) (.binOp .eql t x y t2):=bin hx hy guardI (fun w=>by simp [binOp,go_sem];rfl) hF
theorem neq (hx:Arg s P ops F G D V kf0 i x (isE (.int k m))) (hy:Arg s P ops F G D V kf0 i y (isE (.int k n))) (hF: ∀w z,z= .bool (!decide (m=n))→F d w z):Owes s P ops Q F G D V kf0 i (some d) (.binOp .neq t x y t2):=bin hx hy guardI (fun w=>by simp [binOp,go_sem];rfl) hF
end
section
variable {P:Program} {s:Array Value→TypeId→Bool} {ops:Array Oper} {Q:Exit→Act→World→Prop} {F:Facts} {G:List Vr} {D:List (Nat×Pr)} {V:VS} {kf0:Nat→Nat} {i d:Nat} {x y:Operand} {t t2:TypeId}
theorem str_cat (l r:List UInt8):str l++str r=str (l++r):=by
 apply ByteArray.ext
 simp [str]
theorem eqlS {l r:List UInt8} (hx:Arg s P ops F G D V kf0 i x (isT l)) (hy:Arg s P ops F G D V kf0 i y (isT r)) (hF: ∀w z,z= .bool (l==r)→F d w z):Owes s P ops Q F G D V kf0 i (some d) (.binOp .eql t x y t2):=
 bin hx hy guardS (fun w=>by
  have h:=str_beq l r
  generalize str l=s at*
  generalize str r=t at*
  simp [binOp,Op.stringOp,go_sem,h]) hF
theorem neqS {l r:List UInt8} (hx:Arg s P ops F G D V kf0 i x (isT l)) (hy:Arg s P ops F G D V kf0 i y (isT r)) (hF: ∀w z,z= .bool (!(l==r))→F d w z):Owes s P ops Q F G D V kf0 i (some d) (.binOp .neq t x y t2):=
 bin hx hy guardS (fun w=>by
  have h:=str_beq l r
  generalize str l=s at*
  generalize str r=t at*
  simp [binOp,Op.stringOp,h]) hF
theorem addS {l r:List UInt8} (hx:Arg s P ops F G D V kf0 i x (isT l)) (hy:Arg s P ops F G D V kf0 i y (isT r)) (hl:l.length+r.length≤9223372036854775807) (hF: ∀w z,z= .string (str (l++r))→F d w z):Owes s P ops Q F G D V kf0 i (some d) (.binOp .add t x y t2):=
 bin hx hy guardS (fun w=>by
  have h:=str_cat l r
  have e1:(str l).size=l.length:=by simp [ByteArray.size]
  have e2:(str r).size=r.length:=by simp [ByteArray.size]
  rw [←e1,←e2] at hl
  clear e1 e2
  generalize str (l++r)=u at*
  generalize str l=s at*
  generalize str r=t at*
  subst h
  simp [binOp,Op.stringOp,go_sem]
  omega) hF
theorem negI {m r:Int} (hx:Arg s P ops F G D V kf0 i x (isE (.int .i64 m))) (hr:IntKind.i64.wrap (-m)=r) (hF: ∀w z,z= .int .i64 r→F d w z):Owes s P ops Q F G D V kf0 i (some d) (.unOp .neg t x):=
 val (fun o a w ho c=>⟨.int .i64 r,by
  have e1:a.eval x= .int .i64 m:=hx a w c
  unfold execOp
  simp only [ho,e1]
  simp [go_sem,hr],hF _ _ rfl⟩) rfl
end
abbrev kN (n k:Nat):Kd Tryz.prog cx:= .at (isN n k) (stb_N n k) 24 shN
abbrev kW (z:Int) (k:Nat):Kd Tryz.prog cx:= .at (isW z k) (stb_W z k) 26 shW
abbrev kD (n k:Nat):Kd Tryz.prog cx:= .of (isD n k) (stb_D n k)
abbrev kV (z:Int) (k:Nat):Kd Tryz.prog cx:= .at (isV z k) (stb_V z k) 31 shV
abbrev kS (l:List Nat):Kd Tryz.prog cx:= .of (isS l) (stb_S l)
abbrev kT (l:List UInt8):Kd Tryz.prog cx:= .of (isT l) (stb_eq _)
abbrev kA (x:Int):Kd Tryz.prog cx:= .of (isA x) (stb_A x)
section
variable {P:Program} {ops:Array Oper} {Q:Exit→Act→World→Prop} {fs:FL P cx} {G:List (Vk P cx)} {D:FL P cx} {V:VS} {kf0:Nat→Nat} {i:Nat} {x y:Operand}
def bnOf (ops:Array Oper) (i:Nat):Option (Nat×BinOp×Operand×Operand):=match ops[i]? with
 |some o=>match o.dst,o.op with
  |some d, .binOp b _ x y _=>some (d,b,x,y)
  |_,_=>none
 |none=>none
variable {k:IntKind} {m n:Int} {b:Bool}
variable {l r:List UInt8}
theorem i64_in {x:Int} (h1: -9223372036854775808≤x) (h2:x≤9223372036854775807):IntKind.i64.wrap x=x:=by
 have e:IntKind.i64.bits=64:=rfl
 have e2:IntKind.i64.signed=true:=rfl
 simp [IntKind.wrap,e,e2]
 omega
end
theorem div_t {w:World} {va vb:Value} {n m k j:Nat} (ha:IsN w va n k) (hb:IsN w vb m j) (hk:k≤1073741824) (hm:m≠0):Calls Tryz.prog 79 #[va,vb] w (Ret w fun v w'=>(Kd.T (cx:=Z.cxA w) [kN (n/m) k,kN (n%m) j, .E (.int .i64 0)]).p w' v):=
 (div_n ha hb hk hm).mono fun _ _ r=>r.mono fun _ _ ⟨_,_,e,h1,h2⟩=>by rw [e];exact tup3 (k:=kN _ _) (l:=kN _ _) (m:= .E _) h1 h2 rfl
end Go.Proofs.YthebilnlljkfeaaGreatDoor.Z
namespace Go.Proofs.YthebilnlljkfeaaGreatDoor
open Go.RowKit
theorem of_one {w:World} {v:Value} {x:Nat} (h:Sl w v [x]):Calls Tryz.prog 35 #[v] w (Ret w fun v' w'=>IsN w' v' x 1):=by
 have:=of_n 1 h (by simp) (by omega)
 rwa [Mx.val_one] at this
theorem IsD.weak' {w:World} {v:Value} {n k j:Nat} (h:IsD w v n k) (hk:k≤j):IsD w v n j:=by
 obtain ⟨A,c,e,h1,h2,h3⟩:=h
 exact ⟨A,c,e,h1,h2,Nat.le_trans h3 hk⟩
theorem dlen_one:Dx.len 1=1:=by decide
theorem dlimbs_of_len {n:Nat} (h:Dx.len n=1):Dx.limbs n= [n]:=by
 have h1:(Dx.limbs n).length=1:=h
 match hl:Dx.limbs n,h1 with
 | [x],_=>
  have:=Dx.val_limbs n
  rw [hl,Dx.val_one] at this
  rw [this]
theorem IsV.eq {w:World} {v:Value} {z y:Int} {k:Nat} (h:IsV w v z k) (e:z=y):IsV w v y k:=e▸h
theorem dlen_nz {n:Nat} (h:n≠0):0<Dx.len n:=by
 rcases Nat.eq_zero_or_pos (Dx.len n) with h0|h0
 ·have h1:(Dx.limbs n).length=0:=h0
  have:=Dx.val_limbs n
  rw [List.length_eq_zero_iff.1 h1] at this
  exact absurd this.symm h
 ·exact h0
theorem dec_or (x:Int):(decide (x<0)=true∧x<0)∨(decide (x<0)=false∧0≤x):=by
 by_cases h:x<0
 ·exact .inl ⟨decide_eq_true h,h⟩
 ·exact .inr ⟨decide_eq_false h,by omega⟩
theorem neg_dec (z:Int):signed z.natAbs (!decide (z<0))= -z:=neg_signed (dec_or z)
theorem from_s1 {n:Int} (h:n<0):signed n.natAbs true=n:=by simp only [signed,if_true];omega
theorem from_s2 {n:Int} (h: ¬n<0):signed n.natAbs false=n:=by simp [signed];omega
theorem cmpW1 {x y:Int} (h:(x.sign-y.sign).sign≠0):(x.sign-y.sign).sign=(x-y).sign:=by
 rcases cmp_cases (dec_or x) (dec_or y) with ⟨_,e⟩|⟨e,_⟩
 ·exact e.symm
 ·exact absurd (by simpa using e) h
theorem cmpW2 {x y:Int} (h: ¬(x.sign-y.sign).sign≠0) (hx:x<0):Mx.cmp y.natAbs x.natAbs=(x-y).sign:=by
 rcases cmp_cases (dec_or x) (dec_or y) with ⟨e,_⟩|⟨_,⟨_,e⟩|⟨e,_⟩⟩
 ·exact absurd (by simpa using e) h
 ·exact e
 ·exact absurd (of_decide_eq_false e) (by omega)
theorem cmpW3 {x y:Int} (h: ¬(x.sign-y.sign).sign≠0) (hx: ¬x<0):Mx.cmp x.natAbs y.natAbs=(x-y).sign:=by
 rcases cmp_cases (dec_or x) (dec_or y) with ⟨e,_⟩|⟨_,⟨e,_⟩|⟨_,e⟩⟩
 ·exact absurd (by simpa using e) h
 ·exact absurd (of_decide_eq_true e) hx
 ·exact e
theorem add_e1 {x y:Int} (he:decide (x<0)=decide (y<0)):signed (x.natAbs+y.natAbs) (decide (x<0))=x+y:=add_same (dec_or x) (dec_or y) he
theorem add_e2 {x y:Int} (he:decide (x<0)≠decide (y<0)) (h:y.natAbs≤x.natAbs):signed (x.natAbs-y.natAbs) (decide (x<0))=x+y:=add_big (dec_or x) (dec_or y) he h
theorem add_e3 {x y:Int} (he:decide (x<0)≠decide (y<0)) (h:x.natAbs<y.natAbs):signed (y.natAbs-x.natAbs) (decide (y<0))=x+y:=add_small (dec_or x) (dec_or y) he h
theorem mul_e (x y:Int):signed (x.natAbs*y.natAbs) (!(decide (x<0)==decide (y<0)))=x*y:=mul_signed (dec_or x) (dec_or y)
theorem text_lenW {w:World} {v:Value} {z:Int} {k:Nat} (h:IsW w v z k):(Tx.text z.natAbs).length≤64*k+1:=by
 obtain ⟨_,_,_,_,h1⟩:=h
 rw [Tx.text_length]
 exact digs_lenW h1.2
theorem text_dlen {n k:Nat} (h:Dx.len n≤k):(Tx.text n).length≤4*k+1:=by
 rw [Tx.text_length]
 by_cases hn:n=0
 ·subst hn
  have:Tx.digs 0=1:=Tx.digs_small (by decide)
  omega
 ·have h1:=Tx.digs_le n hn
  have h2:=dnum_lt n
  have h3:=Nat.lt_of_le_of_lt h1 h2
  have h4:=(Nat.pow_lt_pow_iff_right (by decide:1<10)).1 h3
  omega
theorem text_lenV {w:World} {v:Value} {z:Int} {k:Nat} (h:IsV w v z k):(Tx.text z.natAbs).length≤4*k+1:=by
 obtain ⟨_,_,_,_,⟨_,_,_,_,_,h1⟩⟩:=h
 exact text_dlen h1
theorem cmp_ge {n m:Nat} (h:m≤n):decide ((0:Int)≤Mx.cmp n m)=true:=by
 rcases Nat.lt_or_eq_of_le h with h|h
 ·rw [Mx.cmp_gt h];rfl
 ·rw [Mx.cmp_eq h.symm];rfl
theorem cmp_nge {n m:Nat} (h:n<m):decide ((0:Int)≤Mx.cmp n m)=false:=by rw [Mx.cmp_lt h];rfl
theorem floor_m1 {x y q r:Int} (h:(IntKind.i64.wrap (r.sign*y.sign)=r.sign*y.sign)∧((decide (r.sign*y.sign<0)=true∧q-1=zdiv x y∧r+y=zmod x y)∨(decide (r.sign*y.sign<0)=false∧q=zdiv x y∧r=zmod x y))) (hs:r.sign*y.sign<0):q-1=zdiv x y∧r+y=zmod x y:=by
 rcases h.2 with h|h
 ·exact h.2
 ·exact absurd hs (of_decide_eq_false h.1)
theorem floor_m2 {x y q r:Int} (h:(IntKind.i64.wrap (r.sign*y.sign)=r.sign*y.sign)∧((decide (r.sign*y.sign<0)=true∧q-1=zdiv x y∧r+y=zmod x y)∨(decide (r.sign*y.sign<0)=false∧q=zdiv x y∧r=zmod x y))) (hs: ¬r.sign*y.sign<0):q=zdiv x y∧r=zmod x y:=by
 rcases h.2 with h|h
 ·exact absurd (of_decide_eq_true h.1) hs
 ·exact h.2
theorem floorV_e1 {x y:Int} {r:Nat} {q:Int} {c:Bool} (h:(c=false∧r≠0∧q-1=zdiv x y)∨((c=true∨r=0)∧q=zdiv x y)) (hc:c=false) (hr:r≠0):q-1=zdiv x y:=by
 rcases h with h|⟨h|h,_⟩
 ·exact h.2.2
 ·rw [hc] at h;cases h
 ·exact absurd h hr
theorem floorV_e2 {x y:Int} {r:Nat} {q:Int} {c:Bool} (h:(c=false∧r≠0∧q-1=zdiv x y)∨((c=true∨r=0)∧q=zdiv x y)) (hc:c=true∨r=0):q=zdiv x y:=by
 rcases h with ⟨h1,h2,_⟩|h
 ·rcases hc with hc|hc
  ·rw [hc] at h1;cases h1
  ·exact absurd hc h2
 ·exact h.2
namespace Z
open Go.Proofs.YthebilnlljkfeaaGreatDoor.Rg
theorem fldWN {z:Int} {k:Nat}: ∀w cs,isW z k w (.agg cs)→isN z.natAbs k w (.agg (cs.extract 0 (0+1))):=fun _ _ ⟨_,_,_,e,h⟩=>by
 injection e with e
 subst e
 exact h
theorem fldWB {z:Int} {k:Nat}: ∀w cs,isW z k w (.agg cs)→isE (.bool (decide (z<0))) w (cs.getD 1 undef):=fun _ _ ⟨_,_,_,e,_⟩=>by
 injection e with e
 subst e
 rfl
theorem compare_k (w:World) (n m:Int):Calls Tryz.prog 66 #[.int .i64 n, .int .i64 m] w (Ret w fun v' _=>v'= .int .i64 (n-m).sign):=
 (compareI_any w n m).mono fun _ _ ⟨e,h⟩=>⟨_,e,rfl,h▸Grow.refl w⟩
theorem sub_t {w:World} {va vb:Value} {n m k j:Nat} (ha:IsN w va n k) (hb:IsN w vb m j) (hk:k≤4294967296) (hle:m≤n):Calls Tryz.prog 84 #[va,vb] w (Ret w fun v w'=>(Kd.T (cx:=Z.cxA w) [kN (n-m) k, .E (.bool true)]).p w' v):=
 (sub_n ha hb hk hle).mono fun _ _ r=>r.mono fun _ _ ⟨_,e,h1⟩=>by rw [e];exact tup2 (k:=kN _ _) (l:= .E _) h1 rfl
theorem subl_t {w:World} {va vb:Value} {n m k j:Nat} (ha:IsN w va n k) (hb:IsN w vb m j) (hk:k≤4294967296) (hlt:n<m):Calls Tryz.prog 84 #[va,vb] w (Ret w fun v w'=>(Kd.T (cx:=Z.cxA w) [kN 0 0, .E (.bool false)]).p w' v):=
 (sub_lt_n ha hb hk hlt).mono fun _ _ r=>r.mono fun _ _ ⟨_,e,h1⟩=>by rw [e];exact tup2 (k:=kN _ _) (l:= .E _) h1 rfl
theorem div0_t {w:World} {va vb:Value} {n m k j:Nat} (ha:IsN w va n k) (hb:IsN w vb m j) (hm:m=0):Calls Tryz.prog 79 #[va,vb] w (Ret w fun v w'=>(Kd.T (cx:=Z.cxA w) [kN 0 0,kN 0 0, .E (.int .i64 8)]).p w' v):=by
 subst hm
 exact (div_zero_n ha hb.1).mono fun _ _ r=>r.mono fun _ _ ⟨_,_,e,h1,h2⟩=>by rw [e];exact tup3 (k:=kN _ _) (l:=kN _ _) (m:= .E _) h1 h2 rfl
theorem refDivMod_t {w:World} {va vb:Value} {n m k j:Nat} (ha:IsD w va n k) (hb:IsD w vb m j) (hk:k≤1048576) (hj:j≤1048576) (hm:0<m):Calls Tryz.prog 99 #[va,vb] w (Ret w fun v w'=>(Kd.T (cx:=Z.cxA w) [kD (n/m) k,kD (n%m) j]).p w' v):=
 (refDivMod_any w va vb n m k j hk hj ha hb hm).mono fun _ _ r=>r.mono fun _ _ ⟨_,_,e,h1,h2⟩=>by rw [e];exact tup2 (k:=kD _ _) (l:=kD _ _) h1 h2
theorem small_neg {n:Int} {w:World} (h:n<0) (h1: -9223372036854775807≤n):Calls Tryz.prog 87 #[.int .i64 ((n.natAbs:Nat):Int)] w (Ret w fun v' w'=>IsD w' v' n.natAbs 5):=refSmall_any w n.natAbs (by omega)
theorem small_pos {n:Int} {w:World} (h: ¬n<0) (h1:n≤9223372036854775807):Calls Tryz.prog 87 #[.int .i64 n] w (Ret w fun v' w'=>IsD w' v' n.natAbs 5):=by
 have:=refSmall_any w n.natAbs (by omega)
 rwa [show ((n.natAbs:Nat):Int)=n by omega] at this
section
variable {ops:Array Oper} {Q:Exit→Act→World→Prop} {F:Facts} {G:List Vr} {D:List (Nat×Pr)} {V:VS} {kf0:Nat→Nat} {i d:Nat} {x y:Operand}
theorem buildW0 (hF: ∀w v,isW 0 0 w v→F d w v):Owes soft Tryz.prog ops Q F G D V kf0 i (some d) (.build 26 #[]):=
 val (fun o a w ho c=>by
  refine ⟨.agg #[.slice none 0 0, .bool false], ?_,hF _ _ ⟨none,0,0,rfl,IsN.zero w⟩⟩
  simp [execOp,ho,go_sem]) rfl
theorem buildW2 {x y n k:Nat} {b:Bool} (hx:Arg soft Tryz.prog ops F G D V kf0 i (.tmp x) (isN n k)) (hy:Arg soft Tryz.prog ops F G D V kf0 i (.tmp y) (isE (.bool b))) (hb:b=true→n≠0) (hF: ∀w v,isW (signed n b) k w v→F d w v):Owes soft Tryz.prog ops Q F G D V kf0 i (some d) (.build 26 #[(0, .tmp x),(1, .tmp y)]):=
 val (fun o a w ho c=>by
  have h1:=hx a w c
  have e2:a.eval (.tmp y)= .bool b:=hy a w c
  obtain ⟨A,l,c',e1⟩:=IsN.cell h1
  rw [e1] at h1
  refine ⟨.agg #[.slice A l c', .bool b], ?_,hF _ _ (IsW.mk h1 hb)⟩
  simp only [Act.eval,Array.getD_eq_getD_getElem?] at e1 e2
  simp [execOp,ho,go_sem,Act.eval,e1,e2]) rfl
theorem buildV2 {x y n k:Nat} {b:Bool} (hx:Arg soft Tryz.prog ops F G D V kf0 i (.tmp x) (isD n k)) (hy:Arg soft Tryz.prog ops F G D V kf0 i (.tmp y) (isE (.bool b))) (hb:b=true→n≠0) (hF: ∀w v,isV (signed n b) k w v→F d w v):Owes soft Tryz.prog ops Q F G D V kf0 i (some d) (.build 31 #[(0, .tmp x),(1, .tmp y)]):=
 val (fun o a w ho c=>by
  have h1:=hx a w c
  have e2:a.eval (.tmp y)= .bool b:=hy a w c
  obtain ⟨A,c',e1⟩:=IsD.slice h1
  rw [e1] at h1
  refine ⟨.agg #[.slice A (Dx.len n) c', .bool b], ?_,hF _ _ (IsV.mk h1 hb)⟩
  simp only [Act.eval,Array.getD_eq_getD_getElem?] at e1 e2
  simp [execOp,ho,go_sem,Act.eval,e1,e2]) rfl
theorem buildOneZ {x:Nat} (hc:x<Mx.B) (hF: ∀w v,isS [x] w v→F d w v):Owes soft Tryz.prog ops Q F G D V kf0 i (some d) (.buildSlice 22 1 #[(0, .const (.int .u64 (x:Int)))]):=
 ofRg fun _ _=>buildOne hc hF
theorem buildOneT {z x:Nat} (hx:Arg soft Tryz.prog ops F G D V kf0 i (.tmp z) (isE (.int .u64 (x:Int)))) (hc:x<Mx.B) (hF: ∀w v,isS [x] w v→F d w v):Owes soft Tryz.prog ops Q F G D V kf0 i (some d) (.buildSlice 22 1 #[(0, .tmp z)]):=
 fun o a w ho hd cx=>Rg.valOf (v:= .slice (some ⟨w.heap.size,0,none⟩) 1 1) (w':=w.alloc (.cells (vals [x]).toArray 76)) (by
  have e:a.eval (.tmp z)= .int .u64 (x:Int):=hx a w cx
  simp only [Act.eval,Array.getD_eq_getD_getElem?] at e
  simp [execOp,ho,go_sem,vals,Act.eval,e]) hd
  (hF _ _ (sl_built w [x] (by intro y hy;simp at hy;rw [hy];exact hc))) ((Grow.refl w).alloc _)
theorem eqlBz {m n b:Bool} (hx:Arg soft Tryz.prog ops F G D V kf0 i x (isE (.bool m))) (hy:Arg soft Tryz.prog ops F G D V kf0 i y (isE (.bool n))) (e:(m==n)=b) (hF: ∀w v,v= .bool b→F d w v):Owes soft Tryz.prog ops Q F G D V kf0 i (some d) (.binOp .eql 4 x y 4):=
 bin hx hy guardB (fun w=>by subst e;simp [go_sem]) hF
theorem neqBz {m n b:Bool} (hx:Arg soft Tryz.prog ops F G D V kf0 i x (isE (.bool m))) (hy:Arg soft Tryz.prog ops F G D V kf0 i y (isE (.bool n))) (e:(!(m==n))=b) (hF: ∀w v,v= .bool b→F d w v):Owes soft Tryz.prog ops Q F G D V kf0 i (some d) (.binOp .neq 4 x y 4):=
 bin hx hy guardB (fun w=>by subst e;simp [go_sem]) hF
theorem cvU {m r:Int} (hx:Arg soft Tryz.prog ops F G D V kf0 i x (isE (.int .i64 m))) (hr:IntKind.u64.wrap m=r) (hF: ∀w v,v= .int .u64 r→F d w v):Owes soft Tryz.prog ops Q F G D V kf0 i (some d) (.convert 3 76 x):=
 val (fun o a w ho c=>by
  have e1:a.eval x= .int .i64 m:=hx a w c
  refine ⟨.int .u64 r, ?_,hF _ _ rfl⟩
  unfold execOp
  simp only [ho,e1]
  simp [go_sem,convert,Conv.intToInt,hr]) rfl
theorem buildDone {x:Nat} (h0:x≠0) (hc:x<10000) (hF: ∀w v,isD x 1 w v→F d w v):Owes soft Tryz.prog ops Q F G D V kf0 i (some d) (.buildSlice 29 1 #[(0, .const (.int .i64 (x:Int)))]):=
 fun o a w ho hd _=>Rg.valOf (v:= .slice (some ⟨w.heap.size,0,none⟩) 1 1) (w':=w.alloc (.cells #[.int .i64 (x:Int)] 3)) (by simp [execOp,ho,go_sem,Act.eval]) hd
  (hF _ _ (isD_one w x h0 hc)) ((Grow.refl w).alloc _)
theorem lenD {n k:Nat} {ts:Array TypeId} (hx:Arg soft Tryz.prog ops F G D V kf0 i x (isD n k)) (ht:ts= #[29]) (hF: ∀w v,v= .int .i64 ((Dx.len n:Nat):Int)→F d w v):Owes soft Tryz.prog ops Q F G D V kf0 i (some d) (.call {callee:= .builtin .len,args:= #[x],argTypes:=ts}):=
 val (fun o a w ho c=>by
  obtain ⟨A,c2,e2⟩:=IsD.slice (hx a w c)
  subst ht
  refine ⟨.int .i64 ((Dx.len n:Nat):Int), ?_,hF _ _ rfl⟩
  unfold execOp
  simp only [ho,resolve,List.map_toArray,List.map_cons,List.map_nil,e2]
  simp [go_sem,invoke,builtin,Builtin.len_,goInt]) rfl
theorem lenS {l:List Nat} {ts:Array TypeId} (hx:Arg soft Tryz.prog ops F G D V kf0 i x (isS l)) (ht:ts= #[22]) (hF: ∀w v,v= .int .i64 ((l.length:Nat):Int)→F d w v):Owes soft Tryz.prog ops Q F G D V kf0 i (some d) (.call {callee:= .builtin .len,args:= #[x],argTypes:=ts}):=
 val (fun o a w ho c=>by
  obtain ⟨A,c2,e2,_⟩:=hx a w c
  subst ht
  refine ⟨.int .i64 ((l.length:Nat):Int), ?_,hF _ _ rfl⟩
  unfold execOp
  simp only [ho,resolve,List.map_toArray,List.map_cons,List.map_nil,e2]
  simp [go_sem,invoke,builtin,Builtin.len_,goInt]) rfl
theorem minI {m n r:Int} {ts:Array TypeId} (hx:Arg soft Tryz.prog ops F G D V kf0 i x (isE (.int .i64 m))) (hy:Arg soft Tryz.prog ops F G D V kf0 i y (isE (.int .i64 n))) (hr:min m n=r) (hF: ∀w v,v= .int .i64 r→F d w v):Owes soft Tryz.prog ops Q F G D V kf0 i (some d) (.call {callee:= .builtin .min,args:= #[x,y],argTypes:=ts}):=
 val (fun o a w ho c=>by
  have e1:a.eval x= .int .i64 m:=hx a w c
  have e2:a.eval y= .int .i64 n:=hy a w c
  refine ⟨.int .i64 r, ?_,hF _ _ rfl⟩
  have hr':(if n<m then n else m)=r:=by rw [←hr];split<;>omega
  unfold execOp
  simp only [ho,resolve,List.map_toArray,List.map_cons,List.map_nil,e1,e2]
  simp [go_sem,invoke,builtin,Builtin.min_,Builtin.min2,hr']) rfl
theorem upS {l:List Nat} {n:Nat} (hx:Arg soft Tryz.prog ops F G D V kf0 i x (isS l)) (hy:Arg soft Tryz.prog ops F G D V kf0 i y (isE (.int .i64 (n:Int)))) (hn:n≤l.length) (hF: ∀w v,isS (l.take n) w v→F d w v):Owes soft Tryz.prog ops Q F G D V kf0 i (some d) (.slice 22 x none (some y) none):=
 val (fun o a w ho c=>by
  obtain ⟨A,c2,e1,h1,h2,h3⟩:=hx a w c
  have e2:a.eval y= .int .i64 (n:Int):=hy a w c
  refine ⟨.slice A n c2, ?_,hF _ _ ⟨A,c2,by rw [List.length_take];congr 1;omega,by rw [List.length_take];omega,fun u hu=>h2 u (List.mem_of_mem_take hu),h3.take n⟩⟩
  unfold execOp
  simp only [ho,Option.map_some,Option.map_none,e1,e2]
  have h4:(n:Int)≤(c2:Int):=by omega
  simp [go_sem,Instr.sliceAt]
  omega) rfl
theorem idxD {n k:Nat} (hx:Arg soft Tryz.prog ops F G D V kf0 i x (isD n k)) (hn:Dx.len n=1) (hF: ∀w v,isA (n:Int) w v→F d w v):Owes soft Tryz.prog ops Q F G D V kf0 i (some d) (.indexAddr 29 x (.const (.int .i64 0))):=
 val (fun o a w ho c=>by
  obtain ⟨A,c2,e1,h1,h2,h3⟩:=hx a w c
  rw [hn] at e1
  have hl:=dlimbs_of_len hn
  rw [hl] at h2
  obtain ⟨b,off,rfl,hb,hc⟩:=h2 (by simp)
  refine ⟨.pointer (some ⟨b,off,none⟩), ?_,hF _ _ ⟨b,off,rfl,hb,by simpa using hc 0 n rfl⟩⟩
  unfold execOp
  simp only [ho,e1]
  simp [go_sem,Instr.indexAt,Act.eval]) rfl
theorem loadA {z:Int} (hx:Arg soft Tryz.prog ops F G D V kf0 i x (isA z)) (hF: ∀w v,v= .int .i64 z→F d w v):Owes soft Tryz.prog ops Q F G D V kf0 i (some d) (.load 3 x):=
 val (fun o a w ho c=>by
  obtain ⟨b,off,e1,_,h1⟩:=hx a w c
  refine ⟨.int .i64 z, ?_,hF _ _ rfl⟩
  unfold execOp
  simp only [ho,e1]
  simp [go_sem,Instr.loadAt,h1]) rfl
end
section
variable {ops:Array Oper}
def unOf (ops:Array Oper) (i:Nat):Option (Nat×UnOp×Operand):=match ops[i]? with
 |some o=>match o.dst,o.op with
  |some d, .unOp b _ x=>some (d,b,x)
  |_,_=>none
 |none=>none
end
end Z
end Go.Proofs.YthebilnlljkfeaaGreatDoor
namespace Go.Proofs.YthebilnlljkfeaaGreatDoor
open Go.RowKit
variable {cx:Z.Cx}
def IsF (w:World) (v:Value) (z:Int) (n k:Nat):Prop:= ∃A l c A' l' c',v= .agg #[.slice A l c, .bool (decide (z<0)), .slice A' l' c']∧IsN w (.agg #[.slice A l c]) z.natAbs k∧IsN w (.agg #[.slice A' l' c']) n k
theorem IsF.weak {w:World} {v:Value} {z:Int} {n k j:Nat} (h:IsF w v z n k) (hk:k≤j):IsF w v z n j:=by
 obtain ⟨A,l,c,A',l',c',e,h1,h2⟩:=h
 exact ⟨A,l,c,A',l',c',e,h1.weak hk,h2.weak hk⟩
def okDen (q:Rat) (n:Nat):Prop:=n=q.den∨(n=0∧q=0)
def IsQ (w:World) (v:Value) (q:Rat) (k:Nat):Prop:=1≤k∧ ∃n,IsF w v q.num n k∧okDen q n
theorem IsQ.weak {w:World} {v:Value} {q:Rat} {k j:Nat} (h:IsQ w v q k) (hk:k≤j):IsQ w v q j:=⟨Nat.le_trans h.1 hk,by
 obtain ⟨_,n,h1,h2⟩:=h
 exact ⟨n,h1.weak hk,h2⟩⟩
theorem IsQ.eq {w:World} {v:Value} {q r:Rat} {k:Nat} (h:IsQ w v q k) (e:q=r):IsQ w v r k:=e▸h
theorem IsF.q {w:World} {v:Value} {z:Int} {n k:Nat} {q:Rat} (h:IsF w v z n k) (hk:1≤k) (hz:z=q.num) (hn:n=q.den):IsQ w v q k:=by
 subst hz hn
 exact ⟨hk,_,h, .inl rfl⟩
def IsR (w:World) (v:Value) (q:Rat) (k:Nat):Prop:= ∃A l c A' l' c',v= .agg #[.slice A l c, .bool (decide (q.num<0)), .slice A' l' c']∧IsD w (.slice A l c) q.num.natAbs k∧IsD w (.slice A' l' c') q.den k
theorem IsR.weak {w:World} {v:Value} {q:Rat} {k j:Nat} (h:IsR w v q k) (hk:k≤j):IsR w v q j:=by
 obtain ⟨A,l,c,A',l',c',e,h1,h2⟩:=h
 exact ⟨A,l,c,A',l',c',e,h1.weak' hk,h2.weak' hk⟩
theorem IsR.eq {w:World} {v:Value} {q r:Rat} {k:Nat} (h:IsR w v q k) (e:q=r):IsR w v r k:=e▸h
namespace Z
open Go.Proofs.YthebilnlljkfeaaGreatDoor.Rg
abbrev isF (z:Int) (n k:Nat):Pr:=fun w v=>IsF w v z n k
abbrev isQ (q:Rat) (k:Nat):Pr:=fun w v=>IsQ w v q k
abbrev isR (q:Rat) (k:Nat):Pr:=fun w v=>IsR w v q k
theorem stb_F (z:Int) (n k:Nat):Stb soft (isF z n k):=fun _ _ _ ⟨A,l,c,A',l',c',e,h1,h2⟩ g=>⟨A,l,c,A',l',c',e,stb_N _ _ _ _ _ h1 g,stb_N _ _ _ _ _ h2 g⟩
theorem stb_Q (q:Rat) (k:Nat):Stb soft (isQ q k):=fun _ _ _ ⟨hk,n,h1,h2⟩ g=>⟨hk,n,stb_F _ _ _ _ _ _ h1 g,h2⟩
theorem stb_R (q:Rat) (k:Nat):Stb soft (isR q k):=fun _ _ _ ⟨A,l,c,A',l',c',e,h1,h2⟩ g=>⟨A,l,c,A',l',c',e,stb_D _ _ _ _ _ h1 g,stb_D _ _ _ _ _ h2 g⟩
theorem aggF:aggB Tryz.prog 28=true:=by kernel_rfl
theorem sizeF:(Tryz.prog.info? 28).map (·.size)=some 3:=by kernel_rfl
theorem shF {z:Int} {n k:Nat}: ∀w v,isF z n k w v→ ∃cs,v= .agg cs∧Fits soft Tryz.prog 28 cs:=fun _ _ ⟨_,_,_,_,_,_,e,_⟩=>⟨_,e,aggF,sizeF,by simp [Value.oneCell'],by simp [soft,softV];first|rfl|exact ⟨rfl,rfl⟩⟩
theorem shQ {q:Rat} {k:Nat}: ∀w v,isQ q k w v→ ∃cs,v= .agg cs∧Fits soft Tryz.prog 28 cs:=fun w v ⟨_,_,h,_⟩=>shF w v h
theorem fldFW {z:Int} {n k:Nat}: ∀w cs,isF z n k w (.agg cs)→isW z k w (.agg (cs.extract 0 (0+2))):=fun w cs ⟨A,l,c,A',l',c',e,h1,_⟩=>by
 injection e with e
 subst e
 exact ⟨A,l,c,rfl,h1⟩
theorem fldFN {z:Int} {n k:Nat}: ∀w cs,isF z n k w (.agg cs)→isN n k w (.agg (cs.extract 2 (2+1))):=fun w cs ⟨A,l,c,A',l',c',e,_,h2⟩=>by
 injection e with e
 subst e
 exact h2
theorem fldQW {q:Rat} {k:Nat}: ∀w cs,isQ q k w (.agg cs)→isW q.num k w (.agg (cs.extract 0 (0+2))):=fun w cs ⟨_,_,h,_⟩=>fldFW w cs h
abbrev kF (z:Int) (n k:Nat):Kd Tryz.prog cx:= .at (isF z n k) (stb_F z n k) 28 shF
abbrev kQ (q:Rat) (k:Nat):Kd Tryz.prog cx:= .at (isQ q k) (stb_Q q k) 28 shQ
theorem IsF.mk {w:World} {u v:Value} {z:Int} {n k j m:Nat} (hu:IsW w u z k) (hv:IsN w v n j) (hk:k≤m) (hj:j≤m): ∃A l c A' l' c',u= .agg #[.slice A l c, .bool (decide (z<0))]∧v= .agg #[.slice A' l' c']∧IsF w (.agg #[.slice A l c, .bool (decide (z<0)), .slice A' l' c']) z n m:=by
 obtain ⟨A,l,c,rfl,h1⟩:=hu
 obtain ⟨A',l',c',e⟩:=hv.cell
 subst e
 exact ⟨A,l,c,A',l',c',rfl,rfl,A,l,c,A',l',c',rfl,h1.weak hk,hv.weak hj⟩
section
variable {ops:Array Oper} {Q:Exit→Act→World→Prop} {F:Facts} {G:List Vr} {D:List (Nat×Pr)} {V:VS} {kf0:Nat→Nat} {i d:Nat}
theorem buildF {x y n k j m:Nat} {z:Int} (hx:Arg soft Tryz.prog ops F G D V kf0 i (.tmp x) (isW z k)) (hy:Arg soft Tryz.prog ops F G D V kf0 i (.tmp y) (isN n j)) (hk:k≤m) (hj:j≤m) (hF: ∀w v,isF z n m w v→F d w v):Owes soft Tryz.prog ops Q F G D V kf0 i (some d) (.build 28 #[(0, .tmp x),(1, .tmp y)]):=
 val (fun o a w ho c=>by
  obtain ⟨A,l,c,A',l',c',e1,e2,h⟩:=IsF.mk (hx a w c) (hy a w c) hk hj
  refine ⟨_, ?_,hF _ _ h⟩
  simp only [Act.eval,Array.getD_eq_getD_getElem?] at e1 e2
  simp [execOp,ho,go_sem,Act.eval,e1,e2]) rfl
theorem buildF0 (hF: ∀w v,isF 0 0 1 w v→F d w v):Owes soft Tryz.prog ops Q F G D V kf0 i (some d) (.build 28 #[]):=
 val (fun o a w ho c=>by
  have h0:=(IsN.zero w).weak (Nat.zero_le 1)
  refine ⟨.agg #[.slice none 0 0, .bool false, .slice none 0 0], ?_,hF _ _ ⟨none,0,0,none,0,0,rfl,h0,h0⟩⟩
  simp [execOp,ho,go_sem]) rfl
end
end Z
theorem rat_num_of {n:Int} {d:Nat} (hd:d≠0) (q:Rat) (h:q=mkRat n d):q.num=n/(n.natAbs.gcd d:Nat)∧q.den=d/n.natAbs.gcd d:=by
 subst h
 rw [Rat.num_mkRat,Rat.den_mkRat,if_neg hd,if_neg hd,Nat.gcd_comm]
 exact ⟨rfl,rfl⟩
theorem signed_div {z:Int} {g:Nat} (h:g∣z.natAbs):signed (z.natAbs/g) (decide (Int.sign z<0))=z/(g:Int):=by
 have hs:Int.sign z<0↔z<0:=by rw [Int.sign_neg_iff]
 obtain ⟨c,hc⟩:=h
 rcases Nat.eq_zero_or_pos g with rfl|hg
 ·have:z=0:=by omega
  subst this
  simp [signed]
 ·rw [hc,Nat.mul_div_cancel_left _ hg]
  by_cases hz:z<0
  ·rw [decide_eq_true (hs.2 hz)]
   have:z=(g:Int)*(-(c:Int)):=by
    have:(z.natAbs:Int)=(g:Int)*c:=by rw [hc];simp
    rw [Int.mul_neg]
    omega
   rw [this,Int.mul_ediv_cancel_left _ (by omega)]
   simp [signed]
  ·rw [decide_eq_false (fun h=>hz (hs.1 h))]
   have:z=(g:Int)*(c:Int):=by
    have:(z.natAbs:Int)=(g:Int)*c:=by rw [hc];simp
    omega
   rw [this,Int.mul_ediv_cancel_left _ (by omega)]
   simp [signed]
theorem cancel_rat {z:Int} {n:Nat} (hn:n≠0):z/(z.natAbs.gcd n:Nat)=(mkRat z n).num∧n/z.natAbs.gcd n=(mkRat z n).den:=by
 obtain ⟨h1,h2⟩:=rat_num_of hn (mkRat z n) rfl
 exact ⟨h1.symm,h2.symm⟩
theorem add_rat (a b:Rat) {g g1:Nat} {t:Int} (hg:g=a.den.gcd b.den) (ht:t=a.num*(b.den/g:Nat)+b.num*(a.den/g:Nat)) (hg1:g1=t.natAbs.gcd g):t/(g1:Int)=(a+b).num∧(a.den/g)*(b.den/g)*(g/g1)=(a+b).den:=by
 have hgp:0<g:=hg▸Nat.gcd_pos_of_pos_left _ a.den_pos
 have ha:g∣a.den:=hg▸Nat.gcd_dvd_left _ _
 have hb:g∣b.den:=hg▸Nat.gcd_dvd_right _ _
 have hx:=Rat.add.aux a b hg rfl rfl
 simp only at hx
 rw [←ht,←hg1] at hx
 have hden:(a.den/g)*b.den≠0:=Nat.ne_of_gt (Nat.mul_pos (Nat.div_pos (Nat.le_of_dvd a.den_pos ha) hgp) b.den_pos)
 have e:a+b=mkRat t ((a.den/g)*b.den):=by
  rw [Rat.add_def',ht]
  have h1:a.num*b.den+b.num*a.den=(a.num*(b.den/g:Nat)+b.num*(a.den/g:Nat))*(g:Nat):=by
   have hb':(b.den:Int)=(b.den/g:Nat)*(g:Int):=by rw [←Int.natCast_mul,Nat.div_mul_cancel hb]
   have ha':(a.den:Int)=(a.den/g:Nat)*(g:Int):=by rw [←Int.natCast_mul,Nat.div_mul_cancel ha]
   rw [Int.add_mul,Int.mul_assoc,Int.mul_assoc,←hb',←ha']
  have h2:a.den*b.den=(a.den/g)*b.den*g:=by
   rw [Nat.mul_right_comm,Nat.div_mul_cancel ha]
  rw [h1,h2,Rat.mkRat_mul_right (by omega)]
 obtain ⟨h1,h2⟩:=rat_num_of hden _ e
 rw [←hx] at h1 h2
 refine ⟨h1.symm, ?_⟩
 rw [h2]
 have hd1:g1∣g:=hg1▸Nat.gcd_dvd_right _ _
 obtain ⟨c,hc⟩:=hd1
 have hg1p:0<g1:=Nat.pos_of_ne_zero fun e=>by rw [e] at hc;omega
 have hbe:b.den=b.den/g*g:=(Nat.div_mul_cancel hb).symm
 rw [show g/g1=c by rw [hc,Nat.mul_div_cancel_left _ hg1p]]
 have:a.den/g*b.den=g1*(a.den/g*(b.den/g)*c):=by
  rw [show a.den/g*b.den=a.den/g*(b.den/g*g) by rw [←hbe],show b.den/g*g=b.den/g*(g1*c) by rw [←hc]]
  rw [Nat.mul_comm g1 (a.den/g*(b.den/g)*c),Nat.mul_assoc (a.den/g*(b.den/g)) c g1,Nat.mul_comm c g1,Nat.mul_assoc (a.den/g)]
 rw [this,Nat.mul_div_cancel_left _ hg1p]
theorem mul_rat (a b:Rat):(a.num/(a.num.natAbs.gcd b.den:Nat))*(b.num/(b.num.natAbs.gcd a.den:Nat))=(a*b).num∧(a.den/b.num.natAbs.gcd a.den)*(b.den/a.num.natAbs.gcd b.den)=(a*b).den:=by
 have h:a*b=Rat.mul a b:=rfl
 rw [h]
 unfold Rat.mul
 constructor<;>simp [Int.divExact_eq_ediv,Nat.divExact_eq_div]
theorem mul_same {a b:Rat} (h:a.den=b.den):a.num*b.num=(a*b).num∧a.den*b.den=(a*b).den:=by
 have h1:a.num.natAbs.gcd b.den=1:=by rw [←h];exact a.reduced
 have h2:b.num.natAbs.gcd a.den=1:=by rw [h];exact b.reduced
 have:=mul_rat a b
 rw [h1,h2] at this
 simpa using this
theorem den_add_dvd (a b:Rat):(a+b).den≤a.den*b.den:=by
 rw [Rat.add_def',Rat.den_mkRat]
 split
 ·next h=>exact absurd h (Nat.ne_of_gt (Nat.mul_pos a.den_pos b.den_pos))
 ·exact Nat.div_le_self _ _
end Go.Proofs.YthebilnlljkfeaaGreatDoor
namespace Go.Proofs.YthebilnlljkfeaaGreatDoor
open Go.RowKit
theorem IsQ.num_len {w:World} {v:Value} {q:Rat} {k:Nat} (h:IsQ w v q k):Mx.len q.num.natAbs≤k:=by
 obtain ⟨_,n,⟨_,_,_,_,_,_,_,h1,_⟩,_⟩:=h
 exact h1.2
theorem IsQ.den_len {w:World} {v:Value} {q:Rat} {k:Nat} (h:IsQ w v q k):Mx.len q.den≤k:=by
 obtain ⟨hk,n,⟨_,_,_,_,_,_,_,_,h2⟩,h3⟩:=h
 rcases h3 with rfl|⟨_,rfl⟩
 ·exact h2.2
 ·have:Mx.len 1=1:=by decide
  have e:(0:Rat).den=1:=rfl
  rw [e,this];exact hk
theorem IsF.re {w:World} {v:Value} {z:Int} {n m k:Nat} (h:IsF w v z n m) (h1:Mx.len z.natAbs≤k) (h2:Mx.len n≤k):IsF w v z n k:=by
 obtain ⟨A,l,c,A',l',c',e,g1,g2⟩:=h
 exact ⟨A,l,c,A',l',c',e,⟨g1.1,h1⟩,⟨g2.1,h2⟩⟩
theorem num_add_len {a b:Rat} {k j:Nat} (h1:Mx.len a.num.natAbs≤k) (h2:Mx.len a.den≤k) (h3:Mx.len b.num.natAbs≤j) (h4:Mx.len b.den≤j):Mx.len (a+b).num.natAbs≤k+j+1:=by
 have e:(a+b).num.natAbs≤a.num.natAbs*b.den+b.num.natAbs*a.den:=by
  rw [Rat.add_def',Rat.num_mkRat,if_neg (Nat.ne_of_gt (Nat.mul_pos a.den_pos b.den_pos))]
  refine Nat.le_trans (m:=(a.num*b.den+b.num*a.den).natAbs) ?_ ?_
  ·generalize a.num*b.den+b.num*a.den=t
   rw [Int.natAbs_ediv_of_dvd (by rw [←Int.dvd_natAbs,Int.ofNat_dvd];exact Nat.gcd_dvd_right _ _)]
   exact Nat.div_le_self _ _
  ·refine Nat.le_trans (Int.natAbs_add_le _ _) ?_
   rw [Int.natAbs_mul,Int.natAbs_mul]
   simp
 refine Nat.le_trans (Mx.len_mono e) (Nat.le_trans (Mx.len_add _ _) ?_)
 have l1:=Mx.len_mul a.num.natAbs b.den
 have l2:=Mx.len_mul b.num.natAbs a.den
 omega
theorem den_add_len {a b:Rat} {k j:Nat} (h2:Mx.len a.den≤k) (h4:Mx.len b.den≤j):Mx.len (a+b).den≤k+j+1:=by
 refine Nat.le_trans (Mx.len_mono (den_add_dvd a b)) (Nat.le_trans (Mx.len_mul _ _) ?_)
 omega
theorem IsF.sum {w:World} {v:Value} {z:Int} {n m k j:Nat} {a b:Rat} (h:IsF w v z n m) (e:z=(a+b).num∧n=(a+b).den) (h1:Mx.len a.num.natAbs≤k) (h2:Mx.len a.den≤k) (h3:Mx.len b.num.natAbs≤j) (h4:Mx.len b.den≤j):IsQ w v (a+b) (k+j+1):=by
 obtain ⟨rfl,rfl⟩:=e
 exact ⟨by omega,_,h.re (num_add_len h1 h2 h3 h4) (den_add_len h2 h4), .inl rfl⟩
def cmpQ (x y:Rat):Int:=Int.sign (x.num*(y.den:Nat) -y.num*(x.den:Nat))
theorem cmpQ_lt {x y:Rat}:cmpQ x y= -1↔x<y:=by
 unfold cmpQ
 rw [Int.sign_eq_neg_one_iff_neg,Rat.lt_iff]
 omega
theorem cmpQ_gt {x y:Rat}:cmpQ x y=1↔y<x:=by
 unfold cmpQ
 rw [Int.sign_eq_one_iff_pos,Rat.lt_iff]
 omega
theorem cmpQ_eq {x y:Rat}:cmpQ x y=0↔x=y:=by
 unfold cmpQ
 rw [Int.sign_eq_zero_iff_zero,Rat.eq_iff_mul_eq_mul]
 omega
theorem cmpQ_cases (x y:Rat):(cmpQ x y= -1∧x<y)∨(cmpQ x y=0∧x=y)∨(cmpQ x y=1∧y<x):=by
 rcases Rat.le_total (a:=x) (b:=y) with h|h
 ·rcases Rat.le_iff_lt_or_eq.1 h with h|h
  ·exact .inl ⟨cmpQ_lt.2 h,h⟩
  ·exact .inr (.inl ⟨cmpQ_eq.2 h,h⟩)
 ·rcases Rat.le_iff_lt_or_eq.1 h with h|h
  ·exact .inr (.inr ⟨cmpQ_gt.2 h,h⟩)
  ·exact .inr (.inl ⟨cmpQ_eq.2 h.symm,h.symm⟩)
theorem sgn_cmpQ (x:Rat):x.num.sign=cmpQ x 0:=by
 unfold cmpQ
 simp
def qtext (q:Rat):List UInt8:=if q.den=1 then ztext q.num else ztext q.num++ [47]++Tx.text q.den
theorem floor_zdiv (q:Rat):zdiv q.num (signed q.den false)=q.floor:=by
 have h:(0:Int)<(q.den:Int):=by have:=q.den_pos;omega
 unfold zdiv
 simp only [signed,Bool.false_eq_true,if_false,if_pos h]
 rw [Rat.floor_def]
theorem inv_num {y:Rat} (hy:y≠0):signed y.den (decide (Int.sign y.num<0))=(y⁻¹).num:=by
 rw [Rat.num_inv]
 by_cases h:y.num<0
 ·rw [decide_eq_true (by rw [Int.sign_eq_neg_one_of_neg h];decide),Int.sign_eq_neg_one_of_neg h]
  simp [signed]
 ·have h0:y.num≠0:=fun e=>hy (Rat.num_eq_zero.1 e)
  have hp:0<y.num:=by omega
  rw [decide_eq_false (by rw [Int.sign_eq_one_of_pos hp];decide),Int.sign_eq_one_of_pos hp]
  simp [signed]
theorem inv_den {y:Rat} (hy:y≠0):y.num.natAbs=(y⁻¹).den:=by
 rw [Rat.den_inv,if_neg fun e=>hy (Rat.num_eq_zero.1 e)]
theorem IsF.q0 {w:World} {v:Value} (h:IsF w v 0 0 1):IsQ w v 0 1:=⟨Nat.le_refl _,0,h, .inr ⟨rfl,rfl⟩⟩
theorem of_rat_pos {z n:Int} (hn:0<n):z/(Nat.gcd z.natAbs n.natAbs:Nat)=(z/(n:Rat)).num∧n.natAbs/Nat.gcd z.natAbs n.natAbs=(z/(n:Rat)).den:=by
 have e:(z/(n:Rat))=mkRat z n.natAbs:=by
  rw [Rat.mkRat_eq_div]
  congr 1
  rw [←Rat.intCast_natCast]
  congr 1
  omega
 rw [e]
 exact cancel_rat (by omega)
theorem of_rat_neg {z n:Int} (hn:n<0): -z/(Nat.gcd (-z).natAbs n.natAbs:Nat)=(z/(n:Rat)).num∧n.natAbs/Nat.gcd (-z).natAbs n.natAbs=(z/(n:Rat)).den:=by
 have e:(z/(n:Rat))=mkRat (-z) n.natAbs:=by
  obtain ⟨m,rfl⟩: ∃m:Nat,n= -(m:Int):=⟨n.natAbs,by omega⟩
  rw [←Rat.divInt_eq_div,Rat.divInt_neg',Rat.divInt_ofNat]
  simp
 rw [e]
 exact cancel_rat (by omega)
theorem IsF.of {w:World} {v:Value} {z:Int} {n m k:Nat} {q:Rat} (h:IsF w v z n m) (hk:m+1≤k) (e:z=q.num∧n=q.den):IsQ w v q k:=(h.weak (by omega)).q (by omega) e.1 e.2
theorem cmp_zero {n m:Nat} (h:n≠m):decide ((Mx.cmp n m:Int)=0)=false:=by
 rcases Nat.lt_or_gt_of_ne h with h|h
 ·rw [Mx.cmp_lt h];rfl
 ·rw [Mx.cmp_gt h];rfl
theorem sign_zero {q:Rat}:decide ((Int.sign q.num:Int)=0)=decide (q=0):=by
 simp [Int.sign_eq_zero_iff_zero,Rat.num_eq_zero]
theorem ztext_len {z:Int} {k:Nat} (h:Mx.len z.natAbs≤k):(ztext z).length≤64*k+2:=by
 have h1:=digs_lenW h
 unfold ztext
 split<;>simp [Tx.text_length]<;>omega
theorem text_len {n k:Nat} (h:Mx.len n≤k):(Tx.text n).length≤64*k+1:=by
 have h1:=digs_lenW h
 simp [Tx.text_length];omega
end Go.Proofs.YthebilnlljkfeaaGreatDoor
namespace Go.Proofs.YthebilnlljkfeaaGreatDoor
open Go.RowKit
variable {cx:Z.Cx}
def IsG (w:World) (v:Value) (z:Int) (n k:Nat):Prop:= ∃A l c A' l' c',v= .agg #[.slice A l c, .bool (decide (z<0)), .slice A' l' c']∧IsD w (.slice A l c) z.natAbs k∧IsD w (.slice A' l' c') n k
theorem IsG.r {w:World} {v:Value} {z:Int} {n m k:Nat} {q:Rat} (h:IsG w v z n m) (e:z=q.num∧n=q.den) (hk:m≤k):IsR w v q k:=by
 obtain ⟨rfl,rfl⟩:=e
 exact IsR.weak (k:=m) h hk
def IsM (w:World) (v:Value) (a b:List Nat) (m:Bool):Prop:= ∃A l c A' l' c',v= .agg #[.slice A l c, .slice A' l' c', .bool m]∧Sl w (.slice A l c) a∧Sl w (.slice A' l' c') b
theorem signed_div' {z:Int} {g:Nat} (h:g∣z.natAbs):signed (z.natAbs/g) (decide (z<0))=z/(g:Int):=by
 have e:decide (z<0)=decide (Int.sign z<0):=decide_eq_decide.2 (by rw [Int.sign_neg_iff])
 rw [e]
 exact signed_div h
theorem of_rat_pos_eq {z n:Int} (hn:0<n):((z:Int):Rat)/((n:Int):Rat)=mkRat z n.natAbs:=by
 rw [Rat.mkRat_eq_div]
 congr 1
 rw [←Rat.intCast_natCast]
 congr 1
 omega
theorem of_rat_neg_eq {z n:Int} (hn:n<0):((z:Int):Rat)/((n:Int):Rat)=mkRat (-z) n.natAbs:=by
 obtain ⟨m,rfl⟩: ∃m:Nat,n= -(m:Int):=⟨n.natAbs,by omega⟩
 rw [←Rat.divInt_eq_div,Rat.divInt_neg',Rat.divInt_ofNat]
 simp
theorem IsR.num_dlen {w:World} {v:Value} {q:Rat} {k:Nat} (h:IsR w v q k):Dx.len q.num.natAbs≤k:=by
 obtain ⟨_,_,_,_,_,_,_,⟨_,_,_,_,_,h1⟩,_⟩:=h
 exact h1
theorem IsR.den_dlen {w:World} {v:Value} {q:Rat} {k:Nat} (h:IsR w v q k):Dx.len q.den≤k:=by
 obtain ⟨_,_,_,_,_,_,_,_,⟨_,_,_,_,_,h1⟩⟩:=h
 exact h1
theorem ztext_dlen {z:Int} {k:Nat} (h:Dx.len z.natAbs≤k):(ztext z).length≤4*k+2:=by
 have h1:=text_dlen h
 unfold ztext
 split
 ·simp;omega
 ·omega
theorem quo_rat (x y:Rat):((x.num*(y.den:Nat):Int):Rat)/((y.num*(x.den:Nat):Int):Rat)=x/y:=by
 rw [←Rat.divInt_eq_div]
 have h:x/y=x*y⁻¹ :=rfl
 rw [h,Rat.inv_def]
 conv=>rhs;rw [←Rat.num_divInt_den x]
 rw [Rat.divInt_mul_divInt,Int.mul_comm y.num]
namespace Z
open Go.Proofs.YthebilnlljkfeaaGreatDoor.Rg
abbrev isG (z:Int) (n k:Nat):Pr:=fun w v=>IsG w v z n k
abbrev isM (a b:List Nat) (m:Bool):Pr:=fun w v=>IsM w v a b m
theorem stb_G (z:Int) (n k:Nat):Stb soft (isG z n k):=fun _ _ _ ⟨A,l,c,A',l',c',e,h1,h2⟩ g=>⟨A,l,c,A',l',c',e,stb_D _ _ _ _ _ h1 g,stb_D _ _ _ _ _ h2 g⟩
theorem stb_M (a b:List Nat) (m:Bool):Stb soft (isM a b m):=fun _ _ _ ⟨A,l,c,A',l',c',e,h1,h2⟩ g=>⟨A,l,c,A',l',c',e,stb_S _ _ _ _ h1 g,stb_S _ _ _ _ h2 g⟩
theorem aggG:aggB Tryz.prog 33=true:=by kernel_rfl
theorem sizeG:(Tryz.prog.info? 33).map (·.size)=some 3:=by kernel_rfl
theorem shG {z:Int} {n k:Nat}: ∀w v,isG z n k w v→ ∃cs,v= .agg cs∧Fits soft Tryz.prog 33 cs:=fun _ _ ⟨_,_,_,_,_,_,e,_⟩=>⟨_,e,aggG,sizeG,by simp [Value.oneCell'],by simp [soft,softV];first|rfl|exact ⟨rfl,rfl⟩⟩
theorem shR {q:Rat} {k:Nat}: ∀w v,isR q k w v→ ∃cs,v= .agg cs∧Fits soft Tryz.prog 33 cs:=fun w v h=>shG w v h
abbrev kG (z:Int) (n k:Nat):Kd Tryz.prog cx:= .at (isG z n k) (stb_G z n k) 33 shG
abbrev kR (q:Rat) (k:Nat):Kd Tryz.prog cx:= .at (isR q k) (stb_R q k) 33 shR
theorem fldGV {z:Int} {n k:Nat}: ∀w cs,isG z n k w (.agg cs)→isV z k w (.agg (cs.extract 0 (0+2))):=fun w cs ⟨A,l,c,A',l',c',e,h1,_⟩=>by
 injection e with e
 subst e
 exact ⟨A,l,c,rfl,h1⟩
theorem fldGD {z:Int} {n k:Nat}: ∀w cs,isG z n k w (.agg cs)→isD n k w (cs.getD 2 undef):=fun w cs ⟨A,l,c,A',l',c',e,_,h2⟩=>by
 injection e with e
 subst e
 exact h2
theorem fldRV {q:Rat} {k:Nat}: ∀w cs,isR q k w (.agg cs)→isV q.num k w (.agg (cs.extract 0 (0+2))):=fun w cs h=>fldGV w cs h
theorem fldRD {q:Rat} {k:Nat}: ∀w cs,isR q k w (.agg cs)→isD q.den k w (cs.getD 2 undef):=fun w cs h=>fldGD w cs h
theorem fldMA {a b:List Nat} {m:Bool}: ∀w cs,isM a b m w (.agg cs)→isS a w (cs.getD 0 undef):=fun w cs ⟨A,l,c,A',l',c',e,h1,_⟩=>by
 injection e with e
 subst e
 exact h1
theorem fldMB {a b:List Nat} {m:Bool}: ∀w cs,isM a b m w (.agg cs)→isS b w (cs.getD 1 undef):=fun w cs ⟨A,l,c,A',l',c',e,_,h2⟩=>by
 injection e with e
 subst e
 exact h2
theorem fldMM {a b:List Nat} {m:Bool}: ∀w cs,isM a b m w (.agg cs)→isE (.bool m) w (cs.getD 2 undef):=fun w cs ⟨A,l,c,A',l',c',e,_,_⟩=>by
 injection e with e
 subst e
 rfl
section
variable {ops:Array Oper} {Q:Exit→Act→World→Prop} {F:Facts} {G:List Vr} {D:List (Nat×Pr)} {V:VS} {kf0:Nat→Nat} {i d:Nat} {x y:Operand}
theorem buildG {x y n k j m:Nat} {z:Int} (hx:Arg soft Tryz.prog ops F G D V kf0 i (.tmp x) (isV z k)) (hy:Arg soft Tryz.prog ops F G D V kf0 i (.tmp y) (isD n j)) (hk:k≤m) (hj:j≤m) (hF: ∀w v,isG z n m w v→F d w v):Owes soft Tryz.prog ops Q F G D V kf0 i (some d) (.build 33 #[(0, .tmp x),(1, .tmp y)]):=
 val (fun o a w ho c=>by
  obtain ⟨A,l,c',e1,h1⟩:=hx a w c
  have h2:=hy a w c
  obtain ⟨A',c2,e2⟩:=IsD.slice h2
  rw [e2] at h2
  refine ⟨.agg #[.slice A l c', .bool (decide (z<0)), .slice A' (Dx.len n) c2], ?_,hF _ _ ⟨A,l,c',A',_,c2,rfl,h1.weak' hk,h2.weak' hj⟩⟩
  simp only [Act.eval,Array.getD_eq_getD_getElem?] at e1 e2
  simp [execOp,ho,go_sem,Act.eval,e1,e2]) rfl
end
end Z
end Go.Proofs.YthebilnlljkfeaaGreatDoor
namespace Go.Proofs.YthebilnlljkfeaaGreatDoor
open Go.RowKit
def numD (b:List Nat):Nat:=if Mx.val (b.take 3)=0 then 1 else Mx.val (b.take 3)
def numQ (a b:List Nat) (m:Bool):Rat:=mkRat (signed (Mx.val (a.take 4)) m) (numD b)
theorem take_min {l:List Nat} {n:Nat}:l.take (min l.length n)=l.take n:=by
 rcases Nat.le_total l.length n with h|h
 ·rw [Nat.min_eq_left h,List.take_of_length_le (Nat.le_refl _),List.take_of_length_le h]
 ·rw [Nat.min_eq_right h]
theorem numQ_one {a b:List Nat} {m:Bool} (h:Mx.val (b.take 3)=0):mkRat (signed (Mx.val (a.take 4)) m) 1=numQ a b m:=by
 rw [numQ,numD,if_pos h]
theorem numQ_den {a b:List Nat} {m:Bool} (h:Mx.val (b.take 3)≠0):mkRat (signed (Mx.val (a.take 4)) m) (Mx.val (b.take 3))=numQ a b m:=by
 rw [numQ,numD,if_neg h]
theorem of_signed {z:Int} {n:Nat} (hn:n≠0):(z/((signed n false:Int):Rat))=mkRat z n:=by
 have e:signed n false=(n:Int):=rfl
 rw [e,of_rat_pos_eq (by omega)]
 rfl
theorem signed_pos {n:Nat} (hn:n≠0):0<signed n false:=by
 have e:signed n false=(n:Int):=rfl
 omega
theorem text_dig5 (c:UInt8) (h:Tx.isDig c) (h0:c≠48):Tx.text (Tx.rd [c])= [c]:=
 Tx.text_rd ⟨fun b hb=>by rw [List.mem_singleton] at hb;rw [hb];exact h, .inr ⟨by simp,by simpa using h0⟩⟩
theorem wake_a:qtext (((1:Int):Rat)/((2:Int):Rat)+(((-2):Int):Rat)/(((-6):Int):Rat))= [53,47,54]:=by
 have e:((1:Int):Rat)/((2:Int):Rat)+(((-2):Int):Rat)/(((-6):Int):Rat)=(⟨5,6,by decide,by decide⟩:Rat):=by decide+kernel
 rw [e]
 have h5:Tx.text 5= [53]:=text_dig5 53 (by decide) (by decide)
 have h6:Tx.text 6= [54]:=text_dig5 54 (by decide) (by decide)
 have e2:qtext (⟨5,6,by decide,by decide⟩:Rat)=Tx.text 5++ [47]++Tx.text 6:=rfl
 rw [e2,h5,h6]
 rfl
theorem wake_b:ztext (Rat.floor (-(((1:Int):Rat)/((2:Int):Rat))))= [45,49]:=by
 have e:Rat.floor (-(((1:Int):Rat)/((2:Int):Rat)))= -1:=by decide+kernel
 rw [e]
 have h1:Tx.text 1= [49]:=text_dig5 49 (by decide) (by decide)
 have e2:ztext (-1)=45::Tx.text 1:=rfl
 rw [e2,h1]
theorem wake_c:qtext 0= [48]:=by
 have h:Tx.text (Tx.rd [48])= [48]:=Tx.text_rd ⟨by decide, .inl rfl⟩
 exact h
theorem wake_d:cmpQ ((((-2):Int):Rat)/(((-6):Int):Rat)) (((1:Int):Rat)/((2:Int):Rat))= -1:=by decide+kernel
theorem cmpQ_same (x:Rat):cmpQ x x=0:=cmpQ_eq.2 rfl
theorem cmpQ_of {x y x' y':Rat} (h1:x<y↔x'<y') (h2:y<x↔y'<x'):cmpQ x y=cmpQ x' y':=by
 rcases cmpQ_cases x y with ⟨e,h⟩|⟨e,h⟩|⟨e,h⟩
 ·rw [e,cmpQ_lt.2 (h1.1 h)]
 ·rw [e]
  rcases cmpQ_cases x' y' with ⟨_,h'⟩|⟨e',_⟩|⟨_,h'⟩
  ·rw [h] at h1;exact absurd (h1.2 h') Rat.lt_irrefl
  ·exact e'.symm
  ·rw [h] at h2;exact absurd (h2.2 h') Rat.lt_irrefl
 ·rw [e,cmpQ_gt.2 (h2.1 h)]
theorem sub_sign (x y:Rat):(x-y).num.sign=cmpQ x y:=by
 rw [sgn_cmpQ]
 refine cmpQ_of ?_ ?_
 ·constructor<;>intro h<;>grind
 ·constructor<;>intro h<;>grind
theorem sign_ne {q:Rat} (h:q≠0):decide ((Int.sign q.num:Int)=0)=false:=by rw [sign_zero];exact decide_eq_false h
theorem sign_eq {q:Rat} (h:q=0):decide ((Int.sign q.num:Int)=0)=true:=by rw [sign_zero];exact decide_eq_true h
theorem cmp_id {x y:Rat} (h:x=y):decide ((cmpQ x y:Int)=0)=true:=decide_eq_true (cmpQ_eq.2 h)
theorem cmp_ne {x y:Rat} (h:x=y):(!decide ((cmpQ x y:Int)=0))=false:=by rw [cmp_id h];rfl
theorem mul_self_sign (x:Rat):0≤(x*x).num.sign:=by
 have h:0≤x*x:=by
  rcases Rat.le_total (a:=0) (b:=x) with h|h
  ·exact Rat.mul_nonneg h h
  ·have:=Rat.mul_nonneg (a:= -x) (b:= -x) (by grind) (by grind)
   grind
 have:=Rat.num_nonneg.2 h
 rcases Int.lt_or_eq_of_le this with h1|h1
 ·rw [Int.sign_eq_one_of_pos h1];decide
 ·rw [←h1];decide
theorem floor_le1 (x:Rat):decide ((cmpQ ((x.floor:Int):Rat) x:Int)≤0)=true:=by
 have h:=Rat.floor_le x
 rcases cmpQ_cases ((x.floor:Int):Rat) x with ⟨e,_⟩|⟨e,_⟩|⟨_,h'⟩
 ·rw [e];rfl
 ·rw [e];rfl
 ·exact absurd h (Rat.not_le.2 h')
theorem floor_lt1 (x:Rat):decide (0<(cmpQ ((x.floor+1:Int):Rat) x:Int))=true:=by
 have h:=Rat.lt_floor_add_one x
 rw [cmpQ_gt.2 h];rfl
theorem floor_add1 (x:Rat) (n:Int):decide ((Int.sign (Rat.floor (x+((n:Int):Rat)) -(Rat.floor x+n)):Int)=0)=true:=by
 rw [Rat.floor_add_intCast]
 simp
theorem mid_left (x y:Rat):cmpQ x ((x+y)/((2:Int):Rat))=cmpQ x y:=by
 have h2:((2:Int):Rat)=2:=rfl
 rw [h2]
 refine cmpQ_of ?_ ?_<;>constructor<;>intro h<;>grind
theorem mid_right (x y:Rat):cmpQ ((x+y)/((2:Int):Rat)) y=cmpQ x y:=by
 have h2:((2:Int):Rat)=2:=rfl
 rw [h2]
 refine cmpQ_of ?_ ?_<;>constructor<;>intro h<;>grind
theorem cmp_add (x y z:Rat):cmpQ (x+z) (y+z)=cmpQ x y:=by
 refine cmpQ_of ?_ ?_<;>constructor<;>intro h<;>grind
theorem cmp_neg (x y:Rat):cmpQ (-x) (-y)= -cmpQ x y:=by
 have h:cmpQ (-x) (-y)=cmpQ y x:=by refine cmpQ_of ?_ ?_<;>constructor<;>intro h<;>grind
 rw [h]
 unfold cmpQ
 rw [←Int.sign_neg]
 congr 1
 omega
theorem neg_wrap (x y:Rat):IntKind.i64.wrap (-cmpQ x y)= -cmpQ x y:=by
 rcases cmpQ_cases x y with ⟨e,_⟩|⟨e,_⟩|⟨e,_⟩<;>rw [e]<;>rfl
theorem two_ne:((2:Int):Rat)≠0:=by decide
theorem times_both (x:Rat) {k:Int} (hk:k≠0):((x.num*k:Int):Rat)/((signed x.den false*k:Int):Rat)=x:=by
 have e:signed x.den false=(x.den:Int):=rfl
 rw [e,←Rat.divInt_eq_div,Rat.divInt_mul_right hk,Rat.num_divInt_den]
theorem den_times {x:Rat} {k:Int} (hk:k≠0):signed x.den false*k≠0:=by
 have e:signed x.den false=(x.den:Int):=rfl
 rw [e]
 exact Int.mul_ne_zero (by have:=x.den_pos;omega) hk
theorem low_gcd (x:Rat):decide ((Mx.cmp (Nat.gcd x.num.natAbs x.den) 1:Int)=0)=true:=by
 rw [show Nat.gcd x.num.natAbs x.den=1 from x.reduced,Mx.cmp_self];rfl
theorem qtext_int (k:Int):(qtext ((k:Int):Rat)==ztext k)=true:=by
 have:qtext ((k:Int):Rat)=ztext k:=by rw [qtext,if_pos (Rat.den_intCast k)];rfl
 rw [this];simp
theorem mkRat_len {z:Int} {n:Nat} (hn:n≠0):(mkRat z n).num.natAbs≤z.natAbs∧(mkRat z n).den≤n:=by
 rw [Rat.num_mkRat,Rat.den_mkRat,if_neg hn,if_neg hn]
 refine ⟨?_,Nat.div_le_self _ _⟩
 rw [Int.natAbs_ediv_of_dvd (by rw [←Int.dvd_natAbs,Int.ofNat_dvd];exact Nat.gcd_dvd_right _ _)]
 exact Nat.div_le_self _ _
theorem signed_natAbs (n:Nat) (b:Bool):(signed n b).natAbs=n:=by cases b<;>simp [signed]
theorem num_qlen {w:World} {v:Value} {a b:List Nat} {m:Bool} (h:IsM w v a b m):(ztext (numQ a b m).num).length≤300∧(Tx.text (numQ a b m).den).length≤300:=by
 obtain ⟨_,_,_,_,_,_,_,⟨_,_,_,_,ha,_⟩,⟨_,_,_,_,hb,_⟩⟩:=h
 have hn:numD b≠0:=by unfold numD;split<;>omega
 obtain ⟨h1,h2⟩:=mkRat_len (z:=signed (Mx.val (a.take 4)) m) hn
 rw [signed_natAbs] at h1
 have l1:Mx.len (Mx.val (a.take 4))≤4:=Nat.le_trans (Mx.len_val _ fun x hx=>ha x (List.mem_of_mem_take hx)) (by simp;omega)
 have l2:Mx.len (numD b)≤4:=by
  unfold numD
  split
  ·decide
  ·exact Nat.le_trans (Mx.len_val _ fun x hx=>hb x (List.mem_of_mem_take hx)) (by simp;omega)
 have e1:=ztext_len (Nat.le_trans (Mx.len_mono h1) l1)
 have e2:=text_len (Nat.le_trans (Mx.len_mono h2) l2)
 exact ⟨by unfold numQ;omega,by unfold numQ;omega⟩
theorem eq_self (l:List UInt8):(l==l)=true:=by simp
theorem ne_self (l:List UInt8):(!(l==l))=false:=by simp
theorem qtext_eq {x y:Rat} (h:x=y):(qtext x==qtext y)=true:=by rw [h];simp
end Go.Proofs.YthebilnlljkfeaaGreatDoor
namespace Go.Proofs.YthebilnlljkfeaaGreatDoor.Z
open Go.RowKit Go.Proofs.YthebilnlljkfeaaGreatDoor.Rg
variable {cx:Cx}
theorem cell_hard {w w':World} {b o:Nat} {x:Value} (hx:softV x=false) (h:w.cell? ⟨b,o,none⟩=some x) (g:Evo soft w w'):w'.cell? ⟨b,o,none⟩=some x:=by
 rcases g.block b (lt_of_cell h) with h1|⟨ob,_,h1,_,h3,_⟩
 ·rw [←h]
  simp only [World.cell?,h1]
 ·exfalso
  unfold softO at h3
  split at h3
  ·next cs t=>
   have hc:cs[o]? =some x:=by
    simpa [World.cell?,h1] using h
   obtain ⟨ho,e⟩:=Array.getElem?_eq_some_iff.1 hc
   have:=Array.all_eq_true.1 (soft_all h3) o ho
   rw [e,hx] at this
   cases this
  ·simp [World.cell?,h1] at h
  ·cases h3
def isU (x:Nat):Pr:=fun w v=> ∃b o,v= .pointer (some ⟨b,o,none⟩)∧w.cell? ⟨b,o,none⟩=some (.int .u64 (x:Int))
theorem stb_U (x:Nat):Stb soft (isU x):=fun _ _ _ ⟨b,o,e,h⟩ g=>⟨b,o,e,cell_hard rfl h g⟩
abbrev kU (x:Nat):Kd Tryz.prog cx:= .of (isU x) (stb_U x)
def isC (l:List Value):Pr:=fun w v=> ∃b o c,v= .slice (some ⟨b,o,none⟩) l.length c∧(IntB w b∨ ∀x∈l,softV x=false)∧ ∀j x,l[j]? =some x→w.cell? ⟨b,o+j,none⟩=some x
theorem stb_C (l:List Value):Stb soft (isC l):=fun _ _ _ ⟨b,o,c,e,hh,h⟩ g=>by
 rcases hh with hh|hh
 ·exact ⟨b,o,c,e, .inl (intB_keep hh g),fun j x hx=>cell_int hh (h j x hx) g⟩
 ·exact ⟨b,o,c,e, .inr hh,fun j x hx=>cell_hard (hh x (List.mem_of_getElem? hx)) (h j x hx) g⟩
def ints (l:List Int):List Value:=l.map fun x=> .int .i64 x
abbrev kI (l:List Int):Kd Tryz.prog cx:= .of (isC (ints l)) (stb_C _)
def isNs (l:List Nat) (k:Nat):Pr:=fun w v=> ∃b t c,∃cs:List Value,v= .slice (some ⟨b,0,none⟩) l.length c∧cs.length=l.length∧w.heap[b]? =some (.cells cs.toArray t (0,0))∧soft cs.toArray t=false∧ ∀(j n:Nat) (x:Value),l[j]? =some n→cs[j]? =some x→IsN w (.agg #[x]) n k
theorem block_hard {w w':World} {b:Nat} {cs:Array Value} {t:TypeId} (hs:soft cs t=false) (h:w.heap[b]? =some (.cells cs t (0,0))) (g:Evo soft w w'):w'.heap[b]? =some (.cells cs t (0,0)):=by
 rcases g.block b (by rw [Array.getElem?_eq_some_iff] at h;exact h.1) with h1|⟨ob,_,h1,_,h3,_⟩
 ·rw [h1];exact h
 ·rw [h] at h1
  injection h1 with h1
  subst h1
  have:soft cs t=true:=h3
  rw [hs] at this
  cases this
theorem stb_Ns (l:List Nat) (k:Nat):Stb soft (isNs l k):=fun _ _ _ ⟨b,t,c,cs,e,hl,h,hs,hc⟩ g=>⟨b,t,c,cs,e,hl,block_hard hs h g,hs,fun j n x h1 h2=>stb_N _ _ _ _ _ (hc j n x h1 h2) g⟩
abbrev kNs (l:List Nat) (k:Nat):Kd Tryz.prog cx:= .of (isNs l k) (stb_Ns l k)
def isAN (n k:Nat):Pr:=fun w v=> ∃b j t,∃(cs:List Value) (x:Value),v= .pointer (some ⟨b,j,none⟩)∧w.heap[b]? =some (.cells cs.toArray t (0,0))∧soft cs.toArray t=false∧cs[j]? =some x∧IsN w (.agg #[x]) n k
theorem stb_AN (n k:Nat):Stb soft (isAN n k):=fun _ _ _ ⟨b,j,t,cs,x,e,h,hs,hx,hn⟩ g=>⟨b,j,t,cs,x,e,block_hard hs h g,hs,hx,stb_N _ _ _ _ _ hn g⟩
abbrev kAN (n k:Nat):Kd Tryz.prog cx:= .of (isAN n k) (stb_AN n k)
section
variable {ops:Array Oper} {Q:Exit→Act→World→Prop} {F:Facts} {G:List Vr} {D:List (Nat×Pr)} {V:VS} {kf0:Nat→Nat} {i d:Nat} {x y:Operand}
theorem loadU {n:Nat} (hx:Arg soft Tryz.prog ops F G D V kf0 i x (isU n)) (hF: ∀w v,v= .int .u64 (n:Int)→F d w v):Owes soft Tryz.prog ops Q F G D V kf0 i (some d) (.load 76 x):=
 val (fun o a w ho c=>by
  obtain ⟨b,off,e1,h1⟩:=hx a w c
  refine ⟨.int .u64 (n:Int), ?_,hF _ _ rfl⟩
  unfold execOp
  simp only [ho,e1]
  simp [go_sem,Instr.loadAt,h1]) rfl
theorem idxS0 {l:List Nat} (hx:Arg soft Tryz.prog ops F G D V kf0 i x (isS l)) (hl:0<l.length) (hF: ∀w v,isU (l.getD 0 0) w v→F d w v):Owes soft Tryz.prog ops Q F G D V kf0 i (some d) (.indexAddr 22 x (.const (.int .i64 0))):=
 val (fun o a w ho c=>by
  obtain ⟨A,c2,e1,h1,h2,h3⟩:=hx a w c
  obtain ⟨b,off,rfl,hb,hc⟩:=h3 (by intro e;rw [e] at hl;cases hl)
  refine ⟨.pointer (some ⟨b,off,none⟩), ?_,hF _ _ ⟨b,off,rfl, ?_⟩⟩
  ·unfold execOp
   simp only [ho,e1]
   simp [go_sem,Instr.indexAt,Act.eval]
   intro hx
   rw [hx] at hl
   cases hl
  ·have:=hc 0 (l.getD 0 0) (by cases l with|nil=>cases hl|cons u r=>rfl)
   simpa using this) rfl
theorem idxC {l:List Value} {n:Nat} {v:Value} {t e:TypeId} (hu:Tryz.prog.underlying t=some (.slice e)) (hz:(Tryz.prog.info? e).map (·.size)=some 1) (hx:Arg soft Tryz.prog ops F G D V kf0 i x (isC l)) (hy:Arg soft Tryz.prog ops F G D V kf0 i y (isE (.int .i64 (n:Int)))) (hv:l[n]? =some v) (hF: ∀w u,(∃b o,u= .pointer (some ⟨b,o,none⟩)∧(IntB w b∨softV v=false)∧w.cell? ⟨b,o,none⟩=some v)→F d w u):Owes soft Tryz.prog ops Q F G D V kf0 i (some d) (.indexAddr t x y):=
 val (fun o a w ho c=>by
  obtain ⟨b,off,cap,e1,hh,h1⟩:=hx a w c
  have e2:a.eval y= .int .i64 (n:Int):=hy a w c
  have hn:n<l.length:=(List.getElem?_eq_some_iff.1 hv).1
  refine ⟨.pointer (some ⟨b,off+n,none⟩), ?_,hF _ _ ⟨b,off+n,rfl,hh.imp id (fun h=>h v (List.mem_of_getElem? hv)),h1 n v hv⟩⟩
  cases hi:Tryz.prog.info? e with
  |none=>rw [hi] at hz;cases hz
  |some inf=>
   rw [hi] at hz
   simp only [Option.map_some,Option.some.injEq] at hz
   unfold execOp
   simp only [ho,e1,e2]
   simp [go_sem,Instr.indexAt,underlying,sizeOf,typeInfo,hu,hi,hz,hn,Addr.add]) rfl
theorem idxI {l:List Int} {n:Nat} {z:Int} (hx:Arg soft Tryz.prog ops F G D V kf0 i x (isC (ints l))) (hy:Arg soft Tryz.prog ops F G D V kf0 i y (isE (.int .i64 (n:Int)))) (hv:l[n]? =some z) (hF: ∀w u,isA z w u→F d w u):Owes soft Tryz.prog ops Q F G D V kf0 i (some d) (.indexAddr 29 x y):=
 idxC (by kernel_rfl) (e:=3) (by kernel_rfl) hx hy (v:= .int .i64 z) (by simp [ints,hv]) fun w u ⟨b,o,e,hh,h⟩=>hF w u ⟨b,o,e,hh.elim id (fun h=>by cases h),h⟩
theorem lenC {l:List Value} {t e:TypeId} {ts:Array TypeId} (hu:Tryz.prog.underlying t=some (.slice e)) (hx:Arg soft Tryz.prog ops F G D V kf0 i x (isC l)) (ht:ts= #[t]) (hF: ∀w v,v= .int .i64 ((l.length:Nat):Int)→F d w v):Owes soft Tryz.prog ops Q F G D V kf0 i (some d) (.call {callee:= .builtin .len,args:= #[x],argTypes:=ts}):=
 val (fun o a w ho c=>by
  obtain ⟨b,off,cap,e1,_,h1⟩:=hx a w c
  subst ht
  refine ⟨.int .i64 ((l.length:Nat):Int), ?_,hF _ _ rfl⟩
  unfold execOp
  simp only [ho,resolve,List.map_toArray,List.map_cons,List.map_nil,e1]
  simp [go_sem,invoke,builtin,Builtin.len_,goInt,underlying,hu]) rfl
theorem lenNs {l:List Nat} {k:Nat} {ts:Array TypeId} (hx:Arg soft Tryz.prog ops F G D V kf0 i x (isNs l k)) (ht:ts= #[105]) (hF: ∀w v,v= .int .i64 ((l.length:Nat):Int)→F d w v):Owes soft Tryz.prog ops Q F G D V kf0 i (some d) (.call {callee:= .builtin .len,args:= #[x],argTypes:=ts}):=
 val (fun o a w ho c=>by
  obtain ⟨b,t,cap,cs,e1,_⟩:=hx a w c
  subst ht
  refine ⟨.int .i64 ((l.length:Nat):Int), ?_,hF _ _ rfl⟩
  unfold execOp
  simp only [ho,resolve,List.map_toArray,List.map_cons,List.map_nil,e1]
  simp [go_sem,invoke,builtin,Builtin.len_,goInt]) rfl
theorem idxNs {l:List Nat} {k n m:Nat} (hx:Arg soft Tryz.prog ops F G D V kf0 i x (isNs l k)) (hy:Arg soft Tryz.prog ops F G D V kf0 i y (isE (.int .i64 (n:Int)))) (hv:l[n]? =some m) (hF: ∀w u,isAN m k w u→F d w u):Owes soft Tryz.prog ops Q F G D V kf0 i (some d) (.indexAddr 105 x y):=
 val (fun o a w ho c=>by
  obtain ⟨b,t,cap,cs,e1,h1,h2,h3,h4⟩:=hx a w c
  have e2:a.eval y= .int .i64 (n:Int):=hy a w c
  have hn:n<l.length:=(List.getElem?_eq_some_iff.1 hv).1
  have hc:cs[n]? =some (cs[n]'(by omega)):=List.getElem?_eq_getElem (by omega)
  refine ⟨.pointer (some ⟨b,n,none⟩), ?_,hF _ _ ⟨b,n,t,cs,_,rfl,h2,h3,hc,h4 n m _ hv hc⟩⟩
  unfold execOp
  simp only [ho,e1,e2]
  simp [go_sem,Instr.indexAt]
  intro h0
  omega) rfl
theorem loadAN {n k:Nat} (hx:Arg soft Tryz.prog ops F G D V kf0 i x (isAN n k)) (hF: ∀w v,isN n k w v→F d w v):Owes soft Tryz.prog ops Q F G D V kf0 i (some d) (.load 24 x):=
 val (fun o a w ho c=>by
  obtain ⟨b,j,t,cs,u,e1,h1,h2,h3,h4⟩:=hx a w c
  refine ⟨.agg #[u], ?_,hF _ _ h4⟩
  obtain ⟨ds,hu,hd⟩:=agg_desc aggN
  have hrun:=run_loadVar_mid (P:=Tryz.prog) w b j 24 [u] ds (fun q v hq=>by
   have e:q=0:=by
    rcases q with _|q
    ·rfl
    ·simp at hq
   subst e
   simp at hq
   subst hq
   have hj:cs.toArray[j]? =some u:=by simpa using h3
   simp [World.cell?,h1,hj]) hu (by cases ds<;>first|rfl|exact hd) sizeN
  unfold execOp
  simp only [ho,e1,Instr.loadAt,Instr.sureAddr,Sem.run_bind,Sem.run_pure,Result.andThen_ok]
  simp [hrun]) rfl
theorem maxI {m n r:Int} {ts:Array TypeId} (hx:Arg soft Tryz.prog ops F G D V kf0 i x (isE (.int .i64 m))) (hy:Arg soft Tryz.prog ops F G D V kf0 i y (isE (.int .i64 n))) (hr:max m n=r) (hF: ∀w v,v= .int .i64 r→F d w v):Owes soft Tryz.prog ops Q F G D V kf0 i (some d) (.call {callee:= .builtin .max,args:= #[x,y],argTypes:=ts}):=
 val (fun o a w ho c=>by
  have e1:a.eval x= .int .i64 m:=hx a w c
  have e2:a.eval y= .int .i64 n:=hy a w c
  refine ⟨.int .i64 r, ?_,hF _ _ rfl⟩
  have hr':(if m<n then n else m)=r:=by rw [←hr];split<;>omega
  unfold execOp
  simp only [ho,resolve,List.map_toArray,List.map_cons,List.map_nil,e1,e2]
  simp [go_sem,invoke,builtin,Builtin.max_,Builtin.max2,hr']) rfl
theorem buildNs3 {u v z n1 n2 n3 k1 k2 k3 k:Nat} (hx:Arg soft Tryz.prog ops F G D V kf0 i (.tmp u) (isN n1 k1)) (hy:Arg soft Tryz.prog ops F G D V kf0 i (.tmp v) (isN n2 k2)) (hz:Arg soft Tryz.prog ops F G D V kf0 i (.tmp z) (isN n3 k3)) (h1:k1≤k) (h2:k2≤k) (h3:k3≤k) (hF: ∀w v,isNs [n1,n2,n3] k w v→F d w v):Owes soft Tryz.prog ops Q F G D V kf0 i (some d) (.buildSlice 105 3 #[(0, .tmp u),(1, .tmp v),(2, .tmp z)]):=
 fun o a w ho hd cx=>by
  have g1:=hx a w cx
  have g2:=hy a w cx
  have g3:=hz a w cx
  obtain ⟨A1,l1,c1,e1⟩:=IsN.cell g1
  obtain ⟨A2,l2,c2,e2⟩:=IsN.cell g2
  obtain ⟨A3,l3,c3,e3⟩:=IsN.cell g3
  rw [e1] at g1
  rw [e2] at g2
  rw [e3] at g3
  have hg:Grow w (w.alloc (.cells #[.slice A1 l1 c1, .slice A2 l2 c2, .slice A3 l3 c3] 24)):=(Grow.refl w).alloc _
  refine Rg.valOf (v:= .slice (some ⟨w.heap.size,0,none⟩) 3 3) (w':=w.alloc (.cells #[.slice A1 l1 c1, .slice A2 l2 c2, .slice A3 l3 c3] 24)) ?_ hd (hF _ _ ⟨w.heap.size,24,3,[.slice A1 l1 c1, .slice A2 l2 c2, .slice A3 l3 c3],rfl,rfl,heap_alloc_new w _,(by simp [soft,softV];exact fun h=>absurd (show true=false from h) (by decide)), ?_⟩) hg
  ·simp only [Act.eval,Array.getD_eq_getD_getElem?] at e1 e2 e3
   simp [execOp,ho,go_sem,Act.eval,e1,e2,e3]
  ·intro j n x hj hc
   rcases j with _|_|_|j<;>simp at hj hc<;>subst hj<;>subst hc
   ·exact (g1.weak h1).grow hg
   ·exact (g2.weak h2).grow hg
   ·exact (g3.weak h3).grow hg
theorem buildI2 {u v:Nat} {m n:Int} (hx:Arg soft Tryz.prog ops F G D V kf0 i (.tmp u) (isE (.int .i64 m))) (hy:Arg soft Tryz.prog ops F G D V kf0 i (.tmp v) (isE (.int .i64 n))) (hF: ∀w v,isC (ints [m,n]) w v→F d w v):Owes soft Tryz.prog ops Q F G D V kf0 i (some d) (.buildSlice 29 2 #[(0, .tmp u),(1, .tmp v)]):=
 fun o a w ho hd cx=>Rg.valOf (v:= .slice (some ⟨w.heap.size,0,none⟩) 2 2) (w':=w.alloc (.cells #[.int .i64 m, .int .i64 n] 3)) (by
  have e:a.eval (.tmp u)= .int .i64 m:=hx a w cx
  have e':a.eval (.tmp v)= .int .i64 n:=hy a w cx
  simp only [Act.eval,Array.getD_eq_getD_getElem?] at e e'
  simp [execOp,ho,go_sem,Act.eval,e,e']) hd
  (hF _ _ ⟨w.heap.size,0,2,rfl, .inl ⟨_,_,heap_alloc_new w _⟩,fun j x hj=>by
   rcases j with _|_|j
   ·simp [ints] at hj;subst hj;simp [go_sem]
   ·simp [ints] at hj;subst hj;simp [go_sem]
   ·simp [ints] at hj⟩) ((Grow.refl w).alloc _)
end
theorem and_one (a:Nat) (ha:a<18446744073709551616):bits .and .u64 (a:Int) 1=((a%2:Nat):Int):=by
 have h:=bits_and_u64_nat a 1 ha (by omega)
 have e:a&&& 1=a%2:=Nat.and_two_pow_sub_one_eq_mod a 1
 rw [e] at h
 exact h
end Go.Proofs.YthebilnlljkfeaaGreatDoor.Z
namespace Go.Proofs.YthebilnlljkfeaaGreatDoor.Z
open Go.RowKit Go.Proofs.YthebilnlljkfeaaGreatDoor.Rg
variable {cx:Cx}
def isC7 (z s:Int) (k:Nat):Pr:=fun w v=> ∃A l c,v= .agg #[.slice A l c, .bool (decide (z<0)), .int .i64 s]∧IsN w (.agg #[.slice A l c]) z.natAbs k
def isE7 (z s:Int) (k:Nat):Pr:=fun w v=> ∃A l c,v= .agg #[.slice A l c, .bool (decide (z<0)), .int .i64 s]∧IsD w (.slice A l c) z.natAbs k
def isP7 (a:List Nat) (b:Bool) (s:Int):Pr:=fun w v=> ∃A l c,v= .agg #[.slice A l c, .bool b, .int .u8 s]∧Sl w (.slice A l c) a
def isI2 (m n:Int):Pr:=fun _ v=>v= .agg #[.int .i64 m, .int .i64 n]
theorem stb_C7 (z s:Int) (k:Nat):Stb soft (isC7 z s k):=fun _ _ _ ⟨A,l,c,e,h⟩ g=>⟨A,l,c,e,stb_N _ _ _ _ _ h g⟩
theorem stb_E7 (z s:Int) (k:Nat):Stb soft (isE7 z s k):=fun _ _ _ ⟨A,l,c,e,h⟩ g=>⟨A,l,c,e,stb_D _ _ _ _ _ h g⟩
theorem stb_P7 (a:List Nat) (b:Bool) (s:Int):Stb soft (isP7 a b s):=fun _ _ _ ⟨A,l,c,e,h⟩ g=>⟨A,l,c,e,stb_S _ _ _ _ h g⟩
theorem stb_I2 (m n:Int):Stb soft (isI2 m n):=fun _ _ _ h _=>h
theorem isC7.weak {z s:Int} {k j:Nat} {w:World} {v:Value} (h:isC7 z s k w v) (hk:k≤j):isC7 z s j w v:=by
 obtain ⟨A,l,c,e,h⟩:=h
 exact ⟨A,l,c,e,h.weak hk⟩
theorem isE7.weak {z s:Int} {k j:Nat} {w:World} {v:Value} (h:isE7 z s k w v) (hk:k≤j):isE7 z s j w v:=by
 obtain ⟨A,l,c,e,h⟩:=h
 exact ⟨A,l,c,e,h.weak' hk⟩
theorem fldCW {z s:Int} {k:Nat}: ∀w cs,isC7 z s k w (.agg cs)→isW z k w (.agg (cs.extract 0 (0+2))):=fun w cs ⟨A,l,c,e,h1⟩=>by
 injection e with e
 subst e
 exact ⟨A,l,c,rfl,h1⟩
theorem fldCS {z s:Int} {k:Nat}: ∀w cs,isC7 z s k w (.agg cs)→isE (.int .i64 s) w (cs.getD 2 undef):=fun w cs ⟨A,l,c,e,h1⟩=>by
 injection e with e
 subst e
 rfl
theorem fldEV {z s:Int} {k:Nat}: ∀w cs,isE7 z s k w (.agg cs)→isV z k w (.agg (cs.extract 0 (0+2))):=fun w cs ⟨A,l,c,e,h1⟩=>by
 injection e with e
 subst e
 exact ⟨A,l,c,rfl,h1⟩
theorem fldES {z s:Int} {k:Nat}: ∀w cs,isE7 z s k w (.agg cs)→isE (.int .i64 s) w (cs.getD 2 undef):=fun w cs ⟨A,l,c,e,h1⟩=>by
 injection e with e
 subst e
 rfl
theorem fldED {z s:Int} {k:Nat}: ∀w cs,isE7 z s k w (.agg cs)→isD z.natAbs k w (cs.getD 0 undef):=fun w cs ⟨A,l,c,e,h1⟩=>by
 injection e with e
 subst e
 exact h1
theorem fldEB {z s:Int} {k:Nat}: ∀w cs,isE7 z s k w (.agg cs)→isE (.bool (decide (z<0))) w (cs.getD 1 undef):=fun w cs ⟨A,l,c,e,h1⟩=>by
 injection e with e
 subst e
 rfl
theorem fldPL {a:List Nat} {b:Bool} {s:Int}: ∀w cs,isP7 a b s w (.agg cs)→isS a w (cs.getD 0 undef):=fun w cs ⟨A,l,c,e,h1⟩=>by
 injection e with e
 subst e
 exact h1
theorem fldPB {a:List Nat} {b:Bool} {s:Int}: ∀w cs,isP7 a b s w (.agg cs)→isE (.bool b) w (cs.getD 1 undef):=fun w cs ⟨A,l,c,e,h1⟩=>by
 injection e with e
 subst e
 rfl
theorem fldPS {a:List Nat} {b:Bool} {s:Int}: ∀w cs,isP7 a b s w (.agg cs)→isE (.int .u8 s) w (cs.getD 2 undef):=fun w cs ⟨A,l,c,e,h1⟩=>by
 injection e with e
 subst e
 rfl
section
variable {ops:Array Oper} {Q:Exit→Act→World→Prop} {F:Facts} {G:List Vr} {D:List (Nat×Pr)} {V:VS} {kf0:Nat→Nat} {i d:Nat} {x y:Operand}
theorem str_len (l:List UInt8):(str l).size=l.length:=by simp [ByteArray.size]
theorem lenTx {l:List UInt8} {t:TypeId} {ts:Array TypeId} (hu:Tryz.prog.underlying t=some .string) (hx:Arg soft Tryz.prog ops F G D V kf0 i x (isT l)) (ht:ts= #[t]) (hF: ∀w v,v= .int .i64 ((l.length:Nat):Int)→F d w v):Owes soft Tryz.prog ops Q F G D V kf0 i (some d) (.call {callee:= .builtin .len,args:= #[x],argTypes:=ts}):=
 val (fun o a w ho c=>by
  have e1:a.eval x= .string (str l):=hx a w c
  subst ht
  refine ⟨.int .i64 ((l.length:Nat):Int), ?_,hF _ _ rfl⟩
  have hz:=str_len l
  rw [←hz]
  generalize str l=s at*
  unfold execOp
  simp only [ho,resolve,List.map_toArray,List.map_cons,List.map_nil,e1]
  simp [go_sem,invoke,builtin,Builtin.len_,goInt,underlying,hu]) rfl
theorem str_at (l:List UInt8) (n:Nat) (hn:n<l.length):(str l)[n]? =some (l.getD n 0):=by
 have h:n<(str l).size:=by rw [str_len];exact hn
 rw [getElem?_pos (str l) n h,List.getD_eq_getElem?_getD,List.getElem?_eq_getElem hn]
 rfl
theorem idxTx {l:List UInt8} {n:Nat} (hx:Arg soft Tryz.prog ops F G D V kf0 i x (isT l)) (hy:Arg soft Tryz.prog ops F G D V kf0 i y (isE (.int .i64 (n:Int)))) (hn:n<l.length) (hF: ∀w v,v= .int .u8 (((l.getD n 0).toNat:Nat):Int)→F d w v):Owes soft Tryz.prog ops Q F G D V kf0 i (some d) (.index 9 x y):=
 val (fun o a w ho c=>by
  have e1:a.eval x= .string (str l):=hx a w c
  have e2:a.eval y= .int .i64 (n:Int):=hy a w c
  refine ⟨_, ?_,hF _ _ rfl⟩
  have hz:=str_at l n hn
  generalize str l=s at*
  generalize l.getD n 0=b at*
  unfold execOp
  simp only [ho,e1,e2]
  simp [go_sem,Instr.index,hz]) rfl
theorem str_ext (l:List UInt8) (m n:Nat):(str l).extract m n=str ((l.take n).drop m):=by
 apply ByteArray.ext
 rw [ByteArray.data_extract]
 apply Array.ext'
 simp [str,List.drop_take]
theorem upTx {l:List UInt8} {n:Nat} (hx:Arg soft Tryz.prog ops F G D V kf0 i x (isT l)) (hy:Arg soft Tryz.prog ops F G D V kf0 i y (isE (.int .i64 (n:Int)))) (hn:n≤l.length) (hF: ∀w v,v= .string (str (l.take n))→F d w v):Owes soft Tryz.prog ops Q F G D V kf0 i (some d) (.slice 9 x none (some y) none):=
 val (fun o a w ho c=>by
  have e1:a.eval x= .string (str l):=hx a w c
  have e2:a.eval y= .int .i64 (n:Int):=hy a w c
  refine ⟨_, ?_,hF _ _ rfl⟩
  have hz:=str_len l
  have he:=str_ext l 0 n
  rw [List.drop_zero] at he
  rw [←he]
  rw [←hz] at hn
  clear he hz
  generalize str l=s at*
  unfold execOp
  simp only [ho,Option.map_some,Option.map_none,e1,e2]
  simp [go_sem,Instr.sliceAt]
  omega) rfl
theorem dnTx {l:List UInt8} {n:Nat} (hx:Arg soft Tryz.prog ops F G D V kf0 i x (isT l)) (hy:Arg soft Tryz.prog ops F G D V kf0 i y (isE (.int .i64 (n:Int)))) (hn:n≤l.length) (hF: ∀w v,v= .string (str (l.drop n))→F d w v):Owes soft Tryz.prog ops Q F G D V kf0 i (some d) (.slice 9 x (some y) none none):=
 val (fun o a w ho c=>by
  have e1:a.eval x= .string (str l):=hx a w c
  have e2:a.eval y= .int .i64 (n:Int):=hy a w c
  refine ⟨_, ?_,hF _ _ rfl⟩
  have hz:=str_len l
  have he:=str_ext l n l.length
  rw [List.take_length,←hz] at he
  rw [←he]
  rw [←hz] at hn
  clear he hz
  generalize str l=s at*
  unfold execOp
  simp only [ho,Option.map_some,Option.map_none,e1,e2]
  simp [go_sem,Instr.sliceAt]
  omega) rfl
theorem mdTx {l:List UInt8} {m n:Nat} {u:Operand} (hx:Arg soft Tryz.prog ops F G D V kf0 i x (isT l)) (hu:Arg soft Tryz.prog ops F G D V kf0 i u (isE (.int .i64 (m:Int)))) (hy:Arg soft Tryz.prog ops F G D V kf0 i y (isE (.int .i64 (n:Int)))) (hm:m≤n) (hn:n≤l.length) (hF: ∀w v,v= .string (str ((l.take n).drop m))→F d w v):Owes soft Tryz.prog ops Q F G D V kf0 i (some d) (.slice 9 x (some u) (some y) none):=
 val (fun o a w ho c=>by
  have e1:a.eval x= .string (str l):=hx a w c
  have e2:a.eval y= .int .i64 (n:Int):=hy a w c
  have e3:a.eval u= .int .i64 (m:Int):=hu a w c
  refine ⟨_, ?_,hF _ _ rfl⟩
  have hz:=str_len l
  rw [←str_ext l m n]
  rw [←hz] at hn
  clear hz
  generalize str l=s at*
  have h1:(m:Int)≤(n:Int):=by omega
  have h2:(n:Int)≤(s.size:Int):=by omega
  unfold execOp
  simp only [ho,Option.map_some,Option.map_none,e1,e2,e3]
  simp [go_sem,Instr.sliceAt,h1,h2]) rfl
theorem cvK {k k':IntKind} {m:Int} {s t:TypeId} {ds:TypeDesc} (hs:Tryz.prog.underlying s=some ds) (ht:Tryz.prog.underlying t=some (.int k')) (hx:Arg soft Tryz.prog ops F G D V kf0 i x (isE (.int k m))) (hF: ∀w v,v= .int k' (k'.wrap m)→F d w v):Owes soft Tryz.prog ops Q F G D V kf0 i (some d) (.convert s t x):=
 val (fun o a w ho c=>by
  have e1:a.eval x= .int k m:=hx a w c
  refine ⟨.int k' (k'.wrap m), ?_,hF _ _ rfl⟩
  unfold execOp
  simp only [ho,e1]
  simp [go_sem,convert,Conv.intToInt,underlying,hs,ht]) rfl
end
end Go.Proofs.YthebilnlljkfeaaGreatDoor.Z
