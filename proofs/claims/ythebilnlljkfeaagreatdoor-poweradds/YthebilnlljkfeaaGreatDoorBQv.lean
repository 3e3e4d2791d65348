/- One text out of: GcdMath, QuoK, QuoL, QuoM, QuoO, QuoP, QuoQ. -/
import Derived.Test.YthebilnlljkfeaaGreatDoorBQuo
namespace Go.Proofs.YthebilnlljkfeaaGreatDoor.Mx
def far (p q:Nat):Nat:=if p<q then q-p else p-q
structure Fore (x0 y0 x y a1 b1 a2 b2:Nat):Prop where
 ex:x0=b2*x+b1*y
 ey:y0=a2*x+a1*y
 det:a1*b2=a2*b1+1∨a2*b1=a1*b2+1
 le2:a2≤b2
 le12:a1+a2≤b1+b2
 pos:1≤b2
 xy:y≤x
 sure:(a1=1∧b1=0∧a2=0∧b2=1)∨(1≤a2∧b2≤y∧b1+b2+y≤x)
theorem Fore.start {x0 y0:Nat} (h:y0≤x0):Fore x0 y0 x0 y0 1 0 0 1:=⟨by omega,by omega, .inl (by omega),by omega,by omega,by omega,h, .inl ⟨rfl,rfl,rfl,rfl⟩⟩
theorem Fore.fits {x0 y0 x y a1 b1 a2 b2:Nat} (h:Fore x0 y0 x y a1 b1 a2 b2):(b1+x/y*b2)*y≤x0∧(a1+x/y*a2)*y≤y0:=by
 have e:=Nat.div_add_mod x y
 have h1:=h.ex
 have h2:=h.ey
 generalize x/y=t at*
 generalize x%y=r at*
 have e1:x0=(b1+t*b2)*y+b2*r:=by rw [h1,←e];grind
 have e2:y0=(a1+t*a2)*y+a2*r:=by rw [h2,←e];grind
 exact ⟨by omega,by omega⟩
theorem Fore.le_next {x0 y0 x y a1 b1 a2 b2:Nat} (h:Fore x0 y0 x y a1 b1 a2 b2) (hy:y≠0):b2≤b1+x/y*b2∧a2≤a1+x/y*a2:=by
 have ht:1≤x/y:=(Nat.one_le_div_iff (by omega)).2 h.xy
 have h1:1*b2≤x/y*b2:=Nat.mul_le_mul_right _ ht
 have h2:1*a2≤x/y*a2:=Nat.mul_le_mul_right _ ht
 omega
theorem Fore.next {x0 y0 x y a1 b1 a2 b2:Nat} (h:Fore x0 y0 x y a1 b1 a2 b2) (hy:y≠0) (h1:b1+x/y*b2≤x%y) (h2:b2+(b1+x/y*b2)≤y-x%y):
  Fore x0 y0 y (x%y) a2 b2 (a1+x/y*a2) (b1+x/y*b2):=by
 have e:=Nat.div_add_mod x y
 have ht:1≤x/y:=(Nat.one_le_div_iff (by omega)).2 h.xy
 have hl:=h.le_next hy
 have hlt:x%y<y:=Nat.mod_lt x (by omega)
 obtain ⟨k1,k2,k3,k4,k5,k6,k7,k8⟩:=h
 generalize x/y=t at*
 generalize x%y=r at*
 obtain ⟨s,rfl⟩: ∃s,t=s+1:=⟨t-1,by omega⟩
 have hs:s*a2≤s*b2:=Nat.mul_le_mul_left s k4
 have e3:(s+1)*a2=s*a2+a2:=by grind
 have e4:(s+1)*b2=s*b2+b2:=by grind
 refine ⟨by rw [k1,←e];grind,by rw [k2,←e];grind, ?_,by omega,by omega,by omega,by omega, .inr ⟨?_,by omega,by omega⟩⟩
 ·rcases k3 with k|k
  ·right;grind
  ·left;grind
 ·rcases k8 with ⟨r1,_,_,_⟩|⟨r1,_,_⟩<;>omega
theorem Fore.sum {x0 y0 x y a1 b1 a2 b2:Nat} (h:Fore x0 y0 x y a1 b1 a2 b2) (hy:y≠0) (h1:b1+x/y*b2≤x%y):b2+(b1+x/y*b2)≤x0:=by
 have hl:=(h.le_next hy).1
 have hf:=(h.fits).1
 have hp:=h.pos
 have hlt:x%y<y:=Nat.mod_lt x (by omega)
 have h2:(b1+x/y*b2)*2≤(b1+x/y*b2)*y:=Nat.mul_le_mul_left _ (by omega)
 omega
theorem far_of {p q d:Nat} (h:p=q+d):far p q=d:=by unfold far;rw [if_neg (by omega)];omega
theorem far_of' {p q d:Nat} (h:q=p+d):far p q=d:=by
 unfold far
 split<;>omega
theorem gcd_lin {a b A B a1 b1 a2 b2:Nat} (ea:a=b2*A+b1*B) (eb:b=a2*A+a1*B) (hA:Nat.gcd a b∣A) (hB:Nat.gcd a b∣B):Nat.gcd A B=Nat.gcd a b:=by
 apply Nat.dvd_antisymm
 ·apply Nat.dvd_gcd
  ·rw [ea];exact Nat.dvd_add (Nat.dvd_trans (Nat.gcd_dvd_left A B) (Nat.dvd_mul_left A b2)) (Nat.dvd_trans (Nat.gcd_dvd_right A B) (Nat.dvd_mul_left B b1))
  ·rw [eb];exact Nat.dvd_add (Nat.dvd_trans (Nat.gcd_dvd_left A B) (Nat.dvd_mul_left A a2)) (Nat.dvd_trans (Nat.gcd_dvd_right A B) (Nat.dvd_mul_left B a1))
 ·exact Nat.dvd_gcd hA hB
theorem Fore.less {x0 y0 x y a1 b1 a2 b2 a b T ea eb:Nat} (h:Fore x0 y0 x y a1 b1 a2 b2) (h2:a2≠0) (ha:a=x0*T+ea) (hea:ea<T) (hb:b=y0*T+eb) (heb:eb<T):
  far (a2*a) (b2*b)≤far (a1*a) (b1*b)∧far (a1*a) (b1*b)≤a∧far (a2*a) (b2*b)<b∧Nat.gcd (far (a1*a) (b1*b)) (far (a2*a) (b2*b))=Nat.gcd a b:=by
 obtain ⟨k1,k2,k3,k4,k5,k6,k7,k8⟩:=h
 obtain ⟨m1,m2,m3⟩:1≤a2∧b2≤y∧b1+b2+y≤x:=by
  rcases k8 with ⟨_,_,h,_⟩|h
  ·exact absurd h h2
  ·exact h
 have p1:b1*eb≤b1*T:=Nat.mul_le_mul_left _ (by omega)
 have p2:b2*eb<b2*T:=Nat.mul_lt_mul_of_pos_left heb (by omega)
 have q2:a2*ea≤b2*T:=Nat.mul_le_mul k4 (by omega)
 have q12:(a1+a2)*ea<(a1+a2)*T:=Nat.mul_lt_mul_of_pos_left hea (by omega)
 have q12':(a1+a2)*T≤(b1+b2)*T:=Nat.mul_le_mul_right _ k5
 have yT:b2*T≤y*T:=Nat.mul_le_mul_right _ m2
 have xT:(b1+b2+y)*T≤x*T:=Nat.mul_le_mul_right _ m3
 rw [Nat.add_mul,Nat.add_mul] at xT
 rw [Nat.add_mul] at q12
 rw [Nat.add_mul (b1) b2] at q12'
 have key: ∀A B,B<A→(a1*a=b1*b+A∧b2*b=a2*a+B∧a1*b2=a2*b1+1)∨(b1*b=a1*a+A∧a2*a=b2*b+B∧a2*b1=a1*b2+1)→
   B≤A∧A≤a∧B<b∧Nat.gcd A B=Nat.gcd a b∧far (a1*a) (b1*b)=A∧far (a2*a) (b2*b)=B:=by
  intro A B hBA hc
  have ga:Nat.gcd a b∣a:=Nat.gcd_dvd_left a b
  have gb:Nat.gcd a b∣b:=Nat.gcd_dvd_right a b
  have da: ∀c,Nat.gcd a b∣c*a:=fun c=>Nat.dvd_trans ga (Nat.dvd_mul_left a c)
  have db: ∀c,Nat.gcd a b∣c*b:=fun c=>Nat.dvd_trans gb (Nat.dvd_mul_left b c)
  have e1:a=b2*A+b1*B:=by rcases hc with ⟨c1,c2,c3⟩|⟨c1,c2,c3⟩<;>(clear k1 k2 k3 p1 p2 q2 q12 q12' yT xT ha hb;grind)
  have e2:b=a2*A+a1*B:=by rcases hc with ⟨c1,c2,c3⟩|⟨c1,c2,c3⟩<;>(clear k1 k2 k3 p1 p2 q2 q12 q12' yT xT ha hb;grind)
  have l1:1*A≤b2*A:=Nat.mul_le_mul_right _ k6
  have l2:1*A≤a2*A:=Nat.mul_le_mul_right _ m1
  have hA:Nat.gcd a b∣A:=by
   rcases hc with ⟨c1,_,_⟩|⟨c1,_,_⟩
   ·exact (Nat.dvd_add_right (db b1)).1 (c1▸da a1)
   ·exact (Nat.dvd_add_right (da a1)).1 (c1▸db b1)
  have hB:Nat.gcd a b∣B:=by
   rcases hc with ⟨_,c1,_⟩|⟨_,c1,_⟩
   ·exact (Nat.dvd_add_right (da a2)).1 (c1▸db b2)
   ·exact (Nat.dvd_add_right (db b2)).1 (c1▸da a2)
  refine ⟨by omega,by omega,by omega,gcd_lin e1 e2 hA hB, ?_, ?_⟩
  ·rcases hc with ⟨c1,_,_⟩|⟨c1,_,_⟩
   ·exact far_of c1
   ·exact far_of' c1
  ·rcases hc with ⟨_,c1,_⟩|⟨_,c1,_⟩
   ·exact far_of' c1
   ·exact far_of c1
 rcases k3 with k|k
 ·have f1:a1*x0=b1*y0+x:=by rw [k1,k2];clear p1 p2 q2 q12 q12' yT xT key;grind
  have f2:b2*y0=a2*x0+y:=by rw [k1,k2];clear p1 p2 q2 q12 q12' yT xT key;grind
  have EA:a1*a+b1*eb=b1*b+x*T+a1*ea:=by rw [ha,hb];clear p1 p2 q2 q12 q12' yT xT key k1 k2 k;grind
  have EB:b2*b+a2*ea=a2*a+y*T+b2*eb:=by rw [ha,hb];clear p1 p2 q2 q12 q12' yT xT key k1 k2 k;grind
  obtain ⟨r1,r2,r3,r4,r5,r6⟩:=key (x*T+a1*ea-b1*eb) (y*T+b2*eb-a2*ea) (by omega) (.inl ⟨by omega,by omega,k⟩)
  rw [r5,r6]
  exact ⟨r1,r2,r3,r4⟩
 ·have f1:b1*y0=a1*x0+x:=by rw [k1,k2];clear p1 p2 q2 q12 q12' yT xT key;grind
  have f2:a2*x0=b2*y0+y:=by rw [k1,k2];clear p1 p2 q2 q12 q12' yT xT key;grind
  have EA:b1*b+a1*ea=a1*a+x*T+b1*eb:=by rw [ha,hb];clear p1 p2 q2 q12 q12' yT xT key k1 k2 k;grind
  have EB:a2*a+b2*eb=b2*b+y*T+a2*ea:=by rw [ha,hb];clear p1 p2 q2 q12 q12' yT xT key k1 k2 k;grind
  obtain ⟨r1,r2,r3,r4,r5,r6⟩:=key (x*T+b1*eb-a1*ea) (y*T+a2*ea-b2*eb) (by omega) (.inr ⟨by omega,by omega,k⟩)
  rw [r5,r6]
  exact ⟨r1,r2,r3,r4⟩
end Go.Proofs.YthebilnlljkfeaaGreatDoor.Mx
namespace Go.Proofs.YthebilnlljkfeaaGreatDoor
open Go.RowKit
theorem wrap_nat (n:Nat) (h:n<Mx.B):IntKind.u64.wrap (n:Int)=(n:Int):=IntWalk.u64_in _ (by rw [Mx.B_eq] at h;omega)
def stepsV (a1 b1 a2 b2:Nat):Value:= .agg #[.int .u64 (a1:Int), .int .u64 (b1:Int), .int .u64 (a2:Int), .int .u64 (b2:Int)]
structure Stp (w:World) (k a1 b1 a2 b2:Nat):Prop where
 c0:w.cell? ⟨k,0,none⟩=some (.int .u64 (a1:Int))
 c1:w.cell? ⟨k,1,none⟩=some (.int .u64 (b1:Int))
 c2:w.cell? ⟨k,2,none⟩=some (.int .u64 (a2:Int))
 c3:w.cell? ⟨k,3,none⟩=some (.int .u64 (b2:Int))
 fz: ∀i,w.frozen? ⟨k,i,none⟩=false
theorem Stp.lt {w:World} {k a1 b1 a2 b2:Nat} (h:Stp w k a1 b1 a2 b2):k<w.heap.size:=lt_of_cell h.c0
theorem Stp.grow {w w':World} {k a1 b1 a2 b2:Nat} (h:Stp w k a1 b1 a2 b2) (g:Grow w w'):Stp w' k a1 b1 a2 b2:=
 ⟨g.cells1 h.c0,g.cells1 h.c1,g.cells1 h.c2,g.cells1 h.c3,fun i=>(Below.frozen g (p:=⟨k,i,none⟩) h.lt).trans (h.fz i)⟩
theorem Stp.new (w:World) (a1 b1 a2 b2:Nat) (t:TypeId):Stp (w.alloc (.cells #[.int .u64 (a1:Int), .int .u64 (b1:Int), .int .u64 (a2:Int), .int .u64 (b2:Int)] t)) w.heap.size a1 b1 a2 b2:=
 ⟨by simp [go_sem],by simp [go_sem],by simp [go_sem],by simp [go_sem],fun i=>by simp [go_sem]⟩
theorem Stp.set {w:World} {k a1 b1 a2 b2:Nat} (h:Stp w k a1 b1 a2 b2) (a b c d:Nat):
  Stp ((((w.setCell ⟨k,0,none⟩ (.int .u64 (a:Int))).setCell ⟨k,1,none⟩ (.int .u64 (b:Int))).setCell ⟨k,2,none⟩ (.int .u64 (c:Int))).setCell ⟨k,3,none⟩ (.int .u64 (d:Int))) k a b c d:=by
 obtain ⟨h0,h1,h2,h3,h4⟩:=h
 have e1:(w.setCell ⟨k,0,none⟩ (.int .u64 (a:Int))).cell? ⟨k,1,none⟩=some (.int .u64 (b1:Int)):=by rw [World.cell?_setCell_other _ _ _ _ (by intro e;injection e with _ e;cases e)];exact h1
 have e2:((w.setCell ⟨k,0,none⟩ (.int .u64 (a:Int))).setCell ⟨k,1,none⟩ (.int .u64 (b:Int))).cell? ⟨k,2,none⟩=some (.int .u64 (a2:Int)):=by
  rw [World.cell?_setCell_other _ _ _ _ (by intro e;injection e with _ e;cases e),World.cell?_setCell_other _ _ _ _ (by intro e;injection e with _ e;cases e)];exact h2
 have e3:(((w.setCell ⟨k,0,none⟩ (.int .u64 (a:Int))).setCell ⟨k,1,none⟩ (.int .u64 (b:Int))).setCell ⟨k,2,none⟩ (.int .u64 (c:Int))).cell? ⟨k,3,none⟩=some (.int .u64 (b2:Int)):=by
  rw [World.cell?_setCell_other _ _ _ _ (by intro e;injection e with _ e;cases e),World.cell?_setCell_other _ _ _ _ (by intro e;injection e with _ e;cases e),World.cell?_setCell_other _ _ _ _ (by intro e;injection e with _ e;cases e)];exact h3
 refine ⟨?_, ?_, ?_,by simp [go_sem,e3],fun i=>by simpa using h4 i⟩
 ·rw [World.cell?_setCell_other _ _ _ _ (by intro e;injection e with _ e;cases e),World.cell?_setCell_other _ _ _ _ (by intro e;injection e with _ e;cases e),World.cell?_setCell_other _ _ _ _ (by intro e;injection e with _ e;cases e)]
  simp [go_sem,h0]
 ·rw [World.cell?_setCell_other _ _ _ _ (by intro e;injection e with _ e;cases e),World.cell?_setCell_other _ _ _ _ (by intro e;injection e with _ e;cases e)]
  simp [go_sem,e1]
 ·rw [World.cell?_setCell_other _ _ _ _ (by intro e;injection e with _ e;cases e)]
  simp [go_sem,e2]
theorem Stp.set_other {w:World} {k j a1 b1 a2 b2:Nat} (h:Stp w k a1 b1 a2 b2) (hj:j≠k) (a b c d:Nat):
  Stp ((((w.setCell ⟨j,0,none⟩ (.int .u64 (a:Int))).setCell ⟨j,1,none⟩ (.int .u64 (b:Int))).setCell ⟨j,2,none⟩ (.int .u64 (c:Int))).setCell ⟨j,3,none⟩ (.int .u64 (d:Int))) k a1 b1 a2 b2:=by
 have key: ∀i n,∀(W:World) u,(W.setCell ⟨j,i,none⟩ u).cell? ⟨k,n,none⟩=W.cell? ⟨k,n,none⟩:=fun i n W u=>World.cell?_setCell_other _ _ _ _ (by intro e;injection e with e;exact hj e)
 exact ⟨by rw [key,key,key,key];exact h.c0,by rw [key,key,key,key];exact h.c1,by rw [key,key,key,key];exact h.c2,by rw [key,key,key,key];exact h.c3,fun i=>by simpa using h.fz i⟩
set_option maxHeartbeats 400000 in
theorem none_any (w:World):Calls Tryz.prog 104 #[] w (Ret w fun v _=>v=stepsV 1 0 0 1):=by
 go_enter Tryz.func104,Tryz.ntmps104
 go_wp2_with fail
 exact bodyPost_ret (v:=stepsV 1 0 0 1) (by simp [results,Tryz.results104,go_sem,stepsV]) rfl (Ret.mk rfl ((Grow.refl _).alloc _))
set_option maxHeartbeats 2000000 in
theorem foresee_any (w:World) (x0 y0:Nat) (hx:x0<Mx.B) (hy:y0≤x0):Calls Tryz.prog 103 #[.int .u64 (x0:Int), .int .u64 (y0:Int)] w
  (Ret w fun v _=> ∃x y a1 b1 a2 b2,v=stepsV a1 b1 a2 b2∧Mx.Fore x0 y0 x y a1 b1 a2 b2∧a1<Mx.B∧b1<Mx.B∧a2<Mx.B∧b2<Mx.B):=by
 have HB:=Lib.hid (And.intro hx hy)
 clear hx hy
 go_enter Tryz.func103,Tryz.ntmps103
 go_wp2_with fail
 refine (none_any _).mono ?_
 rintro e w1 ⟨v1,rfl,rfl,g1⟩
 unfold stepsV
 go_wp2_with fail
 have S0:=((Stp.new w 0 0 0 0 144).grow g1).grow ((Grow.refl w1).alloc (Obj.cells #[Value.int IntKind.u64 1,Value.int IntKind.u64 0,Value.int IntKind.u64 0,Value.int IntKind.u64 1] 144))
 have S1:=Stp.new w1 1 0 0 1 144
 have GW:=Lib.hid ((((Grow.refl w).alloc _).trans g1).alloc (Obj.cells #[Value.int IntKind.u64 1,Value.int IntKind.u64 0,Value.int IntKind.u64 0,Value.int IntKind.u64 1] 144))
 have HS:=Lib.hid (And.intro S0 S1)
 have hne:w.heap.size<w1.heap.size:=by have:=g1.size;simp at this;omega
 clear S0 S1 g1
 go_loopw [0,1] (fun xv yv wr=> ∃x y a1 b1 a2 b2:Nat,xv= .int .u64 (x:Int)∧yv= .int .u64 (y:Int)∧Mx.Fore x0 y0 x y a1 b1 a2 b2∧(a1<Mx.B∧b1<Mx.B∧a2<Mx.B∧b2<Mx.B)∧Stp wr w.heap.size 0 0 0 0∧Stp wr w1.heap.size a1 b1 a2 b2∧Grow w wr) (fun _ yv _=>(intOf yv).toNat)
 case atStart=>exact ⟨x0,y0,1,0,0,1,rfl,rfl,Mx.Fore.start HB.out.2,⟨by rw [Mx.B_eq];omega,by rw [Mx.B_eq];omega,by rw [Mx.B_eq];omega,by rw [Mx.B_eq];omega⟩,HS.out.1,HS.out.2,GW.out⟩
 case round=>
  clear HS GW
  obtain ⟨x,y,a1,b1,a2,b2,rfl,rfl,hF,hb,S0,S1,gr⟩:=hrel
  have HF:=Lib.hid (And.intro hF (And.intro hb gr))
  clear hF hb gr
  by_cases h0:y=0
  ·subst h0
   have HS0:=Lib.hid S0
   have HS1:=Lib.hid S1
   obtain ⟨z0,z1,z2,z3,z4⟩:=S0
   obtain ⟨s0,s1,s2,s3,s4⟩:=S1
   have z40:=z4 0
   go_wp2_with fail
   have S:=HS0.out.set a1 b1 a2 b2
   obtain ⟨hF,hb,gr⟩:=HF.out
   exact bodyPost_ret (v:=stepsV a1 b1 a2 b2) (by simp [results,Tryz.results103,go_sem,stepsV,S.c0,S.c1,S.c2,S.c3]) rfl (Ret.mk ⟨x,0,a1,b1,a2,b2,rfl,hF,hb⟩ ((((gr.setCell (Nat.le_refl _) _).setCell (Nat.le_refl _) _).setCell (Nat.le_refl _) _).setCell (Nat.le_refl _) _))
  ·have hb0:((y:Int) !=0)=true:=by simp;omega
   have hb1: ¬(y:Int)=0:=by omega
   have HS0:=Lib.hid S0
   have HS1:=Lib.hid S1
   have H0:=Lib.hid h0
   obtain ⟨hF,hb,gr⟩:=HF.out
   have hdm:IntKind.u64.wrap ((x:Int)/(y:Int))=((x/y:Nat):Int):=by
    rw [←Int.natCast_ediv]
    exact wrap_nat _ (by have h1:=Nat.div_le_self x y;have h2:=Nat.le_mul_of_pos_left x (hF.pos);have h3:=hF.ex;have h4:=HB.out.1;omega)
   have hmm:(x:Int)%(y:Int)=((x%y:Nat):Int):=(Int.natCast_emod x y).symm
   have HDM:=Lib.hid (And.intro hdm hmm)
   have hA:a1+x/y*a2<Mx.B:=by
    have h1:=hF.fits.2
    have h2:=Nat.le_mul_of_pos_right (a1+x/y*a2) (Nat.pos_of_ne_zero h0)
    have h3:=HB.out
    omega
   have hBB:b1+x/y*b2<Mx.B:=by
    have h1:=hF.fits.1
    have h2:=Nat.le_mul_of_pos_right (b1+x/y*b2) (Nat.pos_of_ne_zero h0)
    have h3:=HB.out
    omega
   have hyB:y<Mx.B:=by
    have h1:=Nat.le_mul_of_pos_left x hF.pos
    have h2:=hF.ex
    have h3:=hF.xy
    have h4:=HB.out.1
    omega
   have HX:=Lib.hid (And.intro hA (And.intro hBB (And.intro (fun h1=>hF.sum h0 h1) (And.intro (fun h1 h2=>hF.next h0 h1 h2) (And.intro (Nat.mod_lt x (Nat.pos_of_ne_zero h0)) hyB)))))
   clear S0 S1 h0 hF hb gr hdm hmm hA hBB hyB
   go_wp2_with fail
   go_quiet (fail)
   rw [HDM.out.1,HDM.out.2]
   clear HDM
   generalize x/y=t at*
   generalize x%y=r at*
   have G2:=(Grow.refl wr).drewN nq
   generalize wr.drewN nq=w2 at*
   have HS0:=Lib.hid (HS0.out.grow G2)
   have HS1:=Lib.hid (HS1.out.grow G2)
   have GR:=Lib.hid (HF.out.2.2.trans G2)
   clear G2
   obtain ⟨s0,s1,s2,s3,s4⟩:=HS1.out
   have hw:IntKind.u64.wrap ((a1:Int)+IntKind.u64.wrap ((t:Int)*(a2:Int)))=((a1+t*a2:Nat):Int)∧IntKind.u64.wrap ((b1:Int)+IntKind.u64.wrap ((t:Int)*(b2:Int)))=((b1+t*b2:Nat):Int)∧IntKind.u64.wrap ((t:Int)*(a2:Int))=((t*a2:Nat):Int)∧IntKind.u64.wrap ((t:Int)*(b2:Int))=((t*b2:Nat):Int):=by
    have h1:=HX.out.1
    have h2:=HX.out.2.1
    have e1:IntKind.u64.wrap ((t:Int)*(a2:Int))=((t*a2:Nat):Int):=by rw [←Int.natCast_mul];exact wrap_nat _ (by omega)
    have e2:IntKind.u64.wrap ((t:Int)*(b2:Int))=((t*b2:Nat):Int):=by rw [←Int.natCast_mul];exact wrap_nat _ (by omega)
    refine ⟨?_, ?_,e1,e2⟩
    ·rw [e1,←Int.natCast_add];exact wrap_nat _ h1
    ·rw [e2,←Int.natCast_add];exact wrap_nat _ h2
   have HW:=Lib.hid hw
   clear hw
   go_upto_region 5 with fail
   rw [HW.out.1,HW.out.2.1,HW.out.2.2.1,HW.out.2.2.2]
   clear HW
   generalize a1+t*a2=A2 at*
   generalize b1+t*b2=B2 at*
   generalize t*a2=ta at*
   generalize t*b2=tb at*
   have G3:Grow w2 (w2.alloc (Obj.cells #[Value.int IntKind.u64 (a2:Int),Value.int IntKind.u64 (b2:Int),Value.int IntKind.u64 (A2:Int),Value.int IntKind.u64 (B2:Int)] 144)):=(Grow.refl w2).alloc _
   have S8:=Stp.new w2 a2 b2 A2 B2 144
   have S0:=HS0.out.grow G3
   have S1:=HS1.out.grow G3
   have g3:=GR.out.trans G3
   have hne8:w1.heap.size<w2.heap.size:=HS1.out.lt
   clear s0 s1 s2 s3 s4 HS0 HS1 G3 GR
   generalize w2.alloc (Obj.cells #[Value.int IntKind.u64 (a2:Int),Value.int IntKind.u64 (b2:Int),Value.int IntKind.u64 (A2:Int),Value.int IntKind.u64 (B2:Int)] 144)=w3 at*
   generalize w2.heap.size=k8 at*
   have HS0:=Lib.hid S0
   have HS1:=Lib.hid S1
   have HS8:=Lib.hid S8
   have GR:=Lib.hid g3
   clear g3 S0 S1 S8
   obtain ⟨hA,hBB,hsum,hnext,hry,hyB⟩:=HX.out
   have stop: ∀(c:Bool),c=true→True:=fun _ _=>trivial
   clear stop
   by_cases hlt:r<B2
   ·have d1:decide ((r:Int)<(B2:Int))=true:=decide_eq_true (by omega)
    have HD:=Lib.hid hlt
    clear hlt hA hBB hsum hnext hry hyB
    obtain ⟨z0,z1,z2,z3,z4⟩:=HS0.out
    have z40:=z4 0
    obtain ⟨s0,s1,s2,s3,s4⟩:=HS1.out
    obtain ⟨q0,q1,q2,q3,q4⟩:=HS8.out
    go_wp2_with fail
    have S:=HS0.out.set a1 b1 a2 b2
    obtain ⟨hF,hb,_⟩:=HF.out
    exact bodyPost_ret (v:=stepsV a1 b1 a2 b2) (by simp [results,Tryz.results103,go_sem,stepsV,S.c0,S.c1,S.c2,S.c3]) rfl (Ret.mk ⟨x,y,a1,b1,a2,b2,rfl,hF,hb⟩ ((((GR.out.setCell (Nat.le_refl _) _).setCell (Nat.le_refl _) _).setCell (Nat.le_refl _) _).setCell (Nat.le_refl _) _))
   ·have d1:decide ((r:Int)<(B2:Int))=false:=decide_eq_false (by omega)
    have hs:=hsum (by omega)
    have e1:IntKind.u64.wrap ((y:Int) -(r:Int))=((y-r:Nat):Int):=by
     rw [show (y:Int) -(r:Int)=((y-r:Nat):Int) by omega]
     exact wrap_nat _ (by omega)
    have e2:IntKind.u64.wrap ((b2:Int)+(B2:Int))=((b2+B2:Nat):Int):=by rw [←Int.natCast_add];exact wrap_nat _ (by have:=HB.out.1;omega)
    by_cases hl2:y-r<b2+B2
    ·have d2:decide (IntKind.u64.wrap ((y:Int) -(r:Int))<IntKind.u64.wrap ((b2:Int)+(B2:Int)))=true:=decide_eq_true (by rw [e1,e2];omega)
     clear hA hBB hsum hnext hry hyB e1 e2 hl2 hs
     obtain ⟨z0,z1,z2,z3,z4⟩:=HS0.out
     have z40:=z4 0
     obtain ⟨s0,s1,s2,s3,s4⟩:=HS1.out
     obtain ⟨q0,q1,q2,q3,q4⟩:=HS8.out
     go_wp2_with fail
     have S:=HS0.out.set a1 b1 a2 b2
     obtain ⟨hF,hb,_⟩:=HF.out
     exact bodyPost_ret (v:=stepsV a1 b1 a2 b2) (by simp [results,Tryz.results103,go_sem,stepsV,S.c0,S.c1,S.c2,S.c3]) rfl (Ret.mk ⟨x,y,a1,b1,a2,b2,rfl,hF,hb⟩ ((((GR.out.setCell (Nat.le_refl _) _).setCell (Nat.le_refl _) _).setCell (Nat.le_refl _) _).setCell (Nat.le_refl _) _))
    ·have d2:decide (IntKind.u64.wrap ((y:Int) -(r:Int))<IntKind.u64.wrap ((b2:Int)+(B2:Int)))=false:=decide_eq_false (by rw [e1,e2];omega)
     have HN:=Lib.hid (And.intro (hnext (by omega) (by omega)) (And.intro hA (And.intro hBB hry)))
     clear hA hBB hsum hnext hry hyB e1 e2 hl2 hs
     obtain ⟨s0,s1,s2,s3,s4⟩:=HS1.out
     have s40:=s4 0
     have s41:=s4 1
     have s42:=s4 2
     have s43:=s4 3
     obtain ⟨q0,q1,q2,q3,q4⟩:=HS8.out
     go_wp2_with fail
     go_region
     go_wp2_with fail
     go_roundw
     case rel=>
      have hb:=HF.out.2.1
      have hle:w.heap.size≤w1.heap.size:=by omega
      exact ⟨y,r,a2,b2,A2,B2,rfl,rfl,HN.out.1,⟨hb.2.2.1,hb.2.2.2,HN.out.2.1,HN.out.2.2.1⟩,(HS0.out.set_other (by omega) a2 b2 A2 B2).grow (Grow.refl _).drew,(HS1.out.set a2 b2 A2 B2).grow (Grow.refl _).drew,((((GR.out.setCell hle _).setCell hle _).setCell hle _).setCell hle _).drew⟩
     case measure=>simp [intOf];exact HN.out.2.2.2
end Go.Proofs.YthebilnlljkfeaaGreatDoor
namespace Go.Proofs.YthebilnlljkfeaaGreatDoor
open Go.RowKit
namespace Rg
section
variable {ops:Array Oper} {Q:Exit→Act→World→Prop} {F:Facts} {a0:Act} {w0:World}
theorem buildX {i d x c:Nat} (hc:c<Mx.B) (dx:depI ops i x=true) (hx: ∀w v,F x w v→v= .int .u64 (c:Int)) (hF: ∀w v,Sl w v [c]→F d w v):Owes Tryz.prog ops Q F a0 w0 i (some d) (.buildSlice 22 1 #[(0, .tmp x)]):=
 fun o a w ho hd hg ha D=>by
  have e:=hx _ _ (D x dx)
  refine valOf (v:= .slice (some ⟨w.heap.size,0,none⟩) 1 1) (w':=w.alloc (.cells (Go.Proofs.YthebilnlljkfeaaGreatDoor.vals [c]).toArray 76)) ?_ hd (hF _ _ (sl_built w [c] (by intro y hy;simp at hy;rw [hy];exact hc))) ((Grow.refl w).alloc _)
  simp only [Array.getD_eq_getD_getElem?] at e
  simp [execOp,ho,go_sem,Go.Proofs.YthebilnlljkfeaaGreatDoor.vals,Act.eval,e]
end
end Rg
noncomputable def apartOps1:Array Oper:=Rg.regionOps Tryz.f105 1
def apartF (a b s t k:Nat):Rg.Facts:=fun d w v=>
 match d with
 |13=>v= .int .u64 (s:Int)
 |14=>Sl w v [s]
 |15=>IsN w v s 1
 |16=>IsN w v a k
 |17=>IsN w v (s*a) (1+k)
 |18=>v= .int .u64 (t:Int)
 |19=>Sl w v [t]
 |20=>IsN w v t 1
 |21=>IsN w v b k
 |22=>IsN w v (t*b) (1+k)
 |_=>True
theorem Sl.store {w:World} {v:Value} {l:List Nat} (h:Sl w v l) {p:Addr} {A':Option Addr} {k c:Nat} (hp:w.cell? p=some (.slice A' k c)) (u:Value):Sl (w.setCell p u) v l:=by
 obtain ⟨A,d,e,h1,h2,h3⟩:=h
 exact ⟨A,d,e,h1,h2,h3.store hp u⟩
set_option maxRecDepth 100000 in
set_option maxHeartbeats 1000000 in
theorem apart_region1 {Q:Exit→Act→World→Prop} {a0:Act} {w0:World} {a b s t k:Nat} {p4 p6:Addr} {A4 A6:Option Addr} {l4 c4 l6 c6:Nat} (hn:a0.tmps.size=36)
  (h1:a0.tmps.getD 1 undef= .int .u64 (s:Int)) (h3:a0.tmps.getD 3 undef= .int .u64 (t:Int)) (h4:a0.tmps.getD 4 undef= .pointer (some p4)) (h6:a0.tmps.getD 6 undef= .pointer (some p6))
  (k4:w0.cell? p4=some (.slice A4 l4 c4)) (n4:IsN w0 (.agg #[.slice A4 l4 c4]) a k) (k6:w0.cell? p6=some (.slice A6 l6 c6)) (n6:IsN w0 (.agg #[.slice A6 l6 c6]) b k)
  (hs:s<Mx.B) (ht:t<Mx.B) (hk:k≤2147483648)
  (fin: ∀f w i j,Grow w0 w→f 9= .pointer (some ⟨i,0,none⟩)→f 10= .pointer (some ⟨j,0,none⟩)→i≠j→w0.heap.size≤i→w0.heap.size≤j→w.frozen? ⟨i,0,none⟩=false→w.frozen? ⟨j,0,none⟩=false→VarN w i (s*a) (1+k)→VarN w j (t*b) (1+k)→Q .normal (Rg.puts f [13,14,15,16,17,18,19,20,21,22,9,10] a0) w):
  (Code.region 1 apartOps1 true).wp Tryz.prog Q a0 w0:=by
 refine Rg.region4 (n:=36) (F:=fun d _ w v=>apartF a b s t k d w v) ⟨[(10,9),(11,10)],[(12,9,17),(13,10,22)],[]⟩ [] [] [13,14,15,16,17,18,19,20,21,22,9,10] (by kernel_rfl) hn (by kernel_rfl) (by kernel_rfl) (by kernel_rfl) (by kernel_rfl) ?_ ?_ ?_ ?_ (by intro p hp;cases hp) (by intro p q hp;cases hp)
  (fun i hi hna hns=> ?_) ?_
 ·intro d f w w' v h hg
  unfold apartF at h⊢
  split at h<;>first|exact h|exact h.grow hg
 ·intro d f f' w v h _
  exact h
 ·intro d f w v k A l c A' l' c' h hc
  unfold apartF at h⊢
  split at h<;>first|exact h|exact h.store hc _
 ·intro i p z hz f w v h
  simp only [List.mem_cons,Prod.mk.injEq,List.not_mem_nil,or_false] at hz
  rcases hz with ⟨rfl,rfl,rfl⟩|⟨rfl,rfl,rfl⟩
  ·exact IsN.cell (n:=s*a) (k:=1+k) h
  ·exact IsN.cell (n:=t*b) (k:=1+k) h
 ·have hal: ∀d,(([(10,9),(11,10)]:List (Nat×Nat)).map (·.2)).contains d=true→ ∀w v,apartF a b s t k d w v:=by
   intro d hd w v
   have:d=9∨d=10:=by simpa using hd
   rcases this with rfl|rfl<;>trivial
  have hi14:i<14:=Nat.lt_of_lt_of_eq hi (by kernel_rfl)
  match i,hi14 with
  |0,_=>exact Rg.step4N (F:=apartF a b s t k) (by kernel_rfl) hal (Rg.move (d:=13) (x:= .tmp 1) fun a w hg ha _=>(ha.2.2 1 (by kernel_rfl)).trans h1)
  |1,_=>exact Rg.step4N (F:=apartF a b s t k) (by kernel_rfl) hal (Rg.buildX (d:=14) (x:=13) (c:=s) hs (by kernel_rfl) (fun _ _ h=>h) (fun _ _ h=>h))
  |2,_=>exact Rg.step4N (F:=apartF a b s t k) (by kernel_rfl) hal (Rg.callOf1 (d:=15) (x:=14) (k:=1) (l:= [s]) (ts:= #[22]) (by kernel_rfl) (fun _ _ h=>h) (by simp) (by omega) (fun _ _ h=>by rw [Mx.val_one] at h;exact h))
  |3,_=>exact Rg.step4N (F:=apartF a b s t k) (by kernel_rfl) hal (Rg.loadNat (d:=16) (p:=4) h4 (by kernel_rfl) k4 n4 (fun _ _ h=>h))
  |4,_=>exact Rg.step4N (F:=apartF a b s t k) (by kernel_rfl) hal (Rg.callMul (d:=17) (x:=15) (y:=16) (n:=s) (m:=a) (k:=1) (j:=k) (ts:= #[24,24]) (by kernel_rfl) (by kernel_rfl) (fun _ _ h=>h) (fun _ _ h=>h) (by omega) (by omega) (fun _ _ h=>h))
  |5,_=>exact Rg.step4N (F:=apartF a b s t k) (by kernel_rfl) hal (Rg.move (d:=18) (x:= .tmp 3) fun a w hg ha _=>(ha.2.2 3 (by kernel_rfl)).trans h3)
  |6,_=>exact Rg.step4N (F:=apartF a b s t k) (by kernel_rfl) hal (Rg.buildX (d:=19) (x:=18) (c:=t) ht (by kernel_rfl) (fun _ _ h=>h) (fun _ _ h=>h))
  |7,_=>exact Rg.step4N (F:=apartF a b s t k) (by kernel_rfl) hal (Rg.callOf1 (d:=20) (x:=19) (k:=1) (l:= [t]) (ts:= #[22]) (by kernel_rfl) (fun _ _ h=>h) (by simp) (by omega) (fun _ _ h=>by rw [Mx.val_one] at h;exact h))
  |8,_=>exact Rg.step4N (F:=apartF a b s t k) (by kernel_rfl) hal (Rg.loadNat (d:=21) (p:=6) h6 (by kernel_rfl) k6 n6 (fun _ _ h=>h))
  |9,_=>exact Rg.step4N (F:=apartF a b s t k) (by kernel_rfl) hal (Rg.callMul (d:=22) (x:=20) (y:=21) (n:=t) (m:=b) (k:=1) (j:=k) (ts:= #[24,24]) (by kernel_rfl) (by kernel_rfl) (fun _ _ h=>h) (fun _ _ h=>h) (by omega) (by omega) (fun _ _ h=>h))
  |10,_=>exact absurd hna (by decide)
  |11,_=>exact absurd hna (by decide)
  |12,_=>exact absurd hns (by decide)
  |13,_=>exact absurd hns (by decide)
  |i+14,h=>exact absurd h (by omega)
 ·intro f w hg hf hl hap hh _
  obtain ⟨i,A,l,c,e1,e2,e3⟩:=hh 12 9 17 (by simp)
  obtain ⟨j,B,l',c',e4,e5,e6⟩:=hh 13 10 22 (by simp)
  obtain ⟨i',q1,q2,_,q3,_⟩:=hl 9 rfl
  obtain ⟨j',r1,r2,_,r3,_⟩:=hl 10 rfl
  rw [e1] at q1
  injection q1 with q1
  injection q1 with q1
  injection q1 with q1
  subst q1
  rw [e4] at r1
  injection r1 with r1
  injection r1 with r1
  injection r1 with r1
  subst r1
  have h17:IsN w (f 17) (s*a) (1+k):=hf 17 rfl rfl
  have h22:IsN w (f 22) (t*b) (1+k):=hf 22 rfl rfl
  rw [e2] at h17
  rw [e5] at h22
  refine fin f w i j hg.toGrow e1 e4 ?_ (q2.elim id (fun h=>by cases h)) (r2.elim id (fun h=>by cases h)) q3 r3 ⟨A,l,c,e3,h17⟩ ⟨B,l',c',e6,h22⟩
  rintro rfl
  exact hap 9 10 rfl rfl (by omega) (e1.trans e4.symm)
end Go.Proofs.YthebilnlljkfeaaGreatDoor
namespace Go.Proofs.YthebilnlljkfeaaGreatDoor
open Go.RowKit
def ApC (w:World) (p q k:Nat) (v9 v10:Value) (W:World):Prop:= ∃i j,v9= .pointer (some ⟨i,0,none⟩)∧v10= .pointer (some ⟨j,0,none⟩)∧i≠j∧w.heap.size≤i∧w.heap.size≤j∧W.frozen? ⟨i,0,none⟩=false∧W.frozen? ⟨j,0,none⟩=false∧VarN W i p k∧VarN W j q k∧Grow w W
set_option maxRecDepth 100000 in
set_option maxHeartbeats 2000000 in
theorem apart_any (w:World) (va vb:Value) (a b s t k:Nat) (ha:IsN w va a k) (hb:IsN w vb b k) (hs:s<Mx.B) (ht:t<Mx.B) (hk:k≤2147483648):
  Calls Tryz.prog 105 #[va, .int .u64 (s:Int),vb, .int .u64 (t:Int)] w (Ret w fun v w'=>IsN w' v (Mx.far (s*a) (t*b)) (1+k)):=by
 obtain ⟨A4,l4,c4,rfl⟩:=ha.cell
 obtain ⟨A6,l6,c6,rfl⟩:=hb.cell
 have HN:=Lib.hid (And.intro ha hb)
 have HB:=Lib.hid (And.intro hs (And.intro ht hk))
 clear ha hb hs ht hk
 go_enter Tryz.func105,Tryz.ntmps105
 go_upto_region 1 with fail
 have gg:Grow w (((w.alloc (Obj.cells #[Value.slice A4 l4 c4] 24)).alloc (Obj.cells #[Value.slice A6 l6 c6] 24)).alloc (Obj.cells #[Value.slice none 0 0] 24)):=(((Grow.refl _).alloc _).alloc _).alloc _
 obtain ⟨k4,k6,k8,f8⟩:=Grow.new3 (Grow.refl (((w.alloc (Obj.cells #[Value.slice A4 l4 c4] 24)).alloc (Obj.cells #[Value.slice A6 l6 c6] 24)).alloc (Obj.cells #[Value.slice none 0 0] 24)))
 have n4:=HN.out.1.grow gg
 have n6:=HN.out.2.grow gg
 generalize ((w.alloc (Obj.cells #[Value.slice A4 l4 c4] 24)).alloc (Obj.cells #[Value.slice A6 l6 c6] 24)).alloc (Obj.cells #[Value.slice none 0 0] 24)=w1 at*
 clear HN
 go_cut [9,10] (fun v9 v10 W=>ApC w1 (s*a) (t*b) (1+k) v9 v10 W)
 case first=>
  refine Rg.region_eq (ops':=apartOps1) (by kernel_rfl) (apart_region1 (a:=a) (b:=b) (s:=s) (t:=t) (k:=k) rfl rfl rfl rfl rfl k4 n4 k6 n6 HB.out.1 HB.out.2.1 HB.out.2.2 ?_)
  intro f w2 i j g2 e9 e10 hij hi hj fi fj vi vj
  have H:=Lib.hid (And.intro hij (And.intro hi (And.intro hj (And.intro fi (And.intro fj (And.intro vi (And.intro vj g2)))))))
  clear hij hi hj fi fj vi vj g2
  simp only [Rg.puts,Act.put,List.setIfInBounds_toArray,List.set_cons_succ,List.set_cons_zero]
  rw [e9,e10]
  go_wp2_with fail
  go_meet
  exact ⟨i,j,rfl,rfl,H.out⟩
 case rest=>
  obtain ⟨w2,rfl⟩: ∃x,x=wc:=⟨wc,rfl⟩
  obtain ⟨i,j,rfl,rfl,hij,hi,hj,fi,fj,vi,vj,g2⟩:=hcut
  have hk8:w.heap.size+1+1<w1.heap.size:=lt_of_cell k8
  have k8:=g2.cells1 k8
  have f8:=(Below.frozen g2 (p:=⟨w.heap.size+1+1,0,none⟩) hk8).trans f8
  have hgg:=gg.trans g2
  clear k4 k6 n4 n6 g2 gg
  obtain ⟨AI,lI,cI,hI,nI⟩:=vi
  obtain ⟨AJ,lJ,cJ,hJ,nJ⟩:=vj
  have HN:=Lib.hid (And.intro nI nJ)
  have HG:=Lib.hid hgg
  clear nI nJ hgg
  go_wp2_with fail
  refine (cmp_n HN.out.1 HN.out.2 (by have:=HB.out.2.2;omega)).mono ?_
  rintro e w3 ⟨v3,rfl,rfl,g3⟩
  have fi:=(Below.frozen g3 (p:=⟨i,0,none⟩) (lt_of_cell hI)).trans fi
  have fj:=(Below.frozen g3 (p:=⟨j,0,none⟩) (lt_of_cell hJ)).trans fj
  have f8:=(Below.frozen g3 (p:=⟨w.heap.size+1+1,0,none⟩) (lt_of_cell k8)).trans f8
  have hI:=g3.cells1 hI
  have hJ:=g3.cells1 hJ
  have k8:=g3.cells1 k8
  have nI:=HN.out.1.grow g3
  have nJ:=HN.out.2.grow g3
  have hG:=HG.out.trans g3
  clear HN HG g3
  by_cases hlt:s*a<t*b
  ·rw [Mx.cmp_lt hlt]
   have hi8:w.heap.size+1+1≠i:=by omega
   have hj8:w.heap.size+1+1≠j:=by omega
   have hwi:w.heap.size≤i:=by omega
   have hwj:w.heap.size≤j:=by omega
   have hJ':(w3.setCell ⟨i,0,none⟩ (.slice AJ lJ cJ)).cell? ⟨j,0,none⟩=some (.slice AJ lJ cJ):=by rw [World.cell?_setCell_other _ _ _ _ (by intro e;injection e with e;exact hij e)];exact hJ
   have hX:((w3.setCell ⟨i,0,none⟩ (.slice AJ lJ cJ)).setCell ⟨j,0,none⟩ (.slice AI lI cI)).cell? ⟨i,0,none⟩=some (.slice AJ lJ cJ):=by
    rw [World.cell?_setCell_other _ _ _ _ (by intro e;injection e with e;exact hij e.symm)];simp [go_sem,hI]
   have hY:((w3.setCell ⟨i,0,none⟩ (.slice AJ lJ cJ)).setCell ⟨j,0,none⟩ (.slice AI lI cI)).cell? ⟨j,0,none⟩=some (.slice AI lI cI):=by simp [go_sem,hJ']
   have k8':((w3.setCell ⟨i,0,none⟩ (.slice AJ lJ cJ)).setCell ⟨j,0,none⟩ (.slice AI lI cI)).cell? ⟨w.heap.size+1+1,0,none⟩=some (.slice none 0 0):=by
    rw [World.cell?_setCell_other _ _ _ _ (by intro e;injection e with e;exact hj8 e.symm),World.cell?_setCell_other _ _ _ _ (by intro e;injection e with e;exact hi8 e.symm)];exact k8
   have f8':((w3.setCell ⟨i,0,none⟩ (.slice AJ lJ cJ)).setCell ⟨j,0,none⟩ (.slice AI lI cI)).frozen? ⟨w.heap.size+1+1,0,none⟩=false:=by simpa using f8
   have nX:=(nJ.store hI (.slice AJ lJ cJ)).store hJ' (.slice AI lI cI)
   have nY:=(nI.store hI (.slice AJ lJ cJ)).store hJ' (.slice AI lI cI)
   have gW:=(hG.setCell (p:=⟨i,0,none⟩) hwi (.slice AJ lJ cJ)).setCell (p:=⟨j,0,none⟩) hwj (.slice AI lI cI)
   have HLE:=Lib.hid (Nat.le_of_lt hlt)
   have HLT:=Lib.hid hlt
   have HH:=Lib.hid (And.intro (And.intro hX hY) (And.intro (And.intro k8' f8') (And.intro (And.intro nX nY) gW)))
   clear hX hY k8' f8' nX nY gW hlt nI nJ hG k8 f8 hi8 hj8 hwi hwj
   go_upto_region 4 with fail
   obtain ⟨⟨hX,hY⟩,⟨k8,f8⟩,⟨nX,nY⟩,gW⟩:=HH.out
   clear HH hJ' hI hJ fi fj
   generalize (w3.setCell ⟨i,0,none⟩ (.slice AJ lJ cJ)).setCell ⟨j,0,none⟩ (.slice AI lI cI)=w4 at*
   have HN:=Lib.hid (And.intro nX nY)
   have HG:=Lib.hid gW
   have HC:=Lib.hid (And.intro k8 f8)
   clear nX nY gW
   go_wp2_with fail
   refine (sub_n HN.out.1 HN.out.2 (by have:=HB.out.2.2;omega) HLE.out).mono ?_
   rintro e w5 ⟨v5,rfl,⟨u,rfl,hu⟩,g5⟩
   obtain ⟨A5,l5,c5,rfl⟩:=hu.cell
   have gg:Grow w5 (w5.alloc (Obj.cells #[Value.slice A5 l5 c5] 24)):=(Grow.refl _).alloc _
   have k8':=(g5.trans gg).cells1 HC.out.1
   have f8':=(Below.frozen (g5.trans gg) (p:=⟨w.heap.size+1+1,0,none⟩) (by show w.heap.size+1+1<_;exact lt_of_cell HC.out.1)).trans HC.out.2
   have HU:=Lib.hid ((hu.grow gg).store k8' (.slice A5 l5 c5))
   have HG:=Lib.hid ((HG.out.trans (g5.trans gg)).setCell (p:=⟨w.heap.size+1+1,0,none⟩) (by show w.heap.size≤w.heap.size+1+1;omega) (.slice A5 l5 c5))
   clear hu g5 gg k8 f8 hX hY
   go_wp2_with fail
   refine bodyPost_ret (v:= .agg #[.slice A5 l5 c5]) (by simp [results,Tryz.results105,go_sem,k8']) rfl (Ret.mk ?_ HG.out)
   rw [show Mx.far (s*a) (t*b)=t*b-s*a from if_pos HLT.out]
   exact HU.out
  ·have hX:=hI
   have hY:=hJ
   have nX:=nI
   have nY:=nJ
   have gW:=hG
   have HLE:=Lib.hid (Nat.le_of_not_lt hlt)
   have HLT:=Lib.hid hlt
   have hd:decide (Mx.cmp (s*a) (t*b)<0)=false:=decide_eq_false (by unfold Mx.cmp;rw [if_neg hlt];split<;>omega)
   generalize Mx.cmp (s*a) (t*b)=cc at*
   clear hlt nI nJ hG hI hJ fi fj
   have HN:=Lib.hid (And.intro nX nY)
   have HG:=Lib.hid gW
   have HC:=Lib.hid (And.intro k8 f8)
   clear nX nY gW
   go_wp2_with fail
   refine (sub_n HN.out.1 HN.out.2 (by have:=HB.out.2.2;omega) HLE.out).mono ?_
   rintro e w5 ⟨v5,rfl,⟨u,rfl,hu⟩,g5⟩
   obtain ⟨A5,l5,c5,rfl⟩:=hu.cell
   have gg:Grow w5 (w5.alloc (Obj.cells #[Value.slice A5 l5 c5] 24)):=(Grow.refl _).alloc _
   have k8':=(g5.trans gg).cells1 HC.out.1
   have f8':=(Below.frozen (g5.trans gg) (p:=⟨w.heap.size+1+1,0,none⟩) (by show w.heap.size+1+1<_;exact lt_of_cell HC.out.1)).trans HC.out.2
   have HU:=Lib.hid ((hu.grow gg).store k8' (.slice A5 l5 c5))
   have HG:=Lib.hid ((HG.out.trans (g5.trans gg)).setCell (p:=⟨w.heap.size+1+1,0,none⟩) (by show w.heap.size≤w.heap.size+1+1;omega) (.slice A5 l5 c5))
   clear hu g5 gg k8 f8 hX hY
   go_wp2_with fail
   refine bodyPost_ret (v:= .agg #[.slice A5 l5 c5]) (by simp [results,Tryz.results105,go_sem,k8']) rfl (Ret.mk ?_ HG.out)
   rw [show Mx.far (s*a) (t*b)=s*a-t*b from if_neg HLT.out]
   exact HU.out
end Go.Proofs.YthebilnlljkfeaaGreatDoor
namespace Go.Proofs.YthebilnlljkfeaaGreatDoor
open Go.RowKit
theorem Mx.top_bits {a b:Nat} (hba:b≤a) (h:64<Mx.bits b):a/2^(Mx.bits a-64)<Mx.B∧b/2^(Mx.bits a-64)<Mx.B∧b/2^(Mx.bits a-64)≤a/2^(Mx.bits a-64):=by
 have hm:=Mx.bits_mono hba
 have h1:=Mx.bits_lt a
 have e:2^Mx.bits a=2^(Mx.bits a-64)*Mx.B:=by
  have e2:Mx.bits a=(Mx.bits a-64)+64:=by omega
  rw [show Mx.B=2^64 from rfl,←Nat.pow_add,←e2]
 have h2:a/2^(Mx.bits a-64)<Mx.B:=by
  rw [Nat.div_lt_iff_lt_mul (Mx.pow2_pos _),Nat.mul_comm,←e]
  exact h1
 have h3:b/2^(Mx.bits a-64)≤a/2^(Mx.bits a-64):=Nat.div_le_div_right hba
 exact ⟨h2,Nat.lt_of_le_of_lt h3 h2,h3⟩
theorem limbFrom_ret {w:World} {v:Value} {x n y:Nat} (hn:n≤4611686018427387904) (hy:x/2^n=y) (hB:y<Mx.B) (h:LimbsAt w v x):Calls Tryz.prog 81 #[v, .int .i64 (n:Int)] w (Ret w fun v' _=>v'= .int .u64 (y:Int)):=by
 obtain ⟨k,rfl,hk⟩:=h
 have h:=limbFrom_any w (some ⟨k,0,none⟩) (Mx.limbs x) (Mx.limbs x).length n (Mx.limbs_lt x) hn (Cells.of_block hk)
 rw [Mx.val_limbs,hy,Nat.mod_eq_of_lt hB] at h
 refine Calls.mono h ?_
 rintro e w' ⟨rfl,m,rfl⟩
 exact Ret.mk rfl ((Grow.refl w).drewN m)
theorem en_foresee:Enters Tryz.prog 103:=enters_of Tryz.func103 (by kernel_rfl) rfl
theorem en_none:Enters Tryz.prog 104:=enters_of Tryz.func104 (by kernel_rfl) rfl
theorem en_apart:Enters Tryz.prog 105:=enters_of Tryz.func105 (by kernel_rfl) rfl
def Foreseen (x0 y0:Nat) (v:Value):Prop:= ∃x y a1 b1 a2 b2,v=stepsV a1 b1 a2 b2∧Mx.Fore x0 y0 x y a1 b1 a2 b2∧a1<Mx.B∧b1<Mx.B∧a2<Mx.B∧b2<Mx.B
def NewStp (s0:Nat) (w:World) (v:Value):Prop:= ∃k,v= .pointer (some ⟨k,0,none⟩)∧s0≤k∧Stp w k 0 0 0 0
theorem NewStp.grow {s0:Nat} {w w':World} {v:Value} (h:NewStp s0 w v) (g:Grow w w'):NewStp s0 w' v:=by
 obtain ⟨k,e,h1,h2⟩:=h
 exact ⟨k,e,h1,h2.grow g⟩
noncomputable def lessOps2:Array Oper:=Rg.regionOps Tryz.f78 2
def lessF (s0 a b n x0 y0:Nat):Rg.Facts2:=fun d _ w v=>
 match d with
 |14=>IsNat w v a
 |15=>LimbsAt w v a
 |16=>v= .int .i64 (n:Int)
 |17=>v= .int .u64 (x0:Int)
 |18=>IsNat w v b
 |19=>LimbsAt w v b
 |20=>v= .int .i64 (n:Int)
 |21=>v= .int .u64 (y0:Int)
 |22=>Foreseen x0 y0 v
 |7=>NewStp s0 w v
 |_=>True
set_option maxRecDepth 100000 in
set_option maxHeartbeats 1000000 in
theorem less_region2 {Q:Exit→Act→World→Prop} {a0:Act} {w0:World} {A2 A3:Option Addr} {l2 c2 l3 c3 a b n x0 y0:Nat} {p2 p3:Addr} (hn:a0.tmps.size=49) (h2:a0.tmps.getD 2 undef= .pointer (some p2)) (h3:a0.tmps.getD 3 undef= .pointer (some p3)) (h6:a0.tmps.getD 6 undef= .int .i64 (n:Int))
  (k2:w0.cell? p2=some (.slice A2 l2 c2)) (k3:w0.cell? p3=some (.slice A3 l3 c3)) (ha:IsNat w0 (.agg #[.slice A2 l2 c2]) a) (hb:IsNat w0 (.agg #[.slice A3 l3 c3]) b)
  (hla:Mx.len a≤1073741824) (hlb:Mx.len b≤1073741824) (hnn:n≤4611686018427387904) (hx:a/2^n=x0) (hy:b/2^n=y0) (hxB:x0<Mx.B) (hyx:y0≤x0)
  (fin: ∀f w k x y a1 b1 a2 b2,Grow w0 w→f 7= .pointer (some ⟨k,0,none⟩)→w0.heap.size≤k→Stp w k a1 b1 a2 b2→Mx.Fore x0 y0 x y a1 b1 a2 b2→a1<Mx.B→b1<Mx.B→a2<Mx.B→b2<Mx.B→Q .normal (Rg.puts f [14,15,16,17,18,19,20,21,22,7] a0) w):
  (Code.region 2 lessOps2 true).wp Tryz.prog Q a0 w0:=by
 refine Rg.region3 (n:=49) (F:=lessF w0.heap.size a b n x0 y0) 10 [] [14,15,16,17,18,19,20,21,22,7] (by kernel_rfl) (by kernel_rfl) hn (by kernel_rfl) (by kernel_rfl) (by kernel_rfl) ?_ ?_
  (fun i hi=>Rg.all_from 10 0 ?_ i (Nat.zero_le _) (by omega)) ?_
 ·intro d f w w' v h hg
  unfold lessF at h⊢
  split at h<;>first|exact h|exact h.grow hg
 ·intro d f f' w v h _
  exact h
 ·refine ⟨Rg.load2 (i:=0) (d:=14) (p:=2) (by kernel_rfl) h2 (by kernel_rfl) k2 (fun _ w hg=>ha.grow hg), ?_,Rg.move2 (i:=2) (d:=16) (e:=6) (by kernel_rfl) (by kernel_rfl) (fun _ _=>h6), ?_,Rg.load2 (i:=4) (d:=18) (p:=3) (by kernel_rfl) h3 (by kernel_rfl) k3 (fun _ w hg=>hb.grow hg), ?_,Rg.move2 (i:=6) (d:=20) (e:=6) (by kernel_rfl) (by kernel_rfl) (fun _ _=>h6), ?_, ?_, ?_,trivial⟩
  ·refine Rg.step2N (i:=1) (dst:=some 15) (op:= .call {callee:= .value (.func 82),args:= #[.tmp 14],argTypes:= #[24]}) (by kernel_rfl) fun o a' w ho hd hg ha' D=> ?_
   exact Rg.call1 (F:=fun d w v=>lessF w0.heap.size a b n x0 y0 d (Rg.vals a') w v) ho en_limbs hd (limbs_ret w _ a hla (D 14 (by kernel_rfl))) fun e w' ⟨v,e1,h1,g1⟩=>⟨v,e1,h1,g1⟩
  ·refine Rg.step2N (i:=3) (dst:=some 17) (op:= .call {callee:= .value (.func 81),args:= #[.tmp 15, .tmp 16],argTypes:= #[22,3]}) (by kernel_rfl) fun o a' w ho hd hg ha' D=> ?_
   have e16:a'.tmps.getD 16 undef= .int .i64 (n:Int):=D 16 (by kernel_rfl)
   exact Rg.call2 (F:=fun d w v=>lessF w0.heap.size a b n x0 y0 d (Rg.vals a') w v) (R:=Ret w fun v' _=>v'= .int .u64 (x0:Int)) ho en_limbFrom hd (by rw [e16];exact limbFrom_ret hnn hx hxB (D 15 (by kernel_rfl))) fun e w' ⟨v,e1,h1,g1⟩=>⟨v,e1,h1,g1⟩
  ·refine Rg.step2N (i:=5) (dst:=some 19) (op:= .call {callee:= .value (.func 82),args:= #[.tmp 18],argTypes:= #[24]}) (by kernel_rfl) fun o a' w ho hd hg ha' D=> ?_
   exact Rg.call1 (F:=fun d w v=>lessF w0.heap.size a b n x0 y0 d (Rg.vals a') w v) ho en_limbs hd (limbs_ret w _ b hlb (D 18 (by kernel_rfl))) fun e w' ⟨v,e1,h1,g1⟩=>⟨v,e1,h1,g1⟩
  ·refine Rg.step2N (i:=7) (dst:=some 21) (op:= .call {callee:= .value (.func 81),args:= #[.tmp 19, .tmp 20],argTypes:= #[22,3]}) (by kernel_rfl) fun o a' w ho hd hg ha' D=> ?_
   have e20:a'.tmps.getD 20 undef= .int .i64 (n:Int):=D 20 (by kernel_rfl)
   exact Rg.call2 (F:=fun d w v=>lessF w0.heap.size a b n x0 y0 d (Rg.vals a') w v) (R:=Ret w fun v' _=>v'= .int .u64 (y0:Int)) ho en_limbFrom hd (by rw [e20];exact limbFrom_ret hnn hy (by omega) (D 19 (by kernel_rfl))) fun e w' ⟨v,e1,h1,g1⟩=>⟨v,e1,h1,g1⟩
  ·refine Rg.step2N (i:=8) (dst:=some 22) (op:= .call {callee:= .value (.func 103),args:= #[.tmp 17, .tmp 21],argTypes:= #[76,76]}) (by kernel_rfl) fun o a' w ho hd hg ha' D=> ?_
   have e17:a'.tmps.getD 17 undef= .int .u64 (x0:Int):=D 17 (by kernel_rfl)
   have e21:a'.tmps.getD 21 undef= .int .u64 (y0:Int):=D 21 (by kernel_rfl)
   exact Rg.call2 (F:=fun d w v=>lessF w0.heap.size a b n x0 y0 d (Rg.vals a') w v) (R:=Ret w fun v' _=>Foreseen x0 y0 v') ho en_foresee hd (by rw [e17,e21];exact foresee_any w x0 y0 hxB hyx) fun e w' ⟨v,e1,h1,g1⟩=>⟨v,e1,h1,g1⟩
  ·refine Rg.step2N (i:=9) (dst:=some 7) (op:= .alloc 144) (by kernel_rfl) fun o a' w ho hd hg ha' D=> ?_
   refine Rg.valOf (F:=fun d w v=>lessF w0.heap.size a b n x0 y0 d (Rg.vals a') w v) (v:= .pointer (some ⟨w.heap.size,0,none⟩)) (w':=w.alloc (.cells #[.int .u64 0, .int .u64 0, .int .u64 0, .int .u64 0] 144)) ?_ hd ⟨w.heap.size,rfl,hg.size,Stp.new w 0 0 0 0 _⟩ ((Grow.refl w).alloc _)
   simp [execOp,ho,go_sem]
 ·intro f w hg hf
  obtain ⟨x,y,a1,b1,a2,b2,e22,hF,hb1,hb2,hb3,hb4⟩:=(hf 22 rfl:Foreseen x0 y0 (f 22))
  obtain ⟨k,e7,hk,S⟩:=(hf 7 rfl:NewStp w0.heap.size w (f 7))
  have hpg:=Rg.puts_get f [14,15,16,17,18,19,20,21,22,7] a0
  have h7:(Rg.puts f [14,15,16,17,18,19,20,21,22,7] a0).tmps.getD 7 undef= .pointer (some ⟨k,0,none⟩):=by rw [hpg 7 (by omega)];exact e7
  have h22:(Rg.puts f [14,15,16,17,18,19,20,21,22,7] a0).tmps.getD 22 undef=stepsV a1 b1 a2 b2:=by rw [hpg 22 (by omega)];exact e22
  have hq:=fin f _ k x y a1 b1 a2 b2 ((((hg.setCell (p:=⟨k,0,none⟩) hk (.int .u64 (a1:Int))).setCell (p:=⟨k,1,none⟩) hk (.int .u64 (b1:Int))).setCell (p:=⟨k,2,none⟩) hk (.int .u64 (a2:Int))).setCell (p:=⟨k,3,none⟩) hk (.int .u64 (b2:Int))) e7 hk (S.set a1 b1 a2 b2) hF hb1 hb2 hb3 hb4
  generalize Rg.puts f [14,15,16,17,18,19,20,21,22,7] a0=a' at*
  have hinfo:Rg.info lessOps2 10=some (none, .store 144 (.tmp 7) (.tmp 22),none):=by kernel_rfl
  cases ho:lessOps2[10]? with
  |none=>rw [Rg.info,ho] at hinfo;cases hinfo
  |some o=>
   obtain ⟨i1,i2,i3⟩:=Rg.info_parts hinfo ho
   refine Rg.run_wanted ho (by simp [Region.wanted,i3]) ?_
   unfold Oper.wp
   have z:=S.fz
   obtain ⟨s0,s1,s2,s3,s4⟩:=S
   have z0:=z 0
   have hrun:(execOp a'.eval o).run Tryz.prog w= .ok .skip ((((w.setCell ⟨k,0,none⟩ (.int .u64 (a1:Int))).setCell ⟨k,1,none⟩ (.int .u64 (b1:Int))).setCell ⟨k,2,none⟩ (.int .u64 (a2:Int))).setCell ⟨k,3,none⟩ (.int .u64 (b2:Int))):=by
    simp only [Array.getD_eq_getD_getElem?] at h7 h22
    simp [execOp,i2,go_sem,Act.eval,h7,h22,stepsV,s0,s1,s2,s3,s4]
   rw [hrun,Oper.upon_skip,i1]
   exact hq
end Go.Proofs.YthebilnlljkfeaaGreatDoor
namespace Go.Proofs.YthebilnlljkfeaaGreatDoor
open Go.RowKit
noncomputable def lessOps3:Array Oper:=Rg.regionOps Tryz.f78 3
def less3F (a1 b1 a2 b2:Nat) (c:Bool):Rg.Facts2:=fun d _ _ v=>
 match d with
 |23=>v=stepsV a1 b1 a2 b2
 |24=>v=stepsV 1 0 0 1
 |25=>v= .bool c
 |_=>True
set_option maxRecDepth 100000 in
set_option maxHeartbeats 1000000 in
theorem less_region3 {Q:Exit→Act→World→Prop} {a0:Act} {w0:World} {k a1 b1 a2 b2:Nat} {c:Bool} (hn:a0.tmps.size=49) (h7:a0.tmps.getD 7 undef= .pointer (some ⟨k,0,none⟩)) (S:Stp w0 k a1 b1 a2 b2) (hc:decide (a1=1∧b1=0∧a2=0∧b2=1)=c)
  (fin: ∀f w,Grow w0 w→f 25= .bool c→Q .normal (Rg.puts f [23,24,25] a0) w):
  (Code.region 3 lessOps3 true).wp Tryz.prog Q a0 w0:=by
 refine Rg.region2 (n:=49) (F:=less3F a1 b1 a2 b2 c) [] [23,24,25] (by kernel_rfl) hn (by kernel_rfl) (by kernel_rfl) (by kernel_rfl) ?_ ?_
  (fun i hi=>Rg.all_from 3 0 ?_ i (Nat.zero_le _) (Nat.lt_of_lt_of_eq hi (by kernel_rfl))) (fun f w hg hf=>fin f w hg (hf 25 rfl))
 ·intro d f w w' v h hg
  exact h
 ·intro d f f' w v h _
  exact h
 ·refine ⟨?_, ?_, ?_,trivial⟩
  ·refine Rg.step2N (i:=0) (dst:=some 23) (op:= .load 144 (.tmp 7)) (by kernel_rfl) fun o a' w ho hd hg ha' D=> ?_
   have e7:a'.tmps.getD 7 undef= .pointer (some ⟨k,0,none⟩):=(ha'.2.2 7 (by kernel_rfl)).trans h7
   obtain ⟨s0,s1,s2,s3,s4⟩:=S.grow hg
   refine Rg.valOf (F:=fun d w v=>less3F a1 b1 a2 b2 c d (Rg.vals a') w v) (v:=stepsV a1 b1 a2 b2) (w':=w) ?_ hd rfl (Grow.refl w)
   simp only [Array.getD_eq_getD_getElem?] at e7
   simp [execOp,ho,go_sem,Act.eval,e7,stepsV,s0,s1,s2,s3]
  ·refine Rg.step2N (i:=1) (dst:=some 24) (op:= .call {callee:= .value (.func 104),args:= #[],argTypes:= #[]}) (by kernel_rfl) fun o a' w ho hd hg ha' D=> ?_
   exact Rg.call0 (F:=fun d w v=>less3F a1 b1 a2 b2 c d (Rg.vals a') w v) ho en_none hd (none_any w) fun e w' ⟨v,e1,h1,g1⟩=>⟨v,e1,h1,g1⟩
  ·refine Rg.step2N (i:=2) (dst:=some 25) (op:= .binOp .eql 144 (.tmp 23) (.tmp 24) 144) (by kernel_rfl) fun o a' w ho hd hg ha' D=> ?_
   have e23:a'.tmps.getD 23 undef=stepsV a1 b1 a2 b2:=D 23 (by kernel_rfl)
   have e24:a'.tmps.getD 24 undef=stepsV 1 0 0 1:=D 24 (by kernel_rfl)
   refine Rg.valOf (F:=fun d w v=>less3F a1 b1 a2 b2 c d (Rg.vals a') w v) (v:= .bool c) (w':=w) ?_ hd rfl (Grow.refl w)
   simp only [Array.getD_eq_getD_getElem?] at e23 e24
   subst hc
   simp [execOp,ho,go_sem,Act.eval,e23,e24,stepsV]
   have r1:((a1:Int)=1)=(a1=1):=propext (by omega)
   have r2:((b2:Int)=1)=(b2=1):=propext (by omega)
   simp only [r1,r2]
   by_cases q1:a1=1<;>by_cases q2:b1=0<;>by_cases q3:a2=0<;>by_cases q4:b2=1<;>simp [q1,q2,q3,q4]
theorem Rg.GB.old {R:List Nat} {w w0 w':World} (g:Grow w w0) (h:Rg.GB R w0 w') (hR: ∀b,b<w.heap.size→R.contains b=false):Grow w w':=
 ⟨h.os.trans g.os,h.tape.trans g.tape,h.output.trans g.output,Nat.le_trans g.size h.size,fun b hb=>(h.block b (Nat.lt_of_lt_of_le hb g.size) (hR b hb)).trans (g.block b hb)⟩
namespace Rg
section
variable {ops:Array Oper} {Q:Exit→Act→World→Prop} {F:Facts} {a0:Act} {w0:World} {V:VS} {R:List Nat}
theorem step4G {i:Nat} {dst:Option Nat} {op:Op} (h:info ops i=some (dst,op,none)) (hal:V.al= []) (hs: ∀w,GB R w0 w→Owes Tryz.prog ops Q F a0 w i dst op):Step4 ops Q (fun d _ w v=>F d w v) V R a0 w0 i:=by
 intro o ho a w hg ha hd
 obtain ⟨h1,h2,h3⟩:=info_parts h ho
 refine run_wanted ho (by simp [Region.wanted,h3]) (hs w hg o a w h2 h1 (Grow.refl w) ha fun d hdi=> ?_)
 exact hd d (by rw [←depI_eq ho];exact hdi) (by rw [hal];rfl)
theorem fieldAddrS {i d p k n:Nat} (hp:a0.tmps.getD p undef= .pointer (some ⟨k,0,none⟩)) (hnd:(dsts ops).contains p=false) (hn:n<4) (hF: ∀w v,v= .pointer (some ⟨k,n,none⟩)→F d w v):Owes Tryz.prog ops Q F a0 w0 i (some d) (.fieldAddr 144 (.tmp p) n):=
 fun o a w ho hd hg ha _=>by
  have e:a.tmps.getD p undef= .pointer (some ⟨k,0,none⟩):=(ha.2.2 p hnd).trans hp
  refine valOf (v:= .pointer (some ⟨k,n,none⟩)) (w':=w) ?_ hd (hF _ _ rfl) (Grow.refl w)
  simp only [Array.getD_eq_getD_getElem?] at e
  have:n=0∨n=1∨n=2∨n=3:=by omega
  rcases this with rfl|rfl|rfl|rfl<;>simp [execOp,ho,go_sem,Act.eval,e]
theorem loadU {i d p c:Nat} {b:Addr} (dp:depI ops i p=true) (hp: ∀w v,F p w v→v= .pointer (some b)) (hc:w0.cell? b=some (.int .u64 (c:Int))) (hF: ∀w v,v= .int .u64 (c:Int)→F d w v):Owes Tryz.prog ops Q F a0 w0 i (some d) (.load 76 (.tmp p)):=
 fun o a w ho hd hg ha D=>by
  have e:=hp _ _ (D p dp)
  have hc':=hg.cells1 hc
  refine valOf (v:= .int .u64 (c:Int)) (w':=w) ?_ hd (hF _ _ rfl) (Grow.refl w)
  simp only [Array.getD_eq_getD_getElem?] at e
  simp [execOp,ho,go_sem,Act.eval,e,hc']
theorem callApart {i d x y z u a b s t k:Nat} {ts:Array TypeId} (dx:depI ops i x=true) (dy:depI ops i y=true) (dz:depI ops i z=true) (du:depI ops i u=true) (hx: ∀w v,F x w v→IsN w v a k) (hy: ∀w v,F y w v→v= .int .u64 (s:Int)) (hz: ∀w v,F z w v→IsN w v b k) (hu: ∀w v,F u w v→v= .int .u64 (t:Int))
  (hs:s<Mx.B) (ht:t<Mx.B) (hk:k≤2147483648) (hF: ∀w v,IsN w v (Mx.far (s*a) (t*b)) (1+k)→F d w v):Owes Tryz.prog ops Q F a0 w0 i (some d) (.call {callee:= .value (.func 105),args:= #[.tmp x, .tmp y, .tmp z, .tmp u],argTypes:=ts}):=
 fun o a' w ho hd _ _ D=>by
  have e1:=hy _ _ (D y dy)
  have e2:=hu _ _ (D u du)
  refine callOf ho en_apart hd (R:=Ret w fun v w'=>IsN w' v (Mx.far (s*a) (t*b)) (1+k)) ?_ fun _ _ ⟨v,e,h,g⟩=>⟨v,e,hF _ _ h,g⟩
  simp only [List.map_toArray,List.map_cons,List.map_nil,Act.eval]
  rw [e1,e2]
  exact apart_any w _ _ a b s t k (hx _ _ (D x dx)) (hz _ _ (D z dz)) hs ht hk
end
end Rg
noncomputable def lessOps6:Array Oper:=Rg.regionOps Tryz.f78 6
def less6F (a b K k a1 b1 a2 b2 p q:Nat):Rg.Facts:=fun d w v=>
 match d with
 |35=>IsN w v a K
 |36=>v= .pointer (some ⟨k,0,none⟩)
 |37=>v= .int .u64 (a1:Int)
 |38=>IsN w v b K
 |39=>v= .pointer (some ⟨k,1,none⟩)
 |40=>v= .int .u64 (b1:Int)
 |41=>IsN w v p (1+K)
 |42=>IsN w v a K
 |43=>v= .pointer (some ⟨k,2,none⟩)
 |44=>v= .int .u64 (a2:Int)
 |45=>IsN w v b K
 |46=>v= .pointer (some ⟨k,3,none⟩)
 |47=>v= .int .u64 (b2:Int)
 |48=>IsN w v q (1+K)
 |_=>True
set_option maxRecDepth 100000 in
set_option maxHeartbeats 1000000 in
theorem less_region6 {Q:Exit→Act→World→Prop} {a0:Act} {w w0:World} {A2 A3:Option Addr} {l2 c2 l3 c3 a b K k a1 b1 a2 b2 p q j2 j3 j4 j5:Nat} (hn:a0.tmps.size=49)
  (h2:a0.tmps.getD 2 undef= .pointer (some ⟨j2,0,none⟩)) (h3:a0.tmps.getD 3 undef= .pointer (some ⟨j3,0,none⟩)) (h4:a0.tmps.getD 4 undef= .pointer (some ⟨j4,0,none⟩)) (h5:a0.tmps.getD 5 undef= .pointer (some ⟨j5,0,none⟩)) (h7:a0.tmps.getD 7 undef= .pointer (some ⟨k,0,none⟩))
  (hne:j2≠j4∧j2≠j5∧j3≠j4∧j3≠j5∧k≠j4∧k≠j5∧j4≠j5) (hge:w.heap.size≤j4∧w.heap.size≤j5) (g:Grow w w0)
  (k2:w0.cell? ⟨j2,0,none⟩=some (.slice A2 l2 c2)) (n2:IsN w (.agg #[.slice A2 l2 c2]) a K) (k3:w0.cell? ⟨j3,0,none⟩=some (.slice A3 l3 c3)) (n3:IsN w (.agg #[.slice A3 l3 c3]) b K)
  (k4:w0.cell? ⟨j4,0,none⟩=some (.slice none 0 0)) (f4:w0.frozen? ⟨j4,0,none⟩=false) (k5:w0.cell? ⟨j5,0,none⟩=some (.slice none 0 0)) (f5:w0.frozen? ⟨j5,0,none⟩=false) (S:Stp w0 k a1 b1 a2 b2)
  (hb1:a1<Mx.B) (hb2:b1<Mx.B) (hb3:a2<Mx.B) (hb4:b2<Mx.B) (hK:K≤2147483648) (hp:Mx.far (a1*a) (b1*b)=p) (hq:Mx.far (a2*a) (b2*b)=q)
  (fin: ∀f w',Grow w w'→VarN w' j4 p (1+K)→VarN w' j5 q (1+K)→Q .normal (Rg.puts f [35,36,37,38,39,40,41,42,43,44,45,46,47,48] a0) w'):
  (Code.region 6 lessOps6 true).wp Tryz.prog Q a0 w0:=by
 obtain ⟨e1,e2,e3,e4,e5,e6,e7⟩:=hne
 have hold: ∀W,Rg.GB [j4,j5] w0 W→Grow w W:=fun W hW=>Rg.GB.old g hW (by
  intro b hb
  rw [List.contains_eq_mem]
  simp only [decide_eq_false_iff_not,List.mem_cons,List.not_mem_nil,or_false,not_or]
  omega)
 have hcl: ∀W,Rg.GB [j4,j5] w0 W→ ∀(j n:Nat) (v:Value),j≠j4→j≠j5→w0.cell? ⟨j,n,none⟩=some v→W.cell? ⟨j,n,none⟩=some v:=fun W hW j n v h1 h2 hc=>hW.cell (by
  rw [List.contains_eq_mem]
  simp only [decide_eq_false_iff_not,List.mem_cons,List.not_mem_nil,or_false,not_or]
  exact ⟨h1,h2⟩) hc
 refine Rg.region4 (n:=49) (F:=fun d _ w v=>less6F a b K k a1 b1 a2 b2 p q d w v) ⟨[],[(14,4,41),(15,5,48)],[4,5]⟩ [j4,j5] [] [35,36,37,38,39,40,41,42,43,44,45,46,47,48] (by kernel_rfl) hn (by kernel_rfl) (by kernel_rfl) (by kernel_rfl) (by kernel_rfl) ?_ ?_ ?_ ?_ ?_ ?_
  (fun i hi hna hns=> ?_) ?_
 ·intro d f w w' v h hg
  unfold less6F at h⊢
  split at h<;>first|exact h|exact h.grow hg
 ·intro d f f' w v h _
  exact h
 ·intro d f w v k A l c A' l' c' h hc
  unfold less6F at h⊢
  split at h<;>first|exact h|exact h.store hc _
 ·intro i x z hz f w v h
  simp only [List.mem_cons,Prod.mk.injEq,List.not_mem_nil,or_false] at hz
  rcases hz with ⟨rfl,rfl,rfl⟩|⟨rfl,rfl,rfl⟩
  ·exact IsN.cell (n:=p) (k:=1+K) h
  ·exact IsN.cell (n:=q) (k:=1+K) h
 ·intro x hx
  simp only [List.mem_cons,List.not_mem_nil,or_false] at hx
  rcases hx with rfl|rfl
  ·exact ⟨j4,h4, .inr (by simp),lt_of_cell k4,f4,none,0,0,k4⟩
  ·exact ⟨j5,h5, .inr (by simp),lt_of_cell k5,f5,none,0,0,k5⟩
 ·intro x y hx hy hxy
  have hpp:(Value.pointer (some ⟨j4,0,none⟩))≠ .pointer (some ⟨j5,0,none⟩):=by
   intro e
   injection e with e
   injection e with e
   injection e with e
   exact e7 e
  have r4:Rg.vals a0 4= .pointer (some ⟨j4,0,none⟩):=h4
  have r5:Rg.vals a0 5= .pointer (some ⟨j5,0,none⟩):=h5
  simp only [List.mem_cons,List.not_mem_nil,or_false] at hx hy
  rcases hx with rfl|rfl<;>rcases hy with rfl|rfl
  ·exact absurd rfl hxy
  ·rw [r4,r5];exact hpp
  ·rw [r4,r5];exact hpp.symm
  ·exact absurd rfl hxy
 ·have hi16:i<16:=Nat.lt_of_lt_of_eq hi (by kernel_rfl)
  match i,hi16 with
  |0,_=>exact Rg.step4G (F:=less6F a b K k a1 b1 a2 b2 p q) (by kernel_rfl) rfl fun W hW=>Rg.loadNat (d:=35) (p:=2) h2 (by kernel_rfl) (hcl W hW _ _ _ e1 e2 k2) (n2.grow (hold W hW)) (fun _ _ h=>h)
  |1,_=>exact Rg.step4G (F:=less6F a b K k a1 b1 a2 b2 p q) (by kernel_rfl) rfl fun W hW=>Rg.fieldAddrS (d:=36) (p:=7) (k:=k) (n:=0) h7 (by kernel_rfl) (by omega) (fun _ _ h=>h)
  |2,_=>exact Rg.step4G (F:=less6F a b K k a1 b1 a2 b2 p q) (by kernel_rfl) rfl fun W hW=>Rg.loadU (d:=37) (p:=36) (c:=a1) (b:=⟨k,0,none⟩) (by kernel_rfl) (fun _ _ h=>h) (hcl W hW _ _ _ e5 e6 S.c0) (fun _ _ h=>h)
  |3,_=>exact Rg.step4G (F:=less6F a b K k a1 b1 a2 b2 p q) (by kernel_rfl) rfl fun W hW=>Rg.loadNat (d:=38) (p:=3) h3 (by kernel_rfl) (hcl W hW _ _ _ e3 e4 k3) (n3.grow (hold W hW)) (fun _ _ h=>h)
  |4,_=>exact Rg.step4G (F:=less6F a b K k a1 b1 a2 b2 p q) (by kernel_rfl) rfl fun W hW=>Rg.fieldAddrS (d:=39) (p:=7) (k:=k) (n:=1) h7 (by kernel_rfl) (by omega) (fun _ _ h=>h)
  |5,_=>exact Rg.step4G (F:=less6F a b K k a1 b1 a2 b2 p q) (by kernel_rfl) rfl fun W hW=>Rg.loadU (d:=40) (p:=39) (c:=b1) (b:=⟨k,1,none⟩) (by kernel_rfl) (fun _ _ h=>h) (hcl W hW _ _ _ e5 e6 S.c1) (fun _ _ h=>h)
  |6,_=>exact Rg.step4G (F:=less6F a b K k a1 b1 a2 b2 p q) (by kernel_rfl) rfl fun W hW=>Rg.callApart (d:=41) (x:=35) (y:=37) (z:=38) (u:=40) (a:=a) (b:=b) (s:=a1) (t:=b1) (k:=K) (ts:= #[24,76,24,76]) (by kernel_rfl) (by kernel_rfl) (by kernel_rfl) (by kernel_rfl) (fun _ _ h=>h) (fun _ _ h=>h) (fun _ _ h=>h) (fun _ _ h=>h) hb1 hb2 hK (fun _ _ h=>by rw [hp] at h;exact h)
  |7,_=>exact Rg.step4G (F:=less6F a b K k a1 b1 a2 b2 p q) (by kernel_rfl) rfl fun W hW=>Rg.loadNat (d:=42) (p:=2) h2 (by kernel_rfl) (hcl W hW _ _ _ e1 e2 k2) (n2.grow (hold W hW)) (fun _ _ h=>h)
  |8,_=>exact Rg.step4G (F:=less6F a b K k a1 b1 a2 b2 p q) (by kernel_rfl) rfl fun W hW=>Rg.fieldAddrS (d:=43) (p:=7) (k:=k) (n:=2) h7 (by kernel_rfl) (by omega) (fun _ _ h=>h)
  |9,_=>exact Rg.step4G (F:=less6F a b K k a1 b1 a2 b2 p q) (by kernel_rfl) rfl fun W hW=>Rg.loadU (d:=44) (p:=43) (c:=a2) (b:=⟨k,2,none⟩) (by kernel_rfl) (fun _ _ h=>h) (hcl W hW _ _ _ e5 e6 S.c2) (fun _ _ h=>h)
  |10,_=>exact Rg.step4G (F:=less6F a b K k a1 b1 a2 b2 p q) (by kernel_rfl) rfl fun W hW=>Rg.loadNat (d:=45) (p:=3) h3 (by kernel_rfl) (hcl W hW _ _ _ e3 e4 k3) (n3.grow (hold W hW)) (fun _ _ h=>h)
  |11,_=>exact Rg.step4G (F:=less6F a b K k a1 b1 a2 b2 p q) (by kernel_rfl) rfl fun W hW=>Rg.fieldAddrS (d:=46) (p:=7) (k:=k) (n:=3) h7 (by kernel_rfl) (by omega) (fun _ _ h=>h)
  |12,_=>exact Rg.step4G (F:=less6F a b K k a1 b1 a2 b2 p q) (by kernel_rfl) rfl fun W hW=>Rg.loadU (d:=47) (p:=46) (c:=b2) (b:=⟨k,3,none⟩) (by kernel_rfl) (fun _ _ h=>h) (hcl W hW _ _ _ e5 e6 S.c3) (fun _ _ h=>h)
  |13,_=>exact Rg.step4G (F:=less6F a b K k a1 b1 a2 b2 p q) (by kernel_rfl) rfl fun W hW=>Rg.callApart (d:=48) (x:=42) (y:=44) (z:=45) (u:=47) (a:=a) (b:=b) (s:=a2) (t:=b2) (k:=K) (ts:= #[24,76,24,76]) (by kernel_rfl) (by kernel_rfl) (by kernel_rfl) (by kernel_rfl) (fun _ _ h=>h) (fun _ _ h=>h) (fun _ _ h=>h) (fun _ _ h=>h) hb3 hb4 hK (fun _ _ h=>by rw [hq] at h;exact h)
  |14,_=>exact absurd hns (by decide)
  |15,_=>exact absurd hns (by decide)
  |i+16,h=>exact absurd h (by omega)
 ·intro f w' hg hf hl hap hh ho
  obtain ⟨i,A,l,c,i1,i2,i3⟩:=hh 14 4 41 (by simp)
  obtain ⟨j,B,l',c',i4,i5,i6⟩:=hh 15 5 48 (by simp)
  have r4:f 4= .pointer (some ⟨j4,0,none⟩):=(ho 4 (by simp)).trans h4
  have r5:f 5= .pointer (some ⟨j5,0,none⟩):=(ho 5 (by simp)).trans h5
  rw [r4] at i1
  injection i1 with i1
  injection i1 with i1
  injection i1 with i1
  subst i1
  rw [r5] at i4
  injection i4 with i4
  injection i4 with i4
  injection i4 with i4
  subst i4
  have h41:IsN w' (f 41) p (1+K):=hf 41 rfl rfl
  have h48:IsN w' (f 48) q (1+K):=hf 48 rfl rfl
  rw [i2] at h41
  rw [i5] at h48
  exact fin f w' (hold w' hg) ⟨A,l,c,i3,h41⟩ ⟨B,l',c',i6,h48⟩
noncomputable def lessOps5:Array Oper:=Rg.regionOps Tryz.f78 5
def less5F (K p q:Nat):Rg.Facts:=fun d w v=>
 match d with
 |33=>IsN w v p K
 |34=>IsN w v q K
 |_=>True
set_option maxRecDepth 100000 in
set_option maxHeartbeats 1000000 in
theorem less_region5 {Q:Exit→Act→World→Prop} {a0:Act} {w w0:World} {A3 A9:Option Addr} {l3 c3 l9 c9 K p q j3 j4 j5 j9:Nat} (hn:a0.tmps.size=49)
  (h3:a0.tmps.getD 3 undef= .pointer (some ⟨j3,0,none⟩)) (h4:a0.tmps.getD 4 undef= .pointer (some ⟨j4,0,none⟩)) (h5:a0.tmps.getD 5 undef= .pointer (some ⟨j5,0,none⟩)) (h9:a0.tmps.getD 9 undef= .pointer (some ⟨j9,0,none⟩))
  (hne:j3≠j4∧j3≠j5∧j9≠j4∧j9≠j5∧j4≠j5) (g:Grow w w0)
  (k3:w0.cell? ⟨j3,0,none⟩=some (.slice A3 l3 c3)) (n3: ∀W,Rg.GB [j4,j5] w0 W→IsN W (.agg #[.slice A3 l3 c3]) p K) (k9:w0.cell? ⟨j9,0,none⟩=some (.slice A9 l9 c9)) (n9: ∀W,Rg.GB [j4,j5] w0 W→IsN W (.agg #[.slice A9 l9 c9]) q K)
  (hge:w.heap.size≤j4∧w.heap.size≤j5)
  (k4:w0.cell? ⟨j4,0,none⟩=some (.slice none 0 0)) (f4:w0.frozen? ⟨j4,0,none⟩=false) (k5:w0.cell? ⟨j5,0,none⟩=some (.slice none 0 0)) (f5:w0.frozen? ⟨j5,0,none⟩=false)
  (fin: ∀f w',Grow w w'→VarN w' j4 p K→VarN w' j5 q K→Q .normal (Rg.puts f [33,34] a0) w'):
  (Code.region 5 lessOps5 true).wp Tryz.prog Q a0 w0:=by
 obtain ⟨e1,e2,e3,e4,e7⟩:=hne
 have hold: ∀W,Rg.GB [j4,j5] w0 W→Grow w W:=fun W hW=>Rg.GB.old g hW (by
  intro b hb
  rw [List.contains_eq_mem]
  simp only [decide_eq_false_iff_not,List.mem_cons,List.not_mem_nil,or_false,not_or]
  omega)
 have hcl: ∀W,Rg.GB [j4,j5] w0 W→ ∀(j n:Nat) (v:Value),j≠j4→j≠j5→w0.cell? ⟨j,n,none⟩=some v→W.cell? ⟨j,n,none⟩=some v:=fun W hW j n v h1 h2 hc=>hW.cell (by
  rw [List.contains_eq_mem]
  simp only [decide_eq_false_iff_not,List.mem_cons,List.not_mem_nil,or_false,not_or]
  exact ⟨h1,h2⟩) hc
 refine Rg.region4 (n:=49) (F:=fun d _ w v=>less5F K p q d w v) ⟨[],[(2,4,33),(3,5,34)],[4,5]⟩ [j4,j5] [] [33,34] (by kernel_rfl) hn (by kernel_rfl) (by kernel_rfl) (by kernel_rfl) (by kernel_rfl) ?_ ?_ ?_ ?_ ?_ ?_
  (fun i hi hna hns=> ?_) ?_
 ·intro d f w w' v h hg
  unfold less5F at h⊢
  split at h<;>first|exact h|exact h.grow hg
 ·intro d f f' w v h _
  exact h
 ·intro d f w v k A l c A' l' c' h hc
  unfold less5F at h⊢
  split at h<;>first|exact h|exact h.store hc _
 ·intro i x z hz f w v h
  simp only [List.mem_cons,Prod.mk.injEq,List.not_mem_nil,or_false] at hz
  rcases hz with ⟨rfl,rfl,rfl⟩|⟨rfl,rfl,rfl⟩
  ·exact IsN.cell (n:=p) (k:=K) h
  ·exact IsN.cell (n:=q) (k:=K) h
 ·intro x hx
  simp only [List.mem_cons,List.not_mem_nil,or_false] at hx
  rcases hx with rfl|rfl
  ·exact ⟨j4,h4, .inr (by simp),lt_of_cell k4,f4,none,0,0,k4⟩
  ·exact ⟨j5,h5, .inr (by simp),lt_of_cell k5,f5,none,0,0,k5⟩
 ·intro x y hx hy hxy
  have hpp:(Value.pointer (some ⟨j4,0,none⟩))≠ .pointer (some ⟨j5,0,none⟩):=by
   intro e
   injection e with e
   injection e with e
   injection e with e
   exact e7 e
  have r4:Rg.vals a0 4= .pointer (some ⟨j4,0,none⟩):=h4
  have r5:Rg.vals a0 5= .pointer (some ⟨j5,0,none⟩):=h5
  simp only [List.mem_cons,List.not_mem_nil,or_false] at hx hy
  rcases hx with rfl|rfl<;>rcases hy with rfl|rfl
  ·exact absurd rfl hxy
  ·rw [r4,r5];exact hpp
  ·rw [r4,r5];exact hpp.symm
  ·exact absurd rfl hxy
 ·have hi4:i<4:=Nat.lt_of_lt_of_eq hi (by kernel_rfl)
  match i,hi4 with
  |0,_=>exact Rg.step4G (F:=less5F K p q) (by kernel_rfl) rfl fun W hW=>Rg.loadNat (d:=33) (p:=3) h3 (by kernel_rfl) (hcl W hW _ _ _ e1 e2 k3) (n3 W hW) (fun _ _ h=>h)
  |1,_=>exact Rg.step4G (F:=less5F K p q) (by kernel_rfl) rfl fun W hW=>Rg.loadNat (d:=34) (p:=9) h9 (by kernel_rfl) (hcl W hW _ _ _ e3 e4 k9) (n9 W hW) (fun _ _ h=>h)
  |2,_=>exact absurd hns (by decide)
  |3,_=>exact absurd hns (by decide)
  |i+4,h=>exact absurd h (by omega)
 ·intro f w' hg hf hl hap hh ho
  obtain ⟨i,A,l,c,i1,i2,i3⟩:=hh 2 4 33 (by simp)
  obtain ⟨j,B,l',c',i4,i5,i6⟩:=hh 3 5 34 (by simp)
  have r4:f 4= .pointer (some ⟨j4,0,none⟩):=(ho 4 (by simp)).trans h4
  have r5:f 5= .pointer (some ⟨j5,0,none⟩):=(ho 5 (by simp)).trans h5
  rw [r4] at i1
  injection i1 with i1
  injection i1 with i1
  injection i1 with i1
  subst i1
  rw [r5] at i4
  injection i4 with i4
  injection i4 with i4
  injection i4 with i4
  subst i4
  have h33:IsN w' (f 33) p K:=hf 33 rfl rfl
  have h34:IsN w' (f 34) q K:=hf 34 rfl rfl
  rw [i2] at h33
  rw [i5] at h34
  exact fin f w' (hold w' hg) ⟨A,l,c,i3,h33⟩ ⟨B,l',c',i6,h34⟩
end Go.Proofs.YthebilnlljkfeaaGreatDoor
namespace Go.Proofs.YthebilnlljkfeaaGreatDoor
open Go.RowKit
def LsC (w:World) (x0 y0:Nat) (v7:Value) (W:World):Prop:= ∃k x y a1 b1 a2 b2,v7= .pointer (some ⟨k,0,none⟩)∧w.heap.size≤k∧Stp W k a1 b1 a2 b2∧Mx.Fore x0 y0 x y a1 b1 a2 b2∧a1<Mx.B∧b1<Mx.B∧a2<Mx.B∧b2<Mx.B∧Grow w W
def LsD (w:World) (c:Bool) (v25:Value) (W:World):Prop:=v25= .bool c∧Grow w W
def NoInt (w:World) (b:Nat):Prop:=b<w.heap.size∧ ∀i (x:Int),w.cell? ⟨b,i,none⟩≠some (.int .u64 x)
theorem NoInt.grow {w w':World} {b:Nat} (h:NoInt w b) (g:Grow w w'):NoInt w' b:=⟨Nat.lt_of_lt_of_le h.1 g.size,fun i x=>by rw [g.cell (p:=⟨b,i,none⟩) h.1];exact h.2 i x⟩
theorem NoInt.new (w:World) (t:TypeId):NoInt (w.alloc (Obj.cells #[Value.slice none 0 0] t)) w.heap.size:=by
 refine ⟨by simp,fun i x=> ?_⟩
 rw [cell_of_row _ w.heap.size i _ _ _ (heap_alloc_new w _)]
 cases i<;>simp
theorem Cells.gb {R:List Nat} {w0 W:World} {A:Option Addr} {l:List Nat} (h:Cells w0 A l) (hW:Rg.GB R w0 W) (hR: ∀b,R.contains b=true→NoInt w0 b):Cells W A l:=fun hn=>by
 obtain ⟨b,o,e,hb,hc⟩:=h hn
 have hbR:R.contains b=false:=by
  cases hr:R.contains b with
  |false=>rfl
  |true=>
   exfalso
   cases l with
   |nil=>exact hn rfl
   |cons x r=>exact (hR b hr).2 (o+0) _ (hc 0 x rfl)
 exact ⟨b,o,e,Nat.lt_of_lt_of_le hb hW.size,fun j x hx=>hW.cell hbR (hc j x hx)⟩
theorem IsN.gb {R:List Nat} {w0 W:World} {v:Value} {n k:Nat} (h:IsN w0 v n k) (hW:Rg.GB R w0 W) (hR: ∀b,R.contains b=true→NoInt w0 b):IsN W v n k:=by
 obtain ⟨⟨A,c,e,h1,h2⟩,h3⟩:=h
 exact ⟨⟨A,c,e,h1,h2.gb hW hR⟩,h3⟩
structure LsS (w:World) (A2:Option Addr) (l2 c2:Nat) (A3:Option Addr) (l3 c3:Nat) (W:World):Prop where
 k2:W.cell? ⟨w.heap.size,0,none⟩=some (.slice A2 l2 c2)
 k3:W.cell? ⟨w.heap.size+1,0,none⟩=some (.slice A3 l3 c3)
 k4:W.cell? ⟨w.heap.size+1+1,0,none⟩=some (.slice none 0 0)
 f4:W.frozen? ⟨w.heap.size+1+1,0,none⟩=false
 k5:W.cell? ⟨w.heap.size+1+1+1,0,none⟩=some (.slice none 0 0)
 f5:W.frozen? ⟨w.heap.size+1+1+1,0,none⟩=false
 o4:NoInt W (w.heap.size+1+1)
 o5:NoInt W (w.heap.size+1+1+1)
 g:Grow w W
theorem LsS.grow {w W W':World} {A2 A3:Option Addr} {l2 c2 l3 c3:Nat} (h:LsS w A2 l2 c2 A3 l3 c3 W) (g:Grow W W'):LsS w A2 l2 c2 A3 l3 c3 W':=
 ⟨g.cells1 h.k2,g.cells1 h.k3,g.cells1 h.k4,(Below.frozen g (lt_of_cell' h.k4)).trans h.f4,g.cells1 h.k5,(Below.frozen g (lt_of_cell' h.k5)).trans h.f5,h.o4.grow g,h.o5.grow g,h.g.trans g⟩
theorem LsS.start (w:World) (A2:Option Addr) (l2 c2:Nat) (A3:Option Addr) (l3 c3:Nat):LsS w A2 l2 c2 A3 l3 c3 ((((w.alloc (Obj.cells #[Value.slice A2 l2 c2] 24)).alloc (Obj.cells #[Value.slice A3 l3 c3] 24)).alloc (Obj.cells #[Value.slice none 0 0] 24)).alloc (Obj.cells #[Value.slice none 0 0] 24)):=by
 obtain ⟨k2,k3,k4,f4⟩:=Grow.new3 (w':=((((w.alloc (Obj.cells #[Value.slice A2 l2 c2] 24)).alloc (Obj.cells #[Value.slice A3 l3 c3] 24)).alloc (Obj.cells #[Value.slice none 0 0] 24)).alloc (Obj.cells #[Value.slice none 0 0] 24))) ((Grow.refl _).alloc _)
 have h5:=Grow.new (w:=((w.alloc (Obj.cells #[Value.slice A2 l2 c2] 24)).alloc (Obj.cells #[Value.slice A3 l3 c3] 24)).alloc (Obj.cells #[Value.slice none 0 0] 24)) (v:= .slice none 0 0) (t:=24) (Grow.refl _)
 have e:(((w.alloc (Obj.cells #[Value.slice A2 l2 c2] 24)).alloc (Obj.cells #[Value.slice A3 l3 c3] 24)).alloc (Obj.cells #[Value.slice none 0 0] 24)).heap.size=w.heap.size+1+1+1:=by simp
 rw [e] at h5
 have o4:=(NoInt.new ((w.alloc (Obj.cells #[Value.slice A2 l2 c2] 24)).alloc (Obj.cells #[Value.slice A3 l3 c3] 24)) 24).grow ((Grow.refl _).alloc (Obj.cells #[Value.slice none 0 0] 24))
 have o5:=NoInt.new (((w.alloc (Obj.cells #[Value.slice A2 l2 c2] 24)).alloc (Obj.cells #[Value.slice A3 l3 c3] 24)).alloc (Obj.cells #[Value.slice none 0 0] 24)) 24
 have e':((w.alloc (Obj.cells #[Value.slice A2 l2 c2] 24)).alloc (Obj.cells #[Value.slice A3 l3 c3] 24)).heap.size=w.heap.size+1+1:=by simp
 rw [e'] at o4
 rw [e] at o5
 exact ⟨k2,k3,k4,f4,h5.1,h5.2,o4,o5,((((Grow.refl _).alloc _).alloc _).alloc _).alloc _⟩
set_option maxRecDepth 100000 in
set_option maxHeartbeats 2000000 in
theorem lessen_any (w:World) (va vb:Value) (a b:Nat) (hla:Mx.len a≤1073741824) (ha:IsNat w va a) (hb:IsNat w vb b) (hba:b≤a) (h64:64<Mx.bits b):
  Calls Tryz.prog 78 #[va,vb] w (Ret w (LessRet a b)):=by
 have hlb:Mx.len b≤1073741824:=Nat.le_trans (Mx.len_mono hba) hla
 have na:IsN w va a 1073741824:=⟨ha,hla⟩
 have nb:IsN w vb b 1073741824:=⟨hb,hlb⟩
 obtain ⟨A2,l2,c2,rfl⟩:=na.cell
 obtain ⟨A3,l3,c3,rfl⟩:=nb.cell
 obtain ⟨t1,t2,t3⟩:=Mx.top_bits hba h64
 have hbl:=Mx.bits_len a
 have hbm:=Mx.bits_mono hba
 obtain ⟨n,hn⟩: ∃n,n=Mx.bits a-64:=⟨_,rfl⟩
 rw [←hn] at t1 t2 t3
 have hb0:b≠0:=by
  rintro rfl
  rw [Mx.bits_zero] at h64
  omega
 have HB:=Lib.hid (And.intro hla (And.intro hlb (And.intro hba (And.intro t1 (And.intro t3 hb0)))))
 have hnn:n≤4611686018427387904:=by omega
 have hsub:((Mx.bits a:Nat):Int) -64=(n:Int):=by omega
 have hwr:IntKind.i64.wrap (((Mx.bits a:Nat):Int) -64)=(n:Int):=by rw [hsub];exact IntWalk.i64_in _ (by omega)
 have HI:=Lib.hid (And.intro hnn (And.intro hsub hwr))
 have HN:=Lib.hid (And.intro na nb)
 clear ha hb hba h64 hla hlb t1 t2 t3 hbl hbm hn hnn hsub hwr na nb hb0
 go_enter Tryz.func78,Tryz.ntmps78
 go_upto_region 1 with fail
 have S1:=LsS.start w A2 l2 c2 A3 l3 c3
 generalize (((w.alloc (Obj.cells #[Value.slice A2 l2 c2] 24)).alloc (Obj.cells #[Value.slice A3 l3 c3] 24)).alloc (Obj.cells #[Value.slice none 0 0] 24)).alloc (Obj.cells #[Value.slice none 0 0] 24)=w1 at*
 have HS:=Lib.hid S1
 obtain ⟨k2,k3,k4,f4,k5,f5,o4,o5,g1⟩:=S1
 clear g1 o4 o5
 go_wp2_with fail
 refine (bits_n (HN.out.1.grow HS.out.g) (by omega)).mono ?_
 rintro e w2 ⟨v2,rfl,rfl,g2⟩
 have HS:=Lib.hid (HS.out.grow g2)
 clear k2 k3 k4 f4 k5 f5 g2
 obtain ⟨k2,k3,k4,f4,k5,f5,o4,o5,g2⟩:=HS.out
 clear g2 o4 o5
 go_upto_region 2 with fail
 have hw64:wrap64 (n:Int)=(n:Int):=IntWalk.wrap64_in _ ⟨by omega,by have:=HI.out.1;omega⟩
 rw [HI.out.2.1,hw64]
 clear hw64
 go_cut [7] (fun v7 W=>LsC w2 (a/2^n) (b/2^n) v7 W)
 case first=>
  refine Rg.region_eq (ops':=lessOps2) (by kernel_rfl) (less_region2 (a:=a) (b:=b) (n:=n) (x0:=a/2^n) (y0:=b/2^n) rfl rfl rfl rfl k2 k3 (HN.out.1.grow HS.out.g).1 (HN.out.2.grow HS.out.g).1 HB.out.1 HB.out.2.1 HI.out.1 rfl rfl HB.out.2.2.2.1 HB.out.2.2.2.2.1 ?_)
  intro f w3 k x y a1 b1 a2 b2 g3 e7 hk S hF q1 q2 q3 q4
  have H:=Lib.hid (And.intro hk (And.intro S (And.intro hF (And.intro q1 (And.intro q2 (And.intro q3 (And.intro q4 g3)))))))
  clear hk S hF q1 q2 q3 q4 g3
  simp only [Rg.puts,Act.put,List.setIfInBounds_toArray,List.set_cons_succ,List.set_cons_zero]
  rw [e7]
  go_wp2_with fail
  go_meet
  exact ⟨k,x,y,a1,b1,a2,b2,rfl,H.out⟩
 case rest=>
  obtain ⟨w3,rfl⟩: ∃x,x=wc:=⟨wc,rfl⟩
  obtain ⟨k,x,y,a1,b1,a2,b2,rfl,hk,S,hF,q1,q2,q3,q4,g3⟩:=hcut
  have HF:=Lib.hid (And.intro hF (And.intro q1 (And.intro q2 (And.intro q3 q4))))
  have hk5:w.heap.size+1+1+1<k:=Nat.lt_of_lt_of_le (lt_of_cell k5) hk
  have HST:=Lib.hid S
  have HS:=Lib.hid (HS.out.grow g3)
  clear k2 k3 k4 f4 k5 f5 hF q1 q2 q3 q4 g3 S hk
  go_upto_region 3 with fail
  go_cut [25] (fun v25 W=>LsD w3 (decide (a1=1∧b1=0∧a2=0∧b2=1)) v25 W)
  case first=>
   refine Rg.region_eq (ops':=lessOps3) (by kernel_rfl) (less_region3 (k:=k) (a1:=a1) (b1:=b1) (a2:=a2) (b2:=b2) rfl rfl HST.out rfl ?_)
   intro f w4 g4 e25
   have H:=Lib.hid g4
   clear g4
   simp only [Rg.puts,Act.put,List.setIfInBounds_toArray,List.set_cons_succ,List.set_cons_zero]
   rw [e25]
   go_wp2_with fail
   go_meet
   exact ⟨rfl,H.out⟩
  case rest=>
   obtain ⟨w4,rfl⟩: ∃x,x=wc:=⟨wc,rfl⟩
   obtain ⟨rfl,g4⟩:=hcut
   have HST:=Lib.hid (HST.out.grow g4)
   have HS:=Lib.hid (HS.out.grow g4)
   clear g4
   by_cases h0:a2=0
   ·have hd:decide (a1=1∧b1=0∧a2=0∧b2=1)=true:=by
     rcases HF.out.1.sure with h|h
     ·exact decide_eq_true h
     ·omega
    rw [hd]
    clear hd h0
    obtain ⟨k2,k3,k4,f4,k5,f5,o4,o5,g4⟩:=HS.out
    clear g4 o4 o5
    go_wp2_with fail
    refine (div_n (HN.out.1.grow HS.out.g) (HN.out.2.grow HS.out.g) (by omega) HB.out.2.2.2.2.2).mono ?_
    rintro e w5 ⟨v5,rfl,⟨u5,t5,rfl,hu,ht⟩,g5⟩
    obtain ⟨Au,lu,cu,rfl⟩:=hu.cell
    obtain ⟨At,lt,ct,rfl⟩:=ht.cell
    have gg:Grow w5 ((w5.alloc (Obj.cells #[Value.slice Au lu cu] 24)).alloc (Obj.cells #[Value.slice At lt ct] 24)):=((Grow.refl _).alloc _).alloc _
    obtain ⟨vu,vt⟩:=VarN.new2 hu ht (Grow.refl _)
    have hlt5:w.heap.size+1+1+1<w5.heap.size:=Nat.lt_of_lt_of_le (lt_of_cell k5) g5.size
    clear k2 k3 k4 f4 k5 f5
    have HS5:=Lib.hid (HS.out.grow (g5.trans gg))
    have HT:=Lib.hid (ht.grow gg)
    have k9:((w5.alloc (Obj.cells #[Value.slice Au lu cu] 24)).alloc (Obj.cells #[Value.slice At lt ct] 24)).cell? ⟨w5.heap.size+1,0,none⟩=some (.slice At lt ct):=(Grow.new2 (Grow.refl _)).2
    have HK9:=Lib.hid k9
    clear hu ht vu vt g5 gg k9
    go_upto_region 5 with fail
    obtain ⟨k2,k3,k4,f4,k5,f5,o4,o5,g6⟩:=HS5.out
    have hR: ∀c,[w.heap.size+1+1,w.heap.size+1+1+1].contains c=true→NoInt ((w5.alloc (Obj.cells #[Value.slice Au lu cu] 24)).alloc (Obj.cells #[Value.slice At lt ct] 24)) c:=by
     intro c hc
     have:c=w.heap.size+1+1∨c=w.heap.size+1+1+1:=by simpa using hc
     rcases this with rfl|rfl
     ·exact o4
     ·exact o5
    refine Rg.region_eq (ops':=lessOps5) (by kernel_rfl) (less_region5 (w:=w) (K:=1073741824) (p:=b) (q:=a%b) rfl rfl rfl rfl rfl ⟨by omega,by omega,by omega,by omega,by omega⟩ g6 k3 (fun W hW=>(HN.out.2.grow g6).gb hW hR) HK9.out (fun W hW=>HT.out.gb hW hR) ⟨by omega,by omega⟩ k4 f4 k5 f5 ?_)
    intro f w7 g7 v4 v5
    obtain ⟨A4,l4,c4,i4,n4⟩:=v4
    obtain ⟨A5,l5,c5,i5,n5⟩:=v5
    have HE:=Lib.hid (And.intro g7 (And.intro n4 n5))
    clear k2 k3 k4 f4 k5 f5 o4 o5 g6 hR g7 n4 n5 HS5 HT HK9
    simp only [Rg.puts,Act.put,List.setIfInBounds_toArray,List.set_cons_succ,List.set_cons_zero]
    go_wp2_with fail
    refine bodyPost_ret (v:= .tuple #[.agg #[.slice A4 l4 c4], .agg #[.slice A5 l5 c5]]) (by simp [results,Tryz.results78,go_sem,i4,i5]) rfl (Ret.mk ?_ HE.out.1)
    exact ⟨_,_,b,a%b,rfl,HE.out.2.1.1,HE.out.2.2.1,Nat.le_of_lt (Nat.mod_lt a (Nat.pos_of_ne_zero HB.out.2.2.2.2.2)),HB.out.2.2.1,Nat.mod_lt a (Nat.pos_of_ne_zero HB.out.2.2.2.2.2),by rw [Nat.gcd_comm a b,Nat.gcd_rec b a,Nat.gcd_comm]⟩
   ·have hd:decide (a1=1∧b1=0∧a2=0∧b2=1)=false:=decide_eq_false (fun h=>h0 h.2.2.1)
    rw [hd]
    obtain ⟨m1,m2,m3,m4⟩:=HF.out.1.less (a:=a) (b:=b) (T:=2^n) (ea:=a%2^n) (eb:=b%2^n) h0 (by rw [Nat.mul_comm];exact (Nat.div_add_mod a _).symm) (Nat.mod_lt _ (Mx.pow2_pos n)) (by rw [Nat.mul_comm];exact (Nat.div_add_mod b _).symm) (Nat.mod_lt _ (Mx.pow2_pos n))
    have HM:=Lib.hid (And.intro m1 (And.intro m2 (And.intro m3 m4)))
    clear hd h0 m1 m2 m3 m4
    go_upto_region 6 with fail
    obtain ⟨k2,k3,k4,f4,k5,f5,o4,o5,g6⟩:=HS.out
    refine Rg.region_eq (ops':=lessOps6) (by kernel_rfl) (less_region6 (w:=w) (a:=a) (b:=b) (K:=1073741824) (k:=k) rfl rfl rfl rfl rfl rfl ⟨by omega,by omega,by omega,by omega,by omega,by omega,by omega⟩ ⟨by omega,by omega⟩ g6 k2 HN.out.1 k3 HN.out.2 k4 f4 k5 f5 HST.out HF.out.2.1 HF.out.2.2.1 HF.out.2.2.2.1 HF.out.2.2.2.2 (by omega) rfl rfl ?_)
    intro f w7 g7 v4 v5
    obtain ⟨A4,l4,c4,i4,n4⟩:=v4
    obtain ⟨A5,l5,c5,i5,n5⟩:=v5
    have HE:=Lib.hid (And.intro g7 (And.intro n4 n5))
    clear k2 k3 k4 f4 k5 f5 o4 o5 g6 g7 n4 n5
    simp only [Rg.puts,Act.put,List.setIfInBounds_toArray,List.set_cons_succ,List.set_cons_zero]
    go_wp2_with fail
    refine bodyPost_ret (v:= .tuple #[.agg #[.slice A4 l4 c4], .agg #[.slice A5 l5 c5]]) (by simp [results,Tryz.results78,go_sem,i4,i5]) rfl (Ret.mk ?_ HE.out.1)
    exact ⟨_,_,Mx.far (a1*a) (b1*b),Mx.far (a2*a) (b2*b),rfl,HE.out.2.1.1,HE.out.2.2.1,HM.out.1,HM.out.2.1,HM.out.2.2.1,HM.out.2.2.2⟩
theorem gcd_n {w:World} {va vb:Value} {n m k:Nat} (ha:IsN w va n k) (hb:IsN w vb m k) (hk:k≤1073741824):
  Calls Tryz.prog 49 #[va,vb] w (Ret w fun v w'=>IsN w' v (Nat.gcd n m) k):=by
 have hmax:Mx.len (max n m)≤k:=by
  rcases Nat.le_total n m with h|h
  ·rw [Nat.max_eq_right h];exact hb.2
  ·rw [Nat.max_eq_left h];exact ha.2
 refine (gcd_of w va vb n m (Nat.le_trans ha.2 hk) (Nat.le_trans hb.2 hk) ha.1 hb.1 ?_).mono fun _ _ r=>r.mono fun v w' h=>⟨h, ?_⟩
 ·intro W va vb a b hva hvb hba ham h64
  exact lessen_any W va vb a b (Nat.le_trans (Nat.le_trans (Mx.len_mono ham) hmax) hk) hva hvb hba h64
 ·rcases Nat.eq_zero_or_pos n with h0|h0
  ·subst h0;rw [Nat.gcd_zero_left];exact hb.2
  ·exact Nat.le_trans (Mx.len_mono (Nat.gcd_le_left m h0)) ha.2
end Go.Proofs.YthebilnlljkfeaaGreatDoor
