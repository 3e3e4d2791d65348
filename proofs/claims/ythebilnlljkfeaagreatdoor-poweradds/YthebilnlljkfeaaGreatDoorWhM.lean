/- Whole numbers in memory, of the program's and of the reference's, and their plain mathematics. (Made by tools/mkwhm.py out of layer 4's texts.) -/
import Derived.Test.YthebilnlljkfeaaGreatDoorBQuo
import Derived.Test.YthebilnlljkfeaaGreatDoorBDig
import Derived.Test.YthebilnlljkfeaaGreatDoorBRef
import Derived.Deep.RegionHeld3
namespace Go.Proofs.YthebilnlljkfeaaGreatDoor
open Go.RowKit
set_option maxRecDepth 20000
def IsW (w:World) (v:Value) (z:Int) (k:Nat):Prop:= ∃A l c,v= .agg #[.slice A l c, .bool (decide (z<0))]∧IsN w (.agg #[.slice A l c]) z.natAbs k
theorem IsW.grow {w w':World} {v:Value} {z:Int} {k:Nat} (h:IsW w v z k) (g:Grow w w'):IsW w' v z k:=by
 obtain ⟨A,l,c,e,hn⟩:=h
 exact ⟨A,l,c,e,hn.grow g⟩
theorem IsW.weak {w:World} {v:Value} {z:Int} {k j:Nat} (h:IsW w v z k) (hk:k≤j):IsW w v z j:=by
 obtain ⟨A,l,c,e,hn⟩:=h
 exact ⟨A,l,c,e,hn.weak hk⟩
theorem IsW.eq {w:World} {v:Value} {z y:Int} {k:Nat} (h:IsW w v z k) (e:z=y):IsW w v y k:=e▸h
theorem IsW.open {w:World} {v:Value} {z:Int} {k:Nat} (h:IsW w v z k): ∃A l c b,v= .agg #[.slice A l c, .bool b]∧IsN w (.agg #[.slice A l c]) z.natAbs k∧((b=true∧z<0)∨(b=false∧0≤z)):=by
 obtain ⟨A,l,c,e,hn⟩:=h
 by_cases hz:z<0
 ·rw [decide_eq_true hz] at e
  exact ⟨A,l,c,true,e,hn, .inl ⟨rfl,hz⟩⟩
 ·rw [decide_eq_false hz] at e
  exact ⟨A,l,c,false,e,hn, .inr ⟨rfl,by omega⟩⟩
def signed (n:Nat) (b:Bool):Int:=if b then -(n:Int) else n
theorem IsW.mk {w:World} {A:Option Addr} {l c n k:Nat} {b:Bool} (h:IsN w (.agg #[.slice A l c]) n k) (h0:b=true→n≠0):IsW w (.agg #[.slice A l c, .bool b]) (signed n b) k:=by
 cases b with
 |false=>exact ⟨A,l,c,by rw [decide_eq_false (by simp only [signed];simp)],by rw [show (signed n false).natAbs=n by simp [signed]];exact h⟩
 |true=>
  have:=h0 rfl
  exact ⟨A,l,c,by rw [decide_eq_true (by simp only [signed,if_true];omega)],by rw [show (signed n true).natAbs=n by simp [signed]];exact h⟩
theorem neg_signed {z:Int} {b:Bool} (h:(b=true∧z<0)∨(b=false∧0≤z)):signed z.natAbs (!b)= -z:=by
 rcases h with ⟨rfl,h⟩|⟨rfl,h⟩<;>simp [signed]<;>omega
theorem signed_abs {z:Int} {b:Bool} (h:(b=true∧z<0)∨(b=false∧0≤z)):signed z.natAbs b=z:=by
 rcases h with ⟨rfl,h⟩|⟨rfl,h⟩<;>simp [signed]<;>omega
theorem u64_wrap (n:Int):IntKind.u64.wrap n=n%18446744073709551616:=by
 have e:IntKind.u64.bits=64:=rfl
 have e2:IntKind.u64.signed=false:=rfl
 simp [IntKind.wrap,e,e2]
set_option maxHeartbeats 400000 in
theorem compareI_any (w:World) (n m:Int):
  Calls Tryz.prog 66 #[.int .i64 n, .int .i64 m] w fun e w'=>e= .returned (.int .i64 (n-m).sign)∧w=w':=by
 rcases Int.lt_trichotomy n m with h|h|h
 ·rw [Int.sign_eq_neg_one_of_neg (by omega)]
  go_enter Tryz.func66,Tryz.ntmps66
  go_wp2
  go_ret
  exact ⟨rfl,rfl⟩
 ·subst h
  rw [Int.sub_self,Int.sign_zero]
  go_enter Tryz.func66,Tryz.ntmps66
  go_wp2
  go_ret
  exact ⟨rfl,rfl⟩
 ·rw [Int.sign_eq_one_of_pos (by omega)]
  have h': ¬n<m:=by omega
  go_enter Tryz.func66,Tryz.ntmps66
  go_wp2
  go_ret
  exact ⟨rfl,rfl⟩
theorem sign_lt {x:Int} (h:x<0):x.sign= -1:=Int.sign_eq_neg_one_of_neg h
theorem sign_gt {x:Int} (h:0<x):x.sign=1:=Int.sign_eq_one_of_pos h
theorem cmp_cases {x y:Int} {b d:Bool} (hb:(b=true∧x<0)∨(b=false∧0≤x)) (hd:(d=true∧y<0)∨(d=false∧0≤y)):
  (((x.sign-y.sign).sign !=0)=true∧(x-y).sign=(x.sign-y.sign).sign)∨
  (((x.sign-y.sign).sign !=0)=false∧((b=true∧Mx.cmp y.natAbs x.natAbs=(x-y).sign)∨(b=false∧Mx.cmp x.natAbs y.natAbs=(x-y).sign))):=by
 have hcmp: ∀(n m:Nat),Mx.cmp n m=((n:Int) -m).sign:=fun n m=>by
  rcases Nat.lt_trichotomy n m with h|h|h
  ·rw [Mx.cmp_lt h,sign_lt (by omega)]
  ·subst h;rw [Mx.cmp_self,Int.sub_self];rfl
  ·rw [Mx.cmp_gt h,sign_gt (by omega)]
 rcases Int.lt_trichotomy x 0 with hx|hx|hx<;>rcases Int.lt_trichotomy y 0 with hy|hy|hy
 ·right
  rw [sign_lt hx,sign_lt hy]
  refine ⟨rfl, .inl ⟨by rcases hb with h|h;exact h.1;omega, ?_⟩⟩
  rw [hcmp];congr 1;omega
 ·left;subst hy;rw [sign_lt hx];exact ⟨rfl,by rw [sign_lt (by omega)];rfl⟩
 ·left;rw [sign_lt hx,sign_gt hy];exact ⟨rfl,by rw [sign_lt (by omega)];rfl⟩
 ·left;subst hx;rw [sign_lt hy];exact ⟨rfl,by rw [sign_gt (by omega)];rfl⟩
 ·right
  subst hx hy
  exact ⟨rfl, .inr ⟨by rcases hb with h|h;omega;exact h.1,rfl⟩⟩
 ·left;subst hx;rw [sign_gt hy];exact ⟨rfl,by rw [sign_lt (by omega)];rfl⟩
 ·left;rw [sign_gt hx,sign_lt hy];exact ⟨rfl,by rw [sign_gt (by omega)];rfl⟩
 ·left;subst hy;rw [sign_gt hx];exact ⟨rfl,by rw [sign_gt (by omega)];rfl⟩
 ·right
  rw [sign_gt hx,sign_gt hy]
  refine ⟨rfl, .inr ⟨by rcases hb with h|h;omega;exact h.1, ?_⟩⟩
  rw [hcmp];congr 1;omega
theorem sub_lt_n {w:World} {va vb:Value} {n m k j:Nat} (ha:IsN w va n k) (hb:IsN w vb m j) (hk:k≤4294967296) (hlt:n<m):
  Calls Tryz.prog 84 #[va,vb] w (Ret w fun v' w'=> ∃u,v'= .tuple #[u, .bool false]∧IsN w' u 0 0):=
 (sub_less w va vb n m (Nat.le_trans ha.2 hk) ha.1 hb.1 hlt).mono fun _ _ r=>r.mono fun _ _ ⟨u,e,q⟩=>⟨u,e,q,Nat.le_refl _⟩
theorem add_same {x y:Int} {b d:Bool} (hb:(b=true∧x<0)∨(b=false∧0≤x)) (hd:(d=true∧y<0)∨(d=false∧0≤y)) (e:b=d):signed (x.natAbs+y.natAbs) b=x+y:=by
 subst e
 rcases hb with ⟨rfl,h1⟩|⟨rfl,h1⟩<;>rcases hd with ⟨h0,h2⟩|⟨h0,h2⟩<;>first|(exact absurd h0 (by decide))|(simp only [signed,if_true,if_false,Bool.false_eq_true];omega)
theorem add_big {x y:Int} {b d:Bool} (hb:(b=true∧x<0)∨(b=false∧0≤x)) (hd:(d=true∧y<0)∨(d=false∧0≤y)) (e:b≠d) (h:y.natAbs≤x.natAbs):signed (x.natAbs-y.natAbs) b=x+y:=by
 rcases hb with ⟨rfl,h1⟩|⟨rfl,h1⟩<;>rcases hd with ⟨rfl,h2⟩|⟨rfl,h2⟩<;>first|exact absurd rfl e|(simp [signed];omega)
theorem add_small {x y:Int} {b d:Bool} (hb:(b=true∧x<0)∨(b=false∧0≤x)) (hd:(d=true∧y<0)∨(d=false∧0≤y)) (e:b≠d) (h:x.natAbs<y.natAbs):signed (y.natAbs-x.natAbs) d=x+y:=by
 rcases hb with ⟨rfl,h1⟩|⟨rfl,h1⟩<;>rcases hd with ⟨rfl,h2⟩|⟨rfl,h2⟩<;>first|exact absurd rfl e|(simp [signed];omega)
theorem mul_signed {x y:Int} {b d:Bool} (hb:(b=true∧x<0)∨(b=false∧0≤x)) (hd:(d=true∧y<0)∨(d=false∧0≤y)):signed (x.natAbs*y.natAbs) (!(b==d))=x*y:=by
 have e1: ∀n:Nat,signed n true= -(n:Int):=fun n=>rfl
 have e2: ∀n:Nat,signed n false=(n:Int):=fun n=>rfl
 rcases hb with ⟨rfl,h1⟩|⟨rfl,h1⟩<;>rcases hd with ⟨rfl,h2⟩|⟨rfl,h2⟩
 ·show signed _ false=_
  rw [e2,Int.natCast_mul,show (x.natAbs:Int)= -x by omega,show (y.natAbs:Int)= -y by omega,Int.neg_mul_neg]
 ·show signed _ true=_
  rw [e1,Int.natCast_mul,show (x.natAbs:Int)= -x by omega,show (y.natAbs:Int)=y by omega,Int.neg_mul,Int.neg_neg]
 ·show signed _ true=_
  rw [e1,Int.natCast_mul,show (x.natAbs:Int)=x by omega,show (y.natAbs:Int)= -y by omega,Int.mul_neg,Int.neg_neg]
 ·show signed _ false=_
  rw [e2,Int.natCast_mul,show (x.natAbs:Int)=x by omega,show (y.natAbs:Int)=y by omega]
def ztext (z:Int):List UInt8:=if z<0 then 45::Tx.text z.natAbs else Tx.text z.natAbs
theorem digs_lenW {n k:Nat} (h:Mx.len n≤k):Tx.digs n≤64*k+1:=by
 refine Tx.digs_le_of_lt (by omega) ?_
 have h1:=Mx.bits_lt n
 have h2:=Mx.bits_len n
 have h3:2^Mx.bits n≤2^(64*k):=Nat.pow_le_pow_right (by decide) (Nat.le_trans h2 (Nat.mul_le_mul_left _ h))
 have h4:2^(64*k)≤10^(64*k):=Nat.pow_le_pow_left (by decide) _
 have h5:10^(64*k)≤10^(64*k+1):=Nat.pow_le_pow_right (by decide) (by omega)
 omega
theorem sign_cases (x:Int):(x<0∧x.sign= -1)∨(x=0∧x.sign=0)∨(0<x∧x.sign=1):=by
 rcases Int.lt_trichotomy x 0 with h|h|h
 ·exact .inl ⟨h,sign_lt h⟩
 ·exact .inr (.inl ⟨h,by rw [h];rfl⟩)
 ·exact .inr (.inr ⟨h,sign_gt h⟩)
def zdiv (x y:Int):Int:=if 0<y then x/y else (-x)/(-y)
def zmod (x y:Int):Int:=if 0<y then x%y else -((-x)%(-y))
theorem zdm_unique {x y q r:Int} (h:q*y+r=x) (hb:(0≤r∧r<y)∨(y<r∧r≤0)):q=zdiv x y∧r=zmod x y:=by
 rcases hb with ⟨h1,h2⟩|⟨h1,h2⟩
 ·have hy:0<y:=by omega
  have:=(Int.ediv_emod_unique hy (a:=x) (r:=r) (q:=q)).2 ⟨by rw [Int.mul_comm];omega,h1,h2⟩
  unfold zdiv zmod
  rw [if_pos hy,if_pos hy]
  exact ⟨this.1.symm,this.2.symm⟩
 ·have hy: ¬0<y:=by omega
  have hy':0< -y:=by omega
  have:=(Int.ediv_emod_unique hy' (a:= -x) (r:= -r) (q:=q)).2 ⟨by rw [Int.neg_mul,Int.mul_comm];omega,by omega,by omega⟩
  unfold zdiv zmod
  rw [if_neg hy,if_neg hy]
  exact ⟨this.1.symm,by omega⟩
theorem zdm_spec (x:Int) {y:Int} (hy:y≠0):zdiv x y*y+zmod x y=x∧((0≤zmod x y∧zmod x y<y)∨(y<zmod x y∧zmod x y≤0)):=by
 unfold zdiv zmod
 by_cases h:0<y
 ·rw [if_pos h,if_pos h]
  exact ⟨by rw [Int.mul_comm];exact Int.mul_ediv_add_emod x y, .inl ⟨Int.emod_nonneg x hy,Int.emod_lt_of_pos x h⟩⟩
 ·rw [if_neg h,if_neg h]
  have h1:=Int.mul_ediv_add_emod (-x) (-y)
  have h2:=Int.emod_nonneg (-x) (show -y≠0 by omega)
  have h3:=Int.emod_lt_of_pos (-x) (show 0< -y by omega)
  rw [Int.neg_mul] at h1
  refine ⟨?_, .inr ⟨by omega,by omega⟩⟩
  rw [Int.mul_comm]
  omega
theorem floor_parts {x y:Int} {b d:Bool} (hb:(b=true∧x<0)∨(b=false∧0≤x)) (hd:(d=true∧y<0)∨(d=false∧0≤y)) (hy:y≠0):
  signed (x.natAbs/y.natAbs) (!(b==d))*y+signed (x.natAbs%y.natAbs) b=x∧(signed (x.natAbs%y.natAbs) b).natAbs<y.natAbs:=by
 have e1: ∀n:Nat,signed n true= -(n:Int):=fun n=>rfl
 have e2: ∀n:Nat,signed n false=(n:Int):=fun n=>rfl
 have hm:=Nat.div_add_mod x.natAbs y.natAbs
 have hl:=Nat.mod_lt x.natAbs (show 0<y.natAbs by omega)
 have hm':(y.natAbs:Int)*((x.natAbs/y.natAbs:Nat):Int)+((x.natAbs%y.natAbs:Nat):Int)=(x.natAbs:Int):=by
  rw [←Int.natCast_mul,←Int.natCast_add,hm]
 generalize x.natAbs%y.natAbs=r at*
 generalize x.natAbs/y.natAbs=q at*
 rcases hb with ⟨rfl,h1⟩|⟨rfl,h1⟩<;>rcases hd with ⟨rfl,h2⟩|⟨rfl,h2⟩
 ·rw [show (x.natAbs:Int)= -x by omega,show (y.natAbs:Int)= -y by omega,Int.neg_mul,Int.mul_comm y] at hm'
  show signed q false*y+signed r true=x∧_
  rw [e1,e2]
  exact ⟨by omega,by omega⟩
 ·rw [show (x.natAbs:Int)= -x by omega,show (y.natAbs:Int)=y by omega,Int.mul_comm y] at hm'
  show signed q true*y+signed r true=x∧_
  rw [e1,e1,Int.neg_mul]
  exact ⟨by omega,by omega⟩
 ·rw [show (x.natAbs:Int)=x by omega,show (y.natAbs:Int)= -y by omega,Int.neg_mul,Int.mul_comm y] at hm'
  show signed q true*y+signed r false=x∧_
  rw [e1,e2,Int.neg_mul]
  exact ⟨by omega,by omega⟩
 ·rw [show (x.natAbs:Int)=x by omega,show (y.natAbs:Int)=y by omega,Int.mul_comm y] at hm'
  show signed q false*y+signed r false=x∧_
  rw [e2,e2]
  exact ⟨by omega,by omega⟩
theorem floor_math {x y q r:Int} (h:q*y+r=x) (hr:r.natAbs<y.natAbs):
  (IntKind.i64.wrap (r.sign*y.sign)=r.sign*y.sign)∧
  ((decide (r.sign*y.sign<0)=true∧q-1=zdiv x y∧r+y=zmod x y)∨(decide (r.sign*y.sign<0)=false∧q=zdiv x y∧r=zmod x y)):=by
 have hw:IntKind.i64.wrap (r.sign*y.sign)=r.sign*y.sign:=by
  refine IntWalk.i64_in _ ?_
  rcases sign_cases r with ⟨_,e⟩|⟨_,e⟩|⟨_,e⟩<;>rcases sign_cases y with ⟨_,e'⟩|⟨_,e'⟩|⟨_,e'⟩<;>rw [e,e']<;>decide
 refine ⟨hw, ?_⟩
 have h1:(q-1)*y+(r+y)=x:=by rw [Int.sub_mul,Int.one_mul];omega
 rcases sign_cases r with ⟨hr',e⟩|⟨hr',e⟩|⟨hr',e⟩<;>rcases sign_cases y with ⟨hy',e'⟩|⟨hy',e'⟩|⟨hy',e'⟩<;>rw [e,e']
 all_goals first
  |(exact absurd hr (by omega))
  |(exact .inr ⟨by decide,zdm_unique h (by omega)⟩)
  |(exact .inl ⟨by decide,zdm_unique h1 (by omega)⟩)
def IsV (w:World) (v:Value) (z:Int) (k:Nat):Prop:= ∃A l c,v= .agg #[.slice A l c, .bool (decide (z<0))]∧IsD w (.slice A l c) z.natAbs k
theorem IsV.grow {w w':World} {v:Value} {z:Int} {k:Nat} (h:IsV w v z k) (g:Grow w w'):IsV w' v z k:=by
 obtain ⟨A,l,c,e,hn⟩:=h
 exact ⟨A,l,c,e,hn.grow g⟩
theorem IsV.weak {w:World} {v:Value} {z:Int} {k j:Nat} (h:IsV w v z k) (hk:k≤j):IsV w v z j:=by
 obtain ⟨A,l,c,e,hn⟩:=h
 exact ⟨A,l,c,e,hn.more hk⟩
theorem IsV.open {w:World} {v:Value} {z:Int} {k:Nat} (h:IsV w v z k): ∃A l c b,v= .agg #[.slice A l c, .bool b]∧IsD w (.slice A l c) z.natAbs k∧((b=true∧z<0)∨(b=false∧0≤z)):=by
 obtain ⟨A,l,c,e,hn⟩:=h
 by_cases hz:z<0
 ·rw [decide_eq_true hz] at e
  exact ⟨A,l,c,true,e,hn, .inl ⟨rfl,hz⟩⟩
 ·rw [decide_eq_false hz] at e
  exact ⟨A,l,c,false,e,hn, .inr ⟨rfl,by omega⟩⟩
theorem IsV.mk {w:World} {A:Option Addr} {l c n k:Nat} {b:Bool} (h:IsD w (.slice A l c) n k) (h0:b=true→n≠0):IsV w (.agg #[.slice A l c, .bool b]) (signed n b) k:=by
 cases b with
 |false=>exact ⟨A,l,c,by rw [decide_eq_false (by simp only [signed];simp)],by rw [show (signed n false).natAbs=n by simp [signed]];exact h⟩
 |true=>
  have:=h0 rfl
  exact ⟨A,l,c,by rw [decide_eq_true (by simp only [signed,if_true];omega)],by rw [show (signed n true).natAbs=n by simp [signed]];exact h⟩
theorem IsD.slice {w:World} {v:Value} {n k:Nat} (h:IsD w v n k): ∃A c,v= .slice A (Dx.len n) c:=by
 obtain ⟨A,c,e,_⟩:=h
 exact ⟨A,c,e⟩
theorem ref_floor {x y:Int} {b d:Bool} (hb:(b=true∧x<0)∨(b=false∧0≤x)) (hd:(d=true∧y<0)∨(d=false∧0≤y)) (hy:y≠0):
  ((b==d)=false∧x.natAbs%y.natAbs≠0∧signed (x.natAbs/y.natAbs) (!(b==d)) -1=zdiv x y)∨(((b==d)=true∨x.natAbs%y.natAbs=0)∧signed (x.natAbs/y.natAbs) (!(b==d))=zdiv x y):=by
 have hp:=floor_parts hb hd hy
 have e1: ∀n:Nat,signed n true= -(n:Int):=fun n=>rfl
 have e2: ∀n:Nat,signed n false=(n:Int):=fun n=>rfl
 obtain ⟨h1,h2⟩:=hp
 generalize signed (x.natAbs/y.natAbs) (!(b==d))=q at*
 generalize x.natAbs%y.natAbs=r at*
 by_cases hbd:b=d
 ·right
  refine ⟨.inl (by rw [hbd];exact beq_self_eq_true _),(zdm_unique h1 ?_).1⟩
  subst hbd
  rcases hb with ⟨rfl,hx⟩|⟨rfl,hx⟩
  ·rw [e1] at h1 h2⊢
   have:y<0:=by rcases hd with ⟨_,h⟩|⟨h,_⟩;exact h;cases h
   right;omega
  ·rw [e2] at h1 h2⊢
   have:0≤y:=by rcases hd with ⟨h,_⟩|⟨_,h⟩;cases h;exact h
   left;omega
 ·by_cases hr:r=0
  ·right
   refine ⟨.inr hr,(zdm_unique h1 ?_).1⟩
   subst hr
   have:signed 0 b=0:=by cases b<;>rfl
   rw [this]
   omega
  ·left
   refine ⟨by simpa using hbd,hr, ?_⟩
   have h3:(q-1)*y+(signed r b+y)=x:=by rw [Int.sub_mul,Int.one_mul];omega
   refine (zdm_unique h3 ?_).1
   rcases hb with ⟨rfl,hx⟩|⟨rfl,hx⟩
   ·rw [e1] at h1 h2⊢
    have:0≤y:=by rcases hd with ⟨h,_⟩|⟨_,h⟩;exact absurd h.symm hbd;exact h
    left;omega
   ·rw [e2] at h1 h2⊢
    have:y<0:=by rcases hd with ⟨_,h⟩|⟨h,_⟩;exact h;exact absurd h.symm hbd
    right;omega
end Go.Proofs.YthebilnlljkfeaaGreatDoor
