/- One text out of: Rd, RdB, RdH, RdN, Dd, De, Df. -/
import Derived.Test.YthebilnlljkfeaaGreatDoorBK
namespace Go.Proofs.YthebilnlljkfeaaGreatDoor
open Go.RowKit
def raisesB (m:Int) (low rest den:Nat):Bool:=
 if m=0 then false else if m=1 then true else if rest+rest=den then decide (m=2)||(decide (m=4)&&decide (low%2≠0)) else decide (den<rest+rest)
def upB (m:Int) (n d:Nat):Bool:=decide (n%d≠0)&&raisesB m (n/d) (n%d) d
def rndN (m:Int) (n d:Nat):Nat:=if upB m n d=true then n/d+1 else n/d
def rndQ (m:Int) (q:Rat):Int:=signed (rndN m q.num.natAbs q.den) (decide (q.num<0))
def tenZ (s:Int):Int:=signed (tenN s) false
theorem rnd_of {m:Int} {q:Rat} {l:Nat} (h:l=rndN m q.num.natAbs q.den):signed l (decide (Int.sign q.num<0))=rndQ m q:=by
 have e:decide (q.num<0)=decide (Int.sign q.num<0):=decide_eq_decide.2 (by rw [Int.sign_neg_iff])
 rw [h,rndQ,e]
theorem rndN_no {m:Int} {n d:Nat} (h:upB m n d=false):n/d=rndN m n d:=by
 rw [rndN,if_neg (by rw [h];decide)]
theorem rndN_up {m:Int} {n d:Nat} (h:upB m n d=true):n/d+1=rndN m n d:=by
 rw [rndN,if_pos h]
theorem upB_0 {m:Int} {n d:Nat} (h:n%d=0):upB m n d=false:=by simp [upB,h]
theorem upB_1 {m:Int} {n d:Nat} (h:n%d≠0):upB m n d=raisesB m (n/d) (n%d) d:=by simp [upB,h]
theorem raises_0 {m:Int} {a b c:Nat} (h:m=0):raisesB m a b c=false:=by simp [raisesB,h]
theorem raises_1 {m:Int} {a b c:Nat} (h:m=1):raisesB m a b c=true:=by simp [raisesB,h]
theorem raises_ne {m:Int} {a b c:Nat} (h0:m≠0) (h1:m≠1) (h:b+b≠c):raisesB m a b c=decide (c<b+b):=by simp [raisesB,h0,h1,h]
theorem raises_2 {m:Int} {a b c:Nat} (hm:m=2) (h:b+b=c):raisesB m a b c=true:=by simp [raisesB,hm,h]
theorem raises_4 {m:Int} {a b c:Nat} (hm:m=4) (h:b+b=c):raisesB m a b c=decide (a%2≠0):=by simp [raisesB,hm,h]
theorem raises_3 {m:Int} {a b c:Nat} (h0:m≠0) (h1:m≠1) (h2:m≠2) (h4:m≠4) (h:b+b=c):raisesB m a b c=false:=by simp [raisesB,h0,h1,h2,h4,h]
theorem bang (n:Nat):(!(n==0))=decide (n≠0):=by by_cases h:n=0<;>simp [h]
theorem cmp_pos (a b:Nat):decide ((0:Int)<Mx.cmp a b)=decide (b<a):=by
 rcases Nat.lt_trichotomy a b with h|h|h
 ·rw [Mx.cmp_lt h,decide_eq_false (by omega),decide_eq_false (by omega)]
 ·rw [Mx.cmp_eq h,decide_eq_false (by omega),decide_eq_false (by omega)]
 ·rw [Mx.cmp_gt h,decide_eq_true (by omega),decide_eq_true h]
theorem cmp_nz {a b:Nat}:(!decide ((Mx.cmp a b:Int)=0))= !decide (a=b):=by
 rcases Nat.lt_trichotomy a b with h|h|h
 ·rw [Mx.cmp_lt h,decide_eq_false (by omega),decide_eq_false (by omega)]
 ·rw [Mx.cmp_eq h,decide_eq_true (by omega),decide_eq_true (by omega)]
 ·rw [Mx.cmp_gt h,decide_eq_false (by omega),decide_eq_false (by omega)]
namespace Z
theorem limbs_t {w:World} {v:Value} {n k:Nat} (h:IsN w v n k) (hk:k≤4294967296):Calls Tryz.prog 82 #[v] w (Ret w fun v' w'=>isS (Mx.limbs n) w' v'):=
 (limbs_any w v n (Nat.le_trans h.2 (by omega)) h.1).mono fun _ _ ⟨v',e,hf⟩=>⟨v',e,hf.sl (Mx.limbs_lt n),by obtain ⟨_,_,_,_,g⟩:=hf;exact g⟩
end Z
end Go.Proofs.YthebilnlljkfeaaGreatDoor
namespace Go.Proofs.YthebilnlljkfeaaGreatDoor
open Go.RowKit
def wk:Nat→List UInt8
 |0=> []
 |m+1=>wk m++ztext (rndQ ((m:Nat):Int) ((((-5):Int):Rat)/((2:Int):Rat)))
theorem rq {m:Nat} (h:m<5):rndQ ((m:Nat):Int) ((((-5):Int):Rat)/((2:Int):Rat))=if m=1∨m=2 then -3 else -2:=by
 rcases m with _|_|_|_|_|m
 ·decide+kernel
 ·decide+kernel
 ·decide+kernel
 ·decide+kernel
 ·decide+kernel
 ·omega
theorem zt2:ztext (-2)= [45,50]:=by
 have h1:Tx.text 2= [50]:=text_dig5 50 (by decide) (by decide)
 have e2:ztext (-2)=45::Tx.text 2:=rfl
 rw [e2,h1]
theorem zt3:ztext (-3)= [45,51]:=by
 have h1:Tx.text 3= [51]:=text_dig5 51 (by decide) (by decide)
 have e2:ztext (-3)=45::Tx.text 3:=rfl
 rw [e2,h1]
theorem wk_all:wk 1= [45,50]∧wk 2= [45,50,45,51]∧wk 3= [45,50,45,51,45,51]∧wk 4= [45,50,45,51,45,51,45,50]∧wk 5= [45,50,45,51,45,51,45,50,45,50]:=by
 have e1:wk 1= [45,50]:=by rw [wk,rq (by omega),if_neg (by omega),zt2];rfl
 have e2:wk 2= [45,50,45,51]:=by rw [wk,rq (by omega),if_pos (by omega),zt3,e1];rfl
 have e3:wk 3= [45,50,45,51,45,51]:=by rw [wk,rq (by omega),if_pos (by omega),zt3,e2];rfl
 have e4:wk 4= [45,50,45,51,45,51,45,50]:=by rw [wk,rq (by omega),if_neg (by omega),zt2,e3];rfl
 have e5:wk 5= [45,50,45,51,45,51,45,50,45,50]:=by rw [wk,rq (by omega),if_neg (by omega),zt2,e4];rfl
 exact ⟨e1,e2,e3,e4,e5⟩
theorem wk5:(wk 5== [45,50,45,51,45,51,45,50,45,50])=true:=by rw [wk_all.2.2.2.2];rfl
theorem wk_len {m:Nat} (h:m<5):(wk m).length+(ztext (rndQ ((m:Nat):Int) ((((-5):Int):Rat)/((2:Int):Rat)))).length≤9223372036854775807:=by
 have e:(wk (m+1)).length=(wk m).length+(ztext (rndQ ((m:Nat):Int) ((((-5):Int):Rat)/((2:Int):Rat)))).length:=by rw [wk,List.length_append]
 rw [←e]
 obtain ⟨e1,e2,e3,e4,e5⟩:=wk_all
 rcases m with _|_|_|_|_|m
 ·rw [e1];decide
 ·rw [e2];decide
 ·rw [e3];decide
 ·rw [e4];decide
 ·rw [e5];decide
 ·omega
theorem wk_s:(ztext (rndQ 0 ((((-5):Int):Rat)/((2:Int):Rat)*((tenZ 2:Int):Rat)))== [45,50,53,48])=true:=by
 have e:rndQ 0 ((((-5):Int):Rat)/((2:Int):Rat)*((tenZ 2:Int):Rat))= -250:=by decide+kernel
 have h1:Tx.text (Tx.rd [50,53,48])= [50,53,48]:=Tx.text_rd ⟨by decide, .inr ⟨by simp,by decide⟩⟩
 have e2:ztext (-250)=45::Tx.text (Tx.rd [50,53,48]):=rfl
 rw [e,e2,h1]
 rfl
namespace Z
end Z
end Go.Proofs.YthebilnlljkfeaaGreatDoor
namespace Go.Proofs.YthebilnlljkfeaaGreatDoor
open Go.RowKit
theorem rndN_scale {m:Int} {g n d:Nat} (hg:0<g):rndN m (g*n) (g*d)=rndN m n d:=by
 have e1:g*n/(g*d)=n/d:=Nat.mul_div_mul_left _ _ hg
 have e2:g*n%(g*d)=g*(n%d):=Nat.mul_mod_mul_left _ _ _
 have h0:(g*(n%d)≠0)↔(n%d≠0):=by
  rw [Ne,Nat.mul_eq_zero]
  omega
 have h1:(g*(n%d)+g*(n%d)=g*d)↔(n%d+n%d=d):=by
  rw [←Nat.mul_add]
  exact Nat.mul_right_inj (by omega)
 have h2:(g*d<g*(n%d)+g*(n%d))↔(d<n%d+n%d):=by
  rw [←Nat.mul_add]
  exact Nat.mul_lt_mul_left hg
 have hu:upB m (g*n) (g*d)=upB m n d:=by
  unfold upB raisesB
  rw [e1,e2]
  simp only [h0,h1,h2]
 unfold rndN
 rw [hu,e1]
theorem rndQ_mk {m:Int} {z:Int} {d:Nat} (hd:d≠0):rndQ m (mkRat z d)=signed (rndN m z.natAbs d) (decide (z<0)):=by
 obtain ⟨h1,h2⟩:=rat_num_of hd (mkRat z d) rfl
 have hg:0<z.natAbs.gcd d:=Nat.gcd_pos_of_pos_right _ (by omega)
 obtain ⟨c,hc⟩:=Nat.gcd_dvd_left z.natAbs d
 obtain ⟨e,he⟩:=Nat.gcd_dvd_right z.natAbs d
 generalize z.natAbs.gcd d=g at*
 have e2:(mkRat z d).den=e:=by rw [h2,he,Nat.mul_div_cancel_left _ hg]
 have hz:z=(g:Int)*(if z<0 then -(c:Int) else (c:Int)):=by
  have:(z.natAbs:Int)=(g:Int)*(c:Int):=by rw [hc];simp
  split
  ·rw [Int.mul_neg,←this];omega
  ·rw [←this];omega
 have e1:(mkRat z d).num=if z<0 then -(c:Int) else (c:Int):=by
  rw [h1]
  conv=>lhs;lhs;rw [hz]
  rw [Int.mul_ediv_cancel_left _ (by omega)]
 have hs:decide ((mkRat z d).num<0)=decide (z<0):=by
  refine decide_eq_decide.2 ?_
  rw [e1]
  by_cases h:z<0
  ·have hc0:c≠0:=fun h0=>by rw [h0,Nat.mul_zero] at hc;omega
   rw [if_pos h]
   exact iff_of_true (by omega) h
  ·rw [if_neg h]
   exact iff_of_false (by omega) h
 have ha:(mkRat z d).num.natAbs=c:=by
  rw [e1]
  split<;>simp
 rw [rndQ,hs,ha,e2]
 rw [hc]
 conv=>rhs;rw [he,rndN_scale hg]
def upH (i m K:Nat):Bool:=decide (m=1)||(decide (m≠0)&&decide (i=2))||(decide (i=1)&&(decide (m=2)||(decide (m=4)&&decide (K%2≠0))))
def wN (i m K:Nat):Nat:=if upH i m K=true then K+1 else K
theorem wN_up {i m K:Nat} (h:upH i m K=true):wN i m K=K+1:=by rw [wN,if_pos h]
theorem wN_no {i m K:Nat} (h: ¬upH i m K=true):wN i m K=K:=by rw [wN,if_neg h]
theorem limb0_lt (K:Nat):(Mx.limbs K).getD 0 0<18446744073709551616:=by
 have h:=Mx.limbs_lt K
 cases hl:Mx.limbs K with
 |nil=>decide
 |cons x r=>
  rw [hl] at h
  have:=h x (.head _)
  rw [Mx.B_eq] at this
  exact this
theorem limbs_zero:(Mx.limbs 0).length=0:=by decide
theorem limbs_pos {K:Nat} (h:K≠0):0<(Mx.limbs K).length:=by
 rcases Nat.eq_zero_or_pos (Mx.limbs K).length with h0|h0
 ·exfalso
  have:=Mx.val_limbs K
  rw [List.length_eq_zero_iff.1 h0] at this
  exact h this.symm
 ·exact h0
theorem odd_limb {K:Nat} (h:K≠0):decide ((((Mx.limbs K).getD 0 0%2:Nat):Int)=1)=decide (K%2≠0):=by
 have hv:=Mx.val_limbs K
 have e:K%2=(Mx.limbs K).getD 0 0%2:=by
  cases hl:Mx.limbs K with
  |nil=>have:=limbs_pos h;rw [hl] at this;cases this
  |cons x r=>
   rw [hl] at hv
   have e:Mx.val (x::r)=x+Mx.B*Mx.val r:=rfl
   rw [e,Mx.B_eq] at hv
   show K%2=x%2
   omega
 rw [e]
 refine decide_eq_decide.2 ?_
 omega
end Go.Proofs.YthebilnlljkfeaaGreatDoor
namespace Go.Proofs.YthebilnlljkfeaaGreatDoor
open Go.RowKit
theorem rnd_bounds (m:Int) (n d:Nat) (hd:0<d):(n<rndN m n d*d+d∧rndN m n d*d<n+d)∧(2≤m→2*(rndN m n d*d)≤2*n+d∧2*n≤2*(rndN m n d*d)+d)∧(m=0→rndN m n d*d≤n)∧(m=1→n≤rndN m n d*d)∧(d=1→rndN m n d=n):=by
 have h1:=Nat.div_add_mod n d
 have h2:=Nat.mod_lt n hd
 have hc:=Nat.mul_comm d (n/d)
 unfold rndN
 cases hu:upB m n d with
 |true=>
  simp only [if_true]
  unfold upB at hu
  simp only [Bool.and_eq_true,decide_eq_true_eq] at hu
  obtain ⟨hr,hu⟩:=hu
  have e:(n/d+1)*d=n/d*d+d:=by rw [Nat.add_mul,Nat.one_mul]
  rw [e]
  refine ⟨⟨by omega,by omega⟩,fun hm=>⟨?_,by omega⟩,fun hm=> ?_,fun _=>by omega,fun hd1=> ?_⟩
  ·have:d≤n%d+n%d:=by
    unfold raisesB at hu
    rw [if_neg (by omega),if_neg (by omega)] at hu
    split at hu
    ·omega
    ·have:=of_decide_eq_true hu;omega
   omega
  ·rw [raises_0 hm] at hu;cases hu
  ·subst hd1;rw [Nat.mod_one] at hr;exact absurd rfl hr
 |false=>
  simp only [Bool.false_eq_true,if_false]
  refine ⟨⟨by omega,by omega⟩,fun hm=>⟨by omega, ?_⟩,fun _=>by omega,fun hm=> ?_,fun hd1=>by subst hd1;exact Nat.div_one n⟩
  ·by_cases hr:n%d=0
   ·omega
   ·rw [upB_1 hr] at hu
    unfold raisesB at hu
    rw [if_neg (by omega),if_neg (by omega)] at hu
    split at hu
    ·omega
    ·have:=of_decide_eq_false hu;omega
  ·by_cases hr:n%d=0
   ·omega
   ·rw [upB_1 hr,raises_1 hm] at hu;cases hu
theorem mul_lt_can {x y d:Rat} (hd:0<d) (h:x*d<y*d):x<y:=
 Rat.not_le.1 fun hle=>absurd (Rat.mul_le_mul_of_nonneg_right hle (Rat.le_of_lt hd)) (Rat.not_le.2 h)
theorem mul_le_can {x y d:Rat} (hd:0<d) (h:x*d≤y*d):x≤y:=
 Rat.not_lt.1 fun hlt=>absurd (Rat.mul_lt_mul_of_pos_right hlt hd) (Rat.not_lt.2 h)
def absQ (x:Rat):Rat:=if x.num<0 then -x else x
def dQ (m:Int) (q:Rat):Rat:=((rndQ m q:Int):Rat) -q
theorem absQ_of_nonneg {x:Rat} (h:0≤x):absQ x=x:=by
 rw [absQ,if_neg (by have:=Rat.num_nonneg.2 h;omega)]
theorem absQ_neg (x:Rat):absQ (-x)=absQ x:=by
 have e:(-x).num= -x.num:=rfl
 unfold absQ
 rw [e]
 by_cases h1:x.num<0
 ·rw [if_neg (by omega),if_pos h1]
 ·by_cases h2:x.num=0
  ·have:x=0:=Rat.num_eq_zero.1 h2
   rw [this];rfl
  ·rw [if_pos (by omega),if_neg h1,Rat.neg_neg]
theorem absQ_cases (x:Rat):(0≤x∧absQ x=x)∨(0≤ -x∧absQ x= -x):=by
 rcases Rat.le_total (a:=0) (b:=x) with h|h
 ·exact .inl ⟨h,absQ_of_nonneg h⟩
 ·have h':0≤ -x:=by grind
  exact .inr ⟨h',by rw [←absQ_neg,absQ_of_nonneg h']⟩
theorem absQ_lt {x:Rat} (h:x.num<0):absQ x= -x:=by rw [absQ,if_pos h]
theorem absQ_ge {x:Rat} (h: ¬x.num<0):absQ x=x:=by rw [absQ,if_neg h]
theorem signed_not (n:Nat) (b:Bool):signed n (!b)= -signed n b:=by cases b<;>simp [signed]
theorem rndN_zero (m:Int) (d:Nat):rndN m 0 d=0:=by
 rw [←rndN_no (upB_0 (Nat.zero_mod d)),Nat.zero_div]
theorem rndQ_neg (m:Int) (q:Rat):rndQ m (-q)= -rndQ m q:=by
 have e:(-q).num= -q.num:=rfl
 have e2:(-q).den=q.den:=rfl
 unfold rndQ
 rw [e,e2,Int.natAbs_neg]
 by_cases h0:q.num=0
 ·rw [h0]
  show signed (rndN m 0 q.den) _= -signed (rndN m 0 q.den) _
  rw [rndN_zero]
  rfl
 ·have:decide (-q.num<0)= !decide (q.num<0):=by
   by_cases h:q.num<0
   ·rw [decide_eq_true h,decide_eq_false (by omega)];rfl
   ·rw [decide_eq_false h,decide_eq_true (by omega)];rfl
  rw [this,signed_not]
theorem dQ_neg (m:Int) (q:Rat):dQ m (-q)= -dQ m q:=by
 unfold dQ
 rw [rndQ_neg,Rat.intCast_neg]
 grind
theorem near_pos (m:Int) {q:Rat} (hq:0≤q):(-1<dQ m q∧dQ m q<1)∧(2≤m→dQ m q+dQ m q≤1∧ -1≤dQ m q+dQ m q)∧(q.den=1→dQ m q=0)∧(m=0→(((rndQ m q).natAbs:Int):Rat)≤q)∧(m=1→q≤(((rndQ m q).natAbs:Int):Rat)):=by
 have hn:0≤q.num:=Rat.num_nonneg.2 hq
 obtain ⟨⟨a1,a2⟩,hb,hc,hd,he⟩:=rnd_bounds m q.num.natAbs q.den q.den_pos
 have hr:rndQ m q=(rndN m q.num.natAbs q.den:Int):=by
  rw [rndQ,decide_eq_false (by omega)]
  rfl
 have hN:(q.num.natAbs:Int)=q.num:=by omega
 generalize rndN m q.num.natAbs q.den=R at*
 have hD:(0:Rat)<(q.den:Rat):=by
  have:=q.den_pos
  exact_mod_cast this
 have hm:q*(q.den:Rat)=((q.num:Int):Rat):=by
  have e:q=((q.num:Int):Rat)/(((q.den:Nat):Int):Rat):=by rw [←Rat.divInt_eq_div,Rat.num_divInt_den]
  have e2:(((q.den:Nat):Int):Rat)=(q.den:Rat):=rfl
  rw [e2] at e
  conv=>lhs;lhs;rw [e]
  exact Rat.div_mul_cancel (Rat.ne_of_gt hD)
 have hm2:q*(q.den:Rat)=((q.num.natAbs:Nat):Rat):=by rw [hm,←hN];rfl
 have hR:((rndQ m q:Int):Rat)=(R:Rat):=by rw [hr];rfl
 have hA:(((rndQ m q).natAbs:Int):Rat)=(R:Rat):=by rw [hr];rfl
 have hdq:dQ m q*(q.den:Rat)=(R:Rat)*(q.den:Rat) -((q.num.natAbs:Nat):Rat):=by
  unfold dQ
  rw [hR,Rat.sub_eq_add_neg,Rat.add_mul,Rat.neg_mul,hm2,Rat.sub_eq_add_neg]
 have c1:((q.num.natAbs:Nat):Rat)<(R:Rat)*(q.den:Rat)+(q.den:Rat):=by exact_mod_cast a1
 have c2:(R:Rat)*(q.den:Rat)<((q.num.natAbs:Nat):Rat)+(q.den:Rat):=by exact_mod_cast a2
 refine ⟨⟨mul_lt_can hD ?_,mul_lt_can hD ?_⟩,fun h2=>⟨mul_le_can hD ?_,mul_le_can hD ?_⟩,fun h1=> ?_,fun h0=> ?_,fun h1=> ?_⟩
 ·rw [hdq];grind
 ·rw [hdq];grind
 ·have b1:2*((R:Rat)*(q.den:Rat))≤2*((q.num.natAbs:Nat):Rat)+(q.den:Rat):=by exact_mod_cast (hb h2).1
  rw [Rat.add_mul,hdq];grind
 ·have b2:2*((q.num.natAbs:Nat):Rat)≤2*((R:Rat)*(q.den:Rat))+(q.den:Rat):=by exact_mod_cast (hb h2).2
  rw [Rat.add_mul,hdq];grind
 ·have e:=he h1
  rw [h1] at hdq
  have e1:((1:Nat):Rat)=1:=rfl
  rw [e1,Rat.mul_one,Rat.mul_one,e] at hdq
  rw [hdq];grind
 ·rw [hA]
  refine mul_le_can hD ?_
  rw [hm2]
  exact_mod_cast hc h0
 ·rw [hA]
  refine mul_le_can hD ?_
  rw [hm2]
  exact_mod_cast hd h1
theorem near_all (m:Int) (q:Rat):absQ (dQ m q)<1∧(2≤m→absQ (dQ m q)+absQ (dQ m q)≤1)∧(q.den=1→absQ (dQ m q)=0)∧(m=0→(((rndQ m q).natAbs:Int):Rat)≤absQ q)∧(m=1→absQ q≤(((rndQ m q).natAbs:Int):Rat)):=by
 have key: ∀p:Rat,0≤p→absQ (dQ m p)<1∧(2≤m→absQ (dQ m p)+absQ (dQ m p)≤1)∧(p.den=1→absQ (dQ m p)=0)∧(m=0→(((rndQ m p).natAbs:Int):Rat)≤absQ p)∧(m=1→absQ p≤(((rndQ m p).natAbs:Int):Rat)):=by
  intro p hp
  obtain ⟨⟨h1,h2⟩,h3,h4,h5,h6⟩:=near_pos m hp
  rw [absQ_of_nonneg hp]
  refine ⟨?_,fun hm=> ?_,fun h=>by rw [h4 h];rfl,h5,h6⟩
  ·rcases absQ_cases (dQ m p) with ⟨_,e⟩|⟨_,e⟩<;>rw [e]<;>grind
  ·obtain ⟨h7,h8⟩:=h3 hm
   rcases absQ_cases (dQ m p) with ⟨_,e⟩|⟨_,e⟩<;>rw [e]<;>grind
 rcases Rat.le_total (a:=0) (b:=q) with h|h
 ·exact key q h
 ·have:=key (-q) (by grind)
  rw [dQ_neg,absQ_neg,absQ_neg,rndQ_neg,Int.natAbs_neg] at this
  exact this
theorem near1 (m:Int) (q:Rat):decide ((0:Int)≤cmpQ (absQ (dQ m q)) ((1:Int):Rat))=false:=by
 rw [cmpQ_lt.2 (show absQ (dQ m q)<((1:Int):Rat) from (near_all m q).1)];rfl
theorem near2 {m:Int} (q:Rat) (hm:2≤m):decide ((0:Int)<cmpQ (absQ (dQ m q)+absQ (dQ m q)) ((1:Int):Rat))=false:=by
 have h:absQ (dQ m q)+absQ (dQ m q)≤((1:Int):Rat):=(near_all m q).2.1 hm
 rcases cmpQ_cases (absQ (dQ m q)+absQ (dQ m q)) ((1:Int):Rat) with ⟨e,_⟩|⟨e,_⟩|⟨_,h'⟩
 ·rw [e];rfl
 ·rw [e];rfl
 ·exact absurd h (Rat.not_le.2 h')
theorem near3 (m:Int) {q:Rat} (hq:q.den=1):(!decide ((Int.sign (absQ (dQ m q)).num:Int)=0))=false:=by
 rw [(near_all m q).2.2.1 hq];rfl
theorem near4 (m:Int) (q:Rat):(!decide ((Int.sign (rndQ m (-q) - -rndQ m q):Int)=0))=false:=by
 rw [rndQ_neg,Int.sub_self];rfl
theorem near5 {m:Int} (q:Rat) (hm:m=0):decide ((0:Int)<cmpQ ((signed (rndQ m q).natAbs false:Int):Rat) (absQ q))=false:=by
 have h:((signed (rndQ m q).natAbs false:Int):Rat)≤absQ q:=(near_all m q).2.2.2.1 hm
 rcases cmpQ_cases ((signed (rndQ m q).natAbs false:Int):Rat) (absQ q) with ⟨e,_⟩|⟨e,_⟩|⟨_,h'⟩
 ·rw [e];rfl
 ·rw [e];rfl
 ·exact absurd h (Rat.not_le.2 h')
theorem near6 {m:Int} (q:Rat) (hm:m=1):decide (cmpQ ((signed (rndQ m q).natAbs false:Int):Rat) (absQ q)<(0:Int))=false:=by
 have h:absQ q≤((signed (rndQ m q).natAbs false:Int):Rat):=(near_all m q).2.2.2.2 hm
 rcases cmpQ_cases ((signed (rndQ m q).natAbs false:Int):Rat) (absQ q) with ⟨_,h'⟩|⟨e,_⟩|⟨e,_⟩
 ·exact absurd h (Rat.not_le.2 h')
 ·rw [e];rfl
 ·rw [e];rfl
end Go.Proofs.YthebilnlljkfeaaGreatDoor
namespace Go.Proofs.YthebilnlljkfeaaGreatDoor
open Tx
instance (l:List UInt8):Decidable (okText l):=inferInstanceAs (Decidable (_∧_))
def ptT (s:Nat) (t:List UInt8):List UInt8:=if 0<s then t.take (t.length-s)++ [46]++t.drop (t.length-s) else t
def negT (l:List UInt8):Bool:=l.head?==some 45
def bodyT (l:List UInt8):List UInt8:=if negT l then l.tail else l
def aheadT (t:List UInt8):List UInt8:=t.takeWhile (· !=46)
def restT (t:List UInt8):List UInt8:=t.dropWhile (· !=46)
def behindT (t:List UInt8):List UInt8:=(restT t).tail
def partB (t:List UInt8):Bool:= !(restT t).isEmpty
def allT (t:List UInt8):List UInt8:=aheadT t++behindT t
def okDec (l:List UInt8):Prop:=okText (aheadT (bodyT l))∧ ¬(partB (bodyT l)=true∧behindT (bodyT l)= [])∧(∀b∈behindT (bodyT l),isDig b)∧ ¬(negT l=true∧rd (allT (bodyT l))=0)
instance (l:List UInt8):Decidable (okDec l):=inferInstanceAs (Decidable (_∧_))
def pE (l:List UInt8):Int:=if 4096<l.length then 7 else if ¬okDec l then 5 else if 64<(behindT (bodyT l)).length then 10 else 0
def pZ (l:List UInt8):Int:=if pE l=0 then signed (rd (allT (bodyT l))) (negT l) else 0
def pS (l:List UInt8):Int:=if pE l=0 then ((behindT (bodyT l)).length:Int) else 0
theorem dgt_pad (k n:Nat):dgt (k+digs n) n=List.replicate k 48++text n:=by
 rw [dgt_add,Nat.div_eq_of_lt (lt_digs n),dgt_zero]
 rfl
theorem pt_app {a b:List UInt8} (hb:0<b.length):ptT b.length (a++b)=a++46::b:=by
 rw [ptT,if_pos hb]
 simp
theorem pt_zero (t:List UInt8):ptT 0 t=t:=by simp [ptT]
theorem no46 {l:List UInt8} (h: ∀b∈l,isDig b): ∀b∈l,(b !=46)=true:=fun b hb=>by
 have h1:=h b hb
 unfold isDig at h1
 simp only [bne_iff_ne,ne_eq]
 intro e
 subst e
 revert h1
 decide
theorem takeW {a r:List UInt8} (h: ∀b∈a,(b !=46)=true) (hr:r= []∨ ∃b,r=46::b):aheadT (a++r)=a∧restT (a++r)=r:=by
 unfold aheadT restT
 rw [List.takeWhile_append_of_pos h,List.dropWhile_append_of_pos h]
 rcases hr with rfl|⟨b,rfl⟩
 ·simp
 ·constructor
  ·rw [List.takeWhile_cons_of_neg (by decide),List.append_nil]
  ·rw [List.dropWhile_cons_of_neg (by decide)]
theorem split46 (t:List UInt8):t=aheadT t++restT t∧(restT t= []∨restT t=46::behindT t):=by
 refine ⟨(List.takeWhile_append_dropWhile).symm, ?_⟩
 unfold behindT
 cases h:restT t with
 |nil=>exact .inl rfl
 |cons x r=>
  refine .inr ?_
  have:=List.head?_dropWhile_not (p:=fun b:UInt8=>b !=46) (l:=t)
  rw [show List.dropWhile (fun b:UInt8=>b !=46) t=x::r from h] at this
  simp at this
  rw [this]
  rfl
theorem dig45 {b:UInt8} (h:isDig b):b≠45:=by
 intro e
 subst e
 revert h
 decide
theorem tail_46 (b:List UInt8):(46::b).tail=b:=rfl
theorem p_bad {l:List UInt8} (h:pE l≠0):pZ l=0∧pS l=0:=by
 unfold pZ pS
 rw [if_neg h,if_neg h]
 exact ⟨rfl,rfl⟩
theorem p_ok {l:List UInt8} (h:pE l=0):l.length≤4096∧okDec l∧(behindT (bodyT l)).length≤64:=by
 unfold pE at h
 split at h
 ·cases h
 ·split at h
  ·cases h
  ·split at h
   ·cases h
   ·next h1 h2 h3=>exact ⟨by omega,Decidable.not_not.1 h2,by omega⟩
theorem body_eq (l:List UInt8):l=if negT l=true then 45::bodyT l else bodyT l:=by
 unfold bodyT negT
 cases l with
 |nil=>rfl
 |cons x r=>
  by_cases h:x=45
  ·subst h;simp
  ·simp [h]
def bareT (t:List UInt8):List UInt8:=if t.dropWhile (· ==48)= [] then [48] else t.dropWhile (· ==48)
theorem bare_dig {t:List UInt8} (h: ∀b∈t,isDig b):okText (bareT t)∧rd (bareT t)=rd t:=by
 have hsp:t=t.takeWhile (· ==48)++t.dropWhile (· ==48):=(List.takeWhile_append_dropWhile).symm
 have hz:rd (t.takeWhile (· ==48))=0:=by
  have:t.takeWhile (· ==48)=List.replicate (t.takeWhile (· ==48)).length 48:=by
   apply List.eq_replicate_of_mem
   intro b hb
   have:=List.all_takeWhile (p:=fun b:UInt8=>b==48) (l:=t)
   have:=List.all_eq_true.1 this b hb
   simpa using this
  rw [this,←dgt_zero,rd_dgt,Nat.zero_mod]
 have hr:rd t=rd (t.dropWhile (· ==48)):=by
  conv=>lhs;rw [hsp,rd_append,hz,Nat.zero_mul,Nat.zero_add]
 unfold bareT
 split
 ·next e=>rw [hr,e];exact ⟨by decide,rfl⟩
 ·next e=>
  refine ⟨⟨fun b hb=>h b (List.dropWhile_sublist _|>.subset hb), .inr ⟨e, ?_⟩⟩,hr.symm⟩
  have:=List.head?_dropWhile_not (p:=fun b:UInt8=>b==48) (l:=t)
  cases hh:(t.dropWhile (· ==48)).head? with
  |none=>simp
  |some x=>
   rw [hh] at this
   simpa using this
theorem bare_bad {t:List UInt8} (h: ¬ ∀b∈t,isDig b): ¬okText (bareT t):=by
 rintro ⟨h1,_⟩
 apply h
 intro b hb
 rw [←List.takeWhile_append_dropWhile (p:=fun b:UInt8=>b==48) (l:=t)] at hb
 rcases List.mem_append.1 hb with hb|hb
 ·have:=List.all_eq_true.1 (List.all_takeWhile (p:=fun b:UInt8=>b==48) (l:=t)) b hb
  have:b=48:=by simpa using this
  subst this
  decide
 ·unfold bareT at h1
  split at h1
  ·next e=>rw [e] at hb;cases hb
  ·exact h1 b hb
theorem bare_len (t:List UInt8):(bareT t).length≤t.length+1:=by
 unfold bareT
 split
 ·simp
 ·have:=List.Sublist.length_le (List.dropWhile_sublist (fun b:UInt8=>b==48) (l:=t))
  omega
theorem parts_len (t:List UInt8):(aheadT t).length+(behindT t).length≤t.length:=by
 obtain ⟨e,h⟩:=split46 t
 have:=congrArg List.length e
 rw [List.length_append] at this
 rcases h with h|h
 ·have hb:behindT t= []:=by unfold behindT;rw [h];rfl
  rw [hb]
  simp
  omega
 ·rw [h] at this
  simp at this
  omega
theorem np_eq {u:List UInt8} (h:partB u=false):restT u= []∧aheadT u=u∧behindT u= []:=by
 have h1:restT u= []:=by
  unfold partB at h
  simpa using h
 have h2:=(split46 u).1
 rw [h1,List.append_nil] at h2
 exact ⟨h1,h2.symm,by unfold behindT;rw [h1];rfl⟩
theorem np_all {u:List UInt8} (h:partB u=false): ∀b∈u,(b !=46)=true:=fun b hb=>by
 have e:=(np_eq h).2.1
 rw [←e] at hb
 have:=List.all_eq_true.1 (List.all_takeWhile (p:=fun b:UInt8=>b !=46) (l:=u)) b hb
 exact this
theorem snoc_dot {u:List UInt8} (h:partB u=false):aheadT (u++ [46])=aheadT u∧behindT (u++ [46])= []∧partB (u++ [46])=true∧allT (u++ [46])=allT u:=by
 obtain ⟨h1,h2⟩:=takeW (a:=u) (r:= [46]) (np_all h) (.inr ⟨[],rfl⟩)
 have h3:behindT (u++ [46])= []:=by unfold behindT;rw [h2];rfl
 refine ⟨by rw [h1,(np_eq h).2.1],h3,by unfold partB;rw [h2];rfl, ?_⟩
 unfold allT
 rw [h1,h3,(np_eq h).2.1,(np_eq h).2.2]
theorem snoc_np {u:List UInt8} {c:UInt8} (h:partB u=false) (hc:c≠46):aheadT (u++ [c])=aheadT u++ [c]∧behindT (u++ [c])= []∧partB (u++ [c])=false∧allT (u++ [c])=allT u++ [c]:=by
 obtain ⟨h1,h2⟩:=takeW (a:=u++ [c]) (r:= []) (fun b hb=>by
  rcases List.mem_append.1 hb with hb|hb
  ·exact np_all h b hb
  ·rw [List.mem_singleton] at hb;subst hb;simpa using hc) (.inl rfl)
 rw [List.append_nil] at h1 h2
 have h3:behindT (u++ [c])= []:=by unfold behindT;rw [h2];rfl
 refine ⟨by rw [h1,(np_eq h).2.1],h3,by unfold partB;rw [h2];rfl, ?_⟩
 unfold allT
 rw [h1,h3,(np_eq h).2.1,(np_eq h).2.2,List.append_nil,List.append_nil]
theorem snoc_p {u:List UInt8} (c:UInt8) (h:partB u=true):aheadT (u++ [c])=aheadT u∧behindT (u++ [c])=behindT u++ [c]∧partB (u++ [c])=true∧allT (u++ [c])=allT u++ [c]:=by
 have hr:restT u=46::behindT u:=by
  rcases (split46 u).2 with e|e
  ·unfold partB at h;rw [e] at h;cases h
  ·exact e
 have e:u++ [c]=aheadT u++(46::(behindT u++ [c])):=by
  conv=>lhs;rw [(split46 u).1,hr]
  simp
 have ha: ∀b∈aheadT u,(b !=46)=true:=fun b hb=>List.all_eq_true.1 (List.all_takeWhile (p:=fun b:UInt8=>b !=46) (l:=u)) b hb
 obtain ⟨h1,h2⟩:=takeW (r:=46::(behindT u++ [c])) ha (.inr ⟨_,rfl⟩)
 rw [←e] at h1 h2
 have h3:behindT (u++ [c])=behindT u++ [c]:=by unfold behindT;rw [h2];rfl
 refine ⟨h1,h3,by unfold partB;rw [h2];rfl, ?_⟩
 unfold allT
 rw [h1,h3,List.append_assoc]
def goodT (u:List UInt8):Prop:=(∀b∈aheadT u,isDig b)∧ ∀b∈behindT u,isDig b
theorem good_all {u:List UInt8} (h:goodT u): ∀b∈allT u,isDig b:=fun b hb=>(List.mem_append.1 hb).elim (h.1 b) (h.2 b)
theorem good_dot {u:List UInt8} (h:goodT u) (hp:partB u=false):goodT (u++ [46]):=by
 obtain ⟨h1,h2,_⟩:=snoc_dot hp
 exact ⟨by rw [h1];exact h.1,by rw [h2];intro b hb;cases hb⟩
theorem good_dig {u:List UInt8} {c:UInt8} (h:goodT u) (hc:isDig c):goodT (u++ [c]):=by
 cases hp:partB u with
 |false=>
  obtain ⟨h1,h2,_⟩:=snoc_np hp (c:=c) (by intro e;subst e;revert hc;decide)
  refine ⟨by rw [h1];intro b hb;rcases List.mem_append.1 hb with hb|hb;exact h.1 b hb;rw [List.mem_singleton] at hb;subst hb;exact hc,by rw [h2];intro b hb;cases hb⟩
 |true=>
  obtain ⟨h1,h2,_⟩:=snoc_p c hp
  refine ⟨by rw [h1];exact h.1,by rw [h2];intro b hb;rcases List.mem_append.1 hb with hb|hb;exact h.2 b hb;rw [List.mem_singleton] at hb;subst hb;exact hc⟩
theorem part_sub {u r:List UInt8}:(∀b∈aheadT u,b∈aheadT (u++r))∧ ∀b∈behindT u,b∈behindT (u++r):=by
 induction r generalizing u with
 |nil=>rw [List.append_nil];exact ⟨fun _ h=>h,fun _ h=>h⟩
 |cons c r ih=>
  have e:u++c::r=(u++ [c])++r:=by simp
  rw [e]
  obtain ⟨i1,i2⟩:=ih (u:=u++ [c])
  cases hp:partB u with
  |false=>
   by_cases hc:c=46
   ·subst hc
    obtain ⟨h1,_⟩:=snoc_dot hp
    exact ⟨fun b hb=>i1 b (by rw [h1];exact hb),fun b hb=>by rw [(np_eq hp).2.2] at hb;cases hb⟩
   ·obtain ⟨h1,_⟩:=snoc_np hp hc
    exact ⟨fun b hb=>i1 b (by rw [h1];exact List.mem_append_left _ hb),fun b hb=>by rw [(np_eq hp).2.2] at hb;cases hb⟩
  |true=>
   obtain ⟨h1,h2,_⟩:=snoc_p c hp
   exact ⟨fun b hb=>i1 b (by rw [h1];exact hb),fun b hb=>i2 b (by rw [h2];exact List.mem_append_left _ hb)⟩
theorem take_split {t:List UInt8} {i:Nat} (hi:i<t.length):t.take (i+1)=t.take i++ [t.getD i 0]∧t=(t.take i++ [t.getD i 0])++t.drop (i+1):=by
 have e:t.take (i+1)=t.take i++ [t.getD i 0]:=by
  rw [List.take_add_one,List.getElem?_eq_getElem hi,List.getD_eq_getElem?_getD,List.getElem?_eq_getElem hi]
  rfl
 exact ⟨e,by rw [←e,List.take_append_drop]⟩
theorem bad_at {l:List UInt8} {i:Nat} (hl:l.length≤4096) (hi:i<(bodyT l).length) (hd: ¬isDig ((bodyT l).getD i 0)) (hp: ¬((bodyT l).getD i 0=46∧partB ((bodyT l).take i)=false)):pE l=5:=by
 unfold pE
 rw [if_neg (by omega),if_pos]
 rintro ⟨h1,_,h3,_⟩
 obtain ⟨e1,e2⟩:=take_split hi
 generalize (bodyT l).getD i 0=c at*
 have hs:=part_sub (u:=(bodyT l).take i++ [c]) (r:=(bodyT l).drop (i+1))
 rw [←e2] at hs
 cases hq:partB ((bodyT l).take i) with
 |false=>
  obtain ⟨g1,_⟩:=snoc_np hq (c:=c) (fun e=>hp ⟨e,hq⟩)
  exact hd (h1.1 c (hs.1 c (by rw [g1];simp)))
 |true=>
  obtain ⟨_,g2,_⟩:=snoc_p c hq
  exact hd (h3 c (hs.2 c (by rw [g2];simp)))
theorem rd_zero_iff {t:List UInt8} (h: ∀b∈t,isDig b):t.all (· ==48)=true↔rd t=0:=by
 constructor
 ·intro ha
  have:t=List.replicate t.length 48:=by
   apply List.eq_replicate_of_mem
   intro b hb
   simpa using List.all_eq_true.1 ha b hb
  rw [this,←dgt_zero,rd_dgt,Nat.zero_mod]
 ·intro hz
  have e:=dgt_rd t h
  rw [hz,dgt_zero] at e
  rw [←e]
  simp
theorem ok_iff {a b:List UInt8} (h: ∀x∈a,isDig x):okText a↔a≠ []∧ ¬(1<a.length∧(a++b).getD 0 0=48):=by
 cases a with
 |nil=>simp [okText]
 |cons x r=>
  unfold okText
  simp only [List.cons_append,List.getD_cons_zero,List.length_cons,List.head?_cons]
  constructor
  ·rintro ⟨_,h1|⟨_,h1⟩⟩
   ·injection h1 with h1 h2
    subst h2
    simp
   ·refine ⟨by simp,fun h2=>h1 (by rw [h2.2])⟩
  ·rintro ⟨_,h1⟩
   refine ⟨h, ?_⟩
   cases r with
   |nil=>
    by_cases hx:x=48
    ·exact .inl (by rw [hx])
    ·exact .inr ⟨by simp,by simpa using hx⟩
   |cons y r=>exact .inr ⟨by simp,fun e=>h1 ⟨by simp,by injection e⟩⟩
theorem ref_ok {l:List UInt8} (h:goodT (bodyT l)):okDec l↔aheadT (bodyT l)≠ []∧ ¬(partB (bodyT l)=true∧behindT (bodyT l)= [])∧ ¬(1<(aheadT (bodyT l)).length∧(allT (bodyT l)).getD 0 0=48)∧ ¬(negT l=true∧(allT (bodyT l)).all (· ==48)=true):=by
 unfold okDec
 rw [ok_iff (b:=behindT (bodyT l)) h.1,rd_zero_iff (good_all h)]
 unfold allT
 constructor
 ·rintro ⟨⟨h1,h2⟩,h3,_,h4⟩;exact ⟨h1,h3,h2,h4⟩
 ·rintro ⟨h1,h3,h2,h4⟩;exact ⟨⟨h1,h2⟩,h3,h.2,h4⟩
theorem body_len (l:List UInt8):(bodyT l).length≤l.length:=by
 unfold bodyT
 split
 ·simp
 ·omega
theorem pE_long {l:List UInt8} (h:4096<l.length):pE l=7:=by unfold pE;rw [if_pos h]
theorem pE_bad {l:List UInt8} (h: ¬4096<l.length) (h1: ¬okDec l):pE l=5:=by unfold pE;rw [if_neg h,if_pos h1]
theorem pE_scale {l:List UInt8} (h: ¬4096<l.length) (h1:okDec l) (h2:64<(behindT (bodyT l)).length):pE l=10:=by unfold pE;rw [if_neg h,if_neg (fun h=>h h1),if_pos h2]
theorem pE_ok {l:List UInt8} (h: ¬4096<l.length) (h1:okDec l) (h2: ¬64<(behindT (bodyT l)).length):pE l=0:=by unfold pE;rw [if_neg h,if_neg (fun h=>h h1),if_neg h2]
theorem pZ_ok {l:List UInt8} (h:pE l=0):pZ l=signed (rd (allT (bodyT l))) (negT l):=by unfold pZ;rw [if_pos h]
theorem pS_ok {l:List UInt8} (h:pE l=0):pS l=((behindT (bodyT l)).length:Int):=by unfold pS;rw [if_pos h]
theorem pE_7 (l:List UInt8):pE l=7↔4096<l.length:=by
 unfold pE
 split
 ·simp [*]
 ·split
  ·simp [*]
  ·split<;>simp [*]
theorem pE_half (m:Nat) (hm:m<4000):pE ([48,46]++List.replicate m 55)=if m=0 then 5 else if 64<m then 10 else 0:=by
 have hd: ∀b∈List.replicate m (55:UInt8),isDig b:=fun b hb=>by rw [(List.mem_replicate.1 hb).2];decide
 have hn:negT ([48,46]++List.replicate m 55)=false:=by simp [negT]
 have hb:bodyT ([48,46]++List.replicate m 55)= [48]++(46::List.replicate m 55):=by unfold bodyT;rw [hn];simp
 obtain ⟨h1,h2⟩:=takeW (a:= [48]) (r:=46::List.replicate m 55) (by decide) (.inr ⟨_,rfl⟩)
 have h3:behindT ([48]++(46::List.replicate m 55))=List.replicate m 55:=by unfold behindT;rw [h2];rfl
 have h4:partB ([48]++(46::List.replicate m 55))=true:=by unfold partB;rw [h2];rfl
 have hl: ¬4096<([48,46]++List.replicate m 55:List UInt8).length:=by simp;omega
 by_cases h0:m=0
 ·rw [if_pos h0]
  refine pE_bad hl fun h=>h.2.1 ?_
  rw [hb,h3,h4,h0]
  exact ⟨rfl,rfl⟩
 ·rw [if_neg h0]
  have ok:okDec ([48,46]++List.replicate m 55):=by
   unfold okDec
   rw [hb,h1,h3,h4,hn]
   refine ⟨by decide, ?_,hd,by simp⟩
   simp [h0]
  by_cases h6:64<m
  ·rw [if_pos h6]
   exact pE_scale hl ok (by rw [hb,h3];simpa using h6)
  ·rw [if_neg h6]
   exact pE_ok hl ok (by rw [hb,h3];simpa using h6)
end Go.Proofs.YthebilnlljkfeaaGreatDoor
namespace Go.Proofs.YthebilnlljkfeaaGreatDoor
open Go.RowKit
def decQ (z s:Int):Rat:=((z:Int):Rat)/((tenZ s:Int):Rat)
def addD (z s z' s':Int):Int:=z*tenZ (max s s'-s)+z'*tenZ (max s s'-s')
def cmpD (z s z' s':Int):Int:=Int.sign (z*tenZ (max s s'-s) -z'*tenZ (max s s'-s'))
theorem tenN_pos {s:Int} (h:0≤s∧s≤4096):tenN s≠0:=by
 unfold tenN
 rw [if_pos h]
 exact Nat.ne_of_gt (Nat.pow_pos (by decide))
theorem tenZ_eq {s:Int} (h:0≤s∧s≤4096):tenZ s=((10^s.toNat:Nat):Int):=by
 unfold tenZ tenN
 rw [if_pos h]
 rfl
theorem tenZ_pos {s:Int} (h:0≤s∧s≤4096):0<tenZ s:=by
 rw [tenZ_eq h]
 exact Int.natCast_pos.2 (Nat.pow_pos (by decide))
theorem tenZ_ne {s:Int} (h:0≤s∧s≤4096):tenZ s≠0:=Int.ne_of_gt (tenZ_pos h)
theorem tenZ_zero:tenZ 0=1:=by rw [tenZ_eq (by decide)];rfl
theorem tenZ_add {a b:Int} (ha:0≤a) (hb:0≤b) (h:a+b≤4096):tenZ (a+b)=tenZ a*tenZ b:=by
 rw [tenZ_eq ⟨by omega,h⟩,tenZ_eq ⟨ha,by omega⟩,tenZ_eq ⟨hb,by omega⟩,Int.toNat_add ha hb,Nat.pow_add]
 rfl
theorem tenQ_ne {s:Int} (h:0≤s∧s≤4096):((tenZ s:Int):Rat)≠0:=fun e=>tenZ_ne h (Rat.intCast_inj.1 e)
theorem tenQ_pos {s:Int} (h:0≤s∧s≤4096):(0:Rat)<((tenZ s:Int):Rat):=Rat.intCast_pos.2 (tenZ_pos h)
theorem decQ_mk {z s:Int} (h:0≤s∧s≤4096):mkRat z (tenN s)=decQ z s:=by
 unfold decQ
 rw [of_rat_pos_eq (tenZ_pos h)]
 congr 1
theorem decQ_zero {z s:Int} (h:0≤s∧s≤4096):decQ z s=0↔z=0:=by
 unfold decQ
 constructor
 ·intro e
  have:=congrArg (· *((tenZ s:Int):Rat)) e
  simp only [Rat.div_mul_cancel (tenQ_ne h),Rat.zero_mul] at this
  exact Rat.intCast_inj.1 this
 ·intro e
  rw [e]
  show ((0:Int):Rat)/_=0
  rw [Rat.intCast_zero,Rat.div_def,Rat.zero_mul]
theorem decQ_up {z s t:Int} (hs:0≤s) (ht:s≤t) (h:t≤4096):decQ z s*((tenZ t:Int):Rat)=((z*tenZ (t-s):Int):Rat):=by
 have e:tenZ t=tenZ s*tenZ (t-s):=by rw [←tenZ_add hs (by omega) (by omega)];congr 1;omega
 unfold decQ
 rw [e,Rat.intCast_mul,←Rat.mul_assoc,Rat.div_mul_cancel (tenQ_ne ⟨hs,by omega⟩),←Rat.intCast_mul]
theorem sign_cmp {a b:Int} {x y t:Rat} (ht:0<t) (hx:x*t=(a:Rat)) (hy:y*t=(b:Rat)):Int.sign (a-b)=cmpQ x y:=by
 rcases cmpQ_cases x y with ⟨e,h⟩|⟨e,h⟩|⟨e,h⟩
 ·have h1:=Rat.mul_lt_mul_of_pos_right h ht
  rw [hx,hy,Rat.intCast_lt_intCast] at h1
  rw [e,Int.sign_eq_neg_one_iff_neg]
  omega
 ·have h1:a=b:=by
   rw [h] at hx
   exact Rat.intCast_inj.1 (hx.symm.trans hy)
  rw [e,h1,Int.sub_self]
  rfl
 ·have h1:=Rat.mul_lt_mul_of_pos_right h ht
  rw [hx,hy,Rat.intCast_lt_intCast] at h1
  rw [e,Int.sign_eq_one_iff_pos]
  omega
theorem cmp_dec {z s z' s':Int} (h:0≤s∧s≤64) (h':0≤s'∧s'≤64):cmpD z s z' s'=cmpQ (decQ z s) (decQ z' s'):=
 sign_cmp (t:=((tenZ (max s s'):Int):Rat)) (tenQ_pos ⟨by omega,by omega⟩) (decQ_up h.1 (by omega) (by omega)) (decQ_up h'.1 (by omega) (by omega))
theorem rndQ_int (m n:Int):rndQ m ((n:Int):Rat)=n:=by
 have e1:(((n:Int):Rat)).num=n:=rfl
 have e2:(((n:Int):Rat)).den=1:=rfl
 unfold rndQ
 rw [e1,e2,←rndN_no (upB_0 (Nat.mod_one _)),Nat.div_one]
 unfold signed
 by_cases h:n<0
 ·simp [h];omega
 ·simp [h];omega
theorem re_up {m z s t:Int} (hs:0≤s) (ht:s≤t) (h:t≤4096):rndQ m (decQ z s*((tenZ t:Int):Rat))=z*tenZ (t-s):=by rw [decQ_up hs ht h,rndQ_int]
theorem re_back {m z s t:Int} (hs:0≤s) (ht:s≤t) (h:t≤4096):rndQ m (decQ (z*tenZ (t-s)) t*((tenZ s:Int):Rat))=z:=by
 have e:decQ (z*tenZ (t-s)) t*((tenZ s:Int):Rat)=((z:Int):Rat):=by
  rw [decQ,←decQ_up hs ht h,Rat.mul_div_cancel (tenQ_ne ⟨by omega,h⟩)]
  unfold decQ
  rw [Rat.div_mul_cancel (tenQ_ne ⟨hs,by omega⟩)]
 rw [e,rndQ_int]
theorem sub_sgn (z s z' s':Int):Int.sign (addD z s (-z') s')=cmpD z s z' s':=by
 unfold addD cmpD
 rw [Int.neg_mul,←Int.sub_eq_add_neg]
theorem add_sub {z s z' s':Int}:cmpD (addD (addD z s z' s') (max s s') (-z') s') (max (max s s') s') z s=0:=by
 have e1:max (max s s') s'=max s s':=by omega
 have e2:max (max s s') s=max s s':=by omega
 unfold cmpD
 rw [e1,e2,Int.sub_self,tenZ_zero,Int.mul_one]
 unfold addD
 rw [e1,Int.sub_self,tenZ_zero,Int.mul_one,Int.neg_mul,Int.add_neg_cancel_right,Int.sub_self]
 rfl
theorem cmp_up {z s t:Int} (ht:s≤t):cmpD (z*tenZ (t-s)) t z s=0:=by
 have e:max t s=t:=by omega
 unfold cmpD
 rw [e,Int.sub_self,tenZ_zero,Int.mul_one,Int.sub_self]
 rfl
theorem cmpD_self (z s:Int):cmpD z s z s=0:=by
 unfold cmpD
 rw [Int.sub_self]
 rfl
theorem wd_1:pE [49,46,53,48]=0∧pZ [49,46,53,48]=150∧pS [49,46,53,48]=2:=by decide
theorem wd_2:pE [48,46,49,50,53]=0∧pZ [48,46,49,50,53]=125∧pS [48,46,49,50,53]=3:=by decide
theorem wd_3:pE [48,49]=5:=by decide
end Go.Proofs.YthebilnlljkfeaaGreatDoor
namespace Go.Proofs.YthebilnlljkfeaaGreatDoor
open Go.RowKit Tx
structure Rs where
 j:Nat
 al:List UInt8
 ah:Nat
 be:Int
 ze:Bool
def behI (u:List UInt8):Int:=if partB u=true then ((behindT u).length:Int) else -1
structure LI (l:List UInt8) (g:Rs):Prop where
 le:g.j≤(bodyT l).length
 good:goodT ((bodyT l).take g.j)
 al:g.al=allT ((bodyT l).take g.j)
 ah:g.ah=(aheadT ((bodyT l).take g.j)).length
 be:g.be=behI ((bodyT l).take g.j)
 ze:g.ze=(allT ((bodyT l).take g.j)).all (· ==48)
structure End (l:List UInt8) (g:Rs):Prop where
 good:goodT (bodyT l)
 al:g.al=allT (bodyT l)
 ah:g.ah=(aheadT (bodyT l)).length
 be:g.be=behI (bodyT l)
 ze:g.ze=(allT (bodyT l)).all (· ==48)
theorem LI.fin {l:List UInt8} {g:Rs} (h:LI l g) (hj: ¬g.j<(bodyT l).length):End l g:=by
 have e:(bodyT l).take g.j=bodyT l:=List.take_of_length_le (by omega)
 obtain ⟨h1,h2,h3,h4,h5,h6⟩:=h
 rw [e] at h2 h3 h4 h5 h6
 exact ⟨h2,h3,h4,h5,h6⟩
theorem LI.bnd {l:List UInt8} {g:Rs} (h:LI l g):g.ah≤g.j∧g.al.length≤g.j∧g.be≤(g.j:Int)∧ -1≤g.be:=by
 have h1:=parts_len ((bodyT l).take g.j)
 have h2:((bodyT l).take g.j).length≤g.j:=by rw [List.length_take];omega
 have ha:=h.ah
 have hb:=h.be
 refine ⟨by omega, ?_, ?_, ?_⟩
 ·rw [h.al];unfold allT;rw [List.length_append];omega
 ·rw [hb];unfold behI;split<;>omega
 ·rw [hb];unfold behI;split<;>omega
theorem LI.start (l:List UInt8):LI l ⟨0,[],0,-1,true⟩:=⟨Nat.zero_le _,⟨(fun _ h=>nomatch h),(fun _ h=>nomatch h)⟩,rfl,rfl,rfl,rfl⟩
theorem beh_neg {u:List UInt8}:behI u<0↔partB u=false:=by
 unfold behI
 cases h:partB u with
 |false=>simp
 |true=>simp
theorem byte_46 {c:UInt8} (h:c.toNat=46):c=46:=UInt8.toNat_inj.1 h
theorem LI.dot {l:List UInt8} {g:Rs} (h:LI l g) {c:UInt8} (hj:g.j<(bodyT l).length) (e:(bodyT l).getD g.j 0=c) (hc:c.toNat=46) (hb:g.be<0):LI l ⟨g.j+1,g.al,g.ah,0,g.ze⟩:=by
 have hp:partB ((bodyT l).take g.j)=false:=beh_neg.1 (h.be▸hb)
 have et:=(take_split hj).1
 rw [e,byte_46 hc] at et
 obtain ⟨s1,s2,s3,s4⟩:=snoc_dot hp
 refine ⟨hj, ?_, ?_, ?_, ?_, ?_⟩<;>simp only [et]
 ·exact good_dot h.good hp
 ·rw [s4];exact h.al
 ·rw [s1];exact h.ah
 ·unfold behI;rw [s3,s2];rfl
 ·rw [s4];exact h.ze
theorem all_snoc (t:List UInt8) (c:UInt8):(t++ [c]).all (· ==48)=(t.all (· ==48)&&decide ((c.toNat:Int)=48)):=by
 rw [List.all_append]
 congr 1
 by_cases hc:c=48
 ·subst hc;rfl
 ·have h1:c.toNat≠48:=fun h=>hc (UInt8.toNat_inj.1 h)
  rw [decide_eq_false (by omega)]
  simpa using hc
theorem LI.np {l:List UInt8} {g:Rs} (h:LI l g) {c:UInt8} {z:Bool} (hj:g.j<(bodyT l).length) (e:(bodyT l).getD g.j 0=c) (hc:48≤c.toNat∧c.toNat≤57) (hb:g.be<0) (hz:z=(g.ze&&decide ((c.toNat:Int)=48))):LI l ⟨g.j+1,g.al++ [c],g.ah+1,g.be,z⟩:=by
 have hp:partB ((bodyT l).take g.j)=false:=beh_neg.1 (h.be▸hb)
 have et:=(take_split hj).1
 rw [e] at et
 obtain ⟨s1,s2,s3,s4⟩:=snoc_np hp (c:=c) (fun h=>by subst h;revert hc;decide)
 refine ⟨hj, ?_, ?_, ?_, ?_, ?_⟩<;>simp only [et]
 ·exact good_dig h.good hc
 ·rw [s4,h.al]
 ·rw [s1,h.ah];simp
 ·have hq:=h.be
  unfold behI at hq⊢
  rw [hp] at hq
  rw [s3]
  exact hq
 ·rw [s4,all_snoc,←h.ze];exact hz
theorem LI.p {l:List UInt8} {g:Rs} (h:LI l g) {c:UInt8} {z:Bool} (hj:g.j<(bodyT l).length) (e:(bodyT l).getD g.j 0=c) (hc:48≤c.toNat∧c.toNat≤57) (hb: ¬g.be<0) (hz:z=(g.ze&&decide ((c.toNat:Int)=48))):LI l ⟨g.j+1,g.al++ [c],g.ah,g.be+1,z⟩:=by
 have hp:partB ((bodyT l).take g.j)=true:=by
  cases hq:partB ((bodyT l).take g.j) with
  |true=>rfl
  |false=>exact absurd (beh_neg.2 hq) (h.be▸hb)
 have et:=(take_split hj).1
 rw [e] at et
 obtain ⟨s1,s2,s3,s4⟩:=snoc_p c hp
 refine ⟨hj, ?_, ?_, ?_, ?_, ?_⟩<;>simp only [et]
 ·exact good_dig h.good hc
 ·rw [s4,h.al]
 ·rw [s1,h.ah]
 ·have hq:=h.be
  unfold behI at hq⊢
  rw [hp] at hq
  rw [s3,s2,hq]
  simp
 ·rw [s4,all_snoc,←h.ze];exact hz
theorem LI.bad {l:List UInt8} {g:Rs} (h:LI l g) {c:UInt8} (hl:l.length≤4096) (hj:g.j<(bodyT l).length) (e:(bodyT l).getD g.j 0=c) (hd: ¬(48≤c.toNat∧c.toNat≤57)) (hb: ¬(c.toNat=46∧g.be<0)):pE l=5:=by
 refine bad_at hl hj (by rw [e];exact hd) ?_
 rw [e]
 rintro ⟨h1,h2⟩
 exact hb ⟨by rw [h1];rfl,h.be▸beh_neg.2 h2⟩
theorem fork9 (j t c:Nat) (b:Int) (z:Bool):(¬j<t)∨(j<t∧c=46∧b<0)∨(j<t∧c=46∧ ¬b<0)∨(j<t∧c≠46∧c<48)∨(j<t∧c≠46∧57<c)∨(j<t∧(48≤c∧c≤57)∧b<0∧z=true)∨(j<t∧(48≤c∧c≤57)∧b<0∧z=false)∨(j<t∧(48≤c∧c≤57)∧ ¬b<0∧z=true)∨(j<t∧(48≤c∧c≤57)∧ ¬b<0∧z=false):=by
 cases z
 ·rcases (by omega:(¬j<t)∨(j<t∧c=46∧b<0)∨(j<t∧c=46∧ ¬b<0)∨(j<t∧c≠46∧c<48)∨(j<t∧c≠46∧57<c)∨(j<t∧(48≤c∧c≤57)∧b<0)∨(j<t∧(48≤c∧c≤57)∧ ¬b<0)) with h|h|h|h|h|h|h<;>simp [h]
 ·rcases (by omega:(¬j<t)∨(j<t∧c=46∧b<0)∨(j<t∧c=46∧ ¬b<0)∨(j<t∧c≠46∧c<48)∨(j<t∧c≠46∧57<c)∨(j<t∧(48≤c∧c≤57)∧b<0)∨(j<t∧(48≤c∧c≤57)∧ ¬b<0)) with h|h|h|h|h|h|h<;>simp [h]
section
variable {l:List UInt8} {g:Rs}
theorem End.ah0 (h:End l g) (e:aheadT (bodyT l)= []):decide (((g.ah:Nat):Int)=0)=true:=decide_eq_true (by rw [h.ah,e];rfl)
theorem End.ahn (h:End l g) (e:aheadT (bodyT l)≠ []):decide (((g.ah:Nat):Int)=0)=false:=decide_eq_false (by have:=List.length_pos_iff.2 e;have:=h.ah;omega)
theorem End.be0 (h:End l g) (e:partB (bodyT l)=true∧behindT (bodyT l)= []):decide ((g.be:Int)=0)=true:=decide_eq_true (by rw [h.be];unfold behI;rw [if_pos e.1,e.2];rfl)
theorem End.ben (h:End l g) (e: ¬(partB (bodyT l)=true∧behindT (bodyT l)= [])):decide ((g.be:Int)=0)=false:=decide_eq_false (by
 rw [h.be]
 unfold behI
 split
 ·next hp=>
  have:behindT (bodyT l)≠ []:=fun h=>e ⟨hp,h⟩
  have:=List.length_pos_iff.2 this
  omega
 ·decide)
theorem End.gt (h:End l g) (e:1<(aheadT (bodyT l)).length):decide ((1:Int)<((g.ah:Nat):Int))=true:=decide_eq_true (by have:=h.ah;omega)
theorem End.ngt (h:End l g) (e: ¬1<(aheadT (bodyT l)).length):decide ((1:Int)<((g.ah:Nat):Int))=false:=decide_eq_false (by have:=h.ah;omega)
theorem End.pos (h:End l g) (e:1<(aheadT (bodyT l)).length):0<g.al.length:=by
 rw [h.al]
 unfold allT
 rw [List.length_append]
 omega
theorem End.al48 (h:End l g) (e:(allT (bodyT l)).getD 0 0=48):decide ((((g.al.getD 0 0).toNat:Nat):Int)=48)=true:=decide_eq_true (by rw [h.al,e];rfl)
theorem End.aln (h:End l g) (e:(allT (bodyT l)).getD 0 0≠48):decide ((((g.al.getD 0 0).toNat:Nat):Int)=48)=false:=decide_eq_false (by
 rw [h.al]
 intro h
 exact e (UInt8.toNat_inj.1 (by have:(48:UInt8).toNat=48:=rfl;omega)))
theorem End.len (h:End l g) (hl:l.length≤4096):g.al.length≤4096:=by
 rw [h.al]
 unfold allT
 rw [List.length_append]
 have:=parts_len (bodyT l)
 have:=body_len l
 omega
theorem End.dig (h:End l g): ∀b∈g.al,isDig b:=by rw [h.al];exact good_all h.good
theorem End.be_len (h:End l g):max g.be 0=((behindT (bodyT l)).length:Int):=by
 rw [h.be]
 unfold behI
 split
 ·omega
 ·next hp=>rw [(np_eq (by simpa using hp)).2.2];rfl
theorem End.e10 (h:End l g) (hl:l.length≤4096) (ho:okDec l) (hb:64<g.be):pE l=10:=pE_scale (by omega) ho (by have:=h.be_len;omega)
theorem End.e0 (h:End l g) (hl:l.length≤4096) (ho:okDec l) (hb: ¬64<g.be):pE l=0:=pE_ok (by omega) ho (by have:=h.be_len;omega)
theorem e7_of {w:World} {v:Value} {b:Bool} (hC:End l g) (h:pE l=0) (hn:negT l=b) (hv:Z.isE7 (signed (rd g.al) b) (max g.be 0) 2000 w v):Z.isE7 (pZ l) (pS l) 2000 w v:=by
 rw [pZ_ok h,pS_ok h,←hC.be_len,hn,←hC.al]
 exact hv
theorem e7_bad {w:World} {v:Value} {e:Int} (h:pE l=e) (he:e≠0) (hc:Z.isE7 0 0 0 w v):Z.isE7 (pZ l) (pS l) 2000 w v:=by
 obtain ⟨h1,h2⟩:=p_bad (l:=l) (by rw [h];exact he)
 rw [h1,h2]
 exact hc.weak (by decide)
theorem body_at_no {j:Nat} (h:negT l=false):(bodyT l).getD j 0=l.getD j 0:=by unfold bodyT;rw [h];rfl
theorem body_at_yes {j:Nat} (h:negT l=true):(bodyT l).getD j 0=l.getD (j+1) 0:=by
 unfold bodyT
 rw [h]
 cases l with
 |nil=>rfl
 |cons x r=>rfl
theorem body_l_no (h:negT l=false):l.length=(bodyT l).length:=by unfold bodyT;rw [h];rfl
theorem body_l_yes (h:negT l=true):l.length=(bodyT l).length+1:=by
 unfold bodyT
 rw [h]
 cases l with
 |nil=>cases h
 |cons x r=>rfl
theorem head_yes (h:negT l=true):decide ((((l.getD 0 0).toNat:Nat):Int)=45)=true:=by
 cases l with
 |nil=>cases h
 |cons x r=>
  have:x=45:=by simpa [negT] using h
  subst this
  rfl
theorem head_no (h:negT l=false):decide ((((l.getD 0 0).toNat:Nat):Int)=45)=false:=by
 cases l with
 |nil=>rfl
 |cons x r=>
  have:x≠45:=by simpa [negT] using h
  refine decide_eq_false fun e=>this (UInt8.toNat_inj.1 ?_)
  have:(45:UInt8).toNat=45:=rfl
  simp at e
  omega
theorem byte_one {n:Nat} (h:n<l.length):(l.take (n+1)).drop n= [l.getD n 0]:=by
 rw [(take_split h).1,List.drop_append_of_le_length (by simp;omega),List.drop_of_length_le (by simp;omega)]
 rfl
end
end Go.Proofs.YthebilnlljkfeaaGreatDoor
