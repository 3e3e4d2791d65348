/- Powers, what pays back, coefficients: plain mathematics of fractions; how long they are; the document's errors. -/
import Derived.Test.YthebilnlljkfeaaGreatDoorPo
import Derived.Test.YthebilnlljkfeaaGreatDoorBDig
namespace Go.Proofs.YthebilnlljkfeaaGreatDoor.X
set_option linter.unusedVariables false
set_option exponentiation.threshold 2000
open Go.RowKit Go.Proofs.YthebilnlljkfeaaGreatDoor.Z
theorem rpow_zero (q:Rat):q^0=1:=Rat.pow_zero q
theorem rpow_add (q:Rat) (m n:Nat):q^(m+n)=q^m*q^n:=by
 induction n with
 |zero=>rw [rpow_zero,Rat.mul_one,Nat.add_zero]
 |succ n ih=>rw [←Nat.add_assoc,Rat.pow_succ,Rat.pow_succ,ih,Rat.mul_assoc]
theorem rpow_mul (x y:Rat) (n:Nat):(x*y)^n=x^n*y^n:=by
 induction n with
 |zero=>rw [rpow_zero,rpow_zero,rpow_zero];grind
 |succ n ih=>rw [Rat.pow_succ,Rat.pow_succ,Rat.pow_succ,ih];grind
theorem rpow_inv {g:Rat} (h:g≠0) (n:Nat):(1/g)^n=1/g^n:=by
 induction n with
 |zero=>rw [rpow_zero,rpow_zero];grind
 |succ n ih=>rw [Rat.pow_succ,Rat.pow_succ,ih];grind
theorem rpow_half (q:Rat) {n:Nat} (h:n%2=0):q^(n/2)*q^(n/2)=q^n:=by
 rw [←rpow_add];congr 1;omega
theorem rpow_odd (q:Rat) {n:Nat} (h: ¬n%2=0):q^(n/2)*q^(n/2)*q=q^n:=by
 rw [←rpow_add,←Rat.pow_succ];congr 1;omega
theorem pol_snoc (x:Rat) (l:List Rat) (c:Rat):polQ x (l++ [c])=polQ x l+c*x^l.length:=by
 induction l with
 |nil=>show (0:Rat)*x+c=0+c*x^0;rw [rpow_zero];grind
 |cons d l ih=>
  show polQ x (l++ [c])*x+d=polQ x l*x+d+c*x^(l.length+1)
  rw [ih,Rat.pow_succ]
  grind
theorem pol_zero (l:List Rat):polQ 0 l=l.headD 0:=by
 cases l with
 |nil=>rfl
 |cons c l=>show polQ 0 l*0+c=c;grind
theorem pol_one (l:List Rat) (c:Rat):polQ 1 (l++ [c])=polQ 1 l+c:=by
 have:(1:Rat)^l.length=1:=by
  induction l.length with
  |zero=>exact rpow_zero 1
  |succ n ih=>rw [Rat.pow_succ,ih];grind
 rw [pol_snoc,this,Rat.mul_one]
def anA (r:Rat):Nat→Rat
 |0=>0
 |n+1=>(anA r n+1)/(1+r)
theorem an_nn {r:Rat} (h:0≤r) (n:Nat):0≤anA r n:=by
 induction n with
 |zero=>exact Rat.le_refl
 |succ n ih=>
  have:0<(1+r)⁻¹ :=Rat.inv_pos.2 (by grind)
  show 0≤(anA r n+1)/(1+r)
  rw [Rat.div_def]
  exact Rat.mul_nonneg (by grind) (by grind)
theorem an_step {r:Rat} (h:0≤r) (n:Nat):anA r (n+1)*(1+r)=anA r n+1:=Rat.div_mul_cancel (by grind)
theorem an_pos {r:Rat} (h:0≤r) {n:Nat} (hn:1≤n):0<anA r n:=by
 obtain ⟨n,rfl⟩: ∃m,n=m+1:=⟨n-1,by omega⟩
 have e:=an_nn h n
 have:0<(1+r)⁻¹ :=Rat.inv_pos.2 (by grind)
 show 0<(anA r n+1)/(1+r)
 rw [Rat.div_def]
 exact Rat.mul_pos (by grind) this
theorem an_lt {r:Rat} (h:0≤r) (n:Nat):anA r n<anA r (n+1):=by
 induction n with
 |zero=>exact an_pos h (Nat.le_refl 1)
 |succ n ih=>
  have:0<(1+r)⁻¹ :=Rat.inv_pos.2 (by grind)
  show (anA r n+1)/(1+r)<(anA r (n+1)+1)/(1+r)
  rw [Rat.div_def,Rat.div_def]
  exact Rat.mul_lt_mul_of_pos_right (by grind) this
theorem an_anti {r s:Rat} (h:0≤r) (hs:r≤s) (n:Nat):anA s n≤anA r n:=by
 induction n with
 |zero=>exact Rat.le_refl
 |succ n ih=>
  have h0:0≤s:=Rat.le_trans h hs
  have a:=an_step h n
  have b:=an_step h0 n
  have p:=an_nn h (n+1)
  refine Rat.le_of_mul_le_mul_right (c:=1+s) ?_ (by grind)
  have q:=Rat.mul_nonneg p (show 0≤s-r by grind)
  grind
theorem an_zero (n:Nat):anA 0 n=((n:Int):Rat):=by
 induction n with
 |zero=>rfl
 |succ n ih=>
  show (anA 0 n+1)/(1+0)=_
  rw [ih,Int.natCast_succ,Rat.intCast_add]
  grind
theorem an_pow {r:Rat} (h:0≤r) (n:Nat):1-1/(1+r)^n=r*anA r n:=by
 induction n with
 |zero=>rw [rpow_zero];show (1:Rat) -1/1=r*0;grind
 |succ n ih=>
  have e:(1+r)≠0:=by grind
  have p:(1+r)^n≠0:=by have:=Rat.pow_pos (n:=n) (show 0<1+r by grind);grind
  rw [Rat.pow_succ]
  show _=r*((anA r n+1)/(1+r))
  grind
def lvV (a r:Rat) (n:Nat):Rat:=if r=0 then a/((n:Int):Rat) else a*r/(1-1/(1+r)^n)
theorem lv_an {r:Rat} (h:0≤r) (a:Rat) {n:Nat} (hn:1≤n):lvV a r n=a/anA r n:=by
 unfold lvV
 split
 ·next e=>subst e;rw [an_zero]
 ·next e=>
  rw [an_pow h]
  have:=an_pos h hn
  grind
theorem lv_ne {r:Rat} (h:0≤r) (h0:r≠0) {n:Nat} (hn:1≤n):1-1/(1+r)^n≠0:=by
 rw [an_pow h]
 have:=an_pos h hn
 grind
theorem lv_two {r:Rat} (a:Rat) (n:Nat):lvV (a*2) r n=lvV a r n*2:=by
 unfold lvV
 split<;>grind
theorem lv_less {a r:Rat} (h:0≤r) (ha:0<a) {n:Nat} (hn:1≤n):lvV a r (n+1)<lvV a r n:=by
 rw [lv_an h a hn,lv_an h a (by omega)]
 have p:=an_pos h hn
 have l:=an_lt h n
 rw [Rat.div_lt_iff (by grind),Rat.div_def]
 have e:a*(anA r n)⁻¹ *anA r (n+1)=a*(anA r n)⁻¹ *(anA r (n+1) -anA r n)+a:=by grind
 rw [e]
 have:=Rat.mul_pos (Rat.mul_pos ha (Rat.inv_pos.2 p)) (show 0<anA r (n+1) -anA r n by grind)
 grind
theorem lv_rise {a r s:Rat} (h:0≤r) (hs:r≤s) (ha:0≤a) {n:Nat} (hn:1≤n):lvV a r n≤lvV a s n:=by
 rw [lv_an h a hn,lv_an (Rat.le_trans h hs) a hn]
 have p:=an_pos h hn
 have q:=an_pos (Rat.le_trans h hs) hn
 have l:=an_anti h hs n
 refine Rat.le_of_mul_le_mul_right (c:=anA r n*anA s n) ?_ (Rat.mul_pos p q)
 have e1:a/anA r n*(anA r n*anA s n)=a*anA s n:=by grind
 have e2:a/anA s n*(anA r n*anA s n)=a*anA r n:=by grind
 rw [e1,e2]
 exact Rat.mul_le_mul_of_nonneg_left l ha
def lfV (a r:Rat) (n m:Nat):Rat:=lvV a r n*anA r m
theorem lf_first {a r:Rat} (h:0≤r) {n:Nat} (hn:1≤n):lfV a r n n=a:=by
 unfold lfV
 rw [lv_an h a hn]
 have:=an_pos h hn
 exact Rat.div_mul_cancel (by grind)
theorem lf_last (a r:Rat) (n:Nat):lfV a r n 0=0:=by show lvV a r n*0=0;grind
theorem lf_step {a r:Rat} (h:0≤r) (n m:Nat):lfV a r n (m+1)+lfV a r n (m+1)*r-lvV a r n=lfV a r n m:=by
 have e:=an_step h m
 unfold lfV
 grind
def anN (s v:Nat):Nat→Nat
 |0=>0
 |m+1=>v*(anN s v m+s^m)
theorem an_nat {u v:Nat} (hv:v≠0) (m:Nat):anA ((u:Rat)/(v:Rat)) m*((u+v:Nat):Rat)^m=(anN (u+v) v m:Nat):=by
 induction m with
 |zero=>show (0:Rat)*_=((0:Nat):Rat);grind
 |succ m ih=>
  have hv':(v:Rat)≠0:=by intro e;exact hv (by exact_mod_cast e)
  have hs:((u+v:Nat):Rat)≠0:=by
   intro e
   have:u+v=0:=by exact_mod_cast e
   omega
  show (anA ((u:Rat)/(v:Rat)) m+1)/(1+(u:Rat)/(v:Rat))*_=((v*(anN (u+v) v m+(u+v)^m):Nat):Rat)
  have e2:(((u+v)^m:Nat):Rat)=((u+v:Nat):Rat)^m:=Rat.natCast_pow _ _
  have e:((u+v:Nat):Rat)=(u:Rat)+(v:Rat):=Rat.natCast_add _ _
  rw [Rat.natCast_mul,Rat.natCast_add (anN (u+v) v m),←ih,Rat.pow_succ,e2,e]
  rw [e] at hs
  generalize ((u:Rat)+(v:Rat))^m=P at*
  have h1:1+(u:Rat)/(v:Rat)=((u:Rat)+(v:Rat))/(v:Rat):=by grind
  rw [h1]
  generalize anA ((u:Rat)/(v:Rat)) m=A at*
  grind
theorem anN_pos {s v:Nat} (hv:v≠0) (hs:s≠0) {m:Nat} (hm:1≤m):anN s v m≠0:=by
 obtain ⟨m,rfl⟩: ∃k,m=k+1:=⟨m-1,by omega⟩
 have:=Nat.pow_pos (n:=m) (Nat.pos_of_ne_zero hs)
 exact Nat.mul_ne_zero hv (by omega)
theorem anN_le {s v:Nat} (hs:s≤2^18) (hv:v≤2^18) (m:Nat):anN s v m≤2^(19*m):=by
 induction m with
 |zero=>exact Nat.zero_le _
 |succ m ih=>
  have a:s^m≤2^(19*m):=by
   refine Nat.le_trans (Nat.pow_le_pow_left hs m) ?_
   rw [←Nat.pow_mul]
   exact Nat.pow_le_pow_right (by omega) (by omega)
  refine Nat.le_trans (Nat.mul_le_mul hv (Nat.add_le_add ih a)) ?_
  rw [show 19*(m+1)=18+(1+19*m) by omega,Nat.pow_add 2 18,Nat.pow_add 2 1]
  omega
theorem lf_nat {a u v n m:Nat} (hv:v≠0) (hn:1≤n) (hm:m≤n):lfV (a:Rat) ((u:Rat)/(v:Rat)) n m=((a*(u+v)^(n-m)*anN (u+v) v m:Nat):Rat)/((anN (u+v) v n:Nat):Rat):=by
 have hr:(0:Rat)≤(u:Rat)/(v:Rat):=by
  rw [Rat.div_def]
  exact Rat.mul_nonneg (by exact_mod_cast Nat.zero_le u) (Rat.le_of_lt (Rat.inv_pos.2 (by exact_mod_cast Nat.pos_of_ne_zero hv)))
 unfold lfV
 rw [lv_an hr _ hn]
 have a1:=an_nat (u:=u) hv n
 have a2:=an_nat (u:=u) hv m
 have p:=an_pos hr hn
 have hs:((u+v:Nat):Rat)≠0:=by
  intro e
  have:u+v=0:=by exact_mod_cast e
  omega
 have e:(((u+v)^(n-m):Nat):Rat)=((u+v:Nat):Rat)^(n-m):=Rat.natCast_pow _ _
 have e2:((u+v:Nat):Rat)^n=((u+v:Nat):Rat)^(n-m)*((u+v:Nat):Rat)^m:=by rw [←rpow_add];congr 1;omega
 rw [Rat.natCast_mul,Rat.natCast_mul,←a1,←a2,e,e2]
 have hp:0<((u+v:Nat):Rat):=by
  have:0<u+v:=by omega
  exact_mod_cast this
 have q1:((u+v:Nat):Rat)^(n-m)≠0:=by
  have:=Rat.pow_pos (n:=n-m) hp
  grind
 have q2:((u+v:Nat):Rat)^m≠0:=by
  have:=Rat.pow_pos (n:=m) hp
  grind
 generalize ((u+v:Nat):Rat)^(n-m)=P at*
 generalize ((u+v:Nat):Rat)^m=R at*
 generalize anA ((u:Rat)/(v:Rat)) n=A at*
 generalize anA ((u:Rat)/(v:Rat)) m=C at*
 generalize (a:Rat)=d at*
 grind
theorem lf_small {a u v n m:Nat} (ha:a≤2^32) (hu:u≤2^17) (hv:v≤2^17) (hn:n≤31) (hm:m≤n):a*(u+v)^(n-m)*anN (u+v) v m≤2^621∧anN (u+v) v n≤2^621:=by
 have s:u+v≤2^18:=by omega
 have h1:=anN_le s (by omega:v≤2^18) m
 have h2:=anN_le s (by omega:v≤2^18) n
 have h3:(u+v)^(n-m)≤2^(18*(n-m)):=by rw [Nat.pow_mul];exact Nat.pow_le_pow_left s _
 refine ⟨?_,Nat.le_trans h2 (Nat.pow_le_pow_right (by omega) (by omega))⟩
 refine Nat.le_trans (Nat.mul_le_mul (Nat.mul_le_mul ha h3) h1) ?_
 rw [←Nat.pow_add,←Nat.pow_add]
 exact Nat.pow_le_pow_right (by omega) (by omega)
theorem qlen_div {p d k:Nat} (hd:d≠0) (hk:1≤k) (hp:Mx.len p≤k) (hd':Mx.len d≤k):qlen ((p:Rat)/(d:Rat))≤k:=by
 obtain ⟨e1,e2⟩:=of_rat_pos (z:=(p:Int)) (n:=(d:Int)) (by omega)
 rw [Rat.intCast_natCast,Rat.intCast_natCast] at e1 e2
 have n:((p:Rat)/(d:Rat)).num.natAbs≤p:=by
  rw [←e1]
  exact Int.natAbs_ediv_le_natAbs _ _
 have m:((p:Rat)/(d:Rat)).den≤d:=by
  rw [←e2]
  exact Nat.div_le_self _ _
 have a:=Mx.len_mono n
 have b:=Mx.len_mono m
 unfold qlen
 omega
theorem qlen_int {z n:Int} (h1: -9223372036854775808≤z) (h2:z≤9223372036854775807) (h3:0<n) (h4:n≤9223372036854775807):qlen (((z:Int):Rat)/((n:Int):Rat))≤1:=by
 obtain ⟨e1,e2⟩:=of_rat_pos (z:=z) (n:=n) h3
 have a:(((z:Int):Rat)/((n:Int):Rat)).num.natAbs≤z.natAbs:=by
  rw [←e1]
  exact Int.natAbs_ediv_le_natAbs _ _
 have b:(((z:Int):Rat)/((n:Int):Rat)).den≤n.natAbs:=by
  rw [←e2]
  exact Nat.div_le_self _ _
 have l1:Mx.len (((z:Int):Rat)/((n:Int):Rat)).num.natAbs≤1:=Mx.len_le_of_lt 1 _ (by show _<18446744073709551616^1;omega)
 have l2:Mx.len (((z:Int):Rat)/((n:Int):Rat)).den≤1:=Mx.len_le_of_lt 1 _ (by show _<18446744073709551616^1;omega)
 unfold qlen
 omega
theorem qlen_neg (q:Rat):qlen (-q)=qlen q:=by
 unfold qlen
 rw [Rat.neg_num,Rat.neg_den,Int.natAbs_neg]
theorem len10 {p:Nat} (h:p≤2^621):Mx.len p≤10:=Mx.len_le_of_lt 10 _ (by rw [Mx.B_pow];exact Nat.lt_of_le_of_lt h (Nat.pow_lt_pow_right (by omega) (by omega)))
theorem lf_len {a u v n m:Nat} (ha:a≤2^32) (hu:u≤2^17) (hv:v≤2^17) (h0:v≠0) (h1:1≤n) (hn:n≤31) (hm:m≤n):qlen (lfV (a:Rat) ((u:Rat)/(v:Rat)) n m)≤10:=by
 rw [lf_nat h0 h1 hm]
 have:=lf_small ha hu hv hn hm
 exact qlen_div (anN_pos h0 (by omega) h1) (by omega) (len10 this.1) (len10 this.2)
theorem rpow_num (q:Rat) (n:Nat):(q^n).num=q.num^n:=rfl
theorem rpow_den (q:Rat) (n:Nat):(q^n).den=q.den^n:=rfl
def pwOk (q:Rat) (n:Nat):Prop:=Mx.bits q.num.natAbs*n≤262144∧Mx.bits q.den*n≤262144
theorem pw_len {q:Rat} {n:Nat} (h:pwOk q n):qlen (q^n)≤4097:=by
 have a:=pow_len h.1
 have b:=pow_len h.2
 unfold qlen
 rw [rpow_num,rpow_den,Int.natAbs_pow]
 omega
theorem pw_le {q:Rat} {n m:Nat} (h:pwOk q n) (hm:m≤n):pwOk q m:=⟨Nat.le_trans (Nat.mul_le_mul_left _ hm) h.1,Nat.le_trans (Nat.mul_le_mul_left _ hm) h.2⟩
theorem pw_small {q:Rat} {n k:Nat} (h:qlen q≤k) (hk:k≤3) (hn:n≤1200):pwOk q n:=by
 have a:=Mx.bits_len q.num.natAbs
 have b:=Mx.bits_len q.den
 have c:Mx.bits q.num.natAbs≤192∧Mx.bits q.den≤192:=by unfold qlen at h;omega
 exact ⟨Nat.le_trans (Nat.mul_le_mul c.1 hn) (by omega),Nat.le_trans (Nat.mul_le_mul c.2 hn) (by omega)⟩
def pwE (q:Rat) (t:Int):Int:=if powE q.num.natAbs t=0 then powE q.den t else powE q.num.natAbs t
def pwQ (q:Rat) (t:Int):Rat:=if pwE q t=0 then q^t.toNat else 0
theorem powE_0 {n:Nat} {t:Int} (h:powE n t=0):0≤t∧t≤1200∧Mx.bits n*t.toNat≤262144:=by
 unfold powE at h
 split at h
 ·omega
 ·split at h
  ·omega
  ·next h1 h2=>
   have h3: ¬262144<(Mx.bits n:Int)*t:=fun h=>h2 (.inr h)
   have h4: ¬1200<t:=fun h=>h2 (.inl h)
   obtain ⟨k,rfl⟩: ∃k:Nat,t=(k:Int):=⟨t.toNat,by omega⟩
   refine ⟨by omega,by omega, ?_⟩
   rw [Int.toNat_natCast]
   have:((Mx.bits n*k:Nat):Int)=(Mx.bits n:Int)*(k:Int):=Int.natCast_mul _ _
   omega
theorem pw_no1 {q:Rat} {t:Int} (h:powE q.num.natAbs t≠0):pwE q t=powE q.num.natAbs t∧pwQ q t=0:=by
 have e:pwE q t=powE q.num.natAbs t:=if_neg h
 exact ⟨e,if_neg (by rw [e];exact h)⟩
theorem pw_no2 {q:Rat} {t:Int} (h:powE q.num.natAbs t=0) (h2:powE q.den t≠0):pwE q t=powE q.den t∧pwQ q t=0:=by
 have e:pwE q t=powE q.den t:=if_pos h
 exact ⟨e,if_neg (by rw [e];exact h2)⟩
theorem pw_yes {q:Rat} {t:Int} (h:powE q.num.natAbs t=0) (h2:powE q.den t=0):pwE q t=0∧pwQ q t=q^t.toNat∧0≤t∧t≤1200∧pwOk q t.toNat:=by
 have e:pwE q t=0:=(if_pos h).trans h2
 have a:=powE_0 h
 have b:=powE_0 h2
 exact ⟨e,if_pos e,a.1,a.2.1,a.2.2,b.2.2⟩
theorem pwE_0 {q:Rat} {t:Int} (h:pwE q t=0):powE q.num.natAbs t=0∧powE q.den t=0:=by
 by_cases e:powE q.num.natAbs t=0
 ·exact ⟨e,(pw_no2_eq e).symm.trans h⟩
 ·exact absurd ((pw_no1 e).1.symm.trans h) e
where
 pw_no2_eq {q:Rat} {t:Int} (h:powE q.num.natAbs t=0):pwE q t=powE q.den t:=if_pos h
theorem pw_fine {q:Rat} {n:Nat} (h:pwOk q n) (hn:n≤1200):powE q.num.natAbs (n:Int)=0∧powE q.den (n:Int)=0:=by
 have a: ∀m:Nat,Mx.bits m*n≤262144→ ¬262144<(Mx.bits m:Int)*(n:Int):=fun m h=>by
  have:((Mx.bits m*n:Nat):Int)=(Mx.bits m:Int)*(n:Int):=Int.natCast_mul _ _
  omega
 exact ⟨(powE_ok (by omega) (a _ h.1)).1,(powE_ok (by omega) (a _ h.2)).1⟩
theorem pw_any {q:Rat} {t:Int} {k:Nat} (h:qlen q≤k) (hk:k≤3) (h0:0≤t) (h1:t≤1200):pwE q t=0∧pwQ q t=q^t.toNat:=by
 obtain ⟨n,rfl⟩: ∃k:Nat,t=(k:Int):=⟨t.toNat,by omega⟩
 have f:=pw_fine (pw_small h hk (show n≤1200 by omega)) (by omega)
 have g:=pw_yes f.1 f.2
 exact ⟨g.1,g.2.1⟩
def lvE (r:Rat) (n:Int):Int:=if n<1∨1200<n then 2 else if r<0 then 18 else pwE (1+r) n
def lvQ (a r:Rat) (n:Int):Rat:=if lvE r n=0 then lvV a r n.toNat else 0
theorem lv_arg {r:Rat} {n:Int} (a:Rat) (h:n<1∨1200<n):lvE r n=2∧lvQ a r n=0:=by
 have e:lvE r n=2:=if_pos h
 exact ⟨e,if_neg (by omega)⟩
theorem lv_rate {r:Rat} {n:Int} (a:Rat) (h: ¬(n<1∨1200<n)) (hr:r<0):lvE r n=18∧lvQ a r n=0:=by
 have e:lvE r n=18:=(if_neg h).trans (if_pos hr)
 exact ⟨e,if_neg (by omega)⟩
theorem lv_many {r:Rat} {n:Int} (a:Rat) (h: ¬(n<1∨1200<n)) (hr: ¬r<0) (hp:pwE (1+r) n≠0):lvE r n=pwE (1+r) n∧lvQ a r n=0:=by
 have e:lvE r n=pwE (1+r) n:=(if_neg h).trans (if_neg hr)
 exact ⟨e,if_neg (by rw [e];exact hp)⟩
theorem lv_ok {r:Rat} {n:Int} (a:Rat) (h: ¬(n<1∨1200<n)) (hr: ¬r<0) (hp:pwE (1+r) n=0):lvE r n=0∧lvQ a r n=lvV a r n.toNat:=by
 have e:lvE r n=0:=((if_neg h).trans (if_neg hr)).trans hp
 exact ⟨e,if_pos e⟩
theorem lv_any {r:Rat} {n:Int} (a:Rat) (h: ¬(n<1∨1200<n)) (hr: ¬r<0) (hl:qlen r≤1):lvE r n=0∧lvQ a r n=lvV a r n.toNat:=by
 have q:=qlen_add 1 r
 have e:qlen 1=1:=by decide
 exact lv_ok a h hr (pw_any (show qlen (1+r)≤3 by omega) (by omega) (by omega) (by omega)).1
theorem isQ_re {w:World} {v:Value} {q r:Rat} {k j:Nat} (h:isQ q k w v) (e:q=r) (e2:k≤j):isQ r j w v:=by
 subst e
 exact IsQ.weak h e2
theorem isQ_0 {w:World} {v:Value} {r:Rat} {j:Nat} (h:isF 0 0 1 w v) (e:r=0) (e2:1≤j):isQ r j w v:=isQ_re (IsF.q0 h) e.symm e2
theorem isQ_up {w:World} {v:Value} {q r:Rat} {k j:Nat} (h:isQ q k w v) (e:q=r) (hj:qlen r≤j):isQ r j w v:=by
 subst e
 exact isQ_lo h hj
theorem isR_re {w:World} {v:Value} {q r:Rat} {k j:Nat} (h:isR q k w v) (e:q=r) (e2:k≤j):isR r j w v:=by
 subst e
 exact IsR.weak h e2
theorem num_neg_iff (r:Rat):r.num<0↔r<0:=by
 have h:=Rat.num_nonneg (q:=r)
 constructor
 ·intro a
  exact Rat.not_le.1 fun b=>by have:=h.2 b;omega
 ·intro a
  rcases Int.lt_or_le r.num 0 with b|b
  ·exact b
  ·exact absurd (h.1 b) (Rat.not_le.2 a)
theorem sgn_neg (r:Rat):decide ((Int.sign r.num:Int)<0)=decide (r<0):=by
 have a:Int.sign r.num<0↔r<0:=by rw [Int.sign_neg_iff,num_neg_iff]
 by_cases h:r<0
 ·rw [decide_eq_true h,decide_eq_true (a.2 h)]
 ·rw [decide_eq_false h,decide_eq_false fun e=>h (a.1 e)]
theorem one_q:((1:Int):Rat)=1:=rfl
theorem one_r:((1:Int):Rat)/((1:Int):Rat)=1:=by decide+kernel
theorem nil_r:((0:Int):Rat)/((1:Int):Rat)=0:=by decide+kernel
theorem div_one (z:Int):((z:Int):Rat)/((1:Int):Rat)=(z:Rat):=by rw [one_q];grind
def PwT (m:Nat):Prop:= ∀{w:World} {v u:Value} {x:Rat} {k t:Nat},isQ x k w v→isE (.int .i64 ((t:Nat):Int)) w u→t<m→t≤1200→k≤100000000→pwOk x t→Calls Tryz.prog 31 #[v,u] w (Ret w fun v' w'=>isQ (x^t) 4097 w' v')
theorem powD_t {w:World} {v u:Value} {n b:Nat} {t:Int} (h1:isN n b w v) (h2:isE (.int .i64 t) w u) (hb:b≤536870912):Calls Tryz.prog 10 #[v,u] w (Ret w fun v' w'=>(Kd.T (cx:=cxA w) [kN (powN n t) 4097, .E (.int .i64 (powE n t))]).p w' v'):=by
 cases h2
 refine (pow_any w v n b t h1 hb).mono fun _ _ r=>r.mono fun _ _ ⟨_,e,h⟩=> ?_
 rw [e]
 exact tup2 (k:=kN _ _) (l:= .E _) h rfl
theorem pol_take (x:Rat) {l:List Rat} {i:Nat} (h:i<l.length):polQ x (l.take (i+1))=polQ x (l.take i)+l.getD i 0*x^i:=by
 rw [List.take_add_one,List.getElem?_eq_getElem h]
 show polQ x (l.take i++ [l[i]])=_
 rw [pol_snoc,List.length_take,Nat.min_eq_left (by omega),List.getD_eq_getElem?_getD,List.getElem?_eq_getElem h]
 rfl
def qsK (l:List K):List Rat:=l.map fun| .Q q _=>q|_=>0
abbrev qK1 (q:Rat):K:= .Q q 1
abbrev rK5 (q:Rat):K:= .R q 5
def rsK (l:List K):List Rat:=l.map fun| .R q _=>q|_=>0
theorem qs_map (l:List Rat):qsK (l.map qK1)=l:=by
 unfold qsK
 rw [List.map_map]
 exact List.map_id _
theorem rs_map (l:List Rat):rsK (l.map rK5)=l:=by
 unfold rsK
 rw [List.map_map]
 exact List.map_id _
theorem rK5_get {l:List Rat} {i:Nat} (h:i<l.length):(l.map rK5).getD i .B0= .R (l.getD i 0) 5:=by
 rw [List.getD_eq_getElem?_getD,List.getD_eq_getElem?_getD,List.getElem?_map,List.getElem?_eq_getElem h]
 rfl
theorem poly_l {w:World} {v u:Value} {x:Rat} {k:Nat} {l:List K} (h0:isQ x k w v) (h1:(k0 w (.M FT 3 l 0)).p w u) (hk:k≤1) (hl:l.length≤12) (e:l=(qsK l).map qK1):Calls Tryz.prog 25 #[v,u] w (Ret w fun v' w'=>isQ (polQ x (qsK l)) 40 w' v'):=by
 rw [e] at h1
 have el:(qsK l).length=l.length:=List.length_map _
 refine (poly_t h0 h1 (by omega) (by omega) (by omega)).mono fun _ _ r=>r.mono fun _ _ h=>isQ_re h rfl ?_
 have:(qsK l).length*(k+1+1)≤12*3:=Nat.mul_le_mul (by omega) (by omega)
 omega
theorem pw_yes_q {q:Rat} {t:Int} (h:pwE q t=0):pwQ q t=q^t.toNat:=if_pos h
theorem int_ne {n:Int} (h:n≠0):((n:Int):Rat)≠0:=fun e=>h (by exact_mod_cast e)
theorem grow_ne {r:Rat} (h: ¬r<0) (n:Nat):(1+r)^n≠0:=by
 have:=Rat.pow_pos (n:=n) (show 0<1+r by have:=Rat.not_lt.1 h;grind)
 grind
theorem lv_r0 {a r:Rat} {n:Int} (h0:r=0) (hn: ¬(n<1∨1200<n)) (h:lvE r n=0∧lvQ a r n=lvV a r n.toNat):a/((n:Int):Rat)=lvQ a r n:=by
 rw [h.2]
 unfold lvV
 rw [if_pos h0,Int.toNat_of_nonneg (by omega)]
theorem lv_r1 {r:Rat} {n:Int} (a:Rat) (h0: ¬r=0) (hn: ¬(n<1∨1200<n)) (hr: ¬r<0) (hp:pwE (1+r) n=0):a*r/(1-1/(1+r)^n.toNat)=lvQ a r n:=by
 rw [(lv_ok a hn hr hp).2]
 unfold lvV
 rw [if_neg h0]
def ct0 (f va:Nat) (en:Enters Tryz.prog f) (res:Fk K) (ok: ∀w,Cl f [] w res):Ct dk:=⟨f,va,en,fun ks _=>match ks with
 | []=>some (res,[])
 |_=>none,by
 intro ks kw' F ps h hp w vs u ha hu
 split at h
 ·injection h with h
  injection h with h1 h2
  subst h1 h2
  match vs,ha with
  | [],_=>exact ok w
 ·cases h⟩
end Go.Proofs.YthebilnlljkfeaaGreatDoor.X
