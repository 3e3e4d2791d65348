/- The calendar, more: dates made of any numbers, dates compared, a number's digits one by one. No program is named here. -/
import Derived.Test.YtjpilacbapibjaaGreatDoorDb
namespace Go.Proofs.YtjpilacbapibjaaGreatDoor.Da
theorem wrap_mod {z k:Int} (hk:0<k):(if z.tmod k<0 then z.tmod k+k else z.tmod k)=z%k:=by
 have h1:=Int.tmod_add_mul_tdiv z k
 rcases Int.lt_or_le z 0 with hz|hz
 ·have e:z.tmod k= -((-z)%k):=by
   rw [←Int.tmod_eq_emod_of_nonneg (by omega),Int.neg_tmod,Int.neg_neg]
  have h2:=Int.emod_nonneg (-z) (show k≠0 by omega)
  have h3:=Int.emod_lt_of_pos (-z) hk
  split
  ·next h=>
   have h4:z=k*(-((-z)/k) -1)+(k-(-z)%k):=by
    have:=Int.mul_ediv_add_emod (-z) k
    rw [Int.mul_sub,Int.mul_neg]
    omega
   have h5:z%k=k-(-z)%k:=by
    conv=>lhs;rw [h4]
    rw [Int.mul_add_emod_self_left]
    exact Int.emod_eq_of_lt (by omega) (by omega)
   omega
  ·next h=>
   have h4:(-z)%k=0:=by omega
   have h5:z%k=0:=Int.emod_eq_zero_of_dvd (Int.dvd_neg.1 (Int.dvd_of_emod_eq_zero h4))
   omega
 ·rw [Int.tmod_eq_emod_of_nonneg hz,if_neg (by have:=Int.emod_nonneg z (show k≠0 by omega);omega)]
def mkY (a:Int) (years:Int):Int:=a%years+1
def mkM (b:Int):Int:=b%12+1
def mkD (y m c:Int):Int:=c%dayI y m+1
theorem mk_y {a years:Int} (h:1≤years):1≤mkY a years∧mkY a years≤years:=by
 unfold mkY
 have h1:=Int.emod_nonneg a (show years≠0 by omega)
 have h2:=Int.emod_lt_of_pos a (show 0<years by omega)
 omega
theorem mk_m {b:Int}:1≤mkM b∧mkM b≤12:=by
 unfold mkM
 omega
theorem mk_right {a b c years:Int} (h:1≤years) (hy:years≤9999):rightI (mkY a years) (mkM b) (mkD (mkY a years) (mkM b) c):=by
 have h1:=mk_y (a:=a) h
 have h3:=(day_of (y:=mkY a years) ⟨h1.1,by omega⟩ (mk_m (b:=b))).1
 have h4:=Int.emod_nonneg c (show dayI (mkY a years) (mkM b)≠0 by omega)
 have h5:=Int.emod_lt_of_pos c (show 0<dayI (mkY a years) (mkM b) by omega)
 unfold mkD
 exact ⟨by omega,by omega⟩
def cmpI (y m d y' m' d':Int):Int:=if y<y' then -1 else if y'<y then 1 else if m<m' then -1 else if m'<m then 1 else if d<d' then -1 else if d'<d then 1 else 0
theorem cmp_neg (y m d y' m' d':Int):cmpI y' m' d' y m d= -cmpI y m d y' m' d':=by
 unfold cmpI
 repeat' split
 all_goals omega
theorem cmp_self (y m d:Int):cmpI y m d y m d=0:=by
 unfold cmpI
 repeat' split
 all_goals omega
theorem cmp_lt {y m d y' m' d':Int}:cmpI y m d y' m' d'= -1↔before y m d y' m' d':=by
 unfold cmpI before
 constructor
 ·repeat' split
  all_goals omega
 ·intro h
  repeat' split
  all_goals omega
theorem cmp_gt {y m d y' m' d':Int}:cmpI y m d y' m' d'=1↔before y' m' d' y m d:=by
 unfold cmpI before
 constructor
 ·repeat' split
  all_goals omega
 ·intro h
  repeat' split
  all_goals omega
theorem cmp_num {y m d y' m' d':Int} (h:rightI y m d) (h':rightI y' m' d'):cmpI y m d y' m' d'=if numI y m d<numI y' m' d' then -1 else if numI y' m' d'<numI y m d then 1 else 0:=by
 rcases before_or y m d y' m' d' with hb|⟨rfl,rfl,rfl⟩|hb
 ·rw [cmp_lt.2 hb,if_pos (num_lt h h' hb)]
 ·rw [cmp_self,if_neg (Int.lt_irrefl _),if_neg (Int.lt_irrefl _)]
 ·have:=num_lt h' h hb
  rw [cmp_gt.2 hb,if_neg (by omega),if_pos this]
def dgs (n:Nat):Nat→List UInt8
 |0=> []
 |k+1=>dig (n/10^k)::dgs n k
theorem dgs_four (n:Nat):dgs n 4= [dig (n/1000),dig (n/100),dig (n/10),dig n]:=by simp [dgs]
theorem dgs_two (n:Nat):dgs n 2= [dig (n/10),dig n]:=by simp [dgs]
theorem dgs_text (y m d:Nat):dgs y 4++ [45]++dgs m 2++ [45]++dgs d 2=dText y m d:=by
 rw [dgs_four,dgs_two,dgs_two]
 rfl
theorem div_step (n i:Nat):n/10^i/10=n/10^(i+1):=by rw [Nat.div_div_eq_div_mul,←Nat.pow_succ]
def rdP (s:List UInt8) (a:Nat):Nat→Nat
 |0=>0
 |k+1=>10*rdP s a k+dv (s.getD (a+k) 0)
theorem rd_y (s:List UInt8):rdP s 0 4=yOf s:=by
 simp only [rdP,yOf,Nat.add_zero,Nat.zero_add]
 omega
theorem rd_m (s:List UInt8):rdP s 5 2=mOf s:=by
 simp only [rdP,mOf,Nat.add_zero,Nat.reduceAdd]
 omega
theorem rd_d (s:List UInt8):rdP s 8 2=dOf s:=by
 simp only [rdP,dOf,Nat.add_zero,Nat.reduceAdd]
 omega
theorem rd_le {s:List UInt8} {a:Nat}: ∀k,(∀j,j<k→dgB (s.getD (a+j) 0)=true)→rdP s a k<10^k:=by
 intro k
 induction k with
 |zero=>intro _;exact Nat.one_pos
 |succ k ih=>
  intro h
  have h1:=ih fun j hj=>h j (by omega)
  have h2:=dv_lt (h k (by omega))
  rw [Nat.pow_succ]
  show 10*rdP s a k+dv (s.getD (a+k) 0)<_
  omega
end Go.Proofs.YtjpilacbapibjaaGreatDoor.Da
