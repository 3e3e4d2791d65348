/- Months further: the month, the day; series of dates. No program is named here. -/
import Derived.Test.YtjpilacbapibjaaGreatDoorDc
import Derived.Test.YtjpilacbapibjaaGreatDoorDp
namespace Go.Proofs.YtjpilacbapibjaaGreatDoor.Da
def moI (y m n:Int):Int:=12*(y-1)+m-1+n
def moOk (y m n:Int):Prop:=0≤moI y m n∧moI y m n<119988
instance (y m n:Int):Decidable (moOk y m n):=inferInstanceAs (Decidable (_∧_))
def moY (i:Int):Int:=i/12+1
def moM (i:Int):Int:=i%12+1
def adT (y m d n:Int):Int×Int×Int:=(moY (moI y m n),moM (moI y m n),min d (dayI (moY (moI y m n)) (moM (moI y m n))))
theorem mo_in {i:Int} (h:0≤i∧i<119988):(1≤moY i∧moY i≤9999)∧1≤moM i∧moM i≤12:=by
 unfold moY moM
 omega
theorem mo_of {i y m:Int} (hm:1≤m∧m≤12) (h:12*(y-1)+m-1=i):y=moY i∧m=moM i:=by
 unfold moY moM
 omega
theorem mo_back (i n:Int):moI (moY i) (moM i) n=i+n:=by
 unfold moY moM moI
 omega
theorem mo_base {y m d:Int} (h:rightI y m d):0≤12*(y-1)+m-1∧12*(y-1)+m-1<119988:=by
 have:=right_in h
 omega
theorem ad_day {y m d n:Int} (hd:1≤d) (h:moOk y m n):1≤(adT y m d n).2.2∧(adT y m d n).2.2≤d∧(adT y m d n).2.2≤dayI (adT y m d n).1 (adT y m d n).2.1:=by
 have h1:=mo_in h
 have h2:=day_of h1.1 h1.2
 show 1≤min d (dayI (moY (moI y m n)) (moM (moI y m n)))∧min d (dayI (moY (moI y m n)) (moM (moI y m n)))≤d∧min d (dayI (moY (moI y m n)) (moM (moI y m n)))≤dayI (moY (moI y m n)) (moM (moI y m n))
 omega
theorem ad_right {y m d n:Int} (hd:1≤d) (h:moOk y m n):rightI (adT y m d n).1 (adT y m d n).2.1 (adT y m d n).2.2:=by
 have:=ad_day hd h
 exact ⟨this.1,this.2.2⟩
theorem ad_zero {y m d:Int} (h:rightI y m d):adT y m d 0=(y,m,d):=by
 obtain ⟨hy,hm,h1,h2,_⟩:=right_in h
 have e:=mo_of (i:=moI y m 0) (y:=y) hm (by unfold moI;omega)
 unfold adT
 rw [←e.1,←e.2]
 have:min d (dayI y m)=d:=by omega
 rw [this]
theorem ad_lt {y m d n n':Int} (h:n<n'):before (adT y m d n).1 (adT y m d n).2.1 (adT y m d n).2.2 (adT y m d n').1 (adT y m d n').2.1 (adT y m d n').2.2:=by
 have hi:moI y m n<moI y m n':=by unfold moI;omega
 unfold before
 show moY (moI y m n)<moY (moI y m n')∨moY (moI y m n)=moY (moI y m n')∧(moM (moI y m n)<moM (moI y m n')∨_)
 generalize moI y m n=i at*
 generalize moI y m n'=j at*
 have:moY i<moY j∨moY i=moY j∧moM i<moM j:=by unfold moY moM;omega
 rcases this with h1|⟨h1,h2⟩
 ·exact .inl h1
 ·exact .inr ⟨h1, .inl h2⟩
theorem ad_ad {y m d n k:Int}:(adT (adT y m d n).1 (adT y m d n).2.1 (adT y m d n).2.2 k).1=(adT y m d (n+k)).1∧(adT (adT y m d n).1 (adT y m d n).2.1 (adT y m d n).2.2 k).2.1=(adT y m d (n+k)).2.1∧(adT (adT y m d n).1 (adT y m d n).2.1 (adT y m d n).2.2 k).2.2=min (adT y m d n).2.2 (dayI (adT y m d (n+k)).1 (adT y m d (n+k)).2.1):=by
 have e:moI (adT y m d n).1 (adT y m d n).2.1 k=moI y m (n+k):=by
  show moI (moY (moI y m n)) (moM (moI y m n)) k=_
  rw [mo_back]
  unfold moI
  omega
 unfold adT at e⊢
 simp only at e⊢
 rw [e]
 exact ⟨rfl,rfl,rfl⟩
theorem ok_ok {y m d n k:Int}:moOk (adT y m d n).1 (adT y m d n).2.1 k↔moOk y m (n+k):=by
 have e:moI (adT y m d n).1 (adT y m d n).2.1 k=moI y m (n+k):=by
  show moI (moY (moI y m n)) (moM (moI y m n)) k=_
  rw [mo_back]
  unfold moI
  omega
 unfold moOk
 rw [e]
theorem ad_early {y m d n:Int} (hd:d≤28) (h:moOk y m n):(adT y m d n).2.2=d:=by
 have h1:=mo_in h
 have h2:=day_of h1.1 h1.2
 show min d (dayI (moY (moI y m n)) (moM (moI y m n)))=d
 omega
theorem num_same {y m d d':Int}:numI y m d'-numI y m d=d'-d:=by
 unfold numI
 omega
def dtW (x:Int×Int×Int):List Value:= [.int .i64 x.1, .int .i64 x.2.1, .int .i64 x.2.2]
def serX (y m d s:Int):Nat→List (Int×Int×Int)
 |0=> []
 |k+1=>serX y m d s k++ [adT y m d (((k:Nat)+1:Int)*s)]
def allOk (y m s:Int):Nat→Bool
 |0=>true
 |k+1=>allOk y m s k&&decide (moOk y m (((k:Nat)+1:Int)*s))
theorem ser_len (y m d s:Int): ∀k,(serX y m d s k).length=k:=by
 intro k
 induction k with
 |zero=>rfl
 |succ k ih=>rw [serX,List.length_append,ih];rfl
theorem ser_at (y m d s:Int) {i:Nat}: ∀{k:Nat},i<k→(serX y m d s k).getD i (0,0,0)=adT y m d (((i:Nat)+1:Int)*s):=by
 intro k
 induction k with
 |zero=>intro h;omega
 |succ k ih=>
  intro h
  rw [serX,List.getD_eq_getElem?_getD]
  rcases Nat.lt_or_ge i k with h1|h1
  ·rw [List.getElem?_append_left (by rw [ser_len];exact h1),←List.getD_eq_getElem?_getD]
   exact ih h1
  ·obtain rfl:i=k:=by omega
   rw [List.getElem?_append_right (by rw [ser_len];omega),ser_len,Nat.sub_self]
   rfl
theorem ser_next (y m d s:Int) (k:Nat):(serX y m d s k).map dtW++ [dtW (adT y m d (((k:Nat)+1:Int)*s))]=(serX y m d s (k+1)).map dtW:=by
 rw [serX,List.map_append]
 rfl
theorem allOk_le {y m s:Int}: ∀{k j:Nat},k≤j→allOk y m s j=true→allOk y m s k=true:=by
 intro k j h
 induction j with
 |zero=>
  intro h2
  have e:k=0:=by omega
  rw [e]
  exact h2
 |succ j ih=>
  intro h2
  rcases Nat.lt_or_ge j k with h1|h1
  ·obtain rfl:k=j+1:=by omega
   exact h2
  ·rw [allOk,Bool.and_eq_true] at h2
   exact ih h1 h2.1
theorem allOk_at {y m s:Int} {k j:Nat} (h:k<j) (h2:allOk y m s j=true):moOk y m (((k:Nat)+1:Int)*s):=by
 have:=allOk_le (k:=k+1) h h2
 rw [allOk,Bool.and_eq_true] at this
 exact of_decide_eq_true this.2
theorem allOk_of {y m s:Int}: ∀{j:Nat},(∀k:Nat,k<j→moOk y m (((k:Nat)+1:Int)*s))→allOk y m s j=true:=by
 intro j
 induction j with
 |zero=>intro _;rfl
 |succ j ih=>
  intro h
  rw [allOk,ih (fun k hk=>h k (by omega)),decide_eq_true (h j (by omega))]
  rfl
theorem allOk_no {y m s:Int} {k j:Nat} (h:k<j) (h2: ¬moOk y m (((k:Nat)+1:Int)*s)):allOk y m s j=false:=by
 cases e:allOk y m s j with
 |false=>rfl
 |true=>exact absurd (allOk_at h e) h2
theorem mul_in {a s:Int} {A S:Int} (ha:0≤a∧a≤A) (hs:0≤s∧s≤S):0≤a*s∧a*s≤A*S:=
 ⟨Int.mul_nonneg ha.1 hs.1,Int.mul_le_mul ha.2 hs.2 hs.1 (by omega)⟩
def serOk (y m d s n:Int):Bool:=decide ((1≤s∧0≤n∧n≤1200)∧rightI y m d)&&allOk y m s n.toNat
def serL (y m d s n:Int):List (Int×Int×Int):=if serOk y m d s n=true then serX y m d s n.toNat else []
def serE (y m d s n:Int):Int:=if 1≤s∧0≤n∧n≤1200 then (if serOk y m d s n=true then 0 else 11) else 2
theorem ser_yes {y m d s n:Int} (h:1≤s∧0≤n∧n≤1200) (hr:rightI y m d) (ha:allOk y m s n.toNat=true):serL y m d s n=serX y m d s n.toNat∧serE y m d s n=0:=by
 have e:serOk y m d s n=true:=by unfold serOk;rw [decide_eq_true ⟨h,hr⟩,ha];rfl
 unfold serL serE
 rw [if_pos e,if_pos h,if_pos e]
 exact ⟨rfl,rfl⟩
theorem ser_arg {y m d s n:Int} (h: ¬(1≤s∧0≤n∧n≤1200)):serL y m d s n= []∧serE y m d s n=2:=by
 have e: ¬serOk y m d s n=true:=by unfold serOk;rw [decide_eq_false (fun e=>h e.1),Bool.false_and];decide
 unfold serL serE
 rw [if_neg e,if_neg h]
 exact ⟨rfl,rfl⟩
theorem ser_wrong {y m d s n:Int} (h:1≤s∧0≤n∧n≤1200) (hr: ¬rightI y m d):serL y m d s n= []∧serE y m d s n=11:=by
 have e: ¬serOk y m d s n=true:=by unfold serOk;rw [decide_eq_false (fun e=>hr e.2),Bool.false_and];decide
 unfold serL serE
 rw [if_neg e,if_pos h,if_neg e]
 exact ⟨rfl,rfl⟩
theorem ser_far {y m d s n:Int} {k:Nat} (h:1≤s∧0≤n∧n≤1200) (hk:k<n.toNat) (ha: ¬moOk y m (((k:Nat)+1:Int)*s)):serL y m d s n= []∧serE y m d s n=11:=by
 have e: ¬serOk y m d s n=true:=by unfold serOk;rw [allOk_no hk ha,Bool.and_false];decide
 unfold serL serE
 rw [if_neg e,if_pos h,if_neg e]
 exact ⟨rfl,rfl⟩
theorem far_one {y m d s:Int} {k:Nat} (hr:rightI y m d) (hs:119988≤s): ¬moOk y m (((k:Nat)+1:Int)*s):=fun h=>by
 have h1:=mo_base hr
 have h2:s≤((k:Nat)+1:Int)*s:=by
  have:=Int.mul_le_mul_of_nonneg_right (show (1:Int)≤(k:Nat)+1 by omega) (show 0≤s by omega)
  omega
 have h3:=h.2
 unfold moI at h3
 omega
end Go.Proofs.YtjpilacbapibjaaGreatDoor.Da
