/- Year fractions near one another are quotients of small numbers: how long they are at most. -/
import Derived.Test.YtjpilacbapibjaaGreatDoorCOb
import Derived.Test.YtjpilacbapibjaaGreatDoorSp
namespace Go.Proofs.YtjpilacbapibjaaGreatDoor
open Go.RowKit
theorem natAbs_ediv_le {a:Int} {g:Nat}:(a/((g:Nat):Int)).natAbs≤a.natAbs:=by
 have:=Int.natAbs_ediv_le_natAbs a g
 exact this
theorem quo_lo {q:Rat} {a d:Int} (h:q=((a:Int):Rat)/((d:Int):Rat)) (hd:0<d):q.num.natAbs≤a.natAbs∧q.den≤d.natAbs:=by
 rw [of_rat_pos_eq hd] at h
 obtain ⟨e1,e2⟩:=rat_num_of (by omega) q h
 rw [e1,e2]
 exact ⟨natAbs_ediv_le,Nat.div_le_self _ _⟩
theorem IsR.lo {w:World} {v:Value} {q:Rat} {k:Nat} {a d:Int} (h:IsR w v q k) (e:q=((a:Int):Rat)/((d:Int):Rat)) (hd:0<d) (ha:a.natAbs<10000000000000000) (hd':d.natAbs<10000000000000000):IsR w v q 4:=by
 obtain ⟨A,l,c,A',l',c',e',⟨B1,b2,p1,p2,p3,_⟩,⟨C1,c2,q1,q2,q3,_⟩⟩:=h
 obtain ⟨h1,h2⟩:=quo_lo e hd
 have hp:Dx.B^4=10000000000000000:=by decide
 exact ⟨A,l,c,A',l',c',e',⟨B1,b2,p1,p2,p3,Dx.len_le_of_lt _ _ (by rw [hp];omega)⟩,⟨C1,c2,q1,q2,q3,Dx.len_le_of_lt _ _ (by rw [hp];omega)⟩⟩
namespace Da
theorem yr_quo {k y m d y' m' d':Int} (hk:0≤k∧k≤2) (h:rightI y m d) (h':rightI y' m' d'): ∃a b:Int,yrQ k y m d y' m' d'=((a:Int):Rat)/((b:Int):Rat)∧0<b∧a.natAbs<10000000000000000∧b.natAbs<10000000000000000:=by
 have q:=right_in h
 have q':=right_in h'
 have n:=num_in h
 have n':=num_in h'
 obtain hk|hk|hk:k=0∨k=1∨k=2:=by omega
 ·subst hk
  refine ⟨_,360,yr_0,by decide, ?_,by decide⟩
  unfold thN thB thA
  repeat' split<;>omega
 ·subst hk
  exact ⟨_,365,yr_1,by decide,by omega,by decide⟩
 ·subst hk
  have l:=ld_in h
  have l':=ld_in h'
  refine ⟨(ldI y' m' d'-ldI y m d)*365+(numI y' m' d'-numI y m d-(ldI y' m' d'-ldI y m d))*366,366*365, ?_,by decide,by omega,by decide⟩
  rw [yr_ld]
  generalize ldI y' m' d'-ldI y m d=L
  generalize numI y' m' d'-numI y m d-L=M
  rw [Rat.intCast_add,Rat.intCast_mul,Rat.intCast_mul,Rat.intCast_mul]
  grind
end Da
end Go.Proofs.YtjpilacbapibjaaGreatDoor
