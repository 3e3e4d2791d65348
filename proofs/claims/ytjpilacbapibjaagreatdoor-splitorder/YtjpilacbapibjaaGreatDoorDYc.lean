/- Package date: the calendar. Written by a script (tools/laws). -/
import Derived.Test.YtjpilacbapibjaaGreatDoorDYb
import Derived.Test.YtjpilacbapibjaaGreatDoorDp
namespace Go.Proofs.YtjpilacbapibjaaGreatDoor.X
open Go.Proofs.YtjpilacbapibjaaGreatDoor.Da
open Go.RowKit Go.Proofs.YtjpilacbapibjaaGreatDoor.Z
set_option linter.unusedVariables false
def chkI (y m d:Int):Int:=if rightI y m d then 0 else 11
def nbI (y m d:Int):Int:=if rightI y m d then numI y m d else 0
def wkI (y m d:Int):Int:=if rightI y m d then (numI y m d-1)%7 else 0
def prT (y m d:Int):List UInt8:=if rightI y m d then dText y.toNat m.toNat d.toNat else []
def ofE (z:Int):Int:=if 1≤z∧z≤3652059 then 0 else 11
theorem chk_1 {y m d:Int} (h:rightI y m d):chkI y m d=0∧nbI y m d=numI y m d∧wkI y m d=(numI y m d-1)%7∧prT y m d=dText y.toNat m.toNat d.toNat:=by
 unfold chkI nbI wkI prT
 rw [if_pos h,if_pos h,if_pos h,if_pos h]
 exact ⟨rfl,rfl,rfl,rfl⟩
theorem chk_0 {y m d:Int} (h: ¬rightI y m d):chkI y m d=11∧nbI y m d=0∧wkI y m d=0∧prT y m d= []:=by
 unfold chkI nbI wkI prT
 rw [if_neg h,if_neg h,if_neg h,if_neg h]
 exact ⟨rfl,rfl,rfl,rfl⟩
theorem chk_n {y m d:Int} (h: ¬rightI y m d):(!decide ((chkI y m d:Int)=0))=true:=by rw [(chk_0 h).1];rfl
theorem chk_y {y m d:Int} (h: ¬ ¬rightI y m d):(!decide ((chkI y m d:Int)=0))=false:=by rw [(chk_1 (by simpa using h)).1];rfl
theorem chk_b {y m d:Int}:cond (decide (d<(1:Int))) true (decide (dayI y m<d))= !decide (rightI y m d):=by
 by_cases h:d<(1:Int)
 ·rw [decide_eq_true h,decide_eq_false (show ¬rightI y m d from fun e=>by have:=e.1;omega)]
  rfl
 ·by_cases h2:dayI y m<d
  ·rw [decide_eq_false h,decide_eq_true h2,decide_eq_false (show ¬rightI y m d from fun e=>by have:=e.2;omega)]
   rfl
  ·rw [decide_eq_false h,decide_eq_false h2,decide_eq_true (show rightI y m d from ⟨by omega,by omega⟩)]
   rfl
theorem leap_p {y:Int} (h: ¬ ¬(1≤y∧y≤9999)):cond (cond (decide (y%4=0)) (!decide (y%100=0)) false) true (decide (y%400=0))=leapI y:=by
 rw [Bool.eq_iff_iff,leap_iff]
 by_cases a:y%4=0<;>by_cases b:y%100=0<;>by_cases c:y%400=0<;>simp [a,b,c]<;>omega
theorem md_at {m:Int} (h1:1≤m) (h2:m≤12):mdL.getD (m-1).toNat 0=if m=2 then 28 else if m=4∨m=6∨m=9∨m=11 then 30 else 31:=by
 obtain ⟨k,rfl⟩: ∃k:Nat,m=(k:Int)+1:=⟨(m-1).toNat,by omega⟩
 rw [show ((k:Int)+1-1).toNat=k by omega]
 have hk:k<12:=by omega
 rcases k with _|_|_|_|_|_|_|_|_|_|_|_|k<;>first|rfl|omega
theorem day_p {y m:Int} (h:(1≤y∧y≤9999)∧1≤m∧m≤12) (h2: ¬(m=2∧leapI y=true)):mdL.getD (m-1).toNat 0=dayI y m:=by
 rw [md_at h.2.1 h.2.2]
 refine day_yes h ?_
 by_cases e:m=2
 ·rw [if_pos e,if_pos e,if_neg (fun e2=>h2 ⟨e,e2⟩)]
 ·rw [if_neg e,if_neg e]
theorem day_p2 {y m:Int} (h:(1≤y∧y≤9999)∧1≤m∧m≤12) (h2:m=2∧leapI y=true):mdL.getD (m-1).toNat 0+1=dayI y m:=by
 rw [md_at h.2.1 h.2.2,if_pos h2.1]
 exact day_yes h (by rw [if_pos h2.1,if_pos h2.2];rfl)
theorem md_in {m:Int} (h1:1≤m) (h2:m≤12):28≤mdL.getD (m-1).toNat 0∧mdL.getD (m-1).toNat 0≤31:=by
 rw [md_at h1 h2]
 repeat' split
 all_goals omega
theorem lp_b {y m:Int}:cond (decide ((m:Int)=2)) (leapI y) false=decide (m=2∧leapI y=true):=by
 by_cases h:m=2<;>cases leapI y<;>simp [h]
theorem tdN (n k:Nat):(n:Int).tdiv (k:Int)=((n/k:Nat):Int):=by
 rw [Int.tdiv_eq_ediv_of_nonneg (by omega)]
 simp
theorem yS_at {n:Nat} (h:n≤9999):365*(n:Int)+((n/4:Nat):Int) -((n/100:Nat):Int)+((n/400:Nat):Int)=yS n:=by
 rw [yS_eq n h]
 omega
def cmpZ (a b:Int):Int:=if a<b then -1 else if b<a then 1 else 0
def or3 (a b c:Int):Int:=if a≠0 then a else if b≠0 then b else c
theorem cmpZ_lt {a b:Int} (h:a<b):(-1:Int)=cmpZ a b:=by unfold cmpZ;rw [if_pos h]
theorem cmpZ_gt {a b:Int} (h: ¬a<b) (h2:b<a):(1:Int)=cmpZ a b:=by unfold cmpZ;rw [if_neg h,if_pos h2]
theorem cmpZ_eq {a b:Int} (h: ¬a<b) (h2: ¬b<a):(0:Int)=cmpZ a b:=by unfold cmpZ;rw [if_neg h,if_neg h2]
theorem or3_at {a b c:Int} {i:Nat} (h:i<3) (h2: ∀j,j<i→at3 a b c j=0) (h3: ¬at3 a b c i=0):at3 a b c i=or3 a b c:=by
 unfold or3
 rcases i with _|_|_|i
 ·have h3: ¬a=0:=h3
  rw [if_pos h3]
  rfl
 ·have h3: ¬b=0:=h3
  have e:a=0:=h2 0 (by omega)
  rw [if_neg (by omega),if_pos h3]
  rfl
 ·have e:a=0:=h2 0 (by omega)
  have e2:b=0:=h2 1 (by omega)
  rw [if_neg (by omega),if_neg (by omega)]
  rfl
 ·omega
theorem or3_no {a b c:Int} (h2: ∀j,j<3→at3 a b c j=0):(0:Int)=or3 a b c:=by
 have e:a=0:=h2 0 (by omega)
 have e2:b=0:=h2 1 (by omega)
 have e3:c=0:=h2 2 (by omega)
 unfold or3
 rw [if_neg (by omega),if_neg (by omega),e3]
theorem or_cmp (y m d y' m' d':Int):or3 (cmpZ y y') (cmpZ m m') (cmpZ d d')=cmpI y m d y' m' d':=by
 unfold or3 cmpZ cmpI
 repeat' split
 all_goals omega
theorem or4 (a:Int) (i:Nat):3≤i∨(i<3∧ ¬a=0)∨(i<3∧a=0):=by omega
theorem u64_in {m:Int} (h1:0≤m) (h2:m≤9223372036854775807):IntKind.u64.wrap m=m:=by
 have e:m%(2^IntKind.u64.bits:Int)=m:=Int.emod_eq_of_lt h1 (by show m<18446744073709551616;omega)
 unfold IntKind.wrap
 rw [e]
 rfl
theorem sr3 (z:Int) (i j:Nat):j≤i∨(i<j∧yB z ((i+j)/2)=false)∨(i<j∧yB z ((i+j)/2)=true):=by
 rcases Nat.lt_or_ge i j with h|h
 ·cases yB z ((i+j)/2)
  ·exact .inr (.inl ⟨h,rfl⟩)
  ·exact .inr (.inr ⟨h,rfl⟩)
 ·exact .inl h
def dl (z:Int):Nat→Int
 |0=>z-yS (yrN z-1)
 |b+1=>dl z b-dayI ((yrN z:Nat):Int) ((b:Int)+1)
theorem dl_eq (z:Int): ∀b,dl z b=z-yS (yrN z-1) -mS ((yrN z:Nat):Int) b:=by
 intro b
 induction b with
 |zero=>show z-yS (yrN z-1)=z-yS (yrN z-1) -0;omega
 |succ b ih=>
  show dl z b-dayI ((yrN z:Nat):Int) ((b:Int)+1)=z-yS (yrN z-1) -(mS ((yrN z:Nat):Int) b+dayI ((yrN z:Nat):Int) ((b:Int)+1))
  omega
theorem dl_in {z:Int} (h1:1≤z) (h2:z≤3652059) {b:Nat} (hb:b≤12): -400≤dl z b∧dl z b≤366:=by
 obtain ⟨a1,a2,a3,a4⟩:=yr_spec h1 h2
 have hy:1≤((yrN z:Nat):Int)∧((yrN z:Nat):Int)≤9999:=by omega
 have e1:=mS_le hy (n:=0) (m:=b) (by omega) hb
 have e2:=mS_le hy (n:=b) (m:=12) hb (by omega)
 rw [mS_year hy] at e2
 have e3:=yr_lo ((yrN z:Nat):Int)
 have e4:yS (yrN z)=yS (yrN z-1)+yrI ((yrN z:Nat):Int):=by
  obtain ⟨k,hk⟩: ∃k,yrN z=k+1:=⟨yrN z-1,by omega⟩
  rw [hk]
  rfl
 have e5:mS ((yrN z:Nat):Int) 0=0:=rfl
 rw [dl_eq]
 omega
theorem dl_next {z:Int} (h1:1≤z) (h2:z≤3652059) {b:Nat} (hb:b<12) (h:dayI ((yrN z:Nat):Int) ((b:Int)+1)<dl z b):b+1<12:=by
 obtain ⟨a1,a2,a3,a4⟩:=yr_spec h1 h2
 have hy:1≤((yrN z:Nat):Int)∧((yrN z:Nat):Int)≤9999:=by omega
 rcases Nat.lt_or_ge (b+1) 12 with h3|h3
 ·exact h3
 ·obtain rfl:b=11:=by omega
  have e4:yS (yrN z)=yS (yrN z-1)+yrI ((yrN z:Nat):Int):=by
   obtain ⟨k,hk⟩: ∃k,yrN z=k+1:=⟨yrN z-1,by omega⟩
   rw [hk]
   rfl
  have e5:mS ((yrN z:Nat):Int) 12=mS ((yrN z:Nat):Int) 11+dayI ((yrN z:Nat):Int) (((11:Nat):Int)+1):=rfl
  rw [mS_year hy] at e5
  rw [dl_eq] at h
  omega
theorem dl_end {z:Int} (h1:1≤z) (h2:z≤3652059) {b:Nat} (hb:b<12) (h3:0<dl z b) (h4:dl z b≤dayI ((yrN z:Nat):Int) ((b:Int)+1)):dtN z=(((yrN z:Nat):Int),(b:Int)+1,dl z b):=by
 rw [dl_eq] at h3 h4⊢
 exact dtN_at h1 h2 hb (by omega) h4
def vI3:Vw (Int×Int×Int):=⟨fun| .L _ 1 [[.int .i64 a],[.int .i64 b],[.int .i64 c]] false=>some (a,b,c)|_=>none,fun a w v=>isRd (cxA w) true 1 [[.int .i64 a.1],[.int .i64 a.2.1],[.int .i64 a.2.2]] w v,fun k a h w v hv=>by
 split at h
 ·injection h with h
  subst h
  exact hv
 ·cases h⟩
theorem pLeap_t {w:World} {v0:Value} {y:Int} (h0:(isE (.int .i64 y)) w v0):Calls Tryz.prog 100 #[v0] w (Ret w fun v w'=>(isE (.bool (leapI y))) w' v):=by
 exact fx ctb28 Tryz.func100 (hnX [(1,[(3,777777,none),(4,777777,none),(5,777777,none)]),(3,[(1,0,oS (eI (y%4))),(4,777777,none),(5,777777,oS (eI (y%100))),(6,777777,none),(7,777777,none),(9,777777,none),(10,777777,oS (eI (y%400))),(11,777777,none),(12,777777,none)])]) [(0,eI y)] (.s (eB (leapI y))) ⟨h0,trivial⟩ (im2 (decide ((y:Int)<1)==false)∧(decide ((y:Int)<1)=false→(decide ((y:Int)<1)==false)=true)∧cnd (cond (decide ((y:Int)<1)) true (decide ((9999:Int)<y))) (false=leapI y) ((4≠(0:Int))∧tI (Int.tmod y 4) (y%4)∧((decide ((y%4:Int)=0)==true)=true→100≠(0:Int))∧((decide ((y%4:Int)=0)==true)=true→tI (Int.tmod y 100) (y%100))∧im2 (decide ((y%4:Int)=0)==true)∧im2 (decide ((y%4:Int)=0)==true)∧(decide ((y%4:Int)=0)=true→(decide ((y%4:Int)=0)==true)=true)∧((cond (decide ((y%4:Int)=0)) (!decide ((y%100:Int)=0)) false==false)=true→400≠(0:Int))∧((cond (decide ((y%4:Int)=0)) (!decide ((y%100:Int)=0)) false==false)=true→tI (Int.tmod y 400) (y%400))∧im2 (cond (decide ((y%4:Int)=0)) (!decide ((y%100:Int)=0)) false==false)∧im2 (cond (decide ((y%4:Int)=0)) (!decide ((y%100:Int)=0)) false==false)∧(cond (decide ((y%4:Int)=0)) (!decide ((y%100:Int)=0)) false=false→(cond (decide ((y%4:Int)=0)) (!decide ((y%100:Int)=0)) false==false)=true)∧cond (cond (decide ((y%4:Int)=0)) (!decide ((y%100:Int)=0)) false) true (decide ((y%400:Int)=0))=leapI y)) ⟨id,(fun hp=>by simp_all),(Classical.em (¬(1≤y∧y≤9999))).elim (fun hy=>cnd_t (by simp;omega) (by first|exact leap_1 hy|exact leap_p hy)) (fun hy=>cnd_f (by simp;omega) ⟨(by decide),⟨rfl,Int.tmod_eq_emod_of_nonneg (by omega)⟩,(fun hg=>(by decide)),(fun hg=>⟨rfl,Int.tmod_eq_emod_of_nonneg (by omega)⟩),id,id,(fun hp=>by simp_all),(fun hg=>(by decide)),(fun hg=>⟨rfl,Int.tmod_eq_emod_of_nonneg (by omega)⟩),id,id,(fun hp=>by rw [hp];rfl),(by first|exact leap_1 hy|exact leap_p hy)⟩)⟩
theorem pYears_t {w:World} {v0:Value} {n:Nat} (h0:(isE (.int .i64 (n:Int))) w v0) (hn:n≤9999):Calls Tryz.prog 101 #[v0] w (Ret w fun v w'=>(isE (.int .i64 (yS n))) w' v):=by
 exact fx ctb28 Tryz.func101 (hnX [(1,[(3,0,oS (eI ((n/4:Nat):Int))),(6,0,oS (eI ((n/100:Nat):Int))),(9,0,oS (eI ((n/400:Nat):Int)))])]) [(0,eI (n:Int))] (.s (eI (yS n))) ⟨h0,trivial⟩ (wp (365*(n:Int))∧((4:Int)≠0)∧IntKind.i64.wrap ((n:Int).tdiv 4)=(n:Int).tdiv 4∧tI ((n:Int).tdiv 4) ((n/4:Nat):Int)∧wp ((365*(n:Int))+((n/4:Nat):Int))∧((100:Int)≠0)∧IntKind.i64.wrap ((n:Int).tdiv 100)=(n:Int).tdiv 100∧tI ((n:Int).tdiv 100) ((n/100:Nat):Int)∧wp (((365*(n:Int))+((n/4:Nat):Int)) -((n/100:Nat):Int))∧((400:Int)≠0)∧IntKind.i64.wrap ((n:Int).tdiv 400)=(n:Int).tdiv 400∧tI ((n:Int).tdiv 400) ((n/400:Nat):Int)∧wp ((((365*(n:Int))+((n/4:Nat):Int)) -((n/100:Nat):Int))+((n/400:Nat):Int))∧tI ((((365*(n:Int))+((n/4:Nat):Int)) -((n/100:Nat):Int))+((n/400:Nat):Int)) (yS n)) ⟨wi (by omega),(by omega),(by rw [show (n:Int).tdiv 4=((n/4:Nat):Int) from tdN n 4];exact i64_in (by omega) (by omega)),⟨rfl,tdN n 4⟩,wi (by omega),(by omega),(by rw [show (n:Int).tdiv 100=((n/100:Nat):Int) from tdN n 100];exact i64_in (by omega) (by omega)),⟨rfl,tdN n 100⟩,wi (by omega),(by omega),(by rw [show (n:Int).tdiv 400=((n/400:Nat):Int) from tdN n 400];exact i64_in (by omega) (by omega)),⟨rfl,tdN n 400⟩,wi (by omega),⟨rfl,yS_at hn⟩⟩
noncomputable def ctb29:List (Ct dk):= [
 ct1 100 0 en100 vI (fun x=> .s (eB (leapI x))) (fun x=> []) fun _ p _ _ h1=>pLeap_t h1]++ctb28
theorem pDays_t {w:World} {v0 v1:Value} {y m:Int} (h0:(isE (.int .i64 y)) w v0) (h1:(isE (.int .i64 m)) w v1) (hw:isTb w v0):Calls Tryz.prog 102 #[v0,v1] w (Ret w fun v w'=>(isE (.int .i64 (dayI y m))) w' v):=by
 exact fx ctb29 Tryz.func102 (hnX [(1,[(3,777777,none),(4,777777,none),(5,777777,none),(7,777777,none),(8,777777,none),(9,777777,none),(11,777777,none),(12,777777,none),(13,777777,none)]),(3,[(1,0,oS (eI (((m-1).toNat:Nat):Int)))]),(4,[(3,777777,none),(4,777777,none),(5,777777,none)])]) [(0,eI y),(1,eI m),(1000000, .O .Tb)] (.s (eI (dayI y m))) ⟨h0,h1,hw,trivial⟩ (im2 (decide ((y:Int)<1)==false)∧(decide ((y:Int)<1)=false→(decide ((y:Int)<1)==false)=true)∧im2 (cond (decide ((y:Int)<1)) true (decide ((9999:Int)<y))==false)∧(cond (decide ((y:Int)<1)) true (decide ((9999:Int)<y))=false→(cond (decide ((y:Int)<1)) true (decide ((9999:Int)<y))==false)=true)∧im2 (cond (cond (decide ((y:Int)<1)) true (decide ((9999:Int)<y))) true (decide ((m:Int)<1))==false)∧(cond (cond (decide ((y:Int)<1)) true (decide ((9999:Int)<y))) true (decide ((m:Int)<1))=false→(cond (cond (decide ((y:Int)<1)) true (decide ((9999:Int)<y))) true (decide ((m:Int)<1))==false)=true)∧cnd (cond (cond (cond (decide ((y:Int)<1)) true (decide ((9999:Int)<y))) true (decide ((m:Int)<1))) true (decide ((12:Int)<m))) (tI 0 (dayI y m)) (wp (m-1)∧tI (m-1) (((m-1).toNat:Nat):Int)∧(m-1).toNat<12∧im2 (decide ((m:Int)=2)==true)∧(decide ((m:Int)=2)=true→(decide ((m:Int)=2)==true)=true)∧cnd (cond (decide ((m:Int)=2)) (leapI y) false) (wp (mdL.getD ((m-1).toNat) 0+1)∧tI (mdL.getD ((m-1).toNat) 0+1) (dayI y m)) (tI (mdL.getD ((m-1).toNat) 0) (dayI y m)))) ⟨id,(fun hp=>by simp_all),id,(fun hp=>by simp_all),id,(fun hp=>by simp_all),(Classical.em (¬((1≤y∧y≤9999)∧1≤m∧m≤12))).elim (fun hy=>cnd_t (by simp;omega) ⟨rfl,by first|exact (day_none (by omega)).symm|exact day_p (by omega) hl|exact day_p2 (by omega) hl⟩) (fun hy=>cnd_f (by simp;omega) ⟨wi (by omega),⟨rfl,by omega⟩,(by omega),id,(fun hp=>by simp_all),(Classical.em (m=2∧leapI y=true)).elim (fun hl=>cnd_t (by rw [lp_b];exact decide_eq_true hl) ⟨i64_in (by have:=md_in (m:=m) (by omega) (by omega);omega) (by have:=md_in (m:=m) (by omega) (by omega);omega),⟨rfl,by first|exact (day_none (by omega)).symm|exact day_p (by omega) hl|exact day_p2 (by omega) hl⟩⟩) (fun hl=>cnd_f (by rw [lp_b];exact decide_eq_false hl) ⟨rfl,by first|exact (day_none (by omega)).symm|exact day_p (by omega) hl|exact day_p2 (by omega) hl⟩)⟩)⟩
noncomputable def ctb30:List (Ct dk):= [
 ct2w 102 0 en102 vI vI (.O .Tb) isTbk isTbk_ok (fun x y=> .s (eI (dayI x y))) (fun x y=> []) fun _ _ p _ _ _ _ h1 h2 hW=>pDays_t h1 h2 hW]++ctb29
theorem pCheck_t {w:World} {v0:Value} {y m d:Int} (h0:(f0 w (.s (eD y m d))).p w v0) (hw:isTb w v0):Calls Tryz.prog 71 #[v0] w (Ret w fun v w'=>(isE (.int .i64 (chkI y m d))) w' v):=by
 exact fx ctb30 Tryz.func71 (hnX [(1,[(4,777777,none),(5,777777,none),(6,777777,none),(7,777777,none),(8,777777,none),(9,777777,none),(10,777777,none),(11,777777,none),(12,777777,none)])]) [(0,eD y m d),(1000000, .O .Tb)] (.s (eI (chkI y m d))) ⟨h0,hw,trivial⟩ (im2 (decide ((d:Int)<1)==false)∧im2 (decide ((d:Int)<1)==false)∧im2 (decide ((d:Int)<1)==false)∧im2 (decide ((d:Int)<1)==false)∧im2 (decide ((d:Int)<1)==false)∧im2 (decide ((d:Int)<1)==false)∧im2 (decide ((d:Int)<1)==false)∧(decide ((d:Int)<1)=false→(decide ((d:Int)<1)==false)=true)∧cnd (cond (decide ((d:Int)<1)) true (decide ((dayI y m:Int)<d))) (tI 11 (chkI y m d)) (tI 0 (chkI y m d))) ⟨id,id,id,id,id,id,id,(fun hp=>by simp_all),(Classical.em (¬rightI y m d)).elim (fun hr=>cnd_t (by rw [chk_b,decide_eq_false hr];rfl) ⟨rfl,by first|exact (chk_0 hr).1.symm|exact (chk_1 (by simpa using hr)).1.symm⟩) (fun hr=>cnd_f (by rw [chk_b,decide_eq_true (by simpa using hr)];rfl) ⟨rfl,by first|exact (chk_0 hr).1.symm|exact (chk_1 (by simpa using hr)).1.symm⟩)⟩
theorem nb_at {y m d:Int} {b:Nat} (h: ¬ ¬rightI y m d) (hb:b=(m-1).toNat):nY (y-1).toNat y b+d=nbI y m d:=by
 rw [(chk_1 (by simpa using h)).2.1,nY_eq,hb]
 rfl
theorem pn_hy {y m d:Int} (h: ¬ ¬rightI y m d):(1≤y∧y≤9999)∧(1≤m∧m≤12)∧1≤d∧d≤31:=by
 have:=right_in (show rightI y m d by simpa using h)
 exact ⟨this.1,this.2.1,this.2.2.1,this.2.2.2.2⟩
noncomputable def ctb31:List (Ct dk):= [
 ct1 101 0 en101 vIn (fun x=> .s (eI (yS x))) (fun x=> [x≤9999]) fun _ p _ _ h1=>pYears_t h1 p.1,
 ct1w 71 0 en71 vDt (.O .Tb) isTbk isTbk_ok (fun x=> .s (eI (chkI x.1 x.2.1 x.2.2))) (fun x=> []) fun _ p _ _ _ h1 hW=>pCheck_t h1 hW]++ctb30
noncomputable abbrev rpNumber_t:=rX ctb31 Tryz.f68
noncomputable abbrev dpNumber_t (y m d:Int):=dX ctb31 Tryz.f68 (.t [eI (nbI y m d),eI (chkI y m d)])
noncomputable def hpNumber_t (y m d:Int):Nat→Hint K:=hnX [(4,[(2,0,oS (eI (((y-1).toNat:Nat):Int)))])]
noncomputable def ipNumber_t_0 (y m d:Int) (b:Nat):Sx K:=⟨[(3,eI 0),(2,eI 0),(1000000, .O .Tb),(6,eI ((b:Int)+1)),(5,eI (nY (y-1).toNat y b))],[⟨1,28,eD y m d⟩]⟩
noncomputable def hpNumber_t_0_0 (y m d:Int) (b:Nat):Nat→Hint K:=hnX [(6,[(3,0,oS (eB true))])]
noncomputable def hpNumber_t_0_1 (y m d:Int) (b:Nat):Nat→Hint K:=hnX [(6,[(3,0,oS (eB false))])]
theorem pNumber_t {w:World} {v0:Value} {y m d:Int} (h0:(f0 w (.s (eD y m d))).p w v0) (hw:isTb w v0):Calls Tryz.prog 68 #[v0] w (Ret w fun v w'=>(f0 w (.t [eI (nbI y m d),eI (chkI y m d)])).p w' v):=by
 exact fx ctb31 Tryz.func68 (hpNumber_t y m d) [(0,eD y m d),(1000000, .O .Tb)] (.t [eI (nbI y m d),eI (chkI y m d)]) ⟨h0,hw,trivial⟩ (cnd (!decide ((chkI y m d:Int)=0)) (tI 0 (nbI y m d)∧tI (chkI y m d) (chkI y m d)∧True) (wp (y-1)∧tI (y-1) (((y-1).toNat:Nat):Int)∧(y-1).toNat≤9999∧dpNumber_t y m d [1,1,0,1] [(hpNumber_t y m d)] [] (rlX (rpNumber_t (hpNumber_t y m d)) [5,4,2,1] (ent Tryz.prog Tryz.f68 (κ:=K) [(0,eD y m d),(1000000, .O .Tb)])))) ((Classical.em (¬rightI y m d)).elim (fun hr=>cnd_t (chk_n hr) ⟨⟨rfl,by first|exact (chk_0 hr).2.1.symm|exact nb_at hr hC1⟩,⟨rfl,by first|rfl|exact (chk_1 (by simpa using hr)).1.symm⟩,trivial⟩) (fun hr=>cnd_f (chk_y hr) ⟨i64_in (by have:=pn_hy hr;omega) (by have:=pn_hy hr;omega),⟨rfl,by have:=pn_hy hr;omega⟩,(by have:=pn_hy hr;omega),(lpI (fun h S' J=>dpNumber_t y m d [1,1,0,1,0,2] [(hpNumber_t y m d),h] [J] S') (fun b:Nat=>b≤(m-1).toNat) (fun b=>(m-1).toNat-b) (ipNumber_t_0 y m d) (0) (rlX (rpNumber_t (hpNumber_t y m d)) [5,4,2,1] (ent Tryz.prog Tryz.f68 (κ:=K) [(0,eD y m d),(1000000, .O .Tb)])) (Nat.zero_le _) (fun b hC1 J1 hJ1=>(by
  have hq:=pn_hy hr
  have hyb:=nY_in hq.1 (p:=(y-1).toNat) (b:=b) (by omega) (by omega)
  have hdd:=day_of hq.1 (m:=(b:Int)+1)
  rcases Nat.lt_or_ge b (m-1).toNat with h8|h8
  ·exact ⟨hpNumber_t_0_0 y m d b,vcP (decide (((b:Int)+1:Int)<m)=true∧wp (nY (y-1).toNat y b+dayI y ((b:Int)+1))∧wp (((b:Int)+1)+1)∧J1 (rlX (rpNumber_t (hpNumber_t_0_0 y m d b)) [7,8,6] (ipNumber_t_0 y m d b))) ⟨decide_eq_true (by omega),wi (by omega),wi (by omega),hJ1 (b+1) _ (by omega) (by omega) ⟨by kernel_rfl,by kernel_rfl⟩⟩⟩
  ·exact ⟨hpNumber_t_0_1 y m d b,vcP (decide (((b:Int)+1:Int)<m)=false∧(wp (nY (y-1).toNat y b+d)∧(tI (nY (y-1).toNat y b+d) (nbI y m d)∧tI 0 (chkI y m d)∧True))) ⟨decide_eq_false (by omega),(have hC1:b=(m-1).toNat:=(by have:=pn_hy hr;omega);⟨wi (by omega),⟨⟨rfl,by first|exact (chk_0 hr).2.1.symm|exact nb_at hr hC1⟩,⟨rfl,by first|rfl|exact (chk_1 (by simpa using hr)).1.symm⟩,trivial⟩⟩)⟩⟩)))⟩))
end Go.Proofs.YtjpilacbapibjaaGreatDoor.X
