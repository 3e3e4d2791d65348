/- Package month. Written by a script (tools/laws). -/
import Derived.Test.YtjpilacbapibjaaGreatDoorMOa
namespace Go.Proofs.YtjpilacbapibjaaGreatDoor.X
open Go.Proofs.YtjpilacbapibjaaGreatDoor.Da
open Go.RowKit Go.Proofs.YtjpilacbapibjaaGreatDoor.Z
set_option linter.unusedVariables false
def adP (y m d n:Int):Int×Int×Int:=if rightI y m d∧moOk y m n then adT y m d n else (0,0,0)
def adE (y m d n:Int):Int:=if rightI y m d∧moOk y m n then 0 else 11
theorem ap_yes {y m d n:Int} (hr:rightI y m d) (h:moOk y m n):adP y m d n=adT y m d n∧adE y m d n=0:=by
 unfold adP adE
 rw [if_pos ⟨hr,h⟩,if_pos ⟨hr,h⟩]
 exact ⟨rfl,rfl⟩
theorem ap_wrong {y m d n:Int} (hr: ¬rightI y m d):adP y m d n=(0,0,0)∧adE y m d n=11:=by
 unfold adP adE
 rw [if_neg (fun e=>hr e.1),if_neg (fun e=>hr e.1)]
 exact ⟨rfl,rfl⟩
theorem ap_far {y m d n:Int} (h: ¬moOk y m n):adP y m d n=(0,0,0)∧adE y m d n=11:=by
 unfold adP adE
 rw [if_neg (fun e=>h e.2),if_neg (fun e=>h e.2)]
 exact ⟨rfl,rfl⟩
theorem wrap_hi {x:Int} (h1:9223372036854775808≤x) (h2:x<18446744073709551616):IntKind.i64.wrap x=x-18446744073709551616:=by
 have e:IntKind.i64.bits=64:=rfl
 have e2:IntKind.i64.signed=true:=rfl
 simp [IntKind.wrap,e,e2]
 omega
theorem wrap_or {a n:Int} (ha:0≤a∧a≤4000000) (hn: -9223372036854775808≤n∧n≤9223372036854775807):(a+n≤9223372036854775807∧IntKind.i64.wrap (a+n)=a+n)∨(9223372036854775807<a+n∧IntKind.i64.wrap (a+n)<0):=by
 rcases Int.lt_or_le 9223372036854775807 (a+n) with h|h
 ·refine .inr ⟨h, ?_⟩
  rw [wrap_hi (by omega) (by omega)]
  omega
 ·exact .inl ⟨h,i64_in (by omega) h⟩
theorem mo_or {y m d n:Int} (hr: ¬ ¬rightI y m d) (hn: -9223372036854775808≤n∧n≤9223372036854775807):(IntKind.i64.wrap (moI y m n)=moI y m n)∨(9223372036854775807<moI y m n∧IntKind.i64.wrap (moI y m n)<0):=by
 have h:=mo_base (show rightI y m d by simpa using hr)
 rcases wrap_or (a:=12*(y-1)+m-1) (by omega) hn with h1|h1
 ·exact .inl h1.2
 ·exact .inr h1
theorem wr_b {y m d n:Int} (hr: ¬ ¬rightI y m d) (hn: -9223372036854775808≤n∧n≤9223372036854775807):cond (decide (IntKind.i64.wrap (moI y m n)<(0:Int))) true (decide ((119988:Int)≤IntKind.i64.wrap (moI y m n)))= !decide (moOk y m n):=by
 rcases mo_or hr hn with h|h
 ·rw [h]
  by_cases a:moI y m n<0
  ·rw [decide_eq_true a,decide_eq_false (show ¬moOk y m n from fun e=>by have:=e.1;omega)]
   rfl
  ·by_cases b:(119988:Int)≤moI y m n
   ·rw [decide_eq_false a,decide_eq_true b,decide_eq_false (show ¬moOk y m n from fun e=>by have:=e.2;omega)]
    rfl
   ·rw [decide_eq_false a,decide_eq_false b,decide_eq_true (show moOk y m n from ⟨by omega,by omega⟩)]
    rfl
 ·have: ¬moOk y m n:=fun e=>by have:=e.2;omega
  rw [decide_eq_true h.2,decide_eq_false this]
  rfl
theorem wr_ok {y m d n:Int} (hr: ¬ ¬rightI y m d) (hn: -9223372036854775808≤n∧n≤9223372036854775807) (ho: ¬ ¬moOk y m n):IntKind.i64.wrap (moI y m n)=moI y m n:=by
 have ho':moOk y m n:=by simpa using ho
 rcases mo_or hr hn with h|h
 ·exact h
 ·have:=ho'.2
  omega
theorem mo_le {y m n:Int} (ho: ¬ ¬moOk y m n):0≤moI y m n∧moI y m n<119988:=by simpa [moOk] using ho
noncomputable def dyT (y m d k:Int):Int×Int×Int:=if rightI y m d then dtN (numI y m d+k) else (0,0,0)
def dyE (y m d k:Int):Int:=if rightI y m d then ofE (numI y m d+k) else 11
theorem dy_no {y m d k:Int} (hr: ¬rightI y m d):dyT y m d k=(0,0,0)∧dyE y m d k=11:=by
 unfold dyT dyE
 rw [if_neg hr,if_neg hr]
 exact ⟨rfl,rfl⟩
theorem dy_yes {y m d k:Int} (hr:rightI y m d):dyT y m d k=dtN (numI y m d+k)∧dyE y m d k=ofE (numI y m d+k):=by
 unfold dyT dyE
 rw [if_pos hr,if_pos hr]
 exact ⟨rfl,rfl⟩
theorem dy_at {y m d k:Int} (hr: ¬ ¬rightI y m d) (hk: -9223372036854775808≤k∧k≤9223372036854775807):dyT y m d k=dtN (IntKind.i64.wrap (nbI y m d+k))∧dyE y m d k=ofE (IntKind.i64.wrap (nbI y m d+k)):=by
 have hr':rightI y m d:=by simpa using hr
 rw [(dy_yes hr').1,(dy_yes hr').2,(chk_1 hr').2.1]
 have hi:=num_in hr'
 rcases wrap_or (a:=numI y m d) (n:=k) (by omega) hk with h|h
 ·rw [h.2]
  exact ⟨rfl,rfl⟩
 ·rw [(of_no (z:=numI y m d+k) (by omega)).1,(of_no (z:=numI y m d+k) (by omega)).2,(of_no (z:=IntKind.i64.wrap (numI y m d+k)) (by omega)).1,(of_no (z:=IntKind.i64.wrap (numI y m d+k)) (by omega)).2]
  exact ⟨rfl,rfl⟩
def btI (y m d y' m' d':Int):Int:=if rightI y m d∧rightI y' m' d' then numI y' m' d'-numI y m d else 0
def btE (y m d y' m' d':Int):Int:=if rightI y m d∧rightI y' m' d' then 0 else 11
theorem bt_yes {y m d y' m' d':Int} (h:rightI y m d) (h':rightI y' m' d'):btI y m d y' m' d'=numI y' m' d'-numI y m d∧btE y m d y' m' d'=0:=by
 unfold btI btE
 rw [if_pos ⟨h,h'⟩,if_pos ⟨h,h'⟩]
 exact ⟨rfl,rfl⟩
theorem bt_no {y m d y' m' d':Int} (h: ¬(rightI y m d∧rightI y' m' d')):btI y m d y' m' d'=0∧btE y m d y' m' d'=11:=by
 unfold btI btE
 rw [if_neg h,if_neg h]
 exact ⟨rfl,rfl⟩
theorem nb_in' {y m d:Int} (h: ¬ ¬rightI y m d):nbI y m d=numI y m d∧1≤nbI y m d∧nbI y m d≤3652059:=by
 have h':rightI y m d:=by simpa using h
 rw [(chk_1 h').2.1]
 exact ⟨rfl,num_in h'⟩
def endI (y m d:Int):Bool:=decide (rightI y m d)&&decide (d=dayI y m)
theorem end_b {y m d:Int}:cond (decide ((chkI y m d:Int)=0)) (decide ((d:Int)=dayI y m)) false=endI y m d:=by
 unfold endI
 by_cases h:rightI y m d
 ·rw [(chk_1 h).1,decide_eq_true h]
  cases decide (d=dayI y m)<;>rfl
 ·rw [(chk_0 h).1,decide_eq_false h]
  rfl
theorem ser_in {y m d s:Int} {k:Nat} (hk:k<1200) (hr:rightI y m d) (hs:1≤s∧s≤9223372036854775807) (ha:allOk y m s k=true): -9223372036854775808≤((k:Int)+1)*s∧((k:Int)+1)*s≤9223372036854775807:=by
 rcases Nat.eq_zero_or_pos k with h|h
 ·subst h
  simp
  omega
 ·have h2:=allOk_at h ha
  rcases Int.lt_or_le s 119988 with h3|h3
  ·have:=pr_in (s:=s) hk (by omega)
   omega
  ·exact absurd h2 (far_one hr h3)
theorem k3 (n k:Nat) (p:Prop) [Decidable p]:n≤k∨(k<n∧ ¬p)∨(k<n∧p):=by
 rcases Nat.lt_or_ge k n with h1|h1
 ·by_cases h:p
  ·exact .inr (.inr ⟨h1,h⟩)
  ·exact .inr (.inl ⟨h1,h⟩)
 ·exact .inl h1
noncomputable def ctb36:List (Ct dk):= [
 ct1w 68 0 en68 vDt (.O .Tb) isTbk isTbk_ok (fun x=> .t [eI (nbI x.1 x.2.1 x.2.2),eI (chkI x.1 x.2.1 x.2.2)]) (fun x=> []) fun _ p _ _ _ h1 hW=>pNumber_t h1 hW,
 ct1w 69 0 en69 vI (.O .Tb) isTbk isTbk_ok (fun x=> .t [eD (dtN x).1 (dtN x).2.1 (dtN x).2.2,eI (ofE x)]) (fun x=> []) fun _ p _ _ _ h1 hW=>(Classical.em (1≤_∧_≤3652059)).elim (fun hz=>pOf_yes h1 hW hz) (fun hz=>pOf_no h1 hW hz)]++ctb35
theorem pDays10_t {w:World} {v0 v1:Value} {y m d k:Int} (h0:(f0 w (.s (eD y m d))).p w v0) (h1:(isE (.int .i64 k)) w v1) (hw:isTb w v0) (hk: -9223372036854775808≤k∧k≤9223372036854775807):Calls Tryz.prog 30 #[v0,v1] w (Ret w fun v w'=>(f0 w (.t [eD (dyT y m d k).1 (dyT y m d k).2.1 (dyT y m d k).2.2,eI (dyE y m d k)])).p w' v):=by
 exact fx ctb36 Tryz.func30 (hnX [(4,[(2,31,oS (eI (IntKind.i64.wrap (nbI y m d+k))))])]) [(0,eD y m d),(1,eI k),(1000000, .O .Tb)] (.t [eD (dyT y m d k).1 (dyT y m d k).2.1 (dyT y m d k).2.2,eI (dyE y m d k)]) ⟨h0,h1,hw,trivial⟩ (cnd (!decide ((chkI y m d:Int)=0)) (tK (eD 0 0 0) (eD (dyT y m d k).1 (dyT y m d k).2.1 (dyT y m d k).2.2)∧tI (chkI y m d) (dyE y m d k)∧True) (tI (IntKind.i64.wrap (nbI y m d+k)) (IntKind.i64.wrap (nbI y m d+k))∧(tK (eD (dtN (IntKind.i64.wrap (nbI y m d+k))).1 (dtN (IntKind.i64.wrap (nbI y m d+k))).2.1 (dtN (IntKind.i64.wrap (nbI y m d+k))).2.2) (eD (dyT y m d k).1 (dyT y m d k).2.1 (dyT y m d k).2.2)∧tI (ofE (IntKind.i64.wrap (nbI y m d+k))) (dyE y m d k)∧True))) ((Classical.em (¬rightI y m d)).elim (fun hr=>cnd_t (chk_n hr) ⟨(fun _ _ _ _ _ h=>by first|(rw [(dy_no hr).1];exact h)|(rw [(dy_at hr hk).1];exact h)),⟨rfl,by first|exact ((chk_0 hr).1.trans (dy_no hr).2.symm)|exact (dy_at hr hk).2.symm⟩,trivial⟩) (fun hr=>cnd_f (chk_y hr) ⟨⟨rfl,rfl⟩,⟨(fun _ _ _ _ _ h=>by first|(rw [(dy_no hr).1];exact h)|(rw [(dy_at hr hk).1];exact h)),⟨rfl,by first|exact ((chk_0 hr).1.trans (dy_no hr).2.symm)|exact (dy_at hr hk).2.symm⟩,trivial⟩⟩))
theorem pBetween_t {w:World} {v0 v1:Value} {y1 m1 d1 y2 m2 d2:Int} (h0:(f0 w (.s (eD y1 m1 d1))).p w v0) (h1:(f0 w (.s (eD y2 m2 d2))).p w v1) (hw:isTb w v0):Calls Tryz.prog 29 #[v0,v1] w (Ret w fun v w'=>(f0 w (.t [eI (btI y1 m1 d1 y2 m2 d2),eI (btE y1 m1 d1 y2 m2 d2)])).p w' v):=by
 exact fx ctb36 Tryz.func29 (fun _=> []) [(0,eD y1 m1 d1),(1,eD y2 m2 d2),(1000000, .O .Tb)] (.t [eI (btI y1 m1 d1 y2 m2 d2),eI (btE y1 m1 d1 y2 m2 d2)]) ⟨h0,h1,hw,trivial⟩ (cnd (!decide ((chkI y1 m1 d1:Int)=0)) (tI 0 (btI y1 m1 d1 y2 m2 d2)∧tI (chkI y1 m1 d1) (btE y1 m1 d1 y2 m2 d2)∧True) (cnd (!decide ((chkI y2 m2 d2:Int)=0)) (tI 0 (btI y1 m1 d1 y2 m2 d2)∧tI (chkI y2 m2 d2) (btE y1 m1 d1 y2 m2 d2)∧True) (wp ((nbI y2 m2 d2) -(nbI y1 m1 d1))∧(tI ((nbI y2 m2 d2) -(nbI y1 m1 d1)) (btI y1 m1 d1 y2 m2 d2)∧tI 0 (btE y1 m1 d1 y2 m2 d2)∧True)))) ((Classical.em (¬rightI y1 m1 d1)).elim (fun hr1=>cnd_t (chk_n hr1) ⟨⟨rfl,by first|exact (bt_no (fun e=>hr1 e.1)).1.symm|exact (bt_no (fun e=>hr2 e.2)).1.symm|(rw [(bt_yes (by simpa using hr1) (by simpa using hr2)).1,(nb_in' hr1).1,(nb_in' hr2).1])⟩,⟨rfl,by first|exact ((chk_0 hr1).1.trans (bt_no (fun e=>hr1 e.1)).2.symm)|exact ((chk_0 hr2).1.trans (bt_no (fun e=>hr2 e.2)).2.symm)|exact (bt_yes (by simpa using hr1) (by simpa using hr2)).2.symm⟩,trivial⟩) (fun hr1=>cnd_f (chk_y hr1) ((Classical.em (¬rightI y2 m2 d2)).elim (fun hr2=>cnd_t (chk_n hr2) ⟨⟨rfl,by first|exact (bt_no (fun e=>hr1 e.1)).1.symm|exact (bt_no (fun e=>hr2 e.2)).1.symm|(rw [(bt_yes (by simpa using hr1) (by simpa using hr2)).1,(nb_in' hr1).1,(nb_in' hr2).1])⟩,⟨rfl,by first|exact ((chk_0 hr1).1.trans (bt_no (fun e=>hr1 e.1)).2.symm)|exact ((chk_0 hr2).1.trans (bt_no (fun e=>hr2 e.2)).2.symm)|exact (bt_yes (by simpa using hr1) (by simpa using hr2)).2.symm⟩,trivial⟩) (fun hr2=>cnd_f (chk_y hr2) ⟨i64_in (by have:=nb_in' hr1;have:=nb_in' hr2;omega) (by have:=nb_in' hr1;have:=nb_in' hr2;omega),⟨⟨rfl,by first|exact (bt_no (fun e=>hr1 e.1)).1.symm|exact (bt_no (fun e=>hr2 e.2)).1.symm|(rw [(bt_yes (by simpa using hr1) (by simpa using hr2)).1,(nb_in' hr1).1,(nb_in' hr2).1])⟩,⟨rfl,by first|exact ((chk_0 hr1).1.trans (bt_no (fun e=>hr1 e.1)).2.symm)|exact ((chk_0 hr2).1.trans (bt_no (fun e=>hr2 e.2)).2.symm)|exact (bt_yes (by simpa using hr1) (by simpa using hr2)).2.symm⟩,trivial⟩⟩))))
end Go.Proofs.YtjpilacbapibjaaGreatDoor.X
