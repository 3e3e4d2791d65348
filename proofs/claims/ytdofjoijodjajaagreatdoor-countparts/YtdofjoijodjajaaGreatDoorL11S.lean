/- What the laws of layer 11 share: signs of life, near dates. Written by a script (tools/laws). -/
import Derived.Test.YtdofjoijodjajaaGreatDoorCOb
namespace Go.Proofs.YtdofjoijodjajaaGreatDoor.X
open Go.Proofs.YtdofjoijodjajaaGreatDoor.Da
open Go.RowKit Go.Proofs.YtdofjoijodjajaaGreatDoor.Z
set_option linter.unusedVariables false
theorem qt_eq {q:Rat} {la lb:List UInt8} (h1:q.num=((Tx.rd la:Nat):Int)) (h2:q.den=Tx.rd lb) (h3:q.den≠1) (ha:Tx.okText la) (hb:Tx.okText lb):qtext q=la++ [47]++lb:=by
 unfold qtext ztext
 rw [if_neg h3,h1,h2,if_neg (by omega),Int.natAbs_natCast,Tx.text_rd ha,Tx.text_rd hb]
theorem w_nd:numI 2024 3 1-numI 2024 1 31=30:=by
 have a:mS 2024 ((3:Int) -1).toNat=60:=by decide
 have b:mS 2024 ((1:Int) -1).toNat=0:=rfl
 unfold numI
 omega
theorem w_ok {k:Int} (h:0≤k∧k≤2):yrOk k 2024 1 31 2024 3 1:=⟨h,⟨by decide,by decide⟩,by have:=w_nd;omega⟩
theorem w_q0:qtext (yrA 0 2024 1 31 2024 3 1)= [51,49,47,51,54,48]:=by
 rw [(yr_yes (w_ok (by decide))).1,yr_0,show thN 2024 1 31 2024 3 1=31 by decide]
 exact qt_eq (la:= [51,49]) (lb:= [51,54,48]) (by decide+kernel) (by decide+kernel) (by decide+kernel) ⟨by decide, .inr ⟨by decide,by decide⟩⟩ ⟨by decide, .inr ⟨by decide,by decide⟩⟩
theorem w_q1:qtext (yrA 1 2024 1 31 2024 3 1)= [54,47,55,51]:=by
 rw [(yr_yes (w_ok (by decide))).1,yr_1,w_nd]
 exact qt_eq (la:= [54]) (lb:= [55,51]) (by decide+kernel) (by decide+kernel) (by decide+kernel) ⟨by decide, .inr ⟨by decide,by decide⟩⟩ ⟨by decide, .inr ⟨by decide,by decide⟩⟩
theorem w_q2:qtext (yrA 2 2024 1 31 2024 3 1)= [53,47,54,49]:=by
 rw [(yr_yes (w_ok (by decide))).1,yr_2,pos_same,w_nd,show yrI 2024=366 by decide]
 exact qt_eq (la:= [53]) (lb:= [54,49]) (by decide+kernel) (by decide+kernel) (by decide+kernel) ⟨by decide, .inr ⟨by decide,by decide⟩⟩ ⟨by decide, .inr ⟨by decide,by decide⟩⟩
theorem w_back:yrE 1 2024 3 1 2024 1 31=12:=(yr_order (by decide) ⟨by decide,by decide⟩ (by have:=w_nd;omega)).2
theorem w_arg:yrE 3 2024 1 31 2024 3 1=2:=(yr_arg (by decide)).2
noncomputable def ctb43:List (Ct dk):= [
 ct1 11 0 en11 vQ (fun x=> .s (.E (.string (str (qtext x.1))))) (fun x=> [x.2≤268435456]) fun _ p _ _ h1=>print_q h1 p.1,
 ct1w 39 0 en39 vI (.O .Tb) isTbk isTbk_ok (fun x=> .s (.E (.string (str (wdB x))))) (fun x=> []) fun _ p _ _ _ h1 hW=>word11 h1 hW,
 ct3w 7 0 en7 vI vDt vDt (.O .Tb) isTbk isTbk_ok (fun x y z=> .t [.O (.Q (yrA x y.1 y.2.1 y.2.2 z.1 z.2.1 z.2.2) 50),eI (yrE x y.1 y.2.1 y.2.2 z.1 z.2.1 z.2.2)]) (fun x y z=> []) fun _ _ _ p _ _ _ _ _ h1 h2 h3 hW=>pYear_t h1 h2 h3 hW]++ctb42
theorem wakes11_t {w:World} (hw:isTb w undef):Calls Tryz.prog 14 #[] w (Ret w fun v w'=>(isE (.bool true)) w' v):=by
 exact fx ctb43 Tryz.func14 (hnX [(7,[(1,0,oS (eB true)),(5,0,oS (eB true)),(9,0,oS (eB true)),(14,0,oS (eB true)),(18,0,oS (eB true)),(23,0,oS (eB true)),(27,0,oS (eB true)),(31,0,oS (eB true)),(35,0,oS (eB true))])]) [(1000000, .O .Tb)] (.s (eB true)) ⟨hw,trivial⟩ (decide ((yrE (0:Int) 2024 1 31 2024 3 1:Int)=0)=true∧50≤268435456∧(qtext (yrA (0:Int) 2024 1 31 2024 3 1)== [51,49,47,51,54,48])=true∧decide ((yrE (1:Int) 2024 1 31 2024 3 1:Int)=0)=true∧50≤268435456∧(qtext (yrA (1:Int) 2024 1 31 2024 3 1)== [54,47,55,51])=true∧decide ((yrE (2:Int) 2024 1 31 2024 3 1:Int)=0)=true∧50≤268435456∧(qtext (yrA (2:Int) 2024 1 31 2024 3 1)== [53,47,54,49])=true∧decide ((yrE (1:Int) 2024 3 1 2024 1 31:Int)=12)=true∧decide ((yrE (3:Int) 2024 1 31 2024 3 1:Int)=2)=true∧(wdB (2:Int)== [97,99,116,117,97,108])=true∧true=true) ⟨decide_eq_true (yr_yes (w_ok (by decide))).2,(by omega),(by rw [w_q0];rfl),decide_eq_true (yr_yes (w_ok (by decide))).2,(by omega),(by rw [w_q1];rfl),decide_eq_true (yr_yes (w_ok (by decide))).2,(by omega),(by rw [w_q2];rfl),decide_eq_true (w_back),decide_eq_true (w_arg),(by decide),rfl⟩
def nX (y m d:Int):Int×Int×Int:=(mkY y 9980,mkM m,mkD (mkY y 9980) (mkM m) d)
def nZ (y1 y2 m2 d2:Int):Int×Int×Int:=(mkY y2 12+mkY y1 9980,mkM m2,min (mkD (mkY y2 12) (mkM m2) d2) (dayI (mkY y2 12+mkY y1 9980) (mkM m2)))
def nC (y1 m1 d1 y2 m2 d2:Int):Int:=cmpI (nX y1 m1 d1).1 (nX y1 m1 d1).2.1 (nX y1 m1 d1).2.2 (nZ y1 y2 m2 d2).1 (nZ y1 y2 m2 d2).2.1 (nZ y1 y2 m2 d2).2.2
def nA (y1 m1 d1 y2 m2 d2:Int):Int×Int×Int:=if 0<nC y1 m1 d1 y2 m2 d2 then nZ y1 y2 m2 d2 else nX y1 m1 d1
def nB (y1 m1 d1 y2 m2 d2:Int):Int×Int×Int:=if 0<nC y1 m1 d1 y2 m2 d2 then nX y1 m1 d1 else nZ y1 y2 m2 d2
theorem n_yes {y1 m1 d1 y2 m2 d2:Int} (h:0<nC y1 m1 d1 y2 m2 d2):nA y1 m1 d1 y2 m2 d2=nZ y1 y2 m2 d2∧nB y1 m1 d1 y2 m2 d2=nX y1 m1 d1:=by
 unfold nA nB
 rw [if_pos h,if_pos h]
 exact ⟨rfl,rfl⟩
theorem n_no {y1 m1 d1 y2 m2 d2:Int} (h: ¬0<nC y1 m1 d1 y2 m2 d2):nA y1 m1 d1 y2 m2 d2=nX y1 m1 d1∧nB y1 m1 d1 y2 m2 d2=nZ y1 y2 m2 d2:=by
 unfold nA nB
 rw [if_neg h,if_neg h]
 exact ⟨rfl,rfl⟩
abbrev riT (x:Int×Int×Int):Prop:=rightI x.1 x.2.1 x.2.2
abbrev nuT (x:Int×Int×Int):Int:=numI x.1 x.2.1 x.2.2
theorem nX_ok (y m d:Int):riT (nX y m d)∧1≤(nX y m d).1∧(nX y m d).1≤9980:=⟨mk_right (by decide) (by decide),mk_y (by decide)⟩
theorem nZ_ok (y1 y2 m2 d2:Int):riT (nZ y1 y2 m2 d2)∧(nX y1 0 0).1≤(nZ y1 y2 m2 d2).1∧(nZ y1 y2 m2 d2).1≤(nX y1 0 0).1+12:=by
 have a1:=mk_y (a:=y1) (years:=9980) (by decide)
 have a2:=mk_y (a:=y2) (years:=12) (by decide)
 have a3:=mk_right (a:=y2) (b:=m2) (c:=d2) (years:=12) (by decide) (by decide)
 have a4:=day_of (y:=mkY y2 12+mkY y1 9980) (by omega) (mk_m (b:=m2))
 have a5:=a3.1
 refine ⟨⟨?_, ?_⟩, ?_, ?_⟩
 ·show 1≤min (mkD (mkY y2 12) (mkM m2) d2) (dayI (mkY y2 12+mkY y1 9980) (mkM m2))
  omega
 ·show min (mkD (mkY y2 12) (mkM m2) d2) (dayI (mkY y2 12+mkY y1 9980) (mkM m2))≤dayI (mkY y2 12+mkY y1 9980) (mkM m2)
  omega
 ·show mkY y1 9980≤mkY y2 12+mkY y1 9980
  omega
 ·show mkY y2 12+mkY y1 9980≤mkY y1 9980+12
  omega
theorem near_ok (y1 m1 d1 y2 m2 d2:Int):riT (nA y1 m1 d1 y2 m2 d2)∧riT (nB y1 m1 d1 y2 m2 d2)∧nuT (nA y1 m1 d1 y2 m2 d2)≤nuT (nB y1 m1 d1 y2 m2 d2)∧(nB y1 m1 d1 y2 m2 d2).1≤(nA y1 m1 d1 y2 m2 d2).1+12:=by
 have hx:=nX_ok y1 m1 d1
 have hz:=nZ_ok y1 y2 m2 d2
 have e:(nX y1 0 0).1=(nX y1 m1 d1).1:=rfl
 rw [e] at hz
 have hc:=cmp_num hx.1 hz.1
 by_cases h:0<nC y1 m1 d1 y2 m2 d2
 ·rw [(n_yes h).1,(n_yes h).2]
  refine ⟨hz.1,hx.1, ?_,by omega⟩
  show numI (nZ y1 y2 m2 d2).1 (nZ y1 y2 m2 d2).2.1 (nZ y1 y2 m2 d2).2.2≤numI (nX y1 m1 d1).1 (nX y1 m1 d1).2.1 (nX y1 m1 d1).2.2
  unfold nC at h
  rw [hc] at h
  split at h
  ·omega
  ·omega
 ·rw [(n_no h).1,(n_no h).2]
  refine ⟨hx.1,hz.1, ?_,by omega⟩
  show numI (nX y1 m1 d1).1 (nX y1 m1 d1).2.1 (nX y1 m1 d1).2.2≤numI (nZ y1 y2 m2 d2).1 (nZ y1 y2 m2 d2).2.1 (nZ y1 y2 m2 d2).2.2
  unfold nC at h
  rw [hc] at h
  split at h
  ·omega
  ·split at h<;>omega
theorem near_yr {y1 m1 d1 y2 m2 d2:Int}:(nA y1 m1 d1 y2 m2 d2).1≤(nB y1 m1 d1 y2 m2 d2).1∧(nB y1 m1 d1 y2 m2 d2).1≤(nA y1 m1 d1 y2 m2 d2).1+41:=by
 obtain ⟨h1,h2,h3,h4⟩:=near_ok y1 m1 d1 y2 m2 d2
 exact ⟨year_le h1 h2 h3,by omega⟩
noncomputable def ctb44:List (Ct dk):= [
 ct2 19 0 en19 vDt vI (fun x y=> .s (eD (mkY x.1 y) (mkM x.2.1) (mkD (mkY x.1 y) (mkM x.2.1) x.2.2))) (fun x y=> [1≤y∧y≤9999]) fun _ _ p _ _ _ h1 h2=>refMake_t h1 h2 p.1,
 ct2 9 0 en9 vDt vDt (fun x y=> .s (eI (cmpI x.1 x.2.1 x.2.2 y.1 y.2.1 y.2.2))) (fun x y=> []) fun _ _ p _ _ _ h1 h2=>refCmp_t h1 h2]++ctb43
theorem near_t {w:World} {v0 v1:Value} {y1 m1 d1 y2 m2 d2:Int} (h0:(f0 w (.s (eD y1 m1 d1))).p w v0) (h1:(f0 w (.s (eD y2 m2 d2))).p w v1):Calls Tryz.prog 6 #[v0,v1] w (Ret w fun v w'=>(f0 w (.t [eD (nA y1 m1 d1 y2 m2 d2).1 (nA y1 m1 d1 y2 m2 d2).2.1 (nA y1 m1 d1 y2 m2 d2).2.2,eD (nB y1 m1 d1 y2 m2 d2).1 (nB y1 m1 d1 y2 m2 d2).2.1 (nB y1 m1 d1 y2 m2 d2).2.2])).p w' v):=by
 have a1:=mk_y (a:=y1) (years:=9980) (by decide)
 have a2:=mk_y (a:=y2) (years:=12) (by decide)
 exact fx ctb44 Tryz.func6 (fun _=> []) [(0,eD y1 m1 d1),(1,eD y2 m2 d2)] (.t [eD (nA y1 m1 d1 y2 m2 d2).1 (nA y1 m1 d1 y2 m2 d2).2.1 (nA y1 m1 d1 y2 m2 d2).2.2,eD (nB y1 m1 d1 y2 m2 d2).1 (nB y1 m1 d1 y2 m2 d2).2.1 (nB y1 m1 d1 y2 m2 d2).2.2]) ⟨h0,h1,trivial⟩ ((1≤(9980:Int)∧(9980:Int)≤9999)∧(1≤(12:Int)∧(12:Int)≤9999)∧wp (mkY y2 (12:Int)+mkY y1 (9980:Int))∧cnd (decide ((0:Int)<cmpI (mkY y1 (9980:Int)) (mkM m1) (mkD (mkY y1 (9980:Int)) (mkM m1) d1) (mkY y2 (12:Int)+mkY y1 (9980:Int)) (mkM m2) (min (mkD (mkY y2 (12:Int)) (mkM m2) d2) (dayI (mkY y2 (12:Int)+mkY y1 (9980:Int)) (mkM m2))))) (tK (eD (mkY y2 (12:Int)+mkY y1 (9980:Int)) (mkM m2) (min (mkD (mkY y2 (12:Int)) (mkM m2) d2) (dayI (mkY y2 (12:Int)+mkY y1 (9980:Int)) (mkM m2)))) (eD (nA y1 m1 d1 y2 m2 d2).1 (nA y1 m1 d1 y2 m2 d2).2.1 (nA y1 m1 d1 y2 m2 d2).2.2)∧tK (eD (mkY y1 (9980:Int)) (mkM m1) (mkD (mkY y1 (9980:Int)) (mkM m1) d1)) (eD (nB y1 m1 d1 y2 m2 d2).1 (nB y1 m1 d1 y2 m2 d2).2.1 (nB y1 m1 d1 y2 m2 d2).2.2)∧True) (tK (eD (mkY y1 (9980:Int)) (mkM m1) (mkD (mkY y1 (9980:Int)) (mkM m1) d1)) (eD (nA y1 m1 d1 y2 m2 d2).1 (nA y1 m1 d1 y2 m2 d2).2.1 (nA y1 m1 d1 y2 m2 d2).2.2)∧tK (eD (mkY y2 (12:Int)+mkY y1 (9980:Int)) (mkM m2) (min (mkD (mkY y2 (12:Int)) (mkM m2) d2) (dayI (mkY y2 (12:Int)+mkY y1 (9980:Int)) (mkM m2)))) (eD (nB y1 m1 d1 y2 m2 d2).1 (nB y1 m1 d1 y2 m2 d2).2.1 (nB y1 m1 d1 y2 m2 d2).2.2)∧True)) ⟨(by decide),(by decide),wi (by omega),(Classical.em (0<nC y1 m1 d1 y2 m2 d2)).elim (fun hc=>cnd_t (decide_eq_true hc) ⟨(fun _ _ _ _ _ h=>by first|(rw [(n_yes hc).1];exact h)|(rw [(n_no hc).1];exact h)),(fun _ _ _ _ _ h=>by first|(rw [(n_yes hc).2];exact h)|(rw [(n_no hc).2];exact h)),trivial⟩) (fun hc=>cnd_f (decide_eq_false hc) ⟨(fun _ _ _ _ _ h=>by first|(rw [(n_yes hc).1];exact h)|(rw [(n_no hc).1];exact h)),(fun _ _ _ _ _ h=>by first|(rw [(n_yes hc).2];exact h)|(rw [(n_no hc).2];exact h)),trivial⟩)⟩
end Go.Proofs.YtdofjoijodjajaaGreatDoor.X
