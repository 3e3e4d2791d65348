/- What the laws of layer 11 share: signs of life, near dates. Written by a script (tools/laws). -/
import Derived.Test.YtdofjoijodjajaaDoorCOb
namespace Go.Proofs.YtdofjoijodjajaaDoor.X
open Go.Proofs.YtdofjoijodjajaaDoor.Da
open Go.RowKit Go.Proofs.YtdofjoijodjajaaDoor.Z
set_option linter.unusedVariables false
theorem qt_eq {q:Rat} {la lb:List UInt8} (h1:q.num=((Tx.rd la:Nat):Int)) (h2:q.den=Tx.rd lb) (h3:q.den≠1) (ha:Tx.okText la) (hb:Tx.okText lb):qtext q=la++ [47]++lb:=by
 unfold qtext ztext
 rw [if_neg h3,h1,h2,if_neg (by omega),Int.natAbs_natCast,Tx.text_rd ha,Tx.text_rd hb]
theorem w_nd:numI 2024 3 1-numI 2024 1 31=30:=by
 have a:mS 2024 ((3:Int) -1).toNat=60:=by decide
 have b:mS 2024 ((1:Int) -1).toNat=0:=rfl
 unfold numI
 omega
theorem w_ok {k:Int} (h:0≤k∧k≤2):yrOk k 2024 1 31 2024 3 1:=⟨h,⟨by decide,by decide⟩,by have:=w_nd;omega⟩
theorem w_q0:qtext (yrA 0 2024 1 31 2024 3 1)= [51,49,47,51,54,48]:=by
 rw [(yr_yes (w_ok (by decide))).1,yr_0,show thN 2024 1 31 2024 3 1=31 by decide]
 exact qt_eq (la:= [51,49]) (lb:= [51,54,48]) (by decide+kernel) (by decide+kernel) (by decide+kernel) ⟨by decide, .inr ⟨by decide,by decide⟩⟩ ⟨by decide, .inr ⟨by decide,by decide⟩⟩
theorem w_q1:qtext (yrA 1 2024 1 31 2024 3 1)= [54,47,55,51]:=by
 rw [(yr_yes (w_ok (by decide))).1,yr_1,w_nd]
 exact qt_eq (la:= [54]) (lb:= [55,51]) (by decide+kernel) (by decide+kernel) (by decide+kernel) ⟨by decide, .inr ⟨by decide,by decide⟩⟩ ⟨by decide, .inr ⟨by decide,by decide⟩⟩
theorem w_q2:qtext (yrA 2 2024 1 31 2024 3 1)= [53,47,54,49]:=by
 rw [(yr_yes (w_ok (by decide))).1,yr_2,pos_same,w_nd,show yrI 2024=366 by decide]
 exact qt_eq (la:= [53]) (lb:= [54,49]) (by decide+kernel) (by decide+kernel) (by decide+kernel) ⟨by decide, .inr ⟨by decide,by decide⟩⟩ ⟨by decide, .inr ⟨by decide,by decide⟩⟩
theorem w_back:yrE 1 2024 3 1 2024 1 31=12:=(yr_order (by decide) ⟨by decide,by decide⟩ (by have:=w_nd;omega)).2
theorem w_arg:yrE 3 2024 1 31 2024 3 1=2:=(yr_arg (by decide)).2
noncomputable def ctb22:List (Ct dk):= [
 ct1 9 0 en9 vQ (fun x=> .s (.E (.string (str (qtext x.1))))) (fun x=> [x.2≤268435456]) fun _ p _ _ h1=>print_q h1 p.1,
 ct1w 5 0 en5 vI (.O .Tb) isTbk isTbk_ok (fun x=> .s (.E (.string (str (wdB x))))) (fun x=> []) fun _ p _ _ _ h1 hW=>word11 h1 hW,
 ct3w 8 0 en8 vI vDt vDt (.O .Tb) isTbk isTbk_ok (fun x y z=> .t [.O (.Q (yrA x y.1 y.2.1 y.2.2 z.1 z.2.1 z.2.2) 50),eI (yrE x y.1 y.2.1 y.2.2 z.1 z.2.1 z.2.2)]) (fun x y z=> []) fun _ _ _ p _ _ _ _ _ h1 h2 h3 hW=>pYear_t h1 h2 h3 hW]++ctb21
theorem wakes11_t {w:World} (hw:isTb w undef):Calls Tryd.prog 6 #[] w (Ret w fun v w'=>(isE (.bool true)) w' v):=by
 exact fx ctb22 Tryd.func6 (hnX [(7,[(1,0,oS (eB true)),(5,0,oS (eB true)),(9,0,oS (eB true)),(14,0,oS (eB true)),(18,0,oS (eB true)),(23,0,oS (eB true)),(27,0,oS (eB true)),(31,0,oS (eB true)),(35,0,oS (eB true))])]) [(1000000, .O .Tb)] (.s (eB true)) ⟨hw,trivial⟩ (decide ((yrE (0:Int) 2024 1 31 2024 3 1:Int)=0)=true∧50≤268435456∧(qtext (yrA (0:Int) 2024 1 31 2024 3 1)== [51,49,47,51,54,48])=true∧decide ((yrE (1:Int) 2024 1 31 2024 3 1:Int)=0)=true∧50≤268435456∧(qtext (yrA (1:Int) 2024 1 31 2024 3 1)== [54,47,55,51])=true∧decide ((yrE (2:Int) 2024 1 31 2024 3 1:Int)=0)=true∧50≤268435456∧(qtext (yrA (2:Int) 2024 1 31 2024 3 1)== [53,47,54,49])=true∧decide ((yrE (1:Int) 2024 3 1 2024 1 31:Int)=12)=true∧decide ((yrE (3:Int) 2024 1 31 2024 3 1:Int)=2)=true∧(wdB (2:Int)== [97,99,116,117,97,108])=true∧true=true) ⟨decide_eq_true (yr_yes (w_ok (by decide))).2,(by omega),(by rw [w_q0];rfl),decide_eq_true (yr_yes (w_ok (by decide))).2,(by omega),(by rw [w_q1];rfl),decide_eq_true (yr_yes (w_ok (by decide))).2,(by omega),(by rw [w_q2];rfl),decide_eq_true (w_back),decide_eq_true (w_arg),(by decide),rfl⟩
end Go.Proofs.YtdofjoijodjajaaDoor.X
