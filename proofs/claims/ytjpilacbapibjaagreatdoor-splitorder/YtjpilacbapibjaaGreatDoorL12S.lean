/- What the laws of layer 12 share: signs of life. Written by a script (tools/laws). -/
import Derived.Test.YtjpilacbapibjaaGreatDoorL12T
namespace Go.Proofs.YtjpilacbapibjaaGreatDoor.X
open Go.Proofs.YtjpilacbapibjaaGreatDoor.Da
open Go.RowKit Go.Proofs.YtjpilacbapibjaaGreatDoor.Z
set_option linter.unusedVariables false
theorem spL_len (x y:D3) (cs:List D3):(spL x y cs).length≤4000000:=by
 by_cases h:spOk x y cs
 ·rw [(sp_yes h).1]
  have i1:=num_in h.1.1
  have i2:=num_in h.1.2.1
  have c:=chain_len (cut_chain (ns:=nsOf cs) (nm x) h.2)
  have j1:1≤nm x:=i1.1
  have j2:nm y≤3652059:=i2.2
  omega
 ·unfold spL
  rw [if_neg h]
  exact Nat.zero_le _
theorem qt12 {q:Rat} {la lb:List UInt8} (h1:q.num=((Tx.rd la:Nat):Int)) (h2:q.den=Tx.rd lb) (h3:q.den≠1) (ha:Tx.okText la) (hb:Tx.okText lb):qtext q=la++ [47]++lb:=by
 unfold qtext ztext
 rw [if_neg h3,h1,h2,if_neg (by omega),Int.natAbs_natCast,Tx.text_rd ha,Tx.text_rd hb]
abbrev wA:D3:=(2024,1,1)
abbrev wB:D3:=(2024,4,1)
abbrev wM:D3:=(2024,2,10)
abbrev wU:D3:=(2025,1,1)
theorem w_ri:ri wA∧ri wB∧ri wM∧ri wU:=⟨by decide,by decide,by decide,by decide⟩
theorem w_num:nm wM=nm wA+40∧nm wB=nm wA+91:=by
 have a:mS 2024 ((1:Int) -1).toNat=0:=rfl
 have b:mS 2024 ((2:Int) -1).toNat=31:=by decide
 have c:mS 2024 ((4:Int) -1).toNat=91:=by decide
 unfold nm numI
 constructor<;>(simp only;omega)
theorem w_u:nm wB<nm wU:=num_lt w_ri.2.1 w_ri.2.2.2 (.inl (by decide))
theorem w_ok:spOk wA wB [wU,wM]:=⟨⟨w_ri.1,w_ri.2.1,fun c hc=>by
  rcases List.mem_cons.1 hc with rfl|hc
  ·exact w_ri.2.2.2
  ·rcases List.mem_cons.1 hc with rfl|hc
   ·exact w_ri.2.2.1
   ·cases hc⟩,by have:=w_num;omega⟩
theorem cut2 {a m t u:Int} (h1:a<m) (h2:m<t) (h3:t<u):cutP [u,m] a t= [(a,m),(m,t)]:=by
 have e1:nxt [u,m] a t=m:=by
  show (if a<m∧m<(if a<u∧u<t then u else t) then m else (if a<u∧u<t then u else t))=m
  rw [if_neg (show ¬(a<u∧u<t) by omega),if_pos ⟨h1,h2⟩]
 have e2:nxt [u,m] m t=t:=by
  show (if m<m∧m<(if m<u∧u<t then u else t) then m else (if m<u∧u<t then u else t))=t
  rw [if_neg (show ¬(m<u∧u<t) by omega),if_neg (by omega)]
 rw [cut_yes (by omega),e1,cut_yes h2,e2,cut_no (by omega)]
theorem w_l:(spL wA wB [wU,wM]).map ptW= [ptD (wA,wM),ptD (wM,wB)]∧spE wA wB [wU,wM]=0:=by
 have e:=sp_yes w_ok
 refine ⟨?_,e.2⟩
 have n:=w_num
 have u:=w_u
 rw [e.1,show nsOf [wU,wM]= [nm wU,nm wM] from rfl,cut2 (by omega) (by omega) u]
 show [ptW (nm wA,nm wM),ptW (nm wM,nm wB)]=_
 unfold ptW ptD
 simp only
 rw [dt_nm w_ri.1,dt_nm w_ri.2.1,dt_nm w_ri.2.2.1]
theorem w_e:spE wB wA []=12:=(sp_order ⟨w_ri.2.1,w_ri.1,fun c hc=>by cases hc⟩ (by have:=w_num;omega)).2
theorem w_y:ysE 1 [(wA,wM),(wM,wB)]=0∧qtext (ysA 1 [(wA,wM),(wM,wB)] fun _=>1)= [57,49,47,51,54,53]:=by
 have n:=w_num
 have o1:yrOk 1 2024 1 1 2024 2 10:=⟨by decide,⟨w_ri.1,w_ri.2.2.1⟩,by show nm wA≤nm wM;omega⟩
 have o2:yrOk 1 2024 2 10 2024 4 1:=⟨by decide,⟨w_ri.2.2.1,w_ri.2.1⟩,by show nm wM≤nm wB;omega⟩
 have h: ∀j,j< [(wA,wM),(wM,wB)].length→yE 1 (pd [(wA,wM),(wM,wB)] j)=0:=fun j hj=>by
  rcases (show j=0∨j=1 by simp at hj;omega) with rfl|rfl
  ·exact (yr_yes o1).2
  ·exact (yr_yes o2).2
 obtain ⟨e1,e2⟩:=ys_yes (f:=fun _=>1) h
 refine ⟨e2, ?_⟩
 rw [e1]
 show qtext (((0:Rat)+yrA 1 2024 1 1 2024 2 10*1)+yrA 1 2024 2 10 2024 4 1*1)=_
 rw [(yr_yes o1).1,(yr_yes o2).1,yr_1,yr_1,show numI 2024 2 10-numI 2024 1 1=40 from (by show nm wM-nm wA=40;omega),show numI 2024 4 1-numI 2024 2 10=51 from (by show nm wB-nm wM=51;omega)]
 exact qt12 (la:= [57,49]) (lb:= [51,54,53]) (by decide+kernel) (by decide+kernel) (by decide+kernel) ⟨by decide, .inr ⟨by decide,by decide⟩⟩ ⟨by decide, .inr ⟨by decide,by decide⟩⟩
noncomputable def ctb55:List (Ct dk):= [
 ct1 19 0 en19 vQ (fun x=> .s (.E (.string (str (qtext x.1))))) (fun x=> [x.2≤268435456]) fun _ p _ _ h1=>print_q h1 p.1,
 ct3w 11 0 en11 vDt vDt (vL 3) (.O .Tb) isTbk isTbk_ok (fun x y z=> .t [.L 74 6 ((spL (x.1,x.2.1,x.2.2) (y.1,y.2.1,y.2.2) (z.map dtR)).map ptW) true,eI (spE (x.1,x.2.1,x.2.2) (y.1,y.2.1,y.2.2) (z.map dtR))]) (fun x y z=> [z=(z.map dtR).map dtW,(z:List (List Value)).length≤1000000]) fun _ _ _ p _ _ _ _ _ h1 h2 h3 hW=>pSPartsR h1 h2 h3 hW p.1 p.2.1,
 ct2w 18 0 en18 vI (vL 6) (.O .Tb) isTbk isTbk_ok (fun x y=> .t [.O (.Q (ysA x (y.map pR) fun _=>1) (60*(y.map pR).length+1)),eI (ysE x (y.map pR))]) (fun x y=> [y=(y.map pR).map ptD,y.length≤4000000]) fun _ _ p _ _ _ _ h1 h2 hW=>pSYearsR h1 h2 hW p.1 p.2.1]
theorem wakes12_t {w:World} (hw:isTb w undef):Calls Tryz.prog 9 #[] w (Ret w fun v w'=>(isE (.bool true)) w' v):=by
 exact fx ctb55 Tryz.func9 (hnX [(3,[(7,0,oS (.F 74 6 [ptD (wA,wM),ptD (wM,wB)])),(8,0,oS (eI 0))]),(4,[(3,0,oS (.O (.Q (ysA 1 [(wA,wM),(wM,wB)] fun _=>1) 121))),(4,0,oS (eI 0))]),(5,[(5,0,oS (eI 12))]),(6,[(1,0,oS (eB true)),(5,0,oS (eB true)),(9,0,oS (.A [.int .i64 2024, .int .i64 1, .int .i64 1, .int .i64 2024, .int .i64 2, .int .i64 10])),(14,0,oS (eB true)),(18,0,oS (.A [.int .i64 2024, .int .i64 2, .int .i64 10, .int .i64 2024, .int .i64 4, .int .i64 1])),(23,0,oS (eB true)),(28,0,oS (eB true)),(32,0,oS (eB true)),(36,0,oS (eB true))])]) [(1000000, .O .Tb)] (.s (eB true)) ⟨hw,trivial⟩ ([[.int .i64 2025, .int .i64 1, .int .i64 1],[.int .i64 2024, .int .i64 2, .int .i64 10]]=(([[.int .i64 2025, .int .i64 1, .int .i64 1],[.int .i64 2024, .int .i64 2, .int .i64 10]]).map dtR).map dtW∧([[.int .i64 2025, .int .i64 1, .int .i64 1],[.int .i64 2024, .int .i64 2, .int .i64 10]]:List (List Value)).length≤1000000∧tLn 74 6 ((spL (2024,1,1) (2024,4,1) (([[.int .i64 2025, .int .i64 1, .int .i64 1],[.int .i64 2024, .int .i64 2, .int .i64 10]]).map dtR)).map ptW) [ptD (wA,wM),ptD (wM,wB)]∧tI (spE (2024,1,1) (2024,4,1) (([[.int .i64 2025, .int .i64 1, .int .i64 1],[.int .i64 2024, .int .i64 2, .int .i64 10]]).map dtR)) 0∧[ptD (wA,wM),ptD (wM,wB)]=([ptD (wA,wM),ptD (wM,wB)].map pR).map ptD∧[ptD (wA,wM),ptD (wM,wB)].length≤4000000∧tK (.O (.Q (ysA (1:Int) ([ptD (wA,wM),ptD (wM,wB)].map pR) fun _=>1) (60*([ptD (wA,wM),ptD (wM,wB)].map pR).length+1))) (.O (.Q (ysA 1 [(wA,wM),(wM,wB)] fun _=>1) 121))∧tI (ysE (1:Int) ([ptD (wA,wM),ptD (wM,wB)].map pR)) 0∧([]:List (List Value))=(([]:List (List Value)).map dtR).map dtW∧(([]:List (List Value)):List (List Value)).length≤1000000∧tI (spE (2024,4,1) (2024,1,1) (([]:List (List Value)).map dtR)) 12∧decide ((0:Int)=0)=true∧decide ((((([ptD (wA,wM),ptD (wM,wB)]:List (List Value)).length:Nat):Int):Int)=2)=true∧0<([ptD (wA,wM),ptD (wM,wB)]:List (List Value)).length∧([ptD (wA,wM),ptD (wM,wB)]:List (List Value)).getD 0 []=([.int .i64 2024, .int .i64 1, .int .i64 1, .int .i64 2024, .int .i64 2, .int .i64 10]:List Value)∧(decide ((2024:Int)=2024)&&(decide ((1:Int)=1)&&(decide ((1:Int)=1)&&(decide ((2024:Int)=2024)&&(decide ((2:Int)=2)&&(decide ((10:Int)=10)&&true))))))=true∧1<([ptD (wA,wM),ptD (wM,wB)]:List (List Value)).length∧([ptD (wA,wM),ptD (wM,wB)]:List (List Value)).getD 1 []=([.int .i64 2024, .int .i64 2, .int .i64 10, .int .i64 2024, .int .i64 4, .int .i64 1]:List Value)∧(decide ((2024:Int)=2024)&&(decide ((2:Int)=2)&&(decide ((10:Int)=10)&&(decide ((2024:Int)=2024)&&(decide ((4:Int)=4)&&(decide ((1:Int)=1)&&true))))))=true∧121≤268435456∧(qtext (ysA 1 [(wA,wM),(wM,wB)] fun _=>1)== [57,49,47,51,54,53])=true∧decide ((0:Int)=0)=true∧decide ((12:Int)=12)=true∧true=true) ⟨(by first|(rw [map_RW];done)|rfl),(by decide),⟨⟨rfl,rfl⟩,(by exact w_l.1)⟩,⟨rfl,by exact w_l.2⟩,(by first|(rw [map_PW];done)|(rw [map_PD];done)|rfl),(by decide),(fun _ _ _ _ _ h=>isQ_re h rfl (by decide)),⟨rfl,by exact w_y.1⟩,(by first|(rw [map_RW];done)|rfl),(by decide),⟨rfl,by exact w_e⟩,rfl,rfl,(by decide),rfl,rfl,(by decide),rfl,rfl,(by omega),(by show (qtext (ysA 1 [(wA,wM),(wM,wB)] fun _=>1)== [57,49,47,51,54,53])=true;rw [w_y.2];rfl),rfl,rfl,rfl⟩
end Go.Proofs.YtjpilacbapibjaaGreatDoor.X
