/- Package split: Parts. Written by a script (tools/laws). -/
import Derived.Test.YtjpilacbapibjaaGreatDoorSi
import Derived.Test.YtjpilacbapibjaaGreatDoorSo
namespace Go.Proofs.YtjpilacbapibjaaGreatDoor.X
open Go.Proofs.YtjpilacbapibjaaGreatDoor.Da
open Go.RowKit Go.Proofs.YtjpilacbapibjaaGreatDoor.Z
set_option linter.unusedVariables false
theorem pb_1 {x y:D3} {cs:List D3} (h: ¬(ri x∧ri y∧ ∀c∈cs,ri c)):cond (cond (wrB x) true (wrB y)) true (((cs.map dtW).map dtR).any wrB)=true:=by
 rw [map_RW]
 unfold wrB
 by_cases a:ri x
 ·by_cases b:ri y
  ·have:=any_1 fun e=>h ⟨a,b,e⟩
   unfold wrB at this
   rw [decide_eq_true a,decide_eq_true b,this]
   rfl
  ·rw [decide_eq_true a,decide_eq_false b];rfl
 ·rw [decide_eq_false a];rfl
theorem pb_0 {x y:D3} {cs:List D3} (h: ¬ ¬(ri x∧ri y∧ ∀c∈cs,ri c)):cond (cond (wrB x) true (wrB y)) true (((cs.map dtW).map dtR).any wrB)=false:=by
 rw [map_RW]
 have h:=Classical.not_not.1 h
 have:=any_0 h.2.2
 unfold wrB at*
 rw [decide_eq_true h.1,decide_eq_true h.2.1,this]
 rfl
theorem d3_b (x y:D3):(decide ((x.1:Int)=y.1)&&(decide (x.2.1=y.2.1)&&(decide (x.2.2=y.2.2)&&true)))=decide (x=y):=by
 obtain ⟨a,b,c⟩:=x
 obtain ⟨d,e,f⟩:=y
 by_cases h1:a=d<;>by_cases h2:b=e<;>by_cases h3:c=f<;>simp [h1,h2,h3]
theorem out_nm {c x y:D3} (h:ri c) (hx:ri x) (hy:ri y):outB c x y=decide (¬(nm x<nm c∧nm c<nm y)):=by
 unfold outB
 rw [cmp_nm h hx,cmp_nm h hy]
 by_cases a:nm x<nm c
 ·by_cases b:nm c<nm y
  ·rw [if_neg (by omega),if_pos a,if_pos b,decide_eq_false (not_not_intro ⟨a,b⟩)];rfl
  ·rw [decide_eq_true (p:= ¬(nm x<nm c∧nm c<nm y)) fun e=>b e.2,if_neg b,Bool.or_eq_true]
   right
   split<;>rfl
 ·rw [decide_eq_true (p:= ¬(nm x<nm c∧nm c<nm y)) fun e=>a e.1,if_neg a,Bool.or_eq_true]
  left
  split<;>rfl
noncomputable abbrev ES (x y:D3) (cs:List D3):List D3:=esD y cs fun c=>outB c x y
theorem es_len (x y:D3) (cs:List D3):(ES x y cs).length≤cs.length+1:=by
 unfold ES esD
 rw [List.length_mergeSort,List.length_append]
 have:=List.length_filter_le (fun c=> !outB c x y) cs
 simp only [List.length_singleton]
 omega
theorem es_rows (x y:D3) (cs:List D3):(((cs.filter fun c=> !outB c x y)++ [y]).mergeSort leD).map dtW=(ES x y cs).map dtW:=rfl
theorem snoc_W (l:List D3) (y:D3):l.map dtW++ [[.int .i64 y.1, .int .i64 y.2.1, .int .i64 y.2.2]]=(l++ [y]).map dtW:=by rw [List.map_append];rfl
theorem snoc_D (l:List (D3×D3)) (a b:D3):l.map ptD++ [[.int .i64 a.1, .int .i64 a.2.1, .int .i64 a.2.2, .int .i64 b.1, .int .i64 b.2.1, .int .i64 b.2.2]]=(l++ [(a,b)]).map ptD:=by rw [List.map_append];rfl
def scS (x y:D3) (cs:List D3) (g:Nat×D3×List (D3×D3)):Prop:=g.1≤(ES x y cs).length∧g.2.2++scD g.2.1 ((ES x y cs).drop g.1)=scD x (ES x y cs)∧g.2.2.length≤g.1
theorem sc_1 {x y:D3} {cs:List D3} {g:Nat×D3×List (D3×D3)} (h:scS x y cs g) (hi:g.1<(ES x y cs).length) (he: ¬dcs (ES x y cs) g.1=g.2.1):scS x y cs (g.1+1,dcs (ES x y cs) g.1,g.2.2++ [(g.2.1,dcs (ES x y cs) g.1)]):=by
 refine ⟨hi, ?_, ?_⟩
 ·have:=h.2.1
  rw [scD_step (e:=dcs (ES x y cs) g.1) hi rfl,if_neg he] at this
  rw [←this]
  simp
 ·have:=h.2.2
  simp only [List.length_append,List.length_singleton]
  omega
theorem sc_0 {x y:D3} {cs:List D3} {g:Nat×D3×List (D3×D3)} (h:scS x y cs g) (hi:g.1<(ES x y cs).length) (he:dcs (ES x y cs) g.1=g.2.1):scS x y cs (g.1+1,dcs (ES x y cs) g.1,g.2.2):=by
 refine ⟨hi, ?_,Nat.le_succ_of_le h.2.2⟩
 have:=h.2.1
 rw [scD_step (e:=dcs (ES x y cs) g.1) hi rfl,if_pos he,List.nil_append] at this
 exact this
theorem sc_end {x y:D3} {cs:List D3} {g:Nat×D3×List (D3×D3)} (h:scS x y cs g) (hi:(ES x y cs).length≤g.1):g.2.2=scD x (ES x y cs):=by
 have:=h.2.1
 rw [List.drop_eq_nil_of_le hi] at this
 rw [←this]
 exact (List.append_nil _).symm
theorem sc_cut {x y:D3} {cs:List D3} (h:spOk x y cs):(scD x (ES x y cs)).map ptD=(spL x y cs).map ptW:=scD_cut h fun c hc=>out_nm (h.1.2.2 c hc) h.1.1 h.1.2.1
theorem sc3 (x y:D3) (cs:List D3) (g:Nat×D3×List (D3×D3)):(ES x y cs).length≤g.1∨(g.1<(ES x y cs).length∧ ¬dcs (ES x y cs) g.1=g.2.1)∨(g.1<(ES x y cs).length∧dcs (ES x y cs) g.1=g.2.1):=by
 rcases Nat.lt_or_ge g.1 (ES x y cs).length with h|h
 ·by_cases e:dcs (ES x y cs) g.1=g.2.1
  ·exact .inr (.inr ⟨h,e⟩)
  ·exact .inr (.inl ⟨h,e⟩)
 ·exact .inl h
theorem withinR {w:World} {v u t:Value} {x y:D3} {z:List (List Value)} (h1:isE (.agg #[.int .i64 x.1, .int .i64 x.2.1, .int .i64 x.2.2]) w v) (h2:isE (.agg #[.int .i64 y.1, .int .i64 y.2.1, .int .i64 y.2.2]) w u) (h3:isRd (cxA w) true 3 z w t) (e1:z=(z.map dtR).map dtW) (hn:z.length≤1000000):Calls Tryz.prog 35 #[v,u,t] w (Ret w fun v' w'=>(f0 w (.s (.L 28 3 (((z.map dtR).filter fun c=> !outB c x y).map dtW) true))).p w' v'):=by
 have e2:v= .agg #[.int .i64 x.1, .int .i64 x.2.1, .int .i64 x.2.2]:=h1
 have e3:u= .agg #[.int .i64 y.1, .int .i64 y.2.1, .int .i64 y.2.2]:=h2
 subst e2 e3
 rw [e1] at h3
 exact within_t h3 (by rw [List.length_map];exact hn)
theorem cmp_le {x y:D3} (h:ri x) (h':ri y) (ho: ¬0<cmpI x.1 x.2.1 x.2.2 y.1 y.2.1 y.2.2):nm x≤nm y:=by
 rcases Int.lt_or_le (nm y) (nm x) with c|c
 ·rw [cmp_nm h h',if_neg (by omega),if_pos c] at ho
  omega
 ·exact c
theorem sp_or12 {x y:D3} {cs:List D3} (h:ri x∧ri y∧ ∀c∈cs,ri c) (ho:0<cmpI x.1 x.2.1 x.2.2 y.1 y.2.1 y.2.2):spL x y cs= []∧spE x y cs=12:=sp_or ⟨h.1,h.2.1⟩ h.2.2 ho
noncomputable def ctb50:List (Ct dk):= [
 ct2 24 0 en24 vDt vDt (fun x y=> .s (eI (cmpI x.1 x.2.1 x.2.2 y.1 y.2.1 y.2.2))) (fun x y=> []) fun _ _ p _ _ _ h1 h2=>pCmp_t h1 h2,
 ct1w 33 0 en33 vDt (.O .Tb) isTbk isTbk_ok (fun x=> .s (eB (wrB (x.1,x.2.1,x.2.2)))) (fun x=> []) fun _ p _ _ _ h1 hW=>wrong_t h1 hW,
 ct2w 34 0 en34 (vL 3) vFn (.O .Tb) isTbk isTbk_ok (fun x y=> .s (eB ((x.map dtR).any wrB))) (fun x y=> [x=(x.map dtR).map dtW,y=33]) fun _ _ p _ _ _ _ h1 h2 hW=>cfWR h1 h2 hW p.1 p.2.1,
 ct3 35 0 en35 vDt vDt (vL 3) (fun x y z=> .s (.L 28 3 (((z.map dtR).filter fun c=> !outB c (x.1,x.2.1,x.2.2) (y.1,y.2.1,y.2.2)).map dtW) true)) (fun x y z=> [z=(z.map dtR).map dtW,(z:List (List Value)).length≤1000000]) fun _ _ _ p _ _ _ _ h1 h2 h3=>withinR h1 h2 h3 p.1 p.2.1]
noncomputable abbrev rpParts_t:=rXt ctb50 [ttSort] Tryz.f11
noncomputable abbrev dpParts_t (y1 m1 d1 y2 m2 d2:Int) (cs:List D3):=dXt ctb50 [ttSort] Tryz.f11 (.t [.L 74 6 ((spL (y1,m1,d1) (y2,m2,d2) cs).map ptW) true,eI (spE (y1,m1,d1) (y2,m2,d2) cs)])
noncomputable def hpParts_t (y1 m1 d1 y2 m2 d2:Int) (cs:List D3):Nat→Hint K:=hnX [(1,[(3,777777,none),(4,777777,none),(5,777777,none),(7,777777,none),(8,777777,none),(9,777777,none)]),(5,[(6,0,oS (.L 28 3 (((cs.filter fun c=> !outB c (y1,m1,d1) (y2,m2,d2))++ [(y2,m2,d2)]).map dtW) true))]),(6,[(1,0,oS (.L 28 3 ((ES (y1,m1,d1) (y2,m2,d2) cs).map dtW) true))]),(7,[(1,0,oS (eI (((ES (y1,m1,d1) (y2,m2,d2) cs).length:Nat):Int))),(2,0,oS (.L 74 6 (([]:List (D3×D3)).map ptD) true))]),(8,[(1,0,oS (eI (((ES (y1,m1,d1) (y2,m2,d2) cs).length:Nat):Int)))])]
noncomputable def ipParts_t_0 (y1 m1 d1 y2 m2 d2:Int) (cs:List D3) (g:Nat×D3×List (D3×D3)):Sx K:=⟨[(7,eI 0),(6, .E (.slice none 0 0)),(1000000, .O .Tb),(38, .L 28 3 ((ES (y1,m1,d1) (y2,m2,d2) cs).map dtW) true),(39,eI (((ES (y1,m1,d1) (y2,m2,d2) cs).length:Nat):Int)),(40,eI (g.1:Int)),(9, .L 74 6 (g.2.2.map ptD) true)],[⟨3,28,eD (g.2.1).1 (g.2.1).2.1 (g.2.1).2.2⟩]⟩
noncomputable def hpParts_t_0_0 (y1 m1 d1 y2 m2 d2:Int) (cs:List D3) (g:Nat×D3×List (D3×D3)):Nat→Hint K:=hnX [(9,[(0,0,oS (eB false))])]
noncomputable def hpParts_t_0_1 (y1 m1 d1 y2 m2 d2:Int) (cs:List D3) (g:Nat×D3×List (D3×D3)):Nat→Hint K:=hnX [(9,[(0,0,oS (eB true))]),(10,[(0,0,oS (.A [.int .i64 (dcs (ES (y1,m1,d1) (y2,m2,d2) cs) g.1).1, .int .i64 (dcs (ES (y1,m1,d1) (y2,m2,d2) cs) g.1).2.1, .int .i64 (dcs (ES (y1,m1,d1) (y2,m2,d2) cs) g.1).2.2]))]),(11,[(2,0,oS (eB true))]),(12,[(5,0,oS (.L 74 6 ((g.2.2++ [(g.2.1,dcs (ES (y1,m1,d1) (y2,m2,d2) cs) g.1)]).map ptD) true))]),(14,[(0,0,oS (eI ((g.1+1:Nat):Int)))])]
noncomputable def hpParts_t_0_2 (y1 m1 d1 y2 m2 d2:Int) (cs:List D3) (g:Nat×D3×List (D3×D3)):Nat→Hint K:=hnX [(9,[(0,0,oS (eB true))]),(10,[(0,0,oS (.A [.int .i64 (dcs (ES (y1,m1,d1) (y2,m2,d2) cs) g.1).1, .int .i64 (dcs (ES (y1,m1,d1) (y2,m2,d2) cs) g.1).2.1, .int .i64 (dcs (ES (y1,m1,d1) (y2,m2,d2) cs) g.1).2.2]))]),(11,[(2,0,oS (eB false))]),(14,[(0,0,oS (eI ((g.1+1:Nat):Int)))])]
theorem pParts_t {w:World} {v0 v1 v2:Value} {y1 m1 d1 y2 m2 d2:Int} {cs:List D3} (h0:(f0 w (.s (eD y1 m1 d1))).p w v0) (h1:(f0 w (.s (eD y2 m2 d2))).p w v1) (h2:(isRd (cxA w) true 3 (cs.map dtW)) w v2) (hw:isTb w v0) (hn:cs.length≤1000000):Calls Tryz.prog 11 #[v0,v1,v2] w (Ret w fun v w'=>(f0 w (.t [.L 74 6 ((spL (y1,m1,d1) (y2,m2,d2) cs).map ptW) true,eI (spE (y1,m1,d1) (y2,m2,d2) cs)])).p w' v):=by
 have hE:=es_len (y1,m1,d1) (y2,m2,d2) cs
 exact fxt ctb50 [ttSort] Tryz.func11 (hpParts_t y1 m1 d1 y2 m2 d2 cs) [(0,eD y1 m1 d1),(1,eD y2 m2 d2),(2, .L 28 3 (cs.map dtW) false),(1000000, .O .Tb)] (.t [.L 74 6 ((spL (y1,m1,d1) (y2,m2,d2) cs).map ptW) true,eI (spE (y1,m1,d1) (y2,m2,d2) cs)]) ⟨h0,h1,h2,hw,trivial⟩ (im2 (wrB (y1,m1,d1)==false)∧(wrB (y1,m1,d1)=false→(wrB (y1,m1,d1)==false)=true)∧((cond (wrB (y1,m1,d1)) true (wrB (y2,m2,d2))==false)=true→cs.map dtW=((cs.map dtW).map dtR).map dtW)∧((cond (wrB (y1,m1,d1)) true (wrB (y2,m2,d2))==false)=true→33=33)∧im2 (cond (wrB (y1,m1,d1)) true (wrB (y2,m2,d2))==false)∧(cond (wrB (y1,m1,d1)) true (wrB (y2,m2,d2))=false→(cond (wrB (y1,m1,d1)) true (wrB (y2,m2,d2))==false)=true)∧cnd (cond (cond (wrB (y1,m1,d1)) true (wrB (y2,m2,d2))) true (((cs.map dtW).map dtR).any wrB)) (tK (.E (.slice none 0 0)) (.L 74 6 ((spL (y1,m1,d1) (y2,m2,d2) cs).map ptW) true)∧tI 11 (spE (y1,m1,d1) (y2,m2,d2) cs)∧True) (cnd (decide ((0:Int)<cmpI y1 m1 d1 y2 m2 d2)) (tK (.E (.slice none 0 0)) (.L 74 6 ((spL (y1,m1,d1) (y2,m2,d2) cs).map ptW) true)∧tI 12 (spE (y1,m1,d1) (y2,m2,d2) cs)∧True) (cs.map dtW=((cs.map dtW).map dtR).map dtW∧(cs.map dtW:List (List Value)).length≤1000000∧(((((cs.map dtW).map dtR).filter fun c=> !outB c (y1,m1,d1) (y2,m2,d2)).map dtW).length+([[.int .i64 y2, .int .i64 m2, .int .i64 d2]]:List (List Value)).length)*24≤140737488355328∧tLs 28 3 true ((((cs.map dtW).map dtR).filter fun c=> !outB c (y1,m1,d1) (y2,m2,d2)).map dtW++([[.int .i64 y2, .int .i64 m2, .int .i64 d2]]:List (List Value))) (((cs.filter fun c=> !outB c (y1,m1,d1) (y2,m2,d2))++ [(y2,m2,d2)]).map dtW)∧((cs.filter fun c=> !outB c (y1,m1,d1) (y2,m2,d2))++ [(y2,m2,d2)]).map dtW=((((cs.filter fun c=> !outB c (y1,m1,d1) (y2,m2,d2))++ [(y2,m2,d2)]).map dtW).map dtR).map dtW∧(((cs.filter fun c=> !outB c (y1,m1,d1) (y2,m2,d2))++ [(y2,m2,d2)]).map dtW).length≤4000000∧tLs 28 3 true ((((((cs.filter fun c=> !outB c (y1,m1,d1) (y2,m2,d2))++ [(y2,m2,d2)]).map dtW).map dtR).mergeSort leD).map dtW) ((ES (y1,m1,d1) (y2,m2,d2) cs).map dtW)∧tI ((((ES (y1,m1,d1) (y2,m2,d2) cs).map dtW).length:Nat):Int) (((ES (y1,m1,d1) (y2,m2,d2) cs).length:Nat):Int)∧(ES (y1,m1,d1) (y2,m2,d2) cs).length≤9223372036854775807∧48*(ES (y1,m1,d1) (y2,m2,d2) cs).length≤281474976710656∧tLs 74 6 true [] (([]:List (D3×D3)).map ptD)∧tI ((((ES (y1,m1,d1) (y2,m2,d2) cs).map dtW).length:Nat):Int) (((ES (y1,m1,d1) (y2,m2,d2) cs).length:Nat):Int)∧dpParts_t y1 m1 d1 y2 m2 d2 cs [1,1,1,1,1,0,1] [(hpParts_t y1 m1 d1 y2 m2 d2 cs)] [] (rlX (rpParts_t (hpParts_t y1 m1 d1 y2 m2 d2 cs)) [8,7,6,5,3,1] (ent Tryz.prog Tryz.f11 (κ:=K) [(0,eD y1 m1 d1),(1,eD y2 m2 d2),(2, .L 28 3 (cs.map dtW) false),(1000000, .O .Tb)]))))) ⟨id,(fun hp=>by simp_all),(fun hg=>(by first|(rw [map_RW];done)|rfl)),(fun hg=>rfl),id,(fun hp=>by simp_all),((Classical.em (¬(ri (y1,m1,d1)∧ri (y2,m2,d2)∧ ∀c∈cs,ri c))).elim (fun hr=>cnd_t (pb_1 hr) ⟨nil_L (by first|(rw [(sp_date hr).1];rfl)|(rw [(sp_or12 (Classical.not_not.1 hr) ho).1];rfl)|exact (congrArg (List.map ptD) hC1).trans (sc_cut (show spOk (y1,m1,d1) (y2,m2,d2) cs from ⟨Classical.not_not.1 hr,cmp_le (Classical.not_not.1 hr).1 (Classical.not_not.1 hr).2.1 ho⟩))),⟨rfl,by first|exact (sp_date hr).2.symm|exact (sp_or12 (Classical.not_not.1 hr) ho).2.symm|exact (sp_yes (show spOk (y1,m1,d1) (y2,m2,d2) cs from ⟨Classical.not_not.1 hr,cmp_le (Classical.not_not.1 hr).1 (Classical.not_not.1 hr).2.1 ho⟩)).2.symm⟩,trivial⟩) (fun hr=>cnd_f (pb_0 hr) ((Classical.em (0<cmpI y1 m1 d1 y2 m2 d2)).elim (fun ho=>cnd_t (decide_eq_true ho) ⟨nil_L (by first|(rw [(sp_date hr).1];rfl)|(rw [(sp_or12 (Classical.not_not.1 hr) ho).1];rfl)|exact (congrArg (List.map ptD) hC1).trans (sc_cut (show spOk (y1,m1,d1) (y2,m2,d2) cs from ⟨Classical.not_not.1 hr,cmp_le (Classical.not_not.1 hr).1 (Classical.not_not.1 hr).2.1 ho⟩))),⟨rfl,by first|exact (sp_date hr).2.symm|exact (sp_or12 (Classical.not_not.1 hr) ho).2.symm|exact (sp_yes (show spOk (y1,m1,d1) (y2,m2,d2) cs from ⟨Classical.not_not.1 hr,cmp_le (Classical.not_not.1 hr).1 (Classical.not_not.1 hr).2.1 ho⟩)).2.symm⟩,trivial⟩) (fun ho=>cnd_f (decide_eq_false ho) ⟨(by first|(rw [map_RW];done)|rfl),(by rw [List.length_map];exact hn),(by have:=List.length_filter_le (fun c=> !outB c (y1,m1,d1) (y2,m2,d2)) ((cs.map dtW).map dtR);rw [List.length_map,List.length_map] at this;rw [List.length_map,List.length_singleton];omega),⟨⟨rfl,rfl,rfl⟩,(by rw [map_RW];exact snoc_W _ (y2,m2,d2))⟩,(by first|(rw [map_RW];done)|rfl),(by have:=List.length_filter_le (fun c=> !outB c (y1,m1,d1) (y2,m2,d2)) cs;rw [List.length_map,List.length_append,List.length_singleton];omega),⟨⟨rfl,rfl,rfl⟩,(by rw [map_RW];exact es_rows _ _ _)⟩,⟨rfl,by simp⟩,(by omega),(by omega),⟨⟨rfl,rfl,rfl⟩,rfl⟩,⟨rfl,by simp⟩,(lpI (fun h S' J=>dpParts_t y1 m1 d1 y2 m2 d2 cs [1,1,1,1,1,0,1,0,2] [(hpParts_t y1 m1 d1 y2 m2 d2 cs),h] [J] S') (fun g:Nat×D3×List (D3×D3)=>scS (y1,m1,d1) (y2,m2,d2) cs g) (fun g=>(ES (y1,m1,d1) (y2,m2,d2) cs).length-g.1) (ipParts_t_0 y1 m1 d1 y2 m2 d2 cs) (0,(y1,m1,d1),[]) (rlX (rpParts_t (hpParts_t y1 m1 d1 y2 m2 d2 cs)) [8,7,6,5,3,1] (ent Tryz.prog Tryz.f11 (κ:=K) [(0,eD y1 m1 d1),(1,eD y2 m2 d2),(2, .L 28 3 (cs.map dtW) false),(1000000, .O .Tb)])) (⟨Nat.zero_le _,rfl,Nat.le_refl _⟩) (fun g hC1 J1 hJ1=>(by
  rcases sc3 (y1,m1,d1) (y2,m2,d2) cs g with h8|h8|h8
  ·exact ⟨hpParts_t_0_0 y1 m1 d1 y2 m2 d2 cs g,vcP (decide (((g.1:Int):Int)<(((ES (y1,m1,d1) (y2,m2,d2) cs).length:Nat):Int))=false∧(tLs 74 6 true (g.2.2.map ptD) ((spL (y1,m1,d1) (y2,m2,d2) cs).map ptW)∧tI 0 (spE (y1,m1,d1) (y2,m2,d2) cs)∧True)) ⟨decide_eq_false (by omega),(have hC1:g.2.2=scD (y1,m1,d1) (ES (y1,m1,d1) (y2,m2,d2) cs):=(sc_end hC1 h8);⟨⟨⟨rfl,rfl,rfl⟩,(by first|(rw [(sp_date hr).1];rfl)|(rw [(sp_or12 (Classical.not_not.1 hr) ho).1];rfl)|exact (congrArg (List.map ptD) hC1).trans (sc_cut (show spOk (y1,m1,d1) (y2,m2,d2) cs from ⟨Classical.not_not.1 hr,cmp_le (Classical.not_not.1 hr).1 (Classical.not_not.1 hr).2.1 ho⟩)))⟩,⟨rfl,by first|exact (sp_date hr).2.symm|exact (sp_or12 (Classical.not_not.1 hr) ho).2.symm|exact (sp_yes (show spOk (y1,m1,d1) (y2,m2,d2) cs from ⟨Classical.not_not.1 hr,cmp_le (Classical.not_not.1 hr).1 (Classical.not_not.1 hr).2.1 ho⟩)).2.symm⟩,trivial⟩)⟩⟩
  ·exact ⟨hpParts_t_0_1 y1 m1 d1 y2 m2 d2 cs g,vcP (decide (((g.1:Int):Int)<(((ES (y1,m1,d1) (y2,m2,d2) cs).length:Nat):Int))=true∧g.1<((ES (y1,m1,d1) (y2,m2,d2) cs).map dtW).length∧((ES (y1,m1,d1) (y2,m2,d2) cs).map dtW).getD g.1 []=([.int .i64 (dcs (ES (y1,m1,d1) (y2,m2,d2) cs) g.1).1, .int .i64 (dcs (ES (y1,m1,d1) (y2,m2,d2) cs) g.1).2.1, .int .i64 (dcs (ES (y1,m1,d1) (y2,m2,d2) cs) g.1).2.2]:List Value)∧(!(decide (((dcs (ES (y1,m1,d1) (y2,m2,d2) cs) g.1).1:Int)=(g.2.1).1)&&(decide (((dcs (ES (y1,m1,d1) (y2,m2,d2) cs) g.1).2.1:Int)=(g.2.1).2.1)&&(decide (((dcs (ES (y1,m1,d1) (y2,m2,d2) cs) g.1).2.2:Int)=(g.2.1).2.2)&&true))))=true∧((g.2.2.map ptD).length+([[.int .i64 (g.2.1).1, .int .i64 (g.2.1).2.1, .int .i64 (g.2.1).2.2, .int .i64 (dcs (ES (y1,m1,d1) (y2,m2,d2) cs) g.1).1, .int .i64 (dcs (ES (y1,m1,d1) (y2,m2,d2) cs) g.1).2.1, .int .i64 (dcs (ES (y1,m1,d1) (y2,m2,d2) cs) g.1).2.2]]:List (List Value)).length)*48≤140737488355328∧tLs 74 6 true (g.2.2.map ptD++([[.int .i64 (g.2.1).1, .int .i64 (g.2.1).2.1, .int .i64 (g.2.1).2.2, .int .i64 (dcs (ES (y1,m1,d1) (y2,m2,d2) cs) g.1).1, .int .i64 (dcs (ES (y1,m1,d1) (y2,m2,d2) cs) g.1).2.1, .int .i64 (dcs (ES (y1,m1,d1) (y2,m2,d2) cs) g.1).2.2]]:List (List Value))) ((g.2.2++ [(g.2.1,dcs (ES (y1,m1,d1) (y2,m2,d2) cs) g.1)]).map ptD)∧wp ((g.1:Int)+1)∧tI ((g.1:Int)+1) ((g.1+1:Nat):Int)∧J1 (rlX (rpParts_t (hpParts_t_0_1 y1 m1 d1 y2 m2 d2 cs g)) [14,13,12,11,10,9] (ipParts_t_0 y1 m1 d1 y2 m2 d2 cs g))) ⟨decide_eq_true (by omega),(by rw [List.length_map];exact h8.1),dcs_row h8.1,(congrArg (!·) (d3_b _ _)).trans (by rw [decide_eq_false h8.2];rfl),(by have:=hC1.2.2;simp only [List.length_map,List.length_singleton];omega),⟨⟨rfl,rfl,rfl⟩,snoc_D g.2.2 g.2.1 _⟩,wi (by omega),⟨rfl,by omega⟩,hJ1 (g.1+1,dcs (ES (y1,m1,d1) (y2,m2,d2) cs) g.1,g.2.2++ [(g.2.1,dcs (ES (y1,m1,d1) (y2,m2,d2) cs) g.1)]) _ (sc_1 hC1 h8.1 h8.2) (by show (ES (y1,m1,d1) (y2,m2,d2) cs).length-(g.1+1)<_;have:=h8.1;omega) ⟨by kernel_rfl,by kernel_rfl⟩⟩⟩
  ·exact ⟨hpParts_t_0_2 y1 m1 d1 y2 m2 d2 cs g,vcP (decide (((g.1:Int):Int)<(((ES (y1,m1,d1) (y2,m2,d2) cs).length:Nat):Int))=true∧g.1<((ES (y1,m1,d1) (y2,m2,d2) cs).map dtW).length∧((ES (y1,m1,d1) (y2,m2,d2) cs).map dtW).getD g.1 []=([.int .i64 (dcs (ES (y1,m1,d1) (y2,m2,d2) cs) g.1).1, .int .i64 (dcs (ES (y1,m1,d1) (y2,m2,d2) cs) g.1).2.1, .int .i64 (dcs (ES (y1,m1,d1) (y2,m2,d2) cs) g.1).2.2]:List Value)∧(!(decide (((dcs (ES (y1,m1,d1) (y2,m2,d2) cs) g.1).1:Int)=(g.2.1).1)&&(decide (((dcs (ES (y1,m1,d1) (y2,m2,d2) cs) g.1).2.1:Int)=(g.2.1).2.1)&&(decide (((dcs (ES (y1,m1,d1) (y2,m2,d2) cs) g.1).2.2:Int)=(g.2.1).2.2)&&true))))=false∧wp ((g.1:Int)+1)∧tI ((g.1:Int)+1) ((g.1+1:Nat):Int)∧J1 (rlX (rpParts_t (hpParts_t_0_2 y1 m1 d1 y2 m2 d2 cs g)) [14,13,11,10,9] (ipParts_t_0 y1 m1 d1 y2 m2 d2 cs g))) ⟨decide_eq_true (by omega),(by rw [List.length_map];exact h8.1),dcs_row h8.1,(congrArg (!·) (d3_b _ _)).trans (by rw [decide_eq_true h8.2];rfl),wi (by omega),⟨rfl,by omega⟩,hJ1 (g.1+1,dcs (ES (y1,m1,d1) (y2,m2,d2) cs) g.1,g.2.2) _ (sc_0 hC1 h8.1 h8.2) (by show (ES (y1,m1,d1) (y2,m2,d2) cs).length-(g.1+1)<_;have:=h8.1;omega) ⟨by kernel_rfl,by kernel_rfl⟩⟩⟩)))⟩))))⟩
end Go.Proofs.YtjpilacbapibjaaGreatDoor.X
