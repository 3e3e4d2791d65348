/- Package split: sums. Written by a script (tools/laws). -/
import Derived.Test.YtjpilacbapibjaaGreatDoorSPc
namespace Go.Proofs.YtjpilacbapibjaaGreatDoor.X
open Go.Proofs.YtjpilacbapibjaaGreatDoor.Da
open Go.RowKit Go.Proofs.YtjpilacbapibjaaGreatDoor.Z
set_option linter.unusedVariables false
abbrev yE (k:Int) (p:D3×D3):Int:=yrE k p.1.1 p.1.2.1 p.1.2.2 p.2.1 p.2.2.1 p.2.2.2
noncomputable abbrev yA (k:Int) (p:D3×D3):Rat:=yrA k p.1.1 p.1.2.1 p.1.2.2 p.2.1 p.2.2.1 p.2.2.2
def pd (ps:List (D3×D3)) (i:Nat):D3×D3:=ps.getD i ((0,0,0),(0,0,0))
def ysE (k:Int):List (D3×D3)→Int
 | []=>0
 |p::r=>if yE k p=0 then ysE k r else yE k p
noncomputable def ysA (k:Int) (ps:List (D3×D3)) (f:Nat→Rat):Rat:=if ysE k ps=0 then wsum (fun i=>yA k (pd ps i)*f i) ps.length else 0
theorem ysE_at {k:Int}: ∀{ps:List (D3×D3)} {i:Nat},i<ps.length→(∀j,j<i→yE k (pd ps j)=0)→yE k (pd ps i)≠0→ysE k ps=yE k (pd ps i):=by
 intro ps
 induction ps with
 |nil=>intro i h;cases h
 |cons p r ih=>
  intro i hi h1 h2
  unfold ysE
  cases i with
  |zero=>exact if_neg h2
  |succ i=>
   rw [if_pos (show yE k p=0 from h1 0 (Nat.succ_pos i))]
   exact ih (Nat.lt_of_succ_lt_succ hi) (fun j hj=>h1 (j+1) (Nat.succ_lt_succ hj)) h2
theorem ysE_all {k:Int}: ∀{ps:List (D3×D3)},(∀j,j<ps.length→yE k (pd ps j)=0)→ysE k ps=0:=by
 intro ps
 induction ps with
 |nil=>intro _;rfl
 |cons p r ih=>
  intro h1
  unfold ysE
  rw [if_pos (show yE k p=0 from h1 0 (Nat.succ_pos _))]
  exact ih fun j hj=>h1 (j+1) (Nat.succ_lt_succ hj)
theorem ys_no {k:Int} {ps:List (D3×D3)} {f:Nat→Rat} {i:Nat} (hi:i<ps.length) (h1: ∀j,j<i→yE k (pd ps j)=0) (h2:yE k (pd ps i)≠0):ysA k ps f=0∧ysE k ps=yE k (pd ps i):=by
 have e:=ysE_at hi h1 h2
 unfold ysA
 rw [if_neg (by rw [e];exact h2)]
 exact ⟨rfl,e⟩
theorem ys_yes {k:Int} {ps:List (D3×D3)} {f:Nat→Rat} (h: ∀j,j<ps.length→yE k (pd ps j)=0):ysA k ps f=wsum (fun i=>yA k (pd ps i)*f i) ps.length∧ysE k ps=0:=by
 have e:=ysE_all h
 unfold ysA
 rw [if_pos e]
 exact ⟨rfl,e⟩
theorem pd_row {ps:List (D3×D3)} {i:Nat} (h:i<ps.length):(ps.map ptD).getD i []= [.int .i64 (pd ps i).1.1, .int .i64 (pd ps i).1.2.1, .int .i64 (pd ps i).1.2.2, .int .i64 (pd ps i).2.1, .int .i64 (pd ps i).2.2.1, .int .i64 (pd ps i).2.2.2]:=by
 unfold pd
 rw [List.getD_eq_getElem?_getD,List.getD_eq_getElem?_getD,List.getElem?_map,List.getElem?_eq_getElem h]
 rfl
theorem ys3 {k:Int} {ps:List (D3×D3)} {i:Nat}:ps.length≤i∨(i<ps.length∧yE k (pd ps i)=0)∨(i<ps.length∧ ¬yE k (pd ps i)=0):=by
 rcases Nat.lt_or_ge i ps.length with h|h
 ·by_cases e:yE k (pd ps i)=0
  ·exact .inr (.inl ⟨h,e⟩)
  ·exact .inr (.inr ⟨h,e⟩)
 ·exact .inl h
theorem all_next {p:Nat→Prop} {i:Nat} (h: ∀j,j<i→p j) (h2:p i): ∀j,j<i+1→p j:=fun j hj=>by
 rcases Nat.lt_or_eq_of_le (Nat.le_of_lt_succ hj) with e|e
 ·exact h j e
 ·rw [e];exact h2
abbrev qK (q:Rat):K:= .Q q 2
theorem qK_get {ws:List Rat} {i:Nat} (h:i<ws.length):(ws.map qK).getD i .B0= .Q (ws.getD i 0) 2:=by
 rw [List.getD_eq_getElem?_getD,List.getD_eq_getElem?_getD,List.getElem?_map,List.getElem?_eq_getElem h]
 rfl
abbrev q50 (q:Rat):K:= .Q q 50
noncomputable def yQ (k:Int) (ps:List (D3×D3)):List Rat:=if ysE k ps=0 then ps.map (yA k) else []
theorem yQ_no {k:Int} {ps:List (D3×D3)} {i:Nat} (hi:i<ps.length) (h1: ∀j,j<i→yE k (pd ps j)=0) (h2: ¬yE k (pd ps i)=0):yQ k ps= []:=by
 unfold yQ
 rw [if_neg (by rw [ysE_at hi h1 h2];exact h2)]
theorem yQ_yes {k:Int} {ps:List (D3×D3)} (h: ∀j,j<ps.length→yE k (pd ps j)=0):yQ k ps=ps.map (yA k):=by
 unfold yQ
 rw [if_pos (ysE_all h)]
theorem yQ_len (k:Int) (ps:List (D3×D3)):(yQ k ps).length≤ps.length:=by
 unfold yQ
 split
 ·rw [List.length_map];exact Nat.le_refl _
 ·exact Nat.zero_le _
theorem yQ_sum {k:Int} {ps:List (D3×D3)} {f:Nat→Rat}:wsum (fun i=>(yQ k ps).getD i 0*f i) (yQ k ps).length=ysA k ps f:=by
 unfold ysA yQ
 by_cases h:ysE k ps=0
 ·rw [if_pos h,if_pos h,List.length_map]
  refine wsum_congr fun i hi=> ?_
  congr 1
  unfold pd
  rw [List.getD_eq_getElem?_getD,List.getElem?_map,List.getD_eq_getElem?_getD,List.getElem?_eq_getElem hi]
  rfl
 ·rw [if_neg h,if_neg h]
  rfl
theorem q50_get {ws:List Rat} {i:Nat} (h:i<ws.length):(ws.map q50).getD i .B0= .Q (ws.getD i 0) 50:=by
 rw [List.getD_eq_getElem?_getD,List.getD_eq_getElem?_getD,List.getElem?_map,List.getElem?_eq_getElem h]
 rfl
theorem yA_snoc {k:Int} {ps:List (D3×D3)} {i:Nat} (h:i<ps.length):((ps.take i).map (yA k)).map q50++ [K.Q (yrA k (pd ps i).1.1 (pd ps i).1.2.1 (pd ps i).1.2.2 (pd ps i).2.1 (pd ps i).2.2.1 (pd ps i).2.2.2) 50]=((ps.take (i+1)).map (yA k)).map q50:=by
 rw [List.take_succ_eq_append_getElem h,List.map_append,List.map_append]
 congr 1
 unfold pd
 rw [List.getD_eq_getElem?_getD,List.getElem?_eq_getElem h]
 rfl
theorem nil_M {T sz:Nat} {os:List K} (ho:os= []):tK (.E (.slice none 0 0)) (.M T sz os 1):=fun cx kf lv w v h=>by
 subst ho
 have e:v= .slice none 0 0:=h
 subst e
 exact ⟨[],⟨(fun r hr=>by cases hr),⟨by simp, .inl ⟨rfl,rfl⟩⟩,fun b e=>by cases e⟩,trivial⟩
def pR (r:List Value):D3×D3:=(dtR (r.take 3),dtR (r.drop 3))
noncomputable def d2 (p:Int×Int):D3×D3:=(dtN p.1,dtN p.2)
def kQ:K→Rat
 | .Q q _=>q
 |_=>0
theorem map_PW (l:List (Int×Int)):((l.map ptW).map pR).map ptD=l.map ptW:=by
 rw [List.map_map,List.map_map]
 exact List.map_congr_left fun p _=>rfl
theorem map_PW1 (l:List (Int×Int)):(l.map ptW).map pR=l.map d2:=by
 rw [List.map_map]
 exact List.map_congr_left fun p _=>rfl
theorem map_PD (l:List (D3×D3)):(l.map ptD).map pR=l:=by
 rw [List.map_map]
 exact (List.map_congr_left fun p _=>rfl).trans (List.map_id l)
theorem map_kQ (l:List Rat):(l.map qK).map kQ=l:=by
 rw [List.map_map]
 exact (List.map_congr_left fun p _=>rfl).trans (List.map_id l)
noncomputable def ctb51:List (Ct dk):= [
 ct3w 25 0 en25 vI vDt vDt (.O .Tb) isTbk isTbk_ok (fun x y z=> .t [.O (.Q (yrA x y.1 y.2.1 y.2.2 z.1 z.2.1 z.2.2) 50),eI (yrE x y.1 y.2.1 y.2.2 z.1 z.2.1 z.2.2)]) (fun x y z=> []) fun _ _ _ p _ _ _ _ _ h1 h2 h3 hW=>pYear_t h1 h2 h3 hW]
noncomputable abbrev reach_t:=rX ctb51 Tryz.f47
noncomputable abbrev deach_t (k:Int) (ps:List (D3×D3)):=dX ctb51 Tryz.f47 (.t [.M 55 3 ((yQ k ps).map q50) 1,eI (ysE k ps)])
noncomputable def heach_t (k:Int) (ps:List (D3×D3)):Nat→Hint K:=hnX [(1,[(1,0,oS (eI ((ps.length:Nat):Int))),(2,0,oS (.M 55 3 (((ps.take 0).map (yA k)).map q50) 1))]),(2,[(1,0,oS (eI ((ps.length:Nat):Int)))])]
noncomputable def ieach_t_0 (k:Int) (ps:List (D3×D3)) (i:Nat):Sx K:=⟨[(0,eI k),(1000000, .O .Tb),(14, .L 74 6 (ps.map ptD) false),(15,eI ((ps.length:Nat):Int)),(16,eI (i:Int)),(6, .M 55 3 (((ps.take i).map (yA k)).map q50) 1)],[]⟩
noncomputable def heach_t_0_0 (k:Int) (ps:List (D3×D3)) (i:Nat):Nat→Hint K:=hnX [(3,[(0,0,oS (eB false))])]
noncomputable def heach_t_0_1 (k:Int) (ps:List (D3×D3)) (i:Nat):Nat→Hint K:=hnX [(3,[(0,0,oS (eB true))]),(4,[(0,0,oS (.A [.int .i64 (pd ps i).1.1, .int .i64 (pd ps i).1.2.1, .int .i64 (pd ps i).1.2.2, .int .i64 (pd ps i).2.1, .int .i64 (pd ps i).2.2.1, .int .i64 (pd ps i).2.2.2]))]),(6,[(1,0,oS (eB false))]),(8,[(3,0,oS (.M 55 3 (((ps.take (i+1)).map (yA k)).map q50) 1))]),(9,[(0,0,oS (eI ((i+1:Nat):Int)))])]
noncomputable def heach_t_0_2 (k:Int) (ps:List (D3×D3)) (i:Nat):Nat→Hint K:=hnX [(3,[(0,0,oS (eB true))]),(4,[(0,0,oS (.A [.int .i64 (pd ps i).1.1, .int .i64 (pd ps i).1.2.1, .int .i64 (pd ps i).1.2.2, .int .i64 (pd ps i).2.1, .int .i64 (pd ps i).2.2.1, .int .i64 (pd ps i).2.2.2]))]),(6,[(1,0,oS (eB true))])]
theorem each_t {w:World} {v0 v1:Value} {k:Int} {ps:List (D3×D3)} (h0:(isE (.int .i64 k)) w v0) (h1:(isRd (cxA w) true 6 (ps.map ptD)) w v1) (hw:isTb w v0) (hl:ps.length≤4000000):Calls Tryz.prog 47 #[v0,v1] w (Ret w fun v w'=>(f0 w (.t [.M 55 3 ((yQ k ps).map q50) 1,eI (ysE k ps)])).p w' v):=by
 exact fx ctb51 Tryz.func47 (heach_t k ps) [(0,eI k),(1, .L 74 6 (ps.map ptD) false),(1000000, .O .Tb)] (.t [.M 55 3 ((yQ k ps).map q50) 1,eI (ysE k ps)]) ⟨h0,h1,hw,trivial⟩ (tI (((ps.map ptD).length:Nat):Int) ((ps.length:Nat):Int)∧ps.length≤9223372036854775807∧56*ps.length≤281474976710656∧tK (.L 55 3 [] true) (.M 55 3 (((ps.take 0).map (yA k)).map q50) 1)∧tI (((ps.map ptD).length:Nat):Int) ((ps.length:Nat):Int)∧deach_t k ps [1,0,1] [(heach_t k ps)] [] (rlX (reach_t (heach_t k ps)) [2,1] (ent Tryz.prog Tryz.f47 (κ:=K) [(0,eI k),(1, .L 74 6 (ps.map ptD) false),(1000000, .O .Tb)]))) ⟨⟨rfl,by simp⟩,(by omega),(by omega),(fun _ _ _ _ _ h=>⟨[],h,trivial⟩),⟨rfl,by simp⟩,(lpI (fun h S' J=>deach_t k ps [1,0,1,0,2] [(heach_t k ps),h] [J] S') (fun i:Nat=>i≤ps.length∧ ∀j,j<i→yE k (pd ps j)=0) (fun i=>ps.length-i) (ieach_t_0 k ps) (0) (rlX (reach_t (heach_t k ps)) [2,1] (ent Tryz.prog Tryz.f47 (κ:=K) [(0,eI k),(1, .L 74 6 (ps.map ptD) false),(1000000, .O .Tb)])) (⟨Nat.zero_le _,fun j h=>by omega⟩) (fun i hC1 J1 hJ1=>(by
  rcases ys3 (k:=k) (ps:=ps) (i:=i) with h8|h8|h8
  ·exact ⟨heach_t_0_0 k ps i,vcP (decide (((i:Int):Int)<((ps.length:Nat):Int))=false∧(tMo 55 3 1 (((ps.take i).map (yA k)).map q50) ((yQ k ps).map q50)∧tI 0 (ysE k ps)∧True)) ⟨decide_eq_false (by omega),(have hC1:i=ps.length∧ ∀j,j<ps.length→yE k (pd ps j)=0:=(⟨by omega,fun j hj=>hC1.2 j (by omega)⟩);⟨⟨⟨rfl,rfl,rfl⟩,(by first|exact (show _=(yQ k ps).map q50 by rw [yQ_yes hC1.2,hC1.1,List.take_length])|exact nil_M (by rw [yQ_no h8.1 hC1.2 h8.2];rfl) _ _ _ _ _ h)⟩,⟨rfl,by first|exact (ys_no (f:=fun _=>0) h8.1 hC1.2 h8.2).2.symm|exact (ys_yes (f:=fun _=>0) hC1.2).2.symm⟩,trivial⟩)⟩⟩
  ·exact ⟨heach_t_0_1 k ps i,vcP (decide (((i:Int):Int)<((ps.length:Nat):Int))=true∧i<(ps.map ptD).length∧(ps.map ptD).getD i []=([.int .i64 (pd ps i).1.1, .int .i64 (pd ps i).1.2.1, .int .i64 (pd ps i).1.2.2, .int .i64 (pd ps i).2.1, .int .i64 (pd ps i).2.2.1, .int .i64 (pd ps i).2.2.2]:List Value)∧(!decide ((yrE k (pd ps i).1.1 (pd ps i).1.2.1 (pd ps i).1.2.2 (pd ps i).2.1 (pd ps i).2.2.1 (pd ps i).2.2.2:Int)=0))=false∧((((ps.take i).map (yA k)).map q50).length+([.Q (yrA k (pd ps i).1.1 (pd ps i).1.2.1 (pd ps i).1.2.2 (pd ps i).2.1 (pd ps i).2.2.1 (pd ps i).2.2.2) 50]:List K).length)*56≤140737488355328∧tMo 55 3 1 (((ps.take i).map (yA k)).map q50++([.Q (yrA k (pd ps i).1.1 (pd ps i).1.2.1 (pd ps i).1.2.2 (pd ps i).2.1 (pd ps i).2.2.1 (pd ps i).2.2.2) 50]:List K)) (((ps.take (i+1)).map (yA k)).map q50)∧wp ((i:Int)+1)∧tI ((i:Int)+1) ((i+1:Nat):Int)∧J1 (rlX (reach_t (heach_t_0_1 k ps i)) [9,8,6,5,4,3] (ieach_t_0 k ps i))) ⟨decide_eq_true (by omega),(by rw [List.length_map];exact h8.1),pd_row h8.1,(by rw [decide_eq_true h8.2];rfl),(by rw [List.length_map,List.length_map,List.length_take,Nat.min_eq_left hC1.1];have:=h8.1;simp only [List.length_singleton];omega),⟨⟨rfl,rfl,rfl⟩,yA_snoc h8.1⟩,wi (by omega),⟨rfl,by omega⟩,hJ1 (i+1) _ (⟨h8.1,all_next hC1.2 h8.2⟩) (by omega) ⟨by kernel_rfl,by kernel_rfl⟩⟩⟩
  ·exact ⟨heach_t_0_2 k ps i,vcP (decide (((i:Int):Int)<((ps.length:Nat):Int))=true∧i<(ps.map ptD).length∧(ps.map ptD).getD i []=([.int .i64 (pd ps i).1.1, .int .i64 (pd ps i).1.2.1, .int .i64 (pd ps i).1.2.2, .int .i64 (pd ps i).2.1, .int .i64 (pd ps i).2.2.1, .int .i64 (pd ps i).2.2.2]:List Value)∧(!decide ((yrE k (pd ps i).1.1 (pd ps i).1.2.1 (pd ps i).1.2.2 (pd ps i).2.1 (pd ps i).2.2.1 (pd ps i).2.2.2:Int)=0))=true∧(tK (.E (.slice none 0 0)) (.M 55 3 ((yQ k ps).map q50) 1)∧tI (yrE k (pd ps i).1.1 (pd ps i).1.2.1 (pd ps i).1.2.2 (pd ps i).2.1 (pd ps i).2.2.1 (pd ps i).2.2.2) (ysE k ps)∧True)) ⟨decide_eq_true (by omega),(by rw [List.length_map];exact h8.1),pd_row h8.1,(by rw [decide_eq_false h8.2];rfl),⟨(fun _ _ _ _ _ h=>by first|exact (show _=(yQ k ps).map q50 by rw [yQ_yes hC1.2,hC1.1,List.take_length])|exact nil_M (by rw [yQ_no h8.1 hC1.2 h8.2];rfl) _ _ _ _ _ h),⟨rfl,by first|exact (ys_no (f:=fun _=>0) h8.1 hC1.2 h8.2).2.symm|exact (ys_yes (f:=fun _=>0) hC1.2).2.symm⟩,trivial⟩⟩⟩)))⟩
theorem zero_F {w:World} {v:Value} (e:v= .agg (zeroOf Tryz.prog 55)):isF 0 0 1 w v:=
 ⟨none,0,0,none,0,0,e.trans (congrArg Value.agg (by kernel_rfl)),(IsN.zero w).weak (Nat.zero_le 1),(IsN.zero w).weak (Nat.zero_le 1)⟩
noncomputable def wsA (k:Int) (ps:List (D3×D3)) (ws:List Rat):Rat:=if ws.length=ps.length then ysA k ps fun i=>ws.getD i 0 else 0
def wsE (k:Int) (ps:List (D3×D3)) (ws:List Rat):Int:=if ws.length=ps.length then ysE k ps else 2
theorem ws_no {k:Int} {ps:List (D3×D3)} {ws:List Rat} (h: ¬ws.length=ps.length):wsA k ps ws=0∧wsE k ps ws=2:=by
 unfold wsA wsE
 rw [if_neg h,if_neg h]
 exact ⟨rfl,rfl⟩
theorem ws_yes {k:Int} {ps:List (D3×D3)} {ws:List Rat} (h: ¬ ¬ws.length=ps.length):wsA k ps ws=(ysA k ps fun i=>ws.getD i 0)∧wsE k ps ws=ysE k ps:=by
 unfold wsA wsE
 rw [if_pos (by omega),if_pos (by omega)]
 exact ⟨rfl,rfl⟩
theorem eachR {w:World} {v u:Value} {k:Int} {y:List (List Value)} (h1:isE (.int .i64 k) w v) (h2:isRd (cxA w) true 6 y w u) (hW:isTb w v) (e:y=(y.map pR).map ptD) (hl:y.length≤4000000):Calls Tryz.prog 47 #[v,u] w (Ret w fun v' w'=>(f0 w (.t [.M 55 3 ((yQ k (y.map pR)).map q50) 1,eI (ysE k (y.map pR))])).p w' v'):=by
 have hl2:(y.map pR).length≤4000000:=by rw [List.length_map];exact hl
 rw [e] at h2
 exact each_t h1 h2 hW hl2
noncomputable def ctb52:List (Ct dk):= [
 ct2 48 0 en48 vQ vQ (fun x y=> .s (.O (.Q (x.1+y.1) (x.2+y.2+1)))) (fun x y=> [x.2≤268435456,y.2≤268435456]) fun _ _ p _ _ _ h1 h2=>add_q h1 h2 p.1 p.2.1,
 ct2w 47 0 en47 vI (vL 6) (.O .Tb) isTbk isTbk_ok (fun x y=> .t [.M 55 3 ((yQ x (y.map pR)).map q50) 1,eI (ysE x (y.map pR))]) (fun x y=> [y=(y.map pR).map ptD,y.length≤4000000]) fun _ _ p _ _ _ _ h1 h2 hW=>eachR h1 h2 hW p.1 p.2.1]++ctb51
noncomputable abbrev rpSYears_t:=rX ctb52 Tryz.f18
noncomputable abbrev dpSYears_t (k:Int) (ps:List (D3×D3)):=dX ctb52 Tryz.f18 (.t [.O (.Q (ysA k ps fun _=>1) (60*ps.length+1)),eI (ysE k ps)])
noncomputable def hpSYears_t (k:Int) (ps:List (D3×D3)):Nat→Hint K:=hnX [(1,[(4,0,oS (.M 55 3 ((yQ k ps).map q50) 2)),(5,0,oS (eI (ysE k ps)))]),(2,[(0,0,oS (.O (.Q (wsum (fun i=>(yQ k ps).getD i 0*1) 0) (60*0+1))))]),(3,[(1,0,oS (eI (((yQ k ps).length:Nat):Int)))])]
noncomputable def ipSYears_t_0 (k:Int) (ps:List (D3×D3)) (i:Nat):Sx K:=⟨[(5,eI 0),(1000000, .O .Tb),(7,eI (ysE k ps)),(17, .M 55 3 ((yQ k ps).map q50) 1),(18,eI (((yQ k ps).length:Nat):Int)),(19,eI (i:Int))],[⟨4,55, .X⟩,⟨8,55, .O (.Q (wsum (fun i=>(yQ k ps).getD i 0*1) i) (60*i+1))⟩]⟩
noncomputable def hpSYears_t_0_0 (k:Int) (ps:List (D3×D3)) (i:Nat):Nat→Hint K:=hnX [(4,[(0,0,oS (eB true))]),(5,[(0,0,oS (.B 3 (.Q ((yQ k ps).getD i 0) 50)))]),(6,[(2,0,oS (.O (.Q (wsum (fun i=>(yQ k ps).getD i 0*1) (i+1)) (60*(i+1)+1))))]),(7,[(0,0,oS (eI ((i+1:Nat):Int)))])]
noncomputable def hpSYears_t_0_1 (k:Int) (ps:List (D3×D3)) (i:Nat):Nat→Hint K:=hnX [(4,[(0,0,oS (eB false))])]
theorem pSYears_t {w:World} {v0 v1:Value} {k:Int} {ps:List (D3×D3)} (h0:(isE (.int .i64 k)) w v0) (h1:(isRd (cxA w) true 6 (ps.map ptD)) w v1) (hw:isTb w v0) (hl:ps.length≤4000000):Calls Tryz.prog 18 #[v0,v1] w (Ret w fun v w'=>(f0 w (.t [.O (.Q (ysA k ps fun _=>1) (60*ps.length+1)),eI (ysE k ps)])).p w' v):=by
 have hy:=yQ_len k ps
 exact fx ctb52 Tryz.func18 (hpSYears_t k ps) [(0,eI k),(1, .L 74 6 (ps.map ptD) false),(1000000, .O .Tb)] (.t [.O (.Q (ysA k ps fun _=>1) (60*ps.length+1)),eI (ysE k ps)]) ⟨h0,h1,hw,trivial⟩ (ps.map ptD=((ps.map ptD).map pR).map ptD∧(ps.map ptD).length≤4000000∧tMo 55 3 2 ((yQ k ((ps.map ptD).map pR)).map q50) ((yQ k ps).map q50)∧tI (ysE k ((ps.map ptD).map pR)) (ysE k ps)∧tK (.E (.agg (zeroOf Tryz.prog 55))) (.O (.Q (wsum (fun i=>(yQ k ps).getD i 0*1) 0) (60*0+1)))∧tI ((((yQ k ps).map q50).length:Nat):Int) (((yQ k ps).length:Nat):Int)∧dpSYears_t k ps [1,1,0,1] [(hpSYears_t k ps)] [] (rlX (rpSYears_t (hpSYears_t k ps)) [3,2,1] (ent Tryz.prog Tryz.f18 (κ:=K) [(0,eI k),(1, .L 74 6 (ps.map ptD) false),(1000000, .O .Tb)]))) ⟨(by first|(rw [map_PW];done)|(rw [map_PD];done)|rfl),(by rw [List.length_map];exact hl),⟨⟨rfl,rfl,rfl⟩,(by rw [map_PD])⟩,⟨rfl,by rw [map_PD]⟩,(fun _ _ _ _ _ h=>isQ_0 (zero_F h) rfl (by omega)),⟨rfl,by simp⟩,(lpI (fun h S' J=>dpSYears_t k ps [1,1,0,1,0,2] [(hpSYears_t k ps),h] [J] S') (fun i:Nat=>i≤(yQ k ps).length) (fun i=>(yQ k ps).length-i) (ipSYears_t_0 k ps) (0) (rlX (rpSYears_t (hpSYears_t k ps)) [3,2,1] (ent Tryz.prog Tryz.f18 (κ:=K) [(0,eI k),(1, .L 74 6 (ps.map ptD) false),(1000000, .O .Tb)])) (Nat.zero_le _) (fun i hC1 J1 hJ1=>(by
  rcases Nat.lt_or_ge i (yQ k ps).length with h8|h8
  ·exact ⟨hpSYears_t_0_0 k ps i,vcP (decide (((i:Int):Int)<(((yQ k ps).length:Nat):Int))=true∧i<((yQ k ps).map q50).length∧tBo 3 (((yQ k ps).map q50).getD i .B0) (.Q ((yQ k ps).getD i 0) 50)∧(60*i+1)≤268435456∧50≤268435456∧tK (.O (.Q (wsum (fun i=>(yQ k ps).getD i 0*1) i+(yQ k ps).getD i 0) ((60*i+1)+50+1))) (.O (.Q (wsum (fun i=>(yQ k ps).getD i 0*1) (i+1)) (60*(i+1)+1)))∧wp ((i:Int)+1)∧tI ((i:Int)+1) ((i+1:Nat):Int)∧J1 (rlX (rpSYears_t (hpSYears_t_0_0 k ps i)) [7,6,5,4] (ipSYears_t_0 k ps i))) ⟨decide_eq_true (by omega),(by rw [List.length_map];exact h8),⟨rfl,q50_get h8⟩,(by omega),(by omega),(fun _ _ _ _ _ h=>isQ_re h (by show _=wsum _ i+(yQ k ps).getD i 0*1;rw [Rat.mul_one]) (by omega)),wi (by omega),⟨rfl,by omega⟩,hJ1 (i+1) _ (h8) (by omega) ⟨by kernel_rfl,by kernel_rfl⟩⟩⟩
  ·exact ⟨hpSYears_t_0_1 k ps i,vcP (decide (((i:Int):Int)<(((yQ k ps).length:Nat):Int))=false∧(tK (.O (.Q (wsum (fun i=>(yQ k ps).getD i 0*1) i) (60*i+1))) (.O (.Q (ysA k ps fun _=>1) (60*ps.length+1)))∧tI (ysE k ps) (ysE k ps)∧True)) ⟨decide_eq_false (by omega),(have hC1:i=(yQ k ps).length:=(by omega);⟨(fun _ _ _ _ _ h=>isQ_re h (by rw [←yQ_sum,hC1]) (by omega)),⟨rfl,rfl⟩,trivial⟩)⟩⟩)))⟩
noncomputable def ctb53:List (Ct dk):= [
 ct2 23 0 en23 vQ vQ (fun x y=> .s (.O (.Q (x.1*y.1) (x.2+y.2)))) (fun x y=> [x.2≤268435456,y.2≤268435456]) fun _ _ p _ _ _ h1 h2=>mul_q h1 h2 p.1 p.2.1]++ctb52
noncomputable abbrev rpSWt_t:=rX ctb53 Tryz.f17
noncomputable abbrev dpSWt_t (k:Int) (ps:List (D3×D3)) (ws:List Rat):=dX ctb53 Tryz.f17 (.t [.O (.Q (wsA k ps ws) (60*ps.length+1)),eI (wsE k ps ws)])
noncomputable def hpSWt_t (k:Int) (ps:List (D3×D3)) (ws:List Rat):Nat→Hint K:=hnX [(1,[(1,0,oS (eI ((ws.length:Nat):Int))),(3,0,oS (eI ((ps.length:Nat):Int)))]),(3,[(4,0,oS (.M 55 3 ((yQ k ps).map q50) 2)),(5,0,oS (eI (ysE k ps)))]),(4,[(0,0,oS (.O (.Q (wsum (fun i=>(yQ k ps).getD i 0*ws.getD i 0) 0) (60*0+1))))]),(5,[(1,0,oS (eI (((yQ k ps).length:Nat):Int)))])]
noncomputable def ipSWt_t_0 (k:Int) (ps:List (D3×D3)) (ws:List Rat) (i:Nat):Sx K:=⟨[(7,eI 0),(2, .M 55 3 (ws.map qK) 0),(1000000, .O .Tb),(9,eI (ysE k ps)),(25, .M 55 3 ((yQ k ps).map q50) 1),(26,eI (((yQ k ps).length:Nat):Int)),(27,eI (i:Int))],[⟨6,55, .X⟩,⟨10,55, .O (.Q (wsum (fun i=>(yQ k ps).getD i 0*ws.getD i 0) i) (60*i+1))⟩]⟩
noncomputable def hpSWt_t_0_0 (k:Int) (ps:List (D3×D3)) (ws:List Rat) (i:Nat):Nat→Hint K:=hnX [(6,[(0,0,oS (eB true))]),(7,[(1,0,oS (.B 3 (.Q ((yQ k ps).getD i 0) 50)))]),(8,[(4,0,oS (.B 3 (.Q (ws.getD i 0) 2))),(7,0,oS (.O (.Q (wsum (fun i=>(yQ k ps).getD i 0*ws.getD i 0) (i+1)) (60*(i+1)+1))))]),(9,[(0,0,oS (eI ((i+1:Nat):Int)))])]
noncomputable def hpSWt_t_0_1 (k:Int) (ps:List (D3×D3)) (ws:List Rat) (i:Nat):Nat→Hint K:=hnX [(6,[(0,0,oS (eB false))])]
theorem pSWt_t {w:World} {v0 v1 v2:Value} {k:Int} {ps:List (D3×D3)} {ws:List Rat} (h0:(isE (.int .i64 k)) w v0) (h1:(isRd (cxA w) true 6 (ps.map ptD)) w v1) (h2:(f0 w (.s (.M 55 3 (ws.map qK) 0))).p w v2) (hw:isTb w v0) (hl:ps.length≤4000000):Calls Tryz.prog 17 #[v0,v1,v2] w (Ret w fun v w'=>(f0 w (.t [.O (.Q (wsA k ps ws) (60*ps.length+1)),eI (wsE k ps ws)])).p w' v):=by
 have hy:=yQ_len k ps
 exact fx ctb53 Tryz.func17 (hpSWt_t k ps ws) [(0,eI k),(1, .L 74 6 (ps.map ptD) false),(2, .M 55 3 (ws.map qK) 0),(1000000, .O .Tb)] (.t [.O (.Q (wsA k ps ws) (60*ps.length+1)),eI (wsE k ps ws)]) ⟨h0,h1,h2,hw,trivial⟩ (tI (((ws.map qK).length:Nat):Int) ((ws.length:Nat):Int)∧tI (((ps.map ptD).length:Nat):Int) ((ps.length:Nat):Int)∧cnd (!decide ((((ws.length:Nat):Int):Int)=((ps.length:Nat):Int))) (tK (.O (.F 0 0 1)) (.O (.Q (wsA k ps ws) (60*ps.length+1)))∧tI 2 (wsE k ps ws)∧True) (ps.map ptD=((ps.map ptD).map pR).map ptD∧(ps.map ptD).length≤4000000∧tMo 55 3 2 ((yQ k ((ps.map ptD).map pR)).map q50) ((yQ k ps).map q50)∧tI (ysE k ((ps.map ptD).map pR)) (ysE k ps)∧tK (.E (.agg (zeroOf Tryz.prog 55))) (.O (.Q (wsum (fun i=>(yQ k ps).getD i 0*ws.getD i 0) 0) (60*0+1)))∧tI ((((yQ k ps).map q50).length:Nat):Int) (((yQ k ps).length:Nat):Int)∧dpSWt_t k ps ws [1,1,1,0,1] [(hpSWt_t k ps ws)] [] (rlX (rpSWt_t (hpSWt_t k ps ws)) [5,4,3,1] (ent Tryz.prog Tryz.f17 (κ:=K) [(0,eI k),(1, .L 74 6 (ps.map ptD) false),(2, .M 55 3 (ws.map qK) 0),(1000000, .O .Tb)])))) ⟨⟨rfl,by simp⟩,⟨rfl,by simp⟩,((Classical.em (¬ws.length=ps.length)).elim (fun hn=>cnd_t (by simp;omega) ⟨(fun _ _ _ _ _ h=>by first|exact isQ_0 h (ws_no hn).1 (by omega)|exact isQ_re h (by rw [(ws_yes hn).1,←yQ_sum,hC1]) (by omega)),⟨rfl,by first|exact (ws_no hn).2.symm|exact (ws_yes hn).2.symm⟩,trivial⟩) (fun hn=>cnd_f (by simp;omega) ⟨(by first|(rw [map_PW];done)|(rw [map_PD];done)|rfl),(by rw [List.length_map];exact hl),⟨⟨rfl,rfl,rfl⟩,(by rw [map_PD])⟩,⟨rfl,by rw [map_PD]⟩,(fun _ _ _ _ _ h=>isQ_0 (zero_F h) rfl (by omega)),⟨rfl,by simp⟩,(lpI (fun h S' J=>dpSWt_t k ps ws [1,1,1,0,1,0,2] [(hpSWt_t k ps ws),h] [J] S') (fun i:Nat=>i≤(yQ k ps).length) (fun i=>(yQ k ps).length-i) (ipSWt_t_0 k ps ws) (0) (rlX (rpSWt_t (hpSWt_t k ps ws)) [5,4,3,1] (ent Tryz.prog Tryz.f17 (κ:=K) [(0,eI k),(1, .L 74 6 (ps.map ptD) false),(2, .M 55 3 (ws.map qK) 0),(1000000, .O .Tb)])) (Nat.zero_le _) (fun i hC1 J1 hJ1=>(by
  rcases Nat.lt_or_ge i (yQ k ps).length with h8|h8
  ·exact ⟨hpSWt_t_0_0 k ps ws i,vcP (decide (((i:Int):Int)<(((yQ k ps).length:Nat):Int))=true∧i<((yQ k ps).map q50).length∧tBo 3 (((yQ k ps).map q50).getD i .B0) (.Q ((yQ k ps).getD i 0) 50)∧i<(ws.map qK).length∧tBo 3 ((ws.map qK).getD i .B0) (.Q (ws.getD i 0) 2)∧50≤268435456∧2≤268435456∧(60*i+1)≤268435456∧(50+2)≤268435456∧tK (.O (.Q (wsum (fun i=>(yQ k ps).getD i 0*ws.getD i 0) i+((yQ k ps).getD i 0*ws.getD i 0)) ((60*i+1)+(50+2)+1))) (.O (.Q (wsum (fun i=>(yQ k ps).getD i 0*ws.getD i 0) (i+1)) (60*(i+1)+1)))∧wp ((i:Int)+1)∧tI ((i:Int)+1) ((i+1:Nat):Int)∧J1 (rlX (rpSWt_t (hpSWt_t_0_0 k ps ws i)) [9,8,7,6] (ipSWt_t_0 k ps ws i))) ⟨decide_eq_true (by omega),(by rw [List.length_map];exact h8),⟨rfl,q50_get h8⟩,(by rw [List.length_map];omega),⟨rfl,qK_get (by omega)⟩,(by omega),(by omega),(by omega),(by omega),(fun _ _ _ _ _ h=>isQ_re h rfl (by omega)),wi (by omega),⟨rfl,by omega⟩,hJ1 (i+1) _ (h8) (by omega) ⟨by kernel_rfl,by kernel_rfl⟩⟩⟩
  ·exact ⟨hpSWt_t_0_1 k ps ws i,vcP (decide (((i:Int):Int)<(((yQ k ps).length:Nat):Int))=false∧(tK (.O (.Q (wsum (fun i=>(yQ k ps).getD i 0*ws.getD i 0) i) (60*i+1))) (.O (.Q (wsA k ps ws) (60*ps.length+1)))∧tI (ysE k ps) (wsE k ps ws)∧True)) ⟨decide_eq_false (by omega),(have hC1:i=(yQ k ps).length:=(by omega);⟨(fun _ _ _ _ _ h=>by first|exact isQ_0 h (ws_no hn).1 (by omega)|exact isQ_re h (by rw [(ws_yes hn).1,←yQ_sum,hC1]) (by omega)),⟨rfl,by first|exact (ws_no hn).2.symm|exact (ws_yes hn).2.symm⟩,trivial⟩)⟩⟩)))⟩))⟩
end Go.Proofs.YtjpilacbapibjaaGreatDoor.X
