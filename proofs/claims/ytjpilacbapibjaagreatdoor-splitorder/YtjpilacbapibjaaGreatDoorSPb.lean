/- Package split: what its closures are asked. Written by a script (tools/laws). -/
import Derived.Test.YtjpilacbapibjaaGreatDoorSPa
import Derived.Test.YtjpilacbapibjaaGreatDoorXs
namespace Go.Proofs.YtjpilacbapibjaaGreatDoor.X
open Go.Proofs.YtjpilacbapibjaaGreatDoor.Da
open Go.RowKit Go.Proofs.YtjpilacbapibjaaGreatDoor.Z
set_option linter.unusedVariables false
def wrB (c:D3):Bool:= !decide (ri c)
def outB (c x y:D3):Bool:=decide (cmpI c.1 c.2.1 c.2.2 x.1 x.2.1 x.2.2≤0)||decide ((0:Int)≤cmpI c.1 c.2.1 c.2.2 y.1 y.2.1 y.2.2)
theorem out_1 {c x y:D3} (h:cmpI c.1 c.2.1 c.2.2 x.1 x.2.1 x.2.2≤0):outB c x y=true:=by unfold outB;rw [decide_eq_true h];rfl
theorem out_0 {c x y:D3} (h: ¬cmpI c.1 c.2.1 c.2.2 x.1 x.2.1 x.2.2≤0):outB c x y=decide ((0:Int)≤cmpI c.1 c.2.1 c.2.2 y.1 y.2.1 y.2.2):=by unfold outB;rw [decide_eq_false h];rfl
def ixB (p:D3→Bool):List D3→Nat→Int
 | [],_=> -1
 |c::r,i=>if p c then (i:Int) else ixB p r (i+1)
theorem ixB_at {p:D3→Bool}: ∀{cs:List D3} {k i:Nat},i<cs.length→(∀j,j<i→p (dcs cs j)=false)→p (dcs cs i)=true→ixB p cs k=((k+i:Nat):Int):=by
 intro cs
 induction cs with
 |nil=>intro k i h;cases h
 |cons c r ih=>
  intro k i hi h1 h2
  unfold ixB
  cases i with
  |zero=>rw [if_pos (show p c=true from h2)];rfl
  |succ i=>
   rw [if_neg (by rw [show p c=false from h1 0 (Nat.succ_pos i)];decide),ih (Nat.lt_of_succ_lt_succ hi) (fun j hj=>h1 (j+1) (Nat.succ_lt_succ hj)) h2]
   congr 1
   omega
theorem ixB_no {p:D3→Bool}: ∀{cs:List D3} {k:Nat},(∀j,j<cs.length→p (dcs cs j)=false)→ixB p cs k= -1:=by
 intro cs
 induction cs with
 |nil=>intro k _;rfl
 |cons c r ih=>
  intro k h
  unfold ixB
  rw [if_neg (by rw [show p c=false from h 0 (Nat.succ_pos _)];decide),ih fun j hj=>h (j+1) (Nat.succ_lt_succ hj)]
theorem ix3 (p:D3→Bool) (cs:List D3) (i:Nat):cs.length≤i∨(i<cs.length∧p (dcs cs i)=true)∨(i<cs.length∧p (dcs cs i)=false):=by
 rcases Nat.lt_or_ge i cs.length with h|h
 ·cases e:p (dcs cs i) with
  |true=>exact .inr (.inl ⟨h,rfl⟩)
  |false=>exact .inr (.inr ⟨h,rfl⟩)
 ·exact .inl h
theorem ix_all {p:D3→Bool} {cs:List D3}:(ixB p cs 0= -1∧ ∀j,j<cs.length→p (dcs cs j)=false)∨ ∃i,i<cs.length∧ixB p cs 0=(i:Int)∧(∀j,j<i→p (dcs cs j)=false)∧p (dcs cs i)=true:=by
 by_cases h: ∃i,i<cs.length∧p (dcs cs i)=true
 ·have key: ∀n i,i≤n→i<cs.length→p (dcs cs i)=true→ ∃i,i<cs.length∧p (dcs cs i)=true∧ ∀j,j<i→p (dcs cs j)=false:=by
   intro n
   induction n with
   |zero=>intro i h1 h2 h3;exact ⟨i,h2,h3,fun j hj=>by omega⟩
   |succ n ih=>
    intro i h1 h2 h3
    by_cases h4: ∃j,j<i∧p (dcs cs j)=true
    ·obtain ⟨j,h5,h6⟩:=h4
     exact ih j (by omega) (by omega) h6
    ·refine ⟨i,h2,h3,fun j hj=> ?_⟩
     cases e:p (dcs cs j) with
     |false=>rfl
     |true=>exact absurd ⟨j,hj,e⟩ h4
  obtain ⟨i,h1,h2⟩:=h
  obtain ⟨i,h1,h2,h3⟩:=key i i (Nat.le_refl _) h1 h2
  exact .inr ⟨i,h1,by rw [ixB_at h1 h3 h2,Nat.zero_add],h3,h2⟩
 ·have hn: ∀j,j<cs.length→p (dcs cs j)=false:=fun j hj=>by
   cases e:p (dcs cs j) with
   |false=>rfl
   |true=>exact absurd ⟨j,hj,e⟩ h
  exact .inl ⟨ixB_no hn,hn⟩
theorem ixB_ge {cs:List D3}:decide ((0:Int)≤ixB wrB cs 0)=cs.any wrB:=by
 rcases ix_all (p:=wrB) (cs:=cs) with ⟨h,_⟩|⟨i,h1,h2,_,h4⟩
 ·rw [h]
  cases e:cs.any wrB with
  |false=>rfl
  |true=>
   exfalso
   obtain ⟨c,hc,h5⟩:=List.any_eq_true.1 e
   have key: ∀{cs:List D3} {k:Nat},c∈cs→ixB wrB cs k≠ -1:=by
    intro cs
    induction cs with
    |nil=>intro k h;cases h
    |cons d r ih=>
     intro k hd h3
     unfold ixB at h3
     split at h3
     ·omega
     ·next hc2=>
      rcases List.mem_cons.1 hd with rfl|hd
      ·exact hc2 h5
      ·exact ih hd h3
   exact key hc h
 ·rw [h2,decide_eq_true (by omega),List.any_eq_true.2 ⟨_,dcs_in h1,h4⟩]
theorem any_1 {cs:List D3} (h: ¬ ∀c∈cs,ri c):cs.any wrB=true:=by
 cases e:cs.any wrB with
 |true=>rfl
 |false=>
  refine absurd (fun c hc=> ?_) h
  have:=List.any_eq_false.1 e c hc
  unfold wrB at this
  simpa using this
theorem any_0 {cs:List D3} (h: ∀c∈cs,ri c):cs.any wrB=false:=by
 rw [List.any_eq_false]
 intro c hc h5
 unfold wrB at h5
 rw [decide_eq_true (h c hc)] at h5
 cases h5
theorem en27:Enters Tryz.prog 27:=enters_of Tryz.func27 (by kernel_rfl) rfl
theorem en28:Enters Tryz.prog 28:=enters_of Tryz.func28 (by kernel_rfl) rfl
theorem en34:Enters Tryz.prog 34:=enters_of Tryz.func34 (by kernel_rfl) rfl
theorem en36:Enters Tryz.prog 36:=enters_of Tryz.func36 (by kernel_rfl) rfl
theorem en72:Enters Tryz.prog 72:=enters_of Tryz.func72 (by kernel_rfl) rfl
theorem en74:Enters Tryz.prog 74:=enters_of Tryz.func74 (by kernel_rfl) rfl
noncomputable def ctb45:List (Ct dk):= [
 ct1w 71 0 en71 vDt (.O .Tb) isTbk isTbk_ok (fun x=> .s (eI (chkI x.1 x.2.1 x.2.2))) (fun x=> []) fun _ p _ _ _ h1 hW=>pCheck_t h1 hW]
theorem wrong_t {w:World} {v0:Value} {y m d:Int} (h0:(f0 w (.s (eD y m d))).p w v0) (hw:isTb w v0):Calls Tryz.prog 33 #[v0] w (Ret w fun v w'=>(isE (.bool (wrB (y,m,d)))) w' v):=by
 exact fx ctb45 Tryz.func33 (fun _=> []) [(0,eD y m d),(1000000, .O .Tb)] (.s (eB (wrB (y,m,d)))) ⟨h0,hw,trivial⟩ ((!decide ((chkI y m d:Int)=0))=wrB (y,m,d)) (by show (!decide ((chkI y m d:Int)=0))= !decide (rightI y m d);by_cases hr:rightI y m d;rw [(chk_1 hr).1,decide_eq_true hr];rfl;rw [(chk_0 hr).1,decide_eq_false hr];rfl)
noncomputable def ctb46:List (Ct dk):= [
 ct2 24 0 en24 vDt vDt (fun x y=> .s (eI (cmpI x.1 x.2.1 x.2.2 y.1 y.2.1 y.2.2))) (fun x y=> []) fun _ _ p _ _ _ h1 h2=>pCmp_t h1 h2]++ctb45
theorem out_t {w:World} {v0 v1 v2:Value} {y1 m1 d1 y2 m2 d2 y3 m3 d3:Int} (h0:(f0 w (.s (eD y1 m1 d1))).p w v0) (h1:(f0 w (.s (.A [.int .i64 y2, .int .i64 m2, .int .i64 d2]))).p w v1) (h2:(f0 w (.s (.A [.int .i64 y3, .int .i64 m3, .int .i64 d3]))).p w v2):Calls Tryz.prog 73 #[v0,v1,v2] w (Ret w fun v w'=>(isE (.bool (outB (y1,m1,d1) (y2,m2,d2) (y3,m3,d3)))) w' v):=by
 exact fx ctb46 Tryz.func73 (hnX [(1,[(5,777777,none),(6,777777,none),(7,777777,none),(8,777777,none),(9,777777,none)])]) [(0,eD y1 m1 d1),(1, .A [.int .i64 y2, .int .i64 m2, .int .i64 d2]),(2, .A [.int .i64 y3, .int .i64 m3, .int .i64 d3])] (.s (eB (outB (y1,m1,d1) (y2,m2,d2) (y3,m3,d3)))) ⟨h0,h1,h2,trivial⟩ (im2 (decide ((cmpI y1 m1 d1 y2 m2 d2:Int)≤0)==false)∧im2 (decide ((cmpI y1 m1 d1 y2 m2 d2:Int)≤0)==false)∧im2 (decide ((cmpI y1 m1 d1 y2 m2 d2:Int)≤0)==false)∧(decide ((cmpI y1 m1 d1 y2 m2 d2:Int)≤0)=false→(decide ((cmpI y1 m1 d1 y2 m2 d2:Int)≤0)==false)=true)∧cond (decide ((cmpI y1 m1 d1 y2 m2 d2:Int)≤0)) true (decide ((0:Int)≤cmpI y1 m1 d1 y3 m3 d3))=outB (y1,m1,d1) (y2,m2,d2) (y3,m3,d3)) ⟨id,id,id,(fun hp=>by simp_all),(by unfold outB;cases decide (cmpI y1 m1 d1 y2 m2 d2≤0)<;>rfl)⟩
theorem all_next12 {p:Nat→Prop} {i:Nat} (h: ∀j,j<i→p j) (h2:p i): ∀j,j<i+1→p j:=fun j hj=>by
 rcases Nat.lt_or_eq_of_le (Nat.le_of_lt_succ hj) with e|e
 ·exact h j e
 ·rw [e];exact h2
noncomputable def ctb47:List (Ct dk):= [
 ct1w 33 0 en33 vDt (.O .Tb) isTbk isTbk_ok (fun x=> .s (eB (wrB (x.1,x.2.1,x.2.2)))) (fun x=> []) fun _ p _ _ _ h1 hW=>wrong_t h1 hW]++ctb46
noncomputable abbrev rixW_t:=rX ctb47 Tryz.f72
noncomputable abbrev dixW_t (cs:List D3):=dX ctb47 Tryz.f72 (.s (eI (ixB wrB cs 0)))
noncomputable def hixW_t (cs:List D3):Nat→Hint K:=hnX [(1,[(1,0,oS (eI ((cs.length:Nat):Int)))])]
noncomputable def iixW_t_0 (cs:List D3) (i:Nat):Sx K:=⟨[(0, .L 28 3 (cs.map dtW) false),(1, .E (.func (.func 33) #[] #[])),(1000000, .O .Tb),(7,eI ((cs.length:Nat):Int)),(8,eI (i:Int))],[]⟩
noncomputable def hixW_t_0_0 (cs:List D3) (i:Nat):Nat→Hint K:=hnX [(2,[(0,0,oS (eB false))])]
noncomputable def hixW_t_0_1 (cs:List D3) (i:Nat):Nat→Hint K:=hnX [(2,[(0,0,oS (eB true))]),(4,[(3,0,oS (.A [.int .i64 (dcs cs i).1, .int .i64 (dcs cs i).2.1, .int .i64 (dcs cs i).2.2])),(5,0,oS (eB true))])]
noncomputable def hixW_t_0_2 (cs:List D3) (i:Nat):Nat→Hint K:=hnX [(2,[(0,0,oS (eB true))]),(4,[(3,0,oS (.A [.int .i64 (dcs cs i).1, .int .i64 (dcs cs i).2.1, .int .i64 (dcs cs i).2.2])),(5,0,oS (eB false))]),(6,[(0,0,oS (eI ((i+1:Nat):Int)))])]
theorem ixW_t {w:World} {v0 v1:Value} {cs:List D3} (h0:(isRd (cxA w) true 3 (cs.map dtW)) w v0) (h1:(isE (.func (.func 33) #[] #[])) w v1) (hw:isTb w v0):Calls Tryz.prog 72 #[v0,v1] w (Ret w fun v w'=>(isE (.int .i64 (ixB wrB cs 0))) w' v):=by
 have hl:cs.length≤9223372036854775807:=by
  obtain ⟨_,a,cap,_,h2,h3,_⟩:=h0
  rw [List.length_map] at h2
  simp only [maxLen] at h3
  omega
 exact fx ctb47 Tryz.func72 (hixW_t cs) [(0, .L 28 3 (cs.map dtW) false),(1, .E (.func (.func 33) #[] #[])),(1000000, .O .Tb)] (.s (eI (ixB wrB cs 0))) ⟨h0,h1,hw,trivial⟩ (tI (((cs.map dtW).length:Nat):Int) ((cs.length:Nat):Int)∧dixW_t cs [0,1] [(hixW_t cs)] [] (rixW_t (hixW_t cs) 1 (ent Tryz.prog Tryz.f72 (κ:=K) [(0, .L 28 3 (cs.map dtW) false),(1, .E (.func (.func 33) #[] #[])),(1000000, .O .Tb)]))) ⟨⟨rfl,by simp⟩,(lpI (fun h S' J=>dixW_t cs [0,1,0,2] [(hixW_t cs),h] [J] S') (fun i:Nat=>i≤cs.length∧ ∀j,j<i→wrB (dcs cs j)=false) (fun i=>cs.length-i) (iixW_t_0 cs) (0) (rixW_t (hixW_t cs) 1 (ent Tryz.prog Tryz.f72 (κ:=K) [(0, .L 28 3 (cs.map dtW) false),(1, .E (.func (.func 33) #[] #[])),(1000000, .O .Tb)])) (⟨Nat.zero_le _,fun j h=>by omega⟩) (fun i hC1 J1 hJ1=>(by
  rcases ix3 wrB cs i with h8|h8|h8
  ·exact ⟨hixW_t_0_0 cs i,vcP (decide (((i:Int):Int)<((cs.length:Nat):Int))=false∧tI (-1) (ixB wrB cs 0)) ⟨decide_eq_false (by omega),(have hC1: ∀j,j<cs.length→wrB (dcs cs j)=false:=(fun j hj=>hC1.2 j (by omega));⟨rfl,by first|exact ((ixB_at h8.1 hC1.2 h8.2).trans (by rw [Nat.zero_add])).symm|exact (ixB_no hC1).symm⟩)⟩⟩
  ·exact ⟨hixW_t_0_1 cs i,vcP (decide (((i:Int):Int)<((cs.length:Nat):Int))=true∧i<(cs.map dtW).length∧(cs.map dtW).getD i []=([.int .i64 (dcs cs i).1, .int .i64 (dcs cs i).2.1, .int .i64 (dcs cs i).2.2]:List Value)∧wrB ((dcs cs i).1,(dcs cs i).2.1,(dcs cs i).2.2)=true∧tI (i:Int) (ixB wrB cs 0)) ⟨decide_eq_true (by omega),(by rw [List.length_map];exact h8.1),dcs_row h8.1,h8.2,⟨rfl,by first|exact ((ixB_at h8.1 hC1.2 h8.2).trans (by rw [Nat.zero_add])).symm|exact (ixB_no hC1).symm⟩⟩⟩
  ·exact ⟨hixW_t_0_2 cs i,vcP (decide (((i:Int):Int)<((cs.length:Nat):Int))=true∧i<(cs.map dtW).length∧(cs.map dtW).getD i []=([.int .i64 (dcs cs i).1, .int .i64 (dcs cs i).2.1, .int .i64 (dcs cs i).2.2]:List Value)∧wrB ((dcs cs i).1,(dcs cs i).2.1,(dcs cs i).2.2)=false∧wp ((i:Int)+1)∧tI ((i:Int)+1) ((i+1:Nat):Int)∧J1 (rlX (rixW_t (hixW_t_0_2 cs i)) [6,4,3,2] (iixW_t_0 cs i))) ⟨decide_eq_true (by omega),(by rw [List.length_map];exact h8.1),dcs_row h8.1,h8.2,wi (by omega),⟨rfl,by omega⟩,hJ1 (i+1) _ (⟨h8.1,all_next12 hC1.2 h8.2⟩) (by omega) ⟨by kernel_rfl,by kernel_rfl⟩⟩⟩)))⟩
noncomputable def ctb48:List (Ct dk):= [
 ct3 73 0 en73 vDt vA3 vA3 (fun x y z=> .s (eB (outB (x.1,x.2.1,x.2.2) (y.1,y.2.1,y.2.2) (z.1,z.2.1,z.2.2)))) (fun x y z=> []) fun _ _ _ p _ _ _ _ h1 h2 h3=>out_t h1 h2 h3]++ctb47
noncomputable abbrev rixO_t:=rX ctb48 Tryz.f72
noncomputable abbrev dixO_t (cs:List D3) (y2 m2 d2 y3 m3 d3:Int):=dX ctb48 Tryz.f72 (.s (eI (ixB (fun c=>outB c (y2,m2,d2) (y3,m3,d3)) cs 0)))
noncomputable def hixO_t (cs:List D3) (y2 m2 d2 y3 m3 d3:Int):Nat→Hint K:=hnX [(1,[(1,0,oS (eI ((cs.length:Nat):Int)))])]
noncomputable def iixO_t_0 (cs:List D3) (y2 m2 d2 y3 m3 d3:Int) (i:Nat):Sx K:=⟨[(0, .L 28 3 (cs.map dtW) false),(1, .C 73 [[.int .i64 y2, .int .i64 m2, .int .i64 d2],[.int .i64 y3, .int .i64 m3, .int .i64 d3]]),(7,eI ((cs.length:Nat):Int)),(8,eI (i:Int))],[]⟩
noncomputable def hixO_t_0_0 (cs:List D3) (y2 m2 d2 y3 m3 d3:Int) (i:Nat):Nat→Hint K:=hnX [(2,[(0,0,oS (eB false))])]
noncomputable def hixO_t_0_1 (cs:List D3) (y2 m2 d2 y3 m3 d3:Int) (i:Nat):Nat→Hint K:=hnX [(2,[(0,0,oS (eB true))]),(4,[(3,0,oS (.A [.int .i64 (dcs cs i).1, .int .i64 (dcs cs i).2.1, .int .i64 (dcs cs i).2.2])),(5,0,oS (eB true))])]
noncomputable def hixO_t_0_2 (cs:List D3) (y2 m2 d2 y3 m3 d3:Int) (i:Nat):Nat→Hint K:=hnX [(2,[(0,0,oS (eB true))]),(4,[(3,0,oS (.A [.int .i64 (dcs cs i).1, .int .i64 (dcs cs i).2.1, .int .i64 (dcs cs i).2.2])),(5,0,oS (eB false))]),(6,[(0,0,oS (eI ((i+1:Nat):Int)))])]
theorem ixO_t {w:World} {v0 v1:Value} {cs:List D3} {y2 m2 d2 y3 m3 d3:Int} (h0:(isRd (cxA w) true 3 (cs.map dtW)) w v0) (h1:(f0 w (.s (.C 73 [[.int .i64 y2, .int .i64 m2, .int .i64 d2],[.int .i64 y3, .int .i64 m3, .int .i64 d3]]))).p w v1):Calls Tryz.prog 72 #[v0,v1] w (Ret w fun v w'=>(isE (.int .i64 (ixB (fun c=>outB c (y2,m2,d2) (y3,m3,d3)) cs 0))) w' v):=by
 have hl:cs.length≤9223372036854775807:=by
  obtain ⟨_,a,cap,_,h2,h3,_⟩:=h0
  rw [List.length_map] at h2
  simp only [maxLen] at h3
  omega
 exact fx ctb48 Tryz.func72 (hixO_t cs y2 m2 d2 y3 m3 d3) [(0, .L 28 3 (cs.map dtW) false),(1, .C 73 [[.int .i64 y2, .int .i64 m2, .int .i64 d2],[.int .i64 y3, .int .i64 m3, .int .i64 d3]])] (.s (eI (ixB (fun c=>outB c (y2,m2,d2) (y3,m3,d3)) cs 0))) ⟨h0,h1,trivial⟩ (tI (((cs.map dtW).length:Nat):Int) ((cs.length:Nat):Int)∧dixO_t cs y2 m2 d2 y3 m3 d3 [0,1] [(hixO_t cs y2 m2 d2 y3 m3 d3)] [] (rixO_t (hixO_t cs y2 m2 d2 y3 m3 d3) 1 (ent Tryz.prog Tryz.f72 (κ:=K) [(0, .L 28 3 (cs.map dtW) false),(1, .C 73 [[.int .i64 y2, .int .i64 m2, .int .i64 d2],[.int .i64 y3, .int .i64 m3, .int .i64 d3]])]))) ⟨⟨rfl,by simp⟩,(lpI (fun h S' J=>dixO_t cs y2 m2 d2 y3 m3 d3 [0,1,0,2] [(hixO_t cs y2 m2 d2 y3 m3 d3),h] [J] S') (fun i:Nat=>i≤cs.length∧ ∀j,j<i→(fun c=>outB c (y2,m2,d2) (y3,m3,d3)) (dcs cs j)=false) (fun i=>cs.length-i) (iixO_t_0 cs y2 m2 d2 y3 m3 d3) (0) (rixO_t (hixO_t cs y2 m2 d2 y3 m3 d3) 1 (ent Tryz.prog Tryz.f72 (κ:=K) [(0, .L 28 3 (cs.map dtW) false),(1, .C 73 [[.int .i64 y2, .int .i64 m2, .int .i64 d2],[.int .i64 y3, .int .i64 m3, .int .i64 d3]])])) (⟨Nat.zero_le _,fun j h=>by omega⟩) (fun i hC1 J1 hJ1=>(by
  rcases ix3 (fun c=>outB c (y2,m2,d2) (y3,m3,d3)) cs i with h8|h8|h8
  ·exact ⟨hixO_t_0_0 cs y2 m2 d2 y3 m3 d3 i,vcP (decide (((i:Int):Int)<((cs.length:Nat):Int))=false∧tI (-1) (ixB (fun c=>outB c (y2,m2,d2) (y3,m3,d3)) cs 0)) ⟨decide_eq_false (by omega),(have hC1: ∀j,j<cs.length→(fun c=>outB c (y2,m2,d2) (y3,m3,d3)) (dcs cs j)=false:=(fun j hj=>hC1.2 j (by omega));⟨rfl,by first|exact ((ixB_at h8.1 hC1.2 h8.2).trans (by rw [Nat.zero_add])).symm|exact (ixB_no hC1).symm⟩)⟩⟩
  ·exact ⟨hixO_t_0_1 cs y2 m2 d2 y3 m3 d3 i,vcP (decide (((i:Int):Int)<((cs.length:Nat):Int))=true∧i<(cs.map dtW).length∧(cs.map dtW).getD i []=([.int .i64 (dcs cs i).1, .int .i64 (dcs cs i).2.1, .int .i64 (dcs cs i).2.2]:List Value)∧outB ((dcs cs i).1,(dcs cs i).2.1,(dcs cs i).2.2) (y2,m2,d2) (y3,m3,d3)=true∧tI (i:Int) (ixB (fun c=>outB c (y2,m2,d2) (y3,m3,d3)) cs 0)) ⟨decide_eq_true (by omega),(by rw [List.length_map];exact h8.1),dcs_row h8.1,h8.2,⟨rfl,by first|exact ((ixB_at h8.1 hC1.2 h8.2).trans (by rw [Nat.zero_add])).symm|exact (ixB_no hC1).symm⟩⟩⟩
  ·exact ⟨hixO_t_0_2 cs y2 m2 d2 y3 m3 d3 i,vcP (decide (((i:Int):Int)<((cs.length:Nat):Int))=true∧i<(cs.map dtW).length∧(cs.map dtW).getD i []=([.int .i64 (dcs cs i).1, .int .i64 (dcs cs i).2.1, .int .i64 (dcs cs i).2.2]:List Value)∧outB ((dcs cs i).1,(dcs cs i).2.1,(dcs cs i).2.2) (y2,m2,d2) (y3,m3,d3)=false∧wp ((i:Int)+1)∧tI ((i:Int)+1) ((i+1:Nat):Int)∧J1 (rlX (rixO_t (hixO_t_0_2 cs y2 m2 d2 y3 m3 d3 i)) [6,4,3,2] (iixO_t_0 cs y2 m2 d2 y3 m3 d3 i))) ⟨decide_eq_true (by omega),(by rw [List.length_map];exact h8.1),dcs_row h8.1,h8.2,wi (by omega),⟨rfl,by omega⟩,hJ1 (i+1) _ (⟨h8.1,all_next12 hC1.2 h8.2⟩) (by omega) ⟨by kernel_rfl,by kernel_rfl⟩⟩⟩)))⟩
theorem ixWR {w:World} {v u:Value} {x:List (List Value)} {n:Nat} (h1:isRd (cxA w) true 3 x w v) (h2:isE (.func (.func n) #[] #[]) w u) (hW:isTb w v) (e1:x=(x.map dtR).map dtW) (e2:n=33):Calls Tryz.prog 72 #[v,u] w (Ret w fun v' w'=>isE (.int .i64 (ixB wrB (x.map dtR) 0)) w' v'):=by
 subst e2
 rw [e1] at h1
 exact ixW_t h1 h2 hW
noncomputable def ctb49:List (Ct dk):= [
 ct2w 72 0 en72 (vL 3) vFn (.O .Tb) isTbk isTbk_ok (fun x y=> .s (eI (ixB wrB (x.map dtR) 0))) (fun x y=> [x=(x.map dtR).map dtW,y=33]) fun _ _ p _ _ _ _ h1 h2 hW=>ixWR h1 h2 hW p.1 p.2.1]++ctb48
theorem cfW_t {w:World} {v0 v1:Value} {cs:List D3} (h0:(isRd (cxA w) true 3 (cs.map dtW)) w v0) (h1:(isE (.func (.func 33) #[] #[])) w v1) (hw:isTb w v0):Calls Tryz.prog 34 #[v0,v1] w (Ret w fun v w'=>(isE (.bool (cs.any wrB))) w' v):=by
 exact fx ctb49 Tryz.func34 (hnX [(1,[(2,0,oS (eI (ixB wrB cs 0)))])]) [(0, .L 28 3 (cs.map dtW) false),(1, .E (.func (.func 33) #[] #[])),(1000000, .O .Tb)] (.s (eB (cs.any wrB))) ⟨h0,h1,hw,trivial⟩ (cs.map dtW=((cs.map dtW).map dtR).map dtW∧33=33∧tI (ixB wrB ((cs.map dtW).map dtR) 0) (ixB wrB cs 0)∧decide ((0:Int)≤ixB wrB cs 0)=cs.any wrB) ⟨(by first|(rw [map_RW];done)|rfl),rfl,⟨rfl,by rw [map_RW]⟩,ixB_ge⟩
theorem cfWR {w:World} {v u:Value} {x:List (List Value)} {n:Nat} (h1:isRd (cxA w) true 3 x w v) (h2:isE (.func (.func n) #[] #[]) w u) (hW:isTb w v) (e1:x=(x.map dtR).map dtW) (e2:n=33):Calls Tryz.prog 34 #[v,u] w (Ret w fun v' w'=>isE (.bool ((x.map dtR).any wrB)) w' v'):=by
 subst e2
 rw [e1] at h1
 exact cfW_t h1 h2 hW
end Go.Proofs.YtjpilacbapibjaaGreatDoor.X
