/- Package date, more: compared, the date of a number. Written by a script (tools/laws). -/
import Derived.Test.YtjpilacbapibjaaGreatDoorDYc
namespace Go.Proofs.YtjpilacbapibjaaGreatDoor.X
open Go.Proofs.YtjpilacbapibjaaGreatDoor.Da
open Go.RowKit Go.Proofs.YtjpilacbapibjaaGreatDoor.Z
set_option linter.unusedVariables false
theorem nan_t {w:World} {v0:Value} {a:Int} (h0:(isE (.int .i64 a)) w v0):Calls Tryz.prog 99 #[v0] w (Ret w fun v w'=>(isE (.bool false)) w' v):=by
 exact fx ctb31 Tryz.func99 (hnX [(1,[(2,0,oS (eB false))])]) [(0,eI a)] (.s (eB false)) ⟨h0,trivial⟩ ((!decide ((a:Int)=a))=false∧false=false) ⟨(by simp),rfl⟩
noncomputable def ctb32:List (Ct dk):= [
 ct1 99 0 en99 vI (fun x=> .s (eB false)) (fun x=> []) fun _ p _ _ h1=>nan_t h1]++ctb31
theorem compare_t {w:World} {v0 v1:Value} {a b:Int} (h0:(isE (.int .i64 a)) w v0) (h1:(isE (.int .i64 b)) w v1):Calls Tryz.prog 63 #[v0,v1] w (Ret w fun v w'=>(isE (.int .i64 (cmpZ a b))) w' v):=by
 exact fx ctb32 Tryz.func63 (fun _=> []) [(0,eI a),(1,eI b)] (.s (eI (cmpZ a b))) ⟨h0,h1,trivial⟩ (cnd (decide ((a:Int)<b)) (tI (-1) (cmpZ a b)) (cnd (decide ((b:Int)<a)) (tI 1 (cmpZ a b)) (tI 0 (cmpZ a b)))) ((Classical.em (a<b)).elim (fun hc=>cnd_t (decide_eq_true hc) ⟨rfl,by first|exact cmpZ_lt hc|exact cmpZ_gt hc hd|exact cmpZ_eq hc hd⟩) (fun hc=>cnd_f (decide_eq_false hc) ((Classical.em (b<a)).elim (fun hd=>cnd_t (decide_eq_true hd) ⟨rfl,by first|exact cmpZ_lt hc|exact cmpZ_gt hc hd|exact cmpZ_eq hc hd⟩) (fun hd=>cnd_f (decide_eq_false hd) ⟨rfl,by first|exact cmpZ_lt hc|exact cmpZ_gt hc hd|exact cmpZ_eq hc hd⟩))))
noncomputable abbrev ror_t:=rX ctb32 Tryz.f62
noncomputable abbrev dor_t (a b c:Int):=dX ctb32 Tryz.f62 (.s (eI (or3 a b c)))
noncomputable def hor_t (a b c:Int):Nat→Hint K:=hnX [(2,[(1,0,oS (eI 3))])]
noncomputable def ior_t_0 (a b c:Int) (i:Nat):Sx K:=⟨[(3,eI 0),(6, .L 3 1 ([[.int .i64 a],[.int .i64 b],[.int .i64 c]]) false),(7,eI 3),(8,eI (i:Int))],[]⟩
noncomputable def hor_t_0_0 (a b c:Int) (i:Nat):Nat→Hint K:=hnX [(3,[(0,0,oS (eB false))])]
noncomputable def hor_t_0_1 (a b c:Int) (i:Nat):Nat→Hint K:=hnX [(3,[(0,0,oS (eB true))]),(4,[(0,0,oS (.A [.int .i64 (at3 a b c i)]))]),(5,[(2,0,oS (eB true))])]
noncomputable def hor_t_0_2 (a b c:Int) (i:Nat):Nat→Hint K:=hnX [(3,[(0,0,oS (eB true))]),(4,[(0,0,oS (.A [.int .i64 (at3 a b c i)]))]),(5,[(2,0,oS (eB false))]),(7,[(0,0,oS (eI ((i+1:Nat):Int)))])]
theorem or_t {w:World} {v0:Value} {a b c:Int} (h0:(isRd (cxA w) true 1 ([[.int .i64 a],[.int .i64 b],[.int .i64 c]])) w v0):Calls Tryz.prog 62 #[v0] w (Ret w fun v w'=>(isE (.int .i64 (or3 a b c))) w' v):=by
 exact fx ctb32 Tryz.func62 (hor_t a b c) [(0, .L 3 1 ([[.int .i64 a],[.int .i64 b],[.int .i64 c]]) false)] (.s (eI (or3 a b c))) ⟨h0,trivial⟩ (tI ((([[.int .i64 a],[.int .i64 b],[.int .i64 c]]:List (List Value)).length:Nat):Int) 3∧dor_t a b c [1,0,1] [(hor_t a b c)] [] (rlX (ror_t (hor_t a b c)) [2,1] (ent Tryz.prog Tryz.f62 (κ:=K) [(0, .L 3 1 ([[.int .i64 a],[.int .i64 b],[.int .i64 c]]) false)]))) ⟨⟨rfl,rfl⟩,(lpI (fun h S' J=>dor_t a b c [1,0,1,0,2] [(hor_t a b c),h] [J] S') (fun i:Nat=>i≤3∧ ∀j,j<i→at3 a b c j=0) (fun i=>3-i) (ior_t_0 a b c) (0) (rlX (ror_t (hor_t a b c)) [2,1] (ent Tryz.prog Tryz.f62 (κ:=K) [(0, .L 3 1 ([[.int .i64 a],[.int .i64 b],[.int .i64 c]]) false)])) (⟨by omega,fun j h=>by omega⟩) (fun i hC1 J1 hJ1=>(by
  rcases or4 (at3 a b c i) i with h8|h8|h8
  ·exact ⟨hor_t_0_0 a b c i,vcP (decide (((i:Int):Int)<3)=false∧tI 0 (or3 a b c)) ⟨decide_eq_false (by omega),(have hC1: ∀j,j<3→at3 a b c j=0:=(fun j hj=>hC1.2 j (by omega));⟨rfl,by first|exact or3_no hC1|exact or3_at h8.1 hC1.2 h8.2⟩)⟩⟩
  ·exact ⟨hor_t_0_1 a b c i,vcP (decide (((i:Int):Int)<3)=true∧i<([[.int .i64 a],[.int .i64 b],[.int .i64 c]]:List (List Value)).length∧([[.int .i64 a],[.int .i64 b],[.int .i64 c]]:List (List Value)).getD i []=([.int .i64 (at3 a b c i)]:List Value)∧(!decide ((at3 a b c i:Int)=0))=true∧tI (at3 a b c i) (or3 a b c)) ⟨decide_eq_true (by omega),(by simp;omega),at3_row _ _ _ h8.1,(by rw [decide_eq_false h8.2];rfl),⟨rfl,by first|exact or3_no hC1|exact or3_at h8.1 hC1.2 h8.2⟩⟩⟩
  ·exact ⟨hor_t_0_2 a b c i,vcP (decide (((i:Int):Int)<3)=true∧i<([[.int .i64 a],[.int .i64 b],[.int .i64 c]]:List (List Value)).length∧([[.int .i64 a],[.int .i64 b],[.int .i64 c]]:List (List Value)).getD i []=([.int .i64 (at3 a b c i)]:List Value)∧(!decide ((at3 a b c i:Int)=0))=false∧wp ((i:Int)+1)∧tI ((i:Int)+1) ((i+1:Nat):Int)∧J1 (rlX (ror_t (hor_t_0_2 a b c i)) [7,5,4,3] (ior_t_0 a b c i))) ⟨decide_eq_true (by omega),(by simp;omega),at3_row _ _ _ h8.1,(by rw [decide_eq_true h8.2];rfl),wi (by omega),⟨rfl,by omega⟩,hJ1 (i+1) _ (⟨by omega,fun j hj=>by rcases Nat.lt_or_eq_of_le (Nat.le_of_lt_succ hj) with h|h;exact hC1.2 j h;rw [h];exact h8.2⟩) (by omega) ⟨by kernel_rfl,by kernel_rfl⟩⟩⟩)))⟩
noncomputable def ctb33:List (Ct dk):= [
 ct2 63 0 en63 vI vI (fun x y=> .s (eI (cmpZ x y))) (fun x y=> []) fun _ _ p _ _ _ h1 h2=>compare_t h1 h2,
 ct1 62 0 en62 vI3 (fun x=> .s (eI (or3 x.1 x.2.1 x.2.2))) (fun x=> []) fun _ p _ _ h1=>or_t h1]++ctb32
theorem pCmp_t {w:World} {v0 v1:Value} {y1 m1 d1 y2 m2 d2:Int} (h0:(f0 w (.s (eD y1 m1 d1))).p w v0) (h1:(f0 w (.s (eD y2 m2 d2))).p w v1):Calls Tryz.prog 24 #[v0,v1] w (Ret w fun v w'=>(isE (.int .i64 (cmpI y1 m1 d1 y2 m2 d2))) w' v):=by
 exact fx ctb33 Tryz.func24 (fun _=> []) [(0,eD y1 m1 d1),(1,eD y2 m2 d2)] (.s (eI (cmpI y1 m1 d1 y2 m2 d2))) ⟨h0,h1,trivial⟩ (tI (or3 (cmpZ y1 y2) (cmpZ m1 m2) (cmpZ d1 d2)) (cmpI y1 m1 d1 y2 m2 d2)) ⟨rfl,or_cmp _ _ _ _ _ _⟩
theorem of1_t {w:World} {v0 v1:Value} {k:Nat} {z:Int} (h0:(isE (.int .i64 (k:Int))) w v0) (h1:(f0 w (.s (.A [.int .i64 z]))).p w v1) (hn:k≤9999):Calls Tryz.prog 104 #[v0,v1] w (Ret w fun v w'=>(isE (.bool (yB z k))) w' v):=by
 exact fx ctb33 Tryz.func104 (fun _=> []) [(0,eI (k:Int)),(1, .A [.int .i64 z])] (.s (eB (yB z k))) ⟨h0,h1,trivial⟩ (k≤9999∧decide ((z:Int)≤yS k)=yB z k) ⟨(by omega),rfl⟩
noncomputable def ctb34:List (Ct dk):= [
 ct2 104 0 en104 vIn vA1 (fun x y=> .s (eB (yB y x))) (fun x y=> [x≤9999]) fun _ _ p _ _ _ h1 h2=>of1_t h1 h2 p.1]++ctb33
noncomputable abbrev rsearch_t:=rX ctb34 Tryz.f103
noncomputable abbrev dsearch_t (z:Int):=dX ctb34 Tryz.f103 (.s (eI ((yrN z:Nat):Int)))
noncomputable def hsearch_t (z:Int):Nat→Hint K:=fun _=> []
noncomputable def isearch_t_0 (z:Int) (g:Nat×Nat):Sx K:=⟨[(4,eI 0),(1, .C 104 [[.int .i64 z]]),(5,eI (g.1:Int)),(6,eI (g.2:Int))],[]⟩
noncomputable def hsearch_t_0_0 (z:Int) (g:Nat×Nat):Nat→Hint K:=hnX [(2,[(2,0,oS (eB false))])]
noncomputable def hsearch_t_0_1 (z:Int) (g:Nat×Nat):Nat→Hint K:=hnX [(2,[(2,0,oS (eB true))]),(3,[(2,0,oS (eI ((g.1+g.2:Nat):Int))),(3,0,oS (.E (.int .u64 ((g.1+g.2:Nat):Int)))),(5,0,oS (eI (((g.1+g.2)/2:Nat):Int)))]),(4,[(3,0,oS (eB true))]),(5,[(1,0,oS (eI (((g.1+g.2)/2+1:Nat):Int)))])]
noncomputable def hsearch_t_0_2 (z:Int) (g:Nat×Nat):Nat→Hint K:=hnX [(2,[(2,0,oS (eB true))]),(3,[(2,0,oS (eI ((g.1+g.2:Nat):Int))),(3,0,oS (.E (.int .u64 ((g.1+g.2:Nat):Int)))),(5,0,oS (eI (((g.1+g.2)/2:Nat):Int)))]),(4,[(3,0,oS (eB false))])]
theorem search_t {w:World} {v0 v1:Value} {z:Int} (h0:(isE (.int .i64 9999)) w v0) (h1:(f0 w (.s (.C 104 [[.int .i64 z]]))).p w v1):Calls Tryz.prog 103 #[v0,v1] w (Ret w fun v w'=>(isE (.int .i64 ((yrN z:Nat):Int))) w' v):=by
 exact fx ctb34 Tryz.func103 (hsearch_t z) [(0,eI 9999),(1, .C 104 [[.int .i64 z]])] (.s (eI ((yrN z:Nat):Int))) ⟨h0,h1,trivial⟩ (dsearch_t z [1,0] [(hsearch_t z)] [] (rsearch_t (hsearch_t z) 1 (ent Tryz.prog Tryz.f103 (κ:=K) [(0,eI 9999),(1, .C 104 [[.int .i64 z]])]))) (lpI (fun h S' J=>dsearch_t z [1,0,0,2] [(hsearch_t z),h] [J] S') (fun g:Nat×Nat=>g.1≤g.2∧g.2≤9999∧(∀k,k<g.1→yB z k=false)∧(g.2<9999→yB z g.2=true)) (fun g=>g.2-g.1) (isearch_t_0 z) (0,9999) (rsearch_t (hsearch_t z) 1 (ent Tryz.prog Tryz.f103 (κ:=K) [(0,eI 9999),(1, .C 104 [[.int .i64 z]])])) (⟨by decide,by decide,(fun k h=>by cases h),(fun h=>absurd h (by decide))⟩) (fun g hC1 J1 hJ1=>(by
  have hC1a:=hC1.1
  have hC1b:=hC1.2.1
  rcases sr3 z g.1 g.2 with h8|h8|h8
  ·exact ⟨hsearch_t_0_0 z g,vcP (decide (((g.1:Int):Int)<(g.2:Int))=false∧tI (g.1:Int) ((yrN z:Nat):Int)) ⟨decide_eq_false (by omega),(have hC1:g.1=yrN z:=(lo_eq (by omega) hC1.2.2.1 (fun h=>by have e:g.1=g.2:=(by omega);rw [e];exact hC1.2.2.2 (by omega)));⟨rfl,by rw [hC1]⟩)⟩⟩
  ·exact ⟨hsearch_t_0_1 z g,vcP (decide (((g.1:Int):Int)<(g.2:Int))=true∧wp ((g.1:Int)+(g.2:Int))∧tI ((g.1:Int)+(g.2:Int)) ((g.1+g.2:Nat):Int)∧tU (IntKind.u64.wrap ((g.1+g.2:Nat):Int)) ((g.1+g.2:Nat):Int)∧tI (IntKind.i64.wrap (((g.1+g.2)/2:Nat):Int)) (((g.1+g.2)/2:Nat):Int)∧((g.1+g.2)/2)≤9999∧(!(yB z ((g.1+g.2)/2)))=true∧wp ((((g.1+g.2)/2:Nat):Int)+1)∧tI ((((g.1+g.2)/2:Nat):Int)+1) (((g.1+g.2)/2+1:Nat):Int)∧J1 (rlX (rsearch_t (hsearch_t_0_1 z g)) [5,4,3,2] (isearch_t_0 z g))) ⟨decide_eq_true (by omega),wi (by omega),⟨rfl,by omega⟩,⟨rfl,u64_in (by omega) (by omega)⟩,⟨rfl,i64_in (by omega) (by omega)⟩,(by omega),(by rw [h8.2];rfl),wi (by omega),⟨rfl,by omega⟩,hJ1 ((g.1+g.2)/2+1,g.2) _ (⟨by show (g.1+g.2)/2+1≤g.2;omega,hC1b,fun k hk=>yB_mono (by have:k<(g.1+g.2)/2+1:=hk;omega) h8.2,hC1.2.2.2⟩) (by show g.2-((g.1+g.2)/2+1)<g.2-g.1;omega) ⟨by kernel_rfl,by kernel_rfl⟩⟩⟩
  ·exact ⟨hsearch_t_0_2 z g,vcP (decide (((g.1:Int):Int)<(g.2:Int))=true∧wp ((g.1:Int)+(g.2:Int))∧tI ((g.1:Int)+(g.2:Int)) ((g.1+g.2:Nat):Int)∧tU (IntKind.u64.wrap ((g.1+g.2:Nat):Int)) ((g.1+g.2:Nat):Int)∧tI (IntKind.i64.wrap (((g.1+g.2)/2:Nat):Int)) (((g.1+g.2)/2:Nat):Int)∧((g.1+g.2)/2)≤9999∧(!(yB z ((g.1+g.2)/2)))=false∧J1 (rlX (rsearch_t (hsearch_t_0_2 z g)) [6,4,3,2] (isearch_t_0 z g))) ⟨decide_eq_true (by omega),wi (by omega),⟨rfl,by omega⟩,⟨rfl,u64_in (by omega) (by omega)⟩,⟨rfl,i64_in (by omega) (by omega)⟩,(by omega),(by rw [h8.2];rfl),hJ1 (g.1,(g.1+g.2)/2) _ (⟨by show g.1≤(g.1+g.2)/2;omega,by show (g.1+g.2)/2≤9999;omega,hC1.2.2.1,fun _=>h8.2⟩) (by show (g.1+g.2)/2-g.1<g.2-g.1;omega) ⟨by kernel_rfl,by kernel_rfl⟩⟩⟩)))
theorem search_t2 {w:World} {v u:Value} {n:Int} {c:Nat×Int} (h1:isE (.int .i64 n) w v) (h2:(k0 w (.C c.1 [[.int .i64 c.2]])).p w u) (e1:n=9999) (e2:c.1=104):Calls Tryz.prog 103 #[v,u] w (Ret w fun v' w'=>isE (.int .i64 ((yrN c.2:Nat):Int)) w' v'):=by
 obtain ⟨f,z⟩:=c
 subst e1
 simp only at e2 h2
 subst e2
 exact search_t h1 h2
theorem of_no {z:Int} (h: ¬(1≤z∧z≤3652059)):dtN z=(0,0,0)∧ofE z=11:=⟨dtN_no h,by unfold ofE;rw [if_neg h]⟩
theorem of_yes {z:Int} (h:1≤z∧z≤3652059):ofE z=0:=by unfold ofE;rw [if_pos h]
theorem of_b {z:Int} {c:Bool} (h:c= !decide (1≤z∧z≤3652059)):cond (decide (z<(1:Int))) true (decide (yS 9999<z))=c:=by
 rw [h,yS_last,Bool.eq_iff_iff]
 by_cases h1:z<(1:Int)
 ·simp [h1]<;>omega
 ·by_cases h2:3652059<z
  ·simp [h1,h2]<;>omega
  ·simp [h1,h2]<;>omega
theorem dl4 (z:Int) (b:Nat):dayI ((yrN z:Nat):Int) ((b:Int)+1)<dl z b∨dl z b≤dayI ((yrN z:Nat):Int) ((b:Int)+1):=by omega
theorem pOf_no {w:World} {v0:Value} {z:Int} (h0:(isE (.int .i64 z)) w v0) (hw:isTb w v0) (hz: ¬(1≤z∧z≤3652059)):Calls Tryz.prog 69 #[v0] w (Ret w fun v w'=>(f0 w (.t [eD (dtN z).1 (dtN z).2.1 (dtN z).2.2,eI (ofE z)])).p w' v):=by
 exact fx ctb34 Tryz.func69 (hnX [(1,[(3,777777,none),(4,777777,none),(5,777777,none),(6,777777,oS (eB true))])]) [(0,eI z),(1000000, .O .Tb)] (.t [eD (dtN z).1 (dtN z).2.1 (dtN z).2.2,eI (ofE z)]) ⟨h0,hw,trivial⟩ (((decide ((z:Int)<1)==false)=true→9999≤9999)∧im2 (decide ((z:Int)<1)==false)∧im2 (decide ((z:Int)<1)==false)∧(decide ((z:Int)<1)=false→(decide ((z:Int)<1)==false)=true)∧cond (decide ((z:Int)<1)) true (decide ((yS 9999:Int)<z))=true∧(tK (eD 0 0 0) (eD (dtN z).1 (dtN z).2.1 (dtN z).2.2)∧tI 11 (ofE z)∧True)) ⟨(fun hg=>(by omega)),id,id,(fun hp=>by simp_all),of_b (by rw [decide_eq_false hz];rfl),⟨(fun _ _ _ _ _ h=>by first|(rw [(of_no hz).1];exact h)|(rw [hC1];exact h)),⟨rfl,by first|exact (of_no hz).2.symm|exact (of_yes hz).symm⟩,trivial⟩⟩
noncomputable def ctb35:List (Ct dk):= [
 ct2 103 0 en103 vI vCl (fun x y=> .s (eI ((yrN y.2:Nat):Int))) (fun x y=> [x=9999,y.1=104]) fun _ _ p _ _ _ h1 h2=>search_t2 h1 h2 p.1 p.2.1]++ctb34
noncomputable abbrev rpOf_yes:=rX ctb35 Tryz.f69
noncomputable abbrev dpOf_yes (z:Int):=dX ctb35 Tryz.f69 (.t [eD (dtN z).1 (dtN z).2.1 (dtN z).2.2,eI (ofE z)])
noncomputable def hpOf_yes (z:Int):Nat→Hint K:=hnX [(1,[(3,777777,none),(4,777777,none),(5,777777,none),(6,777777,oS (eB false))]),(4,[(2,0,oS (eI ((yrN z-1:Nat):Int))),(4,0,oS (eI (dl z 0)))])]
noncomputable def ipOf_yes_0 (z:Int) (b:Nat):Sx K:=⟨[(3,eI 0),(1000000, .O .Tb),(4,eI ((yrN z:Nat):Int)),(6,eI ((b:Int)+1)),(5,eI (dl z b))],[⟨2,28, .X⟩]⟩
noncomputable def hpOf_yes_0_0 (z:Int) (b:Nat):Nat→Hint K:=hnX [(6,[(4,0,oS (eB true))])]
noncomputable def hpOf_yes_0_1 (z:Int) (b:Nat):Nat→Hint K:=hnX [(6,[(4,0,oS (eB false))])]
theorem pOf_yes {w:World} {v0:Value} {z:Int} (h0:(isE (.int .i64 z)) w v0) (hw:isTb w v0) (hz:1≤z∧z≤3652059):Calls Tryz.prog 69 #[v0] w (Ret w fun v w'=>(f0 w (.t [eD (dtN z).1 (dtN z).2.1 (dtN z).2.2,eI (ofE z)])).p w' v):=by
 have hs:=yr_spec hz.1 hz.2
 have hs2:=yS_mono (n:=0) (m:=yrN z-1) (by omega)
 have hs3:yS 0=0:=rfl
 exact fx ctb35 Tryz.func69 (hpOf_yes z) [(0,eI z),(1000000, .O .Tb)] (.t [eD (dtN z).1 (dtN z).2.1 (dtN z).2.2,eI (ofE z)]) ⟨h0,hw,trivial⟩ (((decide ((z:Int)<1)==false)=true→9999≤9999)∧im2 (decide ((z:Int)<1)==false)∧im2 (decide ((z:Int)<1)==false)∧(decide ((z:Int)<1)=false→(decide ((z:Int)<1)==false)=true)∧cond (decide ((z:Int)<1)) true (decide ((yS 9999:Int)<z))=false∧(9999:Int)=9999∧104=104∧wp (((yrN z:Nat):Int) -1)∧tI (((yrN z:Nat):Int) -1) ((yrN z-1:Nat):Int)∧(yrN z-1)≤9999∧wp (z-(yS (yrN z-1)))∧tI (z-(yS (yrN z-1))) (dl z 0)∧dpOf_yes z [1,1,1,1,0] [(hpOf_yes z)] [] (rlX (rpOf_yes (hpOf_yes z)) [5,4,3,1] (ent Tryz.prog Tryz.f69 (κ:=K) [(0,eI z),(1000000, .O .Tb)]))) ⟨(fun hg=>(by omega)),id,id,(fun hp=>by simp_all),of_b (by rw [decide_eq_true hz];rfl),rfl,rfl,wi (by omega),⟨rfl,by omega⟩,(by omega),i64_in (by omega) (by omega),⟨rfl,rfl⟩,(lpI (fun h S' J=>dpOf_yes z [1,1,1,1,0,0,2] [(hpOf_yes z),h] [J] S') (fun b:Nat=>b<12∧0<dl z b) (fun b=>12-b) (ipOf_yes_0 z) (0) (rlX (rpOf_yes (hpOf_yes z)) [5,4,3,1] (ent Tryz.prog Tryz.f69 (κ:=K) [(0,eI z),(1000000, .O .Tb)])) (⟨by omega,by show 0<z-yS (yrN z-1);omega⟩) (fun b hC1 J1 hJ1=>(by
  have hC1a:=hC1.1
  have hdl:=dl_in hz.1 hz.2 (b:=b) (by omega)
  have hdd:=day_of (y:=((yrN z:Nat):Int)) (by omega) (m:=(b:Int)+1) (by omega)
  rcases dl4 z b with h8|h8
  ·exact ⟨hpOf_yes_0_0 z b,vcP (decide ((dayI ((yrN z:Nat):Int) ((b:Int)+1):Int)<dl z b)=true∧wp ((dl z b) -(dayI ((yrN z:Nat):Int) ((b:Int)+1)))∧wp (((b:Int)+1)+1)∧J1 (rlX (rpOf_yes (hpOf_yes_0_0 z b)) [8,7,6] (ipOf_yes_0 z b))) ⟨decide_eq_true h8,wi (by omega),wi (by omega),hJ1 (b+1) _ (⟨dl_next hz.1 hz.2 hC1.1 h8,by show 0<dl z b-dayI ((yrN z:Nat):Int) ((b:Int)+1);omega⟩) (by have:=dl_next hz.1 hz.2 hC1.1 h8;omega) ⟨by kernel_rfl,by kernel_rfl⟩⟩⟩
  ·exact ⟨hpOf_yes_0_1 z b,vcP (decide ((dayI ((yrN z:Nat):Int) ((b:Int)+1):Int)<dl z b)=false∧(tK (eD ((yrN z:Nat):Int) ((b:Int)+1) (dl z b)) (eD (dtN z).1 (dtN z).2.1 (dtN z).2.2)∧tI 0 (ofE z)∧True)) ⟨decide_eq_false (by omega),(have hC1:dtN z=(((yrN z:Nat):Int),(b:Int)+1,dl z b):=(dl_end hz.1 hz.2 hC1.1 hC1.2 h8);⟨(fun _ _ _ _ _ h=>by first|(rw [(of_no hz).1];exact h)|(rw [hC1];exact h)),⟨rfl,by first|exact (of_no hz).2.symm|exact (of_yes hz).symm⟩,trivial⟩)⟩⟩)))⟩
theorem nb_in {y m d:Int} (h: ¬ ¬rightI y m d):1≤nbI y m d∧nbI y m d≤3652059:=by
 have h':rightI y m d:=by simpa using h
 rw [(chk_1 h').2.1]
 exact num_in h'
end Go.Proofs.YtjpilacbapibjaaGreatDoor.X
