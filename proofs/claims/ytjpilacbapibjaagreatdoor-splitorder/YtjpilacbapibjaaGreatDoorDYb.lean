/- The reference of layer 9, more: dates compared, printed, parsed. Written by a script (tools/laws). -/
import Derived.Test.YtjpilacbapibjaaGreatDoorDYa
namespace Go.Proofs.YtjpilacbapibjaaGreatDoor.X
open Go.Proofs.YtjpilacbapibjaaGreatDoor.Da
open Go.RowKit Go.Proofs.YtjpilacbapibjaaGreatDoor.Z
set_option linter.unusedVariables false
def at3 (a b c:Int):Nat→Int
 |0=>a
 |1=>b
 |_=>c
theorem at3_row (a b c:Int) {i:Nat} (h:i<3):([[.int .i64 a],[.int .i64 b],[.int .i64 c]]:List (List Value)).getD i []= [.int .i64 (at3 a b c i)]:=by
 rcases i with _|_|_|i<;>first|rfl|omega
theorem cmp4 (a b:Int) (i:Nat):3≤i∨(i<3∧a<b)∨(i<3∧ ¬a<b∧b<a)∨(i<3∧ ¬a<b∧ ¬b<a):=by omega
theorem cmp3_lt {y m d y' m' d':Int} {i:Nat} (hi:i<3) (he: ∀j,j<i→at3 y m d j=at3 y' m' d' j) (h:at3 y m d i<at3 y' m' d' i):(-1:Int)=cmpI y m d y' m' d':=by
 rcases i with _|_|_|i
 ·have h:y<y':=h
  unfold cmpI
  rw [if_pos h]
 ·have h:m<m':=h
  have e:y=y':=he 0 (by omega)
  unfold cmpI
  rw [if_neg (by omega),if_neg (by omega),if_pos h]
 ·have h:d<d':=h
  have e:y=y':=he 0 (by omega)
  have e2:m=m':=he 1 (by omega)
  unfold cmpI
  rw [if_neg (by omega),if_neg (by omega),if_neg (by omega),if_neg (by omega),if_pos h]
 ·omega
theorem cmp3_gt {y m d y' m' d':Int} {i:Nat} (hi:i<3) (he: ∀j,j<i→at3 y m d j=at3 y' m' d' j) (h:at3 y' m' d' i<at3 y m d i):(1:Int)=cmpI y m d y' m' d':=by
 have:=cmp3_lt hi (fun j hj=>(he j hj).symm) h
 rw [Da.cmp_neg] at this
 omega
theorem cmp3_eq {y m d y' m' d':Int} (he: ∀j,j<3→at3 y m d j=at3 y' m' d' j):(0:Int)=cmpI y m d y' m' d':=by
 have e:y=y':=he 0 (by omega)
 have e2:m=m':=he 1 (by omega)
 have e3:d=d':=he 2 (by omega)
 subst e e2 e3
 exact (cmp_self y m d).symm
theorem dgs_len (n:Nat): ∀k,(dgs n k).length=k:=by
 intro k
 induction k with
 |zero=>rfl
 |succ k ih=>show (dgs n k).length+1=k+1;rw [ih]
def tn (n:Nat):Nat→Nat
 |0=>n
 |i+1=>tn n i/10
theorem tn_eq (n:Nat): ∀i,tn n i=n/10^i:=by
 intro i
 induction i with
 |zero=>simp [tn]
 |succ i ih=>rw [←div_step,←ih];rfl
theorem tn_le {n:Nat} (h:n≤9999): ∀i,tn n i≤9999:=by
 intro i
 rw [tn_eq]
 exact Nat.le_trans (Nat.div_le_self _ _) h
theorem dig_one (n i:Nat): [UInt8.ofNat (Int.toNat ((48+tn n i%10:Nat):Int))]= [dig (n/10^i)]:=by
 rw [tn_eq]
 show [UInt8.ofNat _]= [UInt8.ofNat _]
 rw [Int.toNat_natCast]
theorem tm10 (q:Nat):(q:Int).tmod 10=((q%10:Nat):Int):=by
 rw [Int.tmod_eq_emod_of_nonneg (by omega)]
 omega
theorem td10 (q:Nat):(q:Int).tdiv 10=((q/10:Nat):Int):=by
 rw [Int.tdiv_eq_ediv_of_nonneg (by omega)]
 omega
theorem u8_in {m:Int} (h1:0≤m) (h2:m≤255):IntKind.u8.wrap m=m:=by
 have e:m%(2^IntKind.u8.bits:Int)=m:=Int.emod_eq_of_lt h1 (by show m<256;omega)
 unfold IntKind.wrap
 rw [e]
 rfl
theorem td_wrap {q:Nat} (h:q≤9999):IntKind.i64.wrap ((q:Int).tdiv 10)=(q:Int).tdiv 10:=by
 rw [td10]
 exact i64_in (by omega) (by omega)
noncomputable abbrev rrefCmp_t:=rX ctb28 Tryz.f38
noncomputable abbrev drefCmp_t (y1 m1 d1 y2 m2 d2:Int):=dX ctb28 Tryz.f38 (.s (eI (cmpI y1 m1 d1 y2 m2 d2)))
noncomputable def hrefCmp_t (y1 m1 d1 y2 m2 d2:Int):Nat→Hint K:=fun _=> []
noncomputable def irefCmp_t_0 (y1 m1 d1 y2 m2 d2:Int) (i:Nat):Sx K:=⟨[(5, .L 3 1 ([[.int .i64 y1],[.int .i64 m1],[.int .i64 d1]]) true),(6, .L 3 1 ([[.int .i64 y2],[.int .i64 m2],[.int .i64 d2]]) true),(7,eI (i:Int))],[]⟩
noncomputable def hrefCmp_t_0_0 (y1 m1 d1 y2 m2 d2:Int) (i:Nat):Nat→Hint K:=hnX [(4,[(1,0,oS (eB false))])]
noncomputable def hrefCmp_t_0_1 (y1 m1 d1 y2 m2 d2:Int) (i:Nat):Nat→Hint K:=hnX [(4,[(1,0,oS (eB true))]),(6,[(2,0,oS (.A [.int .i64 (at3 y1 m1 d1 i)])),(6,0,oS (.A [.int .i64 (at3 y2 m2 d2 i)])),(8,0,oS (eB true))])]
noncomputable def hrefCmp_t_0_2 (y1 m1 d1 y2 m2 d2:Int) (i:Nat):Nat→Hint K:=hnX [(4,[(1,0,oS (eB true))]),(6,[(2,0,oS (.A [.int .i64 (at3 y1 m1 d1 i)])),(6,0,oS (.A [.int .i64 (at3 y2 m2 d2 i)])),(8,0,oS (eB false))]),(8,[(2,0,oS (.A [.int .i64 (at3 y1 m1 d1 i)])),(6,0,oS (.A [.int .i64 (at3 y2 m2 d2 i)])),(8,0,oS (eB true))])]
noncomputable def hrefCmp_t_0_3 (y1 m1 d1 y2 m2 d2:Int) (i:Nat):Nat→Hint K:=hnX [(4,[(1,0,oS (eB true))]),(5,[(1,0,oS (eI ((i+1:Nat):Int)))]),(6,[(2,0,oS (.A [.int .i64 (at3 y1 m1 d1 i)])),(6,0,oS (.A [.int .i64 (at3 y2 m2 d2 i)])),(8,0,oS (eB false))]),(8,[(2,0,oS (.A [.int .i64 (at3 y1 m1 d1 i)])),(6,0,oS (.A [.int .i64 (at3 y2 m2 d2 i)])),(8,0,oS (eB false))])]
theorem refCmp_t {w:World} {v0 v1:Value} {y1 m1 d1 y2 m2 d2:Int} (h0:(f0 w (.s (eD y1 m1 d1))).p w v0) (h1:(f0 w (.s (eD y2 m2 d2))).p w v1):Calls Tryz.prog 38 #[v0,v1] w (Ret w fun v w'=>(isE (.int .i64 (cmpI y1 m1 d1 y2 m2 d2))) w' v):=by
 exact fx ctb28 Tryz.func38 (hrefCmp_t y1 m1 d1 y2 m2 d2) [(0,eD y1 m1 d1),(1,eD y2 m2 d2)] (.s (eI (cmpI y1 m1 d1 y2 m2 d2))) ⟨h0,h1,trivial⟩ (drefCmp_t y1 m1 d1 y2 m2 d2 [1,1,0,1] [(hrefCmp_t y1 m1 d1 y2 m2 d2)] [] (rlX (rrefCmp_t (hrefCmp_t y1 m1 d1 y2 m2 d2)) [3,2,1] (ent Tryz.prog Tryz.f38 (κ:=K) [(0,eD y1 m1 d1),(1,eD y2 m2 d2)]))) (lpI (fun h S' J=>drefCmp_t y1 m1 d1 y2 m2 d2 [1,1,0,1,0,2] [(hrefCmp_t y1 m1 d1 y2 m2 d2),h] [J] S') (fun i:Nat=>i≤3∧ ∀j,j<i→at3 y1 m1 d1 j=at3 y2 m2 d2 j) (fun i=>3-i) (irefCmp_t_0 y1 m1 d1 y2 m2 d2) (0) (rlX (rrefCmp_t (hrefCmp_t y1 m1 d1 y2 m2 d2)) [3,2,1] (ent Tryz.prog Tryz.f38 (κ:=K) [(0,eD y1 m1 d1),(1,eD y2 m2 d2)])) (⟨by omega,fun j h=>by omega⟩) (fun i hC1 J1 hJ1=>(by
  rcases cmp4 (at3 y1 m1 d1 i) (at3 y2 m2 d2 i) i with h8|h8|h8|h8
  ·exact ⟨hrefCmp_t_0_0 y1 m1 d1 y2 m2 d2 i,vcP (decide (((i:Int):Int)<3)=false∧tI 0 (cmpI y1 m1 d1 y2 m2 d2)) ⟨decide_eq_false (by omega),(have hC1: ∀j,j<3→at3 y1 m1 d1 j=at3 y2 m2 d2 j:=(fun j hj=>hC1.2 j (by omega));⟨rfl,by first|exact cmp3_eq hC1|exact cmp3_lt h8.1 hC1.2 h8.2|exact cmp3_gt h8.1 hC1.2 h8.2.2⟩)⟩⟩
  ·exact ⟨hrefCmp_t_0_1 y1 m1 d1 y2 m2 d2 i,vcP (decide (((i:Int):Int)<3)=true∧i<([[.int .i64 y1],[.int .i64 m1],[.int .i64 d1]]:List (List Value)).length∧([[.int .i64 y1],[.int .i64 m1],[.int .i64 d1]]:List (List Value)).getD i []=([.int .i64 (at3 y1 m1 d1 i)]:List Value)∧i<([[.int .i64 y2],[.int .i64 m2],[.int .i64 d2]]:List (List Value)).length∧([[.int .i64 y2],[.int .i64 m2],[.int .i64 d2]]:List (List Value)).getD i []=([.int .i64 (at3 y2 m2 d2 i)]:List Value)∧decide ((at3 y1 m1 d1 i:Int)<at3 y2 m2 d2 i)=true∧tI (-1) (cmpI y1 m1 d1 y2 m2 d2)) ⟨decide_eq_true (by omega),(by simp;omega),at3_row _ _ _ h8.1,(by simp;omega),at3_row _ _ _ h8.1,decide_eq_true h8.2,⟨rfl,by first|exact cmp3_eq hC1|exact cmp3_lt h8.1 hC1.2 h8.2|exact cmp3_gt h8.1 hC1.2 h8.2.2⟩⟩⟩
  ·exact ⟨hrefCmp_t_0_2 y1 m1 d1 y2 m2 d2 i,vcP (decide (((i:Int):Int)<3)=true∧i<([[.int .i64 y1],[.int .i64 m1],[.int .i64 d1]]:List (List Value)).length∧([[.int .i64 y1],[.int .i64 m1],[.int .i64 d1]]:List (List Value)).getD i []=([.int .i64 (at3 y1 m1 d1 i)]:List Value)∧i<([[.int .i64 y2],[.int .i64 m2],[.int .i64 d2]]:List (List Value)).length∧([[.int .i64 y2],[.int .i64 m2],[.int .i64 d2]]:List (List Value)).getD i []=([.int .i64 (at3 y2 m2 d2 i)]:List Value)∧decide ((at3 y1 m1 d1 i:Int)<at3 y2 m2 d2 i)=false∧i<([[.int .i64 y1],[.int .i64 m1],[.int .i64 d1]]:List (List Value)).length∧([[.int .i64 y1],[.int .i64 m1],[.int .i64 d1]]:List (List Value)).getD i []=([.int .i64 (at3 y1 m1 d1 i)]:List Value)∧i<([[.int .i64 y2],[.int .i64 m2],[.int .i64 d2]]:List (List Value)).length∧([[.int .i64 y2],[.int .i64 m2],[.int .i64 d2]]:List (List Value)).getD i []=([.int .i64 (at3 y2 m2 d2 i)]:List Value)∧decide ((at3 y2 m2 d2 i:Int)<at3 y1 m1 d1 i)=true∧tI 1 (cmpI y1 m1 d1 y2 m2 d2)) ⟨decide_eq_true (by omega),(by simp;omega),at3_row _ _ _ h8.1,(by simp;omega),at3_row _ _ _ h8.1,decide_eq_false h8.2.1,(by simp;omega),at3_row _ _ _ h8.1,(by simp;omega),at3_row _ _ _ h8.1,decide_eq_true h8.2.2,⟨rfl,by first|exact cmp3_eq hC1|exact cmp3_lt h8.1 hC1.2 h8.2|exact cmp3_gt h8.1 hC1.2 h8.2.2⟩⟩⟩
  ·exact ⟨hrefCmp_t_0_3 y1 m1 d1 y2 m2 d2 i,vcP (decide (((i:Int):Int)<3)=true∧i<([[.int .i64 y1],[.int .i64 m1],[.int .i64 d1]]:List (List Value)).length∧([[.int .i64 y1],[.int .i64 m1],[.int .i64 d1]]:List (List Value)).getD i []=([.int .i64 (at3 y1 m1 d1 i)]:List Value)∧i<([[.int .i64 y2],[.int .i64 m2],[.int .i64 d2]]:List (List Value)).length∧([[.int .i64 y2],[.int .i64 m2],[.int .i64 d2]]:List (List Value)).getD i []=([.int .i64 (at3 y2 m2 d2 i)]:List Value)∧decide ((at3 y1 m1 d1 i:Int)<at3 y2 m2 d2 i)=false∧i<([[.int .i64 y1],[.int .i64 m1],[.int .i64 d1]]:List (List Value)).length∧([[.int .i64 y1],[.int .i64 m1],[.int .i64 d1]]:List (List Value)).getD i []=([.int .i64 (at3 y1 m1 d1 i)]:List Value)∧i<([[.int .i64 y2],[.int .i64 m2],[.int .i64 d2]]:List (List Value)).length∧([[.int .i64 y2],[.int .i64 m2],[.int .i64 d2]]:List (List Value)).getD i []=([.int .i64 (at3 y2 m2 d2 i)]:List Value)∧decide ((at3 y2 m2 d2 i:Int)<at3 y1 m1 d1 i)=false∧wp ((i:Int)+1)∧tI ((i:Int)+1) ((i+1:Nat):Int)∧J1 (rlX (rrefCmp_t (hrefCmp_t_0_3 y1 m1 d1 y2 m2 d2 i)) [5,8,6,4] (irefCmp_t_0 y1 m1 d1 y2 m2 d2 i))) ⟨decide_eq_true (by omega),(by simp;omega),at3_row _ _ _ h8.1,(by simp;omega),at3_row _ _ _ h8.1,decide_eq_false h8.2.1,(by simp;omega),at3_row _ _ _ h8.1,(by simp;omega),at3_row _ _ _ h8.1,decide_eq_false h8.2.2,wi (by omega),⟨rfl,by omega⟩,hJ1 (i+1) _ (⟨by omega,fun j hj=>by rcases Nat.lt_or_eq_of_le (Nat.le_of_lt_succ hj) with h|h;exact hC1.2 j h;rw [h];omega⟩) (by omega) ⟨by kernel_rfl,by kernel_rfl⟩⟩⟩)))
def okP (l:List UInt8):Bool:=shB l&&decide (rightI ((yOf l:Nat):Int) ((mOf l:Nat):Int) ((dOf l:Nat):Int))
def pYd (l:List UInt8):Int:=if okP l then ((yOf l:Nat):Int) else 0
def pMd (l:List UInt8):Int:=if okP l then ((mOf l:Nat):Int) else 0
def pDd (l:List UInt8):Int:=if okP l then ((dOf l:Nat):Int) else 0
def pEr (l:List UInt8):Int:=if shB l=false then 4 else if okP l then 0 else 11
theorem pz_no {l:List UInt8} (h:shB l=false):pYd l=0∧pMd l=0∧pDd l=0∧pEr l=4:=by
 have e:okP l=false:=by unfold okP;rw [h];rfl
 unfold pYd pMd pDd pEr
 rw [e,if_pos h]
 exact ⟨rfl,rfl,rfl,rfl⟩
theorem pz_wrong {l:List UInt8} (h:shB l=true) (h2: ¬rightI ((yOf l:Nat):Int) ((mOf l:Nat):Int) ((dOf l:Nat):Int)):pYd l=0∧pMd l=0∧pDd l=0∧pEr l=11:=by
 have e:okP l=false:=by unfold okP;rw [h,decide_eq_false h2];rfl
 unfold pYd pMd pDd pEr
 rw [e,h]
 exact ⟨rfl,rfl,rfl,rfl⟩
theorem pz_ok {l:List UInt8} (h:shB l=true) (h2:rightI ((yOf l:Nat):Int) ((mOf l:Nat):Int) ((dOf l:Nat):Int)):pYd l=((yOf l:Nat):Int)∧pMd l=((mOf l:Nat):Int)∧pDd l=((dOf l:Nat):Int)∧pEr l=0:=by
 have e:okP l=true:=by unfold okP;rw [h,decide_eq_true h2];rfl
 unfold pYd pMd pDd pEr
 rw [e,h]
 exact ⟨rfl,rfl,rfl,rfl⟩
theorem sh_len {l:List UInt8} (h: ¬l.length=10):shB l=false:=by
 unfold shB
 rw [decide_eq_false h]
 rfl
abbrev ShNo (i:Nat) (b:UInt8):Prop:=shAt i b=false
theorem sh_no {l:List UInt8} {i:Nat} (h:l.length=10) (hi:i<10) (h2:ShNo i (l.getD i 0)):shB l=false:=by
 cases hb:shB l with
 |false=>rfl
 |true=>exact absurd ((sh_iff h).1 hb i hi) (by rw [h2];decide)
def prt (i:Nat):Nat:=if i≤4 then 0 else if i≤7 then 1 else 2
theorem prt_le (i:Nat):prt i≤2:=by
 unfold prt
 repeat' split
 all_goals omega
def rdv (l:List UInt8) (i:Nat):Nat×Nat×Nat:=(rdP l 0 (min i 4),rdP l 5 (min (i-5) 2),rdP l 8 (i-8))
def rwD (x:Nat×Nat×Nat):List (List Value):= [[.int .i64 (x.1:Int)],[.int .i64 (x.2.1:Int)],[.int .i64 (x.2.2:Int)]]
def pk (x:Nat×Nat×Nat):Nat→Nat
 |0=>x.1
 |1=>x.2.1
 |_=>x.2.2
theorem rwD_row {x:Nat×Nat×Nat} {p:Nat} (h:p<3):(rwD x).getD p []= [.int .i64 ((pk x p:Nat):Int)]:=by
 rcases p with _|_|_|p<;>first|rfl|omega
theorem dash_or {i:Nat} (h:i<10) (h2: ¬(i=4∨i=7)):i=0∨i=1∨i=2∨i=3∨i=5∨i=6∨i=8∨i=9:=by omega
theorem rwD_set {l:List UInt8} {i p:Nat} {x:Nat×Nat×Nat} (h:i<10) (h2: ¬(i=4∨i=7)) (hp:p=prt i) (hx:x=rdv l i):(rwD x).set p [.int .i64 ((10*pk x p+Da.dv (l.getD i 0):Nat):Int)]=rwD (rdv l (i+1)):=by
 subst hp hx
 rcases dash_or h h2 with rfl|rfl|rfl|rfl|rfl|rfl|rfl|rfl<;>rfl
theorem prt_dash {i:Nat} (h:i=4∨i=7):prt i+1=prt (i+1):=by rcases h with rfl|rfl<;>rfl
theorem prt_dig {i:Nat} (h:i<10) (h2: ¬(i=4∨i=7)):prt i=prt (i+1):=by rcases dash_or h h2 with rfl|rfl|rfl|rfl|rfl|rfl|rfl|rfl<;>rfl
theorem rdv_dash {l:List UInt8} {i:Nat} (h:i=4∨i=7):rdv l i=rdv l (i+1):=by rcases h with rfl|rfl<;>rfl
theorem sh_more {l:List UInt8} {i:Nat} (h: ∀j,j<i→shAt j (l.getD j 0)=true) (h2:shAt i (l.getD i 0)=true): ∀j,j<i+1→shAt j (l.getD j 0)=true:=fun j hj=>by
 rcases Nat.lt_or_eq_of_le (Nat.le_of_lt_succ hj) with h3|h3
 ·exact h j h3
 ·rw [h3];exact h2
theorem sh_dash {i:Nat} {b:UInt8} (h:i=4∨i=7) (hb:b=45):shAt i b=true:=by
 unfold shAt
 rw [if_pos h,hb]
 rfl
theorem sh_dig {i:Nat} {b:UInt8} (h: ¬(i=4∨i=7)) (h1:48≤b.toNat) (h2:b.toNat≤57):shAt i b=true:=by
 unfold shAt
 rw [if_neg h]
 exact decide_eq_true ⟨h1,h2⟩
theorem d45 {i:Nat} {b:UInt8} (h:i=4∨i=7) (h2:ShNo i b): ¬((b.toNat:Nat):Int)=45:=fun e=>by
 have:b=45:=UInt8.toNat_inj.1 (by show b.toNat=45;omega)
 have:=sh_dash h this
 rw [h2] at this
 cases this
theorem d47 {i:Nat} (h:i=4∨i=7):bif decide ((i:Int)=4) then true else decide ((i:Int)=7)=true:=by rcases h with rfl|rfl<;>rfl
theorem d47n {i:Nat} (h: ¬(i=4∨i=7)):bif decide ((i:Int)=4) then true else decide ((i:Int)=7)=false:=by
 rw [decide_eq_false (by omega),decide_eq_false (by omega)]
 rfl
theorem pr6 (l:List UInt8) (i:Nat):10≤i∨(i<10∧(i=4∨i=7)∧l.getD i 0=45)∨(i<10∧(i=4∨i=7)∧ShNo i (l.getD i 0))∨(i<10∧ ¬(i=4∨i=7)∧48≤(l.getD i 0).toNat∧(l.getD i 0).toNat≤57∧Da.dv (l.getD i 0)+48=(l.getD i 0).toNat)∨(i<10∧ ¬(i=4∨i=7)∧ShNo i (l.getD i 0)∧(l.getD i 0).toNat<48)∨(i<10∧ ¬(i=4∨i=7)∧ShNo i (l.getD i 0)∧57<(l.getD i 0).toNat):=by
 generalize l.getD i 0=b
 rcases Nat.lt_or_ge i 10 with h|h
 ·by_cases h2:i=4∨i=7
  ·by_cases h3:b=45
   ·exact .inr (.inl ⟨h,h2,h3⟩)
   ·refine .inr (.inr (.inl ⟨h,h2, ?_⟩))
    unfold ShNo shAt
    rw [if_pos h2]
    simpa using h3
  ·have no: ¬(48≤b.toNat∧b.toNat≤57)→ShNo i b:=fun e=>by
    unfold ShNo shAt
    rw [if_neg h2]
    exact decide_eq_false e
   rcases Nat.lt_or_ge b.toNat 48 with h4|h4
   ·exact .inr (.inr (.inr (.inr (.inl ⟨h,h2,no (by omega),h4⟩))))
   ·rcases Nat.lt_or_ge 57 b.toNat with h5|h5
    ·exact .inr (.inr (.inr (.inr (.inr ⟨h,h2,no (by omega),h5⟩))))
    ·exact .inr (.inr (.inr (.inl ⟨h,h2,h4,h5,by unfold Da.dv;omega⟩)))
 ·exact .inl h
theorem dv_max (b:UInt8):Da.dv b≤255:=by
 have:=b.toNat_lt
 unfold Da.dv
 omega
theorem rd_any (s:List UInt8) (a:Nat): ∀k,rdP s a k+256≤256*10^k:=by
 intro k
 induction k with
 |zero=>exact Nat.le_refl _
 |succ k ih=>
  have h2:=dv_max (s.getD (a+k) 0)
  rw [Nat.pow_succ]
  show 10*rdP s a k+Da.dv (s.getD (a+k) 0)+256≤_
  omega
theorem rd_big (s:List UInt8) (a k:Nat) (h:k≤4):rdP s a k≤2560000:=by
 have h1:=rd_any s a k
 have h2:=Nat.pow_le_pow_right (show 0<10 by decide) h
 omega
theorem pk_le (l:List UInt8) (i p:Nat) (h:i≤10):pk (rdv l i) p≤2560000:=by
 rcases p with _|_|p
 ·exact rd_big _ _ _ (by omega)
 ·exact rd_big _ _ _ (by omega)
 ·exact rd_big _ _ _ (by omega)
theorem pr_end {l:List UInt8} {i:Nat} {x:Nat×Nat×Nat} (hl:l.length=10) (h1:i≤10) (h2:10≤i) (h3: ∀j,j<i→shAt j (l.getD j 0)=true) (hx:x=rdv l i):shB l=true∧x=(yOf l,mOf l,dOf l):=by
 obtain rfl:i=10:=by omega
 refine ⟨(sh_iff hl).2 h3, ?_⟩
 rw [hx,←rd_y,←rd_m,←rd_d]
 rfl
end Go.Proofs.YtjpilacbapibjaaGreatDoor.X
