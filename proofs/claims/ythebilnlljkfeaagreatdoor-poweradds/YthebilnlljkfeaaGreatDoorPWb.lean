/- The reference of layer 13. Written by a script (tools/laws). -/
import Derived.Test.YthebilnlljkfeaaGreatDoorPWa
namespace Go.Proofs.YthebilnlljkfeaaGreatDoor.X
open Go.RowKit Go.Proofs.YthebilnlljkfeaaGreatDoor.Z
set_option linter.unusedVariables false
theorem dlen_zero (n:Nat):(Dx.len n=0)↔n=0:=by
 constructor
 ·intro h
  by_cases e:n=0
  ·exact e
  ·rw [Dx.len_pos n e] at h;omega
 ·rintro rfl;exact Dx.len_zero
theorem rnum_b (r:Rat):decide (((Dx.len (Int.natAbs r.num):Nat):Int)=0)=decide (r=0):=by
 have h:((Dx.len (Int.natAbs r.num):Nat):Int)=0↔r=0:=by
  rw [Int.natCast_eq_zero,dlen_zero,Int.natAbs_eq_zero,Rat.num_eq_zero]
 by_cases e:r=0
 ·rw [decide_eq_true e,decide_eq_true (h.2 e)]
 ·rw [decide_eq_false e,decide_eq_false fun e'=>e (h.1 e')]
theorem lvV_0 {a r:Rat} {n:Nat} (h:r=0):a/(((n:Int):Rat)/((1:Int):Rat))=lvV a r n:=by
 unfold lvV
 rw [if_pos h,div_one]
theorem lvV_1 {a r:Rat} {n:Nat} (h: ¬r=0):a*r/(1-1/(1+r)^n)=lvV a r n:=by
 unfold lvV
 rw [if_neg h]
theorem nat_ne {n:Nat} (h:1≤n):((n:Int):Rat)/((1:Int):Rat)≠0:=by
 rw [div_one]
 exact int_ne (by omega)
theorem one_ne {r:Rat} (h:0≤r):1+r≠0:=by grind
noncomputable def ctb36:List (Ct dk):= [
 ct2 61 0 en61 vV vV (fun x y=> .s (.O (.R (((x.1:Int):Rat)/((y.1:Int):Rat)) (max x.2 y.2)))) (fun x y=> [x.2≤100000,y.2≤100000,y.1≠0]) fun _ _ p _ _ _ h1 h2=>of_r h1 h2 p.1 p.2.1 p.2.2.1,
 ct1 60 0 en60 vI (fun x=> .s (.O (.V x 5))) (fun x=> [-9223372036854775807≤x,x≤9223372036854775807]) fun _ p _ _ h1=>by cases h1;exact fromV _ _ p.1 p.2.1]
theorem small_q {w:World} {v0 v1:Value} {a b:Int} (h0:(isE (.int .i64 a)) w v0) (h1:(isE (.int .i64 b)) w v1) (ha: -9223372036854775807≤a∧a≤9223372036854775807) (hb:1≤b∧b≤9223372036854775807):Calls Tryz.prog 30 #[v0,v1] w (Ret w fun v w'=>(isR (((a:Int):Rat)/((b:Int):Rat)) 5) w' v):=by
 exact fx ctb36 Tryz.func30 (fun _=> []) [(0,eI a),(1,eI b)] (.s (.O (.R (((a:Int):Rat)/((b:Int):Rat)) 5))) ⟨h0,h1,trivial⟩ ((-9223372036854775807≤a)∧a≤9223372036854775807∧(-9223372036854775807≤b)∧b≤9223372036854775807∧5≤100000∧5≤100000∧(b≠0)∧tK (.O (.R (((a:Int):Rat)/((b:Int):Rat)) (max 5 5))) (.O (.R (((a:Int):Rat)/((b:Int):Rat)) 5))) ⟨(by omega),(by omega),(by omega),(by omega),(by omega),(by omega),(by omega),(fun _ _ _ _ _ h=>isR_re h rfl (by omega))⟩
noncomputable def ctb37:List (Ct dk):= [
 ct2 42 0 en42 vR vR (fun x y=> .s (.O (.R (x.1*y.1) (x.2+y.2+1)))) (fun x y=> [x.2≤10000,y.2≤10000]) fun _ _ p _ _ _ h1 h2=>mul_r h1 h2 p.1 p.2.1,
 ct2 30 0 en30 vI vI (fun x y=> .s (.O (.R (((x:Int):Rat)/((y:Int):Rat)) 5))) (fun x y=> [-9223372036854775807≤x∧x≤9223372036854775807,1≤y∧y≤9223372036854775807]) fun _ _ p _ _ _ h1 h2=>small_q h1 h2 p.1 p.2.1]++ctb36
noncomputable abbrev rrPow_t:=rX ctb37 Tryz.f17
noncomputable abbrev drPow_t (q:Rat) (t:Nat):=dX ctb37 Tryz.f17 (.s (.O (.R (q^t) 600)))
noncomputable def hrPow_t (q:Rat) (t:Nat):Nat→Hint K:=hnX [(1,[(0,0,oS (.O (.R (q^0) (21*0+5))))])]
noncomputable def irPow_t_0 (q:Rat) (t:Nat) (i:Nat):Sx K:=⟨[(1,eI (t:Int)),(6,eI (i:Int))],[⟨4,33, .X⟩,⟨2,33, .O (.R q 20)⟩,⟨5,33, .O (.R (q^i) (21*i+5))⟩]⟩
noncomputable def hrPow_t_0_0 (q:Rat) (t:Nat) (i:Nat):Nat→Hint K:=hnX [(3,[(2,0,oS (eB true))]),(4,[(1,0,oS (eI ((i+1:Nat):Int)))]),(5,[(2,0,oS (.O (.R (q^(i+1)) (21*(i+1)+5))))])]
noncomputable def hrPow_t_0_1 (q:Rat) (t:Nat) (i:Nat):Nat→Hint K:=hnX [(3,[(2,0,oS (eB false))])]
theorem rPow_t {w:World} {v0 v1:Value} {q:Rat} {t:Nat} (h0:(isR q 20) w v0) (h1:(isE (.int .i64 (t:Int))) w v1) (ht:t≤24):Calls Tryz.prog 17 #[v0,v1] w (Ret w fun v w'=>(isR (q^t) 600) w' v):=by
 exact fx ctb37 Tryz.func17 (hrPow_t q t) [(0, .O (.R q 20)),(1,eI (t:Int))] (.s (.O (.R (q^t) 600))) ⟨h0,h1,trivial⟩ ((-9223372036854775807≤(1:Int)∧(1:Int)≤9223372036854775807)∧(1≤(1:Int)∧(1:Int)≤9223372036854775807)∧tK (.O (.R ((((1:Int):Int):Rat)/(((1:Int):Int):Rat)) 5)) (.O (.R (q^0) (21*0+5)))∧drPow_t q t [1,0,1] [(hrPow_t q t)] [] (rlX (rrPow_t (hrPow_t q t)) [2,1] (ent Tryz.prog Tryz.f17 (κ:=K) [(0, .O (.R q 20)),(1,eI (t:Int))]))) ⟨(by decide),(by decide),(fun _ _ _ _ _ h=>isR_re h (one_r.trans (rpow_zero q).symm) (by omega)),(lpI (fun h S' J=>drPow_t q t [1,0,1,0,2] [(hrPow_t q t),h] [J] S') (fun i:Nat=>i≤t) (fun i=>t-i) (irPow_t_0 q t) (0) (rlX (rrPow_t (hrPow_t q t)) [2,1] (ent Tryz.prog Tryz.f17 (κ:=K) [(0, .O (.R q 20)),(1,eI (t:Int))])) (Nat.zero_le _) (fun i hC1 J1 hJ1=>(by
  rcases Nat.lt_or_ge i t with h8|h8
  ·exact ⟨hrPow_t_0_0 q t i,vcP (decide (((i:Int):Int)<(t:Int))=true∧(21*i+5)≤10000∧20≤10000∧tK (.O (.R ((q^i)*q) ((21*i+5)+20+1))) (.O (.R (q^(i+1)) (21*(i+1)+5)))∧wp ((i:Int)+1)∧tI ((i:Int)+1) ((i+1:Nat):Int)∧J1 (rlX (rrPow_t (hrPow_t_0_0 q t i)) [4,5,3] (irPow_t_0 q t i))) ⟨decide_eq_true (by omega),(by omega),(by omega),(fun _ _ _ _ _ h=>isR_re h (Rat.pow_succ q i).symm (by omega)),wi (by omega),⟨rfl,by omega⟩,hJ1 (i+1) _ (h8) (by omega) ⟨by kernel_rfl,by kernel_rfl⟩⟩⟩
  ·exact ⟨hrPow_t_0_1 q t i,vcP (decide (((i:Int):Int)<(t:Int))=false∧tK (.O (.R (q^i) (21*i+5))) (.O (.R (q^t) 600))) ⟨decide_eq_false (by omega),(have hC1:i=t:=(by omega);(fun _ _ _ _ _ h=>isR_re h (by rw [hC1]) (by omega)))⟩⟩)))⟩
noncomputable def ctb38:List (Ct dk):= [
 ct2 46 0 en46 vR vR (fun x y=> .s (.O (.R (x.1/y.1) (x.2+y.2+1)))) (fun x y=> [x.2≤10000,y.2≤10000,y.1≠0]) fun _ _ p _ _ _ h1 h2=>quo_r h1 h2 p.1 p.2.1 p.2.2.1,
 ct2 47 0 en47 vR vR (fun x y=> .s (.O (.R (x.1+y.1) (x.2+y.2+2)))) (fun x y=> [x.2≤10000,y.2≤10000]) fun _ _ p _ _ _ h1 h2=>add_r h1 h2 p.1 p.2.1,
 ct2 48 0 en48 vR vR (fun x y=> .s (.O (.R (x.1-y.1) (x.2+y.2+2)))) (fun x y=> [x.2≤10000,y.2≤10000]) fun _ _ p _ _ _ h1 h2=>sub_r h1 h2 p.1 p.2.1,
 ct2 17 0 en17 vR vIn (fun x y=> .s (.O (.R (x.1^y) 600))) (fun x y=> [x.2≤20,y≤24]) fun _ _ p _ _ _ h1 h2=>rPow_t (IsR.weak h1 p.1) h2 p.2.1]++ctb37
theorem rLevel_t {w:World} {v0 v1 v2:Value} {a r:Rat} {n:Nat} (h0:(isR a 5) w v0) (h1:(isR r 5) w v1) (h2:(isE (.int .i64 (n:Int))) w v2) (hn:1≤n) (hn2:n≤20) (hr:0≤r):Calls Tryz.prog 20 #[v0,v1,v2] w (Ret w fun v w'=>(isR (lvV a r n) 700) w' v):=by
 exact fx ctb38 Tryz.func20 (hnX [(4,[(0,0,oS (.O (.R 1 5)))]),(7,[(2,0,oS (.O (.R (1/(1+r)^n) 600)))])]) [(0, .O (.R a 5)),(1, .O (.R r 5)),(2,eI (n:Int))] (.s (.O (.R (lvV a r n) 700))) ⟨h0,h1,h2,trivial⟩ (cnd (decide ((((Dx.len (Int.natAbs (r.num)):Nat):Int):Int)=0)) ((-9223372036854775807≤(n:Int)∧(n:Int)≤9223372036854775807)∧(1≤(1:Int)∧(1:Int)≤9223372036854775807)∧5≤10000∧5≤10000∧(((((n:Int):Int):Rat)/(((1:Int):Int):Rat))≠0)∧tK (.O (.R (a/((((n:Int):Int):Rat)/(((1:Int):Int):Rat))) (5+5+1))) (.O (.R (lvV a r n) 700))) ((-9223372036854775807≤(1:Int)∧(1:Int)≤9223372036854775807)∧(1≤(1:Int)∧(1:Int)≤9223372036854775807)∧tK (.O (.R ((((1:Int):Int):Rat)/(((1:Int):Int):Rat)) 5)) (.O (.R 1 5))∧5≤10000∧5≤10000∧5≤10000∧(5+5+2)≤10000∧((1+r)≠0)∧(5+(5+5+2)+1)≤20∧n≤24∧tK (.O (.R ((1/(1+r))^n) 600)) (.O (.R (1/(1+r)^n) 600))∧5≤10000∧600≤10000∧5≤10000∧5≤10000∧(5+5+1)≤10000∧(5+600+2)≤10000∧((1-(1/(1+r)^n))≠0)∧tK (.O (.R ((a*r)/(1-(1/(1+r)^n))) ((5+5+1)+(5+600+2)+1))) (.O (.R (lvV a r n) 700)))) ((Classical.em (r=0)).elim (fun h0r=>cnd_t ((rnum_b r).trans (decide_eq_true h0r)) ⟨(by omega),(by decide),(by omega),(by omega),nat_ne hn,(fun _ _ _ _ _ h=>by first|exact isR_re h (lvV_0 h0r) (by omega)|exact isR_re h (lvV_1 h0r) (by omega))⟩) (fun h0r=>cnd_f ((rnum_b r).trans (decide_eq_false h0r)) ⟨(by decide),(by decide),(fun _ _ _ _ _ h=>isR_re h one_r (by omega)),(by omega),(by omega),(by omega),(by omega),one_ne hr,(by omega),(by omega),(fun _ _ _ _ _ h=>isR_re h (rpow_inv (one_ne hr) n) (by omega)),(by omega),(by omega),(by omega),(by omega),(by omega),(by omega),lv_ne hr h0r hn,(fun _ _ _ _ _ h=>by first|exact isR_re h (lvV_0 h0r) (by omega)|exact isR_re h (lvV_1 h0r) (by omega))⟩))
noncomputable abbrev rrPoly_t:=rX ctb38 Tryz.f26
noncomputable abbrev drPoly_t (x:Rat) (l:List Rat):=dX ctb38 Tryz.f26 (.s (.O (.R (polQ x l) 1200)))
noncomputable def hrPoly_t (x:Rat) (l:List Rat):Nat→Hint K:=hnX [(1,[(0,0,oS (.O (.R (polQ x (l.take 0)) (90*0+5))))]),(2,[(0,0,oS (.O (.R (x^0) (6*0+5))))])]
noncomputable def irPoly_t_0 (x:Rat) (l:List Rat) (i:Nat):Sx K:=⟨[(1, .M 33 3 (l.map rK5) 0),(7,eI (i:Int))],[⟨4,33, .X⟩,⟨2,33, .O (.R x 5)⟩,⟨5,33, .O (.R (polQ x (l.take i)) (90*i+5))⟩,⟨6,33, .O (.R (x^i) (6*i+5))⟩]⟩
noncomputable def hrPoly_t_0_0 (x:Rat) (l:List Rat) (i:Nat):Nat→Hint K:=hnX [(4,[(2,0,oS (eI ((l.length:Nat):Int))),(3,0,oS (eB true))]),(5,[(1,0,oS (eI ((i+1:Nat):Int)))]),(6,[(2,0,oS (.B 3 (.R (l.getD i 0) 5)))]),(7,[(2,0,oS (.O (.R (polQ x (l.take (i+1))) (90*(i+1)+5))))]),(8,[(2,0,oS (.O (.R (x^(i+1)) (6*(i+1)+5))))])]
noncomputable def hrPoly_t_0_1 (x:Rat) (l:List Rat) (i:Nat):Nat→Hint K:=hnX [(4,[(2,0,oS (eI ((l.length:Nat):Int))),(3,0,oS (eB false))])]
theorem rPoly_t {w:World} {v0 v1:Value} {x:Rat} {l:List Rat} (h0:(isR x 5) w v0) (h1:(f0 w (.s (.M 33 3 (l.map rK5) 0))).p w v1) (hl:l.length≤12):Calls Tryz.prog 26 #[v0,v1] w (Ret w fun v w'=>(isR (polQ x l) 1200) w' v):=by
 exact fx ctb38 Tryz.func26 (hrPoly_t x l) [(0, .O (.R x 5)),(1, .M 33 3 (l.map rK5) 0)] (.s (.O (.R (polQ x l) 1200))) ⟨h0,h1,trivial⟩ ((-9223372036854775807≤(0:Int)∧(0:Int)≤9223372036854775807)∧(1≤(1:Int)∧(1:Int)≤9223372036854775807)∧tK (.O (.R ((((0:Int):Int):Rat)/(((1:Int):Int):Rat)) 5)) (.O (.R (polQ x (l.take 0)) (90*0+5)))∧(-9223372036854775807≤(1:Int)∧(1:Int)≤9223372036854775807)∧(1≤(1:Int)∧(1:Int)≤9223372036854775807)∧tK (.O (.R ((((1:Int):Int):Rat)/(((1:Int):Int):Rat)) 5)) (.O (.R (x^0) (6*0+5)))∧drPoly_t x l [1,1,0,1] [(hrPoly_t x l)] [] (rlX (rrPoly_t (hrPoly_t x l)) [3,2,1] (ent Tryz.prog Tryz.f26 (κ:=K) [(0, .O (.R x 5)),(1, .M 33 3 (l.map rK5) 0)]))) ⟨(by decide),(by decide),(fun _ _ _ _ _ h=>isR_re h nil_r (by omega)),(by decide),(by decide),(fun _ _ _ _ _ h=>isR_re h (one_r.trans (rpow_zero x).symm) (by omega)),(lpI (fun h S' J=>drPoly_t x l [1,1,0,1,0,2] [(hrPoly_t x l),h] [J] S') (fun i:Nat=>i≤l.length) (fun i=>l.length-i) (irPoly_t_0 x l) (0) (rlX (rrPoly_t (hrPoly_t x l)) [3,2,1] (ent Tryz.prog Tryz.f26 (κ:=K) [(0, .O (.R x 5)),(1, .M 33 3 (l.map rK5) 0)])) (Nat.zero_le _) (fun i hC1 J1 hJ1=>(by
  rcases Nat.lt_or_ge i l.length with h8|h8
  ·exact ⟨hrPoly_t_0_0 x l i,vcP (tI (((l.map rK5).length:Nat):Int) ((l.length:Nat):Int)∧decide (((i:Int):Int)<((l.length:Nat):Int))=true∧i<(l.map rK5).length∧tBo 3 ((l.map rK5).getD i .B0) (.R (l.getD i 0) 5)∧5≤10000∧(6*i+5)≤10000∧(90*i+5)≤10000∧(5+(6*i+5)+1)≤10000∧tK (.O (.R (polQ x (l.take i)+(l.getD i 0*(x^i))) ((90*i+5)+(5+(6*i+5)+1)+2))) (.O (.R (polQ x (l.take (i+1))) (90*(i+1)+5)))∧(6*i+5)≤10000∧5≤10000∧tK (.O (.R ((x^i)*x) ((6*i+5)+5+1))) (.O (.R (x^(i+1)) (6*(i+1)+5)))∧wp ((i:Int)+1)∧tI ((i:Int)+1) ((i+1:Nat):Int)∧J1 (rlX (rrPoly_t (hrPoly_t_0_0 x l i)) [5,8,7,6,4] (irPoly_t_0 x l i))) ⟨⟨rfl,by simp⟩,decide_eq_true (by omega),(by rw [List.length_map];exact h8),⟨rfl,rK5_get h8⟩,(by omega),(by omega),(by omega),(by omega),(fun _ _ _ _ _ h=>isR_re h (pol_take x h8).symm (by omega)),(by omega),(by omega),(fun _ _ _ _ _ h=>isR_re h (Rat.pow_succ x i).symm (by omega)),wi (by omega),⟨rfl,by omega⟩,hJ1 (i+1) _ (h8) (by omega) ⟨by kernel_rfl,by kernel_rfl⟩⟩⟩
  ·exact ⟨hrPoly_t_0_1 x l i,vcP (tI (((l.map rK5).length:Nat):Int) ((l.length:Nat):Int)∧decide (((i:Int):Int)<((l.length:Nat):Int))=false∧tK (.O (.R (polQ x (l.take i)) (90*i+5))) (.O (.R (polQ x l) 1200))) ⟨⟨rfl,by simp⟩,decide_eq_false (by omega),(have hC1:i=l.length:=(by omega);(fun _ _ _ _ _ h=>isR_re h (by rw [hC1,List.take_length]) (by omega)))⟩⟩)))⟩
theorem rPoly_l {w:World} {v u:Value} {x:Rat} {k:Nat} {l:List K} (h0:isR x k w v) (h1:(k0 w (.M 33 3 l 0)).p w u) (hk:k≤5) (hl:l.length≤12) (e:l=(rsK l).map rK5):Calls Tryz.prog 26 #[v,u] w (Ret w fun v' w'=>isR (polQ x (rsK l)) 1200 w' v'):=by
 rw [e] at h1
 exact rPoly_t (IsR.weak h0 hk) h1 (by unfold rsK;rw [List.length_map];exact hl)
end Go.Proofs.YthebilnlljkfeaaGreatDoor.X
