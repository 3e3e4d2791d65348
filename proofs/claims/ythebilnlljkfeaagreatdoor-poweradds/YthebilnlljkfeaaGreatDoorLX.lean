/- Layers 4 to 6 and their references, by reckoning. Written by a script (tools/laws). -/
import Derived.Test.YthebilnlljkfeaaGreatDoorBXk
import Derived.Test.YthebilnlljkfeaaGreatDoorEn
import Derived.Test.YthebilnlljkfeaaGreatDoorBK
import Derived.Test.YthebilnlljkfeaaGreatDoorBQv
import Derived.Test.YthebilnlljkfeaaGreatDoorBRd
import Derived.Test.YthebilnlljkfeaaGreatDoorBRf
namespace Go.Proofs.YthebilnlljkfeaaGreatDoor.X
open Go.RowKit Go.Proofs.YthebilnlljkfeaaGreatDoor.Z
set_option linter.unusedVariables false
theorem of_w0 {w:World} {v0 v1:Value} {n k:Nat} (h0:(isN n k) w v0) (h1:(isE (.bool false)) w v1):Calls Tryz.prog 59 #[v0,v1] w (Ret w fun v w'=>(isW (signed n false) k) w' v):=by
 exact fx [] Tryz.func59 (fun _=> []) [(0, .O (.N n k)),(1,eB false)] (.s (.O (.W (signed n false) k))) ⟨h0,h1,trivial⟩ ((false=true→n≠0)∧tK (.O (.W (signed n false) k)) (.O (.W (signed n false) k))) ⟨(fun h=>by cases h),(fun _ _ _ _ _ h=>h)⟩
noncomputable def ctb1:List (Ct dk):= [
 ct1 34 0 en34 vN (fun x=> .s (eB (x.1==0))) (fun x=> []) fun _ p _ _ h1=>zero_n h1]
theorem of_w1 {w:World} {v0 v1:Value} {n k:Nat} (h0:(isN n k) w v0) (h1:(isE (.bool true)) w v1) (hn:n=0):Calls Tryz.prog 59 #[v0,v1] w (Ret w fun v w'=>(isW (signed n false) k) w' v):=by
 exact fx ctb1 Tryz.func59 (hnX [(1,[(5,0,oS (eB false))])]) [(0, .O (.N n k)),(1,eB true)] (.s (.O (.W (signed n false) k))) ⟨h0,h1,trivial⟩ ((!(n==0))=false∧(false=true→n≠0)∧tK (.O (.W (signed n false) k)) (.O (.W (signed n false) k))) ⟨(by simp [hn]),(fun h=>by cases h),(fun _ _ _ _ _ h=>h)⟩
theorem of_w2 {w:World} {v0 v1:Value} {n k:Nat} (h0:(isN n k) w v0) (h1:(isE (.bool true)) w v1) (hn:n≠0):Calls Tryz.prog 59 #[v0,v1] w (Ret w fun v w'=>(isW (signed n true) k) w' v):=by
 exact fx ctb1 Tryz.func59 (hnX [(1,[(5,0,oS (eB true))])]) [(0, .O (.N n k)),(1,eB true)] (.s (.O (.W (signed n true) k))) ⟨h0,h1,trivial⟩ ((!(n==0))=true∧(true=true→n≠0)∧tK (.O (.W (signed n true) k)) (.O (.W (signed n true) k))) ⟨(by simp [hn]),(fun _=>hn),(fun _ _ _ _ _ h=>h)⟩
theorem of_w {w:World} {v:Value} {n k:Nat} {b:Bool} (h:IsN w v n k):Calls Tryz.prog 59 #[v, .bool b] w (Ret w fun v' w'=>IsW w' v' (signed n b) k):=by
 cases b with
 |false=>exact of_w0 h rfl
 |true=>
  by_cases hn:n=0
  ·have:=of_w1 h rfl hn
   subst hn
   exact this
  ·exact of_w2 h rfl hn
theorem abs_w {w:World} {v0:Value} {z:Int} {k:Nat} (h0:(isW z k) w v0):Calls Tryz.prog 12 #[v0] w (Ret w fun v w'=>(isN (Int.natAbs z) k) w' v):=by
 exact fx ctb1 Tryz.func12 (fun _=> []) [(0, .O (.W z k))] (.s (.O (.N (Int.natAbs z) k))) ⟨h0,trivial⟩ (tK (.O (.N (Int.natAbs z) k)) (.O (.N (Int.natAbs z) k))) (fun _ _ _ _ _ h=>h)
theorem sign_w {w:World} {v0:Value} {z:Int} {k:Nat} (h0:(isW z k) w v0):Calls Tryz.prog 36 #[v0] w (Ret w fun v w'=>(isE (.int .i64 (Int.sign z))) w' v):=by
 exact fx ctb1 Tryz.func36 (fun _=> []) [(0, .O (.W z k))] (.s (eI (Int.sign z))) ⟨h0,trivial⟩ (cnd (Int.natAbs z==0) (tI 0 (Int.sign z)) (cnd (decide (z<0)) (tI (-1) (Int.sign z)) (tI 1 (Int.sign z)))) ((Classical.em (z=0)).elim (fun h1=>cnd_t (by simp [h1]) ⟨rfl,(by rw [show z=0 by omega];rfl)⟩) (fun h1=>cnd_f (by simp [h1]) ((Classical.em (z<0)).elim (fun h2=>cnd_t (decide_eq_true h2) ⟨rfl,(by rw [sign_lt h2])⟩) (fun h2=>cnd_f (decide_eq_false h2) ⟨rfl,(by rw [sign_gt (by omega)])⟩))))
noncomputable def ctb2:List (Ct dk):= [
 ct2 59 0 en59 vN vB (fun x y=> .s (.O (.W (signed x.1 y) x.2))) (fun x y=> []) fun _ _ p _ _ _ h1 h2=>by cases h2;exact of_w h1]++ctb1
theorem neg_w {w:World} {v0:Value} {z:Int} {k:Nat} (h0:(isW z k) w v0):Calls Tryz.prog 58 #[v0] w (Ret w fun v w'=>(isW (-z) k) w' v):=by
 exact fx ctb2 Tryz.func58 (fun _=> []) [(0, .O (.W z k))] (.s (.O (.W (-z) k))) ⟨h0,trivial⟩ (tK (.O (.W (signed (Int.natAbs z) (!(decide (z<0)))) k)) (.O (.W (-z) k))) (fun _ _ _ _ _ h=>neg_dec z▸h)
noncomputable def ctb3:List (Ct dk):= [
 ct1 35 0 en35 vS1 (fun x=> .s (.O (.N x 1))) (fun x=> []) fun _ p _ _ h1=>of_one h1,
 ct1 35 1 en35 vS (fun x=> .s (.O (.N (Mx.val x) 4))) (fun x=> [x.length≤4]) fun _ p _ _ h1=>of_n 4 h1 p.1 (by omega)]++ctb2
theorem from_w1 {w:World} {v0:Value} {n:Int} (h0:(isE (.int .i64 n)) w v0) (hn1: -9223372036854775808≤n) (hn:n<0):Calls Tryz.prog 29 #[v0] w (Ret w fun v w'=>(isW n 1) w' v):=by
 have hB:n.natAbs<Mx.B:=by rw [Mx.B_eq];omega
 exact fx ctb3 Tryz.func29 (hnX [(1,[(1,0,oS (eB true))]),(2,[(1,0,oS (.E (.int .u64 (18446744073709551616+n)))),(2,0,oS (.E (.int .u64 ((n.natAbs:Nat):Int))))])]) [(0,eI n)] (.s (.O (.W n 1))) ⟨h0,trivial⟩ (decide ((n:Int)<0)=true∧tU (IntKind.u64.wrap n) (18446744073709551616+n)∧tU (IntKind.u64.wrap (-(18446744073709551616+n))) ((n.natAbs:Nat):Int)∧n.natAbs<Mx.B∧tK (.O (.W (signed n.natAbs true) 1)) (.O (.W n 1))) ⟨decide_eq_true hn,⟨rfl,by rw [u64_wrap];omega⟩,⟨rfl,by rw [u64_wrap];omega⟩,hB,(fun _ _ _ _ _ h=>from_s1 hn▸h)⟩
theorem from_w2 {w:World} {v0:Value} {n:Int} (h0:(isE (.int .i64 n)) w v0) (hn1:n≤9223372036854775807) (hn: ¬n<0):Calls Tryz.prog 29 #[v0] w (Ret w fun v w'=>(isW n 1) w' v):=by
 have hB:n.natAbs<Mx.B:=by rw [Mx.B_eq];omega
 exact fx ctb3 Tryz.func29 (hnX [(1,[(1,0,oS (eB false))]),(3,[(1,0,oS (.E (.int .u64 ((n.natAbs:Nat):Int))))])]) [(0,eI n)] (.s (.O (.W n 1))) ⟨h0,trivial⟩ (decide ((n:Int)<0)=false∧tU (IntKind.u64.wrap n) ((n.natAbs:Nat):Int)∧n.natAbs<Mx.B∧tK (.O (.W (signed n.natAbs false) 1)) (.O (.W n 1))) ⟨decide_eq_false hn,⟨rfl,by rw [u64_wrap];omega⟩,hB,(fun _ _ _ _ _ h=>from_s2 hn▸h)⟩
theorem from_w (w:World) (n:Int) (h1: -9223372036854775808≤n) (h2:n≤9223372036854775807):Calls Tryz.prog 29 #[.int .i64 n] w (Ret w fun v' w'=>IsW w' v' n 1):=by
 by_cases hn:n<0
 ·exact from_w1 rfl h1 hn
 ·exact from_w2 rfl h2 hn
noncomputable def ctb4:List (Ct dk):= [
 ct2 37 0 en37 vN vN (fun x y=> .s (eI (Mx.cmp x.1 y.1))) (fun x y=> [x.2≤4294967296]) fun _ _ p _ _ _ h1 h2=>cmp_n h1 h2 p.1,
 ct2 66 0 en66 vI vI (fun x y=> .s (eI (Int.sign (x-y)))) (fun x y=> []) fun _ _ p _ _ _ h1 h2=>by cases h1;cases h2;exact compare_k _ _ _,
 ct1 36 0 en36 vW (fun x=> .s (eI (Int.sign x.1))) (fun x=> []) fun _ p _ _ h1=>sign_w h1]++ctb3
theorem cmp_w {w:World} {v0 v1:Value} {x y:Int} {k j:Nat} (h0:(isW x k) w v0) (h1:(isW y j) w v1) (hk:k≤4294967296) (hj:j≤4294967296):Calls Tryz.prog 56 #[v0,v1] w (Ret w fun v w'=>(isE (.int .i64 (Int.sign (x-y)))) w' v):=by
 exact fx ctb4 Tryz.func56 (fun _=> []) [(0, .O (.W x k)),(1, .O (.W y j))] (.s (eI (Int.sign (x-y)))) ⟨h0,h1,trivial⟩ (cnd (!decide ((Int.sign ((Int.sign x) -(Int.sign y)):Int)=0)) (tI (Int.sign ((Int.sign x) -(Int.sign y))) (Int.sign (x-y))) (cnd (decide (x<0)) (j≤4294967296∧tI (Mx.cmp (Int.natAbs y) (Int.natAbs x)) (Int.sign (x-y))) (k≤4294967296∧tI (Mx.cmp (Int.natAbs x) (Int.natAbs y)) (Int.sign (x-y))))) ((Classical.em ((Int.sign x-Int.sign y).sign≠0)).elim (fun h1=>cnd_t (by simpa using h1) ⟨rfl,(by rw [cmpW1 h1])⟩) (fun h1=>cnd_f (by simpa using h1) ((Classical.em (x<0)).elim (fun h2=>cnd_t (decide_eq_true h2) ⟨(by omega),⟨rfl,(by rw [cmpW2 h1 h2])⟩⟩) (fun h2=>cnd_f (decide_eq_false h2) ⟨(by omega),⟨rfl,(by rw [cmpW3 h1 h2])⟩⟩))))
noncomputable def ctb5:List (Ct dk):= [
 ct2 83 0 en83 vN vN (fun x y=> .s (.O (.N (x.1+y.1) (max x.2 y.2+1)))) (fun x y=> [x.2≤4294967296,y.2≤4294967296]) fun _ _ p _ _ _ h1 h2=>add_n h1 h2 p.1 p.2.1]++ctb4
theorem add_w1 {w:World} {v0 v1:Value} {x y:Int} {k j:Nat} (h0:(isW x k) w v0) (h1:(isW y j) w v1) (hk:k≤4294967296) (hj:j≤4294967296) (he:decide (x<0)=decide (y<0)):Calls Tryz.prog 52 #[v0,v1] w (Ret w fun v w'=>(isW (x+y) (max k j+1)) w' v):=by
 exact fx ctb5 Tryz.func52 (hnX [(1,[(4,0,oS (eB true))])]) [(0, .O (.W x k)),(1, .O (.W y j))] (.s (.O (.W (x+y) (max k j+1)))) ⟨h0,h1,trivial⟩ ((decide (x<0)==decide (y<0))=true∧k≤4294967296∧j≤4294967296∧tK (.O (.W (signed (Int.natAbs x+Int.natAbs y) (decide (x<0))) (max k j+1))) (.O (.W (x+y) (max k j+1)))) ⟨(by simp [he]),(by omega),(by omega),(fun _ _ _ _ _ h=>add_e1 he▸h)⟩
noncomputable def ctb6:List (Ct dk):= [
 ct2 84 0 en84 vN vN (fun x y=> .t [.O (.N (x.1-y.1) x.2),eB true]) (fun x y=> [x.2≤4294967296,y.1≤x.1]) fun _ _ p _ _ _ h1 h2=>sub_t h1 h2 p.1 p.2.1,
 ct2 84 1 en84 vN vN (fun x y=> .t [.O (.N 0 0),eB false]) (fun x y=> [x.2≤4294967296,x.1<y.1]) fun _ _ p _ _ _ h1 h2=>subl_t h1 h2 p.1 p.2.1]++ctb5
theorem add_w2 {w:World} {v0 v1:Value} {x y:Int} {k j:Nat} (h0:(isW x k) w v0) (h1:(isW y j) w v1) (hk:k≤4294967296) (hj:j≤4294967296) (he:decide (x<0)≠decide (y<0)) (hl:y.natAbs≤x.natAbs):Calls Tryz.prog 52 #[v0,v1] w (Ret w fun v w'=>(isW (x+y) (max k j+1)) w' v):=by
 exact fx ctb6 Tryz.func52 (hnX [(1,[(4,0,oS (eB false))])]) [(0, .O (.W x k)),(1, .O (.W y j))] (.s (.O (.W (x+y) (max k j+1)))) ⟨h0,h1,trivial⟩ ((decide (x<0)==decide (y<0))=false∧k≤4294967296∧Int.natAbs y≤Int.natAbs x∧tK (.O (.W (signed ((Int.natAbs x) -(Int.natAbs y)) (decide (x<0))) k)) (.O (.W (x+y) (max k j+1)))) ⟨(by simpa using he),(by omega),(by omega),(fun _ _ _ _ _ h=>IsW.weak (add_e2 he hl▸h) (by omega))⟩
theorem add_w3 {w:World} {v0 v1:Value} {x y:Int} {k j:Nat} (h0:(isW x k) w v0) (h1:(isW y j) w v1) (hk:k≤4294967296) (hj:j≤4294967296) (he:decide (x<0)≠decide (y<0)) (hl:x.natAbs<y.natAbs):Calls Tryz.prog 52 #[v0,v1] w (Ret w fun v w'=>(isW (x+y) (max k j+1)) w' v):=by
 exact fx ctb6 Tryz.func52 (hnX [(1,[(4,0,oS (eB false))]),(3,[(4,1,none)])]) [(0, .O (.W x k)),(1, .O (.W y j))] (.s (.O (.W (x+y) (max k j+1)))) ⟨h0,h1,trivial⟩ ((decide (x<0)==decide (y<0))=false∧k≤4294967296∧Int.natAbs x<Int.natAbs y∧j≤4294967296∧Int.natAbs x≤Int.natAbs y∧tK (.O (.W (signed ((Int.natAbs y) -(Int.natAbs x)) (decide (y<0))) j)) (.O (.W (x+y) (max k j+1)))) ⟨(by simpa using he),(by omega),(by omega),(by omega),(by omega),(fun _ _ _ _ _ h=>IsW.weak (add_e3 he hl▸h) (by omega))⟩
theorem add_w {w:World} {va vb:Value} {x y:Int} {k j:Nat} (hx:IsW w va x k) (hy:IsW w vb y j) (hk:k≤4294967296) (hj:j≤4294967296):Calls Tryz.prog 52 #[va,vb] w (Ret w fun v' w'=>IsW w' v' (x+y) (max k j+1)):=by
 by_cases he:decide (x<0)=decide (y<0)
 ·exact add_w1 hx hy hk hj he
 ·by_cases hl:y.natAbs≤x.natAbs
  ·exact add_w2 hx hy hk hj he hl
  ·exact add_w3 hx hy hk hj he (by omega)
noncomputable def ctb7:List (Ct dk):= [
 ct2 54 0 en54 vN vN (fun x y=> .s (.O (.N (x.1*y.1) (x.2+y.2)))) (fun x y=> [x.2≤4294967296,y.2≤4294967296]) fun _ _ p _ _ _ h1 h2=>mul_n h1 h2 p.1 p.2.1]++ctb6
theorem mul_w {w:World} {v0 v1:Value} {x y:Int} {k j:Nat} (h0:(isW x k) w v0) (h1:(isW y j) w v1) (hk:k≤4294967296) (hj:j≤4294967296):Calls Tryz.prog 55 #[v0,v1] w (Ret w fun v w'=>(isW (x*y) (k+j)) w' v):=by
 exact fx ctb7 Tryz.func55 (fun _=> []) [(0, .O (.W x k)),(1, .O (.W y j))] (.s (.O (.W (x*y) (k+j)))) ⟨h0,h1,trivial⟩ (k≤4294967296∧j≤4294967296∧tK (.O (.W (signed (Int.natAbs x*Int.natAbs y) (!(decide (x<0)==decide (y<0)))) (k+j))) (.O (.W (x*y) (k+j)))) ⟨(by omega),(by omega),(fun _ _ _ _ _ h=>mul_e x y▸h)⟩
noncomputable def ctb8:List (Ct dk):= [
 ct1 39 0 en39 vN (fun x=> .s (.E (.string (str (Tx.text x.1))))) (fun x=> [x.2≤536870912]) fun _ p _ _ h1=>print_any _ _ _ _ h1 p.1]++ctb7
theorem print_w {w:World} {v0:Value} {z:Int} {k:Nat} (h0:(isW z k) w v0) (hk:k≤536870912):Calls Tryz.prog 38 #[v0] w (Ret w fun v w'=>(isT (ztext z)) w' v):=by
 have hl:=text_lenW h0
 exact fx ctb8 Tryz.func38 (fun _=> []) [(0, .O (.W z k))] (.s (.E (.string (str (ztext z))))) ⟨h0,trivial⟩ (cnd (decide (z<0)) (k≤536870912∧([45]:List UInt8).length+(Tx.text (Int.natAbs z):List UInt8).length≤9223372036854775807∧tK (.E (.string (str ([45]++Tx.text (Int.natAbs z))))) (.E (.string (str (ztext z))))) (k≤536870912∧tK (.E (.string (str (Tx.text (Int.natAbs z))))) (.E (.string (str (ztext z)))))) ((Classical.em (z<0)).elim (fun h1=>cnd_t (decide_eq_true h1) ⟨(by omega),(by simp;omega),(fun _ _ _ _ _ h=>h.trans (by rw [ztext,if_pos h1];rfl))⟩) (fun h1=>cnd_f (decide_eq_false h1) ⟨(by omega),(fun _ _ _ _ _ h=>h.trans (by rw [ztext,if_neg h1]))⟩))
theorem ofV0 {w:World} {v0 v1:Value} {n k:Nat} (h0:(isD n k) w v0) (h1:(isE (.bool false)) w v1):Calls Tryz.prog 75 #[v0,v1] w (Ret w fun v w'=>(isV (signed n false) k) w' v):=by
 exact fx ctb8 Tryz.func75 (fun _=> []) [(0, .O (.D n k)),(1,eB false)] (.s (.O (.V (signed n false) k))) ⟨h0,h1,trivial⟩ ((false=true→n≠0)∧tK (.O (.V (signed n false) k)) (.O (.V (signed n false) k))) ⟨(fun h=>by cases h),(fun _ _ _ _ _ h=>h)⟩
theorem ofV1 {w:World} {v0 v1:Value} {n k:Nat} (h0:(isD n k) w v0) (h1:(isE (.bool true)) w v1) (hn:n=0):Calls Tryz.prog 75 #[v0,v1] w (Ret w fun v w'=>(isV (signed n false) k) w' v):=by
 exact fx ctb8 Tryz.func75 (hnX [(1,[(5,0,oS (eB false))])]) [(0, .O (.D n k)),(1,eB true)] (.s (.O (.V (signed n false) k))) ⟨h0,h1,trivial⟩ (decide ((0:Int)<((Dx.len n:Nat):Int))=false∧(false=true→n≠0)∧tK (.O (.V (signed n false) k)) (.O (.V (signed n false) k))) ⟨decide_eq_false (by rw [hn];decide),(fun h=>by cases h),(fun _ _ _ _ _ h=>h)⟩
theorem ofV2 {w:World} {v0 v1:Value} {n k:Nat} (h0:(isD n k) w v0) (h1:(isE (.bool true)) w v1) (hn:n≠0):Calls Tryz.prog 75 #[v0,v1] w (Ret w fun v w'=>(isV (signed n true) k) w' v):=by
 exact fx ctb8 Tryz.func75 (hnX [(1,[(5,0,oS (eB true))])]) [(0, .O (.D n k)),(1,eB true)] (.s (.O (.V (signed n true) k))) ⟨h0,h1,trivial⟩ (decide ((0:Int)<((Dx.len n:Nat):Int))=true∧(true=true→n≠0)∧tK (.O (.V (signed n true) k)) (.O (.V (signed n true) k))) ⟨decide_eq_true (by have:=dlen_nz hn;omega),(fun _=>hn),(fun _ _ _ _ _ h=>h)⟩
theorem ofV_any {w:World} {v:Value} {n k:Nat} {b:Bool} (h:IsD w v n k):Calls Tryz.prog 75 #[v, .bool b] w (Ret w fun v' w'=>IsV w' v' (signed n b) k):=by
 cases b with
 |false=>exact ofV0 h rfl
 |true=>
  by_cases hn:n=0
  ·have:=ofV1 h rfl hn
   subst hn
   exact this
  ·exact ofV2 h rfl hn
noncomputable def ctb9:List (Ct dk):= [
 ct2 75 0 en75 vD vB (fun x y=> .s (.O (.V (signed x.1 y) x.2))) (fun x y=> []) fun _ _ p _ _ _ h1 h2=>by cases h2;exact ofV_any h1]++ctb8
theorem negV {w:World} {v0:Value} {z:Int} {k:Nat} (h0:(isV z k) w v0):Calls Tryz.prog 88 #[v0] w (Ret w fun v w'=>(isV (-z) k) w' v):=by
 exact fx ctb9 Tryz.func88 (fun _=> []) [(0, .O (.V z k))] (.s (.O (.V (-z) k))) ⟨h0,trivial⟩ (tK (.O (.V (signed (Int.natAbs z) (!(decide (z<0)))) k)) (.O (.V (-z) k))) (fun _ _ _ _ _ h=>neg_dec z▸h)
noncomputable def ctb10:List (Ct dk):= [
 ct1 87 0 en87 vIn (fun x=> .s (.O (.D x 5))) (fun x=> [x≤9223372036854775807]) fun _ p _ _ h1=>by cases h1;exact refSmall_any _ _ p.1,
 ct1 87 1 en87 vI (fun x=> .s (.O (.D (Int.natAbs x) 5))) (fun x=> [0≤x,x≤9223372036854775807]) fun _ p _ _ h1=>by cases h1;exact small_pos (by have:=p.1;omega) p.2.1]++ctb9
theorem fromV1 {w:World} {v0:Value} {n:Int} (h0:(isE (.int .i64 n)) w v0) (hn1: -9223372036854775807≤n) (hn:n<0):Calls Tryz.prog 60 #[v0] w (Ret w fun v w'=>(isV n 5) w' v):=by
 exact fx ctb10 Tryz.func60 (hnX [(1,[(1,0,oS (eB true))]),(2,[(1,0,oS (eI ((n.natAbs:Nat):Int)))])]) [(0,eI n)] (.s (.O (.V n 5))) ⟨h0,trivial⟩ (decide ((n:Int)<0)=true∧tI (IntKind.i64.wrap (-n)) ((n.natAbs:Nat):Int)∧n.natAbs≤9223372036854775807∧tK (.O (.V (signed n.natAbs true) 5)) (.O (.V n 5))) ⟨decide_eq_true hn,⟨rfl,by rw [show (n.natAbs:Int)= -n by omega];exact i64_in (by omega) (by omega)⟩,(by omega),(fun _ _ _ _ _ h=>from_s1 hn▸h)⟩
theorem fromV2 {w:World} {v0:Value} {n:Int} (h0:(isE (.int .i64 n)) w v0) (hn1:n≤9223372036854775807) (hn: ¬n<0):Calls Tryz.prog 60 #[v0] w (Ret w fun v w'=>(isV n 5) w' v):=by
 exact fx ctb10 Tryz.func60 (hnX [(1,[(1,0,oS (eB false))]),(4,[(1,1,none)])]) [(0,eI n)] (.s (.O (.V n 5))) ⟨h0,trivial⟩ (decide ((n:Int)<0)=false∧0≤n∧n≤9223372036854775807∧tK (.O (.V (signed (Int.natAbs n) false) 5)) (.O (.V n 5))) ⟨decide_eq_false hn,(by omega),(by omega),(fun _ _ _ _ _ h=>from_s2 hn▸h)⟩
theorem fromV (w:World) (n:Int) (h1: -9223372036854775807≤n) (h2:n≤9223372036854775807):Calls Tryz.prog 60 #[.int .i64 n] w (Ret w fun v' w'=>IsV w' v' n 5):=by
 by_cases hn:n<0
 ·exact fromV1 rfl h1 hn
 ·exact fromV2 rfl h2 hn
noncomputable def ctb11:List (Ct dk):= [
 ct2 100 0 en100 vD vD (fun x y=> .s (.O (.D (x.1+y.1) (max x.2 y.2+1)))) (fun x y=> [x.2≤4294967296,y.2≤4294967296]) fun _ _ p _ _ _ h1 h2=>refAdd_any _ _ _ _ _ _ _ p.1 p.2.1 h1 h2]++ctb10
theorem addV1 {w:World} {v0 v1:Value} {x y:Int} {k j:Nat} (h0:(isV x k) w v0) (h1:(isV y j) w v1) (hk:k≤4294967296) (hj:j≤4294967296) (he:decide (x<0)=decide (y<0)):Calls Tryz.prog 76 #[v0,v1] w (Ret w fun v w'=>(isV (x+y) (max k j+1)) w' v):=by
 exact fx ctb11 Tryz.func76 (hnX [(1,[(4,0,oS (eB true))])]) [(0, .O (.V x k)),(1, .O (.V y j))] (.s (.O (.V (x+y) (max k j+1)))) ⟨h0,h1,trivial⟩ ((decide (x<0)==decide (y<0))=true∧k≤4294967296∧j≤4294967296∧tK (.O (.V (signed (Int.natAbs x+Int.natAbs y) (decide (x<0))) (max k j+1))) (.O (.V (x+y) (max k j+1)))) ⟨(by simp [he]),(by omega),(by omega),(fun _ _ _ _ _ h=>add_e1 he▸h)⟩
noncomputable def ctb12:List (Ct dk):= [
 ct2 102 0 en102 vD vD (fun x y=> .s (.O (.D (x.1-y.1) x.2))) (fun x y=> [x.2≤4294967296,y.1≤x.1]) fun _ _ p _ _ _ h1 h2=>refSub_any _ _ _ _ _ _ _ p.1 h1 h2 p.2.1,
 ct2 101 0 en101 vD vD (fun x y=> .s (eI (Mx.cmp x.1 y.1))) (fun x y=> [x.2≤4294967296]) fun _ _ p _ _ _ h1 h2=>refCmp_any _ _ _ _ _ _ _ p.1 h1 h2]++ctb11
theorem addV2 {w:World} {v0 v1:Value} {x y:Int} {k j:Nat} (h0:(isV x k) w v0) (h1:(isV y j) w v1) (hk:k≤4294967296) (hj:j≤4294967296) (he:decide (x<0)≠decide (y<0)) (hl:y.natAbs≤x.natAbs):Calls Tryz.prog 76 #[v0,v1] w (Ret w fun v w'=>(isV (x+y) (max k j+1)) w' v):=by
 exact fx ctb12 Tryz.func76 (hnX [(1,[(4,0,oS (eB false))]),(5,[(1,0,oS (eB true))])]) [(0, .O (.V x k)),(1, .O (.V y j))] (.s (.O (.V (x+y) (max k j+1)))) ⟨h0,h1,trivial⟩ ((decide (x<0)==decide (y<0))=false∧k≤4294967296∧decide ((0:Int)≤Mx.cmp (Int.natAbs x) (Int.natAbs y))=true∧k≤4294967296∧Int.natAbs y≤Int.natAbs x∧tK (.O (.V (signed ((Int.natAbs x) -(Int.natAbs y)) (decide (x<0))) k)) (.O (.V (x+y) (max k j+1)))) ⟨(by simpa using he),(by omega),cmp_ge hl,(by omega),(by omega),(fun _ _ _ _ _ h=>IsV.weak (add_e2 he hl▸h) (by omega))⟩
theorem addV3 {w:World} {v0 v1:Value} {x y:Int} {k j:Nat} (h0:(isV x k) w v0) (h1:(isV y j) w v1) (hk:k≤4294967296) (hj:j≤4294967296) (he:decide (x<0)≠decide (y<0)) (hl:x.natAbs<y.natAbs):Calls Tryz.prog 76 #[v0,v1] w (Ret w fun v w'=>(isV (x+y) (max k j+1)) w' v):=by
 exact fx ctb12 Tryz.func76 (hnX [(1,[(4,0,oS (eB false))]),(5,[(1,0,oS (eB false))])]) [(0, .O (.V x k)),(1, .O (.V y j))] (.s (.O (.V (x+y) (max k j+1)))) ⟨h0,h1,trivial⟩ ((decide (x<0)==decide (y<0))=false∧k≤4294967296∧decide ((0:Int)≤Mx.cmp (Int.natAbs x) (Int.natAbs y))=false∧j≤4294967296∧Int.natAbs x≤Int.natAbs y∧tK (.O (.V (signed ((Int.natAbs y) -(Int.natAbs x)) (decide (y<0))) j)) (.O (.V (x+y) (max k j+1)))) ⟨(by simpa using he),(by omega),cmp_nge hl,(by omega),(by omega),(fun _ _ _ _ _ h=>IsV.weak (add_e3 he hl▸h) (by omega))⟩
theorem addV {w:World} {va vb:Value} {x y:Int} {k j:Nat} (hx:IsV w va x k) (hy:IsV w vb y j) (hk:k≤4294967296) (hj:j≤4294967296):Calls Tryz.prog 76 #[va,vb] w (Ret w fun v' w'=>IsV w' v' (x+y) (max k j+1)):=by
 by_cases he:decide (x<0)=decide (y<0)
 ·exact addV1 hx hy hk hj he
 ·by_cases hl:y.natAbs≤x.natAbs
  ·exact addV2 hx hy hk hj he hl
  ·exact addV3 hx hy hk hj he (by omega)
noncomputable def ctb13:List (Ct dk):= [
 ct2 72 0 en72 vD vD (fun x y=> .s (.O (.D (x.1*y.1) (x.2+y.2+1)))) (fun x y=> [x.2≤4294967296,y.2≤4294967296]) fun _ _ p _ _ _ h1 h2=>refMul_any _ _ _ _ _ _ _ p.1 p.2.1 h1 h2]++ctb12
theorem mulV {w:World} {v0 v1:Value} {x y:Int} {k j:Nat} (h0:(isV x k) w v0) (h1:(isV y j) w v1) (hk:k≤4294967296) (hj:j≤4294967296):Calls Tryz.prog 71 #[v0,v1] w (Ret w fun v w'=>(isV (x*y) (k+j+1)) w' v):=by
 exact fx ctb13 Tryz.func71 (fun _=> []) [(0, .O (.V x k)),(1, .O (.V y j))] (.s (.O (.V (x*y) (k+j+1)))) ⟨h0,h1,trivial⟩ (k≤4294967296∧j≤4294967296∧tK (.O (.V (signed (Int.natAbs x*Int.natAbs y) (!(decide (x<0)==decide (y<0)))) (k+j+1))) (.O (.V (x*y) (k+j+1)))) ⟨(by omega),(by omega),(fun _ _ _ _ _ h=>mul_e x y▸h)⟩
noncomputable def ctb14:List (Ct dk):= [
 ct1 41 0 en41 vD (fun x=> .s (.E (.string (str (Tx.text x.1))))) (fun x=> [x.2≤1000000]) fun _ p _ _ h1=>refPrint_any _ _ _ _ h1 p.1]++ctb13
theorem printV {w:World} {v0:Value} {z:Int} {k:Nat} (h0:(isV z k) w v0) (hk:k≤1000000):Calls Tryz.prog 40 #[v0] w (Ret w fun v w'=>(isT (ztext z)) w' v):=by
 have hl:=text_lenV h0
 exact fx ctb14 Tryz.func40 (fun _=> []) [(0, .O (.V z k))] (.s (.E (.string (str (ztext z))))) ⟨h0,trivial⟩ (k≤1000000∧cnd (decide (z<0)) (([45]:List UInt8).length+(Tx.text (Int.natAbs z):List UInt8).length≤9223372036854775807∧tK (.E (.string (str ([45]++Tx.text (Int.natAbs z))))) (.E (.string (str (ztext z))))) (tK (.E (.string (str (Tx.text (Int.natAbs z))))) (.E (.string (str (ztext z)))))) ⟨(by omega),(Classical.em (z<0)).elim (fun h1=>cnd_t (decide_eq_true h1) ⟨(by simp;omega),(fun _ _ _ _ _ h=>h.trans (by rw [ztext,if_pos h1];rfl))⟩) (fun h1=>cnd_f (decide_eq_false h1) (fun _ _ _ _ _ h=>h.trans (by rw [ztext,if_neg h1])))⟩
noncomputable def ctb15:List (Ct dk):= [
 ct2 79 0 en79 vN vN (fun x y=> .t [.O (.N (x.1/y.1) x.2), .O (.N (x.1%y.1) y.2),eI 0]) (fun x y=> [x.2≤1073741824,y.1≠0]) fun _ _ p _ _ _ h1 h2=>div_t h1 h2 p.1 p.2.1,
 ct2 79 1 en79 vN vN (fun x y=> .t [.O (.N 0 0), .O (.N 0 0),eI 8]) (fun x y=> [y.1=0]) fun _ _ p _ _ _ h1 h2=>div0_t h1 h2 p.1]++ctb14
theorem part_z {w:World} {v0 v1:Value} {n m k j:Nat} (h0:(isN n k) w v0) (h1:(isN m j) w v1) (hk:k≤1073741824) (hm:m≠0):Calls Tryz.prog 50 #[v0,v1] w (Ret w fun v w'=>(isN (n/m) k) w' v):=by
 exact fx ctb15 Tryz.func50 (fun _=> []) [(0, .O (.N n k)),(1, .O (.N m j))] (.s (.O (.N (n/m) k))) ⟨h0,h1,trivial⟩ (k≤1073741824∧(m≠0)∧tK (.O (.N (n/m) k)) (.O (.N (n/m) k))) ⟨(by omega),hm,(fun _ _ _ _ _ h=>h)⟩
noncomputable def ctb16:List (Ct dk):= [
 ct2 55 0 en55 vW vW (fun x y=> .s (.O (.W (x.1*y.1) (x.2+y.2)))) (fun x y=> [x.2≤4294967296,y.2≤4294967296]) fun _ _ p _ _ _ h1 h2=>mul_w h1 h2 p.1 p.2.1]++ctb15
theorem times_z {w:World} {v0 v1:Value} {z:Int} {n k j:Nat} (h0:(isW z k) w v0) (h1:(isN n j) w v1) (hk:k≤1073741824) (hj:j≤1073741824):Calls Tryz.prog 51 #[v0,v1] w (Ret w fun v w'=>(isW (z*(n:Nat)) (k+j)) w' v):=by
 exact fx ctb16 Tryz.func51 (fun _=> []) [(0, .O (.W z k)),(1, .O (.N n j))] (.s (.O (.W (z*(n:Nat)) (k+j)))) ⟨h0,h1,trivial⟩ (k≤4294967296∧j≤4294967296∧tK (.O (.W (z*signed n false) (k+j))) (.O (.W (z*(n:Nat)) (k+j)))) ⟨(by omega),(by omega),(fun _ _ _ _ _ h=>h)⟩
noncomputable def ctb17:List (Ct dk):= [
 ct1 12 0 en12 vW (fun x=> .s (.O (.N (Int.natAbs x.1) x.2))) (fun x=> []) fun _ p _ _ h1=>abs_w h1,
 ct2 49 0 en49 vN vN (fun x y=> .s (.O (.N (Nat.gcd x.1 y.1) (max x.2 y.2)))) (fun x y=> [max x.2 y.2≤1073741824]) fun _ _ p _ _ _ h1 h2=>gcd_n (IsN.weak h1 (Nat.le_max_left _ _)) (IsN.weak h2 (Nat.le_max_right _ _)) p.1,
 ct2 50 0 en50 vN vN (fun x y=> .s (.O (.N (x.1/y.1) x.2))) (fun x y=> [x.2≤1073741824,y.1≠0]) fun _ _ p _ _ _ h1 h2=>part_z h1 h2 p.1 p.2.1]++ctb16
theorem cancel_z {w:World} {v0 v1:Value} {z:Int} {n k j:Nat} (h0:(isW z k) w v0) (h1:(isN n j) w v1) (hk:k≤1073741824) (hj:j≤1073741824) (hn:n≠0):Calls Tryz.prog 53 #[v0,v1] w (Ret w fun v w'=>(f0 w (.t [.O (.W (z/(Nat.gcd (Int.natAbs z) n:Nat)) k), .O (.N (n/(Nat.gcd (Int.natAbs z) n)) j)])).p w' v):=by
 have hg:Nat.gcd (Int.natAbs z) n≠0:=Nat.ne_of_gt (Nat.gcd_pos_of_pos_right _ (by omega))
 exact fx ctb17 Tryz.func53 (fun _=> []) [(0, .O (.W z k)),(1, .O (.N n j))] (.t [.O (.W (z/(Nat.gcd (Int.natAbs z) n:Nat)) k), .O (.N (n/(Nat.gcd (Int.natAbs z) n)) j)]) ⟨h0,h1,trivial⟩ (max k j≤1073741824∧k≤1073741824∧((Nat.gcd (Int.natAbs z) n)≠0)∧j≤1073741824∧((Nat.gcd (Int.natAbs z) n)≠0)∧(tK (.O (.W (signed (Int.natAbs z/(Nat.gcd (Int.natAbs z) n)) (decide ((Int.sign z:Int)<0))) k)) (.O (.W (z/(Nat.gcd (Int.natAbs z) n:Nat)) k))∧tK (.O (.N (n/(Nat.gcd (Int.natAbs z) n)) j)) (.O (.N (n/(Nat.gcd (Int.natAbs z) n)) j))∧True)) ⟨(by omega),(by omega),hg,(by omega),hg,⟨(fun _ _ _ _ _ h=>signed_div (Nat.gcd_dvd_left _ _)▸h),(fun _ _ _ _ _ h=>h),trivial⟩⟩
theorem den_f0 {w:World} {v0:Value} {z:Int} {n k:Nat} (h0:(isF z n k) w v0) (hn:n=0):Calls Tryz.prog 13 #[v0] w (Ret w fun v w'=>(isN 1 1) w' v):=by
 exact fx ctb17 Tryz.func13 (hnX [(1,[(2,0,oS (eB true))])]) [(0, .O (.F z n k))] (.s (.O (.N 1 1))) ⟨h0,trivial⟩ ((n==0)=true∧1<Mx.B∧tK (.O (.N 1 1)) (.O (.N 1 1))) ⟨(by simp [hn]),small_lt (by decide),(fun _ _ _ _ _ h=>h)⟩
theorem den_f1 {w:World} {v0:Value} {z:Int} {n k:Nat} (h0:(isF z n k) w v0) (hn:n≠0):Calls Tryz.prog 13 #[v0] w (Ret w fun v w'=>(isN n k) w' v):=by
 exact fx ctb17 Tryz.func13 (hnX [(1,[(2,0,oS (eB false))])]) [(0, .O (.F z n k))] (.s (.O (.N n k))) ⟨h0,trivial⟩ ((n==0)=false∧tK (.O (.N n k)) (.O (.N n k))) ⟨(by simp [hn]),(fun _ _ _ _ _ h=>h)⟩
theorem den_q {w:World} {v:Value} {q:Rat} {k:Nat} (h:isQ q k w v):Calls Tryz.prog 13 #[v] w (Ret w fun v' w'=>isN q.den k w' v'):=by
 obtain ⟨hk,n,h1,h2⟩:=h
 by_cases hn:n=0
 ·refine (den_f0 h1 hn).mono fun _ _ r=>r.mono fun _ _ g=> ?_
  rcases h2 with e|⟨_,e⟩
  ·exact absurd (e.symm.trans hn) q.den_nz
  ·subst e
   exact g.weak hk
 ·refine (den_f1 h1 hn).mono fun _ _ r=>r.mono fun _ _ g=> ?_
  rcases h2 with e|⟨e,_⟩
  ·subst e;exact g
  ·exact absurd e hn
theorem num_q {w:World} {v0:Value} {q:Rat} {k:Nat} (h0:(isQ q k) w v0):Calls Tryz.prog 11 #[v0] w (Ret w fun v w'=>(isW q.num k) w' v):=by
 exact fx ctb17 Tryz.func11 (fun _=> []) [(0, .O (.Q q k))] (.s (.O (.W q.num k))) ⟨h0,trivial⟩ (tK (.O (.W q.num k)) (.O (.W q.num k))) (fun _ _ _ _ _ h=>h)
theorem sign_q {w:World} {v0:Value} {q:Rat} {k:Nat} (h0:(isQ q k) w v0):Calls Tryz.prog 14 #[v0] w (Ret w fun v w'=>(isE (.int .i64 (Int.sign q.num))) w' v):=by
 exact fx ctb17 Tryz.func14 (fun _=> []) [(0, .O (.Q q k))] (.s (eI (Int.sign q.num))) ⟨h0,trivial⟩ (tI (Int.sign q.num) (Int.sign q.num)) ⟨rfl,rfl⟩
noncomputable def ctb18:List (Ct dk):= [
 ct1 58 0 en58 vW (fun x=> .s (.O (.W (-x.1) x.2))) (fun x=> []) fun _ p _ _ h1=>neg_w h1]++ctb17
theorem neg_f {w:World} {v0:Value} {z:Int} {n k:Nat} (h0:(isF z n k) w v0):Calls Tryz.prog 27 #[v0] w (Ret w fun v w'=>(isF (-z) n k) w' v):=by
 exact fx ctb18 Tryz.func27 (hnX [(1,[(5,0,oS (.O (.F (-z) n k)))])]) [(0, .O (.F z n k))] (.s (.O (.F (-z) n k))) ⟨h0,trivial⟩ (tK (.O (.F (-z) n (max k k))) (.O (.F (-z) n k))∧tK (.O (.F (-z) n k)) (.O (.F (-z) n k))) ⟨(fun _ _ _ _ _ h=>(Nat.max_self (k))▸h),(fun _ _ _ _ _ h=>h)⟩
theorem neg_q {w:World} {v:Value} {q:Rat} {k:Nat} (h:isQ q k w v):Calls Tryz.prog 27 #[v] w (Ret w fun v' w'=>isQ (-q) k w' v'):=by
 obtain ⟨hk,n,h1,h2⟩:=h
 refine (neg_f h1).mono fun _ _ r=>r.mono fun _ _ g=>⟨hk,n,g, ?_⟩
 rcases h2 with e|⟨e,e2⟩
 ·exact .inl e
 ·exact .inr ⟨e,by rw [e2];rfl⟩
theorem from_q {w:World} {v0:Value} {z:Int} {k:Nat} (h0:(isW z k) w v0):Calls Tryz.prog 45 #[v0] w (Ret w fun v w'=>(isQ ((z:Int):Rat) (max k 1)) w' v):=by
 exact fx ctb18 Tryz.func45 (fun _=> []) [(0, .O (.W z k))] (.s (.O (.Q ((z:Int):Rat) (max k 1)))) ⟨h0,trivial⟩ (1<Mx.B∧tK (.O (.F z 1 (max k 1))) (.O (.Q ((z:Int):Rat) (max k 1)))) ⟨small_lt (by decide),(fun _ _ _ _ _ h=>IsF.q h (by omega) rfl rfl)⟩
noncomputable def ctb19:List (Ct dk):= [
 ct2 56 0 en56 vW vW (fun x y=> .s (eI (Int.sign (x.1-y.1)))) (fun x y=> [x.2≤4294967296,y.2≤4294967296]) fun _ _ p _ _ _ h1 h2=>cmp_w h1 h2 p.1 p.2.1,
 ct2 51 0 en51 vW vN (fun x y=> .s (.O (.W (x.1*(y.1:Nat)) (x.2+y.2)))) (fun x y=> [x.2≤1073741824,y.2≤1073741824]) fun _ _ p _ _ _ h1 h2=>times_z h1 h2 p.1 p.2.1,
 ct1 13 0 en13 vQ (fun x=> .s (.O (.N x.1.den x.2))) (fun x=> []) fun _ p _ _ h1=>den_q h1]++ctb18
theorem cmp_q {w:World} {v0 v1:Value} {x y:Rat} {k j:Nat} (h0:(isQ x k) w v0) (h1:(isQ y j) w v1) (hk:k≤268435456) (hj:j≤268435456):Calls Tryz.prog 24 #[v0,v1] w (Ret w fun v w'=>(isE (.int .i64 (cmpQ x y))) w' v):=by
 exact fx ctb19 Tryz.func24 (fun _=> []) [(0, .O (.Q x k)),(1, .O (.Q y j))] (.s (eI (cmpQ x y))) ⟨h0,h1,trivial⟩ (k≤1073741824∧j≤1073741824∧j≤1073741824∧k≤1073741824∧(k+j)≤4294967296∧(j+k)≤4294967296∧tI (Int.sign ((x.num*(y.den:Nat)) -(y.num*(x.den:Nat)))) (cmpQ x y)) ⟨(by omega),(by omega),(by omega),(by omega),(by omega),(by omega),⟨rfl,rfl⟩⟩
noncomputable def ctb20:List (Ct dk):= [
 ct2 52 0 en52 vW vW (fun x y=> .s (.O (.W (x.1+y.1) (max x.2 y.2+1)))) (fun x y=> [x.2≤4294967296,y.2≤4294967296]) fun _ _ p _ _ _ h1 h2=>add_w h1 h2 p.1 p.2.1,
 ct2 53 0 en53 vW vN (fun x y=> .t [.O (.W (x.1/(Nat.gcd (Int.natAbs x.1) y.1:Nat)) x.2), .O (.N (y.1/Nat.gcd (Int.natAbs x.1) y.1) y.2)]) (fun x y=> [x.2≤1073741824,y.2≤1073741824,y.1≠0]) fun _ _ p _ _ _ h1 h2=>cancel_z h1 h2 p.1 p.2.1 p.2.2.1]++ctb19
theorem add_q {w:World} {v0 v1:Value} {x y:Rat} {k j:Nat} (h0:(isQ x k) w v0) (h1:(isQ y j) w v1) (hk:k≤268435456) (hj:j≤268435456):Calls Tryz.prog 21 #[v0,v1] w (Ret w fun v w'=>(isQ (x+y) (k+j+1)) w' v):=by
 have hx1:=h0.num_len
 have hx2:=h0.den_len
 have hy1:=h1.num_len
 have hy2:=h1.den_len
 have hxd:=x.den_nz
 have hyd:=y.den_nz
 have hx0:=h0.1
 have hy0:=h1.1
 have hg:Nat.gcd x.den y.den≠0:=Nat.ne_of_gt (Nat.gcd_pos_of_pos_left _ x.den_pos)
 exact fx ctb20 Tryz.func21 (fun _=> []) [(0, .O (.Q x k)),(1, .O (.Q y j))] (.s (.O (.Q (x+y) (k+j+1)))) ⟨h0,h1,trivial⟩ (max k j≤1073741824∧k≤1073741824∧((Nat.gcd x.den y.den)≠0)∧j≤1073741824∧((Nat.gcd x.den y.den)≠0)∧k≤1073741824∧j≤1073741824∧j≤1073741824∧k≤1073741824∧(k+j)≤4294967296∧(j+k)≤4294967296∧(max (k+j) (j+k)+1)≤1073741824∧max k j≤1073741824∧((Nat.gcd x.den y.den)≠0)∧k≤4294967296∧j≤4294967296∧(k+j)≤4294967296∧max k j≤4294967296∧tK (.O (.F (((x.num*(y.den/(Nat.gcd x.den y.den):Nat))+(y.num*(x.den/(Nat.gcd x.den y.den):Nat)))/(Nat.gcd (Int.natAbs ((x.num*(y.den/(Nat.gcd x.den y.den):Nat))+(y.num*(x.den/(Nat.gcd x.den y.den):Nat)))) (Nat.gcd x.den y.den):Nat)) (((x.den/(Nat.gcd x.den y.den))*(y.den/(Nat.gcd x.den y.den)))*(Nat.gcd x.den y.den/Nat.gcd (Int.natAbs ((x.num*(y.den/(Nat.gcd x.den y.den):Nat))+(y.num*(x.den/(Nat.gcd x.den y.den):Nat)))) (Nat.gcd x.den y.den))) (max (max (k+j) (j+k)+1) ((k+j)+max k j)))) (.O (.Q (x+y) (k+j+1)))) ⟨(by omega),(by omega),hg,(by omega),hg,(by omega),(by omega),(by omega),(by omega),(by omega),(by omega),(by omega),(by omega),hg,(by omega),(by omega),(by omega),(by omega),(fun _ _ _ _ _ h=>IsF.sum h (add_rat x y rfl rfl rfl) hx1 hx2 hy1 hy2)⟩
noncomputable def ctb21:List (Ct dk):= [
 ct1 27 0 en27 vQ (fun x=> .s (.O (.Q (-x.1) x.2))) (fun x=> []) fun _ p _ _ h1=>neg_q h1,
 ct2 21 0 en21 vQ vQ (fun x y=> .s (.O (.Q (x.1+y.1) (x.2+y.2+1)))) (fun x y=> [x.2≤268435456,y.2≤268435456]) fun _ _ p _ _ _ h1 h2=>add_q h1 h2 p.1 p.2.1]++ctb20
theorem sub_q {w:World} {v0 v1:Value} {x y:Rat} {k j:Nat} (h0:(isQ x k) w v0) (h1:(isQ y j) w v1) (hk:k≤268435456) (hj:j≤268435456):Calls Tryz.prog 23 #[v0,v1] w (Ret w fun v w'=>(isQ (x-y) (k+j+1)) w' v):=by
 exact fx ctb21 Tryz.func23 (fun _=> []) [(0, .O (.Q x k)),(1, .O (.Q y j))] (.s (.O (.Q (x-y) (k+j+1)))) ⟨h0,h1,trivial⟩ (k≤268435456∧j≤268435456∧tK (.O (.Q (x+(-y)) (k+j+1))) (.O (.Q (x-y) (k+j+1)))) ⟨(by omega),(by omega),(fun _ _ _ _ _ h=>IsQ.eq h (Rat.sub_eq_add_neg x y).symm)⟩
theorem mul_q {w:World} {v0 v1:Value} {x y:Rat} {k j:Nat} (h0:(isQ x k) w v0) (h1:(isQ y j) w v1) (hk:k≤268435456) (hj:j≤268435456):Calls Tryz.prog 22 #[v0,v1] w (Ret w fun v w'=>(isQ (x*y) (k+j)) w' v):=by
 have hx1:=h0.num_len
 have hx2:=h0.den_len
 have hy1:=h1.num_len
 have hy2:=h1.den_len
 have hxd:=x.den_nz
 have hyd:=y.den_nz
 have hx0:=h0.1
 have hy0:=h1.1
 exact fx ctb21 Tryz.func22 (hnX [(2,[(10,0,oS (.O (.F (x.num*y.num) (x.den*y.den) (k+j))))]),(5,[(6,0,oS (.O (.F ((x.num/(Nat.gcd (Int.natAbs x.num) y.den:Nat))*(y.num/(Nat.gcd (Int.natAbs y.num) x.den:Nat))) ((x.den/Nat.gcd (Int.natAbs y.num) x.den)*(y.den/Nat.gcd (Int.natAbs x.num) y.den)) (k+j))))])]) [(0, .O (.Q x k)),(1, .O (.Q y j))] (.s (.O (.Q (x*y) (k+j)))) ⟨h0,h1,trivial⟩ (k≤4294967296∧cnd (decide ((Mx.cmp x.den y.den:Int)=0)) (k≤4294967296∧j≤4294967296∧k≤4294967296∧j≤4294967296∧tK (.O (.F (x.num*y.num) (x.den*y.den) (max (k+j) (k+j)))) (.O (.F (x.num*y.num) (x.den*y.den) (k+j)))∧tK (.O (.F (x.num*y.num) (x.den*y.den) (k+j))) (.O (.Q (x*y) (k+j)))) (k≤1073741824∧j≤1073741824∧(y.den≠0)∧j≤1073741824∧k≤1073741824∧(x.den≠0)∧k≤4294967296∧j≤4294967296∧k≤4294967296∧j≤4294967296∧tK (.O (.F ((x.num/(Nat.gcd (Int.natAbs x.num) y.den:Nat))*(y.num/(Nat.gcd (Int.natAbs y.num) x.den:Nat))) ((x.den/Nat.gcd (Int.natAbs y.num) x.den)*(y.den/Nat.gcd (Int.natAbs x.num) y.den)) (max (k+j) (k+j)))) (.O (.F ((x.num/(Nat.gcd (Int.natAbs x.num) y.den:Nat))*(y.num/(Nat.gcd (Int.natAbs y.num) x.den:Nat))) ((x.den/Nat.gcd (Int.natAbs y.num) x.den)*(y.den/Nat.gcd (Int.natAbs x.num) y.den)) (k+j)))∧tK (.O (.F ((x.num/(Nat.gcd (Int.natAbs x.num) y.den:Nat))*(y.num/(Nat.gcd (Int.natAbs y.num) x.den:Nat))) ((x.den/Nat.gcd (Int.natAbs y.num) x.den)*(y.den/Nat.gcd (Int.natAbs x.num) y.den)) (k+j))) (.O (.Q (x*y) (k+j))))) ⟨(by omega),(Classical.em (x.den=y.den)).elim (fun hd=>cnd_t (by rw [Mx.cmp_eq hd];rfl) ⟨(by omega),(by omega),(by omega),(by omega),(fun _ _ _ _ _ h=>(Nat.max_self (k+j))▸h),(fun _ _ _ _ _ h=>by first|exact IsF.q h (by omega) (mul_same hd).1 (mul_same hd).2|exact IsF.q h (by omega) (mul_rat x y).1 (mul_rat x y).2)⟩) (fun hd=>cnd_f (cmp_zero hd) ⟨(by omega),(by omega),(by assumption),(by omega),(by omega),(by assumption),(by omega),(by omega),(by omega),(by omega),(fun _ _ _ _ _ h=>(Nat.max_self (k+j))▸h),(fun _ _ _ _ _ h=>by first|exact IsF.q h (by omega) (mul_same hd).1 (mul_same hd).2|exact IsF.q h (by omega) (mul_rat x y).1 (mul_rat x y).2)⟩)⟩
noncomputable def ctb22:List (Ct dk):= [
 ct1 14 0 en14 vQ (fun x=> .s (eI (Int.sign (x.1.num)))) (fun x=> []) fun _ p _ _ h1=>sign_q h1]++ctb21
theorem quo_zero {w:World} {v0 v1:Value} {x y:Rat} {k j:Nat} (h0:(isQ x k) w v0) (h1:(isQ y j) w v1) (hy:y=0):Calls Tryz.prog 44 #[v0,v1] w (Ret w fun v w'=>(f0 w (.t [.O (.Q 0 1),eI 8])).p w' v):=by
 exact fx ctb22 Tryz.func44 (hnX [(1,[(2,0,oS (eB true))])]) [(0, .O (.Q x k)),(1, .O (.Q y j))] (.t [.O (.Q 0 1),eI 8]) ⟨h0,h1,trivial⟩ (decide ((Int.sign (y.num):Int)=0)=true∧(tK (.O (.F 0 0 1)) (.O (.Q 0 1))∧tI 8 8∧True)) ⟨(by rw [sign_zero];exact decide_eq_true hy),⟨(fun _ _ _ _ _ h=>IsF.q0 h),⟨rfl,rfl⟩,trivial⟩⟩
noncomputable def ctb23:List (Ct dk):= [
 ct2 22 0 en22 vQ vQ (fun x y=> .s (.O (.Q (x.1*y.1) (x.2+y.2)))) (fun x y=> [x.2≤268435456,y.2≤268435456]) fun _ _ p _ _ _ h1 h2=>mul_q h1 h2 p.1 p.2.1]++ctb22
theorem quo_q {w:World} {v0 v1:Value} {x y:Rat} {k j:Nat} (h0:(isQ x k) w v0) (h1:(isQ y j) w v1) (hk:k≤268435456) (hj:j≤268435456) (hy:y≠0):Calls Tryz.prog 44 #[v0,v1] w (Ret w fun v w'=>(f0 w (.t [.O (.Q (x/y) (k+j)),eI 0])).p w' v):=by
 have hx1:=h0.num_len
 have hx2:=h0.den_len
 have hy1:=h1.num_len
 have hy2:=h1.den_len
 have hxd:=x.den_nz
 have hyd:=y.den_nz
 have hx0:=h0.1
 have hy0:=h1.1
 exact fx ctb23 Tryz.func44 (hnX [(1,[(2,0,oS (eB false))]),(3,[(9,0,oS (.O (.Q (y⁻¹) j)))])]) [(0, .O (.Q x k)),(1, .O (.Q y j))] (.t [.O (.Q (x/y) (k+j)),eI 0]) ⟨h0,h1,trivial⟩ (decide ((Int.sign (y.num):Int)=0)=false∧tK (.O (.F (signed y.den (decide ((Int.sign (y.num):Int)<0))) (Int.natAbs y.num) (max j j))) (.O (.Q (y⁻¹) j))∧k≤268435456∧j≤268435456∧(tK (.O (.Q (x*(y⁻¹)) (k+j))) (.O (.Q (x/y) (k+j)))∧tI 0 0∧True)) ⟨(by rw [sign_zero];exact decide_eq_false hy),(fun _ _ _ _ _ h=>IsF.q (IsF.weak h (by omega)) hy0 (inv_num hy) (inv_den hy)),(by omega),(by omega),⟨(fun _ _ _ _ _ h=>h),⟨rfl,rfl⟩,trivial⟩⟩
theorem of_zero {w:World} {v0 v1:Value} {z n:Int} {k j:Nat} (h0:(isW z k) w v0) (h1:(isW n j) w v1) (hn:n=0):Calls Tryz.prog 28 #[v0,v1] w (Ret w fun v w'=>(f0 w (.t [.O (.Q 0 1),eI 8])).p w' v):=by
 exact fx ctb23 Tryz.func28 (hnX [(1,[(2,0,oS (eB true))])]) [(0, .O (.W z k)),(1, .O (.W n j))] (.t [.O (.Q 0 1),eI 8]) ⟨h0,h1,trivial⟩ (decide ((Int.sign n:Int)=0)=true∧(tK (.O (.F 0 0 1)) (.O (.Q 0 1))∧tI 8 8∧True)) ⟨(by simp [hn]),⟨(fun _ _ _ _ _ h=>IsF.q0 h),⟨rfl,rfl⟩,trivial⟩⟩
theorem of_neg {w:World} {v0 v1:Value} {z n:Int} {k j:Nat} (h0:(isW z k) w v0) (h1:(isW n j) w v1) (hk:k≤268435456) (hj:j≤268435456) (hn:n<0):Calls Tryz.prog 28 #[v0,v1] w (Ret w fun v w'=>(f0 w (.t [.O (.Q (z/(n:Rat)) (max k j+1)),eI 0])).p w' v):=by
 exact fx ctb23 Tryz.func28 (hnX [(1,[(2,0,oS (eB false))]),(3,[(2,0,oS (eB true))])]) [(0, .O (.W z k)),(1, .O (.W n j))] (.t [.O (.Q (z/(n:Rat)) (max k j+1)),eI 0]) ⟨h0,h1,trivial⟩ (decide ((Int.sign n:Int)=0)=false∧decide ((Int.sign n:Int)<0)=true∧k≤1073741824∧j≤1073741824∧((Int.natAbs n)≠0)∧(tK (.O (.F ((-z)/(Nat.gcd (Int.natAbs (-z)) (Int.natAbs n):Nat)) (Int.natAbs n/Nat.gcd (Int.natAbs (-z)) (Int.natAbs n)) (max k j))) (.O (.Q (z/(n:Rat)) (max k j+1)))∧tI 0 0∧True)) ⟨(by simp [Int.sign_eq_zero_iff_zero];omega),(by simp [Int.sign_neg_iff];omega),(by omega),(by omega),(by omega),⟨(fun _ _ _ _ _ h=>IsF.of h (by omega) (of_rat_neg hn)),⟨rfl,rfl⟩,trivial⟩⟩
theorem of_pos {w:World} {v0 v1:Value} {z n:Int} {k j:Nat} (h0:(isW z k) w v0) (h1:(isW n j) w v1) (hk:k≤268435456) (hj:j≤268435456) (hn:0<n):Calls Tryz.prog 28 #[v0,v1] w (Ret w fun v w'=>(f0 w (.t [.O (.Q (z/(n:Rat)) (max k j+1)),eI 0])).p w' v):=by
 exact fx ctb23 Tryz.func28 (hnX [(1,[(2,0,oS (eB false))]),(3,[(2,0,oS (eB false))])]) [(0, .O (.W z k)),(1, .O (.W n j))] (.t [.O (.Q (z/(n:Rat)) (max k j+1)),eI 0]) ⟨h0,h1,trivial⟩ (decide ((Int.sign n:Int)=0)=false∧decide ((Int.sign n:Int)<0)=false∧k≤1073741824∧j≤1073741824∧((Int.natAbs n)≠0)∧(tK (.O (.F (z/(Nat.gcd (Int.natAbs z) (Int.natAbs n):Nat)) (Int.natAbs n/Nat.gcd (Int.natAbs z) (Int.natAbs n)) (max k j))) (.O (.Q (z/(n:Rat)) (max k j+1)))∧tI 0 0∧True)) ⟨(by simp [Int.sign_eq_zero_iff_zero];omega),(by simp [Int.sign_neg_iff];omega),(by omega),(by omega),(by omega),⟨(fun _ _ _ _ _ h=>IsF.of h (by omega) (of_rat_pos hn)),⟨rfl,rfl⟩,trivial⟩⟩
noncomputable def ctb24:List (Ct dk):= [
 ct1 38 0 en38 vW (fun x=> .s (.E (.string (str (ztext x.1))))) (fun x=> [x.2≤536870912]) fun _ p _ _ h1=>print_w h1 p.1]++ctb23
theorem print_q1 {w:World} {v0:Value} {q:Rat} {k:Nat} (h0:(isQ q k) w v0) (hk:k≤268435456) (hd:q.den=1):Calls Tryz.prog 15 #[v0] w (Ret w fun v w'=>(isT (qtext q)) w' v):=by
 exact fx ctb24 Tryz.func15 (hnX [(1,[(5,0,oS (eB true))])]) [(0, .O (.Q q k))] (.s (.E (.string (str (qtext q))))) ⟨h0,trivial⟩ (1<Mx.B∧k≤4294967296∧decide ((Mx.cmp q.den 1:Int)=0)=true∧k≤536870912∧tK (.E (.string (str (ztext q.num)))) (.E (.string (str (qtext q))))) ⟨small_lt (by decide),(by omega),(by rw [Mx.cmp_eq hd];rfl),(by omega),(fun _ _ _ _ _ h=>by rw [qtext,if_pos hd];exact h)⟩
theorem print_q2 {w:World} {v0:Value} {q:Rat} {k:Nat} (h0:(isQ q k) w v0) (hk:k≤268435456) (hd:q.den≠1):Calls Tryz.prog 15 #[v0] w (Ret w fun v w'=>(isT (qtext q)) w' v):=by
 have hl1:=ztext_len h0.num_len
 have hl2:=text_len h0.den_len
 exact fx ctb24 Tryz.func15 (hnX [(1,[(5,0,oS (eB false))])]) [(0, .O (.Q q k))] (.s (.E (.string (str (qtext q))))) ⟨h0,trivial⟩ (1<Mx.B∧k≤4294967296∧decide ((Mx.cmp q.den 1:Int)=0)=false∧k≤536870912∧(ztext q.num:List UInt8).length+([47]:List UInt8).length≤9223372036854775807∧k≤536870912∧(ztext q.num++ [47]:List UInt8).length+(Tx.text q.den:List UInt8).length≤9223372036854775807∧tK (.E (.string (str ((ztext q.num++ [47])++Tx.text q.den)))) (.E (.string (str (qtext q))))) ⟨small_lt (by decide),(by omega),cmp_zero hd,(by omega),(by simp;omega),(by omega),(by simp;omega),(fun _ _ _ _ _ h=>by rw [qtext,if_neg hd];exact h)⟩
theorem print_q {w:World} {v:Value} {q:Rat} {k:Nat} (h:isQ q k w v) (hk:k≤268435456):Calls Tryz.prog 15 #[v] w (Ret w fun v' w'=>isT (qtext q) w' v'):=by
 by_cases hd:q.den=1
 ·exact print_q1 h hk hd
 ·exact print_q2 h hk hd
theorem of_q {w:World} {v0 v1:Value} {z n:Int} {k j:Nat} (h0:isW z k w v0) (h1:isW n j w v1) (hk:k≤268435456) (hj:j≤268435456) (hn:n≠0):Calls Tryz.prog 28 #[v0,v1] w (Ret w fun v w'=>(Kd.T (cx:=cxA w) [kQ (z/(n:Rat)) (max k j+1), .E (.int .i64 0)]).p w' v):=by
 rcases Int.lt_or_gt_of_ne hn with h|h
 ·exact of_neg h0 h1 hk hj h
 ·exact of_pos h0 h1 hk hj h
noncomputable def ctb25:List (Ct dk):= [
 ct2 99 0 en99 vD vD (fun x y=> .t [.O (.D (x.1/y.1) x.2), .O (.D (x.1%y.1) y.2)]) (fun x y=> [x.2≤1048576,y.2≤1048576,0<y.1]) fun _ _ p _ _ _ h1 h2=>refDivMod_t h1 h2 p.1 p.2.1 p.2.2.1,
 ct2 98 0 en98 vD vD (fun x y=> .s (.O (.D (Nat.gcd x.1 y.1) (max x.2 y.2)))) (fun x y=> [max x.2 y.2≤1048576]) fun _ _ p _ _ _ h1 h2=>refGcd_any _ _ _ _ _ _ p.1 (IsD.weak' h1 (Nat.le_max_left _ _)) (IsD.weak' h2 (Nat.le_max_right _ _))]++ctb24
theorem make_r {w:World} {v0 v1:Value} {z:Int} {n k j:Nat} (h0:(isV z k) w v0) (h1:(isD n j) w v1) (hk:k≤100000) (hj:j≤100000) (hn:n≠0):Calls Tryz.prog 73 #[v0,v1] w (Ret w fun v w'=>(isR (mkRat z n) (max k j)) w' v):=by
 have hg:0<Nat.gcd (Int.natAbs z) n:=Nat.gcd_pos_of_pos_right _ (by omega)
 exact fx ctb25 Tryz.func73 (fun _=> []) [(0, .O (.V z k)),(1, .O (.D n j))] (.s (.O (.R (mkRat z n) (max k j)))) ⟨h0,h1,trivial⟩ (max k j≤1048576∧k≤1048576∧max k j≤1048576∧0<Nat.gcd (Int.natAbs z) n∧j≤1048576∧max k j≤1048576∧0<Nat.gcd (Int.natAbs z) n∧tK (.O (.G (signed (Int.natAbs z/(Nat.gcd (Int.natAbs z) n)) (decide (z<0))) (n/(Nat.gcd (Int.natAbs z) n)) (max k j))) (.O (.R (mkRat z n) (max k j)))) ⟨(by omega),(by omega),(by omega),hg,(by omega),(by omega),hg,(fun _ _ _ _ _ h=>IsG.r h (by rw [signed_div' (Nat.gcd_dvd_left _ _)];exact cancel_rat hn) (Nat.le_refl _))⟩
noncomputable def ctb26:List (Ct dk):= [
 ct2 71 0 en71 vV vV (fun x y=> .s (.O (.V (x.1*y.1) (x.2+y.2+1)))) (fun x y=> [x.2≤4294967296,y.2≤4294967296]) fun _ _ p _ _ _ h1 h2=>mulV h1 h2 p.1 p.2.1]++ctb25
theorem cross_r {w:World} {v0 v1:Value} {x y:Rat} {k j:Nat} (h0:(isR x k) w v0) (h1:(isR y j) w v1) (hk:k≤100000) (hj:j≤100000):Calls Tryz.prog 74 #[v0,v1] w (Ret w fun v w'=>(isV (x.num*(y.den:Nat)) (k+j+1)) w' v):=by
 exact fx ctb26 Tryz.func74 (fun _=> []) [(0, .O (.R x k)),(1, .O (.R y j))] (.s (.O (.V (x.num*(y.den:Nat)) (k+j+1)))) ⟨h0,h1,trivial⟩ (k≤4294967296∧j≤4294967296∧tK (.O (.V (x.num*signed y.den false) (k+j+1))) (.O (.V (x.num*(y.den:Nat)) (k+j+1)))) ⟨(by omega),(by omega),(fun _ _ _ _ _ h=>h)⟩
noncomputable def ctb27:List (Ct dk):= [
 ct1 88 0 en88 vV (fun x=> .s (.O (.V (-x.1) x.2))) (fun x=> []) fun _ p _ _ h1=>negV h1,
 ct2 73 0 en73 vV vD (fun x y=> .s (.O (.R (mkRat x.1 y.1) (max x.2 y.2)))) (fun x y=> [x.2≤100000,y.2≤100000,y.1≠0]) fun _ _ p _ _ _ h1 h2=>make_r h1 h2 p.1 p.2.1 p.2.2.1]++ctb26
theorem of_r1 {w:World} {v0 v1:Value} {z n:Int} {k j:Nat} (h0:(isV z k) w v0) (h1:(isV n j) w v1) (hk:k≤100000) (hj:j≤100000) (hn:n<0):Calls Tryz.prog 61 #[v0,v1] w (Ret w fun v w'=>(isR (((z:Int):Rat)/((n:Int):Rat)) (max k j)) w' v):=by
 exact fx ctb27 Tryz.func61 (hnX [(1,[(1,0,oS (eB true))])]) [(0, .O (.V z k)),(1, .O (.V n j))] (.s (.O (.R (((z:Int):Rat)/((n:Int):Rat)) (max k j)))) ⟨h0,h1,trivial⟩ (decide (n<0)=true∧k≤100000∧j≤100000∧((Int.natAbs n)≠0)∧tK (.O (.R (mkRat (-z) (Int.natAbs n)) (max k j))) (.O (.R (((z:Int):Rat)/((n:Int):Rat)) (max k j)))) ⟨decide_eq_true hn,(by omega),(by omega),(by omega),(fun _ _ _ _ _ h=>IsR.eq h (of_rat_neg_eq hn).symm)⟩
theorem of_r2 {w:World} {v0 v1:Value} {z n:Int} {k j:Nat} (h0:(isV z k) w v0) (h1:(isV n j) w v1) (hk:k≤100000) (hj:j≤100000) (hn:0<n):Calls Tryz.prog 61 #[v0,v1] w (Ret w fun v w'=>(isR (((z:Int):Rat)/((n:Int):Rat)) (max k j)) w' v):=by
 exact fx ctb27 Tryz.func61 (hnX [(1,[(1,0,oS (eB false))])]) [(0, .O (.V z k)),(1, .O (.V n j))] (.s (.O (.R (((z:Int):Rat)/((n:Int):Rat)) (max k j)))) ⟨h0,h1,trivial⟩ (decide (n<0)=false∧k≤100000∧j≤100000∧((Int.natAbs n)≠0)∧tK (.O (.R (mkRat z (Int.natAbs n)) (max k j))) (.O (.R (((z:Int):Rat)/((n:Int):Rat)) (max k j)))) ⟨decide_eq_false (by omega),(by omega),(by omega),(by omega),(fun _ _ _ _ _ h=>IsR.eq h (of_rat_pos_eq hn).symm)⟩
theorem of_r {w:World} {v0 v1:Value} {z n:Int} {k j:Nat} (h0:isV z k w v0) (h1:isV n j w v1) (hk:k≤100000) (hj:j≤100000) (hn:n≠0):Calls Tryz.prog 61 #[v0,v1] w (Ret w fun v w'=>isR (((z:Int):Rat)/((n:Int):Rat)) (max k j) w' v):=by
 rcases Int.lt_or_gt_of_ne hn with h|h
 ·exact of_r1 h0 h1 hk hj h
 ·exact of_r2 h0 h1 hk hj h
noncomputable def ctb28:List (Ct dk):= [
 ct2 76 0 en76 vV vV (fun x y=> .s (.O (.V (x.1+y.1) (max x.2 y.2+1)))) (fun x y=> [x.2≤4294967296,y.2≤4294967296]) fun _ _ p _ _ _ h1 h2=>addV h1 h2 p.1 p.2.1,
 ct2 74 0 en74 vR vR (fun x y=> .s (.O (.V (x.1.num*(y.1.den:Nat)) (x.2+y.2+1)))) (fun x y=> [x.2≤100000,y.2≤100000]) fun _ _ p _ _ _ h1 h2=>cross_r h1 h2 p.1 p.2.1]++ctb27
theorem add_r {w:World} {v0 v1:Value} {x y:Rat} {k j:Nat} (h0:(isR x k) w v0) (h1:(isR y j) w v1) (hk:k≤10000) (hj:j≤10000):Calls Tryz.prog 47 #[v0,v1] w (Ret w fun v w'=>(isR (x+y) (k+j+2)) w' v):=by
 exact fx ctb28 Tryz.func47 (fun _=> []) [(0, .O (.R x k)),(1, .O (.R y j))] (.s (.O (.R (x+y) (k+j+2)))) ⟨h0,h1,trivial⟩ (k≤100000∧j≤100000∧j≤100000∧k≤100000∧(k+j+1)≤4294967296∧(j+k+1)≤4294967296∧k≤4294967296∧j≤4294967296∧(max (k+j+1) (j+k+1)+1)≤100000∧(k+j+1)≤100000∧((x.den*y.den)≠0)∧tK (.O (.R (mkRat ((x.num*(y.den:Nat))+(y.num*(x.den:Nat))) (x.den*y.den)) (max (max (k+j+1) (j+k+1)+1) (k+j+1)))) (.O (.R (x+y) (k+j+2)))) ⟨(by omega),(by omega),(by omega),(by omega),(by omega),(by omega),(by omega),(by omega),(by omega),(by omega),Nat.ne_of_gt (Nat.mul_pos x.den_pos y.den_pos),(fun _ _ _ _ _ h=>(IsR.eq h (Rat.add_def' x y).symm).weak (by omega))⟩
theorem neg_r {w:World} {v0:Value} {q:Rat} {k:Nat} (h0:(isR q k) w v0):Calls Tryz.prog 77 #[v0] w (Ret w fun v w'=>(isR (-q) k) w' v):=by
 exact fx ctb28 Tryz.func77 (hnX [(2,[(3,0,oS (.O (.G (-q.num) q.den k)))])]) [(0, .O (.R q k))] (.s (.O (.R (-q) k))) ⟨h0,trivial⟩ (tK (.O (.G (-q.num) q.den (max k k))) (.O (.G (-q.num) q.den k))∧tK (.O (.G (-q.num) q.den k)) (.O (.R (-q) k))) ⟨(fun _ _ _ _ _ h=>(Nat.max_self (k))▸h),(fun _ _ _ _ _ h=>IsG.r h ⟨rfl,rfl⟩ (by omega))⟩
noncomputable def ctb29:List (Ct dk):= [
 ct2 47 0 en47 vR vR (fun x y=> .s (.O (.R (x.1+y.1) (x.2+y.2+2)))) (fun x y=> [x.2≤10000,y.2≤10000]) fun _ _ p _ _ _ h1 h2=>add_r h1 h2 p.1 p.2.1,
 ct1 77 0 en77 vR (fun x=> .s (.O (.R (-x.1) x.2))) (fun x=> []) fun _ p _ _ h1=>neg_r h1]++ctb28
theorem sub_r {w:World} {v0 v1:Value} {x y:Rat} {k j:Nat} (h0:(isR x k) w v0) (h1:(isR y j) w v1) (hk:k≤10000) (hj:j≤10000):Calls Tryz.prog 48 #[v0,v1] w (Ret w fun v w'=>(isR (x-y) (k+j+2)) w' v):=by
 exact fx ctb29 Tryz.func48 (fun _=> []) [(0, .O (.R x k)),(1, .O (.R y j))] (.s (.O (.R (x-y) (k+j+2)))) ⟨h0,h1,trivial⟩ (k≤10000∧j≤10000∧tK (.O (.R (x+(-y)) (k+j+2))) (.O (.R (x-y) (k+j+2)))) ⟨(by omega),(by omega),(fun _ _ _ _ _ h=>IsR.eq h (Rat.sub_eq_add_neg x y).symm)⟩
theorem mul_r {w:World} {v0 v1:Value} {x y:Rat} {k j:Nat} (h0:(isR x k) w v0) (h1:(isR y j) w v1) (hk:k≤10000) (hj:j≤10000):Calls Tryz.prog 42 #[v0,v1] w (Ret w fun v w'=>(isR (x*y) (k+j+1)) w' v):=by
 exact fx ctb29 Tryz.func42 (fun _=> []) [(0, .O (.R x k)),(1, .O (.R y j))] (.s (.O (.R (x*y) (k+j+1)))) ⟨h0,h1,trivial⟩ (k≤4294967296∧j≤4294967296∧k≤4294967296∧j≤4294967296∧(k+j+1)≤100000∧(k+j+1)≤100000∧((x.den*y.den)≠0)∧tK (.O (.R (mkRat (x.num*y.num) (x.den*y.den)) (max (k+j+1) (k+j+1)))) (.O (.R (x*y) (k+j+1)))) ⟨(by omega),(by omega),(by omega),(by omega),(by omega),(by omega),Nat.ne_of_gt (Nat.mul_pos x.den_pos y.den_pos),(fun _ _ _ _ _ h=>(IsR.eq h (Rat.mul_def' x y).symm).weak (by omega))⟩
noncomputable def ctb30:List (Ct dk):= [
 ct2 61 0 en61 vV vV (fun x y=> .s (.O (.R (((x.1:Int):Rat)/((y.1:Int):Rat)) (max x.2 y.2)))) (fun x y=> [x.2≤100000,y.2≤100000,y.1≠0]) fun _ _ p _ _ _ h1 h2=>of_r h1 h2 p.1 p.2.1 p.2.2.1]++ctb29
theorem quo_r {w:World} {v0 v1:Value} {x y:Rat} {k j:Nat} (h0:(isR x k) w v0) (h1:(isR y j) w v1) (hk:k≤10000) (hj:j≤10000) (hy:y≠0):Calls Tryz.prog 46 #[v0,v1] w (Ret w fun v w'=>(isR (x/y) (k+j+1)) w' v):=by
 have hb:y.num*(x.den:Nat)≠0:=Int.mul_ne_zero (fun e=>hy (Rat.num_eq_zero.1 e)) (by have:=x.den_pos;omega)
 exact fx ctb30 Tryz.func46 (fun _=> []) [(0, .O (.R x k)),(1, .O (.R y j))] (.s (.O (.R (x/y) (k+j+1)))) ⟨h0,h1,trivial⟩ (k≤100000∧j≤100000∧j≤4294967296∧k≤4294967296∧(k+j+1)≤100000∧(j+k+1)≤100000∧((y.num*signed x.den false)≠0)∧tK (.O (.R (((x.num*(y.den:Nat):Int):Rat)/((y.num*(signed x.den false):Int):Rat)) (max (k+j+1) (j+k+1)))) (.O (.R (x/y) (k+j+1)))) ⟨(by omega),(by omega),(by omega),(by omega),(by omega),(by omega),hb,(fun _ _ _ _ _ h=>(IsR.eq h (quo_rat x y)).weak (by omega))⟩
noncomputable def ctb31:List (Ct dk):= [
 ct1 40 0 en40 vV (fun x=> .s (.E (.string (str (ztext x.1))))) (fun x=> [x.2≤1000000]) fun _ p _ _ h1=>printV h1 p.1]++ctb30
theorem print_r1 {w:World} {v0:Value} {q:Rat} {k:Nat} (h0:(isR q k) w v0) (hk:k≤100000) (hd:q.den=1):Calls Tryz.prog 16 #[v0] w (Ret w fun v w'=>(isT (qtext q)) w' v):=by
 have hl:Dx.len q.den=1:=by rw [hd];exact dlen_one
 exact fx ctb31 Tryz.func16 (hnX [(2,[(3,0,oS (eB true)),(9,0,oS (eB true))])]) [(0, .O (.R q k))] (.s (.E (.string (str (qtext q))))) ⟨h0,trivial⟩ (k≤1000000∧decide ((((Dx.len q.den:Nat):Int):Int)=1)=true∧Dx.len q.den=1∧decide ((((q.den:Nat):Int):Int)=1)=true∧tK (.E (.string (str (ztext q.num)))) (.E (.string (str (qtext q))))) ⟨(by omega),(by rw [hl];rfl),hl,(by rw [hd];rfl),(fun _ _ _ _ _ h=>by rw [qtext,if_pos hd];exact h)⟩
theorem print_r2 {w:World} {v0:Value} {q:Rat} {k:Nat} (h0:(isR q k) w v0) (hk:k≤100000) (hd:q.den≠1) (hl:Dx.len q.den≠1):Calls Tryz.prog 16 #[v0] w (Ret w fun v w'=>(isT (qtext q)) w' v):=by
 have hl1:=ztext_dlen h0.num_dlen
 have hl2:=text_dlen h0.den_dlen
 exact fx ctb31 Tryz.func16 (hnX [(2,[(3,0,oS (eB false))])]) [(0, .O (.R q k))] (.s (.E (.string (str (qtext q))))) ⟨h0,trivial⟩ (k≤1000000∧decide ((((Dx.len q.den:Nat):Int):Int)=1)=false∧k≤1000000∧(ztext q.num:List UInt8).length+([47]:List UInt8).length≤9223372036854775807∧(ztext q.num++ [47]:List UInt8).length+(Tx.text q.den:List UInt8).length≤9223372036854775807∧tK (.E (.string (str ((ztext q.num++ [47])++Tx.text q.den)))) (.E (.string (str (qtext q))))) ⟨(by omega),decide_eq_false (by omega),(by omega),(by simp;omega),(by simp;omega),(fun _ _ _ _ _ h=>by rw [qtext,if_neg hd];exact h)⟩
theorem print_r3 {w:World} {v0:Value} {q:Rat} {k:Nat} (h0:(isR q k) w v0) (hk:k≤100000) (hd:q.den≠1) (hl:Dx.len q.den=1):Calls Tryz.prog 16 #[v0] w (Ret w fun v w'=>(isT (qtext q)) w' v):=by
 have hl1:=ztext_dlen h0.num_dlen
 have hl2:=text_dlen h0.den_dlen
 exact fx ctb31 Tryz.func16 (hnX [(2,[(3,0,oS (eB true)),(9,0,oS (eB false))])]) [(0, .O (.R q k))] (.s (.E (.string (str (qtext q))))) ⟨h0,trivial⟩ (k≤1000000∧decide ((((Dx.len q.den:Nat):Int):Int)=1)=true∧Dx.len q.den=1∧decide ((((q.den:Nat):Int):Int)=1)=false∧k≤1000000∧(ztext q.num:List UInt8).length+([47]:List UInt8).length≤9223372036854775807∧(ztext q.num++ [47]:List UInt8).length+(Tx.text q.den:List UInt8).length≤9223372036854775807∧tK (.E (.string (str ((ztext q.num++ [47])++Tx.text q.den)))) (.E (.string (str (qtext q))))) ⟨(by omega),(by rw [hl];rfl),hl,decide_eq_false (by omega),(by omega),(by simp;omega),(by simp;omega),(fun _ _ _ _ _ h=>by rw [qtext,if_neg hd];exact h)⟩
theorem print_r {w:World} {v:Value} {q:Rat} {k:Nat} (h:isR q k w v) (hk:k≤100000):Calls Tryz.prog 16 #[v] w (Ret w fun v' w'=>isT (qtext q) w' v'):=by
 by_cases hd:q.den=1
 ·exact print_r1 h hk hd
 ·by_cases hl:Dx.len q.den=1
  ·exact print_r3 h hk hd hl
  ·exact print_r2 h hk hd hl
end Go.Proofs.YthebilnlljkfeaaGreatDoor.X
