/- Layers 4 to 6 and their references, by reckoning. Written by a script (tools/laws). -/
import Derived.Test.YtdofjoijodjajaaDoorBXk
import Derived.Test.YtdofjoijodjajaaDoorEn
import Derived.Test.YtdofjoijodjajaaDoorBK
import Derived.Test.YtdofjoijodjajaaDoorBQv
import Derived.Test.YtdofjoijodjajaaDoorBRd
import Derived.Test.YtdofjoijodjajaaDoorBRf
namespace Go.Proofs.YtdofjoijodjajaaDoor.X
open Go.RowKit Go.Proofs.YtdofjoijodjajaaDoor.Z
set_option linter.unusedVariables false
theorem of_w0 {w:World} {v0 v1:Value} {n k:Nat} (h0:(isN n k) w v0) (h1:(isE (.bool false)) w v1):Calls Tryd.prog 45 #[v0,v1] w (Ret w fun v w'=>(isW (signed n false) k) w' v):=by
 exact fx [] Tryd.func45 (fun _=> []) [(0, .O (.N n k)),(1,eB false)] (.s (.O (.W (signed n false) k))) ⟨h0,h1,trivial⟩ ((false=true→n≠0)∧tK (.O (.W (signed n false) k)) (.O (.W (signed n false) k))) ⟨(fun h=>by cases h),(fun _ _ _ _ _ h=>h)⟩
noncomputable def ctb1:List (Ct dk):= [
 ct1 30 0 en30 vN (fun x=> .s (eB (x.1==0))) (fun x=> []) fun _ p _ _ h1=>zero_n h1]
theorem of_w1 {w:World} {v0 v1:Value} {n k:Nat} (h0:(isN n k) w v0) (h1:(isE (.bool true)) w v1) (hn:n=0):Calls Tryd.prog 45 #[v0,v1] w (Ret w fun v w'=>(isW (signed n false) k) w' v):=by
 exact fx ctb1 Tryd.func45 (hnX [(1,[(5,0,oS (eB false))])]) [(0, .O (.N n k)),(1,eB true)] (.s (.O (.W (signed n false) k))) ⟨h0,h1,trivial⟩ ((!(n==0))=false∧(false=true→n≠0)∧tK (.O (.W (signed n false) k)) (.O (.W (signed n false) k))) ⟨(by simp [hn]),(fun h=>by cases h),(fun _ _ _ _ _ h=>h)⟩
theorem of_w2 {w:World} {v0 v1:Value} {n k:Nat} (h0:(isN n k) w v0) (h1:(isE (.bool true)) w v1) (hn:n≠0):Calls Tryd.prog 45 #[v0,v1] w (Ret w fun v w'=>(isW (signed n true) k) w' v):=by
 exact fx ctb1 Tryd.func45 (hnX [(1,[(5,0,oS (eB true))])]) [(0, .O (.N n k)),(1,eB true)] (.s (.O (.W (signed n true) k))) ⟨h0,h1,trivial⟩ ((!(n==0))=true∧(true=true→n≠0)∧tK (.O (.W (signed n true) k)) (.O (.W (signed n true) k))) ⟨(by simp [hn]),(fun _=>hn),(fun _ _ _ _ _ h=>h)⟩
theorem of_w {w:World} {v:Value} {n k:Nat} {b:Bool} (h:IsN w v n k):Calls Tryd.prog 45 #[v, .bool b] w (Ret w fun v' w'=>IsW w' v' (signed n b) k):=by
 cases b with
 |false=>exact of_w0 h rfl
 |true=>
  by_cases hn:n=0
  ·have:=of_w1 h rfl hn
   subst hn
   exact this
  ·exact of_w2 h rfl hn
theorem abs_w {w:World} {v0:Value} {z:Int} {k:Nat} (h0:(isW z k) w v0):Calls Tryd.prog 44 #[v0] w (Ret w fun v w'=>(isN (Int.natAbs z) k) w' v):=by
 exact fx ctb1 Tryd.func44 (fun _=> []) [(0, .O (.W z k))] (.s (.O (.N (Int.natAbs z) k))) ⟨h0,trivial⟩ (tK (.O (.N (Int.natAbs z) k)) (.O (.N (Int.natAbs z) k))) (fun _ _ _ _ _ h=>h)
theorem sign_w {w:World} {v0:Value} {z:Int} {k:Nat} (h0:(isW z k) w v0):Calls Tryd.prog 42 #[v0] w (Ret w fun v w'=>(isE (.int .i64 (Int.sign z))) w' v):=by
 exact fx ctb1 Tryd.func42 (fun _=> []) [(0, .O (.W z k))] (.s (eI (Int.sign z))) ⟨h0,trivial⟩ (cnd (Int.natAbs z==0) (tI 0 (Int.sign z)) (cnd (decide (z<0)) (tI (-1) (Int.sign z)) (tI 1 (Int.sign z)))) ((Classical.em (z=0)).elim (fun h1=>cnd_t (by simp [h1]) ⟨rfl,(by rw [show z=0 by omega];rfl)⟩) (fun h1=>cnd_f (by simp [h1]) ((Classical.em (z<0)).elim (fun h2=>cnd_t (decide_eq_true h2) ⟨rfl,(by rw [sign_lt h2])⟩) (fun h2=>cnd_f (decide_eq_false h2) ⟨rfl,(by rw [sign_gt (by omega)])⟩))))
noncomputable def ctb2:List (Ct dk):= [
 ct2 45 0 en45 vN vB (fun x y=> .s (.O (.W (signed x.1 y) x.2))) (fun x y=> []) fun _ _ p _ _ _ h1 h2=>by cases h2;exact of_w h1]++ctb1
theorem neg_w {w:World} {v0:Value} {z:Int} {k:Nat} (h0:(isW z k) w v0):Calls Tryd.prog 43 #[v0] w (Ret w fun v w'=>(isW (-z) k) w' v):=by
 exact fx ctb2 Tryd.func43 (fun _=> []) [(0, .O (.W z k))] (.s (.O (.W (-z) k))) ⟨h0,trivial⟩ (tK (.O (.W (signed (Int.natAbs z) (!(decide (z<0)))) k)) (.O (.W (-z) k))) (fun _ _ _ _ _ h=>neg_dec z▸h)
noncomputable def ctb3:List (Ct dk):= [
 ct1 17 0 en17 vS1 (fun x=> .s (.O (.N x 1))) (fun x=> []) fun _ p _ _ h1=>of_one h1,
 ct1 17 1 en17 vS (fun x=> .s (.O (.N (Mx.val x) 4))) (fun x=> [x.length≤4]) fun _ p _ _ h1=>of_n 4 h1 p.1 (by omega)]++ctb2
theorem from_w1 {w:World} {v0:Value} {n:Int} (h0:(isE (.int .i64 n)) w v0) (hn1: -9223372036854775808≤n) (hn:n<0):Calls Tryd.prog 22 #[v0] w (Ret w fun v w'=>(isW n 1) w' v):=by
 have hB:n.natAbs<Mx.B:=by rw [Mx.B_eq];omega
 exact fx ctb3 Tryd.func22 (hnX [(1,[(1,0,oS (eB true))]),(2,[(1,0,oS (.E (.int .u64 (18446744073709551616+n)))),(2,0,oS (.E (.int .u64 ((n.natAbs:Nat):Int))))])]) [(0,eI n)] (.s (.O (.W n 1))) ⟨h0,trivial⟩ (decide ((n:Int)<0)=true∧tU (IntKind.u64.wrap n) (18446744073709551616+n)∧tU (IntKind.u64.wrap (-(18446744073709551616+n))) ((n.natAbs:Nat):Int)∧n.natAbs<Mx.B∧tK (.O (.W (signed n.natAbs true) 1)) (.O (.W n 1))) ⟨decide_eq_true hn,⟨rfl,by rw [u64_wrap];omega⟩,⟨rfl,by rw [u64_wrap];omega⟩,hB,(fun _ _ _ _ _ h=>from_s1 hn▸h)⟩
theorem from_w2 {w:World} {v0:Value} {n:Int} (h0:(isE (.int .i64 n)) w v0) (hn1:n≤9223372036854775807) (hn: ¬n<0):Calls Tryd.prog 22 #[v0] w (Ret w fun v w'=>(isW n 1) w' v):=by
 have hB:n.natAbs<Mx.B:=by rw [Mx.B_eq];omega
 exact fx ctb3 Tryd.func22 (hnX [(1,[(1,0,oS (eB false))]),(3,[(1,0,oS (.E (.int .u64 ((n.natAbs:Nat):Int))))])]) [(0,eI n)] (.s (.O (.W n 1))) ⟨h0,trivial⟩ (decide ((n:Int)<0)=false∧tU (IntKind.u64.wrap n) ((n.natAbs:Nat):Int)∧n.natAbs<Mx.B∧tK (.O (.W (signed n.natAbs false) 1)) (.O (.W n 1))) ⟨decide_eq_false hn,⟨rfl,by rw [u64_wrap];omega⟩,hB,(fun _ _ _ _ _ h=>from_s2 hn▸h)⟩
theorem from_w (w:World) (n:Int) (h1: -9223372036854775808≤n) (h2:n≤9223372036854775807):Calls Tryd.prog 22 #[.int .i64 n] w (Ret w fun v' w'=>IsW w' v' n 1):=by
 by_cases hn:n<0
 ·exact from_w1 rfl h1 hn
 ·exact from_w2 rfl h2 hn
noncomputable def ctb4:List (Ct dk):= [
 ct2 53 0 en53 vN vN (fun x y=> .s (.O (.N (x.1+y.1) (max x.2 y.2+1)))) (fun x y=> [x.2≤4294967296,y.2≤4294967296]) fun _ _ p _ _ _ h1 h2=>add_n h1 h2 p.1 p.2.1]++ctb3
theorem add_w1 {w:World} {v0 v1:Value} {x y:Int} {k j:Nat} (h0:(isW x k) w v0) (h1:(isW y j) w v1) (hk:k≤4294967296) (hj:j≤4294967296) (he:decide (x<0)=decide (y<0)):Calls Tryd.prog 27 #[v0,v1] w (Ret w fun v w'=>(isW (x+y) (max k j+1)) w' v):=by
 exact fx ctb4 Tryd.func27 (hnX [(1,[(4,0,oS (eB true))])]) [(0, .O (.W x k)),(1, .O (.W y j))] (.s (.O (.W (x+y) (max k j+1)))) ⟨h0,h1,trivial⟩ ((decide (x<0)==decide (y<0))=true∧k≤4294967296∧j≤4294967296∧tK (.O (.W (signed (Int.natAbs x+Int.natAbs y) (decide (x<0))) (max k j+1))) (.O (.W (x+y) (max k j+1)))) ⟨(by simp [he]),(by omega),(by omega),(fun _ _ _ _ _ h=>add_e1 he▸h)⟩
noncomputable def ctb5:List (Ct dk):= [
 ct2 54 0 en54 vN vN (fun x y=> .t [.O (.N (x.1-y.1) x.2),eB true]) (fun x y=> [x.2≤4294967296,y.1≤x.1]) fun _ _ p _ _ _ h1 h2=>sub_t h1 h2 p.1 p.2.1,
 ct2 54 1 en54 vN vN (fun x y=> .t [.O (.N 0 0),eB false]) (fun x y=> [x.2≤4294967296,x.1<y.1]) fun _ _ p _ _ _ h1 h2=>subl_t h1 h2 p.1 p.2.1]++ctb4
theorem add_w2 {w:World} {v0 v1:Value} {x y:Int} {k j:Nat} (h0:(isW x k) w v0) (h1:(isW y j) w v1) (hk:k≤4294967296) (hj:j≤4294967296) (he:decide (x<0)≠decide (y<0)) (hl:y.natAbs≤x.natAbs):Calls Tryd.prog 27 #[v0,v1] w (Ret w fun v w'=>(isW (x+y) (max k j+1)) w' v):=by
 exact fx ctb5 Tryd.func27 (hnX [(1,[(4,0,oS (eB false))])]) [(0, .O (.W x k)),(1, .O (.W y j))] (.s (.O (.W (x+y) (max k j+1)))) ⟨h0,h1,trivial⟩ ((decide (x<0)==decide (y<0))=false∧k≤4294967296∧Int.natAbs y≤Int.natAbs x∧tK (.O (.W (signed ((Int.natAbs x) -(Int.natAbs y)) (decide (x<0))) k)) (.O (.W (x+y) (max k j+1)))) ⟨(by simpa using he),(by omega),(by omega),(fun _ _ _ _ _ h=>IsW.weak (add_e2 he hl▸h) (by omega))⟩
theorem add_w3 {w:World} {v0 v1:Value} {x y:Int} {k j:Nat} (h0:(isW x k) w v0) (h1:(isW y j) w v1) (hk:k≤4294967296) (hj:j≤4294967296) (he:decide (x<0)≠decide (y<0)) (hl:x.natAbs<y.natAbs):Calls Tryd.prog 27 #[v0,v1] w (Ret w fun v w'=>(isW (x+y) (max k j+1)) w' v):=by
 exact fx ctb5 Tryd.func27 (hnX [(1,[(4,0,oS (eB false))]),(3,[(4,1,none)])]) [(0, .O (.W x k)),(1, .O (.W y j))] (.s (.O (.W (x+y) (max k j+1)))) ⟨h0,h1,trivial⟩ ((decide (x<0)==decide (y<0))=false∧k≤4294967296∧Int.natAbs x<Int.natAbs y∧j≤4294967296∧Int.natAbs x≤Int.natAbs y∧tK (.O (.W (signed ((Int.natAbs y) -(Int.natAbs x)) (decide (y<0))) j)) (.O (.W (x+y) (max k j+1)))) ⟨(by simpa using he),(by omega),(by omega),(by omega),(by omega),(fun _ _ _ _ _ h=>IsW.weak (add_e3 he hl▸h) (by omega))⟩
theorem add_w {w:World} {va vb:Value} {x y:Int} {k j:Nat} (hx:IsW w va x k) (hy:IsW w vb y j) (hk:k≤4294967296) (hj:j≤4294967296):Calls Tryd.prog 27 #[va,vb] w (Ret w fun v' w'=>IsW w' v' (x+y) (max k j+1)):=by
 by_cases he:decide (x<0)=decide (y<0)
 ·exact add_w1 hx hy hk hj he
 ·by_cases hl:y.natAbs≤x.natAbs
  ·exact add_w2 hx hy hk hj he hl
  ·exact add_w3 hx hy hk hj he (by omega)
noncomputable def ctb6:List (Ct dk):= [
 ct2 29 0 en29 vN vN (fun x y=> .s (.O (.N (x.1*y.1) (x.2+y.2)))) (fun x y=> [x.2≤4294967296,y.2≤4294967296]) fun _ _ p _ _ _ h1 h2=>mul_n h1 h2 p.1 p.2.1]++ctb5
theorem mul_w {w:World} {v0 v1:Value} {x y:Int} {k j:Nat} (h0:(isW x k) w v0) (h1:(isW y j) w v1) (hk:k≤4294967296) (hj:j≤4294967296):Calls Tryd.prog 52 #[v0,v1] w (Ret w fun v w'=>(isW (x*y) (k+j)) w' v):=by
 exact fx ctb6 Tryd.func52 (fun _=> []) [(0, .O (.W x k)),(1, .O (.W y j))] (.s (.O (.W (x*y) (k+j)))) ⟨h0,h1,trivial⟩ (k≤4294967296∧j≤4294967296∧tK (.O (.W (signed (Int.natAbs x*Int.natAbs y) (!(decide (x<0)==decide (y<0)))) (k+j))) (.O (.W (x*y) (k+j)))) ⟨(by omega),(by omega),(fun _ _ _ _ _ h=>mul_e x y▸h)⟩
noncomputable def ctb7:List (Ct dk):= [
 ct1 19 0 en19 vN (fun x=> .s (.E (.string (str (Tx.text x.1))))) (fun x=> [x.2≤536870912]) fun _ p _ _ h1=>print_any _ _ _ _ h1 p.1]++ctb6
theorem print_w {w:World} {v0:Value} {z:Int} {k:Nat} (h0:(isW z k) w v0) (hk:k≤536870912):Calls Tryd.prog 18 #[v0] w (Ret w fun v w'=>(isT (ztext z)) w' v):=by
 have hl:=text_lenW h0
 exact fx ctb7 Tryd.func18 (fun _=> []) [(0, .O (.W z k))] (.s (.E (.string (str (ztext z))))) ⟨h0,trivial⟩ (cnd (decide (z<0)) (k≤536870912∧([45]:List UInt8).length+(Tx.text (Int.natAbs z):List UInt8).length≤9223372036854775807∧tK (.E (.string (str ([45]++Tx.text (Int.natAbs z))))) (.E (.string (str (ztext z))))) (k≤536870912∧tK (.E (.string (str (Tx.text (Int.natAbs z))))) (.E (.string (str (ztext z)))))) ((Classical.em (z<0)).elim (fun h1=>cnd_t (decide_eq_true h1) ⟨(by omega),(by simp;omega),(fun _ _ _ _ _ h=>h.trans (by rw [ztext,if_pos h1];rfl))⟩) (fun h1=>cnd_f (decide_eq_false h1) ⟨(by omega),(fun _ _ _ _ _ h=>h.trans (by rw [ztext,if_neg h1]))⟩))
noncomputable def ctb8:List (Ct dk):= [
 ct2 48 0 en48 vN vN (fun x y=> .t [.O (.N (x.1/y.1) x.2), .O (.N (x.1%y.1) y.2),eI 0]) (fun x y=> [x.2≤1073741824,y.1≠0]) fun _ _ p _ _ _ h1 h2=>div_t h1 h2 p.1 p.2.1,
 ct2 48 1 en48 vN vN (fun x y=> .t [.O (.N 0 0), .O (.N 0 0),eI 8]) (fun x y=> [y.1=0]) fun _ _ p _ _ _ h1 h2=>div0_t h1 h2 p.1]++ctb7
theorem part_z {w:World} {v0 v1:Value} {n m k j:Nat} (h0:(isN n k) w v0) (h1:(isN m j) w v1) (hk:k≤1073741824) (hm:m≠0):Calls Tryd.prog 25 #[v0,v1] w (Ret w fun v w'=>(isN (n/m) k) w' v):=by
 exact fx ctb8 Tryd.func25 (fun _=> []) [(0, .O (.N n k)),(1, .O (.N m j))] (.s (.O (.N (n/m) k))) ⟨h0,h1,trivial⟩ (k≤1073741824∧(m≠0)∧tK (.O (.N (n/m) k)) (.O (.N (n/m) k))) ⟨(by omega),hm,(fun _ _ _ _ _ h=>h)⟩
noncomputable def ctb9:List (Ct dk):= [
 ct2 52 0 en52 vW vW (fun x y=> .s (.O (.W (x.1*y.1) (x.2+y.2)))) (fun x y=> [x.2≤4294967296,y.2≤4294967296]) fun _ _ p _ _ _ h1 h2=>mul_w h1 h2 p.1 p.2.1]++ctb8
theorem times_z {w:World} {v0 v1:Value} {z:Int} {n k j:Nat} (h0:(isW z k) w v0) (h1:(isN n j) w v1) (hk:k≤1073741824) (hj:j≤1073741824):Calls Tryd.prog 26 #[v0,v1] w (Ret w fun v w'=>(isW (z*(n:Nat)) (k+j)) w' v):=by
 exact fx ctb9 Tryd.func26 (fun _=> []) [(0, .O (.W z k)),(1, .O (.N n j))] (.s (.O (.W (z*(n:Nat)) (k+j)))) ⟨h0,h1,trivial⟩ (k≤4294967296∧j≤4294967296∧tK (.O (.W (z*signed n false) (k+j))) (.O (.W (z*(n:Nat)) (k+j)))) ⟨(by omega),(by omega),(fun _ _ _ _ _ h=>h)⟩
noncomputable def ctb10:List (Ct dk):= [
 ct1 44 0 en44 vW (fun x=> .s (.O (.N (Int.natAbs x.1) x.2))) (fun x=> []) fun _ p _ _ h1=>abs_w h1,
 ct1 42 0 en42 vW (fun x=> .s (eI (Int.sign x.1))) (fun x=> []) fun _ p _ _ h1=>sign_w h1,
 ct2 24 0 en24 vN vN (fun x y=> .s (.O (.N (Nat.gcd x.1 y.1) (max x.2 y.2)))) (fun x y=> [max x.2 y.2≤1073741824]) fun _ _ p _ _ _ h1 h2=>gcd_n (IsN.weak h1 (Nat.le_max_left _ _)) (IsN.weak h2 (Nat.le_max_right _ _)) p.1,
 ct2 25 0 en25 vN vN (fun x y=> .s (.O (.N (x.1/y.1) x.2))) (fun x y=> [x.2≤1073741824,y.1≠0]) fun _ _ p _ _ _ h1 h2=>part_z h1 h2 p.1 p.2.1]++ctb9
theorem cancel_z {w:World} {v0 v1:Value} {z:Int} {n k j:Nat} (h0:(isW z k) w v0) (h1:(isN n j) w v1) (hk:k≤1073741824) (hj:j≤1073741824) (hn:n≠0):Calls Tryd.prog 28 #[v0,v1] w (Ret w fun v w'=>(f0 w (.t [.O (.W (z/(Nat.gcd (Int.natAbs z) n:Nat)) k), .O (.N (n/(Nat.gcd (Int.natAbs z) n)) j)])).p w' v):=by
 have hg:Nat.gcd (Int.natAbs z) n≠0:=Nat.ne_of_gt (Nat.gcd_pos_of_pos_right _ (by omega))
 exact fx ctb10 Tryd.func28 (fun _=> []) [(0, .O (.W z k)),(1, .O (.N n j))] (.t [.O (.W (z/(Nat.gcd (Int.natAbs z) n:Nat)) k), .O (.N (n/(Nat.gcd (Int.natAbs z) n)) j)]) ⟨h0,h1,trivial⟩ (max k j≤1073741824∧k≤1073741824∧((Nat.gcd (Int.natAbs z) n)≠0)∧j≤1073741824∧((Nat.gcd (Int.natAbs z) n)≠0)∧(tK (.O (.W (signed (Int.natAbs z/(Nat.gcd (Int.natAbs z) n)) (decide ((Int.sign z:Int)<0))) k)) (.O (.W (z/(Nat.gcd (Int.natAbs z) n:Nat)) k))∧tK (.O (.N (n/(Nat.gcd (Int.natAbs z) n)) j)) (.O (.N (n/(Nat.gcd (Int.natAbs z) n)) j))∧True)) ⟨(by omega),(by omega),hg,(by omega),hg,⟨(fun _ _ _ _ _ h=>signed_div (Nat.gcd_dvd_left _ _)▸h),(fun _ _ _ _ _ h=>h),trivial⟩⟩
theorem den_f0 {w:World} {v0:Value} {z:Int} {n k:Nat} (h0:(isF z n k) w v0) (hn:n=0):Calls Tryd.prog 15 #[v0] w (Ret w fun v w'=>(isN 1 1) w' v):=by
 exact fx ctb10 Tryd.func15 (hnX [(1,[(2,0,oS (eB true))])]) [(0, .O (.F z n k))] (.s (.O (.N 1 1))) ⟨h0,trivial⟩ ((n==0)=true∧1<Mx.B∧tK (.O (.N 1 1)) (.O (.N 1 1))) ⟨(by simp [hn]),small_lt (by decide),(fun _ _ _ _ _ h=>h)⟩
theorem den_f1 {w:World} {v0:Value} {z:Int} {n k:Nat} (h0:(isF z n k) w v0) (hn:n≠0):Calls Tryd.prog 15 #[v0] w (Ret w fun v w'=>(isN n k) w' v):=by
 exact fx ctb10 Tryd.func15 (hnX [(1,[(2,0,oS (eB false))])]) [(0, .O (.F z n k))] (.s (.O (.N n k))) ⟨h0,trivial⟩ ((n==0)=false∧tK (.O (.N n k)) (.O (.N n k))) ⟨(by simp [hn]),(fun _ _ _ _ _ h=>h)⟩
theorem den_q {w:World} {v:Value} {q:Rat} {k:Nat} (h:isQ q k w v):Calls Tryd.prog 15 #[v] w (Ret w fun v' w'=>isN q.den k w' v'):=by
 obtain ⟨hk,n,h1,h2⟩:=h
 by_cases hn:n=0
 ·refine (den_f0 h1 hn).mono fun _ _ r=>r.mono fun _ _ g=> ?_
  rcases h2 with e|⟨_,e⟩
  ·exact absurd (e.symm.trans hn) q.den_nz
  ·subst e
   exact g.weak hk
 ·refine (den_f1 h1 hn).mono fun _ _ r=>r.mono fun _ _ g=> ?_
  rcases h2 with e|⟨e,_⟩
  ·subst e;exact g
  ·exact absurd e hn
noncomputable def ctb11:List (Ct dk):= [
 ct2 27 0 en27 vW vW (fun x y=> .s (.O (.W (x.1+y.1) (max x.2 y.2+1)))) (fun x y=> [x.2≤4294967296,y.2≤4294967296]) fun _ _ p _ _ _ h1 h2=>add_w h1 h2 p.1 p.2.1,
 ct2 26 0 en26 vW vN (fun x y=> .s (.O (.W (x.1*(y.1:Nat)) (x.2+y.2)))) (fun x y=> [x.2≤1073741824,y.2≤1073741824]) fun _ _ p _ _ _ h1 h2=>times_z h1 h2 p.1 p.2.1,
 ct2 28 0 en28 vW vN (fun x y=> .t [.O (.W (x.1/(Nat.gcd (Int.natAbs x.1) y.1:Nat)) x.2), .O (.N (y.1/Nat.gcd (Int.natAbs x.1) y.1) y.2)]) (fun x y=> [x.2≤1073741824,y.2≤1073741824,y.1≠0]) fun _ _ p _ _ _ h1 h2=>cancel_z h1 h2 p.1 p.2.1 p.2.2.1,
 ct1 15 0 en15 vQ (fun x=> .s (.O (.N x.1.den x.2))) (fun x=> []) fun _ p _ _ h1=>den_q h1]++ctb10
theorem add_q {w:World} {v0 v1:Value} {x y:Rat} {k j:Nat} (h0:(isQ x k) w v0) (h1:(isQ y j) w v1) (hk:k≤268435456) (hj:j≤268435456):Calls Tryd.prog 14 #[v0,v1] w (Ret w fun v w'=>(isQ (x+y) (k+j+1)) w' v):=by
 have hx1:=h0.num_len
 have hx2:=h0.den_len
 have hy1:=h1.num_len
 have hy2:=h1.den_len
 have hxd:=x.den_nz
 have hyd:=y.den_nz
 have hx0:=h0.1
 have hy0:=h1.1
 have hg:Nat.gcd x.den y.den≠0:=Nat.ne_of_gt (Nat.gcd_pos_of_pos_left _ x.den_pos)
 exact fx ctb11 Tryd.func14 (fun _=> []) [(0, .O (.Q x k)),(1, .O (.Q y j))] (.s (.O (.Q (x+y) (k+j+1)))) ⟨h0,h1,trivial⟩ (max k j≤1073741824∧k≤1073741824∧((Nat.gcd x.den y.den)≠0)∧j≤1073741824∧((Nat.gcd x.den y.den)≠0)∧k≤1073741824∧j≤1073741824∧j≤1073741824∧k≤1073741824∧(k+j)≤4294967296∧(j+k)≤4294967296∧(max (k+j) (j+k)+1)≤1073741824∧max k j≤1073741824∧((Nat.gcd x.den y.den)≠0)∧k≤4294967296∧j≤4294967296∧(k+j)≤4294967296∧max k j≤4294967296∧tK (.O (.F (((x.num*(y.den/(Nat.gcd x.den y.den):Nat))+(y.num*(x.den/(Nat.gcd x.den y.den):Nat)))/(Nat.gcd (Int.natAbs ((x.num*(y.den/(Nat.gcd x.den y.den):Nat))+(y.num*(x.den/(Nat.gcd x.den y.den):Nat)))) (Nat.gcd x.den y.den):Nat)) (((x.den/(Nat.gcd x.den y.den))*(y.den/(Nat.gcd x.den y.den)))*(Nat.gcd x.den y.den/Nat.gcd (Int.natAbs ((x.num*(y.den/(Nat.gcd x.den y.den):Nat))+(y.num*(x.den/(Nat.gcd x.den y.den):Nat)))) (Nat.gcd x.den y.den))) (max (max (k+j) (j+k)+1) ((k+j)+max k j)))) (.O (.Q (x+y) (k+j+1)))) ⟨(by omega),(by omega),hg,(by omega),hg,(by omega),(by omega),(by omega),(by omega),(by omega),(by omega),(by omega),(by omega),hg,(by omega),(by omega),(by omega),(by omega),(fun _ _ _ _ _ h=>IsF.sum h (add_rat x y rfl rfl rfl) hx1 hx2 hy1 hy2)⟩
theorem of_zero {w:World} {v0 v1:Value} {z n:Int} {k j:Nat} (h0:(isW z k) w v0) (h1:(isW n j) w v1) (hn:n=0):Calls Tryd.prog 21 #[v0,v1] w (Ret w fun v w'=>(f0 w (.t [.O (.Q 0 1),eI 8])).p w' v):=by
 exact fx ctb11 Tryd.func21 (hnX [(1,[(2,0,oS (eB true))])]) [(0, .O (.W z k)),(1, .O (.W n j))] (.t [.O (.Q 0 1),eI 8]) ⟨h0,h1,trivial⟩ (decide ((Int.sign n:Int)=0)=true∧(tK (.O (.F 0 0 1)) (.O (.Q 0 1))∧tI 8 8∧True)) ⟨(by simp [hn]),⟨(fun _ _ _ _ _ h=>IsF.q0 h),⟨rfl,rfl⟩,trivial⟩⟩
noncomputable def ctb12:List (Ct dk):= [
 ct1 43 0 en43 vW (fun x=> .s (.O (.W (-x.1) x.2))) (fun x=> []) fun _ p _ _ h1=>neg_w h1]++ctb11
theorem of_neg {w:World} {v0 v1:Value} {z n:Int} {k j:Nat} (h0:(isW z k) w v0) (h1:(isW n j) w v1) (hk:k≤268435456) (hj:j≤268435456) (hn:n<0):Calls Tryd.prog 21 #[v0,v1] w (Ret w fun v w'=>(f0 w (.t [.O (.Q (z/(n:Rat)) (max k j+1)),eI 0])).p w' v):=by
 exact fx ctb12 Tryd.func21 (hnX [(1,[(2,0,oS (eB false))]),(3,[(2,0,oS (eB true))])]) [(0, .O (.W z k)),(1, .O (.W n j))] (.t [.O (.Q (z/(n:Rat)) (max k j+1)),eI 0]) ⟨h0,h1,trivial⟩ (decide ((Int.sign n:Int)=0)=false∧decide ((Int.sign n:Int)<0)=true∧k≤1073741824∧j≤1073741824∧((Int.natAbs n)≠0)∧(tK (.O (.F ((-z)/(Nat.gcd (Int.natAbs (-z)) (Int.natAbs n):Nat)) (Int.natAbs n/Nat.gcd (Int.natAbs (-z)) (Int.natAbs n)) (max k j))) (.O (.Q (z/(n:Rat)) (max k j+1)))∧tI 0 0∧True)) ⟨(by simp [Int.sign_eq_zero_iff_zero];omega),(by simp [Int.sign_neg_iff];omega),(by omega),(by omega),(by omega),⟨(fun _ _ _ _ _ h=>IsF.of h (by omega) (of_rat_neg hn)),⟨rfl,rfl⟩,trivial⟩⟩
theorem of_pos {w:World} {v0 v1:Value} {z n:Int} {k j:Nat} (h0:(isW z k) w v0) (h1:(isW n j) w v1) (hk:k≤268435456) (hj:j≤268435456) (hn:0<n):Calls Tryd.prog 21 #[v0,v1] w (Ret w fun v w'=>(f0 w (.t [.O (.Q (z/(n:Rat)) (max k j+1)),eI 0])).p w' v):=by
 exact fx ctb12 Tryd.func21 (hnX [(1,[(2,0,oS (eB false))]),(3,[(2,0,oS (eB false))])]) [(0, .O (.W z k)),(1, .O (.W n j))] (.t [.O (.Q (z/(n:Rat)) (max k j+1)),eI 0]) ⟨h0,h1,trivial⟩ (decide ((Int.sign n:Int)=0)=false∧decide ((Int.sign n:Int)<0)=false∧k≤1073741824∧j≤1073741824∧((Int.natAbs n)≠0)∧(tK (.O (.F (z/(Nat.gcd (Int.natAbs z) (Int.natAbs n):Nat)) (Int.natAbs n/Nat.gcd (Int.natAbs z) (Int.natAbs n)) (max k j))) (.O (.Q (z/(n:Rat)) (max k j+1)))∧tI 0 0∧True)) ⟨(by simp [Int.sign_eq_zero_iff_zero];omega),(by simp [Int.sign_neg_iff];omega),(by omega),(by omega),(by omega),⟨(fun _ _ _ _ _ h=>IsF.of h (by omega) (of_rat_pos hn)),⟨rfl,rfl⟩,trivial⟩⟩
noncomputable def ctb13:List (Ct dk):= [
 ct2 16 0 en16 vN vN (fun x y=> .s (eI (Mx.cmp x.1 y.1))) (fun x y=> [x.2≤4294967296]) fun _ _ p _ _ _ h1 h2=>cmp_n h1 h2 p.1,
 ct1 18 0 en18 vW (fun x=> .s (.E (.string (str (ztext x.1))))) (fun x=> [x.2≤536870912]) fun _ p _ _ h1=>print_w h1 p.1]++ctb12
theorem print_q1 {w:World} {v0:Value} {q:Rat} {k:Nat} (h0:(isQ q k) w v0) (hk:k≤268435456) (hd:q.den=1):Calls Tryd.prog 9 #[v0] w (Ret w fun v w'=>(isT (qtext q)) w' v):=by
 exact fx ctb13 Tryd.func9 (hnX [(1,[(5,0,oS (eB true))])]) [(0, .O (.Q q k))] (.s (.E (.string (str (qtext q))))) ⟨h0,trivial⟩ (1<Mx.B∧k≤4294967296∧decide ((Mx.cmp q.den 1:Int)=0)=true∧k≤536870912∧tK (.E (.string (str (ztext q.num)))) (.E (.string (str (qtext q))))) ⟨small_lt (by decide),(by omega),(by rw [Mx.cmp_eq hd];rfl),(by omega),(fun _ _ _ _ _ h=>by rw [qtext,if_pos hd];exact h)⟩
theorem print_q2 {w:World} {v0:Value} {q:Rat} {k:Nat} (h0:(isQ q k) w v0) (hk:k≤268435456) (hd:q.den≠1):Calls Tryd.prog 9 #[v0] w (Ret w fun v w'=>(isT (qtext q)) w' v):=by
 have hl1:=ztext_len h0.num_len
 have hl2:=text_len h0.den_len
 exact fx ctb13 Tryd.func9 (hnX [(1,[(5,0,oS (eB false))])]) [(0, .O (.Q q k))] (.s (.E (.string (str (qtext q))))) ⟨h0,trivial⟩ (1<Mx.B∧k≤4294967296∧decide ((Mx.cmp q.den 1:Int)=0)=false∧k≤536870912∧(ztext q.num:List UInt8).length+([47]:List UInt8).length≤9223372036854775807∧k≤536870912∧(ztext q.num++ [47]:List UInt8).length+(Tx.text q.den:List UInt8).length≤9223372036854775807∧tK (.E (.string (str ((ztext q.num++ [47])++Tx.text q.den)))) (.E (.string (str (qtext q))))) ⟨small_lt (by decide),(by omega),cmp_zero hd,(by omega),(by simp;omega),(by omega),(by simp;omega),(fun _ _ _ _ _ h=>by rw [qtext,if_neg hd];exact h)⟩
theorem print_q {w:World} {v:Value} {q:Rat} {k:Nat} (h:isQ q k w v) (hk:k≤268435456):Calls Tryd.prog 9 #[v] w (Ret w fun v' w'=>isT (qtext q) w' v'):=by
 by_cases hd:q.den=1
 ·exact print_q1 h hk hd
 ·exact print_q2 h hk hd
theorem of_q {w:World} {v0 v1:Value} {z n:Int} {k j:Nat} (h0:isW z k w v0) (h1:isW n j w v1) (hk:k≤268435456) (hj:j≤268435456) (hn:n≠0):Calls Tryd.prog 21 #[v0,v1] w (Ret w fun v w'=>(Kd.T (cx:=cxA w) [kQ (z/(n:Rat)) (max k j+1), .E (.int .i64 0)]).p w' v):=by
 rcases Int.lt_or_gt_of_ne hn with h|h
 ·exact of_neg h0 h1 hk hj h
 ·exact of_pos h0 h1 hk hj h
end Go.Proofs.YtdofjoijodjajaaDoor.X
