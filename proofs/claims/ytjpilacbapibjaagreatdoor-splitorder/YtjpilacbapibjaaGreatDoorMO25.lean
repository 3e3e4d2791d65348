/- Own mathematics and calculus that the laws of this seat lean on, part 25. -/
import Derived.Test.YtjpilacbapibjaaGreatDoorMO13
import Derived.Test.YtjpilacbapibjaaGreatDoorMO22
import Derived.Test.YtjpilacbapibjaaGreatDoorMO23
import Derived.Test.YtjpilacbapibjaaGreatDoorMO24
import Derived.Test.YtjpilacbapibjaaGreatDoorMO12
import Derived.Test.YtjpilacbapibjaaGreatDoorMO1
import Derived.Lib.ItoaNum
import Derived.Shelf.GgSortFunc.RowK
namespace Go.Proofs.YtjpilacbapibjaaGreatDoor
open Go.RowKit
namespace Z
end Z
end Go.Proofs.YtjpilacbapibjaaGreatDoor
namespace Go.Proofs.YtjpilacbapibjaaGreatDoor
open Go.RowKit
namespace Z
end Z
end Go.Proofs.YtjpilacbapibjaaGreatDoor
namespace Go.Proofs.YtjpilacbapibjaaGreatDoor
open Go.RowKit
theorem limbs_zero:(Mx.limbs 0).length=0:=by decide
theorem limbs_pos {K:Nat} (h:K≠0):0<(Mx.limbs K).length:=by
 rcases Nat.eq_zero_or_pos (Mx.limbs K).length with h0|h0
 ·exfalso
  have:=Mx.val_limbs K
  rw [List.length_eq_zero_iff.1 h0] at this
  exact h this.symm
 ·exact h0
end Go.Proofs.YtjpilacbapibjaaGreatDoor
namespace Go.Proofs.YtjpilacbapibjaaGreatDoor
open Go.RowKit
end Go.Proofs.YtjpilacbapibjaaGreatDoor
namespace Go.Proofs.YtjpilacbapibjaaGreatDoor
open Tx
instance (l:List UInt8):Decidable (okText l):=inferInstanceAs (Decidable (_∧_))
def negT (l:List UInt8):Bool:=l.head?==some 45
def bodyT (l:List UInt8):List UInt8:=if negT l then l.tail else l
def aheadT (t:List UInt8):List UInt8:=t.takeWhile (· !=46)
def restT (t:List UInt8):List UInt8:=t.dropWhile (· !=46)
def behindT (t:List UInt8):List UInt8:=(restT t).tail
def partB (t:List UInt8):Bool:= !(restT t).isEmpty
def allT (t:List UInt8):List UInt8:=aheadT t++behindT t
def okDec (l:List UInt8):Prop:=okText (aheadT (bodyT l))∧ ¬(partB (bodyT l)=true∧behindT (bodyT l)= [])∧(∀b∈behindT (bodyT l),isDig b)∧ ¬(negT l=true∧rd (allT (bodyT l))=0)
instance (l:List UInt8):Decidable (okDec l):=inferInstanceAs (Decidable (_∧_))
end Go.Proofs.YtjpilacbapibjaaGreatDoor
namespace Go.Proofs.YtjpilacbapibjaaGreatDoor
open Go.RowKit
end Go.Proofs.YtjpilacbapibjaaGreatDoor
namespace Go.Proofs.YtjpilacbapibjaaGreatDoor
open Go.RowKit Tx
structure Rs where
 j:Nat
 al:List UInt8
 ah:Nat
 be:Int
 ze:Bool
section
variable {l:List UInt8} {g:Rs}
end
end Go.Proofs.YtjpilacbapibjaaGreatDoor
namespace Go.Proofs.YtjpilacbapibjaaGreatDoor.X
open Go.RowKit Go.Proofs.YtjpilacbapibjaaGreatDoor.Z
set_option linter.unusedVariables false
theorem of_w0 {w:World} {v0 v1:Value} {n k:Nat} (h0:(isN n k) w v0) (h1:(isE (.bool false)) w v1):Calls Tryz.prog 39 #[v0,v1] w (Ret w fun v w'=>(isW (signed n false) k) w' v):=by
 exact fx [] Tryz.func39 (fun _=> []) [(0, .O (.N n k)),(1,eB false)] (.s (.O (.W (signed n false) k))) ⟨h0,h1,trivial⟩ ((false=true→n≠0)∧tK (.O (.W (signed n false) k)) (.O (.W (signed n false) k))) ⟨(fun h=>by cases h),(fun _ _ _ _ _ h=>h)⟩
noncomputable def ctb1:List (Ct dk):= [
 ct1 77 0 en77 vN (fun x=> .s (eB (x.1==0))) (fun x=> []) fun _ p _ _ h1=>zero_n h1]
theorem of_w1 {w:World} {v0 v1:Value} {n k:Nat} (h0:(isN n k) w v0) (h1:(isE (.bool true)) w v1) (hn:n=0):Calls Tryz.prog 39 #[v0,v1] w (Ret w fun v w'=>(isW (signed n false) k) w' v):=by
 exact fx ctb1 Tryz.func39 (hnX [(1,[(5,0,oS (eB false))])]) [(0, .O (.N n k)),(1,eB true)] (.s (.O (.W (signed n false) k))) ⟨h0,h1,trivial⟩ ((!(n==0))=false∧(false=true→n≠0)∧tK (.O (.W (signed n false) k)) (.O (.W (signed n false) k))) ⟨(by simp [hn]),(fun h=>by cases h),(fun _ _ _ _ _ h=>h)⟩
theorem of_w2 {w:World} {v0 v1:Value} {n k:Nat} (h0:(isN n k) w v0) (h1:(isE (.bool true)) w v1) (hn:n≠0):Calls Tryz.prog 39 #[v0,v1] w (Ret w fun v w'=>(isW (signed n true) k) w' v):=by
 exact fx ctb1 Tryz.func39 (hnX [(1,[(5,0,oS (eB true))])]) [(0, .O (.N n k)),(1,eB true)] (.s (.O (.W (signed n true) k))) ⟨h0,h1,trivial⟩ ((!(n==0))=true∧(true=true→n≠0)∧tK (.O (.W (signed n true) k)) (.O (.W (signed n true) k))) ⟨(by simp [hn]),(fun _=>hn),(fun _ _ _ _ _ h=>h)⟩
theorem of_w {w:World} {v:Value} {n k:Nat} {b:Bool} (h:IsN w v n k):Calls Tryz.prog 39 #[v, .bool b] w (Ret w fun v' w'=>IsW w' v' (signed n b) k):=by
 cases b with
 |false=>exact of_w0 h rfl
 |true=>
  by_cases hn:n=0
  ·have:=of_w1 h rfl hn
   subst hn
   exact this
  ·exact of_w2 h rfl hn
theorem abs_w {w:World} {v0:Value} {z:Int} {k:Nat} (h0:(isW z k) w v0):Calls Tryz.prog 44 #[v0] w (Ret w fun v w'=>(isN (Int.natAbs z) k) w' v):=by
 exact fx ctb1 Tryz.func44 (fun _=> []) [(0, .O (.W z k))] (.s (.O (.N (Int.natAbs z) k))) ⟨h0,trivial⟩ (tK (.O (.N (Int.natAbs z) k)) (.O (.N (Int.natAbs z) k))) (fun _ _ _ _ _ h=>h)
theorem sign_w {w:World} {v0:Value} {z:Int} {k:Nat} (h0:(isW z k) w v0):Calls Tryz.prog 41 #[v0] w (Ret w fun v w'=>(isE (.int .i64 (Int.sign z))) w' v):=by
 exact fx ctb1 Tryz.func41 (fun _=> []) [(0, .O (.W z k))] (.s (eI (Int.sign z))) ⟨h0,trivial⟩ (cnd (Int.natAbs z==0) (tI 0 (Int.sign z)) (cnd (decide (z<0)) (tI (-1) (Int.sign z)) (tI 1 (Int.sign z)))) ((Classical.em (z=0)).elim (fun h1=>cnd_t (by simp [h1]) ⟨rfl,(by rw [show z=0 by omega];rfl)⟩) (fun h1=>cnd_f (by simp [h1]) ((Classical.em (z<0)).elim (fun h2=>cnd_t (decide_eq_true h2) ⟨rfl,(by rw [sign_lt h2])⟩) (fun h2=>cnd_f (decide_eq_false h2) ⟨rfl,(by rw [sign_gt (by omega)])⟩))))
noncomputable def ctb2:List (Ct dk):= [
 ct2 39 0 en39 vN vB (fun x y=> .s (.O (.W (signed x.1 y) x.2))) (fun x y=> []) fun _ _ p _ _ _ h1 h2=>by cases h2;exact of_w h1]++ctb1
theorem neg_w {w:World} {v0:Value} {z:Int} {k:Nat} (h0:(isW z k) w v0):Calls Tryz.prog 42 #[v0] w (Ret w fun v w'=>(isW (-z) k) w' v):=by
 exact fx ctb2 Tryz.func42 (fun _=> []) [(0, .O (.W z k))] (.s (.O (.W (-z) k))) ⟨h0,trivial⟩ (tK (.O (.W (signed (Int.natAbs z) (!(decide (z<0)))) k)) (.O (.W (-z) k))) (fun _ _ _ _ _ h=>neg_dec z▸h)
noncomputable def ctb3:List (Ct dk):= [
 ct1 40 0 en40 vS1 (fun x=> .s (.O (.N x 1))) (fun x=> []) fun _ p _ _ h1=>of_one h1,
 ct1 40 1 en40 vS (fun x=> .s (.O (.N (Mx.val x) 4))) (fun x=> [x.length≤4]) fun _ p _ _ h1=>of_n 4 h1 p.1 (by omega)]++ctb2
theorem from_w1 {w:World} {v0:Value} {n:Int} (h0:(isE (.int .i64 n)) w v0) (hn1: -9223372036854775808≤n) (hn:n<0):Calls Tryz.prog 13 #[v0] w (Ret w fun v w'=>(isW n 1) w' v):=by
 have hB:n.natAbs<Mx.B:=by rw [Mx.B_eq];omega
 exact fx ctb3 Tryz.func13 (hnX [(1,[(1,0,oS (eB true))]),(2,[(1,0,oS (.E (.int .u64 (18446744073709551616+n)))),(2,0,oS (.E (.int .u64 ((n.natAbs:Nat):Int))))])]) [(0,eI n)] (.s (.O (.W n 1))) ⟨h0,trivial⟩ (decide ((n:Int)<0)=true∧tU (IntKind.u64.wrap n) (18446744073709551616+n)∧tU (IntKind.u64.wrap (-(18446744073709551616+n))) ((n.natAbs:Nat):Int)∧n.natAbs<Mx.B∧tK (.O (.W (signed n.natAbs true) 1)) (.O (.W n 1))) ⟨decide_eq_true hn,⟨rfl,by rw [u64_wrap];omega⟩,⟨rfl,by rw [u64_wrap];omega⟩,hB,(fun _ _ _ _ _ h=>from_s1 hn▸h)⟩
theorem from_w2 {w:World} {v0:Value} {n:Int} (h0:(isE (.int .i64 n)) w v0) (hn1:n≤9223372036854775807) (hn: ¬n<0):Calls Tryz.prog 13 #[v0] w (Ret w fun v w'=>(isW n 1) w' v):=by
 have hB:n.natAbs<Mx.B:=by rw [Mx.B_eq];omega
 exact fx ctb3 Tryz.func13 (hnX [(1,[(1,0,oS (eB false))]),(3,[(1,0,oS (.E (.int .u64 ((n.natAbs:Nat):Int))))])]) [(0,eI n)] (.s (.O (.W n 1))) ⟨h0,trivial⟩ (decide ((n:Int)<0)=false∧tU (IntKind.u64.wrap n) ((n.natAbs:Nat):Int)∧n.natAbs<Mx.B∧tK (.O (.W (signed n.natAbs false) 1)) (.O (.W n 1))) ⟨decide_eq_false hn,⟨rfl,by rw [u64_wrap];omega⟩,hB,(fun _ _ _ _ _ h=>from_s2 hn▸h)⟩
theorem from_w (w:World) (n:Int) (h1: -9223372036854775808≤n) (h2:n≤9223372036854775807):Calls Tryz.prog 13 #[.int .i64 n] w (Ret w fun v' w'=>IsW w' v' n 1):=by
 by_cases hn:n<0
 ·exact from_w1 rfl h1 hn
 ·exact from_w2 rfl h2 hn
noncomputable def ctb4:List (Ct dk):= [
 ct2 50 0 en50 vN vN (fun x y=> .s (eI (Mx.cmp x.1 y.1))) (fun x y=> [x.2≤4294967296]) fun _ _ p _ _ _ h1 h2=>cmp_n h1 h2 p.1,
 ct2 63 0 en63 vI vI (fun x y=> .s (eI (Int.sign (x-y)))) (fun x y=> []) fun _ _ p _ _ _ h1 h2=>by cases h1;cases h2;exact compare_k _ _ _,
 ct1 41 0 en41 vW (fun x=> .s (eI (Int.sign x.1))) (fun x=> []) fun _ p _ _ h1=>sign_w h1]++ctb3
theorem cmp_w {w:World} {v0 v1:Value} {x y:Int} {k j:Nat} (h0:(isW x k) w v0) (h1:(isW y j) w v1) (hk:k≤4294967296) (hj:j≤4294967296):Calls Tryz.prog 59 #[v0,v1] w (Ret w fun v w'=>(isE (.int .i64 (Int.sign (x-y)))) w' v):=by
 exact fx ctb4 Tryz.func59 (fun _=> []) [(0, .O (.W x k)),(1, .O (.W y j))] (.s (eI (Int.sign (x-y)))) ⟨h0,h1,trivial⟩ (cnd (!decide ((Int.sign ((Int.sign x) -(Int.sign y)):Int)=0)) (tI (Int.sign ((Int.sign x) -(Int.sign y))) (Int.sign (x-y))) (cnd (decide (x<0)) (j≤4294967296∧tI (Mx.cmp (Int.natAbs y) (Int.natAbs x)) (Int.sign (x-y))) (k≤4294967296∧tI (Mx.cmp (Int.natAbs x) (Int.natAbs y)) (Int.sign (x-y))))) ((Classical.em ((Int.sign x-Int.sign y).sign≠0)).elim (fun h1=>cnd_t (by simpa using h1) ⟨rfl,(by rw [cmpW1 h1])⟩) (fun h1=>cnd_f (by simpa using h1) ((Classical.em (x<0)).elim (fun h2=>cnd_t (decide_eq_true h2) ⟨(by omega),⟨rfl,(by rw [cmpW2 h1 h2])⟩⟩) (fun h2=>cnd_f (decide_eq_false h2) ⟨(by omega),⟨rfl,(by rw [cmpW3 h1 h2])⟩⟩))))
noncomputable def ctb5:List (Ct dk):= [
 ct2 123 0 en123 vN vN (fun x y=> .s (.O (.N (x.1+y.1) (max x.2 y.2+1)))) (fun x y=> [x.2≤4294967296,y.2≤4294967296]) fun _ _ p _ _ _ h1 h2=>add_n h1 h2 p.1 p.2.1]++ctb4
theorem add_w1 {w:World} {v0 v1:Value} {x y:Int} {k j:Nat} (h0:(isW x k) w v0) (h1:(isW y j) w v1) (hk:k≤4294967296) (hj:j≤4294967296) (he:decide (x<0)=decide (y<0)):Calls Tryz.prog 87 #[v0,v1] w (Ret w fun v w'=>(isW (x+y) (max k j+1)) w' v):=by
 exact fx ctb5 Tryz.func87 (hnX [(1,[(4,0,oS (eB true))])]) [(0, .O (.W x k)),(1, .O (.W y j))] (.s (.O (.W (x+y) (max k j+1)))) ⟨h0,h1,trivial⟩ ((decide (x<0)==decide (y<0))=true∧k≤4294967296∧j≤4294967296∧tK (.O (.W (signed (Int.natAbs x+Int.natAbs y) (decide (x<0))) (max k j+1))) (.O (.W (x+y) (max k j+1)))) ⟨(by simp [he]),(by omega),(by omega),(fun _ _ _ _ _ h=>add_e1 he▸h)⟩
noncomputable def ctb6:List (Ct dk):= [
 ct2 124 0 en124 vN vN (fun x y=> .t [.O (.N (x.1-y.1) x.2),eB true]) (fun x y=> [x.2≤4294967296,y.1≤x.1]) fun _ _ p _ _ _ h1 h2=>sub_t h1 h2 p.1 p.2.1,
 ct2 124 1 en124 vN vN (fun x y=> .t [.O (.N 0 0),eB false]) (fun x y=> [x.2≤4294967296,x.1<y.1]) fun _ _ p _ _ _ h1 h2=>subl_t h1 h2 p.1 p.2.1]++ctb5
theorem add_w2 {w:World} {v0 v1:Value} {x y:Int} {k j:Nat} (h0:(isW x k) w v0) (h1:(isW y j) w v1) (hk:k≤4294967296) (hj:j≤4294967296) (he:decide (x<0)≠decide (y<0)) (hl:y.natAbs≤x.natAbs):Calls Tryz.prog 87 #[v0,v1] w (Ret w fun v w'=>(isW (x+y) (max k j+1)) w' v):=by
 exact fx ctb6 Tryz.func87 (hnX [(1,[(4,0,oS (eB false))])]) [(0, .O (.W x k)),(1, .O (.W y j))] (.s (.O (.W (x+y) (max k j+1)))) ⟨h0,h1,trivial⟩ ((decide (x<0)==decide (y<0))=false∧k≤4294967296∧Int.natAbs y≤Int.natAbs x∧tK (.O (.W (signed ((Int.natAbs x) -(Int.natAbs y)) (decide (x<0))) k)) (.O (.W (x+y) (max k j+1)))) ⟨(by simpa using he),(by omega),(by omega),(fun _ _ _ _ _ h=>IsW.weak (add_e2 he hl▸h) (by omega))⟩
theorem add_w3 {w:World} {v0 v1:Value} {x y:Int} {k j:Nat} (h0:(isW x k) w v0) (h1:(isW y j) w v1) (hk:k≤4294967296) (hj:j≤4294967296) (he:decide (x<0)≠decide (y<0)) (hl:x.natAbs<y.natAbs):Calls Tryz.prog 87 #[v0,v1] w (Ret w fun v w'=>(isW (x+y) (max k j+1)) w' v):=by
 exact fx ctb6 Tryz.func87 (hnX [(1,[(4,0,oS (eB false))]),(3,[(4,1,none)])]) [(0, .O (.W x k)),(1, .O (.W y j))] (.s (.O (.W (x+y) (max k j+1)))) ⟨h0,h1,trivial⟩ ((decide (x<0)==decide (y<0))=false∧k≤4294967296∧Int.natAbs x<Int.natAbs y∧j≤4294967296∧Int.natAbs x≤Int.natAbs y∧tK (.O (.W (signed ((Int.natAbs y) -(Int.natAbs x)) (decide (y<0))) j)) (.O (.W (x+y) (max k j+1)))) ⟨(by simpa using he),(by omega),(by omega),(by omega),(by omega),(fun _ _ _ _ _ h=>IsW.weak (add_e3 he hl▸h) (by omega))⟩
theorem add_w {w:World} {va vb:Value} {x y:Int} {k j:Nat} (hx:IsW w va x k) (hy:IsW w vb y j) (hk:k≤4294967296) (hj:j≤4294967296):Calls Tryz.prog 87 #[va,vb] w (Ret w fun v' w'=>IsW w' v' (x+y) (max k j+1)):=by
 by_cases he:decide (x<0)=decide (y<0)
 ·exact add_w1 hx hy hk hj he
 ·by_cases hl:y.natAbs≤x.natAbs
  ·exact add_w2 hx hy hk hj he hl
  ·exact add_w3 hx hy hk hj he (by omega)
noncomputable def ctb7:List (Ct dk):= [
 ct2 61 0 en61 vN vN (fun x y=> .s (.O (.N (x.1*y.1) (x.2+y.2)))) (fun x y=> [x.2≤4294967296,y.2≤4294967296]) fun _ _ p _ _ _ h1 h2=>mul_n h1 h2 p.1 p.2.1]++ctb6
theorem mul_w {w:World} {v0 v1:Value} {x y:Int} {k j:Nat} (h0:(isW x k) w v0) (h1:(isW y j) w v1) (hk:k≤4294967296) (hj:j≤4294967296):Calls Tryz.prog 60 #[v0,v1] w (Ret w fun v w'=>(isW (x*y) (k+j)) w' v):=by
 exact fx ctb7 Tryz.func60 (fun _=> []) [(0, .O (.W x k)),(1, .O (.W y j))] (.s (.O (.W (x*y) (k+j)))) ⟨h0,h1,trivial⟩ (k≤4294967296∧j≤4294967296∧tK (.O (.W (signed (Int.natAbs x*Int.natAbs y) (!(decide (x<0)==decide (y<0)))) (k+j))) (.O (.W (x*y) (k+j)))) ⟨(by omega),(by omega),(fun _ _ _ _ _ h=>mul_e x y▸h)⟩
noncomputable def ctb8:List (Ct dk):= [
 ct1 52 0 en52 vN (fun x=> .s (.E (.string (str (Tx.text x.1))))) (fun x=> [x.2≤536870912]) fun _ p _ _ h1=>print_any _ _ _ _ h1 p.1]++ctb7
theorem print_w {w:World} {v0:Value} {z:Int} {k:Nat} (h0:(isW z k) w v0) (hk:k≤536870912):Calls Tryz.prog 51 #[v0] w (Ret w fun v w'=>(isT (ztext z)) w' v):=by
 have hl:=text_lenW h0
 exact fx ctb8 Tryz.func51 (fun _=> []) [(0, .O (.W z k))] (.s (.E (.string (str (ztext z))))) ⟨h0,trivial⟩ (cnd (decide (z<0)) (k≤536870912∧([45]:List UInt8).length+(Tx.text (Int.natAbs z):List UInt8).length≤9223372036854775807∧tK (.E (.string (str ([45]++Tx.text (Int.natAbs z))))) (.E (.string (str (ztext z))))) (k≤536870912∧tK (.E (.string (str (Tx.text (Int.natAbs z))))) (.E (.string (str (ztext z)))))) ((Classical.em (z<0)).elim (fun h1=>cnd_t (decide_eq_true h1) ⟨(by omega),(by simp;omega),(fun _ _ _ _ _ h=>h.trans (by rw [ztext,if_pos h1];rfl))⟩) (fun h1=>cnd_f (decide_eq_false h1) ⟨(by omega),(fun _ _ _ _ _ h=>h.trans (by rw [ztext,if_neg h1]))⟩))
theorem ofV0 {w:World} {v0 v1:Value} {n k:Nat} (h0:(isD n k) w v0) (h1:(isE (.bool false)) w v1):Calls Tryz.prog 84 #[v0,v1] w (Ret w fun v w'=>(isV (signed n false) k) w' v):=by
 exact fx ctb8 Tryz.func84 (fun _=> []) [(0, .O (.D n k)),(1,eB false)] (.s (.O (.V (signed n false) k))) ⟨h0,h1,trivial⟩ ((false=true→n≠0)∧tK (.O (.V (signed n false) k)) (.O (.V (signed n false) k))) ⟨(fun h=>by cases h),(fun _ _ _ _ _ h=>h)⟩
theorem ofV1 {w:World} {v0 v1:Value} {n k:Nat} (h0:(isD n k) w v0) (h1:(isE (.bool true)) w v1) (hn:n=0):Calls Tryz.prog 84 #[v0,v1] w (Ret w fun v w'=>(isV (signed n false) k) w' v):=by
 exact fx ctb8 Tryz.func84 (hnX [(1,[(5,0,oS (eB false))])]) [(0, .O (.D n k)),(1,eB true)] (.s (.O (.V (signed n false) k))) ⟨h0,h1,trivial⟩ (decide ((0:Int)<((Dx.len n:Nat):Int))=false∧(false=true→n≠0)∧tK (.O (.V (signed n false) k)) (.O (.V (signed n false) k))) ⟨decide_eq_false (by rw [hn];decide),(fun h=>by cases h),(fun _ _ _ _ _ h=>h)⟩
theorem ofV2 {w:World} {v0 v1:Value} {n k:Nat} (h0:(isD n k) w v0) (h1:(isE (.bool true)) w v1) (hn:n≠0):Calls Tryz.prog 84 #[v0,v1] w (Ret w fun v w'=>(isV (signed n true) k) w' v):=by
 exact fx ctb8 Tryz.func84 (hnX [(1,[(5,0,oS (eB true))])]) [(0, .O (.D n k)),(1,eB true)] (.s (.O (.V (signed n true) k))) ⟨h0,h1,trivial⟩ (decide ((0:Int)<((Dx.len n:Nat):Int))=true∧(true=true→n≠0)∧tK (.O (.V (signed n true) k)) (.O (.V (signed n true) k))) ⟨decide_eq_true (by have:=dlen_nz hn;omega),(fun _=>hn),(fun _ _ _ _ _ h=>h)⟩
theorem ofV_any {w:World} {v:Value} {n k:Nat} {b:Bool} (h:IsD w v n k):Calls Tryz.prog 84 #[v, .bool b] w (Ret w fun v' w'=>IsV w' v' (signed n b) k):=by
 cases b with
 |false=>exact ofV0 h rfl
 |true=>
  by_cases hn:n=0
  ·have:=ofV1 h rfl hn
   subst hn
   exact this
  ·exact ofV2 h rfl hn
noncomputable def ctb9:List (Ct dk):= [
 ct2 84 0 en84 vD vB (fun x y=> .s (.O (.V (signed x.1 y) x.2))) (fun x y=> []) fun _ _ p _ _ _ h1 h2=>by cases h2;exact ofV_any h1]++ctb8
theorem negV {w:World} {v0:Value} {z:Int} {k:Nat} (h0:(isV z k) w v0):Calls Tryz.prog 85 #[v0] w (Ret w fun v w'=>(isV (-z) k) w' v):=by
 exact fx ctb9 Tryz.func85 (fun _=> []) [(0, .O (.V z k))] (.s (.O (.V (-z) k))) ⟨h0,trivial⟩ (tK (.O (.V (signed (Int.natAbs z) (!(decide (z<0)))) k)) (.O (.V (-z) k))) (fun _ _ _ _ _ h=>neg_dec z▸h)
noncomputable def ctb10:List (Ct dk):= [
 ct1 83 0 en83 vIn (fun x=> .s (.O (.D x 5))) (fun x=> [x≤9223372036854775807]) fun _ p _ _ h1=>by cases h1;exact refSmall_any _ _ p.1,
 ct1 83 1 en83 vI (fun x=> .s (.O (.D (Int.natAbs x) 5))) (fun x=> [0≤x,x≤9223372036854775807]) fun _ p _ _ h1=>by cases h1;exact small_pos (by have:=p.1;omega) p.2.1]++ctb9
theorem fromV1 {w:World} {v0:Value} {n:Int} (h0:(isE (.int .i64 n)) w v0) (hn1: -9223372036854775807≤n) (hn:n<0):Calls Tryz.prog 45 #[v0] w (Ret w fun v w'=>(isV n 5) w' v):=by
 exact fx ctb10 Tryz.func45 (hnX [(1,[(1,0,oS (eB true))]),(2,[(1,0,oS (eI ((n.natAbs:Nat):Int)))])]) [(0,eI n)] (.s (.O (.V n 5))) ⟨h0,trivial⟩ (decide ((n:Int)<0)=true∧tI (IntKind.i64.wrap (-n)) ((n.natAbs:Nat):Int)∧n.natAbs≤9223372036854775807∧tK (.O (.V (signed n.natAbs true) 5)) (.O (.V n 5))) ⟨decide_eq_true hn,⟨rfl,by rw [show (n.natAbs:Int)= -n by omega];exact i64_in (by omega) (by omega)⟩,(by omega),(fun _ _ _ _ _ h=>from_s1 hn▸h)⟩
theorem fromV2 {w:World} {v0:Value} {n:Int} (h0:(isE (.int .i64 n)) w v0) (hn1:n≤9223372036854775807) (hn: ¬n<0):Calls Tryz.prog 45 #[v0] w (Ret w fun v w'=>(isV n 5) w' v):=by
 exact fx ctb10 Tryz.func45 (hnX [(1,[(1,0,oS (eB false))]),(4,[(1,1,none)])]) [(0,eI n)] (.s (.O (.V n 5))) ⟨h0,trivial⟩ (decide ((n:Int)<0)=false∧0≤n∧n≤9223372036854775807∧tK (.O (.V (signed (Int.natAbs n) false) 5)) (.O (.V n 5))) ⟨decide_eq_false hn,(by omega),(by omega),(fun _ _ _ _ _ h=>from_s2 hn▸h)⟩
theorem fromV (w:World) (n:Int) (h1: -9223372036854775807≤n) (h2:n≤9223372036854775807):Calls Tryz.prog 45 #[.int .i64 n] w (Ret w fun v' w'=>IsV w' v' n 5):=by
 by_cases hn:n<0
 ·exact fromV1 rfl h1 hn
 ·exact fromV2 rfl h2 hn
noncomputable def ctb11:List (Ct dk):= [
 ct2 133 0 en133 vD vD (fun x y=> .s (.O (.D (x.1+y.1) (max x.2 y.2+1)))) (fun x y=> [x.2≤4294967296,y.2≤4294967296]) fun _ _ p _ _ _ h1 h2=>refAdd_any _ _ _ _ _ _ _ p.1 p.2.1 h1 h2]++ctb10
theorem addV1 {w:World} {v0 v1:Value} {x y:Int} {k j:Nat} (h0:(isV x k) w v0) (h1:(isV y j) w v1) (hk:k≤4294967296) (hj:j≤4294967296) (he:decide (x<0)=decide (y<0)):Calls Tryz.prog 97 #[v0,v1] w (Ret w fun v w'=>(isV (x+y) (max k j+1)) w' v):=by
 exact fx ctb11 Tryz.func97 (hnX [(1,[(4,0,oS (eB true))])]) [(0, .O (.V x k)),(1, .O (.V y j))] (.s (.O (.V (x+y) (max k j+1)))) ⟨h0,h1,trivial⟩ ((decide (x<0)==decide (y<0))=true∧k≤4294967296∧j≤4294967296∧tK (.O (.V (signed (Int.natAbs x+Int.natAbs y) (decide (x<0))) (max k j+1))) (.O (.V (x+y) (max k j+1)))) ⟨(by simp [he]),(by omega),(by omega),(fun _ _ _ _ _ h=>add_e1 he▸h)⟩
noncomputable def ctb12:List (Ct dk):= [
 ct2 135 0 en135 vD vD (fun x y=> .s (.O (.D (x.1-y.1) x.2))) (fun x y=> [x.2≤4294967296,y.1≤x.1]) fun _ _ p _ _ _ h1 h2=>refSub_any _ _ _ _ _ _ _ p.1 h1 h2 p.2.1,
 ct2 134 0 en134 vD vD (fun x y=> .s (eI (Mx.cmp x.1 y.1))) (fun x y=> [x.2≤4294967296]) fun _ _ p _ _ _ h1 h2=>refCmp_any _ _ _ _ _ _ _ p.1 h1 h2]++ctb11
theorem addV2 {w:World} {v0 v1:Value} {x y:Int} {k j:Nat} (h0:(isV x k) w v0) (h1:(isV y j) w v1) (hk:k≤4294967296) (hj:j≤4294967296) (he:decide (x<0)≠decide (y<0)) (hl:y.natAbs≤x.natAbs):Calls Tryz.prog 97 #[v0,v1] w (Ret w fun v w'=>(isV (x+y) (max k j+1)) w' v):=by
 exact fx ctb12 Tryz.func97 (hnX [(1,[(4,0,oS (eB false))]),(5,[(1,0,oS (eB true))])]) [(0, .O (.V x k)),(1, .O (.V y j))] (.s (.O (.V (x+y) (max k j+1)))) ⟨h0,h1,trivial⟩ ((decide (x<0)==decide (y<0))=false∧k≤4294967296∧decide ((0:Int)≤Mx.cmp (Int.natAbs x) (Int.natAbs y))=true∧k≤4294967296∧Int.natAbs y≤Int.natAbs x∧tK (.O (.V (signed ((Int.natAbs x) -(Int.natAbs y)) (decide (x<0))) k)) (.O (.V (x+y) (max k j+1)))) ⟨(by simpa using he),(by omega),cmp_ge hl,(by omega),(by omega),(fun _ _ _ _ _ h=>IsV.weak (add_e2 he hl▸h) (by omega))⟩
theorem addV3 {w:World} {v0 v1:Value} {x y:Int} {k j:Nat} (h0:(isV x k) w v0) (h1:(isV y j) w v1) (hk:k≤4294967296) (hj:j≤4294967296) (he:decide (x<0)≠decide (y<0)) (hl:x.natAbs<y.natAbs):Calls Tryz.prog 97 #[v0,v1] w (Ret w fun v w'=>(isV (x+y) (max k j+1)) w' v):=by
 exact fx ctb12 Tryz.func97 (hnX [(1,[(4,0,oS (eB false))]),(5,[(1,0,oS (eB false))])]) [(0, .O (.V x k)),(1, .O (.V y j))] (.s (.O (.V (x+y) (max k j+1)))) ⟨h0,h1,trivial⟩ ((decide (x<0)==decide (y<0))=false∧k≤4294967296∧decide ((0:Int)≤Mx.cmp (Int.natAbs x) (Int.natAbs y))=false∧j≤4294967296∧Int.natAbs x≤Int.natAbs y∧tK (.O (.V (signed ((Int.natAbs y) -(Int.natAbs x)) (decide (y<0))) j)) (.O (.V (x+y) (max k j+1)))) ⟨(by simpa using he),(by omega),cmp_nge hl,(by omega),(by omega),(fun _ _ _ _ _ h=>IsV.weak (add_e3 he hl▸h) (by omega))⟩
theorem addV {w:World} {va vb:Value} {x y:Int} {k j:Nat} (hx:IsV w va x k) (hy:IsV w vb y j) (hk:k≤4294967296) (hj:j≤4294967296):Calls Tryz.prog 97 #[va,vb] w (Ret w fun v' w'=>IsV w' v' (x+y) (max k j+1)):=by
 by_cases he:decide (x<0)=decide (y<0)
 ·exact addV1 hx hy hk hj he
 ·by_cases hl:y.natAbs≤x.natAbs
  ·exact addV2 hx hy hk hj he hl
  ·exact addV3 hx hy hk hj he (by omega)
noncomputable def ctb13:List (Ct dk):= [
 ct2 95 0 en95 vD vD (fun x y=> .s (.O (.D (x.1*y.1) (x.2+y.2+1)))) (fun x y=> [x.2≤4294967296,y.2≤4294967296]) fun _ _ p _ _ _ h1 h2=>refMul_any _ _ _ _ _ _ _ p.1 p.2.1 h1 h2]++ctb12
theorem mulV {w:World} {v0 v1:Value} {x y:Int} {k j:Nat} (h0:(isV x k) w v0) (h1:(isV y j) w v1) (hk:k≤4294967296) (hj:j≤4294967296):Calls Tryz.prog 94 #[v0,v1] w (Ret w fun v w'=>(isV (x*y) (k+j+1)) w' v):=by
 exact fx ctb13 Tryz.func94 (fun _=> []) [(0, .O (.V x k)),(1, .O (.V y j))] (.s (.O (.V (x*y) (k+j+1)))) ⟨h0,h1,trivial⟩ (k≤4294967296∧j≤4294967296∧tK (.O (.V (signed (Int.natAbs x*Int.natAbs y) (!(decide (x<0)==decide (y<0)))) (k+j+1))) (.O (.V (x*y) (k+j+1)))) ⟨(by omega),(by omega),(fun _ _ _ _ _ h=>mul_e x y▸h)⟩
noncomputable def ctb14:List (Ct dk):= [
 ct1 54 0 en54 vD (fun x=> .s (.E (.string (str (Tx.text x.1))))) (fun x=> [x.2≤1000000]) fun _ p _ _ h1=>refPrint_any _ _ _ _ h1 p.1]++ctb13
theorem printV {w:World} {v0:Value} {z:Int} {k:Nat} (h0:(isV z k) w v0) (hk:k≤1000000):Calls Tryz.prog 53 #[v0] w (Ret w fun v w'=>(isT (ztext z)) w' v):=by
 have hl:=text_lenV h0
 exact fx ctb14 Tryz.func53 (fun _=> []) [(0, .O (.V z k))] (.s (.E (.string (str (ztext z))))) ⟨h0,trivial⟩ (k≤1000000∧cnd (decide (z<0)) (([45]:List UInt8).length+(Tx.text (Int.natAbs z):List UInt8).length≤9223372036854775807∧tK (.E (.string (str ([45]++Tx.text (Int.natAbs z))))) (.E (.string (str (ztext z))))) (tK (.E (.string (str (Tx.text (Int.natAbs z))))) (.E (.string (str (ztext z)))))) ⟨(by omega),(Classical.em (z<0)).elim (fun h1=>cnd_t (decide_eq_true h1) ⟨(by simp;omega),(fun _ _ _ _ _ h=>h.trans (by rw [ztext,if_pos h1];rfl))⟩) (fun h1=>cnd_f (decide_eq_false h1) (fun _ _ _ _ _ h=>h.trans (by rw [ztext,if_neg h1])))⟩
noncomputable def ctb15:List (Ct dk):= [
 ct2 117 0 en117 vN vN (fun x y=> .t [.O (.N (x.1/y.1) x.2), .O (.N (x.1%y.1) y.2),eI 0]) (fun x y=> [x.2≤1073741824,y.1≠0]) fun _ _ p _ _ _ h1 h2=>div_t h1 h2 p.1 p.2.1,
 ct2 117 1 en117 vN vN (fun x y=> .t [.O (.N 0 0), .O (.N 0 0),eI 8]) (fun x y=> [y.1=0]) fun _ _ p _ _ _ h1 h2=>div0_t h1 h2 p.1]++ctb14
theorem part_z {w:World} {v0 v1:Value} {n m k j:Nat} (h0:(isN n k) w v0) (h1:(isN m j) w v1) (hk:k≤1073741824) (hm:m≠0):Calls Tryz.prog 82 #[v0,v1] w (Ret w fun v w'=>(isN (n/m) k) w' v):=by
 exact fx ctb15 Tryz.func82 (fun _=> []) [(0, .O (.N n k)),(1, .O (.N m j))] (.s (.O (.N (n/m) k))) ⟨h0,h1,trivial⟩ (k≤1073741824∧(m≠0)∧tK (.O (.N (n/m) k)) (.O (.N (n/m) k))) ⟨(by omega),hm,(fun _ _ _ _ _ h=>h)⟩
noncomputable def ctb16:List (Ct dk):= [
 ct2 60 0 en60 vW vW (fun x y=> .s (.O (.W (x.1*y.1) (x.2+y.2)))) (fun x y=> [x.2≤4294967296,y.2≤4294967296]) fun _ _ p _ _ _ h1 h2=>mul_w h1 h2 p.1 p.2.1]++ctb15
theorem times_z {w:World} {v0 v1:Value} {z:Int} {n k j:Nat} (h0:(isW z k) w v0) (h1:(isN n j) w v1) (hk:k≤1073741824) (hj:j≤1073741824):Calls Tryz.prog 58 #[v0,v1] w (Ret w fun v w'=>(isW (z*(n:Nat)) (k+j)) w' v):=by
 exact fx ctb16 Tryz.func58 (fun _=> []) [(0, .O (.W z k)),(1, .O (.N n j))] (.s (.O (.W (z*(n:Nat)) (k+j)))) ⟨h0,h1,trivial⟩ (k≤4294967296∧j≤4294967296∧tK (.O (.W (z*signed n false) (k+j))) (.O (.W (z*(n:Nat)) (k+j)))) ⟨(by omega),(by omega),(fun _ _ _ _ _ h=>h)⟩
noncomputable def ctb17:List (Ct dk):= [
 ct1 44 0 en44 vW (fun x=> .s (.O (.N (Int.natAbs x.1) x.2))) (fun x=> []) fun _ p _ _ h1=>abs_w h1,
 ct2 81 0 en81 vN vN (fun x y=> .s (.O (.N (Nat.gcd x.1 y.1) (max x.2 y.2)))) (fun x y=> [max x.2 y.2≤1073741824]) fun _ _ p _ _ _ h1 h2=>gcd_n (IsN.weak h1 (Nat.le_max_left _ _)) (IsN.weak h2 (Nat.le_max_right _ _)) p.1,
 ct2 82 0 en82 vN vN (fun x y=> .s (.O (.N (x.1/y.1) x.2))) (fun x y=> [x.2≤1073741824,y.1≠0]) fun _ _ p _ _ _ h1 h2=>part_z h1 h2 p.1 p.2.1]++ctb16
theorem cancel_z {w:World} {v0 v1:Value} {z:Int} {n k j:Nat} (h0:(isW z k) w v0) (h1:(isN n j) w v1) (hk:k≤1073741824) (hj:j≤1073741824) (hn:n≠0):Calls Tryz.prog 43 #[v0,v1] w (Ret w fun v w'=>(f0 w (.t [.O (.W (z/(Nat.gcd (Int.natAbs z) n:Nat)) k), .O (.N (n/(Nat.gcd (Int.natAbs z) n)) j)])).p w' v):=by
 have hg:Nat.gcd (Int.natAbs z) n≠0:=Nat.ne_of_gt (Nat.gcd_pos_of_pos_right _ (by omega))
 exact fx ctb17 Tryz.func43 (fun _=> []) [(0, .O (.W z k)),(1, .O (.N n j))] (.t [.O (.W (z/(Nat.gcd (Int.natAbs z) n:Nat)) k), .O (.N (n/(Nat.gcd (Int.natAbs z) n)) j)]) ⟨h0,h1,trivial⟩ (max k j≤1073741824∧k≤1073741824∧((Nat.gcd (Int.natAbs z) n)≠0)∧j≤1073741824∧((Nat.gcd (Int.natAbs z) n)≠0)∧(tK (.O (.W (signed (Int.natAbs z/(Nat.gcd (Int.natAbs z) n)) (decide ((Int.sign z:Int)<0))) k)) (.O (.W (z/(Nat.gcd (Int.natAbs z) n:Nat)) k))∧tK (.O (.N (n/(Nat.gcd (Int.natAbs z) n)) j)) (.O (.N (n/(Nat.gcd (Int.natAbs z) n)) j))∧True)) ⟨(by omega),(by omega),hg,(by omega),hg,⟨(fun _ _ _ _ _ h=>signed_div (Nat.gcd_dvd_left _ _)▸h),(fun _ _ _ _ _ h=>h),trivial⟩⟩
theorem den_f0 {w:World} {v0:Value} {z:Int} {n k:Nat} (h0:(isF z n k) w v0) (hn:n=0):Calls Tryz.prog 49 #[v0] w (Ret w fun v w'=>(isN 1 1) w' v):=by
 exact fx ctb17 Tryz.func49 (hnX [(1,[(2,0,oS (eB true))])]) [(0, .O (.F z n k))] (.s (.O (.N 1 1))) ⟨h0,trivial⟩ ((n==0)=true∧1<Mx.B∧tK (.O (.N 1 1)) (.O (.N 1 1))) ⟨(by simp [hn]),small_lt (by decide),(fun _ _ _ _ _ h=>h)⟩
theorem den_f1 {w:World} {v0:Value} {z:Int} {n k:Nat} (h0:(isF z n k) w v0) (hn:n≠0):Calls Tryz.prog 49 #[v0] w (Ret w fun v w'=>(isN n k) w' v):=by
 exact fx ctb17 Tryz.func49 (hnX [(1,[(2,0,oS (eB false))])]) [(0, .O (.F z n k))] (.s (.O (.N n k))) ⟨h0,trivial⟩ ((n==0)=false∧tK (.O (.N n k)) (.O (.N n k))) ⟨(by simp [hn]),(fun _ _ _ _ _ h=>h)⟩
theorem den_q {w:World} {v:Value} {q:Rat} {k:Nat} (h:isQ q k w v):Calls Tryz.prog 49 #[v] w (Ret w fun v' w'=>isN q.den k w' v'):=by
 obtain ⟨hk,n,h1,h2⟩:=h
 by_cases hn:n=0
 ·refine (den_f0 h1 hn).mono fun _ _ r=>r.mono fun _ _ g=> ?_
  rcases h2 with e|⟨_,e⟩
  ·exact absurd (e.symm.trans hn) q.den_nz
  ·subst e
   exact g.weak hk
 ·refine (den_f1 h1 hn).mono fun _ _ r=>r.mono fun _ _ g=> ?_
  rcases h2 with e|⟨e,_⟩
  ·subst e;exact g
  ·exact absurd e hn
noncomputable def ctb18:List (Ct dk):= [
 ct2 59 0 en59 vW vW (fun x y=> .s (eI (Int.sign (x.1-y.1)))) (fun x y=> [x.2≤4294967296,y.2≤4294967296]) fun _ _ p _ _ _ h1 h2=>cmp_w h1 h2 p.1 p.2.1,
 ct2 58 0 en58 vW vN (fun x y=> .s (.O (.W (x.1*(y.1:Nat)) (x.2+y.2)))) (fun x y=> [x.2≤1073741824,y.2≤1073741824]) fun _ _ p _ _ _ h1 h2=>times_z h1 h2 p.1 p.2.1,
 ct1 49 0 en49 vQ (fun x=> .s (.O (.N x.1.den x.2))) (fun x=> []) fun _ p _ _ h1=>den_q h1]++ctb17
noncomputable def ctb19:List (Ct dk):= [
 ct2 87 0 en87 vW vW (fun x y=> .s (.O (.W (x.1+y.1) (max x.2 y.2+1)))) (fun x y=> [x.2≤4294967296,y.2≤4294967296]) fun _ _ p _ _ _ h1 h2=>add_w h1 h2 p.1 p.2.1,
 ct2 43 0 en43 vW vN (fun x y=> .t [.O (.W (x.1/(Nat.gcd (Int.natAbs x.1) y.1:Nat)) x.2), .O (.N (y.1/Nat.gcd (Int.natAbs x.1) y.1) y.2)]) (fun x y=> [x.2≤1073741824,y.2≤1073741824,y.1≠0]) fun _ _ p _ _ _ h1 h2=>cancel_z h1 h2 p.1 p.2.1 p.2.2.1]++ctb18
theorem add_q {w:World} {v0 v1:Value} {x y:Rat} {k j:Nat} (h0:(isQ x k) w v0) (h1:(isQ y j) w v1) (hk:k≤268435456) (hj:j≤268435456):Calls Tryz.prog 48 #[v0,v1] w (Ret w fun v w'=>(isQ (x+y) (k+j+1)) w' v):=by
 have hx1:=h0.num_len
 have hx2:=h0.den_len
 have hy1:=h1.num_len
 have hy2:=h1.den_len
 have hxd:=x.den_nz
 have hyd:=y.den_nz
 have hx0:=h0.1
 have hy0:=h1.1
 have hg:Nat.gcd x.den y.den≠0:=Nat.ne_of_gt (Nat.gcd_pos_of_pos_left _ x.den_pos)
 exact fx ctb19 Tryz.func48 (fun _=> []) [(0, .O (.Q x k)),(1, .O (.Q y j))] (.s (.O (.Q (x+y) (k+j+1)))) ⟨h0,h1,trivial⟩ (max k j≤1073741824∧k≤1073741824∧((Nat.gcd x.den y.den)≠0)∧j≤1073741824∧((Nat.gcd x.den y.den)≠0)∧k≤1073741824∧j≤1073741824∧j≤1073741824∧k≤1073741824∧(k+j)≤4294967296∧(j+k)≤4294967296∧(max (k+j) (j+k)+1)≤1073741824∧max k j≤1073741824∧((Nat.gcd x.den y.den)≠0)∧k≤4294967296∧j≤4294967296∧(k+j)≤4294967296∧max k j≤4294967296∧tK (.O (.F (((x.num*(y.den/(Nat.gcd x.den y.den):Nat))+(y.num*(x.den/(Nat.gcd x.den y.den):Nat)))/(Nat.gcd (Int.natAbs ((x.num*(y.den/(Nat.gcd x.den y.den):Nat))+(y.num*(x.den/(Nat.gcd x.den y.den):Nat)))) (Nat.gcd x.den y.den):Nat)) (((x.den/(Nat.gcd x.den y.den))*(y.den/(Nat.gcd x.den y.den)))*(Nat.gcd x.den y.den/Nat.gcd (Int.natAbs ((x.num*(y.den/(Nat.gcd x.den y.den):Nat))+(y.num*(x.den/(Nat.gcd x.den y.den):Nat)))) (Nat.gcd x.den y.den))) (max (max (k+j) (j+k)+1) ((k+j)+max k j)))) (.O (.Q (x+y) (k+j+1)))) ⟨(by omega),(by omega),hg,(by omega),hg,(by omega),(by omega),(by omega),(by omega),(by omega),(by omega),(by omega),(by omega),hg,(by omega),(by omega),(by omega),(by omega),(fun _ _ _ _ _ h=>IsF.sum h (add_rat x y rfl rfl rfl) hx1 hx2 hy1 hy2)⟩
noncomputable def ctb20:List (Ct dk):= [
 ct1 42 0 en42 vW (fun x=> .s (.O (.W (-x.1) x.2))) (fun x=> []) fun _ p _ _ h1=>neg_w h1]++ctb19
theorem of_neg {w:World} {v0 v1:Value} {z n:Int} {k j:Nat} (h0:(isW z k) w v0) (h1:(isW n j) w v1) (hk:k≤268435456) (hj:j≤268435456) (hn:n<0):Calls Tryz.prog 14 #[v0,v1] w (Ret w fun v w'=>(f0 w (.t [.O (.Q (z/(n:Rat)) (max k j+1)),eI 0])).p w' v):=by
 exact fx ctb20 Tryz.func14 (hnX [(1,[(2,0,oS (eB false))]),(3,[(2,0,oS (eB true))])]) [(0, .O (.W z k)),(1, .O (.W n j))] (.t [.O (.Q (z/(n:Rat)) (max k j+1)),eI 0]) ⟨h0,h1,trivial⟩ (decide ((Int.sign n:Int)=0)=false∧decide ((Int.sign n:Int)<0)=true∧k≤1073741824∧j≤1073741824∧((Int.natAbs n)≠0)∧(tK (.O (.F ((-z)/(Nat.gcd (Int.natAbs (-z)) (Int.natAbs n):Nat)) (Int.natAbs n/Nat.gcd (Int.natAbs (-z)) (Int.natAbs n)) (max k j))) (.O (.Q (z/(n:Rat)) (max k j+1)))∧tI 0 0∧True)) ⟨(by simp [Int.sign_eq_zero_iff_zero];omega),(by simp [Int.sign_neg_iff];omega),(by omega),(by omega),(by omega),⟨(fun _ _ _ _ _ h=>IsF.of h (by omega) (of_rat_neg hn)),⟨rfl,rfl⟩,trivial⟩⟩
theorem of_pos {w:World} {v0 v1:Value} {z n:Int} {k j:Nat} (h0:(isW z k) w v0) (h1:(isW n j) w v1) (hk:k≤268435456) (hj:j≤268435456) (hn:0<n):Calls Tryz.prog 14 #[v0,v1] w (Ret w fun v w'=>(f0 w (.t [.O (.Q (z/(n:Rat)) (max k j+1)),eI 0])).p w' v):=by
 exact fx ctb20 Tryz.func14 (hnX [(1,[(2,0,oS (eB false))]),(3,[(2,0,oS (eB false))])]) [(0, .O (.W z k)),(1, .O (.W n j))] (.t [.O (.Q (z/(n:Rat)) (max k j+1)),eI 0]) ⟨h0,h1,trivial⟩ (decide ((Int.sign n:Int)=0)=false∧decide ((Int.sign n:Int)<0)=false∧k≤1073741824∧j≤1073741824∧((Int.natAbs n)≠0)∧(tK (.O (.F (z/(Nat.gcd (Int.natAbs z) (Int.natAbs n):Nat)) (Int.natAbs n/Nat.gcd (Int.natAbs z) (Int.natAbs n)) (max k j))) (.O (.Q (z/(n:Rat)) (max k j+1)))∧tI 0 0∧True)) ⟨(by simp [Int.sign_eq_zero_iff_zero];omega),(by simp [Int.sign_neg_iff];omega),(by omega),(by omega),(by omega),⟨(fun _ _ _ _ _ h=>IsF.of h (by omega) (of_rat_pos hn)),⟨rfl,rfl⟩,trivial⟩⟩
noncomputable def ctb21:List (Ct dk):= [
 ct1 51 0 en51 vW (fun x=> .s (.E (.string (str (ztext x.1))))) (fun x=> [x.2≤536870912]) fun _ p _ _ h1=>print_w h1 p.1]++ctb20
theorem print_q1 {w:World} {v0:Value} {q:Rat} {k:Nat} (h0:(isQ q k) w v0) (hk:k≤268435456) (hd:q.den=1):Calls Tryz.prog 19 #[v0] w (Ret w fun v w'=>(isT (qtext q)) w' v):=by
 exact fx ctb21 Tryz.func19 (hnX [(1,[(5,0,oS (eB true))])]) [(0, .O (.Q q k))] (.s (.E (.string (str (qtext q))))) ⟨h0,trivial⟩ (1<Mx.B∧k≤4294967296∧decide ((Mx.cmp q.den 1:Int)=0)=true∧k≤536870912∧tK (.E (.string (str (ztext q.num)))) (.E (.string (str (qtext q))))) ⟨small_lt (by decide),(by omega),(by rw [Mx.cmp_eq hd];rfl),(by omega),(fun _ _ _ _ _ h=>by rw [qtext,if_pos hd];exact h)⟩
theorem print_q2 {w:World} {v0:Value} {q:Rat} {k:Nat} (h0:(isQ q k) w v0) (hk:k≤268435456) (hd:q.den≠1):Calls Tryz.prog 19 #[v0] w (Ret w fun v w'=>(isT (qtext q)) w' v):=by
 have hl1:=ztext_len h0.num_len
 have hl2:=text_len h0.den_len
 exact fx ctb21 Tryz.func19 (hnX [(1,[(5,0,oS (eB false))])]) [(0, .O (.Q q k))] (.s (.E (.string (str (qtext q))))) ⟨h0,trivial⟩ (1<Mx.B∧k≤4294967296∧decide ((Mx.cmp q.den 1:Int)=0)=false∧k≤536870912∧(ztext q.num:List UInt8).length+([47]:List UInt8).length≤9223372036854775807∧k≤536870912∧(ztext q.num++ [47]:List UInt8).length+(Tx.text q.den:List UInt8).length≤9223372036854775807∧tK (.E (.string (str ((ztext q.num++ [47])++Tx.text q.den)))) (.E (.string (str (qtext q))))) ⟨small_lt (by decide),(by omega),cmp_zero hd,(by omega),(by simp;omega),(by omega),(by simp;omega),(fun _ _ _ _ _ h=>by rw [qtext,if_neg hd];exact h)⟩
theorem print_q {w:World} {v:Value} {q:Rat} {k:Nat} (h:isQ q k w v) (hk:k≤268435456):Calls Tryz.prog 19 #[v] w (Ret w fun v' w'=>isT (qtext q) w' v'):=by
 by_cases hd:q.den=1
 ·exact print_q1 h hk hd
 ·exact print_q2 h hk hd
theorem of_q {w:World} {v0 v1:Value} {z n:Int} {k j:Nat} (h0:isW z k w v0) (h1:isW n j w v1) (hk:k≤268435456) (hj:j≤268435456) (hn:n≠0):Calls Tryz.prog 14 #[v0,v1] w (Ret w fun v w'=>(Kd.T (cx:=cxA w) [kQ (z/(n:Rat)) (max k j+1), .E (.int .i64 0)]).p w' v):=by
 rcases Int.lt_or_gt_of_ne hn with h|h
 ·exact of_neg h0 h1 hk hj h
 ·exact of_pos h0 h1 hk hj h
noncomputable def ctb22:List (Ct dk):= [
 ct2 122 0 en122 vD vD (fun x y=> .t [.O (.D (x.1/y.1) x.2), .O (.D (x.1%y.1) y.2)]) (fun x y=> [x.2≤1048576,y.2≤1048576,0<y.1]) fun _ _ p _ _ _ h1 h2=>refDivMod_t h1 h2 p.1 p.2.1 p.2.2.1,
 ct2 121 0 en121 vD vD (fun x y=> .s (.O (.D (Nat.gcd x.1 y.1) (max x.2 y.2)))) (fun x y=> [max x.2 y.2≤1048576]) fun _ _ p _ _ _ h1 h2=>refGcd_any _ _ _ _ _ _ p.1 (IsD.weak' h1 (Nat.le_max_left _ _)) (IsD.weak' h2 (Nat.le_max_right _ _))]++ctb21
theorem make_r {w:World} {v0 v1:Value} {z:Int} {n k j:Nat} (h0:(isV z k) w v0) (h1:(isD n j) w v1) (hk:k≤100000) (hj:j≤100000) (hn:n≠0):Calls Tryz.prog 86 #[v0,v1] w (Ret w fun v w'=>(isR (mkRat z n) (max k j)) w' v):=by
 have hg:0<Nat.gcd (Int.natAbs z) n:=Nat.gcd_pos_of_pos_right _ (by omega)
 exact fx ctb22 Tryz.func86 (fun _=> []) [(0, .O (.V z k)),(1, .O (.D n j))] (.s (.O (.R (mkRat z n) (max k j)))) ⟨h0,h1,trivial⟩ (max k j≤1048576∧k≤1048576∧max k j≤1048576∧0<Nat.gcd (Int.natAbs z) n∧j≤1048576∧max k j≤1048576∧0<Nat.gcd (Int.natAbs z) n∧tK (.O (.G (signed (Int.natAbs z/(Nat.gcd (Int.natAbs z) n)) (decide (z<0))) (n/(Nat.gcd (Int.natAbs z) n)) (max k j))) (.O (.R (mkRat z n) (max k j)))) ⟨(by omega),(by omega),(by omega),hg,(by omega),(by omega),hg,(fun _ _ _ _ _ h=>IsG.r h (by rw [signed_div' (Nat.gcd_dvd_left _ _)];exact cancel_rat hn) (Nat.le_refl _))⟩
noncomputable def ctb23:List (Ct dk):= [
 ct2 94 0 en94 vV vV (fun x y=> .s (.O (.V (x.1*y.1) (x.2+y.2+1)))) (fun x y=> [x.2≤4294967296,y.2≤4294967296]) fun _ _ p _ _ _ h1 h2=>mulV h1 h2 p.1 p.2.1]++ctb22
theorem cross_r {w:World} {v0 v1:Value} {x y:Rat} {k j:Nat} (h0:(isR x k) w v0) (h1:(isR y j) w v1) (hk:k≤100000) (hj:j≤100000):Calls Tryz.prog 96 #[v0,v1] w (Ret w fun v w'=>(isV (x.num*(y.den:Nat)) (k+j+1)) w' v):=by
 exact fx ctb23 Tryz.func96 (fun _=> []) [(0, .O (.R x k)),(1, .O (.R y j))] (.s (.O (.V (x.num*(y.den:Nat)) (k+j+1)))) ⟨h0,h1,trivial⟩ (k≤4294967296∧j≤4294967296∧tK (.O (.V (x.num*signed y.den false) (k+j+1))) (.O (.V (x.num*(y.den:Nat)) (k+j+1)))) ⟨(by omega),(by omega),(fun _ _ _ _ _ h=>h)⟩
noncomputable def ctb24:List (Ct dk):= [
 ct1 85 0 en85 vV (fun x=> .s (.O (.V (-x.1) x.2))) (fun x=> []) fun _ p _ _ h1=>negV h1,
 ct2 86 0 en86 vV vD (fun x y=> .s (.O (.R (mkRat x.1 y.1) (max x.2 y.2)))) (fun x y=> [x.2≤100000,y.2≤100000,y.1≠0]) fun _ _ p _ _ _ h1 h2=>make_r h1 h2 p.1 p.2.1 p.2.2.1]++ctb23
theorem of_r1 {w:World} {v0 v1:Value} {z n:Int} {k j:Nat} (h0:(isV z k) w v0) (h1:(isV n j) w v1) (hk:k≤100000) (hj:j≤100000) (hn:n<0):Calls Tryz.prog 46 #[v0,v1] w (Ret w fun v w'=>(isR (((z:Int):Rat)/((n:Int):Rat)) (max k j)) w' v):=by
 exact fx ctb24 Tryz.func46 (hnX [(1,[(1,0,oS (eB true))])]) [(0, .O (.V z k)),(1, .O (.V n j))] (.s (.O (.R (((z:Int):Rat)/((n:Int):Rat)) (max k j)))) ⟨h0,h1,trivial⟩ (decide (n<0)=true∧k≤100000∧j≤100000∧((Int.natAbs n)≠0)∧tK (.O (.R (mkRat (-z) (Int.natAbs n)) (max k j))) (.O (.R (((z:Int):Rat)/((n:Int):Rat)) (max k j)))) ⟨decide_eq_true hn,(by omega),(by omega),(by omega),(fun _ _ _ _ _ h=>IsR.eq h (of_rat_neg_eq hn).symm)⟩
theorem of_r2 {w:World} {v0 v1:Value} {z n:Int} {k j:Nat} (h0:(isV z k) w v0) (h1:(isV n j) w v1) (hk:k≤100000) (hj:j≤100000) (hn:0<n):Calls Tryz.prog 46 #[v0,v1] w (Ret w fun v w'=>(isR (((z:Int):Rat)/((n:Int):Rat)) (max k j)) w' v):=by
 exact fx ctb24 Tryz.func46 (hnX [(1,[(1,0,oS (eB false))])]) [(0, .O (.V z k)),(1, .O (.V n j))] (.s (.O (.R (((z:Int):Rat)/((n:Int):Rat)) (max k j)))) ⟨h0,h1,trivial⟩ (decide (n<0)=false∧k≤100000∧j≤100000∧((Int.natAbs n)≠0)∧tK (.O (.R (mkRat z (Int.natAbs n)) (max k j))) (.O (.R (((z:Int):Rat)/((n:Int):Rat)) (max k j)))) ⟨decide_eq_false (by omega),(by omega),(by omega),(by omega),(fun _ _ _ _ _ h=>IsR.eq h (of_rat_pos_eq hn).symm)⟩
theorem of_r {w:World} {v0 v1:Value} {z n:Int} {k j:Nat} (h0:isV z k w v0) (h1:isV n j w v1) (hk:k≤100000) (hj:j≤100000) (hn:n≠0):Calls Tryz.prog 46 #[v0,v1] w (Ret w fun v w'=>isR (((z:Int):Rat)/((n:Int):Rat)) (max k j) w' v):=by
 rcases Int.lt_or_gt_of_ne hn with h|h
 ·exact of_r1 h0 h1 hk hj h
 ·exact of_r2 h0 h1 hk hj h
noncomputable def ctb25:List (Ct dk):= [
 ct2 97 0 en97 vV vV (fun x y=> .s (.O (.V (x.1+y.1) (max x.2 y.2+1)))) (fun x y=> [x.2≤4294967296,y.2≤4294967296]) fun _ _ p _ _ _ h1 h2=>addV h1 h2 p.1 p.2.1,
 ct2 96 0 en96 vR vR (fun x y=> .s (.O (.V (x.1.num*(y.1.den:Nat)) (x.2+y.2+1)))) (fun x y=> [x.2≤100000,y.2≤100000]) fun _ _ p _ _ _ h1 h2=>cross_r h1 h2 p.1 p.2.1]++ctb24
theorem add_r {w:World} {v0 v1:Value} {x y:Rat} {k j:Nat} (h0:(isR x k) w v0) (h1:(isR y j) w v1) (hk:k≤10000) (hj:j≤10000):Calls Tryz.prog 57 #[v0,v1] w (Ret w fun v w'=>(isR (x+y) (k+j+2)) w' v):=by
 exact fx ctb25 Tryz.func57 (fun _=> []) [(0, .O (.R x k)),(1, .O (.R y j))] (.s (.O (.R (x+y) (k+j+2)))) ⟨h0,h1,trivial⟩ (k≤100000∧j≤100000∧j≤100000∧k≤100000∧(k+j+1)≤4294967296∧(j+k+1)≤4294967296∧k≤4294967296∧j≤4294967296∧(max (k+j+1) (j+k+1)+1)≤100000∧(k+j+1)≤100000∧((x.den*y.den)≠0)∧tK (.O (.R (mkRat ((x.num*(y.den:Nat))+(y.num*(x.den:Nat))) (x.den*y.den)) (max (max (k+j+1) (j+k+1)+1) (k+j+1)))) (.O (.R (x+y) (k+j+2)))) ⟨(by omega),(by omega),(by omega),(by omega),(by omega),(by omega),(by omega),(by omega),(by omega),(by omega),Nat.ne_of_gt (Nat.mul_pos x.den_pos y.den_pos),(fun _ _ _ _ _ h=>(IsR.eq h (Rat.add_def' x y).symm).weak (by omega))⟩
noncomputable def ctb26:List (Ct dk):= [
 ct1 53 0 en53 vV (fun x=> .s (.E (.string (str (ztext x.1))))) (fun x=> [x.2≤1000000]) fun _ p _ _ h1=>printV h1 p.1]++ctb25
end Go.Proofs.YtjpilacbapibjaaGreatDoor.X
namespace Go.Proofs.YtjpilacbapibjaaGreatDoor.Da
def leapI (y:Int):Bool:=decide (1≤y∧y≤9999)&&(decide (y%400=0)||(decide (y%4=0)&& !decide (y%100=0)))
def dayI (y m:Int):Int:=if 1≤y∧y≤9999∧1≤m∧m≤12 then (if m=2 then (if leapI y then 29 else 28) else if m=4∨m=6∨m=9∨m=11 then 30 else 31) else 0
def rightI (y m d:Int):Prop:=1≤d∧d≤dayI y m
instance (y m d:Int):Decidable (rightI y m d):=inferInstanceAs (Decidable (_∧_))
theorem leap_iff {y:Int}:leapI y=true↔(1≤y∧y≤9999)∧(y%400=0∨(y%4=0∧ ¬y%100=0)):=by
 unfold leapI
 simp only [Bool.and_eq_true,Bool.or_eq_true,decide_eq_true_eq,Bool.not_eq_true',decide_eq_false_iff_not]
theorem day_of {y m:Int} (hy:1≤y∧y≤9999) (hm:1≤m∧m≤12):28≤dayI y m∧dayI y m≤31:=by
 unfold dayI
 rw [if_pos ⟨hy.1,hy.2,hm.1,hm.2⟩]
 repeat' split
 all_goals omega
theorem day_none {y m:Int} (h: ¬(1≤y∧y≤9999∧1≤m∧m≤12)):dayI y m=0:=by
 unfold dayI
 rw [if_neg h]
theorem right_in {y m d:Int} (h:rightI y m d):(1≤y∧y≤9999)∧(1≤m∧m≤12)∧1≤d∧d≤dayI y m∧d≤31:=by
 obtain ⟨h1,h2⟩:=h
 by_cases hx:1≤y∧y≤9999∧1≤m∧m≤12
 ·have:=(day_of ⟨hx.1,hx.2.1⟩ ⟨hx.2.2.1,hx.2.2.2⟩).2
  exact ⟨⟨hx.1,hx.2.1⟩,⟨hx.2.2.1,hx.2.2.2⟩,h1,h2,by omega⟩
 ·rw [day_none hx] at h2
  omega
def yrI (y:Int):Int:=if leapI y then 366 else 365
def yS:Nat→Int
 |0=>0
 |n+1=>yS n+yrI ((n:Int)+1)
theorem yS_eq: ∀n:Nat,n≤9999→yS n=365*(n:Int)+(n:Int)/4-(n:Int)/100+(n:Int)/400:=by
 intro n
 induction n with
 |zero=>intro _;rfl
 |succ n ih=>
  intro h
  have ih:=ih (by omega)
  show yS n+yrI ((n:Int)+1)=_
  unfold yrI
  have hl:=leap_iff (y:=(n:Int)+1)
  split
  ·next hx=>
   have:=hl.1 hx
   omega
  ·next hx=>
   have hx': ¬((1≤(n:Int)+1∧(n:Int)+1≤9999)∧(((n:Int)+1)%400=0∨(((n:Int)+1)%4=0∧ ¬((n:Int)+1)%100=0))):=fun e=>hx (hl.2 e)
   omega
theorem yr_lo (y:Int):365≤yrI y∧yrI y≤366:=by
 unfold yrI
 split<;>omega
theorem yS_mono: ∀{n m:Nat},n≤m→yS n+365*((m:Int) -n)≤yS m:=by
 intro n m h
 induction m with
 |zero=>
  obtain rfl:n=0:=by omega
  simp
 |succ m ih=>
  rcases Nat.lt_or_ge m n with h1|h1
  ·obtain rfl:n=m+1:=by omega
   simp
  ·have h2:=ih h1
   have h3:=yr_lo ((m:Int)+1)
   show _≤yS m+yrI ((m:Int)+1)
   omega
theorem yS_last:yS 9999=3652059:=by rw [yS_eq 9999 (by omega)];rfl
def mS (y:Int):Nat→Int
 |0=>0
 |n+1=>mS y n+dayI y ((n:Int)+1)
theorem mS_year {y:Int} (hy:1≤y∧y≤9999):mS y 12=yrI y:=by
 have hd: ∀m:Int,1≤m∧m≤12→dayI y m=(if m=2 then (if leapI y then 29 else 28) else if m=4∨m=6∨m=9∨m=11 then 30 else 31):=fun m hm=>by
  unfold dayI
  rw [if_pos ⟨hy.1,hy.2,hm.1,hm.2⟩]
 simp only [mS]
 rw [hd _ (by decide),hd _ (by decide),hd _ (by decide),hd _ (by decide),hd _ (by decide),hd _ (by decide),hd _ (by decide),hd _ (by decide),hd _ (by decide),hd _ (by decide),hd _ (by decide),hd _ (by decide)]
 unfold yrI
 cases leapI y<;>rfl
theorem mS_le {y:Int} (hy:1≤y∧y≤9999): ∀{n m:Nat},n≤m→m≤12→mS y n≤mS y m:=by
 intro n m h hm
 induction m with
 |zero=>
  obtain rfl:n=0:=by omega
  exact Int.le_refl _
 |succ m ih=>
  rcases Nat.lt_or_ge m n with h1|h1
  ·obtain rfl:n=m+1:=by omega
   exact Int.le_refl _
  ·have h2:=ih h1 (by omega)
   have h3:=(day_of hy (m:=(m:Int)+1) ⟨by omega,by omega⟩).1
   show _≤mS y m+dayI y ((m:Int)+1)
   omega
def numI (y m d:Int):Int:=yS (y-1).toNat+mS y (m-1).toNat+d
theorem num_year {y m d:Int} (h:rightI y m d):yS (y-1).toNat<numI y m d∧numI y m d≤yS y.toNat:=by
 obtain ⟨hy,hm,h1,h2,_⟩:=right_in h
 have a:=mS_le hy (n:=0) (m:=(m-1).toNat) (by omega) (by omega)
 have b:=mS_le hy (n:=m.toNat) (m:=12) (by omega) (by omega)
 rw [mS_year hy] at b
 have c:mS y m.toNat=mS y (m-1).toNat+dayI y m:=by
  obtain ⟨k,hk⟩: ∃k:Nat,m=(k:Int)+1:=⟨(m-1).toNat,by omega⟩
  subst hk
  rw [show ((k:Int)+1).toNat=k+1 by omega,show ((k:Int)+1-1).toNat=k by omega]
  rfl
 have e:yS y.toNat=yS (y-1).toNat+yrI y:=by
  obtain ⟨k,hk⟩: ∃k:Nat,y=(k:Int)+1:=⟨(y-1).toNat,by omega⟩
  subst hk
  rw [show ((k:Int)+1).toNat=k+1 by omega,show ((k:Int)+1-1).toNat=k by omega]
  rfl
 have z:mS y 0=0:=rfl
 unfold numI
 omega
theorem num_in {y m d:Int} (h:rightI y m d):1≤numI y m d∧numI y m d≤3652059:=by
 obtain ⟨h1,h2⟩:=num_year h
 obtain ⟨hy,_⟩:=right_in h
 have a:=yS_mono (n:=0) (m:=(y-1).toNat) (by omega)
 have b:=yS_mono (n:=y.toNat) (m:=9999) (by omega)
 rw [yS_last] at b
 have z:yS 0=0:=rfl
 omega
theorem mS_step {y m:Int} (hm:1≤m):mS y m.toNat=mS y (m-1).toNat+dayI y m:=by
 obtain ⟨k,hk⟩: ∃k:Nat,m=(k:Int)+1:=⟨(m-1).toNat,by omega⟩
 subst hk
 rw [show ((k:Int)+1).toNat=k+1 by omega,show ((k:Int)+1-1).toNat=k by omega]
 rfl
def before (y m d y' m' d':Int):Prop:=y<y'∨(y=y'∧(m<m'∨(m=m'∧d<d')))
theorem num_lt {y m d y' m' d':Int} (h:rightI y m d) (h':rightI y' m' d') (hb:before y m d y' m' d'):numI y m d<numI y' m' d':=by
 obtain ⟨hy,hm,h1,h2,_⟩:=right_in h
 obtain ⟨hy',hm',h1',h2',_⟩:=right_in h'
 rcases hb with hb|⟨rfl,hb|⟨rfl,hb⟩⟩
 ·have a:=(num_year h).2
  have b:=(num_year h').1
  have c:=yS_mono (n:=y.toNat) (m:=(y'-1).toNat) (by omega)
  omega
 ·have a:=mS_step (y:=y) hm.1
  have b:=mS_le hy (n:=m.toNat) (m:=(m'-1).toNat) (by omega) (by omega)
  unfold numI
  omega
 ·unfold numI
  omega
theorem before_or (y m d y' m' d':Int):before y m d y' m' d'∨(y=y'∧m=m'∧d=d')∨before y' m' d' y m d:=by
 unfold before
 omega
theorem num_inj {y m d y' m' d':Int} (h:rightI y m d) (h':rightI y' m' d') (e:numI y m d=numI y' m' d'):y=y'∧m=m'∧d=d':=by
 rcases before_or y m d y' m' d' with hb|hb|hb
 ·have:=num_lt h h' hb
  omega
 ·exact hb
 ·have:=num_lt h' h hb
  omega
theorem num_of {n:Int} (h1:1≤n) (h2:n≤3652059): ∃y m d,rightI y m d∧numI y m d=n:=by
 have key: ∀k:Nat,k≤9999→n≤yS k→ ∃j:Nat,j<k∧yS j<n∧n≤yS (j+1):=by
  intro k
  induction k with
  |zero=>intro _ h;have:yS 0=0:=rfl;omega
  |succ k ih=>
   intro hk h
   by_cases hx:n≤yS k
   ·obtain ⟨j,a,b,c⟩:=ih (by omega) hx
    exact ⟨j,by omega,b,c⟩
   ·exact ⟨k,by omega,by omega,h⟩
 obtain ⟨j,hj,a,b⟩:=key 9999 (Nat.le_refl _) (by rw [yS_last];exact h2)
 have hy:1≤(j:Int)+1∧(j:Int)+1≤9999:=by omega
 have b':n-yS j≤mS ((j:Int)+1) 12:=by
  rw [mS_year hy]
  have:yS (j+1)=yS j+yrI ((j:Int)+1):=rfl
  omega
 have key2: ∀k:Nat,k≤12→n-yS j≤mS ((j:Int)+1) k→ ∃i:Nat,i<k∧mS ((j:Int)+1) i<n-yS j∧n-yS j≤mS ((j:Int)+1) (i+1):=by
  intro k
  induction k with
  |zero=>intro _ h;have:mS ((j:Int)+1) 0=0:=rfl;omega
  |succ k ih=>
   intro hk h
   by_cases hx:n-yS j≤mS ((j:Int)+1) k
   ·obtain ⟨i,a,b,c⟩:=ih (by omega) hx
    exact ⟨i,by omega,b,c⟩
   ·exact ⟨k,by omega,by omega,h⟩
 obtain ⟨i,hi,c,d⟩:=key2 12 (Nat.le_refl _) b'
 have e:mS ((j:Int)+1) (i+1)=mS ((j:Int)+1) i+dayI ((j:Int)+1) ((i:Int)+1):=rfl
 refine ⟨(j:Int)+1,(i:Int)+1,n-yS j-mS ((j:Int)+1) i,⟨by omega,by omega⟩, ?_⟩
 unfold numI
 rw [show ((j:Int)+1-1).toNat=j by omega,show ((i:Int)+1-1).toNat=i by omega]
 omega
end Go.Proofs.YtjpilacbapibjaaGreatDoor.Da
namespace Go.Proofs.YtjpilacbapibjaaGreatDoor.Da
def dig (k:Nat):UInt8:=UInt8.ofNat (48+k%10)
def dv (b:UInt8):Nat:=b.toNat-48
def dText (y m d:Nat):List UInt8:= [dig (y/1000),dig (y/100),dig (y/10),dig y,45,dig (m/10),dig m,45,dig (d/10),dig d]
theorem text_len (y m d:Nat):(dText y m d).length=10:=rfl
end Go.Proofs.YtjpilacbapibjaaGreatDoor.Da
namespace Go.Proofs.YtjpilacbapibjaaGreatDoor.Da
theorem wrap_mod {z k:Int} (hk:0<k):(if z.tmod k<0 then z.tmod k+k else z.tmod k)=z%k:=by
 have h1:=Int.tmod_add_mul_tdiv z k
 rcases Int.lt_or_le z 0 with hz|hz
 ·have e:z.tmod k= -((-z)%k):=by
   rw [←Int.tmod_eq_emod_of_nonneg (by omega),Int.neg_tmod,Int.neg_neg]
  have h2:=Int.emod_nonneg (-z) (show k≠0 by omega)
  have h3:=Int.emod_lt_of_pos (-z) hk
  split
  ·next h=>
   have h4:z=k*(-((-z)/k) -1)+(k-(-z)%k):=by
    have:=Int.mul_ediv_add_emod (-z) k
    rw [Int.mul_sub,Int.mul_neg]
    omega
   have h5:z%k=k-(-z)%k:=by
    conv=>lhs;rw [h4]
    rw [Int.mul_add_emod_self_left]
    exact Int.emod_eq_of_lt (by omega) (by omega)
   omega
  ·next h=>
   have h4:(-z)%k=0:=by omega
   have h5:z%k=0:=Int.emod_eq_zero_of_dvd (Int.dvd_neg.1 (Int.dvd_of_emod_eq_zero h4))
   omega
 ·rw [Int.tmod_eq_emod_of_nonneg hz,if_neg (by have:=Int.emod_nonneg z (show k≠0 by omega);omega)]
def mkY (a:Int) (years:Int):Int:=a%years+1
def mkM (b:Int):Int:=b%12+1
def mkD (y m c:Int):Int:=c%dayI y m+1
theorem mk_y {a years:Int} (h:1≤years):1≤mkY a years∧mkY a years≤years:=by
 unfold mkY
 have h1:=Int.emod_nonneg a (show years≠0 by omega)
 have h2:=Int.emod_lt_of_pos a (show 0<years by omega)
 omega
theorem mk_m {b:Int}:1≤mkM b∧mkM b≤12:=by
 unfold mkM
 omega
theorem mk_right {a b c years:Int} (h:1≤years) (hy:years≤9999):rightI (mkY a years) (mkM b) (mkD (mkY a years) (mkM b) c):=by
 have h1:=mk_y (a:=a) h
 have h3:=(day_of (y:=mkY a years) ⟨h1.1,by omega⟩ (mk_m (b:=b))).1
 have h4:=Int.emod_nonneg c (show dayI (mkY a years) (mkM b)≠0 by omega)
 have h5:=Int.emod_lt_of_pos c (show 0<dayI (mkY a years) (mkM b) by omega)
 unfold mkD
 exact ⟨by omega,by omega⟩
def cmpI (y m d y' m' d':Int):Int:=if y<y' then -1 else if y'<y then 1 else if m<m' then -1 else if m'<m then 1 else if d<d' then -1 else if d'<d then 1 else 0
theorem cmp_neg (y m d y' m' d':Int):cmpI y' m' d' y m d= -cmpI y m d y' m' d':=by
 unfold cmpI
 repeat' split
 all_goals omega
theorem cmp_self (y m d:Int):cmpI y m d y m d=0:=by
 unfold cmpI
 repeat' split
 all_goals omega
theorem cmp_lt {y m d y' m' d':Int}:cmpI y m d y' m' d'= -1↔before y m d y' m' d':=by
 unfold cmpI before
 constructor
 ·repeat' split
  all_goals omega
 ·intro h
  repeat' split
  all_goals omega
theorem cmp_gt {y m d y' m' d':Int}:cmpI y m d y' m' d'=1↔before y' m' d' y m d:=by
 unfold cmpI before
 constructor
 ·repeat' split
  all_goals omega
 ·intro h
  repeat' split
  all_goals omega
theorem cmp_num {y m d y' m' d':Int} (h:rightI y m d) (h':rightI y' m' d'):cmpI y m d y' m' d'=if numI y m d<numI y' m' d' then -1 else if numI y' m' d'<numI y m d then 1 else 0:=by
 rcases before_or y m d y' m' d' with hb|⟨rfl,rfl,rfl⟩|hb
 ·rw [cmp_lt.2 hb,if_pos (num_lt h h' hb)]
 ·rw [cmp_self,if_neg (Int.lt_irrefl _),if_neg (Int.lt_irrefl _)]
 ·have:=num_lt h' h hb
  rw [cmp_gt.2 hb,if_neg (by omega),if_pos this]
theorem div_step (n i:Nat):n/10^i/10=n/10^(i+1):=by rw [Nat.div_div_eq_div_mul,←Nat.pow_succ]
end Go.Proofs.YtjpilacbapibjaaGreatDoor.Da
namespace Go.Proofs.YtjpilacbapibjaaGreatDoor.X
open Go.Proofs.YtjpilacbapibjaaGreatDoor.Da
open Go.RowKit Go.Proofs.YtjpilacbapibjaaGreatDoor.Z
set_option linter.unusedVariables false
theorem leap_1 {y:Int} (h: ¬(1≤y∧y≤9999)):false=leapI y:=by
 rw [Bool.eq_iff_iff,leap_iff]
 simp only [Bool.false_eq_true,false_iff]
 omega
theorem leap_2 {y:Int} (h:1≤y∧y≤9999) (h4:y%400=0):true=leapI y:=by
 rw [Bool.eq_iff_iff,leap_iff]
 simp only [true_iff]
 omega
theorem leap_3 {y:Int} (h:1≤y∧y≤9999) (h4: ¬y%400=0):cond (decide (y%4=0)) (!decide (y%100=0)) false=leapI y:=by
 rw [Bool.eq_iff_iff,leap_iff]
 by_cases a:y%4=0<;>by_cases b:y%100=0<;>simp [a,b]<;>omega
theorem day_yes {y m n:Int} (hy:(1≤y∧y≤9999)∧1≤m∧m≤12) (h:n=if m=2 then (if leapI y then 29 else 28) else if m=4∨m=6∨m=9∨m=11 then 30 else 31):n=dayI y m:=by
 unfold dayI
 rw [if_pos ⟨hy.1.1,hy.1.2,hy.2.1,hy.2.2⟩]
 exact h
theorem refLeap_t {w:World} {v0:Value} {y:Int} (h0:(isE (.int .i64 y)) w v0):Calls Tryz.prog 93 #[v0] w (Ret w fun v w'=>(isE (.bool (leapI y))) w' v):=by
 exact fx ctb26 Tryz.func93 (hnX [(1,[(3,777777,none),(4,777777,none),(5,777777,none)]),(3,[(1,0,oS (eI (y%400)))]),(5,[(1,0,oS (eI (y%4))),(4,777777,none),(5,777777,oS (eI (y%100))),(6,777777,none),(7,777777,none)])]) [(0,eI y)] (.s (eB (leapI y))) ⟨h0,trivial⟩ (im2 (decide ((y:Int)<1)==false)∧(decide ((y:Int)<1)=false→(decide ((y:Int)<1)==false)=true)∧cnd (cond (decide ((y:Int)<1)) true (decide ((9999:Int)<y))) (false=leapI y) ((400≠(0:Int))∧tI (Int.tmod y 400) (y%400)∧cnd (decide ((y%400:Int)=0)) (true=leapI y) ((4≠(0:Int))∧tI (Int.tmod y 4) (y%4)∧((decide ((y%4:Int)=0)==true)=true→100≠(0:Int))∧((decide ((y%4:Int)=0)==true)=true→tI (Int.tmod y 100) (y%100))∧im2 (decide ((y%4:Int)=0)==true)∧im2 (decide ((y%4:Int)=0)==true)∧(decide ((y%4:Int)=0)=true→(decide ((y%4:Int)=0)==true)=true)∧cond (decide ((y%4:Int)=0)) (!decide ((y%100:Int)=0)) false=leapI y))) ⟨id,(fun hp=>by simp_all),(Classical.em (¬(1≤y∧y≤9999))).elim (fun hy=>cnd_t (by simp;omega) (by first|exact leap_1 hy|exact leap_2 (by omega) h4|exact leap_3 (by omega) h4)) (fun hy=>cnd_f (by simp;omega) ⟨(by decide),⟨rfl,Int.tmod_eq_emod_of_nonneg (by omega)⟩,(Classical.em (y%400=0)).elim (fun h4=>cnd_t (by simpa using h4) (by first|exact leap_1 hy|exact leap_2 (by omega) h4|exact leap_3 (by omega) h4)) (fun h4=>cnd_f (by simpa using h4) ⟨(by decide),⟨rfl,Int.tmod_eq_emod_of_nonneg (by omega)⟩,(fun hg=>(by decide)),(fun hg=>⟨rfl,Int.tmod_eq_emod_of_nonneg (by omega)⟩),id,id,(fun hp=>by simp_all),(by first|exact leap_1 hy|exact leap_2 (by omega) h4|exact leap_3 (by omega) h4)⟩)⟩)⟩
theorem day5 (y m:Int): ¬((1≤y∧y≤9999)∧1≤m∧m≤12)∨(((1≤y∧y≤9999)∧m=2)∧leapI y=true)∨(((1≤y∧y≤9999)∧m=2)∧leapI y=false)∨(((1≤y∧y≤9999)∧1≤m∧m≤12)∧ ¬m=2∧(m=4∨m=6∨m=9∨m=11))∨(((1≤y∧y≤9999)∧1≤m∧m≤12)∧ ¬m=2∧ ¬(m=4∨m=6∨m=9∨m=11)):=by
 cases leapI y<;>simp<;>omega
noncomputable def ctb27:List (Ct dk):= [
 ct1 93 0 en93 vI (fun x=> .s (eB (leapI x))) (fun x=> []) fun _ p _ _ h1=>refLeap_t h1]++ctb26
theorem refDays_t {w:World} {v0 v1:Value} {y m:Int} (h0:(isE (.int .i64 y)) w v0) (h1:(isE (.int .i64 m)) w v1):Calls Tryz.prog 70 #[v0,v1] w (Ret w fun v w'=>(isE (.int .i64 (dayI y m))) w' v):=by
 rcases day5 y m with h8|h8|h8|h8|h8
 ·exact fx ctb27 Tryz.func70 (hnX [(1,[(3,777777,none),(4,777777,none),(5,777777,none),(7,777777,none),(8,777777,none),(9,777777,none),(11,777777,none),(12,777777,none),(13,777777,oS (eB true))])]) [(0,eI y),(1,eI m)] (.s (eI (dayI y m))) ⟨h0,h1,trivial⟩ (im2 (decide ((y:Int)<1)==false)∧(decide ((y:Int)<1)=false→(decide ((y:Int)<1)==false)=true)∧im2 (cond (decide ((y:Int)<1)) true (decide ((9999:Int)<y))==false)∧(cond (decide ((y:Int)<1)) true (decide ((9999:Int)<y))=false→(cond (decide ((y:Int)<1)) true (decide ((9999:Int)<y))==false)=true)∧im2 (cond (cond (decide ((y:Int)<1)) true (decide ((9999:Int)<y))) true (decide ((m:Int)<1))==false)∧(cond (cond (decide ((y:Int)<1)) true (decide ((9999:Int)<y))) true (decide ((m:Int)<1))=false→(cond (cond (decide ((y:Int)<1)) true (decide ((9999:Int)<y))) true (decide ((m:Int)<1))==false)=true)∧cond (cond (cond (decide ((y:Int)<1)) true (decide ((9999:Int)<y))) true (decide ((m:Int)<1))) true (decide ((12:Int)<m))=true∧tI 0 (dayI y m)) ⟨id,(fun hp=>by simp_all),id,(fun hp=>by simp_all),id,(fun hp=>by simp_all),(by simp;omega),⟨rfl,by first|exact (day_none (by omega)).symm|(refine day_yes (by omega) ?_;rw [if_pos h8.1.2,h8.2];rfl)|(refine day_yes (by omega) ?_;rw [if_neg h8.2.1];first|rw [if_pos h8.2.2]|rw [if_neg h8.2.2])⟩⟩
 ·exact fx ctb27 Tryz.func70 (hnX [(1,[(3,777777,none),(4,777777,none),(5,777777,none),(7,777777,none),(8,777777,none),(9,777777,none),(11,777777,none),(12,777777,none),(13,777777,oS (eB false))]),(3,[(1,0,oS (eB true))]),(5,[(0,0,oS (eB true))])]) [(0,eI y),(1,eI m)] (.s (eI (dayI y m))) ⟨h0,h1,trivial⟩ (im2 (decide ((y:Int)<1)==false)∧(decide ((y:Int)<1)=false→(decide ((y:Int)<1)==false)=true)∧im2 (cond (decide ((y:Int)<1)) true (decide ((9999:Int)<y))==false)∧(cond (decide ((y:Int)<1)) true (decide ((9999:Int)<y))=false→(cond (decide ((y:Int)<1)) true (decide ((9999:Int)<y))==false)=true)∧im2 (cond (cond (decide ((y:Int)<1)) true (decide ((9999:Int)<y))) true (decide ((m:Int)<1))==false)∧(cond (cond (decide ((y:Int)<1)) true (decide ((9999:Int)<y))) true (decide ((m:Int)<1))=false→(cond (cond (decide ((y:Int)<1)) true (decide ((9999:Int)<y))) true (decide ((m:Int)<1))==false)=true)∧cond (cond (cond (decide ((y:Int)<1)) true (decide ((9999:Int)<y))) true (decide ((m:Int)<1))) true (decide ((12:Int)<m))=false∧decide ((m:Int)=2)=true∧leapI y=true∧tI 29 (dayI y m)) ⟨id,(fun hp=>by simp_all),id,(fun hp=>by simp_all),id,(fun hp=>by simp_all),(by simp;omega),(by simp;omega),h8.2,⟨rfl,by first|exact (day_none (by omega)).symm|(refine day_yes (by omega) ?_;rw [if_pos h8.1.2,h8.2];rfl)|(refine day_yes (by omega) ?_;rw [if_neg h8.2.1];first|rw [if_pos h8.2.2]|rw [if_neg h8.2.2])⟩⟩
 ·exact fx ctb27 Tryz.func70 (hnX [(1,[(3,777777,none),(4,777777,none),(5,777777,none),(7,777777,none),(8,777777,none),(9,777777,none),(11,777777,none),(12,777777,none),(13,777777,oS (eB false))]),(3,[(1,0,oS (eB true))]),(5,[(0,0,oS (eB false))])]) [(0,eI y),(1,eI m)] (.s (eI (dayI y m))) ⟨h0,h1,trivial⟩ (im2 (decide ((y:Int)<1)==false)∧(decide ((y:Int)<1)=false→(decide ((y:Int)<1)==false)=true)∧im2 (cond (decide ((y:Int)<1)) true (decide ((9999:Int)<y))==false)∧(cond (decide ((y:Int)<1)) true (decide ((9999:Int)<y))=false→(cond (decide ((y:Int)<1)) true (decide ((9999:Int)<y))==false)=true)∧im2 (cond (cond (decide ((y:Int)<1)) true (decide ((9999:Int)<y))) true (decide ((m:Int)<1))==false)∧(cond (cond (decide ((y:Int)<1)) true (decide ((9999:Int)<y))) true (decide ((m:Int)<1))=false→(cond (cond (decide ((y:Int)<1)) true (decide ((9999:Int)<y))) true (decide ((m:Int)<1))==false)=true)∧cond (cond (cond (decide ((y:Int)<1)) true (decide ((9999:Int)<y))) true (decide ((m:Int)<1))) true (decide ((12:Int)<m))=false∧decide ((m:Int)=2)=true∧leapI y=false∧tI 28 (dayI y m)) ⟨id,(fun hp=>by simp_all),id,(fun hp=>by simp_all),id,(fun hp=>by simp_all),(by simp;omega),(by simp;omega),h8.2,⟨rfl,by first|exact (day_none (by omega)).symm|(refine day_yes (by omega) ?_;rw [if_pos h8.1.2,h8.2];rfl)|(refine day_yes (by omega) ?_;rw [if_neg h8.2.1];first|rw [if_pos h8.2.2]|rw [if_neg h8.2.2])⟩⟩
 ·exact fx ctb27 Tryz.func70 (hnX [(1,[(3,777777,none),(4,777777,none),(5,777777,none),(7,777777,none),(8,777777,none),(9,777777,none),(11,777777,none),(12,777777,none),(13,777777,oS (eB false))]),(3,[(1,0,oS (eB false))]),(8,[(3,777777,none),(4,777777,none),(5,777777,none),(7,777777,none),(8,777777,none),(9,777777,none),(11,777777,none),(12,777777,none),(13,777777,oS (eB true))])]) [(0,eI y),(1,eI m)] (.s (eI (dayI y m))) ⟨h0,h1,trivial⟩ (im2 (decide ((y:Int)<1)==false)∧(decide ((y:Int)<1)=false→(decide ((y:Int)<1)==false)=true)∧im2 (cond (decide ((y:Int)<1)) true (decide ((9999:Int)<y))==false)∧(cond (decide ((y:Int)<1)) true (decide ((9999:Int)<y))=false→(cond (decide ((y:Int)<1)) true (decide ((9999:Int)<y))==false)=true)∧im2 (cond (cond (decide ((y:Int)<1)) true (decide ((9999:Int)<y))) true (decide ((m:Int)<1))==false)∧(cond (cond (decide ((y:Int)<1)) true (decide ((9999:Int)<y))) true (decide ((m:Int)<1))=false→(cond (cond (decide ((y:Int)<1)) true (decide ((9999:Int)<y))) true (decide ((m:Int)<1))==false)=true)∧cond (cond (cond (decide ((y:Int)<1)) true (decide ((9999:Int)<y))) true (decide ((m:Int)<1))) true (decide ((12:Int)<m))=false∧decide ((m:Int)=2)=false∧im2 (decide ((m:Int)=4)==false)∧(decide ((m:Int)=4)=false→(decide ((m:Int)=4)==false)=true)∧im2 (cond (decide ((m:Int)=4)) true (decide ((m:Int)=6))==false)∧(cond (decide ((m:Int)=4)) true (decide ((m:Int)=6))=false→(cond (decide ((m:Int)=4)) true (decide ((m:Int)=6))==false)=true)∧im2 (cond (cond (decide ((m:Int)=4)) true (decide ((m:Int)=6))) true (decide ((m:Int)=9))==false)∧(cond (cond (decide ((m:Int)=4)) true (decide ((m:Int)=6))) true (decide ((m:Int)=9))=false→(cond (cond (decide ((m:Int)=4)) true (decide ((m:Int)=6))) true (decide ((m:Int)=9))==false)=true)∧cond (cond (cond (decide ((m:Int)=4)) true (decide ((m:Int)=6))) true (decide ((m:Int)=9))) true (decide ((m:Int)=11))=true∧tI 30 (dayI y m)) ⟨id,(fun hp=>by simp_all),id,(fun hp=>by simp_all),id,(fun hp=>by simp_all),(by simp;omega),(by simp;omega),id,(fun hp=>by simp_all),id,(fun hp=>by simp_all),id,(fun hp=>by simp_all),(by simp;omega),⟨rfl,by first|exact (day_none (by omega)).symm|(refine day_yes (by omega) ?_;rw [if_pos h8.1.2,h8.2];rfl)|(refine day_yes (by omega) ?_;rw [if_neg h8.2.1];first|rw [if_pos h8.2.2]|rw [if_neg h8.2.2])⟩⟩
 ·exact fx ctb27 Tryz.func70 (hnX [(1,[(3,777777,none),(4,777777,none),(5,777777,none),(7,777777,none),(8,777777,none),(9,777777,none),(11,777777,none),(12,777777,none),(13,777777,oS (eB false))]),(3,[(1,0,oS (eB false))]),(8,[(3,777777,none),(4,777777,none),(5,777777,none),(7,777777,none),(8,777777,none),(9,777777,none),(11,777777,none),(12,777777,none),(13,777777,oS (eB false))])]) [(0,eI y),(1,eI m)] (.s (eI (dayI y m))) ⟨h0,h1,trivial⟩ (im2 (decide ((y:Int)<1)==false)∧(decide ((y:Int)<1)=false→(decide ((y:Int)<1)==false)=true)∧im2 (cond (decide ((y:Int)<1)) true (decide ((9999:Int)<y))==false)∧(cond (decide ((y:Int)<1)) true (decide ((9999:Int)<y))=false→(cond (decide ((y:Int)<1)) true (decide ((9999:Int)<y))==false)=true)∧im2 (cond (cond (decide ((y:Int)<1)) true (decide ((9999:Int)<y))) true (decide ((m:Int)<1))==false)∧(cond (cond (decide ((y:Int)<1)) true (decide ((9999:Int)<y))) true (decide ((m:Int)<1))=false→(cond (cond (decide ((y:Int)<1)) true (decide ((9999:Int)<y))) true (decide ((m:Int)<1))==false)=true)∧cond (cond (cond (decide ((y:Int)<1)) true (decide ((9999:Int)<y))) true (decide ((m:Int)<1))) true (decide ((12:Int)<m))=false∧decide ((m:Int)=2)=false∧im2 (decide ((m:Int)=4)==false)∧(decide ((m:Int)=4)=false→(decide ((m:Int)=4)==false)=true)∧im2 (cond (decide ((m:Int)=4)) true (decide ((m:Int)=6))==false)∧(cond (decide ((m:Int)=4)) true (decide ((m:Int)=6))=false→(cond (decide ((m:Int)=4)) true (decide ((m:Int)=6))==false)=true)∧im2 (cond (cond (decide ((m:Int)=4)) true (decide ((m:Int)=6))) true (decide ((m:Int)=9))==false)∧(cond (cond (decide ((m:Int)=4)) true (decide ((m:Int)=6))) true (decide ((m:Int)=9))=false→(cond (cond (decide ((m:Int)=4)) true (decide ((m:Int)=6))) true (decide ((m:Int)=9))==false)=true)∧cond (cond (cond (decide ((m:Int)=4)) true (decide ((m:Int)=6))) true (decide ((m:Int)=9))) true (decide ((m:Int)=11))=false∧tI 31 (dayI y m)) ⟨id,(fun hp=>by simp_all),id,(fun hp=>by simp_all),id,(fun hp=>by simp_all),(by simp;omega),(by simp;omega),id,(fun hp=>by simp_all),id,(fun hp=>by simp_all),id,(fun hp=>by simp_all),(by simp;omega),⟨rfl,by first|exact (day_none (by omega)).symm|(refine day_yes (by omega) ?_;rw [if_pos h8.1.2,h8.2];rfl)|(refine day_yes (by omega) ?_;rw [if_neg h8.2.1];first|rw [if_pos h8.2.2]|rw [if_neg h8.2.2])⟩⟩
def vDt:Vw (Int×Int×Int):=⟨fun| .E (.agg ⟨[.int .i64 a, .int .i64 b, .int .i64 c]⟩)=>some (a,b,c)|_=>none,fun a=>isE (.agg #[.int .i64 a.1, .int .i64 a.2.1, .int .i64 a.2.2]),fun k a h w v hv=>by
 split at h
 ·injection h with h
  subst h
  exact hv
 ·cases h⟩
noncomputable def ctb28:List (Ct dk):= [
 ct2 70 0 en70 vI vI (fun x y=> .s (eI (dayI x y))) (fun x y=> []) fun _ _ p _ _ _ h1 h2=>refDays_t h1 h2]++ctb27
def nY (p:Nat) (y:Int):Nat→Int
 |0=>yS p
 |b+1=>nY p y b+dayI y ((b:Int)+1)
theorem nY_eq {p:Nat} {y:Int}: ∀b:Nat,nY p y b=yS p+mS y b:=by
 intro b
 induction b with
 |zero=>show yS p=yS p+0;omega
 |succ b ih=>
  show nY p y b+dayI y ((b:Int)+1)=yS p+(mS y b+dayI y ((b:Int)+1))
  omega
theorem yS_in {a:Nat} (h:a≤9999):0≤yS a∧yS a≤3652059:=by
 have h1:=yS_mono (n:=0) (m:=a) (by omega)
 have h2:=yS_mono h
 rw [yS_last] at h2
 have z:yS 0=0:=rfl
 omega
theorem nY_in {y:Int} (hy:1≤y∧y≤9999) {p b:Nat} (hp:p≤9999) (hb:b≤12):0≤nY p y b∧nY p y b≤3653000:=by
 rw [nY_eq]
 have h1:=yS_in hp
 have h2:=mS_le hy (n:=0) (m:=b) (by omega) hb
 have h3:=mS_le hy (n:=b) (m:=12) hb (by omega)
 rw [mS_year hy] at h3
 have h4:=yr_lo y
 have z:mS y 0=0:=rfl
 omega
theorem lt3 (a:Nat) (y:Int):(a<(y-1).toNat∧leapI ((a:Int)+1)=true)∨(a<(y-1).toNat∧leapI ((a:Int)+1)=false)∨(y-1).toNat≤a:=by
 rcases Nat.lt_or_ge a (y-1).toNat with h|h
 ·cases leapI ((a:Int)+1)
  ·exact .inr (.inl ⟨h,rfl⟩)
  ·exact .inl ⟨h,rfl⟩
 ·exact .inr (.inr h)
theorem yS_leap {a:Nat} (h:leapI ((a:Int)+1)=true):yS a+365+1=yS (a+1):=by
 show _=yS a+yrI ((a:Int)+1)
 unfold yrI
 rw [if_pos h]
 omega
theorem yS_flat {a:Nat} (h:leapI ((a:Int)+1)=false):yS a+365=yS (a+1):=by
 show _=yS a+yrI ((a:Int)+1)
 unfold yrI
 rw [if_neg (by rw [h];decide)]
noncomputable abbrev rrefNumber_t:=rX ctb28 Tryz.f92
noncomputable abbrev drefNumber_t (y m d:Int):=dX ctb28 Tryz.f92 (.s (eI (numI y m d)))
noncomputable def hrefNumber_t (y m d:Int):Nat→Hint K:=fun _=> []
noncomputable def irefNumber_t_0 (y m d:Int) (a:Nat):Sx K:=⟨[(2,eI 0),(4,eI ((a:Int)+1)),(3,eI (yS a))],[⟨1,28,eD y m d⟩]⟩
noncomputable def hrefNumber_t_0_0 (y m d:Int) (a:Nat):Nat→Hint K:=hnX [(3,[(3,0,oS (eB true))]),(4,[(1,0,oS (eI (((a+1:Nat):Int)+1)))]),(7,[(0,0,oS (eB true))]),(8,[(1,0,oS (eI (yS (a+1))))])]
noncomputable def hrefNumber_t_0_1 (y m d:Int) (a:Nat):Nat→Hint K:=hnX [(3,[(3,0,oS (eB true))]),(4,[(1,0,oS (eI (((a+1:Nat):Int)+1)))]),(6,[(1,0,oS (eI (yS (a+1))))]),(7,[(0,0,oS (eB false))])]
noncomputable def irefNumber_t_1 (y m d:Int) (g:Nat×Nat):Sx K:=⟨[(2,eI 0),(6,eI ((g.2:Int)+1)),(3,eI (nY g.1 y g.2))],[⟨1,28,eD y m d⟩]⟩
noncomputable def hrefNumber_t_1_0 (y m d:Int) (g:Nat×Nat):Nat→Hint K:=hnX [(10,[(3,0,oS (eB true))]),(11,[(1,0,oS (eI (((g.2+1:Nat):Int)+1)))])]
noncomputable def hrefNumber_t_1_1 (y m d:Int) (g:Nat×Nat):Nat→Hint K:=hnX [(10,[(3,0,oS (eB false))])]
noncomputable def hrefNumber_t_0_2 (y m d:Int) (a:Nat):Nat→Hint K:=hnX [(3,[(3,0,oS (eB false))])]
theorem refNumber_t {w:World} {v0:Value} {y m d:Int} (h0:(f0 w (.s (eD y m d))).p w v0) (hr:rightI y m d):Calls Tryz.prog 92 #[v0] w (Ret w fun v w'=>(isE (.int .i64 (numI y m d))) w' v):=by
 exact fx ctb28 Tryz.func92 (hrefNumber_t y m d) [(0,eD y m d)] (.s (eI (numI y m d))) ⟨h0,trivial⟩ (drefNumber_t y m d [1,0,1] [(hrefNumber_t y m d)] [] (rlX (rrefNumber_t (hrefNumber_t y m d)) [2,1] (ent Tryz.prog Tryz.f92 (κ:=K) [(0,eD y m d)]))) (lpI (fun h S' J=>drefNumber_t y m d [1,0,1,0,2] [(hrefNumber_t y m d),h] [J] S') (fun a:Nat=>a≤(y-1).toNat) (fun a=>(y-1).toNat-a) (irefNumber_t_0 y m d) (0) (rlX (rrefNumber_t (hrefNumber_t y m d)) [2,1] (ent Tryz.prog Tryz.f92 (κ:=K) [(0,eD y m d)])) (Nat.zero_le _) (fun a hC1 J1 hJ1=>(by
  have hq:=right_in hr
  have hyb:=yS_in (a:=a) (by omega)
  rcases lt3 a y with h8|h8|h8
  ·exact ⟨hrefNumber_t_0_0 y m d a,vcP (decide (((a:Int)+1:Int)<y)=true∧wp (yS a+365)∧leapI ((a:Int)+1)=true∧wp ((yS a+365)+1)∧tI ((yS a+365)+1) (yS (a+1))∧wp (((a:Int)+1)+1)∧tI (((a:Int)+1)+1) (((a+1:Nat):Int)+1)∧J1 (rlX (rrefNumber_t (hrefNumber_t_0_0 y m d a)) [4,8,7,6,5,3] (irefNumber_t_0 y m d a))) ⟨decide_eq_true (by omega),wi (by omega),h8.2,wi (by omega),⟨rfl,yS_leap h8.2⟩,wi (by omega),⟨rfl,by omega⟩,hJ1 (a+1) _ (by omega) (by omega) ⟨by kernel_rfl,by kernel_rfl⟩⟩⟩
  ·exact ⟨hrefNumber_t_0_1 y m d a,vcP (decide (((a:Int)+1:Int)<y)=true∧wp (yS a+365)∧tI (yS a+365) (yS (a+1))∧leapI ((a:Int)+1)=false∧wp (((a:Int)+1)+1)∧tI (((a:Int)+1)+1) (((a+1:Nat):Int)+1)∧J1 (rlX (rrefNumber_t (hrefNumber_t_0_1 y m d a)) [4,7,6,5,3] (irefNumber_t_0 y m d a))) ⟨decide_eq_true (by omega),wi (by omega),⟨rfl,yS_flat h8.2⟩,h8.2,wi (by omega),⟨rfl,by omega⟩,hJ1 (a+1) _ (by omega) (by omega) ⟨by kernel_rfl,by kernel_rfl⟩⟩⟩
  ·exact ⟨hrefNumber_t_0_2 y m d a,vcP (decide (((a:Int)+1:Int)<y)=false∧drefNumber_t y m d [1,1,0,1] [(hrefNumber_t y m d)] [] (rrefNumber_t (hrefNumber_t y m d) 9 (rrefNumber_t (hrefNumber_t_0_2 y m d a) 3 (irefNumber_t_0 y m d a)))) ⟨decide_eq_false (by omega),(have hC1:a=(y-1).toNat:=(by omega);(lpI (fun h S' J=>drefNumber_t y m d [1,1,0,1,0,2] [(hrefNumber_t y m d),h] [J] S') (fun g:Nat×Nat=>g.1=(y-1).toNat∧g.2≤(m-1).toNat) (fun g=>(m-1).toNat-g.2) (irefNumber_t_1 y m d) (a,0) (rrefNumber_t (hrefNumber_t y m d) 9 (rrefNumber_t (hrefNumber_t_0_2 y m d a) 3 (irefNumber_t_0 y m d a))) (⟨hC1,Nat.zero_le _⟩) (fun g hC1 J1 hJ1=>(by
  have hq:=right_in hr
  have hyb:=nY_in hq.1 (p:=g.1) (b:=g.2) (by omega) (by omega)
  have hdd:=day_of hq.1 (m:=(g.2:Int)+1)
  rcases Nat.lt_or_ge g.2 (m-1).toNat with h8|h8
  ·exact ⟨hrefNumber_t_1_0 y m d g,vcP (decide (((g.2:Int)+1:Int)<m)=true∧wp (nY g.1 y g.2+dayI y ((g.2:Int)+1))∧wp (((g.2:Int)+1)+1)∧tI (((g.2:Int)+1)+1) (((g.2+1:Nat):Int)+1)∧J1 (rlX (rrefNumber_t (hrefNumber_t_1_0 y m d g)) [11,13,12,10] (irefNumber_t_1 y m d g))) ⟨decide_eq_true (by omega),wi (by omega),wi (by omega),⟨rfl,by omega⟩,hJ1 (g.1,g.2+1) _ (⟨hC1.1,by omega⟩) (by omega) ⟨by kernel_rfl,by kernel_rfl⟩⟩⟩
  ·exact ⟨hrefNumber_t_1_1 y m d g,vcP (decide (((g.2:Int)+1:Int)<m)=false∧(wp (nY g.1 y g.2+d)∧tI (nY g.1 y g.2+d) (numI y m d))) ⟨decide_eq_false (by omega),(have hC1:g.1=(y-1).toNat∧g.2=(m-1).toNat:=(⟨hC1.1,by omega⟩);⟨wi (by omega),⟨rfl,by unfold numI;rw [nY_eq,hC1.1,hC1.2]⟩⟩)⟩⟩))))⟩⟩)))
theorem tmod_in (z:Int) {k:Int} (hk:0<k): -k≤z.tmod k∧z.tmod k<k:=by
 have h:=wrap_mod (z:=z) hk
 have h1:=Int.emod_nonneg z (show k≠0 by omega)
 have h2:=Int.emod_lt_of_pos z hk
 split at h<;>omega
theorem wm_n {z k:Int} (hk:0<k) (h:z.tmod k<0):z.tmod k+k+1=z%k+1:=by
 have:=wrap_mod (z:=z) hk
 rw [if_pos h] at this
 omega
theorem wm_p {z k:Int} (hk:0<k) (h: ¬z.tmod k<0):z.tmod k+1=z%k+1:=by
 have:=wrap_mod (z:=z) hk
 rw [if_neg h] at this
 omega
theorem refMake_t {w:World} {v0 v1:Value} {a b c k:Int} (h0:(f0 w (.s (eD a b c))).p w v0) (h1:(isE (.int .i64 k)) w v1) (hk:1≤k∧k≤9999):Calls Tryz.prog 32 #[v0,v1] w (Ret w fun v w'=>(f0 w (.s (eD (mkY a k) (mkM b) (mkD (mkY a k) (mkM b) c)))).p w' v):=by
 have hy:=mk_y (a:=a) hk.1
 have hm:=mk_m (b:=b)
 have hd:=day_of (y:=mkY a k) ⟨hy.1,by omega⟩ hm
 have ta:=tmod_in a (k:=k) (by omega)
 have tb:=tmod_in b (k:=12) (by omega)
 have tc:=tmod_in c (k:=dayI (mkY a k) (mkM b)) (by omega)
 exact fx ctb28 Tryz.func32 (hnX [(7,[(1,0,oS (eI (mkY a k))),(3,0,oS (eI (mkM b)))]),(11,[(1,0,oS (eI (mkY a k))),(3,0,oS (eI (mkM b))),(5,0,oS (eI (mkD (mkY a k) (mkM b) c)))])]) [(0,eD a b c),(1,eI k)] (.s (eD (mkY a k) (mkM b) (mkD (mkY a k) (mkM b) c))) ⟨h0,h1,trivial⟩ ((k≠(0:Int))∧cnd (decide ((Int.tmod a k:Int)<0)) (wp (Int.tmod a k+k)∧(12≠(0:Int))∧cnd (decide ((Int.tmod b 12:Int)<0)) (wp (Int.tmod b 12+12)∧wp ((Int.tmod a k+k)+1)∧tI ((Int.tmod a k+k)+1) (mkY a k)∧wp ((Int.tmod b 12+12)+1)∧tI ((Int.tmod b 12+12)+1) (mkM b)∧((dayI (mkY a k) (mkM b))≠(0:Int))∧cnd (decide ((Int.tmod c (dayI (mkY a k) (mkM b)):Int)<0)) (wp (Int.tmod c (dayI (mkY a k) (mkM b))+dayI (mkY a k) (mkM b))∧wp ((Int.tmod a k+k)+1)∧tI ((Int.tmod a k+k)+1) (mkY a k)∧wp ((Int.tmod b 12+12)+1)∧tI ((Int.tmod b 12+12)+1) (mkM b)∧wp ((Int.tmod c (dayI (mkY a k) (mkM b))+dayI (mkY a k) (mkM b))+1)∧tI ((Int.tmod c (dayI (mkY a k) (mkM b))+dayI (mkY a k) (mkM b))+1) (mkD (mkY a k) (mkM b) c)∧tK (eD (mkY a k) (mkM b) (mkD (mkY a k) (mkM b) c)) (eD (mkY a k) (mkM b) (mkD (mkY a k) (mkM b) c))) (wp ((Int.tmod a k+k)+1)∧tI ((Int.tmod a k+k)+1) (mkY a k)∧wp ((Int.tmod b 12+12)+1)∧tI ((Int.tmod b 12+12)+1) (mkM b)∧wp (Int.tmod c (dayI (mkY a k) (mkM b))+1)∧tI (Int.tmod c (dayI (mkY a k) (mkM b))+1) (mkD (mkY a k) (mkM b) c)∧tK (eD (mkY a k) (mkM b) (mkD (mkY a k) (mkM b) c)) (eD (mkY a k) (mkM b) (mkD (mkY a k) (mkM b) c)))) (wp ((Int.tmod a k+k)+1)∧tI ((Int.tmod a k+k)+1) (mkY a k)∧wp (Int.tmod b 12+1)∧tI (Int.tmod b 12+1) (mkM b)∧((dayI (mkY a k) (mkM b))≠(0:Int))∧cnd (decide ((Int.tmod c (dayI (mkY a k) (mkM b)):Int)<0)) (wp (Int.tmod c (dayI (mkY a k) (mkM b))+dayI (mkY a k) (mkM b))∧wp ((Int.tmod a k+k)+1)∧tI ((Int.tmod a k+k)+1) (mkY a k)∧wp (Int.tmod b 12+1)∧tI (Int.tmod b 12+1) (mkM b)∧wp ((Int.tmod c (dayI (mkY a k) (mkM b))+dayI (mkY a k) (mkM b))+1)∧tI ((Int.tmod c (dayI (mkY a k) (mkM b))+dayI (mkY a k) (mkM b))+1) (mkD (mkY a k) (mkM b) c)∧tK (eD (mkY a k) (mkM b) (mkD (mkY a k) (mkM b) c)) (eD (mkY a k) (mkM b) (mkD (mkY a k) (mkM b) c))) (wp ((Int.tmod a k+k)+1)∧tI ((Int.tmod a k+k)+1) (mkY a k)∧wp (Int.tmod b 12+1)∧tI (Int.tmod b 12+1) (mkM b)∧wp (Int.tmod c (dayI (mkY a k) (mkM b))+1)∧tI (Int.tmod c (dayI (mkY a k) (mkM b))+1) (mkD (mkY a k) (mkM b) c)∧tK (eD (mkY a k) (mkM b) (mkD (mkY a k) (mkM b) c)) (eD (mkY a k) (mkM b) (mkD (mkY a k) (mkM b) c))))) ((12≠(0:Int))∧cnd (decide ((Int.tmod b 12:Int)<0)) (wp (Int.tmod b 12+12)∧wp (Int.tmod a k+1)∧tI (Int.tmod a k+1) (mkY a k)∧wp ((Int.tmod b 12+12)+1)∧tI ((Int.tmod b 12+12)+1) (mkM b)∧((dayI (mkY a k) (mkM b))≠(0:Int))∧cnd (decide ((Int.tmod c (dayI (mkY a k) (mkM b)):Int)<0)) (wp (Int.tmod c (dayI (mkY a k) (mkM b))+dayI (mkY a k) (mkM b))∧wp (Int.tmod a k+1)∧tI (Int.tmod a k+1) (mkY a k)∧wp ((Int.tmod b 12+12)+1)∧tI ((Int.tmod b 12+12)+1) (mkM b)∧wp ((Int.tmod c (dayI (mkY a k) (mkM b))+dayI (mkY a k) (mkM b))+1)∧tI ((Int.tmod c (dayI (mkY a k) (mkM b))+dayI (mkY a k) (mkM b))+1) (mkD (mkY a k) (mkM b) c)∧tK (eD (mkY a k) (mkM b) (mkD (mkY a k) (mkM b) c)) (eD (mkY a k) (mkM b) (mkD (mkY a k) (mkM b) c))) (wp (Int.tmod a k+1)∧tI (Int.tmod a k+1) (mkY a k)∧wp ((Int.tmod b 12+12)+1)∧tI ((Int.tmod b 12+12)+1) (mkM b)∧wp (Int.tmod c (dayI (mkY a k) (mkM b))+1)∧tI (Int.tmod c (dayI (mkY a k) (mkM b))+1) (mkD (mkY a k) (mkM b) c)∧tK (eD (mkY a k) (mkM b) (mkD (mkY a k) (mkM b) c)) (eD (mkY a k) (mkM b) (mkD (mkY a k) (mkM b) c)))) (wp (Int.tmod a k+1)∧tI (Int.tmod a k+1) (mkY a k)∧wp (Int.tmod b 12+1)∧tI (Int.tmod b 12+1) (mkM b)∧((dayI (mkY a k) (mkM b))≠(0:Int))∧cnd (decide ((Int.tmod c (dayI (mkY a k) (mkM b)):Int)<0)) (wp (Int.tmod c (dayI (mkY a k) (mkM b))+dayI (mkY a k) (mkM b))∧wp (Int.tmod a k+1)∧tI (Int.tmod a k+1) (mkY a k)∧wp (Int.tmod b 12+1)∧tI (Int.tmod b 12+1) (mkM b)∧wp ((Int.tmod c (dayI (mkY a k) (mkM b))+dayI (mkY a k) (mkM b))+1)∧tI ((Int.tmod c (dayI (mkY a k) (mkM b))+dayI (mkY a k) (mkM b))+1) (mkD (mkY a k) (mkM b) c)∧tK (eD (mkY a k) (mkM b) (mkD (mkY a k) (mkM b) c)) (eD (mkY a k) (mkM b) (mkD (mkY a k) (mkM b) c))) (wp (Int.tmod a k+1)∧tI (Int.tmod a k+1) (mkY a k)∧wp (Int.tmod b 12+1)∧tI (Int.tmod b 12+1) (mkM b)∧wp (Int.tmod c (dayI (mkY a k) (mkM b))+1)∧tI (Int.tmod c (dayI (mkY a k) (mkM b))+1) (mkD (mkY a k) (mkM b) c)∧tK (eD (mkY a k) (mkM b) (mkD (mkY a k) (mkM b) c)) (eD (mkY a k) (mkM b) (mkD (mkY a k) (mkM b) c)))))) ⟨(by omega),(Classical.em (a.tmod k<0)).elim (fun ha=>cnd_t (by simpa using ha) ⟨wi (by omega),(by decide),(Classical.em (b.tmod 12<0)).elim (fun hb=>cnd_t (by simpa using hb) ⟨wi (by omega),wi (by omega),⟨rfl,by first|exact wm_n (by omega) ha|exact wm_p (by omega) ha⟩,wi (by omega),⟨rfl,by first|exact wm_n (by omega) hb|exact wm_p (by omega) hb⟩,(by omega),(Classical.em (c.tmod (dayI (mkY a k) (mkM b))<0)).elim (fun hc=>cnd_t (by simpa using hc) ⟨wi (by omega),wi (by omega),⟨rfl,by first|exact wm_n (by omega) ha|exact wm_p (by omega) ha⟩,wi (by omega),⟨rfl,by first|exact wm_n (by omega) hb|exact wm_p (by omega) hb⟩,wi (by omega),⟨rfl,by first|exact wm_n (by omega) hc|exact wm_p (by omega) hc⟩,(fun _ _ _ _ _ h=>h)⟩) (fun hc=>cnd_f (by simpa using hc) ⟨wi (by omega),⟨rfl,by first|exact wm_n (by omega) ha|exact wm_p (by omega) ha⟩,wi (by omega),⟨rfl,by first|exact wm_n (by omega) hb|exact wm_p (by omega) hb⟩,wi (by omega),⟨rfl,by first|exact wm_n (by omega) hc|exact wm_p (by omega) hc⟩,(fun _ _ _ _ _ h=>h)⟩)⟩) (fun hb=>cnd_f (by simpa using hb) ⟨wi (by omega),⟨rfl,by first|exact wm_n (by omega) ha|exact wm_p (by omega) ha⟩,wi (by omega),⟨rfl,by first|exact wm_n (by omega) hb|exact wm_p (by omega) hb⟩,(by omega),(Classical.em (c.tmod (dayI (mkY a k) (mkM b))<0)).elim (fun hc=>cnd_t (by simpa using hc) ⟨wi (by omega),wi (by omega),⟨rfl,by first|exact wm_n (by omega) ha|exact wm_p (by omega) ha⟩,wi (by omega),⟨rfl,by first|exact wm_n (by omega) hb|exact wm_p (by omega) hb⟩,wi (by omega),⟨rfl,by first|exact wm_n (by omega) hc|exact wm_p (by omega) hc⟩,(fun _ _ _ _ _ h=>h)⟩) (fun hc=>cnd_f (by simpa using hc) ⟨wi (by omega),⟨rfl,by first|exact wm_n (by omega) ha|exact wm_p (by omega) ha⟩,wi (by omega),⟨rfl,by first|exact wm_n (by omega) hb|exact wm_p (by omega) hb⟩,wi (by omega),⟨rfl,by first|exact wm_n (by omega) hc|exact wm_p (by omega) hc⟩,(fun _ _ _ _ _ h=>h)⟩)⟩)⟩) (fun ha=>cnd_f (by simpa using ha) ⟨(by decide),(Classical.em (b.tmod 12<0)).elim (fun hb=>cnd_t (by simpa using hb) ⟨wi (by omega),wi (by omega),⟨rfl,by first|exact wm_n (by omega) ha|exact wm_p (by omega) ha⟩,wi (by omega),⟨rfl,by first|exact wm_n (by omega) hb|exact wm_p (by omega) hb⟩,(by omega),(Classical.em (c.tmod (dayI (mkY a k) (mkM b))<0)).elim (fun hc=>cnd_t (by simpa using hc) ⟨wi (by omega),wi (by omega),⟨rfl,by first|exact wm_n (by omega) ha|exact wm_p (by omega) ha⟩,wi (by omega),⟨rfl,by first|exact wm_n (by omega) hb|exact wm_p (by omega) hb⟩,wi (by omega),⟨rfl,by first|exact wm_n (by omega) hc|exact wm_p (by omega) hc⟩,(fun _ _ _ _ _ h=>h)⟩) (fun hc=>cnd_f (by simpa using hc) ⟨wi (by omega),⟨rfl,by first|exact wm_n (by omega) ha|exact wm_p (by omega) ha⟩,wi (by omega),⟨rfl,by first|exact wm_n (by omega) hb|exact wm_p (by omega) hb⟩,wi (by omega),⟨rfl,by first|exact wm_n (by omega) hc|exact wm_p (by omega) hc⟩,(fun _ _ _ _ _ h=>h)⟩)⟩) (fun hb=>cnd_f (by simpa using hb) ⟨wi (by omega),⟨rfl,by first|exact wm_n (by omega) ha|exact wm_p (by omega) ha⟩,wi (by omega),⟨rfl,by first|exact wm_n (by omega) hb|exact wm_p (by omega) hb⟩,(by omega),(Classical.em (c.tmod (dayI (mkY a k) (mkM b))<0)).elim (fun hc=>cnd_t (by simpa using hc) ⟨wi (by omega),wi (by omega),⟨rfl,by first|exact wm_n (by omega) ha|exact wm_p (by omega) ha⟩,wi (by omega),⟨rfl,by first|exact wm_n (by omega) hb|exact wm_p (by omega) hb⟩,wi (by omega),⟨rfl,by first|exact wm_n (by omega) hc|exact wm_p (by omega) hc⟩,(fun _ _ _ _ _ h=>h)⟩) (fun hc=>cnd_f (by simpa using hc) ⟨wi (by omega),⟨rfl,by first|exact wm_n (by omega) ha|exact wm_p (by omega) ha⟩,wi (by omega),⟨rfl,by first|exact wm_n (by omega) hb|exact wm_p (by omega) hb⟩,wi (by omega),⟨rfl,by first|exact wm_n (by omega) hc|exact wm_p (by omega) hc⟩,(fun _ _ _ _ _ h=>h)⟩)⟩)⟩)⟩
end Go.Proofs.YtjpilacbapibjaaGreatDoor.X
namespace Go.Proofs.YtjpilacbapibjaaGreatDoor.X
open Go.Proofs.YtjpilacbapibjaaGreatDoor.Da
open Go.RowKit Go.Proofs.YtjpilacbapibjaaGreatDoor.Z
set_option linter.unusedVariables false
def at3 (a b c:Int):Nat→Int
 |0=>a
 |1=>b
 |_=>c
theorem at3_row (a b c:Int) {i:Nat} (h:i<3):([[.int .i64 a],[.int .i64 b],[.int .i64 c]]:List (List Value)).getD i []= [.int .i64 (at3 a b c i)]:=by
 rcases i with _|_|_|i<;>first|rfl|omega
end Go.Proofs.YtjpilacbapibjaaGreatDoor.X
namespace Go.Proofs.YtjpilacbapibjaaGreatDoor.Da
def lo (p:Nat→Bool):Nat→Nat
 |0=>0
 |k+1=>if lo p k<k then lo p k else if p k then k else k+1
theorem lo_le (p:Nat→Bool): ∀k,lo p k≤k:=by
 intro k
 induction k with
 |zero=>exact Nat.le_refl _
 |succ k ih=>
  unfold lo
  repeat' split
  all_goals omega
theorem lo_no (p:Nat→Bool): ∀k j,j<lo p k→p j=false:=by
 intro k
 induction k with
 |zero=>intro j h;cases h
 |succ k ih=>
  intro j h
  have:=lo_le p k
  unfold lo at h
  split at h
  ·exact ih j h
  ·split at h
   ·exact ih j (by omega)
   ·next h1 h2=>
    rcases Nat.lt_or_ge j (lo p k) with h3|h3
    ·exact ih j h3
    ·have:j=k:=by omega
     rw [this]
     simpa using h2
theorem lo_yes (p:Nat→Bool): ∀k,lo p k<k→p (lo p k)=true:=by
 intro k
 induction k with
 |zero=>intro h;cases h
 |succ k ih=>
  intro h
  unfold lo at h⊢
  split
  ·next h1=>exact ih h1
  ·next h1=>
   rw [if_neg h1] at h
   split
   ·next h2=>exact h2
   ·next h2=>rw [if_neg h2] at h;omega
theorem lo_eq {p:Nat→Bool} {k j:Nat} (h1:j≤k) (h2: ∀i,i<j→p i=false) (h3:j<k→p j=true):j=lo p k:=by
 have a:=lo_le p k
 rcases Nat.lt_trichotomy j (lo p k) with h|h|h
 ·have:=lo_no p k j h
  rw [h3 (by omega)] at this
  cases this
 ·exact h
 ·have:=lo_yes p k (by omega)
  rw [h2 _ h] at this
  cases this
def yB (z:Int) (k:Nat):Bool:=decide (z≤yS k)
def yrN (z:Int):Nat:=lo (yB z) 9999
theorem yB_mono {z:Int} {i j:Nat} (h:i≤j) (hj:yB z j=false):yB z i=false:=by
 have h1:=yS_mono h
 have h2: ¬z≤yS j:=of_decide_eq_false hj
 exact decide_eq_false (by omega)
theorem yr_spec {z:Int} (h1:1≤z) (h2:z≤3652059):1≤yrN z∧yrN z≤9999∧yS (yrN z-1)<z∧z≤yS (yrN z):=by
 have a:=lo_le (yB z) 9999
 have hy:z≤yS (yrN z):=by
  rcases Nat.lt_or_ge (yrN z) 9999 with h|h
  ·exact of_decide_eq_true (lo_yes (yB z) 9999 h)
  ·have:yrN z=9999:=Nat.le_antisymm a h
   rw [this,yS_last]
   exact h2
 have h0:1≤yrN z:=by
  rcases Nat.eq_zero_or_pos (yrN z) with h|h
  ·rw [h] at hy
   have:yS 0=0:=rfl
   omega
  ·exact h
 have hn:=of_decide_eq_false (lo_no (yB z) 9999 (yrN z-1) (by unfold yrN at h0⊢;omega))
 exact ⟨h0,a,by omega,hy⟩
noncomputable def dtN (z:Int):Int×Int×Int:=open Classical in if h: ∃x:Int×Int×Int,rightI x.1 x.2.1 x.2.2∧numI x.1 x.2.1 x.2.2=z then h.choose else (0,0,0)
theorem dtN_eq {y m d:Int} (h:rightI y m d):dtN (numI y m d)=(y,m,d):=by
 have hx: ∃x:Int×Int×Int,rightI x.1 x.2.1 x.2.2∧numI x.1 x.2.1 x.2.2=numI y m d:=⟨(y,m,d),h,rfl⟩
 unfold dtN
 rw [dif_pos hx]
 obtain ⟨h1,h2⟩:=hx.choose_spec
 obtain ⟨e1,e2,e3⟩:=num_inj h1 h h2
 generalize hx.choose=x at*
 obtain ⟨a,b,c⟩:=x
 simp only at e1 e2 e3
 rw [e1,e2,e3]
theorem dtN_ok {z:Int} (h1:1≤z) (h2:z≤3652059):rightI (dtN z).1 (dtN z).2.1 (dtN z).2.2∧numI (dtN z).1 (dtN z).2.1 (dtN z).2.2=z:=by
 obtain ⟨y,m,d,hr,e⟩:=num_of h1 h2
 rw [←e,dtN_eq hr]
 exact ⟨hr,rfl⟩
theorem dtN_no {z:Int} (h: ¬(1≤z∧z≤3652059)):dtN z=(0,0,0):=by
 unfold dtN
 rw [dif_neg]
 rintro ⟨x,h1,h2⟩
 have:=num_in h1
 omega
theorem dtN_at {z:Int} {b:Nat} (h1:1≤z) (h2:z≤3652059) (hb:b<12) (h3:mS (yrN z) b<z-yS (yrN z-1)) (h4:z-yS (yrN z-1) -mS (yrN z) b≤dayI (yrN z) ((b:Int)+1)):dtN z=(((yrN z:Nat):Int),(b:Int)+1,z-yS (yrN z-1) -mS (yrN z) b):=by
 obtain ⟨a1,a2,a3,a4⟩:=yr_spec h1 h2
 have hr:rightI (yrN z) ((b:Int)+1) (z-yS (yrN z-1) -mS (yrN z) b):=⟨by omega,h4⟩
 have e:numI (yrN z) ((b:Int)+1) (z-yS (yrN z-1) -mS (yrN z) b)=z:=by
  unfold numI
  rw [show (((yrN z:Nat):Int) -1).toNat=yrN z-1 by omega,show ((b:Int)+1-1).toNat=b by omega]
  omega
 have:=dtN_eq hr
 rw [e] at this
 exact this
end Go.Proofs.YtjpilacbapibjaaGreatDoor.Da
namespace Go.Proofs.YtjpilacbapibjaaGreatDoor.X
open Go.Proofs.YtjpilacbapibjaaGreatDoor.Da
open Go.RowKit Go.Proofs.YtjpilacbapibjaaGreatDoor.Z
set_option linter.unusedVariables false
def chkI (y m d:Int):Int:=if rightI y m d then 0 else 11
def nbI (y m d:Int):Int:=if rightI y m d then numI y m d else 0
def wkI (y m d:Int):Int:=if rightI y m d then (numI y m d-1)%7 else 0
def prT (y m d:Int):List UInt8:=if rightI y m d then dText y.toNat m.toNat d.toNat else []
def ofE (z:Int):Int:=if 1≤z∧z≤3652059 then 0 else 11
theorem chk_1 {y m d:Int} (h:rightI y m d):chkI y m d=0∧nbI y m d=numI y m d∧wkI y m d=(numI y m d-1)%7∧prT y m d=dText y.toNat m.toNat d.toNat:=by
 unfold chkI nbI wkI prT
 rw [if_pos h,if_pos h,if_pos h,if_pos h]
 exact ⟨rfl,rfl,rfl,rfl⟩
theorem chk_0 {y m d:Int} (h: ¬rightI y m d):chkI y m d=11∧nbI y m d=0∧wkI y m d=0∧prT y m d= []:=by
 unfold chkI nbI wkI prT
 rw [if_neg h,if_neg h,if_neg h,if_neg h]
 exact ⟨rfl,rfl,rfl,rfl⟩
theorem chk_n {y m d:Int} (h: ¬rightI y m d):(!decide ((chkI y m d:Int)=0))=true:=by rw [(chk_0 h).1];rfl
theorem chk_y {y m d:Int} (h: ¬ ¬rightI y m d):(!decide ((chkI y m d:Int)=0))=false:=by rw [(chk_1 (by simpa using h)).1];rfl
theorem chk_b {y m d:Int}:cond (decide (d<(1:Int))) true (decide (dayI y m<d))= !decide (rightI y m d):=by
 by_cases h:d<(1:Int)
 ·rw [decide_eq_true h,decide_eq_false (show ¬rightI y m d from fun e=>by have:=e.1;omega)]
  rfl
 ·by_cases h2:dayI y m<d
  ·rw [decide_eq_false h,decide_eq_true h2,decide_eq_false (show ¬rightI y m d from fun e=>by have:=e.2;omega)]
   rfl
  ·rw [decide_eq_false h,decide_eq_false h2,decide_eq_true (show rightI y m d from ⟨by omega,by omega⟩)]
   rfl
theorem leap_p {y:Int} (h: ¬ ¬(1≤y∧y≤9999)):cond (cond (decide (y%4=0)) (!decide (y%100=0)) false) true (decide (y%400=0))=leapI y:=by
 rw [Bool.eq_iff_iff,leap_iff]
 by_cases a:y%4=0<;>by_cases b:y%100=0<;>by_cases c:y%400=0<;>simp [a,b,c]<;>omega
theorem md_at {m:Int} (h1:1≤m) (h2:m≤12):mdL.getD (m-1).toNat 0=if m=2 then 28 else if m=4∨m=6∨m=9∨m=11 then 30 else 31:=by
 obtain ⟨k,rfl⟩: ∃k:Nat,m=(k:Int)+1:=⟨(m-1).toNat,by omega⟩
 rw [show ((k:Int)+1-1).toNat=k by omega]
 have hk:k<12:=by omega
 rcases k with _|_|_|_|_|_|_|_|_|_|_|_|k<;>first|rfl|omega
theorem day_p {y m:Int} (h:(1≤y∧y≤9999)∧1≤m∧m≤12) (h2: ¬(m=2∧leapI y=true)):mdL.getD (m-1).toNat 0=dayI y m:=by
 rw [md_at h.2.1 h.2.2]
 refine day_yes h ?_
 by_cases e:m=2
 ·rw [if_pos e,if_pos e,if_neg (fun e2=>h2 ⟨e,e2⟩)]
 ·rw [if_neg e,if_neg e]
theorem day_p2 {y m:Int} (h:(1≤y∧y≤9999)∧1≤m∧m≤12) (h2:m=2∧leapI y=true):mdL.getD (m-1).toNat 0+1=dayI y m:=by
 rw [md_at h.2.1 h.2.2,if_pos h2.1]
 exact day_yes h (by rw [if_pos h2.1,if_pos h2.2];rfl)
theorem md_in {m:Int} (h1:1≤m) (h2:m≤12):28≤mdL.getD (m-1).toNat 0∧mdL.getD (m-1).toNat 0≤31:=by
 rw [md_at h1 h2]
 repeat' split
 all_goals omega
theorem lp_b {y m:Int}:cond (decide ((m:Int)=2)) (leapI y) false=decide (m=2∧leapI y=true):=by
 by_cases h:m=2<;>cases leapI y<;>simp [h]
theorem tdN (n k:Nat):(n:Int).tdiv (k:Int)=((n/k:Nat):Int):=by
 rw [Int.tdiv_eq_ediv_of_nonneg (by omega)]
 simp
theorem yS_at {n:Nat} (h:n≤9999):365*(n:Int)+((n/4:Nat):Int) -((n/100:Nat):Int)+((n/400:Nat):Int)=yS n:=by
 rw [yS_eq n h]
 omega
def cmpZ (a b:Int):Int:=if a<b then -1 else if b<a then 1 else 0
def or3 (a b c:Int):Int:=if a≠0 then a else if b≠0 then b else c
theorem cmpZ_lt {a b:Int} (h:a<b):(-1:Int)=cmpZ a b:=by unfold cmpZ;rw [if_pos h]
theorem cmpZ_gt {a b:Int} (h: ¬a<b) (h2:b<a):(1:Int)=cmpZ a b:=by unfold cmpZ;rw [if_neg h,if_pos h2]
theorem cmpZ_eq {a b:Int} (h: ¬a<b) (h2: ¬b<a):(0:Int)=cmpZ a b:=by unfold cmpZ;rw [if_neg h,if_neg h2]
theorem or3_at {a b c:Int} {i:Nat} (h:i<3) (h2: ∀j,j<i→at3 a b c j=0) (h3: ¬at3 a b c i=0):at3 a b c i=or3 a b c:=by
 unfold or3
 rcases i with _|_|_|i
 ·have h3: ¬a=0:=h3
  rw [if_pos h3]
  rfl
 ·have h3: ¬b=0:=h3
  have e:a=0:=h2 0 (by omega)
  rw [if_neg (by omega),if_pos h3]
  rfl
 ·have e:a=0:=h2 0 (by omega)
  have e2:b=0:=h2 1 (by omega)
  rw [if_neg (by omega),if_neg (by omega)]
  rfl
 ·omega
theorem or3_no {a b c:Int} (h2: ∀j,j<3→at3 a b c j=0):(0:Int)=or3 a b c:=by
 have e:a=0:=h2 0 (by omega)
 have e2:b=0:=h2 1 (by omega)
 have e3:c=0:=h2 2 (by omega)
 unfold or3
 rw [if_neg (by omega),if_neg (by omega),e3]
theorem or_cmp (y m d y' m' d':Int):or3 (cmpZ y y') (cmpZ m m') (cmpZ d d')=cmpI y m d y' m' d':=by
 unfold or3 cmpZ cmpI
 repeat' split
 all_goals omega
theorem or4 (a:Int) (i:Nat):3≤i∨(i<3∧ ¬a=0)∨(i<3∧a=0):=by omega
theorem u64_in {m:Int} (h1:0≤m) (h2:m≤9223372036854775807):IntKind.u64.wrap m=m:=by
 have e:m%(2^IntKind.u64.bits:Int)=m:=Int.emod_eq_of_lt h1 (by show m<18446744073709551616;omega)
 unfold IntKind.wrap
 rw [e]
 rfl
theorem sr3 (z:Int) (i j:Nat):j≤i∨(i<j∧yB z ((i+j)/2)=false)∨(i<j∧yB z ((i+j)/2)=true):=by
 rcases Nat.lt_or_ge i j with h|h
 ·cases yB z ((i+j)/2)
  ·exact .inr (.inl ⟨h,rfl⟩)
  ·exact .inr (.inr ⟨h,rfl⟩)
 ·exact .inl h
def dl (z:Int):Nat→Int
 |0=>z-yS (yrN z-1)
 |b+1=>dl z b-dayI ((yrN z:Nat):Int) ((b:Int)+1)
theorem dl_eq (z:Int): ∀b,dl z b=z-yS (yrN z-1) -mS ((yrN z:Nat):Int) b:=by
 intro b
 induction b with
 |zero=>show z-yS (yrN z-1)=z-yS (yrN z-1) -0;omega
 |succ b ih=>
  show dl z b-dayI ((yrN z:Nat):Int) ((b:Int)+1)=z-yS (yrN z-1) -(mS ((yrN z:Nat):Int) b+dayI ((yrN z:Nat):Int) ((b:Int)+1))
  omega
theorem dl_in {z:Int} (h1:1≤z) (h2:z≤3652059) {b:Nat} (hb:b≤12): -400≤dl z b∧dl z b≤366:=by
 obtain ⟨a1,a2,a3,a4⟩:=yr_spec h1 h2
 have hy:1≤((yrN z:Nat):Int)∧((yrN z:Nat):Int)≤9999:=by omega
 have e1:=mS_le hy (n:=0) (m:=b) (by omega) hb
 have e2:=mS_le hy (n:=b) (m:=12) hb (by omega)
 rw [mS_year hy] at e2
 have e3:=yr_lo ((yrN z:Nat):Int)
 have e4:yS (yrN z)=yS (yrN z-1)+yrI ((yrN z:Nat):Int):=by
  obtain ⟨k,hk⟩: ∃k,yrN z=k+1:=⟨yrN z-1,by omega⟩
  rw [hk]
  rfl
 have e5:mS ((yrN z:Nat):Int) 0=0:=rfl
 rw [dl_eq]
 omega
theorem dl_next {z:Int} (h1:1≤z) (h2:z≤3652059) {b:Nat} (hb:b<12) (h:dayI ((yrN z:Nat):Int) ((b:Int)+1)<dl z b):b+1<12:=by
 obtain ⟨a1,a2,a3,a4⟩:=yr_spec h1 h2
 have hy:1≤((yrN z:Nat):Int)∧((yrN z:Nat):Int)≤9999:=by omega
 rcases Nat.lt_or_ge (b+1) 12 with h3|h3
 ·exact h3
 ·obtain rfl:b=11:=by omega
  have e4:yS (yrN z)=yS (yrN z-1)+yrI ((yrN z:Nat):Int):=by
   obtain ⟨k,hk⟩: ∃k,yrN z=k+1:=⟨yrN z-1,by omega⟩
   rw [hk]
   rfl
  have e5:mS ((yrN z:Nat):Int) 12=mS ((yrN z:Nat):Int) 11+dayI ((yrN z:Nat):Int) (((11:Nat):Int)+1):=rfl
  rw [mS_year hy] at e5
  rw [dl_eq] at h
  omega
theorem dl_end {z:Int} (h1:1≤z) (h2:z≤3652059) {b:Nat} (hb:b<12) (h3:0<dl z b) (h4:dl z b≤dayI ((yrN z:Nat):Int) ((b:Int)+1)):dtN z=(((yrN z:Nat):Int),(b:Int)+1,dl z b):=by
 rw [dl_eq] at h3 h4⊢
 exact dtN_at h1 h2 hb (by omega) h4
def vI3:Vw (Int×Int×Int):=⟨fun| .L _ 1 [[.int .i64 a],[.int .i64 b],[.int .i64 c]] false=>some (a,b,c)|_=>none,fun a w v=>isRd (cxA w) true 1 [[.int .i64 a.1],[.int .i64 a.2.1],[.int .i64 a.2.2]] w v,fun k a h w v hv=>by
 split at h
 ·injection h with h
  subst h
  exact hv
 ·cases h⟩
theorem pLeap_t {w:World} {v0:Value} {y:Int} (h0:(isE (.int .i64 y)) w v0):Calls Tryz.prog 100 #[v0] w (Ret w fun v w'=>(isE (.bool (leapI y))) w' v):=by
 exact fx ctb28 Tryz.func100 (hnX [(1,[(3,777777,none),(4,777777,none),(5,777777,none)]),(3,[(1,0,oS (eI (y%4))),(4,777777,none),(5,777777,oS (eI (y%100))),(6,777777,none),(7,777777,none),(9,777777,none),(10,777777,oS (eI (y%400))),(11,777777,none),(12,777777,none)])]) [(0,eI y)] (.s (eB (leapI y))) ⟨h0,trivial⟩ (im2 (decide ((y:Int)<1)==false)∧(decide ((y:Int)<1)=false→(decide ((y:Int)<1)==false)=true)∧cnd (cond (decide ((y:Int)<1)) true (decide ((9999:Int)<y))) (false=leapI y) ((4≠(0:Int))∧tI (Int.tmod y 4) (y%4)∧((decide ((y%4:Int)=0)==true)=true→100≠(0:Int))∧((decide ((y%4:Int)=0)==true)=true→tI (Int.tmod y 100) (y%100))∧im2 (decide ((y%4:Int)=0)==true)∧im2 (decide ((y%4:Int)=0)==true)∧(decide ((y%4:Int)=0)=true→(decide ((y%4:Int)=0)==true)=true)∧((cond (decide ((y%4:Int)=0)) (!decide ((y%100:Int)=0)) false==false)=true→400≠(0:Int))∧((cond (decide ((y%4:Int)=0)) (!decide ((y%100:Int)=0)) false==false)=true→tI (Int.tmod y 400) (y%400))∧im2 (cond (decide ((y%4:Int)=0)) (!decide ((y%100:Int)=0)) false==false)∧im2 (cond (decide ((y%4:Int)=0)) (!decide ((y%100:Int)=0)) false==false)∧(cond (decide ((y%4:Int)=0)) (!decide ((y%100:Int)=0)) false=false→(cond (decide ((y%4:Int)=0)) (!decide ((y%100:Int)=0)) false==false)=true)∧cond (cond (decide ((y%4:Int)=0)) (!decide ((y%100:Int)=0)) false) true (decide ((y%400:Int)=0))=leapI y)) ⟨id,(fun hp=>by simp_all),(Classical.em (¬(1≤y∧y≤9999))).elim (fun hy=>cnd_t (by simp;omega) (by first|exact leap_1 hy|exact leap_p hy)) (fun hy=>cnd_f (by simp;omega) ⟨(by decide),⟨rfl,Int.tmod_eq_emod_of_nonneg (by omega)⟩,(fun hg=>(by decide)),(fun hg=>⟨rfl,Int.tmod_eq_emod_of_nonneg (by omega)⟩),id,id,(fun hp=>by simp_all),(fun hg=>(by decide)),(fun hg=>⟨rfl,Int.tmod_eq_emod_of_nonneg (by omega)⟩),id,id,(fun hp=>by rw [hp];rfl),(by first|exact leap_1 hy|exact leap_p hy)⟩)⟩
theorem pYears_t {w:World} {v0:Value} {n:Nat} (h0:(isE (.int .i64 (n:Int))) w v0) (hn:n≤9999):Calls Tryz.prog 101 #[v0] w (Ret w fun v w'=>(isE (.int .i64 (yS n))) w' v):=by
 exact fx ctb28 Tryz.func101 (hnX [(1,[(3,0,oS (eI ((n/4:Nat):Int))),(6,0,oS (eI ((n/100:Nat):Int))),(9,0,oS (eI ((n/400:Nat):Int)))])]) [(0,eI (n:Int))] (.s (eI (yS n))) ⟨h0,trivial⟩ (wp (365*(n:Int))∧((4:Int)≠0)∧IntKind.i64.wrap ((n:Int).tdiv 4)=(n:Int).tdiv 4∧tI ((n:Int).tdiv 4) ((n/4:Nat):Int)∧wp ((365*(n:Int))+((n/4:Nat):Int))∧((100:Int)≠0)∧IntKind.i64.wrap ((n:Int).tdiv 100)=(n:Int).tdiv 100∧tI ((n:Int).tdiv 100) ((n/100:Nat):Int)∧wp (((365*(n:Int))+((n/4:Nat):Int)) -((n/100:Nat):Int))∧((400:Int)≠0)∧IntKind.i64.wrap ((n:Int).tdiv 400)=(n:Int).tdiv 400∧tI ((n:Int).tdiv 400) ((n/400:Nat):Int)∧wp ((((365*(n:Int))+((n/4:Nat):Int)) -((n/100:Nat):Int))+((n/400:Nat):Int))∧tI ((((365*(n:Int))+((n/4:Nat):Int)) -((n/100:Nat):Int))+((n/400:Nat):Int)) (yS n)) ⟨wi (by omega),(by omega),(by rw [show (n:Int).tdiv 4=((n/4:Nat):Int) from tdN n 4];exact i64_in (by omega) (by omega)),⟨rfl,tdN n 4⟩,wi (by omega),(by omega),(by rw [show (n:Int).tdiv 100=((n/100:Nat):Int) from tdN n 100];exact i64_in (by omega) (by omega)),⟨rfl,tdN n 100⟩,wi (by omega),(by omega),(by rw [show (n:Int).tdiv 400=((n/400:Nat):Int) from tdN n 400];exact i64_in (by omega) (by omega)),⟨rfl,tdN n 400⟩,wi (by omega),⟨rfl,yS_at hn⟩⟩
noncomputable def ctb29:List (Ct dk):= [
 ct1 100 0 en100 vI (fun x=> .s (eB (leapI x))) (fun x=> []) fun _ p _ _ h1=>pLeap_t h1]++ctb28
theorem pDays_t {w:World} {v0 v1:Value} {y m:Int} (h0:(isE (.int .i64 y)) w v0) (h1:(isE (.int .i64 m)) w v1) (hw:isTb w v0):Calls Tryz.prog 102 #[v0,v1] w (Ret w fun v w'=>(isE (.int .i64 (dayI y m))) w' v):=by
 exact fx ctb29 Tryz.func102 (hnX [(1,[(3,777777,none),(4,777777,none),(5,777777,none),(7,777777,none),(8,777777,none),(9,777777,none),(11,777777,none),(12,777777,none),(13,777777,none)]),(3,[(1,0,oS (eI (((m-1).toNat:Nat):Int)))]),(4,[(3,777777,none),(4,777777,none),(5,777777,none)])]) [(0,eI y),(1,eI m),(1000000, .O .Tb)] (.s (eI (dayI y m))) ⟨h0,h1,hw,trivial⟩ (im2 (decide ((y:Int)<1)==false)∧(decide ((y:Int)<1)=false→(decide ((y:Int)<1)==false)=true)∧im2 (cond (decide ((y:Int)<1)) true (decide ((9999:Int)<y))==false)∧(cond (decide ((y:Int)<1)) true (decide ((9999:Int)<y))=false→(cond (decide ((y:Int)<1)) true (decide ((9999:Int)<y))==false)=true)∧im2 (cond (cond (decide ((y:Int)<1)) true (decide ((9999:Int)<y))) true (decide ((m:Int)<1))==false)∧(cond (cond (decide ((y:Int)<1)) true (decide ((9999:Int)<y))) true (decide ((m:Int)<1))=false→(cond (cond (decide ((y:Int)<1)) true (decide ((9999:Int)<y))) true (decide ((m:Int)<1))==false)=true)∧cnd (cond (cond (cond (decide ((y:Int)<1)) true (decide ((9999:Int)<y))) true (decide ((m:Int)<1))) true (decide ((12:Int)<m))) (tI 0 (dayI y m)) (wp (m-1)∧tI (m-1) (((m-1).toNat:Nat):Int)∧(m-1).toNat<12∧im2 (decide ((m:Int)=2)==true)∧(decide ((m:Int)=2)=true→(decide ((m:Int)=2)==true)=true)∧cnd (cond (decide ((m:Int)=2)) (leapI y) false) (wp (mdL.getD ((m-1).toNat) 0+1)∧tI (mdL.getD ((m-1).toNat) 0+1) (dayI y m)) (tI (mdL.getD ((m-1).toNat) 0) (dayI y m)))) ⟨id,(fun hp=>by simp_all),id,(fun hp=>by simp_all),id,(fun hp=>by simp_all),(Classical.em (¬((1≤y∧y≤9999)∧1≤m∧m≤12))).elim (fun hy=>cnd_t (by simp;omega) ⟨rfl,by first|exact (day_none (by omega)).symm|exact day_p (by omega) hl|exact day_p2 (by omega) hl⟩) (fun hy=>cnd_f (by simp;omega) ⟨wi (by omega),⟨rfl,by omega⟩,(by omega),id,(fun hp=>by simp_all),(Classical.em (m=2∧leapI y=true)).elim (fun hl=>cnd_t (by rw [lp_b];exact decide_eq_true hl) ⟨i64_in (by have:=md_in (m:=m) (by omega) (by omega);omega) (by have:=md_in (m:=m) (by omega) (by omega);omega),⟨rfl,by first|exact (day_none (by omega)).symm|exact day_p (by omega) hl|exact day_p2 (by omega) hl⟩⟩) (fun hl=>cnd_f (by rw [lp_b];exact decide_eq_false hl) ⟨rfl,by first|exact (day_none (by omega)).symm|exact day_p (by omega) hl|exact day_p2 (by omega) hl⟩)⟩)⟩
noncomputable def ctb30:List (Ct dk):= [
 ct2w 102 0 en102 vI vI (.O .Tb) isTbk isTbk_ok (fun x y=> .s (eI (dayI x y))) (fun x y=> []) fun _ _ p _ _ _ _ h1 h2 hW=>pDays_t h1 h2 hW]++ctb29
theorem pCheck_t {w:World} {v0:Value} {y m d:Int} (h0:(f0 w (.s (eD y m d))).p w v0) (hw:isTb w v0):Calls Tryz.prog 71 #[v0] w (Ret w fun v w'=>(isE (.int .i64 (chkI y m d))) w' v):=by
 exact fx ctb30 Tryz.func71 (hnX [(1,[(4,777777,none),(5,777777,none),(6,777777,none),(7,777777,none),(8,777777,none),(9,777777,none),(10,777777,none),(11,777777,none),(12,777777,none)])]) [(0,eD y m d),(1000000, .O .Tb)] (.s (eI (chkI y m d))) ⟨h0,hw,trivial⟩ (im2 (decide ((d:Int)<1)==false)∧im2 (decide ((d:Int)<1)==false)∧im2 (decide ((d:Int)<1)==false)∧im2 (decide ((d:Int)<1)==false)∧im2 (decide ((d:Int)<1)==false)∧im2 (decide ((d:Int)<1)==false)∧im2 (decide ((d:Int)<1)==false)∧(decide ((d:Int)<1)=false→(decide ((d:Int)<1)==false)=true)∧cnd (cond (decide ((d:Int)<1)) true (decide ((dayI y m:Int)<d))) (tI 11 (chkI y m d)) (tI 0 (chkI y m d))) ⟨id,id,id,id,id,id,id,(fun hp=>by simp_all),(Classical.em (¬rightI y m d)).elim (fun hr=>cnd_t (by rw [chk_b,decide_eq_false hr];rfl) ⟨rfl,by first|exact (chk_0 hr).1.symm|exact (chk_1 (by simpa using hr)).1.symm⟩) (fun hr=>cnd_f (by rw [chk_b,decide_eq_true (by simpa using hr)];rfl) ⟨rfl,by first|exact (chk_0 hr).1.symm|exact (chk_1 (by simpa using hr)).1.symm⟩)⟩
theorem nb_at {y m d:Int} {b:Nat} (h: ¬ ¬rightI y m d) (hb:b=(m-1).toNat):nY (y-1).toNat y b+d=nbI y m d:=by
 rw [(chk_1 (by simpa using h)).2.1,nY_eq,hb]
 rfl
theorem pn_hy {y m d:Int} (h: ¬ ¬rightI y m d):(1≤y∧y≤9999)∧(1≤m∧m≤12)∧1≤d∧d≤31:=by
 have:=right_in (show rightI y m d by simpa using h)
 exact ⟨this.1,this.2.1,this.2.2.1,this.2.2.2.2⟩
noncomputable def ctb31:List (Ct dk):= [
 ct1 101 0 en101 vIn (fun x=> .s (eI (yS x))) (fun x=> [x≤9999]) fun _ p _ _ h1=>pYears_t h1 p.1,
 ct1w 71 0 en71 vDt (.O .Tb) isTbk isTbk_ok (fun x=> .s (eI (chkI x.1 x.2.1 x.2.2))) (fun x=> []) fun _ p _ _ _ h1 hW=>pCheck_t h1 hW]++ctb30
noncomputable abbrev rpNumber_t:=rX ctb31 Tryz.f68
noncomputable abbrev dpNumber_t (y m d:Int):=dX ctb31 Tryz.f68 (.t [eI (nbI y m d),eI (chkI y m d)])
noncomputable def hpNumber_t (y m d:Int):Nat→Hint K:=hnX [(4,[(2,0,oS (eI (((y-1).toNat:Nat):Int)))])]
noncomputable def ipNumber_t_0 (y m d:Int) (b:Nat):Sx K:=⟨[(3,eI 0),(2,eI 0),(1000000, .O .Tb),(6,eI ((b:Int)+1)),(5,eI (nY (y-1).toNat y b))],[⟨1,28,eD y m d⟩]⟩
noncomputable def hpNumber_t_0_0 (y m d:Int) (b:Nat):Nat→Hint K:=hnX [(6,[(3,0,oS (eB true))])]
noncomputable def hpNumber_t_0_1 (y m d:Int) (b:Nat):Nat→Hint K:=hnX [(6,[(3,0,oS (eB false))])]
theorem pNumber_t {w:World} {v0:Value} {y m d:Int} (h0:(f0 w (.s (eD y m d))).p w v0) (hw:isTb w v0):Calls Tryz.prog 68 #[v0] w (Ret w fun v w'=>(f0 w (.t [eI (nbI y m d),eI (chkI y m d)])).p w' v):=by
 exact fx ctb31 Tryz.func68 (hpNumber_t y m d) [(0,eD y m d),(1000000, .O .Tb)] (.t [eI (nbI y m d),eI (chkI y m d)]) ⟨h0,hw,trivial⟩ (cnd (!decide ((chkI y m d:Int)=0)) (tI 0 (nbI y m d)∧tI (chkI y m d) (chkI y m d)∧True) (wp (y-1)∧tI (y-1) (((y-1).toNat:Nat):Int)∧(y-1).toNat≤9999∧dpNumber_t y m d [1,1,0,1] [(hpNumber_t y m d)] [] (rlX (rpNumber_t (hpNumber_t y m d)) [5,4,2,1] (ent Tryz.prog Tryz.f68 (κ:=K) [(0,eD y m d),(1000000, .O .Tb)])))) ((Classical.em (¬rightI y m d)).elim (fun hr=>cnd_t (chk_n hr) ⟨⟨rfl,by first|exact (chk_0 hr).2.1.symm|exact nb_at hr hC1⟩,⟨rfl,by first|rfl|exact (chk_1 (by simpa using hr)).1.symm⟩,trivial⟩) (fun hr=>cnd_f (chk_y hr) ⟨i64_in (by have:=pn_hy hr;omega) (by have:=pn_hy hr;omega),⟨rfl,by have:=pn_hy hr;omega⟩,(by have:=pn_hy hr;omega),(lpI (fun h S' J=>dpNumber_t y m d [1,1,0,1,0,2] [(hpNumber_t y m d),h] [J] S') (fun b:Nat=>b≤(m-1).toNat) (fun b=>(m-1).toNat-b) (ipNumber_t_0 y m d) (0) (rlX (rpNumber_t (hpNumber_t y m d)) [5,4,2,1] (ent Tryz.prog Tryz.f68 (κ:=K) [(0,eD y m d),(1000000, .O .Tb)])) (Nat.zero_le _) (fun b hC1 J1 hJ1=>(by
  have hq:=pn_hy hr
  have hyb:=nY_in hq.1 (p:=(y-1).toNat) (b:=b) (by omega) (by omega)
  have hdd:=day_of hq.1 (m:=(b:Int)+1)
  rcases Nat.lt_or_ge b (m-1).toNat with h8|h8
  ·exact ⟨hpNumber_t_0_0 y m d b,vcP (decide (((b:Int)+1:Int)<m)=true∧wp (nY (y-1).toNat y b+dayI y ((b:Int)+1))∧wp (((b:Int)+1)+1)∧J1 (rlX (rpNumber_t (hpNumber_t_0_0 y m d b)) [7,8,6] (ipNumber_t_0 y m d b))) ⟨decide_eq_true (by omega),wi (by omega),wi (by omega),hJ1 (b+1) _ (by omega) (by omega) ⟨by kernel_rfl,by kernel_rfl⟩⟩⟩
  ·exact ⟨hpNumber_t_0_1 y m d b,vcP (decide (((b:Int)+1:Int)<m)=false∧(wp (nY (y-1).toNat y b+d)∧(tI (nY (y-1).toNat y b+d) (nbI y m d)∧tI 0 (chkI y m d)∧True))) ⟨decide_eq_false (by omega),(have hC1:b=(m-1).toNat:=(by have:=pn_hy hr;omega);⟨wi (by omega),⟨⟨rfl,by first|exact (chk_0 hr).2.1.symm|exact nb_at hr hC1⟩,⟨rfl,by first|rfl|exact (chk_1 (by simpa using hr)).1.symm⟩,trivial⟩⟩)⟩⟩)))⟩))
end Go.Proofs.YtjpilacbapibjaaGreatDoor.X
namespace Go.Proofs.YtjpilacbapibjaaGreatDoor.X
open Go.Proofs.YtjpilacbapibjaaGreatDoor.Da
open Go.RowKit Go.Proofs.YtjpilacbapibjaaGreatDoor.Z
set_option linter.unusedVariables false
theorem nan_t {w:World} {v0:Value} {a:Int} (h0:(isE (.int .i64 a)) w v0):Calls Tryz.prog 99 #[v0] w (Ret w fun v w'=>(isE (.bool false)) w' v):=by
 exact fx ctb31 Tryz.func99 (hnX [(1,[(2,0,oS (eB false))])]) [(0,eI a)] (.s (eB false)) ⟨h0,trivial⟩ ((!decide ((a:Int)=a))=false∧false=false) ⟨(by simp),rfl⟩
noncomputable def ctb32:List (Ct dk):= [
 ct1 99 0 en99 vI (fun x=> .s (eB false)) (fun x=> []) fun _ p _ _ h1=>nan_t h1]++ctb31
theorem compare_t {w:World} {v0 v1:Value} {a b:Int} (h0:(isE (.int .i64 a)) w v0) (h1:(isE (.int .i64 b)) w v1):Calls Tryz.prog 63 #[v0,v1] w (Ret w fun v w'=>(isE (.int .i64 (cmpZ a b))) w' v):=by
 exact fx ctb32 Tryz.func63 (fun _=> []) [(0,eI a),(1,eI b)] (.s (eI (cmpZ a b))) ⟨h0,h1,trivial⟩ (cnd (decide ((a:Int)<b)) (tI (-1) (cmpZ a b)) (cnd (decide ((b:Int)<a)) (tI 1 (cmpZ a b)) (tI 0 (cmpZ a b)))) ((Classical.em (a<b)).elim (fun hc=>cnd_t (decide_eq_true hc) ⟨rfl,by first|exact cmpZ_lt hc|exact cmpZ_gt hc hd|exact cmpZ_eq hc hd⟩) (fun hc=>cnd_f (decide_eq_false hc) ((Classical.em (b<a)).elim (fun hd=>cnd_t (decide_eq_true hd) ⟨rfl,by first|exact cmpZ_lt hc|exact cmpZ_gt hc hd|exact cmpZ_eq hc hd⟩) (fun hd=>cnd_f (decide_eq_false hd) ⟨rfl,by first|exact cmpZ_lt hc|exact cmpZ_gt hc hd|exact cmpZ_eq hc hd⟩))))
noncomputable abbrev ror_t:=rX ctb32 Tryz.f62
noncomputable abbrev dor_t (a b c:Int):=dX ctb32 Tryz.f62 (.s (eI (or3 a b c)))
noncomputable def hor_t (a b c:Int):Nat→Hint K:=hnX [(2,[(1,0,oS (eI 3))])]
noncomputable def ior_t_0 (a b c:Int) (i:Nat):Sx K:=⟨[(3,eI 0),(6, .L 3 1 ([[.int .i64 a],[.int .i64 b],[.int .i64 c]]) false),(7,eI 3),(8,eI (i:Int))],[]⟩
noncomputable def hor_t_0_0 (a b c:Int) (i:Nat):Nat→Hint K:=hnX [(3,[(0,0,oS (eB false))])]
noncomputable def hor_t_0_1 (a b c:Int) (i:Nat):Nat→Hint K:=hnX [(3,[(0,0,oS (eB true))]),(4,[(0,0,oS (.A [.int .i64 (at3 a b c i)]))]),(5,[(2,0,oS (eB true))])]
noncomputable def hor_t_0_2 (a b c:Int) (i:Nat):Nat→Hint K:=hnX [(3,[(0,0,oS (eB true))]),(4,[(0,0,oS (.A [.int .i64 (at3 a b c i)]))]),(5,[(2,0,oS (eB false))]),(7,[(0,0,oS (eI ((i+1:Nat):Int)))])]
theorem or_t {w:World} {v0:Value} {a b c:Int} (h0:(isRd (cxA w) true 1 ([[.int .i64 a],[.int .i64 b],[.int .i64 c]])) w v0):Calls Tryz.prog 62 #[v0] w (Ret w fun v w'=>(isE (.int .i64 (or3 a b c))) w' v):=by
 exact fx ctb32 Tryz.func62 (hor_t a b c) [(0, .L 3 1 ([[.int .i64 a],[.int .i64 b],[.int .i64 c]]) false)] (.s (eI (or3 a b c))) ⟨h0,trivial⟩ (tI ((([[.int .i64 a],[.int .i64 b],[.int .i64 c]]:List (List Value)).length:Nat):Int) 3∧dor_t a b c [1,0,1] [(hor_t a b c)] [] (rlX (ror_t (hor_t a b c)) [2,1] (ent Tryz.prog Tryz.f62 (κ:=K) [(0, .L 3 1 ([[.int .i64 a],[.int .i64 b],[.int .i64 c]]) false)]))) ⟨⟨rfl,rfl⟩,(lpI (fun h S' J=>dor_t a b c [1,0,1,0,2] [(hor_t a b c),h] [J] S') (fun i:Nat=>i≤3∧ ∀j,j<i→at3 a b c j=0) (fun i=>3-i) (ior_t_0 a b c) (0) (rlX (ror_t (hor_t a b c)) [2,1] (ent Tryz.prog Tryz.f62 (κ:=K) [(0, .L 3 1 ([[.int .i64 a],[.int .i64 b],[.int .i64 c]]) false)])) (⟨by omega,fun j h=>by omega⟩) (fun i hC1 J1 hJ1=>(by
  rcases or4 (at3 a b c i) i with h8|h8|h8
  ·exact ⟨hor_t_0_0 a b c i,vcP (decide (((i:Int):Int)<3)=false∧tI 0 (or3 a b c)) ⟨decide_eq_false (by omega),(have hC1: ∀j,j<3→at3 a b c j=0:=(fun j hj=>hC1.2 j (by omega));⟨rfl,by first|exact or3_no hC1|exact or3_at h8.1 hC1.2 h8.2⟩)⟩⟩
  ·exact ⟨hor_t_0_1 a b c i,vcP (decide (((i:Int):Int)<3)=true∧i<([[.int .i64 a],[.int .i64 b],[.int .i64 c]]:List (List Value)).length∧([[.int .i64 a],[.int .i64 b],[.int .i64 c]]:List (List Value)).getD i []=([.int .i64 (at3 a b c i)]:List Value)∧(!decide ((at3 a b c i:Int)=0))=true∧tI (at3 a b c i) (or3 a b c)) ⟨decide_eq_true (by omega),(by simp;omega),at3_row _ _ _ h8.1,(by rw [decide_eq_false h8.2];rfl),⟨rfl,by first|exact or3_no hC1|exact or3_at h8.1 hC1.2 h8.2⟩⟩⟩
  ·exact ⟨hor_t_0_2 a b c i,vcP (decide (((i:Int):Int)<3)=true∧i<([[.int .i64 a],[.int .i64 b],[.int .i64 c]]:List (List Value)).length∧([[.int .i64 a],[.int .i64 b],[.int .i64 c]]:List (List Value)).getD i []=([.int .i64 (at3 a b c i)]:List Value)∧(!decide ((at3 a b c i:Int)=0))=false∧wp ((i:Int)+1)∧tI ((i:Int)+1) ((i+1:Nat):Int)∧J1 (rlX (ror_t (hor_t_0_2 a b c i)) [7,5,4,3] (ior_t_0 a b c i))) ⟨decide_eq_true (by omega),(by simp;omega),at3_row _ _ _ h8.1,(by rw [decide_eq_true h8.2];rfl),wi (by omega),⟨rfl,by omega⟩,hJ1 (i+1) _ (⟨by omega,fun j hj=>by rcases Nat.lt_or_eq_of_le (Nat.le_of_lt_succ hj) with h|h;exact hC1.2 j h;rw [h];exact h8.2⟩) (by omega) ⟨by kernel_rfl,by kernel_rfl⟩⟩⟩)))⟩
noncomputable def ctb33:List (Ct dk):= [
 ct2 63 0 en63 vI vI (fun x y=> .s (eI (cmpZ x y))) (fun x y=> []) fun _ _ p _ _ _ h1 h2=>compare_t h1 h2,
 ct1 62 0 en62 vI3 (fun x=> .s (eI (or3 x.1 x.2.1 x.2.2))) (fun x=> []) fun _ p _ _ h1=>or_t h1]++ctb32
theorem pCmp_t {w:World} {v0 v1:Value} {y1 m1 d1 y2 m2 d2:Int} (h0:(f0 w (.s (eD y1 m1 d1))).p w v0) (h1:(f0 w (.s (eD y2 m2 d2))).p w v1):Calls Tryz.prog 24 #[v0,v1] w (Ret w fun v w'=>(isE (.int .i64 (cmpI y1 m1 d1 y2 m2 d2))) w' v):=by
 exact fx ctb33 Tryz.func24 (fun _=> []) [(0,eD y1 m1 d1),(1,eD y2 m2 d2)] (.s (eI (cmpI y1 m1 d1 y2 m2 d2))) ⟨h0,h1,trivial⟩ (tI (or3 (cmpZ y1 y2) (cmpZ m1 m2) (cmpZ d1 d2)) (cmpI y1 m1 d1 y2 m2 d2)) ⟨rfl,or_cmp _ _ _ _ _ _⟩
theorem of1_t {w:World} {v0 v1:Value} {k:Nat} {z:Int} (h0:(isE (.int .i64 (k:Int))) w v0) (h1:(f0 w (.s (.A [.int .i64 z]))).p w v1) (hn:k≤9999):Calls Tryz.prog 104 #[v0,v1] w (Ret w fun v w'=>(isE (.bool (yB z k))) w' v):=by
 exact fx ctb33 Tryz.func104 (fun _=> []) [(0,eI (k:Int)),(1, .A [.int .i64 z])] (.s (eB (yB z k))) ⟨h0,h1,trivial⟩ (k≤9999∧decide ((z:Int)≤yS k)=yB z k) ⟨(by omega),rfl⟩
noncomputable def ctb34:List (Ct dk):= [
 ct2 104 0 en104 vIn vA1 (fun x y=> .s (eB (yB y x))) (fun x y=> [x≤9999]) fun _ _ p _ _ _ h1 h2=>of1_t h1 h2 p.1]++ctb33
noncomputable abbrev rsearch_t:=rX ctb34 Tryz.f103
noncomputable abbrev dsearch_t (z:Int):=dX ctb34 Tryz.f103 (.s (eI ((yrN z:Nat):Int)))
noncomputable def hsearch_t (z:Int):Nat→Hint K:=fun _=> []
noncomputable def isearch_t_0 (z:Int) (g:Nat×Nat):Sx K:=⟨[(4,eI 0),(1, .C 104 [[.int .i64 z]]),(5,eI (g.1:Int)),(6,eI (g.2:Int))],[]⟩
noncomputable def hsearch_t_0_0 (z:Int) (g:Nat×Nat):Nat→Hint K:=hnX [(2,[(2,0,oS (eB false))])]
noncomputable def hsearch_t_0_1 (z:Int) (g:Nat×Nat):Nat→Hint K:=hnX [(2,[(2,0,oS (eB true))]),(3,[(2,0,oS (eI ((g.1+g.2:Nat):Int))),(3,0,oS (.E (.int .u64 ((g.1+g.2:Nat):Int)))),(5,0,oS (eI (((g.1+g.2)/2:Nat):Int)))]),(4,[(3,0,oS (eB true))]),(5,[(1,0,oS (eI (((g.1+g.2)/2+1:Nat):Int)))])]
noncomputable def hsearch_t_0_2 (z:Int) (g:Nat×Nat):Nat→Hint K:=hnX [(2,[(2,0,oS (eB true))]),(3,[(2,0,oS (eI ((g.1+g.2:Nat):Int))),(3,0,oS (.E (.int .u64 ((g.1+g.2:Nat):Int)))),(5,0,oS (eI (((g.1+g.2)/2:Nat):Int)))]),(4,[(3,0,oS (eB false))])]
theorem search_t {w:World} {v0 v1:Value} {z:Int} (h0:(isE (.int .i64 9999)) w v0) (h1:(f0 w (.s (.C 104 [[.int .i64 z]]))).p w v1):Calls Tryz.prog 103 #[v0,v1] w (Ret w fun v w'=>(isE (.int .i64 ((yrN z:Nat):Int))) w' v):=by
 exact fx ctb34 Tryz.func103 (hsearch_t z) [(0,eI 9999),(1, .C 104 [[.int .i64 z]])] (.s (eI ((yrN z:Nat):Int))) ⟨h0,h1,trivial⟩ (dsearch_t z [1,0] [(hsearch_t z)] [] (rsearch_t (hsearch_t z) 1 (ent Tryz.prog Tryz.f103 (κ:=K) [(0,eI 9999),(1, .C 104 [[.int .i64 z]])]))) (lpI (fun h S' J=>dsearch_t z [1,0,0,2] [(hsearch_t z),h] [J] S') (fun g:Nat×Nat=>g.1≤g.2∧g.2≤9999∧(∀k,k<g.1→yB z k=false)∧(g.2<9999→yB z g.2=true)) (fun g=>g.2-g.1) (isearch_t_0 z) (0,9999) (rsearch_t (hsearch_t z) 1 (ent Tryz.prog Tryz.f103 (κ:=K) [(0,eI 9999),(1, .C 104 [[.int .i64 z]])])) (⟨by decide,by decide,(fun k h=>by cases h),(fun h=>absurd h (by decide))⟩) (fun g hC1 J1 hJ1=>(by
  have hC1a:=hC1.1
  have hC1b:=hC1.2.1
  rcases sr3 z g.1 g.2 with h8|h8|h8
  ·exact ⟨hsearch_t_0_0 z g,vcP (decide (((g.1:Int):Int)<(g.2:Int))=false∧tI (g.1:Int) ((yrN z:Nat):Int)) ⟨decide_eq_false (by omega),(have hC1:g.1=yrN z:=(lo_eq (by omega) hC1.2.2.1 (fun h=>by have e:g.1=g.2:=(by omega);rw [e];exact hC1.2.2.2 (by omega)));⟨rfl,by rw [hC1]⟩)⟩⟩
  ·exact ⟨hsearch_t_0_1 z g,vcP (decide (((g.1:Int):Int)<(g.2:Int))=true∧wp ((g.1:Int)+(g.2:Int))∧tI ((g.1:Int)+(g.2:Int)) ((g.1+g.2:Nat):Int)∧tU (IntKind.u64.wrap ((g.1+g.2:Nat):Int)) ((g.1+g.2:Nat):Int)∧tI (IntKind.i64.wrap (((g.1+g.2)/2:Nat):Int)) (((g.1+g.2)/2:Nat):Int)∧((g.1+g.2)/2)≤9999∧(!(yB z ((g.1+g.2)/2)))=true∧wp ((((g.1+g.2)/2:Nat):Int)+1)∧tI ((((g.1+g.2)/2:Nat):Int)+1) (((g.1+g.2)/2+1:Nat):Int)∧J1 (rlX (rsearch_t (hsearch_t_0_1 z g)) [5,4,3,2] (isearch_t_0 z g))) ⟨decide_eq_true (by omega),wi (by omega),⟨rfl,by omega⟩,⟨rfl,u64_in (by omega) (by omega)⟩,⟨rfl,i64_in (by omega) (by omega)⟩,(by omega),(by rw [h8.2];rfl),wi (by omega),⟨rfl,by omega⟩,hJ1 ((g.1+g.2)/2+1,g.2) _ (⟨by show (g.1+g.2)/2+1≤g.2;omega,hC1b,fun k hk=>yB_mono (by have:k<(g.1+g.2)/2+1:=hk;omega) h8.2,hC1.2.2.2⟩) (by show g.2-((g.1+g.2)/2+1)<g.2-g.1;omega) ⟨by kernel_rfl,by kernel_rfl⟩⟩⟩
  ·exact ⟨hsearch_t_0_2 z g,vcP (decide (((g.1:Int):Int)<(g.2:Int))=true∧wp ((g.1:Int)+(g.2:Int))∧tI ((g.1:Int)+(g.2:Int)) ((g.1+g.2:Nat):Int)∧tU (IntKind.u64.wrap ((g.1+g.2:Nat):Int)) ((g.1+g.2:Nat):Int)∧tI (IntKind.i64.wrap (((g.1+g.2)/2:Nat):Int)) (((g.1+g.2)/2:Nat):Int)∧((g.1+g.2)/2)≤9999∧(!(yB z ((g.1+g.2)/2)))=false∧J1 (rlX (rsearch_t (hsearch_t_0_2 z g)) [6,4,3,2] (isearch_t_0 z g))) ⟨decide_eq_true (by omega),wi (by omega),⟨rfl,by omega⟩,⟨rfl,u64_in (by omega) (by omega)⟩,⟨rfl,i64_in (by omega) (by omega)⟩,(by omega),(by rw [h8.2];rfl),hJ1 (g.1,(g.1+g.2)/2) _ (⟨by show g.1≤(g.1+g.2)/2;omega,by show (g.1+g.2)/2≤9999;omega,hC1.2.2.1,fun _=>h8.2⟩) (by show (g.1+g.2)/2-g.1<g.2-g.1;omega) ⟨by kernel_rfl,by kernel_rfl⟩⟩⟩)))
theorem search_t2 {w:World} {v u:Value} {n:Int} {c:Nat×Int} (h1:isE (.int .i64 n) w v) (h2:(k0 w (.C c.1 [[.int .i64 c.2]])).p w u) (e1:n=9999) (e2:c.1=104):Calls Tryz.prog 103 #[v,u] w (Ret w fun v' w'=>isE (.int .i64 ((yrN c.2:Nat):Int)) w' v'):=by
 obtain ⟨f,z⟩:=c
 subst e1
 simp only at e2 h2
 subst e2
 exact search_t h1 h2
theorem of_no {z:Int} (h: ¬(1≤z∧z≤3652059)):dtN z=(0,0,0)∧ofE z=11:=⟨dtN_no h,by unfold ofE;rw [if_neg h]⟩
theorem of_yes {z:Int} (h:1≤z∧z≤3652059):ofE z=0:=by unfold ofE;rw [if_pos h]
theorem of_b {z:Int} {c:Bool} (h:c= !decide (1≤z∧z≤3652059)):cond (decide (z<(1:Int))) true (decide (yS 9999<z))=c:=by
 rw [h,yS_last,Bool.eq_iff_iff]
 by_cases h1:z<(1:Int)
 ·simp [h1]<;>omega
 ·by_cases h2:3652059<z
  ·simp [h1,h2]<;>omega
  ·simp [h1,h2]<;>omega
theorem dl4 (z:Int) (b:Nat):dayI ((yrN z:Nat):Int) ((b:Int)+1)<dl z b∨dl z b≤dayI ((yrN z:Nat):Int) ((b:Int)+1):=by omega
theorem pOf_no {w:World} {v0:Value} {z:Int} (h0:(isE (.int .i64 z)) w v0) (hw:isTb w v0) (hz: ¬(1≤z∧z≤3652059)):Calls Tryz.prog 69 #[v0] w (Ret w fun v w'=>(f0 w (.t [eD (dtN z).1 (dtN z).2.1 (dtN z).2.2,eI (ofE z)])).p w' v):=by
 exact fx ctb34 Tryz.func69 (hnX [(1,[(3,777777,none),(4,777777,none),(5,777777,none),(6,777777,oS (eB true))])]) [(0,eI z),(1000000, .O .Tb)] (.t [eD (dtN z).1 (dtN z).2.1 (dtN z).2.2,eI (ofE z)]) ⟨h0,hw,trivial⟩ (((decide ((z:Int)<1)==false)=true→9999≤9999)∧im2 (decide ((z:Int)<1)==false)∧im2 (decide ((z:Int)<1)==false)∧(decide ((z:Int)<1)=false→(decide ((z:Int)<1)==false)=true)∧cond (decide ((z:Int)<1)) true (decide ((yS 9999:Int)<z))=true∧(tK (eD 0 0 0) (eD (dtN z).1 (dtN z).2.1 (dtN z).2.2)∧tI 11 (ofE z)∧True)) ⟨(fun hg=>(by omega)),id,id,(fun hp=>by simp_all),of_b (by rw [decide_eq_false hz];rfl),⟨(fun _ _ _ _ _ h=>by first|(rw [(of_no hz).1];exact h)|(rw [hC1];exact h)),⟨rfl,by first|exact (of_no hz).2.symm|exact (of_yes hz).symm⟩,trivial⟩⟩
noncomputable def ctb35:List (Ct dk):= [
 ct2 103 0 en103 vI vCl (fun x y=> .s (eI ((yrN y.2:Nat):Int))) (fun x y=> [x=9999,y.1=104]) fun _ _ p _ _ _ h1 h2=>search_t2 h1 h2 p.1 p.2.1]++ctb34
noncomputable abbrev rpOf_yes:=rX ctb35 Tryz.f69
noncomputable abbrev dpOf_yes (z:Int):=dX ctb35 Tryz.f69 (.t [eD (dtN z).1 (dtN z).2.1 (dtN z).2.2,eI (ofE z)])
noncomputable def hpOf_yes (z:Int):Nat→Hint K:=hnX [(1,[(3,777777,none),(4,777777,none),(5,777777,none),(6,777777,oS (eB false))]),(4,[(2,0,oS (eI ((yrN z-1:Nat):Int))),(4,0,oS (eI (dl z 0)))])]
noncomputable def ipOf_yes_0 (z:Int) (b:Nat):Sx K:=⟨[(3,eI 0),(1000000, .O .Tb),(4,eI ((yrN z:Nat):Int)),(6,eI ((b:Int)+1)),(5,eI (dl z b))],[⟨2,28, .X⟩]⟩
noncomputable def hpOf_yes_0_0 (z:Int) (b:Nat):Nat→Hint K:=hnX [(6,[(4,0,oS (eB true))])]
noncomputable def hpOf_yes_0_1 (z:Int) (b:Nat):Nat→Hint K:=hnX [(6,[(4,0,oS (eB false))])]
theorem pOf_yes {w:World} {v0:Value} {z:Int} (h0:(isE (.int .i64 z)) w v0) (hw:isTb w v0) (hz:1≤z∧z≤3652059):Calls Tryz.prog 69 #[v0] w (Ret w fun v w'=>(f0 w (.t [eD (dtN z).1 (dtN z).2.1 (dtN z).2.2,eI (ofE z)])).p w' v):=by
 have hs:=yr_spec hz.1 hz.2
 have hs2:=yS_mono (n:=0) (m:=yrN z-1) (by omega)
 have hs3:yS 0=0:=rfl
 exact fx ctb35 Tryz.func69 (hpOf_yes z) [(0,eI z),(1000000, .O .Tb)] (.t [eD (dtN z).1 (dtN z).2.1 (dtN z).2.2,eI (ofE z)]) ⟨h0,hw,trivial⟩ (((decide ((z:Int)<1)==false)=true→9999≤9999)∧im2 (decide ((z:Int)<1)==false)∧im2 (decide ((z:Int)<1)==false)∧(decide ((z:Int)<1)=false→(decide ((z:Int)<1)==false)=true)∧cond (decide ((z:Int)<1)) true (decide ((yS 9999:Int)<z))=false∧(9999:Int)=9999∧104=104∧wp (((yrN z:Nat):Int) -1)∧tI (((yrN z:Nat):Int) -1) ((yrN z-1:Nat):Int)∧(yrN z-1)≤9999∧wp (z-(yS (yrN z-1)))∧tI (z-(yS (yrN z-1))) (dl z 0)∧dpOf_yes z [1,1,1,1,0] [(hpOf_yes z)] [] (rlX (rpOf_yes (hpOf_yes z)) [5,4,3,1] (ent Tryz.prog Tryz.f69 (κ:=K) [(0,eI z),(1000000, .O .Tb)]))) ⟨(fun hg=>(by omega)),id,id,(fun hp=>by simp_all),of_b (by rw [decide_eq_true hz];rfl),rfl,rfl,wi (by omega),⟨rfl,by omega⟩,(by omega),i64_in (by omega) (by omega),⟨rfl,rfl⟩,(lpI (fun h S' J=>dpOf_yes z [1,1,1,1,0,0,2] [(hpOf_yes z),h] [J] S') (fun b:Nat=>b<12∧0<dl z b) (fun b=>12-b) (ipOf_yes_0 z) (0) (rlX (rpOf_yes (hpOf_yes z)) [5,4,3,1] (ent Tryz.prog Tryz.f69 (κ:=K) [(0,eI z),(1000000, .O .Tb)])) (⟨by omega,by show 0<z-yS (yrN z-1);omega⟩) (fun b hC1 J1 hJ1=>(by
  have hC1a:=hC1.1
  have hdl:=dl_in hz.1 hz.2 (b:=b) (by omega)
  have hdd:=day_of (y:=((yrN z:Nat):Int)) (by omega) (m:=(b:Int)+1) (by omega)
  rcases dl4 z b with h8|h8
  ·exact ⟨hpOf_yes_0_0 z b,vcP (decide ((dayI ((yrN z:Nat):Int) ((b:Int)+1):Int)<dl z b)=true∧wp ((dl z b) -(dayI ((yrN z:Nat):Int) ((b:Int)+1)))∧wp (((b:Int)+1)+1)∧J1 (rlX (rpOf_yes (hpOf_yes_0_0 z b)) [8,7,6] (ipOf_yes_0 z b))) ⟨decide_eq_true h8,wi (by omega),wi (by omega),hJ1 (b+1) _ (⟨dl_next hz.1 hz.2 hC1.1 h8,by show 0<dl z b-dayI ((yrN z:Nat):Int) ((b:Int)+1);omega⟩) (by have:=dl_next hz.1 hz.2 hC1.1 h8;omega) ⟨by kernel_rfl,by kernel_rfl⟩⟩⟩
  ·exact ⟨hpOf_yes_0_1 z b,vcP (decide ((dayI ((yrN z:Nat):Int) ((b:Int)+1):Int)<dl z b)=false∧(tK (eD ((yrN z:Nat):Int) ((b:Int)+1) (dl z b)) (eD (dtN z).1 (dtN z).2.1 (dtN z).2.2)∧tI 0 (ofE z)∧True)) ⟨decide_eq_false (by omega),(have hC1:dtN z=(((yrN z:Nat):Int),(b:Int)+1,dl z b):=(dl_end hz.1 hz.2 hC1.1 hC1.2 h8);⟨(fun _ _ _ _ _ h=>by first|(rw [(of_no hz).1];exact h)|(rw [hC1];exact h)),⟨rfl,by first|exact (of_no hz).2.symm|exact (of_yes hz).symm⟩,trivial⟩)⟩⟩)))⟩
end Go.Proofs.YtjpilacbapibjaaGreatDoor.X
namespace Go.Proofs.YtjpilacbapibjaaGreatDoor.Da
def moI (y m n:Int):Int:=12*(y-1)+m-1+n
def moOk (y m n:Int):Prop:=0≤moI y m n∧moI y m n<119988
instance (y m n:Int):Decidable (moOk y m n):=inferInstanceAs (Decidable (_∧_))
def dtW (x:Int×Int×Int):List Value:= [.int .i64 x.1, .int .i64 x.2.1, .int .i64 x.2.2]
end Go.Proofs.YtjpilacbapibjaaGreatDoor.Da
namespace Go.Proofs.YtjpilacbapibjaaGreatDoor.X
open Go.Proofs.YtjpilacbapibjaaGreatDoor.Da
open Go.RowKit Go.Proofs.YtjpilacbapibjaaGreatDoor.Z
set_option linter.unusedVariables false
theorem k4 (n k:Nat) (s:Int) (p:Prop) [Decidable p]:n≤k∨(k<n∧200000<s)∨(k<n∧s≤200000∧ ¬p)∨(k<n∧s≤200000∧p):=by
 by_cases h:p
 ·rcases Nat.lt_or_ge k n with h1|h1
  ·rcases Int.lt_or_le 200000 s with h2|h2
   ·exact .inr (.inl ⟨h1,h2⟩)
   ·exact .inr (.inr (.inr ⟨h1,h2,h⟩))
  ·exact .inl h1
 ·rcases Nat.lt_or_ge k n with h1|h1
  ·rcases Int.lt_or_le 200000 s with h2|h2
   ·exact .inr (.inl ⟨h1,h2⟩)
   ·exact .inr (.inr (.inl ⟨h1,h2,h⟩))
  ·exact .inl h1
end Go.Proofs.YtjpilacbapibjaaGreatDoor.X
namespace Go.Proofs.YtjpilacbapibjaaGreatDoor.X
open Go.Proofs.YtjpilacbapibjaaGreatDoor.Da
open Go.RowKit Go.Proofs.YtjpilacbapibjaaGreatDoor.Z
set_option linter.unusedVariables false
theorem wrap_hi {x:Int} (h1:9223372036854775808≤x) (h2:x<18446744073709551616):IntKind.i64.wrap x=x-18446744073709551616:=by
 have e:IntKind.i64.bits=64:=rfl
 have e2:IntKind.i64.signed=true:=rfl
 simp [IntKind.wrap,e,e2]
 omega
theorem wrap_or {a n:Int} (ha:0≤a∧a≤4000000) (hn: -9223372036854775808≤n∧n≤9223372036854775807):(a+n≤9223372036854775807∧IntKind.i64.wrap (a+n)=a+n)∨(9223372036854775807<a+n∧IntKind.i64.wrap (a+n)<0):=by
 rcases Int.lt_or_le 9223372036854775807 (a+n) with h|h
 ·refine .inr ⟨h, ?_⟩
  rw [wrap_hi (by omega) (by omega)]
  omega
 ·exact .inl ⟨h,i64_in (by omega) h⟩
noncomputable def dyT (y m d k:Int):Int×Int×Int:=if rightI y m d then dtN (numI y m d+k) else (0,0,0)
def dyE (y m d k:Int):Int:=if rightI y m d then ofE (numI y m d+k) else 11
theorem dy_no {y m d k:Int} (hr: ¬rightI y m d):dyT y m d k=(0,0,0)∧dyE y m d k=11:=by
 unfold dyT dyE
 rw [if_neg hr,if_neg hr]
 exact ⟨rfl,rfl⟩
theorem dy_yes {y m d k:Int} (hr:rightI y m d):dyT y m d k=dtN (numI y m d+k)∧dyE y m d k=ofE (numI y m d+k):=by
 unfold dyT dyE
 rw [if_pos hr,if_pos hr]
 exact ⟨rfl,rfl⟩
theorem dy_at {y m d k:Int} (hr: ¬ ¬rightI y m d) (hk: -9223372036854775808≤k∧k≤9223372036854775807):dyT y m d k=dtN (IntKind.i64.wrap (nbI y m d+k))∧dyE y m d k=ofE (IntKind.i64.wrap (nbI y m d+k)):=by
 have hr':rightI y m d:=by simpa using hr
 rw [(dy_yes hr').1,(dy_yes hr').2,(chk_1 hr').2.1]
 have hi:=num_in hr'
 rcases wrap_or (a:=numI y m d) (n:=k) (by omega) hk with h|h
 ·rw [h.2]
  exact ⟨rfl,rfl⟩
 ·rw [(of_no (z:=numI y m d+k) (by omega)).1,(of_no (z:=numI y m d+k) (by omega)).2,(of_no (z:=IntKind.i64.wrap (numI y m d+k)) (by omega)).1,(of_no (z:=IntKind.i64.wrap (numI y m d+k)) (by omega)).2]
  exact ⟨rfl,rfl⟩
def btI (y m d y' m' d':Int):Int:=if rightI y m d∧rightI y' m' d' then numI y' m' d'-numI y m d else 0
def btE (y m d y' m' d':Int):Int:=if rightI y m d∧rightI y' m' d' then 0 else 11
theorem bt_yes {y m d y' m' d':Int} (h:rightI y m d) (h':rightI y' m' d'):btI y m d y' m' d'=numI y' m' d'-numI y m d∧btE y m d y' m' d'=0:=by
 unfold btI btE
 rw [if_pos ⟨h,h'⟩,if_pos ⟨h,h'⟩]
 exact ⟨rfl,rfl⟩
theorem bt_no {y m d y' m' d':Int} (h: ¬(rightI y m d∧rightI y' m' d')):btI y m d y' m' d'=0∧btE y m d y' m' d'=11:=by
 unfold btI btE
 rw [if_neg h,if_neg h]
 exact ⟨rfl,rfl⟩
theorem nb_in' {y m d:Int} (h: ¬ ¬rightI y m d):nbI y m d=numI y m d∧1≤nbI y m d∧nbI y m d≤3652059:=by
 have h':rightI y m d:=by simpa using h
 rw [(chk_1 h').2.1]
 exact ⟨rfl,num_in h'⟩
theorem k3 (n k:Nat) (p:Prop) [Decidable p]:n≤k∨(k<n∧ ¬p)∨(k<n∧p):=by
 rcases Nat.lt_or_ge k n with h1|h1
 ·by_cases h:p
  ·exact .inr (.inr ⟨h1,h⟩)
  ·exact .inr (.inl ⟨h1,h⟩)
 ·exact .inl h1
noncomputable def ctb36:List (Ct dk):= [
 ct1w 68 0 en68 vDt (.O .Tb) isTbk isTbk_ok (fun x=> .t [eI (nbI x.1 x.2.1 x.2.2),eI (chkI x.1 x.2.1 x.2.2)]) (fun x=> []) fun _ p _ _ _ h1 hW=>pNumber_t h1 hW,
 ct1w 69 0 en69 vI (.O .Tb) isTbk isTbk_ok (fun x=> .t [eD (dtN x).1 (dtN x).2.1 (dtN x).2.2,eI (ofE x)]) (fun x=> []) fun _ p _ _ _ h1 hW=>(Classical.em (1≤_∧_≤3652059)).elim (fun hz=>pOf_yes h1 hW hz) (fun hz=>pOf_no h1 hW hz)]++ctb35
theorem pDays10_t {w:World} {v0 v1:Value} {y m d k:Int} (h0:(f0 w (.s (eD y m d))).p w v0) (h1:(isE (.int .i64 k)) w v1) (hw:isTb w v0) (hk: -9223372036854775808≤k∧k≤9223372036854775807):Calls Tryz.prog 30 #[v0,v1] w (Ret w fun v w'=>(f0 w (.t [eD (dyT y m d k).1 (dyT y m d k).2.1 (dyT y m d k).2.2,eI (dyE y m d k)])).p w' v):=by
 exact fx ctb36 Tryz.func30 (hnX [(4,[(2,31,oS (eI (IntKind.i64.wrap (nbI y m d+k))))])]) [(0,eD y m d),(1,eI k),(1000000, .O .Tb)] (.t [eD (dyT y m d k).1 (dyT y m d k).2.1 (dyT y m d k).2.2,eI (dyE y m d k)]) ⟨h0,h1,hw,trivial⟩ (cnd (!decide ((chkI y m d:Int)=0)) (tK (eD 0 0 0) (eD (dyT y m d k).1 (dyT y m d k).2.1 (dyT y m d k).2.2)∧tI (chkI y m d) (dyE y m d k)∧True) (tI (IntKind.i64.wrap (nbI y m d+k)) (IntKind.i64.wrap (nbI y m d+k))∧(tK (eD (dtN (IntKind.i64.wrap (nbI y m d+k))).1 (dtN (IntKind.i64.wrap (nbI y m d+k))).2.1 (dtN (IntKind.i64.wrap (nbI y m d+k))).2.2) (eD (dyT y m d k).1 (dyT y m d k).2.1 (dyT y m d k).2.2)∧tI (ofE (IntKind.i64.wrap (nbI y m d+k))) (dyE y m d k)∧True))) ((Classical.em (¬rightI y m d)).elim (fun hr=>cnd_t (chk_n hr) ⟨(fun _ _ _ _ _ h=>by first|(rw [(dy_no hr).1];exact h)|(rw [(dy_at hr hk).1];exact h)),⟨rfl,by first|exact ((chk_0 hr).1.trans (dy_no hr).2.symm)|exact (dy_at hr hk).2.symm⟩,trivial⟩) (fun hr=>cnd_f (chk_y hr) ⟨⟨rfl,rfl⟩,⟨(fun _ _ _ _ _ h=>by first|(rw [(dy_no hr).1];exact h)|(rw [(dy_at hr hk).1];exact h)),⟨rfl,by first|exact ((chk_0 hr).1.trans (dy_no hr).2.symm)|exact (dy_at hr hk).2.symm⟩,trivial⟩⟩))
theorem pBetween_t {w:World} {v0 v1:Value} {y1 m1 d1 y2 m2 d2:Int} (h0:(f0 w (.s (eD y1 m1 d1))).p w v0) (h1:(f0 w (.s (eD y2 m2 d2))).p w v1) (hw:isTb w v0):Calls Tryz.prog 29 #[v0,v1] w (Ret w fun v w'=>(f0 w (.t [eI (btI y1 m1 d1 y2 m2 d2),eI (btE y1 m1 d1 y2 m2 d2)])).p w' v):=by
 exact fx ctb36 Tryz.func29 (fun _=> []) [(0,eD y1 m1 d1),(1,eD y2 m2 d2),(1000000, .O .Tb)] (.t [eI (btI y1 m1 d1 y2 m2 d2),eI (btE y1 m1 d1 y2 m2 d2)]) ⟨h0,h1,hw,trivial⟩ (cnd (!decide ((chkI y1 m1 d1:Int)=0)) (tI 0 (btI y1 m1 d1 y2 m2 d2)∧tI (chkI y1 m1 d1) (btE y1 m1 d1 y2 m2 d2)∧True) (cnd (!decide ((chkI y2 m2 d2:Int)=0)) (tI 0 (btI y1 m1 d1 y2 m2 d2)∧tI (chkI y2 m2 d2) (btE y1 m1 d1 y2 m2 d2)∧True) (wp ((nbI y2 m2 d2) -(nbI y1 m1 d1))∧(tI ((nbI y2 m2 d2) -(nbI y1 m1 d1)) (btI y1 m1 d1 y2 m2 d2)∧tI 0 (btE y1 m1 d1 y2 m2 d2)∧True)))) ((Classical.em (¬rightI y1 m1 d1)).elim (fun hr1=>cnd_t (chk_n hr1) ⟨⟨rfl,by first|exact (bt_no (fun e=>hr1 e.1)).1.symm|exact (bt_no (fun e=>hr2 e.2)).1.symm|(rw [(bt_yes (by simpa using hr1) (by simpa using hr2)).1,(nb_in' hr1).1,(nb_in' hr2).1])⟩,⟨rfl,by first|exact ((chk_0 hr1).1.trans (bt_no (fun e=>hr1 e.1)).2.symm)|exact ((chk_0 hr2).1.trans (bt_no (fun e=>hr2 e.2)).2.symm)|exact (bt_yes (by simpa using hr1) (by simpa using hr2)).2.symm⟩,trivial⟩) (fun hr1=>cnd_f (chk_y hr1) ((Classical.em (¬rightI y2 m2 d2)).elim (fun hr2=>cnd_t (chk_n hr2) ⟨⟨rfl,by first|exact (bt_no (fun e=>hr1 e.1)).1.symm|exact (bt_no (fun e=>hr2 e.2)).1.symm|(rw [(bt_yes (by simpa using hr1) (by simpa using hr2)).1,(nb_in' hr1).1,(nb_in' hr2).1])⟩,⟨rfl,by first|exact ((chk_0 hr1).1.trans (bt_no (fun e=>hr1 e.1)).2.symm)|exact ((chk_0 hr2).1.trans (bt_no (fun e=>hr2 e.2)).2.symm)|exact (bt_yes (by simpa using hr1) (by simpa using hr2)).2.symm⟩,trivial⟩) (fun hr2=>cnd_f (chk_y hr2) ⟨i64_in (by have:=nb_in' hr1;have:=nb_in' hr2;omega) (by have:=nb_in' hr1;have:=nb_in' hr2;omega),⟨⟨rfl,by first|exact (bt_no (fun e=>hr1 e.1)).1.symm|exact (bt_no (fun e=>hr2 e.2)).1.symm|(rw [(bt_yes (by simpa using hr1) (by simpa using hr2)).1,(nb_in' hr1).1,(nb_in' hr2).1])⟩,⟨rfl,by first|exact ((chk_0 hr1).1.trans (bt_no (fun e=>hr1 e.1)).2.symm)|exact ((chk_0 hr2).1.trans (bt_no (fun e=>hr2 e.2)).2.symm)|exact (bt_yes (by simpa using hr1) (by simpa using hr2)).2.symm⟩,trivial⟩⟩))))
end Go.Proofs.YtjpilacbapibjaaGreatDoor.X
namespace Go.Proofs.YtjpilacbapibjaaGreatDoor.Da
def posQ (y m d:Int):Rat:=((y:Int):Rat)+((numI y m d-numI y 1 1:Int):Rat)/((yrI y:Int):Rat)
def thA (d:Int):Int:=if d=31 then 30 else d
def thB (d d':Int):Int:=if d'=31∧thA d=30 then 30 else d'
def thN (y m d y' m' d':Int):Int:=360*(y'-y)+30*(m'-m)+thB d d'-thA d
def yrQ (k y m d y' m' d':Int):Rat:=if k=0 then ((thN y m d y' m' d':Int):Rat)/((360:Int):Rat) else if k=1 then ((numI y' m' d'-numI y m d:Int):Rat)/((365:Int):Rat) else posQ y' m' d'-posQ y m d
theorem first_right {y:Int} (hy:1≤y∧y≤9999):rightI y 1 1:=⟨Int.le_refl _,by have:=day_of hy (m:=1) (by omega);omega⟩
def yrOk (k y m d y' m' d':Int):Prop:=(0≤k∧k≤2)∧(rightI y m d∧rightI y' m' d')∧numI y m d≤numI y' m' d'
instance (k y m d y' m' d':Int):Decidable (yrOk k y m d y' m' d'):=inferInstanceAs (Decidable (_∧_))
def yrA (k y m d y' m' d':Int):Rat:=if yrOk k y m d y' m' d' then yrQ k y m d y' m' d' else 0
def yrE (k y m d y' m' d':Int):Int:=if 0≤k∧k≤2 then (if rightI y m d∧rightI y' m' d' then (if numI y m d≤numI y' m' d' then 0 else 12) else 11) else 2
theorem yr_yes {k y m d y' m' d':Int} (h:yrOk k y m d y' m' d'):yrA k y m d y' m' d'=yrQ k y m d y' m' d'∧yrE k y m d y' m' d'=0:=by
 unfold yrA yrE
 rw [if_pos h,if_pos h.1,if_pos h.2.1,if_pos h.2.2]
 exact ⟨rfl,rfl⟩
theorem yr_arg {k y m d y' m' d':Int} (h: ¬(0≤k∧k≤2)):yrA k y m d y' m' d'=0∧yrE k y m d y' m' d'=2:=by
 unfold yrA yrE
 rw [if_neg (fun e=>h e.1),if_neg h]
 exact ⟨rfl,rfl⟩
theorem yr_wrong {k y m d y' m' d':Int} (h:0≤k∧k≤2) (h2: ¬(rightI y m d∧rightI y' m' d')):yrA k y m d y' m' d'=0∧yrE k y m d y' m' d'=11:=by
 unfold yrA yrE
 rw [if_neg (fun e=>h2 e.2.1),if_pos h,if_neg h2]
 exact ⟨rfl,rfl⟩
theorem yr_order {k y m d y' m' d':Int} (h:0≤k∧k≤2) (h2:rightI y m d∧rightI y' m' d') (h3: ¬numI y m d≤numI y' m' d'):yrA k y m d y' m' d'=0∧yrE k y m d y' m' d'=12:=by
 unfold yrA yrE
 rw [if_neg (fun e=>h3 e.2.2),if_pos h,if_pos h2,if_neg h3]
 exact ⟨rfl,rfl⟩
theorem yr_1 {y m d y' m' d':Int}:yrQ 1 y m d y' m' d'=((numI y' m' d'-numI y m d:Int):Rat)/((365:Int):Rat):=by
 unfold yrQ
 rw [if_neg (by decide),if_pos rfl]
theorem yr_2 {y m d y' m' d':Int}:yrQ 2 y m d y' m' d'=posQ y' m' d'-posQ y m d:=by
 unfold yrQ
 rw [if_neg (by decide),if_neg (by decide)]
theorem yr_0 {y m d y' m' d':Int}:yrQ 0 y m d y' m' d'=((thN y m d y' m' d':Int):Rat)/((360:Int):Rat):=by
 unfold yrQ
 rw [if_pos rfl]
def ldI (y m d:Int):Int:=366*(numI y 1 1-1-365*(y-1))+if leapI y=true then numI y m d-numI y 1 1 else 0
theorem ld_yes {y m d:Int} (h:leapI y=true):ldI y m d=366*(numI y 1 1-1-365*(y-1))+(numI y m d-numI y 1 1):=by unfold ldI;rw [if_pos h]
theorem ld_no {y m d:Int} (h: ¬leapI y=true):ldI y m d=366*(numI y 1 1-1-365*(y-1)):=by unfold ldI;rw [if_neg h,Int.add_zero]
theorem ld_in {y m d:Int} (h:rightI y m d): -4000000000≤ldI y m d∧ldI y m d≤4000000000:=by
 have q:=right_in h
 have n1:=num_in h
 have n2:=num_in (first_right (y:=y) (by omega))
 unfold ldI
 split<;>omega
theorem pos_ld {y m d:Int}:posQ y m d=((ldI y m d:Int):Rat)/((366:Int):Rat)+((numI y m d-ldI y m d:Int):Rat)/((365:Int):Rat)+1-1/((365:Int):Rat):=by
 unfold posQ yrI
 by_cases h:leapI y=true
 ·rw [if_pos h,ld_yes h]
  simp only [Rat.intCast_sub,Rat.intCast_add,Rat.intCast_mul]
  grind
 ·rw [if_neg h,ld_no h]
  simp only [Rat.intCast_sub,Rat.intCast_mul]
  grind
theorem yr_ld {y m d y' m' d':Int}:yrQ 2 y m d y' m' d'=((ldI y' m' d'-ldI y m d:Int):Rat)/((366:Int):Rat)+((numI y' m' d'-numI y m d-(ldI y' m' d'-ldI y m d):Int):Rat)/((365:Int):Rat):=by
 rw [yr_2,pos_ld,pos_ld]
 simp only [Rat.intCast_sub]
 grind
end Go.Proofs.YtjpilacbapibjaaGreatDoor.Da
namespace Go.Proofs.YtjpilacbapibjaaGreatDoor.X
open Go.Proofs.YtjpilacbapibjaaGreatDoor.Da
open Go.RowKit Go.Proofs.YtjpilacbapibjaaGreatDoor.Z
set_option linter.unusedVariables false
theorem isR_re {w:World} {v:Value} {q r:Rat} {k j:Nat} (h:isR q k w v) (e:q=r) (e2:k≤j):isR r j w v:=by
 subst e
 exact IsR.weak h e2
noncomputable def ctb37:List (Ct dk):= [
 ct2 46 0 en46 vV vV (fun x y=> .s (.O (.R (((x.1:Int):Rat)/((y.1:Int):Rat)) (max x.2 y.2)))) (fun x y=> [x.2≤100000,y.2≤100000,y.1≠0]) fun _ _ p _ _ _ h1 h2=>of_r h1 h2 p.1 p.2.1 p.2.2.1,
 ct1 45 0 en45 vI (fun x=> .s (.O (.V x 5))) (fun x=> [-9223372036854775807≤x,x≤9223372036854775807]) fun _ p _ _ h1=>by cases h1;exact fromV _ _ p.1 p.2.1]++ctb36
theorem small_q {w:World} {v0 v1:Value} {a b:Int} (h0:(isE (.int .i64 a)) w v0) (h1:(isE (.int .i64 b)) w v1) (ha: -9223372036854775807≤a∧a≤9223372036854775807) (hb:1≤b∧b≤9223372036854775807):Calls Tryz.prog 16 #[v0,v1] w (Ret w fun v w'=>(isR (((a:Int):Rat)/((b:Int):Rat)) 5) w' v):=by
 exact fx ctb37 Tryz.func16 (fun _=> []) [(0,eI a),(1,eI b)] (.s (.O (.R (((a:Int):Rat)/((b:Int):Rat)) 5))) ⟨h0,h1,trivial⟩ ((-9223372036854775807≤a)∧a≤9223372036854775807∧(-9223372036854775807≤b)∧b≤9223372036854775807∧5≤100000∧5≤100000∧(b≠0)∧tK (.O (.R (((a:Int):Rat)/((b:Int):Rat)) (max 5 5))) (.O (.R (((a:Int):Rat)/((b:Int):Rat)) 5))) ⟨(by omega),(by omega),(by omega),(by omega),(by omega),(by omega),(by omega),(fun _ _ _ _ _ h=>isR_re h rfl (by omega))⟩
noncomputable def ctb38:List (Ct dk):= [
 ct2 16 0 en16 vI vI (fun x y=> .s (.O (.R (((x:Int):Rat)/((y:Int):Rat)) 5))) (fun x y=> [-9223372036854775807≤x∧x≤9223372036854775807,1≤y∧y≤9223372036854775807]) fun _ _ p _ _ _ h1 h2=>small_q h1 h2 p.1 p.2.1]++ctb37
noncomputable def ctb39:List (Ct dk):= [
 ct1 92 0 en92 vDt (fun x=> .s (eI (numI x.1 x.2.1 x.2.2))) (fun x=> [rightI x.1 x.2.1 x.2.2]) fun _ p _ _ h1=>refNumber_t h1 p.1]++ctb38
noncomputable def ctb40:List (Ct dk):= [
 ct2 57 0 en57 vR vR (fun x y=> .s (.O (.R (x.1+y.1) (x.2+y.2+2)))) (fun x y=> [x.2≤10000,y.2≤10000]) fun _ _ p _ _ _ h1 h2=>add_r h1 h2 p.1 p.2.1]++ctb39
end Go.Proofs.YtjpilacbapibjaaGreatDoor.X
namespace Go.Proofs.YtjpilacbapibjaaGreatDoor.X
open Go.Proofs.YtjpilacbapibjaaGreatDoor.Da
open Go.RowKit Go.Proofs.YtjpilacbapibjaaGreatDoor.Z
set_option linter.unusedVariables false
def baW:List (List UInt8):= [[116,104,105,114,116,121],[102,105,120,101,100],[97,99,116,117,97,108]]
def wP (l:List UInt8) (i:Nat):Bool:=baW.getD i []==l
theorem w3 (l:List UInt8) (i:Nat):3≤i∨(i<3∧wP l i=true)∨(i<3∧wP l i=false):=by
 rcases Nat.lt_or_ge i 3 with h|h
 ·cases wP l i
  ·exact .inr (.inr ⟨h,rfl⟩)
  ·exact .inr (.inl ⟨h,rfl⟩)
 ·exact .inl h
theorem known11 {w:World} {v0:Value} {k:Int} (h0:(isE (.int .i64 k)) w v0):Calls Tryz.prog 64 #[v0] w (Ret w fun v w'=>(isE (.bool (decide (0≤k∧k<3)))) w' v):=by
 exact fx ctb40 Tryz.func64 (hnX [(1,[(3,777777,none),(4,777777,none),(5,777777,none)])]) [(0,eI k)] (.s (eB (decide (0≤k∧k<3)))) ⟨h0,trivial⟩ (im2 (decide ((0:Int)≤k)==true)∧(decide ((0:Int)≤k)=true→(decide ((0:Int)≤k)==true)=true)∧cond (decide ((0:Int)≤k)) (decide ((k:Int)<3)) false=decide (0≤k∧k<3)) ⟨id,(fun hp=>by simp_all),(by by_cases a:(0:Int)≤k<;>by_cases b:k<(3:Int)<;>simp [a,b])⟩
theorem isQ_re {w:World} {v:Value} {q r:Rat} {k j:Nat} (h:isQ q k w v) (e:q=r) (e2:k≤j):isQ r j w v:=by
 subst e
 exact IsQ.weak h e2
theorem isQ_0 {w:World} {v:Value} {r:Rat} {j:Nat} (h:isF 0 0 1 w v) (e:r=0) (e2:1≤j):isQ r j w v:=isQ_re (IsF.q0 h) e.symm e2
theorem bt_b {k y m d y' m' d':Int} (hk: ¬ ¬(0≤k∧k≤2)):(!decide ((btE y m d y' m' d':Int)=0))= !decide (rightI y m d∧rightI y' m' d'):=by
 by_cases h:rightI y m d∧rightI y' m' d'
 ·rw [(bt_yes h.1 h.2).2,decide_eq_true h];rfl
 ·rw [(bt_no h).2,decide_eq_false h];rfl
noncomputable def ctb41:List (Ct dk):= [
 ct1 13 0 en13 vI (fun x=> .s (.O (.W x 1))) (fun x=> [-9223372036854775808≤x,x≤9223372036854775807]) fun _ p _ _ h1=>by cases h1;exact from_w _ _ p.1 p.2.1,
 ct2 14 0 en14 vW vW (fun x y=> .t [.O (.Q (((x.1:Int):Rat)/((y.1:Int):Rat)) (max x.2 y.2+1)),eI 0]) (fun x y=> [x.2≤268435456,y.2≤268435456,y.1≠0]) fun _ _ p _ _ _ h1 h2=>of_q h1 h2 p.1 p.2.1 p.2.2.1]++ctb40
theorem part11 {w:World} {v0 v1:Value} {a b:Int} (h0:(isE (.int .i64 a)) w v0) (h1:(isE (.int .i64 b)) w v1) (ha: -9223372036854775808≤a∧a≤9223372036854775807) (hb: -9223372036854775808≤b∧b≤9223372036854775807) (hb0:b≠0):Calls Tryz.prog 65 #[v0,v1] w (Ret w fun v w'=>(isQ (((a:Int):Rat)/((b:Int):Rat)) 2) w' v):=by
 exact fx ctb41 Tryz.func65 (fun _=> []) [(0,eI a),(1,eI b)] (.s (.O (.Q (((a:Int):Rat)/((b:Int):Rat)) 2))) ⟨h0,h1,trivial⟩ ((-9223372036854775808≤a)∧a≤9223372036854775807∧(-9223372036854775808≤b)∧b≤9223372036854775807∧1≤268435456∧1≤268435456∧(b≠0)∧tK (.O (.Q (((a:Int):Rat)/((b:Int):Rat)) (max 1 1+1))) (.O (.Q (((a:Int):Rat)/((b:Int):Rat)) 2))) ⟨(by omega),(by omega),(by omega),(by omega),(by omega),(by omega),hb0,(fun _ _ _ _ _ h=>isQ_re h rfl (by omega))⟩
theorem thirty11 {w:World} {v0 v1:Value} {y1 m1 d1 y2 m2 d2:Int} (h0:(f0 w (.s (eD y1 m1 d1))).p w v0) (h1:(f0 w (.s (eD y2 m2 d2))).p w v1) (h1r:rightI y1 m1 d1) (h2r:rightI y2 m2 d2):Calls Tryz.prog 66 #[v0,v1] w (Ret w fun v w'=>(isE (.int .i64 (thN y1 m1 d1 y2 m2 d2))) w' v):=by
 have q1:=right_in h1r
 have q2:=right_in h2r
 exact fx ctb41 Tryz.func66 (fun _=> []) [(0,eD y1 m1 d1),(1,eD y2 m2 d2)] (.s (eI (thN y1 m1 d1 y2 m2 d2))) ⟨h0,h1,trivial⟩ (cnd (decide ((min d1 30:Int)=30)) (wp (y2-y1)∧wp (360*(y2-y1))∧wp (m2-m1)∧wp (30*(m2-m1))∧wp ((360*(y2-y1))+(30*(m2-m1)))∧wp (((360*(y2-y1))+(30*(m2-m1)))+min d2 30)∧wp ((((360*(y2-y1))+(30*(m2-m1)))+min d2 30) -(min d1 30))∧tI ((((360*(y2-y1))+(30*(m2-m1)))+min d2 30) -(min d1 30)) (thN y1 m1 d1 y2 m2 d2)) (wp (y2-y1)∧wp (360*(y2-y1))∧wp (m2-m1)∧wp (30*(m2-m1))∧wp ((360*(y2-y1))+(30*(m2-m1)))∧wp (((360*(y2-y1))+(30*(m2-m1)))+d2)∧wp ((((360*(y2-y1))+(30*(m2-m1)))+d2) -(min d1 30))∧tI ((((360*(y2-y1))+(30*(m2-m1)))+d2) -(min d1 30)) (thN y1 m1 d1 y2 m2 d2))) ((Classical.em (min d1 30=30)).elim (fun h8=>cnd_t (decide_eq_true h8) ⟨wi (by omega),wi (by omega),wi (by omega),wi (by omega),wi (by omega),wi (by omega),wi (by omega),⟨rfl,by unfold thN thB thA;repeat' split<;>omega⟩⟩) (fun h8=>cnd_f (decide_eq_false h8) ⟨wi (by omega),wi (by omega),wi (by omega),wi (by omega),wi (by omega),wi (by omega),wi (by omega),⟨rfl,by unfold thN thB thA;repeat' split<;>omega⟩⟩))
theorem lead11 {w:World} {v0:Value} {y m d:Int} (h0:(f0 w (.s (eD y m d))).p w v0) (hw:isTb w v0) (hr:rightI y m d):Calls Tryz.prog 67 #[v0] w (Ret w fun v w'=>(isE (.int .i64 (ldI y m d))) w' v):=by
 have q:=right_in hr
 have n1:=num_in hr
 have n2:=num_in (first_right (y:=y) (by omega))
 exact fx ctb41 Tryz.func67 (hnX [(1,[(5,0,oS (eI (numI y 1 1)))]),(5,[(3,0,oS (eI (numI y m d)))])]) [(0,eD y m d),(1000000, .O .Tb)] (.s (eI (ldI y m d))) ⟨h0,hw,trivial⟩ (tI (nbI y 1 1) (numI y 1 1)∧wp ((numI y 1 1) -1)∧wp (y-1)∧wp (365*(y-1))∧wp (((numI y 1 1) -1) -(365*(y-1)))∧wp (366*(((numI y 1 1) -1) -(365*(y-1))))∧cnd (leapI y) (tI (nbI y m d) (numI y m d)∧wp ((numI y m d) -(numI y 1 1))∧wp ((366*(((numI y 1 1) -1) -(365*(y-1))))+((numI y m d) -(numI y 1 1)))∧tI ((366*(((numI y 1 1) -1) -(365*(y-1))))+((numI y m d) -(numI y 1 1))) (ldI y m d)) (tI (366*(((numI y 1 1) -1) -(365*(y-1)))) (ldI y m d))) ⟨⟨rfl,(chk_1 (first_right (by omega))).2.1⟩,wi (by omega),wi (by omega),wi (by omega),wi (by omega),wi (by omega),(Classical.em (leapI y=true)).elim (fun h8=>cnd_t (h8) ⟨⟨rfl,(chk_1 hr).2.1⟩,wi (by omega),wi (by omega),⟨rfl,by first|exact (ld_yes h8).symm|exact (ld_no h8).symm⟩⟩) (fun h8=>cnd_f (by simpa using h8) ⟨rfl,by first|exact (ld_yes h8).symm|exact (ld_no h8).symm⟩)⟩
theorem bt_rng11 {y m d y' m' d':Int} (h:rightI y m d) (h':rightI y' m' d'): -4000000≤btI y m d y' m' d'∧btI y m d y' m' d'≤4000000:=by
 have hi:=num_in h'
 have hj:=num_in h
 rw [(bt_yes h h').1]
 omega
noncomputable def ctb42:List (Ct dk):= [
 ct2 48 0 en48 vQ vQ (fun x y=> .s (.O (.Q (x.1+y.1) (x.2+y.2+1)))) (fun x y=> [x.2≤268435456,y.2≤268435456]) fun _ _ p _ _ _ h1 h2=>add_q h1 h2 p.1 p.2.1,
 ct2w 29 0 en29 vDt vDt (.O .Tb) isTbk isTbk_ok (fun x y=> .t [eI (btI x.1 x.2.1 x.2.2 y.1 y.2.1 y.2.2),eI (btE x.1 x.2.1 x.2.2 y.1 y.2.1 y.2.2)]) (fun x y=> []) fun _ _ p _ _ _ _ h1 h2 hW=>pBetween_t h1 h2 hW,
 ct1 64 0 en64 vI (fun x=> .s (eB (decide (0≤x∧x<3)))) (fun x=> []) fun _ p _ _ h1=>known11 h1,
 ct2 65 0 en65 vI vI (fun x y=> .s (.O (.Q (((x:Int):Rat)/((y:Int):Rat)) 2))) (fun x y=> [-9223372036854775808≤x∧x≤9223372036854775807,-9223372036854775808≤y∧y≤9223372036854775807,y≠0]) fun _ _ p _ _ _ h1 h2=>part11 h1 h2 p.1 p.2.1 p.2.2.1,
 ct2 66 0 en66 vDt vDt (fun x y=> .s (eI (thN x.1 x.2.1 x.2.2 y.1 y.2.1 y.2.2))) (fun x y=> [rightI x.1 x.2.1 x.2.2,rightI y.1 y.2.1 y.2.2]) fun _ _ p _ _ _ h1 h2=>thirty11 h1 h2 p.1 p.2.1,
 ct1w 67 0 en67 vDt (.O .Tb) isTbk isTbk_ok (fun x=> .s (eI (ldI x.1 x.2.1 x.2.2))) (fun x=> [rightI x.1 x.2.1 x.2.2]) fun _ p _ _ _ h1 hW=>lead11 h1 hW p.1]++ctb41
theorem pYear_t {w:World} {v0 v1 v2:Value} {k y1 m1 d1 y2 m2 d2:Int} (h0:(isE (.int .i64 k)) w v0) (h1:(f0 w (.s (eD y1 m1 d1))).p w v1) (h2:(f0 w (.s (eD y2 m2 d2))).p w v2) (hw:isTb w v0):Calls Tryz.prog 25 #[v0,v1,v2] w (Ret w fun v w'=>(f0 w (.t [.O (.Q (yrA k y1 m1 d1 y2 m2 d2) 50),eI (yrE k y1 m1 d1 y2 m2 d2)])).p w' v):=by
 exact fx ctb42 Tryz.func25 (fun _=> []) [(0,eI k),(1,eD y1 m1 d1),(2,eD y2 m2 d2),(1000000, .O .Tb)] (.t [.O (.Q (yrA k y1 m1 d1 y2 m2 d2) 50),eI (yrE k y1 m1 d1 y2 m2 d2)]) ⟨h0,h1,h2,hw,trivial⟩ (cnd (!(decide (0≤k∧k<3))) (tK (.O (.F 0 0 1)) (.O (.Q (yrA k y1 m1 d1 y2 m2 d2) 50))∧tI 2 (yrE k y1 m1 d1 y2 m2 d2)∧True) (cnd (!decide ((btE y1 m1 d1 y2 m2 d2:Int)=0)) (tK (.O (.F 0 0 1)) (.O (.Q (yrA k y1 m1 d1 y2 m2 d2) 50))∧tI (btE y1 m1 d1 y2 m2 d2) (yrE k y1 m1 d1 y2 m2 d2)∧True) (cnd (decide ((btI y1 m1 d1 y2 m2 d2:Int)<0)) (tK (.O (.F 0 0 1)) (.O (.Q (yrA k y1 m1 d1 y2 m2 d2) 50))∧tI 12 (yrE k y1 m1 d1 y2 m2 d2)∧True) (cnd (decide ((k:Int)=0)) (rightI y1 m1 d1∧rightI y2 m2 d2∧(-9223372036854775808≤thN y1 m1 d1 y2 m2 d2∧thN y1 m1 d1 y2 m2 d2≤9223372036854775807)∧(-9223372036854775808≤(360:Int)∧(360:Int)≤9223372036854775807)∧((360:Int)≠0)∧(tK (.O (.Q (((thN y1 m1 d1 y2 m2 d2:Int):Rat)/(((360:Int):Int):Rat)) 2)) (.O (.Q (yrA k y1 m1 d1 y2 m2 d2) 50))∧tI 0 (yrE k y1 m1 d1 y2 m2 d2)∧True)) (cnd (decide ((k:Int)=1)) ((-9223372036854775808≤btI y1 m1 d1 y2 m2 d2∧btI y1 m1 d1 y2 m2 d2≤9223372036854775807)∧(-9223372036854775808≤(365:Int)∧(365:Int)≤9223372036854775807)∧((365:Int)≠0)∧(tK (.O (.Q (((btI y1 m1 d1 y2 m2 d2:Int):Rat)/(((365:Int):Int):Rat)) 2)) (.O (.Q (yrA k y1 m1 d1 y2 m2 d2) 50))∧tI 0 (yrE k y1 m1 d1 y2 m2 d2)∧True)) (rightI y2 m2 d2∧rightI y1 m1 d1∧wp ((ldI y2 m2 d2) -(ldI y1 m1 d1))∧(-9223372036854775808≤((ldI y2 m2 d2) -(ldI y1 m1 d1))∧((ldI y2 m2 d2) -(ldI y1 m1 d1))≤9223372036854775807)∧(-9223372036854775808≤(366:Int)∧(366:Int)≤9223372036854775807)∧((366:Int)≠0)∧wp ((btI y1 m1 d1 y2 m2 d2) -((ldI y2 m2 d2) -(ldI y1 m1 d1)))∧(-9223372036854775808≤((btI y1 m1 d1 y2 m2 d2) -((ldI y2 m2 d2) -(ldI y1 m1 d1)))∧((btI y1 m1 d1 y2 m2 d2) -((ldI y2 m2 d2) -(ldI y1 m1 d1)))≤9223372036854775807)∧(-9223372036854775808≤(365:Int)∧(365:Int)≤9223372036854775807)∧((365:Int)≠0)∧2≤268435456∧2≤268435456∧(tK (.O (.Q (((((ldI y2 m2 d2) -(ldI y1 m1 d1):Int):Rat)/(((366:Int):Int):Rat))+((((btI y1 m1 d1 y2 m2 d2) -((ldI y2 m2 d2) -(ldI y1 m1 d1)):Int):Rat)/(((365:Int):Int):Rat))) (2+2+1))) (.O (.Q (yrA k y1 m1 d1 y2 m2 d2) 50))∧tI 0 (yrE k y1 m1 d1 y2 m2 d2)∧True))))))) ((Classical.em (¬(0≤k∧k<3))).elim (fun hk=>cnd_t (by rw [decide_eq_false hk];rfl) ⟨(fun _ _ _ _ _ h=>by first|exact isQ_0 h (yr_arg (by omega)).1 (by omega)|exact isQ_0 h (yr_wrong (by omega:0≤k∧k≤2) hr).1 (by omega)|exact isQ_0 h (yr_order (by omega:0≤k∧k≤2) (by simpa using hr:rightI y1 m1 d1∧rightI y2 m2 d2) (by have:=(bt_yes (by simpa using hr:rightI y1 m1 d1∧rightI y2 m2 d2).1 (by simpa using hr:rightI y1 m1 d1∧rightI y2 m2 d2).2).1;omega)).1 (by omega)|exact isQ_re h (by rw [(yr_yes (show yrOk k y1 m1 d1 y2 m2 d2 from ⟨(by omega:0≤k∧k≤2),(by simpa using hr:rightI y1 m1 d1∧rightI y2 m2 d2),by have:=(bt_yes (by simpa using hr:rightI y1 m1 d1∧rightI y2 m2 d2).1 (by simpa using hr:rightI y1 m1 d1∧rightI y2 m2 d2).2).1;omega⟩)).1,h0,yr_0]) (by omega)|exact isQ_re h (by rw [(yr_yes (show yrOk k y1 m1 d1 y2 m2 d2 from ⟨(by omega:0≤k∧k≤2),(by simpa using hr:rightI y1 m1 d1∧rightI y2 m2 d2),by have:=(bt_yes (by simpa using hr:rightI y1 m1 d1∧rightI y2 m2 d2).1 (by simpa using hr:rightI y1 m1 d1∧rightI y2 m2 d2).2).1;omega⟩)).1,hone,yr_1,(bt_yes (by simpa using hr:rightI y1 m1 d1∧rightI y2 m2 d2).1 (by simpa using hr:rightI y1 m1 d1∧rightI y2 m2 d2).2).1]) (by omega)|exact isQ_re h (by rw [(yr_yes (show yrOk k y1 m1 d1 y2 m2 d2 from ⟨(by omega:0≤k∧k≤2),(by simpa using hr:rightI y1 m1 d1∧rightI y2 m2 d2),by have:=(bt_yes (by simpa using hr:rightI y1 m1 d1∧rightI y2 m2 d2).1 (by simpa using hr:rightI y1 m1 d1∧rightI y2 m2 d2).2).1;omega⟩)).1,show k=2 by omega,yr_ld,(bt_yes (by simpa using hr:rightI y1 m1 d1∧rightI y2 m2 d2).1 (by simpa using hr:rightI y1 m1 d1∧rightI y2 m2 d2).2).1]) (by omega)),⟨rfl,by first|exact (yr_arg (by omega)).2.symm|exact ((bt_no hr).2.trans (yr_wrong (by omega:0≤k∧k≤2) hr).2.symm)|exact (yr_order (by omega:0≤k∧k≤2) (by simpa using hr:rightI y1 m1 d1∧rightI y2 m2 d2) (by have:=(bt_yes (by simpa using hr:rightI y1 m1 d1∧rightI y2 m2 d2).1 (by simpa using hr:rightI y1 m1 d1∧rightI y2 m2 d2).2).1;omega)).2.symm|exact (yr_yes (show yrOk k y1 m1 d1 y2 m2 d2 from ⟨(by omega:0≤k∧k≤2),(by simpa using hr:rightI y1 m1 d1∧rightI y2 m2 d2),by have:=(bt_yes (by simpa using hr:rightI y1 m1 d1∧rightI y2 m2 d2).1 (by simpa using hr:rightI y1 m1 d1∧rightI y2 m2 d2).2).1;omega⟩)).2.symm⟩,trivial⟩) (fun hk=>cnd_f (by rw [decide_eq_true (by simpa using hk)];rfl) ((Classical.em (¬(rightI y1 m1 d1∧rightI y2 m2 d2))).elim (fun hr=>cnd_t (by rw [bt_b (k:=k) (by omega),decide_eq_false hr];rfl) ⟨(fun _ _ _ _ _ h=>by first|exact isQ_0 h (yr_arg (by omega)).1 (by omega)|exact isQ_0 h (yr_wrong (by omega:0≤k∧k≤2) hr).1 (by omega)|exact isQ_0 h (yr_order (by omega:0≤k∧k≤2) (by simpa using hr:rightI y1 m1 d1∧rightI y2 m2 d2) (by have:=(bt_yes (by simpa using hr:rightI y1 m1 d1∧rightI y2 m2 d2).1 (by simpa using hr:rightI y1 m1 d1∧rightI y2 m2 d2).2).1;omega)).1 (by omega)|exact isQ_re h (by rw [(yr_yes (show yrOk k y1 m1 d1 y2 m2 d2 from ⟨(by omega:0≤k∧k≤2),(by simpa using hr:rightI y1 m1 d1∧rightI y2 m2 d2),by have:=(bt_yes (by simpa using hr:rightI y1 m1 d1∧rightI y2 m2 d2).1 (by simpa using hr:rightI y1 m1 d1∧rightI y2 m2 d2).2).1;omega⟩)).1,h0,yr_0]) (by omega)|exact isQ_re h (by rw [(yr_yes (show yrOk k y1 m1 d1 y2 m2 d2 from ⟨(by omega:0≤k∧k≤2),(by simpa using hr:rightI y1 m1 d1∧rightI y2 m2 d2),by have:=(bt_yes (by simpa using hr:rightI y1 m1 d1∧rightI y2 m2 d2).1 (by simpa using hr:rightI y1 m1 d1∧rightI y2 m2 d2).2).1;omega⟩)).1,hone,yr_1,(bt_yes (by simpa using hr:rightI y1 m1 d1∧rightI y2 m2 d2).1 (by simpa using hr:rightI y1 m1 d1∧rightI y2 m2 d2).2).1]) (by omega)|exact isQ_re h (by rw [(yr_yes (show yrOk k y1 m1 d1 y2 m2 d2 from ⟨(by omega:0≤k∧k≤2),(by simpa using hr:rightI y1 m1 d1∧rightI y2 m2 d2),by have:=(bt_yes (by simpa using hr:rightI y1 m1 d1∧rightI y2 m2 d2).1 (by simpa using hr:rightI y1 m1 d1∧rightI y2 m2 d2).2).1;omega⟩)).1,show k=2 by omega,yr_ld,(bt_yes (by simpa using hr:rightI y1 m1 d1∧rightI y2 m2 d2).1 (by simpa using hr:rightI y1 m1 d1∧rightI y2 m2 d2).2).1]) (by omega)),⟨rfl,by first|exact (yr_arg (by omega)).2.symm|exact ((bt_no hr).2.trans (yr_wrong (by omega:0≤k∧k≤2) hr).2.symm)|exact (yr_order (by omega:0≤k∧k≤2) (by simpa using hr:rightI y1 m1 d1∧rightI y2 m2 d2) (by have:=(bt_yes (by simpa using hr:rightI y1 m1 d1∧rightI y2 m2 d2).1 (by simpa using hr:rightI y1 m1 d1∧rightI y2 m2 d2).2).1;omega)).2.symm|exact (yr_yes (show yrOk k y1 m1 d1 y2 m2 d2 from ⟨(by omega:0≤k∧k≤2),(by simpa using hr:rightI y1 m1 d1∧rightI y2 m2 d2),by have:=(bt_yes (by simpa using hr:rightI y1 m1 d1∧rightI y2 m2 d2).1 (by simpa using hr:rightI y1 m1 d1∧rightI y2 m2 d2).2).1;omega⟩)).2.symm⟩,trivial⟩) (fun hr=>cnd_f (by rw [bt_b (k:=k) (by omega),decide_eq_true (by simpa using hr:rightI y1 m1 d1∧rightI y2 m2 d2)];rfl) ((Classical.em (btI y1 m1 d1 y2 m2 d2<0)).elim (fun ho=>cnd_t (decide_eq_true ho) ⟨(fun _ _ _ _ _ h=>by first|exact isQ_0 h (yr_arg (by omega)).1 (by omega)|exact isQ_0 h (yr_wrong (by omega:0≤k∧k≤2) hr).1 (by omega)|exact isQ_0 h (yr_order (by omega:0≤k∧k≤2) (by simpa using hr:rightI y1 m1 d1∧rightI y2 m2 d2) (by have:=(bt_yes (by simpa using hr:rightI y1 m1 d1∧rightI y2 m2 d2).1 (by simpa using hr:rightI y1 m1 d1∧rightI y2 m2 d2).2).1;omega)).1 (by omega)|exact isQ_re h (by rw [(yr_yes (show yrOk k y1 m1 d1 y2 m2 d2 from ⟨(by omega:0≤k∧k≤2),(by simpa using hr:rightI y1 m1 d1∧rightI y2 m2 d2),by have:=(bt_yes (by simpa using hr:rightI y1 m1 d1∧rightI y2 m2 d2).1 (by simpa using hr:rightI y1 m1 d1∧rightI y2 m2 d2).2).1;omega⟩)).1,h0,yr_0]) (by omega)|exact isQ_re h (by rw [(yr_yes (show yrOk k y1 m1 d1 y2 m2 d2 from ⟨(by omega:0≤k∧k≤2),(by simpa using hr:rightI y1 m1 d1∧rightI y2 m2 d2),by have:=(bt_yes (by simpa using hr:rightI y1 m1 d1∧rightI y2 m2 d2).1 (by simpa using hr:rightI y1 m1 d1∧rightI y2 m2 d2).2).1;omega⟩)).1,hone,yr_1,(bt_yes (by simpa using hr:rightI y1 m1 d1∧rightI y2 m2 d2).1 (by simpa using hr:rightI y1 m1 d1∧rightI y2 m2 d2).2).1]) (by omega)|exact isQ_re h (by rw [(yr_yes (show yrOk k y1 m1 d1 y2 m2 d2 from ⟨(by omega:0≤k∧k≤2),(by simpa using hr:rightI y1 m1 d1∧rightI y2 m2 d2),by have:=(bt_yes (by simpa using hr:rightI y1 m1 d1∧rightI y2 m2 d2).1 (by simpa using hr:rightI y1 m1 d1∧rightI y2 m2 d2).2).1;omega⟩)).1,show k=2 by omega,yr_ld,(bt_yes (by simpa using hr:rightI y1 m1 d1∧rightI y2 m2 d2).1 (by simpa using hr:rightI y1 m1 d1∧rightI y2 m2 d2).2).1]) (by omega)),⟨rfl,by first|exact (yr_arg (by omega)).2.symm|exact ((bt_no hr).2.trans (yr_wrong (by omega:0≤k∧k≤2) hr).2.symm)|exact (yr_order (by omega:0≤k∧k≤2) (by simpa using hr:rightI y1 m1 d1∧rightI y2 m2 d2) (by have:=(bt_yes (by simpa using hr:rightI y1 m1 d1∧rightI y2 m2 d2).1 (by simpa using hr:rightI y1 m1 d1∧rightI y2 m2 d2).2).1;omega)).2.symm|exact (yr_yes (show yrOk k y1 m1 d1 y2 m2 d2 from ⟨(by omega:0≤k∧k≤2),(by simpa using hr:rightI y1 m1 d1∧rightI y2 m2 d2),by have:=(bt_yes (by simpa using hr:rightI y1 m1 d1∧rightI y2 m2 d2).1 (by simpa using hr:rightI y1 m1 d1∧rightI y2 m2 d2).2).1;omega⟩)).2.symm⟩,trivial⟩) (fun ho=>cnd_f (decide_eq_false ho) ((Classical.em (k=0)).elim (fun h0=>cnd_t (decide_eq_true h0) ⟨(by simpa using hr:rightI y1 m1 d1∧rightI y2 m2 d2).1,(by simpa using hr:rightI y1 m1 d1∧rightI y2 m2 d2).2,(by have:=right_in (by simpa using hr:rightI y1 m1 d1∧rightI y2 m2 d2).1;have:=right_in (by simpa using hr:rightI y1 m1 d1∧rightI y2 m2 d2).2;unfold thN thB thA;repeat' split<;>omega),(by decide),(by decide),⟨(fun _ _ _ _ _ h=>by first|exact isQ_0 h (yr_arg (by omega)).1 (by omega)|exact isQ_0 h (yr_wrong (by omega:0≤k∧k≤2) hr).1 (by omega)|exact isQ_0 h (yr_order (by omega:0≤k∧k≤2) (by simpa using hr:rightI y1 m1 d1∧rightI y2 m2 d2) (by have:=(bt_yes (by simpa using hr:rightI y1 m1 d1∧rightI y2 m2 d2).1 (by simpa using hr:rightI y1 m1 d1∧rightI y2 m2 d2).2).1;omega)).1 (by omega)|exact isQ_re h (by rw [(yr_yes (show yrOk k y1 m1 d1 y2 m2 d2 from ⟨(by omega:0≤k∧k≤2),(by simpa using hr:rightI y1 m1 d1∧rightI y2 m2 d2),by have:=(bt_yes (by simpa using hr:rightI y1 m1 d1∧rightI y2 m2 d2).1 (by simpa using hr:rightI y1 m1 d1∧rightI y2 m2 d2).2).1;omega⟩)).1,h0,yr_0]) (by omega)|exact isQ_re h (by rw [(yr_yes (show yrOk k y1 m1 d1 y2 m2 d2 from ⟨(by omega:0≤k∧k≤2),(by simpa using hr:rightI y1 m1 d1∧rightI y2 m2 d2),by have:=(bt_yes (by simpa using hr:rightI y1 m1 d1∧rightI y2 m2 d2).1 (by simpa using hr:rightI y1 m1 d1∧rightI y2 m2 d2).2).1;omega⟩)).1,hone,yr_1,(bt_yes (by simpa using hr:rightI y1 m1 d1∧rightI y2 m2 d2).1 (by simpa using hr:rightI y1 m1 d1∧rightI y2 m2 d2).2).1]) (by omega)|exact isQ_re h (by rw [(yr_yes (show yrOk k y1 m1 d1 y2 m2 d2 from ⟨(by omega:0≤k∧k≤2),(by simpa using hr:rightI y1 m1 d1∧rightI y2 m2 d2),by have:=(bt_yes (by simpa using hr:rightI y1 m1 d1∧rightI y2 m2 d2).1 (by simpa using hr:rightI y1 m1 d1∧rightI y2 m2 d2).2).1;omega⟩)).1,show k=2 by omega,yr_ld,(bt_yes (by simpa using hr:rightI y1 m1 d1∧rightI y2 m2 d2).1 (by simpa using hr:rightI y1 m1 d1∧rightI y2 m2 d2).2).1]) (by omega)),⟨rfl,by first|exact (yr_arg (by omega)).2.symm|exact ((bt_no hr).2.trans (yr_wrong (by omega:0≤k∧k≤2) hr).2.symm)|exact (yr_order (by omega:0≤k∧k≤2) (by simpa using hr:rightI y1 m1 d1∧rightI y2 m2 d2) (by have:=(bt_yes (by simpa using hr:rightI y1 m1 d1∧rightI y2 m2 d2).1 (by simpa using hr:rightI y1 m1 d1∧rightI y2 m2 d2).2).1;omega)).2.symm|exact (yr_yes (show yrOk k y1 m1 d1 y2 m2 d2 from ⟨(by omega:0≤k∧k≤2),(by simpa using hr:rightI y1 m1 d1∧rightI y2 m2 d2),by have:=(bt_yes (by simpa using hr:rightI y1 m1 d1∧rightI y2 m2 d2).1 (by simpa using hr:rightI y1 m1 d1∧rightI y2 m2 d2).2).1;omega⟩)).2.symm⟩,trivial⟩⟩) (fun h0=>cnd_f (decide_eq_false h0) ((Classical.em (k=1)).elim (fun hone=>cnd_t (decide_eq_true hone) ⟨(by have:=bt_rng11 (by simpa using hr:rightI y1 m1 d1∧rightI y2 m2 d2).1 (by simpa using hr:rightI y1 m1 d1∧rightI y2 m2 d2).2;omega),(by decide),(by decide),⟨(fun _ _ _ _ _ h=>by first|exact isQ_0 h (yr_arg (by omega)).1 (by omega)|exact isQ_0 h (yr_wrong (by omega:0≤k∧k≤2) hr).1 (by omega)|exact isQ_0 h (yr_order (by omega:0≤k∧k≤2) (by simpa using hr:rightI y1 m1 d1∧rightI y2 m2 d2) (by have:=(bt_yes (by simpa using hr:rightI y1 m1 d1∧rightI y2 m2 d2).1 (by simpa using hr:rightI y1 m1 d1∧rightI y2 m2 d2).2).1;omega)).1 (by omega)|exact isQ_re h (by rw [(yr_yes (show yrOk k y1 m1 d1 y2 m2 d2 from ⟨(by omega:0≤k∧k≤2),(by simpa using hr:rightI y1 m1 d1∧rightI y2 m2 d2),by have:=(bt_yes (by simpa using hr:rightI y1 m1 d1∧rightI y2 m2 d2).1 (by simpa using hr:rightI y1 m1 d1∧rightI y2 m2 d2).2).1;omega⟩)).1,h0,yr_0]) (by omega)|exact isQ_re h (by rw [(yr_yes (show yrOk k y1 m1 d1 y2 m2 d2 from ⟨(by omega:0≤k∧k≤2),(by simpa using hr:rightI y1 m1 d1∧rightI y2 m2 d2),by have:=(bt_yes (by simpa using hr:rightI y1 m1 d1∧rightI y2 m2 d2).1 (by simpa using hr:rightI y1 m1 d1∧rightI y2 m2 d2).2).1;omega⟩)).1,hone,yr_1,(bt_yes (by simpa using hr:rightI y1 m1 d1∧rightI y2 m2 d2).1 (by simpa using hr:rightI y1 m1 d1∧rightI y2 m2 d2).2).1]) (by omega)|exact isQ_re h (by rw [(yr_yes (show yrOk k y1 m1 d1 y2 m2 d2 from ⟨(by omega:0≤k∧k≤2),(by simpa using hr:rightI y1 m1 d1∧rightI y2 m2 d2),by have:=(bt_yes (by simpa using hr:rightI y1 m1 d1∧rightI y2 m2 d2).1 (by simpa using hr:rightI y1 m1 d1∧rightI y2 m2 d2).2).1;omega⟩)).1,show k=2 by omega,yr_ld,(bt_yes (by simpa using hr:rightI y1 m1 d1∧rightI y2 m2 d2).1 (by simpa using hr:rightI y1 m1 d1∧rightI y2 m2 d2).2).1]) (by omega)),⟨rfl,by first|exact (yr_arg (by omega)).2.symm|exact ((bt_no hr).2.trans (yr_wrong (by omega:0≤k∧k≤2) hr).2.symm)|exact (yr_order (by omega:0≤k∧k≤2) (by simpa using hr:rightI y1 m1 d1∧rightI y2 m2 d2) (by have:=(bt_yes (by simpa using hr:rightI y1 m1 d1∧rightI y2 m2 d2).1 (by simpa using hr:rightI y1 m1 d1∧rightI y2 m2 d2).2).1;omega)).2.symm|exact (yr_yes (show yrOk k y1 m1 d1 y2 m2 d2 from ⟨(by omega:0≤k∧k≤2),(by simpa using hr:rightI y1 m1 d1∧rightI y2 m2 d2),by have:=(bt_yes (by simpa using hr:rightI y1 m1 d1∧rightI y2 m2 d2).1 (by simpa using hr:rightI y1 m1 d1∧rightI y2 m2 d2).2).1;omega⟩)).2.symm⟩,trivial⟩⟩) (fun hone=>cnd_f (decide_eq_false hone) ⟨(by simpa using hr:rightI y1 m1 d1∧rightI y2 m2 d2).2,(by simpa using hr:rightI y1 m1 d1∧rightI y2 m2 d2).1,i64_in (by have:=bt_rng11 (by simpa using hr:rightI y1 m1 d1∧rightI y2 m2 d2).1 (by simpa using hr:rightI y1 m1 d1∧rightI y2 m2 d2).2;have:=ld_in (by simpa using hr:rightI y1 m1 d1∧rightI y2 m2 d2).1;have:=ld_in (by simpa using hr:rightI y1 m1 d1∧rightI y2 m2 d2).2;omega) (by have:=bt_rng11 (by simpa using hr:rightI y1 m1 d1∧rightI y2 m2 d2).1 (by simpa using hr:rightI y1 m1 d1∧rightI y2 m2 d2).2;have:=ld_in (by simpa using hr:rightI y1 m1 d1∧rightI y2 m2 d2).1;have:=ld_in (by simpa using hr:rightI y1 m1 d1∧rightI y2 m2 d2).2;omega),(by have:=bt_rng11 (by simpa using hr:rightI y1 m1 d1∧rightI y2 m2 d2).1 (by simpa using hr:rightI y1 m1 d1∧rightI y2 m2 d2).2;have:=ld_in (by simpa using hr:rightI y1 m1 d1∧rightI y2 m2 d2).1;have:=ld_in (by simpa using hr:rightI y1 m1 d1∧rightI y2 m2 d2).2;omega),(by decide),(by decide),i64_in (by have:=bt_rng11 (by simpa using hr:rightI y1 m1 d1∧rightI y2 m2 d2).1 (by simpa using hr:rightI y1 m1 d1∧rightI y2 m2 d2).2;have:=ld_in (by simpa using hr:rightI y1 m1 d1∧rightI y2 m2 d2).1;have:=ld_in (by simpa using hr:rightI y1 m1 d1∧rightI y2 m2 d2).2;omega) (by have:=bt_rng11 (by simpa using hr:rightI y1 m1 d1∧rightI y2 m2 d2).1 (by simpa using hr:rightI y1 m1 d1∧rightI y2 m2 d2).2;have:=ld_in (by simpa using hr:rightI y1 m1 d1∧rightI y2 m2 d2).1;have:=ld_in (by simpa using hr:rightI y1 m1 d1∧rightI y2 m2 d2).2;omega),(by have:=bt_rng11 (by simpa using hr:rightI y1 m1 d1∧rightI y2 m2 d2).1 (by simpa using hr:rightI y1 m1 d1∧rightI y2 m2 d2).2;have:=ld_in (by simpa using hr:rightI y1 m1 d1∧rightI y2 m2 d2).1;have:=ld_in (by simpa using hr:rightI y1 m1 d1∧rightI y2 m2 d2).2;omega),(by decide),(by decide),(by omega),(by omega),⟨(fun _ _ _ _ _ h=>by first|exact isQ_0 h (yr_arg (by omega)).1 (by omega)|exact isQ_0 h (yr_wrong (by omega:0≤k∧k≤2) hr).1 (by omega)|exact isQ_0 h (yr_order (by omega:0≤k∧k≤2) (by simpa using hr:rightI y1 m1 d1∧rightI y2 m2 d2) (by have:=(bt_yes (by simpa using hr:rightI y1 m1 d1∧rightI y2 m2 d2).1 (by simpa using hr:rightI y1 m1 d1∧rightI y2 m2 d2).2).1;omega)).1 (by omega)|exact isQ_re h (by rw [(yr_yes (show yrOk k y1 m1 d1 y2 m2 d2 from ⟨(by omega:0≤k∧k≤2),(by simpa using hr:rightI y1 m1 d1∧rightI y2 m2 d2),by have:=(bt_yes (by simpa using hr:rightI y1 m1 d1∧rightI y2 m2 d2).1 (by simpa using hr:rightI y1 m1 d1∧rightI y2 m2 d2).2).1;omega⟩)).1,h0,yr_0]) (by omega)|exact isQ_re h (by rw [(yr_yes (show yrOk k y1 m1 d1 y2 m2 d2 from ⟨(by omega:0≤k∧k≤2),(by simpa using hr:rightI y1 m1 d1∧rightI y2 m2 d2),by have:=(bt_yes (by simpa using hr:rightI y1 m1 d1∧rightI y2 m2 d2).1 (by simpa using hr:rightI y1 m1 d1∧rightI y2 m2 d2).2).1;omega⟩)).1,hone,yr_1,(bt_yes (by simpa using hr:rightI y1 m1 d1∧rightI y2 m2 d2).1 (by simpa using hr:rightI y1 m1 d1∧rightI y2 m2 d2).2).1]) (by omega)|exact isQ_re h (by rw [(yr_yes (show yrOk k y1 m1 d1 y2 m2 d2 from ⟨(by omega:0≤k∧k≤2),(by simpa using hr:rightI y1 m1 d1∧rightI y2 m2 d2),by have:=(bt_yes (by simpa using hr:rightI y1 m1 d1∧rightI y2 m2 d2).1 (by simpa using hr:rightI y1 m1 d1∧rightI y2 m2 d2).2).1;omega⟩)).1,show k=2 by omega,yr_ld,(bt_yes (by simpa using hr:rightI y1 m1 d1∧rightI y2 m2 d2).1 (by simpa using hr:rightI y1 m1 d1∧rightI y2 m2 d2).2).1]) (by omega)),⟨rfl,by first|exact (yr_arg (by omega)).2.symm|exact ((bt_no hr).2.trans (yr_wrong (by omega:0≤k∧k≤2) hr).2.symm)|exact (yr_order (by omega:0≤k∧k≤2) (by simpa using hr:rightI y1 m1 d1∧rightI y2 m2 d2) (by have:=(bt_yes (by simpa using hr:rightI y1 m1 d1∧rightI y2 m2 d2).1 (by simpa using hr:rightI y1 m1 d1∧rightI y2 m2 d2).2).1;omega)).2.symm|exact (yr_yes (show yrOk k y1 m1 d1 y2 m2 d2 from ⟨(by omega:0≤k∧k≤2),(by simpa using hr:rightI y1 m1 d1∧rightI y2 m2 d2),by have:=(bt_yes (by simpa using hr:rightI y1 m1 d1∧rightI y2 m2 d2).1 (by simpa using hr:rightI y1 m1 d1∧rightI y2 m2 d2).2).1;omega⟩)).2.symm⟩,trivial⟩⟩))))))))))
end Go.Proofs.YtjpilacbapibjaaGreatDoor.X
namespace Go.Proofs.YtjpilacbapibjaaGreatDoor.Da
abbrev nm (x:Int×Int×Int):Int:=numI x.1 x.2.1 x.2.2
abbrev ri (x:Int×Int×Int):Prop:=rightI x.1 x.2.1 x.2.2
theorem dt_nm {x:Int×Int×Int} (h:ri x):dtN (nm x)=x:=dtN_eq h
theorem nm_dt {z:Int} (h:1≤z∧z≤3652059):nm (dtN z)=z:=(dtN_ok h.1 h.2).2
theorem ri_dt {z:Int} (h:1≤z∧z≤3652059):ri (dtN z):=(dtN_ok h.1 h.2).1
def nxt (ns:List Int) (a t:Int):Int:=ns.foldl (fun t n=>if a<n∧n<t then n else t) t
theorem nxt_cons (n:Int) (ns:List Int) (a t:Int):nxt (n::ns) a t=nxt ns a (if a<n∧n<t then n else t):=rfl
theorem nxt_le: ∀(ns:List Int) (a t:Int),nxt ns a t≤t:=by
 intro ns
 induction ns with
 |nil=>intro a t;exact Int.le_refl _
 |cons n r ih=>
  intro a t
  rw [nxt_cons]
  have:=ih a (if a<n∧n<t then n else t)
  split at this<;>(first|rw [if_pos (by assumption)]|rw [if_neg (by assumption)])<;>omega
theorem nxt_gt: ∀(ns:List Int) {a t:Int},a<t→a<nxt ns a t:=by
 intro ns
 induction ns with
 |nil=>intro a t h;exact h
 |cons n r ih=>
  intro a t h
  rw [nxt_cons]
  refine ih ?_
  split<;>omega
theorem nxt_mem: ∀(ns:List Int) (a t:Int),nxt ns a t=t∨nxt ns a t∈ns:=by
 intro ns
 induction ns with
 |nil=>intro a t;exact .inl rfl
 |cons n r ih=>
  intro a t
  rw [nxt_cons]
  rcases ih a (if a<n∧n<t then n else t) with h|h
  ·rw [h]
   split
   ·exact .inr (.head _)
   ·exact .inl rfl
  ·exact .inr (.tail _ h)
theorem nxt_min: ∀(ns:List Int) {a t n:Int},n∈ns→a<n→nxt ns a t≤n:=by
 intro ns
 induction ns with
 |nil=>intro a t n h;cases h
 |cons m r ih=>
  intro a t n h ha
  rw [nxt_cons]
  rcases List.mem_cons.1 h with rfl|h
  ·have:=nxt_le r a (if a<n∧n<t then n else t)
   split at this
   ·next e=>rw [if_pos e];exact this
   ·next e=>rw [if_neg e];omega
  ·exact ih h ha
theorem nxt_congr {ns ns':List Int} {a t:Int} (h: ∀n,a<n→n<t→(n∈ns↔n∈ns')) (ht:a<t):nxt ns a t=nxt ns' a t:=by
 have key: ∀{ns ns':List Int},(∀n,a<n→n<t→(n∈ns↔n∈ns'))→nxt ns a t≤nxt ns' a t:=fun {ns ns'} h=>by
  have g:=nxt_gt ns' ht
  have l:=nxt_le ns a t
  rcases nxt_mem ns' a t with e|e
  ·rw [e];exact l
  ·rcases Int.lt_or_le (nxt ns' a t) t with c|c
   ·exact nxt_min ns ((h _ g c).2 e) g
   ·omega
 exact Int.le_antisymm (key h) (key fun n h1 h2=>(h n h1 h2).symm)
def pts (ns:List Int) (t:Int):Nat→Int→List (Int×Int)
 |0,_=> []
 |k+1,a=>if a<t then (a,nxt ns a t)::pts ns t k (nxt ns a t) else []
theorem pts_fuel {ns:List Int} {t:Int}: ∀{k j:Nat} {a:Int},(t-a).toNat≤k→(t-a).toNat≤j→pts ns t k a=pts ns t j a:=by
 intro k
 induction k with
 |zero=>
  intro j a h1 h2
  cases j with
  |zero=>rfl
  |succ j=>unfold pts;rw [if_neg (by omega)]
 |succ k ih=>
  intro j a h1 h2
  cases j with
  |zero=>unfold pts;rw [if_neg (by omega)]
  |succ j=>
   unfold pts
   split
   ·next h=>
    have g:=nxt_gt ns h
    rw [ih (j:=j) (by omega) (by omega)]
   ·rfl
def cutP (ns:List Int) (a t:Int):List (Int×Int):=pts ns t (t-a).toNat a
theorem cut_no {ns:List Int} {a t:Int} (h: ¬a<t):cutP ns a t= []:=by
 unfold cutP
 rw [show (t-a).toNat=0 by omega]
 rfl
theorem cut_yes {ns:List Int} {a t:Int} (h:a<t):cutP ns a t=(a,nxt ns a t)::cutP ns (nxt ns a t) t:=by
 have g:=nxt_gt ns h
 unfold cutP
 obtain ⟨k,hk⟩: ∃k,(t-a).toNat=k+1:=⟨(t-a).toNat-1,by omega⟩
 rw [hk]
 show (if a<t then (a,nxt ns a t)::pts ns t k (nxt ns a t) else [])=_
 rw [if_pos h,pts_fuel (k:=k) (j:=(t-nxt ns a t).toNat) (by omega) (by omega)]
theorem cut_ind {t:Int} {q:Int→Prop} (h0: ∀a,¬a<t→q a) (h1: ∀a,a<t→(∀b,a<b→q b)→q a) (a:Int):q a:=by
 have key: ∀(k:Nat) (a:Int),(t-a).toNat≤k→q a:=by
  intro k
  induction k with
  |zero=>intro a h;exact h0 a (by omega)
  |succ k ih=>
   intro a h
   by_cases c:a<t
   ·exact h1 a c fun b hb=>ih b (by omega)
   ·exact h0 a c
 exact key _ a (Nat.le_refl _)
theorem cut_congr {ns ns':List Int} {t:Int} (a:Int):(∀n,a<n→n<t→(n∈ns↔n∈ns'))→cutP ns a t=cutP ns' a t:=by
 refine cut_ind (t:=t) (q:=fun a=>(∀n,a<n→n<t→(n∈ns↔n∈ns'))→cutP ns a t=cutP ns' a t) (fun a h _=>by rw [cut_no h,cut_no h]) (fun a h ih hn=> ?_) a
 have g:=nxt_gt ns h
 rw [cut_yes h,cut_yes h,←nxt_congr hn h,ih _ g fun n h1 h2=>hn n (by omega) h2]
theorem cut_split {ns:List Int} {m t:Int} (hm:m∈ns) (ht:m≤t) (a:Int):a≤m→cutP ns a t=cutP ns a m++cutP ns m t:=by
 refine cut_ind (t:=m) (q:=fun a=>a≤m→cutP ns a t=cutP ns a m++cutP ns m t) (fun a h h2=> ?_) (fun a h ih _=> ?_) a
 ·rw [cut_no h,show a=m by omega]
  rfl
 ·have hat:a<t:=by omega
  have e:nxt ns a t=nxt ns a m:=by
   have l:=nxt_min ns (t:=t) hm h
   have g:=nxt_gt ns hat
   have g2:=nxt_gt ns h
   refine Int.le_antisymm ?_ ?_
   ·rcases nxt_mem ns a m with e|e
    ·rw [e];exact l
    ·exact nxt_min ns e g2
   ·rcases nxt_mem ns a t with e|e
    ·have:=nxt_le ns a m;omega
    ·exact nxt_min ns e g
  have g:=nxt_gt ns h
  rw [cut_yes hat,cut_yes h,e,ih _ g (nxt_le ns a m)]
  rfl
def chain:Int→Int→List (Int×Int)→Prop
 |a,t,[]=>a=t
 |a,t,x::r=>x.1=a∧a<x.2∧x.2≤t∧chain x.2 t r
theorem cut_chain {ns:List Int} {t:Int} (a:Int):a≤t→chain a t (cutP ns a t):=by
 refine cut_ind (t:=t) (q:=fun a=>a≤t→chain a t (cutP ns a t)) (fun a h h2=> ?_) (fun a h ih _=> ?_) a
 ·rw [cut_no h]
  show a=t
  omega
 ·rw [cut_yes h]
  have g:=nxt_gt ns h
  have l:=nxt_le ns a t
  exact ⟨rfl,g,l,ih _ g l⟩
def endP (a:Int) (l:List (Int×Int)) (i:Nat):Int:=if i=0 then a else (l.getD (i-1) (0,0)).2
theorem end_cons (a:Int) (x:Int×Int) (r:List (Int×Int)) (i:Nat):endP a (x::r) (i+1)=endP x.2 r i:=by
 unfold endP
 rw [if_neg (by omega)]
 cases i with
 |zero=>rfl
 |succ i=>rw [if_neg (by omega)];rfl
theorem chain_at: ∀{l:List (Int×Int)} {a t:Int} {i:Nat},chain a t l→i<l.length→(l.getD i (0,0)).1=endP a l i∧(l.getD i (0,0)).1<(l.getD i (0,0)).2∧a≤(l.getD i (0,0)).1∧(l.getD i (0,0)).2≤t:=by
 intro l
 induction l with
 |nil=>intro a t i _ h;cases h
 |cons x r ih=>
  intro a t i ⟨h1,h2,h3,h4⟩ hi
  cases i with
  |zero=>exact ⟨h1,by show x.1<x.2;omega,by show a≤x.1;omega,h3⟩
  |succ i=>
   obtain ⟨e1,e2,e3,e4⟩:=ih h4 (Nat.lt_of_succ_lt_succ hi)
   rw [end_cons]
   refine ⟨e1,e2, ?_,e4⟩
   have e3':x.2≤(r.getD i (0,0)).1:=e3
   show a≤(r.getD i (0,0)).1
   omega
theorem chain_len: ∀{l:List (Int×Int)} {a t:Int},chain a t l→((l.length:Nat):Int)≤t-a:=by
 intro l
 induction l with
 |nil=>intro a t h;have:a=t:=h;simp;omega
 |cons x r ih=>
  intro a t ⟨h1,h2,h3,h4⟩
  have:=ih h4
  rw [List.length_cons]
  omega
def wsum (f:Nat→Rat):Nat→Rat
 |0=>0
 |n+1=>wsum f n+f n
theorem wsum_congr {f g:Nat→Rat}: ∀{n:Nat},(∀i,i<n→f i=g i)→wsum f n=wsum g n:=by
 intro n
 induction n with
 |zero=>intro _;rfl
 |succ n ih=>intro h;show wsum f n+f n=wsum g n+g n;rw [ih fun i hi=>h i (by omega),h n (by omega)]
noncomputable def ptW (x:Int×Int):List Value:=dtW (dtN x.1)++dtW (dtN x.2)
def nsOf (cs:List (Int×Int×Int)):List Int:=cs.map nm
instance (y m d:Int):Decidable (rightI y m d):=inferInstanceAs (Decidable (_∧_))
def spOk (x y:Int×Int×Int) (cs:List (Int×Int×Int)):Prop:=(ri x∧ri y∧ ∀c∈cs,ri c)∧nm x≤nm y
open Classical in
noncomputable def spL (x y:Int×Int×Int) (cs:List (Int×Int×Int)):List (Int×Int):=if spOk x y cs then cutP (nsOf cs) (nm x) (nm y) else []
open Classical in
noncomputable def spE (x y:Int×Int×Int) (cs:List (Int×Int×Int)):Int:=if ri x∧ri y∧ ∀c∈cs,ri c then (if nm x≤nm y then 0 else 12) else 11
theorem sp_yes {x y:Int×Int×Int} {cs:List (Int×Int×Int)} (h:spOk x y cs):spL x y cs=cutP (nsOf cs) (nm x) (nm y)∧spE x y cs=0:=by
 unfold spL spE
 rw [if_pos h,if_pos h.1,if_pos h.2]
 exact ⟨rfl,rfl⟩
theorem sp_date {x y:Int×Int×Int} {cs:List (Int×Int×Int)} (h: ¬(ri x∧ri y∧ ∀c∈cs,ri c)):spL x y cs= []∧spE x y cs=11:=by
 unfold spL spE
 rw [if_neg (fun e=>h e.1),if_neg h]
 exact ⟨rfl,rfl⟩
theorem sp_order {x y:Int×Int×Int} {cs:List (Int×Int×Int)} (h:ri x∧ri y∧ ∀c∈cs,ri c) (h2: ¬nm x≤nm y):spL x y cs= []∧spE x y cs=12:=by
 unfold spL spE
 rw [if_neg (fun e=>h2 e.2),if_pos h,if_neg h2]
 exact ⟨rfl,rfl⟩
abbrev D3:=Int×Int×Int
theorem getD_in {cs:List D3} {j:Nat} (h:j<cs.length):cs.getD j (0,0,0)∈cs:=by
 rw [List.getD_eq_getElem?_getD,List.getElem?_eq_getElem h]
 exact List.getElem_mem h
def ptD (p:D3×D3):List Value:=dtW p.1++dtW p.2
def n2 (p:D3×D3):Int×Int:=(nm p.1,nm p.2)
theorem ptD_eq {p:D3×D3} (h:ri p.1∧ri p.2):ptD p=ptW (n2 p):=by
 unfold ptD ptW n2
 rw [dt_nm h.1,dt_nm h.2]
theorem cmp_nm {x y:D3} (h:ri x) (h':ri y):cmpI x.1 x.2.1 x.2.2 y.1 y.2.1 y.2.2=if nm x<nm y then -1 else if nm y<nm x then 1 else 0:=cmp_num h h'
end Go.Proofs.YtjpilacbapibjaaGreatDoor.Da
namespace Go.Proofs.YtjpilacbapibjaaGreatDoor
open Go.RowKit
namespace Da
end Da
end Go.Proofs.YtjpilacbapibjaaGreatDoor
namespace Go.Proofs.YtjpilacbapibjaaGreatDoor.X
open Go.Proofs.YtjpilacbapibjaaGreatDoor.Da
open Go.RowKit Go.Proofs.YtjpilacbapibjaaGreatDoor.Z
set_option linter.unusedVariables false
def dtR (r:List Value):Int×Int×Int:=match r with
 | [.int .i64 a, .int .i64 b, .int .i64 c]=>(a,b,c)
 |_=>(0,0,0)
theorem map_RW (X:List (Int×Int×Int)):(X.map dtW).map dtR=X:=by
 rw [List.map_map]
 exact List.map_id X
def dcs (cs:List D3) (i:Nat):D3:=cs.getD i (0,0,0)
theorem dcs_row {cs:List D3} {i:Nat} (h:i<cs.length):(cs.map dtW).getD i []= [.int .i64 (dcs cs i).1, .int .i64 (dcs cs i).2.1, .int .i64 (dcs cs i).2.2]:=by
 unfold dcs
 rw [List.getD_eq_getElem?_getD,List.getD_eq_getElem?_getD,List.getElem?_map,List.getElem?_eq_getElem h]
 rfl
theorem dcs_in {cs:List D3} {i:Nat} (h:i<cs.length):dcs cs i∈cs:=getD_in h
theorem sp_or {x y:D3} {cs:List D3} (h:ri x∧ri y) (hc: ∀c∈cs,ri c) (ho:0<cmpI x.1 x.2.1 x.2.2 y.1 y.2.1 y.2.2):spL x y cs= []∧spE x y cs=12:=by
 refine sp_order ⟨h.1,h.2,hc⟩ fun e=> ?_
 rw [cmp_nm h.1 h.2,if_neg (by omega)] at ho
 split at ho<;>omega
end Go.Proofs.YtjpilacbapibjaaGreatDoor.X
namespace Go.Proofs.YtjpilacbapibjaaGreatDoor.X
open Go.RowKit Go.Proofs.YtjpilacbapibjaaGreatDoor.Z Go.Sort
abbrev Rw (k:Nat):Type:={r:List Value//r.length=k∧ ∀v∈r,pv v=true}
instance (k:Nat):Inhabited (Rw k):=⟨⟨List.replicate k (.bool false),by simp,fun v h=>by rw [List.eq_of_mem_replicate h];rfl⟩⟩
abbrev rwE {k:Nat} (x:Rw k):List Value:=x.1
theorem rwE_len {k:Nat} (x:Rw k):(rwE x).length=k:=x.2.1
theorem rows_rw {k:Nat}: ∀{l:List (List Value)},rowsB k l→(∀r∈l,∀v∈r,pv v=true)→ ∃d:List (Rw k),d.map rwE=l:=by
 intro l
 induction l with
 |nil=>intro _ _;exact ⟨[],rfl⟩
 |cons r s ih=>
  intro h1 h2
  obtain ⟨d,hd⟩:=ih (fun x hx=>h1 x (.tail _ hx)) (fun x hx=>h2 x (.tail _ hx))
  exact ⟨⟨r,h1 r (.head _),h2 r (.head _)⟩::d,by rw [List.map_cons,hd]⟩
theorem rw_rows {k:Nat} (d:List (Rw k)):rowsB k (d.map rwE):=fun r hr=>by obtain ⟨x,_,rfl⟩:=List.mem_map.1 hr;exact x.2.1
theorem rw_pv {k:Nat} (d:List (Rw k)): ∀v∈(d.map rwE).flatten,pv v=true:=fun v hv=>by
 obtain ⟨r,hr,hv⟩:=List.mem_flatten.1 hv
 obtain ⟨x,_,rfl⟩:=List.mem_map.1 hr
 exact x.2.2 v hv
theorem flatK_list {k:Nat} (d:List (Rw k)):(flatK rwE k d.toArray).toList=(d.map rwE).flatten:=by
 apply List.ext_getElem?
 intro t
 rw [Array.getElem?_toList]
 rcases Nat.lt_or_ge t (d.length*k) with h|h
 ·have hk:0<k:=Nat.pos_of_ne_zero fun e=>by subst e;simp at h
  have hi:t/k<d.length:=(Nat.div_lt_iff_lt_mul hk).2 h
  have hm:t%k<k:=Nat.mod_lt _ hk
  have e1:(flatK rwE k d.toArray)[t]? =some (flatK rwE k d.toArray)[t]! :=by
   rw [getElem!_pos _ t (by simpa using h)]
   exact Array.getElem?_eq_getElem _
  rw [e1,get_flatK _ _ _ _ (by simpa using h)]
  have e2:(d.map rwE)[t/k]? =some (rwE d[t/k]):=by rw [List.getElem?_map,List.getElem?_eq_getElem hi];rfl
  have e3:(rwE d[t/k])[t%k]? =some (rwE d[t/k])[t%k]! :=by
   rw [getElem!_pos _ (t%k) (by rw [rwE_len];exact hm)]
   exact List.getElem?_eq_getElem _
  have:=flat_get (rw_rows d) e2 e3
  rw [Nat.mul_comm,Nat.div_add_mod] at this
  rw [this]
  congr 2
  rw [getElem!_pos _ (t/k) (by simpa using hi)]
  simp
 ·rw [Array.getElem?_eq_none (by simpa using h),List.getElem?_eq_none (by rw [flat_len (rw_rows d),List.length_map];exact h)]
theorem holds_ow {T k:Nat} {l:List (List Value)} {w:World} {v:Value} (h:isOw cxZ T k l w v) (hv:l≠ []): ∃g cap,v= .slice (some ⟨g,0,none⟩) l.length cap∧l.length≤cap∧cap≤maxLen∧g<w.heap.size∧ ∃d:List (Rw k),d.map rwE=l∧HoldsK rwE k w g 0 d.toArray:=by
 obtain ⟨h0,⟨h1,h2⟩,h3⟩:=h
 rcases h2 with ⟨_,e⟩|⟨g,cap,cur,rfl,_,hg,hn,hm,hs,ht⟩
 ·exact absurd (List.eq_nil_of_length_eq_zero e) hv
 ·have hp:=(h3 g rfl).2 cur T (0,0) hg
  have hpl: ∀r∈l,∀v∈r,pv v=true:=fun r hr v hv=>by
   have hm':v∈l.flatten:=List.mem_flatten.2 ⟨r,hr,hv⟩
   rw [←ht] at hm'
   rw [Array.all_eq_true_iff_forall_mem] at hp
   exact hp v (by simpa using List.mem_of_mem_take hm')
  obtain ⟨d,hd⟩:=rows_rw h0 hpl
  refine ⟨g,cap,rfl,hn,hm,lt_heap hg,d,hd,fun j hj=> ?_⟩
  have hj':j<d.length*k:=by simpa using hj
  refine ⟨?_,by simp [World.frozen?,hg]⟩
  have e1:(flatK rwE k d.toArray)[j]? =some (flatK rwE k d.toArray)[j]! :=by
   rw [getElem!_pos _ j hj]
   exact Array.getElem?_eq_getElem _
  have e2:(cur.toList.take (l.length*k))[j]? =cur[j]? :=by
   rw [List.getElem?_take,if_pos (by rw [←hd,List.length_map];exact hj'),Array.getElem?_toList]
  have e3:cur[j]? =some (flatK rwE k d.toArray)[j]! :=by
   rw [←e2,ht,←hd,←flatK_list,Array.getElem?_toList,e1]
  simp only [World.cell?,hg,Nat.zero_add]
  simp only [Option.isSome_none,Bool.false_eq_true,if_false]
  rw [e3]
  rfl
theorem ow_turned {T k n m:Nat} {l:List (List Value)} {w:World} {g cap:Nat} {os:Array Obj} {d:List (Rw k)} (h:isOw cxZ T k l w (.slice (some ⟨g,0,none⟩) l.length cap)) (hd:d.length=l.length) (hn:n≤d.length):isOw cxZ T k ((d.take n).map rwE) (grow (putRowK rwE k (Sort.ahead w m) g 0 d.toArray) os) (.slice (some ⟨g,0,none⟩) n cap)∧w.grownBy (grow (putRowK rwE k (Sort.ahead w m) g 0 d.toArray) os) (some g)∧ ∃cs,(grow (putRowK rwE k (Sort.ahead w m) g 0 d.toArray) os).heap[g]? =some (.cells cs T (0,0))∧cs.all pv=true:=by
 obtain ⟨h0,⟨h1,h2⟩,h3⟩:=h
 rcases h2 with ⟨e,_⟩|⟨g',cap',cur,e,hb,hg,hc,hm,hs,ht⟩
 ·cases e
 ·injection e with e1 e2 e3
  injection e1 with e1
  injection e1 with e1
  subst e1 e3
  have hp:=(h3 g rfl).2 cur T (0,0) hg
  have hsz:(flatK rwE k d.toArray).size=l.length*k:=by rw [size_flatK,List.size_toArray,hd]
  have hle:l.length*k≤cur.size:=by rw [hs];exact Nat.mul_le_mul_right _ hc
  have hcell:(grow (putRowK rwE k (Sort.ahead w m) g 0 d.toArray) os).heap[g]? =some (.cells (putCells id 0 (flatK rwE k d.toArray) cur) T (0,0)):=by
   rw [heap_grow_old _ _ (by simp [putRowK,putRow,mapBlock,Sort.ahead,lt_heap hg])]
   simp [putRowK,putRow,mapBlock,Sort.ahead,Array.getElem?_modify,hg,onCells]
  have hget: ∀j,j<cur.size→(putCells id 0 (flatK rwE k d.toArray) cur)[j]? =if j<l.length*k then (flatK rwE k d.toArray)[j]? else cur[j]? :=by
   intro j hj
   unfold putCells
   rw [Array.getElem?_mapIdx,Array.getElem?_eq_getElem hj,Option.map_some]
   by_cases hjl:j<l.length*k
   ·rw [if_pos hjl,if_pos (by rw [hsz];omega),getElem!_pos _ (j-0) (by rw [hsz];exact hjl),Array.getElem?_eq_getElem (by rw [hsz];exact hjl)]
    rfl
   ·rw [if_neg hjl,if_neg (by rw [hsz];omega)]
  have hsize:(putCells id 0 (flatK rwE k d.toArray) cur).size=cur.size:=by simp [putCells]
  have htake:(putCells id 0 (flatK rwE k d.toArray) cur).toList.take (n*k)=((d.take n).map rwE).flatten:=by
   have hnk:n*k≤l.length*k:=Nat.mul_le_mul_right _ (by omega)
   have e1:((d.take n).map rwE).flatten=(d.map rwE).flatten.take (n*k):=by
    rw [List.map_take]
    exact (flat_split (rw_rows d) (by rw [List.length_map];exact hn)).1.symm
   rw [e1,←flatK_list]
   apply List.ext_getElem?
   intro j
   rw [List.getElem?_take,List.getElem?_take]
   by_cases hj:j<n*k
   ·rw [if_pos hj,if_pos hj,Array.getElem?_toList,Array.getElem?_toList,hget j (by omega),if_pos (by omega)]
   ·rw [if_neg hj,if_neg hj]
  have hpv:(putCells id 0 (flatK rwE k d.toArray) cur).all pv=true:=by
   rw [Array.all_eq_true_iff_forall_mem] at hp⊢
   intro x hx
   obtain ⟨j,hj,rfl⟩:=Array.getElem_of_mem hx
   have hj':j<cur.size:=by rw [←hsize];exact hj
   have:=hget j hj'
   rw [Array.getElem?_eq_getElem hj] at this
   split at this
   ·have hm':(putCells id 0 (flatK rwE k d.toArray) cur)[j]∈(flatK rwE k d.toArray).toList:=List.mem_of_getElem? (i:=j) (by rw [Array.getElem?_toList];exact this.symm)
    rw [flatK_list] at hm'
    exact rw_pv d _ hm'
   ·exact hp _ (Array.mem_of_getElem? this.symm)
  refine ⟨⟨fun r hr=> ?_,⟨?_, .inr ⟨g,cap,_,by rw [List.length_map,List.length_take,Nat.min_eq_left hn],Nat.zero_le _,hcell,by rw [List.length_map,List.length_take,Nat.min_eq_left hn];omega,hm,by rw [hsize];exact hs,by rw [List.length_map,List.length_take,Nat.min_eq_left hn];exact htake⟩⟩,fun b e=> ?_⟩,⟨rfl,rfl,rfl, ?_,fun j hj hne=> ?_⟩,_,hcell,hpv⟩
  ·exact rw_rows (d.take n) r hr
  ·exact flat_len (rw_rows (d.take n))
  ·injection e with e
   subst e
   refine ⟨rfl,fun cs t fr hcs=> ?_⟩
   rw [hcell] at hcs
   injection hcs with hcs
   injection hcs with e1
   subst e1
   exact hpv
  ·rw [size_grow]
   simp [putRowK,putRow,mapBlock,Sort.ahead]
  ·rw [heap_grow_old _ _ (by simp [putRowK,putRow,mapBlock,Sort.ahead];exact hj)]
   have:g≠j:=fun e=>hne (by rw [e])
   simp [putRowK,putRow,mapBlock,Sort.ahead,Array.getElem?_modify,this]
theorem turned_post {T k m:Nat} {l l':List (List Value)} {w:World} {g cap:Nat} {os:Array Obj} {d:List (Rw k)} (h:isOw cxZ T k l w (.slice (some ⟨g,0,none⟩) l.length cap)) (hd:d.map rwE=l') (hl:l'.length=l.length) {w':World} (hw:w'=grow (putRowK rwE k (Sort.ahead w m) g 0 d.toArray) os) {v:Value} (hv:v= .slice (some ⟨g,0,none⟩) l.length cap) {ans:Bool}: ∃v',(cond ans v (.tuple #[]))=cond ans v' (.tuple #[])∧isOw cxZ T k l' w' v'∧w.grownBy w' v.ownBlock∧(∀b,v.ownBlock=some b→ ∃cs,w'.heap[b]? =some (.cells cs T (0,0))∧cs.all pv=true)∧(∀b,v'.ownBlock=some b→v.ownBlock=some b)∧(ans=false→v'=v):=by
 have hdl:d.length=l.length:=by rw [←hl,←hd,List.length_map]
 subst hv hw
 obtain ⟨a1,a2,a3⟩:=ow_turned (n:=d.length) (m:=m) (os:=os) h hdl (Nat.le_refl _)
 rw [List.take_length,hd,hdl] at a1
 exact ⟨_,rfl,a1,a2,fun b e=>by injection e with e;subst e;exact a3,fun _ e=>e,fun _=>rfl⟩
theorem still_post {T k:Nat} {l:List (List Value)} {w:World} {v:Value} (h:isOw cxZ T k l w v) {ans:Bool}: ∃v',(cond ans v (.tuple #[]))=cond ans v' (.tuple #[])∧isOw cxZ T k l w v'∧w.grownBy w v.ownBlock∧(∀b,v.ownBlock=some b→ ∃cs,w.heap[b]? =some (.cells cs T (0,0))∧cs.all pv=true)∧(∀b,v'.ownBlock=some b→v.ownBlock=some b)∧(ans=false→v'=v):=
 ⟨v,rfl,h,⟨rfl,rfl,rfl,Nat.le_refl _,fun _ _ _=>rfl⟩,fun b e=>(own_blk h b e).2.2,fun _ e=>e,fun _=>rfl⟩
theorem ow_nil {T k:Nat} {w:World} {v:Value} (h:isOw cxZ T k [] w v): ∃a cap,v= .slice a 0 cap:=by
 obtain ⟨_,⟨_,h2⟩,_⟩:=h
 rcases h2 with ⟨rfl,_⟩|⟨g,cap,cur,rfl,_⟩
 ·exact ⟨none,0,rfl⟩
 ·exact ⟨_,cap,rfl⟩
noncomputable def ttRev (f:FuncId) (en:Enters Tryz.prog f) (T k:Nat) (hE: ∀(a:Option Addr) (cap:Nat) (w:World),Calls Tryz.prog f #[.slice a 0 cap] w fun e w'=>e= .returned (.tuple #[])∧w'=w)
  (hR: ∀(g cap:Nat) (d:Array (Rw k)) (w:World),HoldsK rwE k w g 0 d→d.size≤9223372036854775807→Calls Tryz.prog f #[.slice (some ⟨g,0,none⟩) d.size cap] w fun e w'=>e= .returned (.tuple #[])∧ ∃n,w'=putRowK rwE k (Sort.ahead w n) g 0 d.reverse):Tt dk:=
 ⟨f,en,T,k,false,fun l ks=>match ks with
  | []=>some (l.reverse,[])
  |_=>none,fun l ks l' ps h _ w v vs hL hv=>by
   cases ks with
   |cons k r=>cases h
   |nil=>
    injection h with h
    injection h with h1 h2
    subst h1
    cases vs with
    |cons u us=>cases hv
    |nil=>
     by_cases hne:l= []
     ·subst hne
      obtain ⟨a,cap,rfl⟩:=ow_nil hL
      refine (hE a cap w).mono fun e w' ⟨q1,q2⟩=> ?_
      subst q1 q2
      obtain ⟨v',e1,e2⟩:=still_post (ans:=false) hL
      exact ⟨v',rfl,e2⟩
     ·obtain ⟨g,cap,rfl,hn,hm,hg,d,hd,hH⟩:=holds_ow hL hne
      have hdl:d.toArray.size=l.length:=by rw [List.size_toArray,←hd,List.length_map]
      have:=hR g cap d.toArray w hH (by rw [hdl];simp only [maxLen] at hm;omega)
      rw [hdl] at this
      refine this.mono fun e w' ⟨q1,n,q2⟩=> ?_
      subst q1
      obtain ⟨v',e1,e2⟩:=turned_post (ans:=false) (m:=n) (os:= #[]) (d:=d.reverse) (l':=l.reverse) hL (by rw [List.map_reverse,hd]) (List.length_reverse ..) (w':=w') (by rw [q2,grow_empty,List.reverse_toArray]) rfl
      exact ⟨v',rfl,e2⟩⟩
section
set_option autoImplicit false
noncomputable abbrev dXt (cs:List (Ct dk)) (ts:List (Tt dk)) (fn:Func) (Res:Fk K) (p:List Nat) (H:List (Nat→Hint K)) (J:List (Sx K→Prop)) (S:Sx K):Prop:=dsc (En cs ts) fn.ntmps p H (rest fn) J (fun _=>False) (rets (En cs ts) fn Res) (fun _ _=>False) S
noncomputable abbrev rXt (cs:List (Ct dk)) (ts:List (Tt dk)) (fn:Func) (h:Nat→Hint K) (r:Nat) (S:Sx K):Sx K:=rs (En cs ts) fn h r S
theorem fxt (cs:List (Ct dk)) (ts:List (Tt dk)) {f:FuncId} {fn:Func} {args:Array Value} {w:World} (hf:Tryz.prog.funcs[f]? =some fn) (hs:Nat→Hint K) (D0:DL K) (Res:Fk K) (hD:AllL (fun x:Nat×Ks K=>(k0 w x.2).p w (args.getD x.1 undef)) D0) (p:Prop) (h:p)
  (e:vc (En cs ts) fn.ntmps (rest fn) hs (ent Tryz.prog fn D0) (fun _=>False) (rets (En cs ts) fn Res) (fun _ _=>False)=p:=by kernel_rfl) (hB:entB Tryz.prog (En cs ts) fn args.size D0=true:=by kernel_rfl) (hn:npF Res=true:=by kernel_rfl):Calls Tryz.prog f args w (Ret w fun v w'=>(f0 w Res).p w' v):=
 fnX (E:=En cs ts) hf (by kernel_rfl) hs D0 Res hn hD (e.mpr h) hB
end
end Go.Proofs.YtjpilacbapibjaaGreatDoor.X
namespace Go.Proofs.YtjpilacbapibjaaGreatDoor.X
open Go.Proofs.YtjpilacbapibjaaGreatDoor.Da
open Go.RowKit Go.Proofs.YtjpilacbapibjaaGreatDoor.Z
set_option linter.unusedVariables false
def wrB (c:D3):Bool:= !decide (ri c)
def outB (c x y:D3):Bool:=decide (cmpI c.1 c.2.1 c.2.2 x.1 x.2.1 x.2.2≤0)||decide ((0:Int)≤cmpI c.1 c.2.1 c.2.2 y.1 y.2.1 y.2.2)
def ixB (p:D3→Bool):List D3→Nat→Int
 | [],_=> -1
 |c::r,i=>if p c then (i:Int) else ixB p r (i+1)
theorem ixB_at {p:D3→Bool}: ∀{cs:List D3} {k i:Nat},i<cs.length→(∀j,j<i→p (dcs cs j)=false)→p (dcs cs i)=true→ixB p cs k=((k+i:Nat):Int):=by
 intro cs
 induction cs with
 |nil=>intro k i h;cases h
 |cons c r ih=>
  intro k i hi h1 h2
  unfold ixB
  cases i with
  |zero=>rw [if_pos (show p c=true from h2)];rfl
  |succ i=>
   rw [if_neg (by rw [show p c=false from h1 0 (Nat.succ_pos i)];decide),ih (Nat.lt_of_succ_lt_succ hi) (fun j hj=>h1 (j+1) (Nat.succ_lt_succ hj)) h2]
   congr 1
   omega
theorem ixB_no {p:D3→Bool}: ∀{cs:List D3} {k:Nat},(∀j,j<cs.length→p (dcs cs j)=false)→ixB p cs k= -1:=by
 intro cs
 induction cs with
 |nil=>intro k _;rfl
 |cons c r ih=>
  intro k h
  unfold ixB
  rw [if_neg (by rw [show p c=false from h 0 (Nat.succ_pos _)];decide),ih fun j hj=>h (j+1) (Nat.succ_lt_succ hj)]
theorem ix3 (p:D3→Bool) (cs:List D3) (i:Nat):cs.length≤i∨(i<cs.length∧p (dcs cs i)=true)∨(i<cs.length∧p (dcs cs i)=false):=by
 rcases Nat.lt_or_ge i cs.length with h|h
 ·cases e:p (dcs cs i) with
  |true=>exact .inr (.inl ⟨h,rfl⟩)
  |false=>exact .inr (.inr ⟨h,rfl⟩)
 ·exact .inl h
theorem ix_all {p:D3→Bool} {cs:List D3}:(ixB p cs 0= -1∧ ∀j,j<cs.length→p (dcs cs j)=false)∨ ∃i,i<cs.length∧ixB p cs 0=(i:Int)∧(∀j,j<i→p (dcs cs j)=false)∧p (dcs cs i)=true:=by
 by_cases h: ∃i,i<cs.length∧p (dcs cs i)=true
 ·have key: ∀n i,i≤n→i<cs.length→p (dcs cs i)=true→ ∃i,i<cs.length∧p (dcs cs i)=true∧ ∀j,j<i→p (dcs cs j)=false:=by
   intro n
   induction n with
   |zero=>intro i h1 h2 h3;exact ⟨i,h2,h3,fun j hj=>by omega⟩
   |succ n ih=>
    intro i h1 h2 h3
    by_cases h4: ∃j,j<i∧p (dcs cs j)=true
    ·obtain ⟨j,h5,h6⟩:=h4
     exact ih j (by omega) (by omega) h6
    ·refine ⟨i,h2,h3,fun j hj=> ?_⟩
     cases e:p (dcs cs j) with
     |false=>rfl
     |true=>exact absurd ⟨j,hj,e⟩ h4
  obtain ⟨i,h1,h2⟩:=h
  obtain ⟨i,h1,h2,h3⟩:=key i i (Nat.le_refl _) h1 h2
  exact .inr ⟨i,h1,by rw [ixB_at h1 h3 h2,Nat.zero_add],h3,h2⟩
 ·have hn: ∀j,j<cs.length→p (dcs cs j)=false:=fun j hj=>by
   cases e:p (dcs cs j) with
   |false=>rfl
   |true=>exact absurd ⟨j,hj,e⟩ h
  exact .inl ⟨ixB_no hn,hn⟩
theorem ixB_ge {cs:List D3}:decide ((0:Int)≤ixB wrB cs 0)=cs.any wrB:=by
 rcases ix_all (p:=wrB) (cs:=cs) with ⟨h,_⟩|⟨i,h1,h2,_,h4⟩
 ·rw [h]
  cases e:cs.any wrB with
  |false=>rfl
  |true=>
   exfalso
   obtain ⟨c,hc,h5⟩:=List.any_eq_true.1 e
   have key: ∀{cs:List D3} {k:Nat},c∈cs→ixB wrB cs k≠ -1:=by
    intro cs
    induction cs with
    |nil=>intro k h;cases h
    |cons d r ih=>
     intro k hd h3
     unfold ixB at h3
     split at h3
     ·omega
     ·next hc2=>
      rcases List.mem_cons.1 hd with rfl|hd
      ·exact hc2 h5
      ·exact ih hd h3
   exact key hc h
 ·rw [h2,decide_eq_true (by omega),List.any_eq_true.2 ⟨_,dcs_in h1,h4⟩]
theorem any_1 {cs:List D3} (h: ¬ ∀c∈cs,ri c):cs.any wrB=true:=by
 cases e:cs.any wrB with
 |true=>rfl
 |false=>
  refine absurd (fun c hc=> ?_) h
  have:=List.any_eq_false.1 e c hc
  unfold wrB at this
  simpa using this
theorem any_0 {cs:List D3} (h: ∀c∈cs,ri c):cs.any wrB=false:=by
 rw [List.any_eq_false]
 intro c hc h5
 unfold wrB at h5
 rw [decide_eq_true (h c hc)] at h5
 cases h5
theorem en27:Enters Tryz.prog 27:=enters_of Tryz.func27 (by kernel_rfl) rfl
theorem en28:Enters Tryz.prog 28:=enters_of Tryz.func28 (by kernel_rfl) rfl
theorem en34:Enters Tryz.prog 34:=enters_of Tryz.func34 (by kernel_rfl) rfl
theorem en36:Enters Tryz.prog 36:=enters_of Tryz.func36 (by kernel_rfl) rfl
theorem en72:Enters Tryz.prog 72:=enters_of Tryz.func72 (by kernel_rfl) rfl
theorem en74:Enters Tryz.prog 74:=enters_of Tryz.func74 (by kernel_rfl) rfl
noncomputable def ctb45:List (Ct dk):= [
 ct1w 71 0 en71 vDt (.O .Tb) isTbk isTbk_ok (fun x=> .s (eI (chkI x.1 x.2.1 x.2.2))) (fun x=> []) fun _ p _ _ _ h1 hW=>pCheck_t h1 hW]
theorem wrong_t {w:World} {v0:Value} {y m d:Int} (h0:(f0 w (.s (eD y m d))).p w v0) (hw:isTb w v0):Calls Tryz.prog 33 #[v0] w (Ret w fun v w'=>(isE (.bool (wrB (y,m,d)))) w' v):=by
 exact fx ctb45 Tryz.func33 (fun _=> []) [(0,eD y m d),(1000000, .O .Tb)] (.s (eB (wrB (y,m,d)))) ⟨h0,hw,trivial⟩ ((!decide ((chkI y m d:Int)=0))=wrB (y,m,d)) (by show (!decide ((chkI y m d:Int)=0))= !decide (rightI y m d);by_cases hr:rightI y m d;rw [(chk_1 hr).1,decide_eq_true hr];rfl;rw [(chk_0 hr).1,decide_eq_false hr];rfl)
noncomputable def ctb46:List (Ct dk):= [
 ct2 24 0 en24 vDt vDt (fun x y=> .s (eI (cmpI x.1 x.2.1 x.2.2 y.1 y.2.1 y.2.2))) (fun x y=> []) fun _ _ p _ _ _ h1 h2=>pCmp_t h1 h2]++ctb45
theorem out_t {w:World} {v0 v1 v2:Value} {y1 m1 d1 y2 m2 d2 y3 m3 d3:Int} (h0:(f0 w (.s (eD y1 m1 d1))).p w v0) (h1:(f0 w (.s (.A [.int .i64 y2, .int .i64 m2, .int .i64 d2]))).p w v1) (h2:(f0 w (.s (.A [.int .i64 y3, .int .i64 m3, .int .i64 d3]))).p w v2):Calls Tryz.prog 73 #[v0,v1,v2] w (Ret w fun v w'=>(isE (.bool (outB (y1,m1,d1) (y2,m2,d2) (y3,m3,d3)))) w' v):=by
 exact fx ctb46 Tryz.func73 (hnX [(1,[(5,777777,none),(6,777777,none),(7,777777,none),(8,777777,none),(9,777777,none)])]) [(0,eD y1 m1 d1),(1, .A [.int .i64 y2, .int .i64 m2, .int .i64 d2]),(2, .A [.int .i64 y3, .int .i64 m3, .int .i64 d3])] (.s (eB (outB (y1,m1,d1) (y2,m2,d2) (y3,m3,d3)))) ⟨h0,h1,h2,trivial⟩ (im2 (decide ((cmpI y1 m1 d1 y2 m2 d2:Int)≤0)==false)∧im2 (decide ((cmpI y1 m1 d1 y2 m2 d2:Int)≤0)==false)∧im2 (decide ((cmpI y1 m1 d1 y2 m2 d2:Int)≤0)==false)∧(decide ((cmpI y1 m1 d1 y2 m2 d2:Int)≤0)=false→(decide ((cmpI y1 m1 d1 y2 m2 d2:Int)≤0)==false)=true)∧cond (decide ((cmpI y1 m1 d1 y2 m2 d2:Int)≤0)) true (decide ((0:Int)≤cmpI y1 m1 d1 y3 m3 d3))=outB (y1,m1,d1) (y2,m2,d2) (y3,m3,d3)) ⟨id,id,id,(fun hp=>by simp_all),(by unfold outB;cases decide (cmpI y1 m1 d1 y2 m2 d2≤0)<;>rfl)⟩
theorem all_next12 {p:Nat→Prop} {i:Nat} (h: ∀j,j<i→p j) (h2:p i): ∀j,j<i+1→p j:=fun j hj=>by
 rcases Nat.lt_or_eq_of_le (Nat.le_of_lt_succ hj) with e|e
 ·exact h j e
 ·rw [e];exact h2
noncomputable def ctb47:List (Ct dk):= [
 ct1w 33 0 en33 vDt (.O .Tb) isTbk isTbk_ok (fun x=> .s (eB (wrB (x.1,x.2.1,x.2.2)))) (fun x=> []) fun _ p _ _ _ h1 hW=>wrong_t h1 hW]++ctb46
noncomputable abbrev rixW_t:=rX ctb47 Tryz.f72
noncomputable abbrev dixW_t (cs:List D3):=dX ctb47 Tryz.f72 (.s (eI (ixB wrB cs 0)))
noncomputable def hixW_t (cs:List D3):Nat→Hint K:=hnX [(1,[(1,0,oS (eI ((cs.length:Nat):Int)))])]
noncomputable def iixW_t_0 (cs:List D3) (i:Nat):Sx K:=⟨[(0, .L 28 3 (cs.map dtW) false),(1, .E (.func (.func 33) #[] #[])),(1000000, .O .Tb),(7,eI ((cs.length:Nat):Int)),(8,eI (i:Int))],[]⟩
noncomputable def hixW_t_0_0 (cs:List D3) (i:Nat):Nat→Hint K:=hnX [(2,[(0,0,oS (eB false))])]
noncomputable def hixW_t_0_1 (cs:List D3) (i:Nat):Nat→Hint K:=hnX [(2,[(0,0,oS (eB true))]),(4,[(3,0,oS (.A [.int .i64 (dcs cs i).1, .int .i64 (dcs cs i).2.1, .int .i64 (dcs cs i).2.2])),(5,0,oS (eB true))])]
noncomputable def hixW_t_0_2 (cs:List D3) (i:Nat):Nat→Hint K:=hnX [(2,[(0,0,oS (eB true))]),(4,[(3,0,oS (.A [.int .i64 (dcs cs i).1, .int .i64 (dcs cs i).2.1, .int .i64 (dcs cs i).2.2])),(5,0,oS (eB false))]),(6,[(0,0,oS (eI ((i+1:Nat):Int)))])]
theorem ixW_t {w:World} {v0 v1:Value} {cs:List D3} (h0:(isRd (cxA w) true 3 (cs.map dtW)) w v0) (h1:(isE (.func (.func 33) #[] #[])) w v1) (hw:isTb w v0):Calls Tryz.prog 72 #[v0,v1] w (Ret w fun v w'=>(isE (.int .i64 (ixB wrB cs 0))) w' v):=by
 have hl:cs.length≤9223372036854775807:=by
  obtain ⟨_,a,cap,_,h2,h3,_⟩:=h0
  rw [List.length_map] at h2
  simp only [maxLen] at h3
  omega
 exact fx ctb47 Tryz.func72 (hixW_t cs) [(0, .L 28 3 (cs.map dtW) false),(1, .E (.func (.func 33) #[] #[])),(1000000, .O .Tb)] (.s (eI (ixB wrB cs 0))) ⟨h0,h1,hw,trivial⟩ (tI (((cs.map dtW).length:Nat):Int) ((cs.length:Nat):Int)∧dixW_t cs [0,1] [(hixW_t cs)] [] (rixW_t (hixW_t cs) 1 (ent Tryz.prog Tryz.f72 (κ:=K) [(0, .L 28 3 (cs.map dtW) false),(1, .E (.func (.func 33) #[] #[])),(1000000, .O .Tb)]))) ⟨⟨rfl,by simp⟩,(lpI (fun h S' J=>dixW_t cs [0,1,0,2] [(hixW_t cs),h] [J] S') (fun i:Nat=>i≤cs.length∧ ∀j,j<i→wrB (dcs cs j)=false) (fun i=>cs.length-i) (iixW_t_0 cs) (0) (rixW_t (hixW_t cs) 1 (ent Tryz.prog Tryz.f72 (κ:=K) [(0, .L 28 3 (cs.map dtW) false),(1, .E (.func (.func 33) #[] #[])),(1000000, .O .Tb)])) (⟨Nat.zero_le _,fun j h=>by omega⟩) (fun i hC1 J1 hJ1=>(by
  rcases ix3 wrB cs i with h8|h8|h8
  ·exact ⟨hixW_t_0_0 cs i,vcP (decide (((i:Int):Int)<((cs.length:Nat):Int))=false∧tI (-1) (ixB wrB cs 0)) ⟨decide_eq_false (by omega),(have hC1: ∀j,j<cs.length→wrB (dcs cs j)=false:=(fun j hj=>hC1.2 j (by omega));⟨rfl,by first|exact ((ixB_at h8.1 hC1.2 h8.2).trans (by rw [Nat.zero_add])).symm|exact (ixB_no hC1).symm⟩)⟩⟩
  ·exact ⟨hixW_t_0_1 cs i,vcP (decide (((i:Int):Int)<((cs.length:Nat):Int))=true∧i<(cs.map dtW).length∧(cs.map dtW).getD i []=([.int .i64 (dcs cs i).1, .int .i64 (dcs cs i).2.1, .int .i64 (dcs cs i).2.2]:List Value)∧wrB ((dcs cs i).1,(dcs cs i).2.1,(dcs cs i).2.2)=true∧tI (i:Int) (ixB wrB cs 0)) ⟨decide_eq_true (by omega),(by rw [List.length_map];exact h8.1),dcs_row h8.1,h8.2,⟨rfl,by first|exact ((ixB_at h8.1 hC1.2 h8.2).trans (by rw [Nat.zero_add])).symm|exact (ixB_no hC1).symm⟩⟩⟩
  ·exact ⟨hixW_t_0_2 cs i,vcP (decide (((i:Int):Int)<((cs.length:Nat):Int))=true∧i<(cs.map dtW).length∧(cs.map dtW).getD i []=([.int .i64 (dcs cs i).1, .int .i64 (dcs cs i).2.1, .int .i64 (dcs cs i).2.2]:List Value)∧wrB ((dcs cs i).1,(dcs cs i).2.1,(dcs cs i).2.2)=false∧wp ((i:Int)+1)∧tI ((i:Int)+1) ((i+1:Nat):Int)∧J1 (rlX (rixW_t (hixW_t_0_2 cs i)) [6,4,3,2] (iixW_t_0 cs i))) ⟨decide_eq_true (by omega),(by rw [List.length_map];exact h8.1),dcs_row h8.1,h8.2,wi (by omega),⟨rfl,by omega⟩,hJ1 (i+1) _ (⟨h8.1,all_next12 hC1.2 h8.2⟩) (by omega) ⟨by kernel_rfl,by kernel_rfl⟩⟩⟩)))⟩
noncomputable def ctb48:List (Ct dk):= [
 ct3 73 0 en73 vDt vA3 vA3 (fun x y z=> .s (eB (outB (x.1,x.2.1,x.2.2) (y.1,y.2.1,y.2.2) (z.1,z.2.1,z.2.2)))) (fun x y z=> []) fun _ _ _ p _ _ _ _ h1 h2 h3=>out_t h1 h2 h3]++ctb47
noncomputable abbrev rixO_t:=rX ctb48 Tryz.f72
noncomputable abbrev dixO_t (cs:List D3) (y2 m2 d2 y3 m3 d3:Int):=dX ctb48 Tryz.f72 (.s (eI (ixB (fun c=>outB c (y2,m2,d2) (y3,m3,d3)) cs 0)))
noncomputable def hixO_t (cs:List D3) (y2 m2 d2 y3 m3 d3:Int):Nat→Hint K:=hnX [(1,[(1,0,oS (eI ((cs.length:Nat):Int)))])]
noncomputable def iixO_t_0 (cs:List D3) (y2 m2 d2 y3 m3 d3:Int) (i:Nat):Sx K:=⟨[(0, .L 28 3 (cs.map dtW) false),(1, .C 73 [[.int .i64 y2, .int .i64 m2, .int .i64 d2],[.int .i64 y3, .int .i64 m3, .int .i64 d3]]),(7,eI ((cs.length:Nat):Int)),(8,eI (i:Int))],[]⟩
noncomputable def hixO_t_0_0 (cs:List D3) (y2 m2 d2 y3 m3 d3:Int) (i:Nat):Nat→Hint K:=hnX [(2,[(0,0,oS (eB false))])]
noncomputable def hixO_t_0_1 (cs:List D3) (y2 m2 d2 y3 m3 d3:Int) (i:Nat):Nat→Hint K:=hnX [(2,[(0,0,oS (eB true))]),(4,[(3,0,oS (.A [.int .i64 (dcs cs i).1, .int .i64 (dcs cs i).2.1, .int .i64 (dcs cs i).2.2])),(5,0,oS (eB true))])]
noncomputable def hixO_t_0_2 (cs:List D3) (y2 m2 d2 y3 m3 d3:Int) (i:Nat):Nat→Hint K:=hnX [(2,[(0,0,oS (eB true))]),(4,[(3,0,oS (.A [.int .i64 (dcs cs i).1, .int .i64 (dcs cs i).2.1, .int .i64 (dcs cs i).2.2])),(5,0,oS (eB false))]),(6,[(0,0,oS (eI ((i+1:Nat):Int)))])]
theorem ixO_t {w:World} {v0 v1:Value} {cs:List D3} {y2 m2 d2 y3 m3 d3:Int} (h0:(isRd (cxA w) true 3 (cs.map dtW)) w v0) (h1:(f0 w (.s (.C 73 [[.int .i64 y2, .int .i64 m2, .int .i64 d2],[.int .i64 y3, .int .i64 m3, .int .i64 d3]]))).p w v1):Calls Tryz.prog 72 #[v0,v1] w (Ret w fun v w'=>(isE (.int .i64 (ixB (fun c=>outB c (y2,m2,d2) (y3,m3,d3)) cs 0))) w' v):=by
 have hl:cs.length≤9223372036854775807:=by
  obtain ⟨_,a,cap,_,h2,h3,_⟩:=h0
  rw [List.length_map] at h2
  simp only [maxLen] at h3
  omega
 exact fx ctb48 Tryz.func72 (hixO_t cs y2 m2 d2 y3 m3 d3) [(0, .L 28 3 (cs.map dtW) false),(1, .C 73 [[.int .i64 y2, .int .i64 m2, .int .i64 d2],[.int .i64 y3, .int .i64 m3, .int .i64 d3]])] (.s (eI (ixB (fun c=>outB c (y2,m2,d2) (y3,m3,d3)) cs 0))) ⟨h0,h1,trivial⟩ (tI (((cs.map dtW).length:Nat):Int) ((cs.length:Nat):Int)∧dixO_t cs y2 m2 d2 y3 m3 d3 [0,1] [(hixO_t cs y2 m2 d2 y3 m3 d3)] [] (rixO_t (hixO_t cs y2 m2 d2 y3 m3 d3) 1 (ent Tryz.prog Tryz.f72 (κ:=K) [(0, .L 28 3 (cs.map dtW) false),(1, .C 73 [[.int .i64 y2, .int .i64 m2, .int .i64 d2],[.int .i64 y3, .int .i64 m3, .int .i64 d3]])]))) ⟨⟨rfl,by simp⟩,(lpI (fun h S' J=>dixO_t cs y2 m2 d2 y3 m3 d3 [0,1,0,2] [(hixO_t cs y2 m2 d2 y3 m3 d3),h] [J] S') (fun i:Nat=>i≤cs.length∧ ∀j,j<i→(fun c=>outB c (y2,m2,d2) (y3,m3,d3)) (dcs cs j)=false) (fun i=>cs.length-i) (iixO_t_0 cs y2 m2 d2 y3 m3 d3) (0) (rixO_t (hixO_t cs y2 m2 d2 y3 m3 d3) 1 (ent Tryz.prog Tryz.f72 (κ:=K) [(0, .L 28 3 (cs.map dtW) false),(1, .C 73 [[.int .i64 y2, .int .i64 m2, .int .i64 d2],[.int .i64 y3, .int .i64 m3, .int .i64 d3]])])) (⟨Nat.zero_le _,fun j h=>by omega⟩) (fun i hC1 J1 hJ1=>(by
  rcases ix3 (fun c=>outB c (y2,m2,d2) (y3,m3,d3)) cs i with h8|h8|h8
  ·exact ⟨hixO_t_0_0 cs y2 m2 d2 y3 m3 d3 i,vcP (decide (((i:Int):Int)<((cs.length:Nat):Int))=false∧tI (-1) (ixB (fun c=>outB c (y2,m2,d2) (y3,m3,d3)) cs 0)) ⟨decide_eq_false (by omega),(have hC1: ∀j,j<cs.length→(fun c=>outB c (y2,m2,d2) (y3,m3,d3)) (dcs cs j)=false:=(fun j hj=>hC1.2 j (by omega));⟨rfl,by first|exact ((ixB_at h8.1 hC1.2 h8.2).trans (by rw [Nat.zero_add])).symm|exact (ixB_no hC1).symm⟩)⟩⟩
  ·exact ⟨hixO_t_0_1 cs y2 m2 d2 y3 m3 d3 i,vcP (decide (((i:Int):Int)<((cs.length:Nat):Int))=true∧i<(cs.map dtW).length∧(cs.map dtW).getD i []=([.int .i64 (dcs cs i).1, .int .i64 (dcs cs i).2.1, .int .i64 (dcs cs i).2.2]:List Value)∧outB ((dcs cs i).1,(dcs cs i).2.1,(dcs cs i).2.2) (y2,m2,d2) (y3,m3,d3)=true∧tI (i:Int) (ixB (fun c=>outB c (y2,m2,d2) (y3,m3,d3)) cs 0)) ⟨decide_eq_true (by omega),(by rw [List.length_map];exact h8.1),dcs_row h8.1,h8.2,⟨rfl,by first|exact ((ixB_at h8.1 hC1.2 h8.2).trans (by rw [Nat.zero_add])).symm|exact (ixB_no hC1).symm⟩⟩⟩
  ·exact ⟨hixO_t_0_2 cs y2 m2 d2 y3 m3 d3 i,vcP (decide (((i:Int):Int)<((cs.length:Nat):Int))=true∧i<(cs.map dtW).length∧(cs.map dtW).getD i []=([.int .i64 (dcs cs i).1, .int .i64 (dcs cs i).2.1, .int .i64 (dcs cs i).2.2]:List Value)∧outB ((dcs cs i).1,(dcs cs i).2.1,(dcs cs i).2.2) (y2,m2,d2) (y3,m3,d3)=false∧wp ((i:Int)+1)∧tI ((i:Int)+1) ((i+1:Nat):Int)∧J1 (rlX (rixO_t (hixO_t_0_2 cs y2 m2 d2 y3 m3 d3 i)) [6,4,3,2] (iixO_t_0 cs y2 m2 d2 y3 m3 d3 i))) ⟨decide_eq_true (by omega),(by rw [List.length_map];exact h8.1),dcs_row h8.1,h8.2,wi (by omega),⟨rfl,by omega⟩,hJ1 (i+1) _ (⟨h8.1,all_next12 hC1.2 h8.2⟩) (by omega) ⟨by kernel_rfl,by kernel_rfl⟩⟩⟩)))⟩
theorem ixWR {w:World} {v u:Value} {x:List (List Value)} {n:Nat} (h1:isRd (cxA w) true 3 x w v) (h2:isE (.func (.func n) #[] #[]) w u) (hW:isTb w v) (e1:x=(x.map dtR).map dtW) (e2:n=33):Calls Tryz.prog 72 #[v,u] w (Ret w fun v' w'=>isE (.int .i64 (ixB wrB (x.map dtR) 0)) w' v'):=by
 subst e2
 rw [e1] at h1
 exact ixW_t h1 h2 hW
noncomputable def ctb49:List (Ct dk):= [
 ct2w 72 0 en72 (vL 3) vFn (.O .Tb) isTbk isTbk_ok (fun x y=> .s (eI (ixB wrB (x.map dtR) 0))) (fun x y=> [x=(x.map dtR).map dtW,y=33]) fun _ _ p _ _ _ _ h1 h2 hW=>ixWR h1 h2 hW p.1 p.2.1]++ctb48
theorem cfW_t {w:World} {v0 v1:Value} {cs:List D3} (h0:(isRd (cxA w) true 3 (cs.map dtW)) w v0) (h1:(isE (.func (.func 33) #[] #[])) w v1) (hw:isTb w v0):Calls Tryz.prog 34 #[v0,v1] w (Ret w fun v w'=>(isE (.bool (cs.any wrB))) w' v):=by
 exact fx ctb49 Tryz.func34 (hnX [(1,[(2,0,oS (eI (ixB wrB cs 0)))])]) [(0, .L 28 3 (cs.map dtW) false),(1, .E (.func (.func 33) #[] #[])),(1000000, .O .Tb)] (.s (eB (cs.any wrB))) ⟨h0,h1,hw,trivial⟩ (cs.map dtW=((cs.map dtW).map dtR).map dtW∧33=33∧tI (ixB wrB ((cs.map dtW).map dtR) 0) (ixB wrB cs 0)∧decide ((0:Int)≤ixB wrB cs 0)=cs.any wrB) ⟨(by first|(rw [map_RW];done)|rfl),rfl,⟨rfl,by rw [map_RW]⟩,ixB_ge⟩
theorem cfWR {w:World} {v u:Value} {x:List (List Value)} {n:Nat} (h1:isRd (cxA w) true 3 x w v) (h2:isE (.func (.func n) #[] #[]) w u) (hW:isTb w v) (e1:x=(x.map dtR).map dtW) (e2:n=33):Calls Tryz.prog 34 #[v,u] w (Ret w fun v' w'=>isE (.bool ((x.map dtR).any wrB)) w' v'):=by
 subst e2
 rw [e1] at h1
 exact cfW_t h1 h2 hW
end Go.Proofs.YtjpilacbapibjaaGreatDoor.X
