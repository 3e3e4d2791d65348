/- Own mathematics and calculus that the laws of this seat lean on, part 11. -/
import Derived.Test.YtjpilacbapibjaaGreatDoorMO7
import Derived.Test.YtjpilacbapibjaaGreatDoorMO10
import Derived.Test.YtjpilacbapibjaaGreatDoorMO9
import Derived.Deep.RegionHeld3
namespace Go.Proofs.YtjpilacbapibjaaGreatDoor
open Go.RowKit
set_option maxRecDepth 20000
def IsW (w:World) (v:Value) (z:Int) (k:Nat):Prop:= ∃A l c,v= .agg #[.slice A l c, .bool (decide (z<0))]∧IsN w (.agg #[.slice A l c]) z.natAbs k
theorem IsW.weak {w:World} {v:Value} {z:Int} {k j:Nat} (h:IsW w v z k) (hk:k≤j):IsW w v z j:=by
 obtain ⟨A,l,c,e,hn⟩:=h
 exact ⟨A,l,c,e,hn.weak hk⟩
def signed (n:Nat) (b:Bool):Int:=if b then -(n:Int) else n
theorem IsW.mk {w:World} {A:Option Addr} {l c n k:Nat} {b:Bool} (h:IsN w (.agg #[.slice A l c]) n k) (h0:b=true→n≠0):IsW w (.agg #[.slice A l c, .bool b]) (signed n b) k:=by
 cases b with
 |false=>exact ⟨A,l,c,by rw [decide_eq_false (by simp only [signed];simp)],by rw [show (signed n false).natAbs=n by simp [signed]];exact h⟩
 |true=>
  have:=h0 rfl
  exact ⟨A,l,c,by rw [decide_eq_true (by simp only [signed,if_true];omega)],by rw [show (signed n true).natAbs=n by simp [signed]];exact h⟩
theorem neg_signed {z:Int} {b:Bool} (h:(b=true∧z<0)∨(b=false∧0≤z)):signed z.natAbs (!b)= -z:=by
 rcases h with ⟨rfl,h⟩|⟨rfl,h⟩<;>simp [signed]<;>omega
theorem u64_wrap (n:Int):IntKind.u64.wrap n=n%18446744073709551616:=by
 have e:IntKind.u64.bits=64:=rfl
 have e2:IntKind.u64.signed=false:=rfl
 simp [IntKind.wrap,e,e2]
set_option maxHeartbeats 400000 in
theorem compareI_any (w:World) (n m:Int):
  Calls Tryz.prog 63 #[.int .i64 n, .int .i64 m] w fun e w'=>e= .returned (.int .i64 (n-m).sign)∧w=w':=by
 rcases Int.lt_trichotomy n m with h|h|h
 ·rw [Int.sign_eq_neg_one_of_neg (by omega)]
  go_enter Tryz.func63,Tryz.ntmps63
  go_wp2
  go_ret
  exact ⟨rfl,rfl⟩
 ·subst h
  rw [Int.sub_self,Int.sign_zero]
  go_enter Tryz.func63,Tryz.ntmps63
  go_wp2
  go_ret
  exact ⟨rfl,rfl⟩
 ·rw [Int.sign_eq_one_of_pos (by omega)]
  have h': ¬n<m:=by omega
  go_enter Tryz.func63,Tryz.ntmps63
  go_wp2
  go_ret
  exact ⟨rfl,rfl⟩
theorem sign_lt {x:Int} (h:x<0):x.sign= -1:=Int.sign_eq_neg_one_of_neg h
theorem sign_gt {x:Int} (h:0<x):x.sign=1:=Int.sign_eq_one_of_pos h
theorem cmp_cases {x y:Int} {b d:Bool} (hb:(b=true∧x<0)∨(b=false∧0≤x)) (hd:(d=true∧y<0)∨(d=false∧0≤y)):
  (((x.sign-y.sign).sign !=0)=true∧(x-y).sign=(x.sign-y.sign).sign)∨
  (((x.sign-y.sign).sign !=0)=false∧((b=true∧Mx.cmp y.natAbs x.natAbs=(x-y).sign)∨(b=false∧Mx.cmp x.natAbs y.natAbs=(x-y).sign))):=by
 have hcmp: ∀(n m:Nat),Mx.cmp n m=((n:Int) -m).sign:=fun n m=>by
  rcases Nat.lt_trichotomy n m with h|h|h
  ·rw [Mx.cmp_lt h,sign_lt (by omega)]
  ·subst h;rw [Mx.cmp_self,Int.sub_self];rfl
  ·rw [Mx.cmp_gt h,sign_gt (by omega)]
 rcases Int.lt_trichotomy x 0 with hx|hx|hx<;>rcases Int.lt_trichotomy y 0 with hy|hy|hy
 ·right
  rw [sign_lt hx,sign_lt hy]
  refine ⟨rfl, .inl ⟨by rcases hb with h|h;exact h.1;omega, ?_⟩⟩
  rw [hcmp];congr 1;omega
 ·left;subst hy;rw [sign_lt hx];exact ⟨rfl,by rw [sign_lt (by omega)];rfl⟩
 ·left;rw [sign_lt hx,sign_gt hy];exact ⟨rfl,by rw [sign_lt (by omega)];rfl⟩
 ·left;subst hx;rw [sign_lt hy];exact ⟨rfl,by rw [sign_gt (by omega)];rfl⟩
 ·right
  subst hx hy
  exact ⟨rfl, .inr ⟨by rcases hb with h|h;omega;exact h.1,rfl⟩⟩
 ·left;subst hx;rw [sign_gt hy];exact ⟨rfl,by rw [sign_lt (by omega)];rfl⟩
 ·left;rw [sign_gt hx,sign_lt hy];exact ⟨rfl,by rw [sign_gt (by omega)];rfl⟩
 ·left;subst hy;rw [sign_gt hx];exact ⟨rfl,by rw [sign_gt (by omega)];rfl⟩
 ·right
  rw [sign_gt hx,sign_gt hy]
  refine ⟨rfl, .inr ⟨by rcases hb with h|h;omega;exact h.1, ?_⟩⟩
  rw [hcmp];congr 1;omega
theorem sub_lt_n {w:World} {va vb:Value} {n m k j:Nat} (ha:IsN w va n k) (hb:IsN w vb m j) (hk:k≤4294967296) (hlt:n<m):
  Calls Tryz.prog 124 #[va,vb] w (Ret w fun v' w'=> ∃u,v'= .tuple #[u, .bool false]∧IsN w' u 0 0):=
 (sub_less w va vb n m (Nat.le_trans ha.2 hk) ha.1 hb.1 hlt).mono fun _ _ r=>r.mono fun _ _ ⟨u,e,q⟩=>⟨u,e,q,Nat.le_refl _⟩
theorem add_same {x y:Int} {b d:Bool} (hb:(b=true∧x<0)∨(b=false∧0≤x)) (hd:(d=true∧y<0)∨(d=false∧0≤y)) (e:b=d):signed (x.natAbs+y.natAbs) b=x+y:=by
 subst e
 rcases hb with ⟨rfl,h1⟩|⟨rfl,h1⟩<;>rcases hd with ⟨h0,h2⟩|⟨h0,h2⟩<;>first|(exact absurd h0 (by decide))|(simp only [signed,if_true,if_false,Bool.false_eq_true];omega)
theorem add_big {x y:Int} {b d:Bool} (hb:(b=true∧x<0)∨(b=false∧0≤x)) (hd:(d=true∧y<0)∨(d=false∧0≤y)) (e:b≠d) (h:y.natAbs≤x.natAbs):signed (x.natAbs-y.natAbs) b=x+y:=by
 rcases hb with ⟨rfl,h1⟩|⟨rfl,h1⟩<;>rcases hd with ⟨rfl,h2⟩|⟨rfl,h2⟩<;>first|exact absurd rfl e|(simp [signed];omega)
theorem add_small {x y:Int} {b d:Bool} (hb:(b=true∧x<0)∨(b=false∧0≤x)) (hd:(d=true∧y<0)∨(d=false∧0≤y)) (e:b≠d) (h:x.natAbs<y.natAbs):signed (y.natAbs-x.natAbs) d=x+y:=by
 rcases hb with ⟨rfl,h1⟩|⟨rfl,h1⟩<;>rcases hd with ⟨rfl,h2⟩|⟨rfl,h2⟩<;>first|exact absurd rfl e|(simp [signed];omega)
theorem mul_signed {x y:Int} {b d:Bool} (hb:(b=true∧x<0)∨(b=false∧0≤x)) (hd:(d=true∧y<0)∨(d=false∧0≤y)):signed (x.natAbs*y.natAbs) (!(b==d))=x*y:=by
 have e1: ∀n:Nat,signed n true= -(n:Int):=fun n=>rfl
 have e2: ∀n:Nat,signed n false=(n:Int):=fun n=>rfl
 rcases hb with ⟨rfl,h1⟩|⟨rfl,h1⟩<;>rcases hd with ⟨rfl,h2⟩|⟨rfl,h2⟩
 ·show signed _ false=_
  rw [e2,Int.natCast_mul,show (x.natAbs:Int)= -x by omega,show (y.natAbs:Int)= -y by omega,Int.neg_mul_neg]
 ·show signed _ true=_
  rw [e1,Int.natCast_mul,show (x.natAbs:Int)= -x by omega,show (y.natAbs:Int)=y by omega,Int.neg_mul,Int.neg_neg]
 ·show signed _ true=_
  rw [e1,Int.natCast_mul,show (x.natAbs:Int)=x by omega,show (y.natAbs:Int)= -y by omega,Int.mul_neg,Int.neg_neg]
 ·show signed _ false=_
  rw [e2,Int.natCast_mul,show (x.natAbs:Int)=x by omega,show (y.natAbs:Int)=y by omega]
def ztext (z:Int):List UInt8:=if z<0 then 45::Tx.text z.natAbs else Tx.text z.natAbs
theorem digs_lenW {n k:Nat} (h:Mx.len n≤k):Tx.digs n≤64*k+1:=by
 refine Tx.digs_le_of_lt (by omega) ?_
 have h1:=Mx.bits_lt n
 have h2:=Mx.bits_len n
 have h3:2^Mx.bits n≤2^(64*k):=Nat.pow_le_pow_right (by decide) (Nat.le_trans h2 (Nat.mul_le_mul_left _ h))
 have h4:2^(64*k)≤10^(64*k):=Nat.pow_le_pow_left (by decide) _
 have h5:10^(64*k)≤10^(64*k+1):=Nat.pow_le_pow_right (by decide) (by omega)
 omega
def IsV (w:World) (v:Value) (z:Int) (k:Nat):Prop:= ∃A l c,v= .agg #[.slice A l c, .bool (decide (z<0))]∧IsD w (.slice A l c) z.natAbs k
theorem IsV.weak {w:World} {v:Value} {z:Int} {k j:Nat} (h:IsV w v z k) (hk:k≤j):IsV w v z j:=by
 obtain ⟨A,l,c,e,hn⟩:=h
 exact ⟨A,l,c,e,hn.more hk⟩
theorem IsV.mk {w:World} {A:Option Addr} {l c n k:Nat} {b:Bool} (h:IsD w (.slice A l c) n k) (h0:b=true→n≠0):IsV w (.agg #[.slice A l c, .bool b]) (signed n b) k:=by
 cases b with
 |false=>exact ⟨A,l,c,by rw [decide_eq_false (by simp only [signed];simp)],by rw [show (signed n false).natAbs=n by simp [signed]];exact h⟩
 |true=>
  have:=h0 rfl
  exact ⟨A,l,c,by rw [decide_eq_true (by simp only [signed,if_true];omega)],by rw [show (signed n true).natAbs=n by simp [signed]];exact h⟩
theorem IsD.slice {w:World} {v:Value} {n k:Nat} (h:IsD w v n k): ∃A c,v= .slice A (Dx.len n) c:=by
 obtain ⟨A,c,e,_⟩:=h
 exact ⟨A,c,e⟩
end Go.Proofs.YtjpilacbapibjaaGreatDoor
