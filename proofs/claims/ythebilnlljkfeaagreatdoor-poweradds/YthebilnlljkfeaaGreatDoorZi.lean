/- Regions within a round of a range over a function, and behind such a loop: a region's run goes over. No program is named here. -/
import Derived.Test.YthebilnlljkfeaaGreatDoorBZa
import Derived.RangeFuncNested
import Derived.OrdersIn
import Derived.AtR
namespace Go.Proofs.YthebilnlljkfeaaGreatDoor.Z
open Go.RowKit
variable {P:Program} {ops:Array Oper} {Q Q':Exit→Act→World→Prop}
abbrev sh (ds:List Deferred) (a:Act):Act:={a with defers:=a.defers++ds}
theorem sh_nil (a:Act):sh [] a=a:=by simp [sh]
theorem sh_put (ds:List Deferred) (a:Act) (d:Option Tmp) (v:Value):(sh ds a).put d v=sh ds (a.put d v):=by cases d<;>rfl
theorem rows_in {r:Option Nat} {n:Nat} {row:String} {args:Array Value} {w:World} {R:Value→World→Prop} (h:Rows P row args w R):RowsIn {Fence.wide with round:=r} n P row args w R:=
 fun c cs _=>let ⟨v,w',q,s⟩:=h c cs;⟨v,w',q,(stepsIn_wide (P:=P)).2 s⟩
theorem calls_in {r:Option Nat} {n f:Nat} {args:Array Value} {w:World} {R:Ending→World→Prop} (h:Calls P f args w R):CallsIn {Fence.wide with round:=r} n P f args w R:=
 callsIn_wide (n:=n).2 h
theorem op_in {r:Option Nat} {n:Nat} {ds:List Deferred} {o:Oper} {K K':Act→World→Prop} {a:Act} {w:World} (hd: ∀c,o.op≠Op.defer c) (hP: ∀e a w,Q e a w→e= .normal) (hK: ∀a w,K a w→K' (sh ds a) w) (h:o.wp P a w K Q):o.wpIn {Fence.wide with round:=r} n P (sh ds a) w K' Q':=by
 refine ⟨fun _ _=>trivial, ?_⟩
 rw [Oper.semAt_eq _ _ _ hd]
 unfold Oper.wp at h
 have e:(sh ds a).eval=a.eval:=rfl
 rw [e]
 generalize (execOp a.eval o).run P w=x at h
 cases x with
 |ok y w'=>
  cases y with
  |value v=>show K' ((sh ds a).put o.dst v) w';rw [sh_put];exact hK _ _ h
  |skip=>show K' ((sh ds a).put o.dst undef) w';rw [sh_put];exact hK _ _ h
  |defer d=>show K' ((sh ds {a with defers:=d::a.defers}).put o.dst undef) w';rw [sh_put];exact hK _ _ h
  |enter f args=>
   refine ⟨fun h=>(by cases h), ?_⟩
   refine (calls_in (n:=n-1) h).mono fun e w'' he=> ?_
   cases e with
   |returned v=>show K' ((sh ds a).put o.dst v) w'';rw [sh_put];exact hK _ _ he
   |panicked c=>cases hP _ _ _ he
   |outgrown=>obtain ⟨a1,w1,he⟩:=he;cases hP _ _ _ he
  |row nm args=>exact ⟨fun h=>(by cases h),(rows_in h).mono fun v w'' he=>by rw [sh_put];exact hK _ _ he⟩
  |_=>exact h.elim
 |halt x w'=>
  cases x with
  |panic v=>cases hP _ _ _ h
  |_=>exact h.elim
theorem wpOp_in {r:Option Nat} {n:Nat} {ds:List Deferred} {i:Nat} {K K':Act→World→Prop} {a:Act} {w:World} (hd: ∀o:Oper,ops[i]? =some o→ ∀c,o.op≠Op.defer c) (hP: ∀e a w,Q e a w→e= .normal) (hK: ∀a w,K a w→K' (sh ds a) w) (h:wpOp P ops Q i K a w):wpOpIn {Fence.wide with round:=r} n P ops Q' i K' (sh ds a) w:=by
 unfold wpOp at h
 unfold wpOpIn
 cases ho:ops[i]? with
 |none=>rw [ho] at h;exact hK _ _ h
 |some o=>
  rw [ho] at h
  show (if Region.wanted o (yielded ops a.tmps) then _ else _)
  simp only at h
  split at h
  ·next c=>
   rw [if_pos c]
   rcases h with h|⟨_,a1,w1,h⟩
   ·exact op_in (hd o ho) hP hK h
   ·cases hP _ _ _ h
  ·next c=>rw [if_neg c];exact ⟨fun _ _=>trivial,by rw [sh_put];exact hK _ _ h⟩
theorem wpOps_in {r:Option Nat} {n:Nat} {ds:List Deferred} (hd: ∀(i:Nat) (o:Oper),ops[i]? =some o→ ∀c,o.op≠Op.defer c) (hP: ∀e a w,Q e a w→e= .normal) (hQ: ∀a w,Q .normal a w→Q' .normal (sh ds a) w): ∀(l:List Nat) (a:Act) (w:World),wpOps P ops Q l a w→wpOpsIn {Fence.wide with round:=r} n P ops Q' l (sh ds a) w:=by
 intro l
 induction l with
 |nil=>exact hQ
 |cons i l ih=>
  intro a w h
  rw [wpOps_cons] at h
  rw [wpOpsIn_cons]
  exact wpOp_in (hd i) hP (fun a w h=>ih a w h) h
theorem wpAny_in {r:Option Nat} {n:Nat} {ds:List Deferred} (hd: ∀(i:Nat) (o:Oper),ops[i]? =some o→ ∀c,o.op≠Op.defer c) (hP: ∀e a w,Q e a w→e= .normal) (hQ: ∀a w,Q .normal a w→Q' .normal (sh ds a) w): ∀(k:Nat) (L:Array Bool) (a:Act) (w:World),wpAny P .any ops Q k L a w→wpAnyIn {Fence.wide with round:=r} n P .any ops Q' k L (sh ds a) w:=by
 intro k
 induction k with
 |zero=>intro L a w h;exact ⟨h.1,hQ _ _ h.2⟩
 |succ k ih=>intro L a w h;exact ⟨fun e=>hQ _ _ (h.1 e),fun i hi=>wpOp_in (hd i) hP (fun a w h=>ih _ a w h) (h.2 i hi)⟩
def noDf (ops:Array Oper):Bool:=ops.toList.all fun o=>match o.op with
 | .defer _=>false
 |_=>true
theorem noDf_op (h:noDf ops=true): ∀(i:Nat) (o:Oper),ops[i]? =some o→ ∀c,o.op≠Op.defer c:=fun i o ho c e=>by
 have:=List.all_eq_true.1 h o (List.mem_of_getElem? (by rwa [Array.getElem?_toList]))
 rw [e] at this
 cases this
theorem RW.codeIn {r:Option Nat} {n id:Nat} {ds:List Deferred} {b:Bool} {a:Act} {w:World} (hm:P.follows .mixedOrders=true) (hd:noDf ops=true) (hP: ∀e a w,Q e a w→e= .normal) (hQ: ∀a w,Q .normal a w→Q' .normal (sh ds a) w) (h:RW P ops Q b a w):(Code.region id ops b).wpIn {Fence.wide with round:=r} n P Q' (sh ds a) w:=by
 cases b with
 |true=>exact wpIn_region_any hm (wpAny_in (noDf_op hd) hP hQ _ _ _ _ h)
 |false=>
  refine wpIn_region ?_
  rw [List.range_eq_range']
  exact wpOps_in (noDf_op hd) hP hQ _ _ _ h
theorem Dr.fin {a0:Act} {w0:World} {J:World→Prop} {f:Act→World→Prop} (h:Dr P ops Q a0 w0 J f):Dr P ops Q a0 w0 J fun a w=>f a w∧J w:=by
 obtain ⟨I,h0,h1,h2,h3⟩:=h
 exact ⟨I,h0,h1,fun L a w hL hI=>⟨h2 L a w hL hI,h3 L a w hI⟩,h3⟩
end Go.Proofs.YthebilnlljkfeaaGreatDoor.Z
