/- One text out of: QuoMath, QuoA, QuoB, QuoC, QuoD, QuoE, QuoF, QuoG, QuoH, QuoI, QuoJ, QuoN, RgvNat. -/
import Derived.Test.YthebilnlljkfeaaGreatDoorMath
import Derived.Test.YthebilnlljkfeaaGreatDoorBNat
import Derived.Laws.Bits64b
import Derived.Laws.Shifts
import Derived.RegionTactic
import Derived.BigRegion
import Derived.Deep.CutBlock
import Derived.Deep.DeepCutAuto
import Derived.BigGuard
import Derived.BigGuardPart
import Derived.WalkMore
import Derived.ScopeJumps
import Derived.Deep.RegionHeld3
import Derived.Test.YthebilnlljkfeaaGreatDoorBRg
import Derived.Deep.LoopGhost
namespace Go.Proofs.YthebilnlljkfeaaGreatDoor.Mx
theorem B_split {p:Nat} (hp:p≤64):2^p*2^(64-p)=B:=by
 rw [←Nat.pow_add,show p+(64-p)=64 by omega];rfl
theorem pow2_pos (p:Nat):0<2^p:=Nat.pow_pos (by omega)
theorem val_drop_div (l:List Nat) (h: ∀x∈l,x<B) (k:Nat):val l/B^k=val (l.drop k):=by
 rcases Nat.lt_or_ge l.length k with hk|hk
 ·have h1:val l<B^k:=Nat.lt_of_lt_of_le (val_lt l h) (Nat.pow_le_pow_right B_pos (by omega))
  rw [Nat.div_eq_of_lt h1,List.drop_of_length_le (by omega)]
  rfl
 ·have e:val l=val (l.take k)+B^k*val (l.drop k):=by
   have:=val_append (l.take k) (l.drop k)
   rw [List.take_append_drop,List.length_take,Nat.min_eq_left hk] at this
   exact this
  have h1:val (l.take k)<B^k:=by
   have:=val_lt (l.take k) (fun x hx=>h x (List.mem_of_mem_take hx))
   rwa [List.length_take,Nat.min_eq_left hk] at this
  rw [e,Nat.add_mul_div_left _ _ (Nat.pow_pos B_pos),Nat.div_eq_of_lt h1,Nat.zero_add]
theorem val_drop_step (l:List Nat) (k:Nat):val (l.drop k)=l.getD k 0+B*val (l.drop (k+1)):=by
 rcases Nat.lt_or_ge k l.length with hk|hk
 ·rw [List.drop_eq_getElem_cons hk]
  simp [val,List.getD_eq_getElem?_getD,List.getElem?_eq_getElem hk]
 ·rw [List.drop_of_length_le hk,List.drop_of_length_le (by omega),List.getD_eq_getElem?_getD,List.getElem?_eq_none hk]
  simp [val]
theorem limb_or {x y z p:Nat} (hx:x<B) (hp:p<64):(x/2^p|||y*2^(64-p)%B)=(x+B*(y+B*z))/2^p%B:=by
 have hB:=B_split (p:=p) (by omega)
 have hp0:=pow2_pos p
 have hq0:=pow2_pos (64-p)
 have h1:x/2^p<2^(64-p):=by rw [Nat.div_lt_iff_lt_mul hp0,Nat.mul_comm,hB];exact hx
 have h2:(x+B*(y+B*z))/2^p=x/2^p+2^(64-p)*(y+B*z):=by
  rw [show B*(y+B*z)=2^p*(2^(64-p)*(y+B*z)) by rw [←Nat.mul_assoc,hB],Nat.add_mul_div_left _ _ hp0]
 have h3:y*2^(64-p)%B=2^(64-p)*(y%2^p):=by
  rw [←hB,Nat.mul_comm y,Nat.mul_comm (2^p),Nat.mul_mod_mul_left]
 have h4:(x/2^p+2^(64-p)*(y+B*z))%B=2^(64-p)*(y%2^p)+x/2^p:=by
  have e1:2^(64-p)*(y+B*z)=2^(64-p)*(y%2^p)+B*(y/2^p+2^(64-p)*z):=by
   have hy:=Nat.mod_add_div y (2^p)
   rw [Nat.mul_add,Nat.mul_add,←hB]
   calc 2^(64-p)*y+2^(64-p)*(2^p*2^(64-p)*z)=2^(64-p)*(y%2^p+2^p*(y/2^p))+2^p*2^(64-p)*(2^(64-p)*z):=by rw [hy,Nat.mul_left_comm (2^(64-p)) (2^p*2^(64-p)) z]
    _=2^(64-p)*(y%2^p)+(2^p*2^(64-p)*(y/2^p)+2^p*2^(64-p)*(2^(64-p)*z)):=by rw [Nat.mul_add,←Nat.mul_assoc (2^(64-p)) (2^p),Nat.mul_comm (2^(64-p)) (2^p),Nat.add_assoc]
  rw [e1,←Nat.add_assoc,Nat.add_mul_mod_self_left,Nat.add_comm]
  apply Nat.mod_eq_of_lt
  have:y%2^p<2^p:=Nat.mod_lt _ hp0
  have h5:2^(64-p)*(y%2^p)+2^(64-p)≤2^(64-p)*2^p:=by
   rw [←Nat.mul_succ];exact Nat.mul_le_mul_left _ this
  rw [Nat.mul_comm (2^(64-p)) (2^p),hB] at h5
  omega
 rw [h2,h4,h3,Nat.or_comm,Nat.two_pow_add_eq_or_of_lt h1]
theorem limbFrom_eq (l:List Nat) (h: ∀x∈l,x<B) (n:Nat):(l.getD (n/64) 0/2^(n%64)|||l.getD (n/64+1) 0*2^(64-n%64)%B)=val l/2^n%B:=by
 have e:2^n=B^(n/64)*2^(n%64):=by
  rw [B_pow,←Nat.pow_add,Nat.div_add_mod]
 rw [e,←Nat.div_div_eq_div_mul,val_drop_div l h,val_drop_step l (n/64),val_drop_step l (n/64+1)]
 exact limb_or (getD_lt l h _) (Nat.mod_lt _ (by omega))
theorem mod_step (v i:Nat):v%B^(i+1)=v%B^i+B^i*(v/B^i%B):=by
 rw [Nat.pow_succ,Nat.mod_mul]
theorem pow2_step (v n i:Nat):v/2^n/B^i=v/2^(n+i*64):=by
 rw [B_pow,Nat.div_div_eq_div_mul,←Nat.pow_add,Nat.mul_comm 64 i]
theorem down_all (l:List Nat) (h: ∀x∈l,x<B) (n:Nat):val l/2^n%B^(l.length-n/64)=val l/2^n:=by
 apply Nat.mod_eq_of_lt
 have e:2^n=B^(n/64)*2^(n%64):=by
  rw [B_pow,←Nat.pow_add,Nat.div_add_mod]
 rw [e,←Nat.div_div_eq_div_mul]
 refine Nat.lt_of_le_of_lt (Nat.div_le_self _ _) ?_
 rw [val_drop_div l h]
 have:=val_lt (l.drop (n/64)) (fun x hx=>h x (List.mem_of_mem_drop hx))
 rwa [List.length_drop] at this
theorem up_parts {x p:Nat} (hp:p≤64):x*2^p=x*2^p%B+B*(x/2^(64-p)):=by
 have hB:=B_split hp
 have hq0:=pow2_pos (64-p)
 have e:x*2^p/B=x/2^(64-p):=by
  rw [←hB,Nat.mul_comm x,Nat.mul_div_mul_left _ _ (pow2_pos p)]
 rw [←e,Nat.mod_add_div]
theorem up_or {c x p:Nat} (hp:p≤64) (hc:c<2^p):(c|||x*2^p%B)=c+x*2^p%B:=by
 have hB:=B_split hp
 have h3:x*2^p%B=2^p*(x%2^(64-p)):=by
  rw [←hB,Nat.mul_comm x,Nat.mul_mod_mul_left]
 rw [h3,Nat.or_comm,←Nat.two_pow_add_eq_or_of_lt hc,Nat.add_comm]
theorem up_or_lt {c x p:Nat} (hp:p≤64) (hc:c<2^p):c+x*2^p%B<B:=by
 have hB:=B_split hp
 have h3:x*2^p%B=2^p*(x%2^(64-p)):=by
  rw [←hB,Nat.mul_comm x,Nat.mul_mod_mul_left]
 have h4:x%2^(64-p)<2^(64-p):=Nat.mod_lt _ (pow2_pos _)
 have h5:2^p*(x%2^(64-p))+2^p≤2^p*2^(64-p):=by rw [←Nat.mul_succ];exact Nat.mul_le_mul_left _ h4
 rw [hB] at h5
 omega
theorem up_hi_lt {x p:Nat} (hp:p≤64) (hx:x<B):x/2^(64-p)<2^p:=by
 rw [Nat.div_lt_iff_lt_mul (pow2_pos _),B_split hp];exact hx
theorem val_take_drop (l:List Nat) (k:Nat) (hk:k≤l.length):val l=val (l.take k)+B^k*val (l.drop k):=by
 have:=val_append (l.take k) (l.drop k)
 rw [List.take_append_drop,List.length_take,Nat.min_eq_left hk] at this
 exact this
theorem div_window {R:List Nat} {j N b:Nat} (hR: ∀x∈R,x<B) (hj:j+N+1≤R.length) (hb:b≤B^N) (h:val (R.drop (j+1))<b):
  val ((R.drop j).take (N+1))=val (R.drop j)∧val (R.drop j)<b*B∧val (R.drop (j+N+1))=0:=by
 have hz:val (R.drop (j+N+1))=0:=by
  have e:=val_drop_div (R.drop (j+1)) (fun x hx=>hR x (List.mem_of_mem_drop hx)) N
  rw [Nat.div_eq_of_lt (Nat.lt_of_lt_of_le h hb),List.drop_drop] at e
  rw [show j+N+1=j+1+N by omega]
  exact e.symm
 have e1:=val_take_drop (R.drop j) (N+1) (by rw [List.length_drop];omega)
 rw [List.drop_drop,show j+(N+1)=j+N+1 by omega,hz,Nat.mul_zero,Nat.add_zero] at e1
 refine ⟨e1.symm, ?_,hz⟩
 rw [val_drop_step]
 have h2:=getD_lt R hR j
 have h3:B*(val (R.drop (j+1))+1)≤B*b:=Nat.mul_le_mul_left _ h
 rw [Nat.mul_add,Nat.mul_one] at h3
 rw [Nat.mul_comm b]
 omega
theorem div_round {R out qs:List Nat} {j N b T:Nat} (hout:out.length=N+1) (hj:j+N+1≤R.length) (hz:val (R.drop (j+N+1))=0) (hb:0<b)
  (hv:val out=val (R.drop j)%b) (hT:val R+B^(j+1)*(val qs*b)=T):
  val (patch R j out)+B^j*(val (val (R.drop j)/b::qs)*b)=T∧val ((patch R j out).drop j)<b:=by
 have e1:(patch R j out).take j=R.take j:=by
  unfold patch
  rw [List.append_assoc,List.take_append_of_le_length (by rw [List.length_take];omega),List.take_take,Nat.min_self]
 have e2:(patch R j out).drop j=out++R.drop (j+N+1):=by
  unfold patch
  have h1:(R.take j).length=j:=by rw [List.length_take];omega
  rw [List.append_assoc,List.drop_append,h1,List.drop_of_length_le (by omega),List.nil_append,Nat.sub_self,List.drop_zero,hout,Nat.add_assoc]
 have e3:val ((patch R j out).drop j)=val (R.drop j)%b:=by rw [e2,val_append,hz,Nat.mul_zero,Nat.add_zero,hv]
 have e4:=val_take_drop (patch R j out) j (by rw [patch_length (by omega)];omega)
 have e5:=val_take_drop R j (by omega)
 rw [e1,e3] at e4
 refine ⟨?_,by rw [e3];exact Nat.mod_lt _ hb⟩
 rw [e5] at hT
 have e6:=Nat.mod_add_div (val (R.drop j)) b
 generalize val (R.drop j)=V at*
 have e7:val (V/b::qs)=V/b+B*val qs:=rfl
 rw [e4,e7,←hT,Nat.pow_succ]
 have e8:B^j*((V/b+B*val qs)*b)=B^j*(b*(V/b))+B^j*B*(val qs*b):=by
  rw [Nat.add_mul,Nat.mul_add,Nat.mul_comm (V/b) b,Nat.mul_assoc (B^j) B,Nat.mul_assoc B]
 have e9:B^j*V=B^j*(V%b)+B^j*(b*(V/b)):=by rw [←Nat.mul_add,e6]
 omega
theorem norm_top {m:Nat} (hm:m≠0):m*2^(64-bits ((limbs m).getD (len m-1) 0))<B^len m∧2^63*B^(len m-1)≤m*2^(64-bits ((limbs m).getD (len m-1) 0))∧bits ((limbs m).getD (len m-1) 0)≤64∧0<bits ((limbs m).getD (len m-1) 0):=by
 obtain ⟨h1,h2⟩:=bits_limbs hm
 have h3:bits ((limbs m).getD (len m-1) 0)≤64:=bits_le_of_lt (getD_lt _ (limbs_lt m) _)
 have h4:=bits_pos h2
 generalize bits ((limbs m).getD (len m-1) 0)=t at*
 have hlp:0<len m:=by
  rcases Nat.eq_zero_or_pos (len m) with h|h
  ·exact absurd (eq_zero_of_len h) hm
  ·exact h
 have h5:=bits_lt m
 have h6:=bits_le hm
 refine ⟨?_, ?_,h3,h4⟩
 ·have:m*2^(64-t)<2^bits m*2^(64-t):=Nat.mul_lt_mul_of_pos_right h5 (pow2_pos _)
  rw [←Nat.pow_add] at this
  rw [B_pow]
  rw [show 64*len m=bits m+(64-t) by omega]
  exact this
 ·have:2^(bits m-1)*2^(64-t)≤m*2^(64-t):=Nat.mul_le_mul_right _ h6
  rw [←Nat.pow_add] at this
  rw [B_pow,←Nat.pow_add]
  rw [show 63+64*(len m-1)=bits m-1+(64-t) by omega]
  exact this
theorem top_great {l:List Nat} {N:Nat} (hl:l.length=N+1) (h: ∀x∈l,x<B) (hv:2^63*B^N≤val l):9223372036854775808≤l.getD N 0:=by
 have e:=val_take_drop l N (by omega)
 have e1:val (l.take N)<B^N:=by
  have:=val_lt (l.take N) (fun x hx=>h x (List.mem_of_mem_take hx))
  rwa [List.length_take,hl,Nat.min_eq_left (by omega)] at this
 have e2:val (l.drop N)=l.getD N 0:=by
  rw [val_drop_step,List.drop_of_length_le (by omega)]
  simp [val]
 rw [e2] at e
 rcases Nat.lt_or_ge (l.getD N 0) 9223372036854775808 with hlt|hge
 ·exfalso
  have e3:B^N*(l.getD N 0+1)≤B^N*9223372036854775808:=Nat.mul_le_mul_left _ hlt
  rw [Nat.mul_add,Nat.mul_one] at e3
  rw [show (2:Nat)^63=9223372036854775808 from rfl,Nat.mul_comm] at hv
  omega
 ·exact hge
theorem div_start {R:List Nat} {n b s la N:Nat} (hR: ∀x∈R,x<B) (hn:n<B^la) (hv:val R=n*2^s) (hs:s≤63) (hle:N+1≤la) (hb:2^63*B^N≤b):val (R.drop (la-(N+1)+1))<b:=by
 rw [←val_drop_div R hR,hv,Nat.div_lt_iff_lt_mul (Nat.pow_pos B_pos)]
 have h1:n*2^s<B^la*2^s:=Nat.mul_lt_mul_of_pos_right hn (pow2_pos _)
 have h2:B^la*2^s≤B^la*2^63:=Nat.mul_le_mul_left _ (Nat.pow_le_pow_right (by omega) hs)
 have h3:2^63*B^N*B^(la-(N+1)+1)≤b*B^(la-(N+1)+1):=Nat.mul_le_mul_right _ hb
 rw [Nat.mul_assoc,←Nat.pow_add,show N+(la-(N+1)+1)=la by omega,Nat.mul_comm] at h3
 omega
theorem div_end {n m s q r:Nat} (hm:0<m) (h:r+q*(m*2^s)=n*2^s) (hr:r<m*2^s):q=n/m∧r/2^s=n%m:=by
 have hp:=pow2_pos s
 have h1:q=n/m:=by
  have e:n*2^s/(m*2^s)=q:=by
   rw [←h,Nat.add_mul_div_right _ _ (Nat.mul_pos hm hp),Nat.div_eq_of_lt hr,Nat.zero_add]
  rw [Nat.mul_div_mul_right _ _ hp] at e
  exact e.symm
 refine ⟨h1, ?_⟩
 have h2:r=(n%m)*2^s:=by
  have e:=Nat.mod_add_div n m
  have e2:n*2^s=(n%m)*2^s+(n/m)*(m*2^s):=by
   rw [Nat.mul_left_comm,←Nat.mul_assoc,←Nat.add_mul,e]
  rw [e2,←h1] at h
  omega
 rw [h2,Nat.mul_div_cancel _ hp]
end Go.Proofs.YthebilnlljkfeaaGreatDoor.Mx
namespace Go.Proofs.YthebilnlljkfeaaGreatDoor
open Go.RowKit
set_option maxHeartbeats 400000 in
theorem quotLimbAt_any (w:World) (A:Option Addr) (l:List Nat) (c i:Nat) (hl:Cells w A l):
  Calls Tryz.prog 110 #[.slice A l.length c, .int .i64 (i:Int)] w fun e w'=>e= .returned (.int .u64 ((l.getD i 0:Nat):Int))∧w=w':=by
 by_cases h:i<l.length
 ·have hn:l≠ []:=by intro e;subst e;simp at h
  obtain ⟨b,o,rfl,hbl,hc⟩:=hl.at hn
  have hci:=hc i h
  clear hc
  generalize l.getD i 0=x at*
  go_enter Tryz.func110,Tryz.ntmps110
  go_wp2
  go_ret
  exact ⟨rfl,rfl⟩
 ·have e:l.getD i 0=0:=by rw [List.getD_eq_getElem?_getD,List.getElem?_eq_none (by omega)];rfl
  rw [e]
  clear e
  go_enter Tryz.func110,Tryz.ntmps110
  go_wp2
  go_ret
  exact ⟨rfl,rfl⟩
theorem shr_nat (x k:Nat):(x:Int)/2^k=((x/2^k:Nat):Int):=by rw [Int.natCast_ediv,Int.natCast_pow];rfl
theorem shl_nat (x k:Nat):IntKind.u64.wrap ((x:Int)*2^k)=((x*2^k%Mx.B:Nat):Int):=by
 rw [IntKind.wrap_u64,Int.natCast_emod,Int.natCast_mul,Int.natCast_pow];rfl
theorem limbFrom_int (x y p:Nat) (hx:x<Mx.B):bits .or .u64 ((x:Int)/2^p) (IntKind.u64.wrap ((y:Int)*2^(64-p)))=((x/2^p|||y*2^(64-p)%Mx.B:Nat):Int):=by
 rw [shr_nat,shl_nat]
 exact bits_or_u64_nat _ _ (Nat.lt_of_le_of_lt (Nat.div_le_self _ _) hx) (Nat.mod_lt _ Mx.B_pos)
set_option maxHeartbeats 400000 in
theorem limbFrom_any (w:World) (A:Option Addr) (l:List Nat) (c n:Nat) (hb: ∀x∈l,x<Mx.B) (hn:n≤4611686018427387904) (hl:Cells w A l):
  Calls Tryz.prog 81 #[.slice A l.length c, .int .i64 (n:Int)] w fun e w'=>e= .returned (.int .u64 ((Mx.val l/2^n%Mx.B:Nat):Int))∧ ∃m,w'=w.drewN m:=by
 rw [←Mx.limbFrom_eq l hb n]
 have hx:=Mx.getD_lt l hb (n/64)
 have h1:((n:Int)).tdiv 64=((n/64:Nat):Int):=rfl
 have h2:((n:Int)).tmod 64=((n%64:Nat):Int):=rfl
 have HA:=Lib.hid (fun k=>quotLimbAt_any (w.drewN k) A l c (n/64) (hl.grow ((Grow.refl w).drewN k)))
 have HC:=Lib.hid (fun k=>quotLimbAt_any (w.drewN k) A l c (n/64+1) (hl.grow ((Grow.refl w).drewN k)))
 rw [Int.natCast_add,Int.natCast_one] at HC
 have hp:n%64<64:=Nat.mod_lt _ (by omega)
 have hq:n/64≤n:=Nat.div_le_self _ _
 generalize l.getD (n/64) 0=x at*
 generalize l.getD (n/64+1) 0=y at*
 generalize n/64=q at*
 generalize n%64=p at*
 clear hb hl
 go_enter Tryz.func81,Tryz.ntmps81
 go_wp2
 go_quiet ((go_at_call 110;first|with_reducible exact quiet_left (HA.out _)|with_reducible exact quiet_left (HC.out _)))
 simp only [limbFrom_int x y p hx]
 go_wp2
 go_ret
 exact ⟨rfl,nq,rfl⟩
set_option maxHeartbeats 1000000 in
theorem down_any (w:World) (A:Option Addr) (l:List Nat) (c n:Nat) (hm:l.length≤17592186044416) (hb: ∀x∈l,x<Mx.B) (hn:n≤1152921504606846976) (hl:Cells w A l):
  Calls Tryz.prog 109 #[.slice A l.length c, .int .i64 (n:Int)] w fun e w'=> ∃v l',e= .returned v∧FreshSl w w' v l'∧(∀x∈l',x<Mx.B)∧Mx.val l'=Mx.val l/2^n∧l'.length=l.length-n/64:=by
 have hall:=Mx.down_all l hb n
 have h1:((n:Int)).tdiv 64=((n/64:Nat):Int):=rfl
 have hq:n/64≤n:=Nat.div_le_self _ _
 have h3:max (0:Int) ((l.length:Int) -((n/64:Nat):Int))=((l.length-n/64:Nat):Int):=by omega
 have hkl:l.length-n/64≤17592186044416:=by omega
 have h4:l.length-n/64≤l.length:=by omega
 have HLF:=Lib.hid (fun W (g:Grow w W) i (hi:i≤17592186044416)=>limbFrom_any W A l c (n+i*64) hb (by omega) (hl.grow g))
 have e64: ∀i:Nat,((n+i*64:Nat):Int)=(n:Int)+(i:Int)*64:=by intro i;omega
 simp only [e64] at HLF
 clear e64
 generalize hkk:l.length-n/64=k at*
 generalize n/64=q at*
 have HALL:=Lib.hid hall
 have hmk:=fun W=>run_make_row' (P:=Tryz.prog) 22 76 (.int .u64 0) 8 Tryz.underlying22 info37 rfl .i64 .i64 k (by omega) (by omega) W
 clear hall hb hl
 go_enter Tryz.func109,Tryz.ntmps109
 go_wp2
 clear hmk
 go_loopw [16] (fun iv wr=> ∃(i:Nat) (out:List Nat),i≤k∧iv= .int .i64 i∧out.length=i∧(∀x∈out,x<Mx.B)∧Mx.val out=Mx.val l/2^n%Mx.B^i∧Grow w wr∧Blk wr w.heap.size (out++List.replicate (k-i) 0)) (fun iv _=>k-(intOf iv).toNat)
 case atStart=>exact ⟨0,[],Nat.zero_le _,rfl,rfl,by simp,by simp [Mx.val,Nat.mod_one],(Grow.refl _).alloc _,Blk.made _ _⟩
 case round=>
  obtain ⟨i,out,hi,rfl,hlen,hlt,hval,hg,hblk⟩:=hrel
  by_cases hik:i<k
  ·have hlf:=HLF.out wr hg i (by omega)
   rw [←Mx.pow2_step] at hlf
   have hst:=Mx.mod_step (Mx.val l/2^n) i
   have hxl:Mx.val l/2^n/Mx.B^i%Mx.B<Mx.B:=Nat.mod_lt _ Mx.B_pos
   generalize Mx.val l/2^n/Mx.B^i%Mx.B=x at*
   have HF:=Lib.hid hlf
   have HBK:=Lib.hid hblk
   clear hlf hblk
   go_wp2_with fail
   refine HF.out.mono ?_
   rintro e w1 ⟨rfl,m,rfl⟩
   have hbk:Blk (wr.drewN m) w.heap.size (out++List.replicate (k-i) 0):=HBK.out.grow ((Grow.refl _).drewN m)
   have hgc:=hbk.cell (i:=i) (by simp;omega)
   have hgf:=hbk.frozen i
   have hbk':=hbk.set i x
   rw [show k-i=(k-(i+1))+1 by omega,set_mid out i _ _ hlen] at hbk'
   have HB2:=Lib.hid hbk'
   have HG2:=Lib.hid (hg.drewN m)
   generalize (List.getD _ i 0:Nat)=z at hgc
   have hi1:(i:Int)<(k:Int):=by omega
   clear hbk hbk' HF HBK
   generalize wr.drewN m=w2 at*
   go_wp2
   go_roundw
   case rel=>
    refine ⟨i+1,out++ [x],by omega,by go_num,by simp [hlen], ?_, ?_,HG2.out.setCell (Nat.le_refl _) _,HB2.out⟩
    ·intro y hy
     rcases List.mem_append.1 hy with hy|hy
     ·exact hlt y hy
     ·rw [List.mem_singleton.1 hy];exact hxl
    ·rw [Mx.val_append,hval,Mx.val_one,hlen,hst]
   case measure=>simp [intOf];omega
  ·obtain rfl:i=k:=by omega
   have HBK:=Lib.hid hblk
   clear hblk
   go_wp2
   go_ret
   have hbk:=HBK.out
   rw [Nat.sub_self,List.replicate_zero,List.append_nil] at hbk
   exact ⟨_,out,rfl,⟨w.heap.size,by rw [hlen];rfl,Nat.le_refl _,hbk,hg⟩,hlt,by rw [hval,HALL.out],hlen⟩
end Go.Proofs.YthebilnlljkfeaaGreatDoor
namespace Go.Proofs.YthebilnlljkfeaaGreatDoor
open Go.RowKit
theorem set_at (s r:List Nat) (k a x:Nat) (hs:s.length=k):(s++a::r).set k x=s++x::r:=by
 subst hs
 rw [List.set_append_right _ _ (Nat.le_refl _)]
 simp
theorem get_at (s r:List Nat) (k a:Nat) (hs:s.length=k):(s++a::r).getD k 0=a:=by
 subst hs
 simp [List.getD_eq_getElem?_getD]
theorem up_step {l h:List Nat} {i c p:Nat} (hp:p≤64) (hl:h.length=i) (hv:Mx.val h+Mx.B^i*c=Mx.val (l.take i)*2^p):
  Mx.val (h++ [c+l.getD i 0*2^p%Mx.B])+Mx.B^(i+1)*(l.getD i 0/2^(64-p))=Mx.val (l.take (i+1))*2^p:=by
 have e:=Mx.up_parts (x:=l.getD i 0) hp
 rw [Mx.val_append,Mx.val_one,hl,Mx.val_take_succ,Nat.add_mul,←hv,Nat.pow_succ,Nat.mul_assoc (Mx.B^i) (l.getD i 0)]
 generalize l.getD i 0*2^p%Mx.B=lo at*
 generalize l.getD i 0/2^(64-p)=hi at*
 rw [e,Nat.mul_add,Nat.mul_add,Nat.mul_assoc]
 omega
theorem up_end {l h:List Nat} {c p q n:Nat} (hn:n=64*q+p) (hl:h.length=l.length) (hv:Mx.val h+Mx.B^l.length*c=Mx.val (l.take l.length)*2^p):
  Mx.val (List.replicate q 0++h++ [c])=Mx.val l*2^n:=by
 rw [List.append_assoc,Mx.val_append,Mx.val_replicate,Nat.zero_add,List.length_replicate,Mx.val_append,Mx.val_one,hl,hv,List.take_length,Mx.B_pow,hn,Nat.pow_add,Nat.mul_left_comm]
theorem up_int (c x p:Nat) (hp:p≤64) (hc:c<2^p):bits .or .u64 (c:Int) (IntKind.u64.wrap ((x:Int)*2^p))=((c+x*2^p%Mx.B:Nat):Int):=by
 rw [shl_nat,←Mx.up_or hp hc]
 exact bits_or_u64_nat _ _ (Nat.lt_of_lt_of_le hc (by show _≤Mx.B;rw [←Mx.B_split hp];exact Nat.le_mul_of_pos_right _ (Mx.pow2_pos _))) (Nat.mod_lt _ Mx.B_pos)
set_option maxHeartbeats 1000000 in
theorem up_any (w:World) (A:Option Addr) (l:List Nat) (c n:Nat) (hm:l.length≤4294967296) (hb: ∀x∈l,x<Mx.B) (hn:n≤4294967296) (hl:Cells w A l):
  Calls Tryz.prog 107 #[.slice A l.length c, .int .i64 (n:Int)] w fun e w'=> ∃v l',e= .returned v∧FreshSl w w' v l'∧(∀x∈l',x<Mx.B)∧Mx.val l'=Mx.val l*2^n∧l'.length=l.length+n/64+1:=by
 have h1:((n:Int)).tdiv 64=((n/64:Nat):Int):=rfl
 have h2:((n:Int)).tmod 64=((n%64:Nat):Int):=rfl
 have hq:n/64≤n:=Nat.div_le_self _ _
 have hp:n%64<64:=Nat.mod_lt _ (by omega)
 have hnn:n=64*(n/64)+n%64:=(Nat.div_add_mod n 64).symm
 have HB:=Lib.hid hb
 have HN:=Lib.hid hnn
 clear hnn hb
 generalize n/64=q at*
 generalize n%64=p at*
 have hmk: ∀W,Sem.run Tryz.prog (Instr.makeSlice 22 (.int .i64 ((l.length:Int)+(q:Int)+1)) (.int .i64 ((l.length:Int)+(q:Int)+1))) W= .ok (.slice (some ⟨W.heap.size,0,none⟩) (l.length+q+1) (l.length+q+1)) (W.alloc (.cells (madeCells #[.int .u64 0] (l.length+q+1)) 76)):=fun W=>
  run_make_row' (P:=Tryz.prog) 22 76 (.int .u64 0) 8 Tryz.underlying22 info37 rfl .i64 .i64 (l.length+q+1) (by omega) (by omega) W
 go_enter Tryz.func107,Tryz.ntmps107
 go_wp2
 clear hmk
 go_loopw [22] (fun iv wr=> ∃(i:Nat) (h:List Nat) (cr:Nat),i≤l.length∧iv= .int .i64 i∧h.length=i∧(∀x∈h,x<Mx.B)∧cr<2^p∧Mx.val h+Mx.B^i*cr=Mx.val (l.take i)*2^p∧Grow w wr∧Blk wr w.heap.size (List.replicate q 0++h++cr::List.replicate (l.length-i) 0)) (fun iv _=>l.length-(intOf iv).toNat)
 case atStart=>
  refine ⟨0,[],0,Nat.zero_le _,rfl,rfl,by simp,Mx.pow2_pos _,by simp [Mx.val],(Grow.refl _).alloc _, ?_⟩
  have e:List.replicate q 0++ []++0::List.replicate (l.length-0) 0=List.replicate (l.length+q+1) 0:=by
   rw [List.append_nil,←List.replicate_succ,List.replicate_append_replicate];congr 1;omega
  rw [e]
  exact Blk.made _ _
 case round=>
  obtain ⟨i,h,cr,hi,rfl,hlen,hlt,hcr,hval,hg,hblk⟩:=hrel
  by_cases hik:i<l.length
  ·obtain ⟨b1,o1,rfl,hb1,hd1⟩:=(hl.grow hg).at (by intro e;subst e;simp at hik)
   have hcx:=hd1 i hik
   have hx:=Mx.getD_lt l HB.out i
   have hst:=up_step (l:=l) (p:=p) (by omega) hlen hval
   clear hd1
   generalize l.getD i 0=x at*
   have hl1:(List.replicate q 0++h).length=i+q:=by simp [hlen];omega
   have hgc:=hblk.cell (i:=i+q) (by simp;omega)
   rw [get_at _ _ _ _ hl1] at hgc
   have hgf:=hblk.frozen (i+q)
   have hbk1:=hblk.set (i+q) (cr+x*2^p%Mx.B)
   rw [set_at _ _ _ _ _ hl1] at hbk1
   have hUI:=up_int cr x p (by omega) hcr
   have hi3:((i:Int)+(q:Int)).toNat=i+q:=by omega
   have hi4:((i:Int)+(q:Int)+1).toNat=i+q+1:=by omega
   have hi5:(i:Int)+(q:Int)<(l.length:Int)+(q:Int)+1:=by omega
   have hi6:(i:Int)+(q:Int)+1<(l.length:Int)+(q:Int)+1:=by omega
   have hi7:(i:Int)<(l.length:Int):=by omega
   have HV:=Lib.hid hst
   have HBK:=Lib.hid hbk1
   have HUI:=Lib.hid hUI
   clear hst hbk1 hUI hval
   go_wp2
   go_region
   rw [HUI.out]
   have hbk2:Blk (wr.setCell ⟨w.heap.size,i+q,none⟩ (.int .u64 ((cr+x*2^p%Mx.B:Nat):Int))).drew w.heap.size _:=HBK.out
   have hg2:Grow w (wr.setCell ⟨w.heap.size,i+q,none⟩ (.int .u64 ((cr+x*2^p%Mx.B:Nat):Int))).drew:=(hg.setCell (Nat.le_refl _) _).drew
   generalize (wr.setCell ⟨w.heap.size,i+q,none⟩ (.int .u64 ((cr+x*2^p%Mx.B:Nat):Int))).drew=w2 at*
   generalize hy:cr+x*2^p%Mx.B=y at*
   have hbk3:Blk w2 w.heap.size ((List.replicate q 0++h++ [y])++0::List.replicate (l.length-(i+1)) 0):=by
    have e:l.length-i=(l.length-(i+1))+1:=by omega
    rw [e,List.replicate_succ] at hbk2
    simpa using hbk2
   have hl2:(List.replicate q 0++h++ [y]).length=i+q+1:=by simp [hlen];omega
   have hgc2:=hbk3.cell (i:=i+q+1) (by rw [List.length_append,hl2];simp)
   rw [get_at _ _ _ _ hl2] at hgc2
   have hgf2:=hbk3.frozen (i+q+1)
   have hbk4:=hbk3.set (i+q+1) (x/2^(64-p))
   rw [set_at _ _ _ _ _ hl2] at hbk4
   have HB4:=Lib.hid hbk4
   have HX:=Lib.hid (shr_nat x (64-p))
   clear hbk2 hbk3 hbk4 HBK HUI hgc hgf hcx
   go_wp2
   rw [HX.out]
   go_roundw
   case rel=>
    refine ⟨i+1,h++ [y],x/2^(64-p),by omega,by go_num,by simp [hlen], ?_,Mx.up_hi_lt (by omega) hx,HV.out,hg2.setCell (Nat.le_refl _) _, ?_⟩
    ·intro z hz
     rcases List.mem_append.1 hz with hz|hz
     ·exact hlt z hz
     ·rw [List.mem_singleton.1 hz,←hy];exact Mx.up_or_lt (by omega) hcr
    ·have:=HB4.out
     rwa [List.append_assoc (List.replicate q 0) h [y]] at this
   case measure=>simp [intOf];omega
  ·obtain rfl:i=l.length:=by omega
   have HBK:=Lib.hid hblk
   have HV:=Lib.hid hval
   clear hblk hval
   go_wp2
   go_ret
   have hbk:=HBK.out
   rw [Nat.sub_self,List.replicate_zero] at hbk
   have hll:(List.replicate q 0++h++ [cr]).length=l.length+q+1:=by simp [hlen];omega
   refine ⟨_,List.replicate q 0++h++ [cr],rfl,⟨w.heap.size,by rw [hll];rfl,Nat.le_refl _,hbk,hg⟩, ?_,up_end HN.out hlen HV.out,hll⟩
   intro z hz
   rcases List.mem_append.1 hz with hz|hz
   ·rcases List.mem_append.1 hz with hz|hz
    ·rw [(List.mem_replicate.1 hz).2];exact Mx.B_pos
    ·exact hlt z hz
   ·rw [List.mem_singleton.1 hz]
    exact Nat.lt_of_lt_of_le hcr (by rw [←Mx.B_split (p:=p) (by omega)];exact Nat.le_mul_of_pos_right _ (Mx.pow2_pos _))
end Go.Proofs.YthebilnlljkfeaaGreatDoor
namespace Go.Proofs.YthebilnlljkfeaaGreatDoor
open Go.RowKit
theorem drop_getD (L:List Nat) (o i:Nat):(L.drop o).getD i 0=L.getD (o+i) 0:=by rw [List.getD_eq_getElem?_getD,List.getD_eq_getElem?_getD,List.getElem?_drop]
theorem add_step {s l out:List Nat} {i c lo hi y:Nat} (hl:out.length=i) (hv:Mx.val out+Mx.B^i*c=Mx.val (s.take i)+Mx.val (l.take i)) (hy:y=l.getD i 0) (h:lo+Mx.B*hi=s.getD i 0+y+c):
  Mx.val (out++ [lo])+Mx.B^(i+1)*hi=Mx.val (s.take (i+1))+Mx.val (l.take (i+1)):=by
 rw [Mx.val_append,Mx.val_one,hl,Mx.val_take_succ,Mx.val_take_succ,Nat.pow_succ,Nat.mul_assoc,←hy]
 have h2:Mx.B^i*lo+Mx.B^i*(Mx.B*hi)=Mx.B^i*s.getD i 0+Mx.B^i*y+Mx.B^i*c:=by rw [←Nat.mul_add,h,Nat.mul_add,Nat.mul_add]
 omega
theorem sub_step2 {s l out:List Nat} {i c b lo lo2 c' b' x y:Nat} (hl:out.length=i) (hv:Mx.val out+x*Mx.val (l.take i)=Mx.val (s.take i)+Mx.B^i*(b+c)) (hy:y=l.getD i 0)
  (h1:lo2+Mx.B*c'=y*x+c) (h2:lo+lo2+b=s.getD i 0+Mx.B*b'):
  Mx.val (out++ [lo])+x*Mx.val (l.take (i+1))=Mx.val (s.take (i+1))+Mx.B^(i+1)*(b'+c'):=by
 rw [Mx.val_append,Mx.val_one,hl,Mx.val_take_succ,Mx.val_take_succ,Nat.pow_succ,Nat.mul_assoc,←hy]
 have e1:x*(Mx.val (l.take i)+Mx.B^i*y)=x*Mx.val (l.take i)+Mx.B^i*(y*x):=by rw [Nat.mul_add,Nat.mul_left_comm x,Nat.mul_comm x y]
 have e2:Mx.B^i*(lo+y*x+(b+c))=Mx.B^i*(s.getD i 0+Mx.B*(b'+c')):=by congr 1;rw [Nat.mul_add];omega
 rw [e1]
 simp only [Nat.mul_add] at e2 hv⊢
 omega
theorem sub_last {s l out:List Nat} {n c b lo b' x:Nat} (hn:n=l.length) (hl:out.length=n) (hv:Mx.val out+x*Mx.val (l.take n)=Mx.val (s.take n)+Mx.B^n*(b+c)) (h2:lo+c+b=s.getD n 0+Mx.B*b'):
  Mx.val (out++ [lo])+x*Mx.val l=Mx.val (s.take (n+1))+Mx.B^(n+1)*b':=by
 rw [Mx.val_append,Mx.val_one,hl,Mx.val_take_succ,Nat.pow_succ,Nat.mul_assoc]
 rw [hn,List.take_length,←hn] at hv
 have e2:Mx.B^n*(lo+(b+c))=Mx.B^n*(s.getD n 0+Mx.B*b'):=by congr 1;omega
 simp only [Nat.mul_add] at e2 hv⊢
 omega
theorem take_zero_more (l:List Nat) (n:Nat) (hn:n=l.length):Mx.val (l.take (n+1))=Mx.val l∧Mx.val (l.take n)=Mx.val l∧l.getD n 0=0:=by
 subst hn
 refine ⟨by rw [List.take_of_length_le (by omega)],by rw [List.take_length],by simp [List.getD_eq_getElem?_getD]⟩
theorem snoc_lt {out:List Nat} {y:Nat} (h: ∀x∈out,x<Mx.B) (hy:y<Mx.B): ∀x∈out++ [y],x<Mx.B:=by
 intro z hz
 rcases List.mem_append.1 hz with hz|hz
 ·exact h z hz
 ·rw [List.mem_singleton.1 hz];exact hy
set_option maxHeartbeats 1000000 in
theorem quotAdd_any (w:World) (g o cp:Nat) (L:List Nat) (A:Option Addr) (l:List Nat) (c:Nat) (hk:l.length≤17592186044416) (hcp:l.length+1≤cp) (hfit:o+l.length+1≤L.length) (hblk:Blk w g L) (hL: ∀y∈L,y<Mx.B)
  (hl:Cells w A l) (hb: ∀y∈l,y<Mx.B) (hne:l≠ []→ ∀b p,A=some ⟨b,p,none⟩→b≠g):
  Calls Tryz.prog 120 #[.slice (some ⟨g,o,none⟩) (l.length+1) cp, .slice A l.length c] w fun e w'=>
   ∃(out:List Nat) (cr:Nat),e= .returned (.bool ((cr:Int) !=0))∧out.length=l.length+1∧(∀y∈out,y<Mx.B)∧cr≤1∧Mx.val out+Mx.B^(l.length+1)*cr=Mx.val ((L.drop o).take (l.length+1))+Mx.val l∧
    w.grownBy w' (some g)∧Blk w' g (Mx.patch L o out):=by
 have HL:=Lib.hid hL
 have HB:=Lib.hid hb
 have HNE:=Lib.hid hne
 clear hL hb hne
 go_enter Tryz.func120,Tryz.ntmps120
 go_wp2
 go_loopw [5,11] (fun cv iv wr=> ∃(i:Nat) (out:List Nat) (cr:Nat),i≤l.length∧iv= .int .i64 i∧cv= .int .u64 (cr:Int)∧out.length=i∧(∀y∈out,y<Mx.B)∧cr≤1∧Mx.val out+Mx.B^i*cr=Mx.val ((L.drop o).take i)+Mx.val (l.take i)∧w.grownBy wr (some g)∧Blk wr g (Mx.patch L o out)) (fun _ iv _=>l.length-(intOf iv).toNat)
 case atStart=>exact ⟨0,[],0,Nat.zero_le _,rfl,rfl,rfl,by simp,by omega,by simp [Mx.val],only_refl _ _,by rw [Mx.patch_nil];exact hblk⟩
 case round=>
  obtain ⟨i,out,cr,hi,rfl,rfl,hlen,hlt,hcar,hval,hg,hbk⟩:=hrel
  have hs1:L.getD (o+i) 0<Mx.B:=Mx.getD_lt L HL.out _
  have hsd:=drop_getD L o i
  have hpg:(Mx.patch L o out).getD (o+i) 0=L.getD (o+i) 0:=by
   have:=Mx.patch_getD (L:=L) (r:=out) (o:=o) (by omega)
   rwa [hlen] at this
  have hgc:=hbk.cell (i:=o+i) (by rw [Mx.patch_length (by omega)];omega)
  rw [hpg] at hgc
  have hgf:=hbk.frozen (o+i)
  by_cases hik:i<l.length
  ·have hy1:l.getD i 0<Mx.B:=Mx.getD_lt l HB.out _
   have hnn:l≠ []:=by intro e;subst e;simp at hik
   obtain ⟨b1,o1,rfl,hb1,hd1⟩:=hl.at hnn
   have hcx:=(only_cell hg (p:=⟨b1,o1+i,none⟩) hb1 (HNE.out hnn b1 o1 rfl)).trans (hd1 i hik)
   have hset:=hbk.set (o+i) (Mx.addLo (L.getD (o+i) 0) (l.getD i 0) cr)
   have hps:=Mx.patch_set (L:=L) (r:=out) (o:=o) (x:=Mx.addLo (L.getD (o+i) 0) (l.getD i 0) cr) (by omega)
   rw [hlen] at hps
   rw [hps] at hset
   have hst:=add_step hlen hval rfl (by rw [hsd];exact Mx.add_split (L.getD (o+i) 0) (l.getD i 0) cr)
   clear hd1 hpg hsd hps hbk
   generalize l.getD i 0=y at*
   generalize L.getD (o+i) 0=s at*
   have HA:=Lib.hid (fun W=>add64_run s y cr hs1 hy1 hcar W)
   have hlo:=Mx.addLo_lt s y cr
   have hhi:=Mx.addHi_le hs1 hy1 hcar
   generalize Mx.addLo s y cr=lo at*
   generalize Mx.addHi s y cr=h' at*
   have HS:=Lib.hid hst
   have HSet:=Lib.hid hset
   have hi1:(i:Int)<(l.length:Int):=by omega
   have hi2:(i:Int)<(l.length:Int)+1:=by omega
   clear hst hset hs1 hy1 hval
   go_wp2_with (simp only [HA.out])
   go_roundw
   case rel=>exact ⟨i+1,out++ [lo],h',by omega,by go_num,rfl,by simp [hlen],snoc_lt hlt hlo,hhi,HS.out,only_set hg _ _,HSet.out⟩
   case measure=>simp [intOf];omega
  ·obtain rfl:i=l.length:=by omega
   obtain ⟨ht1,ht2,ht3⟩:=take_zero_more l l.length rfl
   have hset:=hbk.set (o+l.length) (Mx.addLo (L.getD (o+l.length) 0) 0 cr)
   have hps:=Mx.patch_set (L:=L) (r:=out) (o:=o) (x:=Mx.addLo (L.getD (o+l.length) 0) 0 cr) (by omega)
   rw [hlen] at hps
   rw [hps] at hset
   have hst:=add_step hlen hval ht3.symm (by rw [hsd];exact Mx.add_split (L.getD (o+l.length) 0) 0 cr)
   rw [ht1] at hst
   clear hpg hsd hps hbk
   generalize L.getD (o+l.length) 0=s at*
   have HA:=Lib.hid (fun W=>add64_run s 0 cr hs1 Mx.B_pos hcar W)
   simp only [Int.natCast_zero] at HA
   have hlo:=Mx.addLo_lt s 0 cr
   have hhi:=Mx.addHi_le hs1 Mx.B_pos hcar
   generalize Mx.addLo s 0 cr=lo at*
   generalize Mx.addHi s 0 cr=h' at*
   have HS:=Lib.hid hst
   have HSet:=Lib.hid hset
   have hi2:(l.length:Int)<(l.length:Int)+1:=by omega
   clear hst hset hs1 hval ht1 ht2 ht3
   go_wp2_with (simp only [HA.out])
   go_ret
   exact ⟨out++ [lo],h',rfl,by simp [hlen],snoc_lt hlt hlo,hhi,HS.out,only_set hg _ _,HSet.out⟩
theorem sub_word {y x c:Nat} (hy:y<Mx.B) (hx:x<Mx.B) (hc:c<Mx.B):
  Mx.addLo (Mx.mulLo y x) c 0+Mx.B*(Mx.mulHi y x+Mx.addHi (Mx.mulLo y x) c 0)=y*x+c∧Mx.mulHi y x+Mx.addHi (Mx.mulLo y x) c 0<Mx.B:=by
 have h1:Mx.mulLo y x+Mx.B*Mx.mulHi y x=y*x:=Nat.mod_add_div _ _
 have h2:=Mx.add_split (Mx.mulLo y x) c 0
 have e:Mx.addLo (Mx.mulLo y x) c 0+Mx.B*(Mx.mulHi y x+Mx.addHi (Mx.mulLo y x) c 0)=y*x+c:=by rw [Nat.mul_add];omega
 refine ⟨e, ?_⟩
 have h3:=Mx.mac_bound hy hx hc Mx.B_pos
 rw [Nat.add_zero,←e] at h3
 exact Nat.lt_of_mul_lt_mul_left (a:=Mx.B) (by omega)
set_option maxHeartbeats 1000000 in
theorem subTimes_any (w:World) (g o cp:Nat) (L:List Nat) (A:Option Addr) (l:List Nat) (c x:Nat) (hk:l.length≤17592186044416) (hcp:l.length+1≤cp) (hfit:o+l.length+1≤L.length) (hblk:Blk w g L) (hL: ∀y∈L,y<Mx.B)
  (hl:Cells w A l) (hb: ∀y∈l,y<Mx.B) (hx:x<Mx.B) (hne:l≠ []→ ∀b p,A=some ⟨b,p,none⟩→b≠g):
  Calls Tryz.prog 119 #[.slice (some ⟨g,o,none⟩) (l.length+1) cp, .slice A l.length c, .int .u64 (x:Int)] w fun e w'=>
   ∃(out:List Nat) (br:Nat),e= .returned (.bool ((br:Int) !=0))∧out.length=l.length+1∧(∀y∈out,y<Mx.B)∧br≤1∧Mx.val out+x*Mx.val l=Mx.val ((L.drop o).take (l.length+1))+Mx.B^(l.length+1)*br∧
    w.grownBy w' (some g)∧Blk w' g (Mx.patch L o out):=by
 have HL:=Lib.hid hL
 have HB:=Lib.hid hb
 have HNE:=Lib.hid hne
 clear hL hb hne
 go_enter Tryz.func119,Tryz.ntmps119
 go_wp2
 go_loopw [7,8,17] (fun cv bv iv wr=> ∃(i:Nat) (out:List Nat) (cr br:Nat),i≤l.length∧iv= .int .i64 i∧cv= .int .u64 (cr:Int)∧bv= .int .u64 (br:Int)∧out.length=i∧(∀y∈out,y<Mx.B)∧cr<Mx.B∧br≤1∧Mx.val out+x*Mx.val (l.take i)=Mx.val ((L.drop o).take i)+Mx.B^i*(br+cr)∧w.grownBy wr (some g)∧Blk wr g (Mx.patch L o out)) (fun _ _ iv _=>l.length-(intOf iv).toNat)
 case atStart=>exact ⟨0,[],0,0,Nat.zero_le _,rfl,rfl,rfl,rfl,by simp,Mx.B_pos,by omega,by simp [Mx.val],only_refl _ _,by rw [Mx.patch_nil];exact hblk⟩
 case round=>
  obtain ⟨i,out,cr,br,hi,rfl,rfl,rfl,hlen,hlt,hcar,hbr,hval,hg,hbk⟩:=hrel
  have hs1:L.getD (o+i) 0<Mx.B:=Mx.getD_lt L HL.out _
  have hsd:=drop_getD L o i
  have hpg:(Mx.patch L o out).getD (o+i) 0=L.getD (o+i) 0:=by
   have:=Mx.patch_getD (L:=L) (r:=out) (o:=o) (by omega)
   rwa [hlen] at this
  have hgc:=hbk.cell (i:=o+i) (by rw [Mx.patch_length (by omega)];omega)
  rw [hpg] at hgc
  have hgf:=hbk.frozen (o+i)
  by_cases hik:i<l.length
  ·have hy1:l.getD i 0<Mx.B:=Mx.getD_lt l HB.out _
   have hnn:l≠ []:=by intro e;subst e;simp at hik
   obtain ⟨b1,o1,rfl,hb1,hd1⟩:=hl.at hnn
   have hcx:=(only_cell hg (p:=⟨b1,o1+i,none⟩) hb1 (HNE.out hnn b1 o1 rfl)).trans (hd1 i hik)
   obtain ⟨hw1,hw2⟩:=sub_word hy1 hx hcar
   have hml:Mx.mulLo (l.getD i 0) x<Mx.B:=Nat.mod_lt _ Mx.B_pos
   have hst: ∀lo b',lo+Mx.addLo (Mx.mulLo (l.getD i 0) x) cr 0+br=L.getD (o+i) 0+Mx.B*b'→_:=fun lo b' h=>sub_step2 (lo:=lo) (b':=b') hlen hval rfl hw1 (by rw [hsd];exact h)
   have hset:=fun z=>hbk.set (o+i) z
   have hps:=fun z=>Mx.patch_set (L:=L) (r:=out) (o:=o) (x:=z) (by omega)
   simp only [hlen] at hps
   simp only [hps] at hset
   clear hd1 hpg hsd hps hbk
   generalize l.getD i 0=y at*
   generalize L.getD (o+i) 0=s at*
   have HM:=Lib.hid (fun W=>mul64_any y x hy1 hx W)
   have HA:=Lib.hid (fun W=>add64_run (Mx.mulLo y x) cr 0 hml hcar (by omega) W)
   simp only [Int.natCast_zero] at HA
   have hlo2:=Mx.addLo_lt (Mx.mulLo y x) cr 0
   generalize Mx.mulLo y x=ml at*
   generalize Mx.mulHi y x=mh at*
   generalize Mx.addLo ml cr 0=lo2 at*
   generalize Mx.addHi ml cr 0=ov at*
   have hw3:=wrap_sum mh ov hw2
   generalize mh+ov=c' at*
   have HSB:=Lib.hid (fun W=>sub64_run s lo2 br hbr W)
   have hst:=hst _ _ (Mx.sub_split hs1 hlo2 hbr)
   have hset:=hset (Mx.subLo s lo2 br)
   have hlo:=Mx.subLo_lt s lo2 br
   have hhi:=Mx.subHi_le s lo2 br
   generalize Mx.subLo s lo2 br=lo at*
   generalize Mx.subHi s lo2 br=h' at*
   have HS:=Lib.hid hst
   have HSet:=Lib.hid hset
   have hi1:(i:Int)<(l.length:Int):=by omega
   have hi2:(i:Int)<(l.length:Int)+1:=by omega
   clear hst hset hs1 hy1 hval hw1 hml hlo2 hcar
   go_wp2_with (first|(go_at_call 114;refine (HM.out _).mono ?_;rintro e w' ⟨rfl,rfl⟩)|(simp only [HA.out])|(simp only [HSB.out]))
   go_roundw
   case rel=>exact ⟨i+1,out++ [lo],c',h',by omega,by go_num,rfl,rfl,by simp [hlen],snoc_lt hlt hlo,hw2,hhi,HS.out,only_set hg _ _,HSet.out⟩
   case measure=>simp [intOf];omega
  ·obtain rfl:i=l.length:=by omega
   have hset:=fun z=>hbk.set (o+l.length) z
   have hps:=fun z=>Mx.patch_set (L:=L) (r:=out) (o:=o) (x:=z) (by omega)
   simp only [hlen] at hps
   simp only [hps] at hset
   have hst:=sub_last rfl hlen hval (by rw [hsd];exact Mx.sub_split hs1 hcar hbr)
   have hset:=hset (Mx.subLo (L.getD (o+l.length) 0) cr br)
   clear hpg hsd hps hbk
   generalize L.getD (o+l.length) 0=s at*
   have HSB:=Lib.hid (fun W=>sub64_run s cr br hbr W)
   have hlo:=Mx.subLo_lt s cr br
   have hhi:=Mx.subHi_le s cr br
   generalize Mx.subLo s cr br=lo at*
   generalize Mx.subHi s cr br=h' at*
   have HS:=Lib.hid hst
   have HSet:=Lib.hid hset
   have hi2:(l.length:Int)<(l.length:Int)+1:=by omega
   clear hst hset hs1 hval
   go_wp2_with (simp only [HSB.out])
   go_ret
   exact ⟨out++ [lo],h',rfl,by simp [hlen],snoc_lt hlt hlo,hhi,HS.out,only_set hg _ _,HSet.out⟩
end Go.Proofs.YthebilnlljkfeaaGreatDoor
namespace Go.Proofs.YthebilnlljkfeaaGreatDoor
open Go.RowKit
set_option maxHeartbeats 400000 in
theorem leadingZeros64_any (x:Nat) (hx:x<Mx.B) (w:World):Calls Tryz.prog 106 #[.int .u64 (x:Int)] w fun e w'=>e= .returned (.int .i64 ((64-Mx.bits x:Nat):Int))∧w=w':=by
 have HL:=Lib.hid (fun W=>len64_any x hx W)
 have hbx:Mx.bits x≤64:=Mx.bits_le_of_lt (by rw [Mx.B_eq] at hx;omega)
 generalize Mx.bits x=y at*
 have h1:((64-y:Nat):Int)=64-(y:Int):=by omega
 rw [h1]
 clear h1
 go_enter Tryz.func106,Tryz.ntmps106
 go_wp2_with (go_at_call 62;refine (HL.out _).mono ?_;rintro e w' ⟨rfl,rfl⟩)
 go_ret
 exact ⟨rfl,rfl⟩
namespace Half
def D:Nat:=4294967296
theorem D_eq:D=4294967296:=rfl
theorem D_pos:0<D:=by rw [D_eq];omega
structure Inv (u u1 h z q r:Nat):Prop where
 sum:q*h+r=u
 low:r<D
 top:(u*D+u1)/(h*D+z)≤q
variable {u u1 h z q r:Nat}
theorem pos (hh:0<h):0<h*D+z:=Nat.lt_of_lt_of_le (Nat.mul_pos hh D_pos) (Nat.le_add_right _ _)
theorem first (hh:0<h) (hD:h≤D) (h1:u1<D):Inv u u1 h z (u/h) (u-u/h*h):=by
 have e1:=Nat.mod_add_div u h
 rw [Nat.mul_comm] at e1
 have e2:u%h<h:=Nat.mod_lt _ hh
 refine ⟨by omega,by omega, ?_⟩
 rw [Nat.le_div_iff_mul_le hh]
 have e3:=Nat.div_mul_le_self (u*D+u1) (h*D+z)
 generalize (u*D+u1)/(h*D+z)=Q at*
 rw [Nat.mul_add,←Nat.mul_assoc] at e3
 have e4:Q*h*D<(u+1)*D:=by rw [Nat.succ_mul];omega
 have:=Nat.lt_of_mul_lt_mul_right e4
 omega
theorem stay (hh:0<h) (I:Inv u u1 h z q r) (ht:q*z≤D*r+u1):(u*D+u1)/(h*D+z)=q:=by
 apply Nat.le_antisymm I.top
 rw [Nat.le_div_iff_mul_le (pos hh),Nat.mul_add,←Nat.mul_assoc,←I.sum,Nat.add_mul,Nat.mul_comm r D]
 omega
theorem over (hh:0<h) (hu:u<h*D+z) (h1:u1<D) (I:Inv u u1 h z q r) (ht:D≤q∨D*r+u1<q*z):(u*D+u1)/(h*D+z)<q:=by
 rw [Nat.div_lt_iff_lt_mul (pos hh)]
 rcases ht with ht|ht
 ·have e1:(u+1)*D≤(h*D+z)*D:=Nat.mul_le_mul_right _ hu
  have e2:D*(h*D+z)≤q*(h*D+z):=Nat.mul_le_mul_right _ ht
  rw [Nat.succ_mul] at e1
  rw [Nat.mul_comm D] at e2
  omega
 ·rw [Nat.mul_add,←Nat.mul_assoc,←I.sum,Nat.add_mul,Nat.mul_comm r D]
  omega
theorem next (hh:0<h) (hu:u<h*D+z) (h1:u1<D) (I:Inv u u1 h z q r) (ht:D≤q∨D*r+u1<q*z) (hr:r+h<D):Inv u u1 h z (q-1) (r+h):=by
 have ho:=over hh hu h1 I ht
 refine ⟨?_,hr,by omega⟩
 have e:=I.sum
 have hq0:0<q:=Nat.lt_of_le_of_lt (Nat.zero_le _) ho
 obtain ⟨k,rfl⟩: ∃k,q=k+1:=⟨q-1,by omega⟩
 rw [Nat.succ_mul] at e
 rw [Nat.add_sub_cancel]
 omega
theorem done (hh:2147483648≤h) (hz:z<D) (hu:u<h*D+z) (h1:u1<D) (I:Inv u u1 h z q r) (ht:D≤q∨D*r+u1<q*z) (hr:D≤r+h):(u*D+u1)/(h*D+z)=q-1:=by
 have ho:=over (by omega) hu h1 I ht
 apply Nat.le_antisymm (by omega)
 have e:=I.sum
 have hq0:0<q:=Nat.lt_of_le_of_lt (Nat.zero_le _) ho
 obtain ⟨k,rfl⟩: ∃k,q=k+1:=⟨q-1,by omega⟩
 rw [Nat.succ_mul] at e
 rw [Nat.add_sub_cancel,Nat.le_div_iff_mul_le (pos (by omega)),Nat.mul_add,←Nat.mul_assoc]
 have hk:k≤D+1:=by
  rcases Nat.lt_or_ge (D+1) k with hlt|hge
  ·exfalso
   have e2:(D+2)*h≤k*h:=Nat.mul_le_mul_right _ hlt
   rw [Nat.add_mul,Nat.mul_comm D h] at e2
   rw [D_eq] at hz
   omega
  ·exact hge
 have e3:k*z≤(D+1)*(D-1):=Nat.mul_le_mul hk (by omega)
 have e4:(k*h)*D+(r+h)*D=u*D:=by rw [←Nat.add_mul];congr 1;omega
 have e5:D*D≤(r+h)*D:=Nat.mul_le_mul_right _ hr
 have e6:(D+1)*(D-1)≤D*D:=by rw [D_eq];decide
 omega
theorem both (y v u0:Nat) (hy:0<y):(v*D+u0)/y=v/y*D+((v%y)*D+u0)/y:=by
 have e:v*D+u0=((v%y)*D+u0)+y*(v/y*D):=by
  have:=Nat.mod_add_div v y
  rw [←Nat.mul_assoc]
  calc v*D+u0=(v%y+y*(v/y))*D+u0:=by rw [this]
   _=_:=by rw [Nat.add_mul];omega
 rw [e,Nat.add_mul_div_left _ _ hy,Nat.add_comm]
end Half
theorem div_rest (u u1 y Q:Nat) (hy:y<Mx.B) (hy0:0<y) (hQ:(u*Half.D+u1)/y=Q):
  IntKind.u64.wrap (IntKind.u64.wrap (IntKind.u64.wrap ((u:Int)*4294967296)+(u1:Int)) -IntKind.u64.wrap ((Q:Int)*(y:Int)))=(((u*Half.D+u1)%y:Nat):Int):=by
 have h1:=Nat.mod_add_div (u*Half.D+u1) y
 have h2:=Nat.mod_lt (u*Half.D+u1) hy0
 rw [hQ] at h1
 rw [Half.D_eq] at*
 rw [Mx.B_eq] at hy
 simp only [IntKind.wrap_u64]
 have e:(Q:Int)*(y:Int)=((y*Q:Nat):Int):=by rw [Int.natCast_mul,Int.mul_comm]
 rw [e]
 omega
set_option maxRecDepth 100000 in
set_option maxHeartbeats 1000000 in
theorem div64_any (hi lo y:Nat) (hhi:hi<y) (hlo:lo<Mx.B) (hy:y<Mx.B) (hyt:9223372036854775808≤y) (w:World):
  Calls Tryz.prog 123 #[.int .u64 (hi:Int), .int .u64 (lo:Int), .int .u64 (y:Int)] w fun e w'=>(∃r,e= .returned (.tuple #[.int .u64 (((hi*Mx.B+lo)/y:Nat):Int),r]))∧ ∃m,w'=w.drewN m:=by
 have hb:Mx.bits y=64:=Mx.bits_unique (k:=63) hyt (by rw [Mx.B_eq] at hy;omega)
 have HL:=Lib.hid (fun W=>leadingZeros64_any y hy W)
 rw [hb] at HL
 rw [Mx.B_eq] at hy hlo
 by_cases h0:hi=0
 ·subst h0
  clear HL
  go_enter Tryz.func123,Tryz.ntmps123
  go_wp2
  go_quiet (fail)
  have e1:IntKind.u64.wrap ((lo:Int)/(y:Int))=(((0*Mx.B+lo)/y:Nat):Int):=by
   have h1:(lo:Int)/(y:Int)=((lo/y:Nat):Int):=(Int.natCast_ediv lo y).symm
   have h2:=Nat.div_le_self lo y
   rw [h1,Nat.zero_mul,Nat.zero_add]
   exact Mul64.wrapN _ (Nat.lt_of_le_of_lt h2 hlo)
  rw [e1]
  go_wp2
  go_ret2
  exact ⟨⟨_,rfl⟩,nq,rfl⟩
 ·have h0':((hi:Int)==0)=false:=by simp;omega
  have hOR:bits .or .u64 (hi:Int) ((lo:Int)/18446744073709551616)=(hi:Int):=by
   have h1:(lo:Int)/18446744073709551616=((0:Nat):Int):=by omega
   rw [h1]
   exact (bits_or_u64_nat hi 0 (by omega) (by omega)).trans (by simp)
  have hY1:(y:Int)/4294967296=((y/Half.D:Nat):Int):=by rw [Half.D_eq];omega
  have hL1:(lo:Int)/4294967296=((lo/Half.D:Nat):Int):=by rw [Half.D_eq];omega
  have hY0:=Mul64.maskN y hy
  have hL0:=Mul64.maskN lo hlo
  rw [←Half.D_eq] at hY0 hL0
  have hT1:((hi:Int)).tdiv ((y/Half.D:Nat):Int)=((hi/(y/Half.D):Nat):Int):=rfl
  have hT2:IntKind.u64.wrap ((hi/(y/Half.D):Nat):Int)=((hi/(y/Half.D):Nat):Int):=by
   have:=Nat.div_le_self hi (y/Half.D)
   exact Mul64.wrapN _ (by omega)
  have hT3:IntKind.u64.wrap ((hi:Int) -IntKind.u64.wrap (((hi/(y/Half.D):Nat):Int)*((y/Half.D:Nat):Int)))=((hi-hi/(y/Half.D)*(y/Half.D):Nat):Int):=by
   have h1:=Nat.div_mul_le_self hi (y/Half.D)
   rw [Mul64.mulN,Mul64.wrapN _ (by omega),←Int.ofNat_sub h1]
   exact Mul64.wrapN _ (by omega)
  have hhb:2147483648≤y/Half.D:=by rw [Half.D_eq];omega
  have hhD:y/Half.D≤Half.D:=by rw [Half.D_eq];omega
  have hl1:lo/Half.D<Half.D:=by rw [Half.D_eq];omega
  have hl0:lo%Half.D<Half.D:=Nat.mod_lt _ Half.D_pos
  have hz0:y%Half.D<Half.D:=Nat.mod_lt _ Half.D_pos
  have hysp:y=y/Half.D*Half.D+y%Half.D:=by rw [Nat.mul_comm];exact (Nat.div_add_mod y Half.D).symm
  have hlsp:lo=lo/Half.D*Half.D+lo%Half.D:=by rw [Nat.mul_comm];exact (Nat.div_add_mod lo Half.D).symm
  have HS:=Lib.hid (And.intro hysp hlsp)
  clear hysp hlsp
  have HF:=Lib.hid (Half.first (u:=hi) (u1:=lo/Half.D) (h:=y/Half.D) (z:=y%Half.D) (by omega) hhD hl1)
  have HT:=Lib.hid (And.intro hOR (And.intro hY1 (And.intro hL1 (And.intro hY0 (And.intro hL0 (And.intro hT1 (And.intro hT2 hT3)))))))
  clear hOR hY1 hL1 hY0 hL0 hT1 hT2 hT3
  go_enter Tryz.func123,Tryz.ntmps123
  go_upto_block 0 with (go_at_call 106;refine (HL.out _).mono ?_;rintro e w' ⟨rfl,rfl⟩)
  obtain ⟨hOR,hY1,hL1,hY0,hL0,hT1,hT2,hT3⟩:=HT.out
  rw [hOR,hY1,hL1,hY0,hL0,hT1,hT2,hT3]
  clear hOR hY1 hL1 hY0 hL0 hT1 hT2 hT3 HT HL
  have hF:=HF.out
  generalize hq0:hi/(y/Half.D)=q0 at*
  generalize hr0:hi-q0*(y/Half.D)=r0 at*
  have HQ:=Lib.hid (And.intro hq0 hr0)
  clear hq0 hr0 HF
  generalize hhy:y/Half.D=h at*
  generalize hzy:y%Half.D=z at*
  generalize hla:lo/Half.D=l1 at*
  generalize hlb:lo%Half.D=l0 at*
  clear hhy hzy hla hlb
  have hD:=Lib.hid Half.D_eq
  rw [Half.D_eq] at hhD hz0 hl1 hl0
  go_cut [15] (fun qv W=>W=w∧ ∃Q:Nat,qv= .int .u64 (Q:Int)∧(hi*Half.D+l1)/(h*Half.D+z)=Q)
  case first=>
   go_wp2_with fail
   go_loopw [15,16] (fun qv rv wr=>wr=w∧ ∃q r:Nat,qv= .int .u64 (q:Int)∧rv= .int .u64 (r:Int)∧Half.Inv hi l1 h z q r) (fun qv _ _=>(intOf qv).toNat)
   case atStart=>exact ⟨rfl,q0,r0,rfl,rfl,hF⟩
   case round=>
    have hu_:hi<h*Half.D+z:=by rw [←HS.out.1];exact hhi
    have hl_:l1<Half.D:=hl1
    have hz_:z<Half.D:=hz0
    have HU:=Lib.hid (And.intro hu_ (And.intro hl_ hz_))
    clear hu_ hl_ hz_
    obtain ⟨rfl,q,r,rfl,rfl,I⟩:=hrel
    have hsum:=I.sum
    have hlow:r<4294967296:=I.low
    have hqU:q<18446744073709551616:=by have:=Nat.le_mul_of_pos_right q (show 0<h by omega);omega
    have HI:=Lib.hid I
    by_cases hqD:4294967296≤q
    ·have hqB:decide ((4294967296:Int)≤(q:Int))=true:=decide_eq_true (by omega)
     have hT:Half.D≤q∨Half.D*r+l1<q*z:= .inl hqD
     by_cases hrD:4294967296≤r+h
     ·have HR:=Lib.hid (Half.done hhb HU.out.2.2 HU.out.1 HU.out.2.1 I hT hrD)
      have hrB:decide ((4294967296:Int)≤(r:Int)+(h:Int))=true:=decide_eq_true (by omega)
      clear I hsum hT
      have hq1:((q-1:Nat):Int)=(q:Int) -1:=by omega
      repeat (first|go_values|go_skip|go_guarded|go_step|go_upon|go_back)
      go_meet
      case rel=>exact ⟨rfl,q-1,by rw [hq1],HR.out⟩
     ·have HR:=Lib.hid (Half.next (by omega) HU.out.1 HU.out.2.1 I hT (by rw [hD.out];omega))
      have hrB:decide ((4294967296:Int)≤(r:Int)+(h:Int))=false:=decide_eq_false (by omega)
      clear I hsum hT
      have hq1:((q-1:Nat):Int)=(q:Int) -1:=by omega
      repeat (first|go_values|go_skip|go_guarded|go_step|go_upon|go_back)
      go_roundw
      case rel=>exact ⟨trivial,q-1,r+h,by rw [hq1],by rw [Int.natCast_add],HR.out⟩
      case measure=>simp [intOf];omega
    ·have hqB:decide ((4294967296:Int)≤(q:Int))=false:=decide_eq_false (by omega)
     have hqz:q*z≤4294967295*4294967295:=Nat.mul_le_mul (by omega) (by omega)
     have hP:IntKind.u64.wrap ((q:Int)*(z:Int))=((q*z:Nat):Int):=by rw [Mul64.mulN];exact Mul64.wrapN _ (by omega)
     have hOv:=Half.next (u:=hi) (u1:=l1) (h:=h) (z:=z) (q:=q) (r:=r) (by omega) HU.out.1 HU.out.2.1 I
     have hDn:=Half.done (u:=hi) (u1:=l1) (h:=h) (z:=z) (q:=q) (r:=r) hhb HU.out.2.2 HU.out.1 HU.out.2.1 I
     have hSt:=Half.stay (u:=hi) (u1:=l1) (h:=h) (z:=z) (q:=q) (r:=r) (by omega) I
     have hover:=Half.over (u:=hi) (u1:=l1) (h:=h) (z:=z) (q:=q) (r:=r) (by omega) HU.out.1 HU.out.2.1 I
     generalize q*z=pz at*
     rw [show Half.D*r+l1=4294967296*r+l1 from rfl] at hOv hDn hSt hover
     by_cases hcmp:4294967296*r+l1<pz
     ·have hcB:decide (4294967296*(r:Int)+(l1:Int)<(pz:Int))=true:=decide_eq_true (by omega)
      have hq0:0<q:=Nat.lt_of_le_of_lt (Nat.zero_le _) (hover (.inr hcmp))
      have hq1:((q-1:Nat):Int)=(q:Int) -1:=by omega
      by_cases hrD:4294967296≤r+h
      ·have HR:=Lib.hid (hDn (.inr hcmp) hrD)
       have hrB:decide ((4294967296:Int)≤(r:Int)+(h:Int))=true:=decide_eq_true (by omega)
       clear I hsum hOv hDn hSt hover
       repeat (first|go_values|go_skip|go_guarded|go_step|go_upon|go_back)
       go_meet
       case rel=>exact ⟨rfl,q-1,by rw [hq1],HR.out⟩
      ·have HR:=Lib.hid (hOv (.inr hcmp) (by rw [hD.out];omega))
       have hrB:decide ((4294967296:Int)≤(r:Int)+(h:Int))=false:=decide_eq_false (by omega)
       clear I hsum hOv hDn hSt hover
       repeat (first|go_values|go_skip|go_guarded|go_step|go_upon|go_back)
       go_roundw
       case rel=>exact ⟨trivial,q-1,r+h,by rw [hq1],by rw [Int.natCast_add],HR.out⟩
       case measure=>simp [intOf];omega
     ·have HR:=Lib.hid (hSt (by omega))
      have hcB:decide (4294967296*(r:Int)+(l1:Int)<(pz:Int))=false:=decide_eq_false (by omega)
      clear I hsum hOv hDn hSt hover
      repeat (first|go_values|go_skip|go_guarded|go_step|go_upon|go_back)
      go_meet
      case rel=>exact ⟨rfl,q,rfl,HR.out⟩
  case rest=>
   obtain ⟨rfl,Q,rfl,hQ⟩:=hcut
   obtain ⟨hs1,hs2⟩:=HS.out
   have hy0:0<y:=by omega
   rw [←hs1] at hQ
   have hvlt:=Nat.mod_lt (hi*Half.D+l1) hy0
   have hdr:=div_rest hi l1 y Q hy hy0 hQ
   have hQD:Q<4294967296:=by
    rw [←hQ,Nat.div_lt_iff_lt_mul hy0]
    have e1:(hi+1)*Half.D≤y*Half.D:=Nat.mul_le_mul_right _ hhi
    rw [Nat.succ_mul] at e1
    have:=hD.out
    rw [this] at e1⊢
    omega
   have hbo:=Half.both y (hi*Half.D+l1) l0 hy0
   rw [hQ] at hbo
   have hfull:(hi*Half.D+l1)*Half.D+l0=hi*Mx.B+lo:=by
    rw [hs2,Nat.add_mul,Nat.mul_assoc];show hi*Mx.B+l1*Half.D+l0=_;omega
   rw [hfull] at hbo
   generalize (hi*Half.D+l1)%y=v at*
   have hT1:((v:Int)).tdiv (h:Int)=((v/h:Nat):Int):=rfl
   have hT2:IntKind.u64.wrap ((v/h:Nat):Int)=((v/h:Nat):Int):=by
    have:=Nat.div_le_self v h
    exact Mul64.wrapN _ (by omega)
   have hT3:IntKind.u64.wrap ((v:Int) -IntKind.u64.wrap (((v/h:Nat):Int)*(h:Int)))=((v-v/h*h:Nat):Int):=by
    have h1:=Nat.div_mul_le_self v h
    rw [Mul64.mulN,Mul64.wrapN _ (by omega),←Int.ofNat_sub h1]
    exact Mul64.wrapN _ (by omega)
   have hF:=Half.first (u:=v) (u1:=l0) (h:=h) (z:=z) (by omega) (by rw [hD.out];omega) hl0
   have HT:=Lib.hid (And.intro hdr (And.intro hT1 (And.intro hT2 hT3)))
   have HBO:=Lib.hid hbo
   have HV:=Lib.hid (by rw [←hs1];exact hvlt:v<h*Half.D+z)
   clear hQ hs1 hs2 hdr hbo hT1 hT2 hT3 hfull
   generalize v/h=q0' at*
   generalize v-q0'*h=r0' at*
   go_upto_block 2 with fail
   obtain ⟨hT0,hT1,hT2,hT3⟩:=HT.out
   rw [hT0,hT1,hT2,hT3]
   clear hT0 hT1 hT2 hT3 HT
   go_cut [18] (fun qv W=>W=wc∧ ∃Q:Nat,qv= .int .u64 (Q:Int)∧(v*Half.D+l0)/(h*Half.D+z)=Q)
   case first=>
    go_wp2_with fail
    go_loopw [18,16] (fun qv rv wr=>wr=wc∧ ∃q r:Nat,qv= .int .u64 (q:Int)∧rv= .int .u64 (r:Int)∧Half.Inv v l0 h z q r) (fun qv _ _=>(intOf qv).toNat)
    case atStart=>exact ⟨rfl,q0',r0',rfl,rfl,hF⟩
    case round=>
     have hu_:v<h*Half.D+z:=HV.out
     have hl_:l0<Half.D:=hl0
     have hz_:z<Half.D:=hz0
     have HU:=Lib.hid (And.intro hu_ (And.intro hl_ hz_))
     clear hu_ hl_ hz_
     obtain ⟨rfl,q,r,rfl,rfl,I⟩:=hrel
     have hsum:=I.sum
     have hlow:r<4294967296:=I.low
     have hqU:q<18446744073709551616:=by have:=Nat.le_mul_of_pos_right q (show 0<h by omega);omega
     have HI:=Lib.hid I
     by_cases hqD:4294967296≤q
     ·have hqB:decide ((4294967296:Int)≤(q:Int))=true:=decide_eq_true (by omega)
      have hT:Half.D≤q∨Half.D*r+l0<q*z:= .inl hqD
      by_cases hrD:4294967296≤r+h
      ·have HR:=Lib.hid (Half.done hhb HU.out.2.2 HU.out.1 HU.out.2.1 I hT hrD)
       have hrB:decide ((4294967296:Int)≤(r:Int)+(h:Int))=true:=decide_eq_true (by omega)
       clear I hsum hT
       have hq1:((q-1:Nat):Int)=(q:Int) -1:=by omega
       repeat (first|go_values|go_skip|go_guarded|go_step|go_upon|go_back)
       go_meet
       case rel=>exact ⟨rfl,q-1,by rw [hq1],HR.out⟩
      ·have HR:=Lib.hid (Half.next (by omega) HU.out.1 HU.out.2.1 I hT (by rw [hD.out];omega))
       have hrB:decide ((4294967296:Int)≤(r:Int)+(h:Int))=false:=decide_eq_false (by omega)
       clear I hsum hT
       have hq1:((q-1:Nat):Int)=(q:Int) -1:=by omega
       repeat (first|go_values|go_skip|go_guarded|go_step|go_upon|go_back)
       go_roundw
       case rel=>exact ⟨trivial,q-1,r+h,by rw [hq1],by rw [Int.natCast_add],HR.out⟩
       case measure=>simp [intOf];omega
     ·have hqB:decide ((4294967296:Int)≤(q:Int))=false:=decide_eq_false (by omega)
      have hqz:q*z≤4294967295*4294967295:=Nat.mul_le_mul (by omega) (by omega)
      have hP:IntKind.u64.wrap ((q:Int)*(z:Int))=((q*z:Nat):Int):=by rw [Mul64.mulN];exact Mul64.wrapN _ (by omega)
      have hOv:=Half.next (u:=v) (u1:=l0) (h:=h) (z:=z) (q:=q) (r:=r) (by omega) HU.out.1 HU.out.2.1 I
      have hDn:=Half.done (u:=v) (u1:=l0) (h:=h) (z:=z) (q:=q) (r:=r) hhb HU.out.2.2 HU.out.1 HU.out.2.1 I
      have hSt:=Half.stay (u:=v) (u1:=l0) (h:=h) (z:=z) (q:=q) (r:=r) (by omega) I
      have hover:=Half.over (u:=v) (u1:=l0) (h:=h) (z:=z) (q:=q) (r:=r) (by omega) HU.out.1 HU.out.2.1 I
      generalize q*z=pz at*
      rw [show Half.D*r+l0=4294967296*r+l0 from rfl] at hOv hDn hSt hover
      by_cases hcmp:4294967296*r+l0<pz
      ·have hcB:decide (4294967296*(r:Int)+(l0:Int)<(pz:Int))=true:=decide_eq_true (by omega)
       have hq0:0<q:=Nat.lt_of_le_of_lt (Nat.zero_le _) (hover (.inr hcmp))
       have hq1:((q-1:Nat):Int)=(q:Int) -1:=by omega
       by_cases hrD:4294967296≤r+h
       ·have HR:=Lib.hid (hDn (.inr hcmp) hrD)
        have hrB:decide ((4294967296:Int)≤(r:Int)+(h:Int))=true:=decide_eq_true (by omega)
        clear I hsum hOv hDn hSt hover
        repeat (first|go_values|go_skip|go_guarded|go_step|go_upon|go_back)
        go_meet
        case rel=>exact ⟨rfl,q-1,by rw [hq1],HR.out⟩
       ·have HR:=Lib.hid (hOv (.inr hcmp) (by rw [hD.out];omega))
        have hrB:decide ((4294967296:Int)≤(r:Int)+(h:Int))=false:=decide_eq_false (by omega)
        clear I hsum hOv hDn hSt hover
        repeat (first|go_values|go_skip|go_guarded|go_step|go_upon|go_back)
        go_roundw
        case rel=>exact ⟨trivial,q-1,r+h,by rw [hq1],by rw [Int.natCast_add],HR.out⟩
        case measure=>simp [intOf];omega
      ·have HR:=Lib.hid (hSt (by omega))
       have hcB:decide (4294967296*(r:Int)+(l0:Int)<(pz:Int))=false:=decide_eq_false (by omega)
       clear I hsum hOv hDn hSt hover
       repeat (first|go_values|go_skip|go_guarded|go_step|go_upon|go_back)
       go_meet
       case rel=>exact ⟨rfl,q,rfl,HR.out⟩
   case rest=>
    obtain ⟨rfl,R,rfl,hR⟩:=hcut
    rw [←HS.out.1] at hR
    have hRD:R<4294967296:=by
     rw [←hR,Nat.div_lt_iff_lt_mul hy0]
     have e1:(v+1)*Half.D≤y*Half.D:=Nat.mul_le_mul_right _ hvlt
     rw [Nat.succ_mul] at e1
     have:=hD.out
     rw [this] at e1⊢
     omega
    have hbo:=HBO.out
    rw [hR,hD.out] at hbo
    have hbi:(((hi*Mx.B+lo)/y:Nat):Int)=(Q:Int)*4294967296+(R:Int):=by rw [hbo];omega
    have HBI:=Lib.hid hbi
    clear hR hbo hbi HBO
    repeat (first|go_values|go_skip|go_guarded|go_step|go_upon|go_back)
    go_ret2
    exact ⟨⟨_,by rw [HBI.out];rfl⟩,0,rfl⟩
end Go.Proofs.YthebilnlljkfeaaGreatDoor
namespace Go.Proofs.YthebilnlljkfeaaGreatDoor
open Go.RowKit
theorem only_drewN {w w':World} {g:Nat} (h:w.grownBy w' (some g)) (n:Nat):w.grownBy (w'.drewN n) (some g):=⟨h.os,h.tape,h.output,h.size,h.block⟩
theorem only_trans {a b c:World} {g:Nat} (h:a.grownBy b (some g)) (k:b.grownBy c (some g)):a.grownBy c (some g):=
 ⟨k.os.trans h.os,k.tape.trans h.tape,k.output.trans h.output,Nat.le_trans h.size k.size,fun i hi hne=>(k.block i (Nat.lt_of_lt_of_le hi h.size) hne).trans (h.block i hi hne)⟩
theorem quiet_more {P:Program} {f:FuncId} {args:Array Value} {w:World} {n:Nat} {v:Value}
  (h:Calls P f args (w.drewN n) fun e w'=>e= .returned v∧ ∃m,w'=(w.drewN n).drewN m):Calls P f args (w.drewN n) fun e w''=>e= .returned v∧ ∃m,w''=w.drewN m:=
 h.mono fun _ _ ⟨he,m,hm⟩=>⟨he,n+m,hm.trans (by simp [World.drewN,Nat.add_assoc])⟩
def gss (hi lo y:Nat):Nat:=if y≤hi then 18446744073709551615 else (hi*Mx.B+lo)/y
theorem gss_lt {hi lo y:Nat} (hlo:lo<Mx.B):gss hi lo y<Mx.B:=by
 unfold gss
 split
 ·rw [Mx.B_eq];omega
 ·rw [Nat.div_lt_iff_lt_mul (by omega)]
  have e1:(hi+1)*Mx.B≤y*Mx.B:=Nat.mul_le_mul_right _ (by omega)
  rw [Nat.succ_mul] at e1
  rw [Nat.mul_comm Mx.B y]
  omega
theorem gss_top {hi lo y q:Nat} (hy:0<y) (hq:q<Mx.B) (h:q*y≤hi*Mx.B+lo):q≤gss hi lo y:=by
 unfold gss
 split
 ·rw [Mx.B_eq] at hq;omega
 ·exact (Nat.le_div_iff_mul_le hy).2 h
set_option maxHeartbeats 400000 in
theorem guess_any (hi lo y:Nat) (hlo:lo<Mx.B) (hy:y<Mx.B) (hyt:9223372036854775808≤y) (w:World):
  Calls Tryz.prog 118 #[.int .u64 (hi:Int), .int .u64 (lo:Int), .int .u64 (y:Int)] w fun e w'=>e= .returned (.int .u64 ((gss hi lo y:Nat):Int))∧ ∃m,w'=w.drewN m:=by
 by_cases h:y≤hi
 ·rw [show gss hi lo y=18446744073709551615 from if_pos h]
  clear hlo hy
  go_enter Tryz.func118,Tryz.ntmps118
  go_wp2
  go_ret
  exact ⟨rfl,0,rfl⟩
 ·have HD:=Lib.hid (div64_any hi lo y (by omega) hlo hy hyt w)
  rw [show gss hi lo y=(hi*Mx.B+lo)/y from if_neg h]
  generalize (hi*Mx.B+lo)/y=t at*
  clear hlo hy
  go_enter Tryz.func118,Tryz.ntmps118
  go_wp2_with (go_at_call 123;refine HD.out.mono ?_;rintro e w' ⟨⟨r,rfl⟩,m,rfl⟩)
  go_ret
  exact ⟨rfl,m,rfl⟩
theorem guess_top {s l:List Nat} {n q:Nat} (hl:l.length=n+1) (hs: ∀x∈s,x<Mx.B) (hq:q*Mx.val l≤Mx.val (s.take (n+2))):q*l.getD n 0≤s.getD (n+1) 0*Mx.B+s.getD n 0:=by
 have e1:Mx.val l=Mx.val (l.take n)+Mx.B^n*l.getD n 0:=by
  rw [←Mx.val_take_succ,List.take_of_length_le (by omega)]
 have e2:Mx.val (s.take n)<Mx.B^n:=by
  refine Nat.lt_of_lt_of_le (Mx.val_lt (s.take n) (fun x hx=>hs x (List.mem_of_mem_take hx))) (Nat.pow_le_pow_right Mx.B_pos ?_)
  rw [List.length_take];omega
 rw [Mx.val_take_succ,Mx.val_take_succ,e1,Nat.pow_succ] at hq
 generalize l.getD n 0=y at*
 generalize s.getD n 0=lo at*
 generalize s.getD (n+1) 0=hi at*
 have e3:Mx.B^n*(q*y)<Mx.B^n*(hi*Mx.B+lo+1):=by
  have e4:Mx.B^n*(q*y)≤q*(Mx.val (l.take n)+Mx.B^n*y):=by
   rw [Nat.mul_add,Nat.mul_left_comm q]
   exact Nat.le_add_left _ _
  have e5:Mx.B^n*(hi*Mx.B+lo+1)=Mx.B^n*Mx.B*hi+Mx.B^n*lo+Mx.B^n:=by
   rw [Nat.mul_add,Nat.mul_add,Nat.mul_one,Nat.mul_assoc,Nat.mul_comm Mx.B hi]
  omega
 have:=Nat.lt_of_mul_lt_mul_left e3
 omega
structure Off (V b P t:Nat) (s:Bool) (r:Nat):Prop where
 sum:r+t*b=V+P*s.toNat
 low:r<P
 top:V/b≤t
theorem Off.first {V b P t r br:Nat} (hbr:br≤1) (hs:r+t*b=V+P*br) (hl:r<P) (ht:V/b≤t):Off V b P t ((br:Int) !=0) r:=by
 refine ⟨?_,hl,ht⟩
 rcases Nat.eq_zero_or_pos br with h|h
 ·subst h;simpa using hs
 ·obtain rfl:br=1:=by omega
  simpa using hs
theorem Off.over {V b P t r:Nat} (hb:0<b) (h:Off V b P t true r):V/b<t:=by
 rw [Nat.div_lt_iff_lt_mul hb]
 have h1:=h.sum
 have h2:=h.low
 simp only [Bool.toNat_true,Nat.mul_one] at h1
 omega
theorem Off.next {V b P t r r' c:Nat} (hb:0<b) (h:Off V b P t true r) (hc:c≤1) (hr:r'+P*c=r+b) (hl:r'<P):Off V b P (t-1) (!((c:Int) !=0)) r':=by
 have h0:=h.over hb
 have h1:=h.sum
 simp only [Bool.toNat_true,Nat.mul_one] at h1
 have hpos:0<t:=Nat.lt_of_le_of_lt (Nat.zero_le _) h0
 obtain ⟨k,rfl⟩: ∃k,t=k+1:=⟨t-1,by omega⟩
 rw [Nat.succ_mul] at h1
 refine ⟨?_,hl,by omega⟩
 rw [Nat.add_sub_cancel]
 rcases Nat.eq_zero_or_pos c with hc0|hc0
 ·subst hc0
  simp at hr⊢
  omega
 ·obtain rfl:c=1:=by omega
  simp at hr⊢
  omega
theorem Off.done {V b P t r:Nat} (hb:0<b) (h:Off V b P t false r):t=V/b∧r=V%b:=by
 have h1:=h.sum
 simp only [Bool.toNat_false,Nat.mul_zero,Nat.add_zero] at h1
 have h2:t≤V/b:=(Nat.le_div_iff_mul_le hb).2 (by omega)
 have h3:t=V/b:=Nat.le_antisymm h2 h.top
 refine ⟨h3, ?_⟩
 have h4:=Nat.mod_add_div V b
 rw [←h3,Nat.mul_comm] at h4
 omega
theorem patch_patch {L r s:List Nat} {o:Nat} (h:r.length=s.length) (hL:o+r.length≤L.length):Mx.patch (Mx.patch L o r) o s=Mx.patch L o s:=by
 unfold Mx.patch
 have h1:(L.take o).length=o:=by rw [List.length_take];omega
 rw [List.append_assoc (L.take o) r,List.take_append_of_le_length (by omega),List.take_of_length_le (by omega)]
 congr 1
 rw [List.drop_append,h1,List.drop_of_length_le (by omega),List.nil_append,←h,List.drop_append]
 simp
theorem patch_window {L r:List Nat} {o:Nat} (hL:o+r.length≤L.length):((Mx.patch L o r).drop o).take r.length=r:=by
 unfold Mx.patch
 have h1:(L.take o).length=o:=by rw [List.length_take];omega
 rw [List.append_assoc,List.drop_append,h1,List.drop_of_length_le (by omega),List.nil_append,Nat.sub_self,List.drop_zero,List.take_append_of_le_length (Nat.le_refl _),List.take_length]
theorem patch_lt {L r:List Nat} {o:Nat} (hL: ∀y∈L,y<Mx.B) (hr: ∀y∈r,y<Mx.B): ∀y∈Mx.patch L o r,y<Mx.B:=by
 intro y hy
 unfold Mx.patch at hy
 rcases List.mem_append.1 hy with hy|hy
 ·rcases List.mem_append.1 hy with hy|hy
  ·exact hL y (List.mem_of_mem_take hy)
  ·exact hr y hy
 ·exact hL y (List.mem_of_mem_drop hy)
end Go.Proofs.YthebilnlljkfeaaGreatDoor
namespace Go.Proofs.YthebilnlljkfeaaGreatDoor
open Go.RowKit
set_option maxHeartbeats 1000000 in
theorem takeOff_any (w:World) (g o cp:Nat) (L:List Nat) (A:Option Addr) (l:List Nat) (c n:Nat) (hn:l.length=n+1) (hk:n≤4294967296) (hcp:n+2≤cp) (hfit:o+n+2≤L.length) (hblk:Blk w g L) (hL: ∀y∈L,y<Mx.B)
  (hl:Cells w A l) (hb: ∀y∈l,y<Mx.B) (htop:9223372036854775808≤l.getD n 0) (hV:Mx.val ((L.drop o).take (n+2))<Mx.val l*Mx.B) (hne: ∀b p,A=some ⟨b,p,none⟩→b≠g):
  Calls Tryz.prog 108 #[.slice (some ⟨g,o,none⟩) (n+2) cp, .slice A (n+1) c] w fun e w'=>
   ∃out:List Nat,e= .returned (.int .u64 ((Mx.val ((L.drop o).take (n+2))/Mx.val l:Nat):Int))∧out.length=n+2∧(∀y∈out,y<Mx.B)∧Mx.val out=Mx.val ((L.drop o).take (n+2))%Mx.val l∧
    w.grownBy w' (some g)∧Blk w' g (Mx.patch L o out):=by
 have hnn:l≠ []:=by intro e;subst e;simp at hn
 obtain ⟨b1,o1,rfl,hb1,hc2⟩:=hl hnn
 have hd1: ∀j,j<l.length→w.cell? ⟨b1,o1+j,none⟩=some (.int .u64 (l.getD j 0:Nat)):=fun j hj=>by rw [List.getD_eq_getElem?_getD,List.getElem?_eq_getElem hj,Option.getD_some];exact hc2 j _ (List.getElem?_eq_getElem hj)
 have hbg:b1≠g:=hne b1 o1 rfl
 have hcy:=hd1 n (by omega)
 have hch:=hblk.cell (i:=o+(n+1)) (by omega)
 have hcl:=hblk.cell (i:=o+n) (by omega)
 have hy:=Mx.getD_lt l hb n
 have hhi:=Mx.getD_lt L hL (o+(n+1))
 have hlo:=Mx.getD_lt L hL (o+n)
 have hgt:=fun q h=>guess_top (s:=L.drop o) (l:=l) (n:=n) (q:=q) hn (fun y hy=>hL y (List.mem_of_mem_drop hy)) h
 simp only [drop_getD] at hgt
 have hgl:=gss_lt (hi:=L.getD (o+(n+1)) 0) (y:=l.getD n 0) hlo
 have hbp:0<Mx.val l:=by
  rcases Nat.eq_zero_or_pos (Mx.val l) with h|h
  ·rw [h,Nat.zero_mul] at hV;omega
  ·exact h
 have hqB:Mx.val ((L.drop o).take (n+2))/Mx.val l<Mx.B:=by rw [Nat.div_lt_iff_lt_mul hbp,Nat.mul_comm];exact hV
 have hgtop:Mx.val ((L.drop o).take (n+2))/Mx.val l≤gss (L.getD (o+(n+1)) 0) (L.getD (o+n) 0) (l.getD n 0):=
  gss_top (by omega) hqB (hgt _ (Nat.div_mul_le_self _ _))
 have HG:=Lib.hid (fun k=>guess_any (L.getD (o+(n+1)) 0) (L.getD (o+n) 0) (l.getD n 0) hlo hy htop (w.drewN k))
 generalize gss (L.getD (o+(n+1)) 0) (L.getD (o+n) 0) (l.getD n 0)=t0 at*
 generalize L.getD (o+(n+1)) 0=hi at*
 generalize L.getD (o+n) 0=lo at*
 generalize l.getD n 0=y at*
 generalize hVV:Mx.val ((L.drop o).take (n+2))=V at*
 have e1:((n:Int)+1-1)=(n:Int):=by omega
 have e2:IntKind.i64.wrap ((n:Int)+1)=(n:Int)+1:=IntWalk.i64_in _ (by omega)
 have e3:((n:Int)+1).toNat=n+1:=by omega
 have e4:(n:Int)+1<(n:Int)+2:=by omega
 have e5:(n:Int)<(n:Int)+2:=by omega
 have e6:(n:Int)<(n:Int)+1:=by omega
 have e7:(0:Int)≤(n:Int)+1:=by omega
 have e8:(0:Int)≤(n:Int):=by omega
 have HST:=Lib.hid (fun W (g1:w.grownBy W (some g)) (hbk:Blk W g L)=>subTimes_any W g o cp L (some ⟨b1,o1,none⟩) l c t0 (by omega) (by omega) (by omega) hbk hL (fun _=>⟨b1,o1,rfl,Nat.lt_of_lt_of_le hb1 g1.size,fun j x hx=>(only_cell g1 (p:=⟨b1,o1+j,none⟩) hb1 hbg).trans (hc2 j x hx)⟩) hb hgl (fun _=>hne))
 have HAD:=Lib.hid (fun W (out:List Nat) (hlen:out.length=n+2) (hlt: ∀y∈out,y<Mx.B) (g1:w.grownBy W (some g)) (hbk:Blk W g (Mx.patch L o out))=>quotAdd_any W g o cp (Mx.patch L o out) (some ⟨b1,o1,none⟩) l c (by omega) (by omega) (by rw [Mx.patch_length (by omega)];omega) hbk (patch_lt hL hlt) (fun _=>⟨b1,o1,rfl,Nat.lt_of_lt_of_le hb1 g1.size,fun j x hx=>(only_cell g1 (p:=⟨b1,o1+j,none⟩) hb1 hbg).trans (hc2 j x hx)⟩) hb (fun _=>hne))
 rw [hn,hVV] at HST
 rw [hn] at HAD
 have HC:=Lib.hid (And.intro hL (And.intro hb (And.intro hV (And.intro hgtop (And.intro hgl (And.intro hbp hqB))))))
 clear hd1 hL hb hV hgt hqB hgtop hgl hne hc2 hl hhi hlo hy
 go_enter Tryz.func108,Tryz.ntmps108
 go_wp2
 refine wp_scope_jumps 0 (fun a' w'=> ∃(t:Nat) (s:Bool) (out:List Nat),t<Mx.B∧out.length=n+2∧(∀y∈out,y<Mx.B)∧Off V (Mx.val l) (Mx.B^(n+2)) t s (Mx.val out)∧w.grownBy w' (some g)∧Blk w' g (Mx.patch L o out)∧
  ∃u8 u9 u10 u11 u12 u13 u14 u15 u16 u17 u18 u19 u20 u21 u22 u23 u24 u25 u26 u27 u28 u29 u30 u31 u32 u33 u34 u35:Value,a'={tmps:= #[.slice (some ⟨g,o,none⟩) (n+2) cp, .slice (some ⟨b1,o1,none⟩) (n+1) c,undef,undef, .int .u64 0, .int .i64 (n:Int), .int .u64 (t:Int), .bool s,u8,u9,u10,u11,u12,u13,u14,u15,u16,u17,u18,u19,u20,u21,u22,u23,u24,u25,u26,u27,u28,u29,u30,u31,u32,u33,u34,u35,undef],defers:= []}) (fun a' _=>(intOf (a'.tmps.getD 6 undef)).toNat) rfl ?_ ?_
 ·go_wp2
  go_quiet ((go_at_call 118;exact quiet_more (HG.out _)))
  go_wp2_with fail
  refine (HST.out _ (only_drewN (only_refl _ _) _) (hblk.grow ((Grow.refl _).drewN _))).mono ?_
  rintro e w1 ⟨out,br,rfl,hlen,hlt,hbr,hsum,hg1,hbk⟩
  have hvl:Mx.val out<Mx.B^(n+2):=by have:=Mx.val_lt out hlt;rwa [hlen] at this
  have hoff:=Off.first hbr hsum hvl HC.out.2.2.2.1
  have htB:=HC.out.2.2.2.2.1
  have hgw:w.grownBy w1 (some g):=only_trans (only_drewN (only_refl _ _) _) hg1
  generalize ((br:Int) !=0)=s at*
  clear hsum hbr hg1 hch hcl hcy HG HST hvl
  generalize t0=t at*
  go_wp2_with fail
  go_step3
  cases s
  ·have HD:=Lib.hid (hoff.done HC.out.2.2.2.2.2.1)
   go_wp2_with fail
   simp only [Exit.jump]
   go_ret
   exact ⟨out,by rw [←HD.out.1];rfl,hlen,hlt,HD.out.2,hgw,hbk⟩
  ·have hbp':=HC.out.2.2.2.2.2.1
   have hov:=hoff.over hbp'
   have hpos:0<t:=Nat.lt_of_le_of_lt (Nat.zero_le _) hov
   have htw:IntKind.u64.wrap ((t:Int) -1)=((t-1:Nat):Int):=by
    rw [IntKind.wrap_u64];have:=htB;rw [Mx.B_eq] at this;omega
   have HTW:=Lib.hid htw
   have HTB:=Lib.hid (show t-1<Mx.B by omega)
   clear htw htB hov
   go_wp2_with fail
   rw [HTW.out]
   refine (HAD.out _ out hlen hlt hgw hbk).mono ?_
   rintro e w2 ⟨out2,cr,rfl,hlen2,hlt2,hcr,hsum2,hg2,hbk2⟩
   rw [patch_patch (by omega) (by omega)] at hbk2
   have hwin:=patch_window (L:=L) (r:=out) (o:=o) (by omega)
   rw [hlen] at hwin
   rw [hwin] at hsum2
   have hvl2:Mx.val out2<Mx.B^(n+2):=by have:=Mx.val_lt out2 hlt2;rwa [hlen2] at this
   have hoff2:=hoff.next hbp' hcr hsum2 hvl2
   have hgw2:=only_trans hgw hg2
   generalize ((cr:Int) !=0)=s2 at*
   clear hsum2 hcr hg2 hvl2 hwin
   go_wp2_with fail
   go_step3
   exact ⟨rfl,t-1, !s2,out2,HTB.out,hlen2,hlt2,hoff2,hgw2,hbk2,_,_,_,_,_,_,_,_,_,_,_,_,_,_,_,_,_,_,_,_,_,_,_,_,_,_,_,_,rfl⟩
 ·rintro a' w1 ⟨t,s,out,htB,hlen,hlt,hoff,hgw,hbk,u8,u9,u10,u11,u12,u13,u14,u15,u16,u17,u18,u19,u20,u21,u22,u23,u24,u25,u26,u27,u28,u29,u30,u31,u32,u33,u34,u35,rfl⟩
  clear hch hcl hcy HG HST
  cases s
  ·have HD:=Lib.hid (hoff.done HC.out.2.2.2.2.2.1)
   go_wp2_with fail
   simp only [Exit.jump]
   go_ret
   exact ⟨out,by rw [←HD.out.1];rfl,hlen,hlt,HD.out.2,hgw,hbk⟩
  ·have hbp':=HC.out.2.2.2.2.2.1
   have hov:=hoff.over hbp'
   have hpos:0<t:=Nat.lt_of_le_of_lt (Nat.zero_le _) hov
   have htw:IntKind.u64.wrap ((t:Int) -1)=((t-1:Nat):Int):=by
    rw [IntKind.wrap_u64];have:=htB;rw [Mx.B_eq] at this;omega
   have HTW:=Lib.hid htw
   have HTB:=Lib.hid (show t-1<Mx.B by omega)
   clear htw htB hov
   go_wp2_with fail
   rw [HTW.out]
   refine (HAD.out _ out hlen hlt hgw hbk).mono ?_
   rintro e w2 ⟨out2,cr,rfl,hlen2,hlt2,hcr,hsum2,hg2,hbk2⟩
   rw [patch_patch (by omega) (by omega)] at hbk2
   have hwin:=patch_window (L:=L) (r:=out) (o:=o) (by omega)
   rw [hlen] at hwin
   rw [hwin] at hsum2
   have hvl2:Mx.val out2<Mx.B^(n+2):=by have:=Mx.val_lt out2 hlt2;rwa [hlen2] at this
   have hoff2:=hoff.next hbp' hcr hsum2 hvl2
   have hgw2:=only_trans hgw hg2
   generalize ((cr:Int) !=0)=s2 at*
   clear hsum2 hcr hg2 hvl2 hwin
   go_wp2_with fail
   go_step3
   refine ⟨rfl,⟨t-1, !s2,out2,HTB.out,hlen2,hlt2,hoff2,hgw2,hbk2,_,_,_,_,_,_,_,_,_,_,_,_,_,_,_,_,_,_,_,_,_,_,_,_,_,_,_,_,rfl⟩, ?_⟩
   simp [intOf]
   omega
end Go.Proofs.YthebilnlljkfeaaGreatDoor
namespace Go.Proofs.YthebilnlljkfeaaGreatDoor
open Go.RowKit
abbrev divW (w:World) (A:Option Addr) (n c:Nat) (D:Option Addr) (m d:Nat):World:=
 (((w.alloc (Obj.cells #[Value.slice A n c] 24)).alloc (Obj.cells #[Value.slice D m d] 24)).alloc (Obj.cells #[Value.slice none 0 0] 24)).alloc (Obj.cells #[Value.slice none 0 0] 24)
theorem divW_grow (w:World) (A:Option Addr) (n c:Nat) (D:Option Addr) (m d:Nat):Grow w (divW w A n c D m d):=((((Grow.refl w).alloc _).alloc _).alloc _).alloc _
structure DivB (w W:World) (A:Option Addr) (n c:Nat) (D:Option Addr) (m d:Nat):Prop where
 c0:W.cell? ⟨w.heap.size,0,none⟩=some (.slice A n c)
 c1:W.cell? ⟨w.heap.size+1,0,none⟩=some (.slice D m d)
 c2:W.cell? ⟨w.heap.size+1+1,0,none⟩=some (.slice none 0 0)
 c3:W.cell? ⟨w.heap.size+1+1+1,0,none⟩=some (.slice none 0 0)
 f2:W.frozen? ⟨w.heap.size+1+1,0,none⟩=false
 f3:W.frozen? ⟨w.heap.size+1+1+1,0,none⟩=false
theorem DivB.of {w W:World} {A:Option Addr} {n c:Nat} {D:Option Addr} {m d:Nat} (h:Grow (divW w A n c D m d) W):DivB w W A n c D m d:=by
 have hs:(divW w A n c D m d).heap.size=w.heap.size+1+1+1+1:=by simp [divW]
 refine ⟨(h.cell (p:=⟨w.heap.size,0,none⟩) (by show w.heap.size<_;omega)).trans (by simp [go_sem]),(h.cell (p:=⟨w.heap.size+1,0,none⟩) (by show w.heap.size+1<_;omega)).trans (by simp [go_sem]),
  (h.cell (p:=⟨w.heap.size+1+1,0,none⟩) (by show w.heap.size+1+1<_;omega)).trans (by simp [go_sem]),(h.cell (p:=⟨w.heap.size+1+1+1,0,none⟩) (by show w.heap.size+1+1+1<_;omega)).trans (by simp [go_sem]),
  (Below.frozen h (p:=⟨w.heap.size+1+1,0,none⟩) (by show w.heap.size+1+1<_;omega)).trans (by simp [go_sem]),(Below.frozen h (p:=⟨w.heap.size+1+1+1,0,none⟩) (by show w.heap.size+1+1+1<_;omega)).trans (by simp [go_sem])⟩
def DivRet (n m:Nat) (v:Value) (w':World):Prop:= ∃q r,v= .tuple #[q,r, .int .i64 0]∧IsNat w' q (n/m)∧IsNat w' r (n%m)
theorem IsNat.store {w:World} {v:Value} {n:Nat} (h:IsNat w v n) {p:Addr} {A':Option Addr} {k c:Nat} (hp:w.cell? p=some (.slice A' k c)) (u:Value):IsNat (w.setCell p u) v n:=by
 obtain ⟨A,c,e,hc,hl⟩:=h
 exact ⟨A,c,e,hc,hl.store hp u⟩
theorem IsNat.none (w:World):IsNat w (.agg #[.slice Option.none 0 0]) 0:=⟨Option.none,0,rfl,Nat.le_refl _,Cells.nil _ _⟩
theorem two_set {W:World} {k:Nat} {A B A' B':Option Addr} {n m n' m' c d c' d':Nat} (h2:W.cell? ⟨k,0,none⟩=some (.slice A n c)) (h3:W.cell? ⟨k+1,0,none⟩=some (.slice B m d)):
  ((W.setCell ⟨k,0,none⟩ (.slice A' n' c')).setCell ⟨k+1,0,none⟩ (.slice B' m' d')).cell? ⟨k,0,none⟩=some (.slice A' n' c')∧
  ((W.setCell ⟨k,0,none⟩ (.slice A' n' c')).setCell ⟨k+1,0,none⟩ (.slice B' m' d')).cell? ⟨k+1,0,none⟩=some (.slice B' m' d')∧
  (W.setCell ⟨k,0,none⟩ (.slice A' n' c')).cell? ⟨k+1,0,none⟩=some (.slice B m d):=by
 have e1:(W.setCell ⟨k,0,none⟩ (.slice A' n' c')).cell? ⟨k+1,0,none⟩=some (.slice B m d):=by
  rw [World.cell?_setCell_other _ _ _ _ (by intro e;injection e with e;omega)];exact h3
 refine ⟨?_, ?_,e1⟩
 ·rw [World.cell?_setCell_other _ _ _ _ (by intro e;injection e with e;omega)]
  simp [go_sem,h2]
 ·simp [go_sem,e1]
set_option maxHeartbeats 1000000 in
theorem div_zero (w:World) (va vb:Value) (n:Nat) (ha:IsNat w va n) (hb:IsNat w vb 0):
  Calls Tryz.prog 79 #[va,vb] w (Ret w fun v w'=> ∃q r,v= .tuple #[q,r, .int .i64 8]∧IsNat w' q 0∧IsNat w' r 0):=by
 have HZ:=Lib.hid (fun W (g:Grow w W)=>zero_any W vb 0 (hb.grow g))
 obtain ⟨A,c,rfl,hc,hl⟩:=ha
 obtain ⟨D,d,rfl,hd,hr⟩:=hb
 simp only [BEq.rfl] at HZ
 go_enter Tryz.func79,Tryz.ntmps79
 go_wp2_with fail
 refine (HZ.out _ (divW_grow w A (Mx.len n) c D (Mx.len 0) d)).mono ?_
 rintro e w1 ⟨v1,rfl,rfl,hg⟩
 obtain ⟨c0,c1,c2,c3,f2,f3⟩:=DivB.of hg
 have HG:=Lib.hid hg
 clear hg HZ
 have hs:w.heap.size+1+1+1<w1.heap.size:=lt_of_cell c3
 go_wp2_with fail
 obtain ⟨s2,s3,_⟩:=two_set (A':=none) (B':=none) (n':=0) (m':=0) (c':=0) (d':=0) c2 c3
 refine bodyPost_ret (v:= .tuple #[.agg #[.slice none 0 0], .agg #[.slice none 0 0], .int .i64 8]) (by simp [results,Tryz.results79,go_sem,s2,s3]) rfl (Ret.mk ⟨_,_,rfl,IsNat.none _,IsNat.none _⟩ ?_)
 exact (((divW_grow w A (Mx.len n) c D (Mx.len 0) d).trans HG.out).setCell (by show w.heap.size≤w.heap.size+1+1;omega) _).setCell (by show w.heap.size≤w.heap.size+1+1+1;omega) _
set_option maxHeartbeats 1000000 in
theorem div_less (w:World) (va vb:Value) (n m:Nat) (hn:Mx.len n≤4294967296) (ha:IsNat w va n) (hb:IsNat w vb m) (hlt:n<m):
  Calls Tryz.prog 79 #[va,vb] w (Ret w (DivRet n m)):=by
 have HZ:=Lib.hid (fun W (g:Grow w W)=>zero_any W vb m (hb.grow g))
 have HC:=Lib.hid (fun W (g:Grow w W)=>cmp_any W va vb n m (by omega) (ha.grow g) (hb.grow g))
 rw [Mx.cmp_lt hlt] at HC
 rw [show (m==0)=false by rw [beq_eq_false_iff_ne];omega] at HZ
 obtain ⟨A,c,rfl,hc,hl⟩:=ha
 obtain ⟨D,d,rfl,hd,hr⟩:=hb
 have HD:=Lib.hid (And.intro (Nat.div_eq_of_lt hlt) (Nat.mod_eq_of_lt hlt))
 clear hlt
 go_enter Tryz.func79,Tryz.ntmps79
 go_wp2_with fail
 refine (HZ.out _ (divW_grow w A (Mx.len n) c D (Mx.len m) d)).mono ?_
 rintro e w1 ⟨v1,rfl,rfl,hg⟩
 have HB1:=Lib.hid (DivB.of hg)
 have c0:=HB1.out.c0
 have c1:=HB1.out.c1
 clear HZ
 go_wp2_with fail
 refine (HC.out _ ((divW_grow w A (Mx.len n) c D (Mx.len m) d).trans hg)).mono ?_
 rintro e w2 ⟨v2,rfl,rfl,hg2⟩
 have hg:=hg.trans hg2
 clear c0 c1 HB1 HC hg2
 obtain ⟨c0,c1,c2,c3,f2,f3⟩:=DivB.of hg
 have HG:=Lib.hid hg
 clear hg
 have hs:w.heap.size+1+1+1<w2.heap.size:=lt_of_cell c3
 go_wp2_with fail
 go_region
 go_wp2_with fail
 obtain ⟨s2,s3,s4⟩:=two_set (A':=none) (B':=A) (n':=0) (m':=Mx.len n) (c':=0) (d':=c) c2 c3
 have gw:=((divW_grow w A (Mx.len n) c D (Mx.len m) d).trans HG.out)
 refine bodyPost_ret (v:= .tuple #[.agg #[.slice none 0 0], .agg #[.slice A (Mx.len n) c], .int .i64 0]) (by simp [results,Tryz.results79,go_sem,s2,s3]) rfl (Ret.mk ⟨_,_,rfl,by rw [HD.out.1];exact IsNat.none _, ?_⟩ ?_)
 ·rw [HD.out.2]
  exact ((IsNat.grow (v:= .agg #[.slice A (Mx.len n) c]) (n:=n) ⟨A,c,rfl,hc,hl⟩ gw).store c2 _).store s4 _
 ·exact ((gw.setCell (by show w.heap.size≤w.heap.size+1+1;omega) _).setCell (by show w.heap.size≤w.heap.size+1+1+1;omega) _).drew
end Go.Proofs.YthebilnlljkfeaaGreatDoor
namespace Go.Proofs.YthebilnlljkfeaaGreatDoor
open Go.RowKit
set_option maxRecDepth 20000
theorem only_blk {w w':World} {g h:Nat} {l:List Nat} (k:w.grownBy w' (some g)) (hb:Blk w h l) (hne:h≠g):Blk w' h l:=(k.block h hb.lt (fun e=>hne (by injection e))).trans hb
def DivC (w:World) (n m:Nat) (v7 v8:Value) (W:World):Prop:=
 ∃A7 A8,v7= .slice A7 (Mx.len n) (Mx.len n)∧v8= .slice A8 (Mx.len m) (Mx.len m)∧Cells W A7 (Mx.limbs n)∧Cells W A8 (Mx.limbs m)∧Grow w W
def DivU (w:World) (n m la N s:Nat) (v11 v12:Value) (W:World):Prop:=
 ∃g1 g2 R U,v11= .slice (some ⟨g1,0,none⟩) (la+1) (la+1)∧v12= .slice (some ⟨g2,0,none⟩) (N+1) (N+2)∧w.heap.size≤g1∧w.heap.size≤g2∧g1≠g2∧Blk W g1 R∧Blk W g2 U∧Grow w W∧
  R.length=la+1∧U.length=N+2∧(∀x∈R,x<Mx.B)∧(∀x∈U,x<Mx.B)∧Mx.val R=n*2^s∧Mx.val U=m*2^s
theorem set_zero (j x:Nat) (qs:List Nat):(List.replicate (j+1) 0++qs).set j x=List.replicate j 0++x::qs:=by
 rw [List.replicate_succ',List.append_assoc,List.singleton_append]
 exact set_at _ _ _ _ _ (List.length_replicate ..)
theorem FreshSl.open {w w':World} {v:Value} {l:List Nat} (h:FreshSl w w' v l): ∃b,v= .slice (some ⟨b,0,none⟩) l.length l.length∧w.heap.size≤b∧Blk w' b l∧Grow w w':=h
theorem en_up:Enters Tryz.prog 107:=enters_of Tryz.func107 (by kernel_rfl) rfl
noncomputable def divOps8:Array Oper:=Rg.regionOps Tryz.f79 8
def UpTo (w3:World) (k x:Nat) (w:World) (g:Nat):Prop:=w3.heap.size≤g∧ ∃R,Blk w g R∧R.length=k∧(∀y∈R,y<Mx.B)∧Mx.val R=x
theorem UpTo.grow {w3 w w':World} {k x g:Nat} (h:UpTo w3 k x w g) (hg:Grow w w'):UpTo w3 k x w' g:=by
 obtain ⟨h1,R,h2,h3⟩:=h
 exact ⟨h1,R,h2.grow hg,h3⟩
def divF (w3:World) (v7 v8:Value) (la N n m s:Nat):Rg.Facts2:=fun d f w v=>
 match d with
 |37=>v=v7
 |38=>v= .int .i64 (s:Int)
 |39=> ∃g,v= .slice (some ⟨g,0,none⟩) (la+1) (la+1)∧UpTo w3 (la+1) (n*2^s) w g
 |40=>v=v8
 |41=>v= .int .i64 (s:Int)
 |42=> ∃g,v= .slice (some ⟨g,0,none⟩) (N+2) (N+2)∧UpTo w3 (N+2) (m*2^s) w g∧ ∀b x y,f 39= .slice (some ⟨b,0,none⟩) x y→b≠g
 |43=>v= .int .i64 ((N:Int)+1)
 |44=> ∀g,f 42= .slice (some ⟨g,0,none⟩) (N+2) (N+2)→v= .slice (some ⟨g,0,none⟩) (N+1) (N+2)
 |11=>v=f 39
 |12=>v=f 44
 |_=>True
set_option maxRecDepth 100000 in
set_option maxHeartbeats 1000000 in
theorem div_region8 {Q:Exit→Act→World→Prop} {a0:Act} {w3:World} {A7:Option Addr} {b8 o8 la N n m s:Nat} (hn:a0.tmps.size=76) (h7:a0.tmps.getD 7 undef= .slice A7 la la) (h8:a0.tmps.getD 8 undef= .slice (some ⟨b8,o8,none⟩) (N+1) (N+1))
  (h9:a0.tmps.getD 9 undef= .int .i64 ((N:Int)+1)) (h10:a0.tmps.getD 10 undef= .int .i64 (s:Int)) (hN:N≤4294967296)
  (HUA: ∀W,Grow w3 W→Calls Tryz.prog 107 #[.slice A7 la la, .int .i64 (s:Int)] W fun e w'=> ∃v l',e= .returned v∧FreshSl W w' v l'∧(∀x∈l',x<Mx.B)∧Mx.val l'=n*2^s∧l'.length=la+1)
  (HUB: ∀W,Grow w3 W→Calls Tryz.prog 107 #[.slice (some ⟨b8,o8,none⟩) (N+1) (N+1), .int .i64 (s:Int)] W fun e w'=> ∃v l',e= .returned v∧FreshSl W w' v l'∧(∀x∈l',x<Mx.B)∧Mx.val l'=m*2^s∧l'.length=N+1+1)
  (fin: ∀f w,Grow w3 w→(∀d,[37,38,39,40,41,42,43,44,11,12].contains d=true→divF w3 (.slice A7 la la) (.slice (some ⟨b8,o8,none⟩) (N+1) (N+1)) la N n m s d f w (f d))→Q .normal (Rg.puts f [37,38,39,40,41,42,43,44,11,12] a0) w):
  (Code.region 8 divOps8 true).wp Tryz.prog Q a0 w3:=by
 refine Rg.region2 (n:=76) (F:=divF w3 (.slice A7 la la) (.slice (some ⟨b8,o8,none⟩) (N+1) (N+1)) la N n m s) [(42,39),(44,42),(11,39),(12,44)] [37,38,39,40,41,42,43,44,11,12] (by kernel_rfl) hn (by kernel_rfl) (by kernel_rfl) (by kernel_rfl) ?_ ?_
  (fun i hi=>Rg.all_from 10 0 ?_ i (Nat.zero_le _) (Nat.lt_of_lt_of_eq hi (by kernel_rfl))) fin
 ·intro d f w w' v h hg
  unfold divF at h⊢
  split at h<;>try exact h
  ·obtain ⟨g,e,k⟩:=h;exact ⟨g,e,k.grow hg⟩
  ·obtain ⟨g,e,k,z⟩:=h;exact ⟨g,e,k.grow hg,z⟩
 ·intro d f f' w v h hr
  unfold divF at h⊢
  split at h<;>try exact h
  ·rw [←hr 39 (by simp)];exact h
  ·rw [←hr 42 (by simp)];exact h
  ·rw [←hr 39 (by simp)];exact h
  ·rw [←hr 44 (by simp)];exact h
 ·refine ⟨Rg.move2 (i:=0) (d:=37) (e:=7) (by kernel_rfl) (by kernel_rfl) (fun _ _=>h7),Rg.move2 (i:=1) (d:=38) (e:=10) (by kernel_rfl) (by kernel_rfl) (fun _ _=>h10), ?_,
   Rg.move2 (i:=3) (d:=40) (e:=8) (by kernel_rfl) (by kernel_rfl) (fun _ _=>h8),Rg.move2 (i:=4) (d:=41) (e:=10) (by kernel_rfl) (by kernel_rfl) (fun _ _=>h10), ?_,
   Rg.move2 (i:=6) (d:=43) (e:=9) (by kernel_rfl) (by kernel_rfl) (fun _ _=>h9), ?_,Rg.assign2 (i:=8) (d:=11) (e:=39) (by kernel_rfl) (by kernel_rfl) (fun _ _ _=>rfl),Rg.assign2 (i:=9) (d:=12) (e:=44) (by kernel_rfl) (by kernel_rfl) (fun _ _ _=>rfl),trivial⟩
  ·refine Rg.step2N (i:=2) (dst:=some 39) (op:= .call {callee:= .value (.func 107),args:= #[.tmp 37, .tmp 38],argTypes:= #[22,3]}) (by kernel_rfl) fun o a w ho hd hg ha D=> ?_
   have e37:a.tmps.getD 37 undef= .slice A7 la la:=D 37 (by kernel_rfl)
   have e38:a.tmps.getD 38 undef= .int .i64 (s:Int):=D 38 (by kernel_rfl)
   refine Rg.call2 (F:=fun d w v=>divF w3 (.slice A7 la la) (.slice (some ⟨b8,o8,none⟩) (N+1) (N+1)) la N n m s d (Rg.vals a) w v) ho en_up hd (by rw [e37,e38];exact HUA w hg) ?_
   rintro e w' ⟨v,l,rfl,hf,hb,hv,hl⟩
   obtain ⟨g,rfl,hge,hk,hgr⟩:=hf.open
   exact ⟨_,rfl,⟨g,by rw [hl],Nat.le_trans hg.size hge,l,hk,hl,hb,hv⟩,hgr⟩
  ·refine Rg.step2N (i:=5) (dst:=some 42) (op:= .call {callee:= .value (.func 107),args:= #[.tmp 40, .tmp 41],argTypes:= #[22,3]}) (by kernel_rfl) fun o a w ho hd hg ha D=> ?_
   have e40:a.tmps.getD 40 undef= .slice (some ⟨b8,o8,none⟩) (N+1) (N+1):=D 40 (by kernel_rfl)
   have e41:a.tmps.getD 41 undef= .int .i64 (s:Int):=D 41 (by kernel_rfl)
   have e39: ∃g,Rg.vals a 39= .slice (some ⟨g,0,none⟩) (la+1) (la+1)∧UpTo w3 (la+1) (n*2^s) w g:=D 39 (by kernel_rfl)
   obtain ⟨g1,eg1,_,R,hR,_⟩:=e39
   refine Rg.call2 (F:=fun d w v=>divF w3 (.slice A7 la la) (.slice (some ⟨b8,o8,none⟩) (N+1) (N+1)) la N n m s d (Rg.vals a) w v) ho en_up hd (by rw [e40,e41];exact HUB w hg) ?_
   rintro e w' ⟨v,l,rfl,hf,hb,hv,hl⟩
   obtain ⟨g,rfl,hge,hk,hgr⟩:=hf.open
   refine ⟨_,rfl,⟨g,by rw [hl],⟨Nat.le_trans hg.size hge,l,hk,hl,hb,hv⟩, ?_⟩,hgr⟩
   intro b x y hb
   rw [eg1] at hb
   injection hb with hb1 _ _
   injection hb1 with hb1
   injection hb1 with hb1
   have:=hR.lt
   omega
  ·refine Rg.step2N (i:=7) (dst:=some 44) (op:= .slice 22 (.tmp 42) none (some (.tmp 43)) none) (by kernel_rfl) fun o a w ho hd hg ha D=> ?_
   have e43:a.tmps.getD 43 undef= .int .i64 ((N:Int)+1):=D 43 (by kernel_rfl)
   have e42: ∃g,Rg.vals a 42= .slice (some ⟨g,0,none⟩) (N+2) (N+2)∧UpTo w3 (N+2) (m*2^s) w g∧ ∀b x y,Rg.vals a 39= .slice (some ⟨b,0,none⟩) x y→b≠g:=D 42 (by kernel_rfl)
   obtain ⟨g,eg,_,_⟩:=e42
   have eg':a.tmps.getD 42 undef= .slice (some ⟨g,0,none⟩) (N+2) (N+2):=eg
   refine Rg.valOf (F:=fun d w v=>divF w3 (.slice A7 la la) (.slice (some ⟨b8,o8,none⟩) (N+1) (N+1)) la N n m s d (Rg.vals a) w v) (v:= .slice (some ⟨g,0,none⟩) (N+1) (N+2)) (w':=w) ?_ hd (fun g' hg'=> ?_) (Grow.refl w)
   ·have hi1:(N:Int)+1≤(N:Int)+2:=by omega
    have hi2:(0:Int)≤(N:Int)+1:=by omega
    have hi3:((N:Int)+1).toNat=N+1:=by omega
    simp only [Array.getD_eq_getD_getElem?] at eg' e43
    simp [execOp,ho,Act.eval,eg',e43,go_sem,hi1,hi2,hi3]
   ·rw [eg] at hg'
    injection hg' with h1 _ _
    injection h1 with h1
    injection h1 with h1
    rw [h1]
set_option maxHeartbeats 4000000 in
theorem div_main (w:World) (va vb:Value) (n m:Nat) (hn:Mx.len n≤1073741824) (ha:IsNat w va n) (hb:IsNat w vb m) (hm:m≠0) (hle:m≤n):
  Calls Tryz.prog 79 #[va,vb] w (Ret w (DivRet n m)):=by
 have HZ:=Lib.hid (fun W (g:Grow w W)=>zero_any W vb m (hb.grow g))
 have HC:=Lib.hid (fun W (g:Grow w W)=>cmp_any W va vb n m (by omega) (ha.grow g) (hb.grow g))
 have hlm:Mx.len m≤Mx.len n:=Mx.len_mono hle
 have HLA:=Lib.hid (fun W (g:Grow w W)=>limbs_any W va n (by omega) (ha.grow g))
 have HLB:=Lib.hid (fun W (g:Grow w W)=>limbs_any W vb m (by omega) (hb.grow g))
 have hcm:0≤Mx.cmp n m:=by unfold Mx.cmp;rw [if_neg (by omega)];split<;>omega
 have hcb:=Mx.cmp_bd n m
 generalize Mx.cmp n m=cm at*
 have hcm':decide (cm<0)=false:=by simp;omega
 rw [show (m==0)=false by rw [beq_eq_false_iff_ne];omega] at HZ
 obtain ⟨A,c,rfl,hc,hl⟩:=ha
 obtain ⟨D,d,rfl,hd,hr⟩:=hb
 go_enter Tryz.func79,Tryz.ntmps79
 go_wp2_with fail
 refine (HZ.out _ (divW_grow w A (Mx.len n) c D (Mx.len m) d)).mono ?_
 rintro e w1 ⟨v1,rfl,rfl,hg⟩
 have HB1:=Lib.hid (DivB.of hg)
 have c0:=HB1.out.c0
 have c1:=HB1.out.c1
 clear HZ
 go_wp2_with fail
 refine (HC.out _ ((divW_grow w A (Mx.len n) c D (Mx.len m) d).trans hg)).mono ?_
 rintro e w2 ⟨v2,rfl,rfl,hg2⟩
 have hg:=hg.trans hg2
 clear c0 c1 HB1 HC hg2
 have HB2:=Lib.hid (DivB.of hg)
 have S2:w2.cell? ⟨w.heap.size,0,none⟩=some (.slice A (Mx.len n) c)∧w2.cell? ⟨w.heap.size+1,0,none⟩=some (.slice D (Mx.len m) d):=⟨HB2.out.c0,HB2.out.c1⟩
 have gw2:Grow w w2:=(divW_grow w A (Mx.len n) c D (Mx.len m) d).trans hg
 have HG:=Lib.hid hg
 clear hg hc hl hd hr
 go_wp2_with fail
 go_cut [7,8] (fun v7 v8 W=>DivC w2 n m v7 v8 W)
 case first=>
  go_region_held3 (fun W=>W.cell? ⟨w.heap.size,0,none⟩=some (.slice A (Mx.len n) c)∧W.cell? ⟨w.heap.size+1,0,none⟩=some (.slice D (Mx.len m) d))
   (first|assumption|exact Grow.cells2 (W:=w2) (by repeat (first|exact Grow.refl _|assumption|apply Grow.drew|(refine Grow.trans ?_ (by assumption)))) S2)
   ((go_at_call 82;first
    |(refine (HLA.out _ (gw2.trans (by repeat (first|exact Grow.refl _|assumption|apply Grow.drew|(refine Grow.trans ?_ (by assumption)))))).mono ?_;rintro e w3 ⟨v3,rfl,h3⟩;have h3o:=h3.open;obtain ⟨b3,rfl,hb3,hk3,g3⟩:=h3o;clear h3)
    |(refine (HLB.out _ (gw2.trans (by repeat (first|exact Grow.refl _|assumption|apply Grow.drew|(refine Grow.trans ?_ (by assumption)))))).mono ?_;rintro e w4 ⟨v4,rfl,h4⟩;have h4o:=h4.open;obtain ⟨b4,rfl,hb4,hk4,g4⟩:=h4o;clear h4)))
  all_goals (go_wp2_with fail;go_meet)
  all_goals exact ⟨some ⟨b3,0,none⟩,some ⟨b4,0,none⟩,rfl,rfl,(Cells.of_block hk3).grow g4,Cells.of_block hk4,(((Grow.refl w2).drew.trans g3).trans g4)⟩
 case rest=>
  obtain ⟨w3,rfl⟩: ∃x,x=wc:=⟨wc,rfl⟩
  obtain ⟨A7,A8,rfl,rfl,k7,k8,g3⟩:=hcut
  have hG3:=Lib.hid (HG.out.trans g3)
  have hlp:0<Mx.len m:=by
   rcases Nat.eq_zero_or_pos (Mx.len m) with h|h
   ·exact absurd (Mx.eq_zero_of_len h) hm
   ·exact h
  obtain ⟨N,hN⟩: ∃N,Mx.len m=N+1:=⟨Mx.len m-1,by omega⟩
  have hnt:=Mx.norm_top hm
  obtain ⟨b8,o8,rfl,hb8,hd8⟩:=k8.at (Mx.limbs_ne hlp)
  have hct:=hd8 N (by show N<Mx.len m;omega)
  have htl:=Mx.getD_lt _ (Mx.limbs_lt m) N
  have hll8:(Mx.limbs m).length=N+1:=hN
  rw [hN] at hlm⊢
  rw [hN,Nat.add_sub_cancel] at hnt
  generalize (Mx.limbs m).getD N 0=tl at*
  have HLZ:=Lib.hid (fun W=>leadingZeros64_any tl htl W)
  obtain ⟨hnt1,hnt2,hnt3,hnt4⟩:=hnt
  generalize hs:64-Mx.bits tl=s at*
  have hs63:s≤63:=by omega
  have hs64:s/64=0:=Nat.div_eq_of_lt (by omega)
  have HUA:=Lib.hid (fun W (g:Grow w3 W)=>up_any W A7 (Mx.limbs n) (Mx.len n) s (by show Mx.len n≤_;omega) (Mx.limbs_lt n) (by omega) (k7.grow g))
  have HUB:=Lib.hid (fun W (g:Grow w3 W)=>up_any W (some ⟨b8,o8,none⟩) (Mx.limbs m) (N+1) s (by omega) (Mx.limbs_lt m) (by omega) (k8.grow g))
  rw [show (Mx.limbs n).length=Mx.len n from rfl,Mx.val_limbs,hs64,Nat.add_zero] at HUA
  rw [hll8,Mx.val_limbs,hs64,Nat.add_zero] at HUB
  have HNT:=Lib.hid (And.intro hnt1 (And.intro hnt2 (Mx.lt_pow_len n)))
  generalize Mx.len n=la at*
  have hi1:(N:Int)+1-1=(N:Int):=by omega
  have hi2:(N:Int)<(N:Int)+1:=by omega
  have hi3:((N:Int)+1).toNat=N+1:=by omega
  have hi4:(N:Int)+1≤(N:Int)+2:=by omega
  have hi5:(0:Int)≤(N:Int)+1:=by omega
  clear hd8 hnt1 hnt2 hnt3 hnt4 htl hs S2 HB2 HG HLA HLB k7 k8 hs64 hlp
  go_wp2_with (go_at_call 106;refine (HLZ.out _).mono ?_;rintro e w' ⟨rfl,rfl⟩)
  clear HLZ hct
  go_cut [11,12] (fun v11 v12 W=>DivU w3 n m la N s v11 v12 W)
  case first=>
   refine Rg.region_eq (ops':=divOps8) (by kernel_rfl) (div_region8 (A7:=A7) (b8:=b8) (o8:=o8) (la:=la) (N:=N) (n:=n) (m:=m) (s:=s) rfl rfl rfl rfl rfl (by omega) HUA.out HUB.out ?_)
   intro f w4 g4 hf
   have h39:=hf 39 rfl
   have h42:=hf 42 rfl
   have h44:=hf 44 rfl
   have h11:f 11=f 39:=hf 11 rfl
   have h12:f 12=f 44:=hf 12 rfl
   obtain ⟨ga,eg1,hg1,R,hR⟩:=h39
   obtain ⟨gb,eg2,⟨hg2,U,hU⟩,hne⟩:=h42
   have h44':=h44 gb eg2
   have hne':=hne ga _ _ eg1
   rw [eg1] at h11
   rw [h44'] at h12
   clear hf h44 hne
   simp only [Rg.puts,Act.put,List.setIfInBounds_toArray,List.set_cons_succ,List.set_cons_zero]
   rw [h11,h12]
   go_wp2_with fail
   go_meet
   exact ⟨ga,gb,R,U,rfl,rfl,hg1,hg2,hne',hR.1,hU.1,g4,hR.2.1,hU.2.1,hR.2.2.1,hU.2.2.1,hR.2.2.2,hU.2.2.2⟩
  case rest=>
   obtain ⟨w4,rfl⟩: ∃x,x=wc:=⟨wc,rfl⟩
   obtain ⟨g1,g2,R0,U,rfl,rfl,hg1,hg2,hne12,hk1,hk2,g4,hRl,hUl,hRb,hUb,hRv,hUv⟩:=hcut
   clear HUA HUB
   obtain ⟨K,hK⟩: ∃K,K+N=la:=⟨la-N,by omega⟩
   have hbp:0<m*2^s:=Nat.mul_pos (by omega) (Mx.pow2_pos _)
   have hUt:Mx.val (U.take (N+1))=m*2^s:=by
    have e:=Mx.val_take_drop U (N+1) (by omega)
    have e2:Mx.val (U.drop (N+1))=0:=by
     rw [←Mx.val_drop_div U hUb,hUv];exact Nat.div_eq_of_lt HNT.out.1
    rw [e2,Nat.mul_zero,Nat.add_zero,hUv] at e
    exact e.symm
   have hUtl:(U.take (N+1)).length=N+1:=by rw [List.length_take,hUl];omega
   have hUtb: ∀x∈U.take (N+1),x<Mx.B:=fun x hx=>hUb x (List.mem_of_mem_take hx)
   have htg:9223372036854775808≤(U.take (N+1)).getD N 0:=Mx.top_great hUtl hUtb (by rw [hUt];exact HNT.out.2.1)
   have hst:=Mx.div_start hRb HNT.out.2.2 hRv hs63 hlm HNT.out.2.1
   have hKe:la-(N+1)+1=K:=by omega
   rw [hKe] at hst
   have eK:(la:Int) -((N:Int)+1)+1=(K:Int):=by omega
   have hmk: ∀W,Sem.run Tryz.prog (Instr.makeSlice 22 (.int .i64 (K:Int)) (.int .i64 (K:Int))) W= .ok (.slice (some ⟨W.heap.size,0,none⟩) K K) (W.alloc (.cells (madeCells #[.int .u64 0] K) 76)):=fun W=>
    run_make_row' (P:=Tryz.prog) 22 76 (.int .u64 0) 8 Tryz.underlying22 info37 rfl .i64 .i64 K (by omega) (by omega) W
   have hs1:g1<w4.heap.size:=hk1.lt
   have hs2:g2<w4.heap.size:=hk2.lt
   have HU:=Lib.hid (And.intro hUt (And.intro hUtl (And.intro hUtb (And.intro htg (And.intro hbp hUb)))))
   have HR0:=Lib.hid (And.intro hRl (And.intro hRb (And.intro hRv hst)))
   clear hUt hUtl hUtb htg hbp hUb hRb hRv hst hUv hKe hUl hRl
   go_wp2_with fail
   clear hmk
   go_loopw [14] (fun iv wr=> ∃(k:Nat) (R qs:List Nat),k≤K∧iv= .int .i64 ((k:Int) -1)∧R.length=la+1∧(∀x∈R,x<Mx.B)∧qs.length+k=K∧(∀x∈qs,x<Mx.B)∧Mx.val R+Mx.B^k*(Mx.val qs*(m*2^s))=n*2^s∧Mx.val (R.drop k)<m*2^s∧
    Grow w3 wr∧Blk wr g1 R∧Blk wr g2 U∧Blk wr w4.heap.size (List.replicate k 0++qs)) (fun iv _=>(intOf iv+1).toNat)
   case atStart=>
    refine ⟨K,R0,[],Nat.le_refl _, ?_,HR0.out.1,HR0.out.2.1,by simp,by simp,by rw [HR0.out.2.2.1];simp [Mx.val],HR0.out.2.2.2,g4.alloc _,hk1.alloc _,hk2.alloc _, ?_⟩
    ·rfl
    ·rw [List.append_nil];exact Blk.made _ _
   case round=>
    obtain ⟨k,R,qs,hkK,rfl,hRl,hRb,hql,hqb,hval,hlow,hgr,hb1,hb2,hbq⟩:=hrel
    rcases Nat.eq_zero_or_pos k with h0|h0
    ·subst h0
     rw [Nat.pow_zero,Nat.one_mul] at hval
     rw [List.drop_zero] at hlow
     rw [List.replicate_zero,List.nil_append] at hbq
     obtain ⟨hfq,hfr⟩:=Mx.div_end (by omega) hval hlow
     have hqK:qs.length=K:=by omega
     have hof:=fun W (g:Grow wr W)=>of_any W (.slice (some ⟨w4.heap.size,0,none⟩) K K) qs (by omega) (by have:=(hbq.grow g).sl hqb;rwa [hqK] at this)
     have hdn:=fun W (g:Grow wr W)=>down_any W (some ⟨g1,0,none⟩) R (la+1) s (by omega) hRb (by omega) (Cells.of_block (hb1.grow g))
     rw [hRl,hfr] at hdn
     rw [hfq] at hof
     have HB:=Lib.hid (hG3.out.trans hgr)
     have HOF:=Lib.hid hof
     have HDN:=Lib.hid hdn
     clear hof hdn hbq hb1 hb2 hval hlow hfq hfr
     go_wp2_with fail
     refine (HOF.out _ (Grow.refl _)).mono ?_
     rintro e w6 ⟨v6,rfl,h6,g6⟩
     go_wp2_with fail
     refine (HDN.out _ g6).mono ?_
     rintro e w7 ⟨v7,l7,rfl,h7,h7b,h7v,h7l⟩
     have h7s:=h7.sl h7b
     have g7:=h7.choose_spec.2.2.2
     go_wp2_with fail
     refine (of_any _ _ l7 (by omega) h7s).mono ?_
     rintro e w8 ⟨v8,rfl,h8,g8⟩
     rw [h7v] at h8
     have h68:=h6.grow (g7.trans g8)
     have g38:=HB.out.trans ((g6.trans g7).trans g8)
     obtain ⟨c0,c1,c2,c3,f2,f3⟩:=DivB.of g38
     have HG:=Lib.hid g38
     have H6:=Lib.hid h68
     have H8:=Lib.hid h8
     obtain ⟨A6,c6,rfl,hc6,hl6⟩:=h68
     obtain ⟨A8',c8,rfl,hc8,hl8⟩:=h8
     clear hl6 hl8 h6 h7 h7s g6 g7 g8 g38 HOF HDN HB
     have hs:w.heap.size+1+1+1<w8.heap.size:=lt_of_cell c3
     go_wp2_with fail
     obtain ⟨s2,s3,s4⟩:=two_set (A':=A6) (B':=A8') (n':=Mx.len (n/m)) (m':=Mx.len (n%m)) (c':=c6) (d':=c8) c2 c3
     refine bodyPost_ret (v:= .tuple #[.agg #[.slice A6 (Mx.len (n/m)) c6], .agg #[.slice A8' (Mx.len (n%m)) c8], .int .i64 0]) (by simp [results,Tryz.results79,go_sem,s2,s3]) rfl (Ret.mk ⟨_,_,rfl,(H6.out.store c2 _).store s4 _,(H8.out.store c2 _).store s4 _⟩ ?_)
     exact (((divW_grow w A la c D (Mx.len m) d).trans HG.out).setCell (by show w.heap.size≤w.heap.size+1+1;omega) _).setCell (by show w.heap.size≤w.heap.size+1+1+1;omega) _
    ·obtain ⟨j,rfl⟩: ∃j,k=j+1:=⟨k-1,by omega⟩
     rw [show (((j+1:Nat):Int) -1)=(j:Int) by omega]
     obtain ⟨hUt,hUtl,hUtb,htg,hbp,hUb⟩:=HU.out
     obtain ⟨hwin,hVlt,hz⟩:=Mx.div_window (N:=N+1) (j:=j) (b:=m*2^s) hRb (by omega) (Nat.le_of_lt HNT.out.1) hlow
     have hcl2:Cells wr (some ⟨g2,0,none⟩) (U.take (N+1)):=(Cells.of_block hb2).take _
     have hTO:=takeOff_any wr g1 j (la+1-j) R (some ⟨g2,0,none⟩) (U.take (N+1)) (N+2) N hUtl (by omega) (by omega) (by omega) hb1 hRb hcl2 hUtb htg
      (by rw [hUt,hwin];exact hVlt) (fun b p e=>by injection e with e;injection e with e;omega)
     rw [hUt,hwin] at hTO
     have hq:Mx.val (R.drop j)/(m*2^s)<Mx.B:=by rw [Nat.div_lt_iff_lt_mul hbp,Nat.mul_comm];exact hVlt
     have hrd:=fun out h1 h2=>Mx.div_round (R:=R) (out:=out) (qs:=qs) (j:=j) (N:=N+1) (b:=m*2^s) (T:=n*2^s) h1 (by omega) hz hbp h2 hval
     generalize Mx.val (R.drop j)/(m*2^s)=q at*
     have HTO:=Lib.hid hTO
     have HRD:=Lib.hid hrd
     have HQ:=Lib.hid hq
     have HBQ:=Lib.hid hbq
     have HB2:=Lib.hid hb2
     have e1:(j:Int)+((N:Int)+1)+1≤(la:Int)+1:=by omega
     have e2:((j:Int)+((N:Int)+1)+1).toNat=j+N+2:=by omega
     have e3:(j:Int)≤(j:Int)+((N:Int)+1)+1:=by omega
     have e4:(0:Int)≤(j:Int)+((N:Int)+1)+1:=by omega
     have e5:j+N+2-j=N+2:=by omega
     have e6:(j:Int)<(K:Int):=by omega
     have e7:(0:Int)≤(j:Int):=by omega
     have e8: ¬(la+1=j):=by omega
     clear hTO hrd hq hbq hb2 hb1 hUt hUtl hUtb htg hbp hUb hcl2 hval hlow
     go_wp2_with fail
     refine HTO.out.mono ?_
     rintro e w5 ⟨out,rfl,hol,hob,hov,hon,hob1⟩
     obtain ⟨hr1,hr2⟩:=HRD.out out hol hov
     have hbq5:Blk w5 w4.heap.size (List.replicate (j+1) 0++qs):=only_blk hon HBQ.out (by omega)
     have hb25:Blk w5 g2 U:=only_blk hon HB2.out (Ne.symm hne12)
     have hgr5:Grow w3 w5:=only_grow hon hgr hg1
     have hgc:=hbq5.cell (i:=j) (by rw [List.length_append,List.length_replicate];omega)
     have hgf:=hbq5.frozen j
     have hbq6:=hbq5.set j q
     rw [set_zero] at hbq6
     have hpl:(Mx.patch R j out).length=la+1:=by rw [Mx.patch_length (by omega)];exact hRl
     have hpb:=patch_lt (o:=j) hRb hob
     have hb16:=hob1.far (p:=⟨w4.heap.size,j,none⟩) (by show g1≠w4.heap.size;omega) (.int .u64 (q:Int))
     have hb26:=hb25.far (p:=⟨w4.heap.size,j,none⟩) (by show g2≠w4.heap.size;omega) (.int .u64 (q:Int))
     have hgr6:=hgr5.setCell (p:=⟨w4.heap.size,j,none⟩) (by show w3.heap.size≤w4.heap.size;exact g4.size) (.int .u64 (q:Int))
     generalize (List.getD _ j 0:Nat)=zz at hgc
     have HALL:=Lib.hid (And.intro hbq6 (And.intro hb16 (And.intro hb26 (And.intro hgr6 (And.intro hr1 (And.intro hr2 (And.intro hpl hpb)))))))
     clear hbq6 hb16 hb26 hgr6 hr1 hr2 hpl hpb hbq5 hb25 hob1 hon hov HTO HRD HBQ HB2 hgr5 hob hol hRb hRl
     go_wp2_with fail
     go_roundw
     case rel=>
      obtain ⟨hbq6,hb16,hb26,hgr6,hr1,hr2,hpl,hpb⟩:=HALL.out
      refine ⟨j,Mx.patch R j out,q::qs,by omega,rfl,hpl,hpb,by simp;omega, ?_,hr1,hr2,hgr6,hb16,hb26,hbq6⟩
      intro x hx
      rcases List.mem_cons.1 hx with hx|hx
      ·rw [hx];exact HQ.out
      ·exact hqb x hx
     case measure=>simp [intOf]
theorem div_any (w:World) (va vb:Value) (n m:Nat) (hn:Mx.len n≤1073741824) (ha:IsNat w va n) (hb:IsNat w vb m) (hm:m≠0):
  Calls Tryz.prog 79 #[va,vb] w (Ret w (DivRet n m)):=by
 rcases Nat.lt_or_ge n m with h|h
 ·exact div_less w va vb n m (by omega) ha hb h
 ·exact div_main w va vb n m hn ha hb hm h
end Go.Proofs.YthebilnlljkfeaaGreatDoor
namespace Go.Proofs.YthebilnlljkfeaaGreatDoor
open Go.RowKit
set_option maxRecDepth 20000
theorem shift_cells {w W:World} {A:Option Addr} {n c:Nat} (h:Grow ((w.alloc (Obj.cells #[Value.slice A n c] 24)).alloc (Obj.cells #[Value.slice none 0 0] 24)) W):
  W.cell? ⟨w.heap.size,0,none⟩=some (.slice A n c)∧W.cell? ⟨w.heap.size+1,0,none⟩=some (.slice none 0 0)∧W.frozen? ⟨w.heap.size+1,0,none⟩=false:=by
 have hs:((w.alloc (Obj.cells #[Value.slice A n c] 24)).alloc (Obj.cells #[Value.slice none 0 0] 24)).heap.size=w.heap.size+1+1:=by simp
 exact ⟨(h.cell (p:=⟨w.heap.size,0,none⟩) (by show w.heap.size<_;omega)).trans (by simp [go_sem]),(h.cell (p:=⟨w.heap.size+1,0,none⟩) (by show w.heap.size+1<_;omega)).trans (by simp [go_sem]),
  (Below.frozen h (p:=⟨w.heap.size+1,0,none⟩) (by show w.heap.size+1<_;omega)).trans (by simp [go_sem])⟩
def ShRet (x:Nat) (v:Value) (w':World):Prop:= ∃u,v= .tuple #[u, .int .i64 0]∧IsNat w' u x
def ShBad (v:Value) (w':World):Prop:= ∃u,v= .tuple #[u, .int .i64 2]∧IsNat w' u 0
theorem bad_split {k:Int} (h:k<0∨262144<k):(decide (k<0)=true)∨(decide (k<0)=false∧decide (262144<k)=true):=by
 by_cases h0:k<0
 ·exact .inl (decide_eq_true h0)
 ·exact .inr ⟨decide_eq_false h0,decide_eq_true (by omega)⟩
set_option maxHeartbeats 400000 in
theorem gcdOfLimbs_any (w:World) (x y:Nat) (hx:x<Mx.B) (hy:y<Mx.B):
  Calls Tryz.prog 80 #[.int .u64 (x:Int), .int .u64 (y:Int)] w fun e w'=>e= .returned (.int .u64 ((Nat.gcd x y:Nat):Int))∧ ∃m,w'=w.drewN m:=by
 have HB:=Lib.hid (And.intro hx hy)
 clear hx hy
 go_enter Tryz.func80,Tryz.ntmps80
 go_wp2
 go_loopw [0,1] (fun xv yv wr=> ∃a b m:Nat,xv= .int .u64 (a:Int)∧yv= .int .u64 (b:Int)∧a<Mx.B∧b<Mx.B∧Nat.gcd a b=Nat.gcd x y∧wr=w.drewN m) (fun _ yv _=>(intOf yv).toNat)
 case atStart=>exact ⟨x,y,0,rfl,rfl,HB.out.1,HB.out.2,rfl,rfl⟩
 case round=>
  obtain ⟨a,b,m,rfl,rfl,ha,hb,hg,rfl⟩:=hrel
  by_cases h0:b=0
  ·subst h0
   rw [Nat.gcd_zero_right] at hg
   have HG:=Lib.hid hg
   clear hg ha hb
   go_wp2
   go_ret
   exact ⟨by rw [←HG.out];rfl,m,rfl⟩
  ·have hb0:((b:Int) !=0)=true:=by simp;omega
   have hb1: ¬(b:Int)=0:=by omega
   have hm:(a:Int)%(b:Int)=((a%b:Nat):Int):=(Int.natCast_emod a b).symm
   have HL:=Lib.hid (And.intro (Nat.mod_lt a (by omega:0<b)) (And.intro ha (And.intro hb hg)))
   have HM:=Lib.hid hm
   clear hm ha hb hg
   go_wp2
   go_quiet (fail)
   rw [HM.out]
   go_wp2
   go_roundw
   case rel=>
    obtain ⟨h1,h2,h3,h4⟩:=HL.out
    exact ⟨b,a%b,_,rfl,rfl,h3,by omega,by rw [←h4,Nat.gcd_comm a b,Nat.gcd_rec b a,Nat.gcd_comm],World.drewN_drewN _ _ _⟩
   case measure=>simp [intOf];exact HL.out.1
end Go.Proofs.YthebilnlljkfeaaGreatDoor
namespace Go.Proofs.YthebilnlljkfeaaGreatDoor
open Go.RowKit
set_option maxRecDepth 20000
def LessRet (a b:Nat) (v:Value) (w':World):Prop:= ∃x y a' b',v= .tuple #[x,y]∧IsNat w' x a'∧IsNat w' y b'∧b'≤a'∧a'≤a∧b'<b∧Nat.gcd a' b'=Nat.gcd a b
structure GcdS (w:World) (n m a b:Nat) (A:Option Addr) (c:Nat) (D:Option Addr) (d:Nat) (W:World):Prop where
 c0:W.cell? ⟨w.heap.size,0,none⟩=some (.slice A (Mx.len a) c)
 f0:W.frozen? ⟨w.heap.size,0,none⟩=false
 c1:W.cell? ⟨w.heap.size+1,0,none⟩=some (.slice D (Mx.len b) d)
 f1:W.frozen? ⟨w.heap.size+1,0,none⟩=false
 c2:W.cell? ⟨w.heap.size+1+1,0,none⟩=some (.slice none 0 0)
 f2:W.frozen? ⟨w.heap.size+1+1,0,none⟩=false
 na:IsNat W (.agg #[.slice A (Mx.len a) c]) a
 nb:IsNat W (.agg #[.slice D (Mx.len b) d]) b
 gw:Grow w W
 le:b≤a
 top:a≤max n m
 gcd:Nat.gcd a b=Nat.gcd n m
theorem GcdS.grow {w W W':World} {n m a b c d:Nat} {A D:Option Addr} (h:GcdS w n m a b A c D d W) (g:Grow W W'):GcdS w n m a b A c D d W':=
 ⟨g.cells1 h.c0,(Below.frozen g (lt_of_cell' h.c0)).trans h.f0,g.cells1 h.c1,(Below.frozen g (lt_of_cell' h.c1)).trans h.f1,g.cells1 h.c2,(Below.frozen g (lt_of_cell' h.c2)).trans h.f2,h.na.grow g,h.nb.grow g,h.gw.trans g,h.le,h.top,h.gcd⟩
theorem GcdS.next {w W:World} {n m a b c d a' b' c' d':Nat} {A D A' D':Option Addr} (h:GcdS w n m a b A c D d W) (hx:IsNat W (.agg #[.slice A' (Mx.len a') c']) a') (hy:IsNat W (.agg #[.slice D' (Mx.len b') d']) b') (h1:b'≤a') (h2:a'≤max n m) (h3:Nat.gcd a' b'=Nat.gcd n m):
  GcdS w n m a' b' A' c' D' d' ((W.setCell ⟨w.heap.size,0,none⟩ (.slice A' (Mx.len a') c')).setCell ⟨w.heap.size+1,0,none⟩ (.slice D' (Mx.len b') d')):=by
 obtain ⟨s1,s2,s3⟩:=two_set (A':=A') (B':=D') (n':=Mx.len a') (m':=Mx.len b') (c':=c') (d':=d') h.c0 h.c1
 refine ⟨s1, ?_,s2, ?_, ?_, ?_,(hx.store h.c0 _).store s3 _,(hy.store h.c0 _).store s3 _,(h.gw.setCell (Nat.le_refl _) _).setCell (by show w.heap.size≤w.heap.size+1;omega) _,h1,h2,h3⟩
 ·simpa using h.f0
 ·simpa using h.f1
 ·rw [World.cell?_setCell_other _ _ _ _ (by intro e;injection e with e;omega),World.cell?_setCell_other _ _ _ _ (by intro e;injection e with e;omega)];exact h.c2
 ·simpa using h.f2
theorem en_limbs:Enters Tryz.prog 82:=enters_of Tryz.func82 (by kernel_rfl) rfl
theorem en_limbFrom:Enters Tryz.prog 81:=enters_of Tryz.func81 (by kernel_rfl) rfl
theorem en_gcdOfLimbs:Enters Tryz.prog 80:=enters_of Tryz.func80 (by kernel_rfl) rfl
noncomputable def gcdOps8:Array Oper:=Rg.regionOps Tryz.f49 8
def LimbsAt (w:World) (v:Value) (x:Nat):Prop:= ∃k,v= .slice (some ⟨k,0,none⟩) (Mx.limbs x).length (Mx.limbs x).length∧Blk w k (Mx.limbs x)
theorem LimbsAt.grow {w w':World} {v:Value} {x:Nat} (h:LimbsAt w v x) (g:Grow w w'):LimbsAt w' v x:=by
 obtain ⟨k,e,hk⟩:=h
 exact ⟨k,e,hk.grow g⟩
theorem limbFrom_zero {w:World} {v:Value} {x:Nat} (hx:x<Mx.B) (h:LimbsAt w v x):Calls Tryz.prog 81 #[v, .int .i64 0] w (Ret w fun v' _=>v'= .int .u64 (x:Int)):=by
 obtain ⟨k,rfl,hk⟩:=h
 have h:=limbFrom_any w (some ⟨k,0,none⟩) (Mx.limbs x) (Mx.limbs x).length 0 (Mx.limbs_lt x) (by omega) (Cells.of_block hk)
 rw [Mx.val_limbs,Nat.pow_zero,Nat.div_one,Nat.mod_eq_of_lt hx] at h
 refine Calls.mono h ?_
 rintro e w' ⟨rfl,m,rfl⟩
 exact Ret.mk rfl ((Grow.refl w).drewN m)
theorem gcdOfLimbs_ret (w:World) (x y:Nat) (hx:x<Mx.B) (hy:y<Mx.B):Calls Tryz.prog 80 #[.int .u64 (x:Int), .int .u64 (y:Int)] w (Ret w fun v' _=>v'= .int .u64 ((Nat.gcd x y:Nat):Int)):=
 (gcdOfLimbs_any w x y hx hy).mono fun _ _ ⟨he,m,hm⟩=>by rw [he,hm];exact Ret.mk rfl ((Grow.refl w).drewN m)
theorem limbs_ret (w:World) (v:Value) (x:Nat) (hx:Mx.len x≤1073741824) (h:IsNat w v x):Calls Tryz.prog 82 #[v] w (Ret w fun v' w'=>LimbsAt w' v' x):=
 (limbs_any w v x (by omega) h).mono fun _ _ ⟨v',he,hf⟩=>by
  obtain ⟨b,rfl,_,hk,g⟩:=hf.open
  rw [he]
  exact Ret.mk ⟨b,rfl,hk⟩ g
def gcdF (vb vr:Value) (b r g:Nat):Rg.Facts2:=fun d _ w v=>
 match d with
 |33=>v=vb∧IsNat w v b
 |34=>LimbsAt w v b
 |35=>v= .int .u64 (b:Int)
 |36=>v=vr∧IsNat w v r
 |37=>LimbsAt w v r
 |38=>v= .int .u64 (r:Int)
 |39=>v= .int .u64 (g:Int)
 |40=>Sl w v [g]
 |41=>IsNat w v g
 |_=>True
set_option maxRecDepth 100000 in
set_option maxHeartbeats 1000000 in
theorem gcd_region8 {Q:Exit→Act→World→Prop} {a0:Act} {w6:World} {D3 D5:Option Addr} {d3 d5 b r g:Nat} {p3 p6 p4:Addr} (hn:a0.tmps.size=42) (h3:a0.tmps.getD 3 undef= .pointer (some p3)) (h6:a0.tmps.getD 6 undef= .pointer (some p6)) (h4:a0.tmps.getD 4 undef= .pointer (some p4))
  (c3:w6.cell? p3=some (.slice D3 (Mx.len b) d3)) (c6:w6.cell? p6=some (.slice D5 (Mx.len r) d5)) (c4:w6.cell? p4=some (.slice none 0 0)) (f4:w6.frozen? p4=false) (hb:IsNat w6 (.agg #[.slice D3 (Mx.len b) d3]) b) (hr:IsNat w6 (.agg #[.slice D5 (Mx.len r) d5]) r)
  (hbB:b<Mx.B) (hrB:r<Mx.B) (hgg:Nat.gcd b r=g) (hgB:g<Mx.B) (hlb:Mx.len b≤1073741824) (hlr:Mx.len r≤1073741824)
  (fin: ∀f w A c,Grow w6 w→IsNat w (.agg #[.slice A (Mx.len g) c]) g→Q .normal (Rg.puts f [33,34,35,36,37,38,39,40,41] a0) (w.setCell p4 (.slice A (Mx.len g) c))):
  (Code.region 8 gcdOps8 true).wp Tryz.prog Q a0 w6:=by
 refine Rg.region3 (n:=42) (F:=gcdF (.agg #[.slice D3 (Mx.len b) d3]) (.agg #[.slice D5 (Mx.len r) d5]) b r g) 9 [] [33,34,35,36,37,38,39,40,41] (by kernel_rfl) (by kernel_rfl) hn (by kernel_rfl) (by kernel_rfl) (by kernel_rfl) ?_ ?_
  (fun i hi=>Rg.all_from 9 0 ?_ i (Nat.zero_le _) (by omega)) ?_
 ·intro d f w w' v h hg
  unfold gcdF at h⊢
  split at h<;>try exact h
  ·exact ⟨h.1,h.2.grow hg⟩
  ·exact h.grow hg
  ·exact ⟨h.1,h.2.grow hg⟩
  ·exact h.grow hg
  ·exact h.grow hg
  ·exact h.grow hg
 ·intro d f f' w v h _
  exact h
 ·refine ⟨Rg.load2 (i:=0) (d:=33) (p:=3) (by kernel_rfl) h3 (by kernel_rfl) c3 (fun _ w hg=>⟨rfl,hb.grow hg⟩), ?_, ?_,Rg.load2 (i:=3) (d:=36) (p:=6) (by kernel_rfl) h6 (by kernel_rfl) c6 (fun _ w hg=>⟨rfl,hr.grow hg⟩), ?_, ?_, ?_, ?_, ?_,trivial⟩
  ·refine Rg.step2N (i:=1) (dst:=some 34) (op:= .call {callee:= .value (.func 82),args:= #[.tmp 33],argTypes:= #[24]}) (by kernel_rfl) fun o a w ho hd hg ha D=> ?_
   exact Rg.call1 (F:=fun d w v=>gcdF (.agg #[.slice D3 (Mx.len b) d3]) (.agg #[.slice D5 (Mx.len r) d5]) b r g d (Rg.vals a) w v) ho en_limbs hd (limbs_ret w _ b hlb (D 33 (by kernel_rfl)).2) fun e w' ⟨v,e1,h1,g1⟩=>⟨v,e1,h1,g1⟩
  ·refine Rg.step2N (i:=2) (dst:=some 35) (op:= .call {callee:= .value (.func 81),args:= #[.tmp 34, .const (.int .i64 0)],argTypes:= #[22,3]}) (by kernel_rfl) fun o a w ho hd hg ha D=> ?_
   exact Rg.callOf (F:=fun d w v=>gcdF (.agg #[.slice D3 (Mx.len b) d3]) (.agg #[.slice D5 (Mx.len r) d5]) b r g d (Rg.vals a) w v) (R:=Ret w fun v' _=>v'= .int .u64 (b:Int)) ho en_limbFrom hd (by simp only [List.map_toArray,List.map_cons,List.map_nil,Act.eval];exact limbFrom_zero hbB (D 34 (by kernel_rfl))) fun e w' ⟨v,e1,h1,g1⟩=>⟨v,e1,h1,g1⟩
  ·refine Rg.step2N (i:=4) (dst:=some 37) (op:= .call {callee:= .value (.func 82),args:= #[.tmp 36],argTypes:= #[24]}) (by kernel_rfl) fun o a w ho hd hg ha D=> ?_
   exact Rg.call1 (F:=fun d w v=>gcdF (.agg #[.slice D3 (Mx.len b) d3]) (.agg #[.slice D5 (Mx.len r) d5]) b r g d (Rg.vals a) w v) ho en_limbs hd (limbs_ret w _ r hlr (D 36 (by kernel_rfl)).2) fun e w' ⟨v,e1,h1,g1⟩=>⟨v,e1,h1,g1⟩
  ·refine Rg.step2N (i:=5) (dst:=some 38) (op:= .call {callee:= .value (.func 81),args:= #[.tmp 37, .const (.int .i64 0)],argTypes:= #[22,3]}) (by kernel_rfl) fun o a w ho hd hg ha D=> ?_
   exact Rg.callOf (F:=fun d w v=>gcdF (.agg #[.slice D3 (Mx.len b) d3]) (.agg #[.slice D5 (Mx.len r) d5]) b r g d (Rg.vals a) w v) (R:=Ret w fun v' _=>v'= .int .u64 (r:Int)) ho en_limbFrom hd (by simp only [List.map_toArray,List.map_cons,List.map_nil,Act.eval];exact limbFrom_zero hrB (D 37 (by kernel_rfl))) fun e w' ⟨v,e1,h1,g1⟩=>⟨v,e1,h1,g1⟩
  ·refine Rg.step2N (i:=6) (dst:=some 39) (op:= .call {callee:= .value (.func 80),args:= #[.tmp 35, .tmp 38],argTypes:= #[76,76]}) (by kernel_rfl) fun o a w ho hd hg ha D=> ?_
   have e35:a.tmps.getD 35 undef= .int .u64 (b:Int):=D 35 (by kernel_rfl)
   have e38:a.tmps.getD 38 undef= .int .u64 (r:Int):=D 38 (by kernel_rfl)
   exact Rg.call2 (F:=fun d w v=>gcdF (.agg #[.slice D3 (Mx.len b) d3]) (.agg #[.slice D5 (Mx.len r) d5]) b r g d (Rg.vals a) w v) (R:=Ret w fun v' _=>v'= .int .u64 ((Nat.gcd b r:Nat):Int)) ho en_gcdOfLimbs hd (by rw [e35,e38];exact gcdOfLimbs_ret w b r hbB hrB) fun e w' ⟨v,e1,h1,g1⟩=>⟨v,e1,by rw [←hgg];exact h1,g1⟩
  ·refine Rg.step2N (i:=7) (dst:=some 40) (op:= .buildSlice 22 1 #[(0, .tmp 39)]) (by kernel_rfl) fun o a w ho hd hg ha D=> ?_
   have e39:a.tmps.getD 39 undef= .int .u64 (g:Int):=D 39 (by kernel_rfl)
   refine Rg.valOf (F:=fun d w v=>gcdF (.agg #[.slice D3 (Mx.len b) d3]) (.agg #[.slice D5 (Mx.len r) d5]) b r g d (Rg.vals a) w v) (v:= .slice (some ⟨w.heap.size,0,none⟩) 1 1) (w':=w.alloc (.cells (vals [g]).toArray 76)) ?_ hd (sl_built w [g] (by intro y hy;simp at hy;rw [hy];exact hgB)) ((Grow.refl w).alloc _)
   simp only [Array.getD_eq_getD_getElem?] at e39
   simp [execOp,ho,go_sem,vals,Act.eval,e39]
  ·refine Rg.step2N (i:=8) (dst:=some 41) (op:= .call {callee:= .value (.func 35),args:= #[.tmp 40],argTypes:= #[22]}) (by kernel_rfl) fun o a w ho hd hg ha D=> ?_
   exact Rg.call1 (F:=fun d w v=>gcdF (.agg #[.slice D3 (Mx.len b) d3]) (.agg #[.slice D5 (Mx.len r) d5]) b r g d (Rg.vals a) w v) ho Rg.en_of hd (of_any w _ [g] (by simp) (D 40 (by kernel_rfl))) fun e w' ⟨v,e1,h1,g1⟩=>⟨v,e1,by rw [Mx.val_one] at h1;exact h1,g1⟩
 ·intro f w hg hf
  have h41:IsNat w (f 41) g:=hf 41 rfl
  have h41':=h41
  obtain ⟨A,c,e,_,_⟩:=h41
  rw [e] at h41'
  have hpg:=Rg.puts_get f [33,34,35,36,37,38,39,40,41] a0
  refine Rg.store_last (p:=4) (x:=41) (b:=p4) (A':=A) (L':=Mx.len g) (C':=c) (by kernel_rfl) ?_ ?_ (hg.cells1 c4) ((Below.frozen hg (lt_of_cell' c4)).trans f4) (fin f w A c hg h41')
  ·rw [hpg 4 (by omega)];exact h4
  ·rw [hpg 41 (by omega)];exact e
set_option maxHeartbeats 2000000 in
theorem gcd_of (w:World) (va vb:Value) (n m:Nat) (hn:Mx.len n≤1073741824) (hm:Mx.len m≤1073741824) (ha:IsNat w va n) (hb:IsNat w vb m)
  (HL: ∀W va vb a b,IsNat W va a→IsNat W vb b→b≤a→a≤max n m→64<Mx.bits b→Calls Tryz.prog 78 #[va,vb] W (Ret W (LessRet a b))):
  Calls Tryz.prog 49 #[va,vb] w (Ret w fun v w'=>IsNat w' v (Nat.gcd n m)):=by
 have HC:=Lib.hid (fun W (g:Grow w W)=>cmp_any W va vb n m (by omega) (ha.grow g) (hb.grow g))
 have HLS:=Lib.hid HL
 obtain ⟨A,c,rfl,hc,hl⟩:=ha
 obtain ⟨D,d,rfl,hd,hr⟩:=hb
 have HAB:=Lib.hid (fun W (g:Grow w W)=>And.intro (⟨A,c,rfl,hc,hl.grow g⟩:IsNat W (.agg #[.slice A (Mx.len n) c]) n) (⟨D,d,rfl,hd,hr.grow g⟩:IsNat W (.agg #[.slice D (Mx.len m) d]) m))
 clear hc hl hd hr HL
 go_enter Tryz.func49,Tryz.ntmps49
 go_wp2_with fail
 refine (HC.out _ ((((Grow.refl w).alloc _).alloc _).alloc _)).mono ?_
 rintro e w1 ⟨v1,rfl,rfl,hg⟩
 obtain ⟨c0,c1,c2,f2⟩:=hg.new3
 have hs:w.heap.size+1+1<w1.heap.size:=lt_of_cell c2
 have f0:w1.frozen? ⟨w.heap.size,0,none⟩=false:=(Below.frozen hg (p:=⟨w.heap.size,0,none⟩) (by show w.heap.size<_;simp;omega)).trans (by simp [go_sem])
 have f1:w1.frozen? ⟨w.heap.size+1,0,none⟩=false:=(Below.frozen hg (p:=⟨w.heap.size+1,0,none⟩) (by show w.heap.size+1<_;simp)).trans (by simp [go_sem])
 have gw1:Grow w w1:=((((Grow.refl w).alloc _).alloc _).alloc _).trans hg
 have hS1:n<m→GcdS w n m m n D d A c ((w1.setCell ⟨w.heap.size,0,none⟩ (.slice D (Mx.len m) d)).setCell ⟨w.heap.size+1,0,none⟩ (.slice A (Mx.len n) c)):=by
  intro h
  obtain ⟨s1,s2,s3⟩:=two_set (A':=D) (B':=A) (n':=Mx.len m) (m':=Mx.len n) (c':=d) (d':=c) c0 c1
  refine ⟨s1,by simpa using f0,s2,by simpa using f1, ?_,by simpa using f2,(IsNat.store (HAB.out _ gw1).2 c0 _).store s3 _,(IsNat.store (HAB.out _ gw1).1 c0 _).store s3 _,(gw1.setCell (Nat.le_refl _) _).setCell (by show w.heap.size≤w.heap.size+1;omega) _,by omega,by omega,Nat.gcd_comm _ _⟩
  rw [World.cell?_setCell_other _ _ _ _ (by intro e;injection e with e;omega),World.cell?_setCell_other _ _ _ _ (by intro e;injection e with e;omega)];exact c2
 have hS2:m≤n→GcdS w n m n m A c D d w1:=fun h=>⟨c0,f0,c1,f1,c2,f2,(HAB.out _ gw1).1,(HAB.out _ gw1).2,gw1,h,by omega,rfl⟩
 have HS:=Lib.hid (And.intro hS1 hS2)
 have HCM:=Lib.hid (And.intro (fun h:Mx.cmp n m<0=>(by unfold Mx.cmp at h;split at h;assumption;split at h<;>omega:n<m)) (fun h:0≤Mx.cmp n m=>(by unfold Mx.cmp at h;split at h;omega;omega:m≤n)))
 clear hg HC hS1 hS2 HAB gw1
 generalize Mx.cmp n m=cm at*
 go_upto_if 11 with fail
 go_cut [] (fun W=> ∃a b A c D d,GcdS w n m a b A c D d W)
 case first=>
  go_wp2_with fail
  all_goals go_meet
  ·exact ⟨_,_,_,_,_,_,HS.out.1 (HCM.out.1 (by assumption))⟩
  ·exact ⟨_,_,_,_,_,_,HS.out.2 (HCM.out.2 (by assumption))⟩
 case rest=>
  clear c0 c1 c2 f0 f1 f2 hs HCM HS
  obtain ⟨w2,rfl⟩: ∃x,x=wc:=⟨wc,rfl⟩
  obtain ⟨a,b,A2,c2,D2,d2,S2⟩:=hcut
  go_upto_block 0 with fail
  go_cut [] (fun W=> ∃a b A c D d,GcdS w n m a b A c D d W∧Mx.bits b≤64)
  case first=>
   go_wp2_with fail
   go_loopg [] b (fun k wr=> ∃a b A c D d,b≤k∧GcdS w n m a b A c D d wr)
   case atStart=>exact ⟨a,b,A2,c2,D2,d2,Nat.le_refl _,S2⟩
   case round=>
    obtain ⟨a,b,A3,c3,D3,d3,hbk,S3⟩:=hrel
    have hlb:Mx.len b≤1073741824:=by
     have h1:=Mx.len_mono S3.le
     have h2:=Mx.len_mono S3.top
     have h3:Mx.len (max n m)≤1073741824:=by rcases Nat.le_total n m with h|h;rw [Nat.max_eq_right h];exact hm;rw [Nat.max_eq_left h];exact hn
     omega
    have HBI:=Lib.hid (bits_any wr _ b (by omega) S3.nb)
    have HLE:=Lib.hid (fun W (g:Grow wr W)=>HLS.out W _ _ a b (S3.na.grow g) (S3.nb.grow g) S3.le S3.top)
    have HS3:=Lib.hid S3
    obtain ⟨c0,f0,c1,f1,c2,f2,_,_,_,_,_,_⟩:=S3
    have hbb:Mx.bits b≤68719476736:=by have:=Mx.bits_len b;omega
    generalize hbi:Mx.bits b=bi at*
    have HBB:=Lib.hid hbi
    clear hbi
    by_cases h64:64<bi
    ·have h64':decide ((64:Int)<(bi:Int))=true:=decide_eq_true (by omega)
     go_wp2_with fail
     refine HBI.out.mono ?_
     rintro e w3 ⟨v3,rfl,rfl,g3⟩
     have S4:=HS3.out.grow g3
     clear c0 f0 c1 f1 c2 f2
     have HS4:=Lib.hid S4
     obtain ⟨c0,f0,c1,f1,c2,f2,_,_,_,_,_,_⟩:=S4
     go_wp2_with fail
     refine (HLE.out _ g3 h64).mono ?_
     rintro e w4 ⟨v4,rfl,⟨x,y,a',b',rfl,hx,hy,h1,h2,h3,h4⟩,g4⟩
     have S5:=HS4.out.grow g4
     have HS5:=Lib.hid S5
     have HX:=Lib.hid hx
     have HY:=Lib.hid hy
     obtain ⟨A5,c5,rfl,_,_⟩:=hx
     obtain ⟨D5,d5,rfl,_,_⟩:=hy
     have HN:=Lib.hid (And.intro h1 (And.intro h2 (And.intro h3 h4)))
     clear c0 f0 c1 f1 c2 f2 h1 h2 h3 h4
     obtain ⟨c0,f0,c1,f1,c2,f2,_,_,_,_,_,_⟩:=S5
     go_wp2_with fail
     go_roundg b'
     case measure=>have:=HN.out.2.2.1;omega
     case rel=>
      obtain ⟨h1,h2,h3,h4⟩:=HN.out
      exact ⟨a',b',A5,c5,D5,d5,Nat.le_refl _,HS5.out.next HX.out HY.out h1 (Nat.le_trans h2 HS5.out.top) (h4.trans HS5.out.gcd)⟩
    ·have h64':decide ((64:Int)<(bi:Int))=false:=decide_eq_false (by omega)
     go_wp2_with fail
     refine HBI.out.mono ?_
     rintro e w3 ⟨v3,rfl,rfl,g3⟩
     go_wp2_with fail
     go_meet
     exact ⟨a,b,A3,c3,D3,d3,HS3.out.grow g3,by rw [HBB.out];omega⟩
  case rest=>
   clear S2 HLS
   obtain ⟨w3,rfl⟩: ∃x,x=wc:=⟨wc,rfl⟩
   obtain ⟨a,b,A3,c3,D3,d3,S3,hbits⟩:=hcut
   have hb64:b<Mx.B:=Nat.lt_of_lt_of_le (Mx.bits_lt b) (by rw [show Mx.B=2^64 from rfl];exact Nat.pow_le_pow_right (by omega) hbits)
   have hla:Mx.len a≤1073741824:=by
    have h2:=Mx.len_mono S3.top
    have h3:Mx.len (max n m)≤1073741824:=by rcases Nat.le_total n m with h|h;rw [Nat.max_eq_right h];exact hm;rw [Nat.max_eq_left h];exact hn
    omega
   have HZ:=Lib.hid (zero_any w3 _ b S3.nb)
   have HDV:=Lib.hid (fun W (g:Grow w3 W)=>div_any W _ _ a b hla (S3.na.grow g) (S3.nb.grow g))
   have HS3:=Lib.hid S3
   obtain ⟨c0,f0,c1,f1,c2,f2,_,_,_,_,_,hgc⟩:=S3
   have HGC:=Lib.hid hgc
   clear hgc
   by_cases h0:b=0
   ·subst h0
    simp only [BEq.rfl] at HZ
    go_wp2_with fail
    refine HZ.out.mono ?_
    rintro e w4 ⟨v4,rfl,rfl,g4⟩
    have S4:=HS3.out.grow g4
    have HS4:=Lib.hid S4
    clear c0 f0 c1 f1 c2 f2
    obtain ⟨c0,f0,c1,f1,c2,f2,_,_,_,_,_,_⟩:=S4
    go_wp2_with fail
    have hgz:=HGC.out
    rw [Nat.gcd_zero_right] at hgz
    refine bodyPost_ret (v:= .agg #[.slice A3 (Mx.len a) c3]) (by simp [results,Tryz.results49,go_sem,c2]) rfl (Ret.mk (by rw [←hgz];exact HS4.out.na.store c2 _) (HS4.out.gw.setCell (by show w.heap.size≤w.heap.size+1+1;omega) _))
   ·rw [show (b==0)=false by rw [beq_eq_false_iff_ne];exact h0] at HZ
    have HH:=Lib.hid h0
    clear h0
    go_wp2_with fail
    refine HZ.out.mono ?_
    rintro e w4 ⟨v4,rfl,rfl,g4⟩
    have S4:=HS3.out.grow g4
    have HS4:=Lib.hid S4
    clear c0 f0 c1 f1 c2 f2
    obtain ⟨c0,f0,c1,f1,c2,f2,_,_,_,_,_,_⟩:=S4
    go_wp2_with fail
    refine (HDV.out _ g4 HH.out).mono ?_
    rintro e w5 ⟨v5,rfl,⟨q,r,rfl,hq,hr⟩,g5⟩
    have S5:=HS4.out.grow g5
    have HS5:=Lib.hid S5
    have HR:=Lib.hid hr
    obtain ⟨A5,c5,rfl,_,_⟩:=hq
    obtain ⟨D5,d5,rfl,_,_⟩:=hr
    clear c0 f0 c1 f1 c2 f2
    obtain ⟨c0,f0,c1,f1,c2,f2,_,_,_,_,_,_⟩:=S5
    have hs:w.heap.size+1+1<w5.heap.size:=lt_of_cell c2
    go_wp2_with fail
    have g6:Grow w5 ((w5.alloc (Obj.cells #[Value.slice A5 (Mx.len (a/b)) c5] 24)).alloc (Obj.cells #[Value.slice D5 (Mx.len (a%b)) d5] 24)):=((Grow.refl _).alloc _).alloc _
    have hc6:((w5.alloc (Obj.cells #[Value.slice A5 (Mx.len (a/b)) c5] 24)).alloc (Obj.cells #[Value.slice D5 (Mx.len (a%b)) d5] 24)).cell? ⟨w5.heap.size+1,0,none⟩=some (Value.slice D5 (Mx.len (a%b)) d5):=by simp [go_sem]
    generalize ((w5.alloc (Obj.cells #[Value.slice A5 (Mx.len (a/b)) c5] 24)).alloc (Obj.cells #[Value.slice D5 (Mx.len (a%b)) d5] 24))=w6 at*
    have S6:=HS5.out.grow g6
    have HR6:=HR.out.grow g6
    have hlb:Mx.len b≤1073741824:=Nat.le_trans (Mx.len_mono S6.le) hla
    have hab:a%b<b:=Nat.mod_lt _ (by have:=HH.out;omega)
    have hlr:Mx.len (a%b)≤1073741824:=Nat.le_trans (Mx.len_mono (Nat.le_of_lt hab)) hlb
    have hge:Nat.gcd b (a%b)=Nat.gcd n m:=by rw [←S6.gcd,Nat.gcd_comm a b,Nat.gcd_rec b a,Nat.gcd_comm]
    have hgl:Nat.gcd n m<Mx.B:=by rw [←hge];exact Nat.lt_of_le_of_lt (Nat.gcd_le_left _ (by have:=HH.out;omega)) hb64
    refine Rg.region_eq (ops':=gcdOps8) (by kernel_rfl) (gcd_region8 (b:=b) (r:=a%b) (g:=Nat.gcd n m) rfl rfl rfl rfl S6.c1 hc6 S6.c2 S6.f2 S6.nb HR6 hb64 (by omega) hge hgl hlb hlr ?_)
    intro f w7 A7 c7 g7 h7
    have c2':=g7.cells1 S6.c2
    have GW:=Lib.hid (S6.gw.trans g7)
    have H7:=Lib.hid h7
    clear c0 f0 c1 f1 c2 f2 hc6 HR6 S6 hge hgl g6 g5 g4 HS3 HS4 HS5 HZ HDV HR hlb hlr hab g7 h7
    simp only [Rg.puts,Act.put,List.setIfInBounds_toArray,List.set_cons_succ,List.set_cons_zero]
    go_wp2_with fail
    refine bodyPost_ret (v:= .agg #[.slice A7 (Mx.len (Nat.gcd n m)) c7]) (by simp [results,Tryz.results49,go_sem,c2']) rfl (Ret.mk (H7.out.store c2' _) (GW.out.setCell (by show w.heap.size≤w.heap.size+1+1;omega) _))
end Go.Proofs.YthebilnlljkfeaaGreatDoor
namespace Go.Proofs.YthebilnlljkfeaaGreatDoor
open Go.RowKit
set_option maxRecDepth 20000
theorem div_n {w:World} {va vb:Value} {n m k j:Nat} (ha:IsN w va n k) (hb:IsN w vb m j) (hk:k≤1073741824) (hm:m≠0):
  Calls Tryz.prog 79 #[va,vb] w (Ret w fun v w'=> ∃q r,v= .tuple #[q,r, .int .i64 0]∧IsN w' q (n/m) k∧IsN w' r (n%m) j):=
 (div_any w va vb n m (Nat.le_trans ha.2 hk) ha.1 hb.1 hm).mono fun _ _ r=>r.mono fun _ _ ⟨q,s,e,h1,h2⟩=>⟨q,s,e,⟨h1,Nat.le_trans (Mx.len_mono (Nat.div_le_self n m)) ha.2⟩,⟨h2,Nat.le_trans (Mx.len_mono (Nat.le_of_lt (Nat.mod_lt n (by omega)))) hb.2⟩⟩
theorem div_zero_n {w:World} {va vb:Value} {n k:Nat} (ha:IsN w va n k) (hb:IsNat w vb 0):
  Calls Tryz.prog 79 #[va,vb] w (Ret w fun v w'=> ∃q r,v= .tuple #[q,r, .int .i64 8]∧IsN w' q 0 0∧IsN w' r 0 0):=
 (div_zero w va vb n ha.1 hb).mono fun _ _ r=>r.mono fun _ _ ⟨q,s,e,h1,h2⟩=>⟨q,s,e,⟨h1,Nat.le_refl _⟩,⟨h2,Nat.le_refl _⟩⟩
theorem len_shl (n s:Nat):Mx.len (n*2^s)≤Mx.len n+s/64+1:=by
 apply Mx.len_le_of_lt
 have h1:=Mx.lt_pow_len n
 have h2:n*2^s<Mx.B^Mx.len n*2^s:=Nat.mul_lt_mul_of_pos_right h1 (Mx.pow2_pos _)
 have h3:Mx.B^Mx.len n*2^s≤Mx.B^Mx.len n*Mx.B^(s/64+1):=Nat.mul_le_mul_left _ (by rw [Mx.B_pow];exact Nat.pow_le_pow_right (by omega) (by omega))
 rw [←Nat.pow_add] at h3
 exact Nat.lt_of_lt_of_le h2 h3
theorem gcd_small {w:World} {va vb:Value} {n m:Nat} (ha:IsN w va n 1) (hb:IsN w vb m 1):
  Calls Tryz.prog 49 #[va,vb] w (Ret w fun v w'=>IsN w' v (Nat.gcd n m) 1):=by
 have hlt: ∀x,Mx.len x≤1→x<Mx.B:=fun x h=>by
  have h1:=Mx.lt_pow_len x
  have h2:Mx.B^Mx.len x≤Mx.B^1:=Nat.pow_le_pow_right Mx.B_pos h
  rw [Nat.pow_one] at h2
  omega
 refine (gcd_of w va vb n m (Nat.le_trans ha.2 (by omega)) (Nat.le_trans hb.2 (by omega)) ha.1 hb.1 ?_).mono fun _ _ r=>r.mono fun v w' h=>⟨h, ?_⟩
 ·intro W va vb a b _ _ hba ham h64
  exfalso
  have h1:b<Mx.B:=by have:=hlt n ha.2;have:=hlt m hb.2;omega
  have h2:Mx.bits b≤64:=Mx.bits_le_of_lt h1
  omega
 ·apply Mx.len_le_of_lt
  rw [Nat.pow_one]
  rcases Nat.eq_zero_or_pos n with h0|h0
  ·subst h0;rw [Nat.gcd_zero_left];exact hlt m hb.2
  ·exact Nat.lt_of_le_of_lt (Nat.gcd_le_left _ h0) (hlt n ha.2)
namespace Rg
section
variable {ops:Array Oper} {Q:Exit→Act→World→Prop} {F:Facts} {a0:Act} {w0:World}
theorem en_gcd:Enters Tryz.prog 49:=enters_of Tryz.func49 (by kernel_rfl) rfl
theorem callGcdS {i d x y n m:Nat} {ts:Array TypeId} (dx:depI ops i x=true) (dy:depI ops i y=true) (hx: ∀w v,F x w v→IsN w v n 1) (hy: ∀w v,F y w v→IsN w v m 1)
  (hF: ∀w v,IsN w v (Nat.gcd n m) 1→F d w v):Owes Tryz.prog ops Q F a0 w0 i (some d) (.call {callee:= .value (.func 49),args:= #[.tmp x, .tmp y],argTypes:=ts}):=
 fun _ _ _ ho hd _ _ D=>call2 ho en_gcd hd (gcd_small (hx _ _ (D x dx)) (hy _ _ (D y dy))) fun _ _ ⟨v,e,h,g⟩=>⟨v,e,hF _ _ h,g⟩
theorem eqlE {i d x:Nat} {m c:Int} {b:Bool} (dx:depI ops i x=true) (hx: ∀w v,F x w v→v= .int .i64 m) (hb:(m==c)=b) (hF: ∀w v,v= .bool b→F d w v):
  Owes Tryz.prog ops Q F a0 w0 i (some d) (.binOp .eql 36 (.tmp x) (.const (.int .i64 c)) 36):=
 fun o a w ho hd hg ha D=>valOf (v:= .bool b) (w':=w) (by
  have e:a.tmps.getD x undef= .int .i64 m:=hx _ _ (D x dx)
  subst hb
  simp only [Array.getD_eq_getD_getElem?] at e
  simp [execOp,ho,go_sem,Act.eval,e]) hd (hF _ _ rfl) (Grow.refl w)
theorem lssI {i d x:Nat} {m c:Int} {b:Bool} (dx:depI ops i x=true) (hx: ∀w v,F x w v→v= .int .i64 m) (hb:decide (m<c)=b) (hF: ∀w v,v= .bool b→F d w v):
  Owes Tryz.prog ops Q F a0 w0 i (some d) (.binOp .lss 3 (.tmp x) (.const (.int .i64 c)) 3):=
 fun o a w ho hd hg ha D=>valOf (v:= .bool b) (w':=w) (by
  have e:a.tmps.getD x undef= .int .i64 m:=hx _ _ (D x dx)
  subst hb
  simp only [Array.getD_eq_getD_getElem?] at e
  simp [execOp,ho,go_sem,Act.eval,e]) hd (hF _ _ rfl) (Grow.refl w)
end
end Rg
end Go.Proofs.YthebilnlljkfeaaGreatDoor
namespace Go.Proofs.YthebilnlljkfeaaGreatDoor
open Go.RowKit
theorem IsN.store {w:World} {v:Value} {n b:Nat} (h:IsN w v n b) {p:Addr} {A':Option Addr} {k c:Nat} (hp:w.cell? p=some (.slice A' k c)) (u:Value):IsN (w.setCell p u) v n b:=⟨h.1.store hp u,h.2⟩
def IsQR (w:World) (v:Value) (q r j k:Nat):Prop:= ∃x y,v= .tuple #[x,y, .int .i64 0]∧IsN w x q j∧IsN w y r k
theorem IsQR.grow {w w':World} {v:Value} {q r j k:Nat} (h:IsQR w v q r j k) (g:Grow w w'):IsQR w' v q r j k:=by
 obtain ⟨x,y,e,h1,h2⟩:=h
 exact ⟨x,y,e,h1.grow g,h2.grow g⟩
theorem IsQR.store {w:World} {v:Value} {q r j b:Nat} (h:IsQR w v q r j b) {p:Addr} {A':Option Addr} {k c:Nat} (hp:w.cell? p=some (.slice A' k c)) (u:Value):IsQR (w.setCell p u) v q r j b:=by
 obtain ⟨x,y,e,h1,h2⟩:=h
 exact ⟨x,y,e,h1.store hp u,h2.store hp u⟩
namespace Rg
section
variable {ops:Array Oper} {Q:Exit→Act→World→Prop} {F:Facts} {a0:Act} {w0:World} {V:VS}
theorem en_div:Enters Tryz.prog 79:=enters_of Tryz.func79 (by kernel_rfl) rfl
theorem callDiv {i d x y n m k j:Nat} {ts:Array TypeId} (dx:depI ops i x=true) (dy:depI ops i y=true) (hx: ∀w v,F x w v→IsN w v n k) (hy: ∀w v,F y w v→IsN w v m j) (hk:k≤1073741824) (hm:m≠0)
  (hF: ∀w v,IsQR w v (n/m) (n%m) k j→F d w v):Owes Tryz.prog ops Q F a0 w0 i (some d) (.call {callee:= .value (.func 79),args:= #[.tmp x, .tmp y],argTypes:=ts}):=
 fun _ _ _ ho hd _ _ D=>call2 ho en_div hd (div_n (hx _ _ (D x dx)) (hy _ _ (D y dy)) hk hm) fun _ _ ⟨v,e,h,g⟩=>⟨v,e,hF _ _ h,g⟩
theorem extract0 {i d x q r j k:Nat} (dx:depI ops i x=true) (hx: ∀w v,F x w v→IsQR w v q r j k) (hF: ∀w v,IsN w v q j→F d w v):Owes Tryz.prog ops Q F a0 w0 i (some d) (.extract (.tmp x) 0):=
 fun o a w ho hd hg ha D=>by
  obtain ⟨u,z,e,h1,h2⟩:=hx _ _ (D x dx)
  refine valOf (v:=u) (w':=w) ?_ hd (hF _ _ h1) (Grow.refl w)
  simp only [Array.getD_eq_getD_getElem?] at e
  simp [execOp,ho,go_sem,Act.eval,e]
theorem extract1 {i d x q r j k:Nat} (dx:depI ops i x=true) (hx: ∀w v,F x w v→IsQR w v q r j k) (hF: ∀w v,IsN w v r k→F d w v):Owes Tryz.prog ops Q F a0 w0 i (some d) (.extract (.tmp x) 1):=
 fun o a w ho hd hg ha D=>by
  obtain ⟨u,z,e,h1,h2⟩:=hx _ _ (D x dx)
  refine valOf (v:=z) (w':=w) ?_ hd (hF _ _ h2) (Grow.refl w)
  simp only [Array.getD_eq_getD_getElem?] at e
  simp [execOp,ho,go_sem,Act.eval,e]
theorem extract2 {i d x q r j k:Nat} (dx:depI ops i x=true) (hx: ∀w v,F x w v→IsQR w v q r j k) (hF: ∀w v,v= .int .i64 0→F d w v):Owes Tryz.prog ops Q F a0 w0 i (some d) (.extract (.tmp x) 2):=
 fun o a w ho hd hg ha D=>by
  obtain ⟨u,z,e,h1,h2⟩:=hx _ _ (D x dx)
  refine valOf (v:= .int .i64 0) (w':=w) ?_ hd (hF _ _ rfl) (Grow.refl w)
  simp only [Array.getD_eq_getD_getElem?] at e
  simp [execOp,ho,go_sem,Act.eval,e]
theorem step4N {i:Nat} {dst:Option Nat} {op:Op} (h:info ops i=some (dst,op,none)) (hal: ∀d,(V.al.map (·.2)).contains d=true→ ∀w v,F d w v) (hs:Owes Tryz.prog ops Q F a0 w0 i dst op):Step4 ops Q (fun d _ w v=>F d w v) V [] a0 w0 i:=by
 intro o ho a w hg ha hd
 obtain ⟨h1,h2,h3⟩:=info_parts h ho
 refine run_wanted ho (by simp [Region.wanted,h3]) (hs o a w h2 h1 hg.toGrow ha fun d hdi=> ?_)
 cases hc:(V.al.map (·.2)).contains d with
 |true=>exact hal d hc _ _
 |false=>exact hd d (by rw [←depI_eq ho];exact hdi) hc
end
end Rg
end Go.Proofs.YthebilnlljkfeaaGreatDoor
