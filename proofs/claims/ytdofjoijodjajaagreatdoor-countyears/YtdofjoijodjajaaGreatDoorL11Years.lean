/- CountYears. Written by a script (tools/laws). -/
import Derived.Test.YtdofjoijodjajaaGreatDoorL11S
namespace Go.Proofs.YtdofjoijodjajaaGreatDoor.X
open Go.Proofs.YtdofjoijodjajaaGreatDoor.Da
open Go.RowKit Go.Proofs.YtdofjoijodjajaaGreatDoor.Z
set_option linter.unusedVariables false
theorem mk97 (a b c:Int):rightI (mkY a 9700) (mkM b) (mkD (mkY a 9700) (mkM b) c):=mk_right (by decide) (by decide)
theorem y_in (a:Int):1≤mkY a 9700∧mkY a 9700≤9700:=mk_y (by decide)
theorem jan_ok {a p k:Int} (hp:0≤p∧p≤255) (h:0≤k∧k≤2):yrOk k (mkY a 9700) 1 1 (mkY a 9700+p) 1 1:=by
 have hy:=y_in a
 have r1:=first_right (y:=mkY a 9700) (by omega)
 have r2:=first_right (y:=mkY a 9700+p) (by omega)
 refine ⟨h,⟨r1,r2⟩, ?_⟩
 rcases Int.lt_or_le 0 p with c|c
 ·have:=num_lt r1 r2 (.inl (by omega))
  omega
 ·rw [show mkY a 9700+p=mkY a 9700 by omega]
  omega
theorem jan_2 {a p:Int} (hp:0≤p∧p≤255):yrA 2 (mkY a 9700) 1 1 (mkY a 9700+p) 1 1=((p:Int):Rat)/((1:Int):Rat):=by
 rw [(yr_yes (jan_ok hp (by decide))).1,yr_2,pos_first,pos_first,Rat.intCast_add]
 grind
theorem jan_0 {a p:Int} (hp:0≤p∧p≤255):yrA 0 (mkY a 9700) 1 1 (mkY a 9700+p) 1 1=((p:Int):Rat)/((1:Int):Rat):=by
 rw [(yr_yes (jan_ok hp (by decide))).1,yr_0,show thN (mkY a 9700) 1 1 (mkY a 9700+p) 1 1=360*p by unfold thN;rw [show thB 1 1=1 from rfl,show thA 1=1 from rfl];omega,Rat.intCast_mul]
 grind
theorem next_ok (a b c:Int):riT (dyT (mkY a 9700) (mkM b) (mkD (mkY a 9700) (mkM b) c) 1)∧nuT (dyT (mkY a 9700) (mkM b) (mkD (mkY a 9700) (mkM b) c) 1)=numI (mkY a 9700) (mkM b) (mkD (mkY a 9700) (mkM b) c)+1:=by
 have h:=mk97 a b c
 have hy:=y_in a
 have hi:=num_in h
 have f:=num_lt h (first_right (y:=9999) (by decide)) (.inl (by omega))
 have g:=num_in (first_right (y:=9999) (by decide))
 have t:=dtN_ok (z:=numI (mkY a 9700) (mkM b) (mkD (mkY a 9700) (mkM b) c)+1) (by omega) (by omega)
 rw [(dy_yes h).1]
 exact t
theorem next_1 (a b c:Int):yrOk 1 (mkY a 9700) (mkM b) (mkD (mkY a 9700) (mkM b) c) (dyT (mkY a 9700) (mkM b) (mkD (mkY a 9700) (mkM b) c) 1).1 (dyT (mkY a 9700) (mkM b) (mkD (mkY a 9700) (mkM b) c) 1).2.1 (dyT (mkY a 9700) (mkM b) (mkD (mkY a 9700) (mkM b) c) 1).2.2∧qtext (yrA 1 (mkY a 9700) (mkM b) (mkD (mkY a 9700) (mkM b) c) (dyT (mkY a 9700) (mkM b) (mkD (mkY a 9700) (mkM b) c) 1).1 (dyT (mkY a 9700) (mkM b) (mkD (mkY a 9700) (mkM b) c) 1).2.1 (dyT (mkY a 9700) (mkM b) (mkD (mkY a 9700) (mkM b) c) 1).2.2)= [49,47,51,54,53]:=by
 have h:=next_ok a b c
 have e:numI (dyT (mkY a 9700) (mkM b) (mkD (mkY a 9700) (mkM b) c) 1).1 (dyT (mkY a 9700) (mkM b) (mkD (mkY a 9700) (mkM b) c) 1).2.1 (dyT (mkY a 9700) (mkM b) (mkD (mkY a 9700) (mkM b) c) 1).2.2=numI (mkY a 9700) (mkM b) (mkD (mkY a 9700) (mkM b) c)+1:=h.2
 have ok:yrOk 1 (mkY a 9700) (mkM b) (mkD (mkY a 9700) (mkM b) c) (dyT (mkY a 9700) (mkM b) (mkD (mkY a 9700) (mkM b) c) 1).1 (dyT (mkY a 9700) (mkM b) (mkD (mkY a 9700) (mkM b) c) 1).2.1 (dyT (mkY a 9700) (mkM b) (mkD (mkY a 9700) (mkM b) c) 1).2.2:=⟨by decide,⟨mk97 a b c,h.1⟩,by omega⟩
 refine ⟨ok, ?_⟩
 rw [(yr_yes ok).1,yr_1,show numI (dyT (mkY a 9700) (mkM b) (mkD (mkY a 9700) (mkM b) c) 1).1 (dyT (mkY a 9700) (mkM b) (mkD (mkY a 9700) (mkM b) c) 1).2.1 (dyT (mkY a 9700) (mkM b) (mkD (mkY a 9700) (mkM b) c) 1).2.2-numI (mkY a 9700) (mkM b) (mkD (mkY a 9700) (mkM b) c)=1 by omega]
 exact qt_eq (la:= [49]) (lb:= [51,54,53]) (by decide+kernel) (by decide+kernel) (by decide+kernel) ⟨by decide, .inr ⟨by decide,by decide⟩⟩ ⟨by decide, .inr ⟨by decide,by decide⟩⟩
theorem mon_ok (a b c:Int):rightI (mkY a 9700) (mkM b) (min (mkD (mkY a 9700) (mkM b) c) 28)∧moOk (mkY a 9700) (mkM b) 1:=by
 have h:=mk97 a b c
 have hy:=y_in a
 have hm:=mk_m (b:=b)
 have h1:=h.1
 have h2:=h.2
 refine ⟨⟨by omega,by omega⟩, ?_⟩
 unfold moOk moI
 omega
abbrev monP (a b c:Int):Int×Int×Int:=adP (mkY a 9700) (mkM b) (min (mkD (mkY a 9700) (mkM b) c) 28) 1
theorem mon_1 (a b c:Int):riT (monP a b c)∧yrOk 0 (mkY a 9700) (mkM b) (min (mkD (mkY a 9700) (mkM b) c) 28) (monP a b c).1 (monP a b c).2.1 (monP a b c).2.2∧qtext (yrA 0 (mkY a 9700) (mkM b) (min (mkD (mkY a 9700) (mkM b) c) 28) (monP a b c).1 (monP a b c).2.1 (monP a b c).2.2)= [49,47,49,50]:=by
 obtain ⟨h1,h2⟩:=mon_ok a b c
 have e:monP a b c=adT (mkY a 9700) (mkM b) (min (mkD (mkY a 9700) (mkM b) c) 28) 1:=(ap_yes h1 h2).1
 have r:=ad_right h1.1 h2
 have ed:=ad_early (d:=min (mkD (mkY a 9700) (mkM b) c) 28) (by omega) h2
 have lt:=num_lt h1 r (by
  have:=ad_lt (y:=mkY a 9700) (m:=mkM b) (d:=min (mkD (mkY a 9700) (mkM b) c) 28) (n:=0) (n':=1) (by decide)
  rw [ad_zero h1] at this
  exact this)
 have ok:yrOk 0 (mkY a 9700) (mkM b) (min (mkD (mkY a 9700) (mkM b) c) 28) (monP a b c).1 (monP a b c).2.1 (monP a b c).2.2:=by
  rw [e]
  exact ⟨by decide,⟨h1,r⟩,Int.le_of_lt lt⟩
 refine ⟨by rw [e];exact r,ok, ?_⟩
 rw [(yr_yes ok).1,yr_0,e]
 have n:thN (mkY a 9700) (mkM b) (min (mkD (mkY a 9700) (mkM b) c) 28) (adT (mkY a 9700) (mkM b) (min (mkD (mkY a 9700) (mkM b) c) 28) 1).1 (adT (mkY a 9700) (mkM b) (min (mkD (mkY a 9700) (mkM b) c) 28) 1).2.1 (adT (mkY a 9700) (mkM b) (min (mkD (mkY a 9700) (mkM b) c) 28) 1).2.2=30:=by
  rw [ed]
  have m1:=mk_m (b:=b)
  have x:thB (min (mkD (mkY a 9700) (mkM b) c) 28) (min (mkD (mkY a 9700) (mkM b) c) 28)=min (mkD (mkY a 9700) (mkM b) c) 28:=by unfold thB;rw [if_neg (by omega)]
  have z:thA (min (mkD (mkY a 9700) (mkM b) c) 28)=min (mkD (mkY a 9700) (mkM b) c) 28:=by unfold thA;rw [if_neg (by omega)]
  unfold thN
  rw [x,z]
  show 360*(moY (moI (mkY a 9700) (mkM b) 1) -mkY a 9700)+30*(moM (moI (mkY a 9700) (mkM b) 1) -mkM b)+_-_=30
  unfold moY moM moI
  omega
 rw [n]
 exact qt_eq (la:= [49]) (lb:= [49,50]) (by decide+kernel) (by decide+kernel) (by decide+kernel) ⟨by decide, .inr ⟨by decide,by decide⟩⟩ ⟨by decide, .inr ⟨by decide,by decide⟩⟩
noncomputable def ctb45:List (Ct dk):= [
 ct2 18 0 en18 vQ vQ (fun x y=> .s (eI (cmpQ x.1 y.1))) (fun x y=> [x.2≤268435456,y.2≤268435456]) fun _ _ p _ _ _ h1 h2=>cmp_q h1 h2 p.1 p.2.1,
 ct1 12 0 en12 vR (fun x=> .s (.E (.string (str (qtext x.1))))) (fun x=> [x.2≤100000]) fun _ p _ _ h1=>print_r h1 p.1,
 ct2w 21 0 en21 vDt vI (.O .Tb) isTbk isTbk_ok (fun x y=> .t [eD (adP x.1 x.2.1 x.2.2 y).1 (adP x.1 x.2.1 x.2.2 y).2.1 (adP x.1 x.2.1 x.2.2 y).2.2,eI (adE x.1 x.2.1 x.2.2 y)]) (fun x y=> [-9223372036854775808≤y∧y≤9223372036854775807]) fun _ _ p _ _ _ _ h1 h2 hW=>pMAdd_t h1 h2 hW p.1,
 ct2w 16 0 en16 vDt vI (.O .Tb) isTbk isTbk_ok (fun x y=> .t [eD (dyT x.1 x.2.1 x.2.2 y).1 (dyT x.1 x.2.1 x.2.2 y).2.1 (dyT x.1 x.2.1 x.2.2 y).2.2,eI (dyE x.1 x.2.1 x.2.2 y)]) (fun x y=> [-9223372036854775808≤y∧y≤9223372036854775807]) fun _ _ p _ _ _ _ h1 h2 hW=>pDays10_t h1 h2 hW p.1,
 ct0w 14 0 en14 (.O .Tb) isTbk isTbk_ok (.s (eB true)) fun _ _ hW=>wakes11_t hW]++ctb44
theorem years11_t {w:World} {v0 v1:Value} {a b c p:Int} (h0:(f0 w (.s (eD a b c))).p w v0) (h1:(isE (.int .u8 p)) w v1) (hw:isTb w v0) (hp:0≤p∧p≤255):Calls Tryz.prog 5 #[v0,v1] w (Ret w fun v w'=>(isE (.bool true)) w' v):=by
 have hy:=y_in a
 exact fx ctb45 Tryz.func5 (hnX [(3,[(3,0,oS (eI p))]),(8,[(1,0,oS (eB false)),(4,0,oS (eB false)),(8,0,oS (eB false)),(14,0,oS (eI p)),(17,0,oS (eB false)),(23,0,oS (eB false)),(28,0,oS (eB false))]),(13,[(3,0,oS (eB true)),(8,0,oS (eB true)),(13,0,oS (eB true))])]) [(0,eD a b c),(1, .E (.int .u8 p)),(1000000, .O .Tb)] (.s (eB true)) ⟨h0,h1,hw,trivial⟩ ((1≤(9700:Int)∧(9700:Int)≤9999)∧tI (IntKind.i64.wrap p) p∧wp (mkY a (9700:Int)+p)∧(-9223372036854775808≤(1:Int)∧(1:Int)≤9223372036854775807)∧(!decide ((yrE (2:Int) (mkY a (9700:Int)) 1 1 (mkY a (9700:Int)+p) 1 1:Int)=0))=false∧(!decide ((yrE (0:Int) (mkY a (9700:Int)) 1 1 (mkY a (9700:Int)+p) 1 1:Int)=0))=false∧(!decide ((yrE (1:Int) (mkY a (9700:Int)) (mkM b) (mkD (mkY a (9700:Int)) (mkM b) c) (dyT (mkY a (9700:Int)) (mkM b) (mkD (mkY a (9700:Int)) (mkM b) c) (1:Int)).1 (dyT (mkY a (9700:Int)) (mkM b) (mkD (mkY a (9700:Int)) (mkM b) c) (1:Int)).2.1 (dyT (mkY a (9700:Int)) (mkM b) (mkD (mkY a (9700:Int)) (mkM b) c) (1:Int)).2.2:Int)=0))=false∧50≤268435456∧tI (IntKind.i64.wrap p) p∧(-9223372036854775807≤p∧p≤9223372036854775807)∧(1≤(1:Int)∧(1:Int)≤9223372036854775807)∧5≤100000∧(!(qtext (yrA (2:Int) (mkY a (9700:Int)) 1 1 (mkY a (9700:Int)+p) 1 1)==qtext (((p:Int):Rat)/(((1:Int):Int):Rat))))=false∧50≤268435456∧50≤268435456∧(!decide ((cmpQ (yrA (0:Int) (mkY a (9700:Int)) 1 1 (mkY a (9700:Int)+p) 1 1) (yrA (2:Int) (mkY a (9700:Int)) 1 1 (mkY a (9700:Int)+p) 1 1):Int)=0))=false∧50≤268435456∧(!(qtext (yrA (1:Int) (mkY a (9700:Int)) (mkM b) (mkD (mkY a (9700:Int)) (mkM b) c) (dyT (mkY a (9700:Int)) (mkM b) (mkD (mkY a (9700:Int)) (mkM b) c) (1:Int)).1 (dyT (mkY a (9700:Int)) (mkM b) (mkD (mkY a (9700:Int)) (mkM b) c) (1:Int)).2.1 (dyT (mkY a (9700:Int)) (mkM b) (mkD (mkY a (9700:Int)) (mkM b) c) (1:Int)).2.2)== [49,47,51,54,53]))=false∧(-9223372036854775808≤(1:Int)∧(1:Int)≤9223372036854775807)∧decide ((yrE (0:Int) (mkY a (9700:Int)) (mkM b) (min (mkD (mkY a (9700:Int)) (mkM b) c) 28) (adP (mkY a (9700:Int)) (mkM b) (min (mkD (mkY a (9700:Int)) (mkM b) c) 28) (1:Int)).1 (adP (mkY a (9700:Int)) (mkM b) (min (mkD (mkY a (9700:Int)) (mkM b) c) 28) (1:Int)).2.1 (adP (mkY a (9700:Int)) (mkM b) (min (mkD (mkY a (9700:Int)) (mkM b) c) 28) (1:Int)).2.2:Int)=0)=true∧50≤268435456∧(qtext (yrA (0:Int) (mkY a (9700:Int)) (mkM b) (min (mkD (mkY a (9700:Int)) (mkM b) c) 28) (adP (mkY a (9700:Int)) (mkM b) (min (mkD (mkY a (9700:Int)) (mkM b) c) 28) (1:Int)).1 (adP (mkY a (9700:Int)) (mkM b) (min (mkD (mkY a (9700:Int)) (mkM b) c) 28) (1:Int)).2.1 (adP (mkY a (9700:Int)) (mkM b) (min (mkD (mkY a (9700:Int)) (mkM b) c) 28) (1:Int)).2.2)== [49,47,49,50])=true∧decide ((chkI (adP (mkY a (9700:Int)) (mkM b) (min (mkD (mkY a (9700:Int)) (mkM b) c) 28) (1:Int)).1 (adP (mkY a (9700:Int)) (mkM b) (min (mkD (mkY a (9700:Int)) (mkM b) c) 28) (1:Int)).2.1 (adP (mkY a (9700:Int)) (mkM b) (min (mkD (mkY a (9700:Int)) (mkM b) c) 28) (1:Int)).2.2:Int)=0)=true∧true=true) ⟨(by decide),⟨rfl,i64_in (by omega) (by omega)⟩,wi (by omega),(by decide),(by rw [(yr_yes (jan_ok (a:=a) hp (k:=2) (by decide))).2];rfl),(by rw [(yr_yes (jan_ok (a:=a) hp (k:=0) (by decide))).2];rfl),(by rw [(yr_yes (next_1 a b c).1).2];rfl),(by omega),⟨rfl,i64_in (by omega) (by omega)⟩,(by omega),(by decide),(by omega),(by rw [jan_2 hp];simp),(by omega),(by omega),(by rw [jan_0 hp,jan_2 hp,cmpQ_same];rfl),(by omega),(by rw [(next_1 a b c).2];rfl),(by decide),decide_eq_true (yr_yes (mon_1 a b c).2.1).2,(by omega),(by rw [(mon_1 a b c).2.2];rfl),decide_eq_true (chk_1 (mon_1 a b c).1).1,rfl⟩
end Go.Proofs.YtdofjoijodjajaaGreatDoor.X
