/- Times of layer 12's laws: what is true of them. Written by a script (tools/laws). -/
import Derived.Test.YtjpilacbapibjaaGreatDoorL12S
namespace Go.Proofs.YtjpilacbapibjaaGreatDoor.X
open Go.Proofs.YtjpilacbapibjaaGreatDoor.Da
open Go.RowKit Go.Proofs.YtjpilacbapibjaaGreatDoor.Z
set_option linter.unusedVariables false
theorem tA_ri (a b c:Int):ri (tA a b c):=mk_right (by decide) (by decide)
theorem tA_in (a b c:Int):1≤nm (tA a b c)∧nm (tA a b c)≤3650000:=by
 have h:=tA_ri a b c
 have h1:=num_in h
 have h2:=(num_year h).2
 have h3:=mk_y (a:=a) (years:=9900) (by decide)
 have h4:=yS_mono (n:=(mkY a 9900).toNat) (m:=9900) (by omega)
 have h5:=yS_mono (n:=9900) (m:=9999) (by decide)
 rw [yS_last] at h5
 have e1:1≤nm (tA a b c):=h1.1
 have e2:nm (tA a b c)≤yS (mkY a 9900).toNat:=h2
 exact ⟨e1,by omega⟩
noncomputable abbrev tEn (a b c n:Int):D3:=dyT (mkY a (9900:Int)) (mkM b) (mkD (mkY a (9900:Int)) (mkM b) c) (n.tmod 2000)
theorem t_tm {n:Int} (hn:0≤n):0≤n.tmod 2000∧n.tmod 2000<2000:=⟨Int.tmod_nonneg _ hn,(tm_b n (k:=2000) (by decide)).2⟩
theorem t_B {a b c n:Int} (hn:0≤n):ri (tEn a b c n)∧nm (tEn a b c n)=nm (tA a b c)+n.tmod 2000:=by
 have i:=tA_in a b c
 have t:=t_tm hn
 have e:tEn a b c n=dtN (nm (tA a b c)+n.tmod 2000):=(dy_yes (tA_ri a b c)).1
 rw [e]
 exact ⟨ri_dt ⟨by omega,by omega⟩,nm_dt ⟨by omega,by omega⟩⟩
theorem cuts_ri {y m d:Int} {l:List Int} (h:rightI y m d): ∀c∈cutsT y m d l,ri c:=by
 intro c hc
 obtain ⟨k,_,e⟩:=List.mem_filterMap.1 hc
 split at e
 ·next h0=>
  injection e with e
  subst e
  rw [(dy_yes h).2] at h0
  rw [(dy_yes h).1]
  unfold ofE at h0
  split at h0
  ·next hz=>exact ri_dt hz
  ·cases h0
 ·cases e
theorem t_ok {a b c n:Int} {l:List Int} (hn:0≤n):spOk (tA a b c) (tEn a b c n) (cutsT (mkY a (9900:Int)) (mkM b) (mkD (mkY a (9900:Int)) (mkM b) c) l):=by
 have t:=t_tm hn
 refine ⟨⟨tA_ri a b c,(t_B hn).1,cuts_ri (tA_ri a b c)⟩, ?_⟩
 rw [(t_B hn).2]
 omega
theorem sp_chain {x y:D3} {cs:List D3} (h:spOk x y cs):chain (nm x) (nm y) (spL x y cs):=by
 rw [(sp_yes h).1]
 exact cut_chain _ h.2
theorem sp_part {x y:D3} {cs:List D3} (h:spOk x y cs) {i:Nat} (hi:i<(spL x y cs).length):(ri (dtN (pa (spL x y cs) i).1)∧nm (dtN (pa (spL x y cs) i).1)=(pa (spL x y cs) i).1)∧(ri (dtN (pa (spL x y cs) i).2)∧nm (dtN (pa (spL x y cs) i).2)=(pa (spL x y cs) i).2)∧(pa (spL x y cs) i).1<(pa (spL x y cs) i).2∧(pa (spL x y cs) i).1=endP (nm x) (spL x y cs) i:=by
 obtain ⟨c1,c2,c3,c4⟩:=chain_at (sp_chain h) hi
 have i1:=num_in h.1.1
 have i2:=num_in h.1.2.1
 have j1:1≤nm x:=i1.1
 have j2:nm y≤3652059:=i2.2
 have k2:(pa (spL x y cs) i).1<(pa (spL x y cs) i).2:=c2
 have k3:nm x≤(pa (spL x y cs) i).1:=c3
 have k4:(pa (spL x y cs) i).2≤nm y:=c4
 exact ⟨⟨ri_dt ⟨by omega,by omega⟩,nm_dt ⟨by omega,by omega⟩⟩,⟨ri_dt ⟨by omega,by omega⟩,nm_dt ⟨by omega,by omega⟩⟩,c2,c1⟩
theorem pd_d2 {l:List (Int×Int)} {i:Nat} (h:i<l.length):pd (l.map d2) i=d2 (pa l i):=by
 unfold pd pa
 rw [List.getD_eq_getElem?_getD,List.getD_eq_getElem?_getD,List.getElem?_map,List.getElem?_eq_getElem h]
 rfl
theorem sp_yrok {k:Int} (hk:0≤k∧k≤2) {x y:D3} {cs:List D3} (h:spOk x y cs) {i:Nat} (hi:i<(spL x y cs).length):yE k (pd ((spL x y cs).map d2) i)=0∧yA k (pd ((spL x y cs).map d2) i)=yrP k (pa (spL x y cs) i):=by
 obtain ⟨⟨a1,a2⟩,⟨b1,b2⟩,c,_⟩:=sp_part h hi
 rw [pd_d2 hi]
 have ok:yrOk k (dtN (pa (spL x y cs) i).1).1 (dtN (pa (spL x y cs) i).1).2.1 (dtN (pa (spL x y cs) i).1).2.2 (dtN (pa (spL x y cs) i).2).1 (dtN (pa (spL x y cs) i).2).2.1 (dtN (pa (spL x y cs) i).2).2.2:=⟨hk,⟨a1,b1⟩,by
  show nm (dtN (pa (spL x y cs) i).1)≤nm (dtN (pa (spL x y cs) i).2)
  omega⟩
 exact ⟨(yr_yes ok).2,(yr_yes ok).1⟩
theorem whole_sum {k:Int} (hk:k=1∨k=2) {x y:D3} {cs:List D3} (h:spOk x y cs):ysE k ((spL x y cs).map d2)=0∧ysA k ((spL x y cs).map d2) (fun _=>1)=yA k (x,y)∧yE k (x,y)=0:=by
 have hk':0≤k∧k≤2:=by omega
 obtain ⟨e1,e2⟩:=ys_yes (f:=fun _=>1) (k:=k) (ps:=(spL x y cs).map d2) fun j hj=>(sp_yrok hk' h (by rw [List.length_map] at hj;exact hj)).1
 have ok:yrOk k x.1 x.2.1 x.2.2 y.1 y.2.1 y.2.2:=⟨hk',⟨h.1.1,h.1.2.1⟩,h.2⟩
 refine ⟨e2, ?_,(yr_yes ok).2⟩
 rw [e1,List.length_map,wsum_congr (g:=fun i=>yrP k ((spL x y cs).getD i (0,0))) fun i hi=>by rw [(sp_yrok hk' h hi).2,Rat.mul_one];rfl,sum_chain hk (sp_chain h) _ (Nat.le_refl _),chain_end (sp_chain h)]
 show yrP k (nm x,nm y)=yrA k x.1 x.2.1 x.2.2 y.1 y.2.1 y.2.2
 rw [(yr_yes ok).1]
 unfold yrP
 simp only
 rw [dt_nm h.1.1,dt_nm h.1.2.1]
end Go.Proofs.YtjpilacbapibjaaGreatDoor.X
