/- slices.SortFunc at dates, by date.Cmp, as a call that turns an own list. -/
import Derived.Test.YtjpilacbapibjaaGreatDoorLibG
import Derived.Test.YtjpilacbapibjaaGreatDoorSk
import Derived.Test.YtjpilacbapibjaaGreatDoorSh
import Derived.Test.YtjpilacbapibjaaGreatDoorSs
import Derived.Test.YtjpilacbapibjaaGreatDoorXs
import Derived.Shelf.SlSortCmp.NoneTotal
namespace Go.Proofs.YtjpilacbapibjaaGreatDoor.X
open Go.RowKit Go.Proofs.YtjpilacbapibjaaGreatDoor.Z Go.Proofs.YtjpilacbapibjaaGreatDoor.Da Go.Sort
set_option linter.unusedVariables false
abbrev cfD (x y:D3):Int:=cmpI x.1 x.2.1 x.2.2 y.1 y.2.1 y.2.2
theorem lt_of (x y:D3):ltOf cfD x y=true↔ltD x y:=by
 unfold ltOf
 rw [decide_eq_true_eq]
 exact cmp_iff
theorem lt_not (x y:D3):ltOf cfD x y=false↔ ¬ltD x y:=by
 rw [←lt_of]
 simp
theorem swoD:SWO (ltOf cfD):=⟨fun x=>(lt_not x x).2 (lt_ir x),fun x y z h k=>(lt_of x z).2 (lt_tr ((lt_of x y).1 h) ((lt_of y z).1 k)),fun x y z h k=>(lt_not x z).2 (lt_nt ((lt_not x y).1 h) ((lt_not y z).1 k))⟩
theorem totD (x y:D3) (h:ltOf cfD x y=false) (k:ltOf cfD y x=false):x=y:=lt_tot ((lt_not x y).1 h) ((lt_not y x).1 k)
theorem le_same:(fun x y:D3=> !(ltOf cfD) y x)=leD:=rfl
theorem layD (size g:Nat) (w:World):CmpLays Tryz.prog 24 #[] dtW 3 cfD g 0 size w:=fun m os dk _ x y=>by
 have:=dcmp_w x y (sortWorldK dtW 3 w g 0 m dk os)
 rw [Array.append_empty]
 exact this
def mkRw (c:D3):Rw 3:=⟨dtW c,rfl,fun v hv=>dt_pv [c] (dtW c) (by simp) v hv⟩
theorem mk_rows (ds:List D3):(ds.map mkRw).map rwE=ds.map dtW:=by
 rw [List.map_map]
 exact List.map_congr_left fun c _=>rfl
theorem flat_mk (ds:List D3):flatK dtW 3 ds.toArray=flatK rwE 3 (ds.map mkRw).toArray:=by
 refine ext_get! (by simp) fun t ht=> ?_
 have ht':t<ds.length*3:=by simpa using ht
 have hi:t/3<ds.length:=by omega
 rw [get_flatK _ _ _ _ (by simpa using ht'),get_flatK _ _ _ _ (by simpa using ht')]
 congr 1
 rw [getElem!_pos _ (t/3) (by simpa using hi),getElem!_pos _ (t/3) (by simpa using hi)]
 simp [mkRw]
theorem rwE_inj {k:Nat}: ∀{d e:List (Rw k)},d.map rwE=e.map rwE→d=e:=by
 intro d
 induction d with
 |nil=>
  intro e h
  cases e with
  |nil=>rfl
  |cons x r=>cases h
 |cons x r ih=>
  intro e h
  cases e with
  |nil=>cases h
  |cons y s=>
   injection h with h1 h2
   rw [ih h2,Subtype.ext h1]
theorem rw_inj {d:List (Rw 3)} {ds:List D3} (h:d.map rwE=ds.map dtW):d=ds.map mkRw:=by
 have:d.map rwE=(ds.map mkRw).map rwE:=by rw [h,mk_rows]
 exact rwE_inj this
noncomputable def ttSort:Tt dk:=
 ⟨36,en36,28,3,false,fun l ks=>match ks with
  | [.E (.func (.func f) ⟨[]⟩ ⟨[]⟩)]=>cond (Nat.beq f 24) (some (((l.map dtR).mergeSort leD).map dtW,[l=(l.map dtR).map dtW,l.length≤4000000])) none
  |_=>none,fun l ks l' ps h hp w v vs hL hv=>by
   split at h
   ·next f=>
    cases hf:Nat.beq f 24 with
    |false=>rw [hf] at h;cases h
    |true=>
     rw [hf] at h
     injection h with h
     injection h with h1 h2
     have ef:=Nat.eq_of_beq_eq_true hf
     subst h1 h2 ef
     obtain ⟨p1,p2,_⟩:=hp
     match vs,hv with
     | [u],⟨hu,_⟩=>
      have hu':u= .func (.func 24) #[] #[]:=hu
      subst hu'
      generalize hds:l.map dtR=ds at p1⊢
      subst p1
      by_cases hne:ds= []
      ·subst hne
       obtain ⟨a,cap,rfl⟩:=ow_nil hL
       refine (AnyF.slices_SortFunc_none lg6 a cap _ w).mono fun e w' ⟨q1,q2⟩=> ?_
       subst q1 q2
       obtain ⟨v',e1,e2⟩:=still_post (ans:=false) hL
       exact ⟨v',rfl,by simpa using e2⟩
      ·obtain ⟨g,cap,rfl,hn,hm,hg,d,hd,hH⟩:=holds_ow hL (by simpa using hne)
       have ed:=rw_inj hd
       subst ed
       rw [List.length_map] at hn p2⊢
       have hH':HoldsK dtW 3 w g 0 ds.toArray:=by unfold HoldsK at hH⊢;rw [flat_mk];exact hH
       have:=AnyQ.slices_SortFunc_total lg6 3 (by intro w;kernel_rfl) (by intro w;kernel_rfl) dtW (fun _=>rfl) (fun x v hv=>pv_one (dt_pv [x] (dtW x) (by simp) v hv)) cfD swoD 24 #[] g 0 cap ds.toArray w en24 (layD _ g w) hH' hg (by simp;omega) totD
       have this':Calls Tryz.prog 36 #[.slice (some ⟨g,0,none⟩) ds.length cap, .func (.func 24) #[] #[]] w _:=this
       refine this'.mono fun e w' ⟨q1,n,os,q2⟩=> ?_
       subst q1
       have hlen:(ds.mergeSort leD).length=ds.length:=List.length_mergeSort ds
       obtain ⟨v',e1,e2⟩:=turned_post (ans:=false) (m:=n) (os:=os) (d:=(ds.mergeSort leD).map mkRw) (l:=ds.map dtW) (T:=28) (w:=w) (g:=g) (cap:=cap) (l':=(ds.mergeSort leD).map dtW) hL (mk_rows _) (by simp [hlen]) (w':=w') (by
        rw [q2]
        show grow (putRow id _ g 0 (flatK dtW 3 (ds.mergeSort leD).toArray)) os=grow (putRow id _ g 0 (flatK rwE 3 ((ds.mergeSort leD).map mkRw).toArray)) os
        rw [flat_mk]) rfl
       exact ⟨v',rfl,by simpa using e2⟩
   ·cases h⟩
end Go.Proofs.YtjpilacbapibjaaGreatDoor.X
