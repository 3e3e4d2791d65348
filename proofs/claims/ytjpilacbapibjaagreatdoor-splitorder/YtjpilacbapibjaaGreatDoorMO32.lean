/- Own mathematics and calculus that the laws of this seat lean on, part 32. -/
import Derived.Test.YtjpilacbapibjaaGreatDoorMO25
import Derived.Test.YtjpilacbapibjaaGreatDoorMO29
import Derived.Test.YtjpilacbapibjaaGreatDoorMO31
import Derived.Test.YtjpilacbapibjaaGreatDoorMO26
import Derived.Shelf.SlSortCmp.NoneTotal
import Derived.Test.YtjpilacbapibjaaGreatDoorMO28
namespace Go.Proofs.YtjpilacbapibjaaGreatDoor.Da
def scN:Int→List Int→List (Int×Int)
 |_,[]=> []
 |a,e::r=>(if e=a then [] else [(a,e)])++scN e r
theorem scN_cut {ns:List Int} {t:Int}: ∀{es:List Int} {a:Int},es.Pairwise (· ≤ ·)→(∀e∈es,a≤e∧e≤t)→(∀c,a<c→c<t→(c∈es↔c∈ns))→(a<t→t∈es)→scN a es=cutP ns a t:=by
 intro es
 induction es with
 |nil=>
  intro a _ _ _ h4
  rw [cut_no fun h=>by cases h4 h]
  rfl
 |cons e r ih=>
  intro a h1 h2 h3 h4
  obtain ⟨p1,p2⟩:=List.pairwise_cons.1 h1
  have he:=h2 e (.head _)
  by_cases hea:e=a
  ·subst hea
   show (if e=e then [] else [(e,e)])++scN e r=_
   rw [if_pos rfl,List.nil_append]
   refine ih p2 (fun m hm=>h2 m (.tail _ hm)) (fun c hc hc2=> ?_) fun h=> ?_
   ·rw [←h3 c hc hc2,List.mem_cons]
    exact ⟨.inr,fun h=>h.elim (fun e=>by omega) id⟩
   ·rcases List.mem_cons.1 (h4 h) with e|e
    ·omega
    ·exact e
  ·have hlt:a<e:=by omega
   have hat:a<t:=by omega
   have hn:nxt ns a t=e:=by
    have g:=nxt_gt ns hat
    have l:=nxt_le ns a t
    refine Int.le_antisymm ?_ ?_
    ·rcases Int.lt_or_le e t with c|c
     ·exact nxt_min ns ((h3 e hlt c).1 (.head _)) hlt
     ·omega
    ·rcases nxt_mem ns a t with h|h
     ·omega
     ·rcases Int.lt_or_le (nxt ns a t) t with c|c
      ·rcases List.mem_cons.1 ((h3 _ g c).2 h) with e2|e2
       ·omega
       ·exact p1 _ e2
      ·omega
   show (if e=a then [] else [(a,e)])++scN e r=_
   rw [if_neg hea,cut_yes hat,hn,ih p2 (fun m hm=>⟨p1 m hm,(h2 m (.tail _ hm)).2⟩) (fun c hc hc2=> ?_) fun h=> ?_]
   ·rfl
   ·rw [←h3 c (by omega) hc2,List.mem_cons]
    exact ⟨.inr,fun h=>h.elim (fun e=>by omega) id⟩
   ·rcases List.mem_cons.1 (h4 hat) with e2|e2
    ·omega
    ·exact e2
def scD:D3→List D3→List (D3×D3)
 |_,[]=> []
 |a,e::r=>(if e=a then [] else [(a,e)])++scD e r
theorem nm_inj {x y:D3} (h:ri x) (h':ri y) (e:nm x=nm y):x=y:=by rw [←dt_nm h,e,dt_nm h']
theorem scD_ok: ∀{es:List D3} {a:D3},ri a→(∀e∈es,ri e)→(scD a es).map n2=scN (nm a) (es.map nm)∧ ∀p∈scD a es,ri p.1∧ri p.2:=by
 intro es
 induction es with
 |nil=>intro a _ _;exact ⟨rfl,fun p hp=>by cases hp⟩
 |cons e r ih=>
  intro a ha he
  obtain ⟨i1,i2⟩:=ih (a:=e) (he e (.head _)) fun m hm=>he m (.tail _ hm)
  have hiff:(nm e=nm a)↔e=a:=⟨nm_inj (he e (.head _)) ha,fun h=>by rw [h]⟩
  constructor
  ·show ((if e=a then [] else [(a,e)])++scD e r).map n2=(if nm e=nm a then [] else [(nm a,nm e)])++scN (nm e) (r.map nm)
   rw [List.map_append,i1]
   congr 1
   by_cases h:e=a
   ·rw [if_pos h,if_pos (hiff.2 h)];rfl
   ·rw [if_neg h,if_neg fun h2=>h (hiff.1 h2)];rfl
  ·intro p hp
   rcases List.mem_append.1 hp with hp|hp
   ·split at hp
    ·cases hp
    ·rw [List.mem_singleton] at hp
     subst hp
     exact ⟨ha,he e (.head _)⟩
   ·exact i2 p hp
def leD (x y:D3):Bool:= !decide (cmpI y.1 y.2.1 y.2.2 x.1 x.2.1 x.2.2<0)
theorem leD_nm {x y:D3} (h:ri x) (h':ri y):leD x y=decide (nm x≤nm y):=by
 by_cases a:nm y<nm x
 ·have e1:cmpI y.1 y.2.1 y.2.2 x.1 x.2.1 x.2.2<0:=by rw [cmp_nm h' h,if_pos a];omega
  rw [show decide (nm x≤nm y)=false from decide_eq_false (by omega)]
  unfold leD
  rw [decide_eq_true e1]
  rfl
 ·have e1: ¬cmpI y.1 y.2.1 y.2.2 x.1 x.2.1 x.2.2<0:=by
   rw [cmp_nm h' h,if_neg a]
   split<;>omega
  rw [show decide (nm x≤nm y)=true from decide_eq_true (by omega)]
  unfold leD
  rw [decide_eq_false e1]
  rfl
def ltD (x y:D3):Prop:=before x.1 x.2.1 x.2.2 y.1 y.2.1 y.2.2
theorem cmp_iff {x y:D3}:cmpI x.1 x.2.1 x.2.2 y.1 y.2.1 y.2.2<0↔ltD x y:=by
 rw [ltD,←cmp_lt]
 have h:cmpI x.1 x.2.1 x.2.2 y.1 y.2.1 y.2.2= -1∨0≤cmpI x.1 x.2.1 x.2.2 y.1 y.2.1 y.2.2:=by
  unfold cmpI
  repeat' split
  all_goals omega
 omega
theorem lt_tr {x y z:D3} (h:ltD x y) (k:ltD y z):ltD x z:=by
 unfold ltD before at*
 omega
theorem lt_ir (x:D3): ¬ltD x x:=by
 unfold ltD before
 omega
theorem lt_tot {x y:D3} (h: ¬ltD x y) (k: ¬ltD y x):x=y:=by
 obtain ⟨a,b,c⟩:=x
 obtain ⟨d,e,f⟩:=y
 unfold ltD before at*
 simp only [Prod.mk.injEq]
 simp only at h k
 omega
theorem lt_nt {x y z:D3} (h: ¬ltD x y) (k: ¬ltD y z): ¬ltD x z:=by
 unfold ltD before at*
 omega
def esD (y:D3) (cs:List D3) (out:D3→Bool):List D3:=((cs.filter fun c=> !out c)++ [y]).mergeSort leD
theorem es_mem {y:D3} {cs:List D3} {out:D3→Bool} {e:D3}:e∈esD y cs out↔(e∈cs∧out e=false)∨e=y:=by
 unfold esD
 rw [(List.mergeSort_perm _ _).mem_iff,List.mem_append,List.mem_filter,List.mem_singleton]
 simp
theorem es_sorted {y:D3} {cs:List D3} {out:D3→Bool} (h: ∀e∈esD y cs out,ri e):((esD y cs out).map nm).Pairwise (· ≤ ·):=by
 have tr: ∀a b c:D3,leD a b=true→leD b c=true→leD a c=true:=by
  intro a b c h1 h2
  unfold leD at*
  simp only [Bool.not_eq_true',decide_eq_false_iff_not,cmp_iff] at*
  exact lt_nt h2 h1
 have tot: ∀a b:D3,(leD a b||leD b a)=true:=by
  intro a b
  unfold leD
  by_cases h:ltD a b
  ·rw [show decide (cmpI b.1 b.2.1 b.2.2 a.1 a.2.1 a.2.2<0)=false from decide_eq_false fun k=>lt_ir a (lt_tr h (cmp_iff.1 k))]
   rfl
  ·rw [show decide (cmpI a.1 a.2.1 a.2.2 b.1 b.2.1 b.2.2<0)=false from decide_eq_false fun k=>h (cmp_iff.1 k)]
   simp
 have hp:(esD y cs out).Pairwise fun a b=>leD a b=true:=List.pairwise_mergeSort tr tot _
 rw [List.pairwise_map]
 refine List.Pairwise.imp_of_mem (fun {a b} ha hb hab=> ?_) hp
 rw [leD_nm (h a ha) (h b hb)] at hab
 exact of_decide_eq_true hab
theorem scD_cut {x y:D3} {cs:List D3} {out:D3→Bool} (h:spOk x y cs) (ho: ∀c∈cs,out c=decide (¬(nm x<nm c∧nm c<nm y))):(scD x (esD y cs out)).map ptD=(spL x y cs).map ptW:=by
 have hr: ∀e∈esD y cs out,ri e:=fun e he=>by
  rcases es_mem.1 he with ⟨h1,_⟩|rfl
  ·exact h.1.2.2 e h1
  ·exact h.1.2.1
 have hin: ∀c∈cs,out c=false↔(nm x<nm c∧nm c<nm y):=fun c hc=>by
  rw [ho c hc]
  by_cases e:nm x<nm c∧nm c<nm y
  ·rw [decide_eq_false (not_not_intro e)];exact ⟨fun _=>e,fun _=>rfl⟩
  ·rw [decide_eq_true e];exact ⟨(fun h=>by cases h),fun h=>absurd h e⟩
 obtain ⟨i1,i2⟩:=scD_ok h.1.1 hr
 have e1:(scD x (esD y cs out)).map n2=cutP (nsOf cs) (nm x) (nm y):=by
  rw [i1]
  refine scN_cut (es_sorted hr) (fun e he=> ?_) (fun c h1 h2=> ?_) fun h1=>List.mem_map.2 ⟨y,es_mem.2 (.inr rfl),rfl⟩
  ·obtain ⟨d,hd,rfl⟩:=List.mem_map.1 he
   rcases es_mem.1 hd with ⟨k1,k2⟩|rfl
   ·have:=(hin d k1).1 k2
    omega
   ·exact ⟨h.2,Int.le_refl _⟩
  ·constructor
   ·intro hc
    obtain ⟨d,hd,rfl⟩:=List.mem_map.1 hc
    rcases es_mem.1 hd with ⟨k1,_⟩|rfl
    ·exact List.mem_map.2 ⟨d,k1,rfl⟩
    ·omega
   ·intro hc
    obtain ⟨d,hd,rfl⟩:=List.mem_map.1 hc
    exact List.mem_map.2 ⟨d,es_mem.2 (.inl ⟨hd,(hin d hd).2 ⟨h1,h2⟩⟩),rfl⟩
 rw [(sp_yes h).1,←e1,List.map_map]
 exact List.map_congr_left fun p hp=>ptD_eq (i2 p hp)
theorem scD_step {a e:D3} {es:List D3} {i:Nat} (hi:i<es.length) (he:es.getD i (0,0,0)=e):scD a (es.drop i)=(if e=a then [] else [(a,e)])++scD e (es.drop (i+1)):=by
 have:es.drop i=e::es.drop (i+1):=by
  rw [List.drop_eq_getElem_cons hi,←he,List.getD_eq_getElem?_getD,List.getElem?_eq_getElem hi]
  rfl
 rw [this]
 rfl
end Go.Proofs.YtjpilacbapibjaaGreatDoor.Da
namespace Go.Proofs.YtjpilacbapibjaaGreatDoor.X
open Go.RowKit Go.Proofs.YtjpilacbapibjaaGreatDoor.Z Go.Proofs.YtjpilacbapibjaaGreatDoor.Da Go.Sort
set_option linter.unusedVariables false
abbrev cfD (x y:D3):Int:=cmpI x.1 x.2.1 x.2.2 y.1 y.2.1 y.2.2
theorem lt_of (x y:D3):ltOf cfD x y=true↔ltD x y:=by
 unfold ltOf
 rw [decide_eq_true_eq]
 exact cmp_iff
theorem lt_not (x y:D3):ltOf cfD x y=false↔ ¬ltD x y:=by
 rw [←lt_of]
 simp
theorem swoD:SWO (ltOf cfD):=⟨fun x=>(lt_not x x).2 (lt_ir x),fun x y z h k=>(lt_of x z).2 (lt_tr ((lt_of x y).1 h) ((lt_of y z).1 k)),fun x y z h k=>(lt_not x z).2 (lt_nt ((lt_not x y).1 h) ((lt_not y z).1 k))⟩
theorem totD (x y:D3) (h:ltOf cfD x y=false) (k:ltOf cfD y x=false):x=y:=lt_tot ((lt_not x y).1 h) ((lt_not y x).1 k)
theorem layD (size g:Nat) (w:World):CmpLays Tryz.prog 24 #[] dtW 3 cfD g 0 size w:=fun m os dk _ x y=>by
 have:=dcmp_w x y (sortWorldK dtW 3 w g 0 m dk os)
 rw [Array.append_empty]
 exact this
def mkRw (c:D3):Rw 3:=⟨dtW c,rfl,fun v hv=>dt_pv [c] (dtW c) (by simp) v hv⟩
theorem mk_rows (ds:List D3):(ds.map mkRw).map rwE=ds.map dtW:=by
 rw [List.map_map]
 exact List.map_congr_left fun c _=>rfl
theorem flat_mk (ds:List D3):flatK dtW 3 ds.toArray=flatK rwE 3 (ds.map mkRw).toArray:=by
 refine ext_get! (by simp) fun t ht=> ?_
 have ht':t<ds.length*3:=by simpa using ht
 have hi:t/3<ds.length:=by omega
 rw [get_flatK _ _ _ _ (by simpa using ht'),get_flatK _ _ _ _ (by simpa using ht')]
 congr 1
 rw [getElem!_pos _ (t/3) (by simpa using hi),getElem!_pos _ (t/3) (by simpa using hi)]
 simp [mkRw]
theorem rwE_inj {k:Nat}: ∀{d e:List (Rw k)},d.map rwE=e.map rwE→d=e:=by
 intro d
 induction d with
 |nil=>
  intro e h
  cases e with
  |nil=>rfl
  |cons x r=>cases h
 |cons x r ih=>
  intro e h
  cases e with
  |nil=>cases h
  |cons y s=>
   injection h with h1 h2
   rw [ih h2,Subtype.ext h1]
theorem rw_inj {d:List (Rw 3)} {ds:List D3} (h:d.map rwE=ds.map dtW):d=ds.map mkRw:=by
 have:d.map rwE=(ds.map mkRw).map rwE:=by rw [h,mk_rows]
 exact rwE_inj this
noncomputable def ttSort:Tt dk:=
 ⟨36,en36,28,3,false,fun l ks=>match ks with
  | [.E (.func (.func f) ⟨[]⟩ ⟨[]⟩)]=>cond (Nat.beq f 24) (some (((l.map dtR).mergeSort leD).map dtW,[l=(l.map dtR).map dtW,l.length≤4000000])) none
  |_=>none,fun l ks l' ps h hp w v vs hL hv=>by
   split at h
   ·next f=>
    cases hf:Nat.beq f 24 with
    |false=>rw [hf] at h;cases h
    |true=>
     rw [hf] at h
     injection h with h
     injection h with h1 h2
     have ef:=Nat.eq_of_beq_eq_true hf
     subst h1 h2 ef
     obtain ⟨p1,p2,_⟩:=hp
     match vs,hv with
     | [u],⟨hu,_⟩=>
      have hu':u= .func (.func 24) #[] #[]:=hu
      subst hu'
      generalize hds:l.map dtR=ds at p1⊢
      subst p1
      by_cases hne:ds= []
      ·subst hne
       obtain ⟨a,cap,rfl⟩:=ow_nil hL
       refine (AnyF.slices_SortFunc_none lg6 a cap _ w).mono fun e w' ⟨q1,q2⟩=> ?_
       subst q1 q2
       obtain ⟨v',e1,e2⟩:=still_post (ans:=false) hL
       exact ⟨v',rfl,by simpa using e2⟩
      ·obtain ⟨g,cap,rfl,hn,hm,hg,d,hd,hH⟩:=holds_ow hL (by simpa using hne)
       have ed:=rw_inj hd
       subst ed
       rw [List.length_map] at hn p2⊢
       have hH':HoldsK dtW 3 w g 0 ds.toArray:=by unfold HoldsK at hH⊢;rw [flat_mk];exact hH
       have:=AnyQ.slices_SortFunc_total lg6 3 (by intro w;kernel_rfl) (by intro w;kernel_rfl) dtW (fun _=>rfl) (fun x v hv=>pv_one (dt_pv [x] (dtW x) (by simp) v hv)) cfD swoD 24 #[] g 0 cap ds.toArray w en24 (layD _ g w) hH' hg (by simp;omega) totD
       have this':Calls Tryz.prog 36 #[.slice (some ⟨g,0,none⟩) ds.length cap, .func (.func 24) #[] #[]] w _:=this
       refine this'.mono fun e w' ⟨q1,n,os,q2⟩=> ?_
       subst q1
       have hlen:(ds.mergeSort leD).length=ds.length:=List.length_mergeSort ds
       obtain ⟨v',e1,e2⟩:=turned_post (ans:=false) (m:=n) (os:=os) (d:=(ds.mergeSort leD).map mkRw) (l:=ds.map dtW) (T:=28) (w:=w) (g:=g) (cap:=cap) (l':=(ds.mergeSort leD).map dtW) hL (mk_rows _) (by simp [hlen]) (w':=w') (by
        rw [q2]
        show grow (putRow id _ g 0 (flatK dtW 3 (ds.mergeSort leD).toArray)) os=grow (putRow id _ g 0 (flatK rwE 3 ((ds.mergeSort leD).map mkRw).toArray)) os
        rw [flat_mk]) rfl
       exact ⟨v',rfl,by simpa using e2⟩
   ·cases h⟩
end Go.Proofs.YtjpilacbapibjaaGreatDoor.X
namespace Go.Proofs.YtjpilacbapibjaaGreatDoor.X
open Go.Proofs.YtjpilacbapibjaaGreatDoor.Da
open Go.RowKit Go.Proofs.YtjpilacbapibjaaGreatDoor.Z
set_option linter.unusedVariables false
theorem pb_1 {x y:D3} {cs:List D3} (h: ¬(ri x∧ri y∧ ∀c∈cs,ri c)):cond (cond (wrB x) true (wrB y)) true (((cs.map dtW).map dtR).any wrB)=true:=by
 rw [map_RW]
 unfold wrB
 by_cases a:ri x
 ·by_cases b:ri y
  ·have:=any_1 fun e=>h ⟨a,b,e⟩
   unfold wrB at this
   rw [decide_eq_true a,decide_eq_true b,this]
   rfl
  ·rw [decide_eq_true a,decide_eq_false b];rfl
 ·rw [decide_eq_false a];rfl
theorem pb_0 {x y:D3} {cs:List D3} (h: ¬ ¬(ri x∧ri y∧ ∀c∈cs,ri c)):cond (cond (wrB x) true (wrB y)) true (((cs.map dtW).map dtR).any wrB)=false:=by
 rw [map_RW]
 have h:=Classical.not_not.1 h
 have:=any_0 h.2.2
 unfold wrB at*
 rw [decide_eq_true h.1,decide_eq_true h.2.1,this]
 rfl
theorem d3_b (x y:D3):(decide ((x.1:Int)=y.1)&&(decide (x.2.1=y.2.1)&&(decide (x.2.2=y.2.2)&&true)))=decide (x=y):=by
 obtain ⟨a,b,c⟩:=x
 obtain ⟨d,e,f⟩:=y
 by_cases h1:a=d<;>by_cases h2:b=e<;>by_cases h3:c=f<;>simp [h1,h2,h3]
theorem out_nm {c x y:D3} (h:ri c) (hx:ri x) (hy:ri y):outB c x y=decide (¬(nm x<nm c∧nm c<nm y)):=by
 unfold outB
 rw [cmp_nm h hx,cmp_nm h hy]
 by_cases a:nm x<nm c
 ·by_cases b:nm c<nm y
  ·rw [if_neg (by omega),if_pos a,if_pos b,decide_eq_false (not_not_intro ⟨a,b⟩)];rfl
  ·rw [decide_eq_true (p:= ¬(nm x<nm c∧nm c<nm y)) fun e=>b e.2,if_neg b,Bool.or_eq_true]
   right
   split<;>rfl
 ·rw [decide_eq_true (p:= ¬(nm x<nm c∧nm c<nm y)) fun e=>a e.1,if_neg a,Bool.or_eq_true]
  left
  split<;>rfl
noncomputable abbrev ES (x y:D3) (cs:List D3):List D3:=esD y cs fun c=>outB c x y
theorem es_len (x y:D3) (cs:List D3):(ES x y cs).length≤cs.length+1:=by
 unfold ES esD
 rw [List.length_mergeSort,List.length_append]
 have:=List.length_filter_le (fun c=> !outB c x y) cs
 simp only [List.length_singleton]
 omega
theorem es_rows (x y:D3) (cs:List D3):(((cs.filter fun c=> !outB c x y)++ [y]).mergeSort leD).map dtW=(ES x y cs).map dtW:=rfl
theorem snoc_W (l:List D3) (y:D3):l.map dtW++ [[.int .i64 y.1, .int .i64 y.2.1, .int .i64 y.2.2]]=(l++ [y]).map dtW:=by rw [List.map_append];rfl
theorem snoc_D (l:List (D3×D3)) (a b:D3):l.map ptD++ [[.int .i64 a.1, .int .i64 a.2.1, .int .i64 a.2.2, .int .i64 b.1, .int .i64 b.2.1, .int .i64 b.2.2]]=(l++ [(a,b)]).map ptD:=by rw [List.map_append];rfl
def scS (x y:D3) (cs:List D3) (g:Nat×D3×List (D3×D3)):Prop:=g.1≤(ES x y cs).length∧g.2.2++scD g.2.1 ((ES x y cs).drop g.1)=scD x (ES x y cs)∧g.2.2.length≤g.1
theorem sc_1 {x y:D3} {cs:List D3} {g:Nat×D3×List (D3×D3)} (h:scS x y cs g) (hi:g.1<(ES x y cs).length) (he: ¬dcs (ES x y cs) g.1=g.2.1):scS x y cs (g.1+1,dcs (ES x y cs) g.1,g.2.2++ [(g.2.1,dcs (ES x y cs) g.1)]):=by
 refine ⟨hi, ?_, ?_⟩
 ·have:=h.2.1
  rw [scD_step (e:=dcs (ES x y cs) g.1) hi rfl,if_neg he] at this
  rw [←this]
  simp
 ·have:=h.2.2
  simp only [List.length_append,List.length_singleton]
  omega
theorem sc_0 {x y:D3} {cs:List D3} {g:Nat×D3×List (D3×D3)} (h:scS x y cs g) (hi:g.1<(ES x y cs).length) (he:dcs (ES x y cs) g.1=g.2.1):scS x y cs (g.1+1,dcs (ES x y cs) g.1,g.2.2):=by
 refine ⟨hi, ?_,Nat.le_succ_of_le h.2.2⟩
 have:=h.2.1
 rw [scD_step (e:=dcs (ES x y cs) g.1) hi rfl,if_pos he,List.nil_append] at this
 exact this
theorem sc_end {x y:D3} {cs:List D3} {g:Nat×D3×List (D3×D3)} (h:scS x y cs g) (hi:(ES x y cs).length≤g.1):g.2.2=scD x (ES x y cs):=by
 have:=h.2.1
 rw [List.drop_eq_nil_of_le hi] at this
 rw [←this]
 exact (List.append_nil _).symm
theorem sc_cut {x y:D3} {cs:List D3} (h:spOk x y cs):(scD x (ES x y cs)).map ptD=(spL x y cs).map ptW:=scD_cut h fun c hc=>out_nm (h.1.2.2 c hc) h.1.1 h.1.2.1
theorem sc3 (x y:D3) (cs:List D3) (g:Nat×D3×List (D3×D3)):(ES x y cs).length≤g.1∨(g.1<(ES x y cs).length∧ ¬dcs (ES x y cs) g.1=g.2.1)∨(g.1<(ES x y cs).length∧dcs (ES x y cs) g.1=g.2.1):=by
 rcases Nat.lt_or_ge g.1 (ES x y cs).length with h|h
 ·by_cases e:dcs (ES x y cs) g.1=g.2.1
  ·exact .inr (.inr ⟨h,e⟩)
  ·exact .inr (.inl ⟨h,e⟩)
 ·exact .inl h
theorem withinR {w:World} {v u t:Value} {x y:D3} {z:List (List Value)} (h1:isE (.agg #[.int .i64 x.1, .int .i64 x.2.1, .int .i64 x.2.2]) w v) (h2:isE (.agg #[.int .i64 y.1, .int .i64 y.2.1, .int .i64 y.2.2]) w u) (h3:isRd (cxA w) true 3 z w t) (e1:z=(z.map dtR).map dtW) (hn:z.length≤1000000):Calls Tryz.prog 35 #[v,u,t] w (Ret w fun v' w'=>(f0 w (.s (.L 28 3 (((z.map dtR).filter fun c=> !outB c x y).map dtW) true))).p w' v'):=by
 have e2:v= .agg #[.int .i64 x.1, .int .i64 x.2.1, .int .i64 x.2.2]:=h1
 have e3:u= .agg #[.int .i64 y.1, .int .i64 y.2.1, .int .i64 y.2.2]:=h2
 subst e2 e3
 rw [e1] at h3
 exact within_t h3 (by rw [List.length_map];exact hn)
theorem cmp_le {x y:D3} (h:ri x) (h':ri y) (ho: ¬0<cmpI x.1 x.2.1 x.2.2 y.1 y.2.1 y.2.2):nm x≤nm y:=by
 rcases Int.lt_or_le (nm y) (nm x) with c|c
 ·rw [cmp_nm h h',if_neg (by omega),if_pos c] at ho
  omega
 ·exact c
theorem sp_or12 {x y:D3} {cs:List D3} (h:ri x∧ri y∧ ∀c∈cs,ri c) (ho:0<cmpI x.1 x.2.1 x.2.2 y.1 y.2.1 y.2.2):spL x y cs= []∧spE x y cs=12:=sp_or ⟨h.1,h.2.1⟩ h.2.2 ho
noncomputable def ctb50:List (Ct dk):= [
 ct2 24 0 en24 vDt vDt (fun x y=> .s (eI (cmpI x.1 x.2.1 x.2.2 y.1 y.2.1 y.2.2))) (fun x y=> []) fun _ _ p _ _ _ h1 h2=>pCmp_t h1 h2,
 ct1w 33 0 en33 vDt (.O .Tb) isTbk isTbk_ok (fun x=> .s (eB (wrB (x.1,x.2.1,x.2.2)))) (fun x=> []) fun _ p _ _ _ h1 hW=>wrong_t h1 hW,
 ct2w 34 0 en34 (vL 3) vFn (.O .Tb) isTbk isTbk_ok (fun x y=> .s (eB ((x.map dtR).any wrB))) (fun x y=> [x=(x.map dtR).map dtW,y=33]) fun _ _ p _ _ _ _ h1 h2 hW=>cfWR h1 h2 hW p.1 p.2.1,
 ct3 35 0 en35 vDt vDt (vL 3) (fun x y z=> .s (.L 28 3 (((z.map dtR).filter fun c=> !outB c (x.1,x.2.1,x.2.2) (y.1,y.2.1,y.2.2)).map dtW) true)) (fun x y z=> [z=(z.map dtR).map dtW,(z:List (List Value)).length≤1000000]) fun _ _ _ p _ _ _ _ h1 h2 h3=>withinR h1 h2 h3 p.1 p.2.1]
noncomputable abbrev rpParts_t:=rXt ctb50 [ttSort] Tryz.f11
noncomputable abbrev dpParts_t (y1 m1 d1 y2 m2 d2:Int) (cs:List D3):=dXt ctb50 [ttSort] Tryz.f11 (.t [.L 74 6 ((spL (y1,m1,d1) (y2,m2,d2) cs).map ptW) true,eI (spE (y1,m1,d1) (y2,m2,d2) cs)])
noncomputable def hpParts_t (y1 m1 d1 y2 m2 d2:Int) (cs:List D3):Nat→Hint K:=hnX [(1,[(3,777777,none),(4,777777,none),(5,777777,none),(7,777777,none),(8,777777,none),(9,777777,none)]),(5,[(6,0,oS (.L 28 3 (((cs.filter fun c=> !outB c (y1,m1,d1) (y2,m2,d2))++ [(y2,m2,d2)]).map dtW) true))]),(6,[(1,0,oS (.L 28 3 ((ES (y1,m1,d1) (y2,m2,d2) cs).map dtW) true))]),(7,[(1,0,oS (eI (((ES (y1,m1,d1) (y2,m2,d2) cs).length:Nat):Int))),(2,0,oS (.L 74 6 (([]:List (D3×D3)).map ptD) true))]),(8,[(1,0,oS (eI (((ES (y1,m1,d1) (y2,m2,d2) cs).length:Nat):Int)))])]
noncomputable def ipParts_t_0 (y1 m1 d1 y2 m2 d2:Int) (cs:List D3) (g:Nat×D3×List (D3×D3)):Sx K:=⟨[(7,eI 0),(6, .E (.slice none 0 0)),(1000000, .O .Tb),(38, .L 28 3 ((ES (y1,m1,d1) (y2,m2,d2) cs).map dtW) true),(39,eI (((ES (y1,m1,d1) (y2,m2,d2) cs).length:Nat):Int)),(40,eI (g.1:Int)),(9, .L 74 6 (g.2.2.map ptD) true)],[⟨3,28,eD (g.2.1).1 (g.2.1).2.1 (g.2.1).2.2⟩]⟩
noncomputable def hpParts_t_0_0 (y1 m1 d1 y2 m2 d2:Int) (cs:List D3) (g:Nat×D3×List (D3×D3)):Nat→Hint K:=hnX [(9,[(0,0,oS (eB false))])]
noncomputable def hpParts_t_0_1 (y1 m1 d1 y2 m2 d2:Int) (cs:List D3) (g:Nat×D3×List (D3×D3)):Nat→Hint K:=hnX [(9,[(0,0,oS (eB true))]),(10,[(0,0,oS (.A [.int .i64 (dcs (ES (y1,m1,d1) (y2,m2,d2) cs) g.1).1, .int .i64 (dcs (ES (y1,m1,d1) (y2,m2,d2) cs) g.1).2.1, .int .i64 (dcs (ES (y1,m1,d1) (y2,m2,d2) cs) g.1).2.2]))]),(11,[(2,0,oS (eB true))]),(12,[(5,0,oS (.L 74 6 ((g.2.2++ [(g.2.1,dcs (ES (y1,m1,d1) (y2,m2,d2) cs) g.1)]).map ptD) true))]),(14,[(0,0,oS (eI ((g.1+1:Nat):Int)))])]
noncomputable def hpParts_t_0_2 (y1 m1 d1 y2 m2 d2:Int) (cs:List D3) (g:Nat×D3×List (D3×D3)):Nat→Hint K:=hnX [(9,[(0,0,oS (eB true))]),(10,[(0,0,oS (.A [.int .i64 (dcs (ES (y1,m1,d1) (y2,m2,d2) cs) g.1).1, .int .i64 (dcs (ES (y1,m1,d1) (y2,m2,d2) cs) g.1).2.1, .int .i64 (dcs (ES (y1,m1,d1) (y2,m2,d2) cs) g.1).2.2]))]),(11,[(2,0,oS (eB false))]),(14,[(0,0,oS (eI ((g.1+1:Nat):Int)))])]
theorem pParts_t {w:World} {v0 v1 v2:Value} {y1 m1 d1 y2 m2 d2:Int} {cs:List D3} (h0:(f0 w (.s (eD y1 m1 d1))).p w v0) (h1:(f0 w (.s (eD y2 m2 d2))).p w v1) (h2:(isRd (cxA w) true 3 (cs.map dtW)) w v2) (hw:isTb w v0) (hn:cs.length≤1000000):Calls Tryz.prog 11 #[v0,v1,v2] w (Ret w fun v w'=>(f0 w (.t [.L 74 6 ((spL (y1,m1,d1) (y2,m2,d2) cs).map ptW) true,eI (spE (y1,m1,d1) (y2,m2,d2) cs)])).p w' v):=by
 have hE:=es_len (y1,m1,d1) (y2,m2,d2) cs
 exact fxt ctb50 [ttSort] Tryz.func11 (hpParts_t y1 m1 d1 y2 m2 d2 cs) [(0,eD y1 m1 d1),(1,eD y2 m2 d2),(2, .L 28 3 (cs.map dtW) false),(1000000, .O .Tb)] (.t [.L 74 6 ((spL (y1,m1,d1) (y2,m2,d2) cs).map ptW) true,eI (spE (y1,m1,d1) (y2,m2,d2) cs)]) ⟨h0,h1,h2,hw,trivial⟩ (im2 (wrB (y1,m1,d1)==false)∧(wrB (y1,m1,d1)=false→(wrB (y1,m1,d1)==false)=true)∧((cond (wrB (y1,m1,d1)) true (wrB (y2,m2,d2))==false)=true→cs.map dtW=((cs.map dtW).map dtR).map dtW)∧((cond (wrB (y1,m1,d1)) true (wrB (y2,m2,d2))==false)=true→33=33)∧im2 (cond (wrB (y1,m1,d1)) true (wrB (y2,m2,d2))==false)∧(cond (wrB (y1,m1,d1)) true (wrB (y2,m2,d2))=false→(cond (wrB (y1,m1,d1)) true (wrB (y2,m2,d2))==false)=true)∧cnd (cond (cond (wrB (y1,m1,d1)) true (wrB (y2,m2,d2))) true (((cs.map dtW).map dtR).any wrB)) (tK (.E (.slice none 0 0)) (.L 74 6 ((spL (y1,m1,d1) (y2,m2,d2) cs).map ptW) true)∧tI 11 (spE (y1,m1,d1) (y2,m2,d2) cs)∧True) (cnd (decide ((0:Int)<cmpI y1 m1 d1 y2 m2 d2)) (tK (.E (.slice none 0 0)) (.L 74 6 ((spL (y1,m1,d1) (y2,m2,d2) cs).map ptW) true)∧tI 12 (spE (y1,m1,d1) (y2,m2,d2) cs)∧True) (cs.map dtW=((cs.map dtW).map dtR).map dtW∧(cs.map dtW:List (List Value)).length≤1000000∧(((((cs.map dtW).map dtR).filter fun c=> !outB c (y1,m1,d1) (y2,m2,d2)).map dtW).length+([[.int .i64 y2, .int .i64 m2, .int .i64 d2]]:List (List Value)).length)*24≤140737488355328∧tLs 28 3 true ((((cs.map dtW).map dtR).filter fun c=> !outB c (y1,m1,d1) (y2,m2,d2)).map dtW++([[.int .i64 y2, .int .i64 m2, .int .i64 d2]]:List (List Value))) (((cs.filter fun c=> !outB c (y1,m1,d1) (y2,m2,d2))++ [(y2,m2,d2)]).map dtW)∧((cs.filter fun c=> !outB c (y1,m1,d1) (y2,m2,d2))++ [(y2,m2,d2)]).map dtW=((((cs.filter fun c=> !outB c (y1,m1,d1) (y2,m2,d2))++ [(y2,m2,d2)]).map dtW).map dtR).map dtW∧(((cs.filter fun c=> !outB c (y1,m1,d1) (y2,m2,d2))++ [(y2,m2,d2)]).map dtW).length≤4000000∧tLs 28 3 true ((((((cs.filter fun c=> !outB c (y1,m1,d1) (y2,m2,d2))++ [(y2,m2,d2)]).map dtW).map dtR).mergeSort leD).map dtW) ((ES (y1,m1,d1) (y2,m2,d2) cs).map dtW)∧tI ((((ES (y1,m1,d1) (y2,m2,d2) cs).map dtW).length:Nat):Int) (((ES (y1,m1,d1) (y2,m2,d2) cs).length:Nat):Int)∧(ES (y1,m1,d1) (y2,m2,d2) cs).length≤9223372036854775807∧48*(ES (y1,m1,d1) (y2,m2,d2) cs).length≤281474976710656∧tLs 74 6 true [] (([]:List (D3×D3)).map ptD)∧tI ((((ES (y1,m1,d1) (y2,m2,d2) cs).map dtW).length:Nat):Int) (((ES (y1,m1,d1) (y2,m2,d2) cs).length:Nat):Int)∧dpParts_t y1 m1 d1 y2 m2 d2 cs [1,1,1,1,1,0,1] [(hpParts_t y1 m1 d1 y2 m2 d2 cs)] [] (rlX (rpParts_t (hpParts_t y1 m1 d1 y2 m2 d2 cs)) [8,7,6,5,3,1] (ent Tryz.prog Tryz.f11 (κ:=K) [(0,eD y1 m1 d1),(1,eD y2 m2 d2),(2, .L 28 3 (cs.map dtW) false),(1000000, .O .Tb)]))))) ⟨id,(fun hp=>by simp_all),(fun hg=>(by first|(rw [map_RW];done)|rfl)),(fun hg=>rfl),id,(fun hp=>by simp_all),((Classical.em (¬(ri (y1,m1,d1)∧ri (y2,m2,d2)∧ ∀c∈cs,ri c))).elim (fun hr=>cnd_t (pb_1 hr) ⟨nil_L (by first|(rw [(sp_date hr).1];rfl)|(rw [(sp_or12 (Classical.not_not.1 hr) ho).1];rfl)|exact (congrArg (List.map ptD) hC1).trans (sc_cut (show spOk (y1,m1,d1) (y2,m2,d2) cs from ⟨Classical.not_not.1 hr,cmp_le (Classical.not_not.1 hr).1 (Classical.not_not.1 hr).2.1 ho⟩))),⟨rfl,by first|exact (sp_date hr).2.symm|exact (sp_or12 (Classical.not_not.1 hr) ho).2.symm|exact (sp_yes (show spOk (y1,m1,d1) (y2,m2,d2) cs from ⟨Classical.not_not.1 hr,cmp_le (Classical.not_not.1 hr).1 (Classical.not_not.1 hr).2.1 ho⟩)).2.symm⟩,trivial⟩) (fun hr=>cnd_f (pb_0 hr) ((Classical.em (0<cmpI y1 m1 d1 y2 m2 d2)).elim (fun ho=>cnd_t (decide_eq_true ho) ⟨nil_L (by first|(rw [(sp_date hr).1];rfl)|(rw [(sp_or12 (Classical.not_not.1 hr) ho).1];rfl)|exact (congrArg (List.map ptD) hC1).trans (sc_cut (show spOk (y1,m1,d1) (y2,m2,d2) cs from ⟨Classical.not_not.1 hr,cmp_le (Classical.not_not.1 hr).1 (Classical.not_not.1 hr).2.1 ho⟩))),⟨rfl,by first|exact (sp_date hr).2.symm|exact (sp_or12 (Classical.not_not.1 hr) ho).2.symm|exact (sp_yes (show spOk (y1,m1,d1) (y2,m2,d2) cs from ⟨Classical.not_not.1 hr,cmp_le (Classical.not_not.1 hr).1 (Classical.not_not.1 hr).2.1 ho⟩)).2.symm⟩,trivial⟩) (fun ho=>cnd_f (decide_eq_false ho) ⟨(by first|(rw [map_RW];done)|rfl),(by rw [List.length_map];exact hn),(by have:=List.length_filter_le (fun c=> !outB c (y1,m1,d1) (y2,m2,d2)) ((cs.map dtW).map dtR);rw [List.length_map,List.length_map] at this;rw [List.length_map,List.length_singleton];omega),⟨⟨rfl,rfl,rfl⟩,(by rw [map_RW];exact snoc_W _ (y2,m2,d2))⟩,(by first|(rw [map_RW];done)|rfl),(by have:=List.length_filter_le (fun c=> !outB c (y1,m1,d1) (y2,m2,d2)) cs;rw [List.length_map,List.length_append,List.length_singleton];omega),⟨⟨rfl,rfl,rfl⟩,(by rw [map_RW];exact es_rows _ _ _)⟩,⟨rfl,by simp⟩,(by omega),(by omega),⟨⟨rfl,rfl,rfl⟩,rfl⟩,⟨rfl,by simp⟩,(lpI (fun h S' J=>dpParts_t y1 m1 d1 y2 m2 d2 cs [1,1,1,1,1,0,1,0,2] [(hpParts_t y1 m1 d1 y2 m2 d2 cs),h] [J] S') (fun g:Nat×D3×List (D3×D3)=>scS (y1,m1,d1) (y2,m2,d2) cs g) (fun g=>(ES (y1,m1,d1) (y2,m2,d2) cs).length-g.1) (ipParts_t_0 y1 m1 d1 y2 m2 d2 cs) (0,(y1,m1,d1),[]) (rlX (rpParts_t (hpParts_t y1 m1 d1 y2 m2 d2 cs)) [8,7,6,5,3,1] (ent Tryz.prog Tryz.f11 (κ:=K) [(0,eD y1 m1 d1),(1,eD y2 m2 d2),(2, .L 28 3 (cs.map dtW) false),(1000000, .O .Tb)])) (⟨Nat.zero_le _,rfl,Nat.le_refl _⟩) (fun g hC1 J1 hJ1=>(by
  rcases sc3 (y1,m1,d1) (y2,m2,d2) cs g with h8|h8|h8
  ·exact ⟨hpParts_t_0_0 y1 m1 d1 y2 m2 d2 cs g,vcP (decide (((g.1:Int):Int)<(((ES (y1,m1,d1) (y2,m2,d2) cs).length:Nat):Int))=false∧(tLs 74 6 true (g.2.2.map ptD) ((spL (y1,m1,d1) (y2,m2,d2) cs).map ptW)∧tI 0 (spE (y1,m1,d1) (y2,m2,d2) cs)∧True)) ⟨decide_eq_false (by omega),(have hC1:g.2.2=scD (y1,m1,d1) (ES (y1,m1,d1) (y2,m2,d2) cs):=(sc_end hC1 h8);⟨⟨⟨rfl,rfl,rfl⟩,(by first|(rw [(sp_date hr).1];rfl)|(rw [(sp_or12 (Classical.not_not.1 hr) ho).1];rfl)|exact (congrArg (List.map ptD) hC1).trans (sc_cut (show spOk (y1,m1,d1) (y2,m2,d2) cs from ⟨Classical.not_not.1 hr,cmp_le (Classical.not_not.1 hr).1 (Classical.not_not.1 hr).2.1 ho⟩)))⟩,⟨rfl,by first|exact (sp_date hr).2.symm|exact (sp_or12 (Classical.not_not.1 hr) ho).2.symm|exact (sp_yes (show spOk (y1,m1,d1) (y2,m2,d2) cs from ⟨Classical.not_not.1 hr,cmp_le (Classical.not_not.1 hr).1 (Classical.not_not.1 hr).2.1 ho⟩)).2.symm⟩,trivial⟩)⟩⟩
  ·exact ⟨hpParts_t_0_1 y1 m1 d1 y2 m2 d2 cs g,vcP (decide (((g.1:Int):Int)<(((ES (y1,m1,d1) (y2,m2,d2) cs).length:Nat):Int))=true∧g.1<((ES (y1,m1,d1) (y2,m2,d2) cs).map dtW).length∧((ES (y1,m1,d1) (y2,m2,d2) cs).map dtW).getD g.1 []=([.int .i64 (dcs (ES (y1,m1,d1) (y2,m2,d2) cs) g.1).1, .int .i64 (dcs (ES (y1,m1,d1) (y2,m2,d2) cs) g.1).2.1, .int .i64 (dcs (ES (y1,m1,d1) (y2,m2,d2) cs) g.1).2.2]:List Value)∧(!(decide (((dcs (ES (y1,m1,d1) (y2,m2,d2) cs) g.1).1:Int)=(g.2.1).1)&&(decide (((dcs (ES (y1,m1,d1) (y2,m2,d2) cs) g.1).2.1:Int)=(g.2.1).2.1)&&(decide (((dcs (ES (y1,m1,d1) (y2,m2,d2) cs) g.1).2.2:Int)=(g.2.1).2.2)&&true))))=true∧((g.2.2.map ptD).length+([[.int .i64 (g.2.1).1, .int .i64 (g.2.1).2.1, .int .i64 (g.2.1).2.2, .int .i64 (dcs (ES (y1,m1,d1) (y2,m2,d2) cs) g.1).1, .int .i64 (dcs (ES (y1,m1,d1) (y2,m2,d2) cs) g.1).2.1, .int .i64 (dcs (ES (y1,m1,d1) (y2,m2,d2) cs) g.1).2.2]]:List (List Value)).length)*48≤140737488355328∧tLs 74 6 true (g.2.2.map ptD++([[.int .i64 (g.2.1).1, .int .i64 (g.2.1).2.1, .int .i64 (g.2.1).2.2, .int .i64 (dcs (ES (y1,m1,d1) (y2,m2,d2) cs) g.1).1, .int .i64 (dcs (ES (y1,m1,d1) (y2,m2,d2) cs) g.1).2.1, .int .i64 (dcs (ES (y1,m1,d1) (y2,m2,d2) cs) g.1).2.2]]:List (List Value))) ((g.2.2++ [(g.2.1,dcs (ES (y1,m1,d1) (y2,m2,d2) cs) g.1)]).map ptD)∧wp ((g.1:Int)+1)∧tI ((g.1:Int)+1) ((g.1+1:Nat):Int)∧J1 (rlX (rpParts_t (hpParts_t_0_1 y1 m1 d1 y2 m2 d2 cs g)) [14,13,12,11,10,9] (ipParts_t_0 y1 m1 d1 y2 m2 d2 cs g))) ⟨decide_eq_true (by omega),(by rw [List.length_map];exact h8.1),dcs_row h8.1,(congrArg (!·) (d3_b _ _)).trans (by rw [decide_eq_false h8.2];rfl),(by have:=hC1.2.2;simp only [List.length_map,List.length_singleton];omega),⟨⟨rfl,rfl,rfl⟩,snoc_D g.2.2 g.2.1 _⟩,wi (by omega),⟨rfl,by omega⟩,hJ1 (g.1+1,dcs (ES (y1,m1,d1) (y2,m2,d2) cs) g.1,g.2.2++ [(g.2.1,dcs (ES (y1,m1,d1) (y2,m2,d2) cs) g.1)]) _ (sc_1 hC1 h8.1 h8.2) (by show (ES (y1,m1,d1) (y2,m2,d2) cs).length-(g.1+1)<_;have:=h8.1;omega) ⟨by kernel_rfl,by kernel_rfl⟩⟩⟩
  ·exact ⟨hpParts_t_0_2 y1 m1 d1 y2 m2 d2 cs g,vcP (decide (((g.1:Int):Int)<(((ES (y1,m1,d1) (y2,m2,d2) cs).length:Nat):Int))=true∧g.1<((ES (y1,m1,d1) (y2,m2,d2) cs).map dtW).length∧((ES (y1,m1,d1) (y2,m2,d2) cs).map dtW).getD g.1 []=([.int .i64 (dcs (ES (y1,m1,d1) (y2,m2,d2) cs) g.1).1, .int .i64 (dcs (ES (y1,m1,d1) (y2,m2,d2) cs) g.1).2.1, .int .i64 (dcs (ES (y1,m1,d1) (y2,m2,d2) cs) g.1).2.2]:List Value)∧(!(decide (((dcs (ES (y1,m1,d1) (y2,m2,d2) cs) g.1).1:Int)=(g.2.1).1)&&(decide (((dcs (ES (y1,m1,d1) (y2,m2,d2) cs) g.1).2.1:Int)=(g.2.1).2.1)&&(decide (((dcs (ES (y1,m1,d1) (y2,m2,d2) cs) g.1).2.2:Int)=(g.2.1).2.2)&&true))))=false∧wp ((g.1:Int)+1)∧tI ((g.1:Int)+1) ((g.1+1:Nat):Int)∧J1 (rlX (rpParts_t (hpParts_t_0_2 y1 m1 d1 y2 m2 d2 cs g)) [14,13,11,10,9] (ipParts_t_0 y1 m1 d1 y2 m2 d2 cs g))) ⟨decide_eq_true (by omega),(by rw [List.length_map];exact h8.1),dcs_row h8.1,(congrArg (!·) (d3_b _ _)).trans (by rw [decide_eq_true h8.2];rfl),wi (by omega),⟨rfl,by omega⟩,hJ1 (g.1+1,dcs (ES (y1,m1,d1) (y2,m2,d2) cs) g.1,g.2.2) _ (sc_0 hC1 h8.1 h8.2) (by show (ES (y1,m1,d1) (y2,m2,d2) cs).length-(g.1+1)<_;have:=h8.1;omega) ⟨by kernel_rfl,by kernel_rfl⟩⟩⟩)))⟩))))⟩
end Go.Proofs.YtjpilacbapibjaaGreatDoor.X
namespace Go.Proofs.YtjpilacbapibjaaGreatDoor.X
open Go.Proofs.YtjpilacbapibjaaGreatDoor.Da
open Go.RowKit Go.Proofs.YtjpilacbapibjaaGreatDoor.Z
set_option linter.unusedVariables false
abbrev yE (k:Int) (p:D3×D3):Int:=yrE k p.1.1 p.1.2.1 p.1.2.2 p.2.1 p.2.2.1 p.2.2.2
noncomputable abbrev yA (k:Int) (p:D3×D3):Rat:=yrA k p.1.1 p.1.2.1 p.1.2.2 p.2.1 p.2.2.1 p.2.2.2
def pd (ps:List (D3×D3)) (i:Nat):D3×D3:=ps.getD i ((0,0,0),(0,0,0))
def ysE (k:Int):List (D3×D3)→Int
 | []=>0
 |p::r=>if yE k p=0 then ysE k r else yE k p
noncomputable def ysA (k:Int) (ps:List (D3×D3)) (f:Nat→Rat):Rat:=if ysE k ps=0 then wsum (fun i=>yA k (pd ps i)*f i) ps.length else 0
theorem ysE_at {k:Int}: ∀{ps:List (D3×D3)} {i:Nat},i<ps.length→(∀j,j<i→yE k (pd ps j)=0)→yE k (pd ps i)≠0→ysE k ps=yE k (pd ps i):=by
 intro ps
 induction ps with
 |nil=>intro i h;cases h
 |cons p r ih=>
  intro i hi h1 h2
  unfold ysE
  cases i with
  |zero=>exact if_neg h2
  |succ i=>
   rw [if_pos (show yE k p=0 from h1 0 (Nat.succ_pos i))]
   exact ih (Nat.lt_of_succ_lt_succ hi) (fun j hj=>h1 (j+1) (Nat.succ_lt_succ hj)) h2
theorem ysE_all {k:Int}: ∀{ps:List (D3×D3)},(∀j,j<ps.length→yE k (pd ps j)=0)→ysE k ps=0:=by
 intro ps
 induction ps with
 |nil=>intro _;rfl
 |cons p r ih=>
  intro h1
  unfold ysE
  rw [if_pos (show yE k p=0 from h1 0 (Nat.succ_pos _))]
  exact ih fun j hj=>h1 (j+1) (Nat.succ_lt_succ hj)
theorem ys_no {k:Int} {ps:List (D3×D3)} {f:Nat→Rat} {i:Nat} (hi:i<ps.length) (h1: ∀j,j<i→yE k (pd ps j)=0) (h2:yE k (pd ps i)≠0):ysA k ps f=0∧ysE k ps=yE k (pd ps i):=by
 have e:=ysE_at hi h1 h2
 unfold ysA
 rw [if_neg (by rw [e];exact h2)]
 exact ⟨rfl,e⟩
theorem ys_yes {k:Int} {ps:List (D3×D3)} {f:Nat→Rat} (h: ∀j,j<ps.length→yE k (pd ps j)=0):ysA k ps f=wsum (fun i=>yA k (pd ps i)*f i) ps.length∧ysE k ps=0:=by
 have e:=ysE_all h
 unfold ysA
 rw [if_pos e]
 exact ⟨rfl,e⟩
theorem pd_row {ps:List (D3×D3)} {i:Nat} (h:i<ps.length):(ps.map ptD).getD i []= [.int .i64 (pd ps i).1.1, .int .i64 (pd ps i).1.2.1, .int .i64 (pd ps i).1.2.2, .int .i64 (pd ps i).2.1, .int .i64 (pd ps i).2.2.1, .int .i64 (pd ps i).2.2.2]:=by
 unfold pd
 rw [List.getD_eq_getElem?_getD,List.getD_eq_getElem?_getD,List.getElem?_map,List.getElem?_eq_getElem h]
 rfl
theorem ys3 {k:Int} {ps:List (D3×D3)} {i:Nat}:ps.length≤i∨(i<ps.length∧yE k (pd ps i)=0)∨(i<ps.length∧ ¬yE k (pd ps i)=0):=by
 rcases Nat.lt_or_ge i ps.length with h|h
 ·by_cases e:yE k (pd ps i)=0
  ·exact .inr (.inl ⟨h,e⟩)
  ·exact .inr (.inr ⟨h,e⟩)
 ·exact .inl h
theorem all_next {p:Nat→Prop} {i:Nat} (h: ∀j,j<i→p j) (h2:p i): ∀j,j<i+1→p j:=fun j hj=>by
 rcases Nat.lt_or_eq_of_le (Nat.le_of_lt_succ hj) with e|e
 ·exact h j e
 ·rw [e];exact h2
abbrev q50 (q:Rat):K:= .Q q 50
noncomputable def yQ (k:Int) (ps:List (D3×D3)):List Rat:=if ysE k ps=0 then ps.map (yA k) else []
theorem yQ_no {k:Int} {ps:List (D3×D3)} {i:Nat} (hi:i<ps.length) (h1: ∀j,j<i→yE k (pd ps j)=0) (h2: ¬yE k (pd ps i)=0):yQ k ps= []:=by
 unfold yQ
 rw [if_neg (by rw [ysE_at hi h1 h2];exact h2)]
theorem yQ_yes {k:Int} {ps:List (D3×D3)} (h: ∀j,j<ps.length→yE k (pd ps j)=0):yQ k ps=ps.map (yA k):=by
 unfold yQ
 rw [if_pos (ysE_all h)]
theorem yQ_len (k:Int) (ps:List (D3×D3)):(yQ k ps).length≤ps.length:=by
 unfold yQ
 split
 ·rw [List.length_map];exact Nat.le_refl _
 ·exact Nat.zero_le _
theorem yQ_sum {k:Int} {ps:List (D3×D3)} {f:Nat→Rat}:wsum (fun i=>(yQ k ps).getD i 0*f i) (yQ k ps).length=ysA k ps f:=by
 unfold ysA yQ
 by_cases h:ysE k ps=0
 ·rw [if_pos h,if_pos h,List.length_map]
  refine wsum_congr fun i hi=> ?_
  congr 1
  unfold pd
  rw [List.getD_eq_getElem?_getD,List.getElem?_map,List.getD_eq_getElem?_getD,List.getElem?_eq_getElem hi]
  rfl
 ·rw [if_neg h,if_neg h]
  rfl
theorem q50_get {ws:List Rat} {i:Nat} (h:i<ws.length):(ws.map q50).getD i .B0= .Q (ws.getD i 0) 50:=by
 rw [List.getD_eq_getElem?_getD,List.getD_eq_getElem?_getD,List.getElem?_map,List.getElem?_eq_getElem h]
 rfl
theorem yA_snoc {k:Int} {ps:List (D3×D3)} {i:Nat} (h:i<ps.length):((ps.take i).map (yA k)).map q50++ [K.Q (yrA k (pd ps i).1.1 (pd ps i).1.2.1 (pd ps i).1.2.2 (pd ps i).2.1 (pd ps i).2.2.1 (pd ps i).2.2.2) 50]=((ps.take (i+1)).map (yA k)).map q50:=by
 rw [List.take_succ_eq_append_getElem h,List.map_append,List.map_append]
 congr 1
 unfold pd
 rw [List.getD_eq_getElem?_getD,List.getElem?_eq_getElem h]
 rfl
theorem nil_M {T sz:Nat} {os:List K} (ho:os= []):tK (.E (.slice none 0 0)) (.M T sz os 1):=fun cx kf lv w v h=>by
 subst ho
 have e:v= .slice none 0 0:=h
 subst e
 exact ⟨[],⟨(fun r hr=>by cases hr),⟨by simp, .inl ⟨rfl,rfl⟩⟩,fun b e=>by cases e⟩,trivial⟩
def pR (r:List Value):D3×D3:=(dtR (r.take 3),dtR (r.drop 3))
noncomputable def d2 (p:Int×Int):D3×D3:=(dtN p.1,dtN p.2)
def kQ:K→Rat
 | .Q q _=>q
 |_=>0
theorem map_PW (l:List (Int×Int)):((l.map ptW).map pR).map ptD=l.map ptW:=by
 rw [List.map_map,List.map_map]
 exact List.map_congr_left fun p _=>rfl
theorem map_PD (l:List (D3×D3)):(l.map ptD).map pR=l:=by
 rw [List.map_map]
 exact (List.map_congr_left fun p _=>rfl).trans (List.map_id l)
noncomputable def ctb51:List (Ct dk):= [
 ct3w 25 0 en25 vI vDt vDt (.O .Tb) isTbk isTbk_ok (fun x y z=> .t [.O (.Q (yrA x y.1 y.2.1 y.2.2 z.1 z.2.1 z.2.2) 50),eI (yrE x y.1 y.2.1 y.2.2 z.1 z.2.1 z.2.2)]) (fun x y z=> []) fun _ _ _ p _ _ _ _ _ h1 h2 h3 hW=>pYear_t h1 h2 h3 hW]
noncomputable abbrev reach_t:=rX ctb51 Tryz.f47
noncomputable abbrev deach_t (k:Int) (ps:List (D3×D3)):=dX ctb51 Tryz.f47 (.t [.M 55 3 ((yQ k ps).map q50) 1,eI (ysE k ps)])
noncomputable def heach_t (k:Int) (ps:List (D3×D3)):Nat→Hint K:=hnX [(1,[(1,0,oS (eI ((ps.length:Nat):Int))),(2,0,oS (.M 55 3 (((ps.take 0).map (yA k)).map q50) 1))]),(2,[(1,0,oS (eI ((ps.length:Nat):Int)))])]
noncomputable def ieach_t_0 (k:Int) (ps:List (D3×D3)) (i:Nat):Sx K:=⟨[(0,eI k),(1000000, .O .Tb),(14, .L 74 6 (ps.map ptD) false),(15,eI ((ps.length:Nat):Int)),(16,eI (i:Int)),(6, .M 55 3 (((ps.take i).map (yA k)).map q50) 1)],[]⟩
noncomputable def heach_t_0_0 (k:Int) (ps:List (D3×D3)) (i:Nat):Nat→Hint K:=hnX [(3,[(0,0,oS (eB false))])]
noncomputable def heach_t_0_1 (k:Int) (ps:List (D3×D3)) (i:Nat):Nat→Hint K:=hnX [(3,[(0,0,oS (eB true))]),(4,[(0,0,oS (.A [.int .i64 (pd ps i).1.1, .int .i64 (pd ps i).1.2.1, .int .i64 (pd ps i).1.2.2, .int .i64 (pd ps i).2.1, .int .i64 (pd ps i).2.2.1, .int .i64 (pd ps i).2.2.2]))]),(6,[(1,0,oS (eB false))]),(8,[(3,0,oS (.M 55 3 (((ps.take (i+1)).map (yA k)).map q50) 1))]),(9,[(0,0,oS (eI ((i+1:Nat):Int)))])]
noncomputable def heach_t_0_2 (k:Int) (ps:List (D3×D3)) (i:Nat):Nat→Hint K:=hnX [(3,[(0,0,oS (eB true))]),(4,[(0,0,oS (.A [.int .i64 (pd ps i).1.1, .int .i64 (pd ps i).1.2.1, .int .i64 (pd ps i).1.2.2, .int .i64 (pd ps i).2.1, .int .i64 (pd ps i).2.2.1, .int .i64 (pd ps i).2.2.2]))]),(6,[(1,0,oS (eB true))])]
theorem each_t {w:World} {v0 v1:Value} {k:Int} {ps:List (D3×D3)} (h0:(isE (.int .i64 k)) w v0) (h1:(isRd (cxA w) true 6 (ps.map ptD)) w v1) (hw:isTb w v0) (hl:ps.length≤4000000):Calls Tryz.prog 47 #[v0,v1] w (Ret w fun v w'=>(f0 w (.t [.M 55 3 ((yQ k ps).map q50) 1,eI (ysE k ps)])).p w' v):=by
 exact fx ctb51 Tryz.func47 (heach_t k ps) [(0,eI k),(1, .L 74 6 (ps.map ptD) false),(1000000, .O .Tb)] (.t [.M 55 3 ((yQ k ps).map q50) 1,eI (ysE k ps)]) ⟨h0,h1,hw,trivial⟩ (tI (((ps.map ptD).length:Nat):Int) ((ps.length:Nat):Int)∧ps.length≤9223372036854775807∧56*ps.length≤281474976710656∧tK (.L 55 3 [] true) (.M 55 3 (((ps.take 0).map (yA k)).map q50) 1)∧tI (((ps.map ptD).length:Nat):Int) ((ps.length:Nat):Int)∧deach_t k ps [1,0,1] [(heach_t k ps)] [] (rlX (reach_t (heach_t k ps)) [2,1] (ent Tryz.prog Tryz.f47 (κ:=K) [(0,eI k),(1, .L 74 6 (ps.map ptD) false),(1000000, .O .Tb)]))) ⟨⟨rfl,by simp⟩,(by omega),(by omega),(fun _ _ _ _ _ h=>⟨[],h,trivial⟩),⟨rfl,by simp⟩,(lpI (fun h S' J=>deach_t k ps [1,0,1,0,2] [(heach_t k ps),h] [J] S') (fun i:Nat=>i≤ps.length∧ ∀j,j<i→yE k (pd ps j)=0) (fun i=>ps.length-i) (ieach_t_0 k ps) (0) (rlX (reach_t (heach_t k ps)) [2,1] (ent Tryz.prog Tryz.f47 (κ:=K) [(0,eI k),(1, .L 74 6 (ps.map ptD) false),(1000000, .O .Tb)])) (⟨Nat.zero_le _,fun j h=>by omega⟩) (fun i hC1 J1 hJ1=>(by
  rcases ys3 (k:=k) (ps:=ps) (i:=i) with h8|h8|h8
  ·exact ⟨heach_t_0_0 k ps i,vcP (decide (((i:Int):Int)<((ps.length:Nat):Int))=false∧(tMo 55 3 1 (((ps.take i).map (yA k)).map q50) ((yQ k ps).map q50)∧tI 0 (ysE k ps)∧True)) ⟨decide_eq_false (by omega),(have hC1:i=ps.length∧ ∀j,j<ps.length→yE k (pd ps j)=0:=(⟨by omega,fun j hj=>hC1.2 j (by omega)⟩);⟨⟨⟨rfl,rfl,rfl⟩,(by first|exact (show _=(yQ k ps).map q50 by rw [yQ_yes hC1.2,hC1.1,List.take_length])|exact nil_M (by rw [yQ_no h8.1 hC1.2 h8.2];rfl) _ _ _ _ _ h)⟩,⟨rfl,by first|exact (ys_no (f:=fun _=>0) h8.1 hC1.2 h8.2).2.symm|exact (ys_yes (f:=fun _=>0) hC1.2).2.symm⟩,trivial⟩)⟩⟩
  ·exact ⟨heach_t_0_1 k ps i,vcP (decide (((i:Int):Int)<((ps.length:Nat):Int))=true∧i<(ps.map ptD).length∧(ps.map ptD).getD i []=([.int .i64 (pd ps i).1.1, .int .i64 (pd ps i).1.2.1, .int .i64 (pd ps i).1.2.2, .int .i64 (pd ps i).2.1, .int .i64 (pd ps i).2.2.1, .int .i64 (pd ps i).2.2.2]:List Value)∧(!decide ((yrE k (pd ps i).1.1 (pd ps i).1.2.1 (pd ps i).1.2.2 (pd ps i).2.1 (pd ps i).2.2.1 (pd ps i).2.2.2:Int)=0))=false∧((((ps.take i).map (yA k)).map q50).length+([.Q (yrA k (pd ps i).1.1 (pd ps i).1.2.1 (pd ps i).1.2.2 (pd ps i).2.1 (pd ps i).2.2.1 (pd ps i).2.2.2) 50]:List K).length)*56≤140737488355328∧tMo 55 3 1 (((ps.take i).map (yA k)).map q50++([.Q (yrA k (pd ps i).1.1 (pd ps i).1.2.1 (pd ps i).1.2.2 (pd ps i).2.1 (pd ps i).2.2.1 (pd ps i).2.2.2) 50]:List K)) (((ps.take (i+1)).map (yA k)).map q50)∧wp ((i:Int)+1)∧tI ((i:Int)+1) ((i+1:Nat):Int)∧J1 (rlX (reach_t (heach_t_0_1 k ps i)) [9,8,6,5,4,3] (ieach_t_0 k ps i))) ⟨decide_eq_true (by omega),(by rw [List.length_map];exact h8.1),pd_row h8.1,(by rw [decide_eq_true h8.2];rfl),(by rw [List.length_map,List.length_map,List.length_take,Nat.min_eq_left hC1.1];have:=h8.1;simp only [List.length_singleton];omega),⟨⟨rfl,rfl,rfl⟩,yA_snoc h8.1⟩,wi (by omega),⟨rfl,by omega⟩,hJ1 (i+1) _ (⟨h8.1,all_next hC1.2 h8.2⟩) (by omega) ⟨by kernel_rfl,by kernel_rfl⟩⟩⟩
  ·exact ⟨heach_t_0_2 k ps i,vcP (decide (((i:Int):Int)<((ps.length:Nat):Int))=true∧i<(ps.map ptD).length∧(ps.map ptD).getD i []=([.int .i64 (pd ps i).1.1, .int .i64 (pd ps i).1.2.1, .int .i64 (pd ps i).1.2.2, .int .i64 (pd ps i).2.1, .int .i64 (pd ps i).2.2.1, .int .i64 (pd ps i).2.2.2]:List Value)∧(!decide ((yrE k (pd ps i).1.1 (pd ps i).1.2.1 (pd ps i).1.2.2 (pd ps i).2.1 (pd ps i).2.2.1 (pd ps i).2.2.2:Int)=0))=true∧(tK (.E (.slice none 0 0)) (.M 55 3 ((yQ k ps).map q50) 1)∧tI (yrE k (pd ps i).1.1 (pd ps i).1.2.1 (pd ps i).1.2.2 (pd ps i).2.1 (pd ps i).2.2.1 (pd ps i).2.2.2) (ysE k ps)∧True)) ⟨decide_eq_true (by omega),(by rw [List.length_map];exact h8.1),pd_row h8.1,(by rw [decide_eq_false h8.2];rfl),⟨(fun _ _ _ _ _ h=>by first|exact (show _=(yQ k ps).map q50 by rw [yQ_yes hC1.2,hC1.1,List.take_length])|exact nil_M (by rw [yQ_no h8.1 hC1.2 h8.2];rfl) _ _ _ _ _ h),⟨rfl,by first|exact (ys_no (f:=fun _=>0) h8.1 hC1.2 h8.2).2.symm|exact (ys_yes (f:=fun _=>0) hC1.2).2.symm⟩,trivial⟩⟩⟩)))⟩
theorem zero_F {w:World} {v:Value} (e:v= .agg (zeroOf Tryz.prog 55)):isF 0 0 1 w v:=
 ⟨none,0,0,none,0,0,e.trans (congrArg Value.agg (by kernel_rfl)),(IsN.zero w).weak (Nat.zero_le 1),(IsN.zero w).weak (Nat.zero_le 1)⟩
theorem eachR {w:World} {v u:Value} {k:Int} {y:List (List Value)} (h1:isE (.int .i64 k) w v) (h2:isRd (cxA w) true 6 y w u) (hW:isTb w v) (e:y=(y.map pR).map ptD) (hl:y.length≤4000000):Calls Tryz.prog 47 #[v,u] w (Ret w fun v' w'=>(f0 w (.t [.M 55 3 ((yQ k (y.map pR)).map q50) 1,eI (ysE k (y.map pR))])).p w' v'):=by
 have hl2:(y.map pR).length≤4000000:=by rw [List.length_map];exact hl
 rw [e] at h2
 exact each_t h1 h2 hW hl2
noncomputable def ctb52:List (Ct dk):= [
 ct2 48 0 en48 vQ vQ (fun x y=> .s (.O (.Q (x.1+y.1) (x.2+y.2+1)))) (fun x y=> [x.2≤268435456,y.2≤268435456]) fun _ _ p _ _ _ h1 h2=>add_q h1 h2 p.1 p.2.1,
 ct2w 47 0 en47 vI (vL 6) (.O .Tb) isTbk isTbk_ok (fun x y=> .t [.M 55 3 ((yQ x (y.map pR)).map q50) 1,eI (ysE x (y.map pR))]) (fun x y=> [y=(y.map pR).map ptD,y.length≤4000000]) fun _ _ p _ _ _ _ h1 h2 hW=>eachR h1 h2 hW p.1 p.2.1]++ctb51
noncomputable abbrev rpSYears_t:=rX ctb52 Tryz.f18
noncomputable abbrev dpSYears_t (k:Int) (ps:List (D3×D3)):=dX ctb52 Tryz.f18 (.t [.O (.Q (ysA k ps fun _=>1) (60*ps.length+1)),eI (ysE k ps)])
noncomputable def hpSYears_t (k:Int) (ps:List (D3×D3)):Nat→Hint K:=hnX [(1,[(4,0,oS (.M 55 3 ((yQ k ps).map q50) 2)),(5,0,oS (eI (ysE k ps)))]),(2,[(0,0,oS (.O (.Q (wsum (fun i=>(yQ k ps).getD i 0*1) 0) (60*0+1))))]),(3,[(1,0,oS (eI (((yQ k ps).length:Nat):Int)))])]
noncomputable def ipSYears_t_0 (k:Int) (ps:List (D3×D3)) (i:Nat):Sx K:=⟨[(5,eI 0),(1000000, .O .Tb),(7,eI (ysE k ps)),(17, .M 55 3 ((yQ k ps).map q50) 1),(18,eI (((yQ k ps).length:Nat):Int)),(19,eI (i:Int))],[⟨4,55, .X⟩,⟨8,55, .O (.Q (wsum (fun i=>(yQ k ps).getD i 0*1) i) (60*i+1))⟩]⟩
noncomputable def hpSYears_t_0_0 (k:Int) (ps:List (D3×D3)) (i:Nat):Nat→Hint K:=hnX [(4,[(0,0,oS (eB true))]),(5,[(0,0,oS (.B 3 (.Q ((yQ k ps).getD i 0) 50)))]),(6,[(2,0,oS (.O (.Q (wsum (fun i=>(yQ k ps).getD i 0*1) (i+1)) (60*(i+1)+1))))]),(7,[(0,0,oS (eI ((i+1:Nat):Int)))])]
noncomputable def hpSYears_t_0_1 (k:Int) (ps:List (D3×D3)) (i:Nat):Nat→Hint K:=hnX [(4,[(0,0,oS (eB false))])]
theorem pSYears_t {w:World} {v0 v1:Value} {k:Int} {ps:List (D3×D3)} (h0:(isE (.int .i64 k)) w v0) (h1:(isRd (cxA w) true 6 (ps.map ptD)) w v1) (hw:isTb w v0) (hl:ps.length≤4000000):Calls Tryz.prog 18 #[v0,v1] w (Ret w fun v w'=>(f0 w (.t [.O (.Q (ysA k ps fun _=>1) (60*ps.length+1)),eI (ysE k ps)])).p w' v):=by
 have hy:=yQ_len k ps
 exact fx ctb52 Tryz.func18 (hpSYears_t k ps) [(0,eI k),(1, .L 74 6 (ps.map ptD) false),(1000000, .O .Tb)] (.t [.O (.Q (ysA k ps fun _=>1) (60*ps.length+1)),eI (ysE k ps)]) ⟨h0,h1,hw,trivial⟩ (ps.map ptD=((ps.map ptD).map pR).map ptD∧(ps.map ptD).length≤4000000∧tMo 55 3 2 ((yQ k ((ps.map ptD).map pR)).map q50) ((yQ k ps).map q50)∧tI (ysE k ((ps.map ptD).map pR)) (ysE k ps)∧tK (.E (.agg (zeroOf Tryz.prog 55))) (.O (.Q (wsum (fun i=>(yQ k ps).getD i 0*1) 0) (60*0+1)))∧tI ((((yQ k ps).map q50).length:Nat):Int) (((yQ k ps).length:Nat):Int)∧dpSYears_t k ps [1,1,0,1] [(hpSYears_t k ps)] [] (rlX (rpSYears_t (hpSYears_t k ps)) [3,2,1] (ent Tryz.prog Tryz.f18 (κ:=K) [(0,eI k),(1, .L 74 6 (ps.map ptD) false),(1000000, .O .Tb)]))) ⟨(by first|(rw [map_PW];done)|(rw [map_PD];done)|rfl),(by rw [List.length_map];exact hl),⟨⟨rfl,rfl,rfl⟩,(by rw [map_PD])⟩,⟨rfl,by rw [map_PD]⟩,(fun _ _ _ _ _ h=>isQ_0 (zero_F h) rfl (by omega)),⟨rfl,by simp⟩,(lpI (fun h S' J=>dpSYears_t k ps [1,1,0,1,0,2] [(hpSYears_t k ps),h] [J] S') (fun i:Nat=>i≤(yQ k ps).length) (fun i=>(yQ k ps).length-i) (ipSYears_t_0 k ps) (0) (rlX (rpSYears_t (hpSYears_t k ps)) [3,2,1] (ent Tryz.prog Tryz.f18 (κ:=K) [(0,eI k),(1, .L 74 6 (ps.map ptD) false),(1000000, .O .Tb)])) (Nat.zero_le _) (fun i hC1 J1 hJ1=>(by
  rcases Nat.lt_or_ge i (yQ k ps).length with h8|h8
  ·exact ⟨hpSYears_t_0_0 k ps i,vcP (decide (((i:Int):Int)<(((yQ k ps).length:Nat):Int))=true∧i<((yQ k ps).map q50).length∧tBo 3 (((yQ k ps).map q50).getD i .B0) (.Q ((yQ k ps).getD i 0) 50)∧(60*i+1)≤268435456∧50≤268435456∧tK (.O (.Q (wsum (fun i=>(yQ k ps).getD i 0*1) i+(yQ k ps).getD i 0) ((60*i+1)+50+1))) (.O (.Q (wsum (fun i=>(yQ k ps).getD i 0*1) (i+1)) (60*(i+1)+1)))∧wp ((i:Int)+1)∧tI ((i:Int)+1) ((i+1:Nat):Int)∧J1 (rlX (rpSYears_t (hpSYears_t_0_0 k ps i)) [7,6,5,4] (ipSYears_t_0 k ps i))) ⟨decide_eq_true (by omega),(by rw [List.length_map];exact h8),⟨rfl,q50_get h8⟩,(by omega),(by omega),(fun _ _ _ _ _ h=>isQ_re h (by show _=wsum _ i+(yQ k ps).getD i 0*1;rw [Rat.mul_one]) (by omega)),wi (by omega),⟨rfl,by omega⟩,hJ1 (i+1) _ (h8) (by omega) ⟨by kernel_rfl,by kernel_rfl⟩⟩⟩
  ·exact ⟨hpSYears_t_0_1 k ps i,vcP (decide (((i:Int):Int)<(((yQ k ps).length:Nat):Int))=false∧(tK (.O (.Q (wsum (fun i=>(yQ k ps).getD i 0*1) i) (60*i+1))) (.O (.Q (ysA k ps fun _=>1) (60*ps.length+1)))∧tI (ysE k ps) (ysE k ps)∧True)) ⟨decide_eq_false (by omega),(have hC1:i=(yQ k ps).length:=(by omega);⟨(fun _ _ _ _ _ h=>isQ_re h (by rw [←yQ_sum,hC1]) (by omega)),⟨rfl,rfl⟩,trivial⟩)⟩⟩)))⟩
end Go.Proofs.YtjpilacbapibjaaGreatDoor.X
namespace Go.Proofs.YtjpilacbapibjaaGreatDoor.X
open Go.Proofs.YtjpilacbapibjaaGreatDoor.Da
open Go.RowKit Go.Proofs.YtjpilacbapibjaaGreatDoor.Z
set_option linter.unusedVariables false
theorem pSYearsR {w:World} {v u:Value} {k:Int} {y:List (List Value)} (h1:isE (.int .i64 k) w v) (h2:isRd (cxA w) true 6 y w u) (hW:isTb w v) (e:y=(y.map pR).map ptD) (hl:y.length≤4000000):Calls Tryz.prog 18 #[v,u] w (Ret w fun v' w'=>(f0 w (.t [.O (.Q (ysA k (y.map pR) fun _=>1) (60*(y.map pR).length+1)),eI (ysE k (y.map pR))])).p w' v'):=by
 have hl2:(y.map pR).length≤4000000:=by rw [List.length_map];exact hl
 rw [e] at h2
 exact pSYears_t h1 h2 hW hl2
theorem pSPartsR {w:World} {v u t:Value} {x y:D3} {z:List (List Value)} (h1:isE (.agg #[.int .i64 x.1, .int .i64 x.2.1, .int .i64 x.2.2]) w v) (h2:isE (.agg #[.int .i64 y.1, .int .i64 y.2.1, .int .i64 y.2.2]) w u) (h3:isRd (cxA w) true 3 z w t) (hW:isTb w v) (e1:z=(z.map dtR).map dtW) (hn:z.length≤1000000):Calls Tryz.prog 11 #[v,u,t] w (Ret w fun v' w'=>(f0 w (.t [.L 74 6 ((spL x y (z.map dtR)).map ptW) true,eI (spE x y (z.map dtR))])).p w' v'):=by
 rw [e1] at h3
 exact pParts_t h1 h2 h3 hW (by rw [List.length_map];exact hn)
end Go.Proofs.YtjpilacbapibjaaGreatDoor.X
namespace Go.Proofs.YtjpilacbapibjaaGreatDoor.X
open Go.Proofs.YtjpilacbapibjaaGreatDoor.Da
open Go.RowKit Go.Proofs.YtjpilacbapibjaaGreatDoor.Z
set_option linter.unusedVariables false
def cI16 (c:Int):List Value:= [.int .i16 c]
noncomputable def cutsT (y m d:Int) (l:List Int):List D3:=l.filterMap fun c=>if dyE y m d (c.tmod 2200)=0 then some (dyT y m d (c.tmod 2200)) else none
theorem cutsT_len {y m d:Int} {l:List Int}:(cutsT y m d l).length≤l.length:=List.length_filterMap_le ..
theorem cutsT_snoc {y m d:Int} {l:List Int} {i:Nat} (h:i<l.length):cutsT y m d (l.take (i+1))=cutsT y m d (l.take i)++(if dyE y m d ((l.getD i 0).tmod 2200)=0 then [dyT y m d ((l.getD i 0).tmod 2200)] else []):=by
 have e:l.take (i+1)=l.take i++ [l.getD i 0]:=by
  rw [List.take_succ_eq_append_getElem h,List.getD_eq_getElem?_getD,List.getElem?_eq_getElem h]
  rfl
 unfold cutsT
 rw [e,List.filterMap_append]
 congr 1
 simp only [List.filterMap_cons,List.filterMap_nil]
 split<;>rename_i h2<;>split at h2<;>first|(cases h2;simp_all)|simp_all
theorem cI_row {l:List Int} {i:Nat} (h:i<l.length):(l.map cI16).getD i []= [.int .i16 (l.getD i 0)]:=by
 rw [List.getD_eq_getElem?_getD,List.getD_eq_getElem?_getD,List.getElem?_map,List.getElem?_eq_getElem h]
 rfl
theorem cI_take (l:List Int):(l.map cI16).take (min l.length 12)=(l.take 12).map cI16:=by
 rw [←List.map_take]
 congr 1
 rcases Nat.le_total l.length 12 with h|h
 ·rw [Nat.min_eq_left h,List.take_of_length_le (Nat.le_refl _),List.take_of_length_le h]
 ·rw [Nat.min_eq_right h]
theorem ti3 {l:List Int} {i:Nat} (p:Prop) [Decidable p]:l.length≤i∨(i<l.length∧p)∨(i<l.length∧ ¬p):=by
 rcases Nat.lt_or_ge i l.length with h|h
 ·by_cases e:p
  ·exact .inr (.inl ⟨h,e⟩)
  ·exact .inr (.inr ⟨h,e⟩)
 ·exact .inl h
theorem cI_in {cs:List Int} (h: ∀c∈cs,-32768≤c∧c≤32767) {i:Nat} (hi:i<(cs.take 12).length): -32768≤(cs.take 12).getD i 0∧(cs.take 12).getD i 0≤32767:=by
 rw [List.getD_eq_getElem?_getD,List.getElem?_eq_getElem hi]
 exact h _ (List.mem_of_mem_take (List.getElem_mem hi))
theorem tm_b (x:Int) {k:Int} (h:0<k): -k<x.tmod k∧x.tmod k<k:=by
 have a:=Int.lt_tmod_of_pos x h
 have b:=Int.tmod_lt_of_pos x h
 exact ⟨a,b⟩
theorem dtW_snoc (l:List D3) (x:D3):l.map dtW++ [[.int .i64 x.1, .int .i64 x.2.1, .int .i64 x.2.2]]=(l++ [x]).map dtW:=by
 rw [List.map_append]
 rfl
noncomputable def ctb54:List (Ct dk):= [
 ct2 32 0 en32 vDt vI (fun x y=> .s (eD (mkY x.1 y) (mkM x.2.1) (mkD (mkY x.1 y) (mkM x.2.1) x.2.2))) (fun x y=> [1≤y∧y≤9999]) fun _ _ p _ _ _ h1 h2=>refMake_t h1 h2 p.1,
 ct2w 30 0 en30 vDt vI (.O .Tb) isTbk isTbk_ok (fun x y=> .t [eD (dyT x.1 x.2.1 x.2.2 y).1 (dyT x.1 x.2.1 x.2.2 y).2.1 (dyT x.1 x.2.1 x.2.2 y).2.2,eI (dyE x.1 x.2.1 x.2.2 y)]) (fun x y=> [-9223372036854775808≤y∧y≤9223372036854775807]) fun _ _ p _ _ _ _ h1 h2 hW=>pDays10_t h1 h2 hW p.1]
noncomputable abbrev rtime_t:=rX ctb54 Tryz.f8
noncomputable abbrev dtime_t (a b c n p:Int) (cs bs:List Int):=dX ctb54 Tryz.f8 (.t [eD (mkY a (9900:Int),mkM b,mkD (mkY a (9900:Int)) (mkM b) c).1 (mkY a (9900:Int),mkM b,mkD (mkY a (9900:Int)) (mkM b) c).2.1 (mkY a (9900:Int),mkM b,mkD (mkY a (9900:Int)) (mkM b) c).2.2,eD (dyT (mkY a (9900:Int)) (mkM b) (mkD (mkY a (9900:Int)) (mkM b) c) (n.tmod 2000)).1 (dyT (mkY a (9900:Int)) (mkM b) (mkD (mkY a (9900:Int)) (mkM b) c) (n.tmod 2000)).2.1 (dyT (mkY a (9900:Int)) (mkM b) (mkD (mkY a (9900:Int)) (mkM b) c) (n.tmod 2000)).2.2, .L 28 3 ((cutsT (mkY a (9900:Int)) (mkM b) (mkD (mkY a (9900:Int)) (mkM b) c) (cs.take 12)).map dtW) true])
noncomputable def htime_t (a b c n p:Int) (cs bs:List Int):Nat→Hint K:=hnX [(2,[(4,0,oS (eI (n.tmod 2000)))]),(3,[(0,0,oS (.L 28 3 (([]:List D3).map dtW) true))]),(4,[(4,0,oS (eI ((cs.length:Nat):Int))),(5,0,oS (eI ((min cs.length 12:Nat):Int))),(6,0,oS (.L 53 1 ((cs.take 12).map cI16) false)),(7,0,oS (eI (((cs.take 12).length:Nat):Int)))])]
noncomputable def itime_t_0 (a b c n p:Int) (cs bs:List Int) (g:Nat×List D3):Sx K:=⟨[(4, .E (.slice none 0 0)),(1000000, .O .Tb),(31, .L 53 1 ((cs.take 12).map cI16) false),(32,eI (((cs.take 12).length:Nat):Int)),(33,eI (g.1:Int)),(8, .L 28 3 (g.2.map dtW) true)],[⟨3,28, .X⟩,⟨2,28, .X⟩,⟨5,28,eD (mkY a (9900:Int)) (mkM b) (mkD (mkY a (9900:Int)) (mkM b) c)⟩,⟨6,28,eD (dyT (mkY a (9900:Int)) (mkM b) (mkD (mkY a (9900:Int)) (mkM b) c) (n.tmod 2000)).1 (dyT (mkY a (9900:Int)) (mkM b) (mkD (mkY a (9900:Int)) (mkM b) c) (n.tmod 2000)).2.1 (dyT (mkY a (9900:Int)) (mkM b) (mkD (mkY a (9900:Int)) (mkM b) c) (n.tmod 2000)).2.2⟩]⟩
noncomputable def htime_t_0_0 (a b c n p:Int) (cs bs:List Int) (g:Nat×List D3):Nat→Hint K:=hnX [(5,[(0,0,oS (eB false))])]
noncomputable def htime_t_0_1 (a b c n p:Int) (cs bs:List Int) (g:Nat×List D3):Nat→Hint K:=hnX [(5,[(0,0,oS (eB true))]),(6,[(0,0,oS (.A [.int .i16 ((cs.take 12).getD g.1 0)]))]),(7,[(2,0,oS (eI ((cs.take 12).getD g.1 0)))]),(8,[(1,0,oS (eB true))]),(9,[(3,0,oS (.L 28 3 ((g.2++ [dyT (mkY a (9900:Int)) (mkM b) (mkD (mkY a (9900:Int)) (mkM b) c) (((cs.take 12).getD g.1 0).tmod 2200)]).map dtW) true))]),(10,[(0,0,oS (eI ((g.1+1:Nat):Int)))])]
noncomputable def htime_t_0_2 (a b c n p:Int) (cs bs:List Int) (g:Nat×List D3):Nat→Hint K:=hnX [(5,[(0,0,oS (eB true))]),(6,[(0,0,oS (.A [.int .i16 ((cs.take 12).getD g.1 0)]))]),(7,[(2,0,oS (eI ((cs.take 12).getD g.1 0)))]),(8,[(1,0,oS (eB false))]),(10,[(0,0,oS (eI ((g.1+1:Nat):Int)))])]
theorem time_t {w:World} {v0:Value} {a b c n p:Int} {cs bs:List Int} (h0:(f0 w (.s (.S [.v (.int .i64 a), .v (.int .i64 b), .v (.int .i64 c), .v (.int .u16 n), .l 53 1 (cs.map cI16), .l 53 1 (bs.map cI16), .v (.int .u8 p)]))).p w v0) (hw:isTb w v0) (hn:0≤n∧n≤65535) (hcs: ∀c∈cs,-32768≤c∧c≤32767):Calls Tryz.prog 8 #[v0] w (Ret w fun v w'=>(f0 w (.t [eD (mkY a (9900:Int),mkM b,mkD (mkY a (9900:Int)) (mkM b) c).1 (mkY a (9900:Int),mkM b,mkD (mkY a (9900:Int)) (mkM b) c).2.1 (mkY a (9900:Int),mkM b,mkD (mkY a (9900:Int)) (mkM b) c).2.2,eD (dyT (mkY a (9900:Int)) (mkM b) (mkD (mkY a (9900:Int)) (mkM b) c) (n.tmod 2000)).1 (dyT (mkY a (9900:Int)) (mkM b) (mkD (mkY a (9900:Int)) (mkM b) c) (n.tmod 2000)).2.1 (dyT (mkY a (9900:Int)) (mkM b) (mkD (mkY a (9900:Int)) (mkM b) c) (n.tmod 2000)).2.2, .L 28 3 ((cutsT (mkY a (9900:Int)) (mkM b) (mkD (mkY a (9900:Int)) (mkM b) c) (cs.take 12)).map dtW) true])).p w' v):=by
 have t0:=tm_b n (k:=2000) (by decide)
 have hl:=List.length_take_le 12 cs
 exact fx ctb54 Tryz.func8 (htime_t a b c n p cs bs) [(0, .S [.v (.int .i64 a), .v (.int .i64 b), .v (.int .i64 c), .v (.int .u16 n), .l 53 1 (cs.map cI16), .l 53 1 (bs.map cI16), .v (.int .u8 p)]),(1000000, .O .Tb)] (.t [eD (mkY a (9900:Int),mkM b,mkD (mkY a (9900:Int)) (mkM b) c).1 (mkY a (9900:Int),mkM b,mkD (mkY a (9900:Int)) (mkM b) c).2.1 (mkY a (9900:Int),mkM b,mkD (mkY a (9900:Int)) (mkM b) c).2.2,eD (dyT (mkY a (9900:Int)) (mkM b) (mkD (mkY a (9900:Int)) (mkM b) c) (n.tmod 2000)).1 (dyT (mkY a (9900:Int)) (mkM b) (mkD (mkY a (9900:Int)) (mkM b) c) (n.tmod 2000)).2.1 (dyT (mkY a (9900:Int)) (mkM b) (mkD (mkY a (9900:Int)) (mkM b) c) (n.tmod 2000)).2.2, .L 28 3 ((cutsT (mkY a (9900:Int)) (mkM b) (mkD (mkY a (9900:Int)) (mkM b) c) (cs.take 12)).map dtW) true]) ⟨h0,hw,trivial⟩ ((1≤(9900:Int)∧(9900:Int)≤9999)∧(2000≠(0:Int))∧tI (IntKind.i64.wrap (Int.tmod n 2000)) (n.tmod 2000)∧(-9223372036854775808≤n.tmod 2000∧n.tmod 2000≤9223372036854775807)∧tK (.E (.slice none 0 0)) (.L 28 3 (([]:List D3).map dtW) true)∧tI (((cs.map cI16).length:Nat):Int) ((cs.length:Nat):Int)∧tI (min ((cs.length:Nat):Int) 12) ((min cs.length 12:Nat):Int)∧min cs.length 12≤(cs.map cI16).length∧tLs 53 1 false ((cs.map cI16).take (min cs.length 12)) ((cs.take 12).map cI16)∧tI ((((cs.take 12).map cI16).length:Nat):Int) (((cs.take 12).length:Nat):Int)∧dtime_t a b c n p cs bs [1,1,1,0,1] [(htime_t a b c n p cs bs)] [] (rlX (rtime_t (htime_t a b c n p cs bs)) [4,3,2,1] (ent Tryz.prog Tryz.f8 (κ:=K) [(0, .S [.v (.int .i64 a), .v (.int .i64 b), .v (.int .i64 c), .v (.int .u16 n), .l 53 1 (cs.map cI16), .l 53 1 (bs.map cI16), .v (.int .u8 p)]),(1000000, .O .Tb)]))) ⟨(by decide),(by decide),⟨rfl,i64_in (by omega) (by omega)⟩,(by omega),nil_L (rfl),⟨rfl,by simp⟩,⟨rfl,by omega⟩,(by rw [List.length_map];omega),⟨⟨rfl,rfl,rfl⟩,cI_take cs⟩,⟨rfl,by rw [List.length_map]⟩,(lpI (fun h S' J=>dtime_t a b c n p cs bs [1,1,1,0,1,0,2] [(htime_t a b c n p cs bs),h] [J] S') (fun g:Nat×List D3=>g.1≤(cs.take 12).length∧g.2=cutsT (mkY a (9900:Int)) (mkM b) (mkD (mkY a (9900:Int)) (mkM b) c) ((cs.take 12).take g.1)∧g.2.length≤g.1) (fun g=>(cs.take 12).length-g.1) (itime_t_0 a b c n p cs bs) (0,[]) (rlX (rtime_t (htime_t a b c n p cs bs)) [4,3,2,1] (ent Tryz.prog Tryz.f8 (κ:=K) [(0, .S [.v (.int .i64 a), .v (.int .i64 b), .v (.int .i64 c), .v (.int .u16 n), .l 53 1 (cs.map cI16), .l 53 1 (bs.map cI16), .v (.int .u8 p)]),(1000000, .O .Tb)])) (⟨Nat.zero_le _,rfl,Nat.le_refl _⟩) (fun g hC1 J1 hJ1=>(by
  rcases ti3 (l:=cs.take 12) (i:=g.1) (dyE (mkY a (9900:Int)) (mkM b) (mkD (mkY a (9900:Int)) (mkM b) c) (((cs.take 12).getD g.1 0).tmod 2200)=0) with h8|h8|h8
  ·exact ⟨htime_t_0_0 a b c n p cs bs g,vcP (decide (((g.1:Int):Int)<(((cs.take 12).length:Nat):Int))=false∧(tK (eD (mkY a (9900:Int)) (mkM b) (mkD (mkY a (9900:Int)) (mkM b) c)) (eD (mkY a (9900:Int),mkM b,mkD (mkY a (9900:Int)) (mkM b) c).1 (mkY a (9900:Int),mkM b,mkD (mkY a (9900:Int)) (mkM b) c).2.1 (mkY a (9900:Int),mkM b,mkD (mkY a (9900:Int)) (mkM b) c).2.2)∧tK (eD (dyT (mkY a (9900:Int)) (mkM b) (mkD (mkY a (9900:Int)) (mkM b) c) (n.tmod 2000)).1 (dyT (mkY a (9900:Int)) (mkM b) (mkD (mkY a (9900:Int)) (mkM b) c) (n.tmod 2000)).2.1 (dyT (mkY a (9900:Int)) (mkM b) (mkD (mkY a (9900:Int)) (mkM b) c) (n.tmod 2000)).2.2) (eD (dyT (mkY a (9900:Int)) (mkM b) (mkD (mkY a (9900:Int)) (mkM b) c) (n.tmod 2000)).1 (dyT (mkY a (9900:Int)) (mkM b) (mkD (mkY a (9900:Int)) (mkM b) c) (n.tmod 2000)).2.1 (dyT (mkY a (9900:Int)) (mkM b) (mkD (mkY a (9900:Int)) (mkM b) c) (n.tmod 2000)).2.2)∧tLs 28 3 true (g.2.map dtW) ((cutsT (mkY a (9900:Int)) (mkM b) (mkD (mkY a (9900:Int)) (mkM b) c) (cs.take 12)).map dtW)∧True)) ⟨decide_eq_false (by omega),(have hC1:g.2=cutsT (mkY a (9900:Int)) (mkM b) (mkD (mkY a (9900:Int)) (mkM b) c) (cs.take 12):=(hC1.2.1.trans (by rw [List.take_of_length_le h8]));⟨(fun _ _ _ _ _ h=>h),(fun _ _ _ _ _ h=>h),⟨⟨rfl,rfl,rfl⟩,(by rw [hC1])⟩,trivial⟩)⟩⟩
  ·exact ⟨htime_t_0_1 a b c n p cs bs g,vcP (decide (((g.1:Int):Int)<(((cs.take 12).length:Nat):Int))=true∧g.1<((cs.take 12).map cI16).length∧((cs.take 12).map cI16).getD g.1 []=([.int .i16 ((cs.take 12).getD g.1 0)]:List Value)∧tI (IntKind.i64.wrap ((cs.take 12).getD g.1 0)) ((cs.take 12).getD g.1 0)∧(2200≠(0:Int))∧(-9223372036854775808≤Int.tmod ((cs.take 12).getD g.1 0) 2200∧Int.tmod ((cs.take 12).getD g.1 0) 2200≤9223372036854775807)∧decide ((dyE (mkY a (9900:Int)) (mkM b) (mkD (mkY a (9900:Int)) (mkM b) c) (Int.tmod ((cs.take 12).getD g.1 0) 2200):Int)=0)=true∧((g.2.map dtW).length+([[.int .i64 (dyT (mkY a (9900:Int)) (mkM b) (mkD (mkY a (9900:Int)) (mkM b) c) (Int.tmod ((cs.take 12).getD g.1 0) 2200)).1, .int .i64 (dyT (mkY a (9900:Int)) (mkM b) (mkD (mkY a (9900:Int)) (mkM b) c) (Int.tmod ((cs.take 12).getD g.1 0) 2200)).2.1, .int .i64 (dyT (mkY a (9900:Int)) (mkM b) (mkD (mkY a (9900:Int)) (mkM b) c) (Int.tmod ((cs.take 12).getD g.1 0) 2200)).2.2]]:List (List Value)).length)*24≤140737488355328∧tLs 28 3 true (g.2.map dtW++([[.int .i64 (dyT (mkY a (9900:Int)) (mkM b) (mkD (mkY a (9900:Int)) (mkM b) c) (Int.tmod ((cs.take 12).getD g.1 0) 2200)).1, .int .i64 (dyT (mkY a (9900:Int)) (mkM b) (mkD (mkY a (9900:Int)) (mkM b) c) (Int.tmod ((cs.take 12).getD g.1 0) 2200)).2.1, .int .i64 (dyT (mkY a (9900:Int)) (mkM b) (mkD (mkY a (9900:Int)) (mkM b) c) (Int.tmod ((cs.take 12).getD g.1 0) 2200)).2.2]]:List (List Value))) ((g.2++ [dyT (mkY a (9900:Int)) (mkM b) (mkD (mkY a (9900:Int)) (mkM b) c) (((cs.take 12).getD g.1 0).tmod 2200)]).map dtW)∧wp ((g.1:Int)+1)∧tI ((g.1:Int)+1) ((g.1+1:Nat):Int)∧J1 (rlX (rtime_t (htime_t_0_1 a b c n p cs bs g)) [10,9,8,7,6,5] (itime_t_0 a b c n p cs bs g))) ⟨decide_eq_true (by omega),(by rw [List.length_map];exact h8.1),cI_row h8.1,⟨rfl,i64_in (by have:=cI_in hcs h8.1;omega) (by have:=cI_in hcs h8.1;omega)⟩,(by decide),(by have:=tm_b ((cs.take 12).getD g.1 0) (k:=2200) (by decide);omega),decide_eq_true h8.2,(by rw [List.length_map];simp;have:=hC1.2.2;have:=h8.1;have:=List.length_take_le 12 cs;omega),⟨⟨rfl,rfl,rfl⟩,dtW_snoc g.2 _⟩,wi (by omega),⟨rfl,by omega⟩,hJ1 (g.1+1,g.2++ [dyT (mkY a (9900:Int)) (mkM b) (mkD (mkY a (9900:Int)) (mkM b) c) (((cs.take 12).getD g.1 0).tmod 2200)]) _ (⟨h8.1,by rw [cutsT_snoc h8.1,if_pos h8.2,←hC1.2.1],by rw [List.length_append];have:=hC1.2.2;simp;exact this⟩) (by show (cs.take 12).length-(g.1+1)<_;have:=h8.1;omega) ⟨by kernel_rfl,by kernel_rfl⟩⟩⟩
  ·exact ⟨htime_t_0_2 a b c n p cs bs g,vcP (decide (((g.1:Int):Int)<(((cs.take 12).length:Nat):Int))=true∧g.1<((cs.take 12).map cI16).length∧((cs.take 12).map cI16).getD g.1 []=([.int .i16 ((cs.take 12).getD g.1 0)]:List Value)∧tI (IntKind.i64.wrap ((cs.take 12).getD g.1 0)) ((cs.take 12).getD g.1 0)∧(2200≠(0:Int))∧(-9223372036854775808≤Int.tmod ((cs.take 12).getD g.1 0) 2200∧Int.tmod ((cs.take 12).getD g.1 0) 2200≤9223372036854775807)∧decide ((dyE (mkY a (9900:Int)) (mkM b) (mkD (mkY a (9900:Int)) (mkM b) c) (Int.tmod ((cs.take 12).getD g.1 0) 2200):Int)=0)=false∧wp ((g.1:Int)+1)∧tI ((g.1:Int)+1) ((g.1+1:Nat):Int)∧J1 (rlX (rtime_t (htime_t_0_2 a b c n p cs bs g)) [10,8,7,6,5] (itime_t_0 a b c n p cs bs g))) ⟨decide_eq_true (by omega),(by rw [List.length_map];exact h8.1),cI_row h8.1,⟨rfl,i64_in (by have:=cI_in hcs h8.1;omega) (by have:=cI_in hcs h8.1;omega)⟩,(by decide),(by have:=tm_b ((cs.take 12).getD g.1 0) (k:=2200) (by decide);omega),decide_eq_false h8.2,wi (by omega),⟨rfl,by omega⟩,hJ1 (g.1+1,g.2) _ (⟨h8.1,by rw [cutsT_snoc h8.1,if_neg h8.2,List.append_nil,←hC1.2.1],Nat.le_succ_of_le hC1.2.2⟩) (by show (cs.take 12).length-(g.1+1)<_;have:=h8.1;omega) ⟨by kernel_rfl,by kernel_rfl⟩⟩⟩)))⟩
theorem rowI_rd {k:IntKind} {w:World} {a:Option Addr} {len cap:Nat} {zs:List Int} (h:(a=none∧len=0∧cap=0∧zs= [])∨ ∃x,a=some x∧len≤cap∧cap≤maxLen∧zs.length=cap∧(∀i,i<zs.length→w.cell? (x.add i)=some (.int k (zs.getD i 0)))∧ ∀n∈zs,(Lit.int k n).wf=true):isRd (cxA w) true 1 ((zs.take len).map fun c=> [.int k c]) w (.slice a len cap)∧ ∀n∈zs.take len,(Lit.int k n).wf=true:=by
 have hr:rowsB 1 ((zs.take len).map fun c=> [Value.int k c]):=fun r hr=>by
  obtain ⟨t,_,rfl⟩:=List.mem_map.1 hr
  rfl
 rcases h with ⟨rfl,rfl,rfl,rfl⟩|⟨x,rfl,h1,h2,h3,h4,h5⟩
 ·exact ⟨⟨hr,none,0,rfl,Nat.le_refl _,by decide,fun hn=>absurd rfl hn⟩,fun n hn=>by simp at hn⟩
 ·have hl:((zs.take len).map fun c=> [Value.int k c]).length=len:=by
   rw [List.length_map,List.length_take]
   omega
  refine ⟨⟨hr,some x,cap,by rw [hl],by rw [hl];exact h1,h2,fun hn=> ?_⟩,fun n hn=>h5 n (List.mem_of_mem_take hn)⟩
  have hp:0<len:=by
   rcases Nat.eq_zero_or_pos len with e|e
   ·exact absurd (List.eq_nil_of_length_eq_zero (hl.trans e)) hn
   ·exact e
  have hc:=h4 0 (by omega)
  have hx:x.add 0=x:=rfl
  rw [hx] at hc
  have hs:=World.cell?_spot hc
  obtain ⟨b,off,sp⟩:=x
  have hs':sp=none:=hs
  subst hs'
  cases hb:w.heap[b]? with
  |none=>simp [World.cell?,hb] at hc
  |some ob=>
   cases ob with
   |cells cs t fr=>
    refine ⟨b,off,cs,t,fr,rfl,hb,rfl,fun _=>lt_heap hb,fun j v hj=> ?_⟩
    have hj':j<len:=by
     have:=(List.getElem?_eq_some_iff.1 hj).1
     rw [flat_len hr,hl] at this
     omega
    have hv:v= .int k (zs.getD j 0):=by
     have e:((zs.take len).map fun c=> [Value.int k c]).flatten=(zs.take len).map fun c=>Value.int k c:=by
      induction zs.take len with
      |nil=>rfl
      |cons c r ih=>rw [List.map_cons,List.map_cons,List.flatten_cons,ih];rfl
     rw [e,List.getElem?_map,List.getElem?_take,if_pos hj',List.getElem?_eq_getElem (by omega)] at hj
     injection hj with hj
     rw [←hj,List.getD_eq_getElem?_getD,List.getElem?_eq_getElem (by omega)]
     rfl
    have hcj:=h4 j (by omega)
    have e2:(Addr.mk b off none).add j=⟨b,off+j,none⟩:=by unfold Addr.add;split<;>simp_all
    rw [e2] at hcj
    rw [hv]
    simpa [World.cell?,hb] using hcj
   |_=>simp [World.cell?,hb] at hc
abbrev Tm:=Int×Int×Int×Int×List (List Value)×List (List Value)×Int
noncomputable abbrev tmK (x:Tm):Ks K:= .S [.v (.int .i64 x.1), .v (.int .i64 x.2.1), .v (.int .i64 x.2.2.1), .v (.int .u16 x.2.2.2.1), .l 53 1 x.2.2.2.2.1, .l 53 1 x.2.2.2.2.2.1, .v (.int .u8 x.2.2.2.2.2.2)]
noncomputable def vTm:Vw Tm:=⟨fun| .S [.v (.int .i64 a), .v (.int .i64 b), .v (.int .i64 c), .v (.int .u16 n), .l _ 1 cs, .l _ 1 bs, .v (.int .u8 p)]=>some (a,b,c,n,cs,bs,p)|_=>none,fun x w v=>(k0 w (tmK x)).p w v,fun k a h w v hv=>by split at h<;>cases h;exact hv⟩
def rI:List Value→Int
 | [.int _ c]=>c
 |_=>0
theorem map_cI (l:List Int):(l.map cI16).map rI=l:=by
 rw [List.map_map]
 exact (List.map_congr_left fun p _=>rfl).trans (List.map_id l)
abbrev tA (a b c:Int):D3:=(mkY a (9900:Int),mkM b,mkD (mkY a (9900:Int)) (mkM b) c)
theorem timeR {w:World} {v:Value} {x:Tm} (h1:vTm.pr x w v) (hW:isTb w v) (e:x.2.2.2.2.1=(x.2.2.2.2.1.map rI).map cI16) (e2:x.2.2.2.2.2.1=(x.2.2.2.2.2.1.map rI).map cI16) (hn:0≤x.2.2.2.1∧x.2.2.2.1≤65535) (hc: ∀c∈x.2.2.2.2.1.map rI,-32768≤c∧c≤32767):Calls Tryz.prog 8 #[v] w (Ret w fun v' w'=>(f0 w (.t [eD (mkY x.1 (9900:Int)) (mkM x.2.1) (mkD (mkY x.1 (9900:Int)) (mkM x.2.1) x.2.2.1),eD (dyT (mkY x.1 (9900:Int)) (mkM x.2.1) (mkD (mkY x.1 (9900:Int)) (mkM x.2.1) x.2.2.1) (x.2.2.2.1.tmod 2000)).1 (dyT (mkY x.1 (9900:Int)) (mkM x.2.1) (mkD (mkY x.1 (9900:Int)) (mkM x.2.1) x.2.2.1) (x.2.2.2.1.tmod 2000)).2.1 (dyT (mkY x.1 (9900:Int)) (mkM x.2.1) (mkD (mkY x.1 (9900:Int)) (mkM x.2.1) x.2.2.1) (x.2.2.2.1.tmod 2000)).2.2, .L 28 3 ((cutsT (mkY x.1 (9900:Int)) (mkM x.2.1) (mkD (mkY x.1 (9900:Int)) (mkM x.2.1) x.2.2.1) ((x.2.2.2.2.1.map rI).take 12)).map dtW) true])).p w' v'):=by
 have h:(k0 w (tmK x)).p w v:=h1
 unfold tmK at h
 rw [e,e2] at h
 exact time_t h hW hn hc
end Go.Proofs.YtjpilacbapibjaaGreatDoor.X
namespace Go.Proofs.YtjpilacbapibjaaGreatDoor.X
open Go.Proofs.YtjpilacbapibjaaGreatDoor.Da
open Go.RowKit Go.Proofs.YtjpilacbapibjaaGreatDoor.Z
set_option linter.unusedVariables false
theorem spL_len (x y:D3) (cs:List D3):(spL x y cs).length≤4000000:=by
 by_cases h:spOk x y cs
 ·rw [(sp_yes h).1]
  have i1:=num_in h.1.1
  have i2:=num_in h.1.2.1
  have c:=chain_len (cut_chain (ns:=nsOf cs) (nm x) h.2)
  have j1:1≤nm x:=i1.1
  have j2:nm y≤3652059:=i2.2
  omega
 ·unfold spL
  rw [if_neg h]
  exact Nat.zero_le _
theorem qt12 {q:Rat} {la lb:List UInt8} (h1:q.num=((Tx.rd la:Nat):Int)) (h2:q.den=Tx.rd lb) (h3:q.den≠1) (ha:Tx.okText la) (hb:Tx.okText lb):qtext q=la++ [47]++lb:=by
 unfold qtext ztext
 rw [if_neg h3,h1,h2,if_neg (by omega),Int.natAbs_natCast,Tx.text_rd ha,Tx.text_rd hb]
abbrev wA:D3:=(2024,1,1)
abbrev wB:D3:=(2024,4,1)
abbrev wM:D3:=(2024,2,10)
abbrev wU:D3:=(2025,1,1)
theorem w_ri:ri wA∧ri wB∧ri wM∧ri wU:=⟨by decide,by decide,by decide,by decide⟩
theorem w_num:nm wM=nm wA+40∧nm wB=nm wA+91:=by
 have a:mS 2024 ((1:Int) -1).toNat=0:=rfl
 have b:mS 2024 ((2:Int) -1).toNat=31:=by decide
 have c:mS 2024 ((4:Int) -1).toNat=91:=by decide
 unfold nm numI
 constructor<;>(simp only;omega)
theorem w_u:nm wB<nm wU:=num_lt w_ri.2.1 w_ri.2.2.2 (.inl (by decide))
theorem w_ok:spOk wA wB [wU,wM]:=⟨⟨w_ri.1,w_ri.2.1,fun c hc=>by
  rcases List.mem_cons.1 hc with rfl|hc
  ·exact w_ri.2.2.2
  ·rcases List.mem_cons.1 hc with rfl|hc
   ·exact w_ri.2.2.1
   ·cases hc⟩,by have:=w_num;omega⟩
theorem cut2 {a m t u:Int} (h1:a<m) (h2:m<t) (h3:t<u):cutP [u,m] a t= [(a,m),(m,t)]:=by
 have e1:nxt [u,m] a t=m:=by
  show (if a<m∧m<(if a<u∧u<t then u else t) then m else (if a<u∧u<t then u else t))=m
  rw [if_neg (show ¬(a<u∧u<t) by omega),if_pos ⟨h1,h2⟩]
 have e2:nxt [u,m] m t=t:=by
  show (if m<m∧m<(if m<u∧u<t then u else t) then m else (if m<u∧u<t then u else t))=t
  rw [if_neg (show ¬(m<u∧u<t) by omega),if_neg (by omega)]
 rw [cut_yes (by omega),e1,cut_yes h2,e2,cut_no (by omega)]
theorem w_l:(spL wA wB [wU,wM]).map ptW= [ptD (wA,wM),ptD (wM,wB)]∧spE wA wB [wU,wM]=0:=by
 have e:=sp_yes w_ok
 refine ⟨?_,e.2⟩
 have n:=w_num
 have u:=w_u
 rw [e.1,show nsOf [wU,wM]= [nm wU,nm wM] from rfl,cut2 (by omega) (by omega) u]
 show [ptW (nm wA,nm wM),ptW (nm wM,nm wB)]=_
 unfold ptW ptD
 simp only
 rw [dt_nm w_ri.1,dt_nm w_ri.2.1,dt_nm w_ri.2.2.1]
theorem w_e:spE wB wA []=12:=(sp_order ⟨w_ri.2.1,w_ri.1,fun c hc=>by cases hc⟩ (by have:=w_num;omega)).2
theorem w_y:ysE 1 [(wA,wM),(wM,wB)]=0∧qtext (ysA 1 [(wA,wM),(wM,wB)] fun _=>1)= [57,49,47,51,54,53]:=by
 have n:=w_num
 have o1:yrOk 1 2024 1 1 2024 2 10:=⟨by decide,⟨w_ri.1,w_ri.2.2.1⟩,by show nm wA≤nm wM;omega⟩
 have o2:yrOk 1 2024 2 10 2024 4 1:=⟨by decide,⟨w_ri.2.2.1,w_ri.2.1⟩,by show nm wM≤nm wB;omega⟩
 have h: ∀j,j< [(wA,wM),(wM,wB)].length→yE 1 (pd [(wA,wM),(wM,wB)] j)=0:=fun j hj=>by
  rcases (show j=0∨j=1 by simp at hj;omega) with rfl|rfl
  ·exact (yr_yes o1).2
  ·exact (yr_yes o2).2
 obtain ⟨e1,e2⟩:=ys_yes (f:=fun _=>1) h
 refine ⟨e2, ?_⟩
 rw [e1]
 show qtext (((0:Rat)+yrA 1 2024 1 1 2024 2 10*1)+yrA 1 2024 2 10 2024 4 1*1)=_
 rw [(yr_yes o1).1,(yr_yes o2).1,yr_1,yr_1,show numI 2024 2 10-numI 2024 1 1=40 from (by show nm wM-nm wA=40;omega),show numI 2024 4 1-numI 2024 2 10=51 from (by show nm wB-nm wM=51;omega)]
 exact qt12 (la:= [57,49]) (lb:= [51,54,53]) (by decide+kernel) (by decide+kernel) (by decide+kernel) ⟨by decide, .inr ⟨by decide,by decide⟩⟩ ⟨by decide, .inr ⟨by decide,by decide⟩⟩
noncomputable def ctb55:List (Ct dk):= [
 ct1 19 0 en19 vQ (fun x=> .s (.E (.string (str (qtext x.1))))) (fun x=> [x.2≤268435456]) fun _ p _ _ h1=>print_q h1 p.1,
 ct3w 11 0 en11 vDt vDt (vL 3) (.O .Tb) isTbk isTbk_ok (fun x y z=> .t [.L 74 6 ((spL (x.1,x.2.1,x.2.2) (y.1,y.2.1,y.2.2) (z.map dtR)).map ptW) true,eI (spE (x.1,x.2.1,x.2.2) (y.1,y.2.1,y.2.2) (z.map dtR))]) (fun x y z=> [z=(z.map dtR).map dtW,(z:List (List Value)).length≤1000000]) fun _ _ _ p _ _ _ _ _ h1 h2 h3 hW=>pSPartsR h1 h2 h3 hW p.1 p.2.1,
 ct2w 18 0 en18 vI (vL 6) (.O .Tb) isTbk isTbk_ok (fun x y=> .t [.O (.Q (ysA x (y.map pR) fun _=>1) (60*(y.map pR).length+1)),eI (ysE x (y.map pR))]) (fun x y=> [y=(y.map pR).map ptD,y.length≤4000000]) fun _ _ p _ _ _ _ h1 h2 hW=>pSYearsR h1 h2 hW p.1 p.2.1]
theorem wakes12_t {w:World} (hw:isTb w undef):Calls Tryz.prog 9 #[] w (Ret w fun v w'=>(isE (.bool true)) w' v):=by
 exact fx ctb55 Tryz.func9 (hnX [(3,[(7,0,oS (.F 74 6 [ptD (wA,wM),ptD (wM,wB)])),(8,0,oS (eI 0))]),(4,[(3,0,oS (.O (.Q (ysA 1 [(wA,wM),(wM,wB)] fun _=>1) 121))),(4,0,oS (eI 0))]),(5,[(5,0,oS (eI 12))]),(6,[(1,0,oS (eB true)),(5,0,oS (eB true)),(9,0,oS (.A [.int .i64 2024, .int .i64 1, .int .i64 1, .int .i64 2024, .int .i64 2, .int .i64 10])),(14,0,oS (eB true)),(18,0,oS (.A [.int .i64 2024, .int .i64 2, .int .i64 10, .int .i64 2024, .int .i64 4, .int .i64 1])),(23,0,oS (eB true)),(28,0,oS (eB true)),(32,0,oS (eB true)),(36,0,oS (eB true))])]) [(1000000, .O .Tb)] (.s (eB true)) ⟨hw,trivial⟩ ([[.int .i64 2025, .int .i64 1, .int .i64 1],[.int .i64 2024, .int .i64 2, .int .i64 10]]=(([[.int .i64 2025, .int .i64 1, .int .i64 1],[.int .i64 2024, .int .i64 2, .int .i64 10]]).map dtR).map dtW∧([[.int .i64 2025, .int .i64 1, .int .i64 1],[.int .i64 2024, .int .i64 2, .int .i64 10]]:List (List Value)).length≤1000000∧tLn 74 6 ((spL (2024,1,1) (2024,4,1) (([[.int .i64 2025, .int .i64 1, .int .i64 1],[.int .i64 2024, .int .i64 2, .int .i64 10]]).map dtR)).map ptW) [ptD (wA,wM),ptD (wM,wB)]∧tI (spE (2024,1,1) (2024,4,1) (([[.int .i64 2025, .int .i64 1, .int .i64 1],[.int .i64 2024, .int .i64 2, .int .i64 10]]).map dtR)) 0∧[ptD (wA,wM),ptD (wM,wB)]=([ptD (wA,wM),ptD (wM,wB)].map pR).map ptD∧[ptD (wA,wM),ptD (wM,wB)].length≤4000000∧tK (.O (.Q (ysA (1:Int) ([ptD (wA,wM),ptD (wM,wB)].map pR) fun _=>1) (60*([ptD (wA,wM),ptD (wM,wB)].map pR).length+1))) (.O (.Q (ysA 1 [(wA,wM),(wM,wB)] fun _=>1) 121))∧tI (ysE (1:Int) ([ptD (wA,wM),ptD (wM,wB)].map pR)) 0∧([]:List (List Value))=(([]:List (List Value)).map dtR).map dtW∧(([]:List (List Value)):List (List Value)).length≤1000000∧tI (spE (2024,4,1) (2024,1,1) (([]:List (List Value)).map dtR)) 12∧decide ((0:Int)=0)=true∧decide ((((([ptD (wA,wM),ptD (wM,wB)]:List (List Value)).length:Nat):Int):Int)=2)=true∧0<([ptD (wA,wM),ptD (wM,wB)]:List (List Value)).length∧([ptD (wA,wM),ptD (wM,wB)]:List (List Value)).getD 0 []=([.int .i64 2024, .int .i64 1, .int .i64 1, .int .i64 2024, .int .i64 2, .int .i64 10]:List Value)∧(decide ((2024:Int)=2024)&&(decide ((1:Int)=1)&&(decide ((1:Int)=1)&&(decide ((2024:Int)=2024)&&(decide ((2:Int)=2)&&(decide ((10:Int)=10)&&true))))))=true∧1<([ptD (wA,wM),ptD (wM,wB)]:List (List Value)).length∧([ptD (wA,wM),ptD (wM,wB)]:List (List Value)).getD 1 []=([.int .i64 2024, .int .i64 2, .int .i64 10, .int .i64 2024, .int .i64 4, .int .i64 1]:List Value)∧(decide ((2024:Int)=2024)&&(decide ((2:Int)=2)&&(decide ((10:Int)=10)&&(decide ((2024:Int)=2024)&&(decide ((4:Int)=4)&&(decide ((1:Int)=1)&&true))))))=true∧121≤268435456∧(qtext (ysA 1 [(wA,wM),(wM,wB)] fun _=>1)== [57,49,47,51,54,53])=true∧decide ((0:Int)=0)=true∧decide ((12:Int)=12)=true∧true=true) ⟨(by first|(rw [map_RW];done)|rfl),(by decide),⟨⟨rfl,rfl⟩,(by exact w_l.1)⟩,⟨rfl,by exact w_l.2⟩,(by first|(rw [map_PW];done)|(rw [map_PD];done)|rfl),(by decide),(fun _ _ _ _ _ h=>isQ_re h rfl (by decide)),⟨rfl,by exact w_y.1⟩,(by first|(rw [map_RW];done)|rfl),(by decide),⟨rfl,by exact w_e⟩,rfl,rfl,(by decide),rfl,rfl,(by decide),rfl,rfl,(by omega),(by show (qtext (ysA 1 [(wA,wM),(wM,wB)] fun _=>1)== [57,49,47,51,54,53])=true;rw [w_y.2];rfl),rfl,rfl,rfl⟩
end Go.Proofs.YtjpilacbapibjaaGreatDoor.X
namespace Go.Proofs.YtjpilacbapibjaaGreatDoor.X
open Go.Proofs.YtjpilacbapibjaaGreatDoor.Da
open Go.RowKit Go.Proofs.YtjpilacbapibjaaGreatDoor.Z
set_option linter.unusedVariables false
theorem tA_ri (a b c:Int):ri (tA a b c):=mk_right (by decide) (by decide)
theorem tA_in (a b c:Int):1≤nm (tA a b c)∧nm (tA a b c)≤3650000:=by
 have h:=tA_ri a b c
 have h1:=num_in h
 have h2:=(num_year h).2
 have h3:=mk_y (a:=a) (years:=9900) (by decide)
 have h4:=yS_mono (n:=(mkY a 9900).toNat) (m:=9900) (by omega)
 have h5:=yS_mono (n:=9900) (m:=9999) (by decide)
 rw [yS_last] at h5
 have e1:1≤nm (tA a b c):=h1.1
 have e2:nm (tA a b c)≤yS (mkY a 9900).toNat:=h2
 exact ⟨e1,by omega⟩
noncomputable abbrev tEn (a b c n:Int):D3:=dyT (mkY a (9900:Int)) (mkM b) (mkD (mkY a (9900:Int)) (mkM b) c) (n.tmod 2000)
theorem t_tm {n:Int} (hn:0≤n):0≤n.tmod 2000∧n.tmod 2000<2000:=⟨Int.tmod_nonneg _ hn,(tm_b n (k:=2000) (by decide)).2⟩
theorem t_B {a b c n:Int} (hn:0≤n):ri (tEn a b c n)∧nm (tEn a b c n)=nm (tA a b c)+n.tmod 2000:=by
 have i:=tA_in a b c
 have t:=t_tm hn
 have e:tEn a b c n=dtN (nm (tA a b c)+n.tmod 2000):=(dy_yes (tA_ri a b c)).1
 rw [e]
 exact ⟨ri_dt ⟨by omega,by omega⟩,nm_dt ⟨by omega,by omega⟩⟩
theorem cuts_ri {y m d:Int} {l:List Int} (h:rightI y m d): ∀c∈cutsT y m d l,ri c:=by
 intro c hc
 obtain ⟨k,_,e⟩:=List.mem_filterMap.1 hc
 split at e
 ·next h0=>
  injection e with e
  subst e
  rw [(dy_yes h).2] at h0
  rw [(dy_yes h).1]
  unfold ofE at h0
  split at h0
  ·next hz=>exact ri_dt hz
  ·cases h0
 ·cases e
theorem t_ok {a b c n:Int} {l:List Int} (hn:0≤n):spOk (tA a b c) (tEn a b c n) (cutsT (mkY a (9900:Int)) (mkM b) (mkD (mkY a (9900:Int)) (mkM b) c) l):=by
 have t:=t_tm hn
 refine ⟨⟨tA_ri a b c,(t_B hn).1,cuts_ri (tA_ri a b c)⟩, ?_⟩
 rw [(t_B hn).2]
 omega
end Go.Proofs.YtjpilacbapibjaaGreatDoor.X
namespace Go.Proofs.YtjpilacbapibjaaGreatDoor.X
open Go.Proofs.YtjpilacbapibjaaGreatDoor.Da
open Go.RowKit Go.Proofs.YtjpilacbapibjaaGreatDoor.Z
set_option linter.unusedVariables false
set_option linter.unusedSimpArgs false
theorem so_mem {cs ds:List D3} (h: ∀c,c∈ds↔c∈cs) {x y:D3} (hk:spOk x y cs):spL x y ds=spL x y cs∧spE x y ds=0:=by
 have h2:spOk x y ds:=⟨⟨hk.1.1,hk.1.2.1,fun c hc=>hk.1.2.2 c ((h c).1 hc)⟩,hk.2⟩
 refine ⟨?_,(sp_yes h2).2⟩
 rw [(sp_yes h2).1,(sp_yes hk).1]
 refine cut_congr _ fun n _ _=> ?_
 unfold nsOf
 simp only [List.mem_map,h]
theorem so_rev (cs:List D3) (c:D3):c∈cs.reverse++cs↔c∈cs:=by simp
theorem so_split {cs:List D3} {x y m:D3} (hk:spOk x y cs) (hm:ri m) (h1:nm x≤nm m) (h2:nm m≤nm y):spL x y (cs.reverse++ [m])=spL x m cs++spL m y cs∧spE x y (cs.reverse++ [m])=0∧spE x m cs=0∧spE m y cs=0:=by
 have a1:spOk x m cs:=⟨⟨hk.1.1,hm,hk.1.2.2⟩,h1⟩
 have a2:spOk m y cs:=⟨⟨hm,hk.1.2.1,hk.1.2.2⟩,h2⟩
 have a3:spOk x y (cs.reverse++ [m]):=⟨⟨hk.1.1,hk.1.2.1,fun c hc=>by
  rcases List.mem_append.1 hc with h|h
  ·exact hk.1.2.2 c (List.mem_reverse.1 h)
  ·rw [List.mem_singleton.1 h];exact hm⟩,hk.2⟩
 refine ⟨?_,(sp_yes a3).2,(sp_yes a1).2,(sp_yes a2).2⟩
 have hin:nm m∈nsOf (cs.reverse++ [m]):=by unfold nsOf;simp
 have mem: ∀n,n≠nm m→(n∈nsOf (cs.reverse++ [m])↔n∈nsOf cs):=fun n hn=>by
  unfold nsOf
  simp only [List.map_append,List.map_reverse,List.mem_append,List.mem_reverse,List.map_cons,List.map_nil,List.mem_singleton]
  exact ⟨fun h=>h.elim id fun e=>absurd e hn, .inl⟩
 rw [(sp_yes a3).1,(sp_yes a1).1,(sp_yes a2).1,cut_split hin h2 _ h1]
 congr 1
 ·exact cut_congr _ fun n _ hn=>mem n (by omega)
 ·exact cut_congr _ fun n hn _=>mem n (by omega)
noncomputable abbrev tMid (a b c j:Int):D3:=dyT (mkY a (9900:Int)) (mkM b) (mkD (mkY a (9900:Int)) (mkM b) c) j
theorem t_M {a b c j:Int} (h:0≤j∧j<2000):ri (tMid a b c j)∧nm (tMid a b c j)=nm (tA a b c)+j:=by
 have i:=tA_in a b c
 have e:tMid a b c j=dtN (nm (tA a b c)+j):=(dy_yes (tA_ri a b c)).1
 rw [e]
 exact ⟨ri_dt ⟨by omega,by omega⟩,nm_dt ⟨by omega,by omega⟩⟩
theorem t_bt {a b c n:Int} (hn:0≤n):btI (tA a b c).1 (tA a b c).2.1 (tA a b c).2.2 (tEn a b c n).1 (tEn a b c n).2.1 (tEn a b c n).2.2=n.tmod 2000:=by
 rw [(bt_yes (tA_ri a b c) (t_B hn).1).1]
 have e:nm (tEn a b c n)=nm (tA a b c)+n.tmod 2000:=(t_B hn).2
 show nm (tEn a b c n) -nm (tA a b c)=_
 omega
theorem pv_dW (l:List D3): ∀r∈l.map dtW,∀c∈r,pv c=true:=by
 intro r hr x hx
 obtain ⟨d,_,rfl⟩:=List.mem_map.1 hr
 simp only [dtW,List.mem_cons,List.not_mem_nil,or_false] at hx
 rcases hx with rfl|rfl|rfl<;>rfl
theorem rev_W (l:List D3):(l.map dtW).reverse=l.reverse.map dtW:=List.map_reverse.symm
theorem app_W (l m:List D3):l.map dtW++m.map dtW=(l++m).map dtW:=List.map_append.symm
noncomputable def ttRv:Tt dk:=ttRev 28 en28 28 3 (fun a cap w=>AnyQ.slices_Reverse_empty lg35 a cap w) (fun g cap d w hH hs=>AnyQ.slices_Reverse lg35 3 (by intro w;kernel_rfl) (by intro w;kernel_rfl) rwE (fun x=>x.2.1) (fun x v hv=>pv_one (x.2.2 v hv)) g 0 cap d w hH hs)
theorem cloneR {w:World} {v:Value} {l:List (List Value)} (h:isRd (cxA w) true 3 l w v) (hp: ∀r∈l,∀x∈r,pv x=true) (hn:l.length*24≤140737488355328):Calls Tryz.prog 27 #[v] w (Ret w fun v' w'=>(f0 w (.s (.L 28 3 l true))).p w' v'):=clone_d h hp hn
noncomputable abbrev requal_t:=rX [] Tryz.f31
noncomputable abbrev dequal_t (ps:List (D3×D3)):=dX [] Tryz.f31 (.s (eB true))
noncomputable def hequal_t (ps:List (D3×D3)):Nat→Hint K:=hnX [(1,[(4,0,oS (eB false))]),(3,[(1,0,oS (eI ((ps.length:Nat):Int)))])]
noncomputable def iequal_t_0 (ps:List (D3×D3)) (i:Nat):Sx K:=⟨[(0, .L 74 6 (ps.map ptD) false),(1, .L 74 6 (ps.map ptD) false),(12,eI ((ps.length:Nat):Int)),(13,eI (i:Int))],[]⟩
noncomputable def hequal_t_0_0 (ps:List (D3×D3)) (i:Nat):Nat→Hint K:=hnX [(4,[(0,0,oS (eB true))]),(6,[(2,0,oS (.A [.int .i64 (pd ps i).1.1, .int .i64 (pd ps i).1.2.1, .int .i64 (pd ps i).1.2.2, .int .i64 (pd ps i).2.1, .int .i64 (pd ps i).2.2.1, .int .i64 (pd ps i).2.2.2])),(6,0,oS (.A [.int .i64 (pd ps i).1.1, .int .i64 (pd ps i).1.2.1, .int .i64 (pd ps i).1.2.2, .int .i64 (pd ps i).2.1, .int .i64 (pd ps i).2.2.1, .int .i64 (pd ps i).2.2.2])),(8,0,oS (eB false))]),(8,[(0,0,oS (eI ((i+1:Nat):Int)))])]
noncomputable def hequal_t_0_1 (ps:List (D3×D3)) (i:Nat):Nat→Hint K:=hnX [(4,[(0,0,oS (eB false))])]
theorem equal_t {w:World} {v0 v1:Value} {ps:List (D3×D3)} (h0:(isRd (cxA w) true 6 (ps.map ptD)) w v0) (h1:(isRd (cxA w) true 6 (ps.map ptD)) w v1) (hl:ps.length≤8000000):Calls Tryz.prog 31 #[v0,v1] w (Ret w fun v w'=>(isE (.bool true)) w' v):=by
 exact fx [] Tryz.func31 (hequal_t ps) [(0, .L 74 6 (ps.map ptD) false),(1, .L 74 6 (ps.map ptD) false)] (.s (eB true)) ⟨h0,h1,trivial⟩ ((!decide (((((ps.map ptD).length:Nat):Int):Int)=(((ps.map ptD).length:Nat):Int)))=false∧tI (((ps.map ptD).length:Nat):Int) ((ps.length:Nat):Int)∧dequal_t ps [1,0,1] [(hequal_t ps)] [] (rlX (requal_t (hequal_t ps)) [3,1] (ent Tryz.prog Tryz.f31 (κ:=K) [(0, .L 74 6 (ps.map ptD) false),(1, .L 74 6 (ps.map ptD) false)]))) ⟨(by simp),⟨rfl,by simp⟩,(lpI (fun h S' J=>dequal_t ps [1,0,1,0,2] [(hequal_t ps),h] [J] S') (fun i:Nat=>i≤ps.length) (fun i=>ps.length-i) (iequal_t_0 ps) (0) (rlX (requal_t (hequal_t ps)) [3,1] (ent Tryz.prog Tryz.f31 (κ:=K) [(0, .L 74 6 (ps.map ptD) false),(1, .L 74 6 (ps.map ptD) false)])) (Nat.zero_le _) (fun i hC1 J1 hJ1=>(by
  rcases Nat.lt_or_ge i ps.length with h8|h8
  ·exact ⟨hequal_t_0_0 ps i,vcP (decide (((i:Int):Int)<((ps.length:Nat):Int))=true∧i<(ps.map ptD).length∧(ps.map ptD).getD i []=([.int .i64 (pd ps i).1.1, .int .i64 (pd ps i).1.2.1, .int .i64 (pd ps i).1.2.2, .int .i64 (pd ps i).2.1, .int .i64 (pd ps i).2.2.1, .int .i64 (pd ps i).2.2.2]:List Value)∧i<(ps.map ptD).length∧(ps.map ptD).getD i []=([.int .i64 (pd ps i).1.1, .int .i64 (pd ps i).1.2.1, .int .i64 (pd ps i).1.2.2, .int .i64 (pd ps i).2.1, .int .i64 (pd ps i).2.2.1, .int .i64 (pd ps i).2.2.2]:List Value)∧(!(decide (((pd ps i).1.1:Int)=(pd ps i).1.1)&&(decide (((pd ps i).1.2.1:Int)=(pd ps i).1.2.1)&&(decide (((pd ps i).1.2.2:Int)=(pd ps i).1.2.2)&&(decide (((pd ps i).2.1:Int)=(pd ps i).2.1)&&(decide (((pd ps i).2.2.1:Int)=(pd ps i).2.2.1)&&(decide (((pd ps i).2.2.2:Int)=(pd ps i).2.2.2)&&true)))))))=false∧wp ((i:Int)+1)∧tI ((i:Int)+1) ((i+1:Nat):Int)∧J1 (rlX (requal_t (hequal_t_0_0 ps i)) [8,6,5,4] (iequal_t_0 ps i))) ⟨decide_eq_true (by omega),(by rw [List.length_map];exact h8),pd_row h8,(by rw [List.length_map];exact h8),pd_row h8,(by simp),wi (by omega),⟨rfl,by omega⟩,hJ1 (i+1) _ (h8) (by omega) ⟨by kernel_rfl,by kernel_rfl⟩⟩⟩
  ·exact ⟨hequal_t_0_1 ps i,vcP (decide (((i:Int):Int)<((ps.length:Nat):Int))=false∧true=true) ⟨decide_eq_false (by omega),(have hC1:True:=(trivial);rfl)⟩⟩)))⟩
theorem equalR {w:World} {v u:Value} {x y:List (List Value)} (h1:isRd (cxA w) true 6 x w v) (h2:isRd (cxA w) true 6 y w u) (e:y=x) (e2:x=(x.map pR).map ptD) (hl:x.length≤8000000):Calls Tryz.prog 31 #[v,u] w (Ret w fun v' w'=>(f0 w (.s (eB true))).p w' v'):=by
 subst e
 have hl2:(y.map pR).length≤8000000:=by rw [List.length_map];exact hl
 rw [e2] at h1 h2
 exact equal_t h1 h2 hl2
noncomputable def ctb56:List (Ct dk):= [
 ct2w 30 0 en30 vDt vI (.O .Tb) isTbk isTbk_ok (fun x y=> .t [eD (dyT x.1 x.2.1 x.2.2 y).1 (dyT x.1 x.2.1 x.2.2 y).2.1 (dyT x.1 x.2.1 x.2.2 y).2.2,eI (dyE x.1 x.2.1 x.2.2 y)]) (fun x y=> [-9223372036854775808≤y∧y≤9223372036854775807]) fun _ _ p _ _ _ _ h1 h2 hW=>pDays10_t h1 h2 hW p.1,
 ct2w 29 0 en29 vDt vDt (.O .Tb) isTbk isTbk_ok (fun x y=> .t [eI (btI x.1 x.2.1 x.2.2 y.1 y.2.1 y.2.2),eI (btE x.1 x.2.1 x.2.2 y.1 y.2.1 y.2.2)]) (fun x y=> []) fun _ _ p _ _ _ _ h1 h2 hW=>pBetween_t h1 h2 hW,
 ct3w 11 0 en11 vDt vDt (vL 3) (.O .Tb) isTbk isTbk_ok (fun x y z=> .t [.L 74 6 ((spL (x.1,x.2.1,x.2.2) (y.1,y.2.1,y.2.2) (z.map dtR)).map ptW) true,eI (spE (x.1,x.2.1,x.2.2) (y.1,y.2.1,y.2.2) (z.map dtR))]) (fun x y z=> [z=(z.map dtR).map dtW,(z:List (List Value)).length≤1000000]) fun _ _ _ p _ _ _ _ _ h1 h2 h3 hW=>pSPartsR h1 h2 h3 hW p.1 p.2.1,
 ct1w 8 0 en8 vTm (.O .Tb) isTbk isTbk_ok (fun x=> .t [eD (mkY x.1 (9900:Int)) (mkM x.2.1) (mkD (mkY x.1 (9900:Int)) (mkM x.2.1) x.2.2.1),eD (dyT (mkY x.1 (9900:Int)) (mkM x.2.1) (mkD (mkY x.1 (9900:Int)) (mkM x.2.1) x.2.2.1) (x.2.2.2.1.tmod 2000)).1 (dyT (mkY x.1 (9900:Int)) (mkM x.2.1) (mkD (mkY x.1 (9900:Int)) (mkM x.2.1) x.2.2.1) (x.2.2.2.1.tmod 2000)).2.1 (dyT (mkY x.1 (9900:Int)) (mkM x.2.1) (mkD (mkY x.1 (9900:Int)) (mkM x.2.1) x.2.2.1) (x.2.2.2.1.tmod 2000)).2.2, .L 28 3 ((cutsT (mkY x.1 (9900:Int)) (mkM x.2.1) (mkD (mkY x.1 (9900:Int)) (mkM x.2.1) x.2.2.1) ((x.2.2.2.2.1.map rI).take 12)).map dtW) true]) (fun x=> [x.2.2.2.2.1=(x.2.2.2.2.1.map rI).map cI16,x.2.2.2.2.2.1=(x.2.2.2.2.2.1.map rI).map cI16,0≤x.2.2.2.1∧x.2.2.2.1≤65535,∀c∈(x.2.2.2.2.1.map rI),-32768≤c∧c≤32767]) fun _ p _ _ _ h1 hW=>timeR h1 hW p.1 p.2.1 p.2.2.1 p.2.2.2.1,
 ct0w 9 0 en9 (.O .Tb) isTbk isTbk_ok (.s (eB true)) fun _ _ hW=>wakes12_t hW,
 ct2 31 0 en31 (vL 6) (vL 6) (fun x y=> .s (eB true)) (fun x y=> [y=x,x=(x.map pR).map ptD,x.length≤8000000]) fun _ _ p _ _ _ h1 h2=>equalR h1 h2 p.1 p.2.1 p.2.2.1,
 ct1 27 0 en27 (vL 3) (fun x=> .s (.L 28 3 x true)) (fun x=> [∀r∈x,∀c∈r,pv c=true,x.length*24≤140737488355328]) fun _ p _ _ h1=>cloneR h1 p.1 p.2.1]
theorem splitOrder_t {w:World} {v0 v1:Value} {a b c n p q:Int} {cs bs:List Int} (h0:(f0 w (.s (.S [.v (.int .i64 a), .v (.int .i64 b), .v (.int .i64 c), .v (.int .u16 n), .l 53 1 (cs.map cI16), .l 53 1 (bs.map cI16), .v (.int .u8 p)]))).p w v0) (h1:(isE (.int .u16 q)) w v1) (hw:isTb w v0) (hn:0≤n∧n≤65535) (hq:0≤q∧q≤65535) (hcs: ∀c∈cs,-32768≤c∧c≤32767):Calls Tryz.prog 7 #[v0,v1] w (Ret w fun v w'=>(isE (.bool true)) w' v):=by
 have hC:(cutsT (mkY a (9900:Int)) (mkM b) (mkD (mkY a (9900:Int)) (mkM b) c) (((cs.map cI16).map rI).take 12)).length≤1000:=by have:=cutsT_len (y:=mkY a (9900:Int)) (m:=mkM b) (d:=mkD (mkY a (9900:Int)) (mkM b) c) (l:=((cs.map cI16).map rI).take 12);have:=List.length_take_le 12 ((cs.map cI16).map rI);omega
 have hC:(cutsT (mkY a (9900:Int)) (mkM b) (mkD (mkY a (9900:Int)) (mkM b) c) (((cs.map cI16).map rI).take 12)).length≤1000000:=by omega
 have ht:=t_tm hn.1
 have hj:0≤q.tmod (n.tmod 2000+1)∧q.tmod (n.tmod 2000+1)≤n.tmod 2000:=⟨Int.tmod_nonneg _ hq.1,by have:=(tm_b q (k:=n.tmod 2000+1) (by omega)).2;omega⟩
 have hM:=t_M (a:=a) (b:=b) (c:=c) (j:=q.tmod (n.tmod 2000+1)) ⟨hj.1,by omega⟩
 have hM1:nm (tA a b c)≤nm (tMid a b c (q.tmod (n.tmod 2000+1))):=by have:=hM.2;omega
 have hM2:nm (tMid a b c (q.tmod (n.tmod 2000+1)))≤nm (tEn a b c n):=by have:=hM.2;have:=(t_B (a:=a) (b:=b) (c:=c) hn.1).2;omega
 exact fxt ctb56 [ttRv] Tryz.func7 (hnX [(2,[(5,0,oS (.F 74 6 ((spL (tA a b c) (tEn a b c n) (cutsT (mkY a (9900:Int)) (mkM b) (mkD (mkY a (9900:Int)) (mkM b) c) (((cs.map cI16).map rI).take 12))).map ptW))),(6,0,oS (eI 0))]),(4,[(1,0,oS (.L 28 3 ((cutsT (mkY a (9900:Int)) (mkM b) (mkD (mkY a (9900:Int)) (mkM b) c) (((cs.map cI16).map rI).take 12)).reverse.map dtW) true))]),(5,[(0,900000,none),(1,900000,none),(4,0,oS (.L 28 3 (((cutsT (mkY a (9900:Int)) (mkM b) (mkD (mkY a (9900:Int)) (mkM b) c) (((cs.map cI16).map rI).take 12)).reverse++cutsT (mkY a (9900:Int)) (mkM b) (mkD (mkY a (9900:Int)) (mkM b) c) (((cs.map cI16).map rI).take 12)).map dtW) true)),(7,0,oS (.F 74 6 ((spL (tA a b c) (tEn a b c n) (cutsT (mkY a (9900:Int)) (mkM b) (mkD (mkY a (9900:Int)) (mkM b) c) (((cs.map cI16).map rI).take 12))).map ptW))),(8,0,oS (eI 0))]),(6,[(4,0,oS (eI (n.tmod 2000)))]),(7,[(2,0,oS (eI q))]),(8,[(5,0,oS (.F 74 6 ((spL (tA a b c) (tMid a b c (q.tmod (n.tmod 2000+1))) (cutsT (mkY a (9900:Int)) (mkM b) (mkD (mkY a (9900:Int)) (mkM b) c) (((cs.map cI16).map rI).take 12))).map ptW))),(6,0,oS (eI 0))]),(9,[(5,0,oS (.F 74 6 ((spL (tMid a b c (q.tmod (n.tmod 2000+1))) (tEn a b c n) (cutsT (mkY a (9900:Int)) (mkM b) (mkD (mkY a (9900:Int)) (mkM b) c) (((cs.map cI16).map rI).take 12))).map ptW))),(6,0,oS (eI 0))]),(10,[(0,900000,none),(1,900000,none),(5,0,oS (.L 28 3 (((cutsT (mkY a (9900:Int)) (mkM b) (mkD (mkY a (9900:Int)) (mkM b) c) (((cs.map cI16).map rI).take 12)).reverse++ [tMid a b c (q.tmod (n.tmod 2000+1))]).map dtW) true)),(8,0,oS (.F 74 6 ((spL (tA a b c) (tMid a b c (q.tmod (n.tmod 2000+1))) (cutsT (mkY a (9900:Int)) (mkM b) (mkD (mkY a (9900:Int)) (mkM b) c) (((cs.map cI16).map rI).take 12))++spL (tMid a b c (q.tmod (n.tmod 2000+1))) (tEn a b c n) (cutsT (mkY a (9900:Int)) (mkM b) (mkD (mkY a (9900:Int)) (mkM b) c) (((cs.map cI16).map rI).take 12))).map ptW))),(9,0,oS (eI 0))]),(11,[(26,900001,none),(3,0,oS (eB true)),(7,0,oS (eB true)),(11,0,oS (eB true)),(15,0,oS (eB true)),(19,0,oS (eB true)),(30,900000,none),(29,0,oS (.L 74 6 ((spL (tA a b c) (tMid a b c (q.tmod (n.tmod 2000+1))) (cutsT (mkY a (9900:Int)) (mkM b) (mkD (mkY a (9900:Int)) (mkM b) c) (((cs.map cI16).map rI).take 12))++spL (tMid a b c (q.tmod (n.tmod 2000+1))) (tEn a b c n) (cutsT (mkY a (9900:Int)) (mkM b) (mkD (mkY a (9900:Int)) (mkM b) c) (((cs.map cI16).map rI).take 12))).map ptW) true))])]) [(0, .S [.v (.int .i64 a), .v (.int .i64 b), .v (.int .i64 c), .v (.int .u16 n), .l 53 1 (cs.map cI16), .l 53 1 (bs.map cI16), .v (.int .u8 p)]),(1, .E (.int .u16 q)),(1000000, .O .Tb)] (.s (eB true)) ⟨h0,h1,hw,trivial⟩ (cs.map cI16=((cs.map cI16).map rI).map cI16∧bs.map cI16=((bs.map cI16).map rI).map cI16∧(0≤n∧n≤65535)∧(∀c∈((cs.map cI16).map rI),-32768≤c∧c≤32767)∧(cutsT (mkY a (9900:Int)) (mkM b) (mkD (mkY a (9900:Int)) (mkM b) c) (((cs.map cI16).map rI).take 12)).map dtW=(((cutsT (mkY a (9900:Int)) (mkM b) (mkD (mkY a (9900:Int)) (mkM b) c) (((cs.map cI16).map rI).take 12)).map dtW).map dtR).map dtW∧((cutsT (mkY a (9900:Int)) (mkM b) (mkD (mkY a (9900:Int)) (mkM b) c) (((cs.map cI16).map rI).take 12)).map dtW:List (List Value)).length≤1000000∧tLn 74 6 ((spL (mkY a (9900:Int),mkM b,mkD (mkY a (9900:Int)) (mkM b) c) ((dyT (mkY a (9900:Int)) (mkM b) (mkD (mkY a (9900:Int)) (mkM b) c) (n.tmod 2000)).1,(dyT (mkY a (9900:Int)) (mkM b) (mkD (mkY a (9900:Int)) (mkM b) c) (n.tmod 2000)).2.1,(dyT (mkY a (9900:Int)) (mkM b) (mkD (mkY a (9900:Int)) (mkM b) c) (n.tmod 2000)).2.2) (((cutsT (mkY a (9900:Int)) (mkM b) (mkD (mkY a (9900:Int)) (mkM b) c) (((cs.map cI16).map rI).take 12)).map dtW).map dtR)).map ptW) ((spL (tA a b c) (tEn a b c n) (cutsT (mkY a (9900:Int)) (mkM b) (mkD (mkY a (9900:Int)) (mkM b) c) (((cs.map cI16).map rI).take 12))).map ptW)∧tI (spE (mkY a (9900:Int),mkM b,mkD (mkY a (9900:Int)) (mkM b) c) ((dyT (mkY a (9900:Int)) (mkM b) (mkD (mkY a (9900:Int)) (mkM b) c) (n.tmod 2000)).1,(dyT (mkY a (9900:Int)) (mkM b) (mkD (mkY a (9900:Int)) (mkM b) c) (n.tmod 2000)).2.1,(dyT (mkY a (9900:Int)) (mkM b) (mkD (mkY a (9900:Int)) (mkM b) c) (n.tmod 2000)).2.2) (((cutsT (mkY a (9900:Int)) (mkM b) (mkD (mkY a (9900:Int)) (mkM b) c) (((cs.map cI16).map rI).take 12)).map dtW).map dtR)) 0∧(∀r∈((cutsT (mkY a (9900:Int)) (mkM b) (mkD (mkY a (9900:Int)) (mkM b) c) (((cs.map cI16).map rI).take 12)).map dtW),∀c∈r,pv c=true)∧((cutsT (mkY a (9900:Int)) (mkM b) (mkD (mkY a (9900:Int)) (mkM b) c) (((cs.map cI16).map rI).take 12)).map dtW).length*24≤140737488355328∧tLs 28 3 true (((cutsT (mkY a (9900:Int)) (mkM b) (mkD (mkY a (9900:Int)) (mkM b) c) (((cs.map cI16).map rI).take 12)).map dtW).reverse) ((cutsT (mkY a (9900:Int)) (mkM b) (mkD (mkY a (9900:Int)) (mkM b) c) (((cs.map cI16).map rI).take 12)).reverse.map dtW)∧(((cutsT (mkY a (9900:Int)) (mkM b) (mkD (mkY a (9900:Int)) (mkM b) c) (((cs.map cI16).map rI).take 12)).reverse.map dtW).length+((cutsT (mkY a (9900:Int)) (mkM b) (mkD (mkY a (9900:Int)) (mkM b) c) (((cs.map cI16).map rI).take 12)).map dtW).length)*24≤140737488355328∧tLs 28 3 true ((cutsT (mkY a (9900:Int)) (mkM b) (mkD (mkY a (9900:Int)) (mkM b) c) (((cs.map cI16).map rI).take 12)).reverse.map dtW++(cutsT (mkY a (9900:Int)) (mkM b) (mkD (mkY a (9900:Int)) (mkM b) c) (((cs.map cI16).map rI).take 12)).map dtW) (((cutsT (mkY a (9900:Int)) (mkM b) (mkD (mkY a (9900:Int)) (mkM b) c) (((cs.map cI16).map rI).take 12)).reverse++cutsT (mkY a (9900:Int)) (mkM b) (mkD (mkY a (9900:Int)) (mkM b) c) (((cs.map cI16).map rI).take 12)).map dtW)∧((cutsT (mkY a (9900:Int)) (mkM b) (mkD (mkY a (9900:Int)) (mkM b) c) (((cs.map cI16).map rI).take 12)).reverse++cutsT (mkY a (9900:Int)) (mkM b) (mkD (mkY a (9900:Int)) (mkM b) c) (((cs.map cI16).map rI).take 12)).map dtW=((((cutsT (mkY a (9900:Int)) (mkM b) (mkD (mkY a (9900:Int)) (mkM b) c) (((cs.map cI16).map rI).take 12)).reverse++cutsT (mkY a (9900:Int)) (mkM b) (mkD (mkY a (9900:Int)) (mkM b) c) (((cs.map cI16).map rI).take 12)).map dtW).map dtR).map dtW∧(((cutsT (mkY a (9900:Int)) (mkM b) (mkD (mkY a (9900:Int)) (mkM b) c) (((cs.map cI16).map rI).take 12)).reverse++cutsT (mkY a (9900:Int)) (mkM b) (mkD (mkY a (9900:Int)) (mkM b) c) (((cs.map cI16).map rI).take 12)).map dtW:List (List Value)).length≤1000000∧tLn 74 6 ((spL (mkY a (9900:Int),mkM b,mkD (mkY a (9900:Int)) (mkM b) c) ((dyT (mkY a (9900:Int)) (mkM b) (mkD (mkY a (9900:Int)) (mkM b) c) (n.tmod 2000)).1,(dyT (mkY a (9900:Int)) (mkM b) (mkD (mkY a (9900:Int)) (mkM b) c) (n.tmod 2000)).2.1,(dyT (mkY a (9900:Int)) (mkM b) (mkD (mkY a (9900:Int)) (mkM b) c) (n.tmod 2000)).2.2) ((((cutsT (mkY a (9900:Int)) (mkM b) (mkD (mkY a (9900:Int)) (mkM b) c) (((cs.map cI16).map rI).take 12)).reverse++cutsT (mkY a (9900:Int)) (mkM b) (mkD (mkY a (9900:Int)) (mkM b) c) (((cs.map cI16).map rI).take 12)).map dtW).map dtR)).map ptW) ((spL (tA a b c) (tEn a b c n) (cutsT (mkY a (9900:Int)) (mkM b) (mkD (mkY a (9900:Int)) (mkM b) c) (((cs.map cI16).map rI).take 12))).map ptW)∧tI (spE (mkY a (9900:Int),mkM b,mkD (mkY a (9900:Int)) (mkM b) c) ((dyT (mkY a (9900:Int)) (mkM b) (mkD (mkY a (9900:Int)) (mkM b) c) (n.tmod 2000)).1,(dyT (mkY a (9900:Int)) (mkM b) (mkD (mkY a (9900:Int)) (mkM b) c) (n.tmod 2000)).2.1,(dyT (mkY a (9900:Int)) (mkM b) (mkD (mkY a (9900:Int)) (mkM b) c) (n.tmod 2000)).2.2) ((((cutsT (mkY a (9900:Int)) (mkM b) (mkD (mkY a (9900:Int)) (mkM b) c) (((cs.map cI16).map rI).take 12)).reverse++cutsT (mkY a (9900:Int)) (mkM b) (mkD (mkY a (9900:Int)) (mkM b) c) (((cs.map cI16).map rI).take 12)).map dtW).map dtR)) 0∧tI (btI (mkY a (9900:Int)) (mkM b) (mkD (mkY a (9900:Int)) (mkM b) c) (dyT (mkY a (9900:Int)) (mkM b) (mkD (mkY a (9900:Int)) (mkM b) c) (n.tmod 2000)).1 (dyT (mkY a (9900:Int)) (mkM b) (mkD (mkY a (9900:Int)) (mkM b) c) (n.tmod 2000)).2.1 (dyT (mkY a (9900:Int)) (mkM b) (mkD (mkY a (9900:Int)) (mkM b) c) (n.tmod 2000)).2.2) (n.tmod 2000)∧tI (IntKind.i64.wrap q) q∧wp (n.tmod 2000+1)∧((n.tmod 2000+1)≠(0:Int))∧(-9223372036854775808≤Int.tmod q (n.tmod 2000+1)∧Int.tmod q (n.tmod 2000+1)≤9223372036854775807)∧(cutsT (mkY a (9900:Int)) (mkM b) (mkD (mkY a (9900:Int)) (mkM b) c) (((cs.map cI16).map rI).take 12)).map dtW=(((cutsT (mkY a (9900:Int)) (mkM b) (mkD (mkY a (9900:Int)) (mkM b) c) (((cs.map cI16).map rI).take 12)).map dtW).map dtR).map dtW∧((cutsT (mkY a (9900:Int)) (mkM b) (mkD (mkY a (9900:Int)) (mkM b) c) (((cs.map cI16).map rI).take 12)).map dtW:List (List Value)).length≤1000000∧tLn 74 6 ((spL (mkY a (9900:Int),mkM b,mkD (mkY a (9900:Int)) (mkM b) c) ((dyT (mkY a (9900:Int)) (mkM b) (mkD (mkY a (9900:Int)) (mkM b) c) (Int.tmod q (n.tmod 2000+1))).1,(dyT (mkY a (9900:Int)) (mkM b) (mkD (mkY a (9900:Int)) (mkM b) c) (Int.tmod q (n.tmod 2000+1))).2.1,(dyT (mkY a (9900:Int)) (mkM b) (mkD (mkY a (9900:Int)) (mkM b) c) (Int.tmod q (n.tmod 2000+1))).2.2) (((cutsT (mkY a (9900:Int)) (mkM b) (mkD (mkY a (9900:Int)) (mkM b) c) (((cs.map cI16).map rI).take 12)).map dtW).map dtR)).map ptW) ((spL (tA a b c) (tMid a b c (q.tmod (n.tmod 2000+1))) (cutsT (mkY a (9900:Int)) (mkM b) (mkD (mkY a (9900:Int)) (mkM b) c) (((cs.map cI16).map rI).take 12))).map ptW)∧tI (spE (mkY a (9900:Int),mkM b,mkD (mkY a (9900:Int)) (mkM b) c) ((dyT (mkY a (9900:Int)) (mkM b) (mkD (mkY a (9900:Int)) (mkM b) c) (Int.tmod q (n.tmod 2000+1))).1,(dyT (mkY a (9900:Int)) (mkM b) (mkD (mkY a (9900:Int)) (mkM b) c) (Int.tmod q (n.tmod 2000+1))).2.1,(dyT (mkY a (9900:Int)) (mkM b) (mkD (mkY a (9900:Int)) (mkM b) c) (Int.tmod q (n.tmod 2000+1))).2.2) (((cutsT (mkY a (9900:Int)) (mkM b) (mkD (mkY a (9900:Int)) (mkM b) c) (((cs.map cI16).map rI).take 12)).map dtW).map dtR)) 0∧(cutsT (mkY a (9900:Int)) (mkM b) (mkD (mkY a (9900:Int)) (mkM b) c) (((cs.map cI16).map rI).take 12)).map dtW=(((cutsT (mkY a (9900:Int)) (mkM b) (mkD (mkY a (9900:Int)) (mkM b) c) (((cs.map cI16).map rI).take 12)).map dtW).map dtR).map dtW∧((cutsT (mkY a (9900:Int)) (mkM b) (mkD (mkY a (9900:Int)) (mkM b) c) (((cs.map cI16).map rI).take 12)).map dtW:List (List Value)).length≤1000000∧tLn 74 6 ((spL ((dyT (mkY a (9900:Int)) (mkM b) (mkD (mkY a (9900:Int)) (mkM b) c) (Int.tmod q (n.tmod 2000+1))).1,(dyT (mkY a (9900:Int)) (mkM b) (mkD (mkY a (9900:Int)) (mkM b) c) (Int.tmod q (n.tmod 2000+1))).2.1,(dyT (mkY a (9900:Int)) (mkM b) (mkD (mkY a (9900:Int)) (mkM b) c) (Int.tmod q (n.tmod 2000+1))).2.2) ((dyT (mkY a (9900:Int)) (mkM b) (mkD (mkY a (9900:Int)) (mkM b) c) (n.tmod 2000)).1,(dyT (mkY a (9900:Int)) (mkM b) (mkD (mkY a (9900:Int)) (mkM b) c) (n.tmod 2000)).2.1,(dyT (mkY a (9900:Int)) (mkM b) (mkD (mkY a (9900:Int)) (mkM b) c) (n.tmod 2000)).2.2) (((cutsT (mkY a (9900:Int)) (mkM b) (mkD (mkY a (9900:Int)) (mkM b) c) (((cs.map cI16).map rI).take 12)).map dtW).map dtR)).map ptW) ((spL (tMid a b c (q.tmod (n.tmod 2000+1))) (tEn a b c n) (cutsT (mkY a (9900:Int)) (mkM b) (mkD (mkY a (9900:Int)) (mkM b) c) (((cs.map cI16).map rI).take 12))).map ptW)∧tI (spE ((dyT (mkY a (9900:Int)) (mkM b) (mkD (mkY a (9900:Int)) (mkM b) c) (Int.tmod q (n.tmod 2000+1))).1,(dyT (mkY a (9900:Int)) (mkM b) (mkD (mkY a (9900:Int)) (mkM b) c) (Int.tmod q (n.tmod 2000+1))).2.1,(dyT (mkY a (9900:Int)) (mkM b) (mkD (mkY a (9900:Int)) (mkM b) c) (Int.tmod q (n.tmod 2000+1))).2.2) ((dyT (mkY a (9900:Int)) (mkM b) (mkD (mkY a (9900:Int)) (mkM b) c) (n.tmod 2000)).1,(dyT (mkY a (9900:Int)) (mkM b) (mkD (mkY a (9900:Int)) (mkM b) c) (n.tmod 2000)).2.1,(dyT (mkY a (9900:Int)) (mkM b) (mkD (mkY a (9900:Int)) (mkM b) c) (n.tmod 2000)).2.2) (((cutsT (mkY a (9900:Int)) (mkM b) (mkD (mkY a (9900:Int)) (mkM b) c) (((cs.map cI16).map rI).take 12)).map dtW).map dtR)) 0∧(((cutsT (mkY a (9900:Int)) (mkM b) (mkD (mkY a (9900:Int)) (mkM b) c) (((cs.map cI16).map rI).take 12)).reverse.map dtW).length+([[.int .i64 (dyT (mkY a (9900:Int)) (mkM b) (mkD (mkY a (9900:Int)) (mkM b) c) (Int.tmod q (n.tmod 2000+1))).1, .int .i64 (dyT (mkY a (9900:Int)) (mkM b) (mkD (mkY a (9900:Int)) (mkM b) c) (Int.tmod q (n.tmod 2000+1))).2.1, .int .i64 (dyT (mkY a (9900:Int)) (mkM b) (mkD (mkY a (9900:Int)) (mkM b) c) (Int.tmod q (n.tmod 2000+1))).2.2]]:List (List Value)).length)*24≤140737488355328∧tLs 28 3 true ((cutsT (mkY a (9900:Int)) (mkM b) (mkD (mkY a (9900:Int)) (mkM b) c) (((cs.map cI16).map rI).take 12)).reverse.map dtW++([[.int .i64 (dyT (mkY a (9900:Int)) (mkM b) (mkD (mkY a (9900:Int)) (mkM b) c) (Int.tmod q (n.tmod 2000+1))).1, .int .i64 (dyT (mkY a (9900:Int)) (mkM b) (mkD (mkY a (9900:Int)) (mkM b) c) (Int.tmod q (n.tmod 2000+1))).2.1, .int .i64 (dyT (mkY a (9900:Int)) (mkM b) (mkD (mkY a (9900:Int)) (mkM b) c) (Int.tmod q (n.tmod 2000+1))).2.2]]:List (List Value))) (((cutsT (mkY a (9900:Int)) (mkM b) (mkD (mkY a (9900:Int)) (mkM b) c) (((cs.map cI16).map rI).take 12)).reverse++ [tMid a b c (q.tmod (n.tmod 2000+1))]).map dtW)∧((cutsT (mkY a (9900:Int)) (mkM b) (mkD (mkY a (9900:Int)) (mkM b) c) (((cs.map cI16).map rI).take 12)).reverse++ [tMid a b c (q.tmod (n.tmod 2000+1))]).map dtW=((((cutsT (mkY a (9900:Int)) (mkM b) (mkD (mkY a (9900:Int)) (mkM b) c) (((cs.map cI16).map rI).take 12)).reverse++ [tMid a b c (q.tmod (n.tmod 2000+1))]).map dtW).map dtR).map dtW∧(((cutsT (mkY a (9900:Int)) (mkM b) (mkD (mkY a (9900:Int)) (mkM b) c) (((cs.map cI16).map rI).take 12)).reverse++ [tMid a b c (q.tmod (n.tmod 2000+1))]).map dtW:List (List Value)).length≤1000000∧tLn 74 6 ((spL (mkY a (9900:Int),mkM b,mkD (mkY a (9900:Int)) (mkM b) c) ((dyT (mkY a (9900:Int)) (mkM b) (mkD (mkY a (9900:Int)) (mkM b) c) (n.tmod 2000)).1,(dyT (mkY a (9900:Int)) (mkM b) (mkD (mkY a (9900:Int)) (mkM b) c) (n.tmod 2000)).2.1,(dyT (mkY a (9900:Int)) (mkM b) (mkD (mkY a (9900:Int)) (mkM b) c) (n.tmod 2000)).2.2) ((((cutsT (mkY a (9900:Int)) (mkM b) (mkD (mkY a (9900:Int)) (mkM b) c) (((cs.map cI16).map rI).take 12)).reverse++ [tMid a b c (q.tmod (n.tmod 2000+1))]).map dtW).map dtR)).map ptW) ((spL (tA a b c) (tMid a b c (q.tmod (n.tmod 2000+1))) (cutsT (mkY a (9900:Int)) (mkM b) (mkD (mkY a (9900:Int)) (mkM b) c) (((cs.map cI16).map rI).take 12))++spL (tMid a b c (q.tmod (n.tmod 2000+1))) (tEn a b c n) (cutsT (mkY a (9900:Int)) (mkM b) (mkD (mkY a (9900:Int)) (mkM b) c) (((cs.map cI16).map rI).take 12))).map ptW)∧tI (spE (mkY a (9900:Int),mkM b,mkD (mkY a (9900:Int)) (mkM b) c) ((dyT (mkY a (9900:Int)) (mkM b) (mkD (mkY a (9900:Int)) (mkM b) c) (n.tmod 2000)).1,(dyT (mkY a (9900:Int)) (mkM b) (mkD (mkY a (9900:Int)) (mkM b) c) (n.tmod 2000)).2.1,(dyT (mkY a (9900:Int)) (mkM b) (mkD (mkY a (9900:Int)) (mkM b) c) (n.tmod 2000)).2.2) ((((cutsT (mkY a (9900:Int)) (mkM b) (mkD (mkY a (9900:Int)) (mkM b) c) (((cs.map cI16).map rI).take 12)).reverse++ [tMid a b c (q.tmod (n.tmod 2000+1))]).map dtW).map dtR)) 0∧decide ((0:Int)=0)=true∧decide ((0:Int)=0)=true∧decide ((0:Int)=0)=true∧decide ((0:Int)=0)=true∧decide ((0:Int)=0)=true∧(spL (tA a b c) (tEn a b c n) (cutsT (mkY a (9900:Int)) (mkM b) (mkD (mkY a (9900:Int)) (mkM b) c) (((cs.map cI16).map rI).take 12))).map ptW=(spL (tA a b c) (tEn a b c n) (cutsT (mkY a (9900:Int)) (mkM b) (mkD (mkY a (9900:Int)) (mkM b) c) (((cs.map cI16).map rI).take 12))).map ptW∧(spL (tA a b c) (tEn a b c n) (cutsT (mkY a (9900:Int)) (mkM b) (mkD (mkY a (9900:Int)) (mkM b) c) (((cs.map cI16).map rI).take 12))).map ptW=(((spL (tA a b c) (tEn a b c n) (cutsT (mkY a (9900:Int)) (mkM b) (mkD (mkY a (9900:Int)) (mkM b) c) (((cs.map cI16).map rI).take 12))).map ptW).map pR).map ptD∧((spL (tA a b c) (tEn a b c n) (cutsT (mkY a (9900:Int)) (mkM b) (mkD (mkY a (9900:Int)) (mkM b) c) (((cs.map cI16).map rI).take 12))).map ptW).length≤8000000∧(((spL (tA a b c) (tMid a b c (q.tmod (n.tmod 2000+1))) (cutsT (mkY a (9900:Int)) (mkM b) (mkD (mkY a (9900:Int)) (mkM b) c) (((cs.map cI16).map rI).take 12))).map ptW).length+((spL (tMid a b c (q.tmod (n.tmod 2000+1))) (tEn a b c n) (cutsT (mkY a (9900:Int)) (mkM b) (mkD (mkY a (9900:Int)) (mkM b) c) (((cs.map cI16).map rI).take 12))).map ptW).length)*48≤140737488355328∧tLs 74 6 true ((spL (tA a b c) (tMid a b c (q.tmod (n.tmod 2000+1))) (cutsT (mkY a (9900:Int)) (mkM b) (mkD (mkY a (9900:Int)) (mkM b) c) (((cs.map cI16).map rI).take 12))).map ptW++(spL (tMid a b c (q.tmod (n.tmod 2000+1))) (tEn a b c n) (cutsT (mkY a (9900:Int)) (mkM b) (mkD (mkY a (9900:Int)) (mkM b) c) (((cs.map cI16).map rI).take 12))).map ptW) ((spL (tA a b c) (tMid a b c (q.tmod (n.tmod 2000+1))) (cutsT (mkY a (9900:Int)) (mkM b) (mkD (mkY a (9900:Int)) (mkM b) c) (((cs.map cI16).map rI).take 12))++spL (tMid a b c (q.tmod (n.tmod 2000+1))) (tEn a b c n) (cutsT (mkY a (9900:Int)) (mkM b) (mkD (mkY a (9900:Int)) (mkM b) c) (((cs.map cI16).map rI).take 12))).map ptW)∧(spL (tA a b c) (tMid a b c (q.tmod (n.tmod 2000+1))) (cutsT (mkY a (9900:Int)) (mkM b) (mkD (mkY a (9900:Int)) (mkM b) c) (((cs.map cI16).map rI).take 12))++spL (tMid a b c (q.tmod (n.tmod 2000+1))) (tEn a b c n) (cutsT (mkY a (9900:Int)) (mkM b) (mkD (mkY a (9900:Int)) (mkM b) c) (((cs.map cI16).map rI).take 12))).map ptW=(spL (tA a b c) (tMid a b c (q.tmod (n.tmod 2000+1))) (cutsT (mkY a (9900:Int)) (mkM b) (mkD (mkY a (9900:Int)) (mkM b) c) (((cs.map cI16).map rI).take 12))++spL (tMid a b c (q.tmod (n.tmod 2000+1))) (tEn a b c n) (cutsT (mkY a (9900:Int)) (mkM b) (mkD (mkY a (9900:Int)) (mkM b) c) (((cs.map cI16).map rI).take 12))).map ptW∧(spL (tA a b c) (tMid a b c (q.tmod (n.tmod 2000+1))) (cutsT (mkY a (9900:Int)) (mkM b) (mkD (mkY a (9900:Int)) (mkM b) c) (((cs.map cI16).map rI).take 12))++spL (tMid a b c (q.tmod (n.tmod 2000+1))) (tEn a b c n) (cutsT (mkY a (9900:Int)) (mkM b) (mkD (mkY a (9900:Int)) (mkM b) c) (((cs.map cI16).map rI).take 12))).map ptW=(((spL (tA a b c) (tMid a b c (q.tmod (n.tmod 2000+1))) (cutsT (mkY a (9900:Int)) (mkM b) (mkD (mkY a (9900:Int)) (mkM b) c) (((cs.map cI16).map rI).take 12))++spL (tMid a b c (q.tmod (n.tmod 2000+1))) (tEn a b c n) (cutsT (mkY a (9900:Int)) (mkM b) (mkD (mkY a (9900:Int)) (mkM b) c) (((cs.map cI16).map rI).take 12))).map ptW).map pR).map ptD∧((spL (tA a b c) (tMid a b c (q.tmod (n.tmod 2000+1))) (cutsT (mkY a (9900:Int)) (mkM b) (mkD (mkY a (9900:Int)) (mkM b) c) (((cs.map cI16).map rI).take 12))++spL (tMid a b c (q.tmod (n.tmod 2000+1))) (tEn a b c n) (cutsT (mkY a (9900:Int)) (mkM b) (mkD (mkY a (9900:Int)) (mkM b) c) (((cs.map cI16).map rI).take 12))).map ptW).length≤8000000∧true=true) ⟨(by first|(rw [map_cI];done)|rfl),(by first|(rw [map_cI];done)|rfl),hn,(by rw [map_cI];exact hcs),(by first|(rw [map_RW];done)|rfl),(by rw [List.length_map];exact hC),⟨⟨rfl,rfl⟩,(by rw [map_RW])⟩,⟨rfl,by rw [map_RW];exact (sp_yes (t_ok (l:=((cs.map cI16).map rI).take 12) hn.1)).2⟩,pv_dW _,(by rw [List.length_map];omega),⟨⟨rfl,rfl,rfl⟩,rev_W _⟩,(by simp only [List.length_map,List.length_reverse,List.length_append,List.length_singleton];omega),⟨⟨rfl,rfl,rfl⟩,app_W _ _⟩,(by first|(rw [map_RW];done)|rfl),(by simp only [List.length_map,List.length_append,List.length_reverse];omega),⟨⟨rfl,rfl⟩,(by rw [map_RW,(so_mem (so_rev _) (t_ok (l:=((cs.map cI16).map rI).take 12) hn.1)).1])⟩,⟨rfl,by rw [map_RW];exact (so_mem (so_rev _) (t_ok (l:=((cs.map cI16).map rI).take 12) hn.1)).2⟩,⟨rfl,t_bt hn.1⟩,⟨rfl,i64_in (by omega) (by omega)⟩,wi (by omega),(by omega),(by omega),(by first|(rw [map_RW];done)|rfl),(by rw [List.length_map];exact hC),⟨⟨rfl,rfl⟩,(by rw [map_RW])⟩,⟨rfl,by rw [map_RW];exact (so_split (t_ok (l:=((cs.map cI16).map rI).take 12) hn.1) hM.1 hM1 hM2).2.2.1⟩,(by first|(rw [map_RW];done)|rfl),(by rw [List.length_map];exact hC),⟨⟨rfl,rfl⟩,(by rw [map_RW])⟩,⟨rfl,by rw [map_RW];exact (so_split (t_ok (l:=((cs.map cI16).map rI).take 12) hn.1) hM.1 hM1 hM2).2.2.2⟩,(by simp only [List.length_map,List.length_reverse,List.length_append,List.length_singleton];omega),⟨⟨rfl,rfl,rfl⟩,app_W _ [tMid a b c (q.tmod (n.tmod 2000+1))]⟩,(by first|(rw [map_RW];done)|rfl),(by simp only [List.length_map,List.length_append,List.length_reverse,List.length_singleton];omega),⟨⟨rfl,rfl⟩,(by rw [map_RW,(so_split (t_ok (l:=((cs.map cI16).map rI).take 12) hn.1) hM.1 hM1 hM2).1])⟩,⟨rfl,by rw [map_RW];exact (so_split (t_ok (l:=((cs.map cI16).map rI).take 12) hn.1) hM.1 hM1 hM2).2.1⟩,rfl,rfl,rfl,rfl,rfl,(by first|rfl|exact rfl),(by first|(rw [map_PW];done)|(rw [←List.map_append,map_PW];done)|(rw [map_PD];done)|rfl),(by have h1:=spL_len (tA a b c) (tEn a b c n) (cutsT (mkY a (9900:Int)) (mkM b) (mkD (mkY a (9900:Int)) (mkM b) c) (((cs.map cI16).map rI).take 12));rw [List.length_map];omega),(by have h1:=spL_len (tA a b c) (tMid a b c (q.tmod (n.tmod 2000+1))) (cutsT (mkY a (9900:Int)) (mkM b) (mkD (mkY a (9900:Int)) (mkM b) c) (((cs.map cI16).map rI).take 12));have h2:=spL_len (tMid a b c (q.tmod (n.tmod 2000+1))) (tEn a b c n) (cutsT (mkY a (9900:Int)) (mkM b) (mkD (mkY a (9900:Int)) (mkM b) c) (((cs.map cI16).map rI).take 12));simp only [List.length_map];omega),⟨⟨rfl,rfl,rfl⟩,List.map_append.symm⟩,(by first|rfl|exact rfl),(by first|(rw [map_PW];done)|(rw [←List.map_append,map_PW];done)|(rw [map_PD];done)|rfl),(by have h1:=spL_len (tA a b c) (tMid a b c (q.tmod (n.tmod 2000+1))) (cutsT (mkY a (9900:Int)) (mkM b) (mkD (mkY a (9900:Int)) (mkM b) c) (((cs.map cI16).map rI).take 12));have h2:=spL_len (tMid a b c (q.tmod (n.tmod 2000+1))) (tEn a b c n) (cutsT (mkY a (9900:Int)) (mkM b) (mkD (mkY a (9900:Int)) (mkM b) c) (((cs.map cI16).map rI).take 12));simp only [List.length_map,List.length_append];omega),rfl⟩
end Go.Proofs.YtjpilacbapibjaaGreatDoor.X
