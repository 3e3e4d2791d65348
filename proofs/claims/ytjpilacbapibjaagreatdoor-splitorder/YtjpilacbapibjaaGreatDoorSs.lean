/- Times in parts, by dates in order: what stands between one date and the next. No program is named here. -/
import Derived.Test.YtjpilacbapibjaaGreatDoorSp
namespace Go.Proofs.YtjpilacbapibjaaGreatDoor.Da
def scN:Int→List Int→List (Int×Int)
 |_,[]=> []
 |a,e::r=>(if e=a then [] else [(a,e)])++scN e r
theorem scN_cut {ns:List Int} {t:Int}: ∀{es:List Int} {a:Int},es.Pairwise (· ≤ ·)→(∀e∈es,a≤e∧e≤t)→(∀c,a<c→c<t→(c∈es↔c∈ns))→(a<t→t∈es)→scN a es=cutP ns a t:=by
 intro es
 induction es with
 |nil=>
  intro a _ _ _ h4
  rw [cut_no fun h=>by cases h4 h]
  rfl
 |cons e r ih=>
  intro a h1 h2 h3 h4
  obtain ⟨p1,p2⟩:=List.pairwise_cons.1 h1
  have he:=h2 e (.head _)
  by_cases hea:e=a
  ·subst hea
   show (if e=e then [] else [(e,e)])++scN e r=_
   rw [if_pos rfl,List.nil_append]
   refine ih p2 (fun m hm=>h2 m (.tail _ hm)) (fun c hc hc2=> ?_) fun h=> ?_
   ·rw [←h3 c hc hc2,List.mem_cons]
    exact ⟨.inr,fun h=>h.elim (fun e=>by omega) id⟩
   ·rcases List.mem_cons.1 (h4 h) with e|e
    ·omega
    ·exact e
  ·have hlt:a<e:=by omega
   have hat:a<t:=by omega
   have hn:nxt ns a t=e:=by
    have g:=nxt_gt ns hat
    have l:=nxt_le ns a t
    refine Int.le_antisymm ?_ ?_
    ·rcases Int.lt_or_le e t with c|c
     ·exact nxt_min ns ((h3 e hlt c).1 (.head _)) hlt
     ·omega
    ·rcases nxt_mem ns a t with h|h
     ·omega
     ·rcases Int.lt_or_le (nxt ns a t) t with c|c
      ·rcases List.mem_cons.1 ((h3 _ g c).2 h) with e2|e2
       ·omega
       ·exact p1 _ e2
      ·omega
   show (if e=a then [] else [(a,e)])++scN e r=_
   rw [if_neg hea,cut_yes hat,hn,ih p2 (fun m hm=>⟨p1 m hm,(h2 m (.tail _ hm)).2⟩) (fun c hc hc2=> ?_) fun h=> ?_]
   ·rfl
   ·rw [←h3 c (by omega) hc2,List.mem_cons]
    exact ⟨.inr,fun h=>h.elim (fun e=>by omega) id⟩
   ·rcases List.mem_cons.1 (h4 hat) with e2|e2
    ·omega
    ·exact e2
def scD:D3→List D3→List (D3×D3)
 |_,[]=> []
 |a,e::r=>(if e=a then [] else [(a,e)])++scD e r
theorem nm_inj {x y:D3} (h:ri x) (h':ri y) (e:nm x=nm y):x=y:=by rw [←dt_nm h,e,dt_nm h']
theorem scD_ok: ∀{es:List D3} {a:D3},ri a→(∀e∈es,ri e)→(scD a es).map n2=scN (nm a) (es.map nm)∧ ∀p∈scD a es,ri p.1∧ri p.2:=by
 intro es
 induction es with
 |nil=>intro a _ _;exact ⟨rfl,fun p hp=>by cases hp⟩
 |cons e r ih=>
  intro a ha he
  obtain ⟨i1,i2⟩:=ih (a:=e) (he e (.head _)) fun m hm=>he m (.tail _ hm)
  have hiff:(nm e=nm a)↔e=a:=⟨nm_inj (he e (.head _)) ha,fun h=>by rw [h]⟩
  constructor
  ·show ((if e=a then [] else [(a,e)])++scD e r).map n2=(if nm e=nm a then [] else [(nm a,nm e)])++scN (nm e) (r.map nm)
   rw [List.map_append,i1]
   congr 1
   by_cases h:e=a
   ·rw [if_pos h,if_pos (hiff.2 h)];rfl
   ·rw [if_neg h,if_neg fun h2=>h (hiff.1 h2)];rfl
  ·intro p hp
   rcases List.mem_append.1 hp with hp|hp
   ·split at hp
    ·cases hp
    ·rw [List.mem_singleton] at hp
     subst hp
     exact ⟨ha,he e (.head _)⟩
   ·exact i2 p hp
def leD (x y:D3):Bool:= !decide (cmpI y.1 y.2.1 y.2.2 x.1 x.2.1 x.2.2<0)
theorem leD_nm {x y:D3} (h:ri x) (h':ri y):leD x y=decide (nm x≤nm y):=by
 by_cases a:nm y<nm x
 ·have e1:cmpI y.1 y.2.1 y.2.2 x.1 x.2.1 x.2.2<0:=by rw [cmp_nm h' h,if_pos a];omega
  rw [show decide (nm x≤nm y)=false from decide_eq_false (by omega)]
  unfold leD
  rw [decide_eq_true e1]
  rfl
 ·have e1: ¬cmpI y.1 y.2.1 y.2.2 x.1 x.2.1 x.2.2<0:=by
   rw [cmp_nm h' h,if_neg a]
   split<;>omega
  rw [show decide (nm x≤nm y)=true from decide_eq_true (by omega)]
  unfold leD
  rw [decide_eq_false e1]
  rfl
theorem cmp_both {x y:D3}:cmpI x.1 x.2.1 x.2.2 y.1 y.2.1 y.2.2= -cmpI y.1 y.2.1 y.2.2 x.1 x.2.1 x.2.2:=cmp_neg ..
def ltD (x y:D3):Prop:=before x.1 x.2.1 x.2.2 y.1 y.2.1 y.2.2
theorem cmp_iff {x y:D3}:cmpI x.1 x.2.1 x.2.2 y.1 y.2.1 y.2.2<0↔ltD x y:=by
 rw [ltD,←cmp_lt]
 have h:cmpI x.1 x.2.1 x.2.2 y.1 y.2.1 y.2.2= -1∨0≤cmpI x.1 x.2.1 x.2.2 y.1 y.2.1 y.2.2:=by
  unfold cmpI
  repeat' split
  all_goals omega
 omega
theorem lt_tr {x y z:D3} (h:ltD x y) (k:ltD y z):ltD x z:=by
 unfold ltD before at*
 omega
theorem lt_ir (x:D3): ¬ltD x x:=by
 unfold ltD before
 omega
theorem lt_tot {x y:D3} (h: ¬ltD x y) (k: ¬ltD y x):x=y:=by
 obtain ⟨a,b,c⟩:=x
 obtain ⟨d,e,f⟩:=y
 unfold ltD before at*
 simp only [Prod.mk.injEq]
 simp only at h k
 omega
theorem lt_nt {x y z:D3} (h: ¬ltD x y) (k: ¬ltD y z): ¬ltD x z:=by
 unfold ltD before at*
 omega
def esD (y:D3) (cs:List D3) (out:D3→Bool):List D3:=((cs.filter fun c=> !out c)++ [y]).mergeSort leD
theorem es_mem {y:D3} {cs:List D3} {out:D3→Bool} {e:D3}:e∈esD y cs out↔(e∈cs∧out e=false)∨e=y:=by
 unfold esD
 rw [(List.mergeSort_perm _ _).mem_iff,List.mem_append,List.mem_filter,List.mem_singleton]
 simp
theorem es_sorted {y:D3} {cs:List D3} {out:D3→Bool} (h: ∀e∈esD y cs out,ri e):((esD y cs out).map nm).Pairwise (· ≤ ·):=by
 have tr: ∀a b c:D3,leD a b=true→leD b c=true→leD a c=true:=by
  intro a b c h1 h2
  unfold leD at*
  simp only [Bool.not_eq_true',decide_eq_false_iff_not,cmp_iff] at*
  exact lt_nt h2 h1
 have tot: ∀a b:D3,(leD a b||leD b a)=true:=by
  intro a b
  unfold leD
  by_cases h:ltD a b
  ·rw [show decide (cmpI b.1 b.2.1 b.2.2 a.1 a.2.1 a.2.2<0)=false from decide_eq_false fun k=>lt_ir a (lt_tr h (cmp_iff.1 k))]
   rfl
  ·rw [show decide (cmpI a.1 a.2.1 a.2.2 b.1 b.2.1 b.2.2<0)=false from decide_eq_false fun k=>h (cmp_iff.1 k)]
   simp
 have hp:(esD y cs out).Pairwise fun a b=>leD a b=true:=List.pairwise_mergeSort tr tot _
 rw [List.pairwise_map]
 refine List.Pairwise.imp_of_mem (fun {a b} ha hb hab=> ?_) hp
 rw [leD_nm (h a ha) (h b hb)] at hab
 exact of_decide_eq_true hab
theorem scD_cut {x y:D3} {cs:List D3} {out:D3→Bool} (h:spOk x y cs) (ho: ∀c∈cs,out c=decide (¬(nm x<nm c∧nm c<nm y))):(scD x (esD y cs out)).map ptD=(spL x y cs).map ptW:=by
 have hr: ∀e∈esD y cs out,ri e:=fun e he=>by
  rcases es_mem.1 he with ⟨h1,_⟩|rfl
  ·exact h.1.2.2 e h1
  ·exact h.1.2.1
 have hin: ∀c∈cs,out c=false↔(nm x<nm c∧nm c<nm y):=fun c hc=>by
  rw [ho c hc]
  by_cases e:nm x<nm c∧nm c<nm y
  ·rw [decide_eq_false (not_not_intro e)];exact ⟨fun _=>e,fun _=>rfl⟩
  ·rw [decide_eq_true e];exact ⟨(fun h=>by cases h),fun h=>absurd h e⟩
 obtain ⟨i1,i2⟩:=scD_ok h.1.1 hr
 have e1:(scD x (esD y cs out)).map n2=cutP (nsOf cs) (nm x) (nm y):=by
  rw [i1]
  refine scN_cut (es_sorted hr) (fun e he=> ?_) (fun c h1 h2=> ?_) fun h1=>List.mem_map.2 ⟨y,es_mem.2 (.inr rfl),rfl⟩
  ·obtain ⟨d,hd,rfl⟩:=List.mem_map.1 he
   rcases es_mem.1 hd with ⟨k1,k2⟩|rfl
   ·have:=(hin d k1).1 k2
    omega
   ·exact ⟨h.2,Int.le_refl _⟩
  ·constructor
   ·intro hc
    obtain ⟨d,hd,rfl⟩:=List.mem_map.1 hc
    rcases es_mem.1 hd with ⟨k1,_⟩|rfl
    ·exact List.mem_map.2 ⟨d,k1,rfl⟩
    ·omega
   ·intro hc
    obtain ⟨d,hd,rfl⟩:=List.mem_map.1 hc
    exact List.mem_map.2 ⟨d,es_mem.2 (.inl ⟨hd,(hin d hd).2 ⟨h1,h2⟩⟩),rfl⟩
 rw [(sp_yes h).1,←e1,List.map_map]
 exact List.map_congr_left fun p hp=>ptD_eq (i2 p hp)
theorem scD_step {a e:D3} {es:List D3} {i:Nat} (hi:i<es.length) (he:es.getD i (0,0,0)=e):scD a (es.drop i)=(if e=a then [] else [(a,e)])++scD e (es.drop (i+1)):=by
 have:es.drop i=e::es.drop (i+1):=by
  rw [List.drop_eq_getElem_cons hi,←he,List.getD_eq_getElem?_getD,List.getElem?_eq_getElem hi]
  rfl
 rw [this]
 rfl
end Go.Proofs.YtjpilacbapibjaaGreatDoor.Da
