/- The reference of layer 12. Written by a script (tools/laws). -/
import Derived.Test.YtjpilacbapibjaaGreatDoorCOb
import Derived.Test.YtjpilacbapibjaaGreatDoorSp
import Derived.Test.YtjpilacbapibjaaGreatDoorSq
namespace Go.Proofs.YtjpilacbapibjaaGreatDoor.X
open Go.Proofs.YtjpilacbapibjaaGreatDoor.Da
open Go.RowKit Go.Proofs.YtjpilacbapibjaaGreatDoor.Z
set_option linter.unusedVariables false
def dtR (r:List Value):Int×Int×Int:=match r with
 | [.int .i64 a, .int .i64 b, .int .i64 c]=>(a,b,c)
 |_=>(0,0,0)
theorem map_RW (X:List (Int×Int×Int)):(X.map dtW).map dtR=X:=by
 rw [List.map_map]
 exact List.map_id X
def dcs (cs:List D3) (i:Nat):D3:=cs.getD i (0,0,0)
theorem dcs_row {cs:List D3} {i:Nat} (h:i<cs.length):(cs.map dtW).getD i []= [.int .i64 (dcs cs i).1, .int .i64 (dcs cs i).2.1, .int .i64 (dcs cs i).2.2]:=by
 unfold dcs
 rw [List.getD_eq_getElem?_getD,List.getD_eq_getElem?_getD,List.getElem?_map,List.getElem?_eq_getElem h]
 rfl
theorem dcs3 (cs:List D3) (i:Nat) (p:Prop) [Decidable p]:cs.length≤i∨(i<cs.length∧p)∨(i<cs.length∧ ¬p):=by
 rcases Nat.lt_or_ge i cs.length with h|h
 ·by_cases e:p
  ·exact .inr (.inl ⟨h,e⟩)
  ·exact .inr (.inr ⟨h,e⟩)
 ·exact .inl h
theorem all_dcs {cs:List D3} {p:D3→Prop} (h: ∀j,j<cs.length→p (dcs cs j)): ∀c∈cs,p c:=all_getD h
theorem dcs_in {cs:List D3} {i:Nat} (h:i<cs.length):dcs cs i∈cs:=getD_in h
theorem sp_wr {x y:D3} {cs:List D3} (h: ¬(ri x∧ri y)):spL x y cs= []∧spE x y cs=11:=sp_date fun e=>h ⟨e.1,e.2.1⟩
theorem sp_wrc {x y:D3} {cs:List D3} {i:Nat} (hi:i<cs.length) (h: ¬ri (dcs cs i)):spL x y cs= []∧spE x y cs=11:=sp_date fun e=>h (e.2.2 _ (dcs_in hi))
theorem sp_or {x y:D3} {cs:List D3} (h:ri x∧ri y) (hc: ∀c∈cs,ri c) (ho:0<cmpI x.1 x.2.1 x.2.2 y.1 y.2.1 y.2.2):spL x y cs= []∧spE x y cs=12:=by
 refine sp_order ⟨h.1,h.2,hc⟩ fun e=> ?_
 rw [cmp_nm h.1 h.2,if_neg (by omega)] at ho
 split at ho<;>omega
theorem sp_ok {x y:D3} {cs:List D3} (h:ri x∧ri y) (hc: ∀c∈cs,ri c) (ho: ¬0<cmpI x.1 x.2.1 x.2.2 y.1 y.2.1 y.2.2):spOk x y cs:=by
 refine ⟨⟨h.1,h.2,hc⟩, ?_⟩
 rcases Int.lt_or_le (nm y) (nm x) with c|c
 ·rw [cmp_nm h.1 h.2,if_neg (by omega),if_pos c] at ho
  omega
 ·exact c
theorem st_b {x y:D3} {cs:List D3} {g:D3×List (D3×D3)} (h:stP x y cs g):decide (cmpI g.1.1 g.1.2.1 g.1.2.2 y.1 y.2.1 y.2.2<(0:Int))=decide (nm g.1<nm y):=by
 rw [cmp_nm h.1.2.1 h.1.1.1.2.1]
 by_cases e:nm g.1<nm y
 ·rw [if_pos e,decide_eq_true e];rfl
 ·rw [if_neg e,decide_eq_false e]
  split<;>rfl
theorem lt_b {x y:D3} (h:ri x) (h':ri y):decide (cmpI x.1 x.2.1 x.2.2 y.1 y.2.1 y.2.2<(0:Int))=decide (nm x<nm y):=by
 rw [cmp_nm h h']
 by_cases e:nm x<nm y
 ·rw [if_pos e,decide_eq_true e];rfl
 ·rw [if_neg e,decide_eq_false e]
  split<;>rfl
theorem two_b {p q:Prop} [Decidable p] [Decidable q]:cond (decide p) (decide q) false=decide (p∧q):=by
 by_cases a:p<;>by_cases b:q<;>simp [a,b]
theorem nx_ri {x y:D3} {cs:List D3} {g:D3×List (D3×D3)} (h:stP x y cs g) {a:Int} {j:Nat}:ri (nxD (cs.take j) a y):=(nxD_ok h.1.1.1.2.1 fun c hc=>h.1.1.1.2.2 c (List.mem_of_mem_take hc)).1
theorem st_lt {x y:D3} {cs:List D3} {g:D3×List (D3×D3)} (h:stP x y cs g) {i:Nat} (hi:i<cs.length):ri g.1∧ri y∧ri (dcs cs i):=⟨h.1.2.1,h.1.1.1.2.1,h.1.1.1.2.2 _ (dcs_in hi)⟩
theorem st_len: ∀{l:List (Int×Int)} {g:D3×List (D3×D3)} {ns:List Int} {a t u:Int},g.2.reverse.map n2++l=cutP ns a t→a≤t→1≤a→t≤3652059→u=0→g.2.length≤3652059:=by
 intro l g ns a t u h h1 h2 h3 _
 have c:=chain_len (cut_chain (ns:=ns) a h1)
 rw [←h] at c
 simp at c
 omega
theorem st_cnt {x y:D3} {cs:List D3} {g:D3×List (D3×D3)} (h:stP x y cs g):g.2.length≤3652059:=by
 have i1:=num_in h.1.1.1.1
 have i2:=num_in h.1.1.1.2.1
 exact st_len (u:=0) h.2 h.1.1.2 (by show 1≤nm x;exact i1.1) (by show nm y≤3652059;exact i2.2) rfl
noncomputable def ctb43:List (Ct dk):= [
 ct1 37 0 en37 vDt (fun x=> .s (eB (decide (rightI x.1 x.2.1 x.2.2)))) (fun x=> []) fun _ p _ _ h1=>refRight_t h1,
 ct2 38 0 en38 vDt vDt (fun x y=> .s (eI (cmpI x.1 x.2.1 x.2.2 y.1 y.2.1 y.2.2))) (fun x y=> []) fun _ _ p _ _ _ h1 h2=>refCmp_t h1 h2]
noncomputable abbrev rrefParts_t:=rX ctb43 Tryz.f12
noncomputable abbrev drefParts_t (y1 m1 d1 y2 m2 d2:Int) (cs:List D3):=dX ctb43 Tryz.f12 (.t [.L 91 6 ((spL (y1,m1,d1) (y2,m2,d2) cs).map ptW) true,eI (spE (y1,m1,d1) (y2,m2,d2) cs)])
noncomputable def hrefParts_t (y1 m1 d1 y2 m2 d2:Int) (cs:List D3):Nat→Hint K:=hnX [(3,[(3,777777,none),(4,777777,none),(5,777777,none)]),(14,[(0,0,oS (.L 91 6 ((([]:List (D3×D3)).reverse).map ptD) true))])]
noncomputable def irefParts_t_0 (y1 m1 d1 y2 m2 d2:Int) (cs:List D3) (i:Nat):Sx K:=⟨[(2, .L 28 3 (cs.map dtW) false),(10,eI (i:Int))],[⟨4,28,eD y2 m2 d2⟩,⟨3,28,eD y1 m1 d1⟩]⟩
noncomputable def irefParts_t_1 (y1 m1 d1 y2 m2 d2:Int) (cs:List D3) (g:D3×List (D3×D3)):Sx K:=⟨[(2, .L 28 3 (cs.map dtW) false),(13, .L 91 6 (g.2.reverse.map ptD) true),(12,eI (cmpI g.1.1 g.1.2.1 g.1.2.2 y2 m2 d2))],[⟨4,28,eD y2 m2 d2⟩,⟨3,28,eD (g.1).1 (g.1).2.1 (g.1).2.2⟩]⟩
noncomputable def irefParts_t_2 (y1 m1 d1 y2 m2 d2:Int) (cs:List D3) (g:D3×List (D3×D3)) (q:Nat×D3):Sx K:=⟨[(2, .L 28 3 (cs.map dtW) false),(13, .L 91 6 (g.2.reverse.map ptD) true),(12,eI (cmpI g.1.1 g.1.2.1 g.1.2.2 y2 m2 d2)),(46,eI (cmpI g.1.1 g.1.2.1 g.1.2.2 y2 m2 d2)),(47,eB true),(48,eD y2 m2 d2),(15,eI (q.1:Int))],[⟨4,28,eD y2 m2 d2⟩,⟨3,28,eD (g.1).1 (g.1).2.1 (g.1).2.2⟩,⟨14,28,eD (q.2).1 (q.2).2.1 (q.2).2.2⟩]⟩
noncomputable def hrefParts_t_2_0 (y1 m1 d1 y2 m2 d2:Int) (cs:List D3) (g:D3×List (D3×D3)) (q:Nat×D3):Nat→Hint K:=hnX [(18,[(2,0,oS (eI ((cs.length:Nat):Int))),(3,0,oS (eB false))])]
noncomputable def hrefParts_t_2_1 (y1 m1 d1 y2 m2 d2:Int) (cs:List D3) (g:D3×List (D3×D3)) (q:Nat×D3):Nat→Hint K:=hnX [(18,[(2,0,oS (eI ((cs.length:Nat):Int))),(3,0,oS (eB true))]),(19,[(1,0,oS (eI ((q.1+1:Nat):Int)))]),(20,[(3,0,oS (.A [.int .i64 (dcs cs q.1).1, .int .i64 (dcs cs q.1).2.1, .int .i64 (dcs cs q.1).2.2]))]),(21,[(2,0,oS (.A [.int .i64 (dcs cs q.1).1, .int .i64 (dcs cs q.1).2.1, .int .i64 (dcs cs q.1).2.2]))]),(22,[(3,777777,none),(4,777777,none),(5,777777,oS (eB true))]),(23,[(2,0,oS (.A [.int .i64 (dcs cs q.1).1, .int .i64 (dcs cs q.1).2.1, .int .i64 (dcs cs q.1).2.2]))])]
noncomputable def hrefParts_t_2_2 (y1 m1 d1 y2 m2 d2:Int) (cs:List D3) (g:D3×List (D3×D3)) (q:Nat×D3):Nat→Hint K:=hnX [(18,[(2,0,oS (eI ((cs.length:Nat):Int))),(3,0,oS (eB true))]),(19,[(1,0,oS (eI ((q.1+1:Nat):Int)))]),(20,[(3,0,oS (.A [.int .i64 (dcs cs q.1).1, .int .i64 (dcs cs q.1).2.1, .int .i64 (dcs cs q.1).2.2]))]),(21,[(2,0,oS (.A [.int .i64 (dcs cs q.1).1, .int .i64 (dcs cs q.1).2.1, .int .i64 (dcs cs q.1).2.2]))]),(22,[(3,777777,none),(4,777777,none),(5,777777,oS (eB false))])]
noncomputable def hrefParts_t_1_0 (y1 m1 d1 y2 m2 d2:Int) (cs:List D3) (g:D3×List (D3×D3)):Nat→Hint K:=hnX [(15,[(1,0,oS (eB true))]),(24,[(2,0,oS (eD (nxD cs (nm g.1) (y2,m2,d2)).1 (nxD cs (nm g.1) (y2,m2,d2)).2.1 (nxD cs (nm g.1) (y2,m2,d2)).2.2)),(5,0,oS (.L 91 6 (((g.1,nxD cs (nm g.1) (y2,m2,d2))::g.2).reverse.map ptD) true))]),(25,[(0,0,oS (eD (nxD cs (nm g.1) (y2,m2,d2)).1 (nxD cs (nm g.1) (y2,m2,d2)).2.1 (nxD cs (nm g.1) (y2,m2,d2)).2.2))])]
noncomputable def hrefParts_t_1_1 (y1 m1 d1 y2 m2 d2:Int) (cs:List D3) (g:D3×List (D3×D3)):Nat→Hint K:=hnX [(15,[(1,0,oS (eB false))])]
noncomputable def hrefParts_t_0_0 (y1 m1 d1 y2 m2 d2:Int) (cs:List D3) (i:Nat):Nat→Hint K:=hnX [(6,[(2,0,oS (eI ((cs.length:Nat):Int))),(3,0,oS (eB false))])]
noncomputable def hrefParts_t_0_1 (y1 m1 d1 y2 m2 d2:Int) (cs:List D3) (i:Nat):Nat→Hint K:=hnX [(6,[(2,0,oS (eI ((cs.length:Nat):Int))),(3,0,oS (eB true))]),(7,[(1,0,oS (eI ((i+1:Nat):Int)))]),(8,[(2,0,oS (.A [.int .i64 (dcs cs i).1, .int .i64 (dcs cs i).2.1, .int .i64 (dcs cs i).2.2]))]),(9,[(1,0,oS (eB false))])]
noncomputable def hrefParts_t_0_2 (y1 m1 d1 y2 m2 d2:Int) (cs:List D3) (i:Nat):Nat→Hint K:=hnX [(6,[(2,0,oS (eI ((cs.length:Nat):Int))),(3,0,oS (eB true))]),(8,[(2,0,oS (.A [.int .i64 (dcs cs i).1, .int .i64 (dcs cs i).2.1, .int .i64 (dcs cs i).2.2]))]),(9,[(1,0,oS (eB true))])]
theorem refParts_t {w:World} {v0 v1 v2:Value} {y1 m1 d1 y2 m2 d2:Int} {cs:List D3} (h0:(f0 w (.s (eD y1 m1 d1))).p w v0) (h1:(f0 w (.s (eD y2 m2 d2))).p w v1) (h2:(isRd (cxA w) true 3 (cs.map dtW)) w v2):Calls Tryz.prog 12 #[v0,v1,v2] w (Ret w fun v w'=>(f0 w (.t [.L 91 6 ((spL (y1,m1,d1) (y2,m2,d2) cs).map ptW) true,eI (spE (y1,m1,d1) (y2,m2,d2) cs)])).p w' v):=by
 have hl:cs.length≤9223372036854775807:=by
  obtain ⟨_,a,cap,_,h2,h3,_⟩:=h2
  rw [List.length_map] at h2
  simp only [maxLen] at h3
  omega
 exact fx ctb43 Tryz.func12 (hrefParts_t y1 m1 d1 y2 m2 d2 cs) [(0,eD y1 m1 d1),(1,eD y2 m2 d2),(2, .L 28 3 (cs.map dtW) false)] (.t [.L 91 6 ((spL (y1,m1,d1) (y2,m2,d2) cs).map ptW) true,eI (spE (y1,m1,d1) (y2,m2,d2) cs)]) ⟨h0,h1,h2,trivial⟩ (im2 ((!(decide (rightI y1 m1 d1)))==false)∧((!(decide (rightI y1 m1 d1)))=false→((!(decide (rightI y1 m1 d1)))==false)=true)∧cnd (cond (!(decide (rightI y1 m1 d1))) true (!(decide (rightI y2 m2 d2)))) (tK (.E (.slice none 0 0)) (.L 91 6 ((spL (y1,m1,d1) (y2,m2,d2) cs).map ptW) true)∧tI 11 (spE (y1,m1,d1) (y2,m2,d2) cs)∧True) (drefParts_t y1 m1 d1 y2 m2 d2 cs [1,1,1,0,1] [(hrefParts_t y1 m1 d1 y2 m2 d2 cs)] [] (rlX (rrefParts_t (hrefParts_t y1 m1 d1 y2 m2 d2 cs)) [5,3,2,1] (ent Tryz.prog Tryz.f12 (κ:=K) [(0,eD y1 m1 d1),(1,eD y2 m2 d2),(2, .L 28 3 (cs.map dtW) false)])))) ⟨id,(fun hp=>by simp_all),((Classical.em (¬(rightI y1 m1 d1∧rightI y2 m2 d2))).elim (fun hr=>cnd_t (by by_cases a:rightI y1 m1 d1<;>by_cases b:rightI y2 m2 d2<;>simp_all) ⟨nil_L (by first|(rw [(sp_wr hr).1];rfl)|(rw [(sp_wrc h8.1 h8.2).1];rfl)|(rw [(sp_or (by simpa using hr) hC1 ho).1];rfl)|(exact (st_end hC1.1 hC1.2).1)),⟨rfl,by first|exact (sp_wr hr).2.symm|exact (sp_wrc h8.1 h8.2).2.symm|exact (sp_or (by simpa using hr) hC1 ho).2.symm|exact (st_end hC1.1 hC1.2).2.symm⟩,trivial⟩) (fun hr=>cnd_f (by by_cases a:rightI y1 m1 d1<;>by_cases b:rightI y2 m2 d2<;>simp_all) (lpI (fun h S' J=>drefParts_t y1 m1 d1 y2 m2 d2 cs [1,1,1,0,1,0,2] [(hrefParts_t y1 m1 d1 y2 m2 d2 cs),h] [J] S') (fun i:Nat=>i≤cs.length∧ ∀j,j<i→ri (dcs cs j)) (fun i=>cs.length-i) (irefParts_t_0 y1 m1 d1 y2 m2 d2 cs) (0) (rlX (rrefParts_t (hrefParts_t y1 m1 d1 y2 m2 d2 cs)) [5,3,2,1] (ent Tryz.prog Tryz.f12 (κ:=K) [(0,eD y1 m1 d1),(1,eD y2 m2 d2),(2, .L 28 3 (cs.map dtW) false)])) (⟨Nat.zero_le _,fun j h=>by omega⟩) (fun i hC1 J1 hJ1=>(by
  rcases dcs3 cs i (ri (dcs cs i)) with h8|h8|h8
  ·exact ⟨hrefParts_t_0_0 y1 m1 d1 y2 m2 d2 cs i,vcP (tI (((cs.map dtW).length:Nat):Int) ((cs.length:Nat):Int)∧decide (((i:Int):Int)<((cs.length:Nat):Int))=false∧cnd (decide ((0:Int)<cmpI y1 m1 d1 y2 m2 d2)) (tK (.E (.slice none 0 0)) (.L 91 6 ((spL (y1,m1,d1) (y2,m2,d2) cs).map ptW) true)∧tI 12 (spE (y1,m1,d1) (y2,m2,d2) cs)∧True) (tK (.E (.slice none 0 0)) (.L 91 6 ((([]:List (D3×D3)).reverse).map ptD) true)∧drefParts_t y1 m1 d1 y2 m2 d2 cs [1,1,1,1,1,1,1,0] [(hrefParts_t y1 m1 d1 y2 m2 d2 cs)] [] (rlX (rrefParts_t (hrefParts_t y1 m1 d1 y2 m2 d2 cs)) [14,12,11] (rrefParts_t (hrefParts_t_0_0 y1 m1 d1 y2 m2 d2 cs i) 6 (irefParts_t_0 y1 m1 d1 y2 m2 d2 cs i))))) ⟨⟨rfl,by simp⟩,decide_eq_false (by omega),(have hC1: ∀c∈cs,ri c:=(all_dcs fun j hj=>hC1.2 j (by omega));((Classical.em (0<cmpI y1 m1 d1 y2 m2 d2)).elim (fun ho=>cnd_t (decide_eq_true ho) ⟨nil_L (by first|(rw [(sp_wr hr).1];rfl)|(rw [(sp_wrc h8.1 h8.2).1];rfl)|(rw [(sp_or (by simpa using hr) hC1 ho).1];rfl)|(exact (st_end hC1.1 hC1.2).1)),⟨rfl,by first|exact (sp_wr hr).2.symm|exact (sp_wrc h8.1 h8.2).2.symm|exact (sp_or (by simpa using hr) hC1 ho).2.symm|exact (st_end hC1.1 hC1.2).2.symm⟩,trivial⟩) (fun ho=>cnd_f (decide_eq_false ho) ⟨nil_L (rfl),(lpI (fun h S' J=>drefParts_t y1 m1 d1 y2 m2 d2 cs [1,1,1,1,1,1,1,0,0,2] [(hrefParts_t y1 m1 d1 y2 m2 d2 cs),h] [J] S') (fun g:D3×List (D3×D3)=>stP (y1,m1,d1) (y2,m2,d2) cs g) (fun g=>(nm (y2,m2,d2) -nm g.1).toNat) (irefParts_t_1 y1 m1 d1 y2 m2 d2 cs) ((y1,m1,d1),[]) (rlX (rrefParts_t (hrefParts_t y1 m1 d1 y2 m2 d2 cs)) [14,12,11] (rrefParts_t (hrefParts_t_0_0 y1 m1 d1 y2 m2 d2 cs i) 6 (irefParts_t_0 y1 m1 d1 y2 m2 d2 cs i))) (st_init (sp_ok (by simpa using hr) hC1 ho)) (fun g hC1 J1 hJ1=>(by
  rcases Classical.em (nm g.1<nm (y2,m2,d2)) with h8|h8
  ·exact ⟨hrefParts_t_1_0 y1 m1 d1 y2 m2 d2 cs g,vcP (decide ((cmpI g.1.1 g.1.2.1 g.1.2.2 y2 m2 d2:Int)<0)=true∧drefParts_t y1 m1 d1 y2 m2 d2 cs [1,1,1,1,1,1,1,0,0,2,1,0,1,0,1] [(hrefParts_t y1 m1 d1 y2 m2 d2 cs),(hrefParts_t_1_0 y1 m1 d1 y2 m2 d2 cs g)] [J1] (rlX (rrefParts_t (hrefParts_t_1_0 y1 m1 d1 y2 m2 d2 cs g)) [17,16,15] (irefParts_t_1 y1 m1 d1 y2 m2 d2 cs g))) ⟨(st_b hC1).trans (decide_eq_true h8),(lpI (fun h S' J=>drefParts_t y1 m1 d1 y2 m2 d2 cs [1,1,1,1,1,1,1,0,0,2,1,0,1,0,1,0,2] [(hrefParts_t y1 m1 d1 y2 m2 d2 cs),hrefParts_t_1_0 y1 m1 d1 y2 m2 d2 cs g,h] [J1,J] S') (fun q:Nat×D3=>q.1≤cs.length∧q.2=nxD (cs.take q.1) (nm g.1) (y2,m2,d2)) (fun q=>cs.length-q.1) (irefParts_t_2 y1 m1 d1 y2 m2 d2 cs g) (0,(y2,m2,d2)) (rlX (rrefParts_t (hrefParts_t_1_0 y1 m1 d1 y2 m2 d2 cs g)) [17,16,15] (irefParts_t_1 y1 m1 d1 y2 m2 d2 cs g)) (⟨Nat.zero_le _,rfl⟩) (fun q hC2 J2 hJ2=>(by
  rcases dcs3 cs q.1 (nm g.1<nm (dcs cs q.1)∧nm (dcs cs q.1)<nm q.2) with h9|h9|h9
  ·exact ⟨hrefParts_t_2_0 y1 m1 d1 y2 m2 d2 cs g q,vcP (tI (((cs.map dtW).length:Nat):Int) ((cs.length:Nat):Int)∧decide (((q.1:Int):Int)<((cs.length:Nat):Int))=false∧(tK (eD (q.2).1 (q.2).2.1 (q.2).2.2) (eD (nxD cs (nm g.1) (y2,m2,d2)).1 (nxD cs (nm g.1) (y2,m2,d2)).2.1 (nxD cs (nm g.1) (y2,m2,d2)).2.2)∧((g.2.reverse.map ptD).length+([[.int .i64 (g.1).1, .int .i64 (g.1).2.1, .int .i64 (g.1).2.2, .int .i64 (nxD cs (nm g.1) (y2,m2,d2)).1, .int .i64 (nxD cs (nm g.1) (y2,m2,d2)).2.1, .int .i64 (nxD cs (nm g.1) (y2,m2,d2)).2.2]]:List (List Value)).length)*48≤140737488355328∧tLs 91 6 true (g.2.reverse.map ptD++([[.int .i64 (g.1).1, .int .i64 (g.1).2.1, .int .i64 (g.1).2.2, .int .i64 (nxD cs (nm g.1) (y2,m2,d2)).1, .int .i64 (nxD cs (nm g.1) (y2,m2,d2)).2.1, .int .i64 (nxD cs (nm g.1) (y2,m2,d2)).2.2]]:List (List Value))) (((g.1,nxD cs (nm g.1) (y2,m2,d2))::g.2).reverse.map ptD)∧tK (eD (q.2).1 (q.2).2.1 (q.2).2.2) (eD (nxD cs (nm g.1) (y2,m2,d2)).1 (nxD cs (nm g.1) (y2,m2,d2)).2.1 (nxD cs (nm g.1) (y2,m2,d2)).2.2)∧J1 (rlX (rrefParts_t (hrefParts_t_1_0 y1 m1 d1 y2 m2 d2 cs g)) [26,25,24] (rrefParts_t (hrefParts_t_2_0 y1 m1 d1 y2 m2 d2 cs g q) 18 (irefParts_t_2 y1 m1 d1 y2 m2 d2 cs g q))))) ⟨⟨rfl,by simp⟩,decide_eq_false (by omega),(have hC2:q.2=nxD cs (nm g.1) (y2,m2,d2):=(hC2.2.trans (nxD_all h9));⟨(fun _ _ _ _ _ h=>by rw [←hC2];exact h),(by rw [List.length_map,List.length_reverse];have:=st_cnt hC1;simp;omega),⟨⟨rfl,rfl,rfl⟩,ptD_snoc g _⟩,(fun _ _ _ _ _ h=>by rw [←hC2];exact h),hJ1 (nxD cs (nm g.1) (y2,m2,d2),(g.1,nxD cs (nm g.1) (y2,m2,d2))::g.2) _ (st_step hC1 h8).1 (by have:=(st_step hC1 h8).2;show (nm (y2,m2,d2) -nm (nxD cs (nm g.1) (y2,m2,d2))).toNat<_;omega) ⟨by kernel_rfl,by kernel_rfl⟩⟩)⟩⟩
  ·exact ⟨hrefParts_t_2_1 y1 m1 d1 y2 m2 d2 cs g q,vcP (tI (((cs.map dtW).length:Nat):Int) ((cs.length:Nat):Int)∧decide (((q.1:Int):Int)<((cs.length:Nat):Int))=true∧q.1<(cs.map dtW).length∧(cs.map dtW).getD q.1 []=([.int .i64 (dcs cs q.1).1, .int .i64 (dcs cs q.1).2.1, .int .i64 (dcs cs q.1).2.2]:List Value)∧q.1<(cs.map dtW).length∧(cs.map dtW).getD q.1 []=([.int .i64 (dcs cs q.1).1, .int .i64 (dcs cs q.1).2.1, .int .i64 (dcs cs q.1).2.2]:List Value)∧im2 (decide ((cmpI (g.1).1 (g.1).2.1 (g.1).2.2 (dcs cs q.1).1 (dcs cs q.1).2.1 (dcs cs q.1).2.2:Int)<0)==true)∧(decide ((cmpI (g.1).1 (g.1).2.1 (g.1).2.2 (dcs cs q.1).1 (dcs cs q.1).2.1 (dcs cs q.1).2.2:Int)<0)=true→(decide ((cmpI (g.1).1 (g.1).2.1 (g.1).2.2 (dcs cs q.1).1 (dcs cs q.1).2.1 (dcs cs q.1).2.2:Int)<0)==true)=true)∧cond (decide ((cmpI (g.1).1 (g.1).2.1 (g.1).2.2 (dcs cs q.1).1 (dcs cs q.1).2.1 (dcs cs q.1).2.2:Int)<0)) (decide ((cmpI (dcs cs q.1).1 (dcs cs q.1).2.1 (dcs cs q.1).2.2 (q.2).1 (q.2).2.1 (q.2).2.2:Int)<0)) false=true∧q.1<(cs.map dtW).length∧(cs.map dtW).getD q.1 []=([.int .i64 (dcs cs q.1).1, .int .i64 (dcs cs q.1).2.1, .int .i64 (dcs cs q.1).2.2]:List Value)∧wp ((q.1:Int)+1)∧tI ((q.1:Int)+1) ((q.1+1:Nat):Int)∧J2 (rlX (rrefParts_t (hrefParts_t_2_1 y1 m1 d1 y2 m2 d2 cs g q)) [19,23,22,21,20,18] (irefParts_t_2 y1 m1 d1 y2 m2 d2 cs g q))) ⟨⟨rfl,by simp⟩,decide_eq_true (by omega),(by rw [List.length_map];exact h9.1),dcs_row h9.1,(by rw [List.length_map];exact h9.1),dcs_row h9.1,id,(fun hp=>by simp_all),(congr (congrArg (cond · · false) (lt_b (st_lt hC1 h9.1).1 (st_lt hC1 h9.1).2.2)) (lt_b (st_lt hC1 h9.1).2.2 (by rw [hC2.2];exact nx_ri hC1))).trans (two_b.trans (decide_eq_true h9.2)),(by rw [List.length_map];exact h9.1),dcs_row h9.1,wi (by omega),⟨rfl,by omega⟩,hJ2 (q.1+1,dcs cs q.1) _ (⟨h9.1,(nxD_yes h9.1 (by rw [←hC2.2];exact h9.2)).symm⟩) (by show cs.length-(q.1+1)<cs.length-q.1;omega) ⟨by kernel_rfl,by kernel_rfl⟩⟩⟩
  ·exact ⟨hrefParts_t_2_2 y1 m1 d1 y2 m2 d2 cs g q,vcP (tI (((cs.map dtW).length:Nat):Int) ((cs.length:Nat):Int)∧decide (((q.1:Int):Int)<((cs.length:Nat):Int))=true∧q.1<(cs.map dtW).length∧(cs.map dtW).getD q.1 []=([.int .i64 (dcs cs q.1).1, .int .i64 (dcs cs q.1).2.1, .int .i64 (dcs cs q.1).2.2]:List Value)∧q.1<(cs.map dtW).length∧(cs.map dtW).getD q.1 []=([.int .i64 (dcs cs q.1).1, .int .i64 (dcs cs q.1).2.1, .int .i64 (dcs cs q.1).2.2]:List Value)∧im2 (decide ((cmpI (g.1).1 (g.1).2.1 (g.1).2.2 (dcs cs q.1).1 (dcs cs q.1).2.1 (dcs cs q.1).2.2:Int)<0)==true)∧(decide ((cmpI (g.1).1 (g.1).2.1 (g.1).2.2 (dcs cs q.1).1 (dcs cs q.1).2.1 (dcs cs q.1).2.2:Int)<0)=true→(decide ((cmpI (g.1).1 (g.1).2.1 (g.1).2.2 (dcs cs q.1).1 (dcs cs q.1).2.1 (dcs cs q.1).2.2:Int)<0)==true)=true)∧cond (decide ((cmpI (g.1).1 (g.1).2.1 (g.1).2.2 (dcs cs q.1).1 (dcs cs q.1).2.1 (dcs cs q.1).2.2:Int)<0)) (decide ((cmpI (dcs cs q.1).1 (dcs cs q.1).2.1 (dcs cs q.1).2.2 (q.2).1 (q.2).2.1 (q.2).2.2:Int)<0)) false=false∧wp ((q.1:Int)+1)∧tI ((q.1:Int)+1) ((q.1+1:Nat):Int)∧J2 (rlX (rrefParts_t (hrefParts_t_2_2 y1 m1 d1 y2 m2 d2 cs g q)) [19,22,21,20,18] (irefParts_t_2 y1 m1 d1 y2 m2 d2 cs g q))) ⟨⟨rfl,by simp⟩,decide_eq_true (by omega),(by rw [List.length_map];exact h9.1),dcs_row h9.1,(by rw [List.length_map];exact h9.1),dcs_row h9.1,id,(fun hp=>by simp_all),(congr (congrArg (cond · · false) (lt_b (st_lt hC1 h9.1).1 (st_lt hC1 h9.1).2.2)) (lt_b (st_lt hC1 h9.1).2.2 (by rw [hC2.2];exact nx_ri hC1))).trans (two_b.trans (decide_eq_false h9.2)),wi (by omega),⟨rfl,by omega⟩,hJ2 (q.1+1,q.2) _ (⟨h9.1,hC2.2.trans (nxD_no h9.1 (by rw [←hC2.2];exact h9.2)).symm⟩) (by show cs.length-(q.1+1)<cs.length-q.1;omega) ⟨by kernel_rfl,by kernel_rfl⟩⟩⟩)))⟩⟩
  ·exact ⟨hrefParts_t_1_1 y1 m1 d1 y2 m2 d2 cs g,vcP (decide ((cmpI g.1.1 g.1.2.1 g.1.2.2 y2 m2 d2:Int)<0)=false∧(tLs 91 6 true (g.2.reverse.map ptD) ((spL (y1,m1,d1) (y2,m2,d2) cs).map ptW)∧tI 0 (spE (y1,m1,d1) (y2,m2,d2) cs)∧True)) ⟨(st_b hC1).trans (decide_eq_false h8),(have hC1:stP (y1,m1,d1) (y2,m2,d2) cs g∧ ¬nm g.1<nm (y2,m2,d2):=(⟨hC1,h8⟩);⟨⟨⟨rfl,rfl,rfl⟩,(by first|(rw [(sp_wr hr).1];rfl)|(rw [(sp_wrc h8.1 h8.2).1];rfl)|(rw [(sp_or (by simpa using hr) hC1 ho).1];rfl)|(exact (st_end hC1.1 hC1.2).1))⟩,⟨rfl,by first|exact (sp_wr hr).2.symm|exact (sp_wrc h8.1 h8.2).2.symm|exact (sp_or (by simpa using hr) hC1 ho).2.symm|exact (st_end hC1.1 hC1.2).2.symm⟩,trivial⟩)⟩⟩)))⟩)))⟩⟩
  ·exact ⟨hrefParts_t_0_1 y1 m1 d1 y2 m2 d2 cs i,vcP (tI (((cs.map dtW).length:Nat):Int) ((cs.length:Nat):Int)∧decide (((i:Int):Int)<((cs.length:Nat):Int))=true∧i<(cs.map dtW).length∧(cs.map dtW).getD i []=([.int .i64 (dcs cs i).1, .int .i64 (dcs cs i).2.1, .int .i64 (dcs cs i).2.2]:List Value)∧(!(decide (rightI (dcs cs i).1 (dcs cs i).2.1 (dcs cs i).2.2)))=false∧wp ((i:Int)+1)∧tI ((i:Int)+1) ((i+1:Nat):Int)∧J1 (rlX (rrefParts_t (hrefParts_t_0_1 y1 m1 d1 y2 m2 d2 cs i)) [7,9,8,6] (irefParts_t_0 y1 m1 d1 y2 m2 d2 cs i))) ⟨⟨rfl,by simp⟩,decide_eq_true (by omega),(by rw [List.length_map];exact h8.1),dcs_row h8.1,(by rw [decide_eq_true h8.2];rfl),wi (by omega),⟨rfl,by omega⟩,hJ1 (i+1) _ (⟨h8.1,fun j hj=>by rcases Nat.lt_or_eq_of_le (Nat.le_of_lt_succ hj) with h|h;exact hC1.2 j h;rw [h];exact h8.2⟩) (by omega) ⟨by kernel_rfl,by kernel_rfl⟩⟩⟩
  ·exact ⟨hrefParts_t_0_2 y1 m1 d1 y2 m2 d2 cs i,vcP (tI (((cs.map dtW).length:Nat):Int) ((cs.length:Nat):Int)∧decide (((i:Int):Int)<((cs.length:Nat):Int))=true∧i<(cs.map dtW).length∧(cs.map dtW).getD i []=([.int .i64 (dcs cs i).1, .int .i64 (dcs cs i).2.1, .int .i64 (dcs cs i).2.2]:List Value)∧(!(decide (rightI (dcs cs i).1 (dcs cs i).2.1 (dcs cs i).2.2)))=true∧(tK (.E (.slice none 0 0)) (.L 91 6 ((spL (y1,m1,d1) (y2,m2,d2) cs).map ptW) true)∧tI 11 (spE (y1,m1,d1) (y2,m2,d2) cs)∧True)) ⟨⟨rfl,by simp⟩,decide_eq_true (by omega),(by rw [List.length_map];exact h8.1),dcs_row h8.1,(by rw [decide_eq_false h8.2];rfl),⟨nil_L (by first|(rw [(sp_wr hr).1];rfl)|(rw [(sp_wrc h8.1 h8.2).1];rfl)|(rw [(sp_or (by simpa using hr) hC1 ho).1];rfl)|(exact (st_end hC1.1 hC1.2).1)),⟨rfl,by first|exact (sp_wr hr).2.symm|exact (sp_wrc h8.1 h8.2).2.symm|exact (sp_or (by simpa using hr) hC1 ho).2.symm|exact (st_end hC1.1 hC1.2).2.symm⟩,trivial⟩⟩⟩)))))⟩
theorem refPartsR {w:World} {v u t:Value} {x y:D3} {z:List (List Value)} (h1:isE (.agg #[.int .i64 x.1, .int .i64 x.2.1, .int .i64 x.2.2]) w v) (h2:isE (.agg #[.int .i64 y.1, .int .i64 y.2.1, .int .i64 y.2.2]) w u) (h3:isRd (cxA w) true 3 z w t) (e1:z=(z.map dtR).map dtW):Calls Tryz.prog 12 #[v,u,t] w (Ret w fun v' w'=>(f0 w (.t [.L 91 6 ((spL x y (z.map dtR)).map ptW) true,eI (spE x y (z.map dtR))])).p w' v'):=by
 rw [e1] at h3
 exact refParts_t h1 h2 h3
abbrev rK (q:Rat):K:= .R q 5
def pa (ps:List (Int×Int)) (i:Nat):Int×Int:=ps.getD i (0,0)
def wa (ws:List Rat) (i:Nat):Rat:=ws.getD i 0
noncomputable def wtR (k:Int) (ps:List (Int×Int)) (ws:List Rat) (i:Nat):Rat:=yrP k (pa ps i)*wa ws i
theorem pa_row {ps:List (Int×Int)} {i:Nat} (h:i<ps.length):(ps.map ptW).getD i []= [.int .i64 (dtN (pa ps i).1).1, .int .i64 (dtN (pa ps i).1).2.1, .int .i64 (dtN (pa ps i).1).2.2, .int .i64 (dtN (pa ps i).2).1, .int .i64 (dtN (pa ps i).2).2.1, .int .i64 (dtN (pa ps i).2).2.2]:=by
 unfold pa
 rw [List.getD_eq_getElem?_getD,List.getD_eq_getElem?_getD,List.getElem?_map,List.getElem?_eq_getElem h]
 rfl
theorem rK_get {ws:List Rat} {i:Nat} (h:i<ws.length):(ws.map rK).getD i .B0= .R (wa ws i) 5:=by
 unfold wa
 rw [List.getD_eq_getElem?_getD,List.getD_eq_getElem?_getD,List.getElem?_map,List.getElem?_eq_getElem h]
 rfl
def paOk (p:Int×Int):Prop:=(1≤p.1∧p.1≤p.2∧p.2≤3652059)∧p.2-p.1≤14600
theorem yr_near {x y:D3} (h:ri x) (h':ri y) (h1:nm x≤nm y) (h2:nm y-nm x≤14600):x.1≤y.1∧y.1≤x.1+41:=by
 refine ⟨year_le h h' h1, ?_⟩
 rcases Int.lt_or_le (x.1+41) y.1 with c|c
 ·exfalso
  have h3:numI y.1 y.2.1 y.2.2-numI x.1 x.2.1 x.2.2≤14600:=h2
  have q:=right_in h
  have q':=right_in h'
  have a:=(num_year h).2
  have b:=(num_year h').1
  have m:=yS_mono (n:=x.1.toNat) (m:=(y.1-1).toNat) (by omega)
  omega
 ·exact c
theorem pOk {ps:List (Int×Int)} (h: ∀i,i<ps.length→paOk (pa ps i)) {i:Nat} (hi:i<ps.length):ri (dtN (pa ps i).1)∧ri (dtN (pa ps i).2)∧((dtN (pa ps i).1).1≤(dtN (pa ps i).2).1∧(dtN (pa ps i).2).1≤(dtN (pa ps i).1).1+41):=by
 obtain ⟨⟨h1,h2,h3⟩,h4⟩:=h i hi
 have a:=ri_dt (z:=(pa ps i).1) ⟨h1,by omega⟩
 have b:=ri_dt (z:=(pa ps i).2) ⟨by omega,h3⟩
 refine ⟨a,b,yr_near a b ?_ ?_⟩
 ·rw [nm_dt ⟨h1,by omega⟩,nm_dt ⟨by omega,h3⟩];exact h2
 ·rw [nm_dt ⟨h1,by omega⟩,nm_dt ⟨by omega,h3⟩];exact h4
theorem refYr_l {w:World} {v u t:Value} {k y1 m1 d1 y2 m2 d2:Int} (h1:isE (.int .i64 k) w v) (h2:isE (.agg #[.int .i64 y1, .int .i64 m1, .int .i64 d1]) w u) (h3:isE (.agg #[.int .i64 y2, .int .i64 m2, .int .i64 d2]) w t) (hk:0≤k∧k≤2) (h1r:rightI y1 m1 d1) (h2r:rightI y2 m2 d2) (hy:y1≤y2∧y2≤y1+41):Calls Tryz.prog 55 #[v,u,t] w (Ret w fun v' w'=>isR (yrQ k y1 m1 d1 y2 m2 d2) 4 w' v'):=
 (refYr_t h1 h2 h3 hk h1r h2r hy).mono fun _ _ r=>r.mono fun v' w' h=>by
  obtain ⟨a,b,e,i1,i2,i3⟩:=yr_quo hk h1r h2r
  exact IsR.lo h e i1 i2 i3
noncomputable def ctb44:List (Ct dk):= [
 ct2 56 0 en56 vR vR (fun x y=> .s (.O (.R (x.1*y.1) (x.2+y.2+1)))) (fun x y=> [x.2≤10000,y.2≤10000]) fun _ _ p _ _ _ h1 h2=>mul_r h1 h2 p.1 p.2.1,
 ct2 57 0 en57 vR vR (fun x y=> .s (.O (.R (x.1+y.1) (x.2+y.2+2)))) (fun x y=> [x.2≤10000,y.2≤10000]) fun _ _ p _ _ _ h1 h2=>add_r h1 h2 p.1 p.2.1,
 ct2 16 0 en16 vI vI (fun x y=> .s (.O (.R (((x:Int):Rat)/((y:Int):Rat)) 5))) (fun x y=> [-9223372036854775807≤x∧x≤9223372036854775807,1≤y∧y≤9223372036854775807]) fun _ _ p _ _ _ h1 h2=>small_q h1 h2 p.1 p.2.1,
 ct3 55 0 en55 vI vDt vDt (fun x y z=> .s (.O (.R (yrQ x y.1 y.2.1 y.2.2 z.1 z.2.1 z.2.2) 4))) (fun x y z=> [0≤x∧x≤2,rightI y.1 y.2.1 y.2.2,rightI z.1 z.2.1 z.2.2,y.1≤z.1∧z.1≤y.1+41]) fun _ _ _ p _ _ _ _ h1 h2 h3=>refYr_l h1 h2 h3 p.1 p.2.1 p.2.2.1 p.2.2.2.1]++ctb43
noncomputable abbrev rrefWt_t:=rX ctb44 Tryz.f21
noncomputable abbrev drefWt_t (k:Int) (ps:List (Int×Int)) (ws:List Rat):=dX ctb44 Tryz.f21 (.s (.O (.R (wsum (wtR k ps ws) ps.length) 485)))
noncomputable def hrefWt_t (k:Int) (ps:List (Int×Int)) (ws:List Rat):Nat→Hint K:=hnX [(1,[(0,0,oS (.O (.R (wsum (wtR k ps ws) 0) (5+12*0))))])]
noncomputable def irefWt_t_0 (k:Int) (ps:List (Int×Int)) (ws:List Rat) (i:Nat):Sx K:=⟨[(0,eI k),(1, .L 91 6 (ps.map ptW) false),(2, .M 63 3 (ws.map rK) 0),(8,eI (i:Int))],[⟨6,63, .X⟩,⟨7,63, .O (.R (wsum (wtR k ps ws) i) (5+12*i))⟩]⟩
noncomputable def hrefWt_t_0_0 (k:Int) (ps:List (Int×Int)) (ws:List Rat) (i:Nat):Nat→Hint K:=hnX [(3,[(2,0,oS (eI ((ps.length:Nat):Int))),(3,0,oS (eB true))]),(4,[(1,0,oS (eI ((i+1:Nat):Int)))]),(5,[(3,0,oS (.A [.int .i64 (dtN (pa ps i).1).1, .int .i64 (dtN (pa ps i).1).2.1, .int .i64 (dtN (pa ps i).1).2.2, .int .i64 (dtN (pa ps i).2).1, .int .i64 (dtN (pa ps i).2).2.1, .int .i64 (dtN (pa ps i).2).2.2])),(8,0,oS (.A [.int .i64 (dtN (pa ps i).1).1, .int .i64 (dtN (pa ps i).1).2.1, .int .i64 (dtN (pa ps i).1).2.2, .int .i64 (dtN (pa ps i).2).1, .int .i64 (dtN (pa ps i).2).2.1, .int .i64 (dtN (pa ps i).2).2.2]))]),(6,[(3,0,oS (.B 3 (.R (wa ws i) 5)))]),(7,[(2,0,oS (.O (.R (wsum (wtR k ps ws) (i+1)) (5+12*(i+1)))))])]
noncomputable def hrefWt_t_0_1 (k:Int) (ps:List (Int×Int)) (ws:List Rat) (i:Nat):Nat→Hint K:=hnX [(3,[(2,0,oS (eI ((ps.length:Nat):Int))),(3,0,oS (eB false))])]
theorem refWt_t {w:World} {v0 v1 v2:Value} {k:Int} {ps:List (Int×Int)} {ws:List Rat} (h0:(isE (.int .i64 k)) w v0) (h1:(isRd (cxA w) true 6 (ps.map ptW)) w v1) (h2:(f0 w (.s (.M 63 3 (ws.map rK) 0))).p w v2) (hk:0≤k∧k≤2) (hp: ∀i,i<ps.length→paOk (pa ps i)) (hn:ps.length≤40) (hw:ps.length≤ws.length):Calls Tryz.prog 21 #[v0,v1,v2] w (Ret w fun v w'=>(isR (wsum (wtR k ps ws) ps.length) 485) w' v):=by
 exact fx ctb44 Tryz.func21 (hrefWt_t k ps ws) [(0,eI k),(1, .L 91 6 (ps.map ptW) false),(2, .M 63 3 (ws.map rK) 0)] (.s (.O (.R (wsum (wtR k ps ws) ps.length) 485))) ⟨h0,h1,h2,trivial⟩ ((-9223372036854775807≤(0:Int)∧(0:Int)≤9223372036854775807)∧(1≤(1:Int)∧(1:Int)≤9223372036854775807)∧tK (.O (.R ((((0:Int):Int):Rat)/(((1:Int):Int):Rat)) 5)) (.O (.R (wsum (wtR k ps ws) 0) (5+12*0)))∧drefWt_t k ps ws [1,0,1] [(hrefWt_t k ps ws)] [] (rlX (rrefWt_t (hrefWt_t k ps ws)) [2,1] (ent Tryz.prog Tryz.f21 (κ:=K) [(0,eI k),(1, .L 91 6 (ps.map ptW) false),(2, .M 63 3 (ws.map rK) 0)]))) ⟨(by decide),(by decide),(fun _ _ _ _ _ h=>isR_re h (by show _=(0:Rat);decide+kernel) (by omega)),(lpI (fun h S' J=>drefWt_t k ps ws [1,0,1,0,2] [(hrefWt_t k ps ws),h] [J] S') (fun i:Nat=>i≤ps.length) (fun i=>ps.length-i) (irefWt_t_0 k ps ws) (0) (rlX (rrefWt_t (hrefWt_t k ps ws)) [2,1] (ent Tryz.prog Tryz.f21 (κ:=K) [(0,eI k),(1, .L 91 6 (ps.map ptW) false),(2, .M 63 3 (ws.map rK) 0)])) (Nat.zero_le _) (fun i hC1 J1 hJ1=>(by
  rcases Nat.lt_or_ge i ps.length with h8|h8
  ·exact ⟨hrefWt_t_0_0 k ps ws i,vcP (tI (((ps.map ptW).length:Nat):Int) ((ps.length:Nat):Int)∧decide (((i:Int):Int)<((ps.length:Nat):Int))=true∧i<(ps.map ptW).length∧(ps.map ptW).getD i []=([.int .i64 (dtN (pa ps i).1).1, .int .i64 (dtN (pa ps i).1).2.1, .int .i64 (dtN (pa ps i).1).2.2, .int .i64 (dtN (pa ps i).2).1, .int .i64 (dtN (pa ps i).2).2.1, .int .i64 (dtN (pa ps i).2).2.2]:List Value)∧i<(ps.map ptW).length∧(ps.map ptW).getD i []=([.int .i64 (dtN (pa ps i).1).1, .int .i64 (dtN (pa ps i).1).2.1, .int .i64 (dtN (pa ps i).1).2.2, .int .i64 (dtN (pa ps i).2).1, .int .i64 (dtN (pa ps i).2).2.1, .int .i64 (dtN (pa ps i).2).2.2]:List Value)∧(0≤k∧k≤2)∧rightI (dtN (pa ps i).1).1 (dtN (pa ps i).1).2.1 (dtN (pa ps i).1).2.2∧rightI (dtN (pa ps i).2).1 (dtN (pa ps i).2).2.1 (dtN (pa ps i).2).2.2∧((dtN (pa ps i).1).1≤(dtN (pa ps i).2).1∧(dtN (pa ps i).2).1≤(dtN (pa ps i).1).1+41)∧i<(ws.map rK).length∧tBo 3 ((ws.map rK).getD i .B0) (.R (wa ws i) 5)∧4≤10000∧5≤10000∧(5+12*i)≤10000∧(4+5+1)≤10000∧tK (.O (.R (wsum (wtR k ps ws) i+(yrQ k (dtN (pa ps i).1).1 (dtN (pa ps i).1).2.1 (dtN (pa ps i).1).2.2 (dtN (pa ps i).2).1 (dtN (pa ps i).2).2.1 (dtN (pa ps i).2).2.2*wa ws i)) ((5+12*i)+(4+5+1)+2))) (.O (.R (wsum (wtR k ps ws) (i+1)) (5+12*(i+1))))∧wp ((i:Int)+1)∧tI ((i:Int)+1) ((i+1:Nat):Int)∧J1 (rlX (rrefWt_t (hrefWt_t_0_0 k ps ws i)) [4,7,6,5,3] (irefWt_t_0 k ps ws i))) ⟨⟨rfl,by simp⟩,decide_eq_true (by omega),(by rw [List.length_map];exact h8),pa_row h8,(by rw [List.length_map];exact h8),pa_row h8,hk,(pOk hp h8).1,(pOk hp h8).2.1,(pOk hp h8).2.2,(by rw [List.length_map];omega),⟨rfl,rK_get (by omega)⟩,(by omega),(by omega),(by omega),(by omega),(fun _ _ _ _ _ h=>isR_re h rfl (by omega)),wi (by omega),⟨rfl,by omega⟩,hJ1 (i+1) _ (h8) (by omega) ⟨by kernel_rfl,by kernel_rfl⟩⟩⟩
  ·exact ⟨hrefWt_t_0_1 k ps ws i,vcP (tI (((ps.map ptW).length:Nat):Int) ((ps.length:Nat):Int)∧decide (((i:Int):Int)<((ps.length:Nat):Int))=false∧tK (.O (.R (wsum (wtR k ps ws) i) (5+12*i))) (.O (.R (wsum (wtR k ps ws) ps.length) 485))) ⟨⟨rfl,by simp⟩,decide_eq_false (by omega),(have hC1:i=ps.length:=(by omega);(fun _ _ _ _ _ h=>isR_re h (by rw [hC1]) (by omega)))⟩⟩)))⟩
end Go.Proofs.YtjpilacbapibjaaGreatDoor.X
