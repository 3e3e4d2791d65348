/- Times of layer 12's laws. Written by a script (tools/laws). -/
import Derived.Test.YtjpilacbapibjaaGreatDoorSPg
namespace Go.Proofs.YtjpilacbapibjaaGreatDoor.X
open Go.Proofs.YtjpilacbapibjaaGreatDoor.Da
open Go.RowKit Go.Proofs.YtjpilacbapibjaaGreatDoor.Z
set_option linter.unusedVariables false
def cI16 (c:Int):List Value:= [.int .i16 c]
noncomputable def cutsT (y m d:Int) (l:List Int):List D3:=l.filterMap fun c=>if dyE y m d (c.tmod 2200)=0 then some (dyT y m d (c.tmod 2200)) else none
theorem cutsT_len {y m d:Int} {l:List Int}:(cutsT y m d l).length≤l.length:=List.length_filterMap_le ..
theorem cutsT_snoc {y m d:Int} {l:List Int} {i:Nat} (h:i<l.length):cutsT y m d (l.take (i+1))=cutsT y m d (l.take i)++(if dyE y m d ((l.getD i 0).tmod 2200)=0 then [dyT y m d ((l.getD i 0).tmod 2200)] else []):=by
 have e:l.take (i+1)=l.take i++ [l.getD i 0]:=by
  rw [List.take_succ_eq_append_getElem h,List.getD_eq_getElem?_getD,List.getElem?_eq_getElem h]
  rfl
 unfold cutsT
 rw [e,List.filterMap_append]
 congr 1
 simp only [List.filterMap_cons,List.filterMap_nil]
 split<;>rename_i h2<;>split at h2<;>first|(cases h2;simp_all)|simp_all
theorem cI_row {l:List Int} {i:Nat} (h:i<l.length):(l.map cI16).getD i []= [.int .i16 (l.getD i 0)]:=by
 rw [List.getD_eq_getElem?_getD,List.getD_eq_getElem?_getD,List.getElem?_map,List.getElem?_eq_getElem h]
 rfl
theorem cI_take (l:List Int):(l.map cI16).take (min l.length 12)=(l.take 12).map cI16:=by
 rw [←List.map_take]
 congr 1
 rcases Nat.le_total l.length 12 with h|h
 ·rw [Nat.min_eq_left h,List.take_of_length_le (Nat.le_refl _),List.take_of_length_le h]
 ·rw [Nat.min_eq_right h]
theorem ti3 {l:List Int} {i:Nat} (p:Prop) [Decidable p]:l.length≤i∨(i<l.length∧p)∨(i<l.length∧ ¬p):=by
 rcases Nat.lt_or_ge i l.length with h|h
 ·by_cases e:p
  ·exact .inr (.inl ⟨h,e⟩)
  ·exact .inr (.inr ⟨h,e⟩)
 ·exact .inl h
theorem cI_in {cs:List Int} (h: ∀c∈cs,-32768≤c∧c≤32767) {i:Nat} (hi:i<(cs.take 12).length): -32768≤(cs.take 12).getD i 0∧(cs.take 12).getD i 0≤32767:=by
 rw [List.getD_eq_getElem?_getD,List.getElem?_eq_getElem hi]
 exact h _ (List.mem_of_mem_take (List.getElem_mem hi))
theorem tm_b (x:Int) {k:Int} (h:0<k): -k<x.tmod k∧x.tmod k<k:=by
 have a:=Int.lt_tmod_of_pos x h
 have b:=Int.tmod_lt_of_pos x h
 exact ⟨a,b⟩
theorem dtW_snoc (l:List D3) (x:D3):l.map dtW++ [[.int .i64 x.1, .int .i64 x.2.1, .int .i64 x.2.2]]=(l++ [x]).map dtW:=by
 rw [List.map_append]
 rfl
noncomputable def ctb54:List (Ct dk):= [
 ct2 32 0 en32 vDt vI (fun x y=> .s (eD (mkY x.1 y) (mkM x.2.1) (mkD (mkY x.1 y) (mkM x.2.1) x.2.2))) (fun x y=> [1≤y∧y≤9999]) fun _ _ p _ _ _ h1 h2=>refMake_t h1 h2 p.1,
 ct2w 30 0 en30 vDt vI (.O .Tb) isTbk isTbk_ok (fun x y=> .t [eD (dyT x.1 x.2.1 x.2.2 y).1 (dyT x.1 x.2.1 x.2.2 y).2.1 (dyT x.1 x.2.1 x.2.2 y).2.2,eI (dyE x.1 x.2.1 x.2.2 y)]) (fun x y=> [-9223372036854775808≤y∧y≤9223372036854775807]) fun _ _ p _ _ _ _ h1 h2 hW=>pDays10_t h1 h2 hW p.1]
noncomputable abbrev rtime_t:=rX ctb54 Tryz.f8
noncomputable abbrev dtime_t (a b c n p:Int) (cs bs:List Int):=dX ctb54 Tryz.f8 (.t [eD (mkY a (9900:Int),mkM b,mkD (mkY a (9900:Int)) (mkM b) c).1 (mkY a (9900:Int),mkM b,mkD (mkY a (9900:Int)) (mkM b) c).2.1 (mkY a (9900:Int),mkM b,mkD (mkY a (9900:Int)) (mkM b) c).2.2,eD (dyT (mkY a (9900:Int)) (mkM b) (mkD (mkY a (9900:Int)) (mkM b) c) (n.tmod 2000)).1 (dyT (mkY a (9900:Int)) (mkM b) (mkD (mkY a (9900:Int)) (mkM b) c) (n.tmod 2000)).2.1 (dyT (mkY a (9900:Int)) (mkM b) (mkD (mkY a (9900:Int)) (mkM b) c) (n.tmod 2000)).2.2, .L 28 3 ((cutsT (mkY a (9900:Int)) (mkM b) (mkD (mkY a (9900:Int)) (mkM b) c) (cs.take 12)).map dtW) true])
noncomputable def htime_t (a b c n p:Int) (cs bs:List Int):Nat→Hint K:=hnX [(2,[(4,0,oS (eI (n.tmod 2000)))]),(3,[(0,0,oS (.L 28 3 (([]:List D3).map dtW) true))]),(4,[(4,0,oS (eI ((cs.length:Nat):Int))),(5,0,oS (eI ((min cs.length 12:Nat):Int))),(6,0,oS (.L 53 1 ((cs.take 12).map cI16) false)),(7,0,oS (eI (((cs.take 12).length:Nat):Int)))])]
noncomputable def itime_t_0 (a b c n p:Int) (cs bs:List Int) (g:Nat×List D3):Sx K:=⟨[(4, .E (.slice none 0 0)),(1000000, .O .Tb),(31, .L 53 1 ((cs.take 12).map cI16) false),(32,eI (((cs.take 12).length:Nat):Int)),(33,eI (g.1:Int)),(8, .L 28 3 (g.2.map dtW) true)],[⟨3,28, .X⟩,⟨2,28, .X⟩,⟨5,28,eD (mkY a (9900:Int)) (mkM b) (mkD (mkY a (9900:Int)) (mkM b) c)⟩,⟨6,28,eD (dyT (mkY a (9900:Int)) (mkM b) (mkD (mkY a (9900:Int)) (mkM b) c) (n.tmod 2000)).1 (dyT (mkY a (9900:Int)) (mkM b) (mkD (mkY a (9900:Int)) (mkM b) c) (n.tmod 2000)).2.1 (dyT (mkY a (9900:Int)) (mkM b) (mkD (mkY a (9900:Int)) (mkM b) c) (n.tmod 2000)).2.2⟩]⟩
noncomputable def htime_t_0_0 (a b c n p:Int) (cs bs:List Int) (g:Nat×List D3):Nat→Hint K:=hnX [(5,[(0,0,oS (eB false))])]
noncomputable def htime_t_0_1 (a b c n p:Int) (cs bs:List Int) (g:Nat×List D3):Nat→Hint K:=hnX [(5,[(0,0,oS (eB true))]),(6,[(0,0,oS (.A [.int .i16 ((cs.take 12).getD g.1 0)]))]),(7,[(2,0,oS (eI ((cs.take 12).getD g.1 0)))]),(8,[(1,0,oS (eB true))]),(9,[(3,0,oS (.L 28 3 ((g.2++ [dyT (mkY a (9900:Int)) (mkM b) (mkD (mkY a (9900:Int)) (mkM b) c) (((cs.take 12).getD g.1 0).tmod 2200)]).map dtW) true))]),(10,[(0,0,oS (eI ((g.1+1:Nat):Int)))])]
noncomputable def htime_t_0_2 (a b c n p:Int) (cs bs:List Int) (g:Nat×List D3):Nat→Hint K:=hnX [(5,[(0,0,oS (eB true))]),(6,[(0,0,oS (.A [.int .i16 ((cs.take 12).getD g.1 0)]))]),(7,[(2,0,oS (eI ((cs.take 12).getD g.1 0)))]),(8,[(1,0,oS (eB false))]),(10,[(0,0,oS (eI ((g.1+1:Nat):Int)))])]
theorem time_t {w:World} {v0:Value} {a b c n p:Int} {cs bs:List Int} (h0:(f0 w (.s (.S [.v (.int .i64 a), .v (.int .i64 b), .v (.int .i64 c), .v (.int .u16 n), .l 53 1 (cs.map cI16), .l 53 1 (bs.map cI16), .v (.int .u8 p)]))).p w v0) (hw:isTb w v0) (hn:0≤n∧n≤65535) (hcs: ∀c∈cs,-32768≤c∧c≤32767):Calls Tryz.prog 8 #[v0] w (Ret w fun v w'=>(f0 w (.t [eD (mkY a (9900:Int),mkM b,mkD (mkY a (9900:Int)) (mkM b) c).1 (mkY a (9900:Int),mkM b,mkD (mkY a (9900:Int)) (mkM b) c).2.1 (mkY a (9900:Int),mkM b,mkD (mkY a (9900:Int)) (mkM b) c).2.2,eD (dyT (mkY a (9900:Int)) (mkM b) (mkD (mkY a (9900:Int)) (mkM b) c) (n.tmod 2000)).1 (dyT (mkY a (9900:Int)) (mkM b) (mkD (mkY a (9900:Int)) (mkM b) c) (n.tmod 2000)).2.1 (dyT (mkY a (9900:Int)) (mkM b) (mkD (mkY a (9900:Int)) (mkM b) c) (n.tmod 2000)).2.2, .L 28 3 ((cutsT (mkY a (9900:Int)) (mkM b) (mkD (mkY a (9900:Int)) (mkM b) c) (cs.take 12)).map dtW) true])).p w' v):=by
 have t0:=tm_b n (k:=2000) (by decide)
 have hl:=List.length_take_le 12 cs
 exact fx ctb54 Tryz.func8 (htime_t a b c n p cs bs) [(0, .S [.v (.int .i64 a), .v (.int .i64 b), .v (.int .i64 c), .v (.int .u16 n), .l 53 1 (cs.map cI16), .l 53 1 (bs.map cI16), .v (.int .u8 p)]),(1000000, .O .Tb)] (.t [eD (mkY a (9900:Int),mkM b,mkD (mkY a (9900:Int)) (mkM b) c).1 (mkY a (9900:Int),mkM b,mkD (mkY a (9900:Int)) (mkM b) c).2.1 (mkY a (9900:Int),mkM b,mkD (mkY a (9900:Int)) (mkM b) c).2.2,eD (dyT (mkY a (9900:Int)) (mkM b) (mkD (mkY a (9900:Int)) (mkM b) c) (n.tmod 2000)).1 (dyT (mkY a (9900:Int)) (mkM b) (mkD (mkY a (9900:Int)) (mkM b) c) (n.tmod 2000)).2.1 (dyT (mkY a (9900:Int)) (mkM b) (mkD (mkY a (9900:Int)) (mkM b) c) (n.tmod 2000)).2.2, .L 28 3 ((cutsT (mkY a (9900:Int)) (mkM b) (mkD (mkY a (9900:Int)) (mkM b) c) (cs.take 12)).map dtW) true]) ⟨h0,hw,trivial⟩ ((1≤(9900:Int)∧(9900:Int)≤9999)∧(2000≠(0:Int))∧tI (IntKind.i64.wrap (Int.tmod n 2000)) (n.tmod 2000)∧(-9223372036854775808≤n.tmod 2000∧n.tmod 2000≤9223372036854775807)∧tK (.E (.slice none 0 0)) (.L 28 3 (([]:List D3).map dtW) true)∧tI (((cs.map cI16).length:Nat):Int) ((cs.length:Nat):Int)∧tI (min ((cs.length:Nat):Int) 12) ((min cs.length 12:Nat):Int)∧min cs.length 12≤(cs.map cI16).length∧tLs 53 1 false ((cs.map cI16).take (min cs.length 12)) ((cs.take 12).map cI16)∧tI ((((cs.take 12).map cI16).length:Nat):Int) (((cs.take 12).length:Nat):Int)∧dtime_t a b c n p cs bs [1,1,1,0,1] [(htime_t a b c n p cs bs)] [] (rlX (rtime_t (htime_t a b c n p cs bs)) [4,3,2,1] (ent Tryz.prog Tryz.f8 (κ:=K) [(0, .S [.v (.int .i64 a), .v (.int .i64 b), .v (.int .i64 c), .v (.int .u16 n), .l 53 1 (cs.map cI16), .l 53 1 (bs.map cI16), .v (.int .u8 p)]),(1000000, .O .Tb)]))) ⟨(by decide),(by decide),⟨rfl,i64_in (by omega) (by omega)⟩,(by omega),nil_L (rfl),⟨rfl,by simp⟩,⟨rfl,by omega⟩,(by rw [List.length_map];omega),⟨⟨rfl,rfl,rfl⟩,cI_take cs⟩,⟨rfl,by rw [List.length_map]⟩,(lpI (fun h S' J=>dtime_t a b c n p cs bs [1,1,1,0,1,0,2] [(htime_t a b c n p cs bs),h] [J] S') (fun g:Nat×List D3=>g.1≤(cs.take 12).length∧g.2=cutsT (mkY a (9900:Int)) (mkM b) (mkD (mkY a (9900:Int)) (mkM b) c) ((cs.take 12).take g.1)∧g.2.length≤g.1) (fun g=>(cs.take 12).length-g.1) (itime_t_0 a b c n p cs bs) (0,[]) (rlX (rtime_t (htime_t a b c n p cs bs)) [4,3,2,1] (ent Tryz.prog Tryz.f8 (κ:=K) [(0, .S [.v (.int .i64 a), .v (.int .i64 b), .v (.int .i64 c), .v (.int .u16 n), .l 53 1 (cs.map cI16), .l 53 1 (bs.map cI16), .v (.int .u8 p)]),(1000000, .O .Tb)])) (⟨Nat.zero_le _,rfl,Nat.le_refl _⟩) (fun g hC1 J1 hJ1=>(by
  rcases ti3 (l:=cs.take 12) (i:=g.1) (dyE (mkY a (9900:Int)) (mkM b) (mkD (mkY a (9900:Int)) (mkM b) c) (((cs.take 12).getD g.1 0).tmod 2200)=0) with h8|h8|h8
  ·exact ⟨htime_t_0_0 a b c n p cs bs g,vcP (decide (((g.1:Int):Int)<(((cs.take 12).length:Nat):Int))=false∧(tK (eD (mkY a (9900:Int)) (mkM b) (mkD (mkY a (9900:Int)) (mkM b) c)) (eD (mkY a (9900:Int),mkM b,mkD (mkY a (9900:Int)) (mkM b) c).1 (mkY a (9900:Int),mkM b,mkD (mkY a (9900:Int)) (mkM b) c).2.1 (mkY a (9900:Int),mkM b,mkD (mkY a (9900:Int)) (mkM b) c).2.2)∧tK (eD (dyT (mkY a (9900:Int)) (mkM b) (mkD (mkY a (9900:Int)) (mkM b) c) (n.tmod 2000)).1 (dyT (mkY a (9900:Int)) (mkM b) (mkD (mkY a (9900:Int)) (mkM b) c) (n.tmod 2000)).2.1 (dyT (mkY a (9900:Int)) (mkM b) (mkD (mkY a (9900:Int)) (mkM b) c) (n.tmod 2000)).2.2) (eD (dyT (mkY a (9900:Int)) (mkM b) (mkD (mkY a (9900:Int)) (mkM b) c) (n.tmod 2000)).1 (dyT (mkY a (9900:Int)) (mkM b) (mkD (mkY a (9900:Int)) (mkM b) c) (n.tmod 2000)).2.1 (dyT (mkY a (9900:Int)) (mkM b) (mkD (mkY a (9900:Int)) (mkM b) c) (n.tmod 2000)).2.2)∧tLs 28 3 true (g.2.map dtW) ((cutsT (mkY a (9900:Int)) (mkM b) (mkD (mkY a (9900:Int)) (mkM b) c) (cs.take 12)).map dtW)∧True)) ⟨decide_eq_false (by omega),(have hC1:g.2=cutsT (mkY a (9900:Int)) (mkM b) (mkD (mkY a (9900:Int)) (mkM b) c) (cs.take 12):=(hC1.2.1.trans (by rw [List.take_of_length_le h8]));⟨(fun _ _ _ _ _ h=>h),(fun _ _ _ _ _ h=>h),⟨⟨rfl,rfl,rfl⟩,(by rw [hC1])⟩,trivial⟩)⟩⟩
  ·exact ⟨htime_t_0_1 a b c n p cs bs g,vcP (decide (((g.1:Int):Int)<(((cs.take 12).length:Nat):Int))=true∧g.1<((cs.take 12).map cI16).length∧((cs.take 12).map cI16).getD g.1 []=([.int .i16 ((cs.take 12).getD g.1 0)]:List Value)∧tI (IntKind.i64.wrap ((cs.take 12).getD g.1 0)) ((cs.take 12).getD g.1 0)∧(2200≠(0:Int))∧(-9223372036854775808≤Int.tmod ((cs.take 12).getD g.1 0) 2200∧Int.tmod ((cs.take 12).getD g.1 0) 2200≤9223372036854775807)∧decide ((dyE (mkY a (9900:Int)) (mkM b) (mkD (mkY a (9900:Int)) (mkM b) c) (Int.tmod ((cs.take 12).getD g.1 0) 2200):Int)=0)=true∧((g.2.map dtW).length+([[.int .i64 (dyT (mkY a (9900:Int)) (mkM b) (mkD (mkY a (9900:Int)) (mkM b) c) (Int.tmod ((cs.take 12).getD g.1 0) 2200)).1, .int .i64 (dyT (mkY a (9900:Int)) (mkM b) (mkD (mkY a (9900:Int)) (mkM b) c) (Int.tmod ((cs.take 12).getD g.1 0) 2200)).2.1, .int .i64 (dyT (mkY a (9900:Int)) (mkM b) (mkD (mkY a (9900:Int)) (mkM b) c) (Int.tmod ((cs.take 12).getD g.1 0) 2200)).2.2]]:List (List Value)).length)*24≤140737488355328∧tLs 28 3 true (g.2.map dtW++([[.int .i64 (dyT (mkY a (9900:Int)) (mkM b) (mkD (mkY a (9900:Int)) (mkM b) c) (Int.tmod ((cs.take 12).getD g.1 0) 2200)).1, .int .i64 (dyT (mkY a (9900:Int)) (mkM b) (mkD (mkY a (9900:Int)) (mkM b) c) (Int.tmod ((cs.take 12).getD g.1 0) 2200)).2.1, .int .i64 (dyT (mkY a (9900:Int)) (mkM b) (mkD (mkY a (9900:Int)) (mkM b) c) (Int.tmod ((cs.take 12).getD g.1 0) 2200)).2.2]]:List (List Value))) ((g.2++ [dyT (mkY a (9900:Int)) (mkM b) (mkD (mkY a (9900:Int)) (mkM b) c) (((cs.take 12).getD g.1 0).tmod 2200)]).map dtW)∧wp ((g.1:Int)+1)∧tI ((g.1:Int)+1) ((g.1+1:Nat):Int)∧J1 (rlX (rtime_t (htime_t_0_1 a b c n p cs bs g)) [10,9,8,7,6,5] (itime_t_0 a b c n p cs bs g))) ⟨decide_eq_true (by omega),(by rw [List.length_map];exact h8.1),cI_row h8.1,⟨rfl,i64_in (by have:=cI_in hcs h8.1;omega) (by have:=cI_in hcs h8.1;omega)⟩,(by decide),(by have:=tm_b ((cs.take 12).getD g.1 0) (k:=2200) (by decide);omega),decide_eq_true h8.2,(by rw [List.length_map];simp;have:=hC1.2.2;have:=h8.1;have:=List.length_take_le 12 cs;omega),⟨⟨rfl,rfl,rfl⟩,dtW_snoc g.2 _⟩,wi (by omega),⟨rfl,by omega⟩,hJ1 (g.1+1,g.2++ [dyT (mkY a (9900:Int)) (mkM b) (mkD (mkY a (9900:Int)) (mkM b) c) (((cs.take 12).getD g.1 0).tmod 2200)]) _ (⟨h8.1,by rw [cutsT_snoc h8.1,if_pos h8.2,←hC1.2.1],by rw [List.length_append];have:=hC1.2.2;simp;exact this⟩) (by show (cs.take 12).length-(g.1+1)<_;have:=h8.1;omega) ⟨by kernel_rfl,by kernel_rfl⟩⟩⟩
  ·exact ⟨htime_t_0_2 a b c n p cs bs g,vcP (decide (((g.1:Int):Int)<(((cs.take 12).length:Nat):Int))=true∧g.1<((cs.take 12).map cI16).length∧((cs.take 12).map cI16).getD g.1 []=([.int .i16 ((cs.take 12).getD g.1 0)]:List Value)∧tI (IntKind.i64.wrap ((cs.take 12).getD g.1 0)) ((cs.take 12).getD g.1 0)∧(2200≠(0:Int))∧(-9223372036854775808≤Int.tmod ((cs.take 12).getD g.1 0) 2200∧Int.tmod ((cs.take 12).getD g.1 0) 2200≤9223372036854775807)∧decide ((dyE (mkY a (9900:Int)) (mkM b) (mkD (mkY a (9900:Int)) (mkM b) c) (Int.tmod ((cs.take 12).getD g.1 0) 2200):Int)=0)=false∧wp ((g.1:Int)+1)∧tI ((g.1:Int)+1) ((g.1+1:Nat):Int)∧J1 (rlX (rtime_t (htime_t_0_2 a b c n p cs bs g)) [10,8,7,6,5] (itime_t_0 a b c n p cs bs g))) ⟨decide_eq_true (by omega),(by rw [List.length_map];exact h8.1),cI_row h8.1,⟨rfl,i64_in (by have:=cI_in hcs h8.1;omega) (by have:=cI_in hcs h8.1;omega)⟩,(by decide),(by have:=tm_b ((cs.take 12).getD g.1 0) (k:=2200) (by decide);omega),decide_eq_false h8.2,wi (by omega),⟨rfl,by omega⟩,hJ1 (g.1+1,g.2) _ (⟨h8.1,by rw [cutsT_snoc h8.1,if_neg h8.2,List.append_nil,←hC1.2.1],Nat.le_succ_of_le hC1.2.2⟩) (by show (cs.take 12).length-(g.1+1)<_;have:=h8.1;omega) ⟨by kernel_rfl,by kernel_rfl⟩⟩⟩)))⟩
theorem rowI_rd {k:IntKind} {w:World} {a:Option Addr} {len cap:Nat} {zs:List Int} (h:(a=none∧len=0∧cap=0∧zs= [])∨ ∃x,a=some x∧len≤cap∧cap≤maxLen∧zs.length=cap∧(∀i,i<zs.length→w.cell? (x.add i)=some (.int k (zs.getD i 0)))∧ ∀n∈zs,(Lit.int k n).wf=true):isRd (cxA w) true 1 ((zs.take len).map fun c=> [.int k c]) w (.slice a len cap)∧ ∀n∈zs.take len,(Lit.int k n).wf=true:=by
 have hr:rowsB 1 ((zs.take len).map fun c=> [Value.int k c]):=fun r hr=>by
  obtain ⟨t,_,rfl⟩:=List.mem_map.1 hr
  rfl
 rcases h with ⟨rfl,rfl,rfl,rfl⟩|⟨x,rfl,h1,h2,h3,h4,h5⟩
 ·exact ⟨⟨hr,none,0,rfl,Nat.le_refl _,by decide,fun hn=>absurd rfl hn⟩,fun n hn=>by simp at hn⟩
 ·have hl:((zs.take len).map fun c=> [Value.int k c]).length=len:=by
   rw [List.length_map,List.length_take]
   omega
  refine ⟨⟨hr,some x,cap,by rw [hl],by rw [hl];exact h1,h2,fun hn=> ?_⟩,fun n hn=>h5 n (List.mem_of_mem_take hn)⟩
  have hp:0<len:=by
   rcases Nat.eq_zero_or_pos len with e|e
   ·exact absurd (List.eq_nil_of_length_eq_zero (hl.trans e)) hn
   ·exact e
  have hc:=h4 0 (by omega)
  have hx:x.add 0=x:=rfl
  rw [hx] at hc
  have hs:=World.cell?_spot hc
  obtain ⟨b,off,sp⟩:=x
  have hs':sp=none:=hs
  subst hs'
  cases hb:w.heap[b]? with
  |none=>simp [World.cell?,hb] at hc
  |some ob=>
   cases ob with
   |cells cs t fr=>
    refine ⟨b,off,cs,t,fr,rfl,hb,rfl,fun _=>lt_heap hb,fun j v hj=> ?_⟩
    have hj':j<len:=by
     have:=(List.getElem?_eq_some_iff.1 hj).1
     rw [flat_len hr,hl] at this
     omega
    have hv:v= .int k (zs.getD j 0):=by
     have e:((zs.take len).map fun c=> [Value.int k c]).flatten=(zs.take len).map fun c=>Value.int k c:=by
      induction zs.take len with
      |nil=>rfl
      |cons c r ih=>rw [List.map_cons,List.map_cons,List.flatten_cons,ih];rfl
     rw [e,List.getElem?_map,List.getElem?_take,if_pos hj',List.getElem?_eq_getElem (by omega)] at hj
     injection hj with hj
     rw [←hj,List.getD_eq_getElem?_getD,List.getElem?_eq_getElem (by omega)]
     rfl
    have hcj:=h4 j (by omega)
    have e2:(Addr.mk b off none).add j=⟨b,off+j,none⟩:=by unfold Addr.add;split<;>simp_all
    rw [e2] at hcj
    rw [hv]
    simpa [World.cell?,hb] using hcj
   |_=>simp [World.cell?,hb] at hc
abbrev Tm:=Int×Int×Int×Int×List (List Value)×List (List Value)×Int
noncomputable abbrev tmK (x:Tm):Ks K:= .S [.v (.int .i64 x.1), .v (.int .i64 x.2.1), .v (.int .i64 x.2.2.1), .v (.int .u16 x.2.2.2.1), .l 53 1 x.2.2.2.2.1, .l 53 1 x.2.2.2.2.2.1, .v (.int .u8 x.2.2.2.2.2.2)]
noncomputable def vTm:Vw Tm:=⟨fun| .S [.v (.int .i64 a), .v (.int .i64 b), .v (.int .i64 c), .v (.int .u16 n), .l _ 1 cs, .l _ 1 bs, .v (.int .u8 p)]=>some (a,b,c,n,cs,bs,p)|_=>none,fun x w v=>(k0 w (tmK x)).p w v,fun k a h w v hv=>by split at h<;>cases h;exact hv⟩
def rI:List Value→Int
 | [.int _ c]=>c
 |_=>0
theorem map_cI (l:List Int):(l.map cI16).map rI=l:=by
 rw [List.map_map]
 exact (List.map_congr_left fun p _=>rfl).trans (List.map_id l)
abbrev tA (a b c:Int):D3:=(mkY a (9900:Int),mkM b,mkD (mkY a (9900:Int)) (mkM b) c)
theorem timeR {w:World} {v:Value} {x:Tm} (h1:vTm.pr x w v) (hW:isTb w v) (e:x.2.2.2.2.1=(x.2.2.2.2.1.map rI).map cI16) (e2:x.2.2.2.2.2.1=(x.2.2.2.2.2.1.map rI).map cI16) (hn:0≤x.2.2.2.1∧x.2.2.2.1≤65535) (hc: ∀c∈x.2.2.2.2.1.map rI,-32768≤c∧c≤32767):Calls Tryz.prog 8 #[v] w (Ret w fun v' w'=>(f0 w (.t [eD (mkY x.1 (9900:Int)) (mkM x.2.1) (mkD (mkY x.1 (9900:Int)) (mkM x.2.1) x.2.2.1),eD (dyT (mkY x.1 (9900:Int)) (mkM x.2.1) (mkD (mkY x.1 (9900:Int)) (mkM x.2.1) x.2.2.1) (x.2.2.2.1.tmod 2000)).1 (dyT (mkY x.1 (9900:Int)) (mkM x.2.1) (mkD (mkY x.1 (9900:Int)) (mkM x.2.1) x.2.2.1) (x.2.2.2.1.tmod 2000)).2.1 (dyT (mkY x.1 (9900:Int)) (mkM x.2.1) (mkD (mkY x.1 (9900:Int)) (mkM x.2.1) x.2.2.1) (x.2.2.2.1.tmod 2000)).2.2, .L 28 3 ((cutsT (mkY x.1 (9900:Int)) (mkM x.2.1) (mkD (mkY x.1 (9900:Int)) (mkM x.2.1) x.2.2.1) ((x.2.2.2.2.1.map rI).take 12)).map dtW) true])).p w' v'):=by
 have h:(k0 w (tmK x)).p w v:=h1
 unfold tmK at h
 rw [e,e2] at h
 exact time_t h hW hn hc
end Go.Proofs.YtjpilacbapibjaaGreatDoor.X
