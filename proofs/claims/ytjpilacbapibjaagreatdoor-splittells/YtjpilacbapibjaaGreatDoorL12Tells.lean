/- SplitTells. Written by a script (tools/laws). -/
import Derived.Test.YtjpilacbapibjaaGreatDoorL12S
namespace Go.Proofs.YtjpilacbapibjaaGreatDoor.X
open Go.Proofs.YtjpilacbapibjaaGreatDoor.Da
open Go.RowKit Go.Proofs.YtjpilacbapibjaaGreatDoor.Z
set_option linter.unusedVariables false
noncomputable def ctb56:List (Ct dk):= [
 ct3 12 0 en12 vDt vDt (vL 3) (fun x y z=> .t [.L 91 6 ((spL (x.1,x.2.1,x.2.2) (y.1,y.2.1,y.2.2) (z.map dtR)).map ptW) true,eI (spE (x.1,x.2.1,x.2.2) (y.1,y.2.1,y.2.2) (z.map dtR))]) (fun x y z=> [z=(z.map dtR).map dtW]) fun _ _ _ p _ _ _ _ h1 h2 h3=>refPartsR h1 h2 h3 p.1,
 ct3w 11 0 en11 vDt vDt (vL 3) (.O .Tb) isTbk isTbk_ok (fun x y z=> .t [.L 74 6 ((spL (x.1,x.2.1,x.2.2) (y.1,y.2.1,y.2.2) (z.map dtR)).map ptW) true,eI (spE (x.1,x.2.1,x.2.2) (y.1,y.2.1,y.2.2) (z.map dtR))]) (fun x y z=> [z=(z.map dtR).map dtW,(z:List (List Value)).length≤1000000]) fun _ _ _ p _ _ _ _ _ h1 h2 h3 hW=>pSPartsR h1 h2 h3 hW p.1 p.2.1]
noncomputable abbrev rparts_t:=rX ctb56 Tryz.f10
noncomputable abbrev dparts_t (y1 m1 d1 y2 m2 d2:Int) (cs:List D3):=dX ctb56 Tryz.f10 (.s (eB true))
noncomputable def hparts_t (y1 m1 d1 y2 m2 d2:Int) (cs:List D3):Nat→Hint K:=hnX [(1,[(5,0,oS (.F 74 6 ((spL (y1,m1,d1) (y2,m2,d2) cs).map ptW))),(6,0,oS (eI (spE (y1,m1,d1) (y2,m2,d2) cs)))]),(2,[(5,0,oS (.F 91 6 ((spL (y1,m1,d1) (y2,m2,d2) cs).map ptW))),(6,0,oS (eI (spE (y1,m1,d1) (y2,m2,d2) cs)))]),(3,[(2,0,oS (eB false)),(8,0,oS (eB false))]),(5,[(1,0,oS (eI (((spL (y1,m1,d1) (y2,m2,d2) cs).length:Nat):Int)))])]
noncomputable def iparts_t_0 (y1 m1 d1 y2 m2 d2:Int) (cs:List D3) (i:Nat):Sx K:=⟨[(1000000, .O .Tb),(7, .L 74 6 ((spL (y1,m1,d1) (y2,m2,d2) cs).map ptW) true),(9, .L 91 6 ((spL (y1,m1,d1) (y2,m2,d2) cs).map ptW) true),(37,eI (((spL (y1,m1,d1) (y2,m2,d2) cs).length:Nat):Int)),(38,eI (i:Int))],[]⟩
noncomputable def hparts_t_0_0 (y1 m1 d1 y2 m2 d2:Int) (cs:List D3) (i:Nat):Nat→Hint K:=hnX [(6,[(0,0,oS (eB true))]),(8,[(2,0,oS (.A [.int .i64 (dtN (pa (spL (y1,m1,d1) (y2,m2,d2) cs) i).1).1, .int .i64 (dtN (pa (spL (y1,m1,d1) (y2,m2,d2) cs) i).1).2.1, .int .i64 (dtN (pa (spL (y1,m1,d1) (y2,m2,d2) cs) i).1).2.2, .int .i64 (dtN (pa (spL (y1,m1,d1) (y2,m2,d2) cs) i).2).1, .int .i64 (dtN (pa (spL (y1,m1,d1) (y2,m2,d2) cs) i).2).2.1, .int .i64 (dtN (pa (spL (y1,m1,d1) (y2,m2,d2) cs) i).2).2.2])),(7,0,oS (.A [.int .i64 (dtN (pa (spL (y1,m1,d1) (y2,m2,d2) cs) i).1).1, .int .i64 (dtN (pa (spL (y1,m1,d1) (y2,m2,d2) cs) i).1).2.1, .int .i64 (dtN (pa (spL (y1,m1,d1) (y2,m2,d2) cs) i).1).2.2, .int .i64 (dtN (pa (spL (y1,m1,d1) (y2,m2,d2) cs) i).2).1, .int .i64 (dtN (pa (spL (y1,m1,d1) (y2,m2,d2) cs) i).2).2.1, .int .i64 (dtN (pa (spL (y1,m1,d1) (y2,m2,d2) cs) i).2).2.2])),(10,0,oS (eB false)),(14,0,oS (.A [.int .i64 (dtN (pa (spL (y1,m1,d1) (y2,m2,d2) cs) i).1).1, .int .i64 (dtN (pa (spL (y1,m1,d1) (y2,m2,d2) cs) i).1).2.1, .int .i64 (dtN (pa (spL (y1,m1,d1) (y2,m2,d2) cs) i).1).2.2, .int .i64 (dtN (pa (spL (y1,m1,d1) (y2,m2,d2) cs) i).2).1, .int .i64 (dtN (pa (spL (y1,m1,d1) (y2,m2,d2) cs) i).2).2.1, .int .i64 (dtN (pa (spL (y1,m1,d1) (y2,m2,d2) cs) i).2).2.2])),(19,0,oS (.A [.int .i64 (dtN (pa (spL (y1,m1,d1) (y2,m2,d2) cs) i).1).1, .int .i64 (dtN (pa (spL (y1,m1,d1) (y2,m2,d2) cs) i).1).2.1, .int .i64 (dtN (pa (spL (y1,m1,d1) (y2,m2,d2) cs) i).1).2.2, .int .i64 (dtN (pa (spL (y1,m1,d1) (y2,m2,d2) cs) i).2).1, .int .i64 (dtN (pa (spL (y1,m1,d1) (y2,m2,d2) cs) i).2).2.1, .int .i64 (dtN (pa (spL (y1,m1,d1) (y2,m2,d2) cs) i).2).2.2])),(22,0,oS (eB false))]),(10,[(0,0,oS (eI ((i+1:Nat):Int)))])]
noncomputable def hparts_t_0_1 (y1 m1 d1 y2 m2 d2:Int) (cs:List D3) (i:Nat):Nat→Hint K:=hnX [(6,[(0,0,oS (eB false))])]
theorem parts_t {w:World} {v0 v1 v2:Value} {y1 m1 d1 y2 m2 d2:Int} {cs:List D3} (h0:(f0 w (.s (eD y1 m1 d1))).p w v0) (h1:(f0 w (.s (eD y2 m2 d2))).p w v1) (h2:(isRd (cxA w) true 3 (cs.map dtW)) w v2) (hw:isTb w v0) (hps:(spL (y1,m1,d1) (y2,m2,d2) cs).length≤4000000) (hn:cs.length≤1000000):Calls Tryz.prog 10 #[v0,v1,v2] w (Ret w fun v w'=>(isE (.bool true)) w' v):=by
 exact fx ctb56 Tryz.func10 (hparts_t y1 m1 d1 y2 m2 d2 cs) [(0,eD y1 m1 d1),(1,eD y2 m2 d2),(2, .L 28 3 (cs.map dtW) false),(1000000, .O .Tb)] (.s (eB true)) ⟨h0,h1,h2,hw,trivial⟩ (cs.map dtW=((cs.map dtW).map dtR).map dtW∧(cs.map dtW:List (List Value)).length≤1000000∧tLn 74 6 ((spL (y1,m1,d1) (y2,m2,d2) ((cs.map dtW).map dtR)).map ptW) ((spL (y1,m1,d1) (y2,m2,d2) cs).map ptW)∧tI (spE (y1,m1,d1) (y2,m2,d2) ((cs.map dtW).map dtR)) (spE (y1,m1,d1) (y2,m2,d2) cs)∧cs.map dtW=((cs.map dtW).map dtR).map dtW∧tLn 91 6 ((spL (y1,m1,d1) (y2,m2,d2) ((cs.map dtW).map dtR)).map ptW) ((spL (y1,m1,d1) (y2,m2,d2) cs).map ptW)∧tI (spE (y1,m1,d1) (y2,m2,d2) ((cs.map dtW).map dtR)) (spE (y1,m1,d1) (y2,m2,d2) cs)∧(!decide ((spE (y1,m1,d1) (y2,m2,d2) cs:Int)=spE (y1,m1,d1) (y2,m2,d2) cs))=false∧(!decide ((((((spL (y1,m1,d1) (y2,m2,d2) cs).map ptW).length:Nat):Int):Int)=((((spL (y1,m1,d1) (y2,m2,d2) cs).map ptW).length:Nat):Int)))=false∧tI ((((spL (y1,m1,d1) (y2,m2,d2) cs).map ptW).length:Nat):Int) (((spL (y1,m1,d1) (y2,m2,d2) cs).length:Nat):Int)∧dparts_t y1 m1 d1 y2 m2 d2 cs [1,1,1,0,1] [(hparts_t y1 m1 d1 y2 m2 d2 cs)] [] (rlX (rparts_t (hparts_t y1 m1 d1 y2 m2 d2 cs)) [5,3,2,1] (ent Tryz.prog Tryz.f10 (κ:=K) [(0,eD y1 m1 d1),(1,eD y2 m2 d2),(2, .L 28 3 (cs.map dtW) false),(1000000, .O .Tb)]))) ⟨(by first|(rw [map_RW];done)|rfl),(by rw [List.length_map];exact hn),⟨⟨rfl,rfl⟩,(by rw [map_RW])⟩,⟨rfl,by rw [map_RW]⟩,(by first|(rw [map_RW];done)|rfl),⟨⟨rfl,rfl⟩,(by rw [map_RW])⟩,⟨rfl,by rw [map_RW]⟩,(by simp),(by simp),⟨rfl,by simp⟩,(lpI (fun h S' J=>dparts_t y1 m1 d1 y2 m2 d2 cs [1,1,1,0,1,0,2] [(hparts_t y1 m1 d1 y2 m2 d2 cs),h] [J] S') (fun i:Nat=>i≤(spL (y1,m1,d1) (y2,m2,d2) cs).length) (fun i=>(spL (y1,m1,d1) (y2,m2,d2) cs).length-i) (iparts_t_0 y1 m1 d1 y2 m2 d2 cs) (0) (rlX (rparts_t (hparts_t y1 m1 d1 y2 m2 d2 cs)) [5,3,2,1] (ent Tryz.prog Tryz.f10 (κ:=K) [(0,eD y1 m1 d1),(1,eD y2 m2 d2),(2, .L 28 3 (cs.map dtW) false),(1000000, .O .Tb)])) (Nat.zero_le _) (fun i hC1 J1 hJ1=>(by
  rcases Nat.lt_or_ge i (spL (y1,m1,d1) (y2,m2,d2) cs).length with h8|h8
  ·exact ⟨hparts_t_0_0 y1 m1 d1 y2 m2 d2 cs i,vcP (decide (((i:Int):Int)<(((spL (y1,m1,d1) (y2,m2,d2) cs).length:Nat):Int))=true∧i<((spL (y1,m1,d1) (y2,m2,d2) cs).map ptW).length∧((spL (y1,m1,d1) (y2,m2,d2) cs).map ptW).getD i []=([.int .i64 (dtN (pa (spL (y1,m1,d1) (y2,m2,d2) cs) i).1).1, .int .i64 (dtN (pa (spL (y1,m1,d1) (y2,m2,d2) cs) i).1).2.1, .int .i64 (dtN (pa (spL (y1,m1,d1) (y2,m2,d2) cs) i).1).2.2, .int .i64 (dtN (pa (spL (y1,m1,d1) (y2,m2,d2) cs) i).2).1, .int .i64 (dtN (pa (spL (y1,m1,d1) (y2,m2,d2) cs) i).2).2.1, .int .i64 (dtN (pa (spL (y1,m1,d1) (y2,m2,d2) cs) i).2).2.2]:List Value)∧i<((spL (y1,m1,d1) (y2,m2,d2) cs).map ptW).length∧((spL (y1,m1,d1) (y2,m2,d2) cs).map ptW).getD i []=([.int .i64 (dtN (pa (spL (y1,m1,d1) (y2,m2,d2) cs) i).1).1, .int .i64 (dtN (pa (spL (y1,m1,d1) (y2,m2,d2) cs) i).1).2.1, .int .i64 (dtN (pa (spL (y1,m1,d1) (y2,m2,d2) cs) i).1).2.2, .int .i64 (dtN (pa (spL (y1,m1,d1) (y2,m2,d2) cs) i).2).1, .int .i64 (dtN (pa (spL (y1,m1,d1) (y2,m2,d2) cs) i).2).2.1, .int .i64 (dtN (pa (spL (y1,m1,d1) (y2,m2,d2) cs) i).2).2.2]:List Value)∧(!(decide (((dtN (pa (spL (y1,m1,d1) (y2,m2,d2) cs) i).1).1:Int)=(dtN (pa (spL (y1,m1,d1) (y2,m2,d2) cs) i).1).1)&&(decide (((dtN (pa (spL (y1,m1,d1) (y2,m2,d2) cs) i).1).2.1:Int)=(dtN (pa (spL (y1,m1,d1) (y2,m2,d2) cs) i).1).2.1)&&(decide (((dtN (pa (spL (y1,m1,d1) (y2,m2,d2) cs) i).1).2.2:Int)=(dtN (pa (spL (y1,m1,d1) (y2,m2,d2) cs) i).1).2.2)&&true))))=false∧i<((spL (y1,m1,d1) (y2,m2,d2) cs).map ptW).length∧((spL (y1,m1,d1) (y2,m2,d2) cs).map ptW).getD i []=([.int .i64 (dtN (pa (spL (y1,m1,d1) (y2,m2,d2) cs) i).1).1, .int .i64 (dtN (pa (spL (y1,m1,d1) (y2,m2,d2) cs) i).1).2.1, .int .i64 (dtN (pa (spL (y1,m1,d1) (y2,m2,d2) cs) i).1).2.2, .int .i64 (dtN (pa (spL (y1,m1,d1) (y2,m2,d2) cs) i).2).1, .int .i64 (dtN (pa (spL (y1,m1,d1) (y2,m2,d2) cs) i).2).2.1, .int .i64 (dtN (pa (spL (y1,m1,d1) (y2,m2,d2) cs) i).2).2.2]:List Value)∧i<((spL (y1,m1,d1) (y2,m2,d2) cs).map ptW).length∧((spL (y1,m1,d1) (y2,m2,d2) cs).map ptW).getD i []=([.int .i64 (dtN (pa (spL (y1,m1,d1) (y2,m2,d2) cs) i).1).1, .int .i64 (dtN (pa (spL (y1,m1,d1) (y2,m2,d2) cs) i).1).2.1, .int .i64 (dtN (pa (spL (y1,m1,d1) (y2,m2,d2) cs) i).1).2.2, .int .i64 (dtN (pa (spL (y1,m1,d1) (y2,m2,d2) cs) i).2).1, .int .i64 (dtN (pa (spL (y1,m1,d1) (y2,m2,d2) cs) i).2).2.1, .int .i64 (dtN (pa (spL (y1,m1,d1) (y2,m2,d2) cs) i).2).2.2]:List Value)∧(!(decide (((dtN (pa (spL (y1,m1,d1) (y2,m2,d2) cs) i).2).1:Int)=(dtN (pa (spL (y1,m1,d1) (y2,m2,d2) cs) i).2).1)&&(decide (((dtN (pa (spL (y1,m1,d1) (y2,m2,d2) cs) i).2).2.1:Int)=(dtN (pa (spL (y1,m1,d1) (y2,m2,d2) cs) i).2).2.1)&&(decide (((dtN (pa (spL (y1,m1,d1) (y2,m2,d2) cs) i).2).2.2:Int)=(dtN (pa (spL (y1,m1,d1) (y2,m2,d2) cs) i).2).2.2)&&true))))=false∧wp ((i:Int)+1)∧tI ((i:Int)+1) ((i+1:Nat):Int)∧J1 (rlX (rparts_t (hparts_t_0_0 y1 m1 d1 y2 m2 d2 cs i)) [10,8,7,6] (iparts_t_0 y1 m1 d1 y2 m2 d2 cs i))) ⟨decide_eq_true (by omega),(by rw [List.length_map];exact h8),pa_row h8,(by rw [List.length_map];exact h8),pa_row h8,(by simp),(by rw [List.length_map];exact h8),pa_row h8,(by rw [List.length_map];exact h8),pa_row h8,(by simp),wi (by omega),⟨rfl,by omega⟩,hJ1 (i+1) _ (h8) (by omega) ⟨by kernel_rfl,by kernel_rfl⟩⟩⟩
  ·exact ⟨hparts_t_0_1 y1 m1 d1 y2 m2 d2 cs i,vcP (decide (((i:Int):Int)<(((spL (y1,m1,d1) (y2,m2,d2) cs).length:Nat):Int))=false∧true=true) ⟨decide_eq_false (by omega),(have hC1:True:=(trivial);rfl)⟩⟩)))⟩
theorem partsR {w:World} {v u t:Value} {x y:D3} {z:List (List Value)} (h1:isE (.agg #[.int .i64 x.1, .int .i64 x.2.1, .int .i64 x.2.2]) w v) (h2:isE (.agg #[.int .i64 y.1, .int .i64 y.2.1, .int .i64 y.2.2]) w u) (h3:isRd (cxA w) true 3 z w t) (hW:isTb w v) (e1:z=(z.map dtR).map dtW) (hn:z.length≤1000000):Calls Tryz.prog 10 #[v,u,t] w (Ret w fun v' w'=>(f0 w (.s (eB true))).p w' v'):=by
 rw [e1] at h3
 exact parts_t h1 h2 h3 hW (spL_len ..) (by rw [List.length_map];exact hn)
theorem cut12 {y m d:Int} {l:List Int}:((cutsT y m d (l.take 12)).map dtW).length≤12:=by
 rw [List.length_map]
 exact Nat.le_trans cutsT_len (List.length_take_le 12 l)
theorem take5 (l:List D3):((l.take 5).map dtW).length≤5:=by
 rw [List.length_map]
 exact List.length_take_le 5 l
theorem dW_take (l:List D3):(l.map dtW).take (min l.length 5)=(l.take 5).map dtW:=by
 rw [←List.map_take]
 congr 1
 rcases Nat.le_total l.length 5 with h|h
 ·rw [Nat.min_eq_left h,List.take_of_length_le (Nat.le_refl _),List.take_of_length_le h]
 ·rw [Nat.min_eq_right h]
theorem pv_dW (l:List D3): ∀r∈l.map dtW,∀x∈r,pv x=true:=by
 intro r hr x hx
 obtain ⟨d,_,rfl⟩:=List.mem_map.1 hr
 simp only [dtW,List.mem_cons,List.not_mem_nil,or_false] at hx
 rcases hx with rfl|rfl|rfl<;>rfl
noncomputable def ctb57:List (Ct dk):= [
 ct1w 8 0 en8 vTm (.O .Tb) isTbk isTbk_ok (fun x=> .t [eD (mkY x.1 (9900:Int)) (mkM x.2.1) (mkD (mkY x.1 (9900:Int)) (mkM x.2.1) x.2.2.1),eD (dyT (mkY x.1 (9900:Int)) (mkM x.2.1) (mkD (mkY x.1 (9900:Int)) (mkM x.2.1) x.2.2.1) (x.2.2.2.1.tmod 2000)).1 (dyT (mkY x.1 (9900:Int)) (mkM x.2.1) (mkD (mkY x.1 (9900:Int)) (mkM x.2.1) x.2.2.1) (x.2.2.2.1.tmod 2000)).2.1 (dyT (mkY x.1 (9900:Int)) (mkM x.2.1) (mkD (mkY x.1 (9900:Int)) (mkM x.2.1) x.2.2.1) (x.2.2.2.1.tmod 2000)).2.2, .L 28 3 ((cutsT (mkY x.1 (9900:Int)) (mkM x.2.1) (mkD (mkY x.1 (9900:Int)) (mkM x.2.1) x.2.2.1) ((x.2.2.2.2.1.map rI).take 12)).map dtW) true]) (fun x=> [x.2.2.2.2.1=(x.2.2.2.2.1.map rI).map cI16,x.2.2.2.2.2.1=(x.2.2.2.2.2.1.map rI).map cI16,0≤x.2.2.2.1∧x.2.2.2.1≤65535,∀c∈(x.2.2.2.2.1.map rI),-32768≤c∧c≤32767]) fun _ p _ _ _ h1 hW=>timeR h1 hW p.1 p.2.1 p.2.2.1 p.2.2.2.1,
 ct0w 9 0 en9 (.O .Tb) isTbk isTbk_ok (.s (eB true)) fun _ _ hW=>wakes12_t hW,
 ct3w 10 0 en10 vDt vDt (vL 3) (.O .Tb) isTbk isTbk_ok (fun x y z=> .s (eB true)) (fun x y z=> [z=(z.map dtR).map dtW,(z:List (List Value)).length≤1000000]) fun _ _ _ p _ _ _ _ _ h1 h2 h3 hW=>partsR h1 h2 h3 hW p.1 p.2.1]++ctb56
theorem splitTells_t {w:World} {v0:Value} {a b c n p y1 m1 d1 y2 m2 d2:Int} {cs bs:List Int} {ds:List D3} (h0:(f0 w (.s (.S [.v (.int .i64 a), .v (.int .i64 b), .v (.int .i64 c), .v (.int .u16 n), .l 53 1 (cs.map cI16), .l 53 1 (bs.map cI16), .v (.int .u8 p), .v (.int .i64 y1), .v (.int .i64 m1), .v (.int .i64 d1), .v (.int .i64 y2), .v (.int .i64 m2), .v (.int .i64 d2), .l 28 3 (ds.map dtW)]))).p w v0) (hw:isTb w v0) (hn:0≤n∧n≤65535) (hcs: ∀c∈cs,-32768≤c∧c≤32767):Calls Tryz.prog 3 #[v0] w (Ret w fun v w'=>(isE (.bool true)) w' v):=by
 exact fx ctb57 Tryz.func3 (hnX [(1,[(8,0,oS (eI ((ds.length:Nat):Int))),(9,0,oS (eI ((min ds.length 5:Nat):Int))),(10,0,oS (.L 28 3 ((ds.take 5).map dtW) false))]),(3,[(19,900001,none),(20,900000,none),(21,900000,none)])]) [(0, .S [.v (.int .i64 a), .v (.int .i64 b), .v (.int .i64 c), .v (.int .u16 n), .l 53 1 (cs.map cI16), .l 53 1 (bs.map cI16), .v (.int .u8 p), .v (.int .i64 y1), .v (.int .i64 m1), .v (.int .i64 d1), .v (.int .i64 y2), .v (.int .i64 m2), .v (.int .i64 d2), .l 28 3 (ds.map dtW)]),(1000000, .O .Tb)] (.s (eB true)) ⟨h0,hw,trivial⟩ (tI (((ds.map dtW).length:Nat):Int) ((ds.length:Nat):Int)∧tI (min ((ds.length:Nat):Int) 5) ((min ds.length 5:Nat):Int)∧min ds.length 5≤(ds.map dtW).length∧tLs 28 3 false ((ds.map dtW).take (min ds.length 5)) ((ds.take 5).map dtW)∧cs.map cI16=((cs.map cI16).map rI).map cI16∧bs.map cI16=((bs.map cI16).map rI).map cI16∧(0≤n∧n≤65535)∧(∀c∈((cs.map cI16).map rI),-32768≤c∧c≤32767)∧(cutsT (mkY a (9900:Int)) (mkM b) (mkD (mkY a (9900:Int)) (mkM b) c) (((cs.map cI16).map rI).take 12)).map dtW=(((cutsT (mkY a (9900:Int)) (mkM b) (mkD (mkY a (9900:Int)) (mkM b) c) (((cs.map cI16).map rI).take 12)).map dtW).map dtR).map dtW∧((cutsT (mkY a (9900:Int)) (mkM b) (mkD (mkY a (9900:Int)) (mkM b) c) (((cs.map cI16).map rI).take 12)).map dtW:List (List Value)).length≤1000000∧(cutsT (mkY a (9900:Int)) (mkM b) (mkD (mkY a (9900:Int)) (mkM b) c) (((cs.map cI16).map rI).take 12)).map dtW=(((cutsT (mkY a (9900:Int)) (mkM b) (mkD (mkY a (9900:Int)) (mkM b) c) (((cs.map cI16).map rI).take 12)).map dtW).map dtR).map dtW∧((cutsT (mkY a (9900:Int)) (mkM b) (mkD (mkY a (9900:Int)) (mkM b) c) (((cs.map cI16).map rI).take 12)).map dtW:List (List Value)).length≤1000000∧(ds.take 5).map dtW=(((ds.take 5).map dtW).map dtR).map dtW∧((ds.take 5).map dtW:List (List Value)).length≤1000000∧(((cutsT (mkY a (9900:Int)) (mkM b) (mkD (mkY a (9900:Int)) (mkM b) c) (((cs.map cI16).map rI).take 12)).map dtW).length+((ds.take 5).map dtW).length)*24≤140737488355328∧(∀r∈((ds.take 5).map dtW),∀x∈r,pv x=true)∧((cutsT (mkY a (9900:Int)) (mkM b) (mkD (mkY a (9900:Int)) (mkM b) c) (((cs.map cI16).map rI).take 12)).map dtW++(ds.take 5).map dtW)=(((cutsT (mkY a (9900:Int)) (mkM b) (mkD (mkY a (9900:Int)) (mkM b) c) (((cs.map cI16).map rI).take 12)).map dtW++(ds.take 5).map dtW).map dtR).map dtW∧((cutsT (mkY a (9900:Int)) (mkM b) (mkD (mkY a (9900:Int)) (mkM b) c) (((cs.map cI16).map rI).take 12)).map dtW++((ds.take 5).map dtW):List (List Value)).length≤1000000∧true=true) ⟨⟨rfl,by simp⟩,⟨rfl,by omega⟩,(by rw [List.length_map];omega),⟨⟨rfl,rfl,rfl⟩,dW_take ds⟩,(by first|(rw [map_cI];done)|rfl),(by first|(rw [map_cI];done)|rfl),hn,(by rw [map_cI];exact hcs),(by first|(rw [map_RW];done)|(rw [←List.map_append,map_RW];done)|rfl),Nat.le_trans cut12 (by decide),(by first|(rw [map_RW];done)|(rw [←List.map_append,map_RW];done)|rfl),Nat.le_trans cut12 (by decide),(by first|(rw [map_RW];done)|(rw [←List.map_append,map_RW];done)|rfl),Nat.le_trans (take5 _) (by decide),(by rw [List.length_map,List.length_map];have:=cutsT_len (y:=mkY a (9900:Int)) (m:=mkM b) (d:=mkD (mkY a (9900:Int)) (mkM b) c) (l:=((cs.map cI16).map rI).take 12);have:=List.length_take_le 12 ((cs.map cI16).map rI);have:=List.length_take_le 5 ds;omega),pv_dW _,(by first|(rw [map_RW];done)|(rw [←List.map_append,map_RW];done)|rfl),Nat.le_trans (Nat.le_of_eq List.length_append) (Nat.le_trans (Nat.add_le_add cut12 (take5 _)) (by decide)),rfl⟩
theorem rowD_rd {w:World} {a:Option Addr} {len cap:Nat} {zs:List (Int×Int×Int)} (h:(a=none∧len=0∧cap=0∧zs= [])∨ ∃x,a=some x∧len≤cap∧cap≤maxLen∧zs.length=len∧ ∀i,i<len→ ∀j v,([.int .i64 (zs.getD i (0,0,0)).1, .int .i64 (zs.getD i (0,0,0)).2.1, .int .i64 (zs.getD i (0,0,0)).2.2]:List Value)[j]? =some v→w.cell? ((x.add (i*3)).add j)=some v):isRd (cxA w) true 3 (zs.map dtW) w (.slice a len cap):=by
 have hr:rowsB 3 (zs.map dtW):=fun r hr=>by
  obtain ⟨t,_,rfl⟩:=List.mem_map.1 hr
  rfl
 rcases h with ⟨rfl,rfl,rfl,rfl⟩|⟨x,rfl,h1,h2,h3,h4⟩
 ·exact ⟨hr,none,0,rfl,Nat.le_refl _,by decide,fun hn=>absurd rfl hn⟩
 ·have hl:(zs.map dtW).length=len:=by rw [List.length_map];exact h3
  refine ⟨hr,some x,cap,by rw [hl],by rw [hl];exact h1,h2,fun hn=> ?_⟩
  have hp:0<len:=by
   rcases Nat.eq_zero_or_pos len with e|e
   ·exact absurd (List.eq_nil_of_length_eq_zero (hl.trans e)) hn
   ·exact e
  have hc:=h4 0 hp 0 _ rfl
  have hx:(x.add (0*3)).add 0=x:=rfl
  rw [hx] at hc
  have hs:=World.cell?_spot hc
  obtain ⟨b,off,sp⟩:=x
  have hs':sp=none:=hs
  subst hs'
  cases hb:w.heap[b]? with
  |none=>simp [World.cell?,hb] at hc
  |some ob=>
   cases ob with
   |cells cs t fr=>
    refine ⟨b,off,cs,t,fr,rfl,hb,rfl,fun _=>lt_heap hb,fun j v hj=> ?_⟩
    have hj':j<len*3:=by
     have:=(List.getElem?_eq_some_iff.1 hj).1
     rw [flat_len hr,hl] at this
     omega
    have hq:j/3<len:=by omega
    have hrr:j%3<3:=Nat.mod_lt _ (by decide)
    have g1:(zs.map dtW)[j/3]? =some (dtW (zs.getD (j/3) (0,0,0))):=by
     rw [List.getElem?_map,List.getD_eq_getElem?_getD,List.getElem?_eq_getElem (by omega)]
     rfl
    obtain ⟨u,hu⟩: ∃u,(dtW (zs.getD (j/3) (0,0,0)))[j%3]? =some u:=⟨_,List.getElem?_eq_getElem hrr⟩
    have g2:=flat_get hr g1 hu
    rw [show j/3*3+j%3=j by omega,hj] at g2
    injection g2 with g2
    subst g2
    have g3:=h4 _ hq _ _ hu
    have e2:((Addr.mk b off none).add (j/3*3)).add (j%3)=⟨b,off+j,none⟩:=by
     have e3: ∀n,(Addr.mk b off none).add n=⟨b,off+n,none⟩:=fun n=>by unfold Addr.add;split<;>simp_all
     have e4: ∀o n,(Addr.mk b o none).add n=⟨b,o+n,none⟩:=fun o n=>by unfold Addr.add;split<;>simp_all
     rw [e3,e4,show off+j/3*3+j%3=off+j by omega]
    rw [e2] at g3
    simpa [World.cell?,hb] using g3
   |_=>simp [World.cell?,hb] at hc
end Go.Proofs.YtjpilacbapibjaaGreatDoor.X
