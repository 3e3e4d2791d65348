/- CountWords. Written by a script (tools/laws). -/
import Derived.Test.YtdofjoijodjajaaDoorL11S
namespace Go.Proofs.YtdofjoijodjajaaDoor.X
open Go.Proofs.YtdofjoijodjajaaDoor.Da
open Go.RowKit Go.Proofs.YtdofjoijodjajaaDoor.Z
set_option linter.unusedVariables false
theorem ba_row {i:Nat} (h:i<3):([[.string (str [116,104,105,114,116,121])],[.string (str [102,105,120,101,100])],[.string (str [97,99,116,117,97,108])]]:List (List Value)).getD i []= [.string (str (baW.getD i []))]:=by
 rcases i with _|_|_|i<;>first|rfl|omega
theorem w_self {i:Nat} (h:i<3):ofI11 (baW.getD i [])=(i:Int)∧okB11 (baW.getD i [])=true∧wdB (i:Int)=baW.getD i []:=by
 rcases i with _|_|_|i<;>first|decide|omega
def atR (l:List UInt8) (i:Nat):Int:=if wIx l<i then ((wIx l:Nat):Int) else -1
theorem at_hit {l:List UInt8} {i:Nat} (h:i<3) (h2:wP l i=true):(i:Int)=atR l (i+1):=by
 have e:wIx l=i:=by
  have hl:baW.getD i []=l:=eq_of_beq h2
  subst hl
  rcases i with _|_|_|i<;>first|decide|omega
 unfold atR
 rw [e,if_pos (by omega)]
theorem at_miss {l:List UInt8} {i:Nat} (h:i<3) (h2:wP l i=false):atR l i=atR l (i+1):=by
 have hn:wIx l≠i:=fun e=>by
  have:=lo_yes (wP l) 3 (show lo (wP l) 3<3 by have:wIx l=lo (wP l) 3:=rfl;omega)
  rw [show lo (wP l) 3=i from e,h2] at this
  cases this
 unfold atR
 by_cases a:wIx l<i
 ·rw [if_pos a,if_pos (by omega)]
 ·rw [if_neg a,if_neg (by omega)]
theorem at_end {l:List UInt8} {x:Int} (h:x=atR l 3):(okB11 l==decide ((0:Int)≤x))=true∧ofI11 l=max x 0:=by
 subst h
 unfold atR okB11 ofI11
 by_cases a:wIx l<3
 ·rw [if_pos a,if_pos a,decide_eq_true a,decide_eq_true (by omega)]
  exact ⟨rfl,by omega⟩
 ·rw [if_neg a,if_neg a,decide_eq_false a]
  exact ⟨rfl,rfl⟩
noncomputable def ctb23:List (Ct dk):= [
 ct1w 4 0 en4 vT (.O .Tb) isTbk isTbk_ok (fun x=> .t [eI (ofI11 x),eB (okB11 x)]) (fun x=> []) fun _ p _ _ _ h1 hW=>of11 h1 hW,
 ct0w 6 0 en6 (.O .Tb) isTbk isTbk_ok (.s (eB true)) fun _ _ hW=>wakes11_t hW]++ctb22
noncomputable abbrev rwords11_t:=rX ctb23 Tryd.f3
noncomputable abbrev dwords11_t (l:List UInt8) (n:Int):=dX ctb23 Tryd.f3 (.s (eB true))
noncomputable abbrev lwords11_t (l:List UInt8) (n:Int):=dL ctb23 Tryd.f3 (.s (eB true))
noncomputable def hwords11_t (l:List UInt8) (n:Int):Nat→Hint K:=hnX [(1,[(0,0,oS (eI (atR l 0)))]),(2,[(1,0,oS (eI 3))]),(12,[(0,999999,none)])]
noncomputable def iwords11_t_0 (l:List UInt8) (n:Int) (g:Nat×Int):Sx K:=⟨[(0, .E (.string (str l))),(1,eI n),(1000000, .O .Tb),(12, .L 9 1 ([[.string (str [116,104,105,114,116,121])],[.string (str [102,105,120,101,100])],[.string (str [97,99,116,117,97,108])]]) true),(13,eI 3),(14,eI (g.1:Int)),(5, .E (.int .i64 g.2))],[]⟩
noncomputable def hwords11_t_0_0 (l:List UInt8) (n:Int) (g:Nat×Int):Nat→Hint K:=hnX [(3,[(0,0,oS (eB false))])]
noncomputable def hwords11_t_0_1 (l:List UInt8) (n:Int) (g:Nat×Int):Nat→Hint K:=hnX [(3,[(0,0,oS (eB true))]),(4,[(1,0,oS (.A ([.string (str (baW.getD g.1 []))])))]),(5,[(4,0,oS (eB true))]),(6,[(2,0,oS (eB false)),(11,0,oS (eB false))]),(8,[(2,0,oS (eB true))]),(10,[(0,0,oS (eI ((g.1+1:Nat):Int)))])]
noncomputable def hwords11_t_0_2 (l:List UInt8) (n:Int) (g:Nat×Int):Nat→Hint K:=hnX [(3,[(0,0,oS (eB true))]),(4,[(1,0,oS (.A ([.string (str (baW.getD g.1 []))])))]),(5,[(4,0,oS (eB true))]),(6,[(2,0,oS (eB false)),(11,0,oS (eB false))]),(8,[(2,0,oS (eB false))]),(10,[(0,0,oS (eI ((g.1+1:Nat):Int)))])]
theorem words11_t {w:World} {v0 v1:Value} {l:List UInt8} {n:Int} (h0:(isT l) w v0) (h1:(isE (.int .i64 n)) w v1) (hw:isTb w v0):Calls Tryd.prog 3 #[v0,v1] w (Ret w fun v w'=>(isE (.bool true)) w' v):=by
 exact fx ctb23 Tryd.func3 (hwords11_t l n) [(0, .E (.string (str l))),(1,eI n),(1000000, .O .Tb)] (.s (eB true)) ⟨h0,h1,hw,trivial⟩ (tI (-1) (atR l 0)∧tI ((([[.string (str [116,104,105,114,116,121])],[.string (str [102,105,120,101,100])],[.string (str [97,99,116,117,97,108])]]:List (List Value)).length:Nat):Int) 3∧dwords11_t l n [1,0,1] [(hwords11_t l n)] [] (rlX (rwords11_t (hwords11_t l n)) [2,1] (ent Tryd.prog Tryd.f3 (κ:=K) [(0, .E (.string (str l))),(1,eI n),(1000000, .O .Tb)]))) ⟨⟨rfl,(if_neg (Nat.not_lt_zero _)).symm⟩,⟨rfl,rfl⟩,(lpI (fun h S' J=>dwords11_t l n [1,0,1,0,2] [(hwords11_t l n),h] [J] S') (fun g:Nat×Int=>g.1≤3∧g.2=atR l g.1) (fun g=>3-g.1) (iwords11_t_0 l n) (0,atR l 0) (rlX (rwords11_t (hwords11_t l n)) [2,1] (ent Tryd.prog Tryd.f3 (κ:=K) [(0, .E (.string (str l))),(1,eI n),(1000000, .O .Tb)])) (⟨Nat.zero_le _,rfl⟩) (fun g hC1 J1 hJ1=>(by
  have hC1b:=hC1.1
  rcases w3 l g.1 with h8|h8|h8
  ·exact ⟨hwords11_t_0_0 l n g,vcP (decide (((g.1:Int):Int)<3)=false∧dwords11_t l n [1,1,1,0] [(hwords11_t l n)] [] (rwords11_t (hwords11_t l n) 11 (rwords11_t (hwords11_t_0_0 l n g) 3 (iwords11_t_0 l n g)))) ⟨decide_eq_false (by omega),(have hC1:g.2=atR l 3:=(by have e:g.1=3:=(by omega);rw [←e];exact hC1.2);(by
  rcases (by omega:(0≤n∧n<3)∨n<0∨3≤n) with h7|h7|h7
  ·exact ltR (lwords11_t l n [1,1,1,0] [(hwords11_t l n)] [] (rwords11_t (hwords11_t l n) 11 (rwords11_t (hwords11_t_0_0 l n g) 3 (iwords11_t_0 l n g)))) [(5,0,oS (eB true)),(11,0,oS (eB true)),(15,0,oS (eB true)),(18,0,oS (eB true))] ((okB11 l==decide ((0:Int)≤g.2))=true∧decide ((ofI11 l:Int)=max g.2 0)=true∧decide ((0:Int)≤n)=true∧decide ((n:Int)<3)=true∧true=true) ⟨(at_end hC1).1,decide_eq_true (at_end hC1).2,decide_eq_true h7.1,decide_eq_true h7.2,rfl⟩
  ·exact ltR (lwords11_t l n [1,1,1,0] [(hwords11_t l n)] [] (rwords11_t (hwords11_t l n) 11 (rwords11_t (hwords11_t_0_0 l n g) 3 (iwords11_t_0 l n g)))) [(5,0,oS (eB true)),(11,0,oS (eB true)),(15,0,oS (eB false)),(23,0,oS (eB true))] ((okB11 l==decide ((0:Int)≤g.2))=true∧decide ((ofI11 l:Int)=max g.2 0)=true∧decide ((0:Int)≤n)=false∧(wdB n== [])=true∧true=true) ⟨(at_end hC1).1,decide_eq_true (at_end hC1).2,decide_eq_false (by omega),(by rw [wdB_no (by omega)];rfl),rfl⟩
  ·exact ltR (lwords11_t l n [1,1,1,0] [(hwords11_t l n)] [] (rwords11_t (hwords11_t l n) 11 (rwords11_t (hwords11_t_0_0 l n g) 3 (iwords11_t_0 l n g)))) [(5,0,oS (eB true)),(11,0,oS (eB true)),(15,0,oS (eB true)),(18,0,oS (eB false)),(23,0,oS (eB true))] ((okB11 l==decide ((0:Int)≤g.2))=true∧decide ((ofI11 l:Int)=max g.2 0)=true∧decide ((0:Int)≤n)=true∧decide ((n:Int)<3)=false∧(wdB n== [])=true∧true=true) ⟨(at_end hC1).1,decide_eq_true (at_end hC1).2,decide_eq_true (by omega),decide_eq_false (by omega),(by rw [wdB_no (by omega)];rfl),rfl⟩))⟩⟩
  ·exact ⟨hwords11_t_0_1 l n g,vcP (decide (((g.1:Int):Int)<3)=true∧g.1<([[.string (str [116,104,105,114,116,121])],[.string (str [102,105,120,101,100])],[.string (str [97,99,116,117,97,108])]]:List (List Value)).length∧([[.string (str [116,104,105,114,116,121])],[.string (str [102,105,120,101,100])],[.string (str [97,99,116,117,97,108])]]:List (List Value)).getD g.1 []=([.string (str (baW.getD g.1 []))]:List Value)∧okB11 (baW.getD g.1 [])=true∧(!decide ((ofI11 (baW.getD g.1 []):Int)=(g.1:Int)))=false∧(!(wdB (g.1:Int)==baW.getD g.1 []))=false∧(baW.getD g.1 []==l)=true∧wp ((g.1:Int)+1)∧tI ((g.1:Int)+1) ((g.1+1:Nat):Int)∧J1 (rlX (rwords11_t (hwords11_t_0_1 l n g)) [10,9,8,6,5,4,3] (iwords11_t_0 l n g))) ⟨decide_eq_true (by omega),(by simp;omega),ba_row h8.1,(w_self h8.1).2.1,(by rw [(w_self h8.1).1];simp),(by rw [(w_self h8.1).2.2];simp),h8.2,wi (by omega),⟨rfl,by omega⟩,hJ1 (g.1+1,(g.1:Int)) _ (⟨by show g.1+1≤3;omega,at_hit h8.1 h8.2⟩) (by show 3-(g.1+1)<3-g.1;omega) ⟨by kernel_rfl,by kernel_rfl⟩⟩⟩
  ·exact ⟨hwords11_t_0_2 l n g,vcP (decide (((g.1:Int):Int)<3)=true∧g.1<([[.string (str [116,104,105,114,116,121])],[.string (str [102,105,120,101,100])],[.string (str [97,99,116,117,97,108])]]:List (List Value)).length∧([[.string (str [116,104,105,114,116,121])],[.string (str [102,105,120,101,100])],[.string (str [97,99,116,117,97,108])]]:List (List Value)).getD g.1 []=([.string (str (baW.getD g.1 []))]:List Value)∧okB11 (baW.getD g.1 [])=true∧(!decide ((ofI11 (baW.getD g.1 []):Int)=(g.1:Int)))=false∧(!(wdB (g.1:Int)==baW.getD g.1 []))=false∧(baW.getD g.1 []==l)=false∧wp ((g.1:Int)+1)∧tI ((g.1:Int)+1) ((g.1+1:Nat):Int)∧J1 (rlX (rwords11_t (hwords11_t_0_2 l n g)) [10,8,6,5,4,3] (iwords11_t_0 l n g))) ⟨decide_eq_true (by omega),(by simp;omega),ba_row h8.1,(w_self h8.1).2.1,(by rw [(w_self h8.1).1];simp),(by rw [(w_self h8.1).2.2];simp),h8.2,wi (by omega),⟨rfl,by omega⟩,hJ1 (g.1+1,g.2) _ (⟨by show g.1+1≤3;omega,hC1.2.trans (at_miss h8.1 h8.2)⟩) (by show 3-(g.1+1)<3-g.1;omega) ⟨by kernel_rfl,by kernel_rfl⟩⟩⟩)))⟩
end Go.Proofs.YtdofjoijodjajaaDoor.X
