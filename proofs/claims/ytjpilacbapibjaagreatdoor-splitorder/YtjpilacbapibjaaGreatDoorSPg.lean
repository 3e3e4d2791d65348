/- What the laws see of package split. Written by a script (tools/laws). -/
import Derived.Test.YtjpilacbapibjaaGreatDoorSPd
namespace Go.Proofs.YtjpilacbapibjaaGreatDoor.X
open Go.Proofs.YtjpilacbapibjaaGreatDoor.Da
open Go.RowKit Go.Proofs.YtjpilacbapibjaaGreatDoor.Z
set_option linter.unusedVariables false
theorem pSYearsR {w:World} {v u:Value} {k:Int} {y:List (List Value)} (h1:isE (.int .i64 k) w v) (h2:isRd (cxA w) true 6 y w u) (hW:isTb w v) (e:y=(y.map pR).map ptD) (hl:y.length≤4000000):Calls Tryz.prog 18 #[v,u] w (Ret w fun v' w'=>(f0 w (.t [.O (.Q (ysA k (y.map pR) fun _=>1) (60*(y.map pR).length+1)),eI (ysE k (y.map pR))])).p w' v'):=by
 have hl2:(y.map pR).length≤4000000:=by rw [List.length_map];exact hl
 rw [e] at h2
 exact pSYears_t h1 h2 hW hl2
theorem pSWtR {w:World} {v u x:Value} {k:Int} {y:List (List Value)} {z:List K} (h1:isE (.int .i64 k) w v) (h2:isRd (cxA w) true 6 y w u) (h3:(k0 w (.M 55 3 z 0)).p w x) (hW:isTb w v) (e:y=(y.map pR).map ptD) (e2:z=(z.map kQ).map qK) (hl:y.length≤4000000):Calls Tryz.prog 17 #[v,u,x] w (Ret w fun v' w'=>(f0 w (.t [.O (.Q (wsA k (y.map pR) (z.map kQ)) (60*(y.map pR).length+1)),eI (wsE k (y.map pR) (z.map kQ))])).p w' v'):=by
 have hl2:(y.map pR).length≤4000000:=by rw [List.length_map];exact hl
 rw [e] at h2
 rw [e2] at h3
 exact pSWt_t h1 h2 h3 hW hl2
theorem pSPartsR {w:World} {v u t:Value} {x y:D3} {z:List (List Value)} (h1:isE (.agg #[.int .i64 x.1, .int .i64 x.2.1, .int .i64 x.2.2]) w v) (h2:isE (.agg #[.int .i64 y.1, .int .i64 y.2.1, .int .i64 y.2.2]) w u) (h3:isRd (cxA w) true 3 z w t) (hW:isTb w v) (e1:z=(z.map dtR).map dtW) (hn:z.length≤1000000):Calls Tryz.prog 11 #[v,u,t] w (Ret w fun v' w'=>(f0 w (.t [.L 74 6 ((spL x y (z.map dtR)).map ptW) true,eI (spE x y (z.map dtR))])).p w' v'):=by
 rw [e1] at h3
 exact pParts_t h1 h2 h3 hW (by rw [List.length_map];exact hn)
end Go.Proofs.YtjpilacbapibjaaGreatDoor.X
