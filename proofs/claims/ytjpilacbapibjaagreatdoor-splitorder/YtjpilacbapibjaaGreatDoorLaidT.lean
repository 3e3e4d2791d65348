/- What the listed tables say of the memory. Written by a script (tools/tabs.py). -/
import Derived.Test.YtjpilacbapibjaaGreatDoorLaid
import Derived.Test.YtjpilacbapibjaaGreatDoorBXk
import Derived.Stop.LaidErr
namespace Go.Proofs.YtjpilacbapibjaaGreatDoor
open Go.RowKit
theorem tab_of_laid {P : Program} {W : World} {name : String} {d : DataW Unit} {k : IntKind} {zs : List Int} {g : Nat} {t e : TypeId} {n : Nat}
    (hg : P.globalNamed name = some g) (hty : (P.globals[g]?).map (·.type) = some t) (ht : P.underlying t = some (.array n e)) (he : P.underlying e = some (.int k)) (hce : P.cellsOf e = 1) (hct : P.cellsOf t = n) (hd : d = Lib.tabData k zs) :
    ∀ {l : List (String × DataW Unit)}, laidMet P l W → (name, d) ∈ l → Lib.TabIs P W name k zs := by
  intro l
  induction l with
  | nil => intro _ h; cases h
  | cons x r ih =>
    intro h hm
    rcases List.mem_cons.1 hm with rfl | hm
    · rw [hd] at h
      exact Lib.tabIs_of_head hg hty ht he hce hct h
    · exact ih (laidMet.tail h) hm
/-- A table of ints. -/
theorem tab_int {P : Program} {W : World} {name : String} {d : DataW Unit} {k : IntKind} {zs : List Int} {g : Nat} {t e : TypeId} {n : Nat} {z0 : Array Value} (hS : W.ShapedOpen P)
    (hgs : g < P.globals.size) (hg : P.globalNamed name = some g) (hty : (P.globals[g]?).map (·.type) = some t) (ht : P.underlying t = some (.array n e)) (he : P.underlying e = some (.int k)) (hce : P.cellsOf e = 1) (hct : P.cellsOf t = n)
    (h0 : ((begin P (fun _ _ => 0) default).world.heap[g]?).bind Obj.row? = some (z0, t)) (hd : d = Lib.tabData k zs) {l : List (String × DataW Unit)} (hL : laidMet P l W) (hm : (name, d) ∈ l) :
    ∃ fr, W.heap[((g, t, .inl (k, zs)) : Nat × Nat × Z.Tbl).1]? = some (.cells (Z.cellsT ((g, t, .inl (k, zs)) : Nat × Nat × Z.Tbl).2.2).toArray ((g, t, .inl (k, zs)) : Nat × Nat × Z.Tbl).2.1 fr) := by
  have hm := tab_of_laid hg hty ht he hce hct hd hL hm
  obtain ⟨cs, hh, _⟩ := hS.1 g _ _ hgs h0
  refine ⟨(0, 0), ?_⟩
  unfold Lib.TabIs World.var? at hm
  rw [hg] at hm
  simp only [Option.bind_some, hh, Option.some.injEq] at hm
  show W.heap[g]? = some (.cells (zs.map (Value.int k)).toArray t (0, 0))
  rw [hh, hm]
theorem cells_of_txts {H : Type} {enc : TypeId × Value → H} {P : Program} {w : World} {base : Nat} {sp : Nat → Bool} {held : Bool} {fuel : Nat} {t e : TypeId} {n : Nat} {cs : List Value} {zs : List (List UInt8)} {p : List MemPlace}
    (ht : P.underlying t = some (.array n e)) (he : P.underlying e = some .string) (hce : P.cellsOf e = 1) (hct : P.cellsOf t = n)
    (h : DataW.trod enc P w base sp held fuel t cs = some (.agg (zs.map fun z => .lit (.string z)), p)) : cs = zs.map fun z => .string ⟨⟨z⟩⟩ := by
  cases fuel with
  | zero => simp [DataW.trod] at h
  | succ fuel =>
    simp only [DataW.trod, ht, hce, hct, Nat.mul_one] at h
    split at h
    · rename_i hl
      obtain ⟨xs, hm, hx⟩ := Option.map_eq_some_iff.1 h
      have hxs : xs.map (·.1) = zs.map fun z => (DataW.lit (.string z) : DataW H) := by
        have := congrArg Prod.fst hx
        simpa using this
      have hxl : xs.length = n := by simpa using Lib.mapM_length hm
      have hzl : zs.length = n := by
        have := congrArg List.length hxs
        simp at this
        omega
      apply List.ext_getElem?
      intro i
      by_cases hi : i < n
      · obtain ⟨b, hb, hf⟩ := Lib.mapM_at hm i i (by simp [hi])
        obtain ⟨z, hc, rfl, _⟩ := DataW.trod_string he hf
        have h1 : cs[i]? = some (.string z) := by
          have := congrArg (·[0]?) hc
          simpa [List.getElem?_take, List.getElem?_drop] using this
        have h2 : (xs.map (·.1))[i]? = some (DataW.lit (.string z.data.toList) : DataW H) := by simp [hb]
        rw [hxs] at h2
        simp only [List.getElem?_map, Option.map_eq_some_iff, DataW.lit.injEq, Lit.string.injEq] at h2
        obtain ⟨z', hz', rfl⟩ := h2
        simp [h1, hz']
      · rw [List.getElem?_eq_none (by omega), List.getElem?_eq_none (by simp; omega)]
    · cases h
theorem txt_of_laid {P : Program} {W : World} {name : String} {d : DataW Unit} {zs : List (List UInt8)} {g : Nat} {t e : TypeId} {n : Nat}
    (hg : P.globalNamed name = some g) (hty : (P.globals[g]?).map (·.type) = some t) (ht : P.underlying t = some (.array n e)) (he : P.underlying e = some .string) (hce : P.cellsOf e = 1) (hct : P.cellsOf t = n) (hd : d = .agg (zs.map fun z => .lit (.string z))) :
    ∀ {l : List (String × DataW Unit)}, laidMet P l W → (name, d) ∈ l → ∀ j, W.cell? ⟨g, j, none⟩ = (zs.map fun z => Value.string ⟨⟨z⟩⟩)[j]? := by
  intro l
  induction l with
  | nil => intro _ h; cases h
  | cons x r ih =>
    intro h hm
    rcases List.mem_cons.1 hm with rfl | hm
    · obtain ⟨ps, ⟨g', t', cs, fuel, p, q, hg', ht', hv, hd', _, _⟩, _⟩ := h
      obtain rfl := Option.some.inj (hg'.symm.trans hg)
      obtain rfl := Option.some.inj (ht'.symm.trans hty)
      rw [hd] at hd'
      have hc := cells_of_txts (zs := zs) ht he hce hct hd'
      intro j
      rw [World.var?_cell hg' hv j, ← Array.getElem?_toList, hc]
    · exact ih (laidMet.tail h) hm
/-- A table of texts. -/
theorem tab_txt {P : Program} {W : World} {name : String} {d : DataW Unit} {zs : List (List UInt8)} {g : Nat} {t e : TypeId} {n : Nat} {z0 : Array Value} (hS : W.ShapedOpen P)
    (hgs : g < P.globals.size) (hg : P.globalNamed name = some g) (hty : (P.globals[g]?).map (·.type) = some t) (ht : P.underlying t = some (.array n e)) (he : P.underlying e = some .string) (hce : P.cellsOf e = 1) (hct : P.cellsOf t = n)
    (h0 : ((begin P (fun _ _ => 0) default).world.heap[g]?).bind Obj.row? = some (z0, t)) (hd : d = .agg (zs.map fun z => .lit (.string z))) {l : List (String × DataW Unit)} (hL : laidMet P l W) (hm : (name, d) ∈ l) :
    ∃ fr, W.heap[((g, t, .inr zs) : Nat × Nat × Z.Tbl).1]? = some (.cells (Z.cellsT ((g, t, .inr zs) : Nat × Nat × Z.Tbl).2.2).toArray ((g, t, .inr zs) : Nat × Nat × Z.Tbl).2.1 fr) := by
  have hc := txt_of_laid hg hty ht he hce hct hd hL hm
  obtain ⟨cs, hh, _⟩ := hS.1 g _ _ hgs h0
  refine ⟨(0, 0), ?_⟩
  show W.heap[g]? = some (.cells (zs.map fun z => Value.string ⟨⟨z⟩⟩).toArray t (0, 0))
  rw [hh]
  have e : cs = (zs.map fun z => Value.string ⟨⟨z⟩⟩).toArray := by
    apply Array.ext'
    apply List.ext_getElem?
    intro j
    have := hc j
    simp only [World.cell?, hh, Option.isSome_none, Bool.false_eq_true, if_false] at this
    rw [Array.getElem?_toList, this]
  rw [e]
theorem tb_of {W : World} (hS : W.ShapedOpen Tryz.prog) (hL : laidMetH Tryz.prog laidList W) : X.isTb W undef := by
  have h' : laidMet Tryz.prog laidList W := hL
  intro x hx
  simp only [Z.tabs, List.mem_cons, List.not_mem_nil, or_false] at hx
  rcases hx with rfl
  · exact tab_int (k := .i64) hS (name := "chattel/date.monthDays") (g := 0) (t := 187) (e := 3) (n := 12) (show 0 < Tryz.prog.globals.size by decide +kernel) (by kernel_rfl) (by kernel_rfl) (by kernel_rfl) (by kernel_rfl) (by kernel_rfl) (by kernel_rfl) (show ((begin Tryz.prog (fun _ _ => 0) default).world.heap[0]?).bind Obj.row? = some ((List.replicate 12 (.int .i64 0)).toArray, 187) by kernel_rfl) (zs := Z.mdL) (d := Rows.laid_chattel_date_monthDays) (by kernel_rfl) h' (by unfold laidList; simp)
end Go.Proofs.YtjpilacbapibjaaGreatDoor
