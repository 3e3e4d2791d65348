/- Variables of type whole.Int and of the reference's Int, for the rule region5. -/
import Derived.Test.YtlkiikchjeapfaaGreatDoorRgx
import Derived.Test.YtlkiikchjeapfaaGreatDoorWhK
namespace Go.Proofs.YtlkiikchjeapfaaGreatDoor
open Go.RowKit

theorem WB.self {w : World} {b : Nat} (h : WB w b) (A : Option Addr) (l c : Nat) (x : Bool) : WB (stW w b A l c x) b := by
  obtain ⟨c0, c1⟩ := h.cells A l c x
  refine ⟨⟨A, l, c, x, c0, c1⟩, ?_, ?_⟩
  · have := h.f0
    simpa [stW, go_sem] using this
  · have := h.f1
    simpa [stW, go_sem] using this
/-- What a store of an Int leaves. -/
def stV (w : World) (k : Nat) (v : Value) : World := match v with
  | .agg cs => match cs.toList with
    | [.slice A l c, .bool x] => stW w k A l c x
    | _ => w
  | _ => w
def isWV (v : Value) : Prop := ∃ A l c x, v = .agg #[.slice A l c, .bool x]
theorem stV_size (w : World) (k : Nat) (v : Value) : (stV w k v).heap.size = w.heap.size ∧ (stV w k v).os = w.os ∧ (stV w k v).tape = w.tape ∧ (stV w k v).output = w.output ∧ ∀ b, b ≠ k → (stV w k v).heap[b]? = w.heap[b]? := by
  unfold stV
  split
  · split
    · next A l c x _ =>
      refine ⟨by simp [stW, World.setCell], rfl, rfl, rfl, fun b hb => ?_⟩
      exact (Below.heap_setCell _ ⟨k, 1, none⟩ _ b hb).trans (Below.heap_setCell w ⟨k, 0, none⟩ _ b hb)
    · exact ⟨rfl, rfl, rfl, rfl, fun _ _ => rfl⟩
  · exact ⟨rfl, rfl, rfl, rfl, fun _ _ => rfl⟩
def kW : Rg.X.KD Tryz.prog where
  ok t := t == 28 || t == 33
  Lv t w k := (t = 28 ∨ t = 33) ∧ WB w k
  St _ w k v := stV w k v
  Hl _ w k v := ∃ A l c x, v = .agg #[.slice A l c, .bool x] ∧ w.cell? ⟨k, 0, none⟩ = some (.slice A l c) ∧ w.cell? ⟨k, 1, none⟩ = some (.bool x)
  Sh _ v := isWV v
  lt h := by obtain ⟨_, ⟨_, _, _, _, h0, _⟩, _⟩ := h; exact lt_of_cell h0
  lvGrow h g := ⟨h.1, h.2.grow g⟩
  hlGrow h g := by obtain ⟨A, l, c, x, e, h0, h1⟩ := h; exact ⟨A, l, c, x, e, g.cells1 h0, g.cells1 h1⟩
  lvSt := by
    intro t t' w k j v h h' hs _
    obtain ⟨A, l, c, x, rfl⟩ := hs
    refine ⟨h'.1, ?_⟩
    show WB (stW w k A l c x) j
    by_cases e : j = k
    · subst e; exact h.2.self A l c x
    · exact h'.2.other e A l c x
  hlSt := by
    intro t w k v h hs
    obtain ⟨A, l, c, x, rfl⟩ := hs
    exact ⟨A, l, c, x, rfl, h.2.cells A l c x⟩
  hlOther := by
    intro t t' w k j v u h hs hl hne
    obtain ⟨A, l, c, x, rfl⟩ := hs
    obtain ⟨A', l', c', x', rfl, h0, h1⟩ := hl
    exact ⟨A', l', c', x', rfl, stW_other h0 hne, stW_other h1 hne⟩
  stOs := (stV_size _ _ _).2.1
  stTape := (stV_size _ _ _).2.2.1
  stOut := (stV_size _ _ _).2.2.2.1
  stSize := (stV_size _ _ _).1
  stBlock h := (stV_size _ _ _).2.2.2.2 _ h
  run := by
    intro t w k v o a p x h hs hop hp hx
    obtain ⟨A, l, c, y, rfl⟩ := hs
    obtain ⟨ht, ⟨⟨A0, l0, c0, x0, k0, k1⟩, f0, f1⟩⟩ := h
    show (execOp a.eval o).run Tryz.prog w = .ok .skip (stW w k A l c y)
    simp only [Array.getD_eq_getD_getElem?] at hp hx
    rcases ht with rfl | rfl
    · simp [execOp, hop, go_sem, Act.eval, hp, hx, k0, k1, f0, f1, stW]
    · simp [execOp, hop, go_sem, Act.eval, hp, hx, k0, k1, f0, f1, stW]
  al := by
    intro t w o a ht hop
    rw [Bool.or_eq_true, beq_iff_eq, beq_iff_eq] at ht
    rcases ht with rfl | rfl
    · exact ⟨.cells #[.slice none 0 0, .bool false] 28, by simp [execOp, hop, go_sem], .inl rfl, WB.new w none 0 0 false _⟩
    · exact ⟨.cells #[.slice none 0 0, .bool false] 33, by simp [execOp, hop, go_sem], .inr rfl, WB.new w none 0 0 false _⟩
end Go.Proofs.YtlkiikchjeapfaaGreatDoor
namespace Go.Proofs.YtlkiikchjeapfaaGreatDoor.Rg
open Go.RowKit
section
variable {ops : Array Oper} {Q : Exit → Act → World → Prop} {F : Facts} {a0 : Act} {w0 : World} {V : X.VS}
/-- A step of Rg as a step among variables. -/
theorem step5N {i : Nat} {dst : Option Nat} {op : Op} (h : info ops i = some (dst, op, none)) (hal : ∀ d, (V.al.map (·.2)).contains d = true → ∀ w v, F d w v) (hs : Owes Tryz.prog ops Q F a0 w0 i dst op) : X.Step4 Tryz.prog ops Q (fun d _ w v => F d w v) V [] a0 w0 i := by
  intro o ho a w hg ha hd
  obtain ⟨h1, h2, h3⟩ := info_parts h ho
  refine run_wanted ho (by simp [Region.wanted, h3]) (hs o a w h2 h1 hg.toGrow ha fun d hdi => ?_)
  cases hc : (V.al.map (·.2)).contains d with
  | true => exact hal d hc _ _
  | false => exact hd d (by rw [← depI_eq ho]; exact hdi) hc
theorem fieldAddrW {i d p b : Nat} (hp : a0.tmps.getD p undef = .pointer (some ⟨b, 0, none⟩)) (hnd : (dsts ops).contains p = false) (hF : ∀ w v, v = .pointer (some ⟨b, 1, none⟩) → F d w v) :
    Owes Tryz.prog ops Q F a0 w0 i (some d) (.fieldAddr 28 (.tmp p) 1) :=
  fun o a w ho hd hg ha _ => valOf (v := .pointer (some ⟨b, 1, none⟩)) (w' := w) (by
    have e : a.tmps.getD p undef = .pointer (some ⟨b, 0, none⟩) := (ha.2.2 p hnd).trans hp
    simp only [Array.getD_eq_getD_getElem?] at e
    simp [execOp, ho, go_sem, Act.eval, e]) hd (hF _ _ rfl) (Grow.refl w)
theorem loadBool {i d x b o : Nat} {s : Bool} (dx : depI ops i x = true) (hx : ∀ w v, F x w v → v = .pointer (some ⟨b, o, none⟩)) (hc : w0.cell? ⟨b, o, none⟩ = some (.bool s)) (hF : ∀ w v, v = .bool s → F d w v) :
    Owes Tryz.prog ops Q F a0 w0 i (some d) (.load 4 (.tmp x)) :=
  fun o a w ho hd hg ha D => valOf (v := .bool s) (w' := w) (by
    have e := hx _ _ (D x dx)
    have hc' := hg.cells1 hc
    simp only [Array.getD_eq_getD_getElem?] at e
    simp [execOp, ho, go_sem, Act.eval, e, hc']) hd (hF _ _ rfl) (Grow.refl w)
theorem neqB {i d x y : Nat} {m c : Bool} (dx : depI ops i x = true) (dy : depI ops i y = true) (hx : ∀ w v, F x w v → v = .bool m) (hy : ∀ w v, F y w v → v = .bool c) (hF : ∀ w v, v = .bool (!(m == c)) → F d w v) :
    Owes Tryz.prog ops Q F a0 w0 i (some d) (.binOp .neq 4 (.tmp x) (.tmp y) 4) :=
  fun o a w ho hd hg ha D => valOf (v := .bool (!(m == c))) (w' := w) (by
    have e : a.tmps.getD x undef = .bool m := hx _ _ (D x dx)
    have e2 : a.tmps.getD y undef = .bool c := hy _ _ (D y dy)
    simp only [Array.getD_eq_getD_getElem?] at e e2
    simp [execOp, ho, go_sem, Act.eval, e, e2]) hd (hF _ _ rfl) (Grow.refl w)
theorem en_OfW : Enters Tryz.prog 26 := enters_of Tryz.func26 (by kernel_rfl) rfl
theorem callOfW {i d x y n k : Nat} {b : Bool} {ts : Array TypeId} (dx : depI ops i x = true) (dy : depI ops i y = true) (hx : ∀ w v, F x w v → IsN w v n k) (hy : ∀ w v, F y w v → v = .bool b)
    (hF : ∀ w v, IsW w v (signed n b) k → F d w v) : Owes Tryz.prog ops Q F a0 w0 i (some d) (.call { callee := .value (.func 26), args := #[.tmp x, .tmp y], argTypes := ts }) :=
  fun _ _ w ho hd _ _ D => call2 ho en_OfW hd (R := Ret w fun v' w' => IsW w' v' (signed n b) k) (by rw [hy _ _ (D y dy)]; exact of_w (hx _ _ (D x dx))) fun _ _ ⟨v, e, h, g⟩ => ⟨v, e, hF _ _ h, g⟩
end
end Go.Proofs.YtlkiikchjeapfaaGreatDoor.Rg
namespace Go.Proofs.YtlkiikchjeapfaaGreatDoor
open Go.RowKit
theorem IsN.stV {w : World} {v : Value} {n k b : Nat} (h : IsN w v n k) (hb : WB w b) {u : Value} (hu : isWV u) : IsN (Go.Proofs.YtlkiikchjeapfaaGreatDoor.stV w b u) v n k := by
  obtain ⟨A, l, c, x, rfl⟩ := hu
  exact hb.isN h A l c x
theorem IsW.stV {w : World} {v : Value} {z : Int} {k b : Nat} (h : IsW w v z k) (hb : WB w b) {u : Value} (hu : isWV u) : IsW (Go.Proofs.YtlkiikchjeapfaaGreatDoor.stV w b u) v z k := by
  obtain ⟨A, l, c, x, rfl⟩ := hu
  exact h.st hb A l c x
theorem IsW.shape {w : World} {v : Value} {z : Int} {k : Nat} (h : IsW w v z k) : isWV v := by
  obtain ⟨A, l, c, e, _⟩ := h
  exact ⟨A, l, c, _, e⟩

def floorF (qn rn k j p2 p3 : Nat) (b b2 : Bool) : Nat → World → Value → Prop
  | 26 => fun w v => IsN w v qn k
  | 27 => fun _ v => v = .pointer (some ⟨p2, 1, none⟩)
  | 28 => fun _ v => v = .bool b
  | 29 => fun _ v => v = .pointer (some ⟨p3, 1, none⟩)
  | 30 => fun _ v => v = .bool b2
  | 31 => fun _ v => v = .bool (!(b == b2))
  | 32 => fun w v => IsW w v (signed qn (!(b == b2))) k
  | 33 => fun w v => IsN w v rn j
  | 34 => fun _ v => v = .pointer (some ⟨p2, 1, none⟩)
  | 35 => fun _ v => v = .bool b
  | 36 => fun w v => IsW w v (signed rn b) j
  | _ => fun _ _ => True

def floorV : Rg.X.VS := ⟨[(11, 10), (12, 11)], [(13, 10, 32), (14, 11, 36)], [], fun _ => 28⟩

set_option maxRecDepth 100000 in
set_option maxHeartbeats 1000000 in
theorem floor_region4 {Q : Exit → Act → World → Prop} {a0 : Act} {w0 : World} {qn rn k j p2 p3 : Nat} {b b2 : Bool} {p7 p8 : Addr} {A7 A8 l7 l8 c7 c8} (hn : a0.tmps.size = 51)
    (h2 : a0.tmps.getD 2 undef = .pointer (some ⟨p2, 0, none⟩)) (h3 : a0.tmps.getD 3 undef = .pointer (some ⟨p3, 0, none⟩)) (h7 : a0.tmps.getD 7 undef = .pointer (some p7)) (h8 : a0.tmps.getD 8 undef = .pointer (some p8))
    (k2 : w0.cell? ⟨p2, 1, none⟩ = some (.bool b)) (k3 : w0.cell? ⟨p3, 1, none⟩ = some (.bool b2)) (k7 : w0.cell? p7 = some (.slice A7 l7 c7)) (n7 : IsN w0 (.agg #[.slice A7 l7 c7]) qn k) (k8 : w0.cell? p8 = some (.slice A8 l8 c8)) (n8 : IsN w0 (.agg #[.slice A8 l8 c8]) rn j)
    (fin : ∀ f w b10 b11, Grow w0 w → w0.heap.size ≤ b10 → w0.heap.size ≤ b11 → f 10 = .pointer (some ⟨b10, 0, none⟩) → f 11 = .pointer (some ⟨b11, 0, none⟩) → VarW w b10 (signed qn (!(b == b2))) k → VarW w b11 (signed rn b) j →
      Q .normal (Rg.puts f [26, 27, 28, 29, 30, 31, 32, 33, 34, 35, 36, 10, 11] a0) w) :
    (Code.region 4 (Rg.regionOps Tryz.f58 4) true).wp Tryz.prog Q a0 w0 := by
  refine Rg.X.region5 (n := 51) (F := fun d _ w v => floorF qn rn k j p2 p3 b b2 d w v) kW floorV [] [] [26, 27, 28, 29, 30, 31, 32, 33, 34, 35, 36, 10, 11] (by kernel_rfl) hn (by kernel_rfl) (by kernel_rfl) rfl (by kernel_rfl)
    ?_ (fun _ _ _ _ _ h _ => h) ?_ ?_ ?_ (fun p hp => by cases hp) (fun p q hp => by cases hp) (fun i hi ha hs => ?_) ?_
  · intro d _ w w' v h hg
    unfold floorF at h ⊢
    split at h <;> first | exact h | exact h.grow hg
  · intro d _ w v t kk u h hl hs
    show floorF qn rn k j p2 p3 b b2 d (stV w kk u) v
    unfold floorF at h ⊢
    split at h <;> first | exact h | exact IsN.stV h hl.2 hs | exact IsW.stV h hl.2 hs
  · intro i p _; rfl
  · intro i p x hx f w v hv
    simp only [floorV, List.mem_cons, List.not_mem_nil, or_false, Prod.mk.injEq] at hx
    rcases hx with ⟨_, _, rfl⟩ | ⟨_, _, rfl⟩
    · exact IsW.shape (show IsW w v (signed qn (!(b == b2))) k from hv)
    · exact IsW.shape (show IsW w v (signed rn b) j from hv)
  · have hal : ∀ d, (floorV.al.map (·.2)).contains d = true → ∀ w v, floorF qn rn k j p2 p3 b b2 d w v := by
      intro d hd w v
      have : d = 10 ∨ d = 11 := by simpa [floorV] using hd
      rcases this with rfl | rfl <;> exact trivial
    have hi' : i < 15 := Nat.lt_of_lt_of_eq hi (by kernel_rfl)
    clear hi
    match i, hi' with
    | 0, _ => exact Rg.step5N (by kernel_rfl) hal (Rg.loadNat (d := 26) (p := 7) h7 (by kernel_rfl) k7 n7 (fun _ _ h => h))
    | 1, _ => exact Rg.step5N (by kernel_rfl) hal (Rg.fieldAddrW (d := 27) (p := 2) h2 (by kernel_rfl) (fun _ _ h => h))
    | 2, _ => exact Rg.step5N (by kernel_rfl) hal (Rg.loadBool (d := 28) (x := 27) (by kernel_rfl) (fun _ _ h => h) k2 (fun _ _ h => h))
    | 3, _ => exact Rg.step5N (by kernel_rfl) hal (Rg.fieldAddrW (d := 29) (p := 3) h3 (by kernel_rfl) (fun _ _ h => h))
    | 4, _ => exact Rg.step5N (by kernel_rfl) hal (Rg.loadBool (d := 30) (x := 29) (by kernel_rfl) (fun _ _ h => h) k3 (fun _ _ h => h))
    | 5, _ => exact Rg.step5N (by kernel_rfl) hal (Rg.neqB (d := 31) (x := 28) (y := 30) (m := b) (c := b2) (by kernel_rfl) (by kernel_rfl) (fun _ _ h => h) (fun _ _ h => h) (fun _ _ h => h))
    | 6, _ => exact Rg.step5N (by kernel_rfl) hal (Rg.callOfW (d := 32) (x := 26) (y := 31) (n := qn) (k := k) (b := !(b == b2)) (ts := #[26, 4]) (by kernel_rfl) (by kernel_rfl) (fun _ _ h => h) (fun _ _ h => h) (fun _ _ h => h))
    | 7, _ => exact Rg.step5N (by kernel_rfl) hal (Rg.loadNat (d := 33) (p := 8) h8 (by kernel_rfl) k8 n8 (fun _ _ h => h))
    | 8, _ => exact Rg.step5N (by kernel_rfl) hal (Rg.fieldAddrW (d := 34) (p := 2) h2 (by kernel_rfl) (fun _ _ h => h))
    | 9, _ => exact Rg.step5N (by kernel_rfl) hal (Rg.loadBool (d := 35) (x := 34) (by kernel_rfl) (fun _ _ h => h) k2 (fun _ _ h => h))
    | 10, _ => exact Rg.step5N (by kernel_rfl) hal (Rg.callOfW (d := 36) (x := 33) (y := 35) (n := rn) (k := j) (b := b) (ts := #[26, 4]) (by kernel_rfl) (by kernel_rfl) (fun _ _ h => h) (fun _ _ h => h) (fun _ _ h => h))
    | 11, _ => exact absurd ha (by decide)
    | 12, _ => exact absurd ha (by decide)
    | 13, _ => exact absurd hs (by decide)
    | 14, _ => exact absurd hs (by decide)
    | i + 15, h => exact absurd h (by omega)
  · intro f w hg hf hlv _ hh _
    obtain ⟨b10, e10, A, l, c, x, ev, c0, c1⟩ := hh 13 10 32 (by simp [floorV])
    obtain ⟨b11, e11, A', l', c', x', ev', c0', c1'⟩ := hh 14 11 36 (by simp [floorV])
    have h32 : IsW w (f 32) (signed qn (!(b == b2))) k := hf 32 (by decide) (by decide)
    have h36 : IsW w (f 36) (signed rn b) j := hf 36 (by decide) (by decide)
    rw [ev] at h32
    rw [ev'] at h36
    have hge : ∀ p b, (floorV.al.map (·.2)).contains p = true → f p = .pointer (some ⟨b, 0, none⟩) → w0.heap.size ≤ b := fun p b hp e => by
      obtain ⟨k', e', hk', _⟩ := hlv p hp
      rw [e] at e'
      injection e' with e'
      injection e' with e'
      injection e' with e'
      rcases hk' with h | h
      · omega
      · cases h
    exact fin f w b10 b11 hg.toGrow (hge 10 b10 (by decide) e10) (hge 11 b11 (by decide) e11) e10 e11 (VarW.mk c0 c1 h32) (VarW.mk c0' c1' h36)
end Go.Proofs.YtlkiikchjeapfaaGreatDoor
