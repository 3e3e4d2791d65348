/- Contracts of the reference of layer 2: Power, Gcd. -/
import Derived.Test.YtpjmfbiihhbjhaaDoorRefG
import Derived.Deep.LoopGhost
namespace Go.Proofs.YtpjmfbiihhbjhaaDoor
open Go.RowKit

theorem pow2_lt {t s : Nat} (h : t < s) : 2 ^ t < 2 ^ s := Nat.pow_lt_pow_right (by omega) h
theorem dlen_pow {t : Nat} (h : t ≤ 300) : Dx.len (2 ^ t) ≤ 40 := by
  have := dlen_bound (n := 2 ^ t) (L := 5) (Nat.lt_of_lt_of_eq (pow2_lt (s := 64 * 5) (by omega)) (Mx.B_pow 5).symm)
  omega
theorem isD_one (w : World) (x : Nat) (h0 : x ≠ 0) (hx : x < 10000) : IsD (w.alloc (.cells #[.int .i64 (x : Int)] 3)) (.slice (some ⟨w.heap.size, 0, none⟩) 1 1) x 1 := by
  have hl : Dx.limbs x = [x] := by
    have := Dx.limbs_val [x] (by intro y hy; rw [List.mem_singleton.1 hy]; exact hx) (.inr (by simpa using h0))
    rwa [Dx.val_one] at this
  have hn : Dx.len x = 1 := by unfold Dx.len; rw [hl]; rfl
  refine ⟨some ⟨w.heap.size, 0, none⟩, 1, by rw [hn], by omega, ?_, by omega⟩
  rw [hl]
  intro _
  refine ⟨w.heap.size, 0, rfl, by simp, fun j y hy => ?_⟩
  match j, hy with
  | 0, hy => simp at hy; subst hy; simp [go_sem]


end Go.Proofs.YtpjmfbiihhbjhaaDoor
