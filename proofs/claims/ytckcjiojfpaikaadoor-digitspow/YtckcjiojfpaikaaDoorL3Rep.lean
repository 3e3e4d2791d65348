/- strings.Repeat of one byte. -/
import Derived.Test.YtckcjiojfpaikaaDoorRepS
import Derived.Test.YtckcjiojfpaikaaDoorLaw3A
namespace Go.Proofs.YtckcjiojfpaikaaDoor
open Go.RowKit
set_option maxRecDepth 20000

theorem repeatL_one (c : UInt8) : ∀ k, Lib.repeatL [c] k = List.replicate k c
  | 0 => rfl
  | k + 1 => by
    show [c] ++ Lib.repeatL [c] k = _
    rw [repeatL_one c k]
    rfl
theorem repeat_any (w : World) (c : UInt8) (k : Nat) (hk : k ≤ 1000000) : Calls Tryd.prog 23 #[.string (str [c]), .int .i64 (k : Int)] w (Ret w fun v _ => v = .string (str (List.replicate k c))) :=
  (Any.strings_Repeat lays105 extra105 (str [c]) k w (by omega) (by rw [str_size]; simp; omega)).mono fun _ _ ⟨he, hb⟩ => ⟨_, he, by rw [← repeatL_one], hb⟩
theorem one_string (w : World) (c : UInt8) (g : Nat) (hg : w.heap.size = g) : (convert 46 9 (.slice (some ⟨g, 0, none⟩) 1 1)).run Tryd.prog (w.alloc (Obj.cells #[.int .u8 (c.toNat : Int)] 5)) = .ok (.string (str [c])) (w.alloc (Obj.cells #[.int .u8 (c.toNat : Int)] 5)) := by
  subst hg
  refine run_convert_bytes_back (w.alloc (Obj.cells #[.int .u8 (c.toNat : Int)] 5)) _ _ 5 ⟨w.heap.size, 0, none⟩ 1 [c] Tryd.underlying46 Tryd.underlying5 Tryd.underlying9 fun j hj => ?_
  match j, hj with
  | 0, _ => simp [Addr.add, go_sem]
  | j + 1, h => simp at h
/-- So many of the same digit, no nought. -/
theorem ok_many {c : UInt8} (k : Nat) (hk : k ≠ 0) (hc : Tx.isDig c) (h0 : c ≠ 48) : Tx.okText (List.replicate k c) := by
  refine ⟨fun b hb => by rw [(List.mem_replicate.1 hb).2]; exact hc, .inr ⟨by simpa using hk, ?_⟩⟩
  obtain ⟨j, rfl⟩ : ∃ j, k = j + 1 := ⟨k - 1, by omega⟩
  rw [List.replicate_succ]
  simpa using h0
end Go.Proofs.YtckcjiojfpaikaaDoor
