/- A text of one byte; so many of one digit. -/
import Derived.Test.YtpjmfbiihhbjhaaGreatDoorBDig
namespace Go.Proofs.YtpjmfbiihhbjhaaGreatDoor
open Go.RowKit
set_option maxRecDepth 20000

theorem one_string (w : World) (c : UInt8) (g : Nat) (hg : w.heap.size = g) : (convert 104 9 (.slice (some ⟨g, 0, none⟩) 1 1)).run Tryz.prog (w.alloc (Obj.cells #[.int .u8 (c.toNat : Int)] 5)) = .ok (.string (str [c])) (w.alloc (Obj.cells #[.int .u8 (c.toNat : Int)] 5)) := by
  subst hg
  refine run_convert_bytes_back (w.alloc (Obj.cells #[.int .u8 (c.toNat : Int)] 5)) _ _ 5 ⟨w.heap.size, 0, none⟩ 1 [c] Tryz.underlying104 Tryz.underlying5 Tryz.underlying9 fun j hj => ?_
  match j, hj with
  | 0, _ => simp [Addr.add, go_sem]
  | j + 1, h => simp at h
/-- So many of the same digit, no nought. -/
theorem ok_many {c : UInt8} (k : Nat) (hk : k ≠ 0) (hc : Tx.isDig c) (h0 : c ≠ 48) : Tx.okText (List.replicate k c) := by
  refine ⟨fun b hb => by rw [(List.mem_replicate.1 hb).2]; exact hc, .inr ⟨by simpa using hk, ?_⟩⟩
  obtain ⟨j, rfl⟩ : ∃ j, k = j + 1 := ⟨k - 1, by omega⟩
  rw [List.replicate_succ]
  simpa using h0
end Go.Proofs.YtpjmfbiihhbjhaaGreatDoor
