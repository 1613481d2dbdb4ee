/-
  The calls whose answers the document fixes, at the head of layer 4's laws.
-/
import Derived.Test.YtfjbpjojpjkfcaaCrcC
import Derived.Lib.SlBytesConst
namespace Go.Proofs.Ytfjbpjojpjkfcaa
open Go.RowKit
set_option linter.unusedVariables false

theorem byts_const (w : World) (l : List (BitVec 8)) (t : TypeId) (fr : Nat × Nat) : Byts (w.alloc (.cells (bytesV l).toArray t fr)) (some ⟨w.heap.size, 0, none⟩) l := by
  intro k hk
  refine ⟨_, 0, rfl, ?_⟩
  rw [Nat.zero_add, cell_of_row _ _ k _ t fr (heap_alloc_new w _)]
  simp [bytesV, List.getD, hk]
def l1234 : List (BitVec 8) := [49#8, 50#8, 51#8, 52#8]
def l56789 : List (BitVec 8) := [53#8, 54#8, 55#8, 56#8, 57#8]
theorem sum_doc : sumB (List.flatten [l1234, [], l56789]) = 3808858755#32 := by decide +kernel
theorem sum_nil : sumB (List.flatten []) = 0#32 := by decide +kernel
theorem bytes_doc : (bytesV (bytesB 16909060#32)).toArray = #[.int .u8 4, .int .u8 3, .int .u8 2, .int .u8 1] := by rfl

theorem eq_doc (w : World) : (Op.equalIn 10000 43 (.agg #[.int .u8 4, .int .u8 3, .int .u8 2, .int .u8 1]) (.agg #[.int .u8 4, .int .u8 3, .int .u8 2, .int .u8 1])).run Try.prog w = .ok true w := by kernel_rfl
end Go.Proofs.Ytfjbpjojpjkfcaa
