/-
  lumperref07: Read.
-/
import Derived.Test.YtgfomfioagblfaaZam
namespace Go.Proofs.Ytgfomfioagblfaa
open Go.RowKit
set_option linter.unusedVariables false
set_option linter.unusedSimpArgs false
set_option maxRecDepth 100000

theorem atL_in {l : List Int} (h : okN l) (i : Nat) : In64 (atL l i) := by
  rcases Nat.lt_or_ge i l.length with q | q
  · have := h (l.getD i 0) (by simp [List.getD, q])
    exact ⟨by unfold atL; omega, this.2⟩
  · rw [atL_out q]; exact ⟨by omega, by omega⟩
def FB (W : World) (B : Nat) (b : Nat) : Prop := b < W.heap.size ∧ b ≠ B
theorem fb_set {W0 w : World} {B : Nat} (h0 : Kept (FB W0 B) W0 w) (i : Nat) (v : Value) : Kept (FB W0 B) W0 (w.setCell ⟨B, i, none⟩ v) := h0.set (fun h => h.2 rfl) v
end Go.Proofs.Ytgfomfioagblfaa
