/-
  The model's numbers of 8 and 32 bits, and words of bits: no program here.
-/
import Derived.Laws.BitsAllLaws
import Derived.Laws.BitsLemmas
namespace Go.Proofs.Ytdhkfhgggkndoaa
set_option linter.unusedVariables false
set_option linter.unusedSimpArgs false

abbrev v8 (n : BitVec 8) : Value := .int .u8 (n.toNat : Int)

def bytesV (l : List (BitVec 8)) : List Value := l.map v8
theorem bytesV_len (l : List (BitVec 8)) : (bytesV l).length = l.length := by simp [bytesV]
theorem bytesV_one (l : List (BitVec 8)) : ∀ u ∈ bytesV l, u.oneCell' = true := by
  intro u hu
  simp only [bytesV, List.mem_map] at hu
  obtain ⟨x, _, rfl⟩ := hu
  rfl
end Go.Proofs.Ytdhkfhgggkndoaa
