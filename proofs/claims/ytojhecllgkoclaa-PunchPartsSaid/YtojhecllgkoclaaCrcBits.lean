/-
  The model's numbers of 8 and 32 bits, and words of bits: no program here.
-/
import Derived.Laws.BitsAllLaws
import Derived.Laws.BitsLemmas
namespace Go.Proofs.Ytojhecllgkoclaa
set_option linter.unusedVariables false
set_option linter.unusedSimpArgs false

abbrev v8 (n : BitVec 8) : Value := .int .u8 (n.toNat : Int)

def bytesV (l : List (BitVec 8)) : List Value := l.map v8
end Go.Proofs.Ytojhecllgkoclaa
