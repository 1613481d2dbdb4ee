/-
  lumperref07.numbers: a setup's numbers.
-/
import Derived.Test.YtoconmcmnikdnaaMLow
import Derived.Test.YtoconmcmnikdnaaSetY
namespace Go.Proofs.Ytoconmcmnikdnaa
open Go.RowKit
set_option linter.unusedVariables false
set_option linter.unusedSimpArgs false
set_option maxRecDepth 100000

theorem tab_ints {w : World} {A : Option Addr} {n c : Nat} {l : List Int} (h : Tab 1 w A n c (l.map fun z => [z])) : Sl 1 w A n c (ints .i64 l) := by
  have := h.sl
  rw [flat_ones] at this
  exact this
end Go.Proofs.Ytoconmcmnikdnaa
