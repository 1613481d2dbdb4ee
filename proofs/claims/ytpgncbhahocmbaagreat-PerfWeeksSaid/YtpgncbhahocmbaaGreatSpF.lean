/-
  The contracts of package span's functions, continued: And, Minus, Last.
-/
import Derived.Test.YtpgncbhahocmbaaGreatSpD
import Derived.Test.YtpgncbhahocmbaaGreatQab
import Derived.RangeFuncNested
import Derived.RangeFuncBound
import Derived.RangeFuncCalls
import Derived.RangeFuncLeaves
import Derived.Shelf.RegionOpen
import Derived.OwnWalkIn
import Derived.TacticsInMore
import Derived.LoopNIn
import Derived.LoopIn
namespace Go.Proofs.YtpgncbhahocmbaaGreat
open Go.RowKit
set_option linter.unusedVariables false
set_option maxRecDepth 20000

theorem gives_bel {w w1 w' : World} {xs ys : List (Int × Int)} {e : Ending} (h : Gives w1 xs e w') (hb : Below w.heap.size w w1) (he : xs = ys) : Gives w ys e w' := by
  subst he
  obtain ⟨D, d, rfl, hr, hb2⟩ := h
  exact ⟨D, d, rfl, hr.mono hb.size, bel_on hb hb2⟩

end Go.Proofs.YtpgncbhahocmbaaGreat
