/-
  Package setup: what writes: a number more.
-/
import Derived.Test.YtcnekicfblbafaaSetG
import Derived.Test.YtcnekicfblbafaaProg
import Derived.Test.YtcnekicfblbafaaByRow
import Derived.Test.YtcnekicfblbafaaByts
import Derived.OpenShut
import Derived.Laws.Cover1
import Derived.WalkKit
import Derived.WalkLawsBesides
import Derived.Lib.Hide
import Derived.IntWalk
import Derived.Lib.SliceRun
import Derived.Test.YtcnekicfblbafaaNums
namespace Go.Proofs.Ytcnekicfblbafaa
open Go.RowKit
set_option linter.unusedVariables false
set_option linter.unusedSimpArgs false
set_option maxRecDepth 20000

theorem Kept.alloc {F : Nat → Prop} {a w : World} (h : Kept F a w) (hF : ∀ b, F b → b < w.heap.size) (o : Obj) : Kept F a (w.alloc o) :=
  h.on (.of_below (bel_alloc (Below.refl _ _) o) hF)
end Go.Proofs.Ytcnekicfblbafaa
