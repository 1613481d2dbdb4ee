/-
  The document's own answers of layer 5 (lumperref05): numbers, and texts, taken; numbers put.
-/
import Derived.Test.YtcnekicfblbafaaProg
import Derived.Test.YtcnekicfblbafaaByRow
import Derived.Test.YtcnekicfblbafaaByts
import Derived.OpenShut
import Derived.Laws.Cover1
import Derived.WalkKit
import Derived.WalkLawsBesides
import Derived.Lib.Hide
import Derived.IntWalk
import Derived.Lib.SliceRun
import Derived.Test.YtcnekicfblbafaaNums
import Derived.WalkMore
import Derived.ScopeJumps
import Derived.Test.YtcnekicfblbafaaByStr
import Derived.Laws.Slices
import Derived.RegionTactic
import Derived.Test.YtcnekicfblbafaaOrders
namespace Go.Proofs.Ytcnekicfblbafaa
open Go.RowKit
set_option linter.unusedVariables false
set_option maxRecDepth 20000

theorem wrapi_id {a : Int} (h0 : -9223372036854775808 ≤ a) (h1 : a < 9223372036854775808) : IntKind.i64.wrap a = a := by
  simp [IntKind.wrap, IntKind.bits, IntKind.signed]
  split <;> omega
end Go.Proofs.Ytcnekicfblbafaa
