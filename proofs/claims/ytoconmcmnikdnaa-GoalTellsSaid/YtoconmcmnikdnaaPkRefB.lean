/-
  The document's own answers of layer 5 (lumperref05): numbers, and texts, taken; numbers put.
-/
import Derived.Test.YtoconmcmnikdnaaProg
import Derived.Test.YtoconmcmnikdnaaMLow
import Derived.OpenShut
import Derived.Laws.Cover1
import Derived.Test.YtoconmcmnikdnaaMPlain
import Derived.WalkKit
import Derived.WalkLawsBesides
import Derived.Lib.Hide
import Derived.IntWalk
import Derived.Lib.SliceRun
import Derived.WalkMore
import Derived.ScopeJumps
import Derived.Laws.Slices
import Derived.RegionTactic
namespace Go.Proofs.Ytoconmcmnikdnaa
open Go.RowKit
set_option linter.unusedVariables false
set_option maxRecDepth 20000

theorem wrapi_id {a : Int} (h0 : -9223372036854775808 ≤ a) (h1 : a < 9223372036854775808) : IntKind.i64.wrap a = a := by
  simp [IntKind.wrap, IntKind.bits, IntKind.signed]
  split <;> omega
end Go.Proofs.Ytoconmcmnikdnaa
