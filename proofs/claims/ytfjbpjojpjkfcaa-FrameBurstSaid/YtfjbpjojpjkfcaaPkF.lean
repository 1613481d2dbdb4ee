/-
  Package pack: a text taken.
-/
import Derived.Test.YtfjbpjojpjkfcaaPkE
import Derived.Test.YtfjbpjojpjkfcaaOrders
namespace Go.Proofs.Ytfjbpjojpjkfcaa
open Go.RowKit
set_option linter.unusedVariables false

end Go.Proofs.Ytfjbpjojpjkfcaa
