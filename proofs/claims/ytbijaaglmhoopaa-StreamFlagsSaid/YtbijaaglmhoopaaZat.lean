/-
  The document's own answer of layer 12: a worker's events, where a session ends, kinds.
  The document's own answer of layer 12: a session's parts.
-/
import Derived.Test.YtbijaaglmhoopaaZar
import Derived.Test.YtbijaaglmhoopaaZae
import Derived.Test.YtbijaaglmhoopaaZaq
import Derived.Test.YtbijaaglmhoopaaZac
import Derived.Test.YtbijaaglmhoopaaZak
import Derived.Test.YtbijaaglmhoopaaZam
import Derived.Deep.DeepCutAuto
import Derived.Test.YtbijaaglmhoopaaZad
import Derived.Test.YtbijaaglmhoopaaZaa
import Derived.Test.YtbijaaglmhoopaaProg
import Derived.OpenShut
import Derived.Laws.Cover1
import Derived.WalkKit
import Derived.WalkLawsBesides
import Derived.Lib.Hide
import Derived.IntWalk
import Derived.Lib.SliceRun
import Derived.WalkMore
import Derived.ScopeJumps
import Derived.Laws.Slices
import Derived.RegionTactic
import Derived.Test.YtbijaaglmhoopaaZag
import Derived.Test.YtbijaaglmhoopaaZas
import Derived.Deep.RegionHeld3
namespace Go.Proofs.Ytbijaaglmhoopaa
open Go.RowKit
set_option linter.unusedVariables false
set_option linter.unusedSimpArgs false
set_option maxRecDepth 20000

def mayE (pl : Int) (nE nC nG nR : Nat) (e : EvP) : Bool := decide (e.May pl nE nC nG nR)
end Go.Proofs.Ytbijaaglmhoopaa

namespace Go.Proofs.Ytbijaaglmhoopaa
open Go.RowKit
set_option linter.unusedVariables false
set_option linter.unusedSimpArgs false
set_option maxRecDepth 20000

theorem wp_build_s {o : Oper} {a : Act} {w : World} {K : Act → World → Prop} {Q : Exit → Act → World → Prop} {y : Operand} (x : SegP)
    (ho : o.op = .buildSlice 34 1 #[(0, y)]) (hy : a.eval y = .agg #[.int .i64 x.fr, .int .i64 x.to, .int .i64 x.kd, .int .i64 x.id, .int .i64 x.cd])
    (h : K (a.put o.dst (.slice (some ⟨w.heap.size, 0, none⟩) 1 1)) (w.alloc (.cells #[.int .i64 x.fr, .int .i64 x.to, .int .i64 x.kd, .int .i64 x.id, .int .i64 x.cd] 41))) : o.wp Try.prog a w K Q := by
  unfold Oper.wp execOp
  simp only [ho, List.map_toArray, List.map_cons, List.map_nil, hy]
  go_simp
  exact h
end Go.Proofs.Ytbijaaglmhoopaa
