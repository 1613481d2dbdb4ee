/-
  Package setup: what reads: one number.
-/
import Derived.Test.YtoconmcmnikdnaaSetH
import Derived.Test.YtoconmcmnikdnaaMLow
import Derived.Test.YtoconmcmnikdnaaSetMay
import Derived.Test.YtoconmcmnikdnaaProg
import Derived.OpenShut
import Derived.Laws.Cover1
import Derived.Test.YtoconmcmnikdnaaMPlain
import Derived.WalkKit
import Derived.WalkLawsBesides
import Derived.Lib.Hide
import Derived.IntWalk
import Derived.Lib.SliceRun
import Derived.WalkMore
import Derived.ScopeJumps
import Derived.Laws.Slices
import Derived.RegionTactic
namespace Go.Proofs.Ytoconmcmnikdnaa
open Go.RowKit
set_option linter.unusedVariables false
set_option linter.unusedSimpArgs false
set_option maxRecDepth 20000

/-- What reads lies at block g, and has the bytes l left, which lie where they lay in R0; the blocks F are not its own. -/
structure RPen (R0 : World) (F : Nat → Prop) (g : Nat) (l : List (BitVec 8)) (w : World) : Prop where
  lay : ∃ A c, Has w g #[.slice A l.length c] ∧ (∀ w0, Below R0.heap.size R0 w0 → Sl 1 w0 A l.length c (bytesV l)) ∧ l.length ≤ c
  bel : Below R0.heap.size R0 w
  own : R0.heap.size ≤ g
  out : ¬ F g
  low : ∀ b, F b → b < w.heap.size
theorem RPen.keep {R0 : World} {F : Nat → Prop} {g : Nat} {l : List (BitVec 8)} {w w' : World} (h : RPen R0 F g l w) (hb : Below w.heap.size w w') : RPen R0 F g l w' := by
  obtain ⟨⟨A, c, h1, h2, h3⟩, h4, h5, h6, h7⟩ := h
  exact ⟨⟨A, c, h1.below hb, h2, h3⟩, bel_on h4 hb, h5, h6, fun b hF => Nat.lt_of_lt_of_le (h7 b hF) hb.size⟩
theorem RPen.size {R0 : World} {F : Nat → Prop} {g : Nat} {l : List (BitVec 8)} {w : World} (h : RPen R0 F g l w) : R0.heap.size ≤ w.heap.size := h.bel.size
end Go.Proofs.Ytoconmcmnikdnaa
