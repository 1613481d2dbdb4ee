/-
  Package setup: what writes: a number more.
-/
import Derived.Test.YtoconmcmnikdnaaSetG
import Derived.Test.YtoconmcmnikdnaaProg
import Derived.Test.YtoconmcmnikdnaaMLow
import Derived.OpenShut
import Derived.Laws.Cover1
import Derived.Test.YtoconmcmnikdnaaMPlain
import Derived.WalkKit
import Derived.WalkLawsBesides
import Derived.Lib.Hide
import Derived.IntWalk
import Derived.Lib.SliceRun
namespace Go.Proofs.Ytoconmcmnikdnaa
open Go.RowKit
set_option linter.unusedVariables false
set_option linter.unusedSimpArgs false
set_option maxRecDepth 20000

/-- What writes lies at block g, and holds the bytes l; the blocks F are not its own. -/
structure WPen (F : Nat → Prop) (g : Nat) (l : List (BitVec 8)) (w : World) : Prop where
  lay : ∃ A c, Has w g #[.slice A l.length c] ∧ BRow w 0 A c l ∧ ∀ a, A = some a → ¬ F a.block ∧ a.block ≠ g
  out : ¬ F g
  low : ∀ b, F b → b < w.heap.size
theorem WPen.keep {F : Nat → Prop} {g : Nat} {l : List (BitVec 8)} {w w' : World} (h : WPen F g l w) (hb : Below w.heap.size w w') : WPen F g l w' := by
  obtain ⟨⟨A, c, h1, h2, h3⟩, h4, h5⟩ := h
  exact ⟨⟨A, c, h1.below hb, h2.below hb, h3⟩, h4, fun b hF => Nat.lt_of_lt_of_le (h5 b hF) hb.size⟩
theorem Kept.set {F : Nat → Prop} {a w : World} (h : Kept F a w) {p : Addr} (hp : ¬ F p.block) (v : Value) : Kept F a (w.setCell p v) :=
  ⟨h.os, h.tape, h.output, by have := h.size; simp [World.setCell]; exact this, fun b hb => (Below.heap_setCell w p v b (fun e => hp (e ▸ hb))).trans (h.block b hb)⟩
theorem Kept.alloc {F : Nat → Prop} {a w : World} (h : Kept F a w) (hF : ∀ b, F b → b < w.heap.size) (o : Obj) : Kept F a (w.alloc o) :=
  h.on (.of_below (bel_alloc (Below.refl _ _) o) hF)
end Go.Proofs.Ytoconmcmnikdnaa
