/-
  Package setup: lists, where they are read.
-/
import Derived.Test.YtoconmcmnikdnaaSetR
import Derived.Test.YtoconmcmnikdnaaMLow
import Derived.Deep.OwnRows
namespace Go.Proofs.Ytoconmcmnikdnaa
open Go.RowKit
set_option linter.unusedVariables false
set_option linter.unusedSimpArgs false
set_option maxRecDepth 20000

theorem RPen.set {R0 : World} {F : Nat → Prop} {g : Nat} {l : List (BitVec 8)} {w : World} (h : RPen R0 F g l w) {p : Addr} (hp : R0.heap.size ≤ p.block) (hg : g ≠ p.block) (v : Value) : RPen R0 F g l (w.setCell p v) := by
  obtain ⟨⟨A, c, h1, h2, h3⟩, h4, h5, h6, h7⟩ := h
  exact ⟨⟨A, c, h1.far hg v, h2, h3⟩, h4.setCell hp v, h5, h6, fun b hb => by have := h7 b hb; simp [World.setCell]; exact this⟩

end Go.Proofs.Ytoconmcmnikdnaa
