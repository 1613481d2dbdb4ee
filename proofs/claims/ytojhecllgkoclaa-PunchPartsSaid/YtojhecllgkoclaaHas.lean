/-
  A block of cells that the walk knows whole: it is kept over draws, new blocks, and calls that leave what was there.
-/
import Derived.Test.YtojhecllgkoclaaMem
namespace Go.Proofs.Ytojhecllgkoclaa
open Go.RowKit

/-- Block g holds just the cells cs, none of them frozen. -/
def Has (w : World) (g : Nat) (cs : Array Value) : Prop := ∃ t, w.heap[g]? = some (.cells cs t (0, 0))

section
variable {w w' : World} {g : Nat} {cs : Array Value}
theorem Has.size (h : Has w g cs) : g < w.heap.size := by
  obtain ⟨t, h⟩ := h
  rcases Nat.lt_or_ge g w.heap.size with hlt | hge
  · exact hlt
  · rw [Array.getElem?_eq_none hge] at h; cases h
theorem Has.new (w : World) (t : TypeId) (cs : Array Value) {s : Nat} (hs : w.heap.size = s) : Has (w.alloc (.cells cs t)) s cs := by
  subst hs
  exact ⟨t, heap_alloc_new w _⟩
theorem Has.alloc (h : Has w g cs) (o : Obj) : Has (w.alloc o) g cs := by
  have hl := h.size
  obtain ⟨t, h⟩ := h
  exact ⟨t, (Below.heap_alloc w o g hl).trans h⟩
theorem Has.drewN (h : Has w g cs) (n : Nat) : Has (w.drewN n) g cs := h
theorem Has.drew (h : Has w g cs) : Has w.drew g cs := h
theorem Has.below (h : Has w g cs) (hb : Below w.heap.size w w') : Has w' g cs := by
  have hl := h.size
  obtain ⟨t, h⟩ := h
  exact ⟨t, (hb.block g hl).trans h⟩
theorem Has.far (h : Has w g cs) {p : Addr} (hp : g ≠ p.block) (u : Value) : Has (w.setCell p u) g cs := by
  obtain ⟨t, h⟩ := h
  exact ⟨t, (Below.heap_setCell w p u g hp).trans h⟩
theorem Has.set (h : Has w g cs) (i : Nat) (u : Value) : Has (w.setCell ⟨g, i, none⟩ u) g (cs.setIfInBounds i u) := by
  obtain ⟨t, h⟩ := h
  exact ⟨t, by simp [World.setCell, Array.getElem?_modify, h]⟩
theorem Has.cell (h : Has w g cs) (i : Nat) {v : Value} (hv : cs[i]? = some v) : w.cell? ⟨g, i, none⟩ = some v := by
  obtain ⟨t, h⟩ := h
  rw [cell_of_row w g i cs t (0, 0) h, hv]
theorem Has.frozen (h : Has w g cs) (i : Nat) : w.frozen? ⟨g, i, none⟩ = false := by
  obtain ⟨t, h⟩ := h
  simp [World.frozen?, h]
end
/-- The facts of a block of two cells, as the walk asks them. -/
theorem Has.two {w : World} {g : Nat} {x y : Value} (h : Has w g #[x, y]) : w.cell? ⟨g, 0, none⟩ = some x ∧ w.cell? ⟨g, 1, none⟩ = some y ∧ w.frozen? ⟨g, 0, none⟩ = false ∧ w.frozen? ⟨g, 1, none⟩ = false :=
  ⟨h.cell 0 rfl, h.cell 1 rfl, h.frozen 0, h.frozen 1⟩
end Go.Proofs.Ytojhecllgkoclaa
