/-
  An argument of type api.Event, opened.
-/
import Derived.Test.YtdhkfhgggkndoaaProg
import Derived.Test.YtdhkfhgggkndoaaTab
import Derived.Test.YtdhkfhgggkndoaaEvKit
namespace Go.Proofs.Ytdhkfhgggkndoaa
open Go.RowKit Go.Deep Go.WideShapes
set_option linter.unusedVariables false
set_option maxRecDepth 20000

theorem nums_at_e {P : Program} {t : TypeId} {k : Nat} (h : NumsT P t k) (hk : P.cellsOf t = k) : NumsT P t (P.cellsOf t) := by rw [hk]; exact h
theorem numsT_int_e : NumsT Try.prog 3 1 := alli_int Try.underlying3
theorem numsT_event : NumsT Try.prog 43 11 := alli_struct Try.underlying43 (by kernel_rfl)
  ⟨rfl, nums_at_e numsT_int_e (by kernel_rfl), by kernel_rfl, nums_at_e numsT_int_e (by kernel_rfl), by kernel_rfl, nums_at_e numsT_int_e (by kernel_rfl), by kernel_rfl, nums_at_e numsT_int_e (by kernel_rfl), by kernel_rfl, nums_at_e numsT_int_e (by kernel_rfl), by kernel_rfl, nums_at_e numsT_int_e (by kernel_rfl),
    by kernel_rfl, nums_at_e numsT_int_e (by kernel_rfl), by kernel_rfl, nums_at_e numsT_int_e (by kernel_rfl), by kernel_rfl, nums_at_e numsT_int_e (by kernel_rfl), by kernel_rfl, nums_at_e numsT_int_e (by kernel_rfl), by kernel_rfl, nums_at_e numsT_int_e (by kernel_rfl), by change _ = _; kernel_rfl⟩
/-- An event's numbers. -/
def evLs (e : EvP) : List Int := [e.id, e.wk, e.tm, e.kd, e.fr, e.to, e.el, e.un, e.cl, e.ge, e.cd]
theorem ev_of_list {zs : List Int} (h : zs.length = 11) (hb : ∀ z ∈ zs, In64 z) : ∃ e : EvP, evLs e = zs ∧ e.In := by
  match zs, h with
  | [a, b, c, d, e, f, g, i, j, k, l], _ =>
    refine ⟨⟨a, b, c, d, e, f, g, i, j, k, l⟩, rfl, ?_⟩
    have h1 := hb a (by simp); have h2 := hb b (by simp); have h3 := hb c (by simp); have h4 := hb d (by simp); have h5 := hb e (by simp); have h6 := hb f (by simp)
    have h7 := hb g (by simp); have h8 := hb i (by simp); have h9 := hb j (by simp); have h10 := hb k (by simp); have h11 := hb l (by simp)
    exact ⟨h1, h2, h3, h4, h5, h6, h7, h8, h9, h10, h11⟩
end Go.Proofs.Ytdhkfhgggkndoaa
