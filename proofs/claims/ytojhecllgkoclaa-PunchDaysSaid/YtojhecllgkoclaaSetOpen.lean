/-
  An argument of type api.Setup, opened: its cells, its lists.
-/
import Derived.Test.YtojhecllgkoclaaProg
import Derived.Test.YtojhecllgkoclaaTab
namespace Go.Proofs.Ytojhecllgkoclaa
open Go.RowKit Go.Deep Go.WideShapes
set_option linter.unusedVariables false
set_option maxRecDepth 20000

theorem nums_at {P : Program} {t : TypeId} {k : Nat} (h : NumsT P t k) (hk : P.cellsOf t = k) : NumsT P t (P.cellsOf t) := by rw [hk]; exact h
theorem numsT_int : NumsT Try.prog 3 1 := alli_int Try.underlying3
theorem numsT_ratio : NumsT Try.prog 24 2 := alli_struct Try.underlying24 (by kernel_rfl)
  ⟨rfl, nums_at numsT_int (by kernel_rfl), by kernel_rfl, nums_at numsT_int (by kernel_rfl), by change _ = _; kernel_rfl⟩
theorem numsT_way : NumsT Try.prog 113 3 := alli_struct Try.underlying113 (by kernel_rfl)
  ⟨rfl, nums_at numsT_int (by kernel_rfl), by kernel_rfl, nums_at numsT_int (by kernel_rfl), by kernel_rfl, nums_at numsT_int (by kernel_rfl), by change _ = _; kernel_rfl⟩
theorem numsT_tier : NumsT Try.prog 117 2 := alli_struct Try.underlying117 (by kernel_rfl)
  ⟨rfl, nums_at numsT_int (by kernel_rfl), by kernel_rfl, nums_at numsT_int (by kernel_rfl), by change _ = _; kernel_rfl⟩
theorem numsT_element : NumsT Try.prog 115 4 := alli_struct Try.underlying115 (by kernel_rfl)
  ⟨rfl, nums_at numsT_ratio (by kernel_rfl), by kernel_rfl, nums_at numsT_ratio (by kernel_rfl), by change _ = _; kernel_rfl⟩
theorem setup_open {H : Type} {enc : TypeId × Value → H} {w : World} {r : Reach} {b0 base : Nat} {held : Bool} {v : Value} {d : DataW H} {p : List MemPlace}
    (hv : Value.okWide Try.prog w r b0 30 v) (h : DataW.Trod enc Try.prog w base (fun _ => true) held 30 v d p) :
    ∃ (s : SetP) (A1 A2 A3 A4 A5 A6 : Option Addr) (c1 c2 c3 c4 c5 c6 : Nat), v = setV s A1 A2 A3 A4 A5 A6 c1 c2 c3 c4 c5 c6 ∧ SetAt w s A1 A2 A3 A4 A5 A6 c1 c2 c3 c4 c5 c6 ∧ s.Fit :=
  open_setup Try.underlying30 (by kernel_rfl) (by kernel_rfl) Try.underlying3 (by kernel_rfl) Try.underlying22 numsT_way (by kernel_rfl) numsT_ratio
    Try.underlying25 numsT_element (by kernel_rfl) Try.underlying26 numsT_ratio (by kernel_rfl) Try.underlying27 Try.underlying28 numsT_tier (by kernel_rfl) hv h
end Go.Proofs.Ytojhecllgkoclaa
