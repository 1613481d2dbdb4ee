/-
  A region that draws its order, by one word that holds whatever has come up: each operation keeps it, and where all have come up it gives what is asked. Over any program.
-/
import Derived.Deep.RegionHeld3
import Derived.Test.YtojhecllgkoclaaBase
namespace Go.Proofs.Ytojhecllgkoclaa
open Go.RowKit
set_option linter.unusedVariables false
/-- A slot that holds a value known. -/
def Fix (v x : Value) (w : World) : Prop := v = x
theorem Fix.below {v x : Value} {w w' : World} (h : Fix v x w) (_ : Below w.heap.size w w') : Fix v x w' := h

section
variable {P : Program} {ops : Array Oper} {Q : Exit → Act → World → Prop} {md : Region.Mode} {S : World → Prop}

/-- What the word I asks of one operation. -/
def StepAt (P : Program) (md : Region.Mode) (ops : Array Oper) (Q : Exit → Act → World → Prop) (I : Array Bool → Act → World → Prop) (i : Nat) (o : Oper) : Prop :=
  ∀ listed a w, I listed a w → listed.getD i true = false → (∀ e ∈ o.after.toList, Region.binds md e = true → listed.getD e.on false = true) →
    ∀ K' : Act → World → Prop, Shut (∀ a w, I (listed.setIfInBounds i true) a w → K' a w) → if Region.wanted o (yielded ops a.tmps) = true then Oper.wp P o a w K' Q else K' (a.put o.dst undef) w
def StepsFrom (P : Program) (md : Region.Mode) (ops : Array Oper) (Q : Exit → Act → World → Prop) (I : Array Bool → Act → World → Prop) (k : Nat) (os : List Oper) : Prop :=
  ∀ j o, os[j]? = some o → StepAt P md ops Q I (k + j) o
theorem StepsFrom.nil {I : Array Bool → Act → World → Prop} {k : Nat} : StepsFrom P md ops Q I k [] := fun j o h => by simp at h
end
end Go.Proofs.Ytojhecllgkoclaa
