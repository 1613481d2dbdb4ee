/-
  No cell of these rows narrows 'for every input' (looked for: loops, veiled, ifaces, maps, wideKeys, modest, calm, conditions, laid).
  DERIVED. THE GIVEN ROWS OF THIS SEAT. 3 by the template 'for every input the law returns true; each argument reads behind the call as it read before'; 0 by the template 'total and deterministic' (their statements: YthdolmhnjinlhaaTotals.lean).
  GIVEN WITH THE SEED: the statements are not yours to turn. If you find one false, say at which input.
  Laid BY PROGRAM, IN A SANDBOX (cutbox-rows.mjs): the forced cells as the released guide's own fill.sh prints them over the translation d411636035d77c36… (all of the seat's roots in one cut). By AI agents, Wed Nov 11 2026. No macro, syntax, notation, axiom, sorry.
-/
import Derived.Test.YthdolmhnjinlhaaChecked
import GoSem.Claim
import GoSem.ClaimJoined
import GoSem.ClaimMapViews
import Derived.JoinedTies
import Derived.KernelRfl
namespace Go.Proofs.Ythdolmhnjinlhaa
/- THE CELL 'sum', in the pinned program and in every row, IS THE sha256 OF THE DUMP (.gsa) THAT YthdolmhnjinlhaaProg.lean LOADS. Nothing in Lean hashes anything: it is a label: what it is worth is what the hold of that sum in a sandbox is worth. -/
noncomputable def Try.pinned : Pinned := { name := "ythdolmhnjinlhaa", sum := "d411636035d77c364555cff07b45d58406ac035f11bc78352f01d6602bc6b5cf", checked := Try.checked }
namespace Rows
def none {H : Type} : Left H := { results := [], args := [] }

/-- 'lumperlaw16.OverMakes': WHATEVER THE INPUT: true; the input reads as it did. -/
def overMakesSpec : ChangeSpec := { name := "overMakes", fn := fun _ => fun
  | [d1, d2, d3] => { results := [.lit (.bool true)], args := [d1, d2, d3] }
  | _ => none }
def overMakesRow : OpenClaim := { program := "ythdolmhnjinlhaa", sum := "d411636035d77c364555cff07b45d58406ac035f11bc78352f01d6602bc6b5cf", func := "lumper/lumperlaw16.OverMakes", spec := "overMakes", unfollowed := true, recurses := true, apart := false }
def OverMakesSaid : Prop := overMakesRow.holds Try.pinned (OpenSpec.ofChange overMakesSpec)

/-- ITS FALSE NEIGHBOUR: 'it returns false'. Refute it at one input. -/
def overMakesWrong : ChangeSpec := { name := "overMakes", fn := fun _ => fun
  | [d1, d2, d3] => { results := [.lit (.bool false)], args := [d1, d2, d3] }
  | _ => none }
def OverMakesWrongFalsely : Prop := overMakesRow.holds Try.pinned (OpenSpec.ofChange overMakesWrong)

/-- 'lumperlaw16.OverSizes': WHATEVER THE INPUT: true; the input reads as it did. -/
def overSizesSpec : ChangeSpec := { name := "overSizes", fn := fun _ => fun
  | [d1, d2, d3] => { results := [.lit (.bool true)], args := [d1, d2, d3] }
  | _ => none }
def overSizesRow : OpenClaim := { program := "ythdolmhnjinlhaa", sum := "d411636035d77c364555cff07b45d58406ac035f11bc78352f01d6602bc6b5cf", func := "lumper/lumperlaw16.OverSizes", spec := "overSizes", unfollowed := true, recurses := true, apart := false }
def OverSizesSaid : Prop := overSizesRow.holds Try.pinned (OpenSpec.ofChange overSizesSpec)

/-- ITS FALSE NEIGHBOUR: 'it returns false'. Refute it at one input. -/
def overSizesWrong : ChangeSpec := { name := "overSizes", fn := fun _ => fun
  | [d1, d2, d3] => { results := [.lit (.bool false)], args := [d1, d2, d3] }
  | _ => none }
def OverSizesWrongFalsely : Prop := overSizesRow.holds Try.pinned (OpenSpec.ofChange overSizesWrong)

/-- 'lumperlaw16.OverWeeks': WHATEVER THE INPUT: true; the input reads as it did. -/
def overWeeksSpec : ChangeSpec := { name := "overWeeks", fn := fun _ => fun
  | [d1, d2, d3, d4] => { results := [.lit (.bool true)], args := [d1, d2, d3, d4] }
  | _ => none }
def overWeeksRow : OpenClaim := { program := "ythdolmhnjinlhaa", sum := "d411636035d77c364555cff07b45d58406ac035f11bc78352f01d6602bc6b5cf", func := "lumper/lumperlaw16.OverWeeks", spec := "overWeeks", unfollowed := true, recurses := true, apart := false }
def OverWeeksSaid : Prop := overWeeksRow.holds Try.pinned (OpenSpec.ofChange overWeeksSpec)

/-- ITS FALSE NEIGHBOUR: 'it returns false'. Refute it at one input. -/
def overWeeksWrong : ChangeSpec := { name := "overWeeks", fn := fun _ => fun
  | [d1, d2, d3, d4] => { results := [.lit (.bool false)], args := [d1, d2, d3, d4] }
  | _ => none }
def OverWeeksWrongFalsely : Prop := overWeeksRow.holds Try.pinned (OpenSpec.ofChange overWeeksWrong)

/- THE SECOND FORM. 'bulk': how many values and letters a reading holds, each counted each time it is reached (what is shared counts as often as it is met; a slice's spare places count too). A statement '..UptoSaid' is the law's where the arguments, and the package variables that the reading takes, are together of bulk at most 1048576: NARROWER than '..Said'. Prove '..Said' where nothing that the law and all that it calls make is longer than what came in: it says more and counts as full. Else prove '..UptoSaid'. A law counts once. -/
mutual
def uptoBulk {H : Type} : DataW H → Nat
  | .lit (.string bytes) => bytes.length + 1
  | .lit _ => 1
  | .nil => 1
  | .ptr d => uptoBulk d + 1
  | .slice elems spare => uptoBulkAll elems + uptoBulkAll spare + 1
  | .agg parts => uptoBulkAll parts + 1
  | .iface _ d => uptoBulk d + 1
  | .map entries => uptoBulkEntries entries + 1
  | .held _ => 1
def uptoBulkAll {H : Type} : List (DataW H) → Nat
  | [] => 0
  | d :: r => uptoBulk d + uptoBulkAll r
def uptoBulkEntries {H : Type} : List (Lit × DataW H) → Nat
  | [] => 0
  | x :: r => uptoBulkEntry x + uptoBulkEntries r
def uptoBulkEntry {H : Type} : Lit × DataW H → Nat
  | (.string bytes, d) => bytes.length + uptoBulk d + 1
  | (_, d) => uptoBulk d + 1
 end
def uptoSmall : (H : Type) → List (DataW H) → Bool := fun _ ds => decide (uptoBulkAll ds ≤ 1048576)
def OpenSpec.upto (s : _root_.Go.ChangeSpec) : _root_.Go.OpenSpec := { _root_.Go.OpenSpec.ofChange s with cond := some uptoSmall }

/-- 'lumperlaw16.OverMakes', WHERE WHAT IT READS IS OF BULK AT MOST 1048576: true; the input reads as it did. -/
def overMakesUptoRow : OpenClaim := { program := "ythdolmhnjinlhaa", sum := "d411636035d77c364555cff07b45d58406ac035f11bc78352f01d6602bc6b5cf", func := "lumper/lumperlaw16.OverMakes", spec := "overMakes", unfollowed := true, recurses := true, apart := false, narrowed := true }
def OverMakesUptoSaid : Prop := overMakesUptoRow.holds Try.pinned (OpenSpec.upto overMakesSpec)

/-- 'lumperlaw16.OverSizes', WHERE WHAT IT READS IS OF BULK AT MOST 1048576: true; the input reads as it did. -/
def overSizesUptoRow : OpenClaim := { program := "ythdolmhnjinlhaa", sum := "d411636035d77c364555cff07b45d58406ac035f11bc78352f01d6602bc6b5cf", func := "lumper/lumperlaw16.OverSizes", spec := "overSizes", unfollowed := true, recurses := true, apart := false, narrowed := true }
def OverSizesUptoSaid : Prop := overSizesUptoRow.holds Try.pinned (OpenSpec.upto overSizesSpec)

/-- 'lumperlaw16.OverWeeks', WHERE WHAT IT READS IS OF BULK AT MOST 1048576: true; the input reads as it did. -/
def overWeeksUptoRow : OpenClaim := { program := "ythdolmhnjinlhaa", sum := "d411636035d77c364555cff07b45d58406ac035f11bc78352f01d6602bc6b5cf", func := "lumper/lumperlaw16.OverWeeks", spec := "overWeeks", unfollowed := true, recurses := true, apart := false, narrowed := true }
def OverWeeksUptoSaid : Prop := overWeeksUptoRow.holds Try.pinned (OpenSpec.upto overWeeksSpec)

end Rows
end Go.Proofs.Ythdolmhnjinlhaa
