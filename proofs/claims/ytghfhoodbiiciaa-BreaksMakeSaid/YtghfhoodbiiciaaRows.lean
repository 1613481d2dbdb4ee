/-
  No cell of these rows narrows 'for every input' (looked for: loops, veiled, ifaces, maps, wideKeys, modest, calm, conditions, laid).
  DERIVED. THE GIVEN ROWS OF THIS SEAT. 4 by the template 'for every input the law returns true; each argument reads behind the call as it read before'; 0 by the template 'total and deterministic' (their statements: YtghfhoodbiiciaaTotals.lean).
  GIVEN WITH THE SEED: the statements are not yours to turn. If you find one false, say at which input.
  Laid BY PROGRAM, IN A SANDBOX (cutbox-rows.mjs): the forced cells as the released guide's own fill.sh prints them over the translation f9c90b7ba1a6b338… (all of the seat's roots in one cut). By AI agents, Wed Nov 11 2026. No macro, syntax, notation, axiom, sorry.
-/
import Derived.Test.YtghfhoodbiiciaaChecked
import GoSem.Claim
import GoSem.ClaimJoined
import GoSem.ClaimMapViews
import Derived.JoinedTies
import Derived.KernelRfl
namespace Go.Proofs.Ytghfhoodbiiciaa
/- THE CELL 'sum', in the pinned program and in every row, IS THE sha256 OF THE DUMP (.gsa) THAT YtghfhoodbiiciaaProg.lean LOADS. Nothing in Lean hashes anything: it is a label: what it is worth is what the hold of that sum in a sandbox is worth. -/
noncomputable def Try.pinned : Pinned := { name := "ytghfhoodbiiciaa", sum := "f9c90b7ba1a6b338c6d066ffd01cae6e2b5eabfc234f3bfa195e065c01d34996", checked := Try.checked }
namespace Rows
def none {H : Type} : Left H := { results := [], args := [] }

/-- 'lumperlaw15.BreaksMake': WHATEVER THE INPUT: true; the input reads as it did. -/
def breaksMakeSpec : ChangeSpec := { name := "breaksMake", fn := fun _ => fun
  | [d1, d2] => { results := [.lit (.bool true)], args := [d1, d2] }
  | _ => none }
def breaksMakeRow : OpenClaim := { program := "ytghfhoodbiiciaa", sum := "f9c90b7ba1a6b338c6d066ffd01cae6e2b5eabfc234f3bfa195e065c01d34996", func := "lumper/lumperlaw15.BreaksMake", spec := "breaksMake", unfollowed := true, recurses := true, apart := false }
def BreaksMakeSaid : Prop := breaksMakeRow.holds Try.pinned (OpenSpec.ofChange breaksMakeSpec)

/-- ITS FALSE NEIGHBOUR: 'it returns false'. Refute it at one input. -/
def breaksMakeWrong : ChangeSpec := { name := "breaksMake", fn := fun _ => fun
  | [d1, d2] => { results := [.lit (.bool false)], args := [d1, d2] }
  | _ => none }
def BreaksMakeWrongFalsely : Prop := breaksMakeRow.holds Try.pinned (OpenSpec.ofChange breaksMakeWrong)

/-- 'lumperlaw15.BreaksSizes': WHATEVER THE INPUT: true; the input reads as it did. -/
def breaksSizesSpec : ChangeSpec := { name := "breaksSizes", fn := fun _ => fun
  | [d1, d2, d3] => { results := [.lit (.bool true)], args := [d1, d2, d3] }
  | _ => none }
def breaksSizesRow : OpenClaim := { program := "ytghfhoodbiiciaa", sum := "f9c90b7ba1a6b338c6d066ffd01cae6e2b5eabfc234f3bfa195e065c01d34996", func := "lumper/lumperlaw15.BreaksSizes", spec := "breaksSizes", unfollowed := true, recurses := true, apart := false }
def BreaksSizesSaid : Prop := breaksSizesRow.holds Try.pinned (OpenSpec.ofChange breaksSizesSpec)

/-- ITS FALSE NEIGHBOUR: 'it returns false'. Refute it at one input. -/
def breaksSizesWrong : ChangeSpec := { name := "breaksSizes", fn := fun _ => fun
  | [d1, d2, d3] => { results := [.lit (.bool false)], args := [d1, d2, d3] }
  | _ => none }
def BreaksSizesWrongFalsely : Prop := breaksSizesRow.holds Try.pinned (OpenSpec.ofChange breaksSizesWrong)

/-- 'lumperlaw15.BreaksDays': WHATEVER THE INPUT: true; the input reads as it did. -/
def breaksDaysSpec : ChangeSpec := { name := "breaksDays", fn := fun _ => fun
  | [d1, d2, d3] => { results := [.lit (.bool true)], args := [d1, d2, d3] }
  | _ => none }
def breaksDaysRow : OpenClaim := { program := "ytghfhoodbiiciaa", sum := "f9c90b7ba1a6b338c6d066ffd01cae6e2b5eabfc234f3bfa195e065c01d34996", func := "lumper/lumperlaw15.BreaksDays", spec := "breaksDays", unfollowed := true, recurses := true, apart := false }
def BreaksDaysSaid : Prop := breaksDaysRow.holds Try.pinned (OpenSpec.ofChange breaksDaysSpec)

/-- ITS FALSE NEIGHBOUR: 'it returns false'. Refute it at one input. -/
def breaksDaysWrong : ChangeSpec := { name := "breaksDays", fn := fun _ => fun
  | [d1, d2, d3] => { results := [.lit (.bool false)], args := [d1, d2, d3] }
  | _ => none }
def BreaksDaysWrongFalsely : Prop := breaksDaysRow.holds Try.pinned (OpenSpec.ofChange breaksDaysWrong)

/-- 'lumperlaw15.BreaksFirst': WHATEVER THE INPUT: true; the input reads as it did. -/
def breaksFirstSpec : ChangeSpec := { name := "breaksFirst", fn := fun _ => fun
  | [d1, d2, d3] => { results := [.lit (.bool true)], args := [d1, d2, d3] }
  | _ => none }
def breaksFirstRow : OpenClaim := { program := "ytghfhoodbiiciaa", sum := "f9c90b7ba1a6b338c6d066ffd01cae6e2b5eabfc234f3bfa195e065c01d34996", func := "lumper/lumperlaw15.BreaksFirst", spec := "breaksFirst", unfollowed := true, recurses := true, apart := false }
def BreaksFirstSaid : Prop := breaksFirstRow.holds Try.pinned (OpenSpec.ofChange breaksFirstSpec)

/-- ITS FALSE NEIGHBOUR: 'it returns false'. Refute it at one input. -/
def breaksFirstWrong : ChangeSpec := { name := "breaksFirst", fn := fun _ => fun
  | [d1, d2, d3] => { results := [.lit (.bool false)], args := [d1, d2, d3] }
  | _ => none }
def BreaksFirstWrongFalsely : Prop := breaksFirstRow.holds Try.pinned (OpenSpec.ofChange breaksFirstWrong)

/- THE SECOND FORM. 'bulk': how many values and letters a reading holds, each counted each time it is reached (what is shared counts as often as it is met; a slice's spare places count too). A statement '..UptoSaid' is the law's where the arguments, and the package variables that the reading takes, are together of bulk at most 1048576: NARROWER than '..Said'. Prove '..Said' where nothing that the law and all that it calls make is longer than what came in: it says more and counts as full. Else prove '..UptoSaid'. A law counts once. -/
mutual
def uptoBulk {H : Type} : DataW H → Nat
  | .lit (.string bytes) => bytes.length + 1
  | .lit _ => 1
  | .nil => 1
  | .ptr d => uptoBulk d + 1
  | .slice elems spare => uptoBulkAll elems + uptoBulkAll spare + 1
  | .agg parts => uptoBulkAll parts + 1
  | .iface _ d => uptoBulk d + 1
  | .map entries => uptoBulkEntries entries + 1
  | .held _ => 1
def uptoBulkAll {H : Type} : List (DataW H) → Nat
  | [] => 0
  | d :: r => uptoBulk d + uptoBulkAll r
def uptoBulkEntries {H : Type} : List (Lit × DataW H) → Nat
  | [] => 0
  | x :: r => uptoBulkEntry x + uptoBulkEntries r
def uptoBulkEntry {H : Type} : Lit × DataW H → Nat
  | (.string bytes, d) => bytes.length + uptoBulk d + 1
  | (_, d) => uptoBulk d + 1
 end
def uptoSmall : (H : Type) → List (DataW H) → Bool := fun _ ds => decide (uptoBulkAll ds ≤ 1048576)
def OpenSpec.upto (s : _root_.Go.ChangeSpec) : _root_.Go.OpenSpec := { _root_.Go.OpenSpec.ofChange s with cond := some uptoSmall }

/-- 'lumperlaw15.BreaksMake', WHERE WHAT IT READS IS OF BULK AT MOST 1048576: true; the input reads as it did. -/
def breaksMakeUptoRow : OpenClaim := { program := "ytghfhoodbiiciaa", sum := "f9c90b7ba1a6b338c6d066ffd01cae6e2b5eabfc234f3bfa195e065c01d34996", func := "lumper/lumperlaw15.BreaksMake", spec := "breaksMake", unfollowed := true, recurses := true, apart := false, narrowed := true }
def BreaksMakeUptoSaid : Prop := breaksMakeUptoRow.holds Try.pinned (OpenSpec.upto breaksMakeSpec)

/-- 'lumperlaw15.BreaksSizes', WHERE WHAT IT READS IS OF BULK AT MOST 1048576: true; the input reads as it did. -/
def breaksSizesUptoRow : OpenClaim := { program := "ytghfhoodbiiciaa", sum := "f9c90b7ba1a6b338c6d066ffd01cae6e2b5eabfc234f3bfa195e065c01d34996", func := "lumper/lumperlaw15.BreaksSizes", spec := "breaksSizes", unfollowed := true, recurses := true, apart := false, narrowed := true }
def BreaksSizesUptoSaid : Prop := breaksSizesUptoRow.holds Try.pinned (OpenSpec.upto breaksSizesSpec)

/-- 'lumperlaw15.BreaksDays', WHERE WHAT IT READS IS OF BULK AT MOST 1048576: true; the input reads as it did. -/
def breaksDaysUptoRow : OpenClaim := { program := "ytghfhoodbiiciaa", sum := "f9c90b7ba1a6b338c6d066ffd01cae6e2b5eabfc234f3bfa195e065c01d34996", func := "lumper/lumperlaw15.BreaksDays", spec := "breaksDays", unfollowed := true, recurses := true, apart := false, narrowed := true }
def BreaksDaysUptoSaid : Prop := breaksDaysUptoRow.holds Try.pinned (OpenSpec.upto breaksDaysSpec)

/-- 'lumperlaw15.BreaksFirst', WHERE WHAT IT READS IS OF BULK AT MOST 1048576: true; the input reads as it did. -/
def breaksFirstUptoRow : OpenClaim := { program := "ytghfhoodbiiciaa", sum := "f9c90b7ba1a6b338c6d066ffd01cae6e2b5eabfc234f3bfa195e065c01d34996", func := "lumper/lumperlaw15.BreaksFirst", spec := "breaksFirst", unfollowed := true, recurses := true, apart := false, narrowed := true }
def BreaksFirstUptoSaid : Prop := breaksFirstUptoRow.holds Try.pinned (OpenSpec.upto breaksFirstSpec)

end Rows
end Go.Proofs.Ytghfhoodbiiciaa
