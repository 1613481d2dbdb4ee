/-
  No cell of these rows narrows 'for every input' (looked for: loops, veiled, ifaces, maps, wideKeys, modest, calm, conditions, laid).
  DERIVED. THE GIVEN ROWS OF THIS SEAT. 5 by the template 'for every input the law returns true; each argument reads behind the call as it read before'; 0 by the template 'total and deterministic' (their statements: YtojhecllgkoclaaTotals.lean).
  GIVEN WITH THE SEED: the statements are not yours to turn. If you find one false, say at which input.
  Laid BY PROGRAM, IN A SANDBOX (cutbox-rows.mjs): the forced cells as the released guide's own fill.sh prints them over the translation 8a6df7adab4644fe… (all of the seat's roots in one cut). By AI agents, Wed Nov 11 2026. No macro, syntax, notation, axiom, sorry.
-/
import Derived.Test.YtojhecllgkoclaaChecked
import GoSem.Claim
import GoSem.ClaimJoined
import GoSem.ClaimMapViews
import Derived.JoinedTies
import Derived.KernelRfl
namespace Go.Proofs.Ytojhecllgkoclaa
/- THE CELL 'sum', in the pinned program and in every row, IS THE sha256 OF THE DUMP (.gsa) THAT YtojhecllgkoclaaProg.lean LOADS. Nothing in Lean hashes anything: it is a label: what it is worth is what the hold of that sum in a sandbox is worth. -/
noncomputable def Try.pinned : Pinned := { name := "ytojhecllgkoclaa", sum := "8a6df7adab4644fe49335fff45a2037382091a2317fb73ccfd35edd0ddf0c279", checked := Try.checked }
namespace Rows
def none {H : Type} : Left H := { results := [], args := [] }

/-- 'lumperlaw11.PunchTells': WHATEVER THE INPUT: true; the input reads as it did. -/
def punchTellsSpec : ChangeSpec := { name := "punchTells", fn := fun _ => fun
  | [d1, d2, d3, d4, d5] => { results := [.lit (.bool true)], args := [d1, d2, d3, d4, d5] }
  | _ => none }
def punchTellsRow : OpenClaim := { program := "ytojhecllgkoclaa", sum := "8a6df7adab4644fe49335fff45a2037382091a2317fb73ccfd35edd0ddf0c279", func := "lumper/lumperlaw11.PunchTells", spec := "punchTells", unfollowed := true, recurses := true, apart := false }
def PunchTellsSaid : Prop := punchTellsRow.holds Try.pinned (OpenSpec.ofChange punchTellsSpec)

/-- ITS FALSE NEIGHBOUR: 'it returns false'. Refute it at one input. -/
def punchTellsWrong : ChangeSpec := { name := "punchTells", fn := fun _ => fun
  | [d1, d2, d3, d4, d5] => { results := [.lit (.bool false)], args := [d1, d2, d3, d4, d5] }
  | _ => none }
def PunchTellsWrongFalsely : Prop := punchTellsRow.holds Try.pinned (OpenSpec.ofChange punchTellsWrong)

/-- 'lumperlaw11.PunchRounds': WHATEVER THE INPUT: true; the input reads as it did. -/
def punchRoundsSpec : ChangeSpec := { name := "punchRounds", fn := fun _ => fun
  | [d1, d2, d3] => { results := [.lit (.bool true)], args := [d1, d2, d3] }
  | _ => none }
def punchRoundsRow : OpenClaim := { program := "ytojhecllgkoclaa", sum := "8a6df7adab4644fe49335fff45a2037382091a2317fb73ccfd35edd0ddf0c279", func := "lumper/lumperlaw11.PunchRounds", spec := "punchRounds", unfollowed := true, recurses := true, apart := false }
def PunchRoundsSaid : Prop := punchRoundsRow.holds Try.pinned (OpenSpec.ofChange punchRoundsSpec)

/-- ITS FALSE NEIGHBOUR: 'it returns false'. Refute it at one input. -/
def punchRoundsWrong : ChangeSpec := { name := "punchRounds", fn := fun _ => fun
  | [d1, d2, d3] => { results := [.lit (.bool false)], args := [d1, d2, d3] }
  | _ => none }
def PunchRoundsWrongFalsely : Prop := punchRoundsRow.holds Try.pinned (OpenSpec.ofChange punchRoundsWrong)

/-- 'lumperlaw11.PunchDays': WHATEVER THE INPUT: true; the input reads as it did. -/
def punchDaysSpec : ChangeSpec := { name := "punchDays", fn := fun _ => fun
  | [d1, d2] => { results := [.lit (.bool true)], args := [d1, d2] }
  | _ => none }
def punchDaysRow : OpenClaim := { program := "ytojhecllgkoclaa", sum := "8a6df7adab4644fe49335fff45a2037382091a2317fb73ccfd35edd0ddf0c279", func := "lumper/lumperlaw11.PunchDays", spec := "punchDays", unfollowed := true, recurses := true, apart := false }
def PunchDaysSaid : Prop := punchDaysRow.holds Try.pinned (OpenSpec.ofChange punchDaysSpec)

/-- ITS FALSE NEIGHBOUR: 'it returns false'. Refute it at one input. -/
def punchDaysWrong : ChangeSpec := { name := "punchDays", fn := fun _ => fun
  | [d1, d2] => { results := [.lit (.bool false)], args := [d1, d2] }
  | _ => none }
def PunchDaysWrongFalsely : Prop := punchDaysRow.holds Try.pinned (OpenSpec.ofChange punchDaysWrong)

/-- 'lumperlaw11.PunchParts': WHATEVER THE INPUT: true; the input reads as it did. -/
def punchPartsSpec : ChangeSpec := { name := "punchParts", fn := fun _ => fun
  | [d1, d2] => { results := [.lit (.bool true)], args := [d1, d2] }
  | _ => none }
def punchPartsRow : OpenClaim := { program := "ytojhecllgkoclaa", sum := "8a6df7adab4644fe49335fff45a2037382091a2317fb73ccfd35edd0ddf0c279", func := "lumper/lumperlaw11.PunchParts", spec := "punchParts", unfollowed := true, recurses := true, apart := false }
def PunchPartsSaid : Prop := punchPartsRow.holds Try.pinned (OpenSpec.ofChange punchPartsSpec)

/-- ITS FALSE NEIGHBOUR: 'it returns false'. Refute it at one input. -/
def punchPartsWrong : ChangeSpec := { name := "punchParts", fn := fun _ => fun
  | [d1, d2] => { results := [.lit (.bool false)], args := [d1, d2] }
  | _ => none }
def PunchPartsWrongFalsely : Prop := punchPartsRow.holds Try.pinned (OpenSpec.ofChange punchPartsWrong)

/-- 'lumperlaw11.PunchHas': WHATEVER THE INPUT: true; the input reads as it did. -/
def punchHasSpec : ChangeSpec := { name := "punchHas", fn := fun _ => fun
  | [d1, d2, d3] => { results := [.lit (.bool true)], args := [d1, d2, d3] }
  | _ => none }
def punchHasRow : OpenClaim := { program := "ytojhecllgkoclaa", sum := "8a6df7adab4644fe49335fff45a2037382091a2317fb73ccfd35edd0ddf0c279", func := "lumper/lumperlaw11.PunchHas", spec := "punchHas", unfollowed := true, recurses := true, apart := false }
def PunchHasSaid : Prop := punchHasRow.holds Try.pinned (OpenSpec.ofChange punchHasSpec)

/-- ITS FALSE NEIGHBOUR: 'it returns false'. Refute it at one input. -/
def punchHasWrong : ChangeSpec := { name := "punchHas", fn := fun _ => fun
  | [d1, d2, d3] => { results := [.lit (.bool false)], args := [d1, d2, d3] }
  | _ => none }
def PunchHasWrongFalsely : Prop := punchHasRow.holds Try.pinned (OpenSpec.ofChange punchHasWrong)

/- THE SECOND FORM. 'bulk': how many values and letters a reading holds, each counted each time it is reached (what is shared counts as often as it is met; a slice's spare places count too). A statement '..UptoSaid' is the law's where the arguments, and the package variables that the reading takes, are together of bulk at most 1048576: NARROWER than '..Said'. Prove '..Said' where nothing that the law and all that it calls make is longer than what came in: it says more and counts as full. Else prove '..UptoSaid'. A law counts once. -/
mutual
def uptoBulk {H : Type} : DataW H → Nat
  | .lit (.string bytes) => bytes.length + 1
  | .lit _ => 1
  | .nil => 1
  | .ptr d => uptoBulk d + 1
  | .slice elems spare => uptoBulkAll elems + uptoBulkAll spare + 1
  | .agg parts => uptoBulkAll parts + 1
  | .iface _ d => uptoBulk d + 1
  | .map entries => uptoBulkEntries entries + 1
  | .held _ => 1
def uptoBulkAll {H : Type} : List (DataW H) → Nat
  | [] => 0
  | d :: r => uptoBulk d + uptoBulkAll r
def uptoBulkEntries {H : Type} : List (Lit × DataW H) → Nat
  | [] => 0
  | x :: r => uptoBulkEntry x + uptoBulkEntries r
def uptoBulkEntry {H : Type} : Lit × DataW H → Nat
  | (.string bytes, d) => bytes.length + uptoBulk d + 1
  | (_, d) => uptoBulk d + 1
 end
def uptoSmall : (H : Type) → List (DataW H) → Bool := fun _ ds => decide (uptoBulkAll ds ≤ 1048576)
def OpenSpec.upto (s : _root_.Go.ChangeSpec) : _root_.Go.OpenSpec := { _root_.Go.OpenSpec.ofChange s with cond := some uptoSmall }

/-- 'lumperlaw11.PunchTells', WHERE WHAT IT READS IS OF BULK AT MOST 1048576: true; the input reads as it did. -/
def punchTellsUptoRow : OpenClaim := { program := "ytojhecllgkoclaa", sum := "8a6df7adab4644fe49335fff45a2037382091a2317fb73ccfd35edd0ddf0c279", func := "lumper/lumperlaw11.PunchTells", spec := "punchTells", unfollowed := true, recurses := true, apart := false, narrowed := true }
def PunchTellsUptoSaid : Prop := punchTellsUptoRow.holds Try.pinned (OpenSpec.upto punchTellsSpec)

/-- 'lumperlaw11.PunchRounds', WHERE WHAT IT READS IS OF BULK AT MOST 1048576: true; the input reads as it did. -/
def punchRoundsUptoRow : OpenClaim := { program := "ytojhecllgkoclaa", sum := "8a6df7adab4644fe49335fff45a2037382091a2317fb73ccfd35edd0ddf0c279", func := "lumper/lumperlaw11.PunchRounds", spec := "punchRounds", unfollowed := true, recurses := true, apart := false, narrowed := true }
def PunchRoundsUptoSaid : Prop := punchRoundsUptoRow.holds Try.pinned (OpenSpec.upto punchRoundsSpec)

/-- 'lumperlaw11.PunchDays', WHERE WHAT IT READS IS OF BULK AT MOST 1048576: true; the input reads as it did. -/
def punchDaysUptoRow : OpenClaim := { program := "ytojhecllgkoclaa", sum := "8a6df7adab4644fe49335fff45a2037382091a2317fb73ccfd35edd0ddf0c279", func := "lumper/lumperlaw11.PunchDays", spec := "punchDays", unfollowed := true, recurses := true, apart := false, narrowed := true }
def PunchDaysUptoSaid : Prop := punchDaysUptoRow.holds Try.pinned (OpenSpec.upto punchDaysSpec)

/-- 'lumperlaw11.PunchParts', WHERE WHAT IT READS IS OF BULK AT MOST 1048576: true; the input reads as it did. -/
def punchPartsUptoRow : OpenClaim := { program := "ytojhecllgkoclaa", sum := "8a6df7adab4644fe49335fff45a2037382091a2317fb73ccfd35edd0ddf0c279", func := "lumper/lumperlaw11.PunchParts", spec := "punchParts", unfollowed := true, recurses := true, apart := false, narrowed := true }
def PunchPartsUptoSaid : Prop := punchPartsUptoRow.holds Try.pinned (OpenSpec.upto punchPartsSpec)

/-- 'lumperlaw11.PunchHas', WHERE WHAT IT READS IS OF BULK AT MOST 1048576: true; the input reads as it did. -/
def punchHasUptoRow : OpenClaim := { program := "ytojhecllgkoclaa", sum := "8a6df7adab4644fe49335fff45a2037382091a2317fb73ccfd35edd0ddf0c279", func := "lumper/lumperlaw11.PunchHas", spec := "punchHas", unfollowed := true, recurses := true, apart := false, narrowed := true }
def PunchHasUptoSaid : Prop := punchHasUptoRow.holds Try.pinned (OpenSpec.upto punchHasSpec)

end Rows
end Go.Proofs.Ytojhecllgkoclaa
