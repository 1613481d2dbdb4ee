/-
  No cell of these rows narrows 'for every input' (looked for: loops, veiled, ifaces, maps, wideKeys, modest, calm, conditions, laid).
  DERIVED. THE GIVEN ROWS OF THIS SEAT. 5 by the template 'for every input the law returns true; each argument reads behind the call as it read before'; 0 by the template 'total and deterministic' (their statements: YtfpocdibalbddaaTotals.lean).
  GIVEN WITH THE SEED: the statements are not yours to turn. If you find one false, say at which input.
  Laid BY PROGRAM, IN A SANDBOX (cutbox-rows.mjs): the forced cells as the released guide's own fill.sh prints them over the translation 1324b6241fd0ddca… (all of the seat's roots in one cut). By AI agents, Wed Nov 11 2026. No macro, syntax, notation, axiom, sorry.
-/
import Derived.Test.YtfpocdibalbddaaChecked
import GoSem.Claim
import GoSem.ClaimJoined
import GoSem.ClaimMapViews
import Derived.JoinedTies
import Derived.KernelRfl
namespace Go.Proofs.Ytfpocdibalbddaa
/- THE CELL 'sum', in the pinned program and in every row, IS THE sha256 OF THE DUMP (.gsa) THAT YtfpocdibalbddaaProg.lean LOADS. Nothing in Lean hashes anything: it is a label: what it is worth is what the hold of that sum in a sandbox is worth. -/
noncomputable def Try.pinned : Pinned := { name := "ytfpocdibalbddaa", sum := "1324b6241fd0ddca2af05db30dbbdfd780dcea33e1acd34c34ac333b9d12aaa8", checked := Try.checked }
namespace Rows
def none {H : Type} : Left H := { results := [], args := [] }

/-- 'lumperlaw07.SetupTells': WHATEVER THE INPUT: true; the input reads as it did. -/
def setupTellsSpec : ChangeSpec := { name := "setupTells", fn := fun _ => fun
  | [d1, d2] => { results := [.lit (.bool true)], args := [d1, d2] }
  | _ => none }
def setupTellsRow : OpenClaim := { program := "ytfpocdibalbddaa", sum := "1324b6241fd0ddca2af05db30dbbdfd780dcea33e1acd34c34ac333b9d12aaa8", func := "lumper/lumperlaw07.SetupTells", spec := "setupTells", unfollowed := true, recurses := true, apart := false }
def SetupTellsSaid : Prop := setupTellsRow.holds Try.pinned (OpenSpec.ofChange setupTellsSpec)

/-- ITS FALSE NEIGHBOUR: 'it returns false'. Refute it at one input. -/
def setupTellsWrong : ChangeSpec := { name := "setupTells", fn := fun _ => fun
  | [d1, d2] => { results := [.lit (.bool false)], args := [d1, d2] }
  | _ => none }
def SetupTellsWrongFalsely : Prop := setupTellsRow.holds Try.pinned (OpenSpec.ofChange setupTellsWrong)

/-- 'lumperlaw07.SetupBack': WHATEVER THE INPUT: true; the input reads as it did. -/
def setupBackSpec : ChangeSpec := { name := "setupBack", fn := fun _ => fun
  | [d1, d2] => { results := [.lit (.bool true)], args := [d1, d2] }
  | _ => none }
def setupBackRow : OpenClaim := { program := "ytfpocdibalbddaa", sum := "1324b6241fd0ddca2af05db30dbbdfd780dcea33e1acd34c34ac333b9d12aaa8", func := "lumper/lumperlaw07.SetupBack", spec := "setupBack", unfollowed := true, recurses := true, apart := false }
def SetupBackSaid : Prop := setupBackRow.holds Try.pinned (OpenSpec.ofChange setupBackSpec)

/-- ITS FALSE NEIGHBOUR: 'it returns false'. Refute it at one input. -/
def setupBackWrong : ChangeSpec := { name := "setupBack", fn := fun _ => fun
  | [d1, d2] => { results := [.lit (.bool false)], args := [d1, d2] }
  | _ => none }
def SetupBackWrongFalsely : Prop := setupBackRow.holds Try.pinned (OpenSpec.ofChange setupBackWrong)

/-- 'lumperlaw07.SetupApart': WHATEVER THE INPUT: true; the input reads as it did. -/
def setupApartSpec : ChangeSpec := { name := "setupApart", fn := fun _ => fun
  | [d1, d2] => { results := [.lit (.bool true)], args := [d1, d2] }
  | _ => none }
def setupApartRow : OpenClaim := { program := "ytfpocdibalbddaa", sum := "1324b6241fd0ddca2af05db30dbbdfd780dcea33e1acd34c34ac333b9d12aaa8", func := "lumper/lumperlaw07.SetupApart", spec := "setupApart", unfollowed := true, recurses := true, apart := false }
def SetupApartSaid : Prop := setupApartRow.holds Try.pinned (OpenSpec.ofChange setupApartSpec)

/-- ITS FALSE NEIGHBOUR: 'it returns false'. Refute it at one input. -/
def setupApartWrong : ChangeSpec := { name := "setupApart", fn := fun _ => fun
  | [d1, d2] => { results := [.lit (.bool false)], args := [d1, d2] }
  | _ => none }
def SetupApartWrongFalsely : Prop := setupApartRow.holds Try.pinned (OpenSpec.ofChange setupApartWrong)

/-- 'lumperlaw07.SetupCuts': WHATEVER THE INPUT: true; the input reads as it did. -/
def setupCutsSpec : ChangeSpec := { name := "setupCuts", fn := fun _ => fun
  | [d1, d2, d3] => { results := [.lit (.bool true)], args := [d1, d2, d3] }
  | _ => none }
def setupCutsRow : OpenClaim := { program := "ytfpocdibalbddaa", sum := "1324b6241fd0ddca2af05db30dbbdfd780dcea33e1acd34c34ac333b9d12aaa8", func := "lumper/lumperlaw07.SetupCuts", spec := "setupCuts", unfollowed := true, recurses := true, apart := false }
def SetupCutsSaid : Prop := setupCutsRow.holds Try.pinned (OpenSpec.ofChange setupCutsSpec)

/-- ITS FALSE NEIGHBOUR: 'it returns false'. Refute it at one input. -/
def setupCutsWrong : ChangeSpec := { name := "setupCuts", fn := fun _ => fun
  | [d1, d2, d3] => { results := [.lit (.bool false)], args := [d1, d2, d3] }
  | _ => none }
def SetupCutsWrongFalsely : Prop := setupCutsRow.holds Try.pinned (OpenSpec.ofChange setupCutsWrong)

/-- 'lumperlaw07.SetupBounds': WHATEVER THE INPUT: true; the input reads as it did. -/
def setupBoundsSpec : ChangeSpec := { name := "setupBounds", fn := fun _ => fun
  | [d1, d2] => { results := [.lit (.bool true)], args := [d1, d2] }
  | _ => none }
def setupBoundsRow : OpenClaim := { program := "ytfpocdibalbddaa", sum := "1324b6241fd0ddca2af05db30dbbdfd780dcea33e1acd34c34ac333b9d12aaa8", func := "lumper/lumperlaw07.SetupBounds", spec := "setupBounds", unfollowed := true, recurses := true, apart := false }
def SetupBoundsSaid : Prop := setupBoundsRow.holds Try.pinned (OpenSpec.ofChange setupBoundsSpec)

/-- ITS FALSE NEIGHBOUR: 'it returns false'. Refute it at one input. -/
def setupBoundsWrong : ChangeSpec := { name := "setupBounds", fn := fun _ => fun
  | [d1, d2] => { results := [.lit (.bool false)], args := [d1, d2] }
  | _ => none }
def SetupBoundsWrongFalsely : Prop := setupBoundsRow.holds Try.pinned (OpenSpec.ofChange setupBoundsWrong)

/- THE SECOND FORM. 'bulk': how many values and letters a reading holds, each counted each time it is reached (what is shared counts as often as it is met; a slice's spare places count too). A statement '..UptoSaid' is the law's where the arguments, and the package variables that the reading takes, are together of bulk at most 1048576: NARROWER than '..Said'. Prove '..Said' where nothing that the law and all that it calls make is longer than what came in: it says more and counts as full. Else prove '..UptoSaid'. A law counts once. -/
mutual
def uptoBulk {H : Type} : DataW H → Nat
  | .lit (.string bytes) => bytes.length + 1
  | .lit _ => 1
  | .nil => 1
  | .ptr d => uptoBulk d + 1
  | .slice elems spare => uptoBulkAll elems + uptoBulkAll spare + 1
  | .agg parts => uptoBulkAll parts + 1
  | .iface _ d => uptoBulk d + 1
  | .map entries => uptoBulkEntries entries + 1
  | .held _ => 1
def uptoBulkAll {H : Type} : List (DataW H) → Nat
  | [] => 0
  | d :: r => uptoBulk d + uptoBulkAll r
def uptoBulkEntries {H : Type} : List (Lit × DataW H) → Nat
  | [] => 0
  | x :: r => uptoBulkEntry x + uptoBulkEntries r
def uptoBulkEntry {H : Type} : Lit × DataW H → Nat
  | (.string bytes, d) => bytes.length + uptoBulk d + 1
  | (_, d) => uptoBulk d + 1
 end
def uptoSmall : (H : Type) → List (DataW H) → Bool := fun _ ds => decide (uptoBulkAll ds ≤ 1048576)
def OpenSpec.upto (s : _root_.Go.ChangeSpec) : _root_.Go.OpenSpec := { _root_.Go.OpenSpec.ofChange s with cond := some uptoSmall }

/-- 'lumperlaw07.SetupTells', WHERE WHAT IT READS IS OF BULK AT MOST 1048576: true; the input reads as it did. -/
def setupTellsUptoRow : OpenClaim := { program := "ytfpocdibalbddaa", sum := "1324b6241fd0ddca2af05db30dbbdfd780dcea33e1acd34c34ac333b9d12aaa8", func := "lumper/lumperlaw07.SetupTells", spec := "setupTells", unfollowed := true, recurses := true, apart := false, narrowed := true }
def SetupTellsUptoSaid : Prop := setupTellsUptoRow.holds Try.pinned (OpenSpec.upto setupTellsSpec)

/-- 'lumperlaw07.SetupBack', WHERE WHAT IT READS IS OF BULK AT MOST 1048576: true; the input reads as it did. -/
def setupBackUptoRow : OpenClaim := { program := "ytfpocdibalbddaa", sum := "1324b6241fd0ddca2af05db30dbbdfd780dcea33e1acd34c34ac333b9d12aaa8", func := "lumper/lumperlaw07.SetupBack", spec := "setupBack", unfollowed := true, recurses := true, apart := false, narrowed := true }
def SetupBackUptoSaid : Prop := setupBackUptoRow.holds Try.pinned (OpenSpec.upto setupBackSpec)

/-- 'lumperlaw07.SetupApart', WHERE WHAT IT READS IS OF BULK AT MOST 1048576: true; the input reads as it did. -/
def setupApartUptoRow : OpenClaim := { program := "ytfpocdibalbddaa", sum := "1324b6241fd0ddca2af05db30dbbdfd780dcea33e1acd34c34ac333b9d12aaa8", func := "lumper/lumperlaw07.SetupApart", spec := "setupApart", unfollowed := true, recurses := true, apart := false, narrowed := true }
def SetupApartUptoSaid : Prop := setupApartUptoRow.holds Try.pinned (OpenSpec.upto setupApartSpec)

/-- 'lumperlaw07.SetupCuts', WHERE WHAT IT READS IS OF BULK AT MOST 1048576: true; the input reads as it did. -/
def setupCutsUptoRow : OpenClaim := { program := "ytfpocdibalbddaa", sum := "1324b6241fd0ddca2af05db30dbbdfd780dcea33e1acd34c34ac333b9d12aaa8", func := "lumper/lumperlaw07.SetupCuts", spec := "setupCuts", unfollowed := true, recurses := true, apart := false, narrowed := true }
def SetupCutsUptoSaid : Prop := setupCutsUptoRow.holds Try.pinned (OpenSpec.upto setupCutsSpec)

/-- 'lumperlaw07.SetupBounds', WHERE WHAT IT READS IS OF BULK AT MOST 1048576: true; the input reads as it did. -/
def setupBoundsUptoRow : OpenClaim := { program := "ytfpocdibalbddaa", sum := "1324b6241fd0ddca2af05db30dbbdfd780dcea33e1acd34c34ac333b9d12aaa8", func := "lumper/lumperlaw07.SetupBounds", spec := "setupBounds", unfollowed := true, recurses := true, apart := false, narrowed := true }
def SetupBoundsUptoSaid : Prop := setupBoundsUptoRow.holds Try.pinned (OpenSpec.upto setupBoundsSpec)

end Rows
end Go.Proofs.Ytfpocdibalbddaa
