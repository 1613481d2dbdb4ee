/-
  No cell of these rows narrows 'for every input' (looked for: loops, veiled, ifaces, maps, wideKeys, modest, calm, conditions, laid).
  DERIVED. THE GIVEN ROWS OF THIS SEAT. 5 by the template 'for every input the law returns true; each argument reads behind the call as it read before'; 0 by the template 'total and deterministic' (their statements: YtdlimgpmmkcgmaaGreatTotals.lean).
  GIVEN WITH THE SEED: the statements are not yours to turn. If you find one false, say at which input.
  Laid BY PROGRAM, IN A SANDBOX (cutbox-rows.mjs): the forced cells as the released guide's own fill.sh prints them over the translation 83609128f1e92a91… (all of the seat's roots in one cut). By AI agents, Wed Nov 11 2026. No macro, syntax, notation, axiom, sorry.
-/
import Derived.Test.YtdlimgpmmkcgmaaGreatChecked
import GoSem.Claim
import GoSem.ClaimJoined
import GoSem.ClaimMapViews
import Derived.JoinedTies
import Derived.KernelRfl
namespace Go.Proofs.YtdlimgpmmkcgmaaGreat
/- THE CELL 'sum', in the pinned program and in every row, IS THE sha256 OF THE DUMP (.gsa) THAT YtdlimgpmmkcgmaaGreatProg.lean LOADS. Nothing in Lean hashes anything: it is a label: what it is worth is what the hold of that sum in a sandbox is worth. -/
noncomputable def Tryz.pinned : Pinned := { name := "ytdlimgpmmkcgmaagreat", sum := "83609128f1e92a915498f27be162332629208bf6cc987093a3e8d1c4a563ba4a", checked := Tryz.checked }
namespace Rows
def none {H : Type} : Left H := { results := [], args := [] }

/-- 'lumperlaw17.SplitTells': WHATEVER THE INPUT: true; the input reads as it did. -/
def splitTellsSpec : ChangeSpec := { name := "splitTells", fn := fun _ => fun
  | [d1, d2, d3, d4] => { results := [.lit (.bool true)], args := [d1, d2, d3, d4] }
  | _ => none }
def splitTellsRow : OpenClaim := { program := "ytdlimgpmmkcgmaagreat", sum := "83609128f1e92a915498f27be162332629208bf6cc987093a3e8d1c4a563ba4a", func := "lumper/lumperlaw17.SplitTells", spec := "splitTells", unfollowed := true, recurses := true, apart := false }
def SplitTellsSaid : Prop := splitTellsRow.holds Tryz.pinned (OpenSpec.ofChange splitTellsSpec)

/-- ITS FALSE NEIGHBOUR: 'it returns false'. Refute it at one input. -/
def splitTellsWrong : ChangeSpec := { name := "splitTells", fn := fun _ => fun
  | [d1, d2, d3, d4] => { results := [.lit (.bool false)], args := [d1, d2, d3, d4] }
  | _ => none }
def SplitTellsWrongFalsely : Prop := splitTellsRow.holds Tryz.pinned (OpenSpec.ofChange splitTellsWrong)

/-- 'lumperlaw17.SplitOnce': WHATEVER THE INPUT: true; the input reads as it did. -/
def splitOnceSpec : ChangeSpec := { name := "splitOnce", fn := fun _ => fun
  | [d1, d2, d3] => { results := [.lit (.bool true)], args := [d1, d2, d3] }
  | _ => none }
def splitOnceRow : OpenClaim := { program := "ytdlimgpmmkcgmaagreat", sum := "83609128f1e92a915498f27be162332629208bf6cc987093a3e8d1c4a563ba4a", func := "lumper/lumperlaw17.SplitOnce", spec := "splitOnce", unfollowed := true, recurses := true, apart := false }
def SplitOnceSaid : Prop := splitOnceRow.holds Tryz.pinned (OpenSpec.ofChange splitOnceSpec)

/-- ITS FALSE NEIGHBOUR: 'it returns false'. Refute it at one input. -/
def splitOnceWrong : ChangeSpec := { name := "splitOnce", fn := fun _ => fun
  | [d1, d2, d3] => { results := [.lit (.bool false)], args := [d1, d2, d3] }
  | _ => none }
def SplitOnceWrongFalsely : Prop := splitOnceRow.holds Tryz.pinned (OpenSpec.ofChange splitOnceWrong)

/-- 'lumperlaw17.SplitTotals': WHATEVER THE INPUT: true; the input reads as it did. -/
def splitTotalsSpec : ChangeSpec := { name := "splitTotals", fn := fun _ => fun
  | [d1, d2, d3] => { results := [.lit (.bool true)], args := [d1, d2, d3] }
  | _ => none }
def splitTotalsRow : OpenClaim := { program := "ytdlimgpmmkcgmaagreat", sum := "83609128f1e92a915498f27be162332629208bf6cc987093a3e8d1c4a563ba4a", func := "lumper/lumperlaw17.SplitTotals", spec := "splitTotals", unfollowed := true, recurses := true, apart := false }
def SplitTotalsSaid : Prop := splitTotalsRow.holds Tryz.pinned (OpenSpec.ofChange splitTotalsSpec)

/-- ITS FALSE NEIGHBOUR: 'it returns false'. Refute it at one input. -/
def splitTotalsWrong : ChangeSpec := { name := "splitTotals", fn := fun _ => fun
  | [d1, d2, d3] => { results := [.lit (.bool false)], args := [d1, d2, d3] }
  | _ => none }
def SplitTotalsWrongFalsely : Prop := splitTotalsRow.holds Tryz.pinned (OpenSpec.ofChange splitTotalsWrong)

/-- 'lumperlaw17.SplitOver': WHATEVER THE INPUT: true; the input reads as it did. -/
def splitOverSpec : ChangeSpec := { name := "splitOver", fn := fun _ => fun
  | [d1, d2, d3] => { results := [.lit (.bool true)], args := [d1, d2, d3] }
  | _ => none }
def splitOverRow : OpenClaim := { program := "ytdlimgpmmkcgmaagreat", sum := "83609128f1e92a915498f27be162332629208bf6cc987093a3e8d1c4a563ba4a", func := "lumper/lumperlaw17.SplitOver", spec := "splitOver", unfollowed := true, recurses := true, apart := false }
def SplitOverSaid : Prop := splitOverRow.holds Tryz.pinned (OpenSpec.ofChange splitOverSpec)

/-- ITS FALSE NEIGHBOUR: 'it returns false'. Refute it at one input. -/
def splitOverWrong : ChangeSpec := { name := "splitOver", fn := fun _ => fun
  | [d1, d2, d3] => { results := [.lit (.bool false)], args := [d1, d2, d3] }
  | _ => none }
def SplitOverWrongFalsely : Prop := splitOverRow.holds Tryz.pinned (OpenSpec.ofChange splitOverWrong)

/-- 'lumperlaw17.SplitWeeks': WHATEVER THE INPUT: true; the input reads as it did. -/
def splitWeeksSpec : ChangeSpec := { name := "splitWeeks", fn := fun _ => fun
  | [d1, d2, d3] => { results := [.lit (.bool true)], args := [d1, d2, d3] }
  | _ => none }
def splitWeeksRow : OpenClaim := { program := "ytdlimgpmmkcgmaagreat", sum := "83609128f1e92a915498f27be162332629208bf6cc987093a3e8d1c4a563ba4a", func := "lumper/lumperlaw17.SplitWeeks", spec := "splitWeeks", unfollowed := true, recurses := true, apart := false }
def SplitWeeksSaid : Prop := splitWeeksRow.holds Tryz.pinned (OpenSpec.ofChange splitWeeksSpec)

/-- ITS FALSE NEIGHBOUR: 'it returns false'. Refute it at one input. -/
def splitWeeksWrong : ChangeSpec := { name := "splitWeeks", fn := fun _ => fun
  | [d1, d2, d3] => { results := [.lit (.bool false)], args := [d1, d2, d3] }
  | _ => none }
def SplitWeeksWrongFalsely : Prop := splitWeeksRow.holds Tryz.pinned (OpenSpec.ofChange splitWeeksWrong)

/- THE SECOND FORM. 'bulk': how many values and letters a reading holds, each counted each time it is reached (what is shared counts as often as it is met; a slice's spare places count too). A statement '..UptoSaid' is the law's where the arguments, and the package variables that the reading takes, are together of bulk at most 1048576: NARROWER than '..Said'. Prove '..Said' where nothing that the law and all that it calls make is longer than what came in: it says more and counts as full. Else prove '..UptoSaid'. A law counts once. -/
mutual
def uptoBulk {H : Type} : DataW H → Nat
  | .lit (.string bytes) => bytes.length + 1
  | .lit _ => 1
  | .nil => 1
  | .ptr d => uptoBulk d + 1
  | .slice elems spare => uptoBulkAll elems + uptoBulkAll spare + 1
  | .agg parts => uptoBulkAll parts + 1
  | .iface _ d => uptoBulk d + 1
  | .map entries => uptoBulkEntries entries + 1
  | .held _ => 1
def uptoBulkAll {H : Type} : List (DataW H) → Nat
  | [] => 0
  | d :: r => uptoBulk d + uptoBulkAll r
def uptoBulkEntries {H : Type} : List (Lit × DataW H) → Nat
  | [] => 0
  | x :: r => uptoBulkEntry x + uptoBulkEntries r
def uptoBulkEntry {H : Type} : Lit × DataW H → Nat
  | (.string bytes, d) => bytes.length + uptoBulk d + 1
  | (_, d) => uptoBulk d + 1
 end
def uptoSmall : (H : Type) → List (DataW H) → Bool := fun _ ds => decide (uptoBulkAll ds ≤ 1048576)
def OpenSpec.upto (s : _root_.Go.ChangeSpec) : _root_.Go.OpenSpec := { _root_.Go.OpenSpec.ofChange s with cond := some uptoSmall }

/-- 'lumperlaw17.SplitTells', WHERE WHAT IT READS IS OF BULK AT MOST 1048576: true; the input reads as it did. -/
def splitTellsUptoRow : OpenClaim := { program := "ytdlimgpmmkcgmaagreat", sum := "83609128f1e92a915498f27be162332629208bf6cc987093a3e8d1c4a563ba4a", func := "lumper/lumperlaw17.SplitTells", spec := "splitTells", unfollowed := true, recurses := true, apart := false, narrowed := true }
def SplitTellsUptoSaid : Prop := splitTellsUptoRow.holds Tryz.pinned (OpenSpec.upto splitTellsSpec)

/-- 'lumperlaw17.SplitOnce', WHERE WHAT IT READS IS OF BULK AT MOST 1048576: true; the input reads as it did. -/
def splitOnceUptoRow : OpenClaim := { program := "ytdlimgpmmkcgmaagreat", sum := "83609128f1e92a915498f27be162332629208bf6cc987093a3e8d1c4a563ba4a", func := "lumper/lumperlaw17.SplitOnce", spec := "splitOnce", unfollowed := true, recurses := true, apart := false, narrowed := true }
def SplitOnceUptoSaid : Prop := splitOnceUptoRow.holds Tryz.pinned (OpenSpec.upto splitOnceSpec)

/-- 'lumperlaw17.SplitTotals', WHERE WHAT IT READS IS OF BULK AT MOST 1048576: true; the input reads as it did. -/
def splitTotalsUptoRow : OpenClaim := { program := "ytdlimgpmmkcgmaagreat", sum := "83609128f1e92a915498f27be162332629208bf6cc987093a3e8d1c4a563ba4a", func := "lumper/lumperlaw17.SplitTotals", spec := "splitTotals", unfollowed := true, recurses := true, apart := false, narrowed := true }
def SplitTotalsUptoSaid : Prop := splitTotalsUptoRow.holds Tryz.pinned (OpenSpec.upto splitTotalsSpec)

/-- 'lumperlaw17.SplitOver', WHERE WHAT IT READS IS OF BULK AT MOST 1048576: true; the input reads as it did. -/
def splitOverUptoRow : OpenClaim := { program := "ytdlimgpmmkcgmaagreat", sum := "83609128f1e92a915498f27be162332629208bf6cc987093a3e8d1c4a563ba4a", func := "lumper/lumperlaw17.SplitOver", spec := "splitOver", unfollowed := true, recurses := true, apart := false, narrowed := true }
def SplitOverUptoSaid : Prop := splitOverUptoRow.holds Tryz.pinned (OpenSpec.upto splitOverSpec)

/-- 'lumperlaw17.SplitWeeks', WHERE WHAT IT READS IS OF BULK AT MOST 1048576: true; the input reads as it did. -/
def splitWeeksUptoRow : OpenClaim := { program := "ytdlimgpmmkcgmaagreat", sum := "83609128f1e92a915498f27be162332629208bf6cc987093a3e8d1c4a563ba4a", func := "lumper/lumperlaw17.SplitWeeks", spec := "splitWeeks", unfollowed := true, recurses := true, apart := false, narrowed := true }
def SplitWeeksUptoSaid : Prop := splitWeeksUptoRow.holds Tryz.pinned (OpenSpec.upto splitWeeksSpec)

end Rows
end Go.Proofs.YtdlimgpmmkcgmaaGreat
