/-
  No cell of these rows narrows 'for every input' (looked for: loops, veiled, ifaces, maps, wideKeys, modest, calm, conditions, laid).
  DERIVED. THE GIVEN ROWS OF THIS SEAT. 5 by the template 'for every input the law returns true; each argument reads behind the call as it read before'; 0 by the template 'total and deterministic' (their statements: YtedkhjbnjkcemaaTotals.lean).
  GIVEN WITH THE SEED: the statements are not yours to turn. If you find one false, say at which input.
  Laid BY PROGRAM, IN A SANDBOX (cutbox-rows.mjs): the forced cells as the released guide's own fill.sh prints them over the translation 95b77297389f5b74… (all of the seat's roots in one cut). By AI agents, Wed Nov 11 2026. No macro, syntax, notation, axiom, sorry.
-/
import Derived.Test.YtedkhjbnjkcemaaChecked
import GoSem.Claim
import GoSem.ClaimJoined
import GoSem.ClaimMapViews
import Derived.JoinedTies
import Derived.KernelRfl
namespace Go.Proofs.Ytedkhjbnjkcemaa
/- THE CELL 'sum', in the pinned program and in every row, IS THE sha256 OF THE DUMP (.gsa) THAT YtedkhjbnjkcemaaProg.lean LOADS. Nothing in Lean hashes anything: it is a label: what it is worth is what the hold of that sum in a sandbox is worth. -/
noncomputable def Try.pinned : Pinned := { name := "ytedkhjbnjkcemaa", sum := "95b77297389f5b74ee84ee5fb3a900206f23cb6bf48457d54eb1b189b89aa799", checked := Try.checked }
namespace Rows
def none {H : Type} : Left H := { results := [], args := [] }

/-- 'lumperlaw13.FixesTell': WHATEVER THE INPUT: true; the input reads as it did. -/
def fixesTellSpec : ChangeSpec := { name := "fixesTell", fn := fun _ => fun
  | [d1, d2, d3, d4] => { results := [.lit (.bool true)], args := [d1, d2, d3, d4] }
  | _ => none }
def fixesTellRow : OpenClaim := { program := "ytedkhjbnjkcemaa", sum := "95b77297389f5b74ee84ee5fb3a900206f23cb6bf48457d54eb1b189b89aa799", func := "lumper/lumperlaw13.FixesTell", spec := "fixesTell", unfollowed := true, recurses := true, plainKeys := false, apart := false }
def FixesTellSaid : Prop := fixesTellRow.holds Try.pinned (OpenSpec.ofChange fixesTellSpec)

/-- ITS FALSE NEIGHBOUR: 'it returns false'. Refute it at one input. -/
def fixesTellWrong : ChangeSpec := { name := "fixesTell", fn := fun _ => fun
  | [d1, d2, d3, d4] => { results := [.lit (.bool false)], args := [d1, d2, d3, d4] }
  | _ => none }
def FixesTellWrongFalsely : Prop := fixesTellRow.holds Try.pinned (OpenSpec.ofChange fixesTellWrong)

/-- 'lumperlaw13.FixesBack': WHATEVER THE INPUT: true; the input reads as it did. -/
def fixesBackSpec : ChangeSpec := { name := "fixesBack", fn := fun _ => fun
  | [d1, d2, d3] => { results := [.lit (.bool true)], args := [d1, d2, d3] }
  | _ => none }
def fixesBackRow : OpenClaim := { program := "ytedkhjbnjkcemaa", sum := "95b77297389f5b74ee84ee5fb3a900206f23cb6bf48457d54eb1b189b89aa799", func := "lumper/lumperlaw13.FixesBack", spec := "fixesBack", unfollowed := true, recurses := true, plainKeys := false, apart := false }
def FixesBackSaid : Prop := fixesBackRow.holds Try.pinned (OpenSpec.ofChange fixesBackSpec)

/-- ITS FALSE NEIGHBOUR: 'it returns false'. Refute it at one input. -/
def fixesBackWrong : ChangeSpec := { name := "fixesBack", fn := fun _ => fun
  | [d1, d2, d3] => { results := [.lit (.bool false)], args := [d1, d2, d3] }
  | _ => none }
def FixesBackWrongFalsely : Prop := fixesBackRow.holds Try.pinned (OpenSpec.ofChange fixesBackWrong)

/-- 'lumperlaw13.FixesTurn': WHATEVER THE INPUT: true; the input reads as it did. -/
def fixesTurnSpec : ChangeSpec := { name := "fixesTurn", fn := fun _ => fun
  | [d1, d2, d3, d4] => { results := [.lit (.bool true)], args := [d1, d2, d3, d4] }
  | _ => none }
def fixesTurnRow : OpenClaim := { program := "ytedkhjbnjkcemaa", sum := "95b77297389f5b74ee84ee5fb3a900206f23cb6bf48457d54eb1b189b89aa799", func := "lumper/lumperlaw13.FixesTurn", spec := "fixesTurn", unfollowed := true, recurses := true, plainKeys := false, apart := false }
def FixesTurnSaid : Prop := fixesTurnRow.holds Try.pinned (OpenSpec.ofChange fixesTurnSpec)

/-- ITS FALSE NEIGHBOUR: 'it returns false'. Refute it at one input. -/
def fixesTurnWrong : ChangeSpec := { name := "fixesTurn", fn := fun _ => fun
  | [d1, d2, d3, d4] => { results := [.lit (.bool false)], args := [d1, d2, d3, d4] }
  | _ => none }
def FixesTurnWrongFalsely : Prop := fixesTurnRow.holds Try.pinned (OpenSpec.ofChange fixesTurnWrong)

/-- 'lumperlaw13.FixesTouch': WHATEVER THE INPUT: true; the input reads as it did. -/
def fixesTouchSpec : ChangeSpec := { name := "fixesTouch", fn := fun _ => fun
  | [d1, d2, d3] => { results := [.lit (.bool true)], args := [d1, d2, d3] }
  | _ => none }
def fixesTouchRow : OpenClaim := { program := "ytedkhjbnjkcemaa", sum := "95b77297389f5b74ee84ee5fb3a900206f23cb6bf48457d54eb1b189b89aa799", func := "lumper/lumperlaw13.FixesTouch", spec := "fixesTouch", unfollowed := true, recurses := true, plainKeys := false, apart := false }
def FixesTouchSaid : Prop := fixesTouchRow.holds Try.pinned (OpenSpec.ofChange fixesTouchSpec)

/-- ITS FALSE NEIGHBOUR: 'it returns false'. Refute it at one input. -/
def fixesTouchWrong : ChangeSpec := { name := "fixesTouch", fn := fun _ => fun
  | [d1, d2, d3] => { results := [.lit (.bool false)], args := [d1, d2, d3] }
  | _ => none }
def FixesTouchWrongFalsely : Prop := fixesTouchRow.holds Try.pinned (OpenSpec.ofChange fixesTouchWrong)

/-- 'lumperlaw13.FixesOnly': WHATEVER THE INPUT: true; the input reads as it did. -/
def fixesOnlySpec : ChangeSpec := { name := "fixesOnly", fn := fun _ => fun
  | [d1, d2, d3] => { results := [.lit (.bool true)], args := [d1, d2, d3] }
  | _ => none }
def fixesOnlyRow : OpenClaim := { program := "ytedkhjbnjkcemaa", sum := "95b77297389f5b74ee84ee5fb3a900206f23cb6bf48457d54eb1b189b89aa799", func := "lumper/lumperlaw13.FixesOnly", spec := "fixesOnly", unfollowed := true, recurses := true, plainKeys := false, apart := false }
def FixesOnlySaid : Prop := fixesOnlyRow.holds Try.pinned (OpenSpec.ofChange fixesOnlySpec)

/-- ITS FALSE NEIGHBOUR: 'it returns false'. Refute it at one input. -/
def fixesOnlyWrong : ChangeSpec := { name := "fixesOnly", fn := fun _ => fun
  | [d1, d2, d3] => { results := [.lit (.bool false)], args := [d1, d2, d3] }
  | _ => none }
def FixesOnlyWrongFalsely : Prop := fixesOnlyRow.holds Try.pinned (OpenSpec.ofChange fixesOnlyWrong)

/- THE SECOND FORM. 'bulk': how many values and letters a reading holds, each counted each time it is reached (what is shared counts as often as it is met; a slice's spare places count too). A statement '..UptoSaid' is the law's where the arguments, and the package variables that the reading takes, are together of bulk at most 1048576: NARROWER than '..Said'. Prove '..Said' where nothing that the law and all that it calls make is longer than what came in: it says more and counts as full. Else prove '..UptoSaid'. A law counts once. -/
mutual
def uptoBulk {H : Type} : DataW H → Nat
  | .lit (.string bytes) => bytes.length + 1
  | .lit _ => 1
  | .nil => 1
  | .ptr d => uptoBulk d + 1
  | .slice elems spare => uptoBulkAll elems + uptoBulkAll spare + 1
  | .agg parts => uptoBulkAll parts + 1
  | .iface _ d => uptoBulk d + 1
  | .map entries => uptoBulkEntries entries + 1
  | .held _ => 1
def uptoBulkAll {H : Type} : List (DataW H) → Nat
  | [] => 0
  | d :: r => uptoBulk d + uptoBulkAll r
def uptoBulkEntries {H : Type} : List (Lit × DataW H) → Nat
  | [] => 0
  | x :: r => uptoBulkEntry x + uptoBulkEntries r
def uptoBulkEntry {H : Type} : Lit × DataW H → Nat
  | (.string bytes, d) => bytes.length + uptoBulk d + 1
  | (_, d) => uptoBulk d + 1
 end
def uptoSmall : (H : Type) → List (DataW H) → Bool := fun _ ds => decide (uptoBulkAll ds ≤ 1048576)
def OpenSpec.upto (s : _root_.Go.ChangeSpec) : _root_.Go.OpenSpec := { _root_.Go.OpenSpec.ofChange s with cond := some uptoSmall }

/-- 'lumperlaw13.FixesTell', WHERE WHAT IT READS IS OF BULK AT MOST 1048576: true; the input reads as it did. -/
def fixesTellUptoRow : OpenClaim := { program := "ytedkhjbnjkcemaa", sum := "95b77297389f5b74ee84ee5fb3a900206f23cb6bf48457d54eb1b189b89aa799", func := "lumper/lumperlaw13.FixesTell", spec := "fixesTell", unfollowed := true, recurses := true, plainKeys := false, apart := false, narrowed := true }
def FixesTellUptoSaid : Prop := fixesTellUptoRow.holds Try.pinned (OpenSpec.upto fixesTellSpec)

/-- 'lumperlaw13.FixesBack', WHERE WHAT IT READS IS OF BULK AT MOST 1048576: true; the input reads as it did. -/
def fixesBackUptoRow : OpenClaim := { program := "ytedkhjbnjkcemaa", sum := "95b77297389f5b74ee84ee5fb3a900206f23cb6bf48457d54eb1b189b89aa799", func := "lumper/lumperlaw13.FixesBack", spec := "fixesBack", unfollowed := true, recurses := true, plainKeys := false, apart := false, narrowed := true }
def FixesBackUptoSaid : Prop := fixesBackUptoRow.holds Try.pinned (OpenSpec.upto fixesBackSpec)

/-- 'lumperlaw13.FixesTurn', WHERE WHAT IT READS IS OF BULK AT MOST 1048576: true; the input reads as it did. -/
def fixesTurnUptoRow : OpenClaim := { program := "ytedkhjbnjkcemaa", sum := "95b77297389f5b74ee84ee5fb3a900206f23cb6bf48457d54eb1b189b89aa799", func := "lumper/lumperlaw13.FixesTurn", spec := "fixesTurn", unfollowed := true, recurses := true, plainKeys := false, apart := false, narrowed := true }
def FixesTurnUptoSaid : Prop := fixesTurnUptoRow.holds Try.pinned (OpenSpec.upto fixesTurnSpec)

/-- 'lumperlaw13.FixesTouch', WHERE WHAT IT READS IS OF BULK AT MOST 1048576: true; the input reads as it did. -/
def fixesTouchUptoRow : OpenClaim := { program := "ytedkhjbnjkcemaa", sum := "95b77297389f5b74ee84ee5fb3a900206f23cb6bf48457d54eb1b189b89aa799", func := "lumper/lumperlaw13.FixesTouch", spec := "fixesTouch", unfollowed := true, recurses := true, plainKeys := false, apart := false, narrowed := true }
def FixesTouchUptoSaid : Prop := fixesTouchUptoRow.holds Try.pinned (OpenSpec.upto fixesTouchSpec)

/-- 'lumperlaw13.FixesOnly', WHERE WHAT IT READS IS OF BULK AT MOST 1048576: true; the input reads as it did. -/
def fixesOnlyUptoRow : OpenClaim := { program := "ytedkhjbnjkcemaa", sum := "95b77297389f5b74ee84ee5fb3a900206f23cb6bf48457d54eb1b189b89aa799", func := "lumper/lumperlaw13.FixesOnly", spec := "fixesOnly", unfollowed := true, recurses := true, plainKeys := false, apart := false, narrowed := true }
def FixesOnlyUptoSaid : Prop := fixesOnlyUptoRow.holds Try.pinned (OpenSpec.upto fixesOnlySpec)

end Rows
end Go.Proofs.Ytedkhjbnjkcemaa
