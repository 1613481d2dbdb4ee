/-
  No cell of these rows narrows 'for every input' (looked for: loops, veiled, ifaces, maps, wideKeys, modest, calm, conditions, laid).
  DERIVED. THE GIVEN ROWS OF THIS SEAT. 5 by the template 'for every input the law returns true; each argument reads behind the call as it read before'; 0 by the template 'total and deterministic' (their statements: YtcnekicfblbafaaTotals.lean).
  GIVEN WITH THE SEED: the statements are not yours to turn. If you find one false, say at which input.
  Laid BY PROGRAM, IN A SANDBOX (cutbox-rows.mjs): the forced cells as the released guide's own fill.sh prints them over the translation 4f73b70e4b53db0e… (all of the seat's roots in one cut). By AI agents, Wed Nov 11 2026. No macro, syntax, notation, axiom, sorry.
-/
import Derived.Test.YtcnekicfblbafaaChecked
import GoSem.Claim
import GoSem.ClaimJoined
import GoSem.ClaimMapViews
import Derived.JoinedTies
import Derived.KernelRfl
namespace Go.Proofs.Ytcnekicfblbafaa
/- THE CELL 'sum', in the pinned program and in every row, IS THE sha256 OF THE DUMP (.gsa) THAT YtcnekicfblbafaaProg.lean LOADS. Nothing in Lean hashes anything: it is a label: what it is worth is what the hold of that sum in a sandbox is worth. -/
noncomputable def Try.pinned : Pinned := { name := "ytcnekicfblbafaa", sum := "4f73b70e4b53db0e8e34eab73a20dc885cb635254a79a00f8e96ba81b1ff07fd", checked := Try.checked }
namespace Rows
def none {H : Type} : Left H := { results := [], args := [] }

/-- 'lumperlaw09.WayTells': WHATEVER THE INPUT: true; the input reads as it did. -/
def wayTellsSpec : ChangeSpec := { name := "wayTells", fn := fun _ => fun
  | [d1, d2, d3] => { results := [.lit (.bool true)], args := [d1, d2, d3] }
  | _ => none }
def wayTellsRow : OpenClaim := { program := "ytcnekicfblbafaa", sum := "4f73b70e4b53db0e8e34eab73a20dc885cb635254a79a00f8e96ba81b1ff07fd", func := "lumper/lumperlaw09.WayTells", spec := "wayTells", unfollowed := true, recurses := true, apart := false }
def WayTellsSaid : Prop := wayTellsRow.holds Try.pinned (OpenSpec.ofChange wayTellsSpec)

/-- ITS FALSE NEIGHBOUR: 'it returns false'. Refute it at one input. -/
def wayTellsWrong : ChangeSpec := { name := "wayTells", fn := fun _ => fun
  | [d1, d2, d3] => { results := [.lit (.bool false)], args := [d1, d2, d3] }
  | _ => none }
def WayTellsWrongFalsely : Prop := wayTellsRow.holds Try.pinned (OpenSpec.ofChange wayTellsWrong)

/-- 'lumperlaw09.WayTurns': WHATEVER THE INPUT: true; the input reads as it did. -/
def wayTurnsSpec : ChangeSpec := { name := "wayTurns", fn := fun _ => fun
  | [d] => { results := [.lit (.bool true)], args := [d] }
  | _ => none }
def wayTurnsRow : OpenClaim := { program := "ytcnekicfblbafaa", sum := "4f73b70e4b53db0e8e34eab73a20dc885cb635254a79a00f8e96ba81b1ff07fd", func := "lumper/lumperlaw09.WayTurns", spec := "wayTurns", unfollowed := true, recurses := true, apart := false }
def WayTurnsSaid : Prop := wayTurnsRow.holds Try.pinned (OpenSpec.ofChange wayTurnsSpec)

/-- ITS FALSE NEIGHBOUR: 'it returns false'. Refute it at one input. -/
def wayTurnsWrong : ChangeSpec := { name := "wayTurns", fn := fun _ => fun
  | [d] => { results := [.lit (.bool false)], args := [d] }
  | _ => none }
def WayTurnsWrongFalsely : Prop := wayTurnsRow.holds Try.pinned (OpenSpec.ofChange wayTurnsWrong)

/-- 'lumperlaw09.WayThree': WHATEVER THE INPUT: true; the input reads as it did. -/
def wayThreeSpec : ChangeSpec := { name := "wayThree", fn := fun _ => fun
  | [d] => { results := [.lit (.bool true)], args := [d] }
  | _ => none }
def wayThreeRow : OpenClaim := { program := "ytcnekicfblbafaa", sum := "4f73b70e4b53db0e8e34eab73a20dc885cb635254a79a00f8e96ba81b1ff07fd", func := "lumper/lumperlaw09.WayThree", spec := "wayThree", unfollowed := true, recurses := true, apart := false }
def WayThreeSaid : Prop := wayThreeRow.holds Try.pinned (OpenSpec.ofChange wayThreeSpec)

/-- ITS FALSE NEIGHBOUR: 'it returns false'. Refute it at one input. -/
def wayThreeWrong : ChangeSpec := { name := "wayThree", fn := fun _ => fun
  | [d] => { results := [.lit (.bool false)], args := [d] }
  | _ => none }
def WayThreeWrongFalsely : Prop := wayThreeRow.holds Try.pinned (OpenSpec.ofChange wayThreeWrong)

/-- 'lumperlaw09.WayLast': WHATEVER THE INPUT: true; the input reads as it did. -/
def wayLastSpec : ChangeSpec := { name := "wayLast", fn := fun _ => fun
  | [d1, d2] => { results := [.lit (.bool true)], args := [d1, d2] }
  | _ => none }
def wayLastRow : OpenClaim := { program := "ytcnekicfblbafaa", sum := "4f73b70e4b53db0e8e34eab73a20dc885cb635254a79a00f8e96ba81b1ff07fd", func := "lumper/lumperlaw09.WayLast", spec := "wayLast", unfollowed := true, recurses := true, apart := false }
def WayLastSaid : Prop := wayLastRow.holds Try.pinned (OpenSpec.ofChange wayLastSpec)

/-- ITS FALSE NEIGHBOUR: 'it returns false'. Refute it at one input. -/
def wayLastWrong : ChangeSpec := { name := "wayLast", fn := fun _ => fun
  | [d1, d2] => { results := [.lit (.bool false)], args := [d1, d2] }
  | _ => none }
def WayLastWrongFalsely : Prop := wayLastRow.holds Try.pinned (OpenSpec.ofChange wayLastWrong)

/-- 'lumperlaw09.WayMore': WHATEVER THE INPUT: true; the input reads as it did. -/
def wayMoreSpec : ChangeSpec := { name := "wayMore", fn := fun _ => fun
  | [d1, d2] => { results := [.lit (.bool true)], args := [d1, d2] }
  | _ => none }
def wayMoreRow : OpenClaim := { program := "ytcnekicfblbafaa", sum := "4f73b70e4b53db0e8e34eab73a20dc885cb635254a79a00f8e96ba81b1ff07fd", func := "lumper/lumperlaw09.WayMore", spec := "wayMore", unfollowed := true, recurses := true, apart := false }
def WayMoreSaid : Prop := wayMoreRow.holds Try.pinned (OpenSpec.ofChange wayMoreSpec)

/-- ITS FALSE NEIGHBOUR: 'it returns false'. Refute it at one input. -/
def wayMoreWrong : ChangeSpec := { name := "wayMore", fn := fun _ => fun
  | [d1, d2] => { results := [.lit (.bool false)], args := [d1, d2] }
  | _ => none }
def WayMoreWrongFalsely : Prop := wayMoreRow.holds Try.pinned (OpenSpec.ofChange wayMoreWrong)

/- THE SECOND FORM. 'bulk': how many values and letters a reading holds, each counted each time it is reached (what is shared counts as often as it is met; a slice's spare places count too). A statement '..UptoSaid' is the law's where the arguments, and the package variables that the reading takes, are together of bulk at most 1048576: NARROWER than '..Said'. Prove '..Said' where nothing that the law and all that it calls make is longer than what came in: it says more and counts as full. Else prove '..UptoSaid'. A law counts once. -/
mutual
def uptoBulk {H : Type} : DataW H → Nat
  | .lit (.string bytes) => bytes.length + 1
  | .lit _ => 1
  | .nil => 1
  | .ptr d => uptoBulk d + 1
  | .slice elems spare => uptoBulkAll elems + uptoBulkAll spare + 1
  | .agg parts => uptoBulkAll parts + 1
  | .iface _ d => uptoBulk d + 1
  | .map entries => uptoBulkEntries entries + 1
  | .held _ => 1
def uptoBulkAll {H : Type} : List (DataW H) → Nat
  | [] => 0
  | d :: r => uptoBulk d + uptoBulkAll r
def uptoBulkEntries {H : Type} : List (Lit × DataW H) → Nat
  | [] => 0
  | x :: r => uptoBulkEntry x + uptoBulkEntries r
def uptoBulkEntry {H : Type} : Lit × DataW H → Nat
  | (.string bytes, d) => bytes.length + uptoBulk d + 1
  | (_, d) => uptoBulk d + 1
 end
def uptoSmall : (H : Type) → List (DataW H) → Bool := fun _ ds => decide (uptoBulkAll ds ≤ 1048576)
def OpenSpec.upto (s : _root_.Go.ChangeSpec) : _root_.Go.OpenSpec := { _root_.Go.OpenSpec.ofChange s with cond := some uptoSmall }

/-- 'lumperlaw09.WayTells', WHERE WHAT IT READS IS OF BULK AT MOST 1048576: true; the input reads as it did. -/
def wayTellsUptoRow : OpenClaim := { program := "ytcnekicfblbafaa", sum := "4f73b70e4b53db0e8e34eab73a20dc885cb635254a79a00f8e96ba81b1ff07fd", func := "lumper/lumperlaw09.WayTells", spec := "wayTells", unfollowed := true, recurses := true, apart := false, narrowed := true }
def WayTellsUptoSaid : Prop := wayTellsUptoRow.holds Try.pinned (OpenSpec.upto wayTellsSpec)

/-- 'lumperlaw09.WayTurns', WHERE WHAT IT READS IS OF BULK AT MOST 1048576: true; the input reads as it did. -/
def wayTurnsUptoRow : OpenClaim := { program := "ytcnekicfblbafaa", sum := "4f73b70e4b53db0e8e34eab73a20dc885cb635254a79a00f8e96ba81b1ff07fd", func := "lumper/lumperlaw09.WayTurns", spec := "wayTurns", unfollowed := true, recurses := true, apart := false, narrowed := true }
def WayTurnsUptoSaid : Prop := wayTurnsUptoRow.holds Try.pinned (OpenSpec.upto wayTurnsSpec)

/-- 'lumperlaw09.WayThree', WHERE WHAT IT READS IS OF BULK AT MOST 1048576: true; the input reads as it did. -/
def wayThreeUptoRow : OpenClaim := { program := "ytcnekicfblbafaa", sum := "4f73b70e4b53db0e8e34eab73a20dc885cb635254a79a00f8e96ba81b1ff07fd", func := "lumper/lumperlaw09.WayThree", spec := "wayThree", unfollowed := true, recurses := true, apart := false, narrowed := true }
def WayThreeUptoSaid : Prop := wayThreeUptoRow.holds Try.pinned (OpenSpec.upto wayThreeSpec)

/-- 'lumperlaw09.WayLast', WHERE WHAT IT READS IS OF BULK AT MOST 1048576: true; the input reads as it did. -/
def wayLastUptoRow : OpenClaim := { program := "ytcnekicfblbafaa", sum := "4f73b70e4b53db0e8e34eab73a20dc885cb635254a79a00f8e96ba81b1ff07fd", func := "lumper/lumperlaw09.WayLast", spec := "wayLast", unfollowed := true, recurses := true, apart := false, narrowed := true }
def WayLastUptoSaid : Prop := wayLastUptoRow.holds Try.pinned (OpenSpec.upto wayLastSpec)

/-- 'lumperlaw09.WayMore', WHERE WHAT IT READS IS OF BULK AT MOST 1048576: true; the input reads as it did. -/
def wayMoreUptoRow : OpenClaim := { program := "ytcnekicfblbafaa", sum := "4f73b70e4b53db0e8e34eab73a20dc885cb635254a79a00f8e96ba81b1ff07fd", func := "lumper/lumperlaw09.WayMore", spec := "wayMore", unfollowed := true, recurses := true, apart := false, narrowed := true }
def WayMoreUptoSaid : Prop := wayMoreUptoRow.holds Try.pinned (OpenSpec.upto wayMoreSpec)

end Rows
end Go.Proofs.Ytcnekicfblbafaa
