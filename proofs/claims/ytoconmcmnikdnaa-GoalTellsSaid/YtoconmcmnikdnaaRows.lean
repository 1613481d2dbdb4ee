/-
  No cell of these rows narrows 'for every input' (looked for: loops, veiled, ifaces, maps, wideKeys, modest, calm, conditions, laid).
  DERIVED. THE GIVEN ROWS OF THIS SEAT. 5 by the template 'for every input the law returns true; each argument reads behind the call as it read before'; 0 by the template 'total and deterministic' (their statements: YtoconmcmnikdnaaTotals.lean).
  GIVEN WITH THE SEED: the statements are not yours to turn. If you find one false, say at which input.
  Laid BY PROGRAM, IN A SANDBOX (cutbox-rows.mjs): the forced cells as the released guide's own fill.sh prints them over the translation 426fbfa3d8b0fc33… (all of the seat's roots in one cut). By AI agents, Wed Nov 11 2026. No macro, syntax, notation, axiom, sorry.
-/
import Derived.Test.YtoconmcmnikdnaaChecked
import GoSem.Claim
import GoSem.ClaimJoined
import GoSem.ClaimMapViews
import Derived.JoinedTies
import Derived.KernelRfl
namespace Go.Proofs.Ytoconmcmnikdnaa
/- THE CELL 'sum', in the pinned program and in every row, IS THE sha256 OF THE DUMP (.gsa) THAT YtoconmcmnikdnaaProg.lean LOADS. Nothing in Lean hashes anything: it is a label: what it is worth is what the hold of that sum in a sandbox is worth. -/
noncomputable def Try.pinned : Pinned := { name := "ytoconmcmnikdnaa", sum := "426fbfa3d8b0fc334d1f6a952e616460c56d6197d377db169b0e889745e31006", checked := Try.checked }
namespace Rows
def none {H : Type} : Left H := { results := [], args := [] }

/-- 'lumperlaw10.GoalTells': WHATEVER THE INPUT: true; the input reads as it did. -/
def goalTellsSpec : ChangeSpec := { name := "goalTells", fn := fun _ => fun
  | [d1, d2] => { results := [.lit (.bool true)], args := [d1, d2] }
  | _ => none }
def goalTellsRow : OpenClaim := { program := "ytoconmcmnikdnaa", sum := "426fbfa3d8b0fc334d1f6a952e616460c56d6197d377db169b0e889745e31006", func := "lumper/lumperlaw10.GoalTells", spec := "goalTells", unfollowed := true, recurses := true, apart := false }
def GoalTellsSaid : Prop := goalTellsRow.holds Try.pinned (OpenSpec.ofChange goalTellsSpec)

/-- ITS FALSE NEIGHBOUR: 'it returns false'. Refute it at one input. -/
def goalTellsWrong : ChangeSpec := { name := "goalTells", fn := fun _ => fun
  | [d1, d2] => { results := [.lit (.bool false)], args := [d1, d2] }
  | _ => none }
def GoalTellsWrongFalsely : Prop := goalTellsRow.holds Try.pinned (OpenSpec.ofChange goalTellsWrong)

/-- 'lumperlaw10.GoalMay': WHATEVER THE INPUT: true; the input reads as it did. -/
def goalMaySpec : ChangeSpec := { name := "goalMay", fn := fun _ => fun
  | [d1, d2] => { results := [.lit (.bool true)], args := [d1, d2] }
  | _ => none }
def goalMayRow : OpenClaim := { program := "ytoconmcmnikdnaa", sum := "426fbfa3d8b0fc334d1f6a952e616460c56d6197d377db169b0e889745e31006", func := "lumper/lumperlaw10.GoalMay", spec := "goalMay", unfollowed := true, recurses := true, apart := false }
def GoalMaySaid : Prop := goalMayRow.holds Try.pinned (OpenSpec.ofChange goalMaySpec)

/-- ITS FALSE NEIGHBOUR: 'it returns false'. Refute it at one input. -/
def goalMayWrong : ChangeSpec := { name := "goalMay", fn := fun _ => fun
  | [d1, d2] => { results := [.lit (.bool false)], args := [d1, d2] }
  | _ => none }
def GoalMayWrongFalsely : Prop := goalMayRow.holds Try.pinned (OpenSpec.ofChange goalMayWrong)

/-- 'lumperlaw10.GoalUnits': WHATEVER THE INPUT: true; the input reads as it did. -/
def goalUnitsSpec : ChangeSpec := { name := "goalUnits", fn := fun _ => fun
  | [d1, d2, d3] => { results := [.lit (.bool true)], args := [d1, d2, d3] }
  | _ => none }
def goalUnitsRow : OpenClaim := { program := "ytoconmcmnikdnaa", sum := "426fbfa3d8b0fc334d1f6a952e616460c56d6197d377db169b0e889745e31006", func := "lumper/lumperlaw10.GoalUnits", spec := "goalUnits", unfollowed := true, recurses := true, apart := false }
def GoalUnitsSaid : Prop := goalUnitsRow.holds Try.pinned (OpenSpec.ofChange goalUnitsSpec)

/-- ITS FALSE NEIGHBOUR: 'it returns false'. Refute it at one input. -/
def goalUnitsWrong : ChangeSpec := { name := "goalUnits", fn := fun _ => fun
  | [d1, d2, d3] => { results := [.lit (.bool false)], args := [d1, d2, d3] }
  | _ => none }
def GoalUnitsWrongFalsely : Prop := goalUnitsRow.holds Try.pinned (OpenSpec.ofChange goalUnitsWrong)

/-- 'lumperlaw10.GoalTurns': WHATEVER THE INPUT: true; the input reads as it did. -/
def goalTurnsSpec : ChangeSpec := { name := "goalTurns", fn := fun _ => fun
  | [d1, d2, d3] => { results := [.lit (.bool true)], args := [d1, d2, d3] }
  | _ => none }
def goalTurnsRow : OpenClaim := { program := "ytoconmcmnikdnaa", sum := "426fbfa3d8b0fc334d1f6a952e616460c56d6197d377db169b0e889745e31006", func := "lumper/lumperlaw10.GoalTurns", spec := "goalTurns", unfollowed := true, recurses := true, apart := false }
def GoalTurnsSaid : Prop := goalTurnsRow.holds Try.pinned (OpenSpec.ofChange goalTurnsSpec)

/-- ITS FALSE NEIGHBOUR: 'it returns false'. Refute it at one input. -/
def goalTurnsWrong : ChangeSpec := { name := "goalTurns", fn := fun _ => fun
  | [d1, d2, d3] => { results := [.lit (.bool false)], args := [d1, d2, d3] }
  | _ => none }
def GoalTurnsWrongFalsely : Prop := goalTurnsRow.holds Try.pinned (OpenSpec.ofChange goalTurnsWrong)

/-- 'lumperlaw10.GoalAllow': WHATEVER THE INPUT: true; the input reads as it did. -/
def goalAllowSpec : ChangeSpec := { name := "goalAllow", fn := fun _ => fun
  | [d1, d2] => { results := [.lit (.bool true)], args := [d1, d2] }
  | _ => none }
def goalAllowRow : OpenClaim := { program := "ytoconmcmnikdnaa", sum := "426fbfa3d8b0fc334d1f6a952e616460c56d6197d377db169b0e889745e31006", func := "lumper/lumperlaw10.GoalAllow", spec := "goalAllow", unfollowed := true, recurses := true, apart := false }
def GoalAllowSaid : Prop := goalAllowRow.holds Try.pinned (OpenSpec.ofChange goalAllowSpec)

/-- ITS FALSE NEIGHBOUR: 'it returns false'. Refute it at one input. -/
def goalAllowWrong : ChangeSpec := { name := "goalAllow", fn := fun _ => fun
  | [d1, d2] => { results := [.lit (.bool false)], args := [d1, d2] }
  | _ => none }
def GoalAllowWrongFalsely : Prop := goalAllowRow.holds Try.pinned (OpenSpec.ofChange goalAllowWrong)

/- THE SECOND FORM. 'bulk': how many values and letters a reading holds, each counted each time it is reached (what is shared counts as often as it is met; a slice's spare places count too). A statement '..UptoSaid' is the law's where the arguments, and the package variables that the reading takes, are together of bulk at most 1048576: NARROWER than '..Said'. Prove '..Said' where nothing that the law and all that it calls make is longer than what came in: it says more and counts as full. Else prove '..UptoSaid'. A law counts once. -/
mutual
def uptoBulk {H : Type} : DataW H → Nat
  | .lit (.string bytes) => bytes.length + 1
  | .lit _ => 1
  | .nil => 1
  | .ptr d => uptoBulk d + 1
  | .slice elems spare => uptoBulkAll elems + uptoBulkAll spare + 1
  | .agg parts => uptoBulkAll parts + 1
  | .iface _ d => uptoBulk d + 1
  | .map entries => uptoBulkEntries entries + 1
  | .held _ => 1
def uptoBulkAll {H : Type} : List (DataW H) → Nat
  | [] => 0
  | d :: r => uptoBulk d + uptoBulkAll r
def uptoBulkEntries {H : Type} : List (Lit × DataW H) → Nat
  | [] => 0
  | x :: r => uptoBulkEntry x + uptoBulkEntries r
def uptoBulkEntry {H : Type} : Lit × DataW H → Nat
  | (.string bytes, d) => bytes.length + uptoBulk d + 1
  | (_, d) => uptoBulk d + 1
 end
def uptoSmall : (H : Type) → List (DataW H) → Bool := fun _ ds => decide (uptoBulkAll ds ≤ 1048576)
def OpenSpec.upto (s : _root_.Go.ChangeSpec) : _root_.Go.OpenSpec := { _root_.Go.OpenSpec.ofChange s with cond := some uptoSmall }

/-- 'lumperlaw10.GoalTells', WHERE WHAT IT READS IS OF BULK AT MOST 1048576: true; the input reads as it did. -/
def goalTellsUptoRow : OpenClaim := { program := "ytoconmcmnikdnaa", sum := "426fbfa3d8b0fc334d1f6a952e616460c56d6197d377db169b0e889745e31006", func := "lumper/lumperlaw10.GoalTells", spec := "goalTells", unfollowed := true, recurses := true, apart := false, narrowed := true }
def GoalTellsUptoSaid : Prop := goalTellsUptoRow.holds Try.pinned (OpenSpec.upto goalTellsSpec)

/-- 'lumperlaw10.GoalMay', WHERE WHAT IT READS IS OF BULK AT MOST 1048576: true; the input reads as it did. -/
def goalMayUptoRow : OpenClaim := { program := "ytoconmcmnikdnaa", sum := "426fbfa3d8b0fc334d1f6a952e616460c56d6197d377db169b0e889745e31006", func := "lumper/lumperlaw10.GoalMay", spec := "goalMay", unfollowed := true, recurses := true, apart := false, narrowed := true }
def GoalMayUptoSaid : Prop := goalMayUptoRow.holds Try.pinned (OpenSpec.upto goalMaySpec)

/-- 'lumperlaw10.GoalUnits', WHERE WHAT IT READS IS OF BULK AT MOST 1048576: true; the input reads as it did. -/
def goalUnitsUptoRow : OpenClaim := { program := "ytoconmcmnikdnaa", sum := "426fbfa3d8b0fc334d1f6a952e616460c56d6197d377db169b0e889745e31006", func := "lumper/lumperlaw10.GoalUnits", spec := "goalUnits", unfollowed := true, recurses := true, apart := false, narrowed := true }
def GoalUnitsUptoSaid : Prop := goalUnitsUptoRow.holds Try.pinned (OpenSpec.upto goalUnitsSpec)

/-- 'lumperlaw10.GoalTurns', WHERE WHAT IT READS IS OF BULK AT MOST 1048576: true; the input reads as it did. -/
def goalTurnsUptoRow : OpenClaim := { program := "ytoconmcmnikdnaa", sum := "426fbfa3d8b0fc334d1f6a952e616460c56d6197d377db169b0e889745e31006", func := "lumper/lumperlaw10.GoalTurns", spec := "goalTurns", unfollowed := true, recurses := true, apart := false, narrowed := true }
def GoalTurnsUptoSaid : Prop := goalTurnsUptoRow.holds Try.pinned (OpenSpec.upto goalTurnsSpec)

/-- 'lumperlaw10.GoalAllow', WHERE WHAT IT READS IS OF BULK AT MOST 1048576: true; the input reads as it did. -/
def goalAllowUptoRow : OpenClaim := { program := "ytoconmcmnikdnaa", sum := "426fbfa3d8b0fc334d1f6a952e616460c56d6197d377db169b0e889745e31006", func := "lumper/lumperlaw10.GoalAllow", spec := "goalAllow", unfollowed := true, recurses := true, apart := false, narrowed := true }
def GoalAllowUptoSaid : Prop := goalAllowUptoRow.holds Try.pinned (OpenSpec.upto goalAllowSpec)

end Rows
end Go.Proofs.Ytoconmcmnikdnaa
