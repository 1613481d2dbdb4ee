/-
  No cell of these rows narrows 'for every input' (looked for: loops, veiled, ifaces, maps, wideKeys, modest, calm, conditions, laid).
  DERIVED. THE GIVEN ROWS OF THIS SEAT. 6 by the template 'for every input the law returns true; each argument reads behind the call as it read before'; 0 by the template 'total and deterministic' (their statements: YtpgncbhahocmbaaGreatTotals.lean).
  GIVEN WITH THE SEED: the statements are not yours to turn. If you find one false, say at which input.
  Laid BY PROGRAM, IN A SANDBOX (cutbox-rows.mjs): the forced cells as the released guide's own fill.sh prints them over the translation c93e25a76b343b0e… (all of the seat's roots in one cut). By AI agents, Wed Nov 11 2026. No macro, syntax, notation, axiom, sorry.
-/
import Derived.Test.YtpgncbhahocmbaaGreatChecked
import GoSem.Claim
import GoSem.ClaimJoined
import GoSem.ClaimMapViews
import Derived.JoinedTies
import Derived.KernelRfl
namespace Go.Proofs.YtpgncbhahocmbaaGreat
/- THE CELL 'sum', in the pinned program and in every row, IS THE sha256 OF THE DUMP (.gsa) THAT YtpgncbhahocmbaaGreatProg.lean LOADS. Nothing in Lean hashes anything: it is a label: what it is worth is what the hold of that sum in a sandbox is worth. -/
noncomputable def Tryz.pinned : Pinned := { name := "ytpgncbhahocmbaagreat", sum := "c93e25a76b343b0e0b05be9b12944ff046b1c1ded0c38316a22285be21637f19", checked := Tryz.checked }
namespace Rows
def none {H : Type} : Left H := { results := [], args := [] }

/-- 'lumperlaw18.PerfTells': WHATEVER THE INPUT: true; the input reads as it did. -/
def perfTellsSpec : ChangeSpec := { name := "perfTells", fn := fun _ => fun
  | [d1, d2, d3, d4, d5] => { results := [.lit (.bool true)], args := [d1, d2, d3, d4, d5] }
  | _ => none }
def perfTellsRow : OpenClaim := { program := "ytpgncbhahocmbaagreat", sum := "c93e25a76b343b0e0b05be9b12944ff046b1c1ded0c38316a22285be21637f19", func := "lumper/lumperlaw18.PerfTells", spec := "perfTells", unfollowed := true, recurses := true, apart := false }
def PerfTellsSaid : Prop := perfTellsRow.holds Tryz.pinned (OpenSpec.ofChange perfTellsSpec)

/-- ITS FALSE NEIGHBOUR: 'it returns false'. Refute it at one input. -/
def perfTellsWrong : ChangeSpec := { name := "perfTells", fn := fun _ => fun
  | [d1, d2, d3, d4, d5] => { results := [.lit (.bool false)], args := [d1, d2, d3, d4, d5] }
  | _ => none }
def PerfTellsWrongFalsely : Prop := perfTellsRow.holds Tryz.pinned (OpenSpec.ofChange perfTellsWrong)

/-- 'lumperlaw18.PerfAlone': WHATEVER THE INPUT: true; the input reads as it did. -/
def perfAloneSpec : ChangeSpec := { name := "perfAlone", fn := fun _ => fun
  | [d1, d2, d3, d4] => { results := [.lit (.bool true)], args := [d1, d2, d3, d4] }
  | _ => none }
def perfAloneRow : OpenClaim := { program := "ytpgncbhahocmbaagreat", sum := "c93e25a76b343b0e0b05be9b12944ff046b1c1ded0c38316a22285be21637f19", func := "lumper/lumperlaw18.PerfAlone", spec := "perfAlone", unfollowed := true, recurses := true, apart := false }
def PerfAloneSaid : Prop := perfAloneRow.holds Tryz.pinned (OpenSpec.ofChange perfAloneSpec)

/-- ITS FALSE NEIGHBOUR: 'it returns false'. Refute it at one input. -/
def perfAloneWrong : ChangeSpec := { name := "perfAlone", fn := fun _ => fun
  | [d1, d2, d3, d4] => { results := [.lit (.bool false)], args := [d1, d2, d3, d4] }
  | _ => none }
def PerfAloneWrongFalsely : Prop := perfAloneRow.holds Tryz.pinned (OpenSpec.ofChange perfAloneWrong)

/-- 'lumperlaw18.PerfWeeks': WHATEVER THE INPUT: true; the input reads as it did. -/
def perfWeeksSpec : ChangeSpec := { name := "perfWeeks", fn := fun _ => fun
  | [d1, d2, d3] => { results := [.lit (.bool true)], args := [d1, d2, d3] }
  | _ => none }
def perfWeeksRow : OpenClaim := { program := "ytpgncbhahocmbaagreat", sum := "c93e25a76b343b0e0b05be9b12944ff046b1c1ded0c38316a22285be21637f19", func := "lumper/lumperlaw18.PerfWeeks", spec := "perfWeeks", unfollowed := true, recurses := true, apart := false }
def PerfWeeksSaid : Prop := perfWeeksRow.holds Tryz.pinned (OpenSpec.ofChange perfWeeksSpec)

/-- ITS FALSE NEIGHBOUR: 'it returns false'. Refute it at one input. -/
def perfWeeksWrong : ChangeSpec := { name := "perfWeeks", fn := fun _ => fun
  | [d1, d2, d3] => { results := [.lit (.bool false)], args := [d1, d2, d3] }
  | _ => none }
def PerfWeeksWrongFalsely : Prop := perfWeeksRow.holds Tryz.pinned (OpenSpec.ofChange perfWeeksWrong)

/-- 'lumperlaw18.PerfFaults': WHATEVER THE INPUT: true; the input reads as it did. -/
def perfFaultsSpec : ChangeSpec := { name := "perfFaults", fn := fun _ => fun
  | [d1, d2, d3, d4] => { results := [.lit (.bool true)], args := [d1, d2, d3, d4] }
  | _ => none }
def perfFaultsRow : OpenClaim := { program := "ytpgncbhahocmbaagreat", sum := "c93e25a76b343b0e0b05be9b12944ff046b1c1ded0c38316a22285be21637f19", func := "lumper/lumperlaw18.PerfFaults", spec := "perfFaults", unfollowed := true, recurses := true, apart := false }
def PerfFaultsSaid : Prop := perfFaultsRow.holds Tryz.pinned (OpenSpec.ofChange perfFaultsSpec)

/-- ITS FALSE NEIGHBOUR: 'it returns false'. Refute it at one input. -/
def perfFaultsWrong : ChangeSpec := { name := "perfFaults", fn := fun _ => fun
  | [d1, d2, d3, d4] => { results := [.lit (.bool false)], args := [d1, d2, d3, d4] }
  | _ => none }
def PerfFaultsWrongFalsely : Prop := perfFaultsRow.holds Tryz.pinned (OpenSpec.ofChange perfFaultsWrong)

/-- 'lumperlaw18.PerfGoals': WHATEVER THE INPUT: true; the input reads as it did. -/
def perfGoalsSpec : ChangeSpec := { name := "perfGoals", fn := fun _ => fun
  | [d1, d2, d3, d4] => { results := [.lit (.bool true)], args := [d1, d2, d3, d4] }
  | _ => none }
def perfGoalsRow : OpenClaim := { program := "ytpgncbhahocmbaagreat", sum := "c93e25a76b343b0e0b05be9b12944ff046b1c1ded0c38316a22285be21637f19", func := "lumper/lumperlaw18.PerfGoals", spec := "perfGoals", unfollowed := true, recurses := true, apart := false }
def PerfGoalsSaid : Prop := perfGoalsRow.holds Tryz.pinned (OpenSpec.ofChange perfGoalsSpec)

/-- ITS FALSE NEIGHBOUR: 'it returns false'. Refute it at one input. -/
def perfGoalsWrong : ChangeSpec := { name := "perfGoals", fn := fun _ => fun
  | [d1, d2, d3, d4] => { results := [.lit (.bool false)], args := [d1, d2, d3, d4] }
  | _ => none }
def PerfGoalsWrongFalsely : Prop := perfGoalsRow.holds Tryz.pinned (OpenSpec.ofChange perfGoalsWrong)

/-- 'lumperlaw18.PerfTiers': WHATEVER THE INPUT: true; the input reads as it did. -/
def perfTiersSpec : ChangeSpec := { name := "perfTiers", fn := fun _ => fun
  | [d1, d2, d3] => { results := [.lit (.bool true)], args := [d1, d2, d3] }
  | _ => none }
def perfTiersRow : OpenClaim := { program := "ytpgncbhahocmbaagreat", sum := "c93e25a76b343b0e0b05be9b12944ff046b1c1ded0c38316a22285be21637f19", func := "lumper/lumperlaw18.PerfTiers", spec := "perfTiers", unfollowed := true, recurses := true, apart := false }
def PerfTiersSaid : Prop := perfTiersRow.holds Tryz.pinned (OpenSpec.ofChange perfTiersSpec)

/-- ITS FALSE NEIGHBOUR: 'it returns false'. Refute it at one input. -/
def perfTiersWrong : ChangeSpec := { name := "perfTiers", fn := fun _ => fun
  | [d1, d2, d3] => { results := [.lit (.bool false)], args := [d1, d2, d3] }
  | _ => none }
def PerfTiersWrongFalsely : Prop := perfTiersRow.holds Tryz.pinned (OpenSpec.ofChange perfTiersWrong)

/- THE SECOND FORM. 'bulk': how many values and letters a reading holds, each counted each time it is reached (what is shared counts as often as it is met; a slice's spare places count too). A statement '..UptoSaid' is the law's where the arguments, and the package variables that the reading takes, are together of bulk at most 1048576: NARROWER than '..Said'. Prove '..Said' where nothing that the law and all that it calls make is longer than what came in: it says more and counts as full. Else prove '..UptoSaid'. A law counts once. -/
mutual
def uptoBulk {H : Type} : DataW H → Nat
  | .lit (.string bytes) => bytes.length + 1
  | .lit _ => 1
  | .nil => 1
  | .ptr d => uptoBulk d + 1
  | .slice elems spare => uptoBulkAll elems + uptoBulkAll spare + 1
  | .agg parts => uptoBulkAll parts + 1
  | .iface _ d => uptoBulk d + 1
  | .map entries => uptoBulkEntries entries + 1
  | .held _ => 1
def uptoBulkAll {H : Type} : List (DataW H) → Nat
  | [] => 0
  | d :: r => uptoBulk d + uptoBulkAll r
def uptoBulkEntries {H : Type} : List (Lit × DataW H) → Nat
  | [] => 0
  | x :: r => uptoBulkEntry x + uptoBulkEntries r
def uptoBulkEntry {H : Type} : Lit × DataW H → Nat
  | (.string bytes, d) => bytes.length + uptoBulk d + 1
  | (_, d) => uptoBulk d + 1
 end
def uptoSmall : (H : Type) → List (DataW H) → Bool := fun _ ds => decide (uptoBulkAll ds ≤ 1048576)
def OpenSpec.upto (s : _root_.Go.ChangeSpec) : _root_.Go.OpenSpec := { _root_.Go.OpenSpec.ofChange s with cond := some uptoSmall }

/-- 'lumperlaw18.PerfTells', WHERE WHAT IT READS IS OF BULK AT MOST 1048576: true; the input reads as it did. -/
def perfTellsUptoRow : OpenClaim := { program := "ytpgncbhahocmbaagreat", sum := "c93e25a76b343b0e0b05be9b12944ff046b1c1ded0c38316a22285be21637f19", func := "lumper/lumperlaw18.PerfTells", spec := "perfTells", unfollowed := true, recurses := true, apart := false, narrowed := true }
def PerfTellsUptoSaid : Prop := perfTellsUptoRow.holds Tryz.pinned (OpenSpec.upto perfTellsSpec)

/-- 'lumperlaw18.PerfAlone', WHERE WHAT IT READS IS OF BULK AT MOST 1048576: true; the input reads as it did. -/
def perfAloneUptoRow : OpenClaim := { program := "ytpgncbhahocmbaagreat", sum := "c93e25a76b343b0e0b05be9b12944ff046b1c1ded0c38316a22285be21637f19", func := "lumper/lumperlaw18.PerfAlone", spec := "perfAlone", unfollowed := true, recurses := true, apart := false, narrowed := true }
def PerfAloneUptoSaid : Prop := perfAloneUptoRow.holds Tryz.pinned (OpenSpec.upto perfAloneSpec)

/-- 'lumperlaw18.PerfWeeks', WHERE WHAT IT READS IS OF BULK AT MOST 1048576: true; the input reads as it did. -/
def perfWeeksUptoRow : OpenClaim := { program := "ytpgncbhahocmbaagreat", sum := "c93e25a76b343b0e0b05be9b12944ff046b1c1ded0c38316a22285be21637f19", func := "lumper/lumperlaw18.PerfWeeks", spec := "perfWeeks", unfollowed := true, recurses := true, apart := false, narrowed := true }
def PerfWeeksUptoSaid : Prop := perfWeeksUptoRow.holds Tryz.pinned (OpenSpec.upto perfWeeksSpec)

/-- 'lumperlaw18.PerfFaults', WHERE WHAT IT READS IS OF BULK AT MOST 1048576: true; the input reads as it did. -/
def perfFaultsUptoRow : OpenClaim := { program := "ytpgncbhahocmbaagreat", sum := "c93e25a76b343b0e0b05be9b12944ff046b1c1ded0c38316a22285be21637f19", func := "lumper/lumperlaw18.PerfFaults", spec := "perfFaults", unfollowed := true, recurses := true, apart := false, narrowed := true }
def PerfFaultsUptoSaid : Prop := perfFaultsUptoRow.holds Tryz.pinned (OpenSpec.upto perfFaultsSpec)

/-- 'lumperlaw18.PerfGoals', WHERE WHAT IT READS IS OF BULK AT MOST 1048576: true; the input reads as it did. -/
def perfGoalsUptoRow : OpenClaim := { program := "ytpgncbhahocmbaagreat", sum := "c93e25a76b343b0e0b05be9b12944ff046b1c1ded0c38316a22285be21637f19", func := "lumper/lumperlaw18.PerfGoals", spec := "perfGoals", unfollowed := true, recurses := true, apart := false, narrowed := true }
def PerfGoalsUptoSaid : Prop := perfGoalsUptoRow.holds Tryz.pinned (OpenSpec.upto perfGoalsSpec)

/-- 'lumperlaw18.PerfTiers', WHERE WHAT IT READS IS OF BULK AT MOST 1048576: true; the input reads as it did. -/
def perfTiersUptoRow : OpenClaim := { program := "ytpgncbhahocmbaagreat", sum := "c93e25a76b343b0e0b05be9b12944ff046b1c1ded0c38316a22285be21637f19", func := "lumper/lumperlaw18.PerfTiers", spec := "perfTiers", unfollowed := true, recurses := true, apart := false, narrowed := true }
def PerfTiersUptoSaid : Prop := perfTiersUptoRow.holds Tryz.pinned (OpenSpec.upto perfTiersSpec)

end Rows
end Go.Proofs.YtpgncbhahocmbaaGreat
