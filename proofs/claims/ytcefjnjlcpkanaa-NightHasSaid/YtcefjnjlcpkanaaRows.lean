/-
  No cell of these rows narrows 'for every input' (looked for: loops, veiled, ifaces, maps, wideKeys, modest, calm, conditions, laid).
  DERIVED. THE GIVEN ROWS OF THIS SEAT. 5 by the template 'for every input the law returns true; each argument reads behind the call as it read before'; 0 by the template 'total and deterministic' (their statements: YtcefjnjlcpkanaaTotals.lean).
  GIVEN WITH THE SEED: the statements are not yours to turn. If you find one false, say at which input.
  Laid BY PROGRAM, IN A SANDBOX (cutbox-rows.mjs): the forced cells as the released guide's own fill.sh prints them over the translation d46d1a7057d05bb9… (all of the seat's roots in one cut). By AI agents, Wed Nov 11 2026. No macro, syntax, notation, axiom, sorry.
-/
import Derived.Test.YtcefjnjlcpkanaaChecked
import GoSem.Claim
import GoSem.ClaimJoined
import GoSem.ClaimMapViews
import Derived.JoinedTies
import Derived.KernelRfl
namespace Go.Proofs.Ytcefjnjlcpkanaa
/- THE CELL 'sum', in the pinned program and in every row, IS THE sha256 OF THE DUMP (.gsa) THAT YtcefjnjlcpkanaaProg.lean LOADS. Nothing in Lean hashes anything: it is a label: what it is worth is what the hold of that sum in a sandbox is worth. -/
noncomputable def Try.pinned : Pinned := { name := "ytcefjnjlcpkanaa", sum := "d46d1a7057d05bb9bc549b76049e0f9ba207a605cd4ed59150db29b202381981", checked := Try.checked }
namespace Rows
def none {H : Type} : Left H := { results := [], args := [] }

/-- 'lumperlaw14.NightTells': WHATEVER THE INPUT: true; the input reads as it did. -/
def nightTellsSpec : ChangeSpec := { name := "nightTells", fn := fun _ => fun
  | [d1, d2, d3] => { results := [.lit (.bool true)], args := [d1, d2, d3] }
  | _ => none }
def nightTellsRow : OpenClaim := { program := "ytcefjnjlcpkanaa", sum := "d46d1a7057d05bb9bc549b76049e0f9ba207a605cd4ed59150db29b202381981", func := "lumper/lumperlaw14.NightTells", spec := "nightTells", unfollowed := true, recurses := true, apart := false }
def NightTellsSaid : Prop := nightTellsRow.holds Try.pinned (OpenSpec.ofChange nightTellsSpec)

/-- ITS FALSE NEIGHBOUR: 'it returns false'. Refute it at one input. -/
def nightTellsWrong : ChangeSpec := { name := "nightTells", fn := fun _ => fun
  | [d1, d2, d3] => { results := [.lit (.bool false)], args := [d1, d2, d3] }
  | _ => none }
def NightTellsWrongFalsely : Prop := nightTellsRow.holds Try.pinned (OpenSpec.ofChange nightTellsWrong)

/-- 'lumperlaw14.NightHas': WHATEVER THE INPUT: true; the input reads as it did. -/
def nightHasSpec : ChangeSpec := { name := "nightHas", fn := fun _ => fun
  | [d1, d2, d3] => { results := [.lit (.bool true)], args := [d1, d2, d3] }
  | _ => none }
def nightHasRow : OpenClaim := { program := "ytcefjnjlcpkanaa", sum := "d46d1a7057d05bb9bc549b76049e0f9ba207a605cd4ed59150db29b202381981", func := "lumper/lumperlaw14.NightHas", spec := "nightHas", unfollowed := true, recurses := true, apart := false }
def NightHasSaid : Prop := nightHasRow.holds Try.pinned (OpenSpec.ofChange nightHasSpec)

/-- ITS FALSE NEIGHBOUR: 'it returns false'. Refute it at one input. -/
def nightHasWrong : ChangeSpec := { name := "nightHas", fn := fun _ => fun
  | [d1, d2, d3] => { results := [.lit (.bool false)], args := [d1, d2, d3] }
  | _ => none }
def NightHasWrongFalsely : Prop := nightHasRow.holds Try.pinned (OpenSpec.ofChange nightHasWrong)

/-- 'lumperlaw14.NightDays': WHATEVER THE INPUT: true; the input reads as it did. -/
def nightDaysSpec : ChangeSpec := { name := "nightDays", fn := fun _ => fun
  | [d1, d2, d3, d4] => { results := [.lit (.bool true)], args := [d1, d2, d3, d4] }
  | _ => none }
def nightDaysRow : OpenClaim := { program := "ytcefjnjlcpkanaa", sum := "d46d1a7057d05bb9bc549b76049e0f9ba207a605cd4ed59150db29b202381981", func := "lumper/lumperlaw14.NightDays", spec := "nightDays", unfollowed := true, recurses := true, apart := false }
def NightDaysSaid : Prop := nightDaysRow.holds Try.pinned (OpenSpec.ofChange nightDaysSpec)

/-- ITS FALSE NEIGHBOUR: 'it returns false'. Refute it at one input. -/
def nightDaysWrong : ChangeSpec := { name := "nightDays", fn := fun _ => fun
  | [d1, d2, d3, d4] => { results := [.lit (.bool false)], args := [d1, d2, d3, d4] }
  | _ => none }
def NightDaysWrongFalsely : Prop := nightDaysRow.holds Try.pinned (OpenSpec.ofChange nightDaysWrong)

/-- 'lumperlaw14.NightTurns': WHATEVER THE INPUT: true; the input reads as it did. -/
def nightTurnsSpec : ChangeSpec := { name := "nightTurns", fn := fun _ => fun
  | [d1, d2] => { results := [.lit (.bool true)], args := [d1, d2] }
  | _ => none }
def nightTurnsRow : OpenClaim := { program := "ytcefjnjlcpkanaa", sum := "d46d1a7057d05bb9bc549b76049e0f9ba207a605cd4ed59150db29b202381981", func := "lumper/lumperlaw14.NightTurns", spec := "nightTurns", unfollowed := true, recurses := true, apart := false }
def NightTurnsSaid : Prop := nightTurnsRow.holds Try.pinned (OpenSpec.ofChange nightTurnsSpec)

/-- ITS FALSE NEIGHBOUR: 'it returns false'. Refute it at one input. -/
def nightTurnsWrong : ChangeSpec := { name := "nightTurns", fn := fun _ => fun
  | [d1, d2] => { results := [.lit (.bool false)], args := [d1, d2] }
  | _ => none }
def NightTurnsWrongFalsely : Prop := nightTurnsRow.holds Try.pinned (OpenSpec.ofChange nightTurnsWrong)

/-- 'lumperlaw14.NightSizes': WHATEVER THE INPUT: true; the input reads as it did. -/
def nightSizesSpec : ChangeSpec := { name := "nightSizes", fn := fun _ => fun
  | [d1, d2, d3] => { results := [.lit (.bool true)], args := [d1, d2, d3] }
  | _ => none }
def nightSizesRow : OpenClaim := { program := "ytcefjnjlcpkanaa", sum := "d46d1a7057d05bb9bc549b76049e0f9ba207a605cd4ed59150db29b202381981", func := "lumper/lumperlaw14.NightSizes", spec := "nightSizes", unfollowed := true, recurses := true, apart := false }
def NightSizesSaid : Prop := nightSizesRow.holds Try.pinned (OpenSpec.ofChange nightSizesSpec)

/-- ITS FALSE NEIGHBOUR: 'it returns false'. Refute it at one input. -/
def nightSizesWrong : ChangeSpec := { name := "nightSizes", fn := fun _ => fun
  | [d1, d2, d3] => { results := [.lit (.bool false)], args := [d1, d2, d3] }
  | _ => none }
def NightSizesWrongFalsely : Prop := nightSizesRow.holds Try.pinned (OpenSpec.ofChange nightSizesWrong)

/- THE SECOND FORM. 'bulk': how many values and letters a reading holds, each counted each time it is reached (what is shared counts as often as it is met; a slice's spare places count too). A statement '..UptoSaid' is the law's where the arguments, and the package variables that the reading takes, are together of bulk at most 1048576: NARROWER than '..Said'. Prove '..Said' where nothing that the law and all that it calls make is longer than what came in: it says more and counts as full. Else prove '..UptoSaid'. A law counts once. -/
mutual
def uptoBulk {H : Type} : DataW H → Nat
  | .lit (.string bytes) => bytes.length + 1
  | .lit _ => 1
  | .nil => 1
  | .ptr d => uptoBulk d + 1
  | .slice elems spare => uptoBulkAll elems + uptoBulkAll spare + 1
  | .agg parts => uptoBulkAll parts + 1
  | .iface _ d => uptoBulk d + 1
  | .map entries => uptoBulkEntries entries + 1
  | .held _ => 1
def uptoBulkAll {H : Type} : List (DataW H) → Nat
  | [] => 0
  | d :: r => uptoBulk d + uptoBulkAll r
def uptoBulkEntries {H : Type} : List (Lit × DataW H) → Nat
  | [] => 0
  | x :: r => uptoBulkEntry x + uptoBulkEntries r
def uptoBulkEntry {H : Type} : Lit × DataW H → Nat
  | (.string bytes, d) => bytes.length + uptoBulk d + 1
  | (_, d) => uptoBulk d + 1
 end
def uptoSmall : (H : Type) → List (DataW H) → Bool := fun _ ds => decide (uptoBulkAll ds ≤ 1048576)
def OpenSpec.upto (s : _root_.Go.ChangeSpec) : _root_.Go.OpenSpec := { _root_.Go.OpenSpec.ofChange s with cond := some uptoSmall }

/-- 'lumperlaw14.NightTells', WHERE WHAT IT READS IS OF BULK AT MOST 1048576: true; the input reads as it did. -/
def nightTellsUptoRow : OpenClaim := { program := "ytcefjnjlcpkanaa", sum := "d46d1a7057d05bb9bc549b76049e0f9ba207a605cd4ed59150db29b202381981", func := "lumper/lumperlaw14.NightTells", spec := "nightTells", unfollowed := true, recurses := true, apart := false, narrowed := true }
def NightTellsUptoSaid : Prop := nightTellsUptoRow.holds Try.pinned (OpenSpec.upto nightTellsSpec)

/-- 'lumperlaw14.NightHas', WHERE WHAT IT READS IS OF BULK AT MOST 1048576: true; the input reads as it did. -/
def nightHasUptoRow : OpenClaim := { program := "ytcefjnjlcpkanaa", sum := "d46d1a7057d05bb9bc549b76049e0f9ba207a605cd4ed59150db29b202381981", func := "lumper/lumperlaw14.NightHas", spec := "nightHas", unfollowed := true, recurses := true, apart := false, narrowed := true }
def NightHasUptoSaid : Prop := nightHasUptoRow.holds Try.pinned (OpenSpec.upto nightHasSpec)

/-- 'lumperlaw14.NightDays', WHERE WHAT IT READS IS OF BULK AT MOST 1048576: true; the input reads as it did. -/
def nightDaysUptoRow : OpenClaim := { program := "ytcefjnjlcpkanaa", sum := "d46d1a7057d05bb9bc549b76049e0f9ba207a605cd4ed59150db29b202381981", func := "lumper/lumperlaw14.NightDays", spec := "nightDays", unfollowed := true, recurses := true, apart := false, narrowed := true }
def NightDaysUptoSaid : Prop := nightDaysUptoRow.holds Try.pinned (OpenSpec.upto nightDaysSpec)

/-- 'lumperlaw14.NightTurns', WHERE WHAT IT READS IS OF BULK AT MOST 1048576: true; the input reads as it did. -/
def nightTurnsUptoRow : OpenClaim := { program := "ytcefjnjlcpkanaa", sum := "d46d1a7057d05bb9bc549b76049e0f9ba207a605cd4ed59150db29b202381981", func := "lumper/lumperlaw14.NightTurns", spec := "nightTurns", unfollowed := true, recurses := true, apart := false, narrowed := true }
def NightTurnsUptoSaid : Prop := nightTurnsUptoRow.holds Try.pinned (OpenSpec.upto nightTurnsSpec)

/-- 'lumperlaw14.NightSizes', WHERE WHAT IT READS IS OF BULK AT MOST 1048576: true; the input reads as it did. -/
def nightSizesUptoRow : OpenClaim := { program := "ytcefjnjlcpkanaa", sum := "d46d1a7057d05bb9bc549b76049e0f9ba207a605cd4ed59150db29b202381981", func := "lumper/lumperlaw14.NightSizes", spec := "nightSizes", unfollowed := true, recurses := true, apart := false, narrowed := true }
def NightSizesUptoSaid : Prop := nightSizesUptoRow.holds Try.pinned (OpenSpec.upto nightSizesSpec)

end Rows
end Go.Proofs.Ytcefjnjlcpkanaa
