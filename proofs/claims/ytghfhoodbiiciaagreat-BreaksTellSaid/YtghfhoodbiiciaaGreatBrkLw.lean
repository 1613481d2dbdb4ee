/-
  Plain facts for the laws of breaks: what is paid and what is not, together, of a day, by its first and its last ones.
-/
import Derived.Test.YtghfhoodbiiciaaGreatBrkAw
namespace Go.Proofs.YtghfhoodbiiciaaGreat
open Go.RowKit
set_option linter.unusedVariables false
set_option linter.unusedSimpArgs false
set_option maxRecDepth 100000

theorem wpList_append_run_onB {P : Program} {ops : Array Oper} {rest : List Oper} {o : Oper} {a : Act} {w w' : World} {Q : Exit → Act → World → Prop} {s x : Operand} {t : TypeId} {v u v' : Value}
    (hr : (Builtin.append_ #[t, t] o.type #[v, u]).run P w = .ok v' w') (hgd : Region.wanted o (yielded ops a.tmps) = true)
    (ho : o.op = .call { callee := .builtin .append, args := #[s, x], argTypes := #[t, t] }) (hs : a.eval s = v) (hx : a.eval x = u)
    (h : wpList P ops Q rest (a.put o.dst v') w') : wpList P ops Q (o :: rest) a w := by
  refine wpList_step fun K hK => ?_
  rw [if_pos hgd]
  unfold Oper.wp execOp
  simp only [ho, resolve, invoke, builtin, Sem.run_bind, Sem.run_pure, Result.andThen_ok, List.map_toArray, List.map_cons, List.map_nil, hs, hx, hr]
  exact hK _ _ h
section
variable {s : SetP} {l : List SegP}
theorem yes_plain (b : Bool) (s : SetP) (l : List SegP) : PlainFrom 0 (allYes b s l) := by
  unfold allYes
  split
  · exact canon_plain _
  · trivial
theorem no_plain (b : Bool) (s : SetP) (l : List SegP) : PlainFrom 0 (allNo b s l) := by
  unfold allNo
  split
  · exact canon_plain _
  · trivial
theorem dyes_plain (b : Bool) (s : SetP) (l : List SegP) (d : Int) : PlainFrom 0 (dayYes b s l d) := by
  unfold dayYes
  split
  · exact canon_plain _
  · trivial
theorem dno_plain (b : Bool) (s : SetP) (l : List SegP) (d : Int) : PlainFrom 0 (dayNo b s l d) := by
  unfold dayNo
  split
  · exact canon_plain _
  · trivial
theorem pl_len {l : List (Int × Int)} (h : PlainFrom 0 l) : l.length ≤ 32054401 := by have := plain_len h (by omega); omega
/-- BreaksMake. -/
theorem make_and (s : SetP) (l : List SegP) : (canon fun t => In (allYes true s l) t ∧ In (allNo true s l) t) = [] :=
  canon_none fun t h0 h1 h => by
    unfold allYes allNo paidAll notAll at h
    rw [if_pos rfl, if_pos rfl, in_can h0 h1, in_can h0 h1] at h
    exact h.1.2 h.2.2
theorem make_or (s : SetP) (l : List SegP) : canon (In (allYes true s l ++ allNo true s l)) = clockP l := by
  rw [← canon_self (l := clockP l) (canon_plain _)]
  refine canon_congr fun t h0 h1 => ?_
  rw [in_append]
  unfold allYes allNo paidAll notAll
  rw [if_pos rfl, if_pos rfl, in_can h0 h1, in_can h0 h1]
  exact (paid_not_or (C := clkS l) (R := rstS l)).symm
/-- BreaksSizes. -/
theorem size_no (s : SetP) (l : List SegP) (d : Int) (hm : s.May) {zc zr : Int} (hc : sz (onDay (clkS l) d) = zc) (hr : sz (onDay (rstS l) d) = zr) :
    sz (In (dayNo true s l d)) = max 0 (zr - s.paid) + (if s.aft ≤ zc ∧ zr < s.brk then min (s.brk - zr) (zc - zr) else 0) := by
  unfold dayNo notDay
  rw [if_pos rfl, sz_can, sz_not (fun t h => ⟨rst_clk l t h.1, h.2⟩) hm.paid.1, hc, hr]
end
end Go.Proofs.YtghfhoodbiiciaaGreat
