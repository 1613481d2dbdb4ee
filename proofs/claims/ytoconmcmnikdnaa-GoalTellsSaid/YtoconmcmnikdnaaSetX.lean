/-
  Package setup: Write and Read, each in one form.
-/
import Derived.Test.YtoconmcmnikdnaaSetV
import Derived.Test.YtoconmcmnikdnaaMLow
import Derived.Laws.CopyOwn
namespace Go.Proofs.Ytoconmcmnikdnaa
open Go.RowKit
set_option linter.unusedVariables false
set_option linter.unusedSimpArgs false
set_option maxRecDepth 20000

theorem setcheck_un (s : SetP) (A1 A2 A3 A4 A5 A6 : Option Addr) (c1 c2 c3 c4 c5 c6 : Nat) (w : World) (hs : SetAt w s A1 A2 A3 A4 A5 A6 c1 c2 c3 c4 c5 c6) (hf : s.Fit) (b : Bool) (hb : checkB s = b) :
    Calls Try.prog 12 #[setV s A1 A2 A3 A4 A5 A6 c1 c2 c3 c4 c5 c6] w fun e w' => e = .returned (.bool b) ∧ Below w.heap.size w w' := by
  subst hb
  exact setcheck_any s A1 A2 A3 A4 A5 A6 c1 c2 c3 c4 c5 c6 w hs hf
theorem wpList_store_has {ops : Array Oper} {rest : List Oper} {o : Oper} {a : Act} {w : World} {Q : Exit → Act → World → Prop} (hgd : o.guard = none) (x y : Operand) (ho : o.op = .store 30 x y)
    (g : Nat) (cs : Array Value) (hx : a.eval x = .pointer (some ⟨g, 0, none⟩)) (hy : a.eval y = .agg cs) (old : Array Value) (hg : Has w g old) (hold : old.size = 23) (hs : cs.size = 23) (h1 : cs.all (·.oneCell') = true)
    (h : wpList Try.prog ops Q rest (a.put o.dst undef) (w.setRow g cs)) : wpList Try.prog ops Q (o :: rest) a w := by
  obtain ⟨t, hg⟩ := hg
  exact wpList_store_row hgd _ x y ho g cs hx hy t old hg (by rw [hs]; kernel_rfl) (by rw [hold, hs]) h1 h
theorem setV_cells (s : SetP) (A1 A2 A3 A4 A5 A6 : Option Addr) (c1 c2 c3 c4 c5 c6 : Nat) (cs : Array Value) (h : setV s A1 A2 A3 A4 A5 A6 c1 c2 c3 c4 c5 c6 = .agg cs) : cs.size = 23 ∧ cs.all (·.oneCell') = true := by
  unfold setV at h
  injection h with h
  subst h
  exact ⟨rfl, by simp [Value.oneCell']⟩
end Go.Proofs.Ytoconmcmnikdnaa
