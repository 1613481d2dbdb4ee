/-
  What a call that tells three lists of spans answers: slices of its own.
-/
import Derived.Test.YthdolmhnjinlhaaGreatOvrP
import Derived.Test.YthdolmhnjinlhaaGreatZaw
import Derived.Test.YthdolmhnjinlhaaGreatZaq

namespace Go.Proofs.YthdolmhnjinlhaaGreat
open Go.RowKit
set_option linter.unusedVariables false
set_option linter.unusedSimpArgs false
set_option maxRecDepth 100000

def Gives3 (w : World) (xs ys zs : List (Int × Int)) (e : Ending) (w' : World) : Prop :=
  ∃ A c B d E f, e = .returned (.tuple #[.slice A xs.length c, .slice B ys.length d, .slice E zs.length f]) ∧ Row w' w.heap.size A c xs ∧ Row w' w.heap.size B d ys ∧ Row w' w.heap.size E f zs ∧ Below w.heap.size w w'
theorem gives3_bel {w w1 w' : World} {xs ys zs : List (Int × Int)} {e : Ending} (h : Gives3 w1 xs ys zs e w') (hb : Below w.heap.size w w1) : Gives3 w xs ys zs e w' := by
  obtain ⟨A, c, B, d, E, f, rfl, h1, h2, h3, hb2⟩ := h
  exact ⟨A, c, B, d, E, f, rfl, h1.mono hb.size, h2.mono hb.size, h3.mono hb.size, bel_on hb hb2⟩
theorem setC_over {w : World} {s : SetP} {cs : Array Value} (h : SetC w s cs) : cs[13]? = some (.int .i64 s.reg) ∧ cs[14]? = some (.int .i64 s.over) ∧ cs[15]? = some (.int .i64 s.week) := by
  obtain ⟨A1, A2, A3, A4, A5, A6, c1, c2, c3, c4, c5, c6, h1, h2⟩ := h
  unfold setV at h1
  injection h1 with h1
  subst h1
  exact ⟨rfl, rfl, rfl⟩
end Go.Proofs.YthdolmhnjinlhaaGreat
