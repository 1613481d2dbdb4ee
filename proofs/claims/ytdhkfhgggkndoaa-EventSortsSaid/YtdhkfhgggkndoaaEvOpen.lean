/-
  An argument of type []api.Event, opened.
-/
import Derived.Test.YtdhkfhgggkndoaaProg
import Derived.Test.YtdhkfhgggkndoaaEvOpenA
import Derived.Test.YtdhkfhgggkndoaaEvSrt
namespace Go.Proofs.Ytdhkfhgggkndoaa
open Go.RowKit Go.Deep Go.WideShapes
set_option linter.unusedVariables false
set_option maxRecDepth 20000

/-- Rows of eleven numbers are events. -/
theorem evs_of_rows : ∀ (t : Rows2), (∀ r ∈ t, r.length = 11) → (∀ r ∈ t, ∀ z ∈ r, In64 z) → ∃ l : List EvP, l.map evLs = t ∧ ∀ e ∈ l, e.In
  | [], _, _ => ⟨[], rfl, fun e h => by simp at h⟩
  | r :: t, h1, h2 => by
    obtain ⟨l, hl, hi⟩ := evs_of_rows t (fun q hq => h1 q (by simp [hq])) (fun q hq => h2 q (by simp [hq]))
    obtain ⟨e, he, hin⟩ := ev_of_list (h1 r (by simp)) (h2 r (by simp))
    exact ⟨e :: l, by simp [he, hl], fun x hx => by
      rcases List.mem_cons.1 hx with rfl | hx
      · exact hin
      · exact hi x hx⟩
theorem events_open {H : Type} {enc : TypeId × Value → H} {w : World} {base : Nat} {held : Bool} {fuel : Nat} {cs : List Value} {x : DataW H × List MemPlace}
    (h : DataW.trod enc Try.prog w base (fun _ => true) held fuel 41 cs = some x) : ∃ A n c l, cs = [.slice A n c] ∧ Evs w A n c l ∧ (∀ e ∈ l, e.In) ∧ n ≤ c ∧ c ≤ 9223372036854775807 := by
  obtain ⟨A, n, c, rows, hcs, T⟩ := open_tab Try.underlying41 numsT_event (by kernel_rfl) (by omega) h
  obtain ⟨l, hl, hi⟩ := evs_of_rows rows T.wide T.small
  refine ⟨A, n, c, l, hcs, ⟨by rw [hl]; exact T.sl, ?_⟩, hi, T.cap, T.max⟩
  rw [← T.len, ← hl, List.length_map]
end Go.Proofs.Ytdhkfhgggkndoaa
