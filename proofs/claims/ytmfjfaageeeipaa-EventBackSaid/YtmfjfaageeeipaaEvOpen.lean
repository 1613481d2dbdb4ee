/-
  An argument of type api.Event, opened; one of type []api.Event.
-/
import Derived.Test.YtmfjfaageeeipaaProg
import Derived.Test.YtmfjfaageeeipaaTab
import Derived.Test.YtmfjfaageeeipaaEvSrt
namespace Go.Proofs.Ytmfjfaageeeipaa
open Go.RowKit Go.Deep Go.WideShapes
set_option linter.unusedVariables false
set_option maxRecDepth 20000

theorem nums_at_e {P : Program} {t : TypeId} {k : Nat} (h : NumsT P t k) (hk : P.cellsOf t = k) : NumsT P t (P.cellsOf t) := by rw [hk]; exact h
theorem numsT_int_e : NumsT Try.prog 3 1 := alli_int Try.underlying3
theorem numsT_event : NumsT Try.prog 33 11 := alli_struct Try.underlying33 (by kernel_rfl)
  ⟨rfl, nums_at_e numsT_int_e (by kernel_rfl), by kernel_rfl, nums_at_e numsT_int_e (by kernel_rfl), by kernel_rfl, nums_at_e numsT_int_e (by kernel_rfl), by kernel_rfl, nums_at_e numsT_int_e (by kernel_rfl), by kernel_rfl, nums_at_e numsT_int_e (by kernel_rfl), by kernel_rfl, nums_at_e numsT_int_e (by kernel_rfl),
    by kernel_rfl, nums_at_e numsT_int_e (by kernel_rfl), by kernel_rfl, nums_at_e numsT_int_e (by kernel_rfl), by kernel_rfl, nums_at_e numsT_int_e (by kernel_rfl), by kernel_rfl, nums_at_e numsT_int_e (by kernel_rfl), by kernel_rfl, nums_at_e numsT_int_e (by kernel_rfl), by change _ = _; kernel_rfl⟩
theorem ev_of_list {zs : List Int} (h : zs.length = 11) (hb : ∀ z ∈ zs, In64 z) : ∃ e : EvP, evLs e = zs ∧ e.In := by
  match zs, h with
  | [a, b, c, d, e, f, g, i, j, k, l], _ =>
    refine ⟨⟨a, b, c, d, e, f, g, i, j, k, l⟩, rfl, ?_⟩
    have h1 := hb a (by simp); have h2 := hb b (by simp); have h3 := hb c (by simp); have h4 := hb d (by simp); have h5 := hb e (by simp); have h6 := hb f (by simp)
    have h7 := hb g (by simp); have h8 := hb i (by simp); have h9 := hb j (by simp); have h10 := hb k (by simp); have h11 := hb l (by simp)
    exact ⟨h1, h2, h3, h4, h5, h6, h7, h8, h9, h10, h11⟩
theorem event_open {H : Type} {enc : TypeId × Value → H} {w : World} {r : Reach} {b0 base : Nat} {held : Bool} {v : Value} {d : DataW H} {p : List MemPlace}
    (hv : Value.okWide Try.prog w r b0 33 v) (h : DataW.Trod enc Try.prog w base (fun _ => true) held 33 v d p) : ∃ e : EvP, v = .agg (evC e) ∧ e.In := by
  obtain ⟨cs, rfl, hsz⟩ := okWide_struct Try.underlying33 hv
  obtain ⟨fuel, hfu⟩ := h
  obtain ⟨zs, hl, hcs, hb⟩ := numsT_event H enc w base _ held fuel _ _ hfu
  obtain ⟨e, he, hin⟩ := ev_of_list hl hb
  refine ⟨e, ?_, hin⟩
  have e1 : cs.toList = ints .i64 (evLs e) := by rw [he]; exact hcs
  have e2 : cs = evC e := by
    apply Array.toList_inj.1
    rw [e1]
    rfl
  rw [e2]
/-- Rows of eleven numbers are events. -/
theorem evs_of_rows : ∀ (t : Rows2), (∀ r ∈ t, r.length = 11) → (∀ r ∈ t, ∀ z ∈ r, In64 z) → ∃ l : List EvP, l.map evLs = t ∧ ∀ e ∈ l, e.In
  | [], _, _ => ⟨[], rfl, fun e h => by simp at h⟩
  | r :: t, h1, h2 => by
    obtain ⟨l, hl, hi⟩ := evs_of_rows t (fun q hq => h1 q (by simp [hq])) (fun q hq => h2 q (by simp [hq]))
    obtain ⟨e, he, hin⟩ := ev_of_list (h1 r (by simp)) (h2 r (by simp))
    exact ⟨e :: l, by simp [he, hl], fun x hx => by
      rcases List.mem_cons.1 hx with rfl | hx
      · exact hin
      · exact hi x hx⟩
theorem events_open {H : Type} {enc : TypeId × Value → H} {w : World} {base : Nat} {held : Bool} {fuel : Nat} {cs : List Value} {x : DataW H × List MemPlace}
    (h : DataW.trod enc Try.prog w base (fun _ => true) held fuel 31 cs = some x) : ∃ A n c l, cs = [.slice A n c] ∧ Evs w A n c l ∧ (∀ e ∈ l, e.In) ∧ n ≤ c ∧ c ≤ 9223372036854775807 := by
  obtain ⟨A, n, c, rows, hcs, T⟩ := open_tab Try.underlying31 numsT_event (by kernel_rfl) (by omega) h
  obtain ⟨l, hl, hi⟩ := evs_of_rows rows T.wide T.small
  refine ⟨A, n, c, l, hcs, ⟨by rw [hl]; exact T.sl, ?_⟩, hi, T.cap, T.max⟩
  rw [← T.len, ← hl, List.length_map]
end Go.Proofs.Ytmfjfaageeeipaa
