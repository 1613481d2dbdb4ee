/-
  Arguments that hold spans: a slice of them, as the walks are told of it.
-/
import Derived.Test.YtcefjnjlcpkanaaZad
import Derived.Deep.SlicePairs
import Derived.Lib.SmallJoins
import Derived.ChangeArms
import Derived.OpenShut
namespace Go.Proofs.Ytcefjnjlcpkanaa
open Go.RowKit Go.Deep

theorem open_spans {H : Type} {enc : TypeId × Value → H} {P : Program} {w : World} {base : Nat} {spare : Nat → Bool} {held : Bool} {t e i : TypeId} {f0 f1 : Field} {fuel : Nat} {A : Option Addr} {len cap : Nat} {x : DataW H × List MemPlace}
    (ht : P.underlying t = some (.slice e)) (he : P.underlying e = some (.struct #[f0, f1])) (ce : P.cellsOf e = 2) (o0 : f0.offset = 0) (o1 : f1.offset = 1) (c0 : P.cellsOf f0.type = 1) (c1 : P.cellsOf f1.type = 1)
    (t0 : f0.type = i) (t1 : f1.type = i) (hi : P.underlying i = some (.int .i64)) (h : DataW.trod enc P w base spare held fuel t [.slice A len cap] = some x) :
    ∃ xs : List (Int × Int), xs.length = len ∧ len ≤ 9223372036854775807 ∧ Spans w A xs ∧ (A = none → cap = 0) := by
  rcases open_slice_pairs ht he ce o0 o1 c0 c1 h with ⟨hcs, _⟩ | ⟨a, len', cap', m, n, V0, V1, D0, D1, P0, P1, hcs, _, hl, hm, hmm, _, hx⟩
  · simp at hcs
    obtain ⟨rfl, rfl, rfl⟩ := hcs
    exact ⟨[], rfl, by omega, Spans.nil _ _, fun _ => rfl⟩
  · simp at hcs
    obtain ⟨rfl, rfl, rfl⟩ := hcs
    have hle : len ≤ m := by rw [hmm]; split <;> omega
    have key : ∀ k, k < len → ∃ z0 z1, V0 k = .int .i64 z0 ∧ V1 k = .int .i64 z1 ∧ Fit z0 ∧ Fit z1 := fun k hk => by
      obtain ⟨h0, h1, g0, g1⟩ := hx k (by omega)
      obtain ⟨z0, e0, _, w0⟩ := DataW.trod_int (t0 ▸ hi) g0
      obtain ⟨z1, e1, _, w1⟩ := DataW.trod_int (t1 ▸ hi) g1
      simp at e0 e1
      exact ⟨z0, z1, e0, e1, bounds_i64 w0, bounds_i64 w1⟩
    refine ⟨(List.range len).map fun i => (intOf (V0 i), intOf (V1 i)), by simp, by simp only [maxLen] at hm; omega, ⟨fun y hy => ?_, fun k hk => ?_⟩, fun h => by cases h⟩
    · simp only [List.mem_map, List.mem_range] at hy
      obtain ⟨k, hk, rfl⟩ := hy
      obtain ⟨z0, z1, e0, e1, b0, b1⟩ := key k hk
      simp only [e0, e1, intOf]
      exact ⟨b0, b1⟩
    · simp at hk
      obtain ⟨h0, h1, g0, g1⟩ := hx k (by omega)
      obtain ⟨z0, z1, e0, e1, b0, b1⟩ := key k hk
      obtain ⟨b, off, sp⟩ := a
      have hsp : sp = none := by simpa [Addr.add] using World.cell?_spot (hx 0 (by omega)).1
      subst hsp
      rw [add_none] at h0 h1
      refine ⟨b, off, rfl, cell_lt h0, ?_, ?_⟩
      · rw [h0, e0]; simp [List.getD, hk, e0, intOf]
      · rw [Nat.add_assoc, h1, e1]; simp [List.getD, hk, e1, intOf]
end Go.Proofs.Ytcefjnjlcpkanaa
