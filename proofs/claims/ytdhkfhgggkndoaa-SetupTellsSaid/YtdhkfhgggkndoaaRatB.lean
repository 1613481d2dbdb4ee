/-
  The contracts of package ratio's functions, continued: Check, and all that stands on it.
-/
import Derived.Test.YtdhkfhgggkndoaaRat
namespace Go.Proofs.Ytdhkfhgggkndoaa
open Go.RowKit
set_option linter.unusedVariables false

theorem may_mk (n d : Int) : mayB n d = (decide (mkC n d = 0) && (decide (mkN n d = n) && decide (mkD n d = d))) := by
  by_cases h : mayB n d = true
  · obtain ⟨a, b, c⟩ := mk_self h
    rw [h, a, b, c]
    simp
  · have h' : mayB n d = false := by simpa using h
    rw [h']
    symm
    by_cases hc : mkC n d = 0
    · by_cases h1 : mkN n d = n ∧ mkD n d = d
      · exfalso
        have := mk_may hc
        rw [h1.1, h1.2] at this
        exact h this
      · simp only [hc, decide_true, Bool.true_and, ← Bool.decide_and]
        exact decide_eq_false h1
    · simp [hc]

theorem check_any (n d : Int) (w : World) (hn : -9223372036854775808 ≤ n) (hn' : n ≤ 9223372036854775807) (hd : -9223372036854775808 ≤ d) (hd' : d ≤ 9223372036854775807) :
    Calls Try.prog 99 #[.agg #[.int .i64 n, .int .i64 d]] w fun e w' => e = .returned (.bool (mayB n d)) ∧ Below w.heap.size w w' := by
  have E := Lib.hid (may_mk n d)
  by_cases h : mkC n d = 0
  · have h1 : (mkC n d == 0) = true := by simpa using h
    have H := Lib.hid h
    clear h
    go_enter Try.func99, Try.ntmps99
    go_wp2_with fail
    refine (make_any _ _ _ hn hn' hd hd').mono ?_
    rintro e w1 ⟨rfl, hb1⟩
    obtain ⟨hc1, hf1⟩ := bcell hb1
    have hz : w.heap.size < w1.heap.size := by have := hb1.size; simp at this; omega
    replace hb1 := bel_on (bel_alloc (Below.refl w.heap.size w) _) hb1
    go_wp2
    all_goals
      go_ret
      exact ⟨ret_bool (by have h0 := H.out; rw [E.out]; simp [*]), by (repeat' (first | with_reducible exact Below.refl _ _ | with_reducible assumption | with_reducible refine bel_alloc ?_ _ | with_reducible refine bel_set ?_ ?_ _ | with_reducible refine below_drewN ?_ _ | with_reducible refine below_drew ?_ | (simp; done) | (simp; omega) | omega))⟩
  · have h1 : (mkC n d == 0) = false := by simpa using h
    have H := Lib.hid h
    clear h
    go_enter Try.func99, Try.ntmps99
    go_wp2_with fail
    refine (make_any _ _ _ hn hn' hd hd').mono ?_
    rintro e w1 ⟨rfl, hb1⟩
    obtain ⟨hc1, hf1⟩ := bcell hb1
    have hz : w.heap.size < w1.heap.size := by have := hb1.size; simp at this; omega
    replace hb1 := bel_on (bel_alloc (Below.refl w.heap.size w) _) hb1
    go_wp2
    go_ret
    exact ⟨ret_bool (by have h0 := H.out; rw [E.out]; simp [h0]), by (repeat' (first | with_reducible exact Below.refl _ _ | with_reducible assumption | with_reducible refine bel_alloc ?_ _ | with_reducible refine bel_set ?_ ?_ _ | with_reducible refine below_drewN ?_ _ | with_reducible refine below_drew ?_ | (simp; done) | (simp; omega) | omega))⟩

/-- A slice value over A reads as the ratios xs. -/
def Rats (w : World) (A : Option Addr) (xs : List (Int × Int)) : Prop :=
  ∀ k, k < xs.length → ∃ b off, A = some ⟨b, off, none⟩ ∧ w.cell? ⟨b, off + k * 2, none⟩ = some (.int .i64 (xs.getD k (0, 0)).1) ∧ w.cell? ⟨b, off + k * 2 + 1, none⟩ = some (.int .i64 (xs.getD k (0, 0)).2) ∧
    -9223372036854775808 ≤ (xs.getD k (0, 0)).1 ∧ (xs.getD k (0, 0)).1 ≤ 9223372036854775807 ∧ -9223372036854775808 ≤ (xs.getD k (0, 0)).2 ∧ (xs.getD k (0, 0)).2 ≤ 9223372036854775807
theorem Rats.below {w w' : World} {A : Option Addr} {xs : List (Int × Int)} (h : Rats w A xs) (hb : Below w.heap.size w w') : Rats w' A xs := by
  intro k hk
  obtain ⟨b, off, e, h1, h2, h3⟩ := h k hk
  exact ⟨b, off, e, (hb.cell (cell_lt h1)).trans h1, (hb.cell (cell_lt h2)).trans h2, h3⟩

end Go.Proofs.Ytdhkfhgggkndoaa
