/-
  The contracts of package lumperref02: the document's answers of layer 2 are what package ratio tells.
-/
import Derived.Test.YtcnekicfblbafaaRatB
namespace Go.Proofs.Ytcnekicfblbafaa
open Go.RowKit
set_option linter.unusedVariables false
set_option maxRecDepth 20000

theorem may_gcdV {n d : Int} (hn : -9223372036854775808 ≤ n) (hd : 0 < d) (hd' : d ≤ 9223372036854775807) :
    mayB n d = (decide (-2147483647 ≤ n) && (decide (n ≤ 2147483647) && (decide (d ≤ 2147483647) && (gcdV n d == 1)))) := by
  unfold mayB
  rw [gcdV_int hn hd hd', Bool.eq_iff_iff]
  simp
  omega

theorem rcheck_any (n d : Int) (w : World) (hn : -9223372036854775808 ≤ n) (hn' : n ≤ 9223372036854775807) (hd : -9223372036854775808 ≤ d) (hd' : d ≤ 9223372036854775807) :
    Calls Try.prog 49 #[.agg #[.int .i64 n, .int .i64 d]] w fun e w' => e = .returned (.bool (mayB n d)) ∧ Below w.heap.size w w' := by
  by_cases h : -2147483647 ≤ n ∧ n ≤ 2147483647 ∧ 1 ≤ d ∧ d ≤ 2147483647
  · obtain ⟨h1, h2, h3, h4⟩ := h
    have E := Lib.hid (show mayB n d = (gcdV n d == 1) by
      rw [may_gcdV hn (by omega) hd', decide_eq_true h1, decide_eq_true h2, decide_eq_true h4]; rfl)
    go_enter Try.func49, Try.ntmps49
    go_wp2_with fail
    refine (rgcd_any n d _ hn hn' hd hd').mono ?_
    rintro e w1 ⟨rfl, rfl⟩
    go_wp2
    go_ret
    exact ⟨ret_bool E.out.symm, by (repeat' (first | with_reducible exact Below.refl _ _ | with_reducible assumption | with_reducible refine bel_alloc ?_ _ | with_reducible refine bel_set ?_ ?_ _ | with_reducible refine below_drewN ?_ _ | with_reducible refine below_drew ?_ | (simp; done) | (simp; omega) | omega))⟩
  · have E := Lib.hid (show mayB n d = false by
      unfold mayB
      apply decide_eq_false
      rintro ⟨q1, q2, q3, q4, _⟩
      exact h ⟨q1, q2, q3, q4⟩)
    have hx : n < -2147483647 ∨ (-2147483647 ≤ n ∧ 2147483647 < n) ∨ ((-2147483647 ≤ n ∧ n ≤ 2147483647) ∧ d < 1) ∨ ((-2147483647 ≤ n ∧ n ≤ 2147483647) ∧ 1 ≤ d ∧ 2147483647 < d) := by omega
    clear h
    rcases hx with h1 | h1 | h1 | h1
    all_goals
      go_enter Try.func49, Try.ntmps49
      go_wp2
      go_ret
      exact ⟨ret_bool E.out.symm, by (repeat' (first | with_reducible exact Below.refl _ _ | with_reducible assumption | with_reducible refine bel_alloc ?_ _ | with_reducible refine bel_set ?_ ?_ _ | with_reducible refine below_drewN ?_ _ | with_reducible refine below_drew ?_ | (simp; done) | (simp; omega) | omega))⟩

end Go.Proofs.Ytcnekicfblbafaa
