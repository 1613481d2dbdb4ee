/-
  The walk of the law RatioHalf: it answers true, and leaves what was there as it was.
-/
import Derived.Test.YtlennhfjninclaaRatAwake
namespace Go.Proofs.Ytlennhfjninclaa
open Go.RowKit
set_option linter.unusedVariables false

/-- The nearest number, its distance, and the number downwards. -/
theorem half_facts {a b : Int} (h : mayB a b = true) : ∃ q x : Int, a / b = q ∧ halfR a b = x ∧ (x = q ∨ x = q + 1) ∧ (-2147483648 ≤ q ∧ q ≤ 2147483647) ∧ (-18446744073709551616 ≤ 4 * (x * b) ∧ 4 * (x * b) ≤ 18446744073709551616) ∧ 2 * a - 2 * x * b < b ∧ -b ≤ 2 * a - 2 * x * b := by
  have E : halfR a b = halfV a b := by unfold halfR; rw [h]; rfl
  obtain ⟨b1, b2, b3, b4, _⟩ := may_bd h
  have e0 := Int.mul_ediv_add_emod a b
  have l1 := Int.emod_nonneg a (show b ≠ 0 by omega)
  have l2 := Int.emod_lt_of_pos a (show 0 < b by omega)
  have hv : (halfV a b = a / b ∧ a % b < b - a % b) ∨ (halfV a b = a / b + 1 ∧ b - a % b ≤ a % b) := by
    unfold halfV
    split
    · exact .inr ⟨rfl, by assumption⟩
    · exact .inl ⟨rfl, by omega⟩
  refine ⟨_, _, rfl, E, by omega, ?_, ?_⟩
  · generalize a / b = q at *
    generalize a % b = r at *
    constructor
    · rcases Int.lt_or_le q (-2147483648) with h1 | h1
      · exfalso
        have : b * q ≤ 1 * (-2147483649) := by
          have k1 : b * q ≤ b * (-2147483649) := Int.mul_le_mul_of_nonneg_left (by omega) (by omega)
          have k2 : b * (-2147483649) ≤ 1 * (-2147483649) := by omega
          omega
        have k3 : b * q ≤ b * (-2147483649) := Int.mul_le_mul_of_nonneg_left (by omega) (by omega)
        omega
      · exact h1
    · rcases Int.lt_or_le 2147483647 q with h1 | h1
      · exfalso
        have : b * 2147483648 ≤ b * q := Int.mul_le_mul_of_nonneg_left (by omega) (by omega)
        omega
      · exact h1
  · have hmul : halfV a b * b = a - a % b + (halfV a b - a / b) * b := by
      rw [Int.sub_mul, Int.mul_comm (a / b) b]
      omega
    rw [Int.mul_assoc, hmul]
    rcases hv with ⟨q1, q2⟩ | ⟨q1, q2⟩
    · rw [q1, Int.sub_self, Int.zero_mul]; omega
    · rw [q1, show a / b + 1 - a / b = 1 by omega, Int.one_mul]; omega

theorem ratioHalf_walk (a b : Int) (w : World) (ha : -9223372036854775808 ≤ a ∧ a ≤ 9223372036854775807) (hb : -9223372036854775808 ≤ b ∧ b ≤ 9223372036854775807) :
    Calls Try.prog 7 #[.agg #[.int .i64 a, .int .i64 b]] w fun e w' => e = .returned (.bool true) ∧ Below w.heap.size w w' := by
  cases hm : mayB a b with
  | false =>
    have E := Lib.hid (show halfR a b = 0 by unfold halfR; rw [hm]; rfl)
    have HM := Lib.hid hm
    clear hm
    go_enter Try.func7, Try.ntmps7
    go_wp2_with fail
    refine (awake2 _).mono ?_
    rintro e w1 ⟨rfl, hb1⟩
    have R : Has w1 w.heap.size #[.int .i64 a, .int .i64 b] := (Has.new _ _ _ rfl).below hb1
    replace hb1 := bel_on (bel_alloc (Below.refl w.heap.size w) _) hb1
    obtain ⟨c0, c1, _, _⟩ := R.two
    go_wp2_with fail
    refine (check_any a b _ ha.1 ha.2 hb.1 hb.2).mono ?_
    rw [HM.out]
    rintro e w2 ⟨rfl, hb2⟩
    replace R := R.below hb2
    replace hb2 := bel_on hb1 hb2
    clear hb1 c0 c1
    obtain ⟨c0, c1, _, _⟩ := R.two
    go_wp2_with fail
    refine (rathalf_any a b _ ha hb).mono ?_
    rw [E.out]
    rintro e w3 ⟨rfl, hb3⟩
    replace hb3 := bel_on hb2 hb3
    go_wp2
    go_ret
    exact ⟨rfl, hb3⟩
  | true =>
    obtain ⟨q, x, hq, hx, hxq, q1, q2, q3, q4⟩ := half_facts hm
    have E := Lib.hid hx
    have Q := Lib.hid hq
    have HM := Lib.hid hm
    obtain ⟨b1, b2, b3, b4, _⟩ := may_bd hm
    clear hm hx hq
    rcases hxq with rfl | rfl
    all_goals
      go_enter Try.func7, Try.ntmps7
      go_wp2_with fail
      refine (awake2 _).mono ?_
      rintro e w1 ⟨rfl, hb1⟩
      have R : Has w1 w.heap.size #[.int .i64 a, .int .i64 b] := (Has.new _ _ _ rfl).below hb1
      replace hb1 := bel_on (bel_alloc (Below.refl w.heap.size w) _) hb1
      obtain ⟨c0, c1, _, _⟩ := R.two
      go_wp2_with fail
      refine (check_any a b _ ha.1 ha.2 hb.1 hb.2).mono ?_
      rw [HM.out]
      rintro e w2 ⟨rfl, hb2⟩
      replace R := R.below hb2
      replace hb2 := bel_on hb1 hb2
      clear hb1 c0 c1
      obtain ⟨c0, c1, _, _⟩ := R.two
      go_wp2_with fail
      refine (rathalf_any a b _ ha hb).mono ?_
      rw [E.out]
      rintro e w3 ⟨rfl, hb3⟩
      replace R := R.below hb3
      replace hb3 := bel_on hb2 hb3
      clear hb2 c0 c1
      obtain ⟨c0, c1, _, _⟩ := R.two
      go_wp2_with fail
      refine (quietB (div_pos a b _ ha.1 ha.2 (by omega) hb.2)).mono ?_
      rw [Q.out]
      rintro e w4 ⟨rfl, hb4⟩
      replace R := R.below hb4
      replace hb4 := bel_on hb3 hb4
      clear hb3 c0 c1
      obtain ⟨c0, c1, _, _⟩ := R.two
      go_wp2
      go_ret
      exact ⟨rfl, hb4⟩
end Go.Proofs.Ytlennhfjninclaa
