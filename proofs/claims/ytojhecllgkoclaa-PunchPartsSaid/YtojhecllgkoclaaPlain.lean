/-
  Plain facts on whole numbers: quotients downwards, products that may go over, greatest common divisors. No program is named here.
-/
import Derived.RowKit
import Derived.IntWalk
namespace Go.Proofs.Ytojhecllgkoclaa

theorem div_unique {a b q r : Int} (h : b * q + r = a) (h0 : 0 ≤ r) (h1 : r < b) : q = a / b ∧ r = a % b := by
  have hb : 0 < b := by omega
  have := (Int.ediv_emod_unique (a := a) (b := b) (r := r) (q := q) hb).2 ⟨by omega, h0, h1⟩
  exact ⟨this.1.symm, this.2.symm⟩

theorem tdiv_pos {a b : Int} (hb : 0 < b) (h : 0 ≤ a.tmod b) : a.tdiv b = a / b ∧ a.tmod b = a % b :=
  div_unique (Int.mul_tdiv_add_tmod a b) h (Int.tmod_lt_of_pos a hb)

theorem tdiv_neg {a b : Int} (hb : 0 < b) (h : a.tmod b < 0) : a.tdiv b - 1 = a / b ∧ a.tmod b + b = a % b := by
  have h1 := Int.lt_tmod_of_pos a hb
  have h2 := Int.mul_tdiv_add_tmod a b
  refine div_unique ?_ (by omega) (by omega)
  rw [Int.mul_sub]; omega

theorem tdiv_bd {a b : Int} (hb : 2 ≤ b) (h1 : -9223372036854775808 ≤ a) (h2 : a ≤ 9223372036854775807) :
    -4611686018427387905 ≤ a.tdiv b ∧ a.tdiv b ≤ 4611686018427387904 := by
  have e := Int.mul_tdiv_add_tmod a b
  have l1 := Int.lt_tmod_of_pos a (show 0 < b by omega)
  have l2 := Int.tmod_lt_of_pos a (show 0 < b by omega)
  generalize hq : a.tdiv b = q at *
  generalize hr : a.tmod b = r at *
  constructor
  · rcases Int.lt_or_le q (-4611686018427387905) with h | h
    · exfalso
      have : b * q ≤ b * (-4611686018427387906) := Int.mul_le_mul_of_nonneg_left (by omega) (by omega)
      omega
    · exact h
  · rcases Int.lt_or_le 4611686018427387904 q with h | h
    · exfalso
      have : b * 4611686018427387905 ≤ b * q := Int.mul_le_mul_of_nonneg_left (by omega) (by omega)
      omega
    · exact h

theorem ediv_bd {a b : Int} (hb : 1 ≤ b) (h1 : -9223372036854775808 ≤ a) (h2 : a ≤ 9223372036854775807) :
    -9223372036854775808 ≤ a / b ∧ a / b ≤ 9223372036854775807 := by
  have e := Int.mul_ediv_add_emod a b
  have l1 := Int.emod_nonneg a (show b ≠ 0 by omega)
  have l2 := Int.emod_lt_of_pos a (show 0 < b by omega)
  generalize a / b = q at *
  generalize a % b = r at *
  constructor
  · rcases Int.lt_or_le q (-9223372036854775808) with h | h
    · exfalso
      have : b * q ≤ b * (-9223372036854775809) := Int.mul_le_mul_of_nonneg_left (by omega) (by omega)
      omega
    · exact h
  · rcases Int.lt_or_le 9223372036854775807 q with h | h
    · exfalso
      have : b * 9223372036854775808 ≤ b * q := Int.mul_le_mul_of_nonneg_left (by omega) (by omega)
      omega
    · exact h

theorem ediv_top {a b : Int} (hb : 2 ≤ b) (h1 : -9223372036854775808 ≤ a) (h2 : a ≤ 9223372036854775807) :
    -9223372036854775808 ≤ a / b ∧ a / b ≤ 4611686018427387903 := by
  refine ⟨(ediv_bd (by omega) h1 h2).1, ?_⟩
  have e := Int.mul_ediv_add_emod a b
  have l1 := Int.emod_nonneg a (show b ≠ 0 by omega)
  generalize a / b = q at *
  generalize a % b = r at *
  rcases Int.lt_or_le 4611686018427387903 q with h | h
  · exfalso
    have : b * 4611686018427387904 ≤ b * q := Int.mul_le_mul_of_nonneg_left (by omega) (by omega)
    omega
  · exact h

end Go.Proofs.Ytojhecllgkoclaa
