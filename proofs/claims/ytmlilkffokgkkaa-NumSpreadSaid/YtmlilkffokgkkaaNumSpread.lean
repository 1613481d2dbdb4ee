/-
  The walk of the law NumSpread: it answers true, and leaves what was there as it was.
-/
import Derived.Test.YtmlilkffokgkkaaNumAwake
namespace Go.Proofs.Ytmlilkffokgkkaa
open Go.RowKit
set_option linter.unusedVariables false

theorem mul_small (a c : Int) (ha : -2147483648 ≤ a) (ha' : a ≤ 2147483647) (hc : -2147483648 ≤ c) (hc' : c ≤ 2147483647) : -4611686018427387904 ≤ a * c ∧ a * c ≤ 4611686018427387904 := by
  have h : (a * c).natAbs ≤ 2147483648 * 2147483648 := by
    rw [Int.natAbs_mul]
    exact Nat.mul_le_mul (by omega) (by omega)
  omega

theorem spread (a b c : Int) (ha : -4611686018427387904 ≤ a * c) (ha' : a * c ≤ 4611686018427387904) : sumV [a * c, b * c] = mulV (a + b) c ∧ sumC [a * c, b * c] = mulC (a + b) c := by
  unfold sumV sumC mulV mulC
  rw [sum_two _ _ (by omega) (by omega), Int.add_mul]
  cases inB (a * c + b * c) <;> exact ⟨rfl, rfl⟩

theorem mul_small_any (a c : Int) (w : World) (ha : -2147483648 ≤ a) (ha' : a ≤ 2147483647) (hc : -2147483648 ≤ c) (hc' : c ≤ 2147483647) :
    Calls Try.prog 12 #[.int .i64 a, .int .i64 c] w fun e w' => e = .returned (.tuple #[.int .i64 (a * c), .int .i64 0]) ∧ Below w.heap.size w w' := by
  have h := mul_small a c ha ha' hc hc'
  by_cases h0 : a = 0
  · subst h0
    rw [Int.zero_mul]
    exact quietB (mul_nil c w)
  · exact quietB (mul_in a c w h0 (by omega) (by omega) (by omega) (by omega))

theorem sum_small (a b : Int) (ha : -2147483648 ≤ a) (ha' : a ≤ 2147483647) (hc : -2147483648 ≤ b) (hc' : b ≤ 2147483647) : sumV [a, b] = a + b ∧ sumC [a, b] = 0 := by
  unfold sumV sumC
  rw [sum_two _ _ (by omega) (by omega), show inB (a + b) = true from decide_eq_true (by omega)]
  exact ⟨rfl, rfl⟩

theorem numSpread_walk (a b c : Int) (w : World) (ha : -2147483648 ≤ a) (ha' : a ≤ 2147483647) (hb : -2147483648 ≤ b) (hb' : b ≤ 2147483647) (hc : -2147483648 ≤ c) (hc' : c ≤ 2147483647) :
    Calls Try.prog 8 #[.int .i32 a, .int .i32 b, .int .i32 c] w fun e w' => e = .returned (.bool true) ∧ Below w.heap.size w w' := by
  have m1 := mul_small a c ha ha' hc hc'
  have m2 := mul_small b c hb hb' hc hc'
  have hs := Lib.hid (spread a b c m1.1 m1.2)
  have h2 := Lib.hid (sum_small a b ha ha' hb hb')
  go_enter Try.func8, Try.ntmps8
  go_wp2_with fail
  refine (awake1 _).mono ?_
  rintro e w1 ⟨rfl, hb1⟩
  go_wp2_with fail
  refine (sum_new _ [a, b] 3 2 rfl (by omega) (by simp; omega)).mono ?_
  rw [h2.out.1, h2.out.2]
  rintro e w2 ⟨rfl, hb2⟩
  replace hb2 := bel_on hb1 hb2
  clear hb1
  go_wp2_with fail
  refine (quietB (mul_any _ _ _ (by omega) (by omega) (by omega) (by omega))).mono ?_
  rintro e w3 ⟨rfl, hb3⟩
  replace hb3 := bel_on hb2 hb3
  clear hb2
  go_wp2_with fail
  refine (mul_small_any _ _ _ (by omega) (by omega) (by omega) (by omega)).mono ?_
  rintro e w4 ⟨rfl, hb4⟩
  replace hb4 := bel_on hb3 hb4
  clear hb3
  go_wp2_with fail
  refine (mul_small_any _ _ _ (by omega) (by omega) (by omega) (by omega)).mono ?_
  rintro e w5 ⟨rfl, hb5⟩
  replace hb5 := bel_on hb4 hb5
  clear hb4
  go_wp2_with fail
  refine (sum_new _ [a * c, b * c] 3 2 rfl (by omega) (by simp; omega)).mono ?_
  rw [hs.out.1, hs.out.2]
  rintro e w6 ⟨rfl, hb6⟩
  replace hb6 := bel_on hb5 hb6
  clear hb5
  go_wp2
  go_ret
  exact ⟨rfl, hb6⟩
end Go.Proofs.Ytmlilkffokgkkaa
