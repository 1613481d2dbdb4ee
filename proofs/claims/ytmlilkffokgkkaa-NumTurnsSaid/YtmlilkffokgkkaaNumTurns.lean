/-
  The walk of the law NumTurns: it answers true, and leaves what was there as it was.
-/
import Derived.Test.YtmlilkffokgkkaaNumAwake
namespace Go.Proofs.Ytmlilkffokgkkaa
open Go.RowKit
set_option linter.unusedVariables false

theorem sum_turn (a b : Int) (ha : -9223372036854775808 ≤ a) (ha' : a ≤ 9223372036854775807) (hb : -9223372036854775808 ≤ b) (hb' : b ≤ 9223372036854775807) : sumV [b, a] = sumV [a, b] ∧ sumC [b, a] = sumC [a, b] := by
  unfold sumV sumC
  rw [sum_two a b ha ha', sum_two b a hb hb', Int.add_comm]
  exact ⟨rfl, rfl⟩

theorem sum_back (a : Int) (ha : -9223372036854775808 ≤ a) (ha' : a ≤ 9223372036854775807) : sumV [a, -a] = 0 ∧ sumC [a, -a] = 0 := by
  unfold sumV sumC
  rw [sum_two a (-a) ha ha', Int.add_right_neg]
  exact ⟨rfl, rfl⟩

theorem numTurns_walk (a b : Int) (w : World) (ha : -9223372036854775808 ≤ a) (ha' : a ≤ 9223372036854775807) (hb : -9223372036854775808 ≤ b) (hb' : b ≤ 9223372036854775807) :
    Calls Try.prog 4 #[.int .i64 a, .int .i64 b] w fun e w' => e = .returned (.bool true) ∧ Below w.heap.size w w' := by
  have ht := Lib.hid (sum_turn a b ha ha' hb hb')
  go_enter Try.func4, Try.ntmps4
  go_wp2_with fail
  refine (awake1 _).mono ?_
  rintro e w1 ⟨rfl, hb1⟩
  go_wp2_with fail
  refine (quietB (mul_any _ _ _ ha ha' hb hb')).mono ?_
  rintro e w2 ⟨rfl, hb2⟩
  replace hb2 := bel_on hb1 hb2
  clear hb1
  go_wp2_with fail
  refine (quietB (mul_any _ _ _ hb hb' ha ha')).mono ?_
  rw [mulV_comm b a, mulC_comm b a]
  rintro e w3 ⟨rfl, hb3⟩
  replace hb3 := bel_on hb2 hb3
  clear hb2
  go_wp2_with fail
  refine (sum_new _ [a, b] 3 2 rfl (by omega) (by simp; omega)).mono ?_
  rintro e w4 ⟨rfl, hb4⟩
  replace hb4 := bel_on hb3 hb4
  clear hb3
  go_wp2_with fail
  refine (sum_new _ [b, a] 3 2 rfl (by omega) (by simp; omega)).mono ?_
  rw [ht.out.1, ht.out.2]
  rintro e w5 ⟨rfl, hb5⟩
  replace hb5 := bel_on hb4 hb5
  clear hb4
  go_wp2_with fail
  by_cases h : a = -9223372036854775808
  · subst h
    refine (quietB (mul_over _ _ _ (by omega) (by omega) (by omega) (by omega) (by omega))).mono ?_
    rintro e w6 ⟨rfl, hb6⟩
    replace hb6 := bel_on hb5 hb6
    clear hb5
    go_wp2_with fail
    refine (sum_new _ [-9223372036854775808, 0] 3 2 rfl (by omega) (by simp)).mono ?_
    rintro e w7 ⟨rfl, hb7⟩
    replace hb7 := bel_on hb6 hb7
    clear hb6
    go_wp2
    go_ret
    exact ⟨rfl, hb7⟩
  · have o1 : -9223372036854775808 ≤ a * -1 ∧ a * -1 ≤ 9223372036854775807 := by omega
    by_cases h0 : a = 0
    · subst h0
      refine (quietB (mul_nil _ _)).mono ?_
      rintro e w6 ⟨rfl, hb6⟩
      replace hb6 := bel_on hb5 hb6
      clear hb5
      go_wp2_with fail
      refine (sum_new _ [0, 0] 3 2 rfl (by omega) (by simp)).mono ?_
      rw [show sumV [0, 0] = 0 from rfl, show sumC [0, 0] = 0 from rfl]
      rintro e w7 ⟨rfl, hb7⟩
      replace hb7 := bel_on hb6 hb7
      clear hb6
      go_wp2
      go_ret
      exact ⟨rfl, hb7⟩
    · refine (quietB (mul_in _ _ _ h0 o1.1 o1.2 (by omega) (by omega))).mono ?_
      rw [show a * -1 = -a from by omega]
      rintro e w6 ⟨rfl, hb6⟩
      replace hb6 := bel_on hb5 hb6
      clear hb5
      have hz := sum_back a ha ha'
      go_wp2_with fail
      refine (sum_new _ [a, -a] 3 2 rfl (by omega) (by simp; omega)).mono ?_
      rw [hz.1, hz.2]
      rintro e w7 ⟨rfl, hb7⟩
      replace hb7 := bel_on hb6 hb7
      clear hb6 hz
      go_wp2
      go_ret
      exact ⟨rfl, hb7⟩
end Go.Proofs.Ytmlilkffokgkkaa
