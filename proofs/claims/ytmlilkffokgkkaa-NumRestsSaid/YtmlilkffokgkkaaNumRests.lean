/-
  The walk of the law NumRests: it answers true, and leaves what was there as it was.
-/
import Derived.Test.YtmlilkffokgkkaaRefA
namespace Go.Proofs.Ytmlilkffokgkkaa
open Go.RowKit
set_option linter.unusedVariables false

theorem numRests_walk (a b : Int) (w : World) (ha : -9223372036854775808 ≤ a) (ha' : a ≤ 9223372036854775807) (hb : -9223372036854775808 ≤ b) (hb' : b ≤ 9223372036854775807) :
    Calls Try.prog 5 #[.int .i64 a, .int .i64 b] w fun e w' => e = .returned (.bool true) ∧ Below w.heap.size w w' := by
  by_cases h : b < 1
  · go_enter Try.func5, Try.ntmps5
    go_wp2_with fail
    refine (awake1 _).mono ?_
    rintro e w1 ⟨rfl, hb1⟩
    go_wp2_with fail
    refine (div_zero _ _ _ (by omega)).mono ?_
    rintro e w' ⟨rfl, n1, rfl⟩
    go_wp2_with fail
    refine (half_zero _ _ _ (by omega)).mono ?_
    rintro e w' ⟨rfl, n2, rfl⟩
    go_wp2_with fail
    refine (up_zero _ _ _ (by omega)).mono ?_
    rintro e w' ⟨rfl, n3, rfl⟩
    go_wp2
    go_ret
    exact ⟨rfl, below_drewN hb1 _⟩
  · have hp : 0 < b := by omega
    have l1 := Int.emod_nonneg a (show b ≠ 0 by omega)
    have l2 := Int.emod_lt_of_pos a hp
    have hd := ediv_bd (a := a) (b := b) (by omega) ha ha'
    have hdt : 0 < a % b → a / b ≤ 4611686018427387903 := fun h => (ediv_top (a := a) (b := b) (by omega) ha ha').2
    have hw1 := rest_wrap a b l1 l2 hb'
    generalize hwp : IntKind.i64.wrap (a / b * b) = p at hw1
    by_cases c1 : 0 < a % b
    · have hU := Lib.hid (show upV a b = a / b + 1 from if_pos c1)
      have hd2 := hdt c1
      clear hdt
      by_cases c2 : b - a % b ≤ a % b
      · have hV := Lib.hid (show halfV a b = a / b + 1 from if_pos c2)
        go_enter Try.func5, Try.ntmps5
        go_wp2_with fail
        refine (awake1 _).mono ?_
        rintro e w1 ⟨rfl, hb1⟩
        go_wp2_with fail
        refine (div_pos _ _ _ ha ha' hp hb').mono ?_
        rintro e w' ⟨rfl, n1, rfl⟩
        go_wp2_with fail
        refine (half_pos _ _ _ ha ha' hp hb').mono ?_
        rw [hV.out]
        rintro e w' ⟨rfl, n2, rfl⟩
        go_wp2_with fail
        refine (up_pos _ _ _ ha ha' hp hb').mono ?_
        rw [hU.out]
        rintro e w' ⟨rfl, n3, rfl⟩
        go_wp2
        go_ret
        exact ⟨rfl, below_drewN hb1 _⟩
      · have hV := Lib.hid (show halfV a b = a / b from if_neg c2)
        go_enter Try.func5, Try.ntmps5
        go_wp2_with fail
        refine (awake1 _).mono ?_
        rintro e w1 ⟨rfl, hb1⟩
        go_wp2_with fail
        refine (div_pos _ _ _ ha ha' hp hb').mono ?_
        rintro e w' ⟨rfl, n1, rfl⟩
        go_wp2_with fail
        refine (half_pos _ _ _ ha ha' hp hb').mono ?_
        rw [hV.out]
        rintro e w' ⟨rfl, n2, rfl⟩
        go_wp2_with fail
        refine (up_pos _ _ _ ha ha' hp hb').mono ?_
        rw [hU.out]
        rintro e w' ⟨rfl, n3, rfl⟩
        go_wp2
        go_ret
        exact ⟨rfl, below_drewN hb1 _⟩
    · have hU := Lib.hid (show upV a b = a / b from if_neg c1)
      clear hdt
      have c0 : ¬ b - a % b ≤ a % b := by omega
      · have hV := Lib.hid (show halfV a b = a / b from if_neg c0)
        go_enter Try.func5, Try.ntmps5
        go_wp2_with fail
        refine (awake1 _).mono ?_
        rintro e w1 ⟨rfl, hb1⟩
        go_wp2_with fail
        refine (div_pos _ _ _ ha ha' hp hb').mono ?_
        rintro e w' ⟨rfl, n1, rfl⟩
        go_wp2_with fail
        refine (half_pos _ _ _ ha ha' hp hb').mono ?_
        rw [hV.out]
        rintro e w' ⟨rfl, n2, rfl⟩
        go_wp2_with fail
        refine (up_pos _ _ _ ha ha' hp hb').mono ?_
        rw [hU.out]
        rintro e w' ⟨rfl, n3, rfl⟩
        go_wp2
        go_ret
        exact ⟨rfl, below_drewN hb1 _⟩
end Go.Proofs.Ytmlilkffokgkkaa
