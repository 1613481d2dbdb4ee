/-
  The walk of the law NumGcds: it answers true, and leaves what was there as it was.
-/
import Derived.Test.YtmlilkffokgkkaaNumAwake
namespace Go.Proofs.Ytmlilkffokgkkaa
open Go.RowKit
set_option linter.unusedVariables false

theorem sideV_small (a : Int) (ha : -9223372036854775808 < a) : sideV a = a.natAbs := by
  unfold sideV; rw [if_neg (by omega)]; split <;> omega
theorem gcdV_small (a b : Int) (ha : -9223372036854775808 < a) (hb : -9223372036854775808 < b) : gcdV a b = Nat.gcd a.natAbs b.natAbs := by
  unfold gcdV; rw [sideV_small a ha, sideV_small b hb]; rfl

theorem tdiv_natAbs (a : Int) (g : Nat) : (a.tdiv g).natAbs = a.natAbs / g := by rw [Int.natAbs_tdiv]; rfl

theorem tdiv_self_in (a : Int) (g : Nat) (ha : -2147483648 ≤ a) (ha' : a ≤ 2147483647) : -2147483648 ≤ a.tdiv g ∧ a.tdiv g ≤ 2147483648 := by
  have h := tdiv_natAbs a g
  have := Nat.div_le_self a.natAbs g
  omega

theorem numGcds_walk (a b : Int) (w : World) (ha : -2147483648 ≤ a) (ha' : a ≤ 2147483647) (hb : -2147483648 ≤ b) (hb' : b ≤ 2147483647) :
    Calls Try.prog 7 #[.int .i32 a, .int .i32 b] w fun e w' => e = .returned (.bool true) ∧ Below w.heap.size w w' := by
  obtain ⟨g, hg⟩ : ∃ g : Nat, Nat.gcd a.natAbs b.natAbs = g := ⟨_, rfl⟩
  have hg1 : gcdV a b = g := by rw [gcdV_small a b (by omega) (by omega), hg]
  have hg2 : gcdV b a = g := by rw [gcdV_small b a (by omega) (by omega), Nat.gcd_comm, hg]
  have hg3 : gcdV (-a) b = g := by rw [gcdV_small (-a) b (by omega) (by omega), Int.natAbs_neg, hg]
  have H1 := Lib.hid hg1
  have H2 := Lib.hid hg2
  have H3 := Lib.hid hg3
  clear hg1 hg2 hg3
  by_cases hz : g = 0
  · subst hz
    rw [Nat.gcd_eq_zero_iff] at hg
    have za : a = 0 := by omega
    have zb : b = 0 := by omega
    clear hg
    subst za zb
    go_enter Try.func7, Try.ntmps7
    go_wp2_with fail
    refine (awake1 _).mono ?_
    rintro e w1 ⟨rfl, hb1⟩
    go_wp2_with fail
    refine (quietB (gcd_any _ _ _ (by omega) (by omega) (by omega) (by omega))).mono ?_
    rw [H1.out]
    rintro e w2 ⟨rfl, hb2⟩
    replace hb2 := bel_on hb1 hb2
    clear hb1
    go_wp2_with fail
    refine (quietB (gcd_any _ _ _ (by omega) (by omega) (by omega) (by omega))).mono ?_
    rw [H2.out]
    rintro e w3 ⟨rfl, hb3⟩
    replace hb3 := bel_on hb2 hb3
    clear hb2
    go_wp2_with fail
    refine (quietB (gcd_any _ _ _ (by omega) (by omega) (by omega) (by omega))).mono ?_
    rw [H1.out]
    rintro e w4 ⟨rfl, hb4⟩
    replace hb4 := bel_on hb3 hb4
    clear hb3
    go_wp2
    go_ret
    exact ⟨rfl, hb4⟩
  · have hgp : 0 < g := by omega
    have hgl : g ≤ 2147483648 := by
      have d1 := Nat.gcd_dvd_left a.natAbs b.natAbs
      have d2 := Nat.gcd_dvd_right a.natAbs b.natAbs
      rw [hg] at d1 d2
      by_cases za : a.natAbs = 0
      · by_cases zb : b.natAbs = 0
        · rw [za, zb] at hg
          simp at hg
          omega
        · have := Nat.le_of_dvd (by omega) d2
          omega
      · have := Nat.le_of_dvd (by omega) d1
        omega
    have ta : a.tmod g = 0 := Int.tmod_eq_zero_of_dvd (Int.natAbs_dvd_natAbs.1 (by rw [← hg]; exact Nat.gcd_dvd_left _ _))
    have tb : b.tmod g = 0 := Int.tmod_eq_zero_of_dvd (Int.natAbs_dvd_natAbs.1 (by rw [← hg]; exact Nat.gcd_dvd_right _ _))
    have qa := tdiv_self_in a g ha ha'
    have qb := tdiv_self_in b g hb hb'
    have hq : gcdV (a.tdiv g) (b.tdiv g) = 1 := by
      rw [gcdV_small _ _ (by omega) (by omega), tdiv_natAbs, tdiv_natAbs, Nat.gcd_div (by rw [← hg]; exact Nat.gcd_dvd_left _ _) (by rw [← hg]; exact Nat.gcd_dvd_right _ _), hg, Nat.div_self hgp]
      rfl
    have H4 := Lib.hid hq
    have H5 := Lib.hid hg
    clear hq hg
    have hgi : (0 : Int) < (g : Int) := by omega
    have c1 : IntKind.i64.wrap a = a := IntWalk.i64_in _ (by omega)
    have c2 : IntKind.i64.wrap b = b := IntWalk.i64_in _ (by omega)
    generalize hxa : a.tdiv g = xa at *
    generalize hxb : b.tdiv g = xb at *
    have c3 : IntKind.i64.wrap xa = xa := IntWalk.i64_in _ (by omega)
    have c4 : IntKind.i64.wrap xb = xb := IntWalk.i64_in _ (by omega)
    go_enter Try.func7, Try.ntmps7
    go_wp2_with fail
    refine (awake1 _).mono ?_
    rintro e w1 ⟨rfl, hb1⟩
    go_wp2_with fail
    refine (quietB (gcd_any _ _ _ (by omega) (by omega) (by omega) (by omega))).mono ?_
    rw [H1.out]
    rintro e w2 ⟨rfl, hb2⟩
    replace hb2 := bel_on hb1 hb2
    clear hb1
    go_wp2_with fail
    refine (quietB (gcd_any _ _ _ (by omega) (by omega) (by omega) (by omega))).mono ?_
    rw [H2.out]
    rintro e w3 ⟨rfl, hb3⟩
    replace hb3 := bel_on hb2 hb3
    clear hb2
    go_wp2_with fail
    refine (quietB (gcd_any _ _ _ (by omega) (by omega) (by omega) (by omega))).mono ?_
    rw [H3.out]
    rintro e w4 ⟨rfl, hb4⟩
    replace hb4 := bel_on hb3 hb4
    clear hb3
    have hcall : ∀ n, Calls Try.prog 20 #[.int .i64 xa, .int .i64 xb] (w4.drewN n) fun e w' => e = .returned (.int .i64 1) ∧ ∃ m, w' = (w4.drewN n).drewN m := fun n => by
      have := gcd_any xa xb (w4.drewN n) (by omega) (by omega) (by omega) (by omega)
      rw [H4.out] at this
      exact this
    have HC := Lib.hid hcall
    clear hcall
    go_wp2_with fail
    go_quiet ((go_at_call 20; exact Calls.quiet_of (HC.out _)))
    go_wp2
    go_ret
    exact ⟨rfl, below_drewN hb4 _⟩
end Go.Proofs.Ytmlilkffokgkkaa
