/-
  The law PunchRounds, walked.
-/
import Derived.Test.YtojhecllgkoclaaPunE
namespace Go.Proofs.Ytojhecllgkoclaa
open Go.RowKit
set_option linter.unusedVariables false
set_option linter.unusedSimpArgs false
set_option maxRecDepth 20000

set_option maxHeartbeats 4000000 in
theorem punchRounds_walk (t u i : Int) (w : World) (t1 : 0 ≤ t) (t2 : t ≤ 4294967295) (u1 : 0 ≤ u) (u2 : u ≤ 4294967295) (i1 : 0 ≤ i) (i2 : i ≤ 65535) :
    Calls Try.prog 4 #[.int .u32 t, .int .u32 u, .int .u16 i] w fun e w' => e = .returned (.bool true) ∧ Below w.heap.size w w' := by
  obtain ⟨a, ha⟩ : ∃ a, t.tmod 31000000 = a := ⟨_, rfl⟩
  obtain ⟨b, hb⟩ : ∃ b, u.tmod 31000000 = b := ⟨_, rfl⟩
  have ha1 : 0 ≤ a ∧ a < 31000000 := by rw [Int.tmod_eq_emod_of_nonneg t1] at ha; omega
  have hb1 : 0 ≤ b ∧ b < 31000000 := by rw [Int.tmod_eq_emod_of_nonneg u1] at hb; omega
  obtain ⟨k, hk⟩ : ∃ k, i + 1 = k := ⟨_, rfl⟩
  have hk1 : 1 ≤ k ∧ k ≤ 65536 := by omega
  obtain ⟨e1, e2, e3⟩ := round_near ha1.1 ha1.2 hk1.1 hk1.2
  have e4 := round_again ha1.1 ha1.2 hk1.1 hk1.2
  have hx0 : 0 ≤ roundP a k ∧ roundP a k ≤ 31065536 := by
    have := time_bd a
    constructor
    · rw [round_up ha1.1 ha1.2 hk1.1 hk1.2]
      have : 0 ≤ k * (a / k) := Int.mul_nonneg (by omega) (Int.ediv_nonneg ha1.1 (by omega))
      split <;> omega
    · omega
  have hy0 : 0 ≤ roundP b k ∧ roundP b k ≤ 31065536 := by
    obtain ⟨f1, f2, f3⟩ := round_near hb1.1 hb1.2 hk1.1 hk1.2
    constructor
    · rw [round_up hb1.1 hb1.2 hk1.1 hk1.2]
      have : 0 ≤ k * (b / k) := Int.mul_nonneg (by omega) (Int.ediv_nonneg hb1.1 (by omega))
      split <;> omega
    · omega
  have e5 : a ≤ b → roundP a k ≤ roundP b k := fun h => round_keeps ha1.1 h hb1.2 hk1.1 hk1.2
  obtain ⟨x, hx⟩ : ∃ x, roundP a k = x := ⟨_, rfl⟩
  obtain ⟨y, hy⟩ : ∃ y, roundP b k = y := ⟨_, rfl⟩
  have e6 : x.tmod k = 0 := by rw [← hx, Int.tmod_eq_emod_of_nonneg hx0.1]; exact e1
  rw [hx] at e1 e2 e3 e4 hx0 e5
  rw [hy] at hy0 e5
  have CX := Lib.hid (fun W => round_bel a k x W (by omega) hx)
  have CY := Lib.hid (fun W => round_bel b k y W (by omega) hy)
  have CZ := Lib.hid (fun W => round_bel x k x W (by omega) e4)
  have ha2 := Lib.hid ha
  have hb2 := Lib.hid hb
  clear hx hy e1 e4
  by_cases hab : b < a
  all_goals
    first | (have hxy : x ≤ y := e5 (by omega)) | skip
    clear e5
    go_enter Try.func4, Try.ntmps4
    go_wp2_with fail
    refine (awake11 _).mono ?_
    rintro e w1 ⟨rfl, b1⟩
    have HB1 := Lib.hid b1
    clear b1
    go_wp2_with fail
    refine (CX.out _).mono ?_
    rintro e w2 ⟨rfl, b2⟩
    have HB2 := Lib.hid (bel_on HB1.out b2)
    clear b2 HB1
    go_wp2_with fail
    refine (CY.out _).mono ?_
    rintro e w3 ⟨rfl, b3⟩
    have HB3 := Lib.hid (bel_on HB2.out b3)
    clear b3 HB2
    go_wp2_with fail
    refine (CZ.out _).mono ?_
    rintro e w4 ⟨rfl, b4⟩
    have HB4 := Lib.hid (bel_on HB3.out b4)
    clear b4 HB3
    go_wp2
    go_ret
    exact ⟨rfl, HB4.out⟩
end Go.Proofs.Ytojhecllgkoclaa
