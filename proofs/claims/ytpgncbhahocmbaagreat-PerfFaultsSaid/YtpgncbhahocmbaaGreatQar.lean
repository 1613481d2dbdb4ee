/-
  Package punch and the document's own answers: times, rounded, days, weeks, the weeks about a time.
-/
import Derived.Test.YtpgncbhahocmbaaGreatQaa
import Derived.Test.YtpgncbhahocmbaaGreatQaj
import Derived.Test.YtpgncbhahocmbaaGreatQab
import Derived.BigQuiet
import Derived.Deep.QuietTactic
namespace Go.Proofs.YtpgncbhahocmbaaGreat
open Go.RowKit
set_option linter.unusedVariables false
set_option linter.unusedSimpArgs false
set_option maxRecDepth 20000

theorem upTo_any (m n : Int) (w : World) : Calls Tryz.prog 102 #[.int .i64 m, .int .i64 n] w fun e w' => e = .returned (.int .i64 (max 0 (min n m))) ∧ w = w' := by
  go_enter Tryz.func102, Tryz.ntmps102
  go_wp2
  all_goals
    go_ret
    refine ⟨ret_one ?_, rfl⟩
    omega
theorem second_any (t : Int) (w : World) : Calls Tryz.prog 55 #[.int .i64 t] w fun e w' => e = .returned (.int .i64 (secP t)) ∧ w = w' := by
  have e : max 0 (min t 32054399) = secP t := by unfold secP timeP; omega
  have H := Lib.hid (fun W => e ▸ upTo_any 32054399 t W)
  generalize secP t = r at *
  go_enter Tryz.func55, Tryz.ntmps55
  go_wp2_with fail
  refine (H.out _).mono ?_
  rintro e w' ⟨rfl, rfl⟩
  go_wp2
  go_ret
  exact ⟨rfl, rfl⟩
theorem week_any (t : Int) (w : World) : Calls Tryz.prog 19 #[.int .i64 t] w fun e w' => e = .returned (.int .i64 (weekP t)) ∧ w = w' := by
  have hb := sec_bd t
  have H := Lib.hid (fun W => second_any t W)
  unfold weekP
  generalize secP t = r at *
  go_enter Tryz.func19, Tryz.ntmps19
  go_wp2_with fail
  refine (H.out _).mono ?_
  rintro e w' ⟨rfl, rfl⟩
  go_wp2
  go_ret
  exact ⟨by first | rfl | (congr 2; omega), rfl⟩

/-- What package num makes of a time and a unit, that times the unit, is the multiple that is nearest. -/
theorem round_half {t u : Int} (hu : 1 ≤ u) : halfV (timeP t) u * u = (if u - timeP t % u ≤ timeP t % u then timeP t - timeP t % u + u else timeP t - timeP t % u) := by
  obtain ⟨e, e1, e2⟩ := round_div (n := timeP t) hu
  unfold halfV
  rw [e]
  have hm : u * (timeP t / u) = timeP t / u * u := Int.mul_comm _ _
  split
  · rw [Int.add_mul]; omega
  · omega
theorem round_half_bd {t u : Int} (hu : 1 ≤ u) : 0 ≤ halfV (timeP t) u * u ∧ halfV (timeP t) u * u ≤ 64108800 ∧ min (halfV (timeP t) u * u) 32054400 = roundP t u := by
  have h := round_half (t := t) hu
  obtain ⟨e, e1, e2⟩ := round_div (n := timeP t) hu
  have hb := time_bd t
  have hr : timeP t % u ≤ timeP t := by
    have : 0 ≤ u * (timeP t / u) := Int.mul_nonneg (by omega) (Int.ediv_nonneg hb.1 (by omega))
    omega
  rw [h]
  unfold roundP
  rw [if_neg (show ¬ u < 1 by omega)]
  generalize timeP t % u = r at *
  generalize timeP t = n at *
  refine ⟨by split <;> omega, by split <;> omega, ?_⟩
  split
  · omega
  · omega
theorem half_fit {t u : Int} (hu : 1 ≤ u) : 0 ≤ halfV (timeP t) u ∧ halfV (timeP t) u ≤ 64108800 := by
  obtain ⟨e, e1, e2⟩ := round_div (n := timeP t) hu
  have hb := time_bd t
  have h0 : 0 ≤ timeP t / u := Int.ediv_nonneg hb.1 (by omega)
  have h1 : timeP t / u ≤ timeP t := Int.ediv_le_self _ hb.1
  unfold halfV
  split <;> omega
theorem round_any (t u : Int) (w : World) (hu' : u ≤ 9223372036854775807) : Calls Tryz.prog 129 #[.int .i64 t, .int .i64 u] w fun e w' => e = .returned (.int .i64 (roundP t u)) ∧ ∃ n, w' = w.drewN n := by
  have hb := time_bd t
  have e : max 0 (min t 32054400) = timeP t := by unfold timeP; omega
  have H := Lib.hid (fun W => e ▸ upTo_any 32054400 t W)
  by_cases h : u ≤ 0
  · have hr : timeP t = roundP t u := by unfold roundP; rw [if_pos (by omega)]
    have H2 := Lib.hid (fun W => half_zero (timeP t) u W h)
    rw [hr] at H H2
    generalize roundP t u = r at *
    go_enter Tryz.func129, Tryz.ntmps129
    go_wp2_with fail
    refine (H.out _).mono ?_
    rintro e w' ⟨rfl, rfl⟩
    go_wp2_with fail
    refine (H2.out _).mono ?_
    rintro e w' ⟨rfl, n, rfl⟩
    go_wp2
    go_ret
    exact ⟨rfl, n, rfl⟩
  · obtain ⟨b1, b2, b3⟩ := round_half_bd (t := t) (u := u) (by omega)
    have b4 := half_fit (t := t) (u := u) (by omega)
    have H2 := Lib.hid (fun W => half_pos (timeP t) u W (by omega) (by omega) (by omega) hu')
    generalize roundP t u = r at *
    generalize halfV (timeP t) u = y at *
    obtain ⟨z, hz⟩ : ∃ z, y * u = z := ⟨_, rfl⟩
    rw [hz] at b1 b2 b3
    go_enter Tryz.func129, Tryz.ntmps129
    go_wp2_with fail
    refine (H.out _).mono ?_
    rintro e w' ⟨rfl, rfl⟩
    go_wp2_with fail
    refine (H2.out _).mono ?_
    rintro e w' ⟨rfl, n, rfl⟩
    go_wp2
    all_goals
      go_ret
      refine ⟨ret_one ?_, n, rfl⟩
      omega

/-! ### The document's own -/
end Go.Proofs.YtpgncbhahocmbaaGreat
