/-
  The law PunchHas, walked.
-/
import Derived.Test.YtojhecllgkoclaaPunE
namespace Go.Proofs.Ytojhecllgkoclaa
open Go.RowKit
set_option linter.unusedVariables false
set_option linter.unusedSimpArgs false
set_option maxRecDepth 20000

theorem hasB_day (xs : List (Int × Int)) (t n : Int) : hasB (ofDayP (In xs) n) t = (hasB xs t && decide (dayP t = n)) := by
  rw [Bool.eq_iff_iff, Bool.and_eq_true, hasB_iff, hasB_iff, decide_eq_true_eq]
  unfold ofDayP
  rw [canon_in]
  constructor
  · rintro ⟨h1, h2, _, _, h3, h4⟩
    exact ⟨⟨h1, h2, h3⟩, by unfold dayP; rw [sec_in h1 h2]; exact h4⟩
  · rintro ⟨⟨h1, h2, h3⟩, h4⟩
    unfold dayP at h4
    rw [sec_in h1 h2] at h4
    exact ⟨h1, h2, h1, h2, h3, h4⟩
theorem hasB_week (xs : List (Int × Int)) (t n : Int) : hasB (ofWeekP (In xs) n) t = (hasB xs t && decide (weekP t = n)) := by
  rw [Bool.eq_iff_iff, Bool.and_eq_true, hasB_iff, hasB_iff, decide_eq_true_eq]
  unfold ofWeekP
  rw [canon_in]
  constructor
  · rintro ⟨h1, h2, _, _, h3, h4⟩
    exact ⟨⟨h1, h2, h3⟩, by unfold weekP; rw [sec_in h1 h2]; exact h4⟩
  · rintro ⟨⟨h1, h2, h3⟩, h4⟩
    unfold weekP at h4
    rw [sec_in h1 h2] at h4
    exact ⟨h1, h2, h1, h2, h3, h4⟩
theorem punchHas_long (a1 : Option Addr) (len1 cap1 : Nat) (t n : Int) (w : World) (h : 100 < len1) :
    Calls Try.prog 7 #[.slice a1 len1 cap1, .int .i64 t, .int .i64 n] w fun e w' => e = .returned (.bool true) ∧ Below w.heap.size w w' := by
  have hd : (100 : Int) < (len1 : Int) := by omega
  go_enter Try.func7, Try.ntmps7
  go_wp2_with fail
  refine (awake11 _).mono ?_
  rintro e w1 ⟨rfl, b1⟩
  have HB := Lib.hid b1
  clear b1
  go_wp2
  go_ret
  exact ⟨rfl, HB.out⟩
set_option maxHeartbeats 8000000 in
theorem punchHas_short (a1 : Option Addr) (cap1 : Nat) (z1 : List (Int × Int)) (t n : Int) (w : World) (s1 : Spans w a1 z1) (g : z1.length ≤ 100) :
    Calls Try.prog 7 #[.slice a1 z1.length cap1, .int .i64 t, .int .i64 n] w fun e w' => e = .returned (.bool true) ∧ Below w.heap.size w w' := by
  have hl : z1.length ≤ 100000000 := by omega
  have hd : ¬ (100 : Int) < (z1.length : Int) := by omega
  have C0 := Lib.hid (fun W (h : Spans W a1 z1) => has_any a1 cap1 z1 t W h hl)
  have C1 := Lib.hid (fun W (h : Spans W a1 z1) => ofday_any a1 cap1 z1 n W h hl)
  have C3 := Lib.hid (fun W (h : Spans W a1 z1) => ofweek_any a1 cap1 z1 n W h hl)
  have fD : Fits (ofDayP (In z1) n) := Fits.canon _
  have fW : Fits (ofWeekP (In z1) n) := Fits.canon _
  have lD : (ofDayP (In z1) n).length ≤ 32054401 := canon_len _
  have lW : (ofWeekP (In z1) n).length ≤ 32054401 := canon_len _
  have E1 := Lib.hid (hasB_day z1 t n)
  have E2 := Lib.hid (hasB_week z1 t n)
  obtain ⟨d, hdd⟩ : ∃ d, dayP t = d := ⟨_, rfl⟩
  have CD := Lib.hid (fun W => day_is t d W hdd)
  obtain ⟨k, hk⟩ : ∃ k, weekP t = k := ⟨_, rfl⟩
  have CW := Lib.hid (fun W => week_is t k W hk)
  rw [hdd] at E1
  rw [hk] at E2
  clear hdd hk
  generalize ofDayP (In z1) n = vD at *
  generalize ofWeekP (In z1) n = vW at *
  have HS0 := Lib.hid s1
  clear s1
  generalize hasB z1 t = ha at *
  cases ha
  all_goals
    by_cases h1 : d = n
    all_goals
      by_cases h2 : k = n
      all_goals
        have e1 := E1.out
        have e2 := E2.out
        simp [h1] at e1
        simp [h2] at e2
        replace E1 := Lib.hid e1
        replace E2 := Lib.hid e2
        clear e1 e2
        first | (subst h2) | (have h2b := beq_eq_false_iff_ne.2 h2)
        first | (subst h1) | (have h1b := beq_eq_false_iff_ne.2 h1)
        go_enter Try.func7, Try.ntmps7
        go_wp2_with fail
        refine (awake11 _).mono ?_
        rintro e w1 ⟨rfl, b1⟩
        have HB1 := Lib.hid b1
        have HS1 := Lib.hid (HS0.out.below b1)
        clear b1 HS0
        go_wp2_with fail
        refine (C0.out _ HS1.out).mono ?_
        rintro e w2 ⟨rfl, b2⟩
        have HB2 := Lib.hid (bel_on HB1.out b2)
        have HS2 := Lib.hid (HS1.out.below b2)
        clear b2 HB1 HS1
        go_wp2_with fail
        refine (C1.out _ HS2.out).mono ?_
        rintro e w3 ⟨A3, c3, rfl, r3, b3⟩
        have HX3 := Lib.hid (r3.spans fD)
        have HB3 := Lib.hid (bel_on HB2.out b3)
        have HS3 := Lib.hid (HS2.out.below b3)
        clear b3 r3 HB2 HS2
        go_wp2_with fail
        refine (has_any A3 c3 vD t _ HX3.out (by omega)).mono ?_
        rw [E1.out]
        rintro e w4 ⟨rfl, b4⟩
        have HB4 := Lib.hid (bel_on HB3.out b4)
        have HS4 := Lib.hid (HS3.out.below b4)
        clear b4 HB3 HS3 HX3
        go_wp2_with fail
        first
          | (refine (CD.out _).mono ?_
             rintro e w5 ⟨rfl, rfl⟩
             go_wp2_with fail)
          | skip
        refine (C3.out _ HS4.out).mono ?_
        rintro e w6 ⟨A6, c6, rfl, r6, b6⟩
        have HX6 := Lib.hid (r6.spans fW)
        have HB6 := Lib.hid (bel_on HB4.out b6)
        clear b6 r6 HB4 HS4
        go_wp2_with fail
        refine (has_any A6 c6 vW t _ HX6.out (by omega)).mono ?_
        rw [E2.out]
        rintro e w7 ⟨rfl, b7⟩
        have HB7 := Lib.hid (bel_on HB6.out b7)
        clear b7 HB6 HX6
        first
          | (go_wp2_with fail
             refine (CW.out _).mono ?_
             rintro e w8 ⟨rfl, rfl⟩
             go_wp2
             go_ret
             exact ⟨rfl, HB7.out⟩)
          | (go_wp2
             go_ret
             exact ⟨rfl, HB7.out⟩)
theorem punchHas_walk (a1 : Option Addr) (len1 cap1 : Nat) (z1 : List (Int × Int)) (t n : Int) (w : World)
    (l1 : z1.length = len1) (l1' : len1 ≤ 9223372036854775807) (s1 : Spans w a1 z1) (n1 : a1 = none → cap1 = 0) (t1 : -9223372036854775808 ≤ t) (t2 : t ≤ 9223372036854775807) (m1 : -9223372036854775808 ≤ n) (m2 : n ≤ 9223372036854775807) :
    Calls Try.prog 7 #[.slice a1 len1 cap1, .int .i64 t, .int .i64 n] w fun e w' => e = .returned (.bool true) ∧ Below w.heap.size w w' := by
  subst l1
  by_cases g : z1.length ≤ 100
  · exact punchHas_short a1 cap1 z1 t n w s1 g
  · exact punchHas_long a1 _ cap1 t n w (by omega)
end Go.Proofs.Ytojhecllgkoclaa
