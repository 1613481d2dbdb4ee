/-
  The seconds of a day, and of a week: package punch's and the document's own.
-/
import Derived.Test.YtdlimgpmmkcgmaaGreatZae
import Derived.Test.YtdlimgpmmkcgmaaGreatZau
import Derived.Test.YtdlimgpmmkcgmaaGreatZav
namespace Go.Proofs.YtdlimgpmmkcgmaaGreat
open Go.RowKit
set_option linter.unusedVariables false
set_option linter.unusedSimpArgs false
set_option maxRecDepth 20000

theorem day_and (xs : List (Int × Int)) (n : Int) (h : 0 ≤ n ∧ n ≤ 370) : (canon fun t => In xs t ∧ In [(n * 86400, n * 86400 + 86400)] t) = ofDayP (In xs) n :=
  canon_congr fun t h0 h1 => by
    simp only [in_cons, in_nil, or_false]
    constructor
    · rintro ⟨q, q2⟩; exact ⟨q, by omega⟩
    · rintro ⟨q, q2⟩; exact ⟨q, by omega⟩
theorem day_fits (n : Int) (h : 0 ≤ n ∧ n ≤ 370) : Fits [(n * 86400, n * 86400 + 86400)] := fun x hx => by
  rw [List.mem_singleton.1 hx]
  exact ⟨⟨by simp only []; omega, by simp only []; omega⟩, ⟨by simp only []; omega, by simp only []; omega⟩⟩
theorem stretch_day (A : Option Addr) (cap : Nat) (xs : List (Int × Int)) (n : Int) (w : World) (hx : Spans w A xs) (hl : xs.length ≤ 100000000) :
    Calls Tryz.prog 46 #[.slice A xs.length cap, .int .i64 86400, .int .i64 n] w (Gives w (ofDayP (In xs) n)) := by
  have HX := Lib.hid hx
  clear hx
  by_cases h0 : n < 0
  · have hE := Lib.hid (ofDay_none (p := In xs) (.inl h0))
    go_enter Tryz.func46, Tryz.ntmps46
    go_wp2
    go_ret
    exact gives_of (Row.nil _ _) hE.out.symm rfl (by first | exact Below.refl _ _ | (repeat' (first | with_reducible exact Below.refl _ _ | with_reducible assumption | with_reducible refine bel_alloc ?_ _ | with_reducible refine bel_set ?_ ?_ _ | with_reducible refine below_drewN ?_ _ | with_reducible refine below_drew ?_ | (simp; done) | (simp; omega) | omega)))
  by_cases h1 : 371 ≤ n
  · have hE := Lib.hid (ofDay_none (p := In xs) (.inr (show 370 < n by omega)))
    go_enter Tryz.func46, Tryz.ntmps46
    go_wp2
    go_ret
    exact gives_of (Row.nil _ _) hE.out.symm rfl (by first | exact Below.refl _ _ | (repeat' (first | with_reducible exact Below.refl _ _ | with_reducible assumption | with_reducible refine bel_alloc ?_ _ | with_reducible refine bel_set ?_ ?_ _ | with_reducible refine below_drewN ?_ _ | with_reducible refine below_drew ?_ | (simp; done) | (simp; omega) | omega)))
  have h2 : 0 ≤ n ∧ n ≤ 370 := by omega
  have HE := Lib.hid (day_and xs n h2)
  have S2 := Lib.hid (spans_new w [(n * 86400, n * 86400 + 86400)] 44 #[.int .i64 (n * 86400), .int .i64 (n * 86400 + 86400)] rfl (day_fits n h2) rfl)
  have hb1 := bel_alloc (Below.refl w.heap.size w) (.cells #[.int .i64 (n * 86400), .int .i64 (n * 86400 + 86400)] 44)
  go_enter Tryz.func46, Tryz.ntmps46
  go_wp2_with fail
  refine (and_any A (some ⟨w.heap.size, 0, none⟩) cap 1 xs [(n * 86400, n * 86400 + 86400)] _ (HX.out.below hb1) S2.out hl (by simp)).mono ?_
  intro e w4 hg
  have HG := gives_bel hg hb1 HE.out
  clear hg
  obtain ⟨D, d, rfl, hr, hb⟩ := HG
  go_wp2
  go_ret
  exact ⟨D, d, rfl, hr, hb⟩
theorem ofday_any (A : Option Addr) (cap : Nat) (xs : List (Int × Int)) (n : Int) (w : World) (hx : Spans w A xs) (hl : xs.length ≤ 100000000) :
    Calls Tryz.prog 97 #[.slice A xs.length cap, .int .i64 n] w (Gives w (ofDayP (In xs) n)) := by
  have C1 := Lib.hid (stretch_day A cap xs n w hx hl)
  clear hx
  go_enter Tryz.func97, Tryz.ntmps97
  go_wp2_with fail
  refine C1.out.mono ?_
  rintro e w4 ⟨D, d, rfl, hr, hb⟩
  go_wp2
  go_ret
  exact ⟨D, d, rfl, hr, hb⟩
theorem rofday_any (A : Option Addr) (cap : Nat) (xs : List (Int × Int)) (n : Int) (w : World) (hx : Spans w A xs) (hl : xs.length ≤ 100000000) :
    Calls Tryz.prog 75 #[.slice A xs.length cap, .int .i64 n] w (Gives w (ofDayP (In xs) n)) := by
  have HX := Lib.hid hx
  clear hx
  by_cases h0 : n < 0
  · have hE := Lib.hid (ofDay_none (p := In xs) (.inl h0))
    go_enter Tryz.func75, Tryz.ntmps75
    go_wp2
    go_ret
    exact gives_of (Row.nil _ _) hE.out.symm rfl (by first | exact Below.refl _ _ | (repeat' (first | with_reducible exact Below.refl _ _ | with_reducible assumption | with_reducible refine bel_alloc ?_ _ | with_reducible refine bel_set ?_ ?_ _ | with_reducible refine below_drewN ?_ _ | with_reducible refine below_drew ?_ | (simp; done) | (simp; omega) | omega)))
  by_cases h1 : 370 < n
  · have hE := Lib.hid (ofDay_none (p := In xs) (.inr h1))
    go_enter Tryz.func75, Tryz.ntmps75
    go_wp2
    go_ret
    exact gives_of (Row.nil _ _) hE.out.symm rfl (by first | exact Below.refl _ _ | (repeat' (first | with_reducible exact Below.refl _ _ | with_reducible assumption | with_reducible refine bel_alloc ?_ _ | with_reducible refine bel_set ?_ ?_ _ | with_reducible refine below_drewN ?_ _ | with_reducible refine below_drew ?_ | (simp; done) | (simp; omega) | omega)))
  have h2 : 0 ≤ n ∧ n ≤ 370 := by omega
  have HE := Lib.hid (day_and xs n h2)
  obtain ⟨f, hf⟩ : ∃ f, n * 86400 = f := ⟨_, rfl⟩
  have hf' : 86400 * n = f := by omega
  have hfb : 0 ≤ f ∧ f ≤ 32054400 := by omega
  have hft := day_fits n h2
  rw [hf] at HE hft
  have HF := Lib.hid hf
  clear hf
  have S2 := Lib.hid (spans_new w [(f, f + 86400)] 44 #[.int .i64 f, .int .i64 (f + 86400)] rfl hft rfl)
  have hb1 := bel_alloc (Below.refl w.heap.size w) (.cells #[.int .i64 f, .int .i64 (f + 86400)] 44)
  go_enter Tryz.func75, Tryz.ntmps75
  go_wp2_with fail
  refine (rand_any A (some ⟨w.heap.size, 0, none⟩) cap 1 xs [(f, f + 86400)] _ (HX.out.below hb1) S2.out hl (by simp)).mono ?_
  intro e w4 hg
  have HG := gives_bel hg hb1 HE.out
  clear hg
  obtain ⟨D, d, rfl, hr, hb⟩ := HG
  go_wp2
  go_ret
  exact ⟨D, d, rfl, hr, hb⟩
theorem week_and (xs : List (Int × Int)) (n : Int) (h : 0 ≤ n ∧ n ≤ 52) : (canon fun t => In xs t ∧ In [(n * 604800, n * 604800 + 604800)] t) = ofWeekP (In xs) n :=
  canon_congr fun t h0 h1 => by
    simp only [in_cons, in_nil, or_false]
    constructor
    · rintro ⟨q, q2⟩; exact ⟨q, by omega⟩
    · rintro ⟨q, q2⟩; exact ⟨q, by omega⟩
theorem week_fits (n : Int) (h : 0 ≤ n ∧ n ≤ 52) : Fits [(n * 604800, n * 604800 + 604800)] := fun x hx => by
  rw [List.mem_singleton.1 hx]
  exact ⟨⟨by simp only []; omega, by simp only []; omega⟩, ⟨by simp only []; omega, by simp only []; omega⟩⟩
theorem stretch_week (A : Option Addr) (cap : Nat) (xs : List (Int × Int)) (n : Int) (w : World) (hx : Spans w A xs) (hl : xs.length ≤ 100000000) :
    Calls Tryz.prog 46 #[.slice A xs.length cap, .int .i64 604800, .int .i64 n] w (Gives w (ofWeekP (In xs) n)) := by
  have HX := Lib.hid hx
  clear hx
  by_cases h0 : n < 0
  · have hE := Lib.hid (ofWeek_none (p := In xs) (.inl h0))
    go_enter Tryz.func46, Tryz.ntmps46
    go_wp2
    go_ret
    exact gives_of (Row.nil _ _) hE.out.symm rfl (by first | exact Below.refl _ _ | (repeat' (first | with_reducible exact Below.refl _ _ | with_reducible assumption | with_reducible refine bel_alloc ?_ _ | with_reducible refine bel_set ?_ ?_ _ | with_reducible refine below_drewN ?_ _ | with_reducible refine below_drew ?_ | (simp; done) | (simp; omega) | omega)))
  by_cases h1 : 53 ≤ n
  · have hE := Lib.hid (ofWeek_none (p := In xs) (.inr (show 52 < n by omega)))
    go_enter Tryz.func46, Tryz.ntmps46
    go_wp2
    go_ret
    exact gives_of (Row.nil _ _) hE.out.symm rfl (by first | exact Below.refl _ _ | (repeat' (first | with_reducible exact Below.refl _ _ | with_reducible assumption | with_reducible refine bel_alloc ?_ _ | with_reducible refine bel_set ?_ ?_ _ | with_reducible refine below_drewN ?_ _ | with_reducible refine below_drew ?_ | (simp; done) | (simp; omega) | omega)))
  have h2 : 0 ≤ n ∧ n ≤ 52 := by omega
  have HE := Lib.hid (week_and xs n h2)
  have S2 := Lib.hid (spans_new w [(n * 604800, n * 604800 + 604800)] 44 #[.int .i64 (n * 604800), .int .i64 (n * 604800 + 604800)] rfl (week_fits n h2) rfl)
  have hb1 := bel_alloc (Below.refl w.heap.size w) (.cells #[.int .i64 (n * 604800), .int .i64 (n * 604800 + 604800)] 44)
  go_enter Tryz.func46, Tryz.ntmps46
  go_wp2_with fail
  refine (and_any A (some ⟨w.heap.size, 0, none⟩) cap 1 xs [(n * 604800, n * 604800 + 604800)] _ (HX.out.below hb1) S2.out hl (by simp)).mono ?_
  intro e w4 hg
  have HG := gives_bel hg hb1 HE.out
  clear hg
  obtain ⟨D, d, rfl, hr, hb⟩ := HG
  go_wp2
  go_ret
  exact ⟨D, d, rfl, hr, hb⟩
theorem ofweek_any (A : Option Addr) (cap : Nat) (xs : List (Int × Int)) (n : Int) (w : World) (hx : Spans w A xs) (hl : xs.length ≤ 100000000) :
    Calls Tryz.prog 18 #[.slice A xs.length cap, .int .i64 n] w (Gives w (ofWeekP (In xs) n)) := by
  have C1 := Lib.hid (stretch_week A cap xs n w hx hl)
  clear hx
  go_enter Tryz.func18, Tryz.ntmps18
  go_wp2_with fail
  refine C1.out.mono ?_
  rintro e w4 ⟨D, d, rfl, hr, hb⟩
  go_wp2
  go_ret
  exact ⟨D, d, rfl, hr, hb⟩
theorem rofweek_any (A : Option Addr) (cap : Nat) (xs : List (Int × Int)) (n : Int) (w : World) (hx : Spans w A xs) (hl : xs.length ≤ 100000000) :
    Calls Tryz.prog 35 #[.slice A xs.length cap, .int .i64 n] w (Gives w (ofWeekP (In xs) n)) := by
  have HX := Lib.hid hx
  clear hx
  by_cases h0 : n < 0
  · have hE := Lib.hid (ofWeek_none (p := In xs) (.inl h0))
    go_enter Tryz.func35, Tryz.ntmps35
    go_wp2
    go_ret
    exact gives_of (Row.nil _ _) hE.out.symm rfl (by first | exact Below.refl _ _ | (repeat' (first | with_reducible exact Below.refl _ _ | with_reducible assumption | with_reducible refine bel_alloc ?_ _ | with_reducible refine bel_set ?_ ?_ _ | with_reducible refine below_drewN ?_ _ | with_reducible refine below_drew ?_ | (simp; done) | (simp; omega) | omega)))
  by_cases h1 : 52 < n
  · have hE := Lib.hid (ofWeek_none (p := In xs) (.inr h1))
    go_enter Tryz.func35, Tryz.ntmps35
    go_wp2
    go_ret
    exact gives_of (Row.nil _ _) hE.out.symm rfl (by first | exact Below.refl _ _ | (repeat' (first | with_reducible exact Below.refl _ _ | with_reducible assumption | with_reducible refine bel_alloc ?_ _ | with_reducible refine bel_set ?_ ?_ _ | with_reducible refine below_drewN ?_ _ | with_reducible refine below_drew ?_ | (simp; done) | (simp; omega) | omega)))
  have h2 : 0 ≤ n ∧ n ≤ 52 := by omega
  have HE := Lib.hid (week_and xs n h2)
  obtain ⟨f, hf⟩ : ∃ f, n * 604800 = f := ⟨_, rfl⟩
  have hf' : 604800 * n = f := by omega
  have hfb : 0 ≤ f ∧ f ≤ 32054400 := by omega
  have hft := week_fits n h2
  rw [hf] at HE hft
  have HF := Lib.hid hf
  clear hf
  have S2 := Lib.hid (spans_new w [(f, f + 604800)] 44 #[.int .i64 f, .int .i64 (f + 604800)] rfl hft rfl)
  have hb1 := bel_alloc (Below.refl w.heap.size w) (.cells #[.int .i64 f, .int .i64 (f + 604800)] 44)
  go_enter Tryz.func35, Tryz.ntmps35
  go_wp2_with fail
  refine (rand_any A (some ⟨w.heap.size, 0, none⟩) cap 1 xs [(f, f + 604800)] _ (HX.out.below hb1) S2.out hl (by simp)).mono ?_
  intro e w4 hg
  have HG := gives_bel hg hb1 HE.out
  clear hg
  obtain ⟨D, d, rfl, hr, hb⟩ := HG
  go_wp2
  go_ret
  exact ⟨D, d, rfl, hr, hb⟩
end Go.Proofs.YtdlimgpmmkcgmaaGreat
