/-
  Package setup: what Check tells is whether a setup may be.
-/
import Derived.Test.YtdhkfhgggkndoaaSetG
namespace Go.Proofs.Ytdhkfhgggkndoaa
open Go.RowKit
set_option linter.unusedVariables false
set_option linter.unusedSimpArgs false

theorem with_iff {n a b : Int} : withB n a b = true ↔ a ≤ n ∧ n ≤ b := by simp [withB]
theorem allP_rows {t : Rows2} {p : List Int → Bool} : allP (fun i => p (t.getD i [])) t.length = true ↔ ∀ r ∈ t, p r = true := by
  rw [allP_iff]
  constructor
  · intro h r hr
    obtain ⟨i, hi, rfl⟩ := List.getElem_of_mem hr
    have := h i hi
    simpa [List.getD, hi] using this
  · intro h i hi
    exact h _ (by simp [List.getD, hi])
theorem way_iff {pl : Int} {r : List Int} : wayB pl (r.getD 0 0) (r.getD 1 0) (r.getD 2 0) = true ↔ wayP pl r := by
  unfold wayB wayP
  simp only [Bool.and_eq_true, with_iff, decide_eq_true_eq, ne_eq]
  omega
theorem ground_iff {s : SetP} : groundB s = true ↔ (1 ≤ s.places ∧ s.places ≤ 16) ∧ s.ways.length ≤ 64 ∧ ∀ r ∈ s.ways, wayP s.places r := by
  unfold groundB
  rw [Bool.and_eq_true, Bool.and_eq_true, with_iff, decide_eq_true_eq, allP_rows (p := fun r => wayB s.places (r.getD 0 0) (r.getD 1 0) (r.getD 2 0))]
  simp only [way_iff]
  constructor
  · rintro ⟨h1, h2, h3⟩; exact ⟨h1, by omega, h3⟩
  · rintro ⟨h1, h2, h3⟩; exact ⟨h1, by omega, h3⟩
theorem ele_iff {t : Rows2} : eleB t = true ↔ t.length ≤ 8 ∧ ∀ r ∈ t, eleP r := by
  unfold eleB
  rw [Bool.and_eq_true, decide_eq_true_eq, allP_rows (p := fun r => shareB (r.getD 0 0) (r.getD 1 0) && shareB (r.getD 2 0) (r.getD 3 0))]
  simp only [Bool.and_eq_true]
  constructor
  · rintro ⟨h1, h2⟩; exact ⟨by omega, h2⟩
  · rintro ⟨h1, h2⟩; exact ⟨by omega, h2⟩
theorem rat_iff {t : Rows2} : ratB t = true ↔ t.length ≤ 8 ∧ ∀ r ∈ t, ratP r := by
  unfold ratB
  rw [Bool.and_eq_true, decide_eq_true_eq, allP_rows (p := fun r => shareB (r.getD 0 0) (r.getD 1 0))]
  constructor
  · rintro ⟨h1, h2⟩; exact ⟨by omega, h2⟩
  · rintro ⟨h1, h2⟩; exact ⟨by omega, h2⟩
theorem rates_iff {l : List Int} : ratesB l = true ↔ l.length ≤ 16 ∧ ∀ n ∈ l, rateP n := by
  unfold ratesB
  have := allP_rows (t := l.map fun z => [z]) (p := fun r => withB (r.getD 0 0) 0 100000)
  rw [List.length_map] at this
  rw [Bool.and_eq_true, decide_eq_true_eq, this]
  simp only [with_iff, List.mem_map]
  constructor
  · rintro ⟨h1, h2⟩
    refine ⟨by omega, fun n hn => ?_⟩
    have := h2 [n] ⟨n, hn, rfl⟩
    exact this
  · rintro ⟨h1, h2⟩
    refine ⟨by omega, ?_⟩
    rintro r ⟨n, hn, rfl⟩
    exact h2 n hn
theorem tiers_iff {t : Rows2} : tiersB t = true ↔ t.length ≤ 8 ∧ ∀ i, i < t.length → tierP t i := by
  unfold tiersB
  rw [Bool.and_eq_true, decide_eq_true_eq, allP_iff]
  simp only [Bool.and_eq_true, with_iff]
  constructor
  · rintro ⟨h1, h2⟩
    refine ⟨by omega, fun i hi => ?_⟩
    have hlo : ∀ i, i < t.length → 0 ≤ (t.getD i []).getD 0 0 := by
      intro i
      induction i with
      | zero => intro hi; have := (h2 0 hi).1.1; exact this
      | succ i ih =>
        intro hi
        have h3 := (h2 (i + 1) hi).1.1
        have h4 := ih (by omega)
        have h5 : loT t (i + 1) = (t.getD i []).getD 0 0 + 1 := rfl
        omega
    obtain ⟨⟨a1, a2⟩, a3, a4⟩ := h2 i hi
    refine ⟨hlo i hi, a2, a3, a4, fun hp => ?_⟩
    obtain ⟨k, rfl⟩ : ∃ k, i = k + 1 := ⟨i - 1, by omega⟩
    have h5 : loT t (k + 1) = (t.getD k []).getD 0 0 + 1 := rfl
    rw [Nat.add_sub_cancel]
    omega
  · rintro ⟨h1, h2⟩
    refine ⟨by omega, fun i hi => ?_⟩
    obtain ⟨a1, a2, a3, a4, a5⟩ := h2 i hi
    refine ⟨⟨?_, a2⟩, a3, a4⟩
    cases i with
    | zero => exact a1
    | succ k =>
      have h5 : loT t (k + 1) = (t.getD k []).getD 0 0 + 1 := rfl
      have := a5 (by omega)
      rw [Nat.add_sub_cancel] at this
      omega
theorem times_iff {s : SetP} : timesB s = true ↔ ((0 ≤ s.paid ∧ s.paid ≤ 86400) ∧ (0 ≤ s.aft ∧ s.aft ≤ 86400) ∧ (0 ≤ s.brk ∧ s.brk ≤ 86400) ∧ (0 ≤ s.reg ∧ s.reg ≤ 86400) ∧ (0 ≤ s.over ∧ s.over ≤ 86400) ∧ (0 ≤ s.nfrom ∧ s.nfrom ≤ 86400) ∧ (0 ≤ s.nto ∧ s.nto ≤ 86400) ∧ (0 ≤ s.fault ∧ s.fault ≤ 86400)) ∧ s.reg ≤ s.over ∧ (0 ≤ s.week ∧ s.week ≤ 604800) ∧ (1 ≤ s.unit ∧ s.unit ≤ 3600) ∧ (60 ≤ s.cap ∧ s.cap ≤ 57600) := by
  have e : allP (fun i => withB ((([s.paid, s.aft, s.brk, s.reg, s.over, s.nfrom, s.nto, s.fault].map fun z => [z]).getD i []).getD 0 0) 0 86400) 8 = (withB s.paid 0 86400 && (withB s.aft 0 86400 && (withB s.brk 0 86400 && (withB s.reg 0 86400 && (withB s.over 0 86400 && (withB s.nfrom 0 86400 && (withB s.nto 0 86400 && (withB s.fault 0 86400 && true)))))))) := rfl
  unfold timesB
  rw [e]
  simp only [Bool.and_eq_true, with_iff, decide_eq_true_eq, Int.le_refl, true_and, and_true]
  constructor
  · intro h; omega
  · intro h; omega
theorem check_iff {s : SetP} : checkB s = true ↔ s.May := by
  unfold checkB workB moneyB
  simp only [Bool.and_eq_true, ground_iff, ele_iff, rat_iff, times_iff, rates_iff, tiers_iff, with_iff, decide_eq_true_eq]
  constructor
  · rintro ⟨⟨⟨⟨g1, g2⟩, ⟨⟨⟨⟨w1, w2⟩, w3⟩, w4⟩, w5⟩⟩, ⟨⟨t1, t2, t3, t4, t5, t6, t7, t8⟩, t9, t10, t11, t12⟩⟩, ⟨⟨⟨⟨m1, m2⟩, m3⟩, m4⟩, m5⟩⟩
    exact ⟨g1, g2, w1, w2, w3, w4, w5, t11, t12, t1, t2, t3, t6, t7, t8, ⟨t4.1, t9⟩, t5.2, t10, ⟨by omega, m2⟩, m3, m4, m5⟩
  · intro h
    have := h.reg
    have := h.over
    exact ⟨⟨⟨⟨h.places, h.ways⟩, ⟨⟨⟨⟨h.pace, h.elements⟩, h.classes⟩, h.gears⟩, h.allow⟩⟩, ⟨⟨h.paid, h.aft, h.brk, by omega, by omega, h.nfrom, h.nto, h.fault⟩, h.reg.2, h.week, h.unit, h.cap⟩⟩, ⟨⟨⟨⟨by have := h.rates.1; omega, h.rates.2⟩, h.diff⟩, h.least⟩, h.tiers⟩⟩
end Go.Proofs.Ytdhkfhgggkndoaa
