/-
  Times rounded, days and weeks: no program here.
-/
import Derived.Test.YtojhecllgkoclaaSpMore
namespace Go.Proofs.Ytojhecllgkoclaa
set_option linter.unusedVariables false
set_option linter.unusedSimpArgs false

def timeP (t : Int) : Int := min (max t 0) 32054400
def secP (t : Int) : Int := min (timeP t) 32054399
theorem time_bd (t : Int) : 0 ≤ timeP t ∧ timeP t ≤ 32054400 := by unfold timeP; omega
theorem sec_bd (t : Int) : 0 ≤ secP t ∧ secP t ≤ 32054399 := by unfold secP timeP; omega
theorem sec_in {t : Int} (h : 0 ≤ t) (h' : t < 32054400) : secP t = t := by unfold secP timeP; omega
def roundP (t u : Int) : Int :=
  if u < 1 then timeP t else if u - timeP t % u ≤ timeP t % u then min (timeP t - timeP t % u + min u 100000000) 32054400 else timeP t - timeP t % u
def dayP (t : Int) : Int := secP t / 86400
def weekP (t : Int) : Int := secP t / 604800
def aboutP (unit cap : Int) : Int := min (max unit 0) 604800 + min (max cap 0) 604800
def touchP (unit cap t : Int) : Int × Int := (weekP (secP t - aboutP unit cap), weekP (secP t + aboutP unit cap))
/-! ### Rounding -/
theorem round_div {n u : Int} (h : 1 ≤ u) : n % u = n - u * (n / u) ∧ 0 ≤ n % u ∧ n % u < u := by
  have h1 := Int.emod_def n u
  have h2 := Int.emod_nonneg n (show u ≠ 0 by omega)
  have h3 := Int.emod_lt_of_pos n (show 0 < u by omega)
  exact ⟨h1, h2, h3⟩
theorem round_up {a u : Int} (h0 : 0 ≤ a) (h1 : a < 31000000) (hu : 1 ≤ u) (hu' : u ≤ 65536) : roundP a u = u * (a / u) + (if u - a % u ≤ a % u then u else 0) := by
  have ht : timeP a = a := by unfold timeP; omega
  obtain ⟨e, e1, e2⟩ := round_div (n := a) hu
  unfold roundP
  rw [if_neg (by omega), ht]
  split
  · omega
  · omega
/-- PunchRounds. -/
theorem round_near {a u : Int} (h0 : 0 ≤ a) (h1 : a < 31000000) (hu : 1 ≤ u) (hu' : u ≤ 65536) : roundP a u % u = 0 ∧ 2 * (roundP a u - a) ≤ u ∧ 2 * (a - roundP a u) < u := by
  obtain ⟨e, e1, e2⟩ := round_div (n := a) hu
  rw [round_up h0 h1 hu hu']
  refine ⟨?_, ?_, ?_⟩
  · split
    · rw [Int.add_emod_right, Int.mul_emod_right]
    · rw [Int.add_zero, Int.mul_emod_right]
  · split <;> omega
  · split <;> omega
theorem round_keeps {a b u : Int} (h0 : 0 ≤ a) (hab : a ≤ b) (h1 : b < 31000000) (hu : 1 ≤ u) (hu' : u ≤ 65536) : roundP a u ≤ roundP b u := by
  obtain ⟨e, e1, e2⟩ := round_div (n := a) hu
  obtain ⟨f, f1, f2⟩ := round_div (n := b) hu
  rw [round_up h0 (by omega) hu hu', round_up (by omega) h1 hu hu']
  have hq : a / u ≤ b / u := Int.ediv_le_ediv (by omega) hab
  rcases Int.lt_or_le (a / u) (b / u) with q | q
  · have : u * (a / u) + u ≤ u * (b / u) := by
      have := Int.mul_le_mul_of_nonneg_left (show a / u + 1 ≤ b / u by omega) (show 0 ≤ u by omega)
      rw [Int.mul_add, Int.mul_one] at this
      exact this
    split <;> split <;> omega
  · have : a / u = b / u := by omega
    rw [this] at e ⊢
    split <;> split <;> omega
theorem round_again {a u : Int} (h0 : 0 ≤ a) (h1 : a < 31000000) (hu : 1 ≤ u) (hu' : u ≤ 65536) : roundP (roundP a u) u = roundP a u := by
  obtain ⟨h2, h3, h4⟩ := round_near h0 h1 hu hu'
  have hx : 0 ≤ roundP a u := by
    rw [round_up h0 h1 hu hu']
    have : 0 ≤ u * (a / u) := Int.mul_nonneg (by omega) (Int.ediv_nonneg h0 (by omega))
    split <;> omega
  generalize roundP a u = x at *
  have ht : timeP x = x := by unfold timeP; omega
  unfold roundP
  rw [if_neg (by omega), ht, h2, if_neg (by omega)]
  omega
/-! ### Days -/
theorem day_has (t : Int) : dayP t * 86400 ≤ secP t ∧ secP t < (dayP t + 1) * 86400 ∧ weekP t * 604800 ≤ secP t ∧ secP t < (weekP t + 1) * 604800 ∧ dayP t / 7 = weekP t := by
  have := sec_bd t
  unfold dayP weekP
  omega
theorem touch_has (unit cap t : Int) : (touchP unit cap t).1 ≤ weekP t ∧ weekP t ≤ (touchP unit cap t).2 := by
  have h := sec_bd t
  have ha : 0 ≤ aboutP unit cap := by unfold aboutP; omega
  unfold touchP weekP
  generalize aboutP unit cap = b at *
  generalize secP t = n at *
  have e1 : secP (n - b) ≤ n := by unfold secP timeP; omega
  have e2 : n ≤ secP (n + b) := by unfold secP timeP; omega
  have b1 := sec_bd (n - b)
  have b2 := sec_bd (n + b)
  simp only
  omega
theorem touch_near {unit cap t : Int} (h1 : unit ≤ 3600) (h2 : cap ≤ 57600) : (touchP unit cap t).2 - (touchP unit cap t).1 ≤ 1 := by
  have h := sec_bd t
  have ha : 0 ≤ aboutP unit cap ∧ aboutP unit cap ≤ 61200 := by unfold aboutP; omega
  unfold touchP weekP
  generalize aboutP unit cap = b at *
  generalize secP t = n at *
  have e : secP (n + b) - secP (n - b) ≤ 122400 := by unfold secP timeP; omega
  have b1 := sec_bd (n - b)
  have b2 := sec_bd (n + b)
  simp only
  omega
/-! ### Rising lists -/
theorem rise_unique : ∀ (a b : List Int), a.Pairwise (· < ·) → b.Pairwise (· < ·) → (∀ x, x ∈ a ↔ x ∈ b) → a = b
  | [], [], _, _, _ => rfl
  | [], y :: b, _, _, h => by have := (h y).2 (by simp); simp at this
  | x :: a, [], _, _, h => by have := (h x).1 (by simp); simp at this
  | x :: a, y :: b, ha, hb, h => by
    rw [List.pairwise_cons] at ha hb
    have h1 : x = y := by
      have p1 := (h x).1 (by simp)
      have p2 := (h y).2 (by simp)
      rcases List.mem_cons.1 p1 with p1 | p1
      · exact p1
      · rcases List.mem_cons.1 p2 with p2 | p2
        · exact p2.symm
        · have := hb.1 x p1
          have := ha.1 y p2
          omega
    subst h1
    congr 1
    refine rise_unique a b ha.2 hb.2 fun z => ?_
    have := h z
    simp only [List.mem_cons] at this
    constructor
    · intro hz
      rcases this.1 (.inr hz) with q | q
      · have := ha.1 z hz; omega
      · exact q
    · intro hz
      rcases this.2 (.inr hz) with q | q
      · have := hb.1 z hz; omega
      · exact q
open Classical in
/-- The days that have some. -/
noncomputable def daysP (p : Int → Prop) : List Int := ((List.range 371).filter fun d : Nat => decide (∃ t, 0 ≤ t ∧ t < 32054400 ∧ p t ∧ t / 86400 = (d : Int))).map fun d : Nat => (d : Int)
theorem days_mem (p : Int → Prop) (d : Int) : d ∈ daysP p ↔ ∃ t, 0 ≤ t ∧ t < 32054400 ∧ p t ∧ t / 86400 = d := by
  unfold daysP
  simp only [List.mem_map, List.mem_filter, List.mem_range, decide_eq_true_eq]
  constructor
  · rintro ⟨n, ⟨_, t, h⟩, rfl⟩
    exact ⟨t, h⟩
  · rintro ⟨t, h1, h2, h3, h4⟩
    exact ⟨d.toNat, ⟨by omega, t, h1, h2, h3, by omega⟩, by omega⟩
theorem range_rise (n : Nat) : ((List.range n).map fun d : Nat => (d : Int)).Pairwise (· < ·) := by
  rw [List.pairwise_map]
  exact List.pairwise_lt_range.imp (fun h => by omega)
theorem days_rise (p : Int → Prop) : (daysP p).Pairwise (· < ·) := by
  unfold daysP
  rw [List.pairwise_map]
  exact (List.pairwise_lt_range.imp (fun h => by omega)).filter _
theorem days_eq {p : Int → Prop} {l : List Int} (h1 : l.Pairwise (· < ·)) (h2 : ∀ d, d ∈ l ↔ ∃ t, 0 ≤ t ∧ t < 32054400 ∧ p t ∧ t / 86400 = d) : l = daysP p :=
  rise_unique l (daysP p) h1 (days_rise p) fun d => by rw [h2, days_mem]
/-- The seconds of one day, or week. -/
noncomputable def ofDayP (p : Int → Prop) (d : Int) : List (Int × Int) := canon fun t => p t ∧ t / 86400 = d
noncomputable def ofWeekP (p : Int → Prop) (k : Int) : List (Int × Int) := canon fun t => p t ∧ t / 604800 = k
theorem ofDay_none {p : Int → Prop} {d : Int} (h : d < 0 ∨ 370 < d) : ofDayP p d = [] := canon_none fun t h0 h1 h2 => by omega
theorem ofWeek_none {p : Int → Prop} {k : Int} (h : k < 0 ∨ 52 < k) : ofWeekP p k = [] := canon_none fun t h0 h1 h2 => by omega
theorem ofDay_some {p : Int → Prop} {d : Int} (h : d ∈ daysP p) : ofDayP p d ≠ [] := by
  intro e
  obtain ⟨t, h1, h2, h3, h4⟩ := (days_mem p d).1 h
  have := (canon_in (fun t => p t ∧ t / 86400 = d) t).2 ⟨h1, h2, h3, h4⟩
  unfold ofDayP at e
  rw [e] at this
  exact in_nil t this
/-- The days, one behind the other, make the set; those of a week the week's. -/
theorem days_make (p : Int → Prop) {t : Int} (h0 : 0 ≤ t) (h1 : t < 32054400) : In ((daysP p).flatMap (ofDayP p)) t ↔ p t := by
  constructor
  · rintro ⟨s, hs, h2⟩
    obtain ⟨d, hd, hsd⟩ := List.mem_flatMap.1 hs
    have : In (ofDayP p d) t := ⟨s, hsd, h2⟩
    exact ((canon_in _ t).1 this).2.2.1
  · intro hp
    have hd : t / 86400 ∈ daysP p := (days_mem p _).2 ⟨t, h0, h1, hp, rfl⟩
    obtain ⟨s, hs, h2⟩ := (canon_in (fun u => p u ∧ u / 86400 = t / 86400) t).2 ⟨h0, h1, hp, rfl⟩
    exact ⟨s, List.mem_flatMap.2 ⟨_, hd, hs⟩, h2⟩
theorem week_make (p : Int → Prop) (k : Int) {t : Int} (h0 : 0 ≤ t) (h1 : t < 32054400) : In (((daysP p).filter fun d => decide (d / 7 = k)).flatMap (ofDayP p)) t ↔ p t ∧ t / 604800 = k := by
  constructor
  · rintro ⟨s, hs, h2⟩
    obtain ⟨d, hd, hsd⟩ := List.mem_flatMap.1 hs
    have hk := (List.mem_filter.1 hd).2
    simp only [decide_eq_true_eq] at hk
    have : In (ofDayP p d) t := ⟨s, hsd, h2⟩
    have := ((canon_in _ t).1 this).2.2
    exact ⟨this.1, by omega⟩
  · rintro ⟨hp, hk⟩
    have hd : t / 86400 ∈ daysP p := (days_mem p _).2 ⟨t, h0, h1, hp, rfl⟩
    obtain ⟨s, hs, h2⟩ := (canon_in (fun u => p u ∧ u / 86400 = t / 86400) t).2 ⟨h0, h1, hp, rfl⟩
    refine ⟨s, List.mem_flatMap.2 ⟨_, List.mem_filter.2 ⟨hd, ?_⟩, hs⟩, h2⟩
    simp only [decide_eq_true_eq]
    omega
end Go.Proofs.Ytojhecllgkoclaa
