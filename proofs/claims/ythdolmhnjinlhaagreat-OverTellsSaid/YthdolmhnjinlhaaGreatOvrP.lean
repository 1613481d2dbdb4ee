/-
  Which of a week's seconds are regular, overtime and double, as plain spans; what the laws say of them. No program here.
-/
import Derived.Test.YthdolmhnjinlhaaGreatZad
import Derived.Test.YthdolmhnjinlhaaGreatZag
import Derived.Test.YthdolmhnjinlhaaGreatZab
import Derived.Test.YthdolmhnjinlhaaGreatZaq
namespace Go.Proofs.YthdolmhnjinlhaaGreat
set_option linter.unusedVariables false
set_option linter.unusedSimpArgs false
set_option maxRecDepth 20000

def onWk (p : Int → Prop) (k t : Int) : Prop := p t ∧ t / 604800 = k
noncomputable def regL (b : Bool) (s : SetP) (p : Int → Prop) (k : Int) : List (Int × Int) := if b = true then canon (regS (onWk p k) s.reg s.week) else []
noncomputable def ovrL (b : Bool) (s : SetP) (p : Int → Prop) (k : Int) : List (Int × Int) := if b = true then canon (ovrS (onWk p k) s.reg s.over s.week) else []
noncomputable def dblL (b : Bool) (s : SetP) (p : Int → Prop) (k : Int) : List (Int × Int) := if b = true then canon (dblS (onWk p k) s.over) else []
theorem reg_plain (b : Bool) (s : SetP) (p : Int → Prop) (k : Int) : PlainFrom 0 (regL b s p k) := by unfold regL; split; exact canon_plain _; trivial
theorem ovr_plain (b : Bool) (s : SetP) (p : Int → Prop) (k : Int) : PlainFrom 0 (ovrL b s p k) := by unfold ovrL; split; exact canon_plain _; trivial
theorem dbl_plain (b : Bool) (s : SetP) (p : Int → Prop) (k : Int) : PlainFrom 0 (dblL b s p k) := by unfold dblL; split; exact canon_plain _; trivial
section
variable {s : SetP} {p p' : Int → Prop} {k : Int}
theorem reg_mem {t : Int} (h0 : 0 ≤ t) (h1 : t < 32054400) : In (regL true s p k) t ↔ regS (onWk p k) s.reg s.week t := by unfold regL; rw [if_pos rfl, in_can h0 h1]
theorem ovr_mem {t : Int} (h0 : 0 ≤ t) (h1 : t < 32054400) : In (ovrL true s p k) t ↔ ovrS (onWk p k) s.reg s.over s.week t := by unfold ovrL; rw [if_pos rfl, in_can h0 h1]
theorem dbl_mem {t : Int} (h0 : 0 ≤ t) (h1 : t < 32054400) : In (dblL true s p k) t ↔ dblS (onWk p k) s.over t := by unfold dblL; rw [if_pos rfl, in_can h0 h1]
/-! ### OverMakes -/
theorem make3_mem (hm : s.May) {t : Int} (h0 : 0 ≤ t) (h1 : t < 32054400) : In ((regL true s p k ++ ovrL true s p k) ++ dblL true s p k) t ↔ onWk p k t := by
  rw [in_append, in_append, reg_mem h0 h1, ovr_mem h0 h1, dbl_mem h0 h1, over_or (W := onWk p k) hm.reg.2 t, or_assoc]
theorem make3_all (hm : s.May) : canon (In ((regL true s p k ++ ovrL true s p k) ++ dblL true s p k)) = ofWeekP p k := canon_congr fun t h0 h1 => make3_mem hm h0 h1
theorem make3_sz (hm : s.May) : sz (In (regL true s p k)) + sz (In (ovrL true s p k)) + sz (In (dblL true s p k)) = sz (In ((regL true s p k ++ ovrL true s p k) ++ dblL true s p k)) := by
  have e1 : sz (In ((regL true s p k ++ ovrL true s p k) ++ dblL true s p k)) = sz (onWk p k) := sz_congr fun t h0 h1 => make3_mem hm h0 h1
  have e2 : sz (In (regL true s p k)) = sz (regS (onWk p k) s.reg s.week) := sz_congr fun t h0 h1 => reg_mem h0 h1
  have e3 : sz (In (ovrL true s p k)) = sz (ovrS (onWk p k) s.reg s.over s.week) := sz_congr fun t h0 h1 => ovr_mem h0 h1
  have e4 : sz (In (dblL true s p k)) = sz (dblS (onWk p k) s.over) := sz_congr fun t h0 h1 => dbl_mem h0 h1
  rw [e1, e2, e3, e4]
  exact (over_sizes hm.reg.2).symm
theorem make3_and : (canon fun t => In (regL true s p k) t ∧ In (ovrL true s p k) t) = [] := canon_none fun t h0 h1 h => by
  rw [reg_mem h0 h1, ovr_mem h0 h1] at h
  exact reg_ovr h
/-! ### OverSizes -/
/-- The sum of n days from day a on. -/
def sumD (f : Int → Int) (a : Int) : Nat → Int
  | 0 => 0
  | n + 1 => sumD f a n + f (a + (n : Int))
theorem sum_step (f : Int → Int) (a : Int) (n : Nat) : sumD f a (n + 1) = sumD f a n + f (a + (n : Int)) := rfl
theorem sum_zero (f : Int → Int) (a : Int) : sumD f a 0 = 0 := rfl
theorem sum_seven (f : Int → Int) (k : Int) : sumD f (7 * k) 7 = sevenI f k := by
  unfold sevenI
  rw [sum_step f (7 * k) 6, sum_step f (7 * k) 5, sum_step f (7 * k) 4, sum_step f (7 * k) 3, sum_step f (7 * k) 2, sum_step f (7 * k) 1, sum_step f (7 * k) 0, sum_zero, show ((0 : Nat) : Int) = 0 from rfl, Int.add_zero, Int.zero_add]
  rfl
theorem sum_bd {f : Int → Int} {B : Int} (h : ∀ d, 0 ≤ f d ∧ f d ≤ B) (a : Int) : ∀ n : Nat, 0 ≤ sumD f a n ∧ sumD f a n ≤ n * B
  | 0 => by simp [sumD]
  | n + 1 => by
    have ih := sum_bd h a n
    have := h (a + (n : Int))
    have e : ((n + 1 : Nat) : Int) * B = (n : Int) * B + B := by rw [show ((n + 1 : Nat) : Int) = (n : Int) + 1 by omega, Int.add_mul, Int.one_mul]
    rw [e]
    unfold sumD
    omega
theorem seven_in {f g : Int → Int} {k : Int} (h : ∀ d, 7 * k ≤ d → d ≤ 7 * k + 6 → f d = g d) : sevenI f k = sevenI g k := by
  unfold sevenI
  rw [h _ (by omega) (by omega), h (7 * k + 1) (by omega) (by omega), h (7 * k + 2) (by omega) (by omega), h (7 * k + 3) (by omega) (by omega), h (7 * k + 4) (by omega) (by omega), h (7 * k + 5) (by omega) (by omega), h (7 * k + 6) (by omega) (by omega)]
theorem wk_day {d : Int} (h : 7 * k ≤ d) (h' : d ≤ 7 * k + 6) : sz (onDay (onWk p k) d) = sz (onDay p d) := sz_congr fun t h0 h1 => by
  unfold onDay onWk
  exact ⟨fun q => ⟨q.1.1, q.2⟩, fun q => ⟨⟨q.1, by have := q.2; omega⟩, q.2⟩⟩
end
noncomputable def dayN (p : Int → Prop) (d : Int) : Int := sz (onDay p d)
theorem dayN_of (p : Int → Prop) (d : Int) : sz (In (ofDayP p d)) = dayN p d := sz_can _
theorem dayN_bd (p : Int → Prop) (d : Int) : 0 ≤ dayN p d ∧ dayN p d ≤ 32054400 := sz_bound _
section
variable {s : SetP} {p : Int → Prop} {k : Int}
theorem sz_regL (hm : s.May) (hk : 0 ≤ k) : sz (In (regL true s p k)) = min (sumD (fun d => min (dayN p d) s.reg) (7 * k) 7) s.week := by
  have e2 : sz (In (regL true s p k)) = sz (regS (onWk p k) s.reg s.week) := sz_congr fun t h0 h1 => reg_mem h0 h1
  have e3 := sz_short (W := onWk p k) (n := s.reg) (k := k) hm.reg.1 hk (fun t _ h => h.2)
  have e4 : sevenI (fun d => min s.reg (sz (onDay (onWk p k) d))) k = sevenI (fun d => min (dayN p d) s.reg) k := seven_in fun d a b => by
    show min s.reg (sz (onDay (onWk p k) d)) = min (sz (onDay p d)) s.reg
    rw [wk_day a b, Int.min_comm]
  rw [e2, sz_reg hm.week.1, e3, e4, ← sum_seven, Int.min_comm]
theorem sz_dblL (hm : s.May) (hk : 0 ≤ k) : sz (In (dblL true s p k)) = sumD (fun d => max 0 (dayN p d - s.over)) (7 * k) 7 := by
  have e2 : sz (In (dblL true s p k)) = sz (dblS (onWk p k) s.over) := sz_congr fun t h0 h1 => dbl_mem h0 h1
  have e3 := sz_dbl (W := onWk p k) (n := s.over) (k := k) (by have := hm.reg; omega) hk (fun t _ h => h.2)
  have e4 : sevenI (fun d => max 0 (sz (onDay (onWk p k) d) - s.over)) k = sevenI (fun d => max 0 (dayN p d - s.over)) k := seven_in fun d a b => by
    show max 0 (sz (onDay (onWk p k) d) - s.over) = max 0 (sz (onDay p d) - s.over)
    rw [wk_day a b]
  rw [e2, e3, e4, ← sum_seven]
theorem sz_all3 (hm : s.May) (hk : 0 ≤ k) : sz (In (regL true s p k)) + sz (In (ovrL true s p k)) + sz (In (dblL true s p k)) = sumD (dayN p) (7 * k) 7 := by
  rw [make3_sz hm]
  have e1 : sz (In ((regL true s p k ++ ovrL true s p k) ++ dblL true s p k)) = sz (onWk p k) := sz_congr fun t h0 h1 => make3_mem hm h0 h1
  have e3 := sz_seven (q := onWk p k) (k := k) hk (fun t _ h => h.2)
  have e4 : sevenI (fun d => sz (onDay (onWk p k) d)) k = sevenI (dayN p) k := seven_in fun d a b => wk_day a b
  rw [e1, e3, e4, ← sum_seven]
end
theorem min_bd7 {z r : Int} (h : 0 ≤ z ∧ z ≤ 32054400) (hr : 0 ≤ r) : 0 ≤ min z r ∧ min z r ≤ 32054400 := by omega
theorem max_bd7 {z o : Int} (h : 0 ≤ z ∧ z ≤ 32054400) (ho : 0 ≤ o) : 0 ≤ max 0 (z - o) ∧ max 0 (z - o) ≤ 32054400 := by omega
theorem sum_bd7 {f : Int → Int} (h : ∀ d, 0 ≤ f d ∧ f d ≤ 32054400) (a : Int) (n : Nat) (hn : n ≤ 7) : 0 ≤ sumD f a n ∧ sumD f a n ≤ 224380800 := by
  have h1 := sum_bd h a n
  have h2 : (n : Int) ≤ 7 := by omega
  omega
/-! ### OverWeeks -/
section
variable {b : Bool} {s : SetP} {p p' : Int → Prop} {k X : Int}
theorem reg_cutL (h : ∀ t, 0 ≤ t → t < 32054400 → (onWk p' k t ↔ onWk p k t ∧ t < X)) : regL b s p' k = canon fun t => In (regL b s p k) t ∧ t < X := by
  cases b with
  | false => exact (canon_none fun t _ _ q => absurd q.1 (in_nil t)).symm
  | true =>
    have e : regL true s p' k = canon (regS (onWk p' k) s.reg s.week) := if_pos rfl
    rw [e]
    exact canon_congr fun t h0 h1 => by rw [reg_mem h0 h1, reg_cut h h0 h1]
theorem ovr_cutL (h : ∀ t, 0 ≤ t → t < 32054400 → (onWk p' k t ↔ onWk p k t ∧ t < X)) : ovrL b s p' k = canon fun t => In (ovrL b s p k) t ∧ t < X := by
  cases b with
  | false => exact (canon_none fun t _ _ q => absurd q.1 (in_nil t)).symm
  | true =>
    have e : ovrL true s p' k = canon (ovrS (onWk p' k) s.reg s.over s.week) := if_pos rfl
    rw [e]
    exact canon_congr fun t h0 h1 => by rw [ovr_mem h0 h1, ovr_cut h h0 h1]
theorem dbl_cutL (h : ∀ t, 0 ≤ t → t < 32054400 → (onWk p' k t ↔ onWk p k t ∧ t < X)) : dblL b s p' k = canon fun t => In (dblL b s p k) t ∧ t < X := by
  cases b with
  | false => exact (canon_none fun t _ _ q => absurd q.1 (in_nil t)).symm
  | true =>
    have e : dblL true s p' k = canon (dblS (onWk p' k) s.over) := if_pos rfl
    rw [e]
    exact canon_congr fun t h0 h1 => by rw [dbl_mem h0 h1, dbl_cut h h0 h1]
theorem wk_of : ∀ t, 0 ≤ t → t < 32054400 → (onWk (In (ofWeekP p k)) k t ↔ onWk p k t ∧ t < 32054400) := fun t h0 h1 => by
  unfold onWk ofWeekP
  rw [in_can h0 h1]
  exact ⟨fun q => ⟨q.1, h1⟩, fun q => ⟨q.1, q.1.2⟩⟩
theorem all_self {l : List (Int × Int)} (hl : PlainFrom 0 l) : (canon fun t => In l t ∧ t < 32054400) = l := (canon_congr fun t _ h1 => ⟨fun q => q.1, fun q => ⟨q, h1⟩⟩).trans (canon_self hl)
theorem reg_of : regL b s (In (ofWeekP p k)) k = regL b s p k := (reg_cutL wk_of).trans (all_self (reg_plain b s p k))
theorem ovr_of : ovrL b s (In (ofWeekP p k)) k = ovrL b s p k := (ovr_cutL wk_of).trans (all_self (ovr_plain b s p k))
theorem dbl_of : dblL b s (In (ofWeekP p k)) k = dblL b s p k := (dbl_cutL wk_of).trans (all_self (dbl_plain b s p k))
theorem wk_to {l : List (Int × Int)} : ∀ t, 0 ≤ t → t < 32054400 → (onWk (In (canon fun t => In l t ∧ In [(0, X)] t)) k t ↔ onWk (In l) k t ∧ t < X) := fun t h0 h1 => by
  unfold onWk
  rw [in_can h0 h1, in_one]
  exact ⟨fun q => ⟨⟨q.1.1, q.2⟩, q.1.2.2⟩, fun q => ⟨⟨q.1.1, h0, q.2⟩, q.1.2⟩⟩
theorem to_and {l : List (Int × Int)} : (canon fun t => In l t ∧ In [(0, X)] t) = canon fun t => In l t ∧ t < X := canon_congr fun t h0 _ => by rw [in_one]; exact ⟨fun q => ⟨q.1, q.2.2⟩, fun q => ⟨q.1, h0, q.2⟩⟩
end
end Go.Proofs.YthdolmhnjinlhaaGreat
