/-
  The lists that a week's overtime is made of, day by day, as plain spans. No program here.
-/
import Derived.Test.YthdolmhnjinlhaaGreatOvrP
import Derived.Test.YthdolmhnjinlhaaGreatZab
namespace Go.Proofs.YthdolmhnjinlhaaGreat
set_option linter.unusedVariables false
set_option linter.unusedSimpArgs false
set_option maxRecDepth 20000

theorem short_zero {q : Int → Prop} {t : Int} : ¬ shortS q 0 t := fun h => by have := h.2; have := (cnt_bound (onDay q (t / 86400)) t.toNat).1; omega
theorem short_full {q : Int → Prop} {t : Int} (h1 : t < 32054400) : shortS q 40000000 t ↔ q t := by
  unfold shortS fstS onDay
  have := cnt_bound (fun u => q u ∧ u / 86400 = t / 86400) t.toNat
  exact ⟨fun z => z.1.1, fun z => ⟨⟨z, rfl⟩, by omega⟩⟩
theorem short_wk {p : Int → Prop} {k n t : Int} (h0 : 0 ≤ t) (h1 : t < 32054400) : shortS (In (ofWeekP p k)) n t ↔ shortS (onWk p k) n t := by
  rw [short_cut (W := onWk p k) (X := 32054400) (fun u a c => by unfold ofWeekP; rw [in_can a c]; exact ⟨fun z => ⟨z, c⟩, fun z => z.1⟩) h0 h1]
  exact ⟨fun z => z.1, fun z => ⟨z, h1⟩⟩
section
variable {s : SetP} {p : Int → Prop} {k : Int}
/-- What lumperref16.Of makes of the three lists. -/
theorem ref_reg {L : List (Int × Int)} (h : ∀ t, 0 ≤ t → t < 32054400 → (In L t ↔ shortS (onWk p k) s.reg t)) : (canon fun t => In L t ∧ cnt (In L) t.toNat < s.week) = regL true s p k := by
  unfold regL
  rw [if_pos rfl]
  exact canon_congr fun t h0 h1 => by
    unfold regS fstS
    rw [h t h0 h1, cnt_congr fun u a c => h u a (by omega)]
theorem ref_rest {L : List (Int × Int)} (h : ∀ t, 0 ≤ t → t < 32054400 → (In L t ↔ shortS (onWk p k) s.reg t)) {t : Int} (h0 : 0 ≤ t) (h1 : t < 32054400) : In (canon fun t => In L t ∧ ¬ In (regL true s p k) t) t ↔ shortS (onWk p k) s.reg t ∧ ¬ regS (onWk p k) s.reg s.week t := by
  rw [in_can h0 h1, h t h0 h1, reg_mem h0 h1]
theorem ref_over {L M : List (Int × Int)} (h : ∀ t, 0 ≤ t → t < 32054400 → (In L t ↔ shortS (onWk p k) s.reg t ∧ ¬ regS (onWk p k) s.reg s.week t)) (g : ∀ t, 0 ≤ t → t < 32054400 → (In M t ↔ shortS (onWk p k) s.over t ∧ ¬ shortS (onWk p k) s.reg t)) : canon (In (L ++ M)) = ovrL true s p k := by
  unfold ovrL
  rw [if_pos rfl]
  exact canon_congr fun t h0 h1 => by
    rw [in_append, h t h0 h1, g t h0 h1]
    exact Iff.rfl
theorem ref_dbl {L : List (Int × Int)} (h : ∀ t, 0 ≤ t → t < 32054400 → (In L t ↔ onWk p k t ∧ ¬ shortS (onWk p k) s.over t)) : canon (In L) = dblL true s p k := by
  unfold dblL
  rw [if_pos rfl]
  exact canon_congr h
end
/-- The lists of the first k of the days of D. -/
noncomputable def listK (f : Int → List (Int × Int)) (D : List Int) (k : Nat) : List (Int × Int) := (D.take k).flatMap f
section
variable {f : Int → List (Int × Int)} {D : List Int}
theorem listK_zero : listK f D 0 = [] := by simp [listK]
theorem listK_snoc (k : Nat) (h : k < D.length) : listK f D (k + 1) = listK f D k ++ f (D.getD k 0) := by
  unfold listK
  rw [List.take_succ_eq_append_getElem h, List.flatMap_append]
  simp [List.getD, h]
theorem listK_len (hf : ∀ d, (f d).length ≤ 86401) : ∀ k, k ≤ D.length → (listK f D k).length ≤ k * 86401
  | 0, _ => by simp [listK]
  | k + 1, h => by
    have := listK_len hf k (by omega)
    have h2 := hf (D.getD k 0)
    rw [listK_snoc k h, List.length_append]; omega
theorem listK_bd (hf : ∀ d, (f d).length ≤ 86401) (k : Nat) (h : k ≤ D.length) (hD : D.length ≤ 371) : (listK f D k).length ≤ 32054771 :=
  Nat.le_trans (listK_len hf k h) (Nat.le_trans (Nat.mul_le_mul_right _ (Nat.le_trans h hD)) (by decide))
theorem listK_fits (hf : ∀ d, Fits (f d)) (k : Nat) : Fits (listK f D k) := fun u hu => by
  obtain ⟨d, _, h⟩ := List.mem_flatMap.1 hu
  exact hf d u h
theorem listK_in (t : Int) : In (listK f D D.length) t ↔ ∃ d ∈ D, In (f d) t := by
  unfold listK
  rw [List.take_length]
  constructor
  · rintro ⟨u, hu, u1, u2⟩
    obtain ⟨d, hd, hin⟩ := List.mem_flatMap.1 hu
    exact ⟨d, hd, u, hin, u1, u2⟩
  · rintro ⟨d, hd, u, hu, u1, u2⟩
    exact ⟨u, List.mem_flatMap.2 ⟨d, hd, hu⟩, u1, u2⟩
end
/-- A day's first n seconds; what is among its first o, and not among its first r; what is not among its first o. -/
noncomputable def fstD (q : Int → Prop) (n d : Int) : List (Int × Int) := canon fun t => In (ofDayP q d) t ∧ cnt (In (ofDayP q d)) t.toNat < n
noncomputable def midD (q : Int → Prop) (r o d : Int) : List (Int × Int) := canon fun t => In (fstD q o d) t ∧ ¬ In (fstD q r d) t
noncomputable def lstD (q : Int → Prop) (o d : Int) : List (Int × Int) := canon fun t => In (ofDayP q d) t ∧ ¬ In (fstD q o d) t
section
variable {q : Int → Prop}
theorem fstD_in {n d t : Int} (h0 : 0 ≤ t) (h1 : t < 32054400) : In (fstD q n d) t ↔ fstS (onDay q d) n t := by
  unfold fstD
  rw [in_can h0 h1]
  unfold ofDayP fstS
  rw [in_can h0 h1, cnt_can _ (by omega)]
  exact Iff.rfl
theorem midD_in {r o d t : Int} (h0 : 0 ≤ t) (h1 : t < 32054400) : In (midD q r o d) t ↔ fstS (onDay q d) o t ∧ ¬ fstS (onDay q d) r t := by
  unfold midD
  rw [in_can h0 h1, fstD_in h0 h1, fstD_in h0 h1]
theorem lstD_in {o d t : Int} (h0 : 0 ≤ t) (h1 : t < 32054400) : In (lstD q o d) t ↔ onDay q d t ∧ ¬ fstS (onDay q d) o t := by
  unfold lstD
  rw [in_can h0 h1, fstD_in h0 h1]
  unfold ofDayP
  rw [in_can h0 h1]
  exact Iff.rfl
theorem ofday_of {d t : Int} (h : In (ofDayP q d) t) : t / 86400 = d := by
  unfold ofDayP at h
  exact ((canon_in _ _).1 h).2.2.2
theorem fstD_of {n d t : Int} (h : In (fstD q n d) t) : t / 86400 = d := by
  unfold fstD at h
  exact ofday_of ((canon_in _ _).1 h).2.2.1
theorem fstD_len (n d : Int) : (fstD q n d).length ≤ 86401 := day_len (d := d) fun t h => ofday_of h.1
theorem midD_len (r o d : Int) : (midD q r o d).length ≤ 86401 := day_len (d := d) fun t h => fstD_of h.1
theorem lstD_len (o d : Int) : (lstD q o d).length ≤ 86401 := day_len (d := d) fun t h => ofday_of h.1
theorem days_of {P : Int → Int → Prop} {t : Int} (h0 : 0 ≤ t) (h1 : t < 32054400) (hP : ∀ d, P d t → onDay q d t) : (∃ d ∈ daysP q, P d t) ↔ P (t / 86400) t := by
  constructor
  · rintro ⟨d, _, h⟩
    have : t / 86400 = d := (hP d h).2
    rw [this]; exact h
  · intro h
    exact ⟨_, (days_mem q _).2 ⟨t, h0, h1, (hP _ h).1, rfl⟩, h⟩
theorem brief_in {n t : Int} (h0 : 0 ≤ t) (h1 : t < 32054400) : In (listK (fstD q n) (daysP q) (daysP q).length) t ↔ shortS q n t := by
  rw [listK_in, days_of (P := fun d t => In (fstD q n d) t) h0 h1 fun d h => ((fstD_in h0 h1).1 h).1]
  exact fstD_in h0 h1
theorem mid_in {r o t : Int} (h0 : 0 ≤ t) (h1 : t < 32054400) : In (listK (midD q r o) (daysP q) (daysP q).length) t ↔ shortS q o t ∧ ¬ shortS q r t := by
  rw [listK_in, days_of (P := fun d t => In (midD q r o d) t) h0 h1 fun d h => ((midD_in h0 h1).1 h).1.1]
  exact midD_in h0 h1
theorem lst_in {o t : Int} (h0 : 0 ≤ t) (h1 : t < 32054400) : In (listK (lstD q o) (daysP q) (daysP q).length) t ↔ q t ∧ ¬ shortS q o t := by
  rw [listK_in, days_of (P := fun d t => In (lstD q o d) t) h0 h1 fun d h => ((lstD_in h0 h1).1 h).1]
  rw [lstD_in h0 h1]
  unfold onDay shortS
  exact ⟨fun z => ⟨z.1.1, z.2⟩, fun z => ⟨⟨z.1, rfl⟩, z.2⟩⟩
end
section
variable {s : SetP} {p : Int → Prop} {k t : Int}
theorem brief_wk (h0 : 0 ≤ t) (h1 : t < 32054400) : In (listK (fstD (In (ofWeekP p k)) s.reg) (daysP (In (ofWeekP p k))) (daysP (In (ofWeekP p k))).length) t ↔ shortS (onWk p k) s.reg t := by
  rw [brief_in h0 h1, short_wk h0 h1]
theorem mid_wk (h0 : 0 ≤ t) (h1 : t < 32054400) : In (listK (midD (In (ofWeekP p k)) s.reg s.over) (daysP (In (ofWeekP p k))) (daysP (In (ofWeekP p k))).length) t ↔ shortS (onWk p k) s.over t ∧ ¬ shortS (onWk p k) s.reg t := by
  rw [mid_in h0 h1, short_wk h0 h1, short_wk h0 h1]
theorem lst_wk (h0 : 0 ≤ t) (h1 : t < 32054400) : In (listK (lstD (In (ofWeekP p k)) s.over) (daysP (In (ofWeekP p k))) (daysP (In (ofWeekP p k))).length) t ↔ onWk p k t ∧ ¬ shortS (onWk p k) s.over t := by
  rw [lst_in h0 h1, short_wk h0 h1]
  unfold ofWeekP
  rw [in_can h0 h1]
  exact Iff.rfl
/-- What is overtime: what lies between a day's two bounds, and then what of the short ones is not regular. -/
theorem ovr_two {L M : List (Int × Int)} (g : ∀ t, 0 ≤ t → t < 32054400 → (In L t ↔ shortS (onWk p k) s.over t ∧ ¬ shortS (onWk p k) s.reg t)) (h : ∀ t, 0 ≤ t → t < 32054400 → (In M t ↔ shortS (onWk p k) s.reg t ∧ ¬ regS (onWk p k) s.reg s.week t)) : canon (In (L ++ M)) = ovrL true s p k := by
  rw [← ref_over h g]
  exact canon_congr fun t _ _ => by rw [in_append, in_append, or_comm]
end
end Go.Proofs.YthdolmhnjinlhaaGreat
