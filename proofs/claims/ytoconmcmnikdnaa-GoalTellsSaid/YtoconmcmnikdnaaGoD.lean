/-
  What layer 10's laws say, of the goal as it is reckoned. No program here but its types.
-/
import Derived.Test.YtoconmcmnikdnaaGoC
namespace Go.Proofs.Ytoconmcmnikdnaa
open Go.RowKit
set_option linter.unusedVariables false
set_option linter.unusedSimpArgs false
set_option maxRecDepth 20000

theorem farV_turn (s : SetP) (a b : Int) : farV s a b = farV s b a := by
  unfold farV
  by_cases h : s.May ∧ 0 ≤ a ∧ a < s.places ∧ 0 ≤ b ∧ b < s.places
  · rw [if_pos h, if_pos ⟨h.1, h.2.2.2.1, h.2.2.2.2, h.2.1, h.2.2.1⟩, distI_turn]
  · rw [if_neg h, if_neg (fun k => h ⟨k.1, k.2.2.2.1, k.2.2.2.2, k.2.1, k.2.2.1⟩)]
section
variable {s : SetP} {i w t k a b c d g j m : Int}
theorem evIn_turn (h : EvIn s ⟨i, w, t, k, a, b, c, d, g, j, m⟩) : EvIn s ⟨i, w, t, k, b, a, c, d, g, j, m⟩ := by
  obtain ⟨hf, h2, h3, h4⟩ := h
  obtain ⟨f1, f2, f3, f4, f5, f6, f7, f8, f9, f10, f11, f12, f13⟩ := (fair_iff0 _).1 hf
  simp only at f1 f2 f3 f4 f5 f6 f7 f8 f9 f10 f11 f12 f13 h2 h3 h4
  refine ⟨(fair_iff0 _).2 ⟨f1, f2, f3, f4, f6, f5, f7, f8, f9, f10, f11, ?_, f13⟩, h2, fun q => ?_, h4⟩
  · rcases f12 with q | ⟨q1, q2, q3⟩
    · exact .inl q
    · exact .inr ⟨q2, q1, q3⟩
  · obtain ⟨q1, q2, q3⟩ := h3 q
    exact ⟨q2, q1, q3⟩
theorem goalE_turn : goalE s ⟨i, w, t, k, b, a, c, d, g, j, m⟩ = goalE s ⟨i, w, t, k, a, b, c, d, g, j, m⟩ := by
  have hd : farV s b a = farV s a b := farV_turn s b a
  by_cases h : TaskP s ⟨i, w, t, k, a, b, c, d, g, j, m⟩
  · have h' : TaskP s ⟨i, w, t, k, b, a, c, d, g, j, m⟩ := ⟨h.1, evIn_turn h.2.1, h.2.2.1, by show farV s b a ≠ -1; rw [hd]; exact h.2.2.2⟩
    rw [goalE_yes h, goalE_yes h']
    unfold goalC
    simp only
    rw [hd]
  · have h' : ¬ TaskP s ⟨i, w, t, k, b, a, c, d, g, j, m⟩ := fun q => h ⟨q.1, evIn_turn q.2.1, q.2.2.1, by show farV s a b ≠ -1; rw [← hd]; exact q.2.2.2⟩
    rw [goalE_no h, goalE_no h']
theorem evIn_gear {j' : Int} (h3 : k = 3) (hj : 0 ≤ j' ∧ j' < s.gears.length) (hj6 : j' ≤ 9223372036854775807) (h : EvIn s ⟨i, w, t, k, a, b, c, d, g, j, m⟩) : EvIn s ⟨i, w, t, k, a, b, c, d, g, j', m⟩ := by
  obtain ⟨hf, h2, h4, h5⟩ := h
  obtain ⟨f1, f2, f3, f4, f5, f6, f7, f8, f9, f10, f11, f12, f13⟩ := (fair_iff0 _).1 hf
  simp only at f1 f2 f3 f4 f5 f6 f7 f8 f9 f10 f11 f12 f13 h2 h4 h5
  refine ⟨(fair_iff0 _).2 ⟨f1, f2, f3, f4, f5, f6, f7, f8, f9, ⟨hj.1, hj6⟩, f11, .inl h3, f13⟩, h2, fun q => ?_, h5⟩
  obtain ⟨q1, q2, q3, q4, q5, q6⟩ := h4 q
  exact ⟨q1, q2, q3, q4, hj.2, q6⟩
theorem share_may {n d : Int} (h : shareB n d = true) : mayB n d = true := by
  unfold shareB at h
  simp only [Bool.and_eq_true] at h
  exact h.1
theorem far_same (hM : s.May) (h : farV s a a ≠ -1) : farV s a a = 0 := by
  unfold farV at h ⊢
  split
  · exact (distI_zero (edges_long hM.ways.2)).2 rfl
  · rename_i q
    rw [if_neg q] at h
    exact absurd rfl h
theorem gear_may (hM : s.May) (h : 0 ≤ j ∧ j < s.gears.length) : mayB (rowN s.gears j.toNat 0) (rowN s.gears j.toNat 1) = true :=
  share_may (show shareB _ _ = true from row_in hM.gears.2 (k := j.toNat) (by omega))
theorem goalE_stays {j' : Int} (h3 : k = 3) (hj : 0 ≤ j ∧ j < s.gears.length) (hj' : 0 ≤ j' ∧ j' < s.gears.length) (h6 : j ≤ 9223372036854775807) (h6' : j' ≤ 9223372036854775807) :
    goalE s ⟨i, w, t, k, a, a, c, d, g, j', m⟩ = goalE s ⟨i, w, t, k, a, a, c, d, g, j, m⟩ := by
  by_cases h : TaskP s ⟨i, w, t, k, a, a, c, d, g, j, m⟩
  · have h' : TaskP s ⟨i, w, t, k, a, a, c, d, g, j', m⟩ := ⟨h.1, evIn_gear h3 hj' h6' h.2.1, h.2.2.1, h.2.2.2⟩
    have hM := check_iff.1 h.1
    rw [goalE_yes h, goalE_yes h']
    unfold goalC
    simp only
    rw [far_same hM h.2.2.2]
    exact goal_stays (share_may hM.pace) (gear_may hM hj') (gear_may hM hj)
  · have h' : ¬ TaskP s ⟨i, w, t, k, a, a, c, d, g, j', m⟩ := fun q => h ⟨q.1, evIn_gear h3 hj h6 q.2.1, q.2.2.1, q.2.2.2⟩
    rw [goalE_no h, goalE_no h']
end
theorem task_shares {s : SetP} {e : EvP} (h : TaskP s e) : Shares (farV s e.fr e.to) s.pn s.pd (rowN s.gears e.ge.toNat 0) (rowN s.gears e.ge.toNat 1) (rowN s.elements e.el.toNat 0) (rowN s.elements e.el.toNat 1) (rowN s.elements e.el.toNat 2) (rowN s.elements e.el.toNat 3)
    (rowN s.classes e.cl.toNat 0) (rowN s.classes e.cl.toNat 1) s.allow := by
  have hM := check_iff.1 h.1
  have hT := task_in h.2.1 h.2.2.1
  have hD := far_bd hM e.fr e.to
  have hE := row_in hM.elements.2 (k := e.el.toNat) (by have := hT.el; omega)
  exact ⟨by have := h.2.2.2; omega, hM.pace, row_in hM.gears.2 (k := e.ge.toNat) (by have := hT.ge; omega), hE.1, hE.2, row_in hM.classes.2 (k := e.cl.toNat) (by have := hT.cl; omega), hM.allow⟩
theorem goal_bad {D pn pd gn gd U fn fd un ud cn cd al : Int} (h : (goalR D pn pd gn gd U fn fd un ud cn cd al).c ≠ 0) : (goalR D pn pd gn gd U fn fd un ud cn cd al).n = 0 ∧ (goalR D pn pd gn gd U fn fd un ud cn cd al).d = 0 := by
  have z : ∀ {r : Rat2} {f : Int → Int → Rat2}, (∀ a b, (f a b).c ≠ 0 → (f a b).n = 0 ∧ (f a b).d = 0) → (onR r f).c ≠ 0 → (onR r f).n = 0 ∧ (onR r f).d = 0 := by
    intro r f hf h
    unfold onR at h ⊢
    by_cases hr : r.c = 0
    · rw [if_pos hr] at h ⊢; exact hf _ _ h
    · rw [if_neg hr]; exact ⟨rfl, rfl⟩
  unfold goalR at h ⊢
  exact z (fun _ _ => z (fun _ _ => z (fun _ _ => z (fun _ _ => z (fun _ _ => z (fun a b => mulR_z _ _ _ _)))))) h
theorem goalE_three {s : SetP} {e : EvP} {X : Rat2} (hX : goalE s e = X) :
    X.c = 0 ∧ mayB X.n X.d = true ∧ 0 ≤ X.n ∧ TaskP s e ∨ X = ⟨0, 0, 10⟩ ∧ TaskP s e ∨ X = ⟨0, 0, 100⟩ ∧ ¬ TaskP s e := by
  subst hX
  by_cases h : TaskP s e
  · have hs := task_shares h
    have hM := check_iff.1 h.1
    have hT := task_in h.2.1 h.2.2.1
    have hD := far_bd hM e.fr e.to
    rw [goalE_yes h]
    unfold goalC
    rcases goal_ten (U := e.un) hs (by omega) (by have := hT.un; omega) with q | q
    · exact .inl ⟨q, (goal_may hs hT.un.1 q).1, (goal_may hs hT.un.1 q).2, h⟩
    · exact .inr (.inl ⟨rat2_ext (goal_bad (by rw [q]; decide)).1 (goal_bad (by rw [q]; decide)).2 q, h⟩)
  · exact .inr (.inr ⟨goalE_no h, h⟩)
theorem goalE_task {s : SetP} {e : EvP} (h : (goalE s e).c = 0) : TaskP s e := by
  rcases goalE_three (s := s) (e := e) rfl with q | q | q
  · exact q.2.2.2
  · exact q.2
  · rw [q.1] at h; cases h
section
variable {s : SetP} {i w t k a b c d g j m : Int}
/-- GoalUnits. -/
theorem goalE_units {q : Int} (hq : 0 ≤ q) {X Y Z x y : Rat2} (hX : goalE s ⟨i, w, t, k, a, b, c, d, g, j, m⟩ = X) (hY : goalE s ⟨i, w, t, k, a, b, c, d + q, g, j, m⟩ = Y) (hZ : goalE s ⟨i, w, t, k, a, b, c, d + 2 * q, g, j, m⟩ = Z) (cX : X.c = 0) (cY : Y.c = 0) (cZ : Z.c = 0)
    (hx : minusR Y.n Y.d X.n X.d = x) (hy : minusR Z.n Z.d Y.n Y.d = y) : (x.c = 0 → y.c = 0 → x.n = y.n ∧ x.d = y.d) ∧ lessB Y.n Y.d X.n X.d = false ∧ lessB Z.n Z.d Y.n Y.d = false := by
  have tX := goalE_task (hX ▸ cX)
  have tY := goalE_task (hY ▸ cY)
  have tZ := goalE_task (hZ ▸ cZ)
  rw [goalE_yes tX] at hX
  rw [goalE_yes tY] at hY
  rw [goalE_yes tZ] at hZ
  have hs := task_shares tX
  unfold goalC at hX hY hZ
  simp only at hX hY hZ hs
  subst hX hY hZ
  refine ⟨fun c1 c2 => goal_units hs.allow cX cY cZ hx hy c1 c2, goal_rises hs hq cX cY, ?_⟩
  have e2 : d + 2 * q = (d + q) + q := by omega
  rw [e2] at cZ ⊢
  exact goal_rises hs hq cY cZ
end
/-- A setup without an allowance. -/
def SetP.plain (s : SetP) : SetP := { s with allow := 0 }
theorem plain_may {s : SetP} (h : s.May) : s.plain.May :=
  ⟨h.places, h.ways, h.pace, h.elements, h.classes, h.gears, by show (0 : Int) ≤ 0 ∧ (0 : Int) ≤ 100; omega, h.unit, h.cap, h.paid, h.aft, h.brk, h.nfrom, h.nto, h.fault, h.reg, h.over, h.week, h.rates, h.diff, h.least, h.tiers⟩
theorem plain_far {s : SetP} (h : s.May) (a b : Int) : farV s.plain a b = farV s a b := by
  unfold farV
  by_cases q : s.May ∧ 0 ≤ a ∧ a < s.places ∧ 0 ≤ b ∧ b < s.places
  · rw [if_pos q, if_pos ⟨plain_may h, q.2⟩]; rfl
  · rw [if_neg q, if_neg (fun r => q ⟨h, r.2⟩)]
theorem plain_task {s : SetP} (h : checkB s = true) (e : EvP) : TaskP s.plain e ↔ TaskP s e := by
  have hM := check_iff.1 h
  have h' : checkB s.plain = true := check_iff.2 (plain_may hM)
  unfold TaskP
  rw [plain_far hM]
  exact ⟨fun q => ⟨h, q.2⟩, fun q => ⟨h', q.2⟩⟩
theorem setC_plain {w : World} {s : SetP} {cs : Array Value} (h : SetC w s cs) : SetC w s.plain (cs.setIfInBounds 7 (.int .i64 0)) := by
  obtain ⟨A1, A2, A3, A4, A5, A6, c1, c2, c3, c4, c5, c6, h1, h2⟩ := h
  unfold setV at h1
  injection h1 with h1
  subst h1
  exact ⟨A1, A2, A3, A4, A5, A6, c1, c2, c3, c4, c5, c6, rfl, ⟨h2.ways, h2.elements, h2.classes, h2.gears, h2.rates, h2.tiers⟩⟩
theorem fit_plain {s : SetP} (h : s.Fit) : s.plain.Fit := by
  constructor <;> first | exact h.places | exact h.pn | exact h.pd | exact h.unit | exact h.cap | exact h.paid | exact h.aft | exact h.brk | exact h.reg | exact h.over | exact h.week | exact h.nfrom | exact h.nto | exact h.diff | exact h.least | exact h.fault | exact (show In64 0 by unfold In64; omega)
/-- GoalAllow. -/
theorem goalE_allow {s : SetP} {e : EvP} (h : checkB s = true) {X Y : Rat2} (hX : goalE s e = X) (hY : goalE s.plain e = Y) :
    (X.c = 0 → Y.c = 0 → X.n * Y.d * 100 = Y.n * (100 + s.allow) * X.d) ∧ ((X.c = 100) ↔ (Y.c = 100)) := by
  constructor
  · intro cX cY
    have tX := goalE_task (hX ▸ cX)
    have tY := (plain_task h e).2 tX
    rw [goalE_yes tX] at hX
    rw [goalE_yes tY] at hY
    have hs := task_shares tX
    rw [plain_far (check_iff.1 h)] at hY
    unfold goalC at hX hY
    simp only [SetP.plain] at hY
    subst hX hY
    exact goal_allow hs.allow cX cY
  · have h1 := goalE_three hX
    have h2 := goalE_three hY
    rw [plain_task h e] at h2
    rcases h1 with ⟨q, _, _, r⟩ | ⟨q, r⟩ | ⟨q, r⟩
    · rcases h2 with ⟨p, _⟩ | ⟨p, _⟩ | ⟨p, n⟩
      · rw [q, p]
      · rw [p, q]; decide
      · exact absurd r n
    · rcases h2 with ⟨p, _⟩ | ⟨p, _⟩ | ⟨p, n⟩
      · rw [q, p]; decide
      · rw [p, q]
      · exact absurd r n
    · rcases h2 with ⟨p, _, _, n⟩ | ⟨p, n⟩ | ⟨p, n⟩
      · exact absurd n r
      · exact absurd n r
      · rw [p, q]
end Go.Proofs.Ytoconmcmnikdnaa
