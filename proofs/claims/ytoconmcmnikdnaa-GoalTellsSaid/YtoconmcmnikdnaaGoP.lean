/-
  How long a task is to take: seven steps one after the other, each taken whatever the one ahead was, are the goal.
-/
import Derived.Test.YtoconmcmnikdnaaGoA
import Derived.Test.YtoconmcmnikdnaaMPlain
import Derived.Test.YtoconmcmnikdnaaRatD
import Derived.Test.YtoconmcmnikdnaaWayF
import Derived.Test.YtoconmcmnikdnaaEvCheck
import Derived.Test.YtoconmcmnikdnaaSetY
import Derived.Test.YtoconmcmnikdnaaWayE
namespace Go.Proofs.Ytoconmcmnikdnaa
open Go.RowKit
set_option linter.unusedVariables false
set_option linter.unusedSimpArgs false
set_option maxRecDepth 20000

/-- A number of a row. -/
def rowN (t : Rows2) (i j : Nat) : Int := (t.getD i []).getD j 0
def goalC (s : SetP) (e : EvP) (D : Int) : Rat2 :=
  goalR D s.pn s.pd (rowN s.gears e.ge.toNat 0) (rowN s.gears e.ge.toNat 1) e.un (rowN s.elements e.el.toNat 0) (rowN s.elements e.el.toNat 1) (rowN s.elements e.el.toNat 2) (rowN s.elements e.el.toNat 3)
    (rowN s.classes e.cl.toNat 0) (rowN s.classes e.cl.toNat 1) s.allow
/-- An event may be in a setup. -/
def EvIn (s : SetP) (e : EvP) : Prop := e.May s.places s.elements.length s.classes.length s.gears.length s.rates.length
instance (s : SetP) (e : EvP) : Decidable (EvIn s e) := by unfold EvIn; infer_instance
/-- It is a task whose places are joined. -/
def TaskP (s : SetP) (e : EvP) : Prop := checkB s = true ∧ EvIn s e ∧ e.kd = 3 ∧ farV s e.fr e.to ≠ -1
noncomputable instance (s : SetP) (e : EvP) : Decidable (TaskP s e) := by unfold TaskP; infer_instance
noncomputable def goalE (s : SetP) (e : EvP) : Rat2 := if TaskP s e then goalC s e (farV s e.fr e.to) else ⟨0, 0, 100⟩
theorem goalE_yes {s : SetP} {e : EvP} (h : TaskP s e) : goalE s e = goalC s e (farV s e.fr e.to) := if_pos h
theorem goalE_no {s : SetP} {e : EvP} (h : ¬ TaskP s e) : goalE s e = ⟨0, 0, 100⟩ := if_neg h
theorem mul_z1 (c d : Int) : mulR 0 0 c d = ⟨0, 0, 20⟩ := by
  unfold mulR
  rw [show mayB 0 0 = false by decide, Bool.false_and]
  rfl
theorem plus_z1 (c d : Int) : plusR 0 0 c d = ⟨0, 0, 20⟩ := by
  unfold plusR
  rw [show mayB 0 0 = false by decide, Bool.false_and]
  rfl
theorem plus_z2 (a b : Int) : plusR a b 0 0 = ⟨0, 0, 20⟩ := by rw [plusR_comm, plus_z1]
theorem rat2_ext {r : Rat2} {n d c : Int} (h1 : r.n = n) (h2 : r.d = d) (h3 : r.c = c) : r = ⟨n, d, c⟩ := by
  obtain ⟨a, b, e⟩ := r
  simp only at h1 h2 h3
  rw [h1, h2, h3]
theorem on_no {r : Rat2} {f : Int → Int → Rat2} (h : r.c ≠ 0) : onR r f = ⟨0, 0, r.c⟩ := if_neg h
theorem on_yes {r : Rat2} {f : Int → Int → Rat2} (h : r.c = 0) : onR r f = f r.n r.d := if_pos h
theorem fst_no {e c : Int} (h : e ≠ 0) : fstC e c = e := if_neg h
/-- The seven steps. -/
theorem goal_chain {D pn pd gn gd U fn fd un ud cn cd al : Int} {r1 r2 r3 r4 r5 r6 r7 : Rat2} (h1 : mulR pn pd D 1 = r1) (h2 : mulR r1.n r1.d gn gd = r2) (h3 : mulR un ud U 1 = r3) (h4 : plusR fn fd r3.n r3.d = r4) (h5 : mulR r4.n r4.d cn cd = r5)
    (h6 : plusR r2.n r2.d r5.n r5.d = r6) (h7 : mulR r6.n r6.d (mkN (100 + al) 100) (mkD (100 + al) 100) = r7) :
    goalR D pn pd gn gd U fn fd un ud cn cd al = ⟨r7.n, r7.d, fstC (fstC (fstC (fstC (fstC (fstC r1.c r2.c) r3.c) r4.c) r5.c) r6.c) r7.c⟩ := by
  rw [mulR_comm] at h1
  have z1 := mulR_z D 1 pn pd
  have z2 := mulR_z r1.n r1.d gn gd
  have z3 := mulR_z un ud U 1
  have z4 := plusR_z fn fd r3.n r3.d
  have z5 := mulR_z r4.n r4.d cn cd
  have z6 := plusR_z r2.n r2.d r5.n r5.d
  rw [h1] at z1
  rw [h2] at z2
  rw [h3] at z3
  rw [h4] at z4
  rw [h5] at z5
  rw [h6] at z6
  unfold goalR
  rw [h1]
  by_cases c6 : r6.c = 0
  rotate_left
  · have k7 : r7 = ⟨0, 0, 20⟩ := by rw [← h7, (z6 c6).1, (z6 c6).2, mul_z1]
    subst k7
    by_cases c1 : r1.c = 0
    · rw [on_yes c1, h2]
      by_cases c2 : r2.c = 0
      · rw [on_yes c2, h3]
        by_cases c3 : r3.c = 0
        · rw [on_yes c3, h4]
          by_cases c4 : r4.c = 0
          · rw [on_yes c4, h5]
            by_cases c5 : r5.c = 0
            · rw [on_yes c5, h6, on_no c6, c1, c2, c3, c4, c5]
              simp only [zero_fstC, fst_no c6]
            · rw [on_no c5, c1, c2, c3, c4]
              simp only [zero_fstC, fst_no c5]
          · rw [on_no c4, c1, c2, c3]
            simp only [zero_fstC, fst_no c4]
        · rw [on_no c3, c1, c2]
          simp only [zero_fstC, fst_no c3]
      · rw [on_no c2, c1]
        simp only [zero_fstC, fst_no c2]
    · rw [on_no c1]
      simp only [fst_no c1]
  · by_cases c2 : r2.c = 0
    rotate_left
    · rw [(z2 c2).1, (z2 c2).2, plus_z1] at h6
      rw [← h6] at c6
      cases c6
    by_cases c5 : r5.c = 0
    rotate_left
    · rw [(z5 c5).1, (z5 c5).2, plus_z2] at h6
      rw [← h6] at c6
      cases c6
    by_cases c4 : r4.c = 0
    rotate_left
    · rw [(z4 c4).1, (z4 c4).2, mul_z1] at h5
      rw [← h5] at c5
      cases c5
    by_cases c3 : r3.c = 0
    rotate_left
    · rw [(z3 c3).1, (z3 c3).2, plus_z2] at h4
      rw [← h4] at c4
      cases c4
    by_cases c1 : r1.c = 0
    rotate_left
    · rw [(z1 c1).1, (z1 c1).2, mul_z1] at h2
      rw [← h2] at c2
      cases c2
    rw [on_yes c1, h2, on_yes c2, h3, on_yes c3, h4, on_yes c4, h5, on_yes c5, h6, on_yes c6, h7]
    rw [c1, c2, c3, c4, c5, c6]
    simp only [zero_fstC]
theorem mk_int {m : Int} (h : 0 ≤ m ∧ m ≤ 2147483647) : mkR m 1 = ⟨m, 1, 0⟩ := by
  have hm : mayB m 1 = true := by
    unfold mayB
    simp only [decide_eq_true_eq]
    exact ⟨by omega, by omega, by omega, by omega, Int.gcd_one_right _⟩
  have := may_mk m 1
  rw [hm] at this
  simp only [Bool.true_eq, Bool.and_eq_true, decide_eq_true_eq] at this
  unfold mkR
  rw [this.1, this.2.1, this.2.2]
theorem mk_allow {al : Int} (h : 0 ≤ al ∧ al ≤ 100) : mkR (100 + al) 100 = ⟨mkN (100 + al) 100, mkD (100 + al) 100, 0⟩ := by
  unfold mkR
  rw [allow_mk h]
theorem far_bd {s : SetP} (hM : s.May) (a b : Int) : -1 ≤ farV s a b ∧ farV s a b ≤ 1010000 := by
  unfold farV
  split
  · have hw := hM.ways
    exact dist_le64 (edges_long hw.2) (edges_small hw.2) (n := s.ways.length) (by simp [edgesOf]) (by omega) _ _
  · omega
theorem mul64 (a b c d : Int) : In64 (mulR a b c d).n ∧ In64 (mulR a b c d).d := rat_i64 _ (mulR_may a b c d) (mulR_z a b c d)
theorem plus64 (a b c d : Int) : In64 (plusR a b c d).n ∧ In64 (plusR a b c d).d := rat_i64 _ (plusR_may a b c d) (plusR_z a b c d)
theorem share64 {n d : Int} (h : shareB n d = true) : In64 n ∧ In64 d := by
  have := share_bd h
  unfold In64
  omega
theorem row_in {P : List Int → Prop} {t : Rows2} (h : ∀ r ∈ t, P r) {k : Nat} (hk : k < t.length) : P (t.getD k []) := by
  refine h _ ?_
  simp [List.getD, hk]
theorem setS_of {w : World} {s : SetP} {cs : Array Value} (h : SetC w s cs) : SetS cs s.places s.elements.length s.classes.length s.gears.length s.rates.length := by
  refine ⟨h.size, h.one, ?_, ?_, ?_, ?_, ?_⟩
  all_goals
    obtain ⟨A1, A2, A3, A4, A5, A6, c1, c2, c3, c4, c5, c6, h1, h2⟩ := h
    unfold setV at h1
    injection h1 with h1
    subst h1
  · rfl
  · exact ⟨_, _, rfl⟩
  · exact ⟨_, _, rfl⟩
  · exact ⟨_, _, rfl⟩
  · exact ⟨_, _, rfl⟩
theorem setC_goal {w : World} {s : SetP} {cs : Array Value} (h : SetC w s cs) : ∃ A2 c2 A3 c3 A4 c4, cs[2]? = some (.int .i64 s.pn) ∧ cs[3]? = some (.int .i64 s.pd) ∧ cs[4]? = some (.slice A2 s.elements.length c2) ∧ cs[5]? = some (.slice A3 s.classes.length c3) ∧
    cs[6]? = some (.slice A4 s.gears.length c4) ∧ cs[7]? = some (.int .i64 s.allow) ∧ Tab 4 w A2 s.elements.length c2 s.elements ∧ Tab 2 w A3 s.classes.length c3 s.classes ∧ Tab 2 w A4 s.gears.length c4 s.gears := by
  obtain ⟨A1, A2, A3, A4, A5, A6, c1, c2, c3, c4, c5, c6, h1, h2⟩ := h
  unfold setV at h1
  injection h1 with h1
  subst h1
  exact ⟨A2, c2, A3, c3, A4, c4, rfl, rfl, rfl, rfl, rfl, rfl, h2.elements, h2.classes, h2.gears⟩
/-- What a task has. -/
structure TaskIn (s : SetP) (e : EvP) : Prop where
  frm : 0 ≤ e.fr ∧ e.fr < s.places
  too : 0 ≤ e.to ∧ e.to < s.places
  el : 0 ≤ e.el ∧ e.el < s.elements.length
  cl : 0 ≤ e.cl ∧ e.cl < s.classes.length
  ge : 0 ≤ e.ge ∧ e.ge < s.gears.length
  un : 0 ≤ e.un ∧ e.un ≤ 10000
theorem task_in {s : SetP} {e : EvP} (h : EvIn s e) (h3 : e.kd = 3) : TaskIn s e := by
  obtain ⟨hf, -, h, -⟩ := h
  obtain ⟨a, b, c, d, f, g⟩ := h h3
  exact ⟨⟨hf.fr.1, a⟩, ⟨hf.to.1, b⟩, ⟨hf.el.1, c⟩, ⟨hf.cl.1, d⟩, ⟨hf.ge.1, f⟩, ⟨hf.un.1, g⟩⟩
end Go.Proofs.Ytoconmcmnikdnaa
