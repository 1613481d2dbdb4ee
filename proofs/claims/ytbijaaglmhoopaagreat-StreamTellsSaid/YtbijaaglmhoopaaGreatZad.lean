/-
  event.Check: whether an event may be in a setup.
  A session found from its first event on; its parts one by one; how many there are. No program here.
-/
import Derived.Test.YtbijaaglmhoopaaGreatZac
namespace Go.Proofs.YtbijaaglmhoopaaGreat
open Go.RowKit
set_option linter.unusedVariables false
set_option linter.unusedSimpArgs false
set_option maxRecDepth 20000

/-- What Check asks of a setup's cells. -/
structure SetS (cs : Array Value) (pl : Int) (nE nC nG nR : Nat) : Prop where
  size : cs.size = 23
  one : cs.all (·.oneCell') = true
  c0 : cs[0]? = some (.int .i64 pl)
  c4 : ∃ A c, cs[4]? = some (.slice A nE c)
  c5 : ∃ A c, cs[5]? = some (.slice A nC c)
  c6 : ∃ A c, cs[6]? = some (.slice A nG c)
  c18 : ∃ A c, cs[18]? = some (.slice A nR c)
/-- An event may be in a setup with so many of each. -/
def EvP.May (e : EvP) (pl : Int) (nE nC nG nR : Nat) : Prop :=
  e.Fair ∧ e.wk < nR ∧ (e.kd = 3 → e.fr < pl ∧ e.to < pl ∧ e.el < nE ∧ e.cl < nC ∧ e.ge < nG ∧ e.un ≤ 10000) ∧ (e.kd = 4 → e.cd ≤ 99)
instance (e : EvP) (pl : Int) (nE nC nG nR : Nat) : Decidable (e.May pl nE nC nG nR) := by unfold EvP.May; infer_instance
set_option maxHeartbeats 4000000 in
theorem echeck_any (cs : Array Value) (pl : Int) (nE nC nG nR : Nat) (hs : SetS cs pl nE nC nG nR) (e : EvP) (hi : e.In) (W : World) (b : Bool) (hb : decide (e.May pl nE nC nG nR) = b) :
    Calls Tryz.prog 34 #[.agg cs, .agg (evC e)] W fun r w' => r = .returned (.bool b) ∧ Below W.heap.size W w' := by
  obtain ⟨h23, hone, c0, ⟨A4, k4, c4⟩, ⟨A5, k5, c5⟩, ⟨A6, k6, c6⟩, ⟨A18, k18, c18⟩⟩ := hs
  have HF : Hid (∀ w, Calls Tryz.prog 63 #[.agg (evC e)] w fun r w' => r = .returned (.bool (decide e.Fair)) ∧ Below w.heap.size w w') := Lib.hid (fun w => fair_any e w hi)
  have hB : Hid (e.May pl nE nC nG nR ↔ b = true) := Lib.hid (by rw [← hb]; simp)
  obtain ⟨i, w, t, k, a, b1, c, d, g, j, m⟩ := e
  unfold EvP.May at hB
  simp only at hB
  have d1 : (evC ⟨i, w, t, k, a, b1, c, d, g, j, m⟩)[1]? = some (.int .i64 w) := rfl
  have d3 : (evC ⟨i, w, t, k, a, b1, c, d, g, j, m⟩)[3]? = some (.int .i64 k) := rfl
  have d4 : (evC ⟨i, w, t, k, a, b1, c, d, g, j, m⟩)[4]? = some (.int .i64 a) := rfl
  have d5 : (evC ⟨i, w, t, k, a, b1, c, d, g, j, m⟩)[5]? = some (.int .i64 b1) := rfl
  have d6 : (evC ⟨i, w, t, k, a, b1, c, d, g, j, m⟩)[6]? = some (.int .i64 c) := rfl
  have d7 : (evC ⟨i, w, t, k, a, b1, c, d, g, j, m⟩)[7]? = some (.int .i64 d) := rfl
  have d8 : (evC ⟨i, w, t, k, a, b1, c, d, g, j, m⟩)[8]? = some (.int .i64 g) := rfl
  have d9 : (evC ⟨i, w, t, k, a, b1, c, d, g, j, m⟩)[9]? = some (.int .i64 j) := rfl
  have d10 : (evC ⟨i, w, t, k, a, b1, c, d, g, j, m⟩)[10]? = some (.int .i64 m) := rfl
  have hz := evC_size ⟨i, w, t, k, a, b1, c, d, g, j, m⟩
  have ways : Hid (¬ (⟨i, w, t, k, a, b1, c, d, g, j, m⟩ : EvP).Fair ∨ (⟨i, w, t, k, a, b1, c, d, g, j, m⟩ : EvP).Fair) := Lib.hid (by by_cases h : (⟨i, w, t, k, a, b1, c, d, g, j, m⟩ : EvP).Fair; exact .inr h; exact .inl h)
  clear hi hb
  generalize hes : evC ⟨i, w, t, k, a, b1, c, d, g, j, m⟩ = es at *
  clear hes
  have HZ := Lib.hid hz
  have H23 := Lib.hid h23
  have HO := Lib.hid hone
  clear hz h23 hone
  have cell : ∀ (w1 : World), Below (W.heap.size + 1 + 1) ((W.alloc (.cells cs 30)).alloc (.cells es 48)) w1 → Has w1 W.heap.size cs ∧ Has w1 (W.heap.size + 1) es ∧ Below W.heap.size W w1 := fun w1 h => by
    have h' : Below ((W.alloc (.cells cs 30)).alloc (.cells es 48)).heap.size ((W.alloc (.cells cs 30)).alloc (.cells es 48)) w1 := by simpa using h
    exact ⟨((Has.new W _ cs rfl).alloc _).below h', (Has.new _ _ es (by simp)).below h', bel_on (bel_alloc (bel_alloc (Below.refl _ _) _) _) h'⟩
  have CELL := Lib.hid cell
  clear cell
  rcases ways.out with hf | hf
  · rw [decide_eq_false hf] at HF
    have hb : b = false := by
      have := hB.out
      cases b
      · rfl
      · exact absurd (this.2 rfl).1 hf
    subst hb
    clear hB ways hf
    go_enter Tryz.func34, Tryz.ntmps34
    go_wp2_with (refine wpList_load_e (by rfl) _ rfl (W.heap.size + 1) rfl es (Has.new _ _ es (by simp)) HZ.out ?_)
    refine (HF.out _).mono ?_
    rintro r w1 ⟨rfl, b1⟩
    go_wp2
    go_ret
    exact ⟨rfl, (CELL.out w1 (by simpa using b1)).2.2⟩
  · rw [decide_eq_true hf] at HF
    have ways2 : (nR : Int) ≤ w ∨ (w < nR ∧ k ≠ 3 ∧ k ≠ 4) ∨ (w < nR ∧ k = 4 ∧ m ≤ 99) ∨ (w < nR ∧ k = 4 ∧ 99 < m) ∨ (w < nR ∧ k = 3 ∧ pl ≤ a) ∨ (w < nR ∧ k = 3 ∧ a < pl ∧ pl ≤ b1) ∨ (w < nR ∧ k = 3 ∧ a < pl ∧ b1 < pl ∧ nE ≤ c) ∨
      (w < nR ∧ k = 3 ∧ a < pl ∧ b1 < pl ∧ c < nE ∧ nC ≤ g) ∨ (w < nR ∧ k = 3 ∧ a < pl ∧ b1 < pl ∧ c < nE ∧ g < nC ∧ nG ≤ j) ∨ (w < nR ∧ k = 3 ∧ a < pl ∧ b1 < pl ∧ c < nE ∧ g < nC ∧ j < nG ∧ 10000 < d) ∨ (w < nR ∧ k = 3 ∧ a < pl ∧ b1 < pl ∧ c < nE ∧ g < nC ∧ j < nG ∧ d ≤ 10000) := by
      by_cases q1 : (nR : Int) ≤ w
      · exact .inl q1
      have q1' : w < nR := by omega
      by_cases q2 : k = 3
      · by_cases q3 : a < pl
        · by_cases q4 : b1 < pl
          · by_cases q5 : c < nE
            · by_cases q6 : g < nC
              · by_cases q7 : j < nG
                · by_cases q8 : d ≤ 10000
                  · exact .inr (.inr (.inr (.inr (.inr (.inr (.inr (.inr (.inr (.inr ⟨q1', q2, q3, q4, q5, q6, q7, q8⟩)))))))))
                  · exact .inr (.inr (.inr (.inr (.inr (.inr (.inr (.inr (.inr (.inl ⟨q1', q2, q3, q4, q5, q6, q7, by omega⟩)))))))))
                · exact .inr (.inr (.inr (.inr (.inr (.inr (.inr (.inr (.inl ⟨q1', q2, q3, q4, q5, q6, by omega⟩))))))))
              · exact .inr (.inr (.inr (.inr (.inr (.inr (.inr (.inl ⟨q1', q2, q3, q4, q5, by omega⟩)))))))
            · exact .inr (.inr (.inr (.inr (.inr (.inr (.inl ⟨q1', q2, q3, q4, by omega⟩))))))
          · exact .inr (.inr (.inr (.inr (.inr (.inl ⟨q1', q2, q3, by omega⟩)))))
        · exact .inr (.inr (.inr (.inr (.inl ⟨q1', q2, by omega⟩))))
      · by_cases q3 : k = 4
        · by_cases q4 : m ≤ 99
          · exact .inr (.inr (.inl ⟨q1', q3, q4⟩))
          · exact .inr (.inr (.inr (.inl ⟨q1', q3, by omega⟩)))
        · exact .inr (.inl ⟨q1', q2, q3⟩)
    have H9 : Hid (((w < nR ∧ (k = 3 → a < pl ∧ b1 < pl ∧ c < nE ∧ g < nC ∧ j < nG ∧ d ≤ 10000)) ∧ (k = 4 → m ≤ 99)) ↔ b = true) := Lib.hid ⟨fun h => hB.out.1 ⟨hf, h.1.1, h.1.2, h.2⟩, fun h => ⟨⟨(hB.out.2 h).2.1, (hB.out.2 h).2.2.1⟩, (hB.out.2 h).2.2.2⟩⟩
    clear hB hf ways
    rcases ways2 with h1 | ⟨h1, h2, h3⟩ | ⟨h1, rfl, h3⟩ | ⟨h1, rfl, h3⟩ | ⟨h1, rfl, h3⟩ | ⟨h1, rfl, h3, h4⟩ | ⟨h1, rfl, h3, h4, h5⟩ | ⟨h1, rfl, h3, h4, h5, h6⟩ | ⟨h1, rfl, h3, h4, h5, h6, h7⟩ | ⟨h1, rfl, h3, h4, h5, h6, h7, h8⟩ | ⟨h1, rfl, h3, h4, h5, h6, h7, h8⟩
    · skip
      obtain rfl : b = false := by
        have this := H9.out
        cases b
        · rfl
        · exfalso
          have h := this.2 rfl
          have := h.1.1
          omega
      clear H9
      go_enter Tryz.func34, Tryz.ntmps34
      go_wp2_with (refine wpList_load_e (by rfl) _ rfl (W.heap.size + 1) rfl es (Has.new _ _ es (by simp)) HZ.out ?_)
      refine (HF.out _).mono ?_
      rintro r w1 ⟨rfl, hb1⟩
      obtain ⟨HS, HE, hbF⟩ := CELL.out w1 (by simpa using hb1)
      have s0 := HS.cell 0 c0
      have s4 := HS.cell 4 c4
      have s5 := HS.cell 5 c5
      have s6 := HS.cell 6 c6
      have s18 := HS.cell 18 c18
      have e1 := HE.cell 1 d1
      have e3 := HE.cell 3 d3
      have e4 := HE.cell 4 d4
      have e5 := HE.cell 5 d5
      have e6 := HE.cell 6 d6
      have e7 := HE.cell 7 d7
      have e8 := HE.cell 8 d8
      have e9 := HE.cell 9 d9
      have e10 := HE.cell 10 d10
      have z1 := HS.size
      have z2 := HE.size
      have HBF := Lib.hid hbF
      clear HS HE hb1 hbF c0 c4 c5 c6 c18 d1 d3 d4 d5 d6 d7 d8 d9 d10 HF CELL HZ H23 HO
      go_wp2
      go_ret
      refine ⟨?_, HBF.out⟩
      first
      | rfl
      | exact ret_bool (decide_eq_false (by omega))
      | exact ret_bool (decide_eq_true (by omega))
    · skip
      obtain rfl : b = true := H9.out.1 (⟨⟨h1, fun e => absurd e h2⟩, fun e => absurd e h3⟩)
      clear H9
      go_enter Tryz.func34, Tryz.ntmps34
      go_wp2_with (refine wpList_load_e (by rfl) _ rfl (W.heap.size + 1) rfl es (Has.new _ _ es (by simp)) HZ.out ?_)
      refine (HF.out _).mono ?_
      rintro r w1 ⟨rfl, hb1⟩
      obtain ⟨HS, HE, hbF⟩ := CELL.out w1 (by simpa using hb1)
      have s0 := HS.cell 0 c0
      have s4 := HS.cell 4 c4
      have s5 := HS.cell 5 c5
      have s6 := HS.cell 6 c6
      have s18 := HS.cell 18 c18
      have e1 := HE.cell 1 d1
      have e3 := HE.cell 3 d3
      have e4 := HE.cell 4 d4
      have e5 := HE.cell 5 d5
      have e6 := HE.cell 6 d6
      have e7 := HE.cell 7 d7
      have e8 := HE.cell 8 d8
      have e9 := HE.cell 9 d9
      have e10 := HE.cell 10 d10
      have z1 := HS.size
      have z2 := HE.size
      have HBF := Lib.hid hbF
      clear HS HE hb1 hbF c0 c4 c5 c6 c18 d1 d3 d4 d5 d6 d7 d8 d9 d10 HF CELL HZ H23 HO
      go_wp2
      go_ret
      refine ⟨?_, HBF.out⟩
      first
      | rfl
      | exact ret_bool (decide_eq_false (by omega))
      | exact ret_bool (decide_eq_true (by omega))
    · skip
      obtain rfl : b = true := H9.out.1 (⟨⟨h1, fun e => by omega⟩, fun _ => h3⟩)
      clear H9
      go_enter Tryz.func34, Tryz.ntmps34
      go_wp2_with (refine wpList_load_e (by rfl) _ rfl (W.heap.size + 1) rfl es (Has.new _ _ es (by simp)) HZ.out ?_)
      refine (HF.out _).mono ?_
      rintro r w1 ⟨rfl, hb1⟩
      obtain ⟨HS, HE, hbF⟩ := CELL.out w1 (by simpa using hb1)
      have s0 := HS.cell 0 c0
      have s4 := HS.cell 4 c4
      have s5 := HS.cell 5 c5
      have s6 := HS.cell 6 c6
      have s18 := HS.cell 18 c18
      have e1 := HE.cell 1 d1
      have e3 := HE.cell 3 d3
      have e4 := HE.cell 4 d4
      have e5 := HE.cell 5 d5
      have e6 := HE.cell 6 d6
      have e7 := HE.cell 7 d7
      have e8 := HE.cell 8 d8
      have e9 := HE.cell 9 d9
      have e10 := HE.cell 10 d10
      have z1 := HS.size
      have z2 := HE.size
      have HBF := Lib.hid hbF
      clear HS HE hb1 hbF c0 c4 c5 c6 c18 d1 d3 d4 d5 d6 d7 d8 d9 d10 HF CELL HZ H23 HO
      go_wp2
      go_ret
      refine ⟨?_, HBF.out⟩
      first
      | rfl
      | exact ret_bool (decide_eq_false (by omega))
      | exact ret_bool (decide_eq_true (by omega))
    · skip
      obtain rfl : b = false := by
        have this := H9.out
        cases b
        · rfl
        · exfalso
          have h := this.2 rfl
          have := h.2 rfl
          omega
      clear H9
      go_enter Tryz.func34, Tryz.ntmps34
      go_wp2_with (refine wpList_load_e (by rfl) _ rfl (W.heap.size + 1) rfl es (Has.new _ _ es (by simp)) HZ.out ?_)
      refine (HF.out _).mono ?_
      rintro r w1 ⟨rfl, hb1⟩
      obtain ⟨HS, HE, hbF⟩ := CELL.out w1 (by simpa using hb1)
      have s0 := HS.cell 0 c0
      have s4 := HS.cell 4 c4
      have s5 := HS.cell 5 c5
      have s6 := HS.cell 6 c6
      have s18 := HS.cell 18 c18
      have e1 := HE.cell 1 d1
      have e3 := HE.cell 3 d3
      have e4 := HE.cell 4 d4
      have e5 := HE.cell 5 d5
      have e6 := HE.cell 6 d6
      have e7 := HE.cell 7 d7
      have e8 := HE.cell 8 d8
      have e9 := HE.cell 9 d9
      have e10 := HE.cell 10 d10
      have z1 := HS.size
      have z2 := HE.size
      have HBF := Lib.hid hbF
      clear HS HE hb1 hbF c0 c4 c5 c6 c18 d1 d3 d4 d5 d6 d7 d8 d9 d10 HF CELL HZ H23 HO
      go_wp2
      go_ret
      refine ⟨?_, HBF.out⟩
      first
      | rfl
      | exact ret_bool (decide_eq_false (by omega))
      | exact ret_bool (decide_eq_true (by omega))
    · skip
      obtain rfl : b = false := by
        have this := H9.out
        cases b
        · rfl
        · exfalso
          have h := this.2 rfl
          obtain ⟨g1, g2, g3, g4, g5, g6⟩ := h.1.2 rfl
          omega
      clear H9
      go_enter Tryz.func34, Tryz.ntmps34
      go_wp2_with (refine wpList_load_e (by rfl) _ rfl (W.heap.size + 1) rfl es (Has.new _ _ es (by simp)) HZ.out ?_)
      refine (HF.out _).mono ?_
      rintro r w1 ⟨rfl, hb1⟩
      obtain ⟨HS, HE, hbF⟩ := CELL.out w1 (by simpa using hb1)
      have s0 := HS.cell 0 c0
      have s4 := HS.cell 4 c4
      have s5 := HS.cell 5 c5
      have s6 := HS.cell 6 c6
      have s18 := HS.cell 18 c18
      have e1 := HE.cell 1 d1
      have e3 := HE.cell 3 d3
      have e4 := HE.cell 4 d4
      have e5 := HE.cell 5 d5
      have e6 := HE.cell 6 d6
      have e7 := HE.cell 7 d7
      have e8 := HE.cell 8 d8
      have e9 := HE.cell 9 d9
      have e10 := HE.cell 10 d10
      have z1 := HS.size
      have z2 := HE.size
      have HBF := Lib.hid hbF
      clear HS HE hb1 hbF c0 c4 c5 c6 c18 d1 d3 d4 d5 d6 d7 d8 d9 d10 HF CELL HZ H23 HO
      go_wp2
      go_ret
      refine ⟨?_, HBF.out⟩
      first
      | rfl
      | exact ret_bool (decide_eq_false (by omega))
      | exact ret_bool (decide_eq_true (by omega))
    · skip
      obtain rfl : b = false := by
        have this := H9.out
        cases b
        · rfl
        · exfalso
          have h := this.2 rfl
          obtain ⟨g1, g2, g3, g4, g5, g6⟩ := h.1.2 rfl
          omega
      clear H9
      go_enter Tryz.func34, Tryz.ntmps34
      go_wp2_with (refine wpList_load_e (by rfl) _ rfl (W.heap.size + 1) rfl es (Has.new _ _ es (by simp)) HZ.out ?_)
      refine (HF.out _).mono ?_
      rintro r w1 ⟨rfl, hb1⟩
      obtain ⟨HS, HE, hbF⟩ := CELL.out w1 (by simpa using hb1)
      have s0 := HS.cell 0 c0
      have s4 := HS.cell 4 c4
      have s5 := HS.cell 5 c5
      have s6 := HS.cell 6 c6
      have s18 := HS.cell 18 c18
      have e1 := HE.cell 1 d1
      have e3 := HE.cell 3 d3
      have e4 := HE.cell 4 d4
      have e5 := HE.cell 5 d5
      have e6 := HE.cell 6 d6
      have e7 := HE.cell 7 d7
      have e8 := HE.cell 8 d8
      have e9 := HE.cell 9 d9
      have e10 := HE.cell 10 d10
      have z1 := HS.size
      have z2 := HE.size
      have HBF := Lib.hid hbF
      clear HS HE hb1 hbF c0 c4 c5 c6 c18 d1 d3 d4 d5 d6 d7 d8 d9 d10 HF CELL HZ H23 HO
      go_wp2
      go_ret
      refine ⟨?_, HBF.out⟩
      first
      | rfl
      | exact ret_bool (decide_eq_false (by omega))
      | exact ret_bool (decide_eq_true (by omega))
    · skip
      obtain rfl : b = false := by
        have this := H9.out
        cases b
        · rfl
        · exfalso
          have h := this.2 rfl
          obtain ⟨g1, g2, g3, g4, g5, g6⟩ := h.1.2 rfl
          omega
      clear H9
      go_enter Tryz.func34, Tryz.ntmps34
      go_wp2_with (refine wpList_load_e (by rfl) _ rfl (W.heap.size + 1) rfl es (Has.new _ _ es (by simp)) HZ.out ?_)
      refine (HF.out _).mono ?_
      rintro r w1 ⟨rfl, hb1⟩
      obtain ⟨HS, HE, hbF⟩ := CELL.out w1 (by simpa using hb1)
      have s0 := HS.cell 0 c0
      have s4 := HS.cell 4 c4
      have s5 := HS.cell 5 c5
      have s6 := HS.cell 6 c6
      have s18 := HS.cell 18 c18
      have e1 := HE.cell 1 d1
      have e3 := HE.cell 3 d3
      have e4 := HE.cell 4 d4
      have e5 := HE.cell 5 d5
      have e6 := HE.cell 6 d6
      have e7 := HE.cell 7 d7
      have e8 := HE.cell 8 d8
      have e9 := HE.cell 9 d9
      have e10 := HE.cell 10 d10
      have z1 := HS.size
      have z2 := HE.size
      have HBF := Lib.hid hbF
      clear HS HE hb1 hbF c0 c4 c5 c6 c18 d1 d3 d4 d5 d6 d7 d8 d9 d10 HF CELL HZ H23 HO
      go_wp2
      go_ret
      refine ⟨?_, HBF.out⟩
      first
      | rfl
      | exact ret_bool (decide_eq_false (by omega))
      | exact ret_bool (decide_eq_true (by omega))
    · skip
      obtain rfl : b = false := by
        have this := H9.out
        cases b
        · rfl
        · exfalso
          have h := this.2 rfl
          obtain ⟨g1, g2, g3, g4, g5, g6⟩ := h.1.2 rfl
          omega
      clear H9
      go_enter Tryz.func34, Tryz.ntmps34
      go_wp2_with (refine wpList_load_e (by rfl) _ rfl (W.heap.size + 1) rfl es (Has.new _ _ es (by simp)) HZ.out ?_)
      refine (HF.out _).mono ?_
      rintro r w1 ⟨rfl, hb1⟩
      obtain ⟨HS, HE, hbF⟩ := CELL.out w1 (by simpa using hb1)
      have s0 := HS.cell 0 c0
      have s4 := HS.cell 4 c4
      have s5 := HS.cell 5 c5
      have s6 := HS.cell 6 c6
      have s18 := HS.cell 18 c18
      have e1 := HE.cell 1 d1
      have e3 := HE.cell 3 d3
      have e4 := HE.cell 4 d4
      have e5 := HE.cell 5 d5
      have e6 := HE.cell 6 d6
      have e7 := HE.cell 7 d7
      have e8 := HE.cell 8 d8
      have e9 := HE.cell 9 d9
      have e10 := HE.cell 10 d10
      have z1 := HS.size
      have z2 := HE.size
      have HBF := Lib.hid hbF
      clear HS HE hb1 hbF c0 c4 c5 c6 c18 d1 d3 d4 d5 d6 d7 d8 d9 d10 HF CELL HZ H23 HO
      go_wp2
      go_ret
      refine ⟨?_, HBF.out⟩
      first
      | rfl
      | exact ret_bool (decide_eq_false (by omega))
      | exact ret_bool (decide_eq_true (by omega))
    · skip
      obtain rfl : b = false := by
        have this := H9.out
        cases b
        · rfl
        · exfalso
          have h := this.2 rfl
          obtain ⟨g1, g2, g3, g4, g5, g6⟩ := h.1.2 rfl
          omega
      clear H9
      go_enter Tryz.func34, Tryz.ntmps34
      go_wp2_with (refine wpList_load_e (by rfl) _ rfl (W.heap.size + 1) rfl es (Has.new _ _ es (by simp)) HZ.out ?_)
      refine (HF.out _).mono ?_
      rintro r w1 ⟨rfl, hb1⟩
      obtain ⟨HS, HE, hbF⟩ := CELL.out w1 (by simpa using hb1)
      have s0 := HS.cell 0 c0
      have s4 := HS.cell 4 c4
      have s5 := HS.cell 5 c5
      have s6 := HS.cell 6 c6
      have s18 := HS.cell 18 c18
      have e1 := HE.cell 1 d1
      have e3 := HE.cell 3 d3
      have e4 := HE.cell 4 d4
      have e5 := HE.cell 5 d5
      have e6 := HE.cell 6 d6
      have e7 := HE.cell 7 d7
      have e8 := HE.cell 8 d8
      have e9 := HE.cell 9 d9
      have e10 := HE.cell 10 d10
      have z1 := HS.size
      have z2 := HE.size
      have HBF := Lib.hid hbF
      clear HS HE hb1 hbF c0 c4 c5 c6 c18 d1 d3 d4 d5 d6 d7 d8 d9 d10 HF CELL HZ H23 HO
      go_wp2
      go_ret
      refine ⟨?_, HBF.out⟩
      first
      | rfl
      | exact ret_bool (decide_eq_false (by omega))
      | exact ret_bool (decide_eq_true (by omega))
    · skip
      obtain rfl : b = false := by
        have this := H9.out
        cases b
        · rfl
        · exfalso
          have h := this.2 rfl
          obtain ⟨g1, g2, g3, g4, g5, g6⟩ := h.1.2 rfl
          omega
      clear H9
      go_enter Tryz.func34, Tryz.ntmps34
      go_wp2_with (refine wpList_load_e (by rfl) _ rfl (W.heap.size + 1) rfl es (Has.new _ _ es (by simp)) HZ.out ?_)
      refine (HF.out _).mono ?_
      rintro r w1 ⟨rfl, hb1⟩
      obtain ⟨HS, HE, hbF⟩ := CELL.out w1 (by simpa using hb1)
      have s0 := HS.cell 0 c0
      have s4 := HS.cell 4 c4
      have s5 := HS.cell 5 c5
      have s6 := HS.cell 6 c6
      have s18 := HS.cell 18 c18
      have e1 := HE.cell 1 d1
      have e3 := HE.cell 3 d3
      have e4 := HE.cell 4 d4
      have e5 := HE.cell 5 d5
      have e6 := HE.cell 6 d6
      have e7 := HE.cell 7 d7
      have e8 := HE.cell 8 d8
      have e9 := HE.cell 9 d9
      have e10 := HE.cell 10 d10
      have z1 := HS.size
      have z2 := HE.size
      have HBF := Lib.hid hbF
      clear HS HE hb1 hbF c0 c4 c5 c6 c18 d1 d3 d4 d5 d6 d7 d8 d9 d10 HF CELL HZ H23 HO
      go_wp2
      go_ret
      refine ⟨?_, HBF.out⟩
      first
      | rfl
      | exact ret_bool (decide_eq_false (by omega))
      | exact ret_bool (decide_eq_true (by omega))
    · skip
      obtain rfl : b = true := H9.out.1 (⟨⟨h1, fun _ => ⟨h3, h4, h5, h6, h7, h8⟩⟩, fun e => by omega⟩)
      clear H9
      go_enter Tryz.func34, Tryz.ntmps34
      go_wp2_with (refine wpList_load_e (by rfl) _ rfl (W.heap.size + 1) rfl es (Has.new _ _ es (by simp)) HZ.out ?_)
      refine (HF.out _).mono ?_
      rintro r w1 ⟨rfl, hb1⟩
      obtain ⟨HS, HE, hbF⟩ := CELL.out w1 (by simpa using hb1)
      have s0 := HS.cell 0 c0
      have s4 := HS.cell 4 c4
      have s5 := HS.cell 5 c5
      have s6 := HS.cell 6 c6
      have s18 := HS.cell 18 c18
      have e1 := HE.cell 1 d1
      have e3 := HE.cell 3 d3
      have e4 := HE.cell 4 d4
      have e5 := HE.cell 5 d5
      have e6 := HE.cell 6 d6
      have e7 := HE.cell 7 d7
      have e8 := HE.cell 8 d8
      have e9 := HE.cell 9 d9
      have e10 := HE.cell 10 d10
      have z1 := HS.size
      have z2 := HE.size
      have HBF := Lib.hid hbF
      clear HS HE hb1 hbF c0 c4 c5 c6 c18 d1 d3 d4 d5 d6 d7 d8 d9 d10 HF CELL HZ H23 HO
      go_wp2
      go_ret
      refine ⟨?_, HBF.out⟩
      first
      | rfl
      | exact ret_bool (decide_eq_false (by omega))
      | exact ret_bool (decide_eq_true (by omega))
end Go.Proofs.YtbijaaglmhoopaaGreat

namespace Go.Proofs.YtbijaaglmhoopaaGreat
set_option linter.unusedVariables false
set_option linter.unusedSimpArgs false

/-- How many events of a session come behind its first one, when it ends, and its flag. -/
def endP (top : Int) : List EvP → Nat × Int × Int
  | [] => (0, top, 1)
  | b :: r => if top < b.tm then (0, top, 1) else if b.kd = 1 then (0, b.tm, 2) else if b.kd = 2 then (0, b.tm, 0) else ((endP top r).1 + 1, (endP top r).2.1, (endP top r).2.2)
theorem endP_over {top : Int} {b : EvP} {r : List EvP} (h : top < b.tm) : endP top (b :: r) = (0, top, 1) := by unfold endP; rw [if_pos h]
theorem endP_in {top : Int} {b : EvP} {r : List EvP} (h : ¬ top < b.tm) (k : b.kd = 1) : endP top (b :: r) = (0, b.tm, 2) := by unfold endP; rw [if_neg h, if_pos k]
theorem endP_out {top : Int} {b : EvP} {r : List EvP} (h : ¬ top < b.tm) (k : b.kd = 2) : endP top (b :: r) = (0, b.tm, 0) := by unfold endP; rw [if_neg h, if_neg (by omega), if_pos k]
theorem endP_on {top : Int} {b : EvP} {r : List EvP} (h : ¬ top < b.tm) (k : ¬ b.kd = 1) (k2 : ¬ b.kd = 2) : endP top (b :: r) = ((endP top r).1 + 1, (endP top r).2.1, (endP top r).2.2) := by
  conv => lhs; unfold endP
  rw [if_neg h, if_neg k, if_neg k2]
theorem items_end (cap : Int) (e : EvP) : ∀ (r ins : List EvP), itemsS cap (some (e, ins)) r =
    .sess e (ins ++ r.take (endP (e.tm + cap) r).1) (endP (e.tm + cap) r).2.1 (endP (e.tm + cap) r).2.2 :: itemsS cap none (r.drop (if (endP (e.tm + cap) r).2.2 = 0 then (endP (e.tm + cap) r).1 + 1 else (endP (e.tm + cap) r).1))
  | [], ins => by simp [itemsS, closeS, endP]
  | b :: r, ins => by
    by_cases q : e.tm + cap < b.tm
    · rw [endP_over q]
      by_cases k : b.kd = 1 <;> simp [itemsS, stepS, q, k]
    · by_cases k : b.kd = 1
      · rw [endP_in q k]
        simp [itemsS, stepS, q, k]
      · by_cases k2 : b.kd = 2
        · rw [endP_out q k2]
          simp [itemsS, stepS, q, k2]
        · rw [endP_on q k k2]
          have ih := items_end cap e r (ins ++ [b])
          have e1 : itemsS cap (some (e, ins)) (b :: r) = itemsS cap (some (e, ins ++ [b])) r := by simp [itemsS, stepS, q, k, k2]
          rw [e1, ih]
          generalize (endP (e.tm + cap) r).2.2 = fl
          generalize (endP (e.tm + cap) r).2.1 = to
          generalize (endP (e.tm + cap) r).1 = m
          by_cases z : fl = 0
          · simp [z]
          · simp [z]
theorem endP_bd {top : Int} : ∀ (r : List EvP), (endP top r).1 ≤ r.length ∧ ((endP top r).2.2 = 0 → (endP top r).1 < r.length) ∧ ((endP top r).2.2 = 0 ∨ (endP top r).2.2 = 1 ∨ (endP top r).2.2 = 2)
  | [] => by simp [endP]
  | b :: r => by
    by_cases q : top < b.tm
    · rw [endP_over q]; simp
    · by_cases k : b.kd = 1
      · rw [endP_in q k]; simp
      · by_cases k2 : b.kd = 2
        · rw [endP_out q k2]; simp
        · rw [endP_on q k k2]
          obtain ⟨h1, h2, h3⟩ := endP_bd (top := top) r
          refine ⟨by simp; omega, fun h => by have := h2 h; simp; omega, h3⟩
/-- The part by one event of a session. -/
def segAt (first last : Int) (es : List EvP) (i : Nat) : List SegP :=
  segI (if i = 0 then first else placeP first last (es.getD i EvP.none)) (if i + 1 < es.length then placeP first last (es.getD (i + 1) EvP.none) else last) (es.getD i EvP.none)
theorem flat_congr {f g : Nat → List SegP} (l : List Nat) (h : ∀ i ∈ l, f i = g i) : l.flatMap f = l.flatMap g := by
  rw [List.flatMap_def, List.flatMap_def, List.map_congr_left h]
theorem parts_range_a {first last : Int} : ∀ (ins : List EvP) (a : Int) (e : EvP), partsG first last a e ins =
    (List.range (ins.length + 1)).flatMap fun i => segI (if i = 0 then a else placeP first last ((e :: ins).getD i EvP.none)) (if i + 1 < (e :: ins).length then placeP first last ((e :: ins).getD (i + 1) EvP.none) else last) ((e :: ins).getD i EvP.none)
  | [], a, e => by simp [partsG, List.range_succ]
  | f :: l, a, e => by
    show segI a (placeP first last f) e ++ partsG first last (placeP first last f) f l = _
    rw [parts_range_a l]
    conv => rhs; rw [show (f :: l).length + 1 = (l.length + 1) + 1 from rfl, List.range_succ_eq_map, List.flatMap_cons, List.flatMap_map]
    congr 1
    refine flat_congr _ fun i hi => ?_
    have e1 : (e :: f :: l).getD (i + 1) EvP.none = (f :: l).getD i EvP.none := rfl
    have e2 : (e :: f :: l).getD (i + 1 + 1) EvP.none = (f :: l).getD (i + 1) EvP.none := rfl
    simp only [Nat.succ_eq_add_one, e1, e2, List.length_cons, Nat.add_lt_add_iff_right]
    rw [if_neg (show ¬ i + 1 = 0 by omega)]
    by_cases h : i = 0
    · subst h
      rfl
    · rw [if_neg h]
theorem parts_range {first last : Int} (e : EvP) (ins : List EvP) : partsG first last first e ins = (List.range (ins.length + 1)).flatMap (segAt first last (e :: ins)) := parts_range_a ins first e
def partsN (first last : Int) (es : List EvP) (i : Nat) : List SegP := (List.range i).flatMap (segAt first last es)
theorem partsN_succ (first last : Int) (es : List EvP) (i : Nat) : partsN first last es (i + 1) = partsN first last es i ++ segAt first last es i := by
  unfold partsN
  rw [List.range_succ, List.flatMap_append]
  simp
theorem segI_len (a b : Int) (e : EvP) : (segI a b e).length ≤ 1 := by unfold segI; split <;> simp
theorem sparts_len {first last : Int} : ∀ (ins : List EvP) (a : Int) (e : EvP), (partsG first last a e ins).length ≤ ins.length + 1
  | [], a, e => segI_len _ _ _
  | f :: l, a, e => by
    have h1 := segI_len a (placeP first last f) e
    have h2 := sparts_len (first := first) (last := last) l (placeP first last f) f
    show (segI a (placeP first last f) e ++ _).length ≤ _
    rw [List.length_append, List.length_cons]
    omega
def stN : StP → Nat
  | none => 0
  | some (_, ins) => ins.length + 1
theorem segs_len (R : Int → Int) {cap : Int} : ∀ (L : List EvP) (st : StP), (segsS R (itemsS cap st L)).length ≤ L.length + stN st
  | [], none => by simp [itemsS, closeS, segsS]
  | [], some (e, ins) => by
    have := sparts_len (first := R e.tm) (last := R (e.tm + cap)) ins (R e.tm) e
    have e1 : segsS R (itemsS cap (some (e, ins)) []) = partsG (R e.tm) (R (e.tm + cap)) (R e.tm) e ins := by simp [itemsS, closeS, segsS, segsI]
    rw [e1]
    simp [stN]
    omega
  | b :: L, st => by
    have ih := segs_len R (cap := cap) L (stepS cap st b).2
    have e0 : itemsS cap st (b :: L) = (stepS cap st b).1 ++ itemsS cap (stepS cap st b).2 L := rfl
    rw [e0, segsS_append, List.length_append, List.length_cons]
    have hs : (segsS R (stepS cap st b).1).length + stN (stepS cap st b).2 ≤ 1 + stN st := by
      match st with
      | none => by_cases k : b.kd = 1 <;> simp [stepS, k, segsS, segsI, stN]
      | some (e, ins) =>
        have p1 := sparts_len (first := R e.tm) (last := R (e.tm + cap)) ins (R e.tm) e
        have p2 := sparts_len (first := R e.tm) (last := R b.tm) ins (R e.tm) e
        by_cases q : e.tm + cap < b.tm
        · by_cases k : b.kd = 1 <;> simp [stepS, k, q, segsS, segsI, stN] <;> omega
        · by_cases k : b.kd = 1
          · simp [stepS, k, q, segsS, segsI, stN]; omega
          · by_cases k2 : b.kd = 2
            · simp [stepS, k2, q, segsS, segsI, stN]; omega
            · simp [stepS, k, k2, q, segsS, segsI, stN]; omega
    omega
theorem flags_len {cap : Int} : ∀ (L : List EvP) (st : StP), (flagsS (itemsS cap st L)).length ≤ L.length + openN st
  | [], none => by simp [itemsS, closeS, flagsS]
  | [], some (e, ins) => by simp [itemsS, closeS, flagsS, flagsI, openN]
  | b :: L, st => by
    have ih := flags_len (cap := cap) L (stepS cap st b).2
    have e0 : itemsS cap st (b :: L) = (stepS cap st b).1 ++ itemsS cap (stepS cap st b).2 L := rfl
    rw [e0, flagsS_append, List.length_append, List.length_cons]
    have hs : (flagsS (stepS cap st b).1).length + openN (stepS cap st b).2 ≤ 1 + openN st := by
      match st with
      | none => by_cases k : b.kd = 1 <;> simp [stepS, k, flagsS, flagsI, openN]
      | some (e, ins) =>
        by_cases q : e.tm + cap < b.tm
        · by_cases k : b.kd = 1 <;> simp [stepS, k, q, flagsS, flagsI, openN]
        · by_cases k : b.kd = 1
          · simp [stepS, k, q, flagsS, flagsI, openN]
          · by_cases k2 : b.kd = 2
            · simp [stepS, k2, q, flagsS, flagsI, openN]
            · simp [stepS, k, k2, q, flagsS, flagsI, openN]
    omega
/-! ### Numbers -/
def segL (s : SegP) : List Int := [s.fr, s.to, s.kd, s.id, s.cd]
def flagL (f : FlagP) : List Int := [f.id, f.kd]
def spanOf (s : SegP) : Int × Int := (s.fr, s.to)
/-- The seconds of parts, and of those of one kind. -/
noncomputable def clockP (l : List SegP) : List (Int × Int) := canon (InS l)
theorem in_spans (l : List SegP) (t : Int) : In (l.map spanOf) t ↔ InS l t := by
  constructor
  · rintro ⟨s, hs, h1, h2⟩
    obtain ⟨x, hx, rfl⟩ := List.mem_map.1 hs
    exact ⟨x, hx, h1, h2⟩
  · rintro ⟨x, hx, h1, h2⟩
    exact ⟨spanOf x, List.mem_map.2 ⟨x, hx, rfl⟩, h1, h2⟩
theorem clock_spans (l : List SegP) : canon (In (l.map spanOf)) = clockP l := canon_congr fun t _ _ => in_spans l t
end Go.Proofs.YtbijaaglmhoopaaGreat
