/-
  event.Check: whether an event may be in a setup.
  Sessions: what a worker's events, gone through one by one, are made of: items, parts, flags. No program here.
-/
import Derived.Test.YtbijaaglmhoopaaZad
import Derived.Test.YtbijaaglmhoopaaZac
namespace Go.Proofs.Ytbijaaglmhoopaa
open Go.RowKit
set_option linter.unusedVariables false
set_option linter.unusedSimpArgs false
set_option maxRecDepth 20000

/-- What Check asks of a setup's cells. -/
structure SetS (cs : Array Value) (pl : Int) (nE nC nG nR : Nat) : Prop where
  size : cs.size = 23
  one : cs.all (·.oneCell') = true
  c0 : cs[0]? = some (.int .i64 pl)
  c4 : ∃ A c, cs[4]? = some (.slice A nE c)
  c5 : ∃ A c, cs[5]? = some (.slice A nC c)
  c6 : ∃ A c, cs[6]? = some (.slice A nG c)
  c18 : ∃ A c, cs[18]? = some (.slice A nR c)
/-- An event may be in a setup with so many of each. -/
def EvP.May (e : EvP) (pl : Int) (nE nC nG nR : Nat) : Prop :=
  e.Fair ∧ e.wk < nR ∧ (e.kd = 3 → e.fr < pl ∧ e.to < pl ∧ e.el < nE ∧ e.cl < nC ∧ e.ge < nG ∧ e.un ≤ 10000) ∧ (e.kd = 4 → e.cd ≤ 99)
instance (e : EvP) (pl : Int) (nE nC nG nR : Nat) : Decidable (e.May pl nE nC nG nR) := by unfold EvP.May; infer_instance
set_option maxHeartbeats 4000000 in
theorem echeck_any (cs : Array Value) (pl : Int) (nE nC nG nR : Nat) (hs : SetS cs pl nE nC nG nR) (e : EvP) (hi : e.In) (W : World) (b : Bool) (hb : decide (e.May pl nE nC nG nR) = b) :
    Calls Try.prog 18 #[.agg cs, .agg (evC e)] W fun r w' => r = .returned (.bool b) ∧ Below W.heap.size W w' := by
  obtain ⟨h23, hone, c0, ⟨A4, k4, c4⟩, ⟨A5, k5, c5⟩, ⟨A6, k6, c6⟩, ⟨A18, k18, c18⟩⟩ := hs
  have HF : Hid (∀ w, Calls Try.prog 34 #[.agg (evC e)] w fun r w' => r = .returned (.bool (decide e.Fair)) ∧ Below w.heap.size w w') := Lib.hid (fun w => fair_any e w hi)
  have hB : Hid (e.May pl nE nC nG nR ↔ b = true) := Lib.hid (by rw [← hb]; simp)
  obtain ⟨i, w, t, k, a, b1, c, d, g, j, m⟩ := e
  unfold EvP.May at hB
  simp only at hB
  have d1 : (evC ⟨i, w, t, k, a, b1, c, d, g, j, m⟩)[1]? = some (.int .i64 w) := rfl
  have d3 : (evC ⟨i, w, t, k, a, b1, c, d, g, j, m⟩)[3]? = some (.int .i64 k) := rfl
  have d4 : (evC ⟨i, w, t, k, a, b1, c, d, g, j, m⟩)[4]? = some (.int .i64 a) := rfl
  have d5 : (evC ⟨i, w, t, k, a, b1, c, d, g, j, m⟩)[5]? = some (.int .i64 b1) := rfl
  have d6 : (evC ⟨i, w, t, k, a, b1, c, d, g, j, m⟩)[6]? = some (.int .i64 c) := rfl
  have d7 : (evC ⟨i, w, t, k, a, b1, c, d, g, j, m⟩)[7]? = some (.int .i64 d) := rfl
  have d8 : (evC ⟨i, w, t, k, a, b1, c, d, g, j, m⟩)[8]? = some (.int .i64 g) := rfl
  have d9 : (evC ⟨i, w, t, k, a, b1, c, d, g, j, m⟩)[9]? = some (.int .i64 j) := rfl
  have d10 : (evC ⟨i, w, t, k, a, b1, c, d, g, j, m⟩)[10]? = some (.int .i64 m) := rfl
  have hz := evC_size ⟨i, w, t, k, a, b1, c, d, g, j, m⟩
  have ways : Hid (¬ (⟨i, w, t, k, a, b1, c, d, g, j, m⟩ : EvP).Fair ∨ (⟨i, w, t, k, a, b1, c, d, g, j, m⟩ : EvP).Fair) := Lib.hid (by by_cases h : (⟨i, w, t, k, a, b1, c, d, g, j, m⟩ : EvP).Fair; exact .inr h; exact .inl h)
  clear hi hb
  generalize hes : evC ⟨i, w, t, k, a, b1, c, d, g, j, m⟩ = es at *
  clear hes
  have HZ := Lib.hid hz
  have H23 := Lib.hid h23
  have HO := Lib.hid hone
  clear hz h23 hone
  have cell : ∀ (w1 : World), Below (W.heap.size + 1 + 1) ((W.alloc (.cells cs 30)).alloc (.cells es 39)) w1 → Has w1 W.heap.size cs ∧ Has w1 (W.heap.size + 1) es ∧ Below W.heap.size W w1 := fun w1 h => by
    have h' : Below ((W.alloc (.cells cs 30)).alloc (.cells es 39)).heap.size ((W.alloc (.cells cs 30)).alloc (.cells es 39)) w1 := by simpa using h
    exact ⟨((Has.new W _ cs rfl).alloc _).below h', (Has.new _ _ es (by simp)).below h', bel_on (bel_alloc (bel_alloc (Below.refl _ _) _) _) h'⟩
  have CELL := Lib.hid cell
  clear cell
  rcases ways.out with hf | hf
  · rw [decide_eq_false hf] at HF
    have hb : b = false := by
      have := hB.out
      cases b
      · rfl
      · exact absurd (this.2 rfl).1 hf
    subst hb
    clear hB ways hf
    go_enter Try.func18, Try.ntmps18
    go_wp2_with (refine wpList_load_e (by rfl) _ rfl (W.heap.size + 1) rfl es (Has.new _ _ es (by simp)) HZ.out ?_)
    refine (HF.out _).mono ?_
    rintro r w1 ⟨rfl, b1⟩
    go_wp2
    go_ret
    exact ⟨rfl, (CELL.out w1 (by simpa using b1)).2.2⟩
  · rw [decide_eq_true hf] at HF
    have ways2 : (nR : Int) ≤ w ∨ (w < nR ∧ k ≠ 3 ∧ k ≠ 4) ∨ (w < nR ∧ k = 4 ∧ m ≤ 99) ∨ (w < nR ∧ k = 4 ∧ 99 < m) ∨ (w < nR ∧ k = 3 ∧ pl ≤ a) ∨ (w < nR ∧ k = 3 ∧ a < pl ∧ pl ≤ b1) ∨ (w < nR ∧ k = 3 ∧ a < pl ∧ b1 < pl ∧ nE ≤ c) ∨
      (w < nR ∧ k = 3 ∧ a < pl ∧ b1 < pl ∧ c < nE ∧ nC ≤ g) ∨ (w < nR ∧ k = 3 ∧ a < pl ∧ b1 < pl ∧ c < nE ∧ g < nC ∧ nG ≤ j) ∨ (w < nR ∧ k = 3 ∧ a < pl ∧ b1 < pl ∧ c < nE ∧ g < nC ∧ j < nG ∧ 10000 < d) ∨ (w < nR ∧ k = 3 ∧ a < pl ∧ b1 < pl ∧ c < nE ∧ g < nC ∧ j < nG ∧ d ≤ 10000) := by
      by_cases q1 : (nR : Int) ≤ w
      · exact .inl q1
      have q1' : w < nR := by omega
      by_cases q2 : k = 3
      · by_cases q3 : a < pl
        · by_cases q4 : b1 < pl
          · by_cases q5 : c < nE
            · by_cases q6 : g < nC
              · by_cases q7 : j < nG
                · by_cases q8 : d ≤ 10000
                  · exact .inr (.inr (.inr (.inr (.inr (.inr (.inr (.inr (.inr (.inr ⟨q1', q2, q3, q4, q5, q6, q7, q8⟩)))))))))
                  · exact .inr (.inr (.inr (.inr (.inr (.inr (.inr (.inr (.inr (.inl ⟨q1', q2, q3, q4, q5, q6, q7, by omega⟩)))))))))
                · exact .inr (.inr (.inr (.inr (.inr (.inr (.inr (.inr (.inl ⟨q1', q2, q3, q4, q5, q6, by omega⟩))))))))
              · exact .inr (.inr (.inr (.inr (.inr (.inr (.inr (.inl ⟨q1', q2, q3, q4, q5, by omega⟩)))))))
            · exact .inr (.inr (.inr (.inr (.inr (.inr (.inl ⟨q1', q2, q3, q4, by omega⟩))))))
          · exact .inr (.inr (.inr (.inr (.inr (.inl ⟨q1', q2, q3, by omega⟩)))))
        · exact .inr (.inr (.inr (.inr (.inl ⟨q1', q2, by omega⟩))))
      · by_cases q3 : k = 4
        · by_cases q4 : m ≤ 99
          · exact .inr (.inr (.inl ⟨q1', q3, q4⟩))
          · exact .inr (.inr (.inr (.inl ⟨q1', q3, by omega⟩)))
        · exact .inr (.inl ⟨q1', q2, q3⟩)
    have H9 : Hid (((w < nR ∧ (k = 3 → a < pl ∧ b1 < pl ∧ c < nE ∧ g < nC ∧ j < nG ∧ d ≤ 10000)) ∧ (k = 4 → m ≤ 99)) ↔ b = true) := Lib.hid ⟨fun h => hB.out.1 ⟨hf, h.1.1, h.1.2, h.2⟩, fun h => ⟨⟨(hB.out.2 h).2.1, (hB.out.2 h).2.2.1⟩, (hB.out.2 h).2.2.2⟩⟩
    clear hB hf ways
    rcases ways2 with h1 | ⟨h1, h2, h3⟩ | ⟨h1, rfl, h3⟩ | ⟨h1, rfl, h3⟩ | ⟨h1, rfl, h3⟩ | ⟨h1, rfl, h3, h4⟩ | ⟨h1, rfl, h3, h4, h5⟩ | ⟨h1, rfl, h3, h4, h5, h6⟩ | ⟨h1, rfl, h3, h4, h5, h6, h7⟩ | ⟨h1, rfl, h3, h4, h5, h6, h7, h8⟩ | ⟨h1, rfl, h3, h4, h5, h6, h7, h8⟩
    · skip
      obtain rfl : b = false := by
        have this := H9.out
        cases b
        · rfl
        · exfalso
          have h := this.2 rfl
          have := h.1.1
          omega
      clear H9
      go_enter Try.func18, Try.ntmps18
      go_wp2_with (refine wpList_load_e (by rfl) _ rfl (W.heap.size + 1) rfl es (Has.new _ _ es (by simp)) HZ.out ?_)
      refine (HF.out _).mono ?_
      rintro r w1 ⟨rfl, hb1⟩
      obtain ⟨HS, HE, hbF⟩ := CELL.out w1 (by simpa using hb1)
      have s0 := HS.cell 0 c0
      have s4 := HS.cell 4 c4
      have s5 := HS.cell 5 c5
      have s6 := HS.cell 6 c6
      have s18 := HS.cell 18 c18
      have e1 := HE.cell 1 d1
      have e3 := HE.cell 3 d3
      have e4 := HE.cell 4 d4
      have e5 := HE.cell 5 d5
      have e6 := HE.cell 6 d6
      have e7 := HE.cell 7 d7
      have e8 := HE.cell 8 d8
      have e9 := HE.cell 9 d9
      have e10 := HE.cell 10 d10
      have z1 := HS.size
      have z2 := HE.size
      have HBF := Lib.hid hbF
      clear HS HE hb1 hbF c0 c4 c5 c6 c18 d1 d3 d4 d5 d6 d7 d8 d9 d10 HF CELL HZ H23 HO
      go_wp2
      go_ret
      refine ⟨?_, HBF.out⟩
      first
      | rfl
      | exact ret_bool (decide_eq_false (by omega))
      | exact ret_bool (decide_eq_true (by omega))
    · skip
      obtain rfl : b = true := H9.out.1 (⟨⟨h1, fun e => absurd e h2⟩, fun e => absurd e h3⟩)
      clear H9
      go_enter Try.func18, Try.ntmps18
      go_wp2_with (refine wpList_load_e (by rfl) _ rfl (W.heap.size + 1) rfl es (Has.new _ _ es (by simp)) HZ.out ?_)
      refine (HF.out _).mono ?_
      rintro r w1 ⟨rfl, hb1⟩
      obtain ⟨HS, HE, hbF⟩ := CELL.out w1 (by simpa using hb1)
      have s0 := HS.cell 0 c0
      have s4 := HS.cell 4 c4
      have s5 := HS.cell 5 c5
      have s6 := HS.cell 6 c6
      have s18 := HS.cell 18 c18
      have e1 := HE.cell 1 d1
      have e3 := HE.cell 3 d3
      have e4 := HE.cell 4 d4
      have e5 := HE.cell 5 d5
      have e6 := HE.cell 6 d6
      have e7 := HE.cell 7 d7
      have e8 := HE.cell 8 d8
      have e9 := HE.cell 9 d9
      have e10 := HE.cell 10 d10
      have z1 := HS.size
      have z2 := HE.size
      have HBF := Lib.hid hbF
      clear HS HE hb1 hbF c0 c4 c5 c6 c18 d1 d3 d4 d5 d6 d7 d8 d9 d10 HF CELL HZ H23 HO
      go_wp2
      go_ret
      refine ⟨?_, HBF.out⟩
      first
      | rfl
      | exact ret_bool (decide_eq_false (by omega))
      | exact ret_bool (decide_eq_true (by omega))
    · skip
      obtain rfl : b = true := H9.out.1 (⟨⟨h1, fun e => by omega⟩, fun _ => h3⟩)
      clear H9
      go_enter Try.func18, Try.ntmps18
      go_wp2_with (refine wpList_load_e (by rfl) _ rfl (W.heap.size + 1) rfl es (Has.new _ _ es (by simp)) HZ.out ?_)
      refine (HF.out _).mono ?_
      rintro r w1 ⟨rfl, hb1⟩
      obtain ⟨HS, HE, hbF⟩ := CELL.out w1 (by simpa using hb1)
      have s0 := HS.cell 0 c0
      have s4 := HS.cell 4 c4
      have s5 := HS.cell 5 c5
      have s6 := HS.cell 6 c6
      have s18 := HS.cell 18 c18
      have e1 := HE.cell 1 d1
      have e3 := HE.cell 3 d3
      have e4 := HE.cell 4 d4
      have e5 := HE.cell 5 d5
      have e6 := HE.cell 6 d6
      have e7 := HE.cell 7 d7
      have e8 := HE.cell 8 d8
      have e9 := HE.cell 9 d9
      have e10 := HE.cell 10 d10
      have z1 := HS.size
      have z2 := HE.size
      have HBF := Lib.hid hbF
      clear HS HE hb1 hbF c0 c4 c5 c6 c18 d1 d3 d4 d5 d6 d7 d8 d9 d10 HF CELL HZ H23 HO
      go_wp2
      go_ret
      refine ⟨?_, HBF.out⟩
      first
      | rfl
      | exact ret_bool (decide_eq_false (by omega))
      | exact ret_bool (decide_eq_true (by omega))
    · skip
      obtain rfl : b = false := by
        have this := H9.out
        cases b
        · rfl
        · exfalso
          have h := this.2 rfl
          have := h.2 rfl
          omega
      clear H9
      go_enter Try.func18, Try.ntmps18
      go_wp2_with (refine wpList_load_e (by rfl) _ rfl (W.heap.size + 1) rfl es (Has.new _ _ es (by simp)) HZ.out ?_)
      refine (HF.out _).mono ?_
      rintro r w1 ⟨rfl, hb1⟩
      obtain ⟨HS, HE, hbF⟩ := CELL.out w1 (by simpa using hb1)
      have s0 := HS.cell 0 c0
      have s4 := HS.cell 4 c4
      have s5 := HS.cell 5 c5
      have s6 := HS.cell 6 c6
      have s18 := HS.cell 18 c18
      have e1 := HE.cell 1 d1
      have e3 := HE.cell 3 d3
      have e4 := HE.cell 4 d4
      have e5 := HE.cell 5 d5
      have e6 := HE.cell 6 d6
      have e7 := HE.cell 7 d7
      have e8 := HE.cell 8 d8
      have e9 := HE.cell 9 d9
      have e10 := HE.cell 10 d10
      have z1 := HS.size
      have z2 := HE.size
      have HBF := Lib.hid hbF
      clear HS HE hb1 hbF c0 c4 c5 c6 c18 d1 d3 d4 d5 d6 d7 d8 d9 d10 HF CELL HZ H23 HO
      go_wp2
      go_ret
      refine ⟨?_, HBF.out⟩
      first
      | rfl
      | exact ret_bool (decide_eq_false (by omega))
      | exact ret_bool (decide_eq_true (by omega))
    · skip
      obtain rfl : b = false := by
        have this := H9.out
        cases b
        · rfl
        · exfalso
          have h := this.2 rfl
          obtain ⟨g1, g2, g3, g4, g5, g6⟩ := h.1.2 rfl
          omega
      clear H9
      go_enter Try.func18, Try.ntmps18
      go_wp2_with (refine wpList_load_e (by rfl) _ rfl (W.heap.size + 1) rfl es (Has.new _ _ es (by simp)) HZ.out ?_)
      refine (HF.out _).mono ?_
      rintro r w1 ⟨rfl, hb1⟩
      obtain ⟨HS, HE, hbF⟩ := CELL.out w1 (by simpa using hb1)
      have s0 := HS.cell 0 c0
      have s4 := HS.cell 4 c4
      have s5 := HS.cell 5 c5
      have s6 := HS.cell 6 c6
      have s18 := HS.cell 18 c18
      have e1 := HE.cell 1 d1
      have e3 := HE.cell 3 d3
      have e4 := HE.cell 4 d4
      have e5 := HE.cell 5 d5
      have e6 := HE.cell 6 d6
      have e7 := HE.cell 7 d7
      have e8 := HE.cell 8 d8
      have e9 := HE.cell 9 d9
      have e10 := HE.cell 10 d10
      have z1 := HS.size
      have z2 := HE.size
      have HBF := Lib.hid hbF
      clear HS HE hb1 hbF c0 c4 c5 c6 c18 d1 d3 d4 d5 d6 d7 d8 d9 d10 HF CELL HZ H23 HO
      go_wp2
      go_ret
      refine ⟨?_, HBF.out⟩
      first
      | rfl
      | exact ret_bool (decide_eq_false (by omega))
      | exact ret_bool (decide_eq_true (by omega))
    · skip
      obtain rfl : b = false := by
        have this := H9.out
        cases b
        · rfl
        · exfalso
          have h := this.2 rfl
          obtain ⟨g1, g2, g3, g4, g5, g6⟩ := h.1.2 rfl
          omega
      clear H9
      go_enter Try.func18, Try.ntmps18
      go_wp2_with (refine wpList_load_e (by rfl) _ rfl (W.heap.size + 1) rfl es (Has.new _ _ es (by simp)) HZ.out ?_)
      refine (HF.out _).mono ?_
      rintro r w1 ⟨rfl, hb1⟩
      obtain ⟨HS, HE, hbF⟩ := CELL.out w1 (by simpa using hb1)
      have s0 := HS.cell 0 c0
      have s4 := HS.cell 4 c4
      have s5 := HS.cell 5 c5
      have s6 := HS.cell 6 c6
      have s18 := HS.cell 18 c18
      have e1 := HE.cell 1 d1
      have e3 := HE.cell 3 d3
      have e4 := HE.cell 4 d4
      have e5 := HE.cell 5 d5
      have e6 := HE.cell 6 d6
      have e7 := HE.cell 7 d7
      have e8 := HE.cell 8 d8
      have e9 := HE.cell 9 d9
      have e10 := HE.cell 10 d10
      have z1 := HS.size
      have z2 := HE.size
      have HBF := Lib.hid hbF
      clear HS HE hb1 hbF c0 c4 c5 c6 c18 d1 d3 d4 d5 d6 d7 d8 d9 d10 HF CELL HZ H23 HO
      go_wp2
      go_ret
      refine ⟨?_, HBF.out⟩
      first
      | rfl
      | exact ret_bool (decide_eq_false (by omega))
      | exact ret_bool (decide_eq_true (by omega))
    · skip
      obtain rfl : b = false := by
        have this := H9.out
        cases b
        · rfl
        · exfalso
          have h := this.2 rfl
          obtain ⟨g1, g2, g3, g4, g5, g6⟩ := h.1.2 rfl
          omega
      clear H9
      go_enter Try.func18, Try.ntmps18
      go_wp2_with (refine wpList_load_e (by rfl) _ rfl (W.heap.size + 1) rfl es (Has.new _ _ es (by simp)) HZ.out ?_)
      refine (HF.out _).mono ?_
      rintro r w1 ⟨rfl, hb1⟩
      obtain ⟨HS, HE, hbF⟩ := CELL.out w1 (by simpa using hb1)
      have s0 := HS.cell 0 c0
      have s4 := HS.cell 4 c4
      have s5 := HS.cell 5 c5
      have s6 := HS.cell 6 c6
      have s18 := HS.cell 18 c18
      have e1 := HE.cell 1 d1
      have e3 := HE.cell 3 d3
      have e4 := HE.cell 4 d4
      have e5 := HE.cell 5 d5
      have e6 := HE.cell 6 d6
      have e7 := HE.cell 7 d7
      have e8 := HE.cell 8 d8
      have e9 := HE.cell 9 d9
      have e10 := HE.cell 10 d10
      have z1 := HS.size
      have z2 := HE.size
      have HBF := Lib.hid hbF
      clear HS HE hb1 hbF c0 c4 c5 c6 c18 d1 d3 d4 d5 d6 d7 d8 d9 d10 HF CELL HZ H23 HO
      go_wp2
      go_ret
      refine ⟨?_, HBF.out⟩
      first
      | rfl
      | exact ret_bool (decide_eq_false (by omega))
      | exact ret_bool (decide_eq_true (by omega))
    · skip
      obtain rfl : b = false := by
        have this := H9.out
        cases b
        · rfl
        · exfalso
          have h := this.2 rfl
          obtain ⟨g1, g2, g3, g4, g5, g6⟩ := h.1.2 rfl
          omega
      clear H9
      go_enter Try.func18, Try.ntmps18
      go_wp2_with (refine wpList_load_e (by rfl) _ rfl (W.heap.size + 1) rfl es (Has.new _ _ es (by simp)) HZ.out ?_)
      refine (HF.out _).mono ?_
      rintro r w1 ⟨rfl, hb1⟩
      obtain ⟨HS, HE, hbF⟩ := CELL.out w1 (by simpa using hb1)
      have s0 := HS.cell 0 c0
      have s4 := HS.cell 4 c4
      have s5 := HS.cell 5 c5
      have s6 := HS.cell 6 c6
      have s18 := HS.cell 18 c18
      have e1 := HE.cell 1 d1
      have e3 := HE.cell 3 d3
      have e4 := HE.cell 4 d4
      have e5 := HE.cell 5 d5
      have e6 := HE.cell 6 d6
      have e7 := HE.cell 7 d7
      have e8 := HE.cell 8 d8
      have e9 := HE.cell 9 d9
      have e10 := HE.cell 10 d10
      have z1 := HS.size
      have z2 := HE.size
      have HBF := Lib.hid hbF
      clear HS HE hb1 hbF c0 c4 c5 c6 c18 d1 d3 d4 d5 d6 d7 d8 d9 d10 HF CELL HZ H23 HO
      go_wp2
      go_ret
      refine ⟨?_, HBF.out⟩
      first
      | rfl
      | exact ret_bool (decide_eq_false (by omega))
      | exact ret_bool (decide_eq_true (by omega))
    · skip
      obtain rfl : b = false := by
        have this := H9.out
        cases b
        · rfl
        · exfalso
          have h := this.2 rfl
          obtain ⟨g1, g2, g3, g4, g5, g6⟩ := h.1.2 rfl
          omega
      clear H9
      go_enter Try.func18, Try.ntmps18
      go_wp2_with (refine wpList_load_e (by rfl) _ rfl (W.heap.size + 1) rfl es (Has.new _ _ es (by simp)) HZ.out ?_)
      refine (HF.out _).mono ?_
      rintro r w1 ⟨rfl, hb1⟩
      obtain ⟨HS, HE, hbF⟩ := CELL.out w1 (by simpa using hb1)
      have s0 := HS.cell 0 c0
      have s4 := HS.cell 4 c4
      have s5 := HS.cell 5 c5
      have s6 := HS.cell 6 c6
      have s18 := HS.cell 18 c18
      have e1 := HE.cell 1 d1
      have e3 := HE.cell 3 d3
      have e4 := HE.cell 4 d4
      have e5 := HE.cell 5 d5
      have e6 := HE.cell 6 d6
      have e7 := HE.cell 7 d7
      have e8 := HE.cell 8 d8
      have e9 := HE.cell 9 d9
      have e10 := HE.cell 10 d10
      have z1 := HS.size
      have z2 := HE.size
      have HBF := Lib.hid hbF
      clear HS HE hb1 hbF c0 c4 c5 c6 c18 d1 d3 d4 d5 d6 d7 d8 d9 d10 HF CELL HZ H23 HO
      go_wp2
      go_ret
      refine ⟨?_, HBF.out⟩
      first
      | rfl
      | exact ret_bool (decide_eq_false (by omega))
      | exact ret_bool (decide_eq_true (by omega))
    · skip
      obtain rfl : b = false := by
        have this := H9.out
        cases b
        · rfl
        · exfalso
          have h := this.2 rfl
          obtain ⟨g1, g2, g3, g4, g5, g6⟩ := h.1.2 rfl
          omega
      clear H9
      go_enter Try.func18, Try.ntmps18
      go_wp2_with (refine wpList_load_e (by rfl) _ rfl (W.heap.size + 1) rfl es (Has.new _ _ es (by simp)) HZ.out ?_)
      refine (HF.out _).mono ?_
      rintro r w1 ⟨rfl, hb1⟩
      obtain ⟨HS, HE, hbF⟩ := CELL.out w1 (by simpa using hb1)
      have s0 := HS.cell 0 c0
      have s4 := HS.cell 4 c4
      have s5 := HS.cell 5 c5
      have s6 := HS.cell 6 c6
      have s18 := HS.cell 18 c18
      have e1 := HE.cell 1 d1
      have e3 := HE.cell 3 d3
      have e4 := HE.cell 4 d4
      have e5 := HE.cell 5 d5
      have e6 := HE.cell 6 d6
      have e7 := HE.cell 7 d7
      have e8 := HE.cell 8 d8
      have e9 := HE.cell 9 d9
      have e10 := HE.cell 10 d10
      have z1 := HS.size
      have z2 := HE.size
      have HBF := Lib.hid hbF
      clear HS HE hb1 hbF c0 c4 c5 c6 c18 d1 d3 d4 d5 d6 d7 d8 d9 d10 HF CELL HZ H23 HO
      go_wp2
      go_ret
      refine ⟨?_, HBF.out⟩
      first
      | rfl
      | exact ret_bool (decide_eq_false (by omega))
      | exact ret_bool (decide_eq_true (by omega))
    · skip
      obtain rfl : b = true := H9.out.1 (⟨⟨h1, fun _ => ⟨h3, h4, h5, h6, h7, h8⟩⟩, fun e => by omega⟩)
      clear H9
      go_enter Try.func18, Try.ntmps18
      go_wp2_with (refine wpList_load_e (by rfl) _ rfl (W.heap.size + 1) rfl es (Has.new _ _ es (by simp)) HZ.out ?_)
      refine (HF.out _).mono ?_
      rintro r w1 ⟨rfl, hb1⟩
      obtain ⟨HS, HE, hbF⟩ := CELL.out w1 (by simpa using hb1)
      have s0 := HS.cell 0 c0
      have s4 := HS.cell 4 c4
      have s5 := HS.cell 5 c5
      have s6 := HS.cell 6 c6
      have s18 := HS.cell 18 c18
      have e1 := HE.cell 1 d1
      have e3 := HE.cell 3 d3
      have e4 := HE.cell 4 d4
      have e5 := HE.cell 5 d5
      have e6 := HE.cell 6 d6
      have e7 := HE.cell 7 d7
      have e8 := HE.cell 8 d8
      have e9 := HE.cell 9 d9
      have e10 := HE.cell 10 d10
      have z1 := HS.size
      have z2 := HE.size
      have HBF := Lib.hid hbF
      clear HS HE hb1 hbF c0 c4 c5 c6 c18 d1 d3 d4 d5 d6 d7 d8 d9 d10 HF CELL HZ H23 HO
      go_wp2
      go_ret
      refine ⟨?_, HBF.out⟩
      first
      | rfl
      | exact ret_bool (decide_eq_false (by omega))
      | exact ret_bool (decide_eq_true (by omega))
end Go.Proofs.Ytbijaaglmhoopaa

namespace Go.Proofs.Ytbijaaglmhoopaa
set_option linter.unusedVariables false
set_option linter.unusedSimpArgs false

structure SegP where
  fr : Int
  to : Int
  kd : Int
  id : Int
  cd : Int
  deriving DecidableEq
structure FlagP where
  id : Int
  kd : Int
  deriving DecidableEq
/-- What comes up, in order: an event outside, and a session, with the time at which it ends, and its flag (0: none). -/
inductive ItemP
  | out (e : EvP)
  | sess (e : EvP) (ins : List EvP) (to fl : Int)
/-- Outside, or in a session: the event that began it, and those of it. -/
abbrev StP := Option (EvP × List EvP)
def stepS (cap : Int) : StP → EvP → List ItemP × StP
  | none, b => if b.kd = 1 then ([], some (b, [])) else ([.out b], none)
  | some (e, ins), b =>
    if e.tm + cap < b.tm then (if b.kd = 1 then ([.sess e ins (e.tm + cap) 1], some (b, [])) else ([.sess e ins (e.tm + cap) 1, .out b], none))
    else if b.kd = 1 then ([.sess e ins b.tm 2], some (b, []))
    else if b.kd = 2 then ([.sess e ins b.tm 0], none)
    else ([], some (e, ins ++ [b]))
def closeS (cap : Int) : StP → List ItemP
  | none => []
  | some (e, ins) => [.sess e ins (e.tm + cap) 1]
def itemsS (cap : Int) : StP → List EvP → List ItemP
  | st, [] => closeS cap st
  | st, b :: l => (stepS cap st b).1 ++ itemsS cap (stepS cap st b).2 l
/-- What has come up behind some events, and where one stands then. -/
def runE (cap : Int) : StP → List EvP → List ItemP
  | _, [] => []
  | st, b :: l => (stepS cap st b).1 ++ runE cap (stepS cap st b).2 l
def runT (cap : Int) : StP → List EvP → StP
  | st, [] => st
  | st, b :: l => runT cap (stepS cap st b).2 l
theorem items_append (cap : Int) : ∀ (A X : List EvP) (st : StP), itemsS cap st (A ++ X) = runE cap st A ++ itemsS cap (runT cap st A) X
  | [], X, st => rfl
  | b :: A, X, st => by
    show (stepS cap st b).1 ++ itemsS cap (stepS cap st b).2 (A ++ X) = ((stepS cap st b).1 ++ runE cap (stepS cap st b).2 A) ++ _
    rw [items_append cap A X, List.append_assoc]
    rfl
theorem items_run (cap : Int) (st : StP) (A : List EvP) : itemsS cap st A = runE cap st A ++ closeS cap (runT cap st A) := by
  have := items_append cap A [] st
  rw [List.append_nil] at this
  exact this
theorem runE_snoc (cap : Int) (b : EvP) : ∀ (A : List EvP) (st : StP), runE cap st (A ++ [b]) = runE cap st A ++ (stepS cap (runT cap st A) b).1
  | [], st => by show (stepS cap st b).1 ++ [] = [] ++ (stepS cap st b).1; simp
  | c :: A, st => by
    show (stepS cap st c).1 ++ runE cap _ (A ++ [b]) = ((stepS cap st c).1 ++ runE cap _ A) ++ _
    rw [runE_snoc cap b A, List.append_assoc]
    rfl
theorem runT_snoc (cap : Int) (b : EvP) : ∀ (A : List EvP) (st : StP), runT cap st (A ++ [b]) = (stepS cap (runT cap st A) b).2
  | [], st => rfl
  | c :: A, st => runT_snoc cap b A _
/-- A session whose cap is behind it at all events that come. -/
theorem items_stale (cap : Int) (e : EvP) (ins : List EvP) (X : List EvP) (h : ∀ b ∈ X, e.tm + cap < b.tm) : itemsS cap (some (e, ins)) X = .sess e ins (e.tm + cap) 1 :: itemsS cap none X := by
  cases X with
  | nil => rfl
  | cons b l =>
    have hb := h b (by simp)
    by_cases k : b.kd = 1
    · simp [itemsS, stepS, hb, k]
    · simp [itemsS, stepS, hb, k]

/-! ### Sessions rise -/
def ItemsUp (cap : Int) : Int → List ItemP → Prop
  | _, [] => True
  | lo, .out e :: r => e.kd ≠ 1 ∧ ItemsUp cap lo r
  | lo, .sess e ins to fl :: r => (lo ≤ e.tm ∧ e.tm ≤ to ∧ to ≤ e.tm + cap) ∧ e.kd = 1 ∧ (∀ x ∈ ins, e.tm ≤ x.tm ∧ x.tm ≤ to ∧ x.kd ≠ 1 ∧ x.kd ≠ 2) ∧ ins.Pairwise (fun a b => a.tm ≤ b.tm) ∧ (fl = 0 ∨ fl = 1 ∨ fl = 2) ∧ ItemsUp cap to r
def StUp (cap lo t : Int) : StP → Prop
  | none => lo ≤ t
  | some (e, ins) => lo ≤ e.tm ∧ e.kd = 1 ∧ e.tm ≤ t ∧ (∀ x ∈ ins, e.tm ≤ x.tm ∧ x.tm ≤ t ∧ x.tm ≤ e.tm + cap ∧ x.kd ≠ 1 ∧ x.kd ≠ 2) ∧ ins.Pairwise (fun a b => a.tm ≤ b.tm)
theorem items_up {cap : Int} (hc : 0 ≤ cap) : ∀ (L : List EvP) (st : StP) (lo t : Int), StUp cap lo t st → (∀ b ∈ L, t ≤ b.tm) → L.Pairwise (fun a b => a.tm ≤ b.tm) → ItemsUp cap lo (itemsS cap st L)
  | [], none, lo, t, _, _, _ => trivial
  | [], some (e, ins), lo, t, ⟨h1, h2, h3, h4, h5⟩, _, _ => by
    show ItemsUp cap lo [.sess e ins (e.tm + cap) 1]
    exact ⟨⟨h1, by omega, by omega⟩, h2, fun x hx => by have := h4 x hx; omega, h5, by omega, trivial⟩
  | b :: L, st, lo, t, hst, hL, hs => by
    have hb := hL b (by simp)
    rw [List.pairwise_cons] at hs
    have ih := fun st lo h => items_up hc L st lo b.tm h hs.1 hs.2
    have hnone : ∀ lo, lo ≤ b.tm → ItemsUp cap lo (itemsS cap none (b :: L)) := by
      intro lo hlo
      by_cases k : b.kd = 1
      · simp only [itemsS, stepS, if_pos k, List.nil_append]
        exact ih _ _ ⟨hlo, k, Int.le_refl _, by simp, by simp⟩
      · simp only [itemsS, stepS, if_neg k, List.cons_append, List.nil_append]
        exact ⟨k, ih none lo hlo⟩
    match st, hst with
    | none, hst => exact hnone lo (by have : lo ≤ t := hst; omega)
    | some (e, ins), ⟨h1, h2, h3, h4, h5⟩ =>
      by_cases q : e.tm + cap < b.tm
      · have e1 : itemsS cap (some (e, ins)) (b :: L) = .sess e ins (e.tm + cap) 1 :: itemsS cap none (b :: L) :=
          items_stale cap e ins (b :: L) fun c hc' => by
            rcases List.mem_cons.1 hc' with rfl | hc'
            · exact q
            · have := hs.1 c hc'; omega
        rw [e1]
        exact ⟨⟨h1, by omega, by omega⟩, h2, fun x hx => by have := h4 x hx; omega, h5, by omega, hnone _ (by omega)⟩
      · by_cases k : b.kd = 1
        · simp only [itemsS, stepS, if_neg q, if_pos k, List.cons_append, List.nil_append]
          exact ⟨⟨h1, by omega, by omega⟩, h2, fun x hx => by have := h4 x hx; omega, h5, by omega, ih _ _ ⟨Int.le_refl _, k, Int.le_refl _, by simp, by simp⟩⟩
        · by_cases k2 : b.kd = 2
          · simp only [itemsS, stepS, if_neg q, if_neg k, if_pos k2, List.cons_append, List.nil_append]
            exact ⟨⟨h1, by omega, by omega⟩, h2, fun x hx => by have := h4 x hx; omega, h5, by omega, ih none b.tm (Int.le_refl b.tm)⟩
          · simp only [itemsS, stepS, if_neg q, if_neg k, if_neg k2, List.nil_append]
            refine ih _ _ ⟨h1, h2, by omega, fun x hx => ?_, ?_⟩
            · rcases List.mem_append.1 hx with hx | hx
              · have := h4 x hx; omega
              · rw [List.mem_singleton.1 hx]; exact ⟨by omega, by omega, by omega, k, k2⟩
            · rw [List.pairwise_append]
              refine ⟨h5, by simp, fun x hx y hy => ?_⟩
              rw [List.mem_singleton.1 hy]
              have := h4 x hx
              omega

/-! ### Parts -/
def kindP (k : Int) : Int := if k = 3 then 1 else if k = 4 then 2 else if k = 5 then 3 else 0
def placeP (first last : Int) (e : EvP) : Int := max first (min e.tm last)
def segI (a b : Int) (e : EvP) : List SegP := if a < b then [⟨a, b, kindP e.kd, e.id, e.cd⟩] else []
def partsG (first last : Int) : Int → EvP → List EvP → List SegP
  | a, e, [] => segI a last e
  | a, e, f :: l => segI a (placeP first last f) e ++ partsG first last (placeP first last f) f l
def segsI (R : Int → Int) : ItemP → List SegP
  | .out _ => []
  | .sess e ins to _ => partsG (R e.tm) (R to) (R e.tm) e ins
def flagsI : ItemP → List FlagP
  | .out e => [⟨e.id, 3⟩]
  | .sess e _ _ fl => if fl = 0 then [] else [⟨e.id, fl⟩]
def segsS (R : Int → Int) (l : List ItemP) : List SegP := l.flatMap (segsI R)
def flagsS (l : List ItemP) : List FlagP := l.flatMap flagsI
theorem segsS_append (R : Int → Int) (l m : List ItemP) : segsS R (l ++ m) = segsS R l ++ segsS R m := by simp [segsS]
theorem segsS_cons (R : Int → Int) (x : ItemP) (m : List ItemP) : segsS R (x :: m) = segsI R x ++ segsS R m := by simp [segsS]
theorem flagsS_append (l m : List ItemP) : flagsS (l ++ m) = flagsS l ++ flagsS m := by simp [flagsS]
theorem flagsS_cons (x : ItemP) (m : List ItemP) : flagsS (x :: m) = flagsI x ++ flagsS m := by simp [flagsS]
theorem segI_mem {a b : Int} {e : EvP} {s : SegP} (h : s ∈ segI a b e) : s = ⟨a, b, kindP e.kd, e.id, e.cd⟩ ∧ a < b := by
  unfold segI at h
  split at h
  · exact ⟨List.mem_singleton.1 h, by assumption⟩
  · cases h
/-- Parts lie within what is told. -/
theorem parts_win {first last : Int} : ∀ (ins : List EvP) (a : Int) (e : EvP), first ≤ a → ∀ s ∈ partsG first last a e ins, first ≤ s.fr ∧ s.fr < s.to ∧ s.to ≤ last
  | [], a, e, h, s, hs => by
    obtain ⟨rfl, q⟩ := segI_mem hs
    exact ⟨h, q, Int.le_refl _⟩
  | f :: l, a, e, h, s, hs => by
    rcases List.mem_append.1 hs with hs | hs
    · obtain ⟨rfl, q⟩ := segI_mem hs
      refine ⟨h, q, ?_⟩
      unfold placeP at q ⊢
      simp only
      omega
    · exact parts_win l _ f (by unfold placeP; omega) s hs
/-- Each part is of an event of the session. -/
theorem parts_of {first last : Int} : ∀ (ins : List EvP) (a : Int) (e : EvP), ∀ s ∈ partsG first last a e ins, ∃ x, (x = e ∨ x ∈ ins) ∧ s.id = x.id ∧ s.kd = kindP x.kd ∧ s.cd = x.cd
  | [], a, e, s, hs => by
    obtain ⟨rfl, _⟩ := segI_mem hs
    exact ⟨e, .inl rfl, rfl, rfl, rfl⟩
  | f :: l, a, e, s, hs => by
    rcases List.mem_append.1 hs with hs | hs
    · obtain ⟨rfl, _⟩ := segI_mem hs
      exact ⟨e, .inl rfl, rfl, rfl, rfl⟩
    · obtain ⟨x, hx, h⟩ := parts_of l _ f s hs
      refine ⟨x, .inr ?_, h⟩
      rcases hx with rfl | hx
      · simp
      · simp [hx]
def SegsUp : Int → List SegP → Prop
  | _, [] => True
  | lo, s :: r => lo ≤ s.fr ∧ s.fr < s.to ∧ SegsUp s.to r
theorem segsUp_less : ∀ {l : List SegP} {a b : Int}, SegsUp b l → a ≤ b → SegsUp a l
  | [], _, _, _, _ => trivial
  | s :: r, a, b, ⟨h1, h2, h3⟩, h => ⟨by omega, h2, h3⟩
theorem segsUp_append : ∀ {l r : List SegP} {lo m : Int}, SegsUp lo l → (∀ s ∈ l, s.to ≤ m) → lo ≤ m → SegsUp m r → SegsUp lo (l ++ r)
  | [], r, lo, m, _, _, h, hr => segsUp_less hr h
  | s :: l, r, lo, m, ⟨h1, h2, h3⟩, hm, h, hr => ⟨h1, h2, segsUp_append h3 (fun x hx => hm x (by simp [hx])) (hm s (by simp)) hr⟩
theorem place_mono {first last : Int} {a b : EvP} (h : a.tm ≤ b.tm) : placeP first last a ≤ placeP first last b := by unfold placeP; omega
theorem place_bd {first last : Int} (h : first ≤ last) (e : EvP) : first ≤ placeP first last e ∧ placeP first last e ≤ last := by unfold placeP; omega
theorem segI_up (a b : Int) (e : EvP) : SegsUp a (segI a b e) ∧ ∀ s ∈ segI a b e, s.to = b := by
  unfold segI
  split
  · exact ⟨⟨Int.le_refl _, by assumption, trivial⟩, fun s hs => by rw [List.mem_singleton.1 hs]⟩
  · exact ⟨trivial, fun s hs => by cases hs⟩
theorem parts_up {first last : Int} (hfl : first ≤ last) : ∀ (ins : List EvP) (a : Int) (e : EvP), first ≤ a → a ≤ last → (∀ x ∈ ins, a ≤ placeP first last x) → ins.Pairwise (fun a b => a.tm ≤ b.tm) → SegsUp a (partsG first last a e ins)
  | [], a, e, _, _, _, _ => (segI_up a last e).1
  | f :: l, a, e, h1, h2, h3, h4 => by
    rw [List.pairwise_cons] at h4
    obtain ⟨b1, b2⟩ := place_bd hfl f
    have ih := parts_up hfl l (placeP first last f) f b1 b2 (fun x hx => place_mono (h4.1 x hx)) h4.2
    exact segsUp_append (segI_up a _ e).1 (fun s hs => by rw [(segI_up a _ e).2 s hs]; exact Int.le_refl _) (h3 f (by simp)) ih
/-- The seconds of parts. -/
def InS (l : List SegP) (t : Int) : Prop := ∃ s, s ∈ l ∧ s.fr ≤ t ∧ t < s.to
theorem inS_append (l m : List SegP) (t : Int) : InS (l ++ m) t ↔ InS l t ∨ InS m t := by
  constructor
  · rintro ⟨s, hs, h⟩
    rcases List.mem_append.1 hs with hs | hs
    · exact .inl ⟨s, hs, h⟩
    · exact .inr ⟨s, hs, h⟩
  · rintro (⟨s, hs, h⟩ | ⟨s, hs, h⟩)
    · exact ⟨s, List.mem_append.2 (.inl hs), h⟩
    · exact ⟨s, List.mem_append.2 (.inr hs), h⟩
theorem inS_segI (a b : Int) (e : EvP) (t : Int) : InS (segI a b e) t ↔ a ≤ t ∧ t < b := by
  unfold segI
  split
  · constructor
    · rintro ⟨s, hs, h⟩
      rw [List.mem_singleton.1 hs] at h
      exact h
    · intro h
      exact ⟨_, List.mem_singleton.2 rfl, h⟩
  · constructor
    · rintro ⟨s, hs, h⟩; cases hs
    · intro h; omega
theorem parts_in {first last : Int} (hfl : first ≤ last) : ∀ (ins : List EvP) (a : Int) (e : EvP) (t : Int), first ≤ a → a ≤ last → (∀ x ∈ ins, a ≤ placeP first last x) → ins.Pairwise (fun a b => a.tm ≤ b.tm) → (InS (partsG first last a e ins) t ↔ a ≤ t ∧ t < last)
  | [], a, e, t, _, _, _, _ => inS_segI a last e t
  | f :: l, a, e, t, h1, h2, h3, h4 => by
    rw [List.pairwise_cons] at h4
    obtain ⟨b1, b2⟩ := place_bd hfl f
    have h5 := h3 f (by simp)
    show InS (segI a (placeP first last f) e ++ partsG first last (placeP first last f) f l) t ↔ _
    rw [inS_append, inS_segI, parts_in hfl l (placeP first last f) f t b1 b2 (fun x hx => place_mono (h4.1 x hx)) h4.2]
    omega
theorem sess_up {cap lo : Int} {R : Int → Int} (hR : ∀ a b, a ≤ b → R a ≤ R b) {e : EvP} {ins : List EvP} {to fl : Int} {r : List ItemP} (h : ItemsUp cap lo (.sess e ins to fl :: r)) :
    SegsUp (R e.tm) (segsI R (.sess e ins to fl)) ∧ (∀ s ∈ segsI R (.sess e ins to fl), R e.tm ≤ s.fr ∧ s.fr < s.to ∧ s.to ≤ R to) ∧ ∀ t, InS (segsI R (.sess e ins to fl)) t ↔ R e.tm ≤ t ∧ t < R to := by
  obtain ⟨⟨h1, h2, h3⟩, h4, h5, h6, _, _⟩ := h
  have hfl := hR _ _ h2
  exact ⟨parts_up hfl ins _ e (Int.le_refl _) hfl (fun x hx => (place_bd hfl x).1) h6, fun s hs => parts_win ins _ e (Int.le_refl _) s hs, fun t => parts_in hfl ins _ e t (Int.le_refl _) hfl (fun x hx => (place_bd hfl x).1) h6⟩
theorem segs_up {cap : Int} {R : Int → Int} (hR : ∀ a b, a ≤ b → R a ≤ R b) : ∀ (l : List ItemP) (lo : Int), ItemsUp cap lo l → SegsUp (R lo) (segsS R l)
  | [], _, _ => trivial
  | .out e :: r, lo, h => by
    rw [segsS_cons]
    exact segs_up hR r lo h.2
  | .sess e ins to fl :: r, lo, h => by
    rw [segsS_cons]
    obtain ⟨u1, u2, _⟩ := sess_up hR h
    obtain ⟨⟨h1, h2, h3⟩, _, _, _, _, h7⟩ := h
    have a1 := hR _ _ h1
    have a2 := hR _ _ h2
    exact segsUp_append (segsUp_less u1 a1) (fun s hs => (u2 s hs).2.2) (by omega) (segs_up hR r to h7)
end Go.Proofs.Ytbijaaglmhoopaa
