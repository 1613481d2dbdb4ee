/-
  event.Check: whether an event may be in a setup.
  event.order and event.Less: which event stands ahead.
-/
import Derived.Test.YtgfomfioagblfaaZad
import Derived.Test.YtgfomfioagblfaaZac
import Derived.Test.YtgfomfioagblfaaZaa
import Derived.RegionTactic
import Derived.Sort.Grow
import Derived.Lib.Hide
namespace Go.Proofs.Ytgfomfioagblfaa
open Go.RowKit
set_option linter.unusedVariables false
set_option linter.unusedSimpArgs false
set_option maxRecDepth 20000

/-- What Check asks of a setup's cells. -/
structure SetS (cs : Array Value) (pl : Int) (nE nC nG nR : Nat) : Prop where
  size : cs.size = 23
  one : cs.all (·.oneCell') = true
  c0 : cs[0]? = some (.int .i64 pl)
  c4 : ∃ A c, cs[4]? = some (.slice A nE c)
  c5 : ∃ A c, cs[5]? = some (.slice A nC c)
  c6 : ∃ A c, cs[6]? = some (.slice A nG c)
  c18 : ∃ A c, cs[18]? = some (.slice A nR c)
/-- An event may be in a setup with so many of each. -/
def EvP.May (e : EvP) (pl : Int) (nE nC nG nR : Nat) : Prop :=
  e.Fair ∧ e.wk < nR ∧ (e.kd = 3 → e.fr < pl ∧ e.to < pl ∧ e.el < nE ∧ e.cl < nC ∧ e.ge < nG ∧ e.un ≤ 10000) ∧ (e.kd = 4 → e.cd ≤ 99)
instance (e : EvP) (pl : Int) (nE nC nG nR : Nat) : Decidable (e.May pl nE nC nG nR) := by unfold EvP.May; infer_instance
set_option maxHeartbeats 4000000 in
theorem echeck_any (cs : Array Value) (pl : Int) (nE nC nG nR : Nat) (hs : SetS cs pl nE nC nG nR) (e : EvP) (hi : e.In) (W : World) (b : Bool) (hb : decide (e.May pl nE nC nG nR) = b) :
    Calls Try.prog 10 #[.agg cs, .agg (evC e)] W fun r w' => r = .returned (.bool b) ∧ Below W.heap.size W w' := by
  obtain ⟨h23, hone, c0, ⟨A4, k4, c4⟩, ⟨A5, k5, c5⟩, ⟨A6, k6, c6⟩, ⟨A18, k18, c18⟩⟩ := hs
  have HF : Hid (∀ w, Calls Try.prog 18 #[.agg (evC e)] w fun r w' => r = .returned (.bool (decide e.Fair)) ∧ Below w.heap.size w w') := Lib.hid (fun w => fair_any e w hi)
  have hB : Hid (e.May pl nE nC nG nR ↔ b = true) := Lib.hid (by rw [← hb]; simp)
  obtain ⟨i, w, t, k, a, b1, c, d, g, j, m⟩ := e
  unfold EvP.May at hB
  simp only at hB
  have d1 : (evC ⟨i, w, t, k, a, b1, c, d, g, j, m⟩)[1]? = some (.int .i64 w) := rfl
  have d3 : (evC ⟨i, w, t, k, a, b1, c, d, g, j, m⟩)[3]? = some (.int .i64 k) := rfl
  have d4 : (evC ⟨i, w, t, k, a, b1, c, d, g, j, m⟩)[4]? = some (.int .i64 a) := rfl
  have d5 : (evC ⟨i, w, t, k, a, b1, c, d, g, j, m⟩)[5]? = some (.int .i64 b1) := rfl
  have d6 : (evC ⟨i, w, t, k, a, b1, c, d, g, j, m⟩)[6]? = some (.int .i64 c) := rfl
  have d7 : (evC ⟨i, w, t, k, a, b1, c, d, g, j, m⟩)[7]? = some (.int .i64 d) := rfl
  have d8 : (evC ⟨i, w, t, k, a, b1, c, d, g, j, m⟩)[8]? = some (.int .i64 g) := rfl
  have d9 : (evC ⟨i, w, t, k, a, b1, c, d, g, j, m⟩)[9]? = some (.int .i64 j) := rfl
  have d10 : (evC ⟨i, w, t, k, a, b1, c, d, g, j, m⟩)[10]? = some (.int .i64 m) := rfl
  have hz := evC_size ⟨i, w, t, k, a, b1, c, d, g, j, m⟩
  have ways : Hid (¬ (⟨i, w, t, k, a, b1, c, d, g, j, m⟩ : EvP).Fair ∨ (⟨i, w, t, k, a, b1, c, d, g, j, m⟩ : EvP).Fair) := Lib.hid (by by_cases h : (⟨i, w, t, k, a, b1, c, d, g, j, m⟩ : EvP).Fair; exact .inr h; exact .inl h)
  clear hi hb
  generalize hes : evC ⟨i, w, t, k, a, b1, c, d, g, j, m⟩ = es at *
  clear hes
  have HZ := Lib.hid hz
  have H23 := Lib.hid h23
  have HO := Lib.hid hone
  clear hz h23 hone
  have cell : ∀ (w1 : World), Below (W.heap.size + 1 + 1) ((W.alloc (.cells cs 30)).alloc (.cells es 33)) w1 → Has w1 W.heap.size cs ∧ Has w1 (W.heap.size + 1) es ∧ Below W.heap.size W w1 := fun w1 h => by
    have h' : Below ((W.alloc (.cells cs 30)).alloc (.cells es 33)).heap.size ((W.alloc (.cells cs 30)).alloc (.cells es 33)) w1 := by simpa using h
    exact ⟨((Has.new W _ cs rfl).alloc _).below h', (Has.new _ _ es (by simp)).below h', bel_on (bel_alloc (bel_alloc (Below.refl _ _) _) _) h'⟩
  have CELL := Lib.hid cell
  clear cell
  rcases ways.out with hf | hf
  · rw [decide_eq_false hf] at HF
    have hb : b = false := by
      have := hB.out
      cases b
      · rfl
      · exact absurd (this.2 rfl).1 hf
    subst hb
    clear hB ways hf
    go_enter Try.func10, Try.ntmps10
    go_wp2_with (refine wpList_load_e (by rfl) _ rfl (W.heap.size + 1) rfl es (Has.new _ _ es (by simp)) HZ.out ?_)
    refine (HF.out _).mono ?_
    rintro r w1 ⟨rfl, b1⟩
    go_wp2
    go_ret
    exact ⟨rfl, (CELL.out w1 (by simpa using b1)).2.2⟩
  · rw [decide_eq_true hf] at HF
    have ways2 : (nR : Int) ≤ w ∨ (w < nR ∧ k ≠ 3 ∧ k ≠ 4) ∨ (w < nR ∧ k = 4 ∧ m ≤ 99) ∨ (w < nR ∧ k = 4 ∧ 99 < m) ∨ (w < nR ∧ k = 3 ∧ pl ≤ a) ∨ (w < nR ∧ k = 3 ∧ a < pl ∧ pl ≤ b1) ∨ (w < nR ∧ k = 3 ∧ a < pl ∧ b1 < pl ∧ nE ≤ c) ∨
      (w < nR ∧ k = 3 ∧ a < pl ∧ b1 < pl ∧ c < nE ∧ nC ≤ g) ∨ (w < nR ∧ k = 3 ∧ a < pl ∧ b1 < pl ∧ c < nE ∧ g < nC ∧ nG ≤ j) ∨ (w < nR ∧ k = 3 ∧ a < pl ∧ b1 < pl ∧ c < nE ∧ g < nC ∧ j < nG ∧ 10000 < d) ∨ (w < nR ∧ k = 3 ∧ a < pl ∧ b1 < pl ∧ c < nE ∧ g < nC ∧ j < nG ∧ d ≤ 10000) := by
      by_cases q1 : (nR : Int) ≤ w
      · exact .inl q1
      have q1' : w < nR := by omega
      by_cases q2 : k = 3
      · by_cases q3 : a < pl
        · by_cases q4 : b1 < pl
          · by_cases q5 : c < nE
            · by_cases q6 : g < nC
              · by_cases q7 : j < nG
                · by_cases q8 : d ≤ 10000
                  · exact .inr (.inr (.inr (.inr (.inr (.inr (.inr (.inr (.inr (.inr ⟨q1', q2, q3, q4, q5, q6, q7, q8⟩)))))))))
                  · exact .inr (.inr (.inr (.inr (.inr (.inr (.inr (.inr (.inr (.inl ⟨q1', q2, q3, q4, q5, q6, q7, by omega⟩)))))))))
                · exact .inr (.inr (.inr (.inr (.inr (.inr (.inr (.inr (.inl ⟨q1', q2, q3, q4, q5, q6, by omega⟩))))))))
              · exact .inr (.inr (.inr (.inr (.inr (.inr (.inr (.inl ⟨q1', q2, q3, q4, q5, by omega⟩)))))))
            · exact .inr (.inr (.inr (.inr (.inr (.inr (.inl ⟨q1', q2, q3, q4, by omega⟩))))))
          · exact .inr (.inr (.inr (.inr (.inr (.inl ⟨q1', q2, q3, by omega⟩)))))
        · exact .inr (.inr (.inr (.inr (.inl ⟨q1', q2, by omega⟩))))
      · by_cases q3 : k = 4
        · by_cases q4 : m ≤ 99
          · exact .inr (.inr (.inl ⟨q1', q3, q4⟩))
          · exact .inr (.inr (.inr (.inl ⟨q1', q3, by omega⟩)))
        · exact .inr (.inl ⟨q1', q2, q3⟩)
    have H9 : Hid (((w < nR ∧ (k = 3 → a < pl ∧ b1 < pl ∧ c < nE ∧ g < nC ∧ j < nG ∧ d ≤ 10000)) ∧ (k = 4 → m ≤ 99)) ↔ b = true) := Lib.hid ⟨fun h => hB.out.1 ⟨hf, h.1.1, h.1.2, h.2⟩, fun h => ⟨⟨(hB.out.2 h).2.1, (hB.out.2 h).2.2.1⟩, (hB.out.2 h).2.2.2⟩⟩
    clear hB hf ways
    rcases ways2 with h1 | ⟨h1, h2, h3⟩ | ⟨h1, rfl, h3⟩ | ⟨h1, rfl, h3⟩ | ⟨h1, rfl, h3⟩ | ⟨h1, rfl, h3, h4⟩ | ⟨h1, rfl, h3, h4, h5⟩ | ⟨h1, rfl, h3, h4, h5, h6⟩ | ⟨h1, rfl, h3, h4, h5, h6, h7⟩ | ⟨h1, rfl, h3, h4, h5, h6, h7, h8⟩ | ⟨h1, rfl, h3, h4, h5, h6, h7, h8⟩
    · skip
      obtain rfl : b = false := by
        have this := H9.out
        cases b
        · rfl
        · exfalso
          have h := this.2 rfl
          have := h.1.1
          omega
      clear H9
      go_enter Try.func10, Try.ntmps10
      go_wp2_with (refine wpList_load_e (by rfl) _ rfl (W.heap.size + 1) rfl es (Has.new _ _ es (by simp)) HZ.out ?_)
      refine (HF.out _).mono ?_
      rintro r w1 ⟨rfl, hb1⟩
      obtain ⟨HS, HE, hbF⟩ := CELL.out w1 (by simpa using hb1)
      have s0 := HS.cell 0 c0
      have s4 := HS.cell 4 c4
      have s5 := HS.cell 5 c5
      have s6 := HS.cell 6 c6
      have s18 := HS.cell 18 c18
      have e1 := HE.cell 1 d1
      have e3 := HE.cell 3 d3
      have e4 := HE.cell 4 d4
      have e5 := HE.cell 5 d5
      have e6 := HE.cell 6 d6
      have e7 := HE.cell 7 d7
      have e8 := HE.cell 8 d8
      have e9 := HE.cell 9 d9
      have e10 := HE.cell 10 d10
      have z1 := HS.size
      have z2 := HE.size
      have HBF := Lib.hid hbF
      clear HS HE hb1 hbF c0 c4 c5 c6 c18 d1 d3 d4 d5 d6 d7 d8 d9 d10 HF CELL HZ H23 HO
      go_wp2
      go_ret
      refine ⟨?_, HBF.out⟩
      first
      | rfl
      | exact ret_bool (decide_eq_false (by omega))
      | exact ret_bool (decide_eq_true (by omega))
    · skip
      obtain rfl : b = true := H9.out.1 (⟨⟨h1, fun e => absurd e h2⟩, fun e => absurd e h3⟩)
      clear H9
      go_enter Try.func10, Try.ntmps10
      go_wp2_with (refine wpList_load_e (by rfl) _ rfl (W.heap.size + 1) rfl es (Has.new _ _ es (by simp)) HZ.out ?_)
      refine (HF.out _).mono ?_
      rintro r w1 ⟨rfl, hb1⟩
      obtain ⟨HS, HE, hbF⟩ := CELL.out w1 (by simpa using hb1)
      have s0 := HS.cell 0 c0
      have s4 := HS.cell 4 c4
      have s5 := HS.cell 5 c5
      have s6 := HS.cell 6 c6
      have s18 := HS.cell 18 c18
      have e1 := HE.cell 1 d1
      have e3 := HE.cell 3 d3
      have e4 := HE.cell 4 d4
      have e5 := HE.cell 5 d5
      have e6 := HE.cell 6 d6
      have e7 := HE.cell 7 d7
      have e8 := HE.cell 8 d8
      have e9 := HE.cell 9 d9
      have e10 := HE.cell 10 d10
      have z1 := HS.size
      have z2 := HE.size
      have HBF := Lib.hid hbF
      clear HS HE hb1 hbF c0 c4 c5 c6 c18 d1 d3 d4 d5 d6 d7 d8 d9 d10 HF CELL HZ H23 HO
      go_wp2
      go_ret
      refine ⟨?_, HBF.out⟩
      first
      | rfl
      | exact ret_bool (decide_eq_false (by omega))
      | exact ret_bool (decide_eq_true (by omega))
    · skip
      obtain rfl : b = true := H9.out.1 (⟨⟨h1, fun e => by omega⟩, fun _ => h3⟩)
      clear H9
      go_enter Try.func10, Try.ntmps10
      go_wp2_with (refine wpList_load_e (by rfl) _ rfl (W.heap.size + 1) rfl es (Has.new _ _ es (by simp)) HZ.out ?_)
      refine (HF.out _).mono ?_
      rintro r w1 ⟨rfl, hb1⟩
      obtain ⟨HS, HE, hbF⟩ := CELL.out w1 (by simpa using hb1)
      have s0 := HS.cell 0 c0
      have s4 := HS.cell 4 c4
      have s5 := HS.cell 5 c5
      have s6 := HS.cell 6 c6
      have s18 := HS.cell 18 c18
      have e1 := HE.cell 1 d1
      have e3 := HE.cell 3 d3
      have e4 := HE.cell 4 d4
      have e5 := HE.cell 5 d5
      have e6 := HE.cell 6 d6
      have e7 := HE.cell 7 d7
      have e8 := HE.cell 8 d8
      have e9 := HE.cell 9 d9
      have e10 := HE.cell 10 d10
      have z1 := HS.size
      have z2 := HE.size
      have HBF := Lib.hid hbF
      clear HS HE hb1 hbF c0 c4 c5 c6 c18 d1 d3 d4 d5 d6 d7 d8 d9 d10 HF CELL HZ H23 HO
      go_wp2
      go_ret
      refine ⟨?_, HBF.out⟩
      first
      | rfl
      | exact ret_bool (decide_eq_false (by omega))
      | exact ret_bool (decide_eq_true (by omega))
    · skip
      obtain rfl : b = false := by
        have this := H9.out
        cases b
        · rfl
        · exfalso
          have h := this.2 rfl
          have := h.2 rfl
          omega
      clear H9
      go_enter Try.func10, Try.ntmps10
      go_wp2_with (refine wpList_load_e (by rfl) _ rfl (W.heap.size + 1) rfl es (Has.new _ _ es (by simp)) HZ.out ?_)
      refine (HF.out _).mono ?_
      rintro r w1 ⟨rfl, hb1⟩
      obtain ⟨HS, HE, hbF⟩ := CELL.out w1 (by simpa using hb1)
      have s0 := HS.cell 0 c0
      have s4 := HS.cell 4 c4
      have s5 := HS.cell 5 c5
      have s6 := HS.cell 6 c6
      have s18 := HS.cell 18 c18
      have e1 := HE.cell 1 d1
      have e3 := HE.cell 3 d3
      have e4 := HE.cell 4 d4
      have e5 := HE.cell 5 d5
      have e6 := HE.cell 6 d6
      have e7 := HE.cell 7 d7
      have e8 := HE.cell 8 d8
      have e9 := HE.cell 9 d9
      have e10 := HE.cell 10 d10
      have z1 := HS.size
      have z2 := HE.size
      have HBF := Lib.hid hbF
      clear HS HE hb1 hbF c0 c4 c5 c6 c18 d1 d3 d4 d5 d6 d7 d8 d9 d10 HF CELL HZ H23 HO
      go_wp2
      go_ret
      refine ⟨?_, HBF.out⟩
      first
      | rfl
      | exact ret_bool (decide_eq_false (by omega))
      | exact ret_bool (decide_eq_true (by omega))
    · skip
      obtain rfl : b = false := by
        have this := H9.out
        cases b
        · rfl
        · exfalso
          have h := this.2 rfl
          obtain ⟨g1, g2, g3, g4, g5, g6⟩ := h.1.2 rfl
          omega
      clear H9
      go_enter Try.func10, Try.ntmps10
      go_wp2_with (refine wpList_load_e (by rfl) _ rfl (W.heap.size + 1) rfl es (Has.new _ _ es (by simp)) HZ.out ?_)
      refine (HF.out _).mono ?_
      rintro r w1 ⟨rfl, hb1⟩
      obtain ⟨HS, HE, hbF⟩ := CELL.out w1 (by simpa using hb1)
      have s0 := HS.cell 0 c0
      have s4 := HS.cell 4 c4
      have s5 := HS.cell 5 c5
      have s6 := HS.cell 6 c6
      have s18 := HS.cell 18 c18
      have e1 := HE.cell 1 d1
      have e3 := HE.cell 3 d3
      have e4 := HE.cell 4 d4
      have e5 := HE.cell 5 d5
      have e6 := HE.cell 6 d6
      have e7 := HE.cell 7 d7
      have e8 := HE.cell 8 d8
      have e9 := HE.cell 9 d9
      have e10 := HE.cell 10 d10
      have z1 := HS.size
      have z2 := HE.size
      have HBF := Lib.hid hbF
      clear HS HE hb1 hbF c0 c4 c5 c6 c18 d1 d3 d4 d5 d6 d7 d8 d9 d10 HF CELL HZ H23 HO
      go_wp2
      go_ret
      refine ⟨?_, HBF.out⟩
      first
      | rfl
      | exact ret_bool (decide_eq_false (by omega))
      | exact ret_bool (decide_eq_true (by omega))
    · skip
      obtain rfl : b = false := by
        have this := H9.out
        cases b
        · rfl
        · exfalso
          have h := this.2 rfl
          obtain ⟨g1, g2, g3, g4, g5, g6⟩ := h.1.2 rfl
          omega
      clear H9
      go_enter Try.func10, Try.ntmps10
      go_wp2_with (refine wpList_load_e (by rfl) _ rfl (W.heap.size + 1) rfl es (Has.new _ _ es (by simp)) HZ.out ?_)
      refine (HF.out _).mono ?_
      rintro r w1 ⟨rfl, hb1⟩
      obtain ⟨HS, HE, hbF⟩ := CELL.out w1 (by simpa using hb1)
      have s0 := HS.cell 0 c0
      have s4 := HS.cell 4 c4
      have s5 := HS.cell 5 c5
      have s6 := HS.cell 6 c6
      have s18 := HS.cell 18 c18
      have e1 := HE.cell 1 d1
      have e3 := HE.cell 3 d3
      have e4 := HE.cell 4 d4
      have e5 := HE.cell 5 d5
      have e6 := HE.cell 6 d6
      have e7 := HE.cell 7 d7
      have e8 := HE.cell 8 d8
      have e9 := HE.cell 9 d9
      have e10 := HE.cell 10 d10
      have z1 := HS.size
      have z2 := HE.size
      have HBF := Lib.hid hbF
      clear HS HE hb1 hbF c0 c4 c5 c6 c18 d1 d3 d4 d5 d6 d7 d8 d9 d10 HF CELL HZ H23 HO
      go_wp2
      go_ret
      refine ⟨?_, HBF.out⟩
      first
      | rfl
      | exact ret_bool (decide_eq_false (by omega))
      | exact ret_bool (decide_eq_true (by omega))
    · skip
      obtain rfl : b = false := by
        have this := H9.out
        cases b
        · rfl
        · exfalso
          have h := this.2 rfl
          obtain ⟨g1, g2, g3, g4, g5, g6⟩ := h.1.2 rfl
          omega
      clear H9
      go_enter Try.func10, Try.ntmps10
      go_wp2_with (refine wpList_load_e (by rfl) _ rfl (W.heap.size + 1) rfl es (Has.new _ _ es (by simp)) HZ.out ?_)
      refine (HF.out _).mono ?_
      rintro r w1 ⟨rfl, hb1⟩
      obtain ⟨HS, HE, hbF⟩ := CELL.out w1 (by simpa using hb1)
      have s0 := HS.cell 0 c0
      have s4 := HS.cell 4 c4
      have s5 := HS.cell 5 c5
      have s6 := HS.cell 6 c6
      have s18 := HS.cell 18 c18
      have e1 := HE.cell 1 d1
      have e3 := HE.cell 3 d3
      have e4 := HE.cell 4 d4
      have e5 := HE.cell 5 d5
      have e6 := HE.cell 6 d6
      have e7 := HE.cell 7 d7
      have e8 := HE.cell 8 d8
      have e9 := HE.cell 9 d9
      have e10 := HE.cell 10 d10
      have z1 := HS.size
      have z2 := HE.size
      have HBF := Lib.hid hbF
      clear HS HE hb1 hbF c0 c4 c5 c6 c18 d1 d3 d4 d5 d6 d7 d8 d9 d10 HF CELL HZ H23 HO
      go_wp2
      go_ret
      refine ⟨?_, HBF.out⟩
      first
      | rfl
      | exact ret_bool (decide_eq_false (by omega))
      | exact ret_bool (decide_eq_true (by omega))
    · skip
      obtain rfl : b = false := by
        have this := H9.out
        cases b
        · rfl
        · exfalso
          have h := this.2 rfl
          obtain ⟨g1, g2, g3, g4, g5, g6⟩ := h.1.2 rfl
          omega
      clear H9
      go_enter Try.func10, Try.ntmps10
      go_wp2_with (refine wpList_load_e (by rfl) _ rfl (W.heap.size + 1) rfl es (Has.new _ _ es (by simp)) HZ.out ?_)
      refine (HF.out _).mono ?_
      rintro r w1 ⟨rfl, hb1⟩
      obtain ⟨HS, HE, hbF⟩ := CELL.out w1 (by simpa using hb1)
      have s0 := HS.cell 0 c0
      have s4 := HS.cell 4 c4
      have s5 := HS.cell 5 c5
      have s6 := HS.cell 6 c6
      have s18 := HS.cell 18 c18
      have e1 := HE.cell 1 d1
      have e3 := HE.cell 3 d3
      have e4 := HE.cell 4 d4
      have e5 := HE.cell 5 d5
      have e6 := HE.cell 6 d6
      have e7 := HE.cell 7 d7
      have e8 := HE.cell 8 d8
      have e9 := HE.cell 9 d9
      have e10 := HE.cell 10 d10
      have z1 := HS.size
      have z2 := HE.size
      have HBF := Lib.hid hbF
      clear HS HE hb1 hbF c0 c4 c5 c6 c18 d1 d3 d4 d5 d6 d7 d8 d9 d10 HF CELL HZ H23 HO
      go_wp2
      go_ret
      refine ⟨?_, HBF.out⟩
      first
      | rfl
      | exact ret_bool (decide_eq_false (by omega))
      | exact ret_bool (decide_eq_true (by omega))
    · skip
      obtain rfl : b = false := by
        have this := H9.out
        cases b
        · rfl
        · exfalso
          have h := this.2 rfl
          obtain ⟨g1, g2, g3, g4, g5, g6⟩ := h.1.2 rfl
          omega
      clear H9
      go_enter Try.func10, Try.ntmps10
      go_wp2_with (refine wpList_load_e (by rfl) _ rfl (W.heap.size + 1) rfl es (Has.new _ _ es (by simp)) HZ.out ?_)
      refine (HF.out _).mono ?_
      rintro r w1 ⟨rfl, hb1⟩
      obtain ⟨HS, HE, hbF⟩ := CELL.out w1 (by simpa using hb1)
      have s0 := HS.cell 0 c0
      have s4 := HS.cell 4 c4
      have s5 := HS.cell 5 c5
      have s6 := HS.cell 6 c6
      have s18 := HS.cell 18 c18
      have e1 := HE.cell 1 d1
      have e3 := HE.cell 3 d3
      have e4 := HE.cell 4 d4
      have e5 := HE.cell 5 d5
      have e6 := HE.cell 6 d6
      have e7 := HE.cell 7 d7
      have e8 := HE.cell 8 d8
      have e9 := HE.cell 9 d9
      have e10 := HE.cell 10 d10
      have z1 := HS.size
      have z2 := HE.size
      have HBF := Lib.hid hbF
      clear HS HE hb1 hbF c0 c4 c5 c6 c18 d1 d3 d4 d5 d6 d7 d8 d9 d10 HF CELL HZ H23 HO
      go_wp2
      go_ret
      refine ⟨?_, HBF.out⟩
      first
      | rfl
      | exact ret_bool (decide_eq_false (by omega))
      | exact ret_bool (decide_eq_true (by omega))
    · skip
      obtain rfl : b = false := by
        have this := H9.out
        cases b
        · rfl
        · exfalso
          have h := this.2 rfl
          obtain ⟨g1, g2, g3, g4, g5, g6⟩ := h.1.2 rfl
          omega
      clear H9
      go_enter Try.func10, Try.ntmps10
      go_wp2_with (refine wpList_load_e (by rfl) _ rfl (W.heap.size + 1) rfl es (Has.new _ _ es (by simp)) HZ.out ?_)
      refine (HF.out _).mono ?_
      rintro r w1 ⟨rfl, hb1⟩
      obtain ⟨HS, HE, hbF⟩ := CELL.out w1 (by simpa using hb1)
      have s0 := HS.cell 0 c0
      have s4 := HS.cell 4 c4
      have s5 := HS.cell 5 c5
      have s6 := HS.cell 6 c6
      have s18 := HS.cell 18 c18
      have e1 := HE.cell 1 d1
      have e3 := HE.cell 3 d3
      have e4 := HE.cell 4 d4
      have e5 := HE.cell 5 d5
      have e6 := HE.cell 6 d6
      have e7 := HE.cell 7 d7
      have e8 := HE.cell 8 d8
      have e9 := HE.cell 9 d9
      have e10 := HE.cell 10 d10
      have z1 := HS.size
      have z2 := HE.size
      have HBF := Lib.hid hbF
      clear HS HE hb1 hbF c0 c4 c5 c6 c18 d1 d3 d4 d5 d6 d7 d8 d9 d10 HF CELL HZ H23 HO
      go_wp2
      go_ret
      refine ⟨?_, HBF.out⟩
      first
      | rfl
      | exact ret_bool (decide_eq_false (by omega))
      | exact ret_bool (decide_eq_true (by omega))
    · skip
      obtain rfl : b = true := H9.out.1 (⟨⟨h1, fun _ => ⟨h3, h4, h5, h6, h7, h8⟩⟩, fun e => by omega⟩)
      clear H9
      go_enter Try.func10, Try.ntmps10
      go_wp2_with (refine wpList_load_e (by rfl) _ rfl (W.heap.size + 1) rfl es (Has.new _ _ es (by simp)) HZ.out ?_)
      refine (HF.out _).mono ?_
      rintro r w1 ⟨rfl, hb1⟩
      obtain ⟨HS, HE, hbF⟩ := CELL.out w1 (by simpa using hb1)
      have s0 := HS.cell 0 c0
      have s4 := HS.cell 4 c4
      have s5 := HS.cell 5 c5
      have s6 := HS.cell 6 c6
      have s18 := HS.cell 18 c18
      have e1 := HE.cell 1 d1
      have e3 := HE.cell 3 d3
      have e4 := HE.cell 4 d4
      have e5 := HE.cell 5 d5
      have e6 := HE.cell 6 d6
      have e7 := HE.cell 7 d7
      have e8 := HE.cell 8 d8
      have e9 := HE.cell 9 d9
      have e10 := HE.cell 10 d10
      have z1 := HS.size
      have z2 := HE.size
      have HBF := Lib.hid hbF
      clear HS HE hb1 hbF c0 c4 c5 c6 c18 d1 d3 d4 d5 d6 d7 d8 d9 d10 HF CELL HZ H23 HO
      go_wp2
      go_ret
      refine ⟨?_, HBF.out⟩
      first
      | rfl
      | exact ret_bool (decide_eq_false (by omega))
      | exact ret_bool (decide_eq_true (by omega))
end Go.Proofs.Ytgfomfioagblfaa

namespace Go.Proofs.Ytgfomfioagblfaa
open Go.RowKit
set_option linter.unusedVariables false
set_option linter.unusedSimpArgs false
set_option maxRecDepth 20000

def cmpI (x y : Int) : Int := if x < y then -1 else if y < x then 1 else 0
/-- What order tells. -/
def cfE (a b : EvP) : Int := if cmpI a.tm b.tm = 0 then cmpI a.id b.id else cmpI a.tm b.tm
theorem cf_less (a b : EvP) : decide (cfE a b < 0) = lessE a b := by
  unfold lessE
  rw [decide_eq_decide]
  unfold cfE cmpI
  split <;> split <;> (try split) <;> (try split) <;> omega
theorem isnan_any (x : Int) (w : World) : Calls Try.prog 41 #[.int .i64 x] w fun e w' => e = .returned (.bool false) ∧ w = w' := by
  go_enter Try.func41, Try.ntmps41
  go_wp2
  go_ret
  exact ⟨by simp, rfl⟩
theorem compare_any (x y : Int) (w : World) : Calls Try.prog 38 #[.int .i64 x, .int .i64 y] w fun e w' => e = .returned (.int .i64 (cmpI x y)) ∧ w = w' := by
  have H : Hid (cmpI x y = if x < y then -1 else if y < x then 1 else 0) := Lib.hid rfl
  have c : x < y ∨ y < x ∨ x = y := by omega
  rcases c with h | h | h
  · have e : cmpI x y = -1 := by unfold cmpI; rw [if_pos h]
    have E := Lib.hid e
    clear e
    go_enter Try.func38, Try.ntmps38
    go_wp2_with fail
    refine (isnan_any _ _).mono ?_
    rintro r w1 ⟨rfl, rfl⟩
    go_wp2_with fail
    refine (isnan_any _ _).mono ?_
    rintro r w1 ⟨rfl, rfl⟩
    go_wp2
    go_ret
    exact ⟨ret_one E.out.symm, rfl⟩
  · have e : cmpI x y = 1 := by unfold cmpI; rw [if_neg (by omega), if_pos h]
    have h' : ¬ x < y := by omega
    have E := Lib.hid e
    clear e
    go_enter Try.func38, Try.ntmps38
    go_wp2_with fail
    refine (isnan_any _ _).mono ?_
    rintro r w1 ⟨rfl, rfl⟩
    go_wp2_with fail
    refine (isnan_any _ _).mono ?_
    rintro r w1 ⟨rfl, rfl⟩
    go_wp2
    go_ret
    exact ⟨ret_one E.out.symm, rfl⟩
  · subst h
    have e : cmpI x x = 0 := by unfold cmpI; rw [if_neg (by omega), if_neg (by omega)]
    have h' : ¬ x < x := by omega
    have E := Lib.hid e
    clear e
    go_enter Try.func38, Try.ntmps38
    go_wp2_with fail
    refine (isnan_any _ _).mono ?_
    rintro r w1 ⟨rfl, rfl⟩
    go_wp2_with fail
    refine (isnan_any _ _).mono ?_
    rintro r w1 ⟨rfl, rfl⟩
    go_wp2
    go_ret
    exact ⟨ret_one E.out.symm, rfl⟩
def orI (x y : Int) : Int := if x = 0 then y else x
theorem or_any (g : Nat) (x y : Int) (w : World) (h : Has w g #[.int .i64 x, .int .i64 y]) : Calls Try.prog 37 #[.slice (some ⟨g, 0, none⟩) 2 2] w fun e w' => e = .returned (.int .i64 (orI x y)) ∧ w = w' := by
  obtain ⟨h0, h1, _, _⟩ := h.two
  by_cases hx : x = 0
  · subst hx
    have E : Hid (orI 0 y = y) := Lib.hid (by simp [orI])
    by_cases hy : y = 0
    · subst hy
      go_enter Try.func37, Try.ntmps37
      go_wp2_with fail
      refine wp_loop_rounds 3 ?_
      rw [rounds_succ]
      go_wp2
      rw [rounds_succ]
      go_wp2
      rw [rounds_succ]
      go_wp2
      go_ret
      exact ⟨ret_one E.out.symm, rfl⟩
    · have hy' : (y == 0) = false := by simpa using hy
      go_enter Try.func37, Try.ntmps37
      go_wp2_with fail
      refine wp_loop_rounds 2 ?_
      rw [rounds_succ]
      go_wp2
      rw [rounds_succ]
      go_wp2
      go_ret
      exact ⟨ret_one E.out.symm, rfl⟩
  · have E : Hid (orI x y = x) := Lib.hid (by simp [orI, hx])
    have hx' : (x == 0) = false := by simpa using hx
    go_enter Try.func37, Try.ntmps37
    go_wp2_with fail
    refine wp_loop_rounds 1 ?_
    simp only [rounds_succ]
    go_wp2
    go_ret
    exact ⟨ret_one E.out.symm, rfl⟩
theorem below_growE {a w : World} {B : Nat} (h : Below B a w) (hB : B ≤ w.heap.size) (os : Array Obj) : Below B a (Go.Sort.grow w os) :=
  ⟨h.os, h.tape, h.output, by rw [Go.Sort.size_grow]; have := h.size; omega, fun k hk => by
    rw [← h.block k hk]
    show (w.heap ++ os)[k]? = _
    rw [Array.getElem?_append_left (by omega)]⟩
theorem cf_or (a b : EvP) : orI (cmpI a.tm b.tm) (cmpI a.id b.id) = cfE a b := rfl
open Go.Sort in
set_option maxHeartbeats 1000000 in
theorem order_any (a b : EvP) (W : World) : Calls Try.prog 30 #[.agg (evC a), .agg (evC b)] W fun e w' => e = .returned (.int .i64 (cfE a b)) ∧ ∃ q os, w' = grow (W.drewN q) os := by
  have a0 : (evC a)[0]? = some (.int .i64 a.id) := rfl
  have a2 : (evC a)[2]? = some (.int .i64 a.tm) := rfl
  have b0 : (evC b)[0]? = some (.int .i64 b.id) := rfl
  have b2 : (evC b)[2]? = some (.int .i64 b.tm) := rfl
  have HF := Lib.hid (cf_or a b)
  generalize evC a = ca at *
  generalize evC b = cb at *
  generalize cfE a b = cf at *
  generalize a.tm = ta at *
  generalize b.tm = tb at *
  generalize a.id = ia at *
  generalize b.id = ib at *
  go_enter Try.func30, Try.ntmps30
  go_wp2_with fail
  obtain ⟨w0, hw0⟩ : ∃ w0, w0 = (W.alloc (.cells ca 33)).alloc (.cells cb 33) := ⟨_, rfl⟩
  rw [← hw0]
  have HA : Hid (Has w0 W.heap.size ca) := by rw [hw0]; exact (Has.new W _ ca rfl).alloc _
  have HB : Hid (Has w0 (W.heap.size + 1) cb) := by rw [hw0]; exact Has.new _ _ _ (by simp)
  have HW0 := Lib.hid hw0
  clear hw0
  obtain ⟨ga, hga⟩ : ∃ ga, W.heap.size = ga := ⟨_, rfl⟩
  rw [hga] at HA HB ⊢
  clear hga
  obtain ⟨gb, hgb⟩ : ∃ gb, ga + 1 = gb := ⟨_, rfl⟩
  rw [hgb] at HB ⊢
  clear hgb
  refine wp_region_noPanic ?_
  refine wp_region_held_drew (S := fun w' => Below w0.heap.size w0 w') (by kernel_rfl) (below_drew (Below.refl _ _)) (fun hHeld => ?_)
  refine wpAnyH_take (i := 0) (oi := ⟨some 5, _, _, _, _, _⟩) (v := ?_) rfl (by kernel_rfl) (by kernel_rfl) (by kernel_rfl) (fun _ _ _ h => h) (Or.inl ⟨by rfl, ?_⟩) hHeld ?_
  rotate_left
  · intro ww hSw
    (try dsimp only at hSw)
    go_simp
    (try with_reducible rfl)
  simp only [Act.put, List.setIfInBounds_toArray, List.set_cons_zero, List.set_cons_succ]
  refine wpAnyH_take (i := 1) (oi := ⟨some 6, _, _, _, _, _⟩) (v := .int .i64 ta) rfl (by kernel_rfl) (by kernel_rfl) (by kernel_rfl) (fun _ _ _ h => h) (Or.inl ⟨by rfl, ?_⟩) hHeld ?_
  · intro ww hSw
    (try dsimp only at hSw)
    have hcc := (hSw.cell (p := ⟨ga, 2, none⟩) HA.out.size).trans (HA.out.cell 2 a2)
    have hcs := cell_lt hcc
    go_simp
  simp only [Act.put, List.setIfInBounds_toArray, List.set_cons_zero, List.set_cons_succ]
  refine wpAnyH_take (i := 2) (oi := ⟨some 7, _, _, _, _, _⟩) (v := ?_) rfl (by kernel_rfl) (by kernel_rfl) (by kernel_rfl) (fun _ _ _ h => h) (Or.inl ⟨by rfl, ?_⟩) hHeld ?_
  rotate_left
  · intro ww hSw
    (try dsimp only at hSw)
    go_simp
    (try with_reducible rfl)
  simp only [Act.put, List.setIfInBounds_toArray, List.set_cons_zero, List.set_cons_succ]
  refine wpAnyH_take (i := 3) (oi := ⟨some 8, _, _, _, _, _⟩) (v := .int .i64 tb) rfl (by kernel_rfl) (by kernel_rfl) (by kernel_rfl) (fun _ _ _ h => h) (Or.inl ⟨by rfl, ?_⟩) hHeld ?_
  · intro ww hSw
    (try dsimp only at hSw)
    have hcc := (hSw.cell (p := ⟨gb, 2, none⟩) HB.out.size).trans (HB.out.cell 2 b2)
    have hcs := cell_lt hcc
    go_simp
  simp only [Act.put, List.setIfInBounds_toArray, List.set_cons_zero, List.set_cons_succ]
  refine wpAnyH_take (i := 5) (oi := ⟨some 10, _, _, _, _, _⟩) (v := ?_) rfl (by kernel_rfl) (by kernel_rfl) (by kernel_rfl) (fun _ _ _ h => h) (Or.inl ⟨by rfl, ?_⟩) hHeld ?_
  rotate_left
  · intro ww hSw
    (try dsimp only at hSw)
    go_simp
    (try with_reducible rfl)
  simp only [Act.put, List.setIfInBounds_toArray, List.set_cons_zero, List.set_cons_succ]
  refine wpAnyH_take (i := 6) (oi := ⟨some 11, _, _, _, _, _⟩) (v := .int .i64 ia) rfl (by kernel_rfl) (by kernel_rfl) (by kernel_rfl) (fun _ _ _ h => h) (Or.inl ⟨by rfl, ?_⟩) hHeld ?_
  · intro ww hSw
    (try dsimp only at hSw)
    have hcc := (hSw.cell (p := ⟨ga, 0, none⟩) HA.out.size).trans (HA.out.cell 0 a0)
    have hcs := cell_lt hcc
    go_simp
  simp only [Act.put, List.setIfInBounds_toArray, List.set_cons_zero, List.set_cons_succ]
  refine wpAnyH_take (i := 7) (oi := ⟨some 12, _, _, _, _, _⟩) (v := ?_) rfl (by kernel_rfl) (by kernel_rfl) (by kernel_rfl) (fun _ _ _ h => h) (Or.inl ⟨by rfl, ?_⟩) hHeld ?_
  rotate_left
  · intro ww hSw
    (try dsimp only at hSw)
    go_simp
    (try with_reducible rfl)
  simp only [Act.put, List.setIfInBounds_toArray, List.set_cons_zero, List.set_cons_succ]
  refine wpAnyH_take (i := 8) (oi := ⟨some 13, _, _, _, _, _⟩) (v := .int .i64 ib) rfl (by kernel_rfl) (by kernel_rfl) (by kernel_rfl) (fun _ _ _ h => h) (Or.inl ⟨by rfl, ?_⟩) hHeld ?_
  · intro ww hSw
    (try dsimp only at hSw)
    have hcc := (hSw.cell (p := ⟨gb, 0, none⟩) HB.out.size).trans (HB.out.cell 0 b0)
    have hcs := cell_lt hcc
    go_simp
  simp only [Act.put, List.setIfInBounds_toArray, List.set_cons_zero, List.set_cons_succ]
  refine wpAnyH_ready (rs := [4]) (by kernel_rfl) (by simp) ?_
  refine AllReadyH.cons (o := ⟨some 9, _, _, _, _, _⟩) rfl (fun K hK => ?_) AllReadyH.nil
  go_simp
  go_at_call 38
  refine (compare_any _ _ _).mono ?_
  rintro e_r _ ⟨rfl, rfl⟩
  go_wp2_with fail
  refine hK.out _ _ ?_ (fun hHeld => ?_)
  · (try dsimp only)
    (repeat' (first | with_reducible exact Below.refl _ _ | with_reducible assumption | with_reducible refine bel_alloc ?_ _ | with_reducible refine bel_set ?_ ?_ _ | with_reducible refine below_drewN ?_ _ | with_reducible refine below_drew ?_ | (simp; done) | (simp; omega) | omega))
  clear hK K
  (try simp only [Act.put, List.setIfInBounds_toArray, List.set_cons_zero, List.set_cons_succ])
  refine wpAnyH_ready (rs := [9]) (by kernel_rfl) (by simp) ?_
  refine AllReadyH.cons (o := ⟨some 14, _, _, _, _, _⟩) rfl (fun K hK => ?_) AllReadyH.nil
  go_simp
  go_at_call 38
  refine (compare_any _ _ _).mono ?_
  rintro e_r _ ⟨rfl, rfl⟩
  go_wp2_with fail
  refine hK.out _ _ ?_ (fun hHeld => ?_)
  · (try dsimp only)
    (repeat' (first | with_reducible exact Below.refl _ _ | with_reducible assumption | with_reducible refine bel_alloc ?_ _ | with_reducible refine bel_set ?_ ?_ _ | with_reducible refine below_drewN ?_ _ | with_reducible refine below_drew ?_ | (simp; done) | (simp; omega) | omega))
  clear hK K
  (try simp only [Act.put, List.setIfInBounds_toArray, List.set_cons_zero, List.set_cons_succ])
  refine wpAnyH_ready (rs := [10]) (by kernel_rfl) (by simp) ?_
  refine AllReadyH.cons (o := ⟨some 15, _, _, _, _, _⟩) rfl (fun K hK => ?_) AllReadyH.nil
  go_simp
  refine hK.out _ _ ?_ (fun hHeld => ?_)
  · (try dsimp only)
    (repeat' (first | with_reducible exact Below.refl _ _ | with_reducible assumption | with_reducible refine bel_alloc ?_ _ | with_reducible refine bel_set ?_ ?_ _ | with_reducible refine below_drewN ?_ _ | with_reducible refine below_drew ?_ | (simp; done) | (simp; omega) | omega))
  clear hK K
  (try simp only [Act.put, List.setIfInBounds_toArray, List.set_cons_zero, List.set_cons_succ])
  refine wpAnyH_ready (rs := [11]) (by kernel_rfl) (by simp) ?_
  refine AllReadyH.cons (o := ⟨some 16, _, _, _, _, _⟩) rfl (fun K hK => ?_) AllReadyH.nil
  go_simp
  go_at_call 37
  refine (or_any w0.heap.size _ _ _ (Has.new w0 _ _ rfl).drew).mono ?_
  rintro e_r _ ⟨rfl, rfl⟩
  go_wp2_with fail
  refine hK.out _ _ ?_ (fun hHeld => ?_)
  · (try dsimp only)
    (repeat' (first | with_reducible exact Below.refl _ _ | with_reducible assumption | with_reducible refine bel_alloc ?_ _ | with_reducible refine bel_set ?_ ?_ _ | with_reducible refine below_drewN ?_ _ | with_reducible refine below_drew ?_ | (simp; done) | (simp; omega) | omega))
  clear hK K
  (try simp only [Act.put, List.setIfInBounds_toArray, List.set_cons_zero, List.set_cons_succ])
  refine wpAnyH_take (i := 12) (oi := ⟨some 4, _, _, _, _, _⟩) (v := ?_) rfl (by kernel_rfl) (by kernel_rfl) (by kernel_rfl) (fun _ _ _ h => h) (Or.inl ⟨by rfl, ?_⟩) hHeld ?_
  rotate_left
  · intro ww hSw
    (try dsimp only at hSw)
    go_simp
    (try with_reducible rfl)
  simp only [Act.put, List.setIfInBounds_toArray, List.set_cons_zero, List.set_cons_succ]
  refine wpAnyH_done (by kernel_rfl) ?_ _
  refine NoPanic.normal ?_
  go_wp2
  go_ret
  refine ⟨ret_one HF.out, 1, #[.cells ca 33, .cells cb 33, .cells #[.int .i64 (cmpI ta tb), .int .i64 (cmpI ia ib)] 3], ?_⟩
  rw [HW0.out, alloc_eq_grow, alloc_eq_grow, alloc_eq_grow, grow_grow, grow_grow, drew_grow]
  rfl
theorem order_at (a b : EvP) (W : World) : Calls Try.prog 30 #[.agg (evC a), .agg (evC b)] W fun e w' => e = .returned (.int .i64 (cfE a b)) ∧ Below W.heap.size W w' :=
  (order_any a b W).mono fun e w' ⟨h, q, os, hw⟩ => ⟨h, by subst hw; exact below_growE (below_drewN (Below.refl _ _) q) (Nat.le_refl _) os⟩
theorem less_any (a b : EvP) (W : World) : Calls Try.prog 12 #[.agg (evC a), .agg (evC b)] W fun e w' => e = .returned (.bool (lessE a b)) ∧ Below W.heap.size W w' := by
  have HO := Lib.hid (order_at a b)
  have HL := Lib.hid (cf_less a b)
  have z1 := evC_size a
  have z2 := evC_size b
  generalize evC a = ca at *
  generalize evC b = cb at *
  generalize cfE a b = cf at *
  have Z1 := Lib.hid z1
  have Z2 := Lib.hid z2
  clear z1 z2
  go_enter Try.func12, Try.ntmps12
  go_wp2_with (first | (refine wpList_load_e (o := ⟨some 5, _, _, _, _, _⟩) (by rfl) _ rfl W.heap.size rfl ca ((Has.new W _ ca rfl).alloc _) Z1.out ?_) | (refine wpList_load_e (o := ⟨some 6, _, _, _, _, _⟩) (by rfl) _ rfl (W.heap.size + 1) rfl cb (Has.new _ _ cb (by simp)) Z2.out ?_))
  refine (HO.out _).mono ?_
  rintro e w1 ⟨rfl, hb⟩
  go_wp2
  go_ret
  exact ⟨ret_bool HL.out, bel_on (bel_alloc (bel_alloc (Below.refl _ _) _) _) hb⟩
end Go.Proofs.Ytgfomfioagblfaa
