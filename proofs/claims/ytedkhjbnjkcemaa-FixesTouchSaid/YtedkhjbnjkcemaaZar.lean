/-
  The document's own answer, whether an event is fair, and whether it may be in a setup.
-/
import Derived.Test.YtedkhjbnjkcemaaZai
import Derived.Test.YtedkhjbnjkcemaaZap
namespace Go.Proofs.Ytedkhjbnjkcemaa
open Go.RowKit
set_option linter.unusedVariables false
set_option linter.unusedSimpArgs false
set_option maxRecDepth 20000

def mnI (x y : Int) : Int := if y < x then y else x
theorem run_min7 {P : Program} {w : World} (ts : Array TypeId) (t : TypeId) (a b c d e f g : Int) : (Builtin.min_ ts t #[.int .i64 a, .int .i64 b, .int .i64 c, .int .i64 d, .int .i64 e, .int .i64 f, .int .i64 g]).run P w = .ok (.int .i64 (mnI (mnI (mnI (mnI (mnI (mnI a b) c) d) e) f) g)) w := by
  have h2 : ∀ x y : Int, Builtin.min2 (.int .i64 x) (.int .i64 y) = pure (.int .i64 (mnI x y)) := fun _ _ => rfl
  simp only [Builtin.min_, List.foldlM_cons, List.foldlM_nil, h2, pure_bind, Sem.run_pure]
theorem mn_le {x y z : Int} : z ≤ mnI x y ↔ z ≤ x ∧ z ≤ y := by
  unfold mnI
  split <;> omega
theorem wpList_min7 {P : Program} {ops : Array Oper} {rest : List Oper} {o : Oper} {a : Act} {w : World} {Q : Exit → Act → World → Prop} {x1 x2 x3 x4 x5 x6 x7 : Operand} {ts : Array TypeId} (n1 n2 n3 n4 n5 n6 n7 : Int) (hgd : o.guard = none)
    (ho : o.op = .call { callee := .builtin .min, args := #[x1, x2, x3, x4, x5, x6, x7], argTypes := ts }) (h1 : a.eval x1 = .int .i64 n1) (h2 : a.eval x2 = .int .i64 n2) (h3 : a.eval x3 = .int .i64 n3) (h4 : a.eval x4 = .int .i64 n4) (h5 : a.eval x5 = .int .i64 n5) (h6 : a.eval x6 = .int .i64 n6) (h7 : a.eval x7 = .int .i64 n7)
    (m : Int) (hm : mnI (mnI (mnI (mnI (mnI (mnI n1 n2) n3) n4) n5) n6) n7 = m)
    (h : wpList P ops Q rest (a.put o.dst (.int .i64 m)) w) : wpList P ops Q (o :: rest) a w := by
  refine wpList_plain hgd fun K hK => ?_
  unfold Oper.wp execOp
  simp only [ho, resolve, invoke, builtin, Sem.run_bind, Sem.run_pure, Result.andThen_ok, List.map_toArray, List.map_cons, List.map_nil, h1, h2, h3, h4, h5, h6, h7, run_min7, hm]
  exact hK _ _ h
set_option maxHeartbeats 4000000 in
theorem rfair_any (e : EvP) (hi : e.In) (W : World) (r : Bool) (hr : decide e.Fair = r) :
    Calls Try.prog 47 #[.agg (evC e)] W fun x w' => x = .returned (.bool r) ∧ Below W.heap.size W w' := by
  have hR : Hid (e.Fair ↔ r = true) := Lib.hid (by rw [← hr]; simp)
  rw [fair_iff0] at hR
  obtain ⟨i, w, t, k, a, b, c, d, g, j, m⟩ := e
  simp only at hR
  obtain ⟨i1, w1, t1, k1, a1, b1, c1, d1, g1, j1, m1⟩ := hi
  simp only at i1 w1 t1 k1 a1 b1 c1 d1 g1 j1 m1
  simp only [evC]
  clear hr
  by_cases hbase : ((0 ≤ i ∧ i ≤ 100000) ∧ 0 ≤ w ∧ (0 ≤ t ∧ t ≤ 31449599) ∧ 1 ≤ k ∧ k ≤ 7)
  rotate_left
  · have c : i < 0 ∨ (0 ≤ i ∧ 100000 < i) ∨ ((0 ≤ i ∧ i ≤ 100000) ∧ w < 0) ∨ ((0 ≤ i ∧ i ≤ 100000) ∧ 0 ≤ w ∧ t < 0) ∨ ((0 ≤ i ∧ i ≤ 100000) ∧ 0 ≤ w ∧ 0 ≤ t ∧ 31449599 < t) ∨ ((0 ≤ i ∧ i ≤ 100000) ∧ 0 ≤ w ∧ (0 ≤ t ∧ t ≤ 31449599) ∧ k < 1) ∨ ((0 ≤ i ∧ i ≤ 100000) ∧ 0 ≤ w ∧ (0 ≤ t ∧ t ≤ 31449599) ∧ 1 ≤ k ∧ 7 < k) := by omega
    obtain rfl : r = false := by
      cases r
      · rfl
      · exfalso
        obtain ⟨h1, h2, h3, h4, -⟩ := hR.out.2 rfl
        exact hbase ⟨h1, h2.1, h3, h4⟩
    clear hR hbase i1 w1 t1 k1 a1 b1 c1 d1 g1 j1 m1
    rcases c with h | ⟨h1, h⟩ | ⟨⟨h1, h2⟩, h⟩ | ⟨⟨h1, h2⟩, h3, h⟩ | ⟨⟨h1, h2⟩, h3, h4, h⟩ | ⟨⟨h1, h2⟩, h3, ⟨h4, h5⟩, h⟩ | ⟨⟨h1, h2⟩, h3, ⟨h4, h5⟩, h6, h⟩
    all_goals
      go_enter Try.func47, Try.ntmps47
      go_wp2
      go_ret
      exact ⟨rfl, by (repeat' (first | with_reducible exact Below.refl _ _ | with_reducible assumption | with_reducible refine bel_alloc ?_ _ | with_reducible refine bel_set ?_ ?_ _ | with_reducible refine below_drewN ?_ _ | with_reducible refine below_drew ?_ | (simp; done) | (simp; omega) | omega))⟩
  · obtain ⟨⟨h1, h2⟩, h3, ⟨h4, h5⟩, h6, h7⟩ := hbase
    obtain ⟨z, hz⟩ : ∃ z, mnI (mnI (mnI (mnI (mnI (mnI a b) c) d) g) j) m = z := ⟨_, rfl⟩
    obtain ⟨y, hy⟩ : ∃ y, mxI (mxI (mxI (mxI (mxI a b) c) d) g) j = y := ⟨_, rfl⟩
    have z0 : 0 ≤ z ↔ (0 ≤ a ∧ 0 ≤ b ∧ 0 ≤ c ∧ 0 ≤ d ∧ 0 ≤ g ∧ 0 ≤ j ∧ 0 ≤ m) := by
      rw [← hz]
      simp only [mn_le]
      omega
    have y0 : y ≤ 0 ↔ (a ≤ 0 ∧ b ≤ 0 ∧ c ≤ 0 ∧ d ≤ 0 ∧ g ≤ 0 ∧ j ≤ 0) := by
      rw [← hy]
      simp only [mx_le]
      omega
    have ym : 0 ≤ a → 0 ≤ y := fun h => by
      rw [← hy]
      have q : ∀ {u v : Int}, 0 ≤ u → 0 ≤ mxI u v := fun {u v} h => by unfold mxI; split <;> omega
      exact q (q (q (q (q h))))
    have HZ := Lib.hid hz
    have HY := Lib.hid hy
    have Z0 := Lib.hid z0
    have Y0 := Lib.hid y0
    have YM := Lib.hid ym
    clear hz hy z0 y0 ym
    by_cases hn : z < 0
    · obtain rfl : r = false := by
        cases r
        · rfl
        · exfalso
          obtain ⟨-, -, -, -, q1, q2, q3, q4, q5, q6, q7, -⟩ := hR.out.2 rfl
          have := Z0.out.2 ⟨q1.1, q2.1, q3.1, q4.1, q5.1, q6.1, q7.1⟩
          omega
      clear hR Z0 Y0 YM i1 w1 t1 k1 a1 b1 c1 d1 g1 j1 m1
      go_enter Try.func47, Try.ntmps47
      go_wp2_with (refine wpList_min7 a b c d g j m rfl rfl rfl rfl rfl rfl rfl rfl rfl z HZ.out ?_)
      go_ret
      exact ⟨rfl, by (repeat' (first | with_reducible exact Below.refl _ _ | with_reducible assumption | with_reducible refine bel_alloc ?_ _ | with_reducible refine bel_set ?_ ?_ _ | with_reducible refine below_drewN ?_ _ | with_reducible refine below_drew ?_ | (simp; done) | (simp; omega) | omega))⟩
    · have hn0 : 0 ≤ z := by omega
      obtain ⟨p1, p2, p3, p4, p5, p6, p7⟩ := Z0.out.1 hn0
      have hy0 := YM.out p1
      have HR : Hid ((k = 3 ∨ y = 0) ∧ (k = 4 ∨ m = 0) ↔ r = true) := Lib.hid (by
        rw [← hR.out]
        constructor
        · rintro ⟨q1, q2⟩
          refine ⟨⟨h1, h2⟩, ⟨h3, w1.2⟩, ⟨h4, h5⟩, ⟨h6, h7⟩, ⟨p1, a1.2⟩, ⟨p2, b1.2⟩, ⟨p3, c1.2⟩, ⟨p4, d1.2⟩, ⟨p5, g1.2⟩, ⟨p6, j1.2⟩, ⟨p7, m1.2⟩, ?_, q2⟩
          rcases q1 with q1 | q1
          · exact .inl q1
          · have := Y0.out.1 (by omega)
            exact .inr ⟨by omega, by omega, by omega, by omega, by omega, by omega⟩
        · rintro ⟨-, -, -, -, -, -, -, -, -, -, -, q1, q2⟩
          refine ⟨?_, q2⟩
          rcases q1 with q1 | q1
          · exact .inl q1
          · have := Y0.out.2 (by omega)
            exact .inr (by omega))
      clear hR Z0 Y0 YM i1 w1 t1 k1 a1 b1 c1 d1 g1 j1 m1 hn0 p1 p2 p3 p4 p5 p6 p7 hy0
      have ways : (k = 3 ∧ m = 0) ∨ (k = 3 ∧ ¬ m = 0) ∨ (¬ k = 3 ∧ ¬ y = 0) ∨ (¬ k = 3 ∧ y = 0 ∧ k = 4) ∨ (¬ k = 3 ∧ y = 0 ∧ ¬ k = 4 ∧ m = 0) ∨ (¬ k = 3 ∧ y = 0 ∧ ¬ k = 4 ∧ ¬ m = 0) := by
        by_cases k3 : k = 3 <;> by_cases k4 : k = 4 <;> by_cases m0 : m = 0 <;> by_cases y0 : y = 0 <;> simp [k3, k4, m0, y0] <;> omega
      rcases ways with ⟨q1, q2⟩ | ⟨q1, q2⟩ | ⟨q1, q2⟩ | ⟨q1, q2, q3⟩ | ⟨q1, q2, q3, q4⟩ | ⟨q1, q2, q3, q4⟩
      · obtain rfl : r = true := HR.out.1 ⟨.inl q1, .inr q2⟩
        clear HR
        subst q1 q2
        go_enter Try.func47, Try.ntmps47
        go_wp2_with (first | refine wpList_min7 a b c d g j 0 rfl rfl rfl rfl rfl rfl rfl rfl rfl z HZ.out ?_ | refine wpList_max6 a b c d g j rfl rfl rfl rfl rfl rfl rfl rfl y HY.out ?_)
        go_ret
        exact ⟨rfl, by (repeat' (first | with_reducible exact Below.refl _ _ | with_reducible assumption | with_reducible refine bel_alloc ?_ _ | with_reducible refine bel_set ?_ ?_ _ | with_reducible refine below_drewN ?_ _ | with_reducible refine below_drew ?_ | (simp; done) | (simp; omega) | omega))⟩
      · obtain rfl : r = false := by
          cases r
          · rfl
          · have := HR.out.2 rfl
            omega
        clear HR
        subst q1
        have qm : (m == 0) = false := by simpa using q2
        go_enter Try.func47, Try.ntmps47
        go_wp2_with (first | refine wpList_min7 a b c d g j m rfl rfl rfl rfl rfl rfl rfl rfl rfl z HZ.out ?_ | refine wpList_max6 a b c d g j rfl rfl rfl rfl rfl rfl rfl rfl y HY.out ?_)
        go_ret
        exact ⟨rfl, by (repeat' (first | with_reducible exact Below.refl _ _ | with_reducible assumption | with_reducible refine bel_alloc ?_ _ | with_reducible refine bel_set ?_ ?_ _ | with_reducible refine below_drewN ?_ _ | with_reducible refine below_drew ?_ | (simp; done) | (simp; omega) | omega))⟩
      · obtain rfl : r = false := by
          cases r
          · rfl
          · have := HR.out.2 rfl
            omega
        clear HR
        go_enter Try.func47, Try.ntmps47
        go_wp2_with (first | refine wpList_min7 a b c d g j m rfl rfl rfl rfl rfl rfl rfl rfl rfl z HZ.out ?_ | refine wpList_max6 a b c d g j rfl rfl rfl rfl rfl rfl rfl rfl y HY.out ?_)
        go_ret
        exact ⟨rfl, by (repeat' (first | with_reducible exact Below.refl _ _ | with_reducible assumption | with_reducible refine bel_alloc ?_ _ | with_reducible refine bel_set ?_ ?_ _ | with_reducible refine below_drewN ?_ _ | with_reducible refine below_drew ?_ | (simp; done) | (simp; omega) | omega))⟩
      · obtain rfl : r = true := HR.out.1 ⟨.inr q2, .inl q3⟩
        clear HR
        subst q2 q3
        go_enter Try.func47, Try.ntmps47
        go_wp2_with (first | refine wpList_min7 a b c d g j m rfl rfl rfl rfl rfl rfl rfl rfl rfl z HZ.out ?_ | refine wpList_max6 a b c d g j rfl rfl rfl rfl rfl rfl rfl rfl 0 HY.out ?_)
        go_ret
        exact ⟨rfl, by (repeat' (first | with_reducible exact Below.refl _ _ | with_reducible assumption | with_reducible refine bel_alloc ?_ _ | with_reducible refine bel_set ?_ ?_ _ | with_reducible refine below_drewN ?_ _ | with_reducible refine below_drew ?_ | (simp; done) | (simp; omega) | omega))⟩
      · obtain rfl : r = true := HR.out.1 ⟨.inr q2, .inr q4⟩
        clear HR
        subst q2 q4
        go_enter Try.func47, Try.ntmps47
        go_wp2_with (first | refine wpList_min7 a b c d g j 0 rfl rfl rfl rfl rfl rfl rfl rfl rfl z HZ.out ?_ | refine wpList_max6 a b c d g j rfl rfl rfl rfl rfl rfl rfl rfl 0 HY.out ?_)
        go_ret
        exact ⟨rfl, by (repeat' (first | with_reducible exact Below.refl _ _ | with_reducible assumption | with_reducible refine bel_alloc ?_ _ | with_reducible refine bel_set ?_ ?_ _ | with_reducible refine below_drewN ?_ _ | with_reducible refine below_drew ?_ | (simp; done) | (simp; omega) | omega))⟩
      · obtain rfl : r = false := by
          cases r
          · rfl
          · have := HR.out.2 rfl
            omega
        clear HR
        subst q2
        have qm : (m == 0) = false := by simpa using q4
        have qk : (k == 4) = false := by simpa using q3
        go_enter Try.func47, Try.ntmps47
        go_wp2_with (first | refine wpList_min7 a b c d g j m rfl rfl rfl rfl rfl rfl rfl rfl rfl z HZ.out ?_ | refine wpList_max6 a b c d g j rfl rfl rfl rfl rfl rfl rfl rfl 0 HY.out ?_)
        go_ret
        exact ⟨rfl, by (repeat' (first | with_reducible exact Below.refl _ _ | with_reducible assumption | with_reducible refine bel_alloc ?_ _ | with_reducible refine bel_set ?_ ?_ _ | with_reducible refine below_drewN ?_ _ | with_reducible refine below_drew ?_ | (simp; done) | (simp; omega) | omega))⟩
set_option maxHeartbeats 4000000 in
theorem rcheck8_any (cs : Array Value) (pl : Int) (nE nC nG nR : Nat) (hs : SetS cs pl nE nC nG nR) (e : EvP) (hi : e.In) (W : World) (b : Bool) (hb : decide (e.May pl nE nC nG nR) = b) :
    Calls Try.prog 25 #[.agg cs, .agg (evC e)] W fun r w' => r = .returned (.bool b) ∧ Below W.heap.size W w' := by
  obtain ⟨h23, hone, c0, ⟨A4, k4, c4⟩, ⟨A5, k5, c5⟩, ⟨A6, k6, c6⟩, ⟨A18, k18, c18⟩⟩ := hs
  have HF : Hid (∀ w, Calls Try.prog 47 #[.agg (evC e)] w fun r w' => r = .returned (.bool (decide e.Fair)) ∧ Below w.heap.size w w') := Lib.hid (fun w => rfair_any e hi w _ rfl)
  have hB : Hid (e.May pl nE nC nG nR ↔ b = true) := Lib.hid (by rw [← hb]; simp)
  obtain ⟨i, w, t, k, a, b1, c, d, g, j, m⟩ := e
  unfold EvP.May at hB
  simp only at hB
  have d1 : (evC ⟨i, w, t, k, a, b1, c, d, g, j, m⟩)[1]? = some (.int .i64 w) := rfl
  have d3 : (evC ⟨i, w, t, k, a, b1, c, d, g, j, m⟩)[3]? = some (.int .i64 k) := rfl
  have d4 : (evC ⟨i, w, t, k, a, b1, c, d, g, j, m⟩)[4]? = some (.int .i64 a) := rfl
  have d5 : (evC ⟨i, w, t, k, a, b1, c, d, g, j, m⟩)[5]? = some (.int .i64 b1) := rfl
  have d6 : (evC ⟨i, w, t, k, a, b1, c, d, g, j, m⟩)[6]? = some (.int .i64 c) := rfl
  have d7 : (evC ⟨i, w, t, k, a, b1, c, d, g, j, m⟩)[7]? = some (.int .i64 d) := rfl
  have d8 : (evC ⟨i, w, t, k, a, b1, c, d, g, j, m⟩)[8]? = some (.int .i64 g) := rfl
  have d9 : (evC ⟨i, w, t, k, a, b1, c, d, g, j, m⟩)[9]? = some (.int .i64 j) := rfl
  have d10 : (evC ⟨i, w, t, k, a, b1, c, d, g, j, m⟩)[10]? = some (.int .i64 m) := rfl
  have hz := evC_size ⟨i, w, t, k, a, b1, c, d, g, j, m⟩
  have ways : Hid (¬ (⟨i, w, t, k, a, b1, c, d, g, j, m⟩ : EvP).Fair ∨ (⟨i, w, t, k, a, b1, c, d, g, j, m⟩ : EvP).Fair) := Lib.hid (by by_cases h : (⟨i, w, t, k, a, b1, c, d, g, j, m⟩ : EvP).Fair; exact .inr h; exact .inl h)
  clear hi hb
  generalize hes : evC ⟨i, w, t, k, a, b1, c, d, g, j, m⟩ = es at *
  clear hes
  have HZ := Lib.hid hz
  have H23 := Lib.hid h23
  have HO := Lib.hid hone
  clear hz h23 hone
  have cell : ∀ (w1 : World), Below (W.heap.size + 1 + 1) ((W.alloc (.cells cs 30)).alloc (.cells es 33)) w1 → Has w1 W.heap.size cs ∧ Has w1 (W.heap.size + 1) es ∧ Below W.heap.size W w1 := fun w1 h => by
    have h' : Below ((W.alloc (.cells cs 30)).alloc (.cells es 33)).heap.size ((W.alloc (.cells cs 30)).alloc (.cells es 33)) w1 := by simpa using h
    exact ⟨((Has.new W _ cs rfl).alloc _).below h', (Has.new _ _ es (by simp)).below h', bel_on (bel_alloc (bel_alloc (Below.refl _ _) _) _) h'⟩
  have CELL := Lib.hid cell
  clear cell
  rcases ways.out with hf | hf
  · rw [decide_eq_false hf] at HF
    have hb : b = false := by
      have := hB.out
      cases b
      · rfl
      · exact absurd (this.2 rfl).1 hf
    subst hb
    clear hB ways hf
    go_enter Try.func25, Try.ntmps25
    go_wp2_with (refine wpList_load_e (by rfl) _ rfl (W.heap.size + 1) rfl es (Has.new _ _ es (by simp)) HZ.out ?_)
    refine (HF.out _).mono ?_
    rintro r w1 ⟨rfl, b1⟩
    go_wp2
    go_ret
    exact ⟨rfl, (CELL.out w1 (by simpa using b1)).2.2⟩
  · rw [decide_eq_true hf] at HF
    have HM0 : Hid (k = 4 ∨ m = 0) := Lib.hid hf.code
    have ways2 : (nR : Int) ≤ w ∨ (w < nR ∧ k ≠ 3 ∧ k ≠ 4) ∨ (w < nR ∧ k = 4 ∧ m ≤ 99) ∨ (w < nR ∧ k = 4 ∧ 99 < m) ∨ (w < nR ∧ k = 3 ∧ pl ≤ a) ∨ (w < nR ∧ k = 3 ∧ a < pl ∧ pl ≤ b1) ∨ (w < nR ∧ k = 3 ∧ a < pl ∧ b1 < pl ∧ nE ≤ c) ∨
      (w < nR ∧ k = 3 ∧ a < pl ∧ b1 < pl ∧ c < nE ∧ nC ≤ g) ∨ (w < nR ∧ k = 3 ∧ a < pl ∧ b1 < pl ∧ c < nE ∧ g < nC ∧ nG ≤ j) ∨ (w < nR ∧ k = 3 ∧ a < pl ∧ b1 < pl ∧ c < nE ∧ g < nC ∧ j < nG ∧ 10000 < d) ∨ (w < nR ∧ k = 3 ∧ a < pl ∧ b1 < pl ∧ c < nE ∧ g < nC ∧ j < nG ∧ d ≤ 10000) := by
      by_cases q1 : (nR : Int) ≤ w
      · exact .inl q1
      have q1' : w < nR := by omega
      by_cases q2 : k = 3
      · by_cases q3 : a < pl
        · by_cases q4 : b1 < pl
          · by_cases q5 : c < nE
            · by_cases q6 : g < nC
              · by_cases q7 : j < nG
                · by_cases q8 : d ≤ 10000
                  · exact .inr (.inr (.inr (.inr (.inr (.inr (.inr (.inr (.inr (.inr ⟨q1', q2, q3, q4, q5, q6, q7, q8⟩)))))))))
                  · exact .inr (.inr (.inr (.inr (.inr (.inr (.inr (.inr (.inr (.inl ⟨q1', q2, q3, q4, q5, q6, q7, by omega⟩)))))))))
                · exact .inr (.inr (.inr (.inr (.inr (.inr (.inr (.inr (.inl ⟨q1', q2, q3, q4, q5, q6, by omega⟩))))))))
              · exact .inr (.inr (.inr (.inr (.inr (.inr (.inr (.inl ⟨q1', q2, q3, q4, q5, by omega⟩)))))))
            · exact .inr (.inr (.inr (.inr (.inr (.inr (.inl ⟨q1', q2, q3, q4, by omega⟩))))))
          · exact .inr (.inr (.inr (.inr (.inr (.inl ⟨q1', q2, q3, by omega⟩)))))
        · exact .inr (.inr (.inr (.inr (.inl ⟨q1', q2, by omega⟩))))
      · by_cases q3 : k = 4
        · by_cases q4 : m ≤ 99
          · exact .inr (.inr (.inl ⟨q1', q3, q4⟩))
          · exact .inr (.inr (.inr (.inl ⟨q1', q3, by omega⟩)))
        · exact .inr (.inl ⟨q1', q2, q3⟩)
    have H9 : Hid (((w < nR ∧ (k = 3 → a < pl ∧ b1 < pl ∧ c < nE ∧ g < nC ∧ j < nG ∧ d ≤ 10000)) ∧ (k = 4 → m ≤ 99)) ↔ b = true) := Lib.hid ⟨fun h => hB.out.1 ⟨hf, h.1.1, h.1.2, h.2⟩, fun h => ⟨⟨(hB.out.2 h).2.1, (hB.out.2 h).2.2.1⟩, (hB.out.2 h).2.2.2⟩⟩
    clear hB hf ways
    rcases ways2 with h1 | ⟨h1, h2, h3⟩ | ⟨h1, rfl, h3⟩ | ⟨h1, rfl, h3⟩ | ⟨h1, rfl, h3⟩ | ⟨h1, rfl, h3, h4⟩ | ⟨h1, rfl, h3, h4, h5⟩ | ⟨h1, rfl, h3, h4, h5, h6⟩ | ⟨h1, rfl, h3, h4, h5, h6, h7⟩ | ⟨h1, rfl, h3, h4, h5, h6, h7, h8⟩ | ⟨h1, rfl, h3, h4, h5, h6, h7, h8⟩
    · skip
      obtain rfl : b = false := by
        have this := H9.out
        cases b
        · rfl
        · exfalso
          have h := this.2 rfl
          have := h.1.1
          omega
      clear H9
      go_enter Try.func25, Try.ntmps25
      go_wp2_with (refine wpList_load_e (by rfl) _ rfl (W.heap.size + 1) rfl es (Has.new _ _ es (by simp)) HZ.out ?_)
      refine (HF.out _).mono ?_
      rintro r w1 ⟨rfl, hb1⟩
      obtain ⟨HS, HE, hbF⟩ := CELL.out w1 (by simpa using hb1)
      have s0 := HS.cell 0 c0
      have s4 := HS.cell 4 c4
      have s5 := HS.cell 5 c5
      have s6 := HS.cell 6 c6
      have s18 := HS.cell 18 c18
      have e1 := HE.cell 1 d1
      have e3 := HE.cell 3 d3
      have e4 := HE.cell 4 d4
      have e5 := HE.cell 5 d5
      have e6 := HE.cell 6 d6
      have e7 := HE.cell 7 d7
      have e8 := HE.cell 8 d8
      have e9 := HE.cell 9 d9
      have e10 := HE.cell 10 d10
      have z1 := HS.size
      have z2 := HE.size
      have HBF := Lib.hid hbF
      clear HS HE hb1 hbF c0 c4 c5 c6 c18 d1 d3 d4 d5 d6 d7 d8 d9 d10 HF CELL HZ H23 HO
      go_wp2
      go_ret
      refine ⟨?_, HBF.out⟩
      first
      | rfl
      | exact ret_bool (decide_eq_false (by omega))
      | exact ret_bool (decide_eq_true (by omega))
    · skip
      obtain rfl : b = true := H9.out.1 (⟨⟨h1, fun e => absurd e h2⟩, fun e => absurd e h3⟩)
      obtain rfl : m = 0 := by have := HM0.out; omega
      clear H9
      go_enter Try.func25, Try.ntmps25
      go_wp2_with (refine wpList_load_e (by rfl) _ rfl (W.heap.size + 1) rfl es (Has.new _ _ es (by simp)) HZ.out ?_)
      refine (HF.out _).mono ?_
      rintro r w1 ⟨rfl, hb1⟩
      obtain ⟨HS, HE, hbF⟩ := CELL.out w1 (by simpa using hb1)
      have s0 := HS.cell 0 c0
      have s4 := HS.cell 4 c4
      have s5 := HS.cell 5 c5
      have s6 := HS.cell 6 c6
      have s18 := HS.cell 18 c18
      have e1 := HE.cell 1 d1
      have e3 := HE.cell 3 d3
      have e4 := HE.cell 4 d4
      have e5 := HE.cell 5 d5
      have e6 := HE.cell 6 d6
      have e7 := HE.cell 7 d7
      have e8 := HE.cell 8 d8
      have e9 := HE.cell 9 d9
      have e10 := HE.cell 10 d10
      have z1 := HS.size
      have z2 := HE.size
      have HBF := Lib.hid hbF
      clear HS HE hb1 hbF c0 c4 c5 c6 c18 d1 d3 d4 d5 d6 d7 d8 d9 d10 HF CELL HZ H23 HO
      go_wp2
      go_ret
      refine ⟨?_, HBF.out⟩
      first
      | rfl
      | exact ret_bool (decide_eq_false (by omega))
      | exact ret_bool (decide_eq_true (by omega))
    · skip
      obtain rfl : b = true := H9.out.1 (⟨⟨h1, fun e => by omega⟩, fun _ => h3⟩)
      clear H9
      go_enter Try.func25, Try.ntmps25
      go_wp2_with (refine wpList_load_e (by rfl) _ rfl (W.heap.size + 1) rfl es (Has.new _ _ es (by simp)) HZ.out ?_)
      refine (HF.out _).mono ?_
      rintro r w1 ⟨rfl, hb1⟩
      obtain ⟨HS, HE, hbF⟩ := CELL.out w1 (by simpa using hb1)
      have s0 := HS.cell 0 c0
      have s4 := HS.cell 4 c4
      have s5 := HS.cell 5 c5
      have s6 := HS.cell 6 c6
      have s18 := HS.cell 18 c18
      have e1 := HE.cell 1 d1
      have e3 := HE.cell 3 d3
      have e4 := HE.cell 4 d4
      have e5 := HE.cell 5 d5
      have e6 := HE.cell 6 d6
      have e7 := HE.cell 7 d7
      have e8 := HE.cell 8 d8
      have e9 := HE.cell 9 d9
      have e10 := HE.cell 10 d10
      have z1 := HS.size
      have z2 := HE.size
      have HBF := Lib.hid hbF
      clear HS HE hb1 hbF c0 c4 c5 c6 c18 d1 d3 d4 d5 d6 d7 d8 d9 d10 HF CELL HZ H23 HO
      go_wp2
      go_ret
      refine ⟨?_, HBF.out⟩
      first
      | rfl
      | exact ret_bool (decide_eq_false (by omega))
      | exact ret_bool (decide_eq_true (by omega))
    · skip
      obtain rfl : b = false := by
        have this := H9.out
        cases b
        · rfl
        · exfalso
          have h := this.2 rfl
          have := h.2 rfl
          omega
      clear H9
      go_enter Try.func25, Try.ntmps25
      go_wp2_with (refine wpList_load_e (by rfl) _ rfl (W.heap.size + 1) rfl es (Has.new _ _ es (by simp)) HZ.out ?_)
      refine (HF.out _).mono ?_
      rintro r w1 ⟨rfl, hb1⟩
      obtain ⟨HS, HE, hbF⟩ := CELL.out w1 (by simpa using hb1)
      have s0 := HS.cell 0 c0
      have s4 := HS.cell 4 c4
      have s5 := HS.cell 5 c5
      have s6 := HS.cell 6 c6
      have s18 := HS.cell 18 c18
      have e1 := HE.cell 1 d1
      have e3 := HE.cell 3 d3
      have e4 := HE.cell 4 d4
      have e5 := HE.cell 5 d5
      have e6 := HE.cell 6 d6
      have e7 := HE.cell 7 d7
      have e8 := HE.cell 8 d8
      have e9 := HE.cell 9 d9
      have e10 := HE.cell 10 d10
      have z1 := HS.size
      have z2 := HE.size
      have HBF := Lib.hid hbF
      clear HS HE hb1 hbF c0 c4 c5 c6 c18 d1 d3 d4 d5 d6 d7 d8 d9 d10 HF CELL HZ H23 HO
      go_wp2
      go_ret
      refine ⟨?_, HBF.out⟩
      first
      | rfl
      | exact ret_bool (decide_eq_false (by omega))
      | exact ret_bool (decide_eq_true (by omega))
    · skip
      obtain rfl : b = false := by
        have this := H9.out
        cases b
        · rfl
        · exfalso
          have h := this.2 rfl
          obtain ⟨g1, g2, g3, g4, g5, g6⟩ := h.1.2 rfl
          omega
      clear H9
      go_enter Try.func25, Try.ntmps25
      go_wp2_with (refine wpList_load_e (by rfl) _ rfl (W.heap.size + 1) rfl es (Has.new _ _ es (by simp)) HZ.out ?_)
      refine (HF.out _).mono ?_
      rintro r w1 ⟨rfl, hb1⟩
      obtain ⟨HS, HE, hbF⟩ := CELL.out w1 (by simpa using hb1)
      have s0 := HS.cell 0 c0
      have s4 := HS.cell 4 c4
      have s5 := HS.cell 5 c5
      have s6 := HS.cell 6 c6
      have s18 := HS.cell 18 c18
      have e1 := HE.cell 1 d1
      have e3 := HE.cell 3 d3
      have e4 := HE.cell 4 d4
      have e5 := HE.cell 5 d5
      have e6 := HE.cell 6 d6
      have e7 := HE.cell 7 d7
      have e8 := HE.cell 8 d8
      have e9 := HE.cell 9 d9
      have e10 := HE.cell 10 d10
      have z1 := HS.size
      have z2 := HE.size
      have HBF := Lib.hid hbF
      clear HS HE hb1 hbF c0 c4 c5 c6 c18 d1 d3 d4 d5 d6 d7 d8 d9 d10 HF CELL HZ H23 HO
      go_wp2
      go_ret
      refine ⟨?_, HBF.out⟩
      first
      | rfl
      | exact ret_bool (decide_eq_false (by omega))
      | exact ret_bool (decide_eq_true (by omega))
    · skip
      obtain rfl : b = false := by
        have this := H9.out
        cases b
        · rfl
        · exfalso
          have h := this.2 rfl
          obtain ⟨g1, g2, g3, g4, g5, g6⟩ := h.1.2 rfl
          omega
      clear H9
      go_enter Try.func25, Try.ntmps25
      go_wp2_with (refine wpList_load_e (by rfl) _ rfl (W.heap.size + 1) rfl es (Has.new _ _ es (by simp)) HZ.out ?_)
      refine (HF.out _).mono ?_
      rintro r w1 ⟨rfl, hb1⟩
      obtain ⟨HS, HE, hbF⟩ := CELL.out w1 (by simpa using hb1)
      have s0 := HS.cell 0 c0
      have s4 := HS.cell 4 c4
      have s5 := HS.cell 5 c5
      have s6 := HS.cell 6 c6
      have s18 := HS.cell 18 c18
      have e1 := HE.cell 1 d1
      have e3 := HE.cell 3 d3
      have e4 := HE.cell 4 d4
      have e5 := HE.cell 5 d5
      have e6 := HE.cell 6 d6
      have e7 := HE.cell 7 d7
      have e8 := HE.cell 8 d8
      have e9 := HE.cell 9 d9
      have e10 := HE.cell 10 d10
      have z1 := HS.size
      have z2 := HE.size
      have HBF := Lib.hid hbF
      clear HS HE hb1 hbF c0 c4 c5 c6 c18 d1 d3 d4 d5 d6 d7 d8 d9 d10 HF CELL HZ H23 HO
      go_wp2
      go_ret
      refine ⟨?_, HBF.out⟩
      first
      | rfl
      | exact ret_bool (decide_eq_false (by omega))
      | exact ret_bool (decide_eq_true (by omega))
    · skip
      obtain rfl : b = false := by
        have this := H9.out
        cases b
        · rfl
        · exfalso
          have h := this.2 rfl
          obtain ⟨g1, g2, g3, g4, g5, g6⟩ := h.1.2 rfl
          omega
      clear H9
      go_enter Try.func25, Try.ntmps25
      go_wp2_with (refine wpList_load_e (by rfl) _ rfl (W.heap.size + 1) rfl es (Has.new _ _ es (by simp)) HZ.out ?_)
      refine (HF.out _).mono ?_
      rintro r w1 ⟨rfl, hb1⟩
      obtain ⟨HS, HE, hbF⟩ := CELL.out w1 (by simpa using hb1)
      have s0 := HS.cell 0 c0
      have s4 := HS.cell 4 c4
      have s5 := HS.cell 5 c5
      have s6 := HS.cell 6 c6
      have s18 := HS.cell 18 c18
      have e1 := HE.cell 1 d1
      have e3 := HE.cell 3 d3
      have e4 := HE.cell 4 d4
      have e5 := HE.cell 5 d5
      have e6 := HE.cell 6 d6
      have e7 := HE.cell 7 d7
      have e8 := HE.cell 8 d8
      have e9 := HE.cell 9 d9
      have e10 := HE.cell 10 d10
      have z1 := HS.size
      have z2 := HE.size
      have HBF := Lib.hid hbF
      clear HS HE hb1 hbF c0 c4 c5 c6 c18 d1 d3 d4 d5 d6 d7 d8 d9 d10 HF CELL HZ H23 HO
      go_wp2
      go_ret
      refine ⟨?_, HBF.out⟩
      first
      | rfl
      | exact ret_bool (decide_eq_false (by omega))
      | exact ret_bool (decide_eq_true (by omega))
    · skip
      obtain rfl : b = false := by
        have this := H9.out
        cases b
        · rfl
        · exfalso
          have h := this.2 rfl
          obtain ⟨g1, g2, g3, g4, g5, g6⟩ := h.1.2 rfl
          omega
      clear H9
      go_enter Try.func25, Try.ntmps25
      go_wp2_with (refine wpList_load_e (by rfl) _ rfl (W.heap.size + 1) rfl es (Has.new _ _ es (by simp)) HZ.out ?_)
      refine (HF.out _).mono ?_
      rintro r w1 ⟨rfl, hb1⟩
      obtain ⟨HS, HE, hbF⟩ := CELL.out w1 (by simpa using hb1)
      have s0 := HS.cell 0 c0
      have s4 := HS.cell 4 c4
      have s5 := HS.cell 5 c5
      have s6 := HS.cell 6 c6
      have s18 := HS.cell 18 c18
      have e1 := HE.cell 1 d1
      have e3 := HE.cell 3 d3
      have e4 := HE.cell 4 d4
      have e5 := HE.cell 5 d5
      have e6 := HE.cell 6 d6
      have e7 := HE.cell 7 d7
      have e8 := HE.cell 8 d8
      have e9 := HE.cell 9 d9
      have e10 := HE.cell 10 d10
      have z1 := HS.size
      have z2 := HE.size
      have HBF := Lib.hid hbF
      clear HS HE hb1 hbF c0 c4 c5 c6 c18 d1 d3 d4 d5 d6 d7 d8 d9 d10 HF CELL HZ H23 HO
      go_wp2
      go_ret
      refine ⟨?_, HBF.out⟩
      first
      | rfl
      | exact ret_bool (decide_eq_false (by omega))
      | exact ret_bool (decide_eq_true (by omega))
    · skip
      obtain rfl : b = false := by
        have this := H9.out
        cases b
        · rfl
        · exfalso
          have h := this.2 rfl
          obtain ⟨g1, g2, g3, g4, g5, g6⟩ := h.1.2 rfl
          omega
      clear H9
      go_enter Try.func25, Try.ntmps25
      go_wp2_with (refine wpList_load_e (by rfl) _ rfl (W.heap.size + 1) rfl es (Has.new _ _ es (by simp)) HZ.out ?_)
      refine (HF.out _).mono ?_
      rintro r w1 ⟨rfl, hb1⟩
      obtain ⟨HS, HE, hbF⟩ := CELL.out w1 (by simpa using hb1)
      have s0 := HS.cell 0 c0
      have s4 := HS.cell 4 c4
      have s5 := HS.cell 5 c5
      have s6 := HS.cell 6 c6
      have s18 := HS.cell 18 c18
      have e1 := HE.cell 1 d1
      have e3 := HE.cell 3 d3
      have e4 := HE.cell 4 d4
      have e5 := HE.cell 5 d5
      have e6 := HE.cell 6 d6
      have e7 := HE.cell 7 d7
      have e8 := HE.cell 8 d8
      have e9 := HE.cell 9 d9
      have e10 := HE.cell 10 d10
      have z1 := HS.size
      have z2 := HE.size
      have HBF := Lib.hid hbF
      clear HS HE hb1 hbF c0 c4 c5 c6 c18 d1 d3 d4 d5 d6 d7 d8 d9 d10 HF CELL HZ H23 HO
      go_wp2
      go_ret
      refine ⟨?_, HBF.out⟩
      first
      | rfl
      | exact ret_bool (decide_eq_false (by omega))
      | exact ret_bool (decide_eq_true (by omega))
    · skip
      obtain rfl : b = false := by
        have this := H9.out
        cases b
        · rfl
        · exfalso
          have h := this.2 rfl
          obtain ⟨g1, g2, g3, g4, g5, g6⟩ := h.1.2 rfl
          omega
      clear H9
      go_enter Try.func25, Try.ntmps25
      go_wp2_with (refine wpList_load_e (by rfl) _ rfl (W.heap.size + 1) rfl es (Has.new _ _ es (by simp)) HZ.out ?_)
      refine (HF.out _).mono ?_
      rintro r w1 ⟨rfl, hb1⟩
      obtain ⟨HS, HE, hbF⟩ := CELL.out w1 (by simpa using hb1)
      have s0 := HS.cell 0 c0
      have s4 := HS.cell 4 c4
      have s5 := HS.cell 5 c5
      have s6 := HS.cell 6 c6
      have s18 := HS.cell 18 c18
      have e1 := HE.cell 1 d1
      have e3 := HE.cell 3 d3
      have e4 := HE.cell 4 d4
      have e5 := HE.cell 5 d5
      have e6 := HE.cell 6 d6
      have e7 := HE.cell 7 d7
      have e8 := HE.cell 8 d8
      have e9 := HE.cell 9 d9
      have e10 := HE.cell 10 d10
      have z1 := HS.size
      have z2 := HE.size
      have HBF := Lib.hid hbF
      clear HS HE hb1 hbF c0 c4 c5 c6 c18 d1 d3 d4 d5 d6 d7 d8 d9 d10 HF CELL HZ H23 HO
      go_wp2
      go_ret
      refine ⟨?_, HBF.out⟩
      first
      | rfl
      | exact ret_bool (decide_eq_false (by omega))
      | exact ret_bool (decide_eq_true (by omega))
    · skip
      obtain rfl : b = true := H9.out.1 (⟨⟨h1, fun _ => ⟨h3, h4, h5, h6, h7, h8⟩⟩, fun e => by omega⟩)
      clear H9
      go_enter Try.func25, Try.ntmps25
      go_wp2_with (refine wpList_load_e (by rfl) _ rfl (W.heap.size + 1) rfl es (Has.new _ _ es (by simp)) HZ.out ?_)
      refine (HF.out _).mono ?_
      rintro r w1 ⟨rfl, hb1⟩
      obtain ⟨HS, HE, hbF⟩ := CELL.out w1 (by simpa using hb1)
      have s0 := HS.cell 0 c0
      have s4 := HS.cell 4 c4
      have s5 := HS.cell 5 c5
      have s6 := HS.cell 6 c6
      have s18 := HS.cell 18 c18
      have e1 := HE.cell 1 d1
      have e3 := HE.cell 3 d3
      have e4 := HE.cell 4 d4
      have e5 := HE.cell 5 d5
      have e6 := HE.cell 6 d6
      have e7 := HE.cell 7 d7
      have e8 := HE.cell 8 d8
      have e9 := HE.cell 9 d9
      have e10 := HE.cell 10 d10
      have z1 := HS.size
      have z2 := HE.size
      have HBF := Lib.hid hbF
      clear HS HE hb1 hbF c0 c4 c5 c6 c18 d1 d3 d4 d5 d6 d7 d8 d9 d10 HF CELL HZ H23 HO
      go_wp2
      go_ret
      refine ⟨?_, HBF.out⟩
      first
      | rfl
      | exact ret_bool (decide_eq_false (by omega))
      | exact ret_bool (decide_eq_true (by omega))
end Go.Proofs.Ytedkhjbnjkcemaa
