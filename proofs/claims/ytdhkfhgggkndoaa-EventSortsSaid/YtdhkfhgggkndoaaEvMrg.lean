/-
  The library's merge in place: what rotating, and merging of two parts in order, make. No program here.
-/
import Derived.Test.YtdhkfhgggkndoaaEvStab
namespace Go.Proofs.Ytdhkfhgggkndoaa
open Go.Sort
set_option linter.unusedVariables false
set_option linter.unusedSimpArgs false

/-- Of two lists, one of which stands ahead of the other one, at most one has any that are alike to k. -/
theorem filter_one {Y X : List EvP} (h : ∀ y ∈ Y, ∀ x ∈ X, lessE y x = true) (k : EvP) : Y.filter (alikeE k) = [] ∨ X.filter (alikeE k) = [] := by
  by_cases hy : Y.filter (alikeE k) = []
  · exact .inl hy
  · by_cases hx : X.filter (alikeE k) = []
    · exact .inr hx
    · obtain ⟨y, hy⟩ := List.exists_mem_of_ne_nil _ hy
      obtain ⟨x, hx⟩ := List.exists_mem_of_ne_nil _ hx
      rw [List.mem_filter] at hx hy
      have h1 := h y hy.1 x hx.1
      have h2 := (alike_not_less hy.2 hx.2).1
      rw [h1] at h2
      cases h2
theorem less_asym {x y : EvP} (h : lessE x y = true) : lessE y x = false := by
  simp only [lessE, decide_eq_true_eq, decide_eq_false_iff_not] at *
  omega
theorem merge_cut {X1 X2 Y1 Y2 : List EvP} (hX : Risen (X1 ++ X2)) (hY : Risen (Y1 ++ Y2)) (h1 : ∀ y ∈ Y1, ∀ x ∈ X2, lessE y x = true) (h2 : ∀ x ∈ X1, ∀ y ∈ Y2, lessE y x = false) :
    sortE (X1 ++ Y1) ++ sortE (X2 ++ Y2) = sortE ((X1 ++ X2) ++ (Y1 ++ Y2)) := by
  obtain ⟨-, -, hXX⟩ := (risen_append _ _).1 hX
  obtain ⟨-, -, hYY⟩ := (risen_append _ _).1 hY
  refine ev_sort_of ((risen_append _ _).2 ⟨ev_sort_risen _, ev_sort_risen _, fun a ha b hb => ?_⟩) (fun k => ?_)
  · have ha' := (ev_sort_perm _).mem_iff.1 ha
    have hb' := (ev_sort_perm _).mem_iff.1 hb
    rcases List.mem_append.1 ha' with p | p <;> rcases List.mem_append.1 hb' with q | q
    · exact hXX a p b q
    · exact h2 a p b q
    · exact less_asym (h1 a p b q)
    · exact hYY a p b q
  · simp only [List.filter_append, ev_sort_alike]
    rcases filter_one h1 k with e | e <;> simp [e]
/-- A single one, put in. -/
theorem merge_left {x : EvP} {Y1 Y2 : List EvP} (hY : Risen (Y1 ++ Y2)) (h1 : ∀ y ∈ Y1, lessE y x = true) (h2 : ∀ y ∈ Y2, lessE y x = false) :
    Y1 ++ x :: Y2 = sortE (x :: (Y1 ++ Y2)) := by
  obtain ⟨r1, r2, hYY⟩ := (risen_append _ _).1 hY
  refine ev_sort_of ((risen_append _ _).2 ⟨r1, ⟨h2, r2⟩, fun a ha b hb => ?_⟩) (fun k => ?_)
  · rcases List.mem_cons.1 hb with rfl | hb
    · exact less_asym (h1 a ha)
    · exact hYY a ha b hb
  · rw [show x :: (Y1 ++ Y2) = [x] ++ (Y1 ++ Y2) from rfl, show Y1 ++ x :: Y2 = Y1 ++ ([x] ++ Y2) from rfl]
    simp only [List.filter_append]
    rcases filter_one (X := [x]) (Y := Y1) (fun y hy z hz => by rw [List.mem_singleton.1 hz]; exact h1 y hy) k with e | e <;> simp [e]
theorem merge_right {y : EvP} {X1 X2 : List EvP} (hX : Risen (X1 ++ X2)) (h1 : ∀ x ∈ X2, lessE y x = true) (h2 : ∀ x ∈ X1, lessE y x = false) :
    X1 ++ y :: X2 = sortE ((X1 ++ X2) ++ [y]) := by
  obtain ⟨r1, r2, hXX⟩ := (risen_append _ _).1 hX
  refine ev_sort_of ((risen_append _ _).2 ⟨r1, ⟨fun b hb => less_asym (h1 b hb), r2⟩, fun a ha b hb => ?_⟩) (fun k => ?_)
  · rcases List.mem_cons.1 hb with rfl | hb
    · exact h2 a ha
    · exact hXX a ha b hb
  · rw [show X1 ++ y :: X2 = X1 ++ ([y] ++ X2) from rfl]
    simp only [List.filter_append]
    rcases filter_one (Y := [y]) (X := X2) (fun z hz x hx => by rw [List.mem_singleton.1 hz]; exact h1 x hx) k with e | e <;> simp [e]
/-! ### Places in a list of parts -/
def atE (d : List EvP) (i : Nat) : EvP := d.getD i EvP.none
theorem atE_mid {P Q : List EvP} {x : EvP} {i : Nat} (h : P.length = i) : atE (P ++ x :: Q) i = x := by
  subst h
  simp [atE]
theorem atE_off {P X Q : List EvP} {i : Nat} (h : P.length ≤ i) (h2 : i < P.length + X.length) : atE (P ++ X ++ Q) i = X[i - P.length]'(by omega) := by
  unfold atE
  rw [List.getD_eq_getElem?_getD, List.append_assoc, List.getElem?_append_right h, List.getElem?_append_left (by omega), List.getElem?_eq_getElem (by omega), Option.getD_some]
theorem risen_get {l : List EvP} (h : Risen l) : ∀ i j (hj : j < l.length) (hi : i ≤ j), lessE l[j] (l[i]'(by omega)) = false := by
  induction l with
  | nil => intro i j hj; simp at hj
  | cons x l ih =>
    intro i j hj hi
    cases j with
    | zero => obtain rfl : i = 0 := by omega
              exact ev_less_irr _
    | succ j =>
      cases i with
      | zero => exact h.1 _ (List.getElem_mem _)
      | succ i => exact ih h.2 i j (by simpa using hj) (by omega)
theorem less_le {a b c : EvP} (h : lessE a b = true) (h' : lessE c b = false) : lessE a c = true := by
  simp only [lessE, decide_eq_true_eq, decide_eq_false_iff_not] at *
  omega
theorem le_less {a b c : EvP} (h : lessE b a = false) (h' : lessE b c = true) : lessE a c = true := by
  simp only [lessE, decide_eq_true_eq, decide_eq_false_iff_not] at *
  omega
/-- Where the search of the merge ends, both parts are cut. -/
theorem sym_cut {P X Y S : List EvP} {a m b mid n start0 r0 start : Nat} (ha : P.length = a) (hm : a + X.length = m) (hb : m + Y.length = b) (ham : a < m) (hmb : m < b) (hmid : mid = (a + b) / 2) (hn : n = mid + m)
    (hc : mid < m ∧ start0 = n - b ∧ r0 = mid ∨ m ≤ mid ∧ start0 = a ∧ r0 = m) (h0 : start0 ≤ start) (h1 : start ≤ r0) (hX : Risen X) (hY : Risen Y)
    (lo : start = start0 ∨ lessE (atE (P ++ X ++ Y ++ S) (n - 1 - (start - 1))) (atE (P ++ X ++ Y ++ S) (start - 1)) = false)
    (hi : start = r0 ∨ lessE (atE (P ++ X ++ Y ++ S) (n - 1 - start)) (atE (P ++ X ++ Y ++ S) start) = true) :
    ∃ X1 X2 Y1 Y2, X = X1 ++ X2 ∧ Y = Y1 ++ Y2 ∧ a + X1.length = start ∧ m + Y1.length = n - start ∧ a ≤ start ∧ start ≤ m ∧ m ≤ n - start ∧ n - start ≤ b ∧
      (∀ y ∈ Y1, ∀ x ∈ X2, lessE y x = true) ∧ (∀ x ∈ X1, ∀ y ∈ Y2, lessE y x = false) := by
  have hgX : ∀ i, a ≤ i → (hi : i < m) → atE (P ++ X ++ Y ++ S) i = X[i - a]'(by omega) := fun i h2 h3 => by
    subst ha
    rw [List.append_assoc]
    exact atE_off h2 (by omega)
  have hgY : ∀ i, m ≤ i → (hi : i < b) → atE (P ++ X ++ Y ++ S) i = Y[i - m]'(by omega) := fun i h2 h3 => by
    have hl : (P ++ X).length = m := by simp; omega
    have := atE_off (P := P ++ X) (X := Y) (Q := S) (i := i) (by omega) (by omega)
    rw [this]
    simp only [hl]
  have b1 : a ≤ start := by omega
  have b2 : start ≤ m := by omega
  have b3 : m ≤ n - start := by omega
  have b4 : n - start ≤ b := by omega
  refine ⟨X.take (start - a), X.drop (start - a), Y.take (n - start - m), Y.drop (n - start - m), (List.take_append_drop ..).symm, (List.take_append_drop ..).symm, by rw [List.length_take]; omega, by rw [List.length_take]; omega, b1, b2, b3, b4, ?_, ?_⟩
  · intro y hy x hx
    obtain ⟨q, hq, rfl⟩ := List.getElem_of_mem hy
    obtain ⟨c, hc', rfl⟩ := List.getElem_of_mem hx
    rw [List.length_take] at hq
    rw [List.length_drop] at hc'
    rw [List.getElem_take, List.getElem_drop]
    rcases hi with e | hi
    · rcases hc with ⟨c1, c2, c3⟩ | ⟨c1, c2, c3⟩ <;> omega
    · have s1 : start < m := by omega
      have s2 : m ≤ n - 1 - start := by omega
      have s3 : n - 1 - start < b := by omega
      rw [hgY _ s2 s3, hgX _ b1 s1] at hi
      have k1 := risen_get hY q (n - 1 - start - m) (by omega) (by omega)
      have k2 := risen_get hX (start - a) (start - a + c) (by omega) (by omega)
      exact le_less k1 (less_le hi k2)
  · intro x hx y hy
    obtain ⟨q, hq, rfl⟩ := List.getElem_of_mem hy
    obtain ⟨c, hc', rfl⟩ := List.getElem_of_mem hx
    rw [List.length_drop] at hq
    rw [List.length_take] at hc'
    rw [List.getElem_take, List.getElem_drop]
    rcases lo with e | lo
    · rcases hc with ⟨c1, c2, c3⟩ | ⟨c1, c2, c3⟩ <;> omega
    · by_cases hs : start = start0
      · rcases hc with ⟨c1, c2, c3⟩ | ⟨c1, c2, c3⟩ <;> omega
      · have s1 : a ≤ start - 1 := by omega
        have s4 : start - 1 < m := by omega
        have s2 : m ≤ n - 1 - (start - 1) := by omega
        have s3 : n - 1 - (start - 1) < b := by omega
        rw [hgY _ s2 s3, hgX _ s1 s4] at lo
        have k1 := risen_get hX c (start - 1 - a) (by omega) (by omega)
        have k2 := risen_get hY (n - 1 - (start - 1) - m) (n - start - m + q) (by omega) (by omega)
        exact ev_less_not k2 (ev_less_not lo k1)
end Go.Proofs.Ytdhkfhgggkndoaa
