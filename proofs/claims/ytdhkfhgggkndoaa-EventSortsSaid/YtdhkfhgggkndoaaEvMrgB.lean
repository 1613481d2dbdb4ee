/-
  The library's merge in place: exchanges, as lists. No program here.
-/
import Derived.Test.YtdhkfhgggkndoaaEvMrg
namespace Go.Proofs.Ytdhkfhgggkndoaa
open Go.Sort
set_option linter.unusedVariables false
set_option linter.unusedSimpArgs false

theorem swp_comm (d : Array EvP) {p q : Nat} (h : p ≠ q) : swp d q p = swp d p q := by
  unfold swp
  rw [Array.setIfInBounds_comm _ _ (Ne.symm h)]
theorem swp_parts {d : Array EvP} {A B C : List EvP} {x z : EvP} {p q : Nat} (h : d.toList = A ++ x :: (B ++ z :: C)) (hp : A.length = p) (hq : p + 1 + B.length = q) :
    (swp d p q).toList = A ++ z :: (B ++ x :: C) ∧ (swp d q p).toList = A ++ z :: (B ++ x :: C) ∧ p < d.size ∧ q < d.size := by
  have hl : d.size = d.toList.length := by simp
  rw [h] at hl
  simp only [List.length_append, List.length_cons] at hl
  have h1 : p < d.size := by omega
  have h2 : q < d.size := by omega
  have e1 : d[p]! = x := by
    rw [getElem!_pos d p h1, ← Array.getElem_toList]
    simp only [h]
    subst hp
    simp
  have e2 : d[q]! = z := by
    rw [getElem!_pos d q h2, ← Array.getElem_toList]
    simp only [h]
    have : (A ++ x :: (B ++ z :: C)) = (A ++ x :: B) ++ z :: C := by simp
    simp only [this]
    rw [List.getElem_append_right (by simp; omega)]
    have e : q - (A ++ x :: B).length = 0 := by simp; omega
    simp only [e, List.getElem_cons_zero]
  have k : (swp d p q).toList = A ++ z :: (B ++ x :: C) := by
    unfold swp
    rw [e1, e2, Array.toList_setIfInBounds, Array.toList_setIfInBounds, h]
    have e : A ++ x :: (B ++ z :: C) = (A ++ x :: B) ++ z :: C := by simp
    subst hp
    rw [List.set_append_right _ _ (Nat.le_refl _), Nat.sub_self, List.set_cons_zero]
    rw [show A ++ z :: (B ++ z :: C) = (A ++ z :: B) ++ z :: C by simp, List.set_append_right _ _ (by simp; omega)]
    rw [show q - (A ++ z :: B).length = 0 by simp; omega, List.set_cons_zero]
    simp
  exact ⟨k, by rw [swp_comm d (by omega)]; exact k, h1, h2⟩
theorem size_list (d : Array EvP) : d.size = d.toList.length := by simp
theorem at_list (d : Array EvP) {i : Nat} (hi : i < d.size) : d[i]! = atE d.toList i := by
  rw [getElem!_pos d i hi, atE, List.getD_eq_getElem?_getD, List.getElem?_eq_getElem (by simpa using hi), Option.getD_some]
  simp
/-- A list, cut at a place. -/
theorem cut_at {α : Type} (l : List α) (n : Nat) (h : n ≤ l.length) : ∃ A B, l = A ++ B ∧ A.length = n := ⟨l.take n, l.drop n, (List.take_append_drop ..).symm, by rw [List.length_take]; omega⟩
theorem cut_last {α : Type} (l : List α) (h : 0 < l.length) : ∃ A x, l = A ++ [x] := ⟨l.dropLast, l.getLast (by intro e; simp [e] at h), (List.dropLast_concat_getLast _).symm⟩
theorem cut_head {α : Type} (l : List α) (h : 0 < l.length) : ∃ x A, l = x :: A := by
  cases l with
  | nil => simp at h
  | cons x A => exact ⟨x, A, rfl⟩
/-- The search of one, put in from the left: where it ends. -/
theorem one_left {P Y S : List EvP} {x : EvP} {a m b i : Nat} (ha : P.length = a) (hm : m = a + 1) (hb : m + Y.length = b) (h0 : m ≤ i) (h1 : i ≤ b) (hY : Risen Y)
    (lo : i = m ∨ lessE (atE (P ++ [x] ++ Y ++ S) (i - 1)) x = true) (hi : i = b ∨ lessE (atE (P ++ [x] ++ Y ++ S) i) x = false) :
    ∃ Y1 Y2, Y = Y1 ++ Y2 ∧ m + Y1.length = i ∧ Y1 ++ x :: Y2 = sortE ([x] ++ Y) := by
  have hgY : ∀ i, (hl0 : m ≤ i) → (hi : i < b) → atE (P ++ [x] ++ Y ++ S) i = Y[i - m]'(by omega) := fun i h2 h3 => by
    have hl : (P ++ [x]).length = m := by simp; omega
    have := atE_off (P := P ++ [x]) (X := Y) (Q := S) (i := i) (by omega) (by omega)
    rw [this]
    simp only [hl]
  obtain ⟨Y1, Y2, rfl, hl⟩ := cut_at Y (i - m) (by omega)
  refine ⟨Y1, Y2, rfl, by omega, merge_left hY (fun y hy => ?_) (fun y hy => ?_)⟩
  · obtain ⟨q, hq, rfl⟩ := List.getElem_of_mem hy
    rcases lo with e | lo
    · omega
    · rw [hgY _ (by omega) (by omega)] at lo
      have k := risen_get hY q (i - 1 - m) (by omega) (by omega)
      rw [List.getElem_append_left (by omega : q < Y1.length)] at k
      exact le_less k lo
  · obtain ⟨q, hq, rfl⟩ := List.getElem_of_mem hy
    rw [List.length_append] at hb
    rcases hi with e | hi
    · omega
    · rw [hgY _ (by omega) (by omega)] at hi
      have k := risen_get hY (i - m) (i - m + q) (by rw [List.length_append]; omega) (by omega)
      have e : (Y1 ++ Y2)[i - m + q]'(by rw [List.length_append]; omega) = Y2[q] := by
        rw [List.getElem_append_right (by omega)]
        simp only [hl, Nat.add_sub_cancel_left]
      rw [e] at k
      exact ev_less_not k hi
theorem one_right {P X S : List EvP} {y : EvP} {a m i : Nat} (ha : P.length = a) (hm : a + X.length = m) (h0 : a ≤ i) (h1 : i ≤ m) (hX : Risen X)
    (lo : i = a ∨ lessE y (atE (P ++ X ++ [y] ++ S) (i - 1)) = false) (hi : i = m ∨ lessE y (atE (P ++ X ++ [y] ++ S) i) = true) :
    ∃ X1 X2, X = X1 ++ X2 ∧ a + X1.length = i ∧ X1 ++ y :: X2 = sortE (X ++ [y]) := by
  have hgX : ∀ i, (hl0 : a ≤ i) → (hi : i < m) → atE (P ++ X ++ [y] ++ S) i = X[i - a]'(by omega) := fun i h2 h3 => by
    subst ha
    rw [List.append_assoc]
    exact atE_off h2 (by omega)
  obtain ⟨X1, X2, rfl, hl⟩ := cut_at X (i - a) (by omega)
  refine ⟨X1, X2, rfl, by omega, merge_right hX (fun x hx => ?_) (fun x hx => ?_)⟩
  · obtain ⟨q, hq, rfl⟩ := List.getElem_of_mem hx
    rw [List.length_append] at hm
    rcases hi with e | hi
    · omega
    · rw [hgX _ (by omega) (by omega)] at hi
      have k := risen_get hX (i - a) (i - a + q) (by rw [List.length_append]; omega) (by omega)
      have e : (X1 ++ X2)[i - a + q]'(by rw [List.length_append]; omega) = X2[q] := by
        rw [List.getElem_append_right (by omega)]
        simp only [hl, Nat.add_sub_cancel_left]
      rw [e] at k
      exact less_le hi k
  · obtain ⟨q, hq, rfl⟩ := List.getElem_of_mem hx
    rcases lo with e | lo
    · omega
    · rw [hgX _ (by omega) (by omega)] at lo
      have k := risen_get hX q (i - 1 - a) (by omega) (by omega)
      rw [List.getElem_append_left (by omega : q < X1.length)] at k
      exact ev_less_not lo k
end Go.Proofs.Ytdhkfhgggkndoaa
