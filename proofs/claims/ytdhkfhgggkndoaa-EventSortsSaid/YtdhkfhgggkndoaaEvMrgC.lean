/-
  The library's stable sort: blocks that are in order, each twice as long as the ones before. No program here.
-/
import Derived.Test.YtdhkfhgggkndoaaEvMrgB
namespace Go.Proofs.Ytdhkfhgggkndoaa
open Go.Sort
set_option linter.unusedVariables false
set_option linter.unusedSimpArgs false

/-- A list, each block of bs in order. -/
def chs (bs : Nat) (l : List EvP) : List EvP := if h : 0 < bs ∧ l ≠ [] then sortE (l.take bs) ++ chs bs (l.drop bs) else []
termination_by l.length
decreasing_by
  have := List.length_pos_iff.2 h.2
  simp only [List.length_drop]
  omega
theorem chs_nil (bs : Nat) : chs bs [] = [] := by
  rw [chs, dif_neg (fun h => h.2 rfl)]
theorem chs_step {bs : Nat} (B r : List EvP) (hb : 0 < bs) (hB : B.length = bs) : chs bs (B ++ r) = sortE B ++ chs bs r := by
  rw [chs, dif_pos ⟨hb, fun e => by simp only [List.append_eq_nil_iff] at e; rw [e.1] at hB; simp at hB; omega⟩]
  subst hB
  rw [List.take_left, List.drop_left]
theorem chs_few {bs : Nat} (r : List EvP) (hb : 0 < bs) (h : r.length ≤ bs) : chs bs r = sortE r := by
  by_cases e : r = []
  · subst e
    rw [chs_nil]
    rfl
  · rw [chs, dif_pos ⟨hb, e⟩, List.take_of_length_le h, List.drop_eq_nil_of_le h, chs_nil, List.append_nil]
theorem sortE_join (A B : List EvP) : sortE (sortE A ++ sortE B) = sortE (A ++ B) :=
  ev_sort_of (ev_sort_risen _) (fun k => by rw [ev_sort_alike, List.filter_append, ev_sort_alike, ev_sort_alike, List.filter_append])
theorem sortE_len (l : List EvP) : (sortE l).length = l.length := (ev_sort_perm l).length_eq
theorem chs_len (bs : Nat) (hb : 0 < bs) : ∀ (n : Nat) (l : List EvP), l.length ≤ n → (chs bs l).length = l.length
  | 0, l, h => by
    have e : l = [] := List.length_eq_zero_iff.1 (by omega)
    subst e
    rw [chs_nil]
  | n + 1, l, h => by
    by_cases e : l.length ≤ bs
    · rw [chs_few l hb e, sortE_len]
    · obtain ⟨A, B, rfl, hA⟩ := cut_at l bs (by omega)
      rw [chs_step A B hb hA, List.length_append, List.length_append, sortE_len, chs_len bs hb n B (by rw [List.length_append] at h; omega)]
/-- Two blocks merged. -/
theorem chs_two {bs : Nat} (B1 B2 r : List EvP) (hb : 0 < bs) (h1 : B1.length = bs) (h2 : B2.length = bs) :
    chs bs (B1 ++ (B2 ++ r)) = sortE B1 ++ (sortE B2 ++ chs bs r) ∧ chs (2 * bs) (B1 ++ (B2 ++ r)) = sortE (sortE B1 ++ sortE B2) ++ chs (2 * bs) r := by
  refine ⟨by rw [chs_step _ _ hb h1, chs_step _ _ hb h2], ?_⟩
  rw [← List.append_assoc, chs_step (B1 ++ B2) r (by omega) (by rw [List.length_append]; omega), sortE_join]
theorem chs_rest {bs : Nat} (B1 B2 : List EvP) (hb : 0 < bs) (h1 : B1.length = bs) (h2 : B2.length ≤ bs) :
    chs bs (B1 ++ B2) = sortE B1 ++ sortE B2 ∧ chs (2 * bs) (B1 ++ B2) = sortE (sortE B1 ++ sortE B2) := by
  refine ⟨by rw [chs_step _ _ hb h1, chs_few B2 hb h2], ?_⟩
  rw [chs_few _ (by omega) (by rw [List.length_append]; omega), sortE_join]
theorem atE_left {P Q : List EvP} {i : Nat} (h : i < P.length) : atE (P ++ Q) i = P[i] := by
  unfold atE
  rw [List.getD_eq_getElem?_getD, List.getElem?_append_left h, List.getElem?_eq_getElem h, Option.getD_some]
theorem atE_right {P Q : List EvP} {i j : Nat} (h : P.length + j = i) (hj : j < Q.length) : atE (P ++ Q) i = Q[j] := by
  subst h
  unfold atE
  rw [List.getD_eq_getElem?_getD, List.getElem?_append_right (by omega), Nat.add_sub_cancel_left, List.getElem?_eq_getElem hj, Option.getD_some]
/-- What the insertion sort makes of a part, as lists. -/
theorem mrg_list {d d' : Array EvP} {P X S : List EvP} {a b : Nat} (h : Mrg a b d d') (hd : d.toList = P ++ (X ++ S)) (ha : P.length = a) (hb : a + X.length = b) : d'.toList = P ++ (sortE X ++ S) := by
  obtain ⟨⟨h1, h2, h3⟩, hs, hst⟩ := h
  have e := congrArg List.length hd
  simp only [List.length_append, Array.length_toList] at e
  obtain ⟨P', R, hd1, hP'⟩ := cut_at d'.toList a (by simp; omega)
  have e1 := congrArg List.length hd1
  simp only [List.length_append, Array.length_toList] at e1
  obtain ⟨X', S', rfl, hX'⟩ := cut_at R X.length (by omega)
  rw [List.length_append] at e1
  have at1 : ∀ i, i < d'.size → (i < a ∨ b ≤ i) → atE (P' ++ (X' ++ S')) i = atE (P ++ (X ++ S)) i := fun i hi ho => by
    rw [← hd1, ← hd, ← at_list d' hi, ← at_list d (by omega), h2 i ho]
  have eP : P' = P := List.ext_getElem (by omega) (fun i i1 i2 => by
    have := at1 i (by omega) (.inl (by omega))
    rwa [atE_left i1, atE_left i2] at this)
  have eS : S' = S := List.ext_getElem (by omega) (fun i i1 i2 => by
    have := at1 (b + i) (by omega) (.inr (by omega))
    rw [← List.append_assoc, ← List.append_assoc, atE_right (P := P' ++ X') (j := i) (by rw [List.length_append]; omega) i1, atE_right (P := P ++ X) (j := i) (by rw [List.length_append]; omega) i2] at this
    exact this)
  subst eP eS
  have hr : Risen X' := risen_of_sorted X' (fun i j hj hi => by
    have := hs (a + i) (a + j) (by omega) (by omega) (by omega)
    rw [at_list d' (by omega), at_list d' (by omega), hd1, atE_right (j := j) (by omega) (by rw [List.length_append]; omega), atE_right (j := i) (by omega) (by rw [List.length_append]; omega), List.getElem_append_left hj, List.getElem_append_left (by omega)] at this
    exact this)
  have hf : ∀ k, X'.filter (alikeE k) = X.filter (alikeE k) := fun k => by
    have := hst k
    rw [hd1, hd] at this
    simp only [List.filter_append] at this
    exact List.append_cancel_right (List.append_cancel_left this)
  rw [hd1, ← ev_sort_of hr hf]
end Go.Proofs.Ytdhkfhgggkndoaa
