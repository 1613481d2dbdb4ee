/-
  Sorts that keep alike ones in their order: what each exchange keeps. No program here.
-/
import Derived.Test.YtdhkfhgggkndoaaEvPlain
import Derived.Sort.LotA
namespace Go.Proofs.Ytdhkfhgggkndoaa
open Go.Sort
set_option linter.unusedVariables false
set_option linter.unusedSimpArgs false

instance inhEv : Inhabited EvP := ⟨EvP.none⟩
theorem swoE : SWO lessE := ⟨ev_less_irr, fun _ _ _ => ev_less_trans, fun _ _ _ => ev_less_not⟩
/-- Alike ones stand in the same order. -/
def Stab (d d' : Array EvP) : Prop := ∀ k, d'.toList.filter (alikeE k) = d.toList.filter (alikeE k)
theorem Stab.rfl' (d : Array EvP) : Stab d d := fun _ => rfl
theorem Stab.trans {d d' d'' : Array EvP} (h : Stab d d') (h' : Stab d' d'') : Stab d d'' := fun k => (h' k).trans (h k)
theorem list_two {α : Type} (l : List α) (j : Nat) (h : j + 1 < l.length) : ∃ A x y B, l = A ++ x :: y :: B ∧ A.length = j ∧ l[j] = x ∧ l[j + 1] = y := by
  refine ⟨l.take j, l[j], l[j + 1], l.drop (j + 2), ?_, by rw [List.length_take]; omega, rfl, rfl⟩
  conv => lhs; rw [← List.take_append_drop j l]
  rw [List.drop_eq_getElem_cons (by omega), List.drop_eq_getElem_cons (by omega)]
theorem swap_list {α : Type} (A B : List α) (x y : α) (j : Nat) (h : A.length = j) : ((A ++ x :: y :: B).set (j + 1) x).set j y = A ++ y :: x :: B := by
  subst h
  rw [List.set_append_right _ _ (by omega), List.set_append_right _ _ (by omega)]
  simp
theorem swp_adj {d : Array EvP} {j : Nat} (h : j + 1 < d.size) : ∃ A x y B, d.toList = A ++ x :: y :: B ∧ A.length = j ∧ d[j]! = x ∧ d[j + 1]! = y ∧ (swp d (j + 1) j).toList = A ++ y :: x :: B ∧ (swp d j (j + 1)).toList = A ++ y :: x :: B := by
  obtain ⟨A, x, y, B, h1, h2, h3, h4⟩ := list_two d.toList j (by simpa using h)
  have e1 : d[j]! = x := by rw [getElem!_pos d j (by omega), ← h3]; simp
  have e2 : d[j + 1]! = y := by rw [getElem!_pos d (j + 1) h, ← h4]; simp
  refine ⟨A, x, y, B, h1, h2, e1, e2, ?_, ?_⟩
  · unfold swp
    rw [e1, e2, Array.toList_setIfInBounds, Array.toList_setIfInBounds, h1]
    exact swap_list A B x y j h2
  · unfold swp
    rw [e1, e2, Array.toList_setIfInBounds, Array.toList_setIfInBounds, h1, List.set_comm _ _ (by omega)]
    exact swap_list A B x y j h2
theorem alike_not_less {k x y : EvP} (h1 : alikeE k x = true) (h2 : alikeE k y = true) : lessE x y = false ∧ lessE y x = false := by
  simp only [alikeE, decide_eq_true_eq] at h1 h2
  simp only [lessE, decide_eq_false_iff_not]
  omega
theorem stab_pair {A B : List EvP} {x y : EvP} (h : lessE x y = true ∨ lessE y x = true) (k : EvP) : (A ++ y :: x :: B).filter (alikeE k) = (A ++ x :: y :: B).filter (alikeE k) := by
  rw [List.filter_append, List.filter_append]
  congr 1
  cases hx : alikeE k x with
  | false => simp [List.filter_cons, hx]
  | true =>
    cases hy : alikeE k y with
    | false => simp [List.filter_cons, hy]
    | true =>
      obtain ⟨h1, h2⟩ := alike_not_less hx hy
      rw [h1, h2] at h
      simp at h
theorem stab_swp {d : Array EvP} {j : Nat} (h : j + 1 < d.size) (hl : lessE d[j + 1]! d[j]! = true ∨ lessE d[j]! d[j + 1]! = true) : Stab d (swp d (j + 1) j) ∧ Stab d (swp d j (j + 1)) := by
  obtain ⟨A, x, y, B, h1, h2, h3, h4, h5, h6⟩ := swp_adj h
  rw [h3, h4] at hl
  exact ⟨fun k => by rw [h5, h1]; exact stab_pair hl.symm k, fun k => by rw [h6, h1]; exact stab_pair hl.symm k⟩
theorem stab_inner (a : Nat) : ∀ (j : Nat) (d : Array EvP), j < d.size → Stab d (insInner lessE a j d)
  | 0, d, _ => Stab.rfl' d
  | j + 1, d, h => by
    rw [insInner]
    split
    · rename_i hc
      simp only [Bool.and_eq_true, decide_eq_true_eq] at hc
      exact (stab_swp h (.inl hc.2)).1.trans (stab_inner a j _ (by rw [size_swp]; omega))
    · exact Stab.rfl' d
theorem inner_size (a : Nat) : ∀ (j : Nat) (d : Array EvP), (insInner lessE a j d).size = d.size
  | 0, d => rfl
  | j + 1, d => by
    rw [insInner]
    split
    · rw [inner_size a j, size_swp]
    · rfl
theorem stab_outer (a b : Nat) : ∀ (k i : Nat) (d : Array EvP), b - i = k → b ≤ d.size → Stab d (insOuter lessE a b i d) ∧ (insOuter lessE a b i d).size = d.size
  | 0, i, d, hk, hb => by
    rw [insOuter, if_neg (by omega)]
    exact ⟨Stab.rfl' d, rfl⟩
  | k + 1, i, d, hk, hb => by
    rw [insOuter, if_pos (by omega)]
    have hs := inner_size a i d
    obtain ⟨h1, h2⟩ := stab_outer a b k (i + 1) (insInner lessE a i d) (by omega) (by omega)
    exact ⟨(stab_inner a i d (by omega)).trans h1, by rw [h2, hs]⟩
/-- What a stable sort of a part makes. -/
def Mrg (a b : Nat) (d d' : Array EvP) : Prop := PermIn a b d d' ∧ SortedIn lessE a b d' ∧ Stab d d'
theorem ins_mrg (d : Array EvP) (a b : Nat) (hab : a ≤ b) (hb : b ≤ d.size) : Mrg a b d (insertionSort lessE d a b) := by
  obtain ⟨h1, h2⟩ := insertionSort_holds (lt := lessE) swoE d a b hab hb
  exact ⟨h1, h2, (stab_outer a b _ (a + 1) d rfl hb).1⟩
theorem risen_of_sorted : ∀ (l : List EvP), (∀ i j (hj : j < l.length) (hi : i < j), lessE l[j] (l[i]'(by omega)) = false) → Risen l
  | [], _ => trivial
  | x :: l, h => by
    refine ⟨fun y hy => ?_, risen_of_sorted l (fun i j hj hi => h (i + 1) (j + 1) (by simpa using hj) (by omega))⟩
    obtain ⟨j, hj, rfl⟩ := List.getElem_of_mem hy
    exact h 0 (j + 1) (by simpa using hj) (by omega)
theorem sorted_is {d d' : Array EvP} (hs : SortedIn lessE 0 d'.size d') (h : Stab d d') : d'.toList = sortE d.toList := by
  refine ev_sort_of (risen_of_sorted _ (fun i j hj hi => ?_)) h
  have hj' : j < d'.size := by simpa using hj
  have := hs i j (Nat.zero_le _) hi hj'
  rw [getElem!_pos d' j hj', getElem!_pos d' i (by omega)] at this
  simpa using this
end Go.Proofs.Ytdhkfhgggkndoaa
