/-
  What follows of corrections, plain: for the laws without the document's answer.
-/
import Derived.Test.YtedkhjbnjkcemaaZbf
namespace Go.Proofs.Ytedkhjbnjkcemaa
set_option linter.unusedVariables false
set_option linter.unusedSimpArgs false

theorem apply_ok {b : Bool} {l : List EvP} {k : Int} {x : EvP} {R : List EvP × Int} (h : applyE b l k x = R) (h0 : R.2 = 0) :
    (k = 1 ∧ b = true ∧ ixE l x.id = none ∧ R.1 = sortE (l ++ [x])) ∨ (∃ i, k = 2 ∧ ixE l x.id = some i ∧ R.1 = sortE (rmE l i)) ∨ (∃ i, k = 3 ∧ b = true ∧ ixE l x.id = some i ∧ R.1 = sortE (rmE l i ++ [x])) := by
  subst h
  unfold applyE at h0 ⊢
  by_cases h1 : k = 1
  · subst h1
    cases b with
    | false => simp at h0
    | true =>
      cases hx : ixE l x.id with
      | some i => simp [hx] at h0
      | none => exact .inl ⟨rfl, rfl, rfl, by simp⟩
  · by_cases h2 : k = 2
    · subst h2
      cases hx : ixE l x.id with
      | none => simp [hx] at h0
      | some i => exact .inr (.inl ⟨i, rfl, rfl, by simp⟩)
    · by_cases h3 : k = 3
      · subst h3
        cases b with
        | false => simp at h0
        | true =>
          cases hx : ixE l x.id with
          | none => simp [hx] at h0
          | some i => exact .inr (.inr ⟨i, rfl, rfl, rfl, by simp⟩)
      · rw [if_neg h1, if_neg h2, if_neg h3] at h0
        simp at h0
theorem apply_bad {b : Bool} {l : List EvP} {k : Int} {x : EvP} {R : List EvP × Int} (h : applyE b l k x = R) (h0 : R.2 ≠ 0) : R.1 = [] := by
  subst h
  unfold applyE at h0 ⊢
  by_cases h1 : k = 1
  · subst h1
    cases b with
    | false => simp
    | true =>
      cases hx : ixE l x.id with
      | some i => simp
      | none => simp [hx] at h0
  · by_cases h2 : k = 2
    · subst h2
      cases hx : ixE l x.id with
      | none => simp
      | some i => simp [hx] at h0
    · by_cases h3 : k = 3
      · subst h3
        cases b with
        | false => simp
        | true =>
          cases hx : ixE l x.id with
          | none => simp
          | some i => simp [hx] at h0
      · rw [if_neg h1, if_neg h2, if_neg h3]
theorem sortE_ris (l : List EvP) : Risen (sortE l) := ev_sort_risen l
theorem count_sort (l : List EvP) (y : EvP) : (sortE l).count y = l.count y := (ev_sort_perm l).count_eq y
theorem count_rm {l : List EvP} {i : Nat} {id : Int} (hx : ixE l id = some i) {y : EvP} (hy : y.id ≠ id) : (rmE l i).count y = l.count y := by
  obtain ⟨h1, h2, _⟩ := ixE_some hx
  have := (rmE_perm h1).count_eq y
  rw [this, List.count_cons_of_ne]
  intro e
  exact hy (by rw [← e]; exact h2)
theorem only_count {b : Bool} {l : List EvP} {k : Int} {x : EvP} {R : List EvP × Int} (h : applyE b l k x = R) (h0 : R.2 = 0) {y : EvP} (hy : y.id ≠ x.id) : l.count y = R.1.count y := by
  have hxy : ∀ z : EvP, z = x → z ≠ y := fun z hz e => hy (by rw [← e, hz])
  have h1 : [x].count y = 0 := by
    rw [List.count_eq_zero]
    intro hm
    exact hy (by rw [List.mem_singleton.1 hm])
  rcases apply_ok h h0 with ⟨_, _, _, e⟩ | ⟨i, _, hi, e⟩ | ⟨i, _, _, hi, e⟩
  · rw [e, count_sort, List.count_append, h1, Nat.add_zero]
  · rw [e, count_sort, count_rm hi hy]
  · rw [e, count_sort, List.count_append, h1, Nat.add_zero, count_rm hi hy]
theorem only_ris {b : Bool} {l : List EvP} {k : Int} {x : EvP} {R : List EvP × Int} (h : applyE b l k x = R) (h0 : R.2 = 0) : Risen R.1 := by
  rcases apply_ok h h0 with ⟨_, _, _, e⟩ | ⟨i, _, hi, e⟩ | ⟨i, _, _, hi, e⟩ <;> rw [e] <;> exact sortE_ris _
theorem only_len {b : Bool} {l : List EvP} {k : Int} {x : EvP} {R : List EvP × Int} (h : applyE b l k x = R) (h0 : R.2 = 0) : (k = 1 ∧ R.1.length = l.length + 1) ∨ (k = 2 ∧ R.1.length + 1 = l.length) ∨ (k = 3 ∧ R.1.length = l.length) := by
  rcases apply_ok h h0 with ⟨hk, _, _, e⟩ | ⟨i, hk, hi, e⟩ | ⟨i, hk, _, hi, e⟩
  · exact .inl ⟨hk, by rw [e, sortE_length]; simp⟩
  · have h1 := (ixE_some hi).1
    exact .inr (.inl ⟨hk, by rw [e, sortE_length, rmE_length h1]; omega⟩)
  · have h1 := (ixE_some hi).1
    exact .inr (.inr ⟨hk, by rw [e, sortE_length, List.length_append, rmE_length h1]; simp; omega⟩)
/-- Just one event of the number: it is found. -/
theorem find_one {l : List EvP} {x : EvP} (hm : x ∈ l) (h1 : ∀ y ∈ l, y.id = x.id → y = x) : findE l x.id = x ∧ (ixE l x.id).isSome = true := by
  cases hx : ixE l x.id with
  | none => exact absurd rfl (ixE_none.1 hx x hm)
  | some i =>
    obtain ⟨h2, h3, _⟩ := ixE_some hx
    refine ⟨?_, rfl⟩
    unfold findE
    rw [hx]
    refine h1 _ ?_ h3
    show l.getD i EvP.none ∈ l
    rw [List.getD_eq_getElem?_getD, List.getElem?_eq_getElem h2, Option.getD_some]
    exact List.getElem_mem h2
theorem only_find {b : Bool} {l : List EvP} {x : EvP} {R : List EvP × Int} (h : applyE b l 1 x = R) (h0 : R.2 = 0) : findE R.1 x.id = x ∧ (ixE R.1 x.id).isSome = true := by
  rcases apply_ok h h0 with ⟨_, _, hn, e⟩ | ⟨i, hk, _⟩ | ⟨i, hk, _⟩
  · rw [e]
    have hp := ev_sort_perm (l ++ [x])
    refine find_one (hp.mem_iff.2 (by simp)) fun y hy hid => ?_
    rcases List.mem_append.1 (hp.mem_iff.1 hy) with q | q
    · exact absurd hid (ixE_none.1 hn y q)
    · simpa using q
  · exact absurd hk (by decide)
  · exact absurd hk (by decide)
theorem ris_next {l : List EvP} (h : Risen l) {i : Nat} (h1 : 1 ≤ i) (hi : i < l.length) : lessE (l.getD i EvP.none) (l.getD (i - 1) EvP.none) = false := risen_at h (by omega) hi
/-! ### Lists in which no two events have the same number -/
def UniE (l : List EvP) : Prop := l.Pairwise (fun a b => a.id ≠ b.id)
theorem UniE.perm {l l' : List EvP} (h : UniE l) (hp : l.Perm l') : UniE l' := (hp.pairwise_iff (fun {_ _} q => Ne.symm q)).1 h
theorem UniE.eq_of {l : List EvP} (h : UniE l) {a b : EvP} (ha : a ∈ l) (hb : b ∈ l) (hid : a.id = b.id) : a = b := by
  induction l with
  | nil => simp at ha
  | cons c l ih =>
    rw [UniE, List.pairwise_cons] at h
    rcases List.mem_cons.1 ha with rfl | ha'
    · rcases List.mem_cons.1 hb with rfl | hb'
      · rfl
      · exact absurd hid (h.1 b hb')
    · rcases List.mem_cons.1 hb with rfl | hb'
      · exact absurd hid.symm (h.1 a ha')
      · exact ih h.2 ha' hb'
theorem UniE.filter {l : List EvP} (h : UniE l) (p : EvP → Bool) : UniE (l.filter p) := List.Pairwise.filter _ h
/-- The first event of each number. -/
def dedS (acc : List EvP) (e : EvP) : List EvP := if (ixE acc e.id).isSome = true then acc else acc ++ [e]
def dedE (l : List EvP) : List EvP := l.foldl dedS []
theorem dedS_uni {acc : List EvP} (h : UniE acc) (e : EvP) : UniE (dedS acc e) := by
  unfold dedS
  split
  · exact h
  · rename_i hx
    have hn : ixE acc e.id = none := by
      cases q : ixE acc e.id with
      | none => rfl
      | some i => rw [q] at hx; exact absurd rfl hx
    rw [UniE, List.pairwise_append]
    refine ⟨h, by simp, fun a ha b hb => ?_⟩
    obtain rfl : b = e := by simpa using hb
    exact ixE_none.1 hn a ha
theorem dedE_uni_aux : ∀ (l acc : List EvP), UniE acc → UniE (l.foldl dedS acc)
  | [], _, h => h
  | e :: l, acc, h => dedE_uni_aux l _ (dedS_uni h e)
theorem dedE_uni (l : List EvP) : UniE (dedE l) := dedE_uni_aux l [] List.Pairwise.nil
theorem dedE_snoc (l : List EvP) (e : EvP) : dedE (l ++ [e]) = dedS (dedE l) e := by simp [dedE, List.foldl_append]
theorem dedS_len (acc : List EvP) (e : EvP) : (dedS acc e).length ≤ acc.length + 1 := by unfold dedS; split <;> simp
theorem dedE_len_aux : ∀ (l acc : List EvP), (l.foldl dedS acc).length ≤ acc.length + l.length
  | [], acc => by simp
  | e :: l, acc => by
    have h1 := dedE_len_aux l (dedS acc e)
    have h2 := dedS_len acc e
    simp only [List.foldl_cons, List.length_cons]
    omega
theorem dedE_len (l : List EvP) : (dedE l).length ≤ l.length := by have := dedE_len_aux l []; simpa [dedE] using this
theorem dedE_in_aux {P : EvP → Prop} : ∀ (l acc : List EvP), (∀ e ∈ l, P e) → (∀ e ∈ acc, P e) → ∀ e ∈ l.foldl dedS acc, P e
  | [], _, _, h => h
  | x :: l, acc, hl, h => by
    refine dedE_in_aux l (dedS acc x) (fun e he => hl e (by simp [he])) fun e he => ?_
    unfold dedS at he
    split at he
    · exact h e he
    · rcases List.mem_append.1 he with q | q
      · exact h e q
      · obtain rfl : e = x := by simpa using q
        exact hl e (by simp)
theorem dedE_in {l : List EvP} (h : ∀ e ∈ l, e.In) : ∀ e ∈ dedE l, e.In := dedE_in_aux l [] h (by simp)
theorem perm_short {l l' : List EvP} (hp : l.Perm l') (h : l.length ≤ 1) : l = l' := by
  cases l with
  | nil => exact (List.nil_perm.1 hp).symm
  | cons a r =>
    cases r with
    | nil => exact List.singleton_perm.1 hp
    | cons b r => simp only [List.length_cons] at h; omega
theorem uni_short {l : List EvP} (h : UniE l) (k : EvP) : (l.filter (alikeE k)).length ≤ 1 := by
  have hu := h.filter (alikeE k)
  match hf : l.filter (alikeE k), hu with
  | [], _ => simp
  | [a], _ => simp
  | a :: b :: r, hu =>
    have ha : a ∈ l.filter (alikeE k) := by rw [hf]; simp
    have hb : b ∈ l.filter (alikeE k) := by rw [hf]; simp
    have h1 := (List.mem_filter.1 ha).2
    have h2 := (List.mem_filter.1 hb).2
    simp only [alikeE, decide_eq_true_eq] at h1 h2
    rw [UniE, List.pairwise_cons] at hu
    exact absurd (h1.2.symm.trans h2.2) (hu.1 b (by simp))
/-- Of such a list the order does not hang on how it is told. -/
theorem sort_same {l l' : List EvP} (hp : l.Perm l') (hu : UniE l) : sortE l = sortE l' := by
  refine ev_sort_of (ev_sort_risen l) fun k => ?_
  have h1 : ((sortE l).filter (alikeE k)).Perm (l'.filter (alikeE k)) := ((ev_sort_perm l).trans hp).filter _
  exact perm_short h1 (uni_short (hu.perm (ev_sort_perm l).symm) k)
theorem rm_uni {l : List EvP} (hu : UniE l) {i : Nat} {id : Int} (hx : ixE l id = some i) : (rmE l i).Perm (l.filter (fun e => decide (e.id ≠ id))) := by
  obtain ⟨h1, h2, _⟩ := ixE_some hx
  have hp := rmE_perm h1
  have hu2 := hu.perm hp
  rw [UniE, List.pairwise_cons] at hu2
  have e1 : (rmE l i).filter (fun e => decide (e.id ≠ id)) = rmE l i := List.filter_eq_self.2 fun e he => by
    have := hu2.1 e he
    rw [h2] at this
    simpa using Ne.symm this
  have hf := hp.filter (fun e => decide (e.id ≠ id))
  rw [List.filter_cons_of_neg (by rw [decide_eq_true_eq]; exact fun q => q h2), e1] at hf
  exact hf.symm
/-- What a correction leaves, up to order. -/
def baseE (l : List EvP) (k : Int) (x : EvP) : List EvP := l.filter (fun e => decide (e.id ≠ x.id)) ++ (if k = 2 then [] else [x])
theorem apply_base {b : Bool} {l : List EvP} {k : Int} {x : EvP} {R : List EvP × Int} (hu : UniE l) (h : applyE b l k x = R) (h0 : R.2 = 0) : ∃ B, B.Perm (baseE l k x) ∧ R.1 = sortE B := by
  rcases apply_ok h h0 with ⟨rfl, _, hn, e⟩ | ⟨i, rfl, hi, e⟩ | ⟨i, rfl, _, hi, e⟩
  · refine ⟨_, ?_, e⟩
    unfold baseE
    rw [List.filter_eq_self.2 (fun e he => by simpa using ixE_none.1 hn e he), if_neg (by decide)]
  · refine ⟨_, ?_, e⟩
    unfold baseE
    rw [if_pos rfl, List.append_nil]
    exact rm_uni hu hi
  · refine ⟨_, ?_, e⟩
    unfold baseE
    rw [if_neg (by decide)]
    exact (rm_uni hu hi).append_right _
theorem base_uni {l : List EvP} (hu : UniE l) (k : Int) (x : EvP) : UniE (baseE l k x) := by
  unfold baseE
  rw [UniE, List.pairwise_append]
  refine ⟨hu.filter _, by split <;> simp, fun a ha b hb => ?_⟩
  split at hb
  · simp at hb
  · obtain rfl : b = x := by simpa using hb
    have := (List.mem_filter.1 ha).2
    simpa using this
theorem has_base {l : List EvP} {k : Int} {x : EvP} {B : List EvP} (hp : B.Perm (baseE l k x)) {id : Int} (hid : id ≠ x.id) : (ixE (sortE B) id).isSome = (ixE l id).isSome := by
  have hm : ∀ e, e.id = id → (e ∈ sortE B ↔ e ∈ l) := fun e he => by
    rw [((ev_sort_perm B).trans hp).mem_iff]
    unfold baseE
    rw [List.mem_append, List.mem_filter]
    constructor
    · rintro (q | q)
      · exact q.1
      · split at q
        · simp at q
        · obtain rfl : e = x := by simpa using q
          exact absurd he.symm hid
    · intro q
      exact .inl ⟨q, by simp [he, hid]⟩
  cases h1 : ixE (sortE B) id with
  | none =>
    cases h2 : ixE l id with
    | none => rfl
    | some i =>
      obtain ⟨q1, q2, _⟩ := ixE_some h2
      have hq : l.getD i EvP.none ∈ l := by rw [List.getD_eq_getElem?_getD, List.getElem?_eq_getElem q1, Option.getD_some]; exact List.getElem_mem q1
      exact absurd q2 (ixE_none.1 h1 _ ((hm _ q2).2 hq))
  | some i =>
    cases h2 : ixE l id with
    | some j => rfl
    | none =>
      obtain ⟨q1, q2, _⟩ := ixE_some h1
      have hq : (sortE B).getD i EvP.none ∈ sortE B := by rw [List.getD_eq_getElem?_getD, List.getElem?_eq_getElem q1, Option.getD_some]; exact List.getElem_mem q1
      exact absurd q2 (ixE_none.1 h2 _ ((hm _ q2).1 hq))
/-- A correction that can be done there can be done behind one of another event. -/
theorem apply_still {b : Bool} {l l' : List EvP} {k : Int} {x : EvP} (h : (applyE b l k x).2 = 0) (hx : (ixE l' x.id).isSome = (ixE l x.id).isSome) : (applyE b l' k x).2 = 0 := by
  rcases apply_ok rfl h with ⟨rfl, rfl, hn, _⟩ | ⟨i, rfl, hi, _⟩ | ⟨i, rfl, rfl, hi, _⟩
  · rw [hn] at hx
    cases q : ixE l' x.id with
    | none => simp [applyE, q]
    | some j => rw [q] at hx; simp at hx
  · rw [hi] at hx
    cases q : ixE l' x.id with
    | none => rw [q] at hx; simp at hx
    | some j => simp [applyE, q]
  · rw [hi] at hx
    cases q : ixE l' x.id with
    | none => rw [q] at hx; simp at hx
    | some j => simp [applyE, q]
theorem base_turn {l B C : List EvP} {k m : Int} {x y : EvP} (hxy : x.id ≠ y.id) (hB : B.Perm (baseE l k x)) (hC : C.Perm (baseE l m y)) : (baseE (sortE B) m y).Perm (baseE (sortE C) k x) := by
  have h1 : (baseE (sortE B) m y).Perm ((baseE l k x).filter (fun e => decide (e.id ≠ y.id)) ++ (if m = 2 then [] else [y])) := (((ev_sort_perm B).trans hB).filter _).append_right _
  have h2 : (baseE (sortE C) k x).Perm ((baseE l m y).filter (fun e => decide (e.id ≠ x.id)) ++ (if k = 2 then [] else [x])) := (((ev_sort_perm C).trans hC).filter _).append_right _
  refine h1.trans (List.Perm.trans ?_ h2.symm)
  unfold baseE
  rw [List.filter_append, List.filter_append, List.filter_filter, List.filter_filter]
  have e1 : (if k = 2 then [] else [x]).filter (fun e => decide (e.id ≠ y.id)) = (if k = 2 then [] else [x]) := by split <;> simp [hxy]
  have e2 : (if m = 2 then [] else [y]).filter (fun e => decide (e.id ≠ x.id)) = (if m = 2 then [] else [y]) := by split <;> simp [hxy.symm]
  rw [e1, e2, List.append_assoc, List.append_assoc]
  have e3 : (fun a : EvP => decide (a.id ≠ y.id) && decide (a.id ≠ x.id)) = (fun a : EvP => decide (a.id ≠ x.id) && decide (a.id ≠ y.id)) := by funext a; rw [Bool.and_comm]
  rw [e3]
  exact List.Perm.append_left _ List.perm_append_comm
/-- Two corrections of unlike events. -/
theorem turn_same {b c : Bool} {l : List EvP} {k m : Int} {x y : EvP} (hu : UniE l) (hxy : x.id ≠ y.id) (h1 : (applyE b l k x).2 = 0) (h2 : (applyE c l m y).2 = 0) :
    (applyE c (applyE b l k x).1 m y).2 = 0 ∧ (applyE b (applyE c l m y).1 k x).2 = 0 ∧ (applyE c (applyE b l k x).1 m y).1 = (applyE b (applyE c l m y).1 k x).1 := by
  obtain ⟨B, hB, eB⟩ := apply_base hu rfl h1
  obtain ⟨C, hC, eC⟩ := apply_base hu rfl h2
  rw [eB, eC]
  have g1 := apply_still (l' := sortE B) h2 (has_base hB (Ne.symm hxy))
  have g2 := apply_still (l' := sortE C) h1 (has_base hC hxy)
  have uB : UniE (sortE B) := (base_uni hu k x).perm (((ev_sort_perm B).trans hB).symm)
  have uC : UniE (sortE C) := (base_uni hu m y).perm (((ev_sort_perm C).trans hC).symm)
  obtain ⟨D, hD, eD⟩ := apply_base uB rfl g1
  obtain ⟨E, hE, eE⟩ := apply_base uC rfl g2
  refine ⟨g1, g2, ?_⟩
  rw [eD, eE]
  exact sort_same (hD.trans ((base_turn hxy hB hC).trans hE.symm)) ((base_uni uB m y).perm hD.symm)
theorem sort_self {l : List EvP} (hu : UniE l) : sortE (sortE l) = sortE l := (sort_same (ev_sort_perm l).symm hu).symm
/-- An event that was put in, and is taken out. -/
theorem back_void {b c : Bool} {l : List EvP} {e : EvP} (hu : UniE l) (hs : sortE l = l) (hn : ixE l e.id = none) (hb : b = true) :
    (applyE b l 1 e).2 = 0 ∧ ∀ z : EvP, z.id = e.id → applyE c (applyE b l 1 e).1 2 z = (l, 0) := by
  subst hb
  have h0 : (applyE true l 1 e).2 = 0 := by simp [applyE, hn]
  refine ⟨h0, fun z hz => ?_⟩
  obtain ⟨B, hB, eB⟩ := apply_base hu rfl h0
  rw [eB]
  have uB : UniE (sortE B) := (base_uni hu 1 e).perm (((ev_sort_perm B).trans hB).symm)
  have hm : e ∈ sortE B := by rw [((ev_sort_perm B).trans hB).mem_iff]; simp [baseE]
  cases hx : ixE (sortE B) z.id with
  | none => exact absurd hz.symm (ixE_none.1 hx e hm)
  | some j =>
    have h1 : (applyE c (sortE B) 2 z).2 = 0 := by simp [applyE, hx]
    obtain ⟨D, hD, eD⟩ := apply_base uB rfl h1
    have e1 : (applyE c (sortE B) 2 z).1 = l := by
      rw [eD, ← hs]
      refine sort_same (hD.trans ?_) ((base_uni uB 2 z).perm hD.symm)
      unfold baseE
      rw [if_pos rfl, List.append_nil, hz]
      refine (((ev_sort_perm B).trans hB).filter _).trans ?_
      unfold baseE
      rw [List.filter_append, List.filter_filter, if_neg (by decide)]
      have q1 : [e].filter (fun a => decide (a.id ≠ e.id)) = [] := by simp
      have q2 : l.filter (fun a => decide (a.id ≠ e.id) && decide (a.id ≠ e.id)) = l := List.filter_eq_self.2 fun a ha => by simpa using ixE_none.1 hn a ha
      rw [q1, q2, List.append_nil]
    exact Prod.ext e1 h1
/-- An event that was changed, and is changed back. -/
theorem back_amend {b c : Bool} {l : List EvP} {e : EvP} {i : Nat} (hu : UniE l) (hs : sortE l = l) (hi : ixE l e.id = some i) (hb : b = true) :
    (applyE b l 3 e).2 = 0 ∧ (c = true → applyE c (applyE b l 3 e).1 3 (l.getD i EvP.none) = (l, 0)) ∧ (c = false → applyE c (applyE b l 3 e).1 3 (l.getD i EvP.none) = ([], 80)) := by
  subst hb
  have h0 : (applyE true l 3 e).2 = 0 := by simp [applyE, hi]
  refine ⟨h0, fun hc => ?_, fun hc => by subst hc; simp [applyE]⟩
  subst hc
  obtain ⟨q1, q2, _⟩ := ixE_some hi
  have hmem : l.getD i EvP.none ∈ l := by rw [List.getD_eq_getElem?_getD, List.getElem?_eq_getElem q1, Option.getD_some]; exact List.getElem_mem q1
  generalize l.getD i EvP.none = o at *
  obtain ⟨B, hB, eB⟩ := apply_base hu rfl h0
  rw [eB]
  have uB : UniE (sortE B) := (base_uni hu 3 e).perm (((ev_sort_perm B).trans hB).symm)
  have hm : e ∈ sortE B := by rw [((ev_sort_perm B).trans hB).mem_iff]; simp [baseE]
  cases hx : ixE (sortE B) o.id with
  | none => exact absurd q2.symm (ixE_none.1 hx e hm)
  | some j =>
    have h1 : (applyE true (sortE B) 3 o).2 = 0 := by simp [applyE, hx]
    obtain ⟨D, hD, eD⟩ := apply_base uB rfl h1
    have e1 : (applyE true (sortE B) 3 o).1 = l := by
      rw [eD, ← hs]
      refine sort_same (hD.trans ?_) ((base_uni uB 3 o).perm hD.symm)
      have hl : (l.filter (fun a => decide (a.id ≠ e.id)) ++ [o]).Perm l := by
        have p1 := rmE_perm q1
        have hrm := rm_uni hu hi
        have hge : l.getD i EvP.none = o := by
          refine hu.eq_of ?_ hmem ?_
          · rw [List.getD_eq_getElem?_getD, List.getElem?_eq_getElem q1, Option.getD_some]; exact List.getElem_mem q1
          · exact (ixE_some hi).2.1.trans q2.symm
        rw [hge] at p1
        exact ((hrm.symm.append_right _).trans (List.perm_append_singleton _ _)).trans p1.symm
      refine List.Perm.trans ?_ hl
      unfold baseE
      rw [if_neg (by decide), q2]
      refine List.Perm.append_right _ ?_
      refine (((ev_sort_perm B).trans hB).filter _).trans ?_
      unfold baseE
      rw [List.filter_append, List.filter_filter, if_neg (by decide)]
      have r1 : [e].filter (fun a => decide (a.id ≠ e.id)) = [] := by simp
      have r2 : (fun a : EvP => decide (a.id ≠ e.id) && decide (a.id ≠ e.id)) = (fun a : EvP => decide (a.id ≠ e.id)) := by funext a; rw [Bool.and_self]
      rw [r1, r2, List.append_nil]
    exact Prod.ext e1 h1
end Go.Proofs.Ytedkhjbnjkcemaa
