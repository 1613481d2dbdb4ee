/-
  Sets of seconds as lists of spans: no program here. A list is plain if its spans have seconds, lie within all time, and do not touch; each set has one plain list ('canon').
-/
namespace Go.Proofs.Ytojhecllgkoclaa
set_option linter.unusedVariables false

/-- t is one of the spans' numbers. -/
def In (l : List (Int × Int)) (t : Int) : Prop := ∃ s, s ∈ l ∧ s.1 ≤ t ∧ t < s.2

def PlainFrom : Int → List (Int × Int) → Prop
  | _, [] => True
  | lo, s :: l => lo ≤ s.1 ∧ s.1 < s.2 ∧ s.2 ≤ 32054400 ∧ PlainFrom (s.2 + 1) l

theorem in_nil (t : Int) : ¬ In [] t := by rintro ⟨s, h, _⟩; cases h
theorem in_cons (s : Int × Int) (l : List (Int × Int)) (t : Int) : In (s :: l) t ↔ (s.1 ≤ t ∧ t < s.2) ∨ In l t := by
  unfold In
  constructor
  · rintro ⟨x, hx, h⟩
    rcases List.mem_cons.1 hx with rfl | hx
    · exact .inl h
    · exact .inr ⟨x, hx, h⟩
  · rintro (h | ⟨x, hx, h⟩)
    · exact ⟨s, List.mem_cons_self, h⟩
    · exact ⟨x, List.mem_cons_of_mem _ hx, h⟩
theorem in_append (l m : List (Int × Int)) (t : Int) : In (l ++ m) t ↔ In l t ∨ In m t := by
  induction l with
  | nil => simp [in_nil]
  | cons s l ih => rw [List.cons_append, in_cons, in_cons, ih, or_assoc]
theorem in_one (s : Int × Int) (t : Int) : In [s] t ↔ s.1 ≤ t ∧ t < s.2 := by rw [in_cons]; simp [in_nil]

theorem PlainFrom.mono : ∀ {l : List (Int × Int)} {a b : Int}, b ≤ a → PlainFrom a l → PlainFrom b l
  | [], _, _, _, _ => trivial
  | _ :: _, _, _, h, hp => ⟨by have := hp.1; omega, hp.2⟩
theorem PlainFrom.bound : ∀ {l : List (Int × Int)} {a t : Int}, PlainFrom a l → In l t → a ≤ t ∧ t < 32054400
  | [], _, _, _, h => absurd h (in_nil _)
  | s :: l, a, t, hp, h => by
    obtain ⟨h1, h2, h3, h4⟩ := hp
    rcases (in_cons s l t).1 h with h | h
    · omega
    · have := PlainFrom.bound h4 h; omega

/-- Two plain lists of one set are the same. -/
theorem plain_one : ∀ {l m : List (Int × Int)} {a : Int}, PlainFrom a l → PlainFrom a m → (∀ t, In l t ↔ In m t) → l = m
  | [], [], _, _, _, _ => rfl
  | [], s :: m, a, _, hm, h => absurd ((h s.1).2 ((in_cons _ _ _).2 (.inl ⟨Int.le_refl _, hm.2.1⟩))) (in_nil _)
  | s :: l, [], a, hl, _, h => absurd ((h s.1).1 ((in_cons _ _ _).2 (.inl ⟨Int.le_refl _, hl.2.1⟩))) (in_nil _)
  | s :: l, r :: m, a, hl, hm, h => by
    obtain ⟨l1, l2, l3, l4⟩ := hl
    obtain ⟨m1, m2, m3, m4⟩ := hm
    have kl : ∀ t, In (s :: l) t → s.1 ≤ t := fun t ht => by
      rcases (in_cons _ _ _).1 ht with ht | ht
      · exact ht.1
      · have := PlainFrom.bound l4 ht; omega
    have km : ∀ t, In (r :: m) t → r.1 ≤ t := fun t ht => by
      rcases (in_cons _ _ _).1 ht with ht | ht
      · exact ht.1
      · have := PlainFrom.bound m4 ht; omega
    have e1 : s.1 = r.1 := by
      have h1 := km _ ((h s.1).1 ((in_cons _ _ _).2 (.inl ⟨Int.le_refl _, l2⟩)))
      have h2 := kl _ ((h r.1).2 ((in_cons _ _ _).2 (.inl ⟨Int.le_refl _, m2⟩)))
      omega
    have nl : ¬ In (s :: l) s.2 := fun ht => by
      rcases (in_cons _ _ _).1 ht with ht | ht
      · omega
      · have := PlainFrom.bound l4 ht; omega
    have nm : ¬ In (r :: m) r.2 := fun ht => by
      rcases (in_cons _ _ _).1 ht with ht | ht
      · omega
      · have := PlainFrom.bound m4 ht; omega
    have e2 : s.2 = r.2 := by
      rcases Int.lt_trichotomy s.2 r.2 with hlt | he | hgt
      · exact absurd ((h s.2).2 ((in_cons _ _ _).2 (.inl ⟨by omega, hlt⟩))) nl
      · exact he
      · exact absurd ((h r.2).1 ((in_cons _ _ _).2 (.inl ⟨by omega, hgt⟩))) nm
    have e : s = r := Prod.ext e1 e2
    subst e
    have : l = m := plain_one l4 m4 (fun t => by
      have ht := h t
      rw [in_cons, in_cons] at ht
      constructor
      · intro hi
        have := PlainFrom.bound l4 hi
        rcases ht.1 (.inr hi) with q | q
        · omega
        · exact q
      · intro hi
        have := PlainFrom.bound m4 hi
        rcases ht.2 (.inr hi) with q | q
        · omega
        · exact q)
    rw [this]

theorem exists_canon (p : Int → Prop) : ∀ (n : Nat) (lo : Int), lo + n = 32054400 → ∃ l, PlainFrom lo l ∧ ∀ t, In l t ↔ lo ≤ t ∧ t < 32054400 ∧ p t
  | 0, lo, h => ⟨[], trivial, fun t => by simp [in_nil]; omega⟩
  | n + 1, lo, h => by
    obtain ⟨l, hp, hi⟩ := exists_canon p n (lo + 1) (by omega)
    by_cases hlo : p lo
    · match l, hp, hi with
      | [], hp, hi =>
        refine ⟨[(lo, lo + 1)], ⟨Int.le_refl _, by simp; omega, by simp; omega, trivial⟩, fun t => ?_⟩
        rw [in_one]
        have := hi t
        simp only [in_nil, false_iff] at this
        constructor
        · intro ht
          obtain rfl : t = lo := by simp at ht; omega
          exact ⟨by omega, by omega, hlo⟩
        · intro ⟨h1, h2, h3⟩
          by_cases e : t = lo
          · subst e; exact ⟨by simp, by simp; omega⟩
          · exact absurd ⟨by omega, h2, h3⟩ this
      | s :: l, ⟨h1, h2, h3, h4⟩, hi =>
        by_cases hs : s.1 = lo + 1
        · refine ⟨(lo, s.2) :: l, ⟨Int.le_refl _, by simp; omega, h3, h4⟩, fun t => ?_⟩
          have := hi t
          rw [in_cons] at this ⊢
          by_cases e : t = lo
          · subst e
            exact ⟨fun _ => ⟨by omega, by omega, hlo⟩, fun _ => .inl ⟨by simp, by simp; omega⟩⟩
          · constructor
            · intro q
              have := this.1 (q.elim (fun q => .inl ⟨by simp at q; omega, by simp at q; omega⟩) .inr)
              exact ⟨by omega, this.2⟩
            · intro ⟨q1, q2⟩
              exact (this.2 ⟨by omega, q2⟩).elim (fun q => .inl ⟨by simp; omega, by simp; omega⟩) .inr
        · refine ⟨(lo, lo + 1) :: s :: l, ⟨Int.le_refl _, by simp; omega, by simp; omega, by simp; omega, h2, h3, h4⟩, fun t => ?_⟩
          have := hi t
          rw [in_cons]
          by_cases e : t = lo
          · subst e
            exact ⟨fun _ => ⟨by omega, by omega, hlo⟩, fun _ => .inl ⟨by simp, by simp; omega⟩⟩
          · constructor
            · intro q
              have := this.1 (q.elim (fun q => by simp at q; omega) id)
              exact ⟨by omega, this.2⟩
            · intro ⟨q1, q2⟩
              exact .inr (this.2 ⟨by omega, q2⟩)
    · refine ⟨l, hp.mono (by omega), fun t => ?_⟩
      rw [hi t]
      constructor
      · rintro ⟨h1, h2⟩; exact ⟨by omega, h2⟩
      · rintro ⟨h1, h2, h3⟩
        refine ⟨?_, h2, h3⟩
        by_cases e : t = lo
        · subst e; exact absurd h3 hlo
        · omega

/-- The plain spans of the numbers from 0 on, below all time's end, of which p holds. -/
noncomputable def canon (p : Int → Prop) : List (Int × Int) := Classical.choose (exists_canon p 32054400 0 (by omega))
theorem canon_plain (p : Int → Prop) : PlainFrom 0 (canon p) := (Classical.choose_spec (exists_canon p 32054400 0 (by omega))).1
theorem canon_in (p : Int → Prop) (t : Int) : In (canon p) t ↔ 0 ≤ t ∧ t < 32054400 ∧ p t := (Classical.choose_spec (exists_canon p 32054400 0 (by omega))).2 t
theorem canon_eq {p : Int → Prop} {l : List (Int × Int)} (hl : PlainFrom 0 l) (h : ∀ t, In l t ↔ 0 ≤ t ∧ t < 32054400 ∧ p t) : l = canon p :=
  plain_one hl (canon_plain p) (fun t => by rw [h, canon_in])
theorem canon_congr {p q : Int → Prop} (h : ∀ t, 0 ≤ t → t < 32054400 → (p t ↔ q t)) : canon p = canon q :=
  canon_eq (canon_plain p) (fun t => by
    rw [canon_in]
    constructor
    · rintro ⟨a, b, c⟩; exact ⟨a, b, (h t a b).1 c⟩
    · rintro ⟨a, b, c⟩; exact ⟨a, b, (h t a b).2 c⟩)
theorem canon_self {l : List (Int × Int)} (hl : PlainFrom 0 l) : canon (In l) = l :=
  (canon_eq hl (fun t => ⟨fun h => ⟨(hl.bound h).1, (hl.bound h).2, h⟩, fun h => h.2.2⟩)).symm
theorem canon_none {p : Int → Prop} (h : ∀ t, 0 ≤ t → t < 32054400 → ¬ p t) : canon p = [] :=
  (canon_eq (l := []) trivial (fun t => ⟨fun h => absurd h (in_nil _), fun ⟨a, b, c⟩ => absurd c (h t a b)⟩)).symm

/-- Plain, as of pairs: for lists that grow at their end. -/
theorem plain_pairs : ∀ {l : List (Int × Int)} {a : Int}, PlainFrom a l ↔ (∀ s ∈ l, a ≤ s.1 ∧ s.1 < s.2 ∧ s.2 ≤ 32054400) ∧ l.Pairwise (fun x y => x.2 < y.1)
  | [], a => by simp [PlainFrom]
  | s :: l, a => by
    simp only [PlainFrom, List.pairwise_cons, List.mem_cons, forall_eq_or_imp]
    rw [plain_pairs (l := l)]
    constructor
    · rintro ⟨h1, h2, h3, h4, h5⟩
      exact ⟨⟨⟨h1, h2, h3⟩, fun x hx => by have := h4 x hx; omega⟩, fun x hx => by have := h4 x hx; omega, h5⟩
    · rintro ⟨⟨⟨h1, h2, h3⟩, h4⟩, h5, h6⟩
      exact ⟨h1, h2, h3, fun x hx => by have := h4 x hx; have := h5 x hx; omega, h6⟩
theorem plain_snoc {l : List (Int × Int)} {a : Int} {s : Int × Int} (hl : PlainFrom a l) (h : ∀ x ∈ l, x.2 < s.1) (h1 : a ≤ s.1) (h2 : s.1 < s.2) (h3 : s.2 ≤ 32054400) : PlainFrom a (l ++ [s]) := by
  rw [plain_pairs] at hl ⊢
  refine ⟨fun x hx => ?_, List.pairwise_append.2 ⟨hl.2, by simp, fun x hx y hy => ?_⟩⟩
  · rcases List.mem_append.1 hx with hx | hx
    · exact hl.1 x hx
    · rw [List.mem_singleton.1 hx]; exact ⟨h1, h2, h3⟩
  · rw [List.mem_singleton.1 hy]; exact h x hx
theorem plain_unsnoc {l : List (Int × Int)} {a : Int} {s : Int × Int} (hl : PlainFrom a (l ++ [s])) : PlainFrom a l ∧ (∀ x ∈ l, x.2 < s.1) ∧ a ≤ s.1 ∧ s.1 < s.2 ∧ s.2 ≤ 32054400 := by
  rw [plain_pairs] at hl
  rw [plain_pairs]
  obtain ⟨h1, h2⟩ := hl
  obtain ⟨h3, _, h4⟩ := List.pairwise_append.1 h2
  exact ⟨⟨fun x hx => h1 x (by simp [hx]), h3⟩, fun x hx => h4 x hx s (by simp), h1 s (by simp)⟩

/-- A list whose numbers are those of p below t, plain. -/
def Upto (p : Int → Prop) (t : Int) (l : List (Int × Int)) : Prop := PlainFrom 0 l ∧ (∀ x ∈ l, x.2 ≤ t) ∧ ∀ u, In l u ↔ 0 ≤ u ∧ u < t ∧ p u

theorem upto_skip {p : Int → Prop} {t v : Int} {l : List (Int × Int)} (h : Upto p t l) (htv : t ≤ v) (hn : ∀ u, t ≤ u → u < v → ¬ p u) : Upto p v l :=
  ⟨h.1, fun x hx => by have := h.2.1 x hx; omega, fun u => by
    rw [h.2.2]
    constructor
    · rintro ⟨a, b, c⟩; exact ⟨a, by omega, c⟩
    · rintro ⟨a, b, c⟩
      refine ⟨a, ?_, c⟩
      rcases Int.lt_or_le u t with q | q
      · exact q
      · exact absurd c (hn u q b)⟩
theorem upto_snoc {p : Int → Prop} {t v : Int} {l : List (Int × Int)} (h : Upto p t l) (h0 : 0 ≤ t) (htv : t < v) (hv : v ≤ 32054400) (hn : ∀ u, t ≤ u → u < v → p u) (hlast : ∀ x ∈ l, x.2 ≠ t) : Upto p v (l ++ [(t, v)]) :=
  ⟨plain_snoc h.1 (fun x hx => by have := h.2.1 x hx; have := hlast x hx; simp; omega) h0 htv hv,
   fun x hx => by
    rcases List.mem_append.1 hx with hx | hx
    · have := h.2.1 x hx; omega
    · rw [List.mem_singleton.1 hx]; exact Int.le_refl _,
   fun u => by
    rw [in_append, in_one, h.2.2]
    constructor
    · rintro (⟨a, b, c⟩ | ⟨a, b⟩)
      · exact ⟨a, by omega, c⟩
      · exact ⟨by simp at a; omega, b, hn u a b⟩
    · rintro ⟨a, b, c⟩
      rcases Int.lt_or_le u t with q | q
      · exact .inl ⟨a, q, c⟩
      · exact .inr ⟨q, b⟩⟩
theorem upto_last {p : Int → Prop} {t v : Int} {l : List (Int × Int)} {s : Int × Int} (h : Upto p t (l ++ [s])) (hs : s.2 = t) (htv : t < v) (hv : v ≤ 32054400) (hn : ∀ u, t ≤ u → u < v → p u) : Upto p v (l ++ [(s.1, v)]) := by
  obtain ⟨h1, h2, h3⟩ := h
  obtain ⟨k1, k2, k3, k4, k5⟩ := plain_unsnoc h1
  refine ⟨plain_snoc k1 k2 k3 (by simp; omega) hv, fun x hx => ?_, fun u => ?_⟩
  · rcases List.mem_append.1 hx with hx | hx
    · have := k2 x hx; omega
    · rw [List.mem_singleton.1 hx]; exact Int.le_refl _
  · have := h3 u
    rw [in_append, in_one] at this ⊢
    constructor
    · rintro (q | ⟨a, b⟩)
      · have := this.1 (.inl q); exact ⟨this.1, by omega, this.2.2⟩
      · simp at a b
        rcases Int.lt_or_le u t with q | q
        · have := this.1 (.inr ⟨a, by omega⟩); exact ⟨this.1, by omega, this.2.2⟩
        · exact ⟨by omega, b, hn u q b⟩
    · rintro ⟨a, b, c⟩
      rcases Int.lt_or_le u t with q | q
      · rcases this.2 ⟨a, q, c⟩ with q | q
        · exact .inl q
        · exact .inr ⟨q.1, by simp; omega⟩
      · exact .inr ⟨by simp; omega, b⟩

/-- What Norm makes of spans that rise: the list so far, plain, of the union; no From above lim. -/
def Grown (p : Int → Prop) (lim : Int) (l : List (Int × Int)) : Prop := PlainFrom 0 l ∧ (∀ x ∈ l, x.1 ≤ lim) ∧ ∀ u, In l u ↔ p u
theorem grown_snoc {p q : Int → Prop} {a : Int} {l : List (Int × Int)} {s : Int × Int} (h : Grown p a l) (has : a ≤ s.1) (h0 : 0 ≤ s.1) (h1 : s.1 < s.2) (h2 : s.2 ≤ 32054400) (hl : ∀ x ∈ l, x.2 < s.1)
    (hq : ∀ u, q u ↔ p u ∨ (s.1 ≤ u ∧ u < s.2)) : Grown q s.1 (l ++ [s]) :=
  ⟨plain_snoc h.1 hl h0 h1 h2, fun x hx => by
    rcases List.mem_append.1 hx with hx | hx
    · have := h.2.1 x hx; omega
    · rw [List.mem_singleton.1 hx]; exact Int.le_refl _, fun u => by rw [in_append, in_one, h.2.2, hq]⟩
theorem grown_last {p q : Int → Prop} {a : Int} {l : List (Int × Int)} {r s : Int × Int} (h : Grown p a (l ++ [r])) (has : a ≤ s.1) (h1 : s.1 < s.2) (h2 : s.2 ≤ 32054400) (hr : s.1 ≤ r.2)
    (hq : ∀ u, q u ↔ p u ∨ (s.1 ≤ u ∧ u < s.2)) : Grown q s.1 (l ++ [(r.1, max r.2 s.2)]) := by
  obtain ⟨g1, g2, g3⟩ := h
  obtain ⟨k1, k2, k3, k4, k5⟩ := plain_unsnoc g1
  have hr1 := g2 r (by simp)
  refine ⟨plain_snoc k1 k2 k3 (by simp; omega) (by simp; omega), fun x hx => ?_, fun u => ?_⟩
  · rcases List.mem_append.1 hx with hx | hx
    · have := k2 x hx; have := (plain_pairs.1 k1).1 x hx; omega
    · rw [List.mem_singleton.1 hx]; simp; omega
  · have := g3 u
    rw [hq, ← this, in_append, in_append, in_one, in_one, or_assoc]
    have e : (r.1 ≤ u ∧ u < max r.2 s.2) ↔ ((r.1 ≤ u ∧ u < r.2) ∨ (s.1 ≤ u ∧ u < s.2)) := by omega
    simp only []
    rw [e]
end Go.Proofs.Ytojhecllgkoclaa
