/-
  Sets of seconds, continued: what two plain lists have in common, gone through once; what is between plain spans; how many there are; the first ones. No program here.
-/
import Derived.Test.YtojhecllgkoclaaSpSets
namespace Go.Proofs.Ytojhecllgkoclaa
set_option linter.unusedVariables false

/-- One part against plain spans: what is left of these, and what they have in common. -/
def stepW (p : Int × Int) : List (Int × Int) → List (Int × Int) × List (Int × Int)
  | [] => ([], [])
  | x :: l =>
    if x.1 < p.2 then
      if p.2 < x.2 then (x :: l, if max x.1 p.1 < min x.2 p.2 then [(max x.1 p.1, min x.2 p.2)] else [])
      else ((stepW p l).1, (if max x.1 p.1 < min x.2 p.2 then [(max x.1 p.1, min x.2 p.2)] else []) ++ (stepW p l).2)
    else (x :: l, [])

theorem seg_in (x p : Int × Int) (t : Int) : In (if max x.1 p.1 < min x.2 p.2 then [(max x.1 p.1, min x.2 p.2)] else []) t ↔ (x.1 ≤ t ∧ t < x.2) ∧ (p.1 ≤ t ∧ t < p.2) := by
  split
  · rw [in_one]; simp only []; omega
  · simp only [in_nil, false_iff]; omega

/-- Behind the part's end all is left; what they have in common is plain, ends at the part's end at most. -/
theorem stepW_spec (p : Int × Int) (hp : p.1 < p.2) (hpm : p.2 ≤ 32054400) : ∀ (l : List (Int × Int)) (a : Int), PlainFrom a l →
    PlainFrom a (stepW p l).1 ∧ (∀ lo, lo ≤ p.1 → PlainFrom lo (stepW p l).2) ∧ PlainFrom a (stepW p l).2 ∧ (∀ x ∈ (stepW p l).2, x.2 ≤ p.2) ∧ (∀ t, In (stepW p l).2 t ↔ In l t ∧ p.1 ≤ t ∧ t < p.2) ∧ (∀ t, p.2 ≤ t → (In (stepW p l).1 t ↔ In l t)) ∧ (∀ t, In (stepW p l).1 t → In l t)
  | [], a, h => by simp [stepW, PlainFrom, in_nil]
  | x :: l, a, h => by
    obtain ⟨h1, h2, h3, h4⟩ := h
    obtain ⟨i1, i0, i2, i3, i4, i5, i6⟩ := stepW_spec p hp hpm l _ h4
    unfold stepW
    by_cases hx : x.1 < p.2
    · rw [if_pos hx]
      by_cases hx2 : p.2 < x.2
      · rw [if_pos hx2]
        refine ⟨⟨h1, h2, h3, h4⟩, fun lo hlo => ?_, ?_, ?_, fun t => ?_, fun t _ => Iff.rfl, fun t ht => ht⟩
        · split
          · exact ⟨by simp; omega, by simp; omega, by simp; omega, trivial⟩
          · trivial
        · split
          · exact ⟨by simp; omega, by simp; omega, by simp; omega, trivial⟩
          · trivial
        · split
          · intro y hy; rw [List.mem_singleton.1 hy]; simp; omega
          · intro y hy; cases hy
        · rw [seg_in, in_cons]
          constructor
          · rintro ⟨q, r⟩; exact ⟨.inl q, r⟩
          · rintro ⟨q | q, r⟩
            · exact ⟨q, r⟩
            · have := h4.bound q; omega
      · rw [if_neg hx2]
        refine ⟨i1.mono (by omega), fun lo hlo => ?_, ?_, ?_, fun t => ?_, fun t ht => ?_, fun t ht => ?_⟩
        · split
          · refine ⟨by simp; omega, by simp; omega, by simp; omega, i2.mono (by simp; omega)⟩
          · exact i0 lo hlo
        · split
          · refine ⟨by simp; omega, by simp; omega, by simp; omega, i2.mono (by simp; omega)⟩
          · exact i2.mono (by omega)
        · intro y hy
          rcases List.mem_append.1 hy with hy | hy
          · split at hy
            · rw [List.mem_singleton.1 hy]; simp; omega
            · cases hy
          · exact i3 y hy
        · rw [in_append, seg_in, in_cons, i4]
          constructor
          · rintro (⟨q, r⟩ | ⟨q, r⟩)
            · exact ⟨.inl q, r⟩
            · exact ⟨.inr q, r⟩
          · rintro ⟨q | q, r⟩
            · exact .inl ⟨q, r⟩
            · exact .inr ⟨q, r⟩
        · rw [i5 t ht, in_cons]
          constructor
          · exact .inr
          · rintro (q | q)
            · omega
            · exact q
        · rw [in_cons]; exact .inr (i6 t ht)
    · rw [if_neg hx]
      refine ⟨⟨h1, h2, h3, h4⟩, fun _ _ => trivial, trivial, fun y hy => (by cases hy), fun t => ?_, fun t _ => Iff.rfl, fun t ht => ht⟩
      simp only [in_nil, false_iff]
      rintro ⟨q, r⟩
      rcases (in_cons _ _ _).1 q with q | q
      · omega
      · have := h4.bound q; omega

/-- Parts, one behind the other: what is left, and what has been found. -/
def runW (l : List (Int × Int)) (ps : List (Int × Int)) : List (Int × Int) × List (Int × Int) :=
  ps.foldl (fun s p => ((stepW p s.1).1, s.2 ++ (stepW p s.1).2)) (l, [])
theorem runW_snoc (l pre : List (Int × Int)) (x : Int × Int) : runW l (pre ++ [x]) = ((stepW x (runW l pre).1).1, (runW l pre).2 ++ (stepW x (runW l pre).1).2) := by
  unfold runW; rw [List.foldl_append]; rfl
theorem runW_stop {l pre ps : List (Int × Int)} (hpre : pre <+: ps) (h : (runW l pre).1 = []) : runW l ps = runW l pre := by
  obtain ⟨rest, rfl⟩ := hpre
  have key : ∀ (rest : List (Int × Int)) (s : List (Int × Int) × List (Int × Int)), s.1 = [] → rest.foldl (fun s p => ((stepW p s.1).1, s.2 ++ (stepW p s.1).2)) s = s := by
    intro rest
    induction rest with
    | nil => intro s _; rfl
    | cons r rest ih =>
      intro s hs
      rw [List.foldl_cons, ih _ (by rw [hs]; rfl), hs]
      obtain ⟨s1, s2⟩ := s
      simp only at hs
      subst hs
      simp [stepW]
  show List.foldl _ _ (pre ++ rest) = _
  rw [List.foldl_append]
  exact key rest _ h

/-- What is found, of plain spans, and plain parts. -/
theorem runW_spec (l : List (Int × Int)) (hl : PlainFrom 0 l) : ∀ (n : Nat) (ps : List (Int × Int)), ps.length = n → PlainFrom 0 ps →
    PlainFrom 0 (runW l ps).1 ∧ PlainFrom 0 (runW l ps).2 ∧ (∀ t, In (runW l ps).2 t ↔ In l t ∧ In ps t) ∧ (∀ t, (∀ x ∈ ps, x.2 ≤ t) → (In (runW l ps).1 t ↔ In l t)) ∧ (∀ t, In (runW l ps).1 t → In l t) ∧ (∀ y ∈ (runW l ps).2, ∃ x ∈ ps, y.2 ≤ x.2)
  | 0, ps, hn, h => by
    obtain rfl : ps = [] := List.eq_nil_of_length_eq_zero hn
    simp [runW, PlainFrom, in_nil, hl]
  | n + 1, ps, hn, h => by
    obtain ⟨pre, x, rfl⟩ : ∃ pre x, ps = pre ++ [x] := ⟨ps.dropLast, ps.getLast (by intro e; simp [e] at hn), (List.dropLast_concat_getLast _).symm⟩
    obtain ⟨h1, h2, h3, h4, h5⟩ := plain_unsnoc h
    obtain ⟨i1, i2, i3, i4, i5, i6⟩ := runW_spec l hl n pre (by simpa using hn) h1
    obtain ⟨s1, s0, s2, s3, s4, s5, s6⟩ := stepW_spec x h4 h5 _ 0 i1
    rw [runW_snoc]
    refine ⟨s1, ?_, fun t => ?_, fun t ht => ?_, fun t ht => i5 t (s6 t ht), fun y hy => ?_⟩
    · rw [plain_pairs] at i2 ⊢
      have q := plain_pairs.1 (s0 x.1 (Int.le_refl _))
      refine ⟨fun y hy => ?_, List.pairwise_append.2 ⟨i2.2, q.2, fun y hy z hz => ?_⟩⟩
      · rcases List.mem_append.1 hy with hy | hy
        · exact i2.1 y hy
        · have := q.1 y hy; omega
      · obtain ⟨u, hu, hle⟩ := i6 y hy
        have := h2 u hu
        have := q.1 z hz
        omega
    · rw [in_append, in_append, in_one, s4, i3]
      constructor
      · rintro (⟨a, b⟩ | ⟨a, b⟩)
        · exact ⟨a, .inl b⟩
        · exact ⟨i5 t a, .inr b⟩
      · rintro ⟨a, b | b⟩
        · exact .inl ⟨a, b⟩
        · exact .inr ⟨(i4 t (fun u hu => by have := h2 u hu; omega)).2 a, b⟩
    · have hx := ht x (by simp)
      rw [s5 t hx]
      exact i4 t (fun u hu => ht u (by simp [hu]))
    · rcases List.mem_append.1 hy with hy | hy
      · obtain ⟨u, hu, hle⟩ := i6 y hy
        exact ⟨u, by simp [hu], hle⟩
      · exact ⟨x, by simp, s3 y hy⟩
theorem runW_canon {l ps : List (Int × Int)} (hl : PlainFrom 0 l) (hp : PlainFrom 0 ps) : (runW l ps).2 = canon (fun t => In l t ∧ In ps t) := by
  obtain ⟨i1, i2, i3, _⟩ := runW_spec l hl _ ps rfl hp
  exact canon_eq i2 (fun t => by
    rw [i3]
    exact ⟨fun h => ⟨(hl.bound h.1).1, (hl.bound h.1).2, h⟩, fun h => h.2.2⟩)

/-- What is between plain spans, from a number on. -/
def gapsL : Int → List (Int × Int) → List (Int × Int)
  | a, [] => if a < 32054400 then [(a, 32054400)] else []
  | a, s :: l => if a < s.1 then (a, s.1) :: gapsL s.2 l else gapsL s.2 l
theorem gapsL_spec : ∀ (l : List (Int × Int)) (a : Int), PlainFrom a l → a ≤ 32054400 → PlainFrom a (gapsL a l) ∧ ∀ t, In (gapsL a l) t ↔ a ≤ t ∧ t < 32054400 ∧ ¬ In l t
  | [], a, h, ha => by
    unfold gapsL
    split
    · refine ⟨⟨by simp, by simpa, by simp, trivial⟩, fun t => ?_⟩
      rw [in_one]; simp [in_nil]
    · refine ⟨trivial, fun t => ?_⟩
      simp only [in_nil, false_iff]; omega
  | s :: l, a, ⟨h1, h2, h3, h4⟩, ha => by
    obtain ⟨i1, i2⟩ := gapsL_spec l s.2 (h4.mono (by omega)) h3
    have key : ∀ t, s.2 ≤ t → (In (s :: l) t ↔ In l t) := fun t ht => by
      rw [in_cons]
      constructor
      · rintro (q | q)
        · omega
        · exact q
      · exact .inr
    have low : ∀ t, In l t → s.2 < t := fun t ht => by have := h4.bound ht; omega
    unfold gapsL
    split
    · rename_i hlt
      refine ⟨⟨by simp, by simpa, by simp; omega, i1.mono (by simp; omega)⟩, fun t => ?_⟩
      rw [in_cons, i2]
      constructor
      · rintro (⟨q1, q2⟩ | ⟨q1, q2, q3⟩)
        · simp only [] at q1 q2
          refine ⟨q1, by omega, fun hi => ?_⟩
          rcases (in_cons _ _ _).1 hi with hi | hi
          · omega
          · have := low t hi; omega
        · exact ⟨by omega, q2, fun hi => q3 ((key t q1).1 hi)⟩
      · rintro ⟨q1, q2, q3⟩
        rcases Int.lt_or_le t s.1 with q | q
        · exact .inl ⟨q1, q⟩
        · have : s.2 ≤ t := by
            rcases Int.lt_or_le t s.2 with q' | q'
            · exact absurd ((in_cons _ _ _).2 (.inl ⟨q, q'⟩)) q3
            · exact q'
          exact .inr ⟨this, q2, fun hi => q3 ((key t this).2 hi)⟩
    · rename_i hlt
      refine ⟨i1.mono (by omega), fun t => ?_⟩
      rw [i2]
      constructor
      · rintro ⟨q1, q2, q3⟩
        exact ⟨by omega, q2, fun hi => q3 ((key t q1).1 hi)⟩
      · rintro ⟨q1, q2, q3⟩
        have : s.2 ≤ t := by
          rcases Int.lt_or_le t s.2 with q' | q'
          · exact absurd ((in_cons _ _ _).2 (.inl ⟨by omega, q'⟩)) q3
          · exact q'
        exact ⟨this, q2, fun hi => q3 ((key t this).2 hi)⟩
theorem gapsL_len : ∀ (l : List (Int × Int)) (a : Int), (gapsL a l).length ≤ l.length + 1
  | [], a => by unfold gapsL; split <;> simp
  | s :: l, a => by
    have := gapsL_len l s.2
    unfold gapsL
    split <;> simp <;> omega

/-- How many numbers below n are p's. -/
noncomputable def cnt (p : Int → Prop) : Nat → Int
  | 0 => 0
  | n + 1 => cnt p n + (open Classical in if p n then 1 else 0)
theorem cnt_succ (p : Int → Prop) (n : Nat) : cnt p (n + 1) = cnt p n + (open Classical in if p n then 1 else 0) := rfl
theorem cnt_yes {p : Int → Prop} {n : Nat} (h : p n) : cnt p (n + 1) = cnt p n + 1 := by rw [cnt_succ, if_pos h]
theorem cnt_no {p : Int → Prop} {n : Nat} (h : ¬ p n) : cnt p (n + 1) = cnt p n := by rw [cnt_succ, if_neg h]; omega
theorem cnt_step (p : Int → Prop) (n : Nat) : cnt p n ≤ cnt p (n + 1) ∧ cnt p (n + 1) ≤ cnt p n + 1 := by
  by_cases h : p n
  · rw [cnt_yes h]; omega
  · rw [cnt_no h]; omega
theorem cnt_mono (p : Int → Prop) (n : Nat) : ∀ k, cnt p n ≤ cnt p (n + k) ∧ cnt p (n + k) ≤ cnt p n + k
  | 0 => by simp
  | k + 1 => by have := cnt_mono p n k; have := cnt_step p (n + k); rw [← Nat.add_assoc]; omega
theorem cnt_bound (p : Int → Prop) (n : Nat) : 0 ≤ cnt p n ∧ cnt p n ≤ n := by
  have := cnt_mono p 0 n
  simp only [Nat.zero_add] at this
  have e : cnt p 0 = 0 := rfl
  omega
theorem cnt_le (p : Int → Prop) {m n : Nat} (h : m ≤ n) : cnt p m ≤ cnt p n := by
  have := (cnt_mono p m (n - m)).1; rwa [show m + (n - m) = n by omega] at this
theorem cnt_congr {p q : Int → Prop} : ∀ {n : Nat}, (∀ t : Int, 0 ≤ t → t < n → (p t ↔ q t)) → cnt p n = cnt q n
  | 0, _ => rfl
  | n + 1, h => by
    have ih := cnt_congr (p := p) (q := q) (n := n) (fun t a b => h t a (by omega))
    by_cases hp : p n
    · rw [cnt_yes hp, cnt_yes ((h n (by omega) (by omega)).1 hp), ih]
    · rw [cnt_no hp, cnt_no (fun hq => hp ((h n (by omega) (by omega)).2 hq)), ih]
theorem cnt_all {p : Int → Prop} {n : Nat} : ∀ k : Nat, (∀ t : Int, n ≤ t → t < n + k → p t) → cnt p (n + k) = cnt p n + k
  | 0, _ => by simp
  | k + 1, h => by
    rw [← Nat.add_assoc, cnt_yes (h _ (by omega) (by omega)), cnt_all k (fun t a b => h t a (by omega))]; omega
theorem cnt_gap {p : Int → Prop} {n : Nat} : ∀ k : Nat, (∀ t : Int, n ≤ t → t < n + k → ¬ p t) → cnt p (n + k) = cnt p n
  | 0, _ => by simp
  | k + 1, h => by
    rw [← Nat.add_assoc, cnt_no (h _ (by omega) (by omega)), cnt_gap k (fun t a b => h t a (by omega))]
theorem cnt_or {p q r : Int → Prop} : ∀ {n : Nat}, (∀ t : Int, 0 ≤ t → t < n → (r t ↔ p t ∨ q t) ∧ ¬ (p t ∧ q t)) → cnt r n = cnt p n + cnt q n
  | 0, _ => rfl
  | n + 1, h => by
    have ih := cnt_or (p := p) (q := q) (r := r) (n := n) (fun t a b => h t a (by omega))
    obtain ⟨h1, h2⟩ := h n (by omega) (by omega)
    by_cases hp : p n
    · rw [cnt_yes (h1.2 (.inl hp)), cnt_yes hp, cnt_no (fun hq => h2 ⟨hp, hq⟩)]; omega
    · by_cases hq : q n
      · rw [cnt_yes (h1.2 (.inr hq)), cnt_yes hq, cnt_no hp]; omega
      · rw [cnt_no (fun hr => (h1.1 hr).elim hp hq), cnt_no hp, cnt_no hq]; omega

/-- How many numbers of plain spans are below h. -/
def below (l : List (Int × Int)) (h : Int) : Int := (l.map fun s => max 0 (min s.2 h - s.1)).sum
/-- How many numbers plain spans have. -/
def szL (l : List (Int × Int)) : Int := (l.map fun s => s.2 - s.1).sum
theorem below_cons (s : Int × Int) (l : List (Int × Int)) (h : Int) : below (s :: l) h = max 0 (min s.2 h - s.1) + below l h := by simp [below]
theorem szL_cons (s : Int × Int) (l : List (Int × Int)) : szL (s :: l) = (s.2 - s.1) + szL l := by simp [szL]
theorem below_zero : ∀ {l : List (Int × Int)} {a h : Int}, PlainFrom a l → h ≤ a → below l h = 0
  | [], _, _, _, _ => rfl
  | s :: l, a, h, ⟨h1, h2, h3, h4⟩, hh => by rw [below_cons, below_zero h4 (by omega)]; omega
theorem below_top : ∀ {l : List (Int × Int)} {a h : Int}, PlainFrom a l → 32054400 ≤ h → below l h = szL l
  | [], _, _, _, _ => rfl
  | s :: l, a, h, ⟨h1, h2, h3, h4⟩, hh => by rw [below_cons, szL_cons, below_top h4 hh]; omega
theorem below_cnt : ∀ {l : List (Int × Int)} {a : Int} (h : Nat) (p : Int → Prop), PlainFrom a l → 0 ≤ a → a ≤ h → h ≤ 32054400 → (∀ t, a ≤ t → t < h → (p t ↔ In l t)) → cnt p h = cnt p a.toNat + below l h
  | [], a, h, p, _, h0, ha, hm, hp => by
    have := cnt_gap (p := p) (n := a.toNat) (h - a.toNat) (fun t q1 q2 => by rw [hp t (by omega) (by omega)]; exact in_nil _)
    rw [show a.toNat + (h - a.toNat) = h by omega] at this
    rw [this]; simp [below]
  | s :: l, a, h, p, ⟨h1, h2, h3, h4⟩, h0, ha, hm, hp => by
    have low : ∀ t, In l t → s.2 < t := fun t ht => by have := h4.bound ht; omega
    have n1 : ∀ t, a ≤ t → t < h → t < s.1 → ¬ p t := fun t q1 q2 q3 => by
      rw [hp t q1 q2, in_cons]
      rintro (q | q)
      · omega
      · have := low t q; omega
    rcases Int.lt_or_le h s.1 with c | c
    · have := cnt_gap (p := p) (n := a.toNat) (h - a.toNat) (fun t q1 q2 => n1 t (by omega) (by omega) (by omega))
      rw [show a.toNat + (h - a.toNat) = h by omega] at this
      rw [this, below_cons, below_zero h4 (by omega)]; omega
    · have e1 := cnt_gap (p := p) (n := a.toNat) (s.1.toNat - a.toNat) (fun t q1 q2 => n1 t (by omega) (by omega) (by omega))
      rw [show a.toNat + (s.1.toNat - a.toNat) = s.1.toNat by omega] at e1
      rcases Int.lt_or_le h s.2 with d | d
      · have e2 := cnt_all (p := p) (n := s.1.toNat) (h - s.1.toNat) (fun t q1 q2 => by rw [hp t (by omega) (by omega), in_cons]; exact .inl ⟨by omega, by omega⟩)
        rw [show s.1.toNat + (h - s.1.toNat) = h by omega] at e2
        rw [e2, e1, below_cons, below_zero h4 (by omega)]; omega
      · have e2 := cnt_all (p := p) (n := s.1.toNat) (s.2.toNat - s.1.toNat) (fun t q1 q2 => by rw [hp t (by omega) (by omega), in_cons]; exact .inl ⟨by omega, by omega⟩)
        rw [show s.1.toNat + (s.2.toNat - s.1.toNat) = s.2.toNat by omega] at e2
        have e3 := below_cnt (l := l) (a := s.2) h p (h4.mono (by omega)) (by omega) d hm (fun t q1 q2 => by
          rw [hp t (by omega) q2, in_cons]
          constructor
          · rintro (q | q)
            · omega
            · exact q
          · exact .inr)
        rw [e3, e2, e1, below_cons]; omega
theorem below_canon (p : Int → Prop) (h : Nat) (hh : h ≤ 32054400) : below (canon p) h = cnt p h := by
  have := below_cnt (l := canon p) (a := 0) h p (canon_plain p) (by omega) (by omega) hh (fun t a b => by rw [canon_in]; exact ⟨fun q => ⟨by omega, by omega, q⟩, fun q => q.2.2⟩)
  rw [this]; simp [cnt]
/-- How many seconds a set has. -/
noncomputable def sz (p : Int → Prop) : Int := cnt p 32054400
theorem szL_canon (p : Int → Prop) : szL (canon p) = sz p := by
  rw [← below_top (h := ((32054400 : Nat) : Int)) (canon_plain p) (by omega), below_canon p _ (Nat.le_refl _)]; rfl
theorem sz_bound (p : Int → Prop) : 0 ≤ sz p ∧ sz p ≤ 32054400 := by have := cnt_bound p 32054400; unfold sz; omega
theorem sz_congr {p q : Int → Prop} (h : ∀ t, 0 ≤ t → t < 32054400 → (p t ↔ q t)) : sz p = sz q := cnt_congr (fun t a b => h t a (by omega))
theorem sz_or {p q r : Int → Prop} (h : ∀ t, 0 ≤ t → t < 32054400 → (r t ↔ p t ∨ q t) ∧ ¬ (p t ∧ q t)) : sz r = sz p + sz q := cnt_or (fun t a b => h t a (by omega))

/-- The first n numbers of plain spans, n above 0. -/
def firstL : Int → List (Int × Int) → List (Int × Int)
  | _, [] => []
  | n, s :: l => if n ≤ s.2 - s.1 then [(s.1, s.1 + n)] else s :: firstL (n - (s.2 - s.1)) l
theorem firstL_spec : ∀ (l : List (Int × Int)) (a n : Int), PlainFrom a l → 1 ≤ n → PlainFrom a (firstL n l) ∧ ∀ t, In (firstL n l) t ↔ In l t ∧ below l t < n
  | [], a, n, h, hn => by simp [firstL, PlainFrom, in_nil]
  | s :: l, a, n, ⟨h1, h2, h3, h4⟩, hn => by
    have low : ∀ t, In l t → s.2 < t := fun t ht => by have := h4.bound ht; omega
    have nn : ∀ t, 0 ≤ below l t := fun t => by
      unfold below
      clear h4 low
      induction l with
      | nil => simp
      | cons x l ih => rw [List.map_cons, List.sum_cons]; omega
    unfold firstL
    split
    · rename_i hle
      refine ⟨⟨h1, by simp; omega, by simp; omega, trivial⟩, fun t => ?_⟩
      rw [in_one, in_cons]
      simp only []
      constructor
      · rintro ⟨q1, q2⟩
        refine ⟨.inl ⟨q1, by omega⟩, ?_⟩
        rw [below_cons, below_zero h4 (by omega)]; omega
      · rintro ⟨q | q, r⟩
        · rw [below_cons, below_zero h4 (by omega)] at r; omega
        · have := low t q
          have := nn t
          rw [below_cons] at r; omega
    · rename_i hle
      obtain ⟨i1, i2⟩ := firstL_spec l (s.2 + 1) (n - (s.2 - s.1)) h4 (by omega)
      refine ⟨⟨h1, h2, h3, i1⟩, fun t => ?_⟩
      rw [in_cons, in_cons, i2, below_cons]
      constructor
      · rintro (q | ⟨q, r⟩)
        · refine ⟨.inl q, ?_⟩
          rw [below_zero h4 (by omega)]; omega
        · have := low t q
          exact ⟨.inr q, by omega⟩
      · rintro ⟨q | q, r⟩
        · exact .inl q
        · have := low t q
          exact .inr ⟨q, by omega⟩
theorem firstL_canon (p : Int → Prop) (n : Int) (hn : 1 ≤ n) : firstL n (canon p) = canon (fun t => p t ∧ cnt p t.toNat < n) := by
  obtain ⟨i1, i2⟩ := firstL_spec (canon p) 0 n (canon_plain p) hn
  refine canon_eq i1 (fun t => ?_)
  rw [i2, canon_in]
  constructor
  · rintro ⟨⟨a, b, c⟩, d⟩
    have := below_canon p t.toNat (by omega)
    rw [show ((t.toNat : Nat) : Int) = t by omega] at this
    exact ⟨a, b, c, by omega⟩
  · rintro ⟨a, b, c, d⟩
    have := below_canon p t.toNat (by omega)
    rw [show ((t.toNat : Nat) : Int) = t by omega] at this
    exact ⟨⟨a, b, c⟩, by omega⟩

theorem plain_len : ∀ {l : List (Int × Int)} {a : Int}, PlainFrom a l → a ≤ 32054401 → (l.length : Int) ≤ 32054401 - a
  | [], a, _, h => by simp; omega
  | s :: l, a, ⟨h1, h2, h3, h4⟩, h => by
    have := plain_len h4 (by omega)
    simp; omega
theorem canon_len (p : Int → Prop) : (canon p).length ≤ 32054401 := by have := plain_len (canon_plain p) (by omega); omega
end Go.Proofs.Ytojhecllgkoclaa
