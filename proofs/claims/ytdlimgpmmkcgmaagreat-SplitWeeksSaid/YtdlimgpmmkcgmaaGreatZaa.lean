/-
  Words that all texts of this family share: a slice of numbers that came in; draws; endings.
  Sets of seconds as lists of spans: no program here. A list is plain if its spans have seconds, lie within all time, and do not touch; each set has one plain list ('canon').
  Sets of seconds, continued: what two plain lists have in common, gone through once; what is between plain spans; how many there are; the first ones. No program here.
  Numbers and texts as bytes: no program here. A number's bytes: how many, and its digits to 256, the highest first.
  Numbers of parts: a part is so many numbers, or a list of rows of so many numbers, with how many rows ahead. What is written so is read in one way. No program here.
  The model's numbers of 8 and 32 bits, and words of bits: no program here.
  Seconds by night: no program here.
-/
import Derived.WalkKit
import Derived.Below
import Derived.Deep.Draws
import Derived.OpenShut
import Derived.Laws.BitsAllLaws
import Derived.Laws.BitsLemmas
namespace Go.Proofs.YtdlimgpmmkcgmaaGreat
open Go.RowKit

theorem ret_two {k l : IntKind} {a b c d : Int} (h : a = b) (h' : c = d) : Ending.returned (.tuple #[.int k a, .int l c]) = .returned (.tuple #[.int k b, .int l d]) := by rw [h, h']
theorem ret_one {k : IntKind} {a b : Int} (h : a = b) : Ending.returned (.int k a) = .returned (.int k b) := by rw [h]
theorem ret_bool {a b : Bool} (h : a = b) : Ending.returned (.bool a) = .returned (.bool b) := by rw [h]

theorem below_drewN {B : Nat} {a w : World} (h : Below B a w) (n : Nat) : Below B a (w.drewN n) := ⟨h.os, h.tape, h.output, h.size, h.block⟩

theorem below_drew {B : Nat} {a w : World} (h : Below B a w) : Below B a w.drew := ⟨h.os, h.tape, h.output, h.size, h.block⟩

section
variable {P : Program} {f : FuncId} {args : Array Value} {w : World} {v : Ending}
theorem quietB (h : Calls P f args w fun e w' => e = v ∧ ∃ n, w' = w.drewN n) : Calls P f args w fun e w' => e = v ∧ Below w.heap.size w w' :=
  h.mono fun _ _ ⟨he, n, hn⟩ => ⟨he, by rw [hn]; exact below_drewN (Below.refl _ _) n⟩
theorem sameB (h : Calls P f args w fun e w' => e = v ∧ w = w') : Calls P f args w fun e w' => e = v ∧ Below w.heap.size w w' :=
  h.mono fun _ _ ⟨he, hn⟩ => ⟨he, by rw [← hn]; exact Below.refl _ _⟩
end

theorem bel_on {a w w' : World} (h : Below a.heap.size a w) (k : Below w.heap.size w w') : Below a.heap.size a w' := h.trans (k.mono h.size)
/-- A step behind a new block. -/
theorem bel_new {a w w' : World} {o : Obj} (h : Below a.heap.size a w) (k : Below (w.heap.size + 1) (w.alloc o) w') : Below a.heap.size a w' :=
  (h.alloc h.size o).trans (k.mono (by have := h.size; omega))

theorem bel_alloc {a w : World} (h : Below a.heap.size a w) (o : Obj) : Below a.heap.size a (w.alloc o) := h.alloc h.size o
theorem bel_set {a w : World} (h : Below a.heap.size a w) {p : Addr} (hp : a.heap.size ≤ p.block) (v : Value) : Below a.heap.size a (w.setCell p v) := h.setCell hp v

/-- What the walk is told of a slice of integers that came in. -/
def IsRow (k : IntKind) (w : World) (a : Option Addr) (len cap : Nat) (zs : List Int) : Prop :=
  (a = none ∧ len = 0 ∧ cap = 0 ∧ zs = []) ∨
  ∃ x, a = some x ∧ len ≤ cap ∧ cap ≤ maxLen ∧ zs.length = cap ∧ (∀ i, i < zs.length → w.cell? (x.add i) = some (.int k (zs.getD i 0))) ∧ ∀ n ∈ zs, (Lit.int k n).wf = true

end Go.Proofs.YtdlimgpmmkcgmaaGreat

namespace Go.Proofs.YtdlimgpmmkcgmaaGreat
set_option linter.unusedVariables false

/-- t is one of the spans' numbers. -/
def In (l : List (Int × Int)) (t : Int) : Prop := ∃ s, s ∈ l ∧ s.1 ≤ t ∧ t < s.2

def PlainFrom : Int → List (Int × Int) → Prop
  | _, [] => True
  | lo, s :: l => lo ≤ s.1 ∧ s.1 < s.2 ∧ s.2 ≤ 32054400 ∧ PlainFrom (s.2 + 1) l

theorem in_nil (t : Int) : ¬ In [] t := by rintro ⟨s, h, _⟩; cases h
theorem in_cons (s : Int × Int) (l : List (Int × Int)) (t : Int) : In (s :: l) t ↔ (s.1 ≤ t ∧ t < s.2) ∨ In l t := by
  unfold In
  constructor
  · rintro ⟨x, hx, h⟩
    rcases List.mem_cons.1 hx with rfl | hx
    · exact .inl h
    · exact .inr ⟨x, hx, h⟩
  · rintro (h | ⟨x, hx, h⟩)
    · exact ⟨s, List.mem_cons_self, h⟩
    · exact ⟨x, List.mem_cons_of_mem _ hx, h⟩
theorem in_append (l m : List (Int × Int)) (t : Int) : In (l ++ m) t ↔ In l t ∨ In m t := by
  induction l with
  | nil => simp [in_nil]
  | cons s l ih => rw [List.cons_append, in_cons, in_cons, ih, or_assoc]
theorem in_one (s : Int × Int) (t : Int) : In [s] t ↔ s.1 ≤ t ∧ t < s.2 := by rw [in_cons]; simp [in_nil]

theorem PlainFrom.mono : ∀ {l : List (Int × Int)} {a b : Int}, b ≤ a → PlainFrom a l → PlainFrom b l
  | [], _, _, _, _ => trivial
  | _ :: _, _, _, h, hp => ⟨by have := hp.1; omega, hp.2⟩
theorem PlainFrom.bound : ∀ {l : List (Int × Int)} {a t : Int}, PlainFrom a l → In l t → a ≤ t ∧ t < 32054400
  | [], _, _, _, h => absurd h (in_nil _)
  | s :: l, a, t, hp, h => by
    obtain ⟨h1, h2, h3, h4⟩ := hp
    rcases (in_cons s l t).1 h with h | h
    · omega
    · have := PlainFrom.bound h4 h; omega

/-- Two plain lists of one set are the same. -/
theorem plain_one : ∀ {l m : List (Int × Int)} {a : Int}, PlainFrom a l → PlainFrom a m → (∀ t, In l t ↔ In m t) → l = m
  | [], [], _, _, _, _ => rfl
  | [], s :: m, a, _, hm, h => absurd ((h s.1).2 ((in_cons _ _ _).2 (.inl ⟨Int.le_refl _, hm.2.1⟩))) (in_nil _)
  | s :: l, [], a, hl, _, h => absurd ((h s.1).1 ((in_cons _ _ _).2 (.inl ⟨Int.le_refl _, hl.2.1⟩))) (in_nil _)
  | s :: l, r :: m, a, hl, hm, h => by
    obtain ⟨l1, l2, l3, l4⟩ := hl
    obtain ⟨m1, m2, m3, m4⟩ := hm
    have kl : ∀ t, In (s :: l) t → s.1 ≤ t := fun t ht => by
      rcases (in_cons _ _ _).1 ht with ht | ht
      · exact ht.1
      · have := PlainFrom.bound l4 ht; omega
    have km : ∀ t, In (r :: m) t → r.1 ≤ t := fun t ht => by
      rcases (in_cons _ _ _).1 ht with ht | ht
      · exact ht.1
      · have := PlainFrom.bound m4 ht; omega
    have e1 : s.1 = r.1 := by
      have h1 := km _ ((h s.1).1 ((in_cons _ _ _).2 (.inl ⟨Int.le_refl _, l2⟩)))
      have h2 := kl _ ((h r.1).2 ((in_cons _ _ _).2 (.inl ⟨Int.le_refl _, m2⟩)))
      omega
    have nl : ¬ In (s :: l) s.2 := fun ht => by
      rcases (in_cons _ _ _).1 ht with ht | ht
      · omega
      · have := PlainFrom.bound l4 ht; omega
    have nm : ¬ In (r :: m) r.2 := fun ht => by
      rcases (in_cons _ _ _).1 ht with ht | ht
      · omega
      · have := PlainFrom.bound m4 ht; omega
    have e2 : s.2 = r.2 := by
      rcases Int.lt_trichotomy s.2 r.2 with hlt | he | hgt
      · exact absurd ((h s.2).2 ((in_cons _ _ _).2 (.inl ⟨by omega, hlt⟩))) nl
      · exact he
      · exact absurd ((h r.2).1 ((in_cons _ _ _).2 (.inl ⟨by omega, hgt⟩))) nm
    have e : s = r := Prod.ext e1 e2
    subst e
    have : l = m := plain_one l4 m4 (fun t => by
      have ht := h t
      rw [in_cons, in_cons] at ht
      constructor
      · intro hi
        have := PlainFrom.bound l4 hi
        rcases ht.1 (.inr hi) with q | q
        · omega
        · exact q
      · intro hi
        have := PlainFrom.bound m4 hi
        rcases ht.2 (.inr hi) with q | q
        · omega
        · exact q)
    rw [this]

theorem exists_canon (p : Int → Prop) : ∀ (n : Nat) (lo : Int), lo + n = 32054400 → ∃ l, PlainFrom lo l ∧ ∀ t, In l t ↔ lo ≤ t ∧ t < 32054400 ∧ p t
  | 0, lo, h => ⟨[], trivial, fun t => by simp [in_nil]; omega⟩
  | n + 1, lo, h => by
    obtain ⟨l, hp, hi⟩ := exists_canon p n (lo + 1) (by omega)
    by_cases hlo : p lo
    · match l, hp, hi with
      | [], hp, hi =>
        refine ⟨[(lo, lo + 1)], ⟨Int.le_refl _, by simp; omega, by simp; omega, trivial⟩, fun t => ?_⟩
        rw [in_one]
        have := hi t
        simp only [in_nil, false_iff] at this
        constructor
        · intro ht
          obtain rfl : t = lo := by simp at ht; omega
          exact ⟨by omega, by omega, hlo⟩
        · intro ⟨h1, h2, h3⟩
          by_cases e : t = lo
          · subst e; exact ⟨by simp, by simp; omega⟩
          · exact absurd ⟨by omega, h2, h3⟩ this
      | s :: l, ⟨h1, h2, h3, h4⟩, hi =>
        by_cases hs : s.1 = lo + 1
        · refine ⟨(lo, s.2) :: l, ⟨Int.le_refl _, by simp; omega, h3, h4⟩, fun t => ?_⟩
          have := hi t
          rw [in_cons] at this ⊢
          by_cases e : t = lo
          · subst e
            exact ⟨fun _ => ⟨by omega, by omega, hlo⟩, fun _ => .inl ⟨by simp, by simp; omega⟩⟩
          · constructor
            · intro q
              have := this.1 (q.elim (fun q => .inl ⟨by simp at q; omega, by simp at q; omega⟩) .inr)
              exact ⟨by omega, this.2⟩
            · intro ⟨q1, q2⟩
              exact (this.2 ⟨by omega, q2⟩).elim (fun q => .inl ⟨by simp; omega, by simp; omega⟩) .inr
        · refine ⟨(lo, lo + 1) :: s :: l, ⟨Int.le_refl _, by simp; omega, by simp; omega, by simp; omega, h2, h3, h4⟩, fun t => ?_⟩
          have := hi t
          rw [in_cons]
          by_cases e : t = lo
          · subst e
            exact ⟨fun _ => ⟨by omega, by omega, hlo⟩, fun _ => .inl ⟨by simp, by simp; omega⟩⟩
          · constructor
            · intro q
              have := this.1 (q.elim (fun q => by simp at q; omega) id)
              exact ⟨by omega, this.2⟩
            · intro ⟨q1, q2⟩
              exact .inr (this.2 ⟨by omega, q2⟩)
    · refine ⟨l, hp.mono (by omega), fun t => ?_⟩
      rw [hi t]
      constructor
      · rintro ⟨h1, h2⟩; exact ⟨by omega, h2⟩
      · rintro ⟨h1, h2, h3⟩
        refine ⟨?_, h2, h3⟩
        by_cases e : t = lo
        · subst e; exact absurd h3 hlo
        · omega

/-- The plain spans of the numbers from 0 on, below all time's end, of which p holds. -/
noncomputable def canon (p : Int → Prop) : List (Int × Int) := Classical.choose (exists_canon p 32054400 0 (by omega))
theorem canon_plain (p : Int → Prop) : PlainFrom 0 (canon p) := (Classical.choose_spec (exists_canon p 32054400 0 (by omega))).1
theorem canon_in (p : Int → Prop) (t : Int) : In (canon p) t ↔ 0 ≤ t ∧ t < 32054400 ∧ p t := (Classical.choose_spec (exists_canon p 32054400 0 (by omega))).2 t
theorem canon_eq {p : Int → Prop} {l : List (Int × Int)} (hl : PlainFrom 0 l) (h : ∀ t, In l t ↔ 0 ≤ t ∧ t < 32054400 ∧ p t) : l = canon p :=
  plain_one hl (canon_plain p) (fun t => by rw [h, canon_in])
theorem canon_congr {p q : Int → Prop} (h : ∀ t, 0 ≤ t → t < 32054400 → (p t ↔ q t)) : canon p = canon q :=
  canon_eq (canon_plain p) (fun t => by
    rw [canon_in]
    constructor
    · rintro ⟨a, b, c⟩; exact ⟨a, b, (h t a b).1 c⟩
    · rintro ⟨a, b, c⟩; exact ⟨a, b, (h t a b).2 c⟩)
theorem canon_self {l : List (Int × Int)} (hl : PlainFrom 0 l) : canon (In l) = l :=
  (canon_eq hl (fun t => ⟨fun h => ⟨(hl.bound h).1, (hl.bound h).2, h⟩, fun h => h.2.2⟩)).symm
theorem canon_none {p : Int → Prop} (h : ∀ t, 0 ≤ t → t < 32054400 → ¬ p t) : canon p = [] :=
  (canon_eq (l := []) trivial (fun t => ⟨fun h => absurd h (in_nil _), fun ⟨a, b, c⟩ => absurd c (h t a b)⟩)).symm

/-- Plain, as of pairs: for lists that grow at their end. -/
theorem plain_pairs : ∀ {l : List (Int × Int)} {a : Int}, PlainFrom a l ↔ (∀ s ∈ l, a ≤ s.1 ∧ s.1 < s.2 ∧ s.2 ≤ 32054400) ∧ l.Pairwise (fun x y => x.2 < y.1)
  | [], a => by simp [PlainFrom]
  | s :: l, a => by
    simp only [PlainFrom, List.pairwise_cons, List.mem_cons, forall_eq_or_imp]
    rw [plain_pairs (l := l)]
    constructor
    · rintro ⟨h1, h2, h3, h4, h5⟩
      exact ⟨⟨⟨h1, h2, h3⟩, fun x hx => by have := h4 x hx; omega⟩, fun x hx => by have := h4 x hx; omega, h5⟩
    · rintro ⟨⟨⟨h1, h2, h3⟩, h4⟩, h5, h6⟩
      exact ⟨h1, h2, h3, fun x hx => by have := h4 x hx; have := h5 x hx; omega, h6⟩
theorem plain_snoc {l : List (Int × Int)} {a : Int} {s : Int × Int} (hl : PlainFrom a l) (h : ∀ x ∈ l, x.2 < s.1) (h1 : a ≤ s.1) (h2 : s.1 < s.2) (h3 : s.2 ≤ 32054400) : PlainFrom a (l ++ [s]) := by
  rw [plain_pairs] at hl ⊢
  refine ⟨fun x hx => ?_, List.pairwise_append.2 ⟨hl.2, by simp, fun x hx y hy => ?_⟩⟩
  · rcases List.mem_append.1 hx with hx | hx
    · exact hl.1 x hx
    · rw [List.mem_singleton.1 hx]; exact ⟨h1, h2, h3⟩
  · rw [List.mem_singleton.1 hy]; exact h x hx
theorem plain_unsnoc {l : List (Int × Int)} {a : Int} {s : Int × Int} (hl : PlainFrom a (l ++ [s])) : PlainFrom a l ∧ (∀ x ∈ l, x.2 < s.1) ∧ a ≤ s.1 ∧ s.1 < s.2 ∧ s.2 ≤ 32054400 := by
  rw [plain_pairs] at hl
  rw [plain_pairs]
  obtain ⟨h1, h2⟩ := hl
  obtain ⟨h3, _, h4⟩ := List.pairwise_append.1 h2
  exact ⟨⟨fun x hx => h1 x (by simp [hx]), h3⟩, fun x hx => h4 x hx s (by simp), h1 s (by simp)⟩

/-- A list whose numbers are those of p below t, plain. -/
def Upto (p : Int → Prop) (t : Int) (l : List (Int × Int)) : Prop := PlainFrom 0 l ∧ (∀ x ∈ l, x.2 ≤ t) ∧ ∀ u, In l u ↔ 0 ≤ u ∧ u < t ∧ p u

theorem upto_skip {p : Int → Prop} {t v : Int} {l : List (Int × Int)} (h : Upto p t l) (htv : t ≤ v) (hn : ∀ u, t ≤ u → u < v → ¬ p u) : Upto p v l :=
  ⟨h.1, fun x hx => by have := h.2.1 x hx; omega, fun u => by
    rw [h.2.2]
    constructor
    · rintro ⟨a, b, c⟩; exact ⟨a, by omega, c⟩
    · rintro ⟨a, b, c⟩
      refine ⟨a, ?_, c⟩
      rcases Int.lt_or_le u t with q | q
      · exact q
      · exact absurd c (hn u q b)⟩
theorem upto_snoc {p : Int → Prop} {t v : Int} {l : List (Int × Int)} (h : Upto p t l) (h0 : 0 ≤ t) (htv : t < v) (hv : v ≤ 32054400) (hn : ∀ u, t ≤ u → u < v → p u) (hlast : ∀ x ∈ l, x.2 ≠ t) : Upto p v (l ++ [(t, v)]) :=
  ⟨plain_snoc h.1 (fun x hx => by have := h.2.1 x hx; have := hlast x hx; simp; omega) h0 htv hv,
   fun x hx => by
    rcases List.mem_append.1 hx with hx | hx
    · have := h.2.1 x hx; omega
    · rw [List.mem_singleton.1 hx]; exact Int.le_refl _,
   fun u => by
    rw [in_append, in_one, h.2.2]
    constructor
    · rintro (⟨a, b, c⟩ | ⟨a, b⟩)
      · exact ⟨a, by omega, c⟩
      · exact ⟨by simp at a; omega, b, hn u a b⟩
    · rintro ⟨a, b, c⟩
      rcases Int.lt_or_le u t with q | q
      · exact .inl ⟨a, q, c⟩
      · exact .inr ⟨q, b⟩⟩
theorem upto_last {p : Int → Prop} {t v : Int} {l : List (Int × Int)} {s : Int × Int} (h : Upto p t (l ++ [s])) (hs : s.2 = t) (htv : t < v) (hv : v ≤ 32054400) (hn : ∀ u, t ≤ u → u < v → p u) : Upto p v (l ++ [(s.1, v)]) := by
  obtain ⟨h1, h2, h3⟩ := h
  obtain ⟨k1, k2, k3, k4, k5⟩ := plain_unsnoc h1
  refine ⟨plain_snoc k1 k2 k3 (by simp; omega) hv, fun x hx => ?_, fun u => ?_⟩
  · rcases List.mem_append.1 hx with hx | hx
    · have := k2 x hx; omega
    · rw [List.mem_singleton.1 hx]; exact Int.le_refl _
  · have := h3 u
    rw [in_append, in_one] at this ⊢
    constructor
    · rintro (q | ⟨a, b⟩)
      · have := this.1 (.inl q); exact ⟨this.1, by omega, this.2.2⟩
      · simp at a b
        rcases Int.lt_or_le u t with q | q
        · have := this.1 (.inr ⟨a, by omega⟩); exact ⟨this.1, by omega, this.2.2⟩
        · exact ⟨by omega, b, hn u q b⟩
    · rintro ⟨a, b, c⟩
      rcases Int.lt_or_le u t with q | q
      · rcases this.2 ⟨a, q, c⟩ with q | q
        · exact .inl q
        · exact .inr ⟨q.1, by simp; omega⟩
      · exact .inr ⟨by simp; omega, b⟩

/-- What Norm makes of spans that rise: the list so far, plain, of the union; no From above lim. -/
def Grown (p : Int → Prop) (lim : Int) (l : List (Int × Int)) : Prop := PlainFrom 0 l ∧ (∀ x ∈ l, x.1 ≤ lim) ∧ ∀ u, In l u ↔ p u
theorem grown_snoc {p q : Int → Prop} {a : Int} {l : List (Int × Int)} {s : Int × Int} (h : Grown p a l) (has : a ≤ s.1) (h0 : 0 ≤ s.1) (h1 : s.1 < s.2) (h2 : s.2 ≤ 32054400) (hl : ∀ x ∈ l, x.2 < s.1)
    (hq : ∀ u, q u ↔ p u ∨ (s.1 ≤ u ∧ u < s.2)) : Grown q s.1 (l ++ [s]) :=
  ⟨plain_snoc h.1 hl h0 h1 h2, fun x hx => by
    rcases List.mem_append.1 hx with hx | hx
    · have := h.2.1 x hx; omega
    · rw [List.mem_singleton.1 hx]; exact Int.le_refl _, fun u => by rw [in_append, in_one, h.2.2, hq]⟩
theorem grown_last {p q : Int → Prop} {a : Int} {l : List (Int × Int)} {r s : Int × Int} (h : Grown p a (l ++ [r])) (has : a ≤ s.1) (h1 : s.1 < s.2) (h2 : s.2 ≤ 32054400) (hr : s.1 ≤ r.2)
    (hq : ∀ u, q u ↔ p u ∨ (s.1 ≤ u ∧ u < s.2)) : Grown q s.1 (l ++ [(r.1, max r.2 s.2)]) := by
  obtain ⟨g1, g2, g3⟩ := h
  obtain ⟨k1, k2, k3, k4, k5⟩ := plain_unsnoc g1
  have hr1 := g2 r (by simp)
  refine ⟨plain_snoc k1 k2 k3 (by simp; omega) (by simp; omega), fun x hx => ?_, fun u => ?_⟩
  · rcases List.mem_append.1 hx with hx | hx
    · have := k2 x hx; have := (plain_pairs.1 k1).1 x hx; omega
    · rw [List.mem_singleton.1 hx]; simp; omega
  · have := g3 u
    rw [hq, ← this, in_append, in_append, in_one, in_one, or_assoc]
    have e : (r.1 ≤ u ∧ u < max r.2 s.2) ↔ ((r.1 ≤ u ∧ u < r.2) ∨ (s.1 ≤ u ∧ u < s.2)) := by omega
    simp only []
    rw [e]
end Go.Proofs.YtdlimgpmmkcgmaaGreat

namespace Go.Proofs.YtdlimgpmmkcgmaaGreat
set_option linter.unusedVariables false

/-- One part against plain spans: what is left of these, and what they have in common. -/
def stepW (p : Int × Int) : List (Int × Int) → List (Int × Int) × List (Int × Int)
  | [] => ([], [])
  | x :: l =>
    if x.1 < p.2 then
      if p.2 < x.2 then (x :: l, if max x.1 p.1 < min x.2 p.2 then [(max x.1 p.1, min x.2 p.2)] else [])
      else ((stepW p l).1, (if max x.1 p.1 < min x.2 p.2 then [(max x.1 p.1, min x.2 p.2)] else []) ++ (stepW p l).2)
    else (x :: l, [])

theorem seg_in (x p : Int × Int) (t : Int) : In (if max x.1 p.1 < min x.2 p.2 then [(max x.1 p.1, min x.2 p.2)] else []) t ↔ (x.1 ≤ t ∧ t < x.2) ∧ (p.1 ≤ t ∧ t < p.2) := by
  split
  · rw [in_one]; simp only []; omega
  · simp only [in_nil, false_iff]; omega

/-- Behind the part's end all is left; what they have in common is plain, ends at the part's end at most. -/
theorem stepW_spec (p : Int × Int) (hp : p.1 < p.2) (hpm : p.2 ≤ 32054400) : ∀ (l : List (Int × Int)) (a : Int), PlainFrom a l →
    PlainFrom a (stepW p l).1 ∧ (∀ lo, lo ≤ p.1 → PlainFrom lo (stepW p l).2) ∧ PlainFrom a (stepW p l).2 ∧ (∀ x ∈ (stepW p l).2, x.2 ≤ p.2) ∧ (∀ t, In (stepW p l).2 t ↔ In l t ∧ p.1 ≤ t ∧ t < p.2) ∧ (∀ t, p.2 ≤ t → (In (stepW p l).1 t ↔ In l t)) ∧ (∀ t, In (stepW p l).1 t → In l t)
  | [], a, h => by simp [stepW, PlainFrom, in_nil]
  | x :: l, a, h => by
    obtain ⟨h1, h2, h3, h4⟩ := h
    obtain ⟨i1, i0, i2, i3, i4, i5, i6⟩ := stepW_spec p hp hpm l _ h4
    unfold stepW
    by_cases hx : x.1 < p.2
    · rw [if_pos hx]
      by_cases hx2 : p.2 < x.2
      · rw [if_pos hx2]
        refine ⟨⟨h1, h2, h3, h4⟩, fun lo hlo => ?_, ?_, ?_, fun t => ?_, fun t _ => Iff.rfl, fun t ht => ht⟩
        · split
          · exact ⟨by simp; omega, by simp; omega, by simp; omega, trivial⟩
          · trivial
        · split
          · exact ⟨by simp; omega, by simp; omega, by simp; omega, trivial⟩
          · trivial
        · split
          · intro y hy; rw [List.mem_singleton.1 hy]; simp; omega
          · intro y hy; cases hy
        · rw [seg_in, in_cons]
          constructor
          · rintro ⟨q, r⟩; exact ⟨.inl q, r⟩
          · rintro ⟨q | q, r⟩
            · exact ⟨q, r⟩
            · have := h4.bound q; omega
      · rw [if_neg hx2]
        refine ⟨i1.mono (by omega), fun lo hlo => ?_, ?_, ?_, fun t => ?_, fun t ht => ?_, fun t ht => ?_⟩
        · split
          · refine ⟨by simp; omega, by simp; omega, by simp; omega, i2.mono (by simp; omega)⟩
          · exact i0 lo hlo
        · split
          · refine ⟨by simp; omega, by simp; omega, by simp; omega, i2.mono (by simp; omega)⟩
          · exact i2.mono (by omega)
        · intro y hy
          rcases List.mem_append.1 hy with hy | hy
          · split at hy
            · rw [List.mem_singleton.1 hy]; simp; omega
            · cases hy
          · exact i3 y hy
        · rw [in_append, seg_in, in_cons, i4]
          constructor
          · rintro (⟨q, r⟩ | ⟨q, r⟩)
            · exact ⟨.inl q, r⟩
            · exact ⟨.inr q, r⟩
          · rintro ⟨q | q, r⟩
            · exact .inl ⟨q, r⟩
            · exact .inr ⟨q, r⟩
        · rw [i5 t ht, in_cons]
          constructor
          · exact .inr
          · rintro (q | q)
            · omega
            · exact q
        · rw [in_cons]; exact .inr (i6 t ht)
    · rw [if_neg hx]
      refine ⟨⟨h1, h2, h3, h4⟩, fun _ _ => trivial, trivial, fun y hy => (by cases hy), fun t => ?_, fun t _ => Iff.rfl, fun t ht => ht⟩
      simp only [in_nil, false_iff]
      rintro ⟨q, r⟩
      rcases (in_cons _ _ _).1 q with q | q
      · omega
      · have := h4.bound q; omega

/-- Parts, one behind the other: what is left, and what has been found. -/
def runW (l : List (Int × Int)) (ps : List (Int × Int)) : List (Int × Int) × List (Int × Int) :=
  ps.foldl (fun s p => ((stepW p s.1).1, s.2 ++ (stepW p s.1).2)) (l, [])
theorem runW_snoc (l pre : List (Int × Int)) (x : Int × Int) : runW l (pre ++ [x]) = ((stepW x (runW l pre).1).1, (runW l pre).2 ++ (stepW x (runW l pre).1).2) := by
  unfold runW; rw [List.foldl_append]; rfl
theorem runW_stop {l pre ps : List (Int × Int)} (hpre : pre <+: ps) (h : (runW l pre).1 = []) : runW l ps = runW l pre := by
  obtain ⟨rest, rfl⟩ := hpre
  have key : ∀ (rest : List (Int × Int)) (s : List (Int × Int) × List (Int × Int)), s.1 = [] → rest.foldl (fun s p => ((stepW p s.1).1, s.2 ++ (stepW p s.1).2)) s = s := by
    intro rest
    induction rest with
    | nil => intro s _; rfl
    | cons r rest ih =>
      intro s hs
      rw [List.foldl_cons, ih _ (by rw [hs]; rfl), hs]
      obtain ⟨s1, s2⟩ := s
      simp only at hs
      subst hs
      simp [stepW]
  show List.foldl _ _ (pre ++ rest) = _
  rw [List.foldl_append]
  exact key rest _ h

/-- What is found, of plain spans, and plain parts. -/
theorem runW_spec (l : List (Int × Int)) (hl : PlainFrom 0 l) : ∀ (n : Nat) (ps : List (Int × Int)), ps.length = n → PlainFrom 0 ps →
    PlainFrom 0 (runW l ps).1 ∧ PlainFrom 0 (runW l ps).2 ∧ (∀ t, In (runW l ps).2 t ↔ In l t ∧ In ps t) ∧ (∀ t, (∀ x ∈ ps, x.2 ≤ t) → (In (runW l ps).1 t ↔ In l t)) ∧ (∀ t, In (runW l ps).1 t → In l t) ∧ (∀ y ∈ (runW l ps).2, ∃ x ∈ ps, y.2 ≤ x.2)
  | 0, ps, hn, h => by
    obtain rfl : ps = [] := List.eq_nil_of_length_eq_zero hn
    simp [runW, PlainFrom, in_nil, hl]
  | n + 1, ps, hn, h => by
    obtain ⟨pre, x, rfl⟩ : ∃ pre x, ps = pre ++ [x] := ⟨ps.dropLast, ps.getLast (by intro e; simp [e] at hn), (List.dropLast_concat_getLast _).symm⟩
    obtain ⟨h1, h2, h3, h4, h5⟩ := plain_unsnoc h
    obtain ⟨i1, i2, i3, i4, i5, i6⟩ := runW_spec l hl n pre (by simpa using hn) h1
    obtain ⟨s1, s0, s2, s3, s4, s5, s6⟩ := stepW_spec x h4 h5 _ 0 i1
    rw [runW_snoc]
    refine ⟨s1, ?_, fun t => ?_, fun t ht => ?_, fun t ht => i5 t (s6 t ht), fun y hy => ?_⟩
    · rw [plain_pairs] at i2 ⊢
      have q := plain_pairs.1 (s0 x.1 (Int.le_refl _))
      refine ⟨fun y hy => ?_, List.pairwise_append.2 ⟨i2.2, q.2, fun y hy z hz => ?_⟩⟩
      · rcases List.mem_append.1 hy with hy | hy
        · exact i2.1 y hy
        · have := q.1 y hy; omega
      · obtain ⟨u, hu, hle⟩ := i6 y hy
        have := h2 u hu
        have := q.1 z hz
        omega
    · rw [in_append, in_append, in_one, s4, i3]
      constructor
      · rintro (⟨a, b⟩ | ⟨a, b⟩)
        · exact ⟨a, .inl b⟩
        · exact ⟨i5 t a, .inr b⟩
      · rintro ⟨a, b | b⟩
        · exact .inl ⟨a, b⟩
        · exact .inr ⟨(i4 t (fun u hu => by have := h2 u hu; omega)).2 a, b⟩
    · have hx := ht x (by simp)
      rw [s5 t hx]
      exact i4 t (fun u hu => ht u (by simp [hu]))
    · rcases List.mem_append.1 hy with hy | hy
      · obtain ⟨u, hu, hle⟩ := i6 y hy
        exact ⟨u, by simp [hu], hle⟩
      · exact ⟨x, by simp, s3 y hy⟩
theorem runW_canon {l ps : List (Int × Int)} (hl : PlainFrom 0 l) (hp : PlainFrom 0 ps) : (runW l ps).2 = canon (fun t => In l t ∧ In ps t) := by
  obtain ⟨i1, i2, i3, _⟩ := runW_spec l hl _ ps rfl hp
  exact canon_eq i2 (fun t => by
    rw [i3]
    exact ⟨fun h => ⟨(hl.bound h.1).1, (hl.bound h.1).2, h⟩, fun h => h.2.2⟩)

/-- What is between plain spans, from a number on. -/
def gapsL : Int → List (Int × Int) → List (Int × Int)
  | a, [] => if a < 32054400 then [(a, 32054400)] else []
  | a, s :: l => if a < s.1 then (a, s.1) :: gapsL s.2 l else gapsL s.2 l
theorem gapsL_spec : ∀ (l : List (Int × Int)) (a : Int), PlainFrom a l → a ≤ 32054400 → PlainFrom a (gapsL a l) ∧ ∀ t, In (gapsL a l) t ↔ a ≤ t ∧ t < 32054400 ∧ ¬ In l t
  | [], a, h, ha => by
    unfold gapsL
    split
    · refine ⟨⟨by simp, by simpa, by simp, trivial⟩, fun t => ?_⟩
      rw [in_one]; simp [in_nil]
    · refine ⟨trivial, fun t => ?_⟩
      simp only [in_nil, false_iff]; omega
  | s :: l, a, ⟨h1, h2, h3, h4⟩, ha => by
    obtain ⟨i1, i2⟩ := gapsL_spec l s.2 (h4.mono (by omega)) h3
    have key : ∀ t, s.2 ≤ t → (In (s :: l) t ↔ In l t) := fun t ht => by
      rw [in_cons]
      constructor
      · rintro (q | q)
        · omega
        · exact q
      · exact .inr
    have low : ∀ t, In l t → s.2 < t := fun t ht => by have := h4.bound ht; omega
    unfold gapsL
    split
    · rename_i hlt
      refine ⟨⟨by simp, by simpa, by simp; omega, i1.mono (by simp; omega)⟩, fun t => ?_⟩
      rw [in_cons, i2]
      constructor
      · rintro (⟨q1, q2⟩ | ⟨q1, q2, q3⟩)
        · simp only [] at q1 q2
          refine ⟨q1, by omega, fun hi => ?_⟩
          rcases (in_cons _ _ _).1 hi with hi | hi
          · omega
          · have := low t hi; omega
        · exact ⟨by omega, q2, fun hi => q3 ((key t q1).1 hi)⟩
      · rintro ⟨q1, q2, q3⟩
        rcases Int.lt_or_le t s.1 with q | q
        · exact .inl ⟨q1, q⟩
        · have : s.2 ≤ t := by
            rcases Int.lt_or_le t s.2 with q' | q'
            · exact absurd ((in_cons _ _ _).2 (.inl ⟨q, q'⟩)) q3
            · exact q'
          exact .inr ⟨this, q2, fun hi => q3 ((key t this).2 hi)⟩
    · rename_i hlt
      refine ⟨i1.mono (by omega), fun t => ?_⟩
      rw [i2]
      constructor
      · rintro ⟨q1, q2, q3⟩
        exact ⟨by omega, q2, fun hi => q3 ((key t q1).1 hi)⟩
      · rintro ⟨q1, q2, q3⟩
        have : s.2 ≤ t := by
          rcases Int.lt_or_le t s.2 with q' | q'
          · exact absurd ((in_cons _ _ _).2 (.inl ⟨by omega, q'⟩)) q3
          · exact q'
        exact ⟨this, q2, fun hi => q3 ((key t this).2 hi)⟩
theorem gapsL_len : ∀ (l : List (Int × Int)) (a : Int), (gapsL a l).length ≤ l.length + 1
  | [], a => by unfold gapsL; split <;> simp
  | s :: l, a => by
    have := gapsL_len l s.2
    unfold gapsL
    split <;> simp <;> omega

/-- How many numbers below n are p's. -/
noncomputable def cnt (p : Int → Prop) : Nat → Int
  | 0 => 0
  | n + 1 => cnt p n + (open Classical in if p n then 1 else 0)
theorem cnt_succ (p : Int → Prop) (n : Nat) : cnt p (n + 1) = cnt p n + (open Classical in if p n then 1 else 0) := rfl
theorem cnt_yes {p : Int → Prop} {n : Nat} (h : p n) : cnt p (n + 1) = cnt p n + 1 := by rw [cnt_succ, if_pos h]
theorem cnt_no {p : Int → Prop} {n : Nat} (h : ¬ p n) : cnt p (n + 1) = cnt p n := by rw [cnt_succ, if_neg h]; omega
theorem cnt_step (p : Int → Prop) (n : Nat) : cnt p n ≤ cnt p (n + 1) ∧ cnt p (n + 1) ≤ cnt p n + 1 := by
  by_cases h : p n
  · rw [cnt_yes h]; omega
  · rw [cnt_no h]; omega
theorem cnt_mono (p : Int → Prop) (n : Nat) : ∀ k, cnt p n ≤ cnt p (n + k) ∧ cnt p (n + k) ≤ cnt p n + k
  | 0 => by simp
  | k + 1 => by have := cnt_mono p n k; have := cnt_step p (n + k); rw [← Nat.add_assoc]; omega
theorem cnt_bound (p : Int → Prop) (n : Nat) : 0 ≤ cnt p n ∧ cnt p n ≤ n := by
  have := cnt_mono p 0 n
  simp only [Nat.zero_add] at this
  have e : cnt p 0 = 0 := rfl
  omega
theorem cnt_le (p : Int → Prop) {m n : Nat} (h : m ≤ n) : cnt p m ≤ cnt p n := by
  have := (cnt_mono p m (n - m)).1; rwa [show m + (n - m) = n by omega] at this
theorem cnt_congr {p q : Int → Prop} : ∀ {n : Nat}, (∀ t : Int, 0 ≤ t → t < n → (p t ↔ q t)) → cnt p n = cnt q n
  | 0, _ => rfl
  | n + 1, h => by
    have ih := cnt_congr (p := p) (q := q) (n := n) (fun t a b => h t a (by omega))
    by_cases hp : p n
    · rw [cnt_yes hp, cnt_yes ((h n (by omega) (by omega)).1 hp), ih]
    · rw [cnt_no hp, cnt_no (fun hq => hp ((h n (by omega) (by omega)).2 hq)), ih]
theorem cnt_all {p : Int → Prop} {n : Nat} : ∀ k : Nat, (∀ t : Int, n ≤ t → t < n + k → p t) → cnt p (n + k) = cnt p n + k
  | 0, _ => by simp
  | k + 1, h => by
    rw [← Nat.add_assoc, cnt_yes (h _ (by omega) (by omega)), cnt_all k (fun t a b => h t a (by omega))]; omega
theorem cnt_gap {p : Int → Prop} {n : Nat} : ∀ k : Nat, (∀ t : Int, n ≤ t → t < n + k → ¬ p t) → cnt p (n + k) = cnt p n
  | 0, _ => by simp
  | k + 1, h => by
    rw [← Nat.add_assoc, cnt_no (h _ (by omega) (by omega)), cnt_gap k (fun t a b => h t a (by omega))]
theorem cnt_or {p q r : Int → Prop} : ∀ {n : Nat}, (∀ t : Int, 0 ≤ t → t < n → (r t ↔ p t ∨ q t) ∧ ¬ (p t ∧ q t)) → cnt r n = cnt p n + cnt q n
  | 0, _ => rfl
  | n + 1, h => by
    have ih := cnt_or (p := p) (q := q) (r := r) (n := n) (fun t a b => h t a (by omega))
    obtain ⟨h1, h2⟩ := h n (by omega) (by omega)
    by_cases hp : p n
    · rw [cnt_yes (h1.2 (.inl hp)), cnt_yes hp, cnt_no (fun hq => h2 ⟨hp, hq⟩)]; omega
    · by_cases hq : q n
      · rw [cnt_yes (h1.2 (.inr hq)), cnt_yes hq, cnt_no hp]; omega
      · rw [cnt_no (fun hr => (h1.1 hr).elim hp hq), cnt_no hp, cnt_no hq]; omega

/-- How many numbers of plain spans are below h. -/
def below (l : List (Int × Int)) (h : Int) : Int := (l.map fun s => max 0 (min s.2 h - s.1)).sum
/-- How many numbers plain spans have. -/
def szL (l : List (Int × Int)) : Int := (l.map fun s => s.2 - s.1).sum
theorem below_cons (s : Int × Int) (l : List (Int × Int)) (h : Int) : below (s :: l) h = max 0 (min s.2 h - s.1) + below l h := by simp [below]
theorem szL_cons (s : Int × Int) (l : List (Int × Int)) : szL (s :: l) = (s.2 - s.1) + szL l := by simp [szL]
theorem below_zero : ∀ {l : List (Int × Int)} {a h : Int}, PlainFrom a l → h ≤ a → below l h = 0
  | [], _, _, _, _ => rfl
  | s :: l, a, h, ⟨h1, h2, h3, h4⟩, hh => by rw [below_cons, below_zero h4 (by omega)]; omega
theorem below_top : ∀ {l : List (Int × Int)} {a h : Int}, PlainFrom a l → 32054400 ≤ h → below l h = szL l
  | [], _, _, _, _ => rfl
  | s :: l, a, h, ⟨h1, h2, h3, h4⟩, hh => by rw [below_cons, szL_cons, below_top h4 hh]; omega
theorem below_cnt : ∀ {l : List (Int × Int)} {a : Int} (h : Nat) (p : Int → Prop), PlainFrom a l → 0 ≤ a → a ≤ h → h ≤ 32054400 → (∀ t, a ≤ t → t < h → (p t ↔ In l t)) → cnt p h = cnt p a.toNat + below l h
  | [], a, h, p, _, h0, ha, hm, hp => by
    have := cnt_gap (p := p) (n := a.toNat) (h - a.toNat) (fun t q1 q2 => by rw [hp t (by omega) (by omega)]; exact in_nil _)
    rw [show a.toNat + (h - a.toNat) = h by omega] at this
    rw [this]; simp [below]
  | s :: l, a, h, p, ⟨h1, h2, h3, h4⟩, h0, ha, hm, hp => by
    have low : ∀ t, In l t → s.2 < t := fun t ht => by have := h4.bound ht; omega
    have n1 : ∀ t, a ≤ t → t < h → t < s.1 → ¬ p t := fun t q1 q2 q3 => by
      rw [hp t q1 q2, in_cons]
      rintro (q | q)
      · omega
      · have := low t q; omega
    rcases Int.lt_or_le h s.1 with c | c
    · have := cnt_gap (p := p) (n := a.toNat) (h - a.toNat) (fun t q1 q2 => n1 t (by omega) (by omega) (by omega))
      rw [show a.toNat + (h - a.toNat) = h by omega] at this
      rw [this, below_cons, below_zero h4 (by omega)]; omega
    · have e1 := cnt_gap (p := p) (n := a.toNat) (s.1.toNat - a.toNat) (fun t q1 q2 => n1 t (by omega) (by omega) (by omega))
      rw [show a.toNat + (s.1.toNat - a.toNat) = s.1.toNat by omega] at e1
      rcases Int.lt_or_le h s.2 with d | d
      · have e2 := cnt_all (p := p) (n := s.1.toNat) (h - s.1.toNat) (fun t q1 q2 => by rw [hp t (by omega) (by omega), in_cons]; exact .inl ⟨by omega, by omega⟩)
        rw [show s.1.toNat + (h - s.1.toNat) = h by omega] at e2
        rw [e2, e1, below_cons, below_zero h4 (by omega)]; omega
      · have e2 := cnt_all (p := p) (n := s.1.toNat) (s.2.toNat - s.1.toNat) (fun t q1 q2 => by rw [hp t (by omega) (by omega), in_cons]; exact .inl ⟨by omega, by omega⟩)
        rw [show s.1.toNat + (s.2.toNat - s.1.toNat) = s.2.toNat by omega] at e2
        have e3 := below_cnt (l := l) (a := s.2) h p (h4.mono (by omega)) (by omega) d hm (fun t q1 q2 => by
          rw [hp t (by omega) q2, in_cons]
          constructor
          · rintro (q | q)
            · omega
            · exact q
          · exact .inr)
        rw [e3, e2, e1, below_cons]; omega
theorem below_canon (p : Int → Prop) (h : Nat) (hh : h ≤ 32054400) : below (canon p) h = cnt p h := by
  have := below_cnt (l := canon p) (a := 0) h p (canon_plain p) (by omega) (by omega) hh (fun t a b => by rw [canon_in]; exact ⟨fun q => ⟨by omega, by omega, q⟩, fun q => q.2.2⟩)
  rw [this]; simp [cnt]
/-- How many seconds a set has. -/
noncomputable def sz (p : Int → Prop) : Int := cnt p 32054400
theorem szL_canon (p : Int → Prop) : szL (canon p) = sz p := by
  rw [← below_top (h := ((32054400 : Nat) : Int)) (canon_plain p) (by omega), below_canon p _ (Nat.le_refl _)]; rfl
theorem sz_bound (p : Int → Prop) : 0 ≤ sz p ∧ sz p ≤ 32054400 := by have := cnt_bound p 32054400; unfold sz; omega
theorem sz_congr {p q : Int → Prop} (h : ∀ t, 0 ≤ t → t < 32054400 → (p t ↔ q t)) : sz p = sz q := cnt_congr (fun t a b => h t a (by omega))
theorem sz_or {p q r : Int → Prop} (h : ∀ t, 0 ≤ t → t < 32054400 → (r t ↔ p t ∨ q t) ∧ ¬ (p t ∧ q t)) : sz r = sz p + sz q := cnt_or (fun t a b => h t a (by omega))

/-- The first n numbers of plain spans, n above 0. -/
def firstL : Int → List (Int × Int) → List (Int × Int)
  | _, [] => []
  | n, s :: l => if n ≤ s.2 - s.1 then [(s.1, s.1 + n)] else s :: firstL (n - (s.2 - s.1)) l
theorem firstL_spec : ∀ (l : List (Int × Int)) (a n : Int), PlainFrom a l → 1 ≤ n → PlainFrom a (firstL n l) ∧ ∀ t, In (firstL n l) t ↔ In l t ∧ below l t < n
  | [], a, n, h, hn => by simp [firstL, PlainFrom, in_nil]
  | s :: l, a, n, ⟨h1, h2, h3, h4⟩, hn => by
    have low : ∀ t, In l t → s.2 < t := fun t ht => by have := h4.bound ht; omega
    have nn : ∀ t, 0 ≤ below l t := fun t => by
      unfold below
      clear h4 low
      induction l with
      | nil => simp
      | cons x l ih => rw [List.map_cons, List.sum_cons]; omega
    unfold firstL
    split
    · rename_i hle
      refine ⟨⟨h1, by simp; omega, by simp; omega, trivial⟩, fun t => ?_⟩
      rw [in_one, in_cons]
      simp only []
      constructor
      · rintro ⟨q1, q2⟩
        refine ⟨.inl ⟨q1, by omega⟩, ?_⟩
        rw [below_cons, below_zero h4 (by omega)]; omega
      · rintro ⟨q | q, r⟩
        · rw [below_cons, below_zero h4 (by omega)] at r; omega
        · have := low t q
          have := nn t
          rw [below_cons] at r; omega
    · rename_i hle
      obtain ⟨i1, i2⟩ := firstL_spec l (s.2 + 1) (n - (s.2 - s.1)) h4 (by omega)
      refine ⟨⟨h1, h2, h3, i1⟩, fun t => ?_⟩
      rw [in_cons, in_cons, i2, below_cons]
      constructor
      · rintro (q | ⟨q, r⟩)
        · refine ⟨.inl q, ?_⟩
          rw [below_zero h4 (by omega)]; omega
        · have := low t q
          exact ⟨.inr q, by omega⟩
      · rintro ⟨q | q, r⟩
        · exact .inl q
        · have := low t q
          exact .inr ⟨q, by omega⟩
theorem firstL_canon (p : Int → Prop) (n : Int) (hn : 1 ≤ n) : firstL n (canon p) = canon (fun t => p t ∧ cnt p t.toNat < n) := by
  obtain ⟨i1, i2⟩ := firstL_spec (canon p) 0 n (canon_plain p) hn
  refine canon_eq i1 (fun t => ?_)
  rw [i2, canon_in]
  constructor
  · rintro ⟨⟨a, b, c⟩, d⟩
    have := below_canon p t.toNat (by omega)
    rw [show ((t.toNat : Nat) : Int) = t by omega] at this
    exact ⟨a, b, c, by omega⟩
  · rintro ⟨a, b, c, d⟩
    have := below_canon p t.toNat (by omega)
    rw [show ((t.toNat : Nat) : Int) = t by omega] at this
    exact ⟨⟨a, b, c⟩, by omega⟩

theorem plain_len : ∀ {l : List (Int × Int)} {a : Int}, PlainFrom a l → a ≤ 32054401 → (l.length : Int) ≤ 32054401 - a
  | [], a, _, h => by simp; omega
  | s :: l, a, ⟨h1, h2, h3, h4⟩, h => by
    have := plain_len h4 (by omega)
    simp; omega
theorem canon_len (p : Int → Prop) : (canon p).length ≤ 32054401 := by have := plain_len (canon_plain p) (by omega); omega
end Go.Proofs.YtdlimgpmmkcgmaaGreat

namespace Go.Proofs.YtdlimgpmmkcgmaaGreat
set_option linter.unusedVariables false
set_option linter.unusedSimpArgs false

/-- A number's digits to 256, the highest first. -/
def digs (n : Nat) : List Nat := if h : n = 0 then [] else digs (n / 256) ++ [n % 256]
termination_by n
decreasing_by omega
/-! ### Bytes -/
def bytN (l : List Nat) : List (BitVec 8) := l.map (BitVec.ofNat 8)
/-- A number's bytes. -/
def oneB (n : Nat) : List (BitVec 8) := BitVec.ofNat 8 (digs n).length :: bytN (digs n)
def putB (l : List Nat) : List (BitVec 8) := (l.map oneB).flatten
/-! ### The order of bytes -/
end Go.Proofs.YtdlimgpmmkcgmaaGreat

namespace Go.Proofs.YtdlimgpmmkcgmaaGreat
set_option linter.unusedVariables false
set_option linter.unusedSimpArgs false

inductive GPart where
  | fix (k : Nat)
  | tab (k : Nat)
abbrev Rows2 := List (List Int)
def GPart.nums : GPart → Rows2 → List Int
  | .fix _, t => t.flatten
  | .tab _, t => (t.length : Int) :: t.flatten
/-! ### Bytes -/
/-- Numbers from 0 on as bytes. -/
def bytesN (l : List Int) : List (BitVec 8) := putB (l.map Int.toNat)
/-! ### The numbers that bytes are -/
end Go.Proofs.YtdlimgpmmkcgmaaGreat

namespace Go.Proofs.YtdlimgpmmkcgmaaGreat
set_option linter.unusedVariables false
set_option linter.unusedSimpArgs false

abbrev v8 (n : BitVec 8) : Value := .int .u8 (n.toNat : Int)

def bytesV (l : List (BitVec 8)) : List Value := l.map v8
end Go.Proofs.YtdlimgpmmkcgmaaGreat

namespace Go.Proofs.YtdlimgpmmkcgmaaGreat
set_option linter.unusedVariables false
set_option linter.unusedSimpArgs false

/-- By night, of a night from f to g. -/
def nightP (f g t : Int) : Prop := if g < f then f ≤ t % 86400 ∨ t % 86400 < g else f ≤ t % 86400 ∧ t % 86400 < g
instance (f g t : Int) : Decidable (nightP f g t) := by unfold nightP; infer_instance
/-- Up to the next place where a night begins, or ends, or a day, nothing changes. -/
theorem night_still {f g t u : Int} (h0 : t ≤ u) (h1 : u < t - t % 86400 + 86400) (hf : t < t - t % 86400 + f → u < t - t % 86400 + f) (hg : t < t - t % 86400 + g → u < t - t % 86400 + g) : nightP f g u ↔ nightP f g t := by
  have e : u % 86400 = u - t + t % 86400 := by omega
  unfold nightP
  rw [e]
  split <;> omega
/-! ### Spans moved -/
/-! ### How many -/
end Go.Proofs.YtdlimgpmmkcgmaaGreat
