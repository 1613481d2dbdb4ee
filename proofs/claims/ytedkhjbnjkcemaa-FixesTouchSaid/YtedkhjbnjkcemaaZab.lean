/-
  Events: which are fair, their numbers and bytes, and their order. No program here.
  Events as values: their cells, loads, stores, and whether two are the same.
  Sets of seconds as lists of spans: no program here. A list is plain if its spans have seconds, lie within all time, and do not touch; each set has one plain list ('canon').
  Sets of seconds, continued: what two plain lists have in common, gone through once; what is between plain spans; how many there are; the first ones. No program here.
  Times rounded, days and weeks: no program here.
  Sessions: what a worker's events, gone through one by one, are made of: items, parts, flags. No program here.
  A session found from its first event on; its parts one by one; how many there are. No program here.
  Slices of spans in memory: one that is read ('Spans'), one of the call's own ('Row'); what an append, and a store, make of it.
-/
import Derived.Test.YtedkhjbnjkcemaaZaa
import Derived.Test.YtedkhjbnjkcemaaProg
import Derived.WalkKit
import Derived.Laws.StructEq
import Derived.Laws.Cover1
import Derived.Deep.WholeRow
import Derived.KernelRfl
import Derived.Lib.Hide
namespace Go.Proofs.Ytedkhjbnjkcemaa
set_option linter.unusedVariables false
set_option linter.unusedSimpArgs false

structure EvP where
  id : Int
  wk : Int
  tm : Int
  kd : Int
  fr : Int
  to : Int
  el : Int
  un : Int
  cl : Int
  ge : Int
  cd : Int
deriving DecidableEq
def EvP.none : EvP := ⟨0, 0, 0, 0, 0, 0, 0, 0, 0, 0, 0⟩
def EvP.nums (e : EvP) : List Int := [e.id, e.wk, e.tm, e.kd] ++ ((if e.kd = 3 then [e.fr, e.to, e.el, e.un, e.cl, e.ge] else []) ++ (if e.kd = 4 then [e.cd] else []))
structure EvP.Fair (e : EvP) : Prop where
  id : 0 ≤ e.id ∧ e.id ≤ 100000
  wk : 0 ≤ e.wk ∧ e.wk ≤ 9223372036854775807
  tm : 0 ≤ e.tm ∧ e.tm ≤ 31449599
  kd : 1 ≤ e.kd ∧ e.kd ≤ 7
  fr : 0 ≤ e.fr ∧ e.fr ≤ 9223372036854775807
  to : 0 ≤ e.to ∧ e.to ≤ 9223372036854775807
  el : 0 ≤ e.el ∧ e.el ≤ 9223372036854775807
  un : 0 ≤ e.un ∧ e.un ≤ 9223372036854775807
  cl : 0 ≤ e.cl ∧ e.cl ≤ 9223372036854775807
  ge : 0 ≤ e.ge ∧ e.ge ≤ 9223372036854775807
  cd : 0 ≤ e.cd ∧ e.cd ≤ 9223372036854775807
  task : e.kd = 3 ∨ (e.fr = 0 ∧ e.to = 0 ∧ e.el = 0 ∧ e.un = 0 ∧ e.cl = 0 ∧ e.ge = 0)
  code : e.kd = 4 ∨ e.cd = 0
theorem ev_ok {e : EvP} (h : e.Fair) : okN e.nums := by
  have h1 := h.id; have h2 := h.wk; have h3 := h.tm; have h4 := h.kd; have h5 := h.fr; have h6 := h.to; have h7 := h.el; have h8 := h.un; have h9 := h.cl; have h10 := h.ge; have h11 := h.cd
  unfold EvP.nums
  refine okN_append (okN_cons (by omega) (okN_cons (by omega) (okN_cons (by omega) (okN_cons (by omega) okN_nil)))) (okN_append ?_ ?_)
  · split
    · exact okN_cons (by omega) (okN_cons (by omega) (okN_cons (by omega) (okN_cons (by omega) (okN_cons (by omega) (okN_cons (by omega) okN_nil)))))
    · exact okN_nil
  · split
    · exact okN_cons (by omega) okN_nil
    · exact okN_nil
/-- Fair events are told by their numbers, whatever stands behind. -/
theorem ev_pre {e f : EvP} (he : e.Fair) (hf : f.Fair) {x y : List Int} (h : e.nums ++ x = f.nums ++ y) : e = f ∧ x = y := by
  obtain ⟨i, w, t, k, a, b, c, d, g, j, m⟩ := e
  obtain ⟨i', w', t', k', a', b', c', d', g', j', m'⟩ := f
  have t1 := he.task; have t2 := hf.task; have c1 := he.code; have c2 := hf.code
  simp only [EvP.nums, List.cons_append, List.nil_append, List.cons.injEq] at h t1 t2 c1 c2
  obtain ⟨rfl, rfl, rfl, rfl, h⟩ := h
  by_cases k3 : k = 3
  · have k4 : k ≠ 4 := by omega
    simp only [if_pos k3, if_neg k4, List.cons_append, List.nil_append, List.append_nil, List.cons.injEq] at h
    obtain ⟨rfl, rfl, rfl, rfl, rfl, rfl, rfl⟩ := h
    obtain rfl : m = 0 := by omega
    obtain rfl : m' = 0 := by omega
    exact ⟨rfl, rfl⟩
  · obtain ⟨rfl, rfl, rfl, rfl, rfl, rfl⟩ : a = 0 ∧ b = 0 ∧ c = 0 ∧ d = 0 ∧ g = 0 ∧ j = 0 := by omega
    obtain ⟨rfl, rfl, rfl, rfl, rfl, rfl⟩ : a' = 0 ∧ b' = 0 ∧ c' = 0 ∧ d' = 0 ∧ g' = 0 ∧ j' = 0 := by omega
    by_cases k4 : k = 4
    · simp only [if_neg k3, if_pos k4, List.cons_append, List.nil_append, List.cons.injEq] at h
      obtain ⟨rfl, rfl⟩ := h
      exact ⟨rfl, rfl⟩
    · simp only [if_neg k3, if_neg k4, List.nil_append] at h
      obtain rfl : m = 0 := by omega
      obtain rfl : m' = 0 := by omega
      exact ⟨rfl, h⟩
def EvP.bytes (e : EvP) : List (BitVec 8) := bytesN e.nums
/-- Two lists' bytes, each with something behind. -/
theorem bytes_split : ∀ (l m : List Int), okN l → okN m → ∀ x y : List (BitVec 8), bytesN l ++ x = bytesN m ++ y → (∃ r, m = l ++ r ∧ x = bytesN r ++ y) ∨ (∃ r, l = m ++ r ∧ y = bytesN r ++ x)
  | [], m, _, _, x, y, h => .inl ⟨m, rfl, by simpa [bytesN_nil] using h⟩
  | n :: l, [], _, _, x, y, h => .inr ⟨n :: l, rfl, by rw [h]; rfl⟩
  | n :: l, k :: m, hl, hm, x, y, h => by
    have h2 := congrArg takeB h
    rw [bytesN_cons, bytesN_cons, List.append_assoc, List.append_assoc, bytesN_take (hl n (by simp)), bytesN_take (hm k (by simp))] at h2
    simp only [Option.some.injEq, Prod.mk.injEq] at h2
    obtain ⟨e1, e2⟩ := h2
    have hn := hl n (by simp)
    have hk := hm k (by simp)
    obtain rfl : k = n := by omega
    rcases bytes_split l m (fun q hq => hl q (by simp [hq])) (fun q hq => hm q (by simp [hq])) x y e2 with ⟨r, rfl, hx⟩ | ⟨r, rfl, hx⟩
    · exact .inl ⟨r, rfl, hx⟩
    · exact .inr ⟨r, rfl, hx⟩
theorem evb_pre {e f : EvP} (he : e.Fair) (hf : f.Fair) {x y : List (BitVec 8)} (h : e.bytes ++ x = f.bytes ++ y) : e = f ∧ x = y := by
  have hne : e = f := by
    rcases bytes_split e.nums f.nums (ev_ok he) (ev_ok hf) x y h with ⟨r, e1, _⟩ | ⟨r, e1, _⟩
    · exact ((ev_pre hf he (x := []) (y := r) (by rw [List.append_nil, e1])).1).symm
    · exact (ev_pre he hf (x := []) (y := r) (by rw [List.append_nil, e1])).1
  subst hne
  exact ⟨rfl, List.append_cancel_left h⟩
open Classical in
/-- The fair event that bytes begin with, and what is behind. -/
noncomputable def takeE (b : List (BitVec 8)) : Option (EvP × List (BitVec 8)) := if h : ∃ x : EvP × List (BitVec 8), x.1.Fair ∧ b = x.1.bytes ++ x.2 then some (Classical.choose h) else none
theorem takeE_back {e : EvP} (h : e.Fair) (r : List (BitVec 8)) : takeE (e.bytes ++ r) = some (e, r) := by
  have hx : ∃ x : EvP × List (BitVec 8), x.1.Fair ∧ e.bytes ++ r = x.1.bytes ++ x.2 := ⟨(e, r), h, rfl⟩
  unfold takeE
  rw [dif_pos hx]
  obtain ⟨h1, h2⟩ := Classical.choose_spec hx
  generalize Classical.choose hx = y at *
  obtain ⟨e1, e2⟩ := evb_pre h h1 h2
  rw [show y = (y.1, y.2) from rfl, ← e1, ← e2]
theorem takeE_own {b r : List (BitVec 8)} {e : EvP} (h : takeE b = some (e, r)) : e.Fair ∧ b = e.bytes ++ r := by
  unfold takeE at h
  split at h
  · rename_i hx
    have := Classical.choose_spec hx
    injection h with h
    rw [h] at this
    exact this
  · cases h
theorem takeE_none {b : List (BitVec 8)} (h : takeE b = none) {e : EvP} (he : e.Fair) (r : List (BitVec 8)) : b ≠ e.bytes ++ r := by
  rintro rfl
  rw [takeE_back he] at h
  cases h
theorem takeE_not {b : List (BitVec 8)} (h : ∀ e : EvP, e.Fair → ∀ r, b ≠ e.bytes ++ r) : takeE b = none := by
  cases ht : takeE b with
  | none => rfl
  | some x =>
    obtain ⟨e, r⟩ := x
    obtain ⟨h1, h2⟩ := takeE_own ht
    exact absurd h2 (h e h1 r)
theorem ev_cut {e : EvP} (h : e.Fair) {k : Nat} (hk : k < e.bytes.length) : takeE (e.bytes.take k) = none := by
  apply takeE_not
  intro f hf r hr
  have e2 : e.bytes ++ [] = f.bytes ++ (r ++ e.bytes.drop k) := by rw [← List.append_assoc, ← hr, List.take_append_drop, List.append_nil]
  have := (evb_pre h hf e2).2
  have h3 := congrArg List.length this
  simp at h3
  omega
theorem ev_size_nums : ∀ l : List Int, (bytesN l).length = (l.map fun n => (oneB n.toNat).length).sum
  | [] => rfl
  | n :: l => by rw [bytesN_cons, List.length_append, ev_size_nums l]; simp
/-! ### The document's own Take -/
/-- The numbers that bytes begin with, so many at most. -/
def firstN : Nat → List (BitVec 8) → List Int
  | 0, _ => []
  | f + 1, b => match takeB b with
    | none => []
    | some (n, r) => (n : Int) :: firstN f r
theorem firstN_pre : ∀ (l : List Int), okN l → ∀ f, l.length ≤ f → ∀ r, ∃ m, firstN f (bytesN l ++ r) = l ++ m
  | [], _, f, _, r => ⟨_, rfl⟩
  | n :: l, hl, f, h, r => by
    cases f with
    | zero => simp at h
    | succ f =>
      have hn := hl n (by simp)
      rw [bytesN_cons, List.append_assoc]
      unfold firstN
      rw [bytesN_take hn]
      simp only
      obtain ⟨m, hm⟩ := firstN_pre l (fun q hq => hl q (by simp [hq])) f (by simpa using h) r
      refine ⟨m, ?_⟩
      rw [hm, Int.toNat_of_nonneg hn.1]
      rfl
def parseE (l : List Int) : EvP :=
  ⟨atL l 0, atL l 1, atL l 2, atL l 3, if atL l 3 = 3 then atL l 4 else 0, if atL l 3 = 3 then atL l 5 else 0, if atL l 3 = 3 then atL l 6 else 0, if atL l 3 = 3 then atL l 7 else 0, if atL l 3 = 3 then atL l 8 else 0, if atL l 3 = 3 then atL l 9 else 0, if atL l 3 = 4 then atL l 4 else 0⟩
theorem parseE_nums {e : EvP} (h : e.Fair) (m : List Int) : parseE (e.nums ++ m) = e := by
  obtain ⟨i, w, t, k, a, b, c, d, g, j, q⟩ := e
  have h1 := h.task; have h2 := h.code
  simp only at h1 h2
  by_cases k3 : k = 3
  · obtain rfl : q = 0 := by omega
    subst k3
    simp [parseE, EvP.nums, atL]
  · obtain ⟨rfl, rfl, rfl, rfl, rfl, rfl⟩ : a = 0 ∧ b = 0 ∧ c = 0 ∧ d = 0 ∧ g = 0 ∧ j = 0 := by omega
    by_cases k4 : k = 4
    · subst k4
      simp [parseE, EvP.nums, atL]
    · obtain rfl : q = 0 := by omega
      simp [parseE, EvP.nums, atL, k3, k4]
theorem ev_len (e : EvP) : e.nums.length ≤ 10 := by
  unfold EvP.nums
  by_cases k3 : e.kd = 3
  · have k4 : e.kd ≠ 4 := by omega
    simp [k3]
  · by_cases k4 : e.kd = 4
    · simp [k3, k4]
    · simp [k3, k4]
theorem takeE_ref {b r : List (BitVec 8)} {e : EvP} (h : takeE b = some (e, r)) : parseE (firstN 10 b) = e := by
  obtain ⟨h1, rfl⟩ := takeE_own h
  obtain ⟨m, hm⟩ := firstN_pre e.nums (ev_ok h1) 10 (ev_len e) r
  have : firstN 10 (e.bytes ++ r) = e.nums ++ m := hm
  rw [this, parseE_nums h1]
/-! ### The order -/
def lessE (a b : EvP) : Bool := decide (a.tm < b.tm ∨ (a.tm = b.tm ∧ a.id < b.id))
def alikeE (a b : EvP) : Bool := decide (a.tm = b.tm ∧ a.id = b.id)
theorem ev_less_irr (a : EvP) : lessE a a = false := by simp [lessE]
theorem ev_less_trans {a b c : EvP} (h : lessE a b = true) (h' : lessE b c = true) : lessE a c = true := by
  simp only [lessE, decide_eq_true_eq] at *
  omega
theorem ev_less_one (a b : EvP) : (lessE a b != lessE b a) = !alikeE a b := by
  rw [Bool.eq_iff_iff]
  simp only [lessE, alikeE, bne_iff_ne, ne_eq, Bool.not_eq_true', decide_eq_false_iff_not, decide_eq_decide]
  omega
theorem ev_less_alike {a b c : EvP} (h : alikeE a b = true) : lessE a c = lessE b c ∧ lessE c a = lessE c b := by
  simp only [alikeE, decide_eq_true_eq] at h
  simp [lessE, h.1, h.2]
/-- None stands ahead of one in front of it. -/
def Risen : List EvP → Prop
  | [] => True
  | a :: l => (∀ b ∈ l, lessE b a = false) ∧ Risen l
/-- Put in behind all that do not stand behind it. -/
def insE (out : List EvP) (x : EvP) : List EvP := out.filter (fun y => !lessE x y) ++ x :: out.filter (fun y => lessE x y)
def sortE (l : List EvP) : List EvP := l.foldl insE []
theorem risen_append : ∀ (l m : List EvP), Risen (l ++ m) ↔ Risen l ∧ Risen m ∧ ∀ a ∈ l, ∀ b ∈ m, lessE b a = false
  | [], m => by simp [Risen]
  | a :: l, m => by
    rw [List.cons_append, Risen, risen_append l m, Risen]
    constructor
    · rintro ⟨h1, h2, h3, h4⟩
      refine ⟨⟨fun b hb => h1 b (by simp [hb]), h2⟩, h3, fun c hc b hb => ?_⟩
      rcases List.mem_cons.1 hc with rfl | hc
      · exact h1 b (by simp [hb])
      · exact h4 c hc b hb
    · rintro ⟨⟨h1, h2⟩, h3, h4⟩
      refine ⟨fun b hb => ?_, h2, h3, fun c hc b hb => h4 c (by simp [hc]) b hb⟩
      rcases List.mem_append.1 hb with hb | hb
      · exact h1 b hb
      · exact h4 a (by simp) b hb
theorem risen_filter (p : EvP → Bool) : ∀ l : List EvP, Risen l → Risen (l.filter p)
  | [], _ => trivial
  | a :: l, ⟨h1, h2⟩ => by
    have := risen_filter p l h2
    by_cases hp : p a = true
    · rw [List.filter_cons_of_pos hp]
      exact ⟨fun b hb => h1 b (List.mem_filter.1 hb).1, this⟩
    · rw [List.filter_cons_of_neg hp]
      exact this
theorem ev_less_not {a b c : EvP} (h1 : lessE a b = false) (h2 : lessE b c = false) : lessE a c = false := by
  simp only [lessE, decide_eq_false_iff_not] at *
  omega
theorem ev_ins_risen {out : List EvP} (h : Risen out) (x : EvP) : Risen (insE out x) := by
  unfold insE
  rw [risen_append]
  refine ⟨risen_filter _ _ h, ⟨fun b hb => ?_, risen_filter _ _ h⟩, fun a ha b hb => ?_⟩
  · have := (List.mem_filter.1 hb).2
    simp only [lessE, decide_eq_true_eq, decide_eq_false_iff_not] at *
    omega
  · have h1 := (List.mem_filter.1 ha).2
    rcases List.mem_cons.1 hb with rfl | hb
    · simpa using h1
    · have h2 := (List.mem_filter.1 hb).2
      simp only [lessE, Bool.not_eq_true', decide_eq_true_eq, decide_eq_false_iff_not] at *
      omega
theorem ev_foldl_risen : ∀ (l out : List EvP), Risen out → Risen (l.foldl insE out)
  | [], out, h => h
  | a :: l, out, h => ev_foldl_risen l _ (ev_ins_risen h a)
theorem ev_sort_risen (l : List EvP) : Risen (sortE l) := ev_foldl_risen l [] trivial
/-- Of alike ones: those that were there, in their order, and the one behind. -/
theorem ev_ins_alike (k x : EvP) (out : List EvP) : (insE out x).filter (alikeE k) = out.filter (alikeE k) ++ (if alikeE k x = true then [x] else []) := by
  unfold insE
  rw [List.filter_append, List.filter_filter, List.filter_cons, List.filter_filter]
  by_cases h : alikeE k x = true
  · rw [if_pos h, if_pos h]
    have e1 : out.filter (fun a => alikeE k a && !lessE x a) = out.filter (alikeE k) := by
      apply List.filter_congr
      intro a _
      cases ha : alikeE k a
      · rfl
      · simp only [alikeE, lessE, decide_eq_true_eq] at h ha ⊢
        simp
        omega
    have e2 : out.filter (fun a => alikeE k a && lessE x a) = [] := by
      rw [List.filter_eq_nil_iff]
      intro a _
      simp only [alikeE, lessE, Bool.and_eq_true, decide_eq_true_eq] at h ⊢
      omega
    rw [e1, e2]
  · rw [if_neg h, if_neg h, List.append_nil]
    by_cases hl : lessE x k = true
    · have e1 : out.filter (fun a => alikeE k a && !lessE x a) = [] := by
        rw [List.filter_eq_nil_iff]
        intro a _
        simp only [alikeE, lessE, Bool.and_eq_true, Bool.not_eq_true', decide_eq_true_eq, decide_eq_false_iff_not] at h hl ⊢
        omega
      have e2 : out.filter (fun a => alikeE k a && lessE x a) = out.filter (alikeE k) := by
        apply List.filter_congr
        intro a _
        cases ha : alikeE k a
        · rfl
        · simp only [alikeE, lessE, decide_eq_true_eq] at h ha hl ⊢
          simp
          omega
      rw [e1, e2, List.nil_append]
    · have e1 : out.filter (fun a => alikeE k a && !lessE x a) = out.filter (alikeE k) := by
        apply List.filter_congr
        intro a _
        cases ha : alikeE k a
        · rfl
        · simp only [alikeE, lessE, decide_eq_true_eq] at h ha hl ⊢
          simp
          omega
      have e2 : out.filter (fun a => alikeE k a && lessE x a) = [] := by
        rw [List.filter_eq_nil_iff]
        intro a _
        simp only [alikeE, lessE, Bool.and_eq_true, decide_eq_true_eq] at h hl ⊢
        omega
      rw [e1, e2, List.append_nil]
theorem ev_foldl_alike (k : EvP) : ∀ (l out : List EvP), (l.foldl insE out).filter (alikeE k) = out.filter (alikeE k) ++ l.filter (alikeE k)
  | [], out => by simp
  | a :: l, out => by
    rw [List.foldl_cons, ev_foldl_alike k l, ev_ins_alike, List.append_assoc, List.filter_cons]
    congr 1
    by_cases h : alikeE k a = true
    · rw [if_pos h, if_pos h]; rfl
    · rw [if_neg h, if_neg h]; rfl
theorem ev_sort_alike (k : EvP) (l : List EvP) : (sortE l).filter (alikeE k) = l.filter (alikeE k) := by
  unfold sortE
  rw [ev_foldl_alike]
  simp
theorem ev_alike_refl (a : EvP) : alikeE a a = true := by simp [alikeE]
/-- Lists in order are told by those that are alike. -/
theorem risen_unique : ∀ (l m : List EvP), Risen l → Risen m → (∀ k, l.filter (alikeE k) = m.filter (alikeE k)) → l = m
  | [], [], _, _, _ => rfl
  | [], b :: m, _, _, h => by
    have := h b
    rw [List.filter_cons_of_pos (ev_alike_refl b)] at this
    cases this
  | a :: l, [], _, _, h => by
    have := h a
    rw [List.filter_cons_of_pos (ev_alike_refl a)] at this
    cases this
  | a :: l, b :: m, ⟨h1, h2⟩, ⟨h3, h4⟩, h => by
    have hab : alikeE a b = true := by
      have ha : a ∈ (b :: m) := by
        have : a ∈ (b :: m).filter (alikeE a) := by rw [← h a, List.filter_cons_of_pos (ev_alike_refl a)]; simp
        exact (List.mem_filter.1 this).1
      have hb : b ∈ (a :: l) := by
        have : b ∈ (a :: l).filter (alikeE b) := by rw [h b, List.filter_cons_of_pos (ev_alike_refl b)]; simp
        exact (List.mem_filter.1 this).1
      have q1 : lessE b a = false := by
        rcases List.mem_cons.1 hb with rfl | hb
        · exact ev_less_irr _
        · exact h1 b hb
      have q2 : lessE a b = false := by
        rcases List.mem_cons.1 ha with rfl | ha
        · exact ev_less_irr _
        · exact h3 a ha
      simp only [lessE, alikeE, decide_eq_false_iff_not, decide_eq_true_eq] at *
      omega
    have hk := h a
    rw [List.filter_cons_of_pos (ev_alike_refl a), List.filter_cons_of_pos hab] at hk
    injection hk with e1 e2
    subst e1
    congr 1
    refine risen_unique l m h2 h4 (fun k => ?_)
    have := h k
    by_cases q : alikeE k a = true
    · rw [List.filter_cons_of_pos q, List.filter_cons_of_pos q] at this
      injection this
    · rw [List.filter_cons_of_neg q, List.filter_cons_of_neg q] at this
      exact this
theorem ev_sort_of {l s : List EvP} (h1 : Risen s) (h2 : ∀ k, s.filter (alikeE k) = l.filter (alikeE k)) : s = sortE l :=
  risen_unique s (sortE l) h1 (ev_sort_risen l) (fun k => by rw [h2, ev_sort_alike])
theorem ev_sort_same {l : List EvP} (h : Risen l) : sortE l = l := (ev_sort_of h (fun _ => rfl)).symm
theorem ev_sort_twice (l : List EvP) : sortE (sortE l) = sortE l := ev_sort_same (ev_sort_risen l)
theorem ev_ins_perm (out : List EvP) (x : EvP) : (insE out x).Perm (x :: out) := by
  unfold insE
  have h := List.filter_append_perm (fun y => !lessE x y) out
  simp only [Bool.not_not] at h
  exact List.perm_middle.trans (h.cons x)
theorem ev_foldl_perm : ∀ (l out : List EvP), (l.foldl insE out).Perm (out ++ l)
  | [], out => by simp
  | a :: l, out => by
    refine (ev_foldl_perm l (insE out a)).trans ?_
    have := (ev_ins_perm out a).append_right l
    exact this.trans List.perm_middle.symm
theorem ev_sort_perm (l : List EvP) : (sortE l).Perm l := by
  have := ev_foldl_perm l []
  simpa [sortE] using this
end Go.Proofs.Ytedkhjbnjkcemaa

namespace Go.Proofs.Ytedkhjbnjkcemaa
open Go.RowKit
set_option linter.unusedVariables false
set_option linter.unusedSimpArgs false

/-- An event's cells. -/
def evC (e : EvP) : Array Value := #[.int .i64 e.id, .int .i64 e.wk, .int .i64 e.tm, .int .i64 e.kd, .int .i64 e.fr, .int .i64 e.to, .int .i64 e.el, .int .i64 e.un, .int .i64 e.cl, .int .i64 e.ge, .int .i64 e.cd]
theorem evC_size (e : EvP) : (evC e).size = 11 := rfl
theorem evC_one (e : EvP) : (evC e).all (·.oneCell') = true := by simp [evC, Value.oneCell']
/-- All numbers of an event are int's. -/
structure EvP.In (e : EvP) : Prop where
  id : -9223372036854775808 ≤ e.id ∧ e.id ≤ 9223372036854775807
  wk : -9223372036854775808 ≤ e.wk ∧ e.wk ≤ 9223372036854775807
  tm : -9223372036854775808 ≤ e.tm ∧ e.tm ≤ 9223372036854775807
  kd : -9223372036854775808 ≤ e.kd ∧ e.kd ≤ 9223372036854775807
  fr : -9223372036854775808 ≤ e.fr ∧ e.fr ≤ 9223372036854775807
  to : -9223372036854775808 ≤ e.to ∧ e.to ≤ 9223372036854775807
  el : -9223372036854775808 ≤ e.el ∧ e.el ≤ 9223372036854775807
  un : -9223372036854775808 ≤ e.un ∧ e.un ≤ 9223372036854775807
  cl : -9223372036854775808 ≤ e.cl ∧ e.cl ≤ 9223372036854775807
  ge : -9223372036854775808 ≤ e.ge ∧ e.ge ≤ 9223372036854775807
  cd : -9223372036854775808 ≤ e.cd ∧ e.cd ≤ 9223372036854775807
theorem ite_b1 {p : Prop} [Decidable p] {w : World} : (if p then Result.ok (Value.bool true) w else Result.ok (Value.bool false) w) = Result.ok (Value.bool (decide p)) w := by by_cases h : p <;> simp [h]
theorem ite_b2 {p : Prop} [Decidable p] {c : Bool} {w : World} : (if p then Result.ok (Value.bool c) w else Result.ok (Value.bool false) w) = Result.ok (Value.bool (decide p && c)) w := by by_cases h : p <;> simp [h]
theorem ite_n1 {p : Prop} [Decidable p] {w : World} : (if p then Result.ok (Value.bool false) w else Result.ok (Value.bool true) w) = Result.ok (Value.bool (!decide p)) w := by by_cases h : p <;> simp [h]
theorem ite_n2 {p : Prop} [Decidable p] {c : Bool} {w : World} : (if p then Result.ok (Value.bool c) w else Result.ok (Value.bool true) w) = Result.ok (Value.bool (!decide p || c)) w := by by_cases h : p <;> simp [h]
theorem run_ev_eql (x y : EvP) (w : World) : (binOp .eql 33 (.agg (evC x)) (.agg (evC y))).run Try.prog w = .ok (.bool (decide (x = y))) w := by
  have u3 := Try.underlying3
  have a3 := Try.isAgg3
  have z3 := Try.sizeOf3
  have hS : Try.prog.underlying 33 = some (.struct (Try.prog.fieldsOf 33)) := by kernel_rfl
  have hp : Try.prog.stoodInHeld 33 = false := by kernel_rfl
  obtain ⟨a1, a2, a3', a4, a5, a6, a7, a8, a9, a10, a11⟩ := x
  obtain ⟨b1, b2, b3, b4, b5, b6, b7, b8, b9, b10, b11⟩ := y
  simp only [evC]
  rw [run_eql_struct, show (10000 : Nat) = 9999 + 1 from rfl, run_equalIn_agg w 9999 33 _ _ hS hp]
  simp only [Program.fieldsOf, Try.underlying33]
  go_simp
  simp only [ite_b1]
  simp only [ite_b2]
theorem wpList_load_e {ops : Array Oper} {rest : List Oper} {o : Oper} {a : Act} {w : World} {Q : Exit → Act → World → Prop} (hgd : Region.wanted o (yielded ops a.tmps) = true) (x : Operand) (ho : o.op = .load 33 x)
    (g : Nat) (hx : a.eval x = .pointer (some ⟨g, 0, none⟩)) (cs : Array Value) (hg : Has w g cs) (hs : cs.size = 11)
    (h : wpList Try.prog ops Q rest (a.put o.dst (.agg cs)) w) : wpList Try.prog ops Q (o :: rest) a w := by
  refine wpList_step fun K hK => ?_
  rw [if_pos hgd]
  obtain ⟨t, hg⟩ := hg
  exact wp_load_row _ x ho g hx t cs (0, 0) _ hg Try.underlying33 rfl (by rw [hs]; kernel_rfl) (hK _ _ h)
theorem wpList_store_e {ops : Array Oper} {rest : List Oper} {o : Oper} {a : Act} {w : World} {Q : Exit → Act → World → Prop} (hgd : o.guard = none) (x y : Operand) (ho : o.op = .store 33 x y)
    (g : Nat) (cs : Array Value) (hx : a.eval x = .pointer (some ⟨g, 0, none⟩)) (hy : a.eval y = .agg cs) (old : Array Value) (hg : Has w g old) (hold : old.size = 11) (hs : cs.size = 11) (h1 : cs.all (·.oneCell') = true)
    (h : wpList Try.prog ops Q rest (a.put o.dst undef) (w.setRow g cs)) : wpList Try.prog ops Q (o :: rest) a w := by
  obtain ⟨t, hg⟩ := hg
  exact wpList_store_row hgd _ x y ho g cs hx hy t old hg (by rw [hs]; kernel_rfl) (by rw [hold, hs]) h1 h
theorem has_setRow_e {w : World} {g : Nat} {old cs : Array Value} (h : Has w g old) : Has (w.setRow g cs) g cs := by
  obtain ⟨t, h⟩ := h
  exact ⟨t, setRow_heap _ _ _ _ _ _ h⟩
def z11 : Array Value := evC EvP.none
/-- In a walk: a variable of type api.Event is laid. -/
theorem wpList_laid_e {ops : Array Oper} {rest : List Oper} {o1 o : Oper} {a : Act} {w : World} {Q : Exit → Act → World → Prop} (cs : Array Value) (d : Tmp) (x y : Operand) (hg1 : o1.guard = none) (ho1 : o1.op = .alloc 33) (hd1 : o1.dst = some d)
    (hgd : o.guard = none) (ho : o.op = .store 33 x y) (hd : o.dst = none) (hx : (a.put o1.dst (.pointer (some ⟨w.heap.size, 0, none⟩))).eval x = .pointer (some ⟨w.heap.size, 0, none⟩)) (hy : (a.put o1.dst (.pointer (some ⟨w.heap.size, 0, none⟩))).eval y = .agg cs)
    (hs : cs.size = 11) (h1 : cs.all (·.oneCell') = true)
    (h : wpList Try.prog ops Q rest (a.put o1.dst (.pointer (some ⟨w.heap.size, 0, none⟩))) (w.alloc (.cells cs 33))) : wpList Try.prog ops Q (o1 :: o :: rest) a w := by
  rw [hd1] at hx hy h
  refine wpList_plain hg1 fun K hK => ?_
  unfold Oper.wp execOp
  simp only [ho1]
  go_simp
  refine hK _ _ ?_
  refine wpList_store_e hgd x y ho w.heap.size cs hx hy z11 (Has.new _ _ _ rfl) rfl hs h1 ?_
  rw [hd]
  have e := World.setRow_alloc_new w z11 cs 33
  unfold z11 at e
  exact e ▸ h
end Go.Proofs.Ytedkhjbnjkcemaa

namespace Go.Proofs.Ytedkhjbnjkcemaa
set_option linter.unusedVariables false

/-- t is one of the spans' numbers. -/
def In (l : List (Int × Int)) (t : Int) : Prop := ∃ s, s ∈ l ∧ s.1 ≤ t ∧ t < s.2

def PlainFrom : Int → List (Int × Int) → Prop
  | _, [] => True
  | lo, s :: l => lo ≤ s.1 ∧ s.1 < s.2 ∧ s.2 ≤ 32054400 ∧ PlainFrom (s.2 + 1) l

theorem in_nil (t : Int) : ¬ In [] t := by rintro ⟨s, h, _⟩; cases h
theorem in_cons (s : Int × Int) (l : List (Int × Int)) (t : Int) : In (s :: l) t ↔ (s.1 ≤ t ∧ t < s.2) ∨ In l t := by
  unfold In
  constructor
  · rintro ⟨x, hx, h⟩
    rcases List.mem_cons.1 hx with rfl | hx
    · exact .inl h
    · exact .inr ⟨x, hx, h⟩
  · rintro (h | ⟨x, hx, h⟩)
    · exact ⟨s, List.mem_cons_self, h⟩
    · exact ⟨x, List.mem_cons_of_mem _ hx, h⟩
theorem in_one (s : Int × Int) (t : Int) : In [s] t ↔ s.1 ≤ t ∧ t < s.2 := by rw [in_cons]; simp [in_nil]

theorem PlainFrom.mono : ∀ {l : List (Int × Int)} {a b : Int}, b ≤ a → PlainFrom a l → PlainFrom b l
  | [], _, _, _, _ => trivial
  | _ :: _, _, _, h, hp => ⟨by have := hp.1; omega, hp.2⟩
theorem PlainFrom.bound : ∀ {l : List (Int × Int)} {a t : Int}, PlainFrom a l → In l t → a ≤ t ∧ t < 32054400
  | [], _, _, _, h => absurd h (in_nil _)
  | s :: l, a, t, hp, h => by
    obtain ⟨h1, h2, h3, h4⟩ := hp
    rcases (in_cons s l t).1 h with h | h
    · omega
    · have := PlainFrom.bound h4 h; omega

/-- Two plain lists of one set are the same. -/
theorem plain_one : ∀ {l m : List (Int × Int)} {a : Int}, PlainFrom a l → PlainFrom a m → (∀ t, In l t ↔ In m t) → l = m
  | [], [], _, _, _, _ => rfl
  | [], s :: m, a, _, hm, h => absurd ((h s.1).2 ((in_cons _ _ _).2 (.inl ⟨Int.le_refl _, hm.2.1⟩))) (in_nil _)
  | s :: l, [], a, hl, _, h => absurd ((h s.1).1 ((in_cons _ _ _).2 (.inl ⟨Int.le_refl _, hl.2.1⟩))) (in_nil _)
  | s :: l, r :: m, a, hl, hm, h => by
    obtain ⟨l1, l2, l3, l4⟩ := hl
    obtain ⟨m1, m2, m3, m4⟩ := hm
    have kl : ∀ t, In (s :: l) t → s.1 ≤ t := fun t ht => by
      rcases (in_cons _ _ _).1 ht with ht | ht
      · exact ht.1
      · have := PlainFrom.bound l4 ht; omega
    have km : ∀ t, In (r :: m) t → r.1 ≤ t := fun t ht => by
      rcases (in_cons _ _ _).1 ht with ht | ht
      · exact ht.1
      · have := PlainFrom.bound m4 ht; omega
    have e1 : s.1 = r.1 := by
      have h1 := km _ ((h s.1).1 ((in_cons _ _ _).2 (.inl ⟨Int.le_refl _, l2⟩)))
      have h2 := kl _ ((h r.1).2 ((in_cons _ _ _).2 (.inl ⟨Int.le_refl _, m2⟩)))
      omega
    have nl : ¬ In (s :: l) s.2 := fun ht => by
      rcases (in_cons _ _ _).1 ht with ht | ht
      · omega
      · have := PlainFrom.bound l4 ht; omega
    have nm : ¬ In (r :: m) r.2 := fun ht => by
      rcases (in_cons _ _ _).1 ht with ht | ht
      · omega
      · have := PlainFrom.bound m4 ht; omega
    have e2 : s.2 = r.2 := by
      rcases Int.lt_trichotomy s.2 r.2 with hlt | he | hgt
      · exact absurd ((h s.2).2 ((in_cons _ _ _).2 (.inl ⟨by omega, hlt⟩))) nl
      · exact he
      · exact absurd ((h r.2).1 ((in_cons _ _ _).2 (.inl ⟨by omega, hgt⟩))) nm
    have e : s = r := Prod.ext e1 e2
    subst e
    have : l = m := plain_one l4 m4 (fun t => by
      have ht := h t
      rw [in_cons, in_cons] at ht
      constructor
      · intro hi
        have := PlainFrom.bound l4 hi
        rcases ht.1 (.inr hi) with q | q
        · omega
        · exact q
      · intro hi
        have := PlainFrom.bound m4 hi
        rcases ht.2 (.inr hi) with q | q
        · omega
        · exact q)
    rw [this]

theorem exists_canon (p : Int → Prop) : ∀ (n : Nat) (lo : Int), lo + n = 32054400 → ∃ l, PlainFrom lo l ∧ ∀ t, In l t ↔ lo ≤ t ∧ t < 32054400 ∧ p t
  | 0, lo, h => ⟨[], trivial, fun t => by simp [in_nil]; omega⟩
  | n + 1, lo, h => by
    obtain ⟨l, hp, hi⟩ := exists_canon p n (lo + 1) (by omega)
    by_cases hlo : p lo
    · match l, hp, hi with
      | [], hp, hi =>
        refine ⟨[(lo, lo + 1)], ⟨Int.le_refl _, by simp; omega, by simp; omega, trivial⟩, fun t => ?_⟩
        rw [in_one]
        have := hi t
        simp only [in_nil, false_iff] at this
        constructor
        · intro ht
          obtain rfl : t = lo := by simp at ht; omega
          exact ⟨by omega, by omega, hlo⟩
        · intro ⟨h1, h2, h3⟩
          by_cases e : t = lo
          · subst e; exact ⟨by simp, by simp; omega⟩
          · exact absurd ⟨by omega, h2, h3⟩ this
      | s :: l, ⟨h1, h2, h3, h4⟩, hi =>
        by_cases hs : s.1 = lo + 1
        · refine ⟨(lo, s.2) :: l, ⟨Int.le_refl _, by simp; omega, h3, h4⟩, fun t => ?_⟩
          have := hi t
          rw [in_cons] at this ⊢
          by_cases e : t = lo
          · subst e
            exact ⟨fun _ => ⟨by omega, by omega, hlo⟩, fun _ => .inl ⟨by simp, by simp; omega⟩⟩
          · constructor
            · intro q
              have := this.1 (q.elim (fun q => .inl ⟨by simp at q; omega, by simp at q; omega⟩) .inr)
              exact ⟨by omega, this.2⟩
            · intro ⟨q1, q2⟩
              exact (this.2 ⟨by omega, q2⟩).elim (fun q => .inl ⟨by simp; omega, by simp; omega⟩) .inr
        · refine ⟨(lo, lo + 1) :: s :: l, ⟨Int.le_refl _, by simp; omega, by simp; omega, by simp; omega, h2, h3, h4⟩, fun t => ?_⟩
          have := hi t
          rw [in_cons]
          by_cases e : t = lo
          · subst e
            exact ⟨fun _ => ⟨by omega, by omega, hlo⟩, fun _ => .inl ⟨by simp, by simp; omega⟩⟩
          · constructor
            · intro q
              have := this.1 (q.elim (fun q => by simp at q; omega) id)
              exact ⟨by omega, this.2⟩
            · intro ⟨q1, q2⟩
              exact .inr (this.2 ⟨by omega, q2⟩)
    · refine ⟨l, hp.mono (by omega), fun t => ?_⟩
      rw [hi t]
      constructor
      · rintro ⟨h1, h2⟩; exact ⟨by omega, h2⟩
      · rintro ⟨h1, h2, h3⟩
        refine ⟨?_, h2, h3⟩
        by_cases e : t = lo
        · subst e; exact absurd h3 hlo
        · omega

/-- The plain spans of the numbers from 0 on, below all time's end, of which p holds. -/
noncomputable def canon (p : Int → Prop) : List (Int × Int) := Classical.choose (exists_canon p 32054400 0 (by omega))
theorem canon_plain (p : Int → Prop) : PlainFrom 0 (canon p) := (Classical.choose_spec (exists_canon p 32054400 0 (by omega))).1
theorem canon_in (p : Int → Prop) (t : Int) : In (canon p) t ↔ 0 ≤ t ∧ t < 32054400 ∧ p t := (Classical.choose_spec (exists_canon p 32054400 0 (by omega))).2 t
theorem canon_eq {p : Int → Prop} {l : List (Int × Int)} (hl : PlainFrom 0 l) (h : ∀ t, In l t ↔ 0 ≤ t ∧ t < 32054400 ∧ p t) : l = canon p :=
  plain_one hl (canon_plain p) (fun t => by rw [h, canon_in])
theorem canon_none {p : Int → Prop} (h : ∀ t, 0 ≤ t → t < 32054400 → ¬ p t) : canon p = [] :=
  (canon_eq (l := []) trivial (fun t => ⟨fun h => absurd h (in_nil _), fun ⟨a, b, c⟩ => absurd c (h t a b)⟩)).symm

end Go.Proofs.Ytedkhjbnjkcemaa

namespace Go.Proofs.Ytedkhjbnjkcemaa
set_option linter.unusedVariables false

/-- How many numbers below n are p's. -/
noncomputable def cnt (p : Int → Prop) : Nat → Int
  | 0 => 0
  | n + 1 => cnt p n + (open Classical in if p n then 1 else 0)
/-- How many numbers of plain spans are below h. -/
def below (l : List (Int × Int)) (h : Int) : Int := (l.map fun s => max 0 (min s.2 h - s.1)).sum
end Go.Proofs.Ytedkhjbnjkcemaa

namespace Go.Proofs.Ytedkhjbnjkcemaa
set_option linter.unusedVariables false
set_option linter.unusedSimpArgs false

def timeP (t : Int) : Int := min (max t 0) 32054400
def secP (t : Int) : Int := min (timeP t) 32054399
theorem time_bd (t : Int) : 0 ≤ timeP t ∧ timeP t ≤ 32054400 := by unfold timeP; omega
theorem sec_bd (t : Int) : 0 ≤ secP t ∧ secP t ≤ 32054399 := by unfold secP timeP; omega
theorem sec_in {t : Int} (h : 0 ≤ t) (h' : t < 32054400) : secP t = t := by unfold secP timeP; omega
def roundP (t u : Int) : Int :=
  if u < 1 then timeP t else if u - timeP t % u ≤ timeP t % u then min (timeP t - timeP t % u + min u 100000000) 32054400 else timeP t - timeP t % u
def dayP (t : Int) : Int := secP t / 86400
def weekP (t : Int) : Int := secP t / 604800
def aboutP (unit cap : Int) : Int := min (max unit 0) 604800 + min (max cap 0) 604800
def touchP (unit cap t : Int) : Int × Int := (weekP (secP t - aboutP unit cap), weekP (secP t + aboutP unit cap))
/-! ### Rounding -/
theorem round_div {n u : Int} (h : 1 ≤ u) : n % u = n - u * (n / u) ∧ 0 ≤ n % u ∧ n % u < u := by
  have h1 := Int.emod_def n u
  have h2 := Int.emod_nonneg n (show u ≠ 0 by omega)
  have h3 := Int.emod_lt_of_pos n (show 0 < u by omega)
  exact ⟨h1, h2, h3⟩
theorem round_up {a u : Int} (h0 : 0 ≤ a) (h1 : a < 31000000) (hu : 1 ≤ u) (hu' : u ≤ 65536) : roundP a u = u * (a / u) + (if u - a % u ≤ a % u then u else 0) := by
  have ht : timeP a = a := by unfold timeP; omega
  obtain ⟨e, e1, e2⟩ := round_div (n := a) hu
  unfold roundP
  rw [if_neg (by omega), ht]
  split
  · omega
  · omega
/-- PunchRounds. -/
theorem round_near {a u : Int} (h0 : 0 ≤ a) (h1 : a < 31000000) (hu : 1 ≤ u) (hu' : u ≤ 65536) : roundP a u % u = 0 ∧ 2 * (roundP a u - a) ≤ u ∧ 2 * (a - roundP a u) < u := by
  obtain ⟨e, e1, e2⟩ := round_div (n := a) hu
  rw [round_up h0 h1 hu hu']
  refine ⟨?_, ?_, ?_⟩
  · split
    · rw [Int.add_emod_right, Int.mul_emod_right]
    · rw [Int.add_zero, Int.mul_emod_right]
  · split <;> omega
  · split <;> omega
theorem round_keeps {a b u : Int} (h0 : 0 ≤ a) (hab : a ≤ b) (h1 : b < 31000000) (hu : 1 ≤ u) (hu' : u ≤ 65536) : roundP a u ≤ roundP b u := by
  obtain ⟨e, e1, e2⟩ := round_div (n := a) hu
  obtain ⟨f, f1, f2⟩ := round_div (n := b) hu
  rw [round_up h0 (by omega) hu hu', round_up (by omega) h1 hu hu']
  have hq : a / u ≤ b / u := Int.ediv_le_ediv (by omega) hab
  rcases Int.lt_or_le (a / u) (b / u) with q | q
  · have : u * (a / u) + u ≤ u * (b / u) := by
      have := Int.mul_le_mul_of_nonneg_left (show a / u + 1 ≤ b / u by omega) (show 0 ≤ u by omega)
      rw [Int.mul_add, Int.mul_one] at this
      exact this
    split <;> split <;> omega
  · have : a / u = b / u := by omega
    rw [this] at e ⊢
    split <;> split <;> omega
theorem round_again {a u : Int} (h0 : 0 ≤ a) (h1 : a < 31000000) (hu : 1 ≤ u) (hu' : u ≤ 65536) : roundP (roundP a u) u = roundP a u := by
  obtain ⟨h2, h3, h4⟩ := round_near h0 h1 hu hu'
  have hx : 0 ≤ roundP a u := by
    rw [round_up h0 h1 hu hu']
    have : 0 ≤ u * (a / u) := Int.mul_nonneg (by omega) (Int.ediv_nonneg h0 (by omega))
    split <;> omega
  generalize roundP a u = x at *
  have ht : timeP x = x := by unfold timeP; omega
  unfold roundP
  rw [if_neg (by omega), ht, h2, if_neg (by omega)]
  omega
/-! ### Days -/
theorem day_has (t : Int) : dayP t * 86400 ≤ secP t ∧ secP t < (dayP t + 1) * 86400 ∧ weekP t * 604800 ≤ secP t ∧ secP t < (weekP t + 1) * 604800 ∧ dayP t / 7 = weekP t := by
  have := sec_bd t
  unfold dayP weekP
  omega
theorem touch_has (unit cap t : Int) : (touchP unit cap t).1 ≤ weekP t ∧ weekP t ≤ (touchP unit cap t).2 := by
  have h := sec_bd t
  have ha : 0 ≤ aboutP unit cap := by unfold aboutP; omega
  unfold touchP weekP
  generalize aboutP unit cap = b at *
  generalize secP t = n at *
  have e1 : secP (n - b) ≤ n := by unfold secP timeP; omega
  have e2 : n ≤ secP (n + b) := by unfold secP timeP; omega
  have b1 := sec_bd (n - b)
  have b2 := sec_bd (n + b)
  simp only
  omega
theorem touch_near {unit cap t : Int} (h1 : unit ≤ 3600) (h2 : cap ≤ 57600) : (touchP unit cap t).2 - (touchP unit cap t).1 ≤ 1 := by
  have h := sec_bd t
  have ha : 0 ≤ aboutP unit cap ∧ aboutP unit cap ≤ 61200 := by unfold aboutP; omega
  unfold touchP weekP
  generalize aboutP unit cap = b at *
  generalize secP t = n at *
  have e : secP (n + b) - secP (n - b) ≤ 122400 := by unfold secP timeP; omega
  have b1 := sec_bd (n - b)
  have b2 := sec_bd (n + b)
  simp only
  omega
/-! ### Rising lists -/
theorem rise_unique : ∀ (a b : List Int), a.Pairwise (· < ·) → b.Pairwise (· < ·) → (∀ x, x ∈ a ↔ x ∈ b) → a = b
  | [], [], _, _, _ => rfl
  | [], y :: b, _, _, h => by have := (h y).2 (by simp); simp at this
  | x :: a, [], _, _, h => by have := (h x).1 (by simp); simp at this
  | x :: a, y :: b, ha, hb, h => by
    rw [List.pairwise_cons] at ha hb
    have h1 : x = y := by
      have p1 := (h x).1 (by simp)
      have p2 := (h y).2 (by simp)
      rcases List.mem_cons.1 p1 with p1 | p1
      · exact p1
      · rcases List.mem_cons.1 p2 with p2 | p2
        · exact p2.symm
        · have := hb.1 x p1
          have := ha.1 y p2
          omega
    subst h1
    congr 1
    refine rise_unique a b ha.2 hb.2 fun z => ?_
    have := h z
    simp only [List.mem_cons] at this
    constructor
    · intro hz
      rcases this.1 (.inr hz) with q | q
      · have := ha.1 z hz; omega
      · exact q
    · intro hz
      rcases this.2 (.inr hz) with q | q
      · have := hb.1 z hz; omega
      · exact q
open Classical in
/-- The days that have some. -/
noncomputable def daysP (p : Int → Prop) : List Int := ((List.range 371).filter fun d : Nat => decide (∃ t, 0 ≤ t ∧ t < 32054400 ∧ p t ∧ t / 86400 = (d : Int))).map fun d : Nat => (d : Int)
theorem days_mem (p : Int → Prop) (d : Int) : d ∈ daysP p ↔ ∃ t, 0 ≤ t ∧ t < 32054400 ∧ p t ∧ t / 86400 = d := by
  unfold daysP
  simp only [List.mem_map, List.mem_filter, List.mem_range, decide_eq_true_eq]
  constructor
  · rintro ⟨n, ⟨_, t, h⟩, rfl⟩
    exact ⟨t, h⟩
  · rintro ⟨t, h1, h2, h3, h4⟩
    exact ⟨d.toNat, ⟨by omega, t, h1, h2, h3, by omega⟩, by omega⟩
theorem range_rise (n : Nat) : ((List.range n).map fun d : Nat => (d : Int)).Pairwise (· < ·) := by
  rw [List.pairwise_map]
  exact List.pairwise_lt_range.imp (fun h => by omega)
theorem days_rise (p : Int → Prop) : (daysP p).Pairwise (· < ·) := by
  unfold daysP
  rw [List.pairwise_map]
  exact (List.pairwise_lt_range.imp (fun h => by omega)).filter _
theorem days_eq {p : Int → Prop} {l : List Int} (h1 : l.Pairwise (· < ·)) (h2 : ∀ d, d ∈ l ↔ ∃ t, 0 ≤ t ∧ t < 32054400 ∧ p t ∧ t / 86400 = d) : l = daysP p :=
  rise_unique l (daysP p) h1 (days_rise p) fun d => by rw [h2, days_mem]
/-- The seconds of one day, or week. -/
noncomputable def ofDayP (p : Int → Prop) (d : Int) : List (Int × Int) := canon fun t => p t ∧ t / 86400 = d
noncomputable def ofWeekP (p : Int → Prop) (k : Int) : List (Int × Int) := canon fun t => p t ∧ t / 604800 = k
theorem ofDay_none {p : Int → Prop} {d : Int} (h : d < 0 ∨ 370 < d) : ofDayP p d = [] := canon_none fun t h0 h1 h2 => by omega
theorem ofWeek_none {p : Int → Prop} {k : Int} (h : k < 0 ∨ 52 < k) : ofWeekP p k = [] := canon_none fun t h0 h1 h2 => by omega
theorem ofDay_some {p : Int → Prop} {d : Int} (h : d ∈ daysP p) : ofDayP p d ≠ [] := by
  intro e
  obtain ⟨t, h1, h2, h3, h4⟩ := (days_mem p d).1 h
  have := (canon_in (fun t => p t ∧ t / 86400 = d) t).2 ⟨h1, h2, h3, h4⟩
  unfold ofDayP at e
  rw [e] at this
  exact in_nil t this
/-- The days, one behind the other, make the set; those of a week the week's. -/
theorem days_make (p : Int → Prop) {t : Int} (h0 : 0 ≤ t) (h1 : t < 32054400) : In ((daysP p).flatMap (ofDayP p)) t ↔ p t := by
  constructor
  · rintro ⟨s, hs, h2⟩
    obtain ⟨d, hd, hsd⟩ := List.mem_flatMap.1 hs
    have : In (ofDayP p d) t := ⟨s, hsd, h2⟩
    exact ((canon_in _ t).1 this).2.2.1
  · intro hp
    have hd : t / 86400 ∈ daysP p := (days_mem p _).2 ⟨t, h0, h1, hp, rfl⟩
    obtain ⟨s, hs, h2⟩ := (canon_in (fun u => p u ∧ u / 86400 = t / 86400) t).2 ⟨h0, h1, hp, rfl⟩
    exact ⟨s, List.mem_flatMap.2 ⟨_, hd, hs⟩, h2⟩
theorem week_make (p : Int → Prop) (k : Int) {t : Int} (h0 : 0 ≤ t) (h1 : t < 32054400) : In (((daysP p).filter fun d => decide (d / 7 = k)).flatMap (ofDayP p)) t ↔ p t ∧ t / 604800 = k := by
  constructor
  · rintro ⟨s, hs, h2⟩
    obtain ⟨d, hd, hsd⟩ := List.mem_flatMap.1 hs
    have hk := (List.mem_filter.1 hd).2
    simp only [decide_eq_true_eq] at hk
    have : In (ofDayP p d) t := ⟨s, hsd, h2⟩
    have := ((canon_in _ t).1 this).2.2
    exact ⟨this.1, by omega⟩
  · rintro ⟨hp, hk⟩
    have hd : t / 86400 ∈ daysP p := (days_mem p _).2 ⟨t, h0, h1, hp, rfl⟩
    obtain ⟨s, hs, h2⟩ := (canon_in (fun u => p u ∧ u / 86400 = t / 86400) t).2 ⟨h0, h1, hp, rfl⟩
    refine ⟨s, List.mem_flatMap.2 ⟨_, List.mem_filter.2 ⟨hd, ?_⟩, hs⟩, h2⟩
    simp only [decide_eq_true_eq]
    omega
end Go.Proofs.Ytedkhjbnjkcemaa

namespace Go.Proofs.Ytedkhjbnjkcemaa
set_option linter.unusedVariables false
set_option linter.unusedSimpArgs false

structure SegP where
  fr : Int
  to : Int
  kd : Int
  id : Int
  cd : Int
  deriving DecidableEq
structure FlagP where
  id : Int
  kd : Int
  deriving DecidableEq
/-! ### Sessions rise -/
/-! ### Parts -/
end Go.Proofs.Ytedkhjbnjkcemaa

namespace Go.Proofs.Ytedkhjbnjkcemaa
set_option linter.unusedVariables false
set_option linter.unusedSimpArgs false

/-! ### Numbers -/
def segL (s : SegP) : List Int := [s.fr, s.to, s.kd, s.id, s.cd]
def flagL (f : FlagP) : List Int := [f.id, f.kd]
end Go.Proofs.Ytedkhjbnjkcemaa

namespace Go.Proofs.Ytedkhjbnjkcemaa
open Go.RowKit
set_option linter.unusedVariables false

/-- A number of 64 bits. -/
def Fit (n : Int) : Prop := -9223372036854775808 ≤ n ∧ n ≤ 9223372036854775807
def Fits (xs : List (Int × Int)) : Prop := ∀ x ∈ xs, Fit x.1 ∧ Fit x.2
theorem Fits.nil : Fits [] := fun x hx => by cases hx

/-- A slice value over A reads as the spans xs. -/
def Spans (w : World) (A : Option Addr) (xs : List (Int × Int)) : Prop :=
  Fits xs ∧ ∀ k, k < xs.length → ∃ b off, A = some ⟨b, off, none⟩ ∧ b < w.heap.size ∧ w.cell? ⟨b, off + k * 2, none⟩ = some (.int .i64 (xs.getD k (0, 0)).1) ∧ w.cell? ⟨b, off + k * 2 + 1, none⟩ = some (.int .i64 (xs.getD k (0, 0)).2)
theorem Spans.below {w w' : World} {A : Option Addr} {xs : List (Int × Int)} (h : Spans w A xs) (hb : Below w.heap.size w w') : Spans w' A xs := by
  refine ⟨h.1, fun k hk => ?_⟩
  obtain ⟨b, off, e, h0, h1, h2⟩ := h.2 k hk
  exact ⟨b, off, e, Nat.lt_of_lt_of_le h0 hb.size, (hb.cell h0).trans h1, (hb.cell h0).trans h2⟩
theorem Spans.alloc {w : World} {A : Option Addr} {xs : List (Int × Int)} (h : Spans w A xs) (o : Obj) : Spans (w.alloc o) A xs := h.below ((Below.refl _ _).alloc (Nat.le_refl _) o)
theorem Spans.drew {w : World} {A : Option Addr} {xs : List (Int × Int)} (h : Spans w A xs) : Spans w.drew A xs := h.below (below_drew (Below.refl _ _))
theorem Spans.nil (w : World) (A : Option Addr) : Spans w A [] := ⟨Fits.nil, fun k hk => by simp at hk⟩
end Go.Proofs.Ytedkhjbnjkcemaa
