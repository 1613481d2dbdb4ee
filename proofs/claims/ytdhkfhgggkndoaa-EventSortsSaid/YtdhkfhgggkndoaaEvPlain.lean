/-
  Events: which are fair, their numbers and bytes, and their order. No program here.
-/
import Derived.Test.YtdhkfhgggkndoaaSetRead
namespace Go.Proofs.Ytdhkfhgggkndoaa
set_option linter.unusedVariables false
set_option linter.unusedSimpArgs false

structure EvP where
  id : Int
  wk : Int
  tm : Int
  kd : Int
  fr : Int
  to : Int
  el : Int
  un : Int
  cl : Int
  ge : Int
  cd : Int
deriving DecidableEq
def EvP.none : EvP := ⟨0, 0, 0, 0, 0, 0, 0, 0, 0, 0, 0⟩
def EvP.nums (e : EvP) : List Int := [e.id, e.wk, e.tm, e.kd] ++ ((if e.kd = 3 then [e.fr, e.to, e.el, e.un, e.cl, e.ge] else []) ++ (if e.kd = 4 then [e.cd] else []))
structure EvP.Fair (e : EvP) : Prop where
  id : 0 ≤ e.id ∧ e.id ≤ 100000
  wk : 0 ≤ e.wk ∧ e.wk ≤ 9223372036854775807
  tm : 0 ≤ e.tm ∧ e.tm ≤ 31449599
  kd : 1 ≤ e.kd ∧ e.kd ≤ 7
  fr : 0 ≤ e.fr ∧ e.fr ≤ 9223372036854775807
  to : 0 ≤ e.to ∧ e.to ≤ 9223372036854775807
  el : 0 ≤ e.el ∧ e.el ≤ 9223372036854775807
  un : 0 ≤ e.un ∧ e.un ≤ 9223372036854775807
  cl : 0 ≤ e.cl ∧ e.cl ≤ 9223372036854775807
  ge : 0 ≤ e.ge ∧ e.ge ≤ 9223372036854775807
  cd : 0 ≤ e.cd ∧ e.cd ≤ 9223372036854775807
  task : e.kd = 3 ∨ (e.fr = 0 ∧ e.to = 0 ∧ e.el = 0 ∧ e.un = 0 ∧ e.cl = 0 ∧ e.ge = 0)
  code : e.kd = 4 ∨ e.cd = 0
theorem ev_ok {e : EvP} (h : e.Fair) : okN e.nums := by
  have h1 := h.id; have h2 := h.wk; have h3 := h.tm; have h4 := h.kd; have h5 := h.fr; have h6 := h.to; have h7 := h.el; have h8 := h.un; have h9 := h.cl; have h10 := h.ge; have h11 := h.cd
  unfold EvP.nums
  refine okN_append (okN_cons (by omega) (okN_cons (by omega) (okN_cons (by omega) (okN_cons (by omega) okN_nil)))) (okN_append ?_ ?_)
  · split
    · exact okN_cons (by omega) (okN_cons (by omega) (okN_cons (by omega) (okN_cons (by omega) (okN_cons (by omega) (okN_cons (by omega) okN_nil)))))
    · exact okN_nil
  · split
    · exact okN_cons (by omega) okN_nil
    · exact okN_nil
/-- Fair events are told by their numbers, whatever stands behind. -/
theorem ev_pre {e f : EvP} (he : e.Fair) (hf : f.Fair) {x y : List Int} (h : e.nums ++ x = f.nums ++ y) : e = f ∧ x = y := by
  obtain ⟨i, w, t, k, a, b, c, d, g, j, m⟩ := e
  obtain ⟨i', w', t', k', a', b', c', d', g', j', m'⟩ := f
  have t1 := he.task; have t2 := hf.task; have c1 := he.code; have c2 := hf.code
  simp only [EvP.nums, List.cons_append, List.nil_append, List.cons.injEq] at h t1 t2 c1 c2
  obtain ⟨rfl, rfl, rfl, rfl, h⟩ := h
  by_cases k3 : k = 3
  · have k4 : k ≠ 4 := by omega
    simp only [if_pos k3, if_neg k4, List.cons_append, List.nil_append, List.append_nil, List.cons.injEq] at h
    obtain ⟨rfl, rfl, rfl, rfl, rfl, rfl, rfl⟩ := h
    obtain rfl : m = 0 := by omega
    obtain rfl : m' = 0 := by omega
    exact ⟨rfl, rfl⟩
  · obtain ⟨rfl, rfl, rfl, rfl, rfl, rfl⟩ : a = 0 ∧ b = 0 ∧ c = 0 ∧ d = 0 ∧ g = 0 ∧ j = 0 := by omega
    obtain ⟨rfl, rfl, rfl, rfl, rfl, rfl⟩ : a' = 0 ∧ b' = 0 ∧ c' = 0 ∧ d' = 0 ∧ g' = 0 ∧ j' = 0 := by omega
    by_cases k4 : k = 4
    · simp only [if_neg k3, if_pos k4, List.cons_append, List.nil_append, List.cons.injEq] at h
      obtain ⟨rfl, rfl⟩ := h
      exact ⟨rfl, rfl⟩
    · simp only [if_neg k3, if_neg k4, List.nil_append] at h
      obtain rfl : m = 0 := by omega
      obtain rfl : m' = 0 := by omega
      exact ⟨rfl, h⟩
def EvP.bytes (e : EvP) : List (BitVec 8) := bytesN e.nums
/-- Two lists' bytes, each with something behind. -/
theorem bytes_split : ∀ (l m : List Int), okN l → okN m → ∀ x y : List (BitVec 8), bytesN l ++ x = bytesN m ++ y → (∃ r, m = l ++ r ∧ x = bytesN r ++ y) ∨ (∃ r, l = m ++ r ∧ y = bytesN r ++ x)
  | [], m, _, _, x, y, h => .inl ⟨m, rfl, by simpa [bytesN_nil] using h⟩
  | n :: l, [], _, _, x, y, h => .inr ⟨n :: l, rfl, by rw [h]; rfl⟩
  | n :: l, k :: m, hl, hm, x, y, h => by
    have h2 := congrArg takeB h
    rw [bytesN_cons, bytesN_cons, List.append_assoc, List.append_assoc, bytesN_take (hl n (by simp)), bytesN_take (hm k (by simp))] at h2
    simp only [Option.some.injEq, Prod.mk.injEq] at h2
    obtain ⟨e1, e2⟩ := h2
    have hn := hl n (by simp)
    have hk := hm k (by simp)
    obtain rfl : k = n := by omega
    rcases bytes_split l m (fun q hq => hl q (by simp [hq])) (fun q hq => hm q (by simp [hq])) x y e2 with ⟨r, rfl, hx⟩ | ⟨r, rfl, hx⟩
    · exact .inl ⟨r, rfl, hx⟩
    · exact .inr ⟨r, rfl, hx⟩
theorem evb_pre {e f : EvP} (he : e.Fair) (hf : f.Fair) {x y : List (BitVec 8)} (h : e.bytes ++ x = f.bytes ++ y) : e = f ∧ x = y := by
  have hne : e = f := by
    rcases bytes_split e.nums f.nums (ev_ok he) (ev_ok hf) x y h with ⟨r, e1, _⟩ | ⟨r, e1, _⟩
    · exact ((ev_pre hf he (x := []) (y := r) (by rw [List.append_nil, e1])).1).symm
    · exact (ev_pre he hf (x := []) (y := r) (by rw [List.append_nil, e1])).1
  subst hne
  exact ⟨rfl, List.append_cancel_left h⟩
open Classical in
/-- The fair event that bytes begin with, and what is behind. -/
noncomputable def takeE (b : List (BitVec 8)) : Option (EvP × List (BitVec 8)) := if h : ∃ x : EvP × List (BitVec 8), x.1.Fair ∧ b = x.1.bytes ++ x.2 then some (Classical.choose h) else none
theorem takeE_back {e : EvP} (h : e.Fair) (r : List (BitVec 8)) : takeE (e.bytes ++ r) = some (e, r) := by
  have hx : ∃ x : EvP × List (BitVec 8), x.1.Fair ∧ e.bytes ++ r = x.1.bytes ++ x.2 := ⟨(e, r), h, rfl⟩
  unfold takeE
  rw [dif_pos hx]
  obtain ⟨h1, h2⟩ := Classical.choose_spec hx
  generalize Classical.choose hx = y at *
  obtain ⟨e1, e2⟩ := evb_pre h h1 h2
  rw [show y = (y.1, y.2) from rfl, ← e1, ← e2]
theorem takeE_own {b r : List (BitVec 8)} {e : EvP} (h : takeE b = some (e, r)) : e.Fair ∧ b = e.bytes ++ r := by
  unfold takeE at h
  split at h
  · rename_i hx
    have := Classical.choose_spec hx
    injection h with h
    rw [h] at this
    exact this
  · cases h
theorem takeE_not {b : List (BitVec 8)} (h : ∀ e : EvP, e.Fair → ∀ r, b ≠ e.bytes ++ r) : takeE b = none := by
  cases ht : takeE b with
  | none => rfl
  | some x =>
    obtain ⟨e, r⟩ := x
    obtain ⟨h1, h2⟩ := takeE_own ht
    exact absurd h2 (h e h1 r)
/-! ### The document's own Take -/
/-! ### The order -/
def lessE (a b : EvP) : Bool := decide (a.tm < b.tm ∨ (a.tm = b.tm ∧ a.id < b.id))
def alikeE (a b : EvP) : Bool := decide (a.tm = b.tm ∧ a.id = b.id)
theorem ev_less_irr (a : EvP) : lessE a a = false := by simp [lessE]
theorem ev_less_trans {a b c : EvP} (h : lessE a b = true) (h' : lessE b c = true) : lessE a c = true := by
  simp only [lessE, decide_eq_true_eq] at *
  omega
/-- None stands ahead of one in front of it. -/
def Risen : List EvP → Prop
  | [] => True
  | a :: l => (∀ b ∈ l, lessE b a = false) ∧ Risen l
/-- Put in behind all that do not stand behind it. -/
def insE (out : List EvP) (x : EvP) : List EvP := out.filter (fun y => !lessE x y) ++ x :: out.filter (fun y => lessE x y)
def sortE (l : List EvP) : List EvP := l.foldl insE []
theorem risen_append : ∀ (l m : List EvP), Risen (l ++ m) ↔ Risen l ∧ Risen m ∧ ∀ a ∈ l, ∀ b ∈ m, lessE b a = false
  | [], m => by simp [Risen]
  | a :: l, m => by
    rw [List.cons_append, Risen, risen_append l m, Risen]
    constructor
    · rintro ⟨h1, h2, h3, h4⟩
      refine ⟨⟨fun b hb => h1 b (by simp [hb]), h2⟩, h3, fun c hc b hb => ?_⟩
      rcases List.mem_cons.1 hc with rfl | hc
      · exact h1 b (by simp [hb])
      · exact h4 c hc b hb
    · rintro ⟨⟨h1, h2⟩, h3, h4⟩
      refine ⟨fun b hb => ?_, h2, h3, fun c hc b hb => h4 c (by simp [hc]) b hb⟩
      rcases List.mem_append.1 hb with hb | hb
      · exact h1 b hb
      · exact h4 a (by simp) b hb
theorem risen_filter (p : EvP → Bool) : ∀ l : List EvP, Risen l → Risen (l.filter p)
  | [], _ => trivial
  | a :: l, ⟨h1, h2⟩ => by
    have := risen_filter p l h2
    by_cases hp : p a = true
    · rw [List.filter_cons_of_pos hp]
      exact ⟨fun b hb => h1 b (List.mem_filter.1 hb).1, this⟩
    · rw [List.filter_cons_of_neg hp]
      exact this
theorem ev_less_not {a b c : EvP} (h1 : lessE a b = false) (h2 : lessE b c = false) : lessE a c = false := by
  simp only [lessE, decide_eq_false_iff_not] at *
  omega
theorem ev_ins_risen {out : List EvP} (h : Risen out) (x : EvP) : Risen (insE out x) := by
  unfold insE
  rw [risen_append]
  refine ⟨risen_filter _ _ h, ⟨fun b hb => ?_, risen_filter _ _ h⟩, fun a ha b hb => ?_⟩
  · have := (List.mem_filter.1 hb).2
    simp only [lessE, decide_eq_true_eq, decide_eq_false_iff_not] at *
    omega
  · have h1 := (List.mem_filter.1 ha).2
    rcases List.mem_cons.1 hb with rfl | hb
    · simpa using h1
    · have h2 := (List.mem_filter.1 hb).2
      simp only [lessE, Bool.not_eq_true', decide_eq_true_eq, decide_eq_false_iff_not] at *
      omega
theorem ev_foldl_risen : ∀ (l out : List EvP), Risen out → Risen (l.foldl insE out)
  | [], out, h => h
  | a :: l, out, h => ev_foldl_risen l _ (ev_ins_risen h a)
theorem ev_sort_risen (l : List EvP) : Risen (sortE l) := ev_foldl_risen l [] trivial
/-- Of alike ones: those that were there, in their order, and the one behind. -/
theorem ev_ins_alike (k x : EvP) (out : List EvP) : (insE out x).filter (alikeE k) = out.filter (alikeE k) ++ (if alikeE k x = true then [x] else []) := by
  unfold insE
  rw [List.filter_append, List.filter_filter, List.filter_cons, List.filter_filter]
  by_cases h : alikeE k x = true
  · rw [if_pos h, if_pos h]
    have e1 : out.filter (fun a => alikeE k a && !lessE x a) = out.filter (alikeE k) := by
      apply List.filter_congr
      intro a _
      cases ha : alikeE k a
      · rfl
      · simp only [alikeE, lessE, decide_eq_true_eq] at h ha ⊢
        simp
        omega
    have e2 : out.filter (fun a => alikeE k a && lessE x a) = [] := by
      rw [List.filter_eq_nil_iff]
      intro a _
      simp only [alikeE, lessE, Bool.and_eq_true, decide_eq_true_eq] at h ⊢
      omega
    rw [e1, e2]
  · rw [if_neg h, if_neg h, List.append_nil]
    by_cases hl : lessE x k = true
    · have e1 : out.filter (fun a => alikeE k a && !lessE x a) = [] := by
        rw [List.filter_eq_nil_iff]
        intro a _
        simp only [alikeE, lessE, Bool.and_eq_true, Bool.not_eq_true', decide_eq_true_eq, decide_eq_false_iff_not] at h hl ⊢
        omega
      have e2 : out.filter (fun a => alikeE k a && lessE x a) = out.filter (alikeE k) := by
        apply List.filter_congr
        intro a _
        cases ha : alikeE k a
        · rfl
        · simp only [alikeE, lessE, decide_eq_true_eq] at h ha hl ⊢
          simp
          omega
      rw [e1, e2, List.nil_append]
    · have e1 : out.filter (fun a => alikeE k a && !lessE x a) = out.filter (alikeE k) := by
        apply List.filter_congr
        intro a _
        cases ha : alikeE k a
        · rfl
        · simp only [alikeE, lessE, decide_eq_true_eq] at h ha hl ⊢
          simp
          omega
      have e2 : out.filter (fun a => alikeE k a && lessE x a) = [] := by
        rw [List.filter_eq_nil_iff]
        intro a _
        simp only [alikeE, lessE, Bool.and_eq_true, decide_eq_true_eq] at h hl ⊢
        omega
      rw [e1, e2, List.append_nil]
theorem ev_foldl_alike (k : EvP) : ∀ (l out : List EvP), (l.foldl insE out).filter (alikeE k) = out.filter (alikeE k) ++ l.filter (alikeE k)
  | [], out => by simp
  | a :: l, out => by
    rw [List.foldl_cons, ev_foldl_alike k l, ev_ins_alike, List.append_assoc, List.filter_cons]
    congr 1
    by_cases h : alikeE k a = true
    · rw [if_pos h, if_pos h]; rfl
    · rw [if_neg h, if_neg h]; rfl
theorem ev_sort_alike (k : EvP) (l : List EvP) : (sortE l).filter (alikeE k) = l.filter (alikeE k) := by
  unfold sortE
  rw [ev_foldl_alike]
  simp
theorem ev_alike_refl (a : EvP) : alikeE a a = true := by simp [alikeE]
/-- Lists in order are told by those that are alike. -/
theorem risen_unique : ∀ (l m : List EvP), Risen l → Risen m → (∀ k, l.filter (alikeE k) = m.filter (alikeE k)) → l = m
  | [], [], _, _, _ => rfl
  | [], b :: m, _, _, h => by
    have := h b
    rw [List.filter_cons_of_pos (ev_alike_refl b)] at this
    cases this
  | a :: l, [], _, _, h => by
    have := h a
    rw [List.filter_cons_of_pos (ev_alike_refl a)] at this
    cases this
  | a :: l, b :: m, ⟨h1, h2⟩, ⟨h3, h4⟩, h => by
    have hab : alikeE a b = true := by
      have ha : a ∈ (b :: m) := by
        have : a ∈ (b :: m).filter (alikeE a) := by rw [← h a, List.filter_cons_of_pos (ev_alike_refl a)]; simp
        exact (List.mem_filter.1 this).1
      have hb : b ∈ (a :: l) := by
        have : b ∈ (a :: l).filter (alikeE b) := by rw [h b, List.filter_cons_of_pos (ev_alike_refl b)]; simp
        exact (List.mem_filter.1 this).1
      have q1 : lessE b a = false := by
        rcases List.mem_cons.1 hb with rfl | hb
        · exact ev_less_irr _
        · exact h1 b hb
      have q2 : lessE a b = false := by
        rcases List.mem_cons.1 ha with rfl | ha
        · exact ev_less_irr _
        · exact h3 a ha
      simp only [lessE, alikeE, decide_eq_false_iff_not, decide_eq_true_eq] at *
      omega
    have hk := h a
    rw [List.filter_cons_of_pos (ev_alike_refl a), List.filter_cons_of_pos hab] at hk
    injection hk with e1 e2
    subst e1
    congr 1
    refine risen_unique l m h2 h4 (fun k => ?_)
    have := h k
    by_cases q : alikeE k a = true
    · rw [List.filter_cons_of_pos q, List.filter_cons_of_pos q] at this
      injection this
    · rw [List.filter_cons_of_neg q, List.filter_cons_of_neg q] at this
      exact this
theorem ev_sort_of {l s : List EvP} (h1 : Risen s) (h2 : ∀ k, s.filter (alikeE k) = l.filter (alikeE k)) : s = sortE l :=
  risen_unique s (sortE l) h1 (ev_sort_risen l) (fun k => by rw [h2, ev_sort_alike])
theorem ev_ins_perm (out : List EvP) (x : EvP) : (insE out x).Perm (x :: out) := by
  unfold insE
  have h := List.filter_append_perm (fun y => !lessE x y) out
  simp only [Bool.not_not] at h
  exact List.perm_middle.trans (h.cons x)
theorem ev_foldl_perm : ∀ (l out : List EvP), (l.foldl insE out).Perm (out ++ l)
  | [], out => by simp
  | a :: l, out => by
    refine (ev_foldl_perm l (insE out a)).trans ?_
    have := (ev_ins_perm out a).append_right l
    exact this.trans List.perm_middle.symm
theorem ev_sort_perm (l : List EvP) : (sortE l).Perm l := by
  have := ev_foldl_perm l []
  simpa [sortE] using this
end Go.Proofs.Ytdhkfhgggkndoaa
