/-
  Flags: whose they are, and how many. No program here.
-/
import Derived.Test.YtbijaaglmhoopaaZbd
namespace Go.Proofs.Ytbijaaglmhoopaa
set_option linter.unusedVariables false
set_option linter.unusedSimpArgs false

def hasId (i k : Int) (e : EvP) : Bool := decide (e.id = i) && decide (e.kd = k)
/-- How many events of a kind have flags. -/
def cntF (k : Int) (l : List EvP) : List FlagP → Nat
  | [] => 0
  | x :: F => l.countP (hasId x.id k) + cntF k l F
theorem cntF_append (k : Int) (l : List EvP) : ∀ (F G : List FlagP), cntF k l (F ++ G) = cntF k l F + cntF k l G
  | [], G => by simp [cntF]
  | x :: F, G => by
    show l.countP _ + cntF k l (F ++ G) = l.countP _ + cntF k l F + cntF k l G
    rw [cntF_append k l F G]
    omega
theorem cntF_le (k : Int) (l : List EvP) : ∀ F : List FlagP, cntF k l F ≤ F.length * l.length
  | [] => by simp [cntF]
  | x :: F => by
    have h1 := cntF_le k l F
    have h2 := List.countP_le_length (p := hasId x.id k) (l := l)
    show l.countP _ + cntF k l F ≤ (F.length + 1) * l.length
    rw [Nat.succ_mul]
    omega
theorem uniq_count {l : List EvP} (hd : l.Pairwise (fun a b => a.id ≠ b.id)) {e : EvP} (he : e ∈ l) (k : Int) : l.countP (hasId e.id k) = if e.kd = k then 1 else 0 := by
  induction l with
  | nil => cases he
  | cons a l ih =>
    rw [List.pairwise_cons] at hd
    rw [List.countP_cons]
    rcases List.mem_cons.1 he with rfl | he
    · have h0 : l.countP (hasId e.id k) = 0 := by
        rw [List.countP_eq_zero]
        intro x hx
        have := hd.1 x hx
        simp only [hasId, Bool.and_eq_true, decide_eq_true_eq]
        intro h
        exact this h.1.symm
      rw [h0]
      by_cases q : e.kd = k
      · simp [hasId, q]
      · simp [hasId, q]
    · have h1 := hd.1 e he
      have h2 : hasId e.id k a = false := by
        simp only [hasId, Bool.and_eq_false_iff, decide_eq_false_iff_not]
        exact .inl h1
      rw [ih hd.2 he, h2]
      simp
def openI : ItemP → Bool
  | .out _ => false
  | .sess _ _ _ fl => decide (fl ≠ 0)
/-- What is known of each item. -/
def okI (l : List EvP) : ItemP → Prop
  | .out e => e ∈ l ∧ e.kd ≠ 1
  | .sess e _ _ fl => e ∈ l ∧ e.kd = 1 ∧ (fl = 0 ∨ fl = 1 ∨ fl = 2)
theorem items_ok {cap : Int} {l : List EvP} : ∀ (L : List ItemP) (lo : Int), ItemsUp cap lo L → (∀ y ∈ L, headI y ∈ l) → ∀ y ∈ L, okI l y
  | [], _, _, _, y, hy => by cases hy
  | .out e :: r, lo, h, hl, y, hy => by
    rcases List.mem_cons.1 hy with rfl | hy
    · exact ⟨hl (.out e) (by simp), h.1⟩
    · exact items_ok r lo h.2 (fun z hz => hl z (by simp [hz])) y hy
  | .sess e ins tz fl :: r, lo, ⟨_, h2, _, _, h5, h7⟩, hl, y, hy => by
    rcases List.mem_cons.1 hy with rfl | hy
    · exact ⟨hl (.sess e ins tz fl) (by simp), h2, h5⟩
    · exact items_ok r tz h7 (fun z hz => hl z (by simp [hz])) y hy
theorem flags_cnt {l : List EvP} (hd : l.Pairwise (fun a b => a.id ≠ b.id)) : ∀ (L : List ItemP), (∀ y ∈ L, okI l y) → cntF 1 l (flagsS L) = L.countP openI ∧ cntF 2 l (flagsS L) = L.countP strayN
  | [], _ => ⟨rfl, rfl⟩
  | y :: r, h => by
    obtain ⟨h1, h2⟩ := flags_cnt hd r fun z hz => h z (by simp [hz])
    have hy := h y (by simp)
    rw [flagsS_cons, cntF_append, cntF_append, List.countP_cons, List.countP_cons, h1, h2]
    match y, hy with
    | .out e, ⟨he, hk⟩ =>
      have c1 := uniq_count hd he 1
      have c2 := uniq_count hd he 2
      simp only [flagsI, cntF, openI, strayN, c1, c2, if_neg hk]
      by_cases q : e.kd = 2
      · simp [q]; omega
      · simp [q]
    | .sess e ins tz fl, ⟨he, hk, hf⟩ =>
      have c1 := uniq_count hd he 1
      have c2 := uniq_count hd he 2
      by_cases q : fl = 0
      · simp [flagsI, cntF, openI, strayN, q]
      · simp only [flagsI, if_neg q, cntF, openI, strayN, c1, c2, if_pos hk]
        rw [if_neg (by omega)]
        simp [q]
        omega
theorem sess_count : ∀ (L : List ItemP), L.countP sessN = L.countP doneN + L.countP openI
  | [] => rfl
  | y :: r => by
    have ih := sess_count r
    rw [List.countP_cons, List.countP_cons, List.countP_cons, ih]
    match y with
    | .out e => simp [sessN, doneN, openI]
    | .sess e ins tz fl =>
      by_cases q : fl = 0
      · simp [sessN, doneN, openI, q]; omega
      · simp [sessN, doneN, openI, q]; omega
/-- How many events of a kind are the worker's. -/
def cntW (may : EvP → Bool) (wk k : Int) (l : List EvP) : Nat := l.countP fun e => decide (e.wk = wk) && decide (e.kd = k) && may e
theorem cnt_wevs (may : EvP → Bool) (wk k : Int) (hk : k ≠ 7) (l : List EvP) : cntK k (wevs may wk l) = cntW may wk k l := by
  unfold cntK wevs cntW
  rw [List.countP_filter, (ev_sort_perm l).countP_eq]
  refine List.countP_congr fun e _ => ?_
  simp only [ofW, Bool.and_eq_true, decide_eq_true_eq]
  constructor
  · rintro ⟨h1, ⟨h2, h3⟩, h4⟩
    exact ⟨⟨h3, h1⟩, h2⟩
  · rintro ⟨⟨h1, h2⟩, h3⟩
    exact ⟨h2, ⟨h3, h1⟩, by omega⟩
theorem cntW_snoc (may : EvP → Bool) (wk k : Int) (l : List EvP) (i : Nat) (hi : i < l.length) (e : EvP) (he : l.getD i EvP.none = e) : cntW may wk k (l.take (i + 1)) = cntW may wk k (l.take i) + (if (decide (e.wk = wk) && decide (e.kd = k) && may e) = true then 1 else 0) := by
  have h : l.take (i + 1) = l.take i ++ [e] := by rw [List.take_succ_eq_append_getElem hi, ← he]; simp [List.getD, hi]
  unfold cntW
  rw [h, List.countP_append]
  congr 1
  rw [List.countP_cons, List.countP_nil, Nat.zero_add]
theorem cntW_le (may : EvP → Bool) (wk k : Int) (l : List EvP) : cntW may wk k l ≤ l.length := List.countP_le_length
theorem hasId_snoc (i k : Int) (l : List EvP) (j : Nat) (hj : j < l.length) (e : EvP) (he : l.getD j EvP.none = e) : (l.take (j + 1)).countP (hasId i k) = (l.take j).countP (hasId i k) + (if hasId i k e = true then 1 else 0) := by
  have h : l.take (j + 1) = l.take j ++ [e] := by rw [List.take_succ_eq_append_getElem hj, ← he]; simp [List.getD, hj]
  rw [h, List.countP_append]
  congr 1
  rw [List.countP_cons, List.countP_nil, Nat.zero_add]
theorem cntF_snoc (k : Int) (l : List EvP) (F : List FlagP) (i : Nat) (hi : i < F.length) (x : FlagP) (hx : F.getD i FlagP.none = x) : cntF k l (F.take (i + 1)) = cntF k l (F.take i) + l.countP (hasId x.id k) := by
  have h : F.take (i + 1) = F.take i ++ [x] := by rw [List.take_succ_eq_append_getElem hi, ← hx]; simp [List.getD, hi]
  rw [h, cntF_append]
  rfl
theorem apart_of {l : List EvP} {n : Nat} (hl : l.length = n) (h : ∀ a b, a < n → b < a → (l.getD b EvP.none).id ≠ (l.getD a EvP.none).id) : l.Pairwise (fun a b => a.id ≠ b.id) := by
  rw [List.pairwise_iff_getElem]
  intro i j hi hj hij
  have := h j i (by omega) hij
  have g : ∀ i (hi : i < l.length), l.getD i EvP.none = l[i] := fun i hi => by simp [List.getD, hi]
  rw [g i hi, g j hj] at this
  exact this
theorem flag_ids {F : List FlagP} (h : F.Pairwise (fun a b => a.id ≠ b.id)) {i j : Nat} (hi : i < F.length) (hj : j < i) : (F.getD j FlagP.none).id ≠ (F.getD i FlagP.none).id := by
  have g : ∀ i (hi : i < F.length), F.getD i FlagP.none = F[i] := fun i hi => by simp [List.getD, hi]
  rw [g i hi, g j (by omega)]
  exact List.pairwise_iff_getElem.1 h j i (by omega) hi hj
theorem ids_sub : ∀ (L : List ItemP), ((flagsS L).map (·.id)).Sublist ((headsS L).map (·.id))
  | [] => List.Sublist.slnil
  | y :: r => by
    rw [flagsS_cons, List.map_append]
    have ih := ids_sub r
    match y with
    | .out e => exact ih.cons_cons e.id
    | .sess e ins tz fl =>
      by_cases q : fl = 0
      · simp only [flagsI, if_pos q]
        exact ih.cons e.id
      · simp only [flagsI, if_neg q]
        exact ih.cons_cons e.id
section
variable {s : SetP} {wk : Int} {l : List EvP}
theorem items_known (hM : s.May) : ∀ y ∈ itemsOf s wk l, okI l y :=
  items_ok _ 0 (itemsOf_up hM wk l) fun y hy => by
    have h1 := (heads_sub (cap := s.cap) (wevs (mayE s.places s.elements.length s.classes.length s.gears.length s.rates.length) wk l)).1
    have h2 : headI y ∈ headsS (itemsOf s wk l) := List.mem_map.2 ⟨y, hy, rfl⟩
    exact ((wevs_mem _ wk l _).1 (h1.subset h2)).1
theorem flagsOf_is (hM : s.May) : flagsOf s wk l = flagsS (itemsOf s wk l) := by unfold flagsOf; rw [if_pos (check_iff.2 hM)]
/-- No two flags have the same number. -/
theorem flags_apart (hM : s.May) (hd : l.Pairwise (fun a b => a.id ≠ b.id)) : (flagsOf s wk l).Pairwise (fun a b => a.id ≠ b.id) := by
  rw [flagsOf_is hM]
  have h0 : (sortE l).Pairwise (fun a b => a.id ≠ b.id) := ((ev_sort_perm l).pairwise_iff (fun h => Ne.symm h)).2 hd
  have h1 : (wevs (mayE s.places s.elements.length s.classes.length s.gears.length s.rates.length) wk l).Pairwise (fun a b => a.id ≠ b.id) := h0.sublist List.filter_sublist
  have h2 : (headsS (itemsOf s wk l)).Pairwise (fun a b => a.id ≠ b.id) := h1.sublist (heads_sub (cap := s.cap) _).1
  have h3 : ((headsS (itemsOf s wk l)).map (·.id)).Pairwise (· ≠ ·) := List.pairwise_map.2 h2
  exact List.pairwise_map.1 (h3.sublist (ids_sub _))
/-- A flag's kind is that of its event. -/
theorem flags_kind (hM : s.May) (hd : l.Pairwise (fun a b => a.id ≠ b.id)) : ∀ x ∈ flagsOf s wk l, ∀ e ∈ l, e.id = x.id → (e.kd = 1 ↔ (x.kd = 1 ∨ x.kd = 2)) := by
  intro x hx e he hid
  rw [flagsOf_is hM] at hx
  obtain ⟨y, hy, hxy⟩ := List.mem_flatMap.1 hx
  have hok := items_known hM y hy
  have same : ∀ a ∈ l, a.id = e.id → a = e := by
    intro a ha hae
    have c := uniq_count hd he e.kd
    rw [if_pos rfl] at c
    by_cases q : a = e
    · exact q
    · exfalso
      obtain ⟨i, hi, rfl⟩ := List.mem_iff_getElem.1 ha
      obtain ⟨j, hj, rfl⟩ := List.mem_iff_getElem.1 he
      rcases Nat.lt_trichotomy i j with h | h | h
      · exact List.pairwise_iff_getElem.1 hd i j hi hj h hae
      · subst h; exact q rfl
      · exact List.pairwise_iff_getElem.1 hd j i hj hi h hae.symm
  match y, hok, hxy with
  | .out a, ⟨h1, h2⟩, hxy =>
    have hx2 := List.mem_singleton.1 hxy
    subst hx2
    have := same a h1 hid.symm
    subst this
    simp [h2]
  | .sess a ins tz fl, ⟨h1, h2, h3⟩, hxy =>
    by_cases q : fl = 0
    · simp [flagsI, q] at hxy
    · simp only [flagsI, if_neg q, List.mem_singleton] at hxy
      subst hxy
      have := same a h1 hid.symm
      subst this
      simp only [h2, true_iff]
      omega
/-- Punches in without a flag are punches out without one. -/
theorem flags_sum (hM : s.May) (hd : l.Pairwise (fun a b => a.id ≠ b.id)) :
    (cntW (mayE s.places s.elements.length s.classes.length s.gears.length s.rates.length) wk 1 l : Int) - cntF 1 l (flagsOf s wk l) = cntW (mayE s.places s.elements.length s.classes.length s.gears.length s.rates.length) wk 2 l - cntF 2 l (flagsOf s wk l) := by
  obtain ⟨c1, c2⟩ := flags_cnt hd (itemsOf s wk l) (items_known hM)
  have e1 := flags_count (cap := s.cap) (wevs (mayE s.places s.elements.length s.classes.length s.gears.length s.rates.length) wk l) none
  have e0 : openN none = 0 := rfl
  rw [e0] at e1
  have e2 := sess_count (itemsOf s wk l)
  rw [cnt_wevs _ wk 1 (by omega), cnt_wevs _ wk 2 (by omega)] at e1
  rw [flagsOf_is hM, c1, c2]
  obtain ⟨e3, e4⟩ := e1
  have e5 : itemsS s.cap none (wevs (mayE s.places s.elements.length s.classes.length s.gears.length s.rates.length) wk l) = itemsOf s wk l := rfl
  rw [e5] at e3 e4
  omega
end
end Go.Proofs.Ytbijaaglmhoopaa
