/-
  What stands near a day; the lists that breaks makes of a day, as sets. No program here.
-/
import Derived.Test.YtghfhoodbiiciaaZab
import Derived.Test.YtghfhoodbiiciaaZap
namespace Go.Proofs.Ytghfhoodbiiciaa
set_option linter.unusedVariables false
set_option linter.unusedSimpArgs false

/-! ### Near -/
def ndA (L : List (Int × Int)) (d : Int) (i : Nat) : Bool := decide (d ≤ dayP ((L.getD i (0, 0)).2 - 1))
def ndB (L : List (Int × Int)) (d : Int) (i : Nat) : Bool := decide (d < dayP (L.getD i (0, 0)).1)
theorem day_mono {a b : Int} (h : a ≤ b) : dayP a ≤ dayP b := by unfold dayP secP timeP; omega
theorem plain_get {L : List (Int × Int)} (h : PlainFrom 0 L) {i : Nat} (hi : i < L.length) : 0 ≤ (L.getD i (0, 0)).1 ∧ (L.getD i (0, 0)).1 < (L.getD i (0, 0)).2 ∧ (L.getD i (0, 0)).2 ≤ 32054400 :=
  (plain_pairs.1 h).1 _ (by simp [List.getD, hi])
theorem bplain_lt {L : List (Int × Int)} (h : PlainFrom 0 L) {i j : Nat} (hij : i < j) (hj : j < L.length) : (L.getD i (0, 0)).2 < (L.getD j (0, 0)).1 := by
  have := List.pairwise_iff_getElem.1 (plain_pairs.1 h).2 i j (by omega) hj hij
  simpa [List.getD, hj, show i < L.length by omega] using this
theorem ndA_mono {L : List (Int × Int)} (h : PlainFrom 0 L) (d : Int) {i j : Nat} (hij : i ≤ j) (hj : j < L.length) (ha : ndA L d i = true) : ndA L d j = true := by
  rcases Nat.eq_or_lt_of_le hij with rfl | hlt
  · exact ha
  unfold ndA at ha ⊢
  rw [decide_eq_true_eq] at ha ⊢
  have h1 := bplain_lt h hlt hj
  have h2 := plain_get h hj
  have := day_mono (a := (L.getD i (0, 0)).2 - 1) (b := (L.getD j (0, 0)).2 - 1) (by omega)
  omega
theorem ndB_mono {L : List (Int × Int)} (h : PlainFrom 0 L) (d : Int) {i j : Nat} (hij : i ≤ j) (hj : j < L.length) (ha : ndB L d i = true) : ndB L d j = true := by
  rcases Nat.eq_or_lt_of_le hij with rfl | hlt
  · exact ha
  unfold ndB at ha ⊢
  rw [decide_eq_true_eq] at ha ⊢
  have h1 := bplain_lt h hlt hj
  have h2 := plain_get h (show i < L.length by omega)
  have := day_mono (a := (L.getD i (0, 0)).1) (b := (L.getD j (0, 0)).1) (by omega)
  omega
theorem ndAB {L : List (Int × Int)} (h : PlainFrom 0 L) (d : Int) {i : Nat} (hi : i < L.length) (hb : ndB L d i = true) : ndA L d i = true := by
  unfold ndA
  unfold ndB at hb
  rw [decide_eq_true_eq] at hb ⊢
  have h2 := plain_get h hi
  have := day_mono (a := (L.getD i (0, 0)).1) (b := (L.getD i (0, 0)).2 - 1) (by omega)
  omega
theorem near_le {L : List (Int × Int)} (h : PlainFrom 0 L) (d : Int) {a b : Nat} (ha : a ≤ L.length) (hb : b ≤ L.length) (h1 : ∀ i, i < a → ndA L d i = false) (h2 : ∀ i, b ≤ i → i < L.length → ndB L d i = true) : a ≤ b := by
  rcases Nat.lt_or_ge b a with hlt | hge
  · have e1 := h1 b hlt
    have e2 := ndAB h d (by omega) (h2 b (Nat.le_refl _) (by omega))
    rw [e1] at e2; cases e2
  · exact hge
theorem near_in {L : List (Int × Int)} (h : PlainFrom 0 L) (d : Int) {a b : Nat} (ha : a ≤ L.length) (hb : b ≤ L.length) (h1 : ∀ i, i < a → ndA L d i = false) (h2 : ∀ i, b ≤ i → i < L.length → ndB L d i = true)
    {t : Int} (ht : t / 86400 = d) : In ((L.take b).drop a) t ↔ In L t := by
  constructor
  · rintro ⟨s, hs, q⟩
    exact ⟨s, List.mem_of_mem_take (List.mem_of_mem_drop hs), q⟩
  · rintro ⟨s, hs, q1, q2⟩
    obtain ⟨i, hi, rfl⟩ := List.mem_iff_getElem.1 hs
    have e : L.getD i (0, 0) = L[i] := by simp [List.getD, hi]
    have hp := plain_get h hi
    rw [e] at hp
    have hia : a ≤ i := by
      rcases Nat.lt_or_ge i a with hlt | hge
      · have := h1 i hlt
        unfold ndA at this
        rw [decide_eq_false_iff_not, e] at this
        exfalso; apply this
        have k := day_mono (a := t) (b := L[i].2 - 1) (by omega)
        have k2 : dayP t = d := by unfold dayP; rw [sec_in (by omega) (by omega)]; exact ht
        omega
      · exact hge
    have hib : i < b := by
      rcases Nat.lt_or_ge i b with hlt | hge
      · exact hlt
      · have := h2 i hge hi
        unfold ndB at this
        rw [decide_eq_true_eq, e] at this
        have k := day_mono (a := L[i].1) (b := t) (by omega)
        have k2 : dayP t = d := by unfold dayP; rw [sec_in (by omega) (by omega)]; exact ht
        omega
    refine ⟨L[i], ?_, q1, q2⟩
    rw [List.mem_drop_iff_getElem]
    refine ⟨i - a, by rw [List.length_take]; omega, ?_⟩
    rw [List.getElem_take]
    congr 1
    omega
/-! ### The lists of a day -/
theorem brk_fill : ∀ {l : List (Int × Int)} {a B : Int}, PlainFrom a l → (∀ s ∈ l, s.2 ≤ B) → a ≤ B + 1 → (l.length : Int) ≤ B + 1 - a
  | [], a, B, _, _, h => by simp; omega
  | s :: l, a, B, ⟨h1, h2, h3, h4⟩, hB, h => by
    have hs := hB s (by simp)
    have := brk_fill h4 (fun x hx => hB x (by simp [hx])) (by omega)
    simp only [List.length_cons]
    omega
theorem day_len {p : Int → Prop} {d : Int} (h : ∀ t, p t → t / 86400 = d) : (canon p).length ≤ 86401 := by
  have hp : PlainFrom 0 (canon p) := canon_plain _
  have hin : ∀ s ∈ canon p, 86400 * d ≤ s.1 ∧ s.2 ≤ 86400 * d + 86400 := fun s hs => by
    have h0 := (plain_pairs.1 hp).1 s hs
    have h1 := h _ ((canon_in p s.1).1 ⟨s, hs, by omega, by omega⟩).2.2
    have h2 := h _ ((canon_in p (s.2 - 1)).1 ⟨s, hs, by omega, by omega⟩).2.2
    omega
  have hp2 : PlainFrom (86400 * d) (canon p) := plain_pairs.2 ⟨fun s hs => by
    have h0 := (plain_pairs.1 hp).1 s hs
    have := hin s hs
    omega, (plain_pairs.1 hp).2⟩
  have := brk_fill hp2 (fun s hs => (hin s hs).2) (by omega)
  omega
section
variable {C R : Int → Prop} {pb af ab : Int}
/-- What parted tells of what is not paid. -/
noncomputable def unDay (C R : Int → Prop) (pb af ab d : Int) : List (Int × Int) := canon (unP (onDay C d) (onDay R d) pb af ab)
theorem paidDay_len (d : Int) : (paidDay C R pb af ab d).length ≤ 86401 := day_len (d := d) fun t h => h.1.2
theorem notDay_len (d : Int) : (notDay C R pb af ab d).length ≤ 86401 := day_len (d := d) fun t h => h.1.2
theorem unDay_not (h : ∀ t, R t → C t) (d : Int) : unDay C R pb af ab d = notDay C R pb af ab d :=
  canon_congr fun t _ _ => (not_un (C := onDay C d) (R := onDay R d) (fun t q => ⟨h t q.1, q.2⟩) t).symm
/-- The lists in turn: the day's clock and breaks; the first breaks; the others; what is no break; the last of it. -/
noncomputable def fstL (R : Int → Prop) (pb d : Int) : List (Int × Int) := canon (fstS (onDay R d) pb)
noncomputable def othL (R : Int → Prop) (pb d : Int) : List (Int × Int) := canon fun t => onDay R d t ∧ ¬ fstS (onDay R d) pb t
noncomputable def wrkL (C R : Int → Prop) (d : Int) : List (Int × Int) := canon fun t => onDay C d t ∧ ¬ onDay R d t
noncomputable def autL (C R : Int → Prop) (n d : Int) : List (Int × Int) := canon (lstS (fun t => onDay C d t ∧ ¬ onDay R d t) n)
theorem in_can {p : Int → Prop} {t : Int} (h0 : 0 ≤ t) (h1 : t < 32054400) : In (canon p) t ↔ p t := by rw [canon_in]; exact ⟨fun h => h.2.2, fun h => ⟨h0, h1, h⟩⟩
theorem cnt_can (p : Int → Prop) {n : Nat} (h : n ≤ 32054400) : cnt (In (canon p)) n = cnt p n := cnt_congr fun t h0 h1 => in_can h0 (by omega)
theorem sz_can (p : Int → Prop) : sz (In (canon p)) = sz p := cnt_can p (Nat.le_refl _)
theorem fst_list (n d : Int) : (canon fun t => In (ofDayP R d) t ∧ cnt (In (ofDayP R d)) t.toNat < n) = fstL R n d :=
  canon_congr fun t h0 h1 => by
    unfold ofDayP
    rw [in_can h0 h1, cnt_can _ (by omega)]
    exact Iff.rfl
theorem oth_list (n d : Int) : (canon fun t => In (ofDayP R d) t ∧ ¬ In (fstL R n d) t) = othL R n d :=
  canon_congr fun t h0 h1 => by
    unfold ofDayP fstL
    rw [in_can h0 h1, in_can h0 h1]
    exact Iff.rfl
theorem wrk_list (d : Int) : (canon fun t => In (ofDayP C d) t ∧ ¬ In (ofDayP R d) t) = wrkL C R d :=
  canon_congr fun t h0 h1 => by
    unfold ofDayP
    rw [in_can h0 h1, in_can h0 h1]
    exact Iff.rfl
theorem aut_list (n d : Int) : canon (lastP (wrkL C R d) n) = autL C R n d :=
  canon_congr fun t h0 h1 => by
    unfold lastP wrkL
    rw [in_can h0 h1, cnt_can _ (by omega), sz_can]
    exact Iff.rfl
theorem aut_none {n : Int} (d : Int) (h : n ≤ 0) : autL C R n d = [] := canon_none fun t h0 h1 q => by
  have k := q.2
  have := cnt_lt (p := fun t => onDay C d t ∧ ¬ onDay R d t) h0 h1 q.1
  omega
theorem un_yes {d : Int} (h : af ≤ sz (onDay C d)) {t : Int} (h0 : 0 ≤ t) (h1 : t < 32054400) : In (othL R pb d ++ autL C R (ab - sz (onDay R d)) d) t ↔ unP (onDay C d) (onDay R d) pb af ab t := by
  rw [in_append]
  unfold othL unP
  rw [in_can h0 h1]
  constructor
  · rintro (q | q)
    · exact .inl q
    · rcases Int.lt_or_le (sz (onDay R d)) ab with k | k
      · unfold autL at q
        rw [in_can h0 h1] at q
        exact .inr ⟨h, k, q⟩
      · rw [aut_none d (by omega)] at q
        exact absurd q (in_nil t)
  · rintro (q | ⟨q1, q2, q3⟩)
    · exact .inl q
    · refine .inr ?_
      unfold autL
      rw [in_can h0 h1]
      exact q3
theorem un_no {d : Int} (h : ¬ af ≤ sz (onDay C d)) {t : Int} (h0 : 0 ≤ t) (h1 : t < 32054400) : In (othL R pb d) t ↔ unP (onDay C d) (onDay R d) pb af ab t := by
  unfold othL unP
  rw [in_can h0 h1]
  exact ⟨fun q => .inl q, fun q => q.elim (fun z => z) (fun z => absurd z.1 h)⟩
theorem un_norm {U : List (Int × Int)} {d : Int} (h : ∀ t, 0 ≤ t → t < 32054400 → (In U t ↔ unP (onDay C d) (onDay R d) pb af ab t)) : canon (In U) = unDay C R pb af ab d := canon_congr h
theorem un_paid {U : List (Int × Int)} {d : Int} (h : ∀ t, 0 ≤ t → t < 32054400 → (In U t ↔ unP (onDay C d) (onDay R d) pb af ab t)) : (canon fun t => In (ofDayP C d) t ∧ ¬ In U t) = paidDay C R pb af ab d :=
  canon_congr fun t h0 h1 => by
    rw [h t h0 h1]
    unfold ofDayP
    rw [in_can h0 h1]
    exact Iff.rfl
end
theorem day_only {p : Int → Prop} (d : Int) : sz (In (ofDayP p d)) = sz (onDay p d) := sz_can _
/-! ### All days -/
theorem near_day {L M : List (Int × Int)} {d : Int} (h : ∀ t, t / 86400 = d → (In M t ↔ In L t)) : ∀ t, onDay (In M) d t ↔ onDay (In L) d t := fun t => by
  unfold onDay
  exact ⟨fun q => ⟨(h t q.2).1 q.1, q.2⟩, fun q => ⟨(h t q.2).2 q.1, q.2⟩⟩
theorem near_paid {L M K N : List (Int × Int)} {d pb af ab : Int} (h : ∀ t, t / 86400 = d → (In M t ↔ In L t)) (k : ∀ t, t / 86400 = d → (In N t ↔ In K t)) :
    paidDay (In M) (In N) pb af ab d = paidDay (In L) (In K) pb af ab d ∧ unDay (In M) (In N) pb af ab d = unDay (In L) (In K) pb af ab d := by
  have e1 : onDay (In M) d = onDay (In L) d := funext fun t => propext (near_day h t)
  have e2 : onDay (In N) d = onDay (In K) d := funext fun t => propext (near_day k t)
  unfold paidDay unDay
  rw [e1, e2]
  exact ⟨rfl, rfl⟩
/-- The first k of all days. -/
noncomputable def paidN (C R : Int → Prop) (pb af ab : Int) (k : Nat) : List (Int × Int) := (List.range k).flatMap fun d : Nat => paidDay C R pb af ab (d : Int)
noncomputable def notN (C R : Int → Prop) (pb af ab : Int) (k : Nat) : List (Int × Int) := (List.range k).flatMap fun d : Nat => notDay C R pb af ab (d : Int)
section
variable {C R : Int → Prop} {pb af ab : Int}
theorem paidN_snoc (k : Nat) : paidN C R pb af ab (k + 1) = paidN C R pb af ab k ++ paidDay C R pb af ab (k : Int) := by unfold paidN; rw [List.range_succ, List.flatMap_append]; simp
theorem notN_snoc (k : Nat) : notN C R pb af ab (k + 1) = notN C R pb af ab k ++ notDay C R pb af ab (k : Int) := by unfold notN; rw [List.range_succ, List.flatMap_append]; simp
theorem paidN_len : ∀ k, (paidN C R pb af ab k).length ≤ k * 86401
  | 0 => by simp [paidN]
  | k + 1 => by
    have := paidN_len k
    have := paidDay_len (C := C) (R := R) (pb := pb) (af := af) (ab := ab) (k : Int)
    rw [paidN_snoc, List.length_append]; omega
theorem notN_len : ∀ k, (notN C R pb af ab k).length ≤ k * 86401
  | 0 => by simp [notN]
  | k + 1 => by
    have := notN_len k
    have := notDay_len (C := C) (R := R) (pb := pb) (af := af) (ab := ab) (k : Int)
    rw [notN_snoc, List.length_append]; omega
theorem paidN_fits : ∀ k, Fits (paidN C R pb af ab k) := fun k x hx => by
  obtain ⟨d, _, h⟩ := List.mem_flatMap.1 hx
  exact Fits.canon _ x h
theorem notN_fits : ∀ k, Fits (notN C R pb af ab k) := fun k x hx => by
  obtain ⟨d, _, h⟩ := List.mem_flatMap.1 hx
  exact Fits.canon _ x h
theorem paidN_all : canon (In (paidN C R pb af ab 371)) = paidAll C R pb af ab :=
  canon_congr fun t a b => by
    unfold paidN
    constructor
    · rintro ⟨s, hs, h1, h2⟩
      obtain ⟨d, hd, hx⟩ := List.mem_flatMap.1 hs
      exact ((paid_day_iff _ t).1 ((canon_in _ t).1 ⟨s, hx, h1, h2⟩).2.2).1
    · intro q
      obtain ⟨s, hs, h1, h2⟩ := (canon_in (paidS (onDay C (t / 86400)) (onDay R (t / 86400)) pb af ab) t).2 ⟨a, b, (paid_day_iff _ t).2 ⟨q, rfl⟩⟩
      refine ⟨s, List.mem_flatMap.2 ⟨(t / 86400).toNat, List.mem_range.2 (by omega), ?_⟩, h1, h2⟩
      rw [show (((t / 86400).toNat : Nat) : Int) = t / 86400 by omega]
      exact hs
theorem notN_all : canon (In (notN C R pb af ab 371)) = notAll C R pb af ab :=
  canon_congr fun t a b => by
    unfold notN
    constructor
    · rintro ⟨s, hs, h1, h2⟩
      obtain ⟨d, hd, hx⟩ := List.mem_flatMap.1 hs
      exact ((not_day_iff _ t).1 ((canon_in _ t).1 ⟨s, hx, h1, h2⟩).2.2).1
    · intro q
      obtain ⟨s, hs, h1, h2⟩ := (canon_in (notS (onDay C (t / 86400)) (onDay R (t / 86400)) pb af ab) t).2 ⟨a, b, (not_day_iff _ t).2 ⟨q, rfl⟩⟩
      refine ⟨s, List.mem_flatMap.2 ⟨(t / 86400).toNat, List.mem_range.2 (by omega), ?_⟩, h1, h2⟩
      rw [show (((t / 86400).toNat : Nat) : Int) = t / 86400 by omega]
      exact hs
end
end Go.Proofs.Ytghfhoodbiiciaa
