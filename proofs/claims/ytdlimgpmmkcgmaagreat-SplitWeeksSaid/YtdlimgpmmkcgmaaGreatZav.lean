/-
  What stands near a day; the lists that breaks makes of a day, as sets. No program here.
  The contracts of package lumperref03's functions, continued: Size, upTo, at, First, Last, Same.
  The contracts of package lumperref03's functions, continued: First, Last, Same; and of the statements' own helpers plain and few.
-/
import Derived.Test.YtdlimgpmmkcgmaaGreatZab
import Derived.Test.YtdlimgpmmkcgmaaGreatZau
import Derived.Test.YtdlimgpmmkcgmaaGreatZas
namespace Go.Proofs.YtdlimgpmmkcgmaaGreat
set_option linter.unusedVariables false
set_option linter.unusedSimpArgs false

/-! ### Near -/
def ndA (L : List (Int × Int)) (d : Int) (i : Nat) : Bool := decide (d ≤ dayP ((L.getD i (0, 0)).2 - 1))
def ndB (L : List (Int × Int)) (d : Int) (i : Nat) : Bool := decide (d < dayP (L.getD i (0, 0)).1)
theorem day_mono {a b : Int} (h : a ≤ b) : dayP a ≤ dayP b := by unfold dayP secP timeP; omega
theorem plain_get {L : List (Int × Int)} (h : PlainFrom 0 L) {i : Nat} (hi : i < L.length) : 0 ≤ (L.getD i (0, 0)).1 ∧ (L.getD i (0, 0)).1 < (L.getD i (0, 0)).2 ∧ (L.getD i (0, 0)).2 ≤ 32054400 :=
  (plain_pairs.1 h).1 _ (by simp [List.getD, hi])
theorem bplain_lt {L : List (Int × Int)} (h : PlainFrom 0 L) {i j : Nat} (hij : i < j) (hj : j < L.length) : (L.getD i (0, 0)).2 < (L.getD j (0, 0)).1 := by
  have := List.pairwise_iff_getElem.1 (plain_pairs.1 h).2 i j (by omega) hj hij
  simpa [List.getD, hj, show i < L.length by omega] using this
theorem ndA_mono {L : List (Int × Int)} (h : PlainFrom 0 L) (d : Int) {i j : Nat} (hij : i ≤ j) (hj : j < L.length) (ha : ndA L d i = true) : ndA L d j = true := by
  rcases Nat.eq_or_lt_of_le hij with rfl | hlt
  · exact ha
  unfold ndA at ha ⊢
  rw [decide_eq_true_eq] at ha ⊢
  have h1 := bplain_lt h hlt hj
  have h2 := plain_get h hj
  have := day_mono (a := (L.getD i (0, 0)).2 - 1) (b := (L.getD j (0, 0)).2 - 1) (by omega)
  omega
theorem ndB_mono {L : List (Int × Int)} (h : PlainFrom 0 L) (d : Int) {i j : Nat} (hij : i ≤ j) (hj : j < L.length) (ha : ndB L d i = true) : ndB L d j = true := by
  rcases Nat.eq_or_lt_of_le hij with rfl | hlt
  · exact ha
  unfold ndB at ha ⊢
  rw [decide_eq_true_eq] at ha ⊢
  have h1 := bplain_lt h hlt hj
  have h2 := plain_get h (show i < L.length by omega)
  have := day_mono (a := (L.getD i (0, 0)).1) (b := (L.getD j (0, 0)).1) (by omega)
  omega
theorem ndAB {L : List (Int × Int)} (h : PlainFrom 0 L) (d : Int) {i : Nat} (hi : i < L.length) (hb : ndB L d i = true) : ndA L d i = true := by
  unfold ndA
  unfold ndB at hb
  rw [decide_eq_true_eq] at hb ⊢
  have h2 := plain_get h hi
  have := day_mono (a := (L.getD i (0, 0)).1) (b := (L.getD i (0, 0)).2 - 1) (by omega)
  omega
theorem near_le {L : List (Int × Int)} (h : PlainFrom 0 L) (d : Int) {a b : Nat} (ha : a ≤ L.length) (hb : b ≤ L.length) (h1 : ∀ i, i < a → ndA L d i = false) (h2 : ∀ i, b ≤ i → i < L.length → ndB L d i = true) : a ≤ b := by
  rcases Nat.lt_or_ge b a with hlt | hge
  · have e1 := h1 b hlt
    have e2 := ndAB h d (by omega) (h2 b (Nat.le_refl _) (by omega))
    rw [e1] at e2; cases e2
  · exact hge
theorem near_in {L : List (Int × Int)} (h : PlainFrom 0 L) (d : Int) {a b : Nat} (ha : a ≤ L.length) (hb : b ≤ L.length) (h1 : ∀ i, i < a → ndA L d i = false) (h2 : ∀ i, b ≤ i → i < L.length → ndB L d i = true)
    {t : Int} (ht : t / 86400 = d) : In ((L.take b).drop a) t ↔ In L t := by
  constructor
  · rintro ⟨s, hs, q⟩
    exact ⟨s, List.mem_of_mem_take (List.mem_of_mem_drop hs), q⟩
  · rintro ⟨s, hs, q1, q2⟩
    obtain ⟨i, hi, rfl⟩ := List.mem_iff_getElem.1 hs
    have e : L.getD i (0, 0) = L[i] := by simp [List.getD, hi]
    have hp := plain_get h hi
    rw [e] at hp
    have hia : a ≤ i := by
      rcases Nat.lt_or_ge i a with hlt | hge
      · have := h1 i hlt
        unfold ndA at this
        rw [decide_eq_false_iff_not, e] at this
        exfalso; apply this
        have k := day_mono (a := t) (b := L[i].2 - 1) (by omega)
        have k2 : dayP t = d := by unfold dayP; rw [sec_in (by omega) (by omega)]; exact ht
        omega
      · exact hge
    have hib : i < b := by
      rcases Nat.lt_or_ge i b with hlt | hge
      · exact hlt
      · have := h2 i hge hi
        unfold ndB at this
        rw [decide_eq_true_eq, e] at this
        have k := day_mono (a := L[i].1) (b := t) (by omega)
        have k2 : dayP t = d := by unfold dayP; rw [sec_in (by omega) (by omega)]; exact ht
        omega
    refine ⟨L[i], ?_, q1, q2⟩
    rw [List.mem_drop_iff_getElem]
    refine ⟨i - a, by rw [List.length_take]; omega, ?_⟩
    rw [List.getElem_take]
    congr 1
    omega
/-! ### The lists of a day -/
theorem brk_fill : ∀ {l : List (Int × Int)} {a B : Int}, PlainFrom a l → (∀ s ∈ l, s.2 ≤ B) → a ≤ B + 1 → (l.length : Int) ≤ B + 1 - a
  | [], a, B, _, _, h => by simp; omega
  | s :: l, a, B, ⟨h1, h2, h3, h4⟩, hB, h => by
    have hs := hB s (by simp)
    have := brk_fill h4 (fun x hx => hB x (by simp [hx])) (by omega)
    simp only [List.length_cons]
    omega
theorem day_len {p : Int → Prop} {d : Int} (h : ∀ t, p t → t / 86400 = d) : (canon p).length ≤ 86401 := by
  have hp : PlainFrom 0 (canon p) := canon_plain _
  have hin : ∀ s ∈ canon p, 86400 * d ≤ s.1 ∧ s.2 ≤ 86400 * d + 86400 := fun s hs => by
    have h0 := (plain_pairs.1 hp).1 s hs
    have h1 := h _ ((canon_in p s.1).1 ⟨s, hs, by omega, by omega⟩).2.2
    have h2 := h _ ((canon_in p (s.2 - 1)).1 ⟨s, hs, by omega, by omega⟩).2.2
    omega
  have hp2 : PlainFrom (86400 * d) (canon p) := plain_pairs.2 ⟨fun s hs => by
    have h0 := (plain_pairs.1 hp).1 s hs
    have := hin s hs
    omega, (plain_pairs.1 hp).2⟩
  have := brk_fill hp2 (fun s hs => (hin s hs).2) (by omega)
  omega
section
variable {C R : Int → Prop} {pb af ab : Int}
/-- What parted tells of what is not paid. -/
noncomputable def unDay (C R : Int → Prop) (pb af ab d : Int) : List (Int × Int) := canon (unP (onDay C d) (onDay R d) pb af ab)
theorem paidDay_len (d : Int) : (paidDay C R pb af ab d).length ≤ 86401 := day_len (d := d) fun t h => h.1.2
theorem notDay_len (d : Int) : (notDay C R pb af ab d).length ≤ 86401 := day_len (d := d) fun t h => h.1.2
theorem unDay_not (h : ∀ t, R t → C t) (d : Int) : unDay C R pb af ab d = notDay C R pb af ab d :=
  canon_congr fun t _ _ => (not_un (C := onDay C d) (R := onDay R d) (fun t q => ⟨h t q.1, q.2⟩) t).symm
/-- The lists in turn: the day's clock and breaks; the first breaks; the others; what is no break; the last of it. -/
noncomputable def fstL (R : Int → Prop) (pb d : Int) : List (Int × Int) := canon (fstS (onDay R d) pb)
noncomputable def othL (R : Int → Prop) (pb d : Int) : List (Int × Int) := canon fun t => onDay R d t ∧ ¬ fstS (onDay R d) pb t
noncomputable def wrkL (C R : Int → Prop) (d : Int) : List (Int × Int) := canon fun t => onDay C d t ∧ ¬ onDay R d t
noncomputable def autL (C R : Int → Prop) (n d : Int) : List (Int × Int) := canon (lstS (fun t => onDay C d t ∧ ¬ onDay R d t) n)
theorem in_can {p : Int → Prop} {t : Int} (h0 : 0 ≤ t) (h1 : t < 32054400) : In (canon p) t ↔ p t := by rw [canon_in]; exact ⟨fun h => h.2.2, fun h => ⟨h0, h1, h⟩⟩
theorem cnt_can (p : Int → Prop) {n : Nat} (h : n ≤ 32054400) : cnt (In (canon p)) n = cnt p n := cnt_congr fun t h0 h1 => in_can h0 (by omega)
theorem sz_can (p : Int → Prop) : sz (In (canon p)) = sz p := cnt_can p (Nat.le_refl _)
theorem fst_list (n d : Int) : (canon fun t => In (ofDayP R d) t ∧ cnt (In (ofDayP R d)) t.toNat < n) = fstL R n d :=
  canon_congr fun t h0 h1 => by
    unfold ofDayP
    rw [in_can h0 h1, cnt_can _ (by omega)]
    exact Iff.rfl
theorem oth_list (n d : Int) : (canon fun t => In (ofDayP R d) t ∧ ¬ In (fstL R n d) t) = othL R n d :=
  canon_congr fun t h0 h1 => by
    unfold ofDayP fstL
    rw [in_can h0 h1, in_can h0 h1]
    exact Iff.rfl
theorem wrk_list (d : Int) : (canon fun t => In (ofDayP C d) t ∧ ¬ In (ofDayP R d) t) = wrkL C R d :=
  canon_congr fun t h0 h1 => by
    unfold ofDayP
    rw [in_can h0 h1, in_can h0 h1]
    exact Iff.rfl
theorem aut_list (n d : Int) : canon (lastP (wrkL C R d) n) = autL C R n d :=
  canon_congr fun t h0 h1 => by
    unfold lastP wrkL
    rw [in_can h0 h1, cnt_can _ (by omega), sz_can]
    exact Iff.rfl
theorem aut_none {n : Int} (d : Int) (h : n ≤ 0) : autL C R n d = [] := canon_none fun t h0 h1 q => by
  have k := q.2
  have := cnt_lt (p := fun t => onDay C d t ∧ ¬ onDay R d t) h0 h1 q.1
  omega
theorem un_yes {d : Int} (h : af ≤ sz (onDay C d)) {t : Int} (h0 : 0 ≤ t) (h1 : t < 32054400) : In (othL R pb d ++ autL C R (ab - sz (onDay R d)) d) t ↔ unP (onDay C d) (onDay R d) pb af ab t := by
  rw [in_append]
  unfold othL unP
  rw [in_can h0 h1]
  constructor
  · rintro (q | q)
    · exact .inl q
    · rcases Int.lt_or_le (sz (onDay R d)) ab with k | k
      · unfold autL at q
        rw [in_can h0 h1] at q
        exact .inr ⟨h, k, q⟩
      · rw [aut_none d (by omega)] at q
        exact absurd q (in_nil t)
  · rintro (q | ⟨q1, q2, q3⟩)
    · exact .inl q
    · refine .inr ?_
      unfold autL
      rw [in_can h0 h1]
      exact q3
theorem un_no {d : Int} (h : ¬ af ≤ sz (onDay C d)) {t : Int} (h0 : 0 ≤ t) (h1 : t < 32054400) : In (othL R pb d) t ↔ unP (onDay C d) (onDay R d) pb af ab t := by
  unfold othL unP
  rw [in_can h0 h1]
  exact ⟨fun q => .inl q, fun q => q.elim (fun z => z) (fun z => absurd z.1 h)⟩
theorem un_norm {U : List (Int × Int)} {d : Int} (h : ∀ t, 0 ≤ t → t < 32054400 → (In U t ↔ unP (onDay C d) (onDay R d) pb af ab t)) : canon (In U) = unDay C R pb af ab d := canon_congr h
theorem un_paid {U : List (Int × Int)} {d : Int} (h : ∀ t, 0 ≤ t → t < 32054400 → (In U t ↔ unP (onDay C d) (onDay R d) pb af ab t)) : (canon fun t => In (ofDayP C d) t ∧ ¬ In U t) = paidDay C R pb af ab d :=
  canon_congr fun t h0 h1 => by
    rw [h t h0 h1]
    unfold ofDayP
    rw [in_can h0 h1]
    exact Iff.rfl
end
theorem day_only {p : Int → Prop} (d : Int) : sz (In (ofDayP p d)) = sz (onDay p d) := sz_can _
/-! ### All days -/
theorem near_day {L M : List (Int × Int)} {d : Int} (h : ∀ t, t / 86400 = d → (In M t ↔ In L t)) : ∀ t, onDay (In M) d t ↔ onDay (In L) d t := fun t => by
  unfold onDay
  exact ⟨fun q => ⟨(h t q.2).1 q.1, q.2⟩, fun q => ⟨(h t q.2).2 q.1, q.2⟩⟩
theorem near_paid {L M K N : List (Int × Int)} {d pb af ab : Int} (h : ∀ t, t / 86400 = d → (In M t ↔ In L t)) (k : ∀ t, t / 86400 = d → (In N t ↔ In K t)) :
    paidDay (In M) (In N) pb af ab d = paidDay (In L) (In K) pb af ab d ∧ unDay (In M) (In N) pb af ab d = unDay (In L) (In K) pb af ab d := by
  have e1 : onDay (In M) d = onDay (In L) d := funext fun t => propext (near_day h t)
  have e2 : onDay (In N) d = onDay (In K) d := funext fun t => propext (near_day k t)
  unfold paidDay unDay
  rw [e1, e2]
  exact ⟨rfl, rfl⟩
/-- The first k of all days. -/
noncomputable def paidN (C R : Int → Prop) (pb af ab : Int) (k : Nat) : List (Int × Int) := (List.range k).flatMap fun d : Nat => paidDay C R pb af ab (d : Int)
noncomputable def notN (C R : Int → Prop) (pb af ab : Int) (k : Nat) : List (Int × Int) := (List.range k).flatMap fun d : Nat => notDay C R pb af ab (d : Int)
section
variable {C R : Int → Prop} {pb af ab : Int}
theorem paidN_snoc (k : Nat) : paidN C R pb af ab (k + 1) = paidN C R pb af ab k ++ paidDay C R pb af ab (k : Int) := by unfold paidN; rw [List.range_succ, List.flatMap_append]; simp
theorem notN_snoc (k : Nat) : notN C R pb af ab (k + 1) = notN C R pb af ab k ++ notDay C R pb af ab (k : Int) := by unfold notN; rw [List.range_succ, List.flatMap_append]; simp
theorem paidN_len : ∀ k, (paidN C R pb af ab k).length ≤ k * 86401
  | 0 => by simp [paidN]
  | k + 1 => by
    have := paidN_len k
    have := paidDay_len (C := C) (R := R) (pb := pb) (af := af) (ab := ab) (k : Int)
    rw [paidN_snoc, List.length_append]; omega
theorem notN_len : ∀ k, (notN C R pb af ab k).length ≤ k * 86401
  | 0 => by simp [notN]
  | k + 1 => by
    have := notN_len k
    have := notDay_len (C := C) (R := R) (pb := pb) (af := af) (ab := ab) (k : Int)
    rw [notN_snoc, List.length_append]; omega
theorem paidN_fits : ∀ k, Fits (paidN C R pb af ab k) := fun k x hx => by
  obtain ⟨d, _, h⟩ := List.mem_flatMap.1 hx
  exact Fits.canon _ x h
theorem notN_fits : ∀ k, Fits (notN C R pb af ab k) := fun k x hx => by
  obtain ⟨d, _, h⟩ := List.mem_flatMap.1 hx
  exact Fits.canon _ x h
theorem paidN_all : canon (In (paidN C R pb af ab 371)) = paidAll C R pb af ab :=
  canon_congr fun t a b => by
    unfold paidN
    constructor
    · rintro ⟨s, hs, h1, h2⟩
      obtain ⟨d, hd, hx⟩ := List.mem_flatMap.1 hs
      exact ((paid_day_iff _ t).1 ((canon_in _ t).1 ⟨s, hx, h1, h2⟩).2.2).1
    · intro q
      obtain ⟨s, hs, h1, h2⟩ := (canon_in (paidS (onDay C (t / 86400)) (onDay R (t / 86400)) pb af ab) t).2 ⟨a, b, (paid_day_iff _ t).2 ⟨q, rfl⟩⟩
      refine ⟨s, List.mem_flatMap.2 ⟨(t / 86400).toNat, List.mem_range.2 (by omega), ?_⟩, h1, h2⟩
      rw [show (((t / 86400).toNat : Nat) : Int) = t / 86400 by omega]
      exact hs
theorem notN_all : canon (In (notN C R pb af ab 371)) = notAll C R pb af ab :=
  canon_congr fun t a b => by
    unfold notN
    constructor
    · rintro ⟨s, hs, h1, h2⟩
      obtain ⟨d, hd, hx⟩ := List.mem_flatMap.1 hs
      exact ((not_day_iff _ t).1 ((canon_in _ t).1 ⟨s, hx, h1, h2⟩).2.2).1
    · intro q
      obtain ⟨s, hs, h1, h2⟩ := (canon_in (notS (onDay C (t / 86400)) (onDay R (t / 86400)) pb af ab) t).2 ⟨a, b, (not_day_iff _ t).2 ⟨q, rfl⟩⟩
      refine ⟨s, List.mem_flatMap.2 ⟨(t / 86400).toNat, List.mem_range.2 (by omega), ?_⟩, h1, h2⟩
      rw [show (((t / 86400).toNat : Nat) : Int) = t / 86400 by omega]
      exact hs
end
end Go.Proofs.YtdlimgpmmkcgmaaGreat

namespace Go.Proofs.YtdlimgpmmkcgmaaGreat
open Go.RowKit
set_option linter.unusedVariables false

theorem rsize_any (A : Option Addr) (cap : Nat) (xs : List (Int × Int)) (w : World) (hx : Spans w A xs) (hl : xs.length ≤ 100000000) :
    Calls Tryz.prog 40 #[.slice A xs.length cap] w fun e w' => e = .returned (.int .i64 (sz (In xs))) ∧ Below w.heap.size w w' := by
  rw [← szL_canon]
  have HP := Lib.hid (canon_plain (In xs))
  have hlen := canon_len (In xs)
  have hcon := rnorm_any A cap xs w hx hl
  generalize canon (In xs) = L at *
  clear hx
  go_enter Tryz.func40, Tryz.ntmps40
  go_wp2_with fail
  refine hcon.mono ?_
  rintro e w1 ⟨D, dc, rfl, hrow, hb1⟩
  have HS := Lib.hid (hrow.spans (.of_plain HP.out))
  clear hrow hcon
  go_wp2
  go_loopw [4, 5] (fun s i wr => ∃ (k : Nat), k ≤ L.length ∧ i = .int .i64 k ∧ s = .int .i64 (szL (L.take k)) ∧ Below w1.heap.size w1 wr) (fun _ i _ => L.length - (intOf i).toNat)
  case atStart => exact ⟨0, Nat.zero_le _, rfl, rfl, Below.refl _ _⟩
  case round =>
    obtain ⟨k, hk, rfl, rfl, hbw⟩ := hrel
    by_cases hlt : k < L.length
    · obtain ⟨b, off, rfl, hblt, c1, c2⟩ := (HS.out.below hbw).2 k hlt
      have HZ := plain_at HP.out hlt
      have HN := Lib.hid (szL_snoc L k hlt)
      have hb1' := szL_take k HP.out
      generalize L.getD k (0, 0) = z at *
      obtain ⟨p, q⟩ := z
      simp only [] at *
      generalize szL (L.take k) = s1 at *
      have i0 : (0 : Int) ≤ (k : Int) := by omega
      have i1 : (k : Int) < (L.length : Int) := by omega
      have w1' : IntKind.i64.wrap (s1 + q) = s1 + q := IntWalk.i64_in _ (by omega)
      have w2' : IntKind.i64.wrap (s1 + q - p) = s1 + q - p := IntWalk.i64_in _ (by omega)
      go_wp2
      go_quiet (fail)
      clear w1' w2'
      go_wp2
      go_roundw
      case rel => exact ⟨k + 1, by omega, by go_num, by rw [HN.out]; congr 1; omega, below_drewN hbw _⟩
      case measure => simp [intOf]; omega
    · obtain rfl : k = L.length := by omega
      go_wp2
      go_ret
      exact ⟨ret_one (by rw [List.take_length]), bel_on hb1 hbw⟩

theorem below_append (l m : List (Int × Int)) (h : Int) : below (l ++ m) h = below l h + below m h := by simp [below]
theorem below_snoc (l : List (Int × Int)) (k : Nat) (h : k < l.length) (t : Int) : below (l.take (k + 1)) t = below (l.take k) t + max 0 (min (l.getD k (0, 0)).2 t - (l.getD k (0, 0)).1) := by
  rw [List.take_succ_eq_append_getElem h, below_append]
  simp [List.getD, h, below]
theorem below_full : ∀ {l : List (Int × Int)} {t : Int}, (∀ s ∈ l, s.2 ≤ t ∧ s.1 ≤ s.2) → below l t = szL l
  | [], _, _ => rfl
  | s :: l, t, h => by
    have h1 := h s (by simp)
    rw [below_cons, szL_cons, below_full (fun x hx => h x (by simp [hx]))]; omega
theorem below_none : ∀ {l : List (Int × Int)} {t : Int}, (∀ s ∈ l, t ≤ s.1) → below l t = 0
  | [], _, _ => rfl
  | s :: l, t, h => by
    have h1 := h s (by simp)
    rw [below_cons, below_none (fun x hx => h x (by simp [hx]))]; omega
theorem below_mono : ∀ (l : List (Int × Int)) {t u : Int}, t ≤ u → below l t ≤ below l u
  | [], _, _, _ => by simp [below]
  | s :: l, t, u, h => by
    have := below_mono l h
    rw [below_cons, below_cons]; omega
theorem below_bd {l : List (Int × Int)} (h : PlainFrom 0 l) (k : Nat) (t : Int) : 0 ≤ below (l.take k) t ∧ below (l.take k) t ≤ 32054400 := by
  have h1 := plain_take k h
  have h2 := szL_take k h
  have key : ∀ {l : List (Int × Int)} {a : Int}, PlainFrom a l → 0 ≤ below l t ∧ below l t ≤ szL l := by
    intro l
    induction l with
    | nil => intro a _; simp [below, szL]
    | cons s l ih =>
      intro a hp
      have := ih hp.2.2.2
      have := hp.2.1
      rw [below_cons, szL_cons]; omega
  have := key h1
  omega
theorem below_split {P : List (Int × Int)} (h : PlainFrom 0 P) {k : Nat} (hk : k < P.length) {t : Int} (h1 : (P.getD k (0, 0)).1 ≤ t) (h2 : t ≤ (P.getD k (0, 0)).2) : below P t = szL (P.take k) + (t - (P.getD k (0, 0)).1) := by
  have e : P = P.take k ++ (P.getD k (0, 0) :: P.drop (k + 1)) := by
    rw [← drop_getD P k hk, List.take_append_drop]
  have hz := plain_at h hk
  have hp := plain_pairs.1 h
  have hw := hp.2
  rw [e] at hw
  obtain ⟨q1, q2, q3⟩ := List.pairwise_append.1 hw
  obtain ⟨q4, q5⟩ := List.pairwise_cons.1 q2
  conv => lhs; rw [e, below_append, below_cons]
  rw [below_full (fun s hs => ⟨by have := q3 s hs (P.getD k (0, 0)) (by simp); omega, by have := hp.1 s (List.mem_of_mem_take hs); omega⟩), below_none (fun s hs => by have := q4 s hs; omega)]
  omega

theorem rupto_any (A : Option Addr) (cap : Nat) (L : List (Int × Int)) (t : Int) (w : World) (hx : Spans w A L) (hP : PlainFrom 0 L) (ht : 0 ≤ t) (ht' : t ≤ 32054400) :
    Calls Tryz.prog 148 #[.slice A L.length cap, .int .i64 t] w fun e w' => e = .returned (.int .i64 (below L t)) ∧ Below w.heap.size w w' := by
  have HS := Lib.hid hx
  have HP := Lib.hid hP
  have hlen := plain_len hP (by omega)
  clear hx hP
  go_enter Tryz.func148, Tryz.ntmps148
  go_wp2
  go_loopw [5, 6] (fun s i wr => ∃ (k : Nat), k ≤ L.length ∧ i = .int .i64 k ∧ s = .int .i64 (below (L.take k) t) ∧ Below w.heap.size w wr) (fun _ i _ => L.length - (intOf i).toNat)
  case atStart => exact ⟨0, Nat.zero_le _, rfl, rfl, Below.refl _ _⟩
  case round =>
    obtain ⟨k, hk, rfl, rfl, hbw⟩ := hrel
    by_cases hlt : k < L.length
    · obtain ⟨b, off, rfl, hblt, c1, c2⟩ := (HS.out.below hbw).2 k hlt
      have HZ := plain_at HP.out hlt
      have HN := Lib.hid (below_snoc L k hlt t)
      have hb1' := below_bd HP.out k t
      generalize L.getD k (0, 0) = z at *
      obtain ⟨p, q⟩ := z
      simp only [] at *
      generalize below (L.take k) t = s1 at *
      have i0 : (0 : Int) ≤ (k : Int) := by omega
      have i1 : (k : Int) < (L.length : Int) := by omega
      have w1' : IntKind.i64.wrap (min q t - p) = min q t - p := IntWalk.i64_in _ (by omega)
      have w2' : IntKind.i64.wrap (s1 + max 0 (min q t - p)) = s1 + max 0 (min q t - p) := IntWalk.i64_in _ (by omega)
      go_wp2
      go_region
      clear w1' w2'
      all_goals
        go_wp2
        go_roundw
        case rel => exact ⟨k + 1, by omega, by go_num, by rw [HN.out], by (repeat' (first | with_reducible exact Below.refl _ _ | with_reducible assumption | with_reducible refine bel_alloc ?_ _ | with_reducible refine bel_set ?_ ?_ _ | with_reducible refine below_drewN ?_ _ | with_reducible refine below_drew ?_ | (simp; done) | (simp; omega) | omega))⟩
        case measure => simp [intOf]; omega
    · obtain rfl : k = L.length := by omega
      go_wp2
      go_ret
      exact ⟨ret_one (by rw [List.take_length]), hbw⟩

/-- v parts the seconds that have fewer than n ahead of them from the others. -/
def AtOK (P : List (Int × Int)) (n v : Int) : Prop := 0 ≤ v ∧ v ≤ 32054400 ∧ ∀ t, 0 ≤ t → t < 32054400 → (t < v ↔ below P t < n)
theorem at_hit {P : List (Int × Int)} (h : PlainFrom 0 P) {k : Nat} (hk : k < P.length) {n : Int} (h1 : szL (P.take k) < n) (h2 : n - szL (P.take k) ≤ (P.getD k (0, 0)).2 - (P.getD k (0, 0)).1) : AtOK P n ((P.getD k (0, 0)).1 + n - szL (P.take k)) := by
  have hz := plain_at h hk
  have e1 := below_split h hk (t := (P.getD k (0, 0)).1) (by omega) (by omega)
  have e2 := below_split h hk (t := (P.getD k (0, 0)).2) (by omega) (by omega)
  refine ⟨by omega, by omega, fun t q1 q2 => ?_⟩
  rcases Int.lt_or_le t (P.getD k (0, 0)).1 with c | c
  · have := below_mono P (Int.le_of_lt c); omega
  · rcases Int.lt_or_le (P.getD k (0, 0)).2 t with d | d
    · have := below_mono P (Int.le_of_lt d); omega
    · have := below_split h hk c d; omega
theorem at_none {P : List (Int × Int)} (h : PlainFrom 0 P) {n : Int} (h1 : szL P < n) : AtOK P n 32054400 := by
  refine ⟨by omega, by omega, fun t q1 q2 => ?_⟩
  have h2 := below_mono P (Int.le_of_lt q2)
  have h3 := below_top (h := 32054400) h (by omega)
  omega
theorem at_low {P : List (Int × Int)} (h : PlainFrom 0 P) {n : Int} (h1 : n < 1) : AtOK P n 0 := by
  refine ⟨by omega, by omega, fun t q1 q2 => ?_⟩
  have := (below_bd h P.length t).1
  rw [List.take_length] at this
  omega
def AtPost (w : World) (P : List (Int × Int)) (n : Int) (e : Ending) (w' : World) : Prop := ∃ v, e = .returned (.int .i64 v) ∧ AtOK P n v ∧ Below w.heap.size w w'

theorem rat_any (A : Option Addr) (cap : Nat) (L : List (Int × Int)) (n : Int) (w : World) (hx : Spans w A L) (hP : PlainFrom 0 L) (hn : Fit n) :
    Calls Tryz.prog 122 #[.slice A L.length cap, .int .i64 n] w (AtPost w L n) := by
  obtain ⟨hn1, hn2⟩ := hn
  by_cases h1 : n < 1
  · have HA := Lib.hid (at_low hP h1)
    go_enter Tryz.func122, Tryz.ntmps122
    go_wp2
    go_ret
    exact ⟨0, rfl, HA.out, Below.refl _ _⟩
  have HS := Lib.hid hx
  have HP := Lib.hid hP
  have hlen := plain_len hP (by omega)
  clear hx hP
  go_enter Tryz.func122, Tryz.ntmps122
  go_wp2
  go_loopw [5] (fun i wr => ∃ (k : Nat), k ≤ L.length ∧ i = .int .i64 k ∧ szL (L.take k) < n ∧ Below w.heap.size w wr) (fun i _ => L.length - (intOf i).toNat)
  case atStart => exact ⟨0, Nat.zero_le _, rfl, by show (0 : Int) < n; omega, Below.refl _ _⟩
  case round =>
    obtain ⟨k, hk, rfl, hsn, hbw⟩ := hrel
    by_cases hlt : k < L.length
    · obtain ⟨b, off, rfl, hblt, c1, c2⟩ := (HS.out.below hbw).2 k hlt
      have HZ := plain_at HP.out hlt
      have HN := Lib.hid (szL_snoc L k hlt)
      have HB := Lib.hid (below_split HP.out hlt (t := (L.getD k (0, 0)).1) (by omega) (by omega))
      have HH := Lib.hid (fun h => at_hit HP.out hlt hsn h)
      have hb1' := szL_take k HP.out
      have CU := Lib.hid (fun W (h : Spans W (some ⟨b, off, none⟩) L) => rupto_any (some ⟨b, off, none⟩) cap L (L.getD k (0, 0)).1 W h HP.out (by omega) (by omega))
      generalize L.getD k (0, 0) = z at *
      obtain ⟨p, q⟩ := z
      simp only [] at *
      generalize szL (L.take k) = s1 at *
      have i0 : (0 : Int) ≤ (k : Int) := by omega
      have i1 : (k : Int) < (L.length : Int) := by omega
      go_wp2_with fail
      refine (CU.out _ (HS.out.below hbw)).mono ?_
      rw [HB.out]
      rintro e w2 ⟨rfl, hb2⟩
      rw [show s1 + (p - p) = s1 by omega]
      have d1 := (hb2.cell hblt).trans c1
      have d2 := (hb2.cell hblt).trans c2
      replace hb2 := bel_on hbw hb2
      clear c1 c2 HB CU
      have w1' : IntKind.i64.wrap (n - s1) = n - s1 := IntWalk.i64_in _ (by omega)
      have w2' : IntKind.i64.wrap (q - p) = q - p := IntWalk.i64_in _ (by omega)
      by_cases hc : n - s1 ≤ q - p
      · have hd : decide (n - s1 ≤ q - p) = true := by simpa using hc
        go_wp2
        go_quiet (fail)
        clear w1' w2'
        have hv : p + n ≤ 9223372036854775807 := by omega
        go_wp2
        go_ret
        exact ⟨_, rfl, HH.out hc, below_drewN hb2 _⟩
      · have hd : decide (n - s1 ≤ q - p) = false := by simpa using hc
        go_wp2
        go_quiet (fail)
        clear w1' w2'
        go_wp2
        go_roundw
        case rel => exact ⟨k + 1, by omega, by go_num, by rw [HN.out]; omega, below_drewN hb2 _⟩
        case measure => simp [intOf]; omega
    · obtain rfl : k = L.length := by omega
      rw [List.take_length] at hsn
      have HH := Lib.hid (at_none HP.out hsn)
      go_wp2
      go_ret
      exact ⟨_, rfl, HH.out, hbw⟩
end Go.Proofs.YtdlimgpmmkcgmaaGreat

namespace Go.Proofs.YtdlimgpmmkcgmaaGreat
open Go.RowKit
set_option linter.unusedVariables false
set_option maxRecDepth 20000
set_option linter.unusedSimpArgs false

theorem at_canon {xs : List (Int × Int)} {n v : Int} (h : AtOK (canon (In xs)) n v) {t : Int} (h0 : 0 ≤ t) (h1 : t < 32054400) : In [(0, v)] t ↔ cnt (In xs) t.toNat < n := by
  have e := below_canon (In xs) t.toNat (by omega)
  rw [show ((t.toNat : Nat) : Int) = t by omega] at e
  rw [in_one, ← e, ← h.2.2 t h0 h1]
  exact ⟨fun q => q.2, fun q => ⟨h0, q⟩⟩

theorem rfirst_any (A : Option Addr) (cap : Nat) (xs : List (Int × Int)) (n : Int) (w : World) (hx : Spans w A xs) (hl : xs.length ≤ 100000000) (hn : Fit n) :
    Calls Tryz.prog 76 #[.slice A xs.length cap, .int .i64 n] w (Gives w (canon fun t => In xs t ∧ cnt (In xs) t.toNat < n)) := by
  have HX := Lib.hid hx
  have C1 := rnorm_any A cap xs w hx hl
  have HA := Lib.hid (fun v (h : AtOK (canon (In xs)) n v) => canon_congr (p := fun t => In xs t ∧ In [(0, v)] t) (q := fun t => In xs t ∧ cnt (In xs) t.toNat < n) (fun t a b => by rw [at_canon h a b]))
  have hP := canon_plain (In xs)
  clear hx
  generalize canon (fun t => In xs t ∧ cnt (In xs) t.toNat < n) = R at *
  generalize canon (In xs) = L at *
  go_enter Tryz.func76, Tryz.ntmps76
  go_wp2_with fail
  refine C1.mono ?_
  rintro e w1 ⟨D, d, rfl, hr1, hb1⟩
  go_wp2_with fail
  refine (rat_any D d L n w1 (hr1.spans (.of_plain hP)) hP hn).mono ?_
  rintro e w2 ⟨v, rfl, hv, hb2⟩
  replace hb2 := bel_on hb1 hb2
  have HE := Lib.hid (HA.out v hv)
  have hv2 : Fits [(0, v)] := fun x hx => by rw [List.mem_singleton.1 hx]; exact ⟨⟨by simp, by simp⟩, ⟨by have := hv.1; simp only []; omega, by have := hv.2.1; simp only []; omega⟩⟩
  have S2 := Lib.hid (spans_new w2 [(0, v)] 44 #[.int .i64 0, .int .i64 v] rfl hv2 rfl)
  have hb3 := bel_alloc hb2 (.cells #[.int .i64 0, .int .i64 v] 44)
  clear hv hr1 C1 HA
  go_wp2_with fail
  refine (rand_any A (some ⟨w2.heap.size, 0, none⟩) cap 1 xs [(0, v)] _ (HX.out.below hb3) S2.out hl (by simp)).mono ?_
  intro e w4 hg
  have HG := gives_bel hg hb3 HE.out
  clear hg
  obtain ⟨D4, d4, rfl, hr, hb⟩ := HG
  go_wp2
  go_ret
  exact ⟨D4, d4, rfl, hr, hb⟩

theorem rlast_any (A : Option Addr) (cap : Nat) (xs : List (Int × Int)) (n : Int) (w : World) (hx : Spans w A xs) (hl : xs.length ≤ 100000000) (hn : Fit n) :
    Calls Tryz.prog 121 #[.slice A xs.length cap, .int .i64 n] w (Gives w (canon (lastP xs n))) := by
  by_cases h1 : n < 1
  · have hE := Lib.hid (canon_none (p := lastP xs n) (fun t a b h => by have := cnt_lt a b h.1; have := h.2; omega))
    go_enter Tryz.func121, Tryz.ntmps121
    go_wp2
    go_ret
    exact gives_of (Row.nil _ _) hE.out.symm rfl (Below.refl _ _)
  have HX := Lib.hid hx
  have hs := sz_bound (In xs)
  have C0 := rsize_any A cap xs w hx hl
  have C1 := Lib.hid (fun W (h : Spans W A xs) => rnorm_any A cap xs W h hl)
  obtain ⟨hn1, hn2⟩ := hn
  by_cases h2 : sz (In xs) ≤ n
  · have hE : canon (In xs) = canon (lastP xs n) := canon_congr (fun t a b => ⟨fun h => ⟨h, by have := (cnt_bound (In xs) t.toNat).1; omega⟩, fun h => h.1⟩)
    have HE := Lib.hid hE
    clear hx hE
    generalize sz (In xs) = z at *
    go_enter Tryz.func121, Tryz.ntmps121
    go_wp2_with fail
    refine C0.mono ?_
    rintro e w1 ⟨rfl, hb1⟩
    go_wp2_with fail
    refine (C1.out _ (HX.out.below hb1)).mono ?_
    intro e w4 hg
    have HG := gives_bel hg hb1 HE.out
    clear hg
    obtain ⟨D4, d4, rfl, hr, hb⟩ := HG
    go_wp2
    go_ret
    exact ⟨D4, d4, rfl, hr, hb⟩
  · have HA := Lib.hid (fun v (h : AtOK (canon (In xs)) (sz (In xs) - n) v) => canon_congr (p := fun t => In xs t ∧ ¬ In [(0, v)] t) (q := lastP xs n) (fun t a b => by
      rw [at_canon h a b]
      unfold lastP
      constructor
      · rintro ⟨q1, q2⟩; exact ⟨q1, by omega⟩
      · rintro ⟨q1, q2⟩; exact ⟨q1, by omega⟩))
    have hP := canon_plain (In xs)
    clear hx
    generalize canon (lastP xs n) = R at *
    generalize canon (In xs) = L at *
    generalize sz (In xs) = z at *
    have hz : -9223372036854775808 ≤ z - n ∧ z - n ≤ 9223372036854775807 := by omega
    go_enter Tryz.func121, Tryz.ntmps121
    go_wp2_with fail
    refine C0.mono ?_
    rintro e w0 ⟨rfl, hb0⟩
    go_wp2_with fail
    refine (C1.out _ (HX.out.below hb0)).mono ?_
    rintro e w1 ⟨D, d, rfl, hr1, hb1⟩
    replace hb1 := bel_on hb0 hb1
    go_wp2_with fail
    refine (rat_any D d L (z - n) w1 (hr1.spans (.of_plain hP)) hP hz).mono ?_
    rintro e w2 ⟨v, rfl, hv, hb2⟩
    replace hb2 := bel_on hb1 hb2
    have HE := Lib.hid (HA.out v hv)
    have hv2 : Fits [(0, v)] := fun x hx => by rw [List.mem_singleton.1 hx]; exact ⟨⟨by simp, by simp⟩, ⟨by have := hv.1; simp only []; omega, by have := hv.2.1; simp only []; omega⟩⟩
    have S2 := Lib.hid (spans_new w2 [(0, v)] 44 #[.int .i64 0, .int .i64 v] rfl hv2 rfl)
    have hb3 := bel_alloc hb2 (.cells #[.int .i64 0, .int .i64 v] 44)
    clear hv hr1 C1 HA
    go_wp2_with fail
    refine (rminus_any A (some ⟨w2.heap.size, 0, none⟩) cap 1 xs [(0, v)] _ (HX.out.below hb3) S2.out hl (by simp)).mono ?_
    intro e w4 hg
    have HG := gives_bel hg hb3 HE.out
    clear hg
    obtain ⟨D4, d4, rfl, hr, hb⟩ := HG
    go_wp2
    go_ret
    exact ⟨D4, d4, rfl, hr, hb⟩

theorem same_any (A B : Option Addr) (ca cb : Nat) (xs : List (Int × Int)) (w : World) (ha : Spans w A xs) (hb : Spans w B xs) (hl : xs.length ≤ 100000000) :
    Calls Tryz.prog 16 #[.slice A xs.length ca, .slice B xs.length cb] w fun e w' => e = .returned (.bool true) ∧ Below w.heap.size w w' := by
  have HA := Lib.hid ha
  have HB := Lib.hid hb
  clear ha hb
  go_enter Tryz.func16, Tryz.ntmps16
  go_wp2
  go_loopw [5] (fun i wr => ∃ (k : Nat), k ≤ xs.length ∧ i = .int .i64 k ∧ Below w.heap.size w wr) (fun i _ => xs.length - (intOf i).toNat)
  case atStart => exact ⟨0, Nat.zero_le _, rfl, Below.refl _ _⟩
  case round =>
    obtain ⟨k, hk, rfl, hbw⟩ := hrel
    by_cases hlt : k < xs.length
    · obtain ⟨b, off, rfl, hblt, c1, c2⟩ := (HA.out.below hbw).2 k hlt
      obtain ⟨b', off', rfl, hblt', d1, d2⟩ := (HB.out.below hbw).2 k hlt
      generalize xs.getD k (0, 0) = z at *
      obtain ⟨p, q⟩ := z
      simp only [] at *
      have i0 : (0 : Int) ≤ (k : Int) := by omega
      have i1 : (k : Int) < (xs.length : Int) := by omega
      go_wp2
      go_quiet (fail)
      go_wp2
      go_roundw
      case rel => exact ⟨k + 1, by omega, by go_num, below_drewN hbw _⟩
      case measure => simp [intOf]; omega
    · obtain rfl : k = xs.length := by omega
      go_wp2
      go_ret
      exact ⟨rfl, hbw⟩

end Go.Proofs.YtdlimgpmmkcgmaaGreat
