/-
  The contracts of package num's functions: what each call answers, at every input; the world is left as it was, but for draws.
  Sets of seconds, continued: what two plain lists have in common, gone through once; what is between plain spans; how many there are; the first ones. No program here.
  Seconds by night: no program here.
  Times rounded, days and weeks: no program here.
-/
import Derived.Test.YtcefjnjlcpkanaaProg
import Derived.RowKit
import Derived.IntWalk
import Derived.Test.YtcefjnjlcpkanaaZaa
import Derived.WalkKit
import Derived.WalkLawsBesides
import Derived.Below
import Derived.RegionTactic
import Derived.Deep.QuietTactic
import Derived.BigQuiet
import Derived.Lib.Hide
import Derived.Test.YtcefjnjlcpkanaaZab
namespace Go.Proofs.Ytcefjnjlcpkanaa
open Go.RowKit

def sideV (n : Int) : Int := if n = -9223372036854775808 then 4611686018427387904 else if n < 0 then -n else n
theorem sideV_bd (n : Int) (h : -9223372036854775808 ≤ n) (h' : n ≤ 9223372036854775807) : 0 ≤ sideV n ∧ sideV n ≤ 9223372036854775807 := by
  unfold sideV; split <;> (try split) <;> omega

theorem side_any (n : Int) (w : World) (h1 : -9223372036854775808 ≤ n) (h2 : n ≤ 9223372036854775807) :
    Calls Try.prog 104 #[.int .i64 n] w fun e w' => e = .returned (.int .i64 (sideV n)) ∧ w = w' := by
  by_cases h : n = -9223372036854775808
  · subst h
    clear h1 h2
    go_enter Try.func104, Try.ntmps104
    go_wp2
    go_ret
    exact ⟨rfl, rfl⟩
  · have g : (n == -9223372036854775808) = false := by simpa using h
    have H := Lib.hid (show sideV n = if n < 0 then -n else n from if_neg h)
    by_cases h0 : n < 0
    · go_enter Try.func104, Try.ntmps104
      go_wp2
      go_ret
      exact ⟨ret_one (by rw [H.out, if_pos h0]), rfl⟩
    · go_enter Try.func104, Try.ntmps104
      go_wp2
      go_ret
      exact ⟨ret_one (by rw [H.out, if_neg (by omega)]), rfl⟩

theorem gcd_step {c d : Nat} {g : Int} (h : (Nat.gcd c d : Int) = g) : Hid ((Nat.gcd d (c % d) : Int) = g) := by
  show _ = _
  rw [← h, Nat.gcd_comm d, ← Nat.gcd_rec, Nat.gcd_comm]

def gcdV (a b : Int) : Int := Nat.gcd (sideV a).toNat (sideV b).toNat

theorem gcd_any (a b : Int) (w : World) (ha : -9223372036854775808 ≤ a) (ha' : a ≤ 9223372036854775807) (hb : -9223372036854775808 ≤ b) (hb' : b ≤ 9223372036854775807) :
    Calls Try.prog 93 #[.int .i64 a, .int .i64 b] w fun e w' => e = .returned (.int .i64 (gcdV a b)) ∧ ∃ n, w' = w.drewN n := by
  obtain ⟨p0, p1⟩ := sideV_bd a ha ha'
  obtain ⟨q0, q1⟩ := sideV_bd b hb hb'
  go_enter Try.func93, Try.ntmps93
  go_wp2_with fail
  refine (side_any _ _ ha ha').mono ?_
  rintro e w' ⟨rfl, rfl⟩
  go_wp2_with fail
  refine (side_any _ _ hb hb').mono ?_
  rintro e w' ⟨rfl, rfl⟩
  go_wp2
  go_loopw [0, 1] (fun x y wr => ∃ (c d n : Nat), c ≤ 9223372036854775807 ∧ d ≤ 9223372036854775807 ∧ x = .int .i64 c ∧ y = .int .i64 d ∧ Hid ((Nat.gcd c d : Int) = gcdV a b) ∧ wr = w.drewN n) (fun _ y _ => (intOf y).toNat)
  case atStart => exact ⟨(sideV a).toNat, (sideV b).toNat, 0, by omega, by omega, by rw [Int.toNat_of_nonneg p0], by rw [Int.toNat_of_nonneg q0], rfl, rfl⟩
  case round =>
    obtain ⟨c, d, n, hc, hd, rfl, rfl, hg, rfl⟩ := hrel
    by_cases h : d = 0
    · subst h
      go_wp2
      go_ret
      exact ⟨ret_one (by rw [← hg.out, Nat.gcd_zero_right]), n, rfl⟩
    · have hne : ((d : Int) != 0) = true := by simp; omega
      have hdp : 0 < d := by omega
      go_wp2
      go_quiet (fail)
      go_wp2
      go_roundw
      case rel => exact ⟨d, c % d, _, by omega, by have := Nat.mod_lt c hdp; omega, rfl, rfl, gcd_step hg.out, World.drewN_drewN _ _ _⟩
      case measure => simp [intOf]; have := Nat.mod_lt c hdp; omega

theorem take_snoc (xs : List Int) (k : Nat) (h : k < xs.length) : xs.take (k + 1) = xs.take k ++ [xs.getD k 0] := by
  rw [List.take_succ_eq_append_getElem h]; simp [List.getD, h]
end Go.Proofs.Ytcefjnjlcpkanaa

namespace Go.Proofs.Ytcefjnjlcpkanaa
set_option linter.unusedVariables false

/-- One part against plain spans: what is left of these, and what they have in common. -/
def stepW (p : Int × Int) : List (Int × Int) → List (Int × Int) × List (Int × Int)
  | [] => ([], [])
  | x :: l =>
    if x.1 < p.2 then
      if p.2 < x.2 then (x :: l, if max x.1 p.1 < min x.2 p.2 then [(max x.1 p.1, min x.2 p.2)] else [])
      else ((stepW p l).1, (if max x.1 p.1 < min x.2 p.2 then [(max x.1 p.1, min x.2 p.2)] else []) ++ (stepW p l).2)
    else (x :: l, [])

theorem seg_in (x p : Int × Int) (t : Int) : In (if max x.1 p.1 < min x.2 p.2 then [(max x.1 p.1, min x.2 p.2)] else []) t ↔ (x.1 ≤ t ∧ t < x.2) ∧ (p.1 ≤ t ∧ t < p.2) := by
  split
  · rw [in_one]; simp only []; omega
  · simp only [in_nil, false_iff]; omega

/-- Behind the part's end all is left; what they have in common is plain, ends at the part's end at most. -/
theorem stepW_spec (p : Int × Int) (hp : p.1 < p.2) (hpm : p.2 ≤ 32054400) : ∀ (l : List (Int × Int)) (a : Int), PlainFrom a l →
    PlainFrom a (stepW p l).1 ∧ (∀ lo, lo ≤ p.1 → PlainFrom lo (stepW p l).2) ∧ PlainFrom a (stepW p l).2 ∧ (∀ x ∈ (stepW p l).2, x.2 ≤ p.2) ∧ (∀ t, In (stepW p l).2 t ↔ In l t ∧ p.1 ≤ t ∧ t < p.2) ∧ (∀ t, p.2 ≤ t → (In (stepW p l).1 t ↔ In l t)) ∧ (∀ t, In (stepW p l).1 t → In l t)
  | [], a, h => by simp [stepW, PlainFrom, in_nil]
  | x :: l, a, h => by
    obtain ⟨h1, h2, h3, h4⟩ := h
    obtain ⟨i1, i0, i2, i3, i4, i5, i6⟩ := stepW_spec p hp hpm l _ h4
    unfold stepW
    by_cases hx : x.1 < p.2
    · rw [if_pos hx]
      by_cases hx2 : p.2 < x.2
      · rw [if_pos hx2]
        refine ⟨⟨h1, h2, h3, h4⟩, fun lo hlo => ?_, ?_, ?_, fun t => ?_, fun t _ => Iff.rfl, fun t ht => ht⟩
        · split
          · exact ⟨by simp; omega, by simp; omega, by simp; omega, trivial⟩
          · trivial
        · split
          · exact ⟨by simp; omega, by simp; omega, by simp; omega, trivial⟩
          · trivial
        · split
          · intro y hy; rw [List.mem_singleton.1 hy]; simp; omega
          · intro y hy; cases hy
        · rw [seg_in, in_cons]
          constructor
          · rintro ⟨q, r⟩; exact ⟨.inl q, r⟩
          · rintro ⟨q | q, r⟩
            · exact ⟨q, r⟩
            · have := h4.bound q; omega
      · rw [if_neg hx2]
        refine ⟨i1.mono (by omega), fun lo hlo => ?_, ?_, ?_, fun t => ?_, fun t ht => ?_, fun t ht => ?_⟩
        · split
          · refine ⟨by simp; omega, by simp; omega, by simp; omega, i2.mono (by simp; omega)⟩
          · exact i0 lo hlo
        · split
          · refine ⟨by simp; omega, by simp; omega, by simp; omega, i2.mono (by simp; omega)⟩
          · exact i2.mono (by omega)
        · intro y hy
          rcases List.mem_append.1 hy with hy | hy
          · split at hy
            · rw [List.mem_singleton.1 hy]; simp; omega
            · cases hy
          · exact i3 y hy
        · rw [in_append, seg_in, in_cons, i4]
          constructor
          · rintro (⟨q, r⟩ | ⟨q, r⟩)
            · exact ⟨.inl q, r⟩
            · exact ⟨.inr q, r⟩
          · rintro ⟨q | q, r⟩
            · exact .inl ⟨q, r⟩
            · exact .inr ⟨q, r⟩
        · rw [i5 t ht, in_cons]
          constructor
          · exact .inr
          · rintro (q | q)
            · omega
            · exact q
        · rw [in_cons]; exact .inr (i6 t ht)
    · rw [if_neg hx]
      refine ⟨⟨h1, h2, h3, h4⟩, fun _ _ => trivial, trivial, fun y hy => (by cases hy), fun t => ?_, fun t _ => Iff.rfl, fun t ht => ht⟩
      simp only [in_nil, false_iff]
      rintro ⟨q, r⟩
      rcases (in_cons _ _ _).1 q with q | q
      · omega
      · have := h4.bound q; omega

/-- Parts, one behind the other: what is left, and what has been found. -/
def runW (l : List (Int × Int)) (ps : List (Int × Int)) : List (Int × Int) × List (Int × Int) :=
  ps.foldl (fun s p => ((stepW p s.1).1, s.2 ++ (stepW p s.1).2)) (l, [])
theorem runW_snoc (l pre : List (Int × Int)) (x : Int × Int) : runW l (pre ++ [x]) = ((stepW x (runW l pre).1).1, (runW l pre).2 ++ (stepW x (runW l pre).1).2) := by
  unfold runW; rw [List.foldl_append]; rfl
theorem runW_stop {l pre ps : List (Int × Int)} (hpre : pre <+: ps) (h : (runW l pre).1 = []) : runW l ps = runW l pre := by
  obtain ⟨rest, rfl⟩ := hpre
  have key : ∀ (rest : List (Int × Int)) (s : List (Int × Int) × List (Int × Int)), s.1 = [] → rest.foldl (fun s p => ((stepW p s.1).1, s.2 ++ (stepW p s.1).2)) s = s := by
    intro rest
    induction rest with
    | nil => intro s _; rfl
    | cons r rest ih =>
      intro s hs
      rw [List.foldl_cons, ih _ (by rw [hs]; rfl), hs]
      obtain ⟨s1, s2⟩ := s
      simp only at hs
      subst hs
      simp [stepW]
  show List.foldl _ _ (pre ++ rest) = _
  rw [List.foldl_append]
  exact key rest _ h

/-- What is found, of plain spans, and plain parts. -/
theorem runW_spec (l : List (Int × Int)) (hl : PlainFrom 0 l) : ∀ (n : Nat) (ps : List (Int × Int)), ps.length = n → PlainFrom 0 ps →
    PlainFrom 0 (runW l ps).1 ∧ PlainFrom 0 (runW l ps).2 ∧ (∀ t, In (runW l ps).2 t ↔ In l t ∧ In ps t) ∧ (∀ t, (∀ x ∈ ps, x.2 ≤ t) → (In (runW l ps).1 t ↔ In l t)) ∧ (∀ t, In (runW l ps).1 t → In l t) ∧ (∀ y ∈ (runW l ps).2, ∃ x ∈ ps, y.2 ≤ x.2)
  | 0, ps, hn, h => by
    obtain rfl : ps = [] := List.eq_nil_of_length_eq_zero hn
    simp [runW, PlainFrom, in_nil, hl]
  | n + 1, ps, hn, h => by
    obtain ⟨pre, x, rfl⟩ : ∃ pre x, ps = pre ++ [x] := ⟨ps.dropLast, ps.getLast (by intro e; simp [e] at hn), (List.dropLast_concat_getLast _).symm⟩
    obtain ⟨h1, h2, h3, h4, h5⟩ := plain_unsnoc h
    obtain ⟨i1, i2, i3, i4, i5, i6⟩ := runW_spec l hl n pre (by simpa using hn) h1
    obtain ⟨s1, s0, s2, s3, s4, s5, s6⟩ := stepW_spec x h4 h5 _ 0 i1
    rw [runW_snoc]
    refine ⟨s1, ?_, fun t => ?_, fun t ht => ?_, fun t ht => i5 t (s6 t ht), fun y hy => ?_⟩
    · rw [plain_pairs] at i2 ⊢
      have q := plain_pairs.1 (s0 x.1 (Int.le_refl _))
      refine ⟨fun y hy => ?_, List.pairwise_append.2 ⟨i2.2, q.2, fun y hy z hz => ?_⟩⟩
      · rcases List.mem_append.1 hy with hy | hy
        · exact i2.1 y hy
        · have := q.1 y hy; omega
      · obtain ⟨u, hu, hle⟩ := i6 y hy
        have := h2 u hu
        have := q.1 z hz
        omega
    · rw [in_append, in_append, in_one, s4, i3]
      constructor
      · rintro (⟨a, b⟩ | ⟨a, b⟩)
        · exact ⟨a, .inl b⟩
        · exact ⟨i5 t a, .inr b⟩
      · rintro ⟨a, b | b⟩
        · exact .inl ⟨a, b⟩
        · exact .inr ⟨(i4 t (fun u hu => by have := h2 u hu; omega)).2 a, b⟩
    · have hx := ht x (by simp)
      rw [s5 t hx]
      exact i4 t (fun u hu => ht u (by simp [hu]))
    · rcases List.mem_append.1 hy with hy | hy
      · obtain ⟨u, hu, hle⟩ := i6 y hy
        exact ⟨u, by simp [hu], hle⟩
      · exact ⟨x, by simp, s3 y hy⟩
theorem runW_canon {l ps : List (Int × Int)} (hl : PlainFrom 0 l) (hp : PlainFrom 0 ps) : (runW l ps).2 = canon (fun t => In l t ∧ In ps t) := by
  obtain ⟨i1, i2, i3, _⟩ := runW_spec l hl _ ps rfl hp
  exact canon_eq i2 (fun t => by
    rw [i3]
    exact ⟨fun h => ⟨(hl.bound h.1).1, (hl.bound h.1).2, h⟩, fun h => h.2.2⟩)

/-- What is between plain spans, from a number on. -/
def gapsL : Int → List (Int × Int) → List (Int × Int)
  | a, [] => if a < 32054400 then [(a, 32054400)] else []
  | a, s :: l => if a < s.1 then (a, s.1) :: gapsL s.2 l else gapsL s.2 l
theorem gapsL_spec : ∀ (l : List (Int × Int)) (a : Int), PlainFrom a l → a ≤ 32054400 → PlainFrom a (gapsL a l) ∧ ∀ t, In (gapsL a l) t ↔ a ≤ t ∧ t < 32054400 ∧ ¬ In l t
  | [], a, h, ha => by
    unfold gapsL
    split
    · refine ⟨⟨by simp, by simpa, by simp, trivial⟩, fun t => ?_⟩
      rw [in_one]; simp [in_nil]
    · refine ⟨trivial, fun t => ?_⟩
      simp only [in_nil, false_iff]; omega
  | s :: l, a, ⟨h1, h2, h3, h4⟩, ha => by
    obtain ⟨i1, i2⟩ := gapsL_spec l s.2 (h4.mono (by omega)) h3
    have key : ∀ t, s.2 ≤ t → (In (s :: l) t ↔ In l t) := fun t ht => by
      rw [in_cons]
      constructor
      · rintro (q | q)
        · omega
        · exact q
      · exact .inr
    have low : ∀ t, In l t → s.2 < t := fun t ht => by have := h4.bound ht; omega
    unfold gapsL
    split
    · rename_i hlt
      refine ⟨⟨by simp, by simpa, by simp; omega, i1.mono (by simp; omega)⟩, fun t => ?_⟩
      rw [in_cons, i2]
      constructor
      · rintro (⟨q1, q2⟩ | ⟨q1, q2, q3⟩)
        · simp only [] at q1 q2
          refine ⟨q1, by omega, fun hi => ?_⟩
          rcases (in_cons _ _ _).1 hi with hi | hi
          · omega
          · have := low t hi; omega
        · exact ⟨by omega, q2, fun hi => q3 ((key t q1).1 hi)⟩
      · rintro ⟨q1, q2, q3⟩
        rcases Int.lt_or_le t s.1 with q | q
        · exact .inl ⟨q1, q⟩
        · have : s.2 ≤ t := by
            rcases Int.lt_or_le t s.2 with q' | q'
            · exact absurd ((in_cons _ _ _).2 (.inl ⟨q, q'⟩)) q3
            · exact q'
          exact .inr ⟨this, q2, fun hi => q3 ((key t this).2 hi)⟩
    · rename_i hlt
      refine ⟨i1.mono (by omega), fun t => ?_⟩
      rw [i2]
      constructor
      · rintro ⟨q1, q2, q3⟩
        exact ⟨by omega, q2, fun hi => q3 ((key t q1).1 hi)⟩
      · rintro ⟨q1, q2, q3⟩
        have : s.2 ≤ t := by
          rcases Int.lt_or_le t s.2 with q' | q'
          · exact absurd ((in_cons _ _ _).2 (.inl ⟨by omega, q'⟩)) q3
          · exact q'
        exact ⟨this, q2, fun hi => q3 ((key t this).2 hi)⟩
theorem gapsL_len : ∀ (l : List (Int × Int)) (a : Int), (gapsL a l).length ≤ l.length + 1
  | [], a => by unfold gapsL; split <;> simp
  | s :: l, a => by
    have := gapsL_len l s.2
    unfold gapsL
    split <;> simp <;> omega

/-- How many numbers below n are p's. -/
noncomputable def cnt (p : Int → Prop) : Nat → Int
  | 0 => 0
  | n + 1 => cnt p n + (open Classical in if p n then 1 else 0)
theorem cnt_succ (p : Int → Prop) (n : Nat) : cnt p (n + 1) = cnt p n + (open Classical in if p n then 1 else 0) := rfl
theorem cnt_yes {p : Int → Prop} {n : Nat} (h : p n) : cnt p (n + 1) = cnt p n + 1 := by rw [cnt_succ, if_pos h]
theorem cnt_no {p : Int → Prop} {n : Nat} (h : ¬ p n) : cnt p (n + 1) = cnt p n := by rw [cnt_succ, if_neg h]; omega
theorem cnt_congr {p q : Int → Prop} : ∀ {n : Nat}, (∀ t : Int, 0 ≤ t → t < n → (p t ↔ q t)) → cnt p n = cnt q n
  | 0, _ => rfl
  | n + 1, h => by
    have ih := cnt_congr (p := p) (q := q) (n := n) (fun t a b => h t a (by omega))
    by_cases hp : p n
    · rw [cnt_yes hp, cnt_yes ((h n (by omega) (by omega)).1 hp), ih]
    · rw [cnt_no hp, cnt_no (fun hq => hp ((h n (by omega) (by omega)).2 hq)), ih]
theorem cnt_all {p : Int → Prop} {n : Nat} : ∀ k : Nat, (∀ t : Int, n ≤ t → t < n + k → p t) → cnt p (n + k) = cnt p n + k
  | 0, _ => by simp
  | k + 1, h => by
    rw [← Nat.add_assoc, cnt_yes (h _ (by omega) (by omega)), cnt_all k (fun t a b => h t a (by omega))]; omega
theorem cnt_gap {p : Int → Prop} {n : Nat} : ∀ k : Nat, (∀ t : Int, n ≤ t → t < n + k → ¬ p t) → cnt p (n + k) = cnt p n
  | 0, _ => by simp
  | k + 1, h => by
    rw [← Nat.add_assoc, cnt_no (h _ (by omega) (by omega)), cnt_gap k (fun t a b => h t a (by omega))]
/-- How many numbers of plain spans are below h. -/
def below (l : List (Int × Int)) (h : Int) : Int := (l.map fun s => max 0 (min s.2 h - s.1)).sum
/-- How many numbers plain spans have. -/
def szL (l : List (Int × Int)) : Int := (l.map fun s => s.2 - s.1).sum
theorem below_cons (s : Int × Int) (l : List (Int × Int)) (h : Int) : below (s :: l) h = max 0 (min s.2 h - s.1) + below l h := by simp [below]
theorem szL_cons (s : Int × Int) (l : List (Int × Int)) : szL (s :: l) = (s.2 - s.1) + szL l := by simp [szL]
theorem below_zero : ∀ {l : List (Int × Int)} {a h : Int}, PlainFrom a l → h ≤ a → below l h = 0
  | [], _, _, _, _ => rfl
  | s :: l, a, h, ⟨h1, h2, h3, h4⟩, hh => by rw [below_cons, below_zero h4 (by omega)]; omega
theorem below_top : ∀ {l : List (Int × Int)} {a h : Int}, PlainFrom a l → 32054400 ≤ h → below l h = szL l
  | [], _, _, _, _ => rfl
  | s :: l, a, h, ⟨h1, h2, h3, h4⟩, hh => by rw [below_cons, szL_cons, below_top h4 hh]; omega
theorem below_cnt : ∀ {l : List (Int × Int)} {a : Int} (h : Nat) (p : Int → Prop), PlainFrom a l → 0 ≤ a → a ≤ h → h ≤ 32054400 → (∀ t, a ≤ t → t < h → (p t ↔ In l t)) → cnt p h = cnt p a.toNat + below l h
  | [], a, h, p, _, h0, ha, hm, hp => by
    have := cnt_gap (p := p) (n := a.toNat) (h - a.toNat) (fun t q1 q2 => by rw [hp t (by omega) (by omega)]; exact in_nil _)
    rw [show a.toNat + (h - a.toNat) = h by omega] at this
    rw [this]; simp [below]
  | s :: l, a, h, p, ⟨h1, h2, h3, h4⟩, h0, ha, hm, hp => by
    have low : ∀ t, In l t → s.2 < t := fun t ht => by have := h4.bound ht; omega
    have n1 : ∀ t, a ≤ t → t < h → t < s.1 → ¬ p t := fun t q1 q2 q3 => by
      rw [hp t q1 q2, in_cons]
      rintro (q | q)
      · omega
      · have := low t q; omega
    rcases Int.lt_or_le h s.1 with c | c
    · have := cnt_gap (p := p) (n := a.toNat) (h - a.toNat) (fun t q1 q2 => n1 t (by omega) (by omega) (by omega))
      rw [show a.toNat + (h - a.toNat) = h by omega] at this
      rw [this, below_cons, below_zero h4 (by omega)]; omega
    · have e1 := cnt_gap (p := p) (n := a.toNat) (s.1.toNat - a.toNat) (fun t q1 q2 => n1 t (by omega) (by omega) (by omega))
      rw [show a.toNat + (s.1.toNat - a.toNat) = s.1.toNat by omega] at e1
      rcases Int.lt_or_le h s.2 with d | d
      · have e2 := cnt_all (p := p) (n := s.1.toNat) (h - s.1.toNat) (fun t q1 q2 => by rw [hp t (by omega) (by omega), in_cons]; exact .inl ⟨by omega, by omega⟩)
        rw [show s.1.toNat + (h - s.1.toNat) = h by omega] at e2
        rw [e2, e1, below_cons, below_zero h4 (by omega)]; omega
      · have e2 := cnt_all (p := p) (n := s.1.toNat) (s.2.toNat - s.1.toNat) (fun t q1 q2 => by rw [hp t (by omega) (by omega), in_cons]; exact .inl ⟨by omega, by omega⟩)
        rw [show s.1.toNat + (s.2.toNat - s.1.toNat) = s.2.toNat by omega] at e2
        have e3 := below_cnt (l := l) (a := s.2) h p (h4.mono (by omega)) (by omega) d hm (fun t q1 q2 => by
          rw [hp t (by omega) q2, in_cons]
          constructor
          · rintro (q | q)
            · omega
            · exact q
          · exact .inr)
        rw [e3, e2, e1, below_cons]; omega
theorem below_canon (p : Int → Prop) (h : Nat) (hh : h ≤ 32054400) : below (canon p) h = cnt p h := by
  have := below_cnt (l := canon p) (a := 0) h p (canon_plain p) (by omega) (by omega) hh (fun t a b => by rw [canon_in]; exact ⟨fun q => ⟨by omega, by omega, q⟩, fun q => q.2.2⟩)
  rw [this]; simp [cnt]
/-- How many seconds a set has. -/
noncomputable def sz (p : Int → Prop) : Int := cnt p 32054400
theorem szL_canon (p : Int → Prop) : szL (canon p) = sz p := by
  rw [← below_top (h := ((32054400 : Nat) : Int)) (canon_plain p) (by omega), below_canon p _ (Nat.le_refl _)]; rfl
theorem sz_congr {p q : Int → Prop} (h : ∀ t, 0 ≤ t → t < 32054400 → (p t ↔ q t)) : sz p = sz q := cnt_congr (fun t a b => h t a (by omega))
theorem plain_len : ∀ {l : List (Int × Int)} {a : Int}, PlainFrom a l → a ≤ 32054401 → (l.length : Int) ≤ 32054401 - a
  | [], a, _, h => by simp; omega
  | s :: l, a, ⟨h1, h2, h3, h4⟩, h => by
    have := plain_len h4 (by omega)
    simp; omega
theorem canon_len (p : Int → Prop) : (canon p).length ≤ 32054401 := by have := plain_len (canon_plain p) (by omega); omega
end Go.Proofs.Ytcefjnjlcpkanaa

namespace Go.Proofs.Ytcefjnjlcpkanaa
set_option linter.unusedVariables false
set_option linter.unusedSimpArgs false

/-- By night, of a night from f to g. -/
def nightP (f g t : Int) : Prop := if g < f then f ≤ t % 86400 ∨ t % 86400 < g else f ≤ t % 86400 ∧ t % 86400 < g
instance (f g t : Int) : Decidable (nightP f g t) := by unfold nightP; infer_instance
theorem night_turned {f g : Int} (h : f ≠ g) (t : Int) : nightP g f t ↔ ¬ nightP f g t := by
  unfold nightP
  by_cases h1 : g < f
  · rw [if_neg (by omega), if_pos h1]; omega
  · rw [if_pos (by omega), if_neg h1]; omega
theorem night_none (f t : Int) : ¬ nightP f f t := by
  unfold nightP
  rw [if_neg (by omega)]; omega
theorem night_later (f g t d : Int) : nightP f g (t + d * 86400) ↔ nightP f g t := by
  have e : (t + d * 86400) % 86400 = t % 86400 := by omega
  unfold nightP
  rw [e]
/-- Up to the next place where a night begins, or ends, or a day, nothing changes. -/
theorem night_still {f g t u : Int} (h0 : t ≤ u) (h1 : u < t - t % 86400 + 86400) (hf : t < t - t % 86400 + f → u < t - t % 86400 + f) (hg : t < t - t % 86400 + g → u < t - t % 86400 + g) : nightP f g u ↔ nightP f g t := by
  have e : u % 86400 = u - t + t % 86400 := by omega
  unfold nightP
  rw [e]
  split <;> omega
/-! ### Spans moved -/
def laterL (b : Int) (l : List (Int × Int)) : List (Int × Int) := l.map fun x => (x.1 + b, x.2 + b)
theorem later_in (b : Int) (l : List (Int × Int)) (t : Int) : In (laterL b l) t ↔ In l (t - b) := by
  unfold In laterL
  constructor
  · rintro ⟨s, hs, h1, h2⟩
    obtain ⟨x, hx, rfl⟩ := List.mem_map.1 hs
    exact ⟨x, hx, by simp at h1; omega, by simp at h2; omega⟩
  · rintro ⟨x, hx, h1, h2⟩
    exact ⟨_, List.mem_map.2 ⟨x, hx, rfl⟩, by simp; omega, by simp; omega⟩
theorem later_plain_aux {b : Int} : ∀ {l : List (Int × Int)} {a : Int}, PlainFrom a l → (∀ x ∈ l, x.2 + b ≤ 32054400) → PlainFrom (a + b) (laterL b l)
  | [], _, _, _ => trivial
  | x :: l, a, h, hl => by
    obtain ⟨h1, h2, h3, h4⟩ := h
    have hx := hl x (by simp)
    refine ⟨by simp; omega, by simp; omega, by simp; omega, ?_⟩
    exact (later_plain_aux h4 (fun y hy => hl y (by simp [hy]))).mono (by simp; omega)
theorem later_plain {b : Int} (hb : 0 ≤ b) {l : List (Int × Int)} {a : Int} (h : PlainFrom a l) (hl : ∀ x ∈ l, x.2 + b ≤ 32054400) : PlainFrom a (laterL b l) := (later_plain_aux h hl).mono (by omega)
theorem canon_to {p : Int → Prop} {B : Int} (hB : ∀ t, 0 ≤ t → t < 32054400 → p t → t < B) : ∀ x ∈ canon p, x.2 ≤ B := fun x hx => by
  obtain ⟨h1, h2⟩ := (plain_pairs.1 (canon_plain p)).1 x hx
  have hi : In (canon p) (x.2 - 1) := ⟨x, hx, by omega, by omega⟩
  have := (canon_in p _).1 hi
  have := hB _ this.1 this.2.1 this.2.2
  omega
/-- So much later. -/
theorem canon_later {p q : Int → Prop} {B b : Int} (hb : 0 ≤ b) (hB : ∀ t, 0 ≤ t → t < 32054400 → p t → t < B) (hBb : B + b ≤ 32054400) (h : ∀ t, 0 ≤ t → t < 32054400 → (q t ↔ 0 ≤ t - b ∧ p (t - b))) : canon q = laterL b (canon p) := by
  refine (canon_eq (later_plain hb (canon_plain p) (fun x hx => by have := canon_to hB x hx; omega)) (fun t => ?_)).symm
  rw [later_in, canon_in]
  constructor
  · rintro ⟨h1, h2, h3⟩
    have := hB _ h1 h2 h3
    exact ⟨by omega, by omega, (h t (by omega) (by omega)).2 ⟨h1, h3⟩⟩
  · rintro ⟨h1, h2, h3⟩
    obtain ⟨k1, k2⟩ := (h t h1 h2).1 h3
    exact ⟨k1, by omega, k2⟩
/-! ### How many -/
def eachP (f g : Int) : Int := if g - f < 0 then g - f + 86400 else g - f
theorem cnt_days {f g : Int} (hf : 0 ≤ f ∧ f ≤ 86400) (hg : 0 ≤ g ∧ g ≤ 86400) : ∀ k : Nat, cnt (nightP f g) (86400 * k) = k * eachP f g
  | 0 => by simp [cnt]
  | k + 1 => by
    have ih := cnt_days hf hg k
    obtain ⟨F, rfl⟩ : ∃ F : Nat, f = F := ⟨f.toNat, by omega⟩
    obtain ⟨G, rfl⟩ : ∃ G : Nat, g = G := ⟨g.toNat, by omega⟩
    have hmod : ∀ t : Int, (86400 * k : Nat) ≤ t → t < (86400 * k : Nat) + 86400 → t % 86400 = t - (86400 * k : Nat) := fun t h1 h2 => by omega
    have hsum : ((k + 1 : Nat) : Int) * eachP F G = k * eachP F G + eachP F G := by
      rw [show ((k + 1 : Nat) : Int) = (k : Int) + 1 by omega, Int.add_mul, Int.one_mul]
    rw [hsum, ← ih]
    by_cases h1 : (G : Int) < F
    · have e : eachP F G = (G : Int) - F + 86400 := by unfold eachP; rw [if_pos (by omega)]
      rw [e]
      have s1 := cnt_all (p := nightP F G) (n := 86400 * k) G (fun t a b => by unfold nightP; rw [if_pos h1, hmod t (by omega) (by omega)]; omega)
      have s2 := cnt_gap (p := nightP F G) (n := 86400 * k + G) (F - G) (fun t a b => by unfold nightP; rw [if_pos h1, hmod t (by omega) (by omega)]; omega)
      have s3 := cnt_all (p := nightP F G) (n := 86400 * k + G + (F - G)) (86400 - F) (fun t a b => by unfold nightP; rw [if_pos h1, hmod t (by omega) (by omega)]; omega)
      rw [show 86400 * (k + 1) = 86400 * k + G + (F - G) + (86400 - F) by omega, s3, s2, s1]
      omega
    · have e : eachP F G = (G : Int) - F := by unfold eachP; rw [if_neg (by omega)]
      rw [e]
      have s1 := cnt_gap (p := nightP F G) (n := 86400 * k) F (fun t a b => by unfold nightP; rw [if_neg h1, hmod t (by omega) (by omega)]; omega)
      have s2 := cnt_all (p := nightP F G) (n := 86400 * k + F) (G - F) (fun t a b => by unfold nightP; rw [if_neg h1, hmod t (by omega) (by omega)]; omega)
      have s3 := cnt_gap (p := nightP F G) (n := 86400 * k + F + (G - F)) (86400 - G) (fun t a b => by unfold nightP; rw [if_neg h1, hmod t (by omega) (by omega)]; omega)
      rw [show 86400 * (k + 1) = 86400 * k + F + (G - F) + (86400 - G) by omega, s3, s2, s1]
      omega
theorem cnt_within {p : Int → Prop} (a : Nat) : ∀ k : Nat, cnt (fun t => (a : Int) ≤ t ∧ t < (a + k : Nat) ∧ p t) (a + k) = cnt p (a + k) - cnt p a
  | 0 => by
    have := cnt_gap (p := fun t => (a : Int) ≤ t ∧ t < (a + 0 : Nat) ∧ p t) (n := 0) a (fun t h1 h2 => by rintro ⟨q1, q2, _⟩; omega)
    have e : cnt (fun t => (a : Int) ≤ t ∧ t < (a + 0 : Nat) ∧ p t) 0 = 0 := rfl
    simp only [Nat.zero_add, Nat.add_zero] at this ⊢
    rw [this]
    show (0 : Int) = _
    omega
  | k + 1 => by
    have ih := cnt_within (p := p) a k
    have hc : cnt (fun t => (a : Int) ≤ t ∧ t < (a + (k + 1) : Nat) ∧ p t) (a + k) = cnt (fun t => (a : Int) ≤ t ∧ t < (a + k : Nat) ∧ p t) (a + k) := cnt_congr (fun t h1 h2 => by
      constructor
      · rintro ⟨q1, q2, q3⟩; exact ⟨q1, h2, q3⟩
      · rintro ⟨q1, q2, q3⟩; exact ⟨q1, by omega, q3⟩)
    by_cases hp : p ((a + k : Nat) : Int)
    · rw [← Nat.add_assoc, cnt_yes (p := p) hp, cnt_yes (p := fun t => (a : Int) ≤ t ∧ t < (a + k + 1 : Nat) ∧ p t) ⟨by omega, by omega, hp⟩]
      rw [← Nat.add_assoc] at hc
      rw [hc, ih]; omega
    · rw [← Nat.add_assoc, cnt_no (p := p) hp, cnt_no (p := fun t => (a : Int) ≤ t ∧ t < (a + k + 1 : Nat) ∧ p t) (fun h => hp h.2.2)]
      rw [← Nat.add_assoc] at hc
      rw [hc, ih]
theorem sz_within {p : Int → Prop} {a b : Nat} (hab : a ≤ b) (hb : b ≤ 32054400) : sz (fun t => (a : Int) ≤ t ∧ t < b ∧ p t) = cnt p b - cnt p a := by
  have h1 := cnt_within (p := p) a (b - a)
  rw [show a + (b - a) = b by omega] at h1
  have h2 := cnt_gap (p := fun t => (a : Int) ≤ t ∧ t < (b : Nat) ∧ p t) (n := b) (32054400 - b) (fun t q1 q2 => by rintro ⟨_, q3, _⟩; omega)
  rw [show b + (32054400 - b) = 32054400 by omega] at h2
  unfold sz
  rw [h2, h1]
/-- Of whole days. -/
theorem sz_days {f g : Int} (hf : 0 ≤ f ∧ f ≤ 86400) (hg : 0 ≤ g ∧ g ≤ 86400) (d n : Nat) (h : d + n ≤ 371) : sz (fun t => ((d : Int) * 86400 ≤ t ∧ t < (d : Int) * 86400 + n * 86400) ∧ nightP f g t) = n * eachP f g := by
  have h1 := cnt_days hf hg d
  have h2 := cnt_days hf hg (d + n)
  have h3 := sz_within (p := nightP f g) (a := 86400 * d) (b := 86400 * (d + n)) (by omega) (by omega)
  rw [h1, h2] at h3
  rw [sz_congr (q := fun t => ((86400 * d : Nat) : Int) ≤ t ∧ t < ((86400 * (d + n) : Nat) : Int) ∧ nightP f g t) (fun t q1 q2 => by
    constructor
    · rintro ⟨⟨k1, k2⟩, k3⟩; exact ⟨by omega, by omega, k3⟩
    · rintro ⟨k1, k2, k3⟩; exact ⟨⟨by omega, by omega⟩, k3⟩), h3]
  rw [show ((d + n : Nat) : Int) = (d : Int) + n by omega, Int.add_mul]
  omega
end Go.Proofs.Ytcefjnjlcpkanaa

namespace Go.Proofs.Ytcefjnjlcpkanaa
set_option linter.unusedVariables false
set_option linter.unusedSimpArgs false

def timeP (t : Int) : Int := min (max t 0) 32054400
def secP (t : Int) : Int := min (timeP t) 32054399
theorem sec_bd (t : Int) : 0 ≤ secP t ∧ secP t ≤ 32054399 := by unfold secP timeP; omega
def dayP (t : Int) : Int := secP t / 86400
/-! ### Rounding -/
/-! ### Days -/
/-! ### Rising lists -/
end Go.Proofs.Ytcefjnjlcpkanaa
