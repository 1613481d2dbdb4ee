/-
  What is unpaid of a day: its breaks behind the first ones, and the last seconds that are no breaks. No program here.
  Times rounded, days and weeks: no program here.
  What is paid, and what is not, of all days. No program here.
  Slices as lists of cells: what a slice that came in, or that the call made, reads as; what an append makes of it. Over any program.
  A block of cells that the walk knows whole: it is kept over draws, new blocks, and calls that leave what was there.
  A region that draws its order, by one word that holds whatever has come up: each operation keeps it, and where all have come up it gives what is asked. Over any program.
-/
import Derived.Test.YtdlimgpmmkcgmaaGreatZaa
import Derived.Maps.AppendAt
import Derived.Laws.OwnMore
import Derived.Laws.Rows
import Derived.OwnWalk
import Derived.Deep.RegionHeld3
namespace Go.Proofs.YtdlimgpmmkcgmaaGreat
set_option linter.unusedVariables false
set_option linter.unusedSimpArgs false

/-- The first n seconds of p; the last n. -/
def fstS (p : Int → Prop) (n t : Int) : Prop := p t ∧ cnt p t.toNat < n
def lstS (p : Int → Prop) (n t : Int) : Prop := p t ∧ sz p - n ≤ cnt p t.toNat
theorem cnt_fst {p : Int → Prop} {n : Int} (hn : 0 ≤ n) : ∀ m : Nat, cnt (fstS p n) m = min n (cnt p m)
  | 0 => by
    have e1 : cnt (fstS p n) 0 = 0 := rfl
    have e2 : cnt p 0 = 0 := rfl
    rw [e1, e2]; omega
  | m + 1 => by
    have ih := cnt_fst (p := p) hn m
    have e : ((m : Nat) : Int).toNat = m := by omega
    by_cases hp : p (m : Nat)
    · by_cases hc : cnt p m < n
      · rw [cnt_yes (p := fstS p n) (show fstS p n (m : Nat) from ⟨hp, by rw [e]; exact hc⟩), cnt_yes hp, ih]; omega
      · rw [cnt_no (p := fstS p n) (fun h => hc (by have := h.2; rwa [e] at this)), cnt_yes hp, ih]; omega
    · rw [cnt_no (p := fstS p n) (fun h => hp h.1), cnt_no hp, ih]
theorem sz_fst {p : Int → Prop} {n : Int} (hn : 0 ≤ n) : sz (fstS p n) = min n (sz p) := cnt_fst hn _
theorem fst_lst (p : Int → Prop) (n t : Int) : p t ↔ fstS p (sz p - n) t ∨ lstS p n t := by
  unfold fstS lstS
  constructor
  · intro h
    by_cases hc : cnt p t.toNat < sz p - n
    · exact .inl ⟨h, hc⟩
    · exact .inr ⟨h, by omega⟩
  · rintro (h | h) <;> exact h.1
theorem sz_lst {p : Int → Prop} {n : Int} (hn : 0 ≤ n) : sz (lstS p n) = min n (sz p) := by
  have hb := sz_bound p
  by_cases h : n ≤ sz p
  · have h1 := sz_or (p := fstS p (sz p - n)) (q := lstS p n) (r := p) (fun t _ _ => ⟨fst_lst p n t, fun q => by have := q.1.2; have := q.2.2; omega⟩)
    rw [sz_fst (by omega)] at h1
    omega
  · have h1 : sz (lstS p n) = sz p := sz_congr fun t h0 h1 => by
      have := (cnt_bound p t.toNat).1
      exact ⟨fun q => q.1, fun q => ⟨q, by omega⟩⟩
    omega
/-- Of the first ones each lies ahead of each other one. -/
theorem fst_below {p : Int → Prop} {n t u : Int} (h0 : 0 ≤ t) (h1 : 0 ≤ u) (ht : fstS p n t) (hu : p u) (hu' : ¬ fstS p n u) : t < u := by
  have h2 : ¬ cnt p u.toNat < n := fun h => hu' ⟨hu, h⟩
  have h3 := ht.2
  by_cases h : t < u
  · exact h
  · have := cnt_le p (m := u.toNat) (n := t.toNat) (by omega)
    omega
theorem lst_above {p : Int → Prop} {n t u : Int} (h0 : 0 ≤ t) (h1 : 0 ≤ u) (ht : p t) (ht' : ¬ lstS p n t) (hu : lstS p n u) : t < u := by
  have h2 : ¬ sz p - n ≤ cnt p t.toNat := fun h => ht' ⟨ht, h⟩
  have h3 := hu.2
  by_cases h : t < u
  · exact h
  · have := cnt_le p (m := u.toNat) (n := t.toNat) (by omega)
    omega
/-! ### What is unpaid -/
/-- What is unpaid: C the clock's seconds, R the breaks'; pb, af, ab what the setup says. -/
def unP (C R : Int → Prop) (pb af ab t : Int) : Prop :=
  (R t ∧ ¬ fstS R pb t) ∨ (af ≤ sz C ∧ sz R < ab ∧ lstS (fun t => C t ∧ ¬ R t) (ab - sz R) t)
def paidS (C R : Int → Prop) (pb af ab t : Int) : Prop := C t ∧ ¬ unP C R pb af ab t
def notS (C R : Int → Prop) (pb af ab t : Int) : Prop := C t ∧ unP C R pb af ab t
section
variable {C R : Int → Prop} {pb af ab : Int}
theorem un_in (h : ∀ t, R t → C t) {t : Int} (k : unP C R pb af ab t) : C t := by
  rcases k with k | k
  · exact h t k.1
  · exact k.2.2.1.1
theorem not_un (h : ∀ t, R t → C t) (t : Int) : notS C R pb af ab t ↔ unP C R pb af ab t := ⟨fun k => k.2, fun k => ⟨un_in h k, k⟩⟩
theorem paid_or (t : Int) : C t ↔ paidS C R pb af ab t ∨ notS C R pb af ab t := by
  by_cases k : unP C R pb af ab t
  · exact ⟨fun h => .inr ⟨h, k⟩, fun h => h.elim (fun q => q.1) (fun q => q.1)⟩
  · exact ⟨fun h => .inl ⟨h, k⟩, fun h => h.elim (fun q => q.1) (fun q => q.1)⟩
theorem paid_and (t : Int) : ¬ (paidS C R pb af ab t ∧ notS C R pb af ab t) := fun h => h.1.2 h.2.2
theorem sz_less (h : ∀ t, 0 ≤ t → t < 32054400 → R t → C t) : sz (fun t => C t ∧ ¬ R t) = sz C - sz R := by
  have h1 := sz_or (p := R) (q := fun t => C t ∧ ¬ R t) (r := C) (fun t a b => ⟨by
    by_cases q : R t
    · exact ⟨fun _ => .inl q, fun _ => h t a b q⟩
    · exact ⟨fun k => .inr ⟨k, q⟩, fun k => k.elim (fun z => absurd z q) (fun z => z.1)⟩, fun q => q.2.2 q.1⟩)
  omega
/-- BreaksSizes. -/
theorem sz_not (h : ∀ t, R t → C t) (hp : 0 ≤ pb) : sz (notS C R pb af ab) = max 0 (sz R - pb) + (if af ≤ sz C ∧ sz R < ab then min (ab - sz R) (sz C - sz R) else 0) := by
  have e1 : sz (fun t => R t ∧ ¬ fstS R pb t) = max 0 (sz R - pb) := by
    rw [sz_less (C := R) (R := fstS R pb) (fun t _ _ q => q.1), sz_fst hp]
    have := sz_bound R
    omega
  by_cases hc : af ≤ sz C ∧ sz R < ab
  · rw [if_pos hc]
    have e2 : sz (lstS (fun t => C t ∧ ¬ R t) (ab - sz R)) = min (ab - sz R) (sz C - sz R) := by
      rw [sz_lst (by omega), sz_less (fun t _ _ q => h t q)]
    have e3 := sz_or (p := fun t => R t ∧ ¬ fstS R pb t) (q := lstS (fun t => C t ∧ ¬ R t) (ab - sz R)) (r := notS C R pb af ab) (fun t _ _ => ⟨by
      rw [not_un h]
      unfold unP
      exact ⟨fun k => k.elim .inl (fun z => .inr z.2.2), fun k => k.elim .inl (fun z => .inr ⟨hc.1, hc.2, z⟩)⟩, fun q => q.2.1.2 q.1.1⟩)
    rw [e1, e2] at e3
    exact e3
  · rw [if_neg hc]
    have e3 : sz (notS C R pb af ab) = sz (fun t => R t ∧ ¬ fstS R pb t) := sz_congr fun t _ _ => by
      rw [not_un h]
      unfold unP
      exact ⟨fun k => k.elim (fun z => z) (fun z => absurd ⟨z.1, z.2.1⟩ hc), .inl⟩
    rw [e3, e1]; omega
/-- BreaksFirst: of breaks. -/
theorem rests_below (h : ∀ t, R t → C t) {t u : Int} (h0 : 0 ≤ t) (h1 : 0 ≤ u) (ht : paidS C R pb af ab t ∧ R t) (hu : notS C R pb af ab u ∧ R u) : t < u := by
  have k1 : fstS R pb t := Classical.byContradiction fun q => ht.1.2 (.inl ⟨ht.2, q⟩)
  have k2 : ¬ fstS R pb u := by
    rcases hu.1.2 with q | q
    · exact q.2
    · exact absurd hu.2 q.2.2.1.2
  exact fst_below h0 h1 k1 hu.2 k2
/-- BreaksFirst: of all else. -/
theorem other_below {t u : Int} (h0 : 0 ≤ t) (h1 : 0 ≤ u) (ht : paidS C R pb af ab t ∧ ¬ R t) (hu : notS C R pb af ab u ∧ ¬ R u) : t < u := by
  rcases hu.1.2 with q | ⟨q1, q2, q3⟩
  · exact absurd q.1 hu.2
  · exact lst_above h0 h1 (p := fun t => C t ∧ ¬ R t) ⟨ht.1.1, ht.2⟩ (fun z => ht.1.2 (.inr ⟨q1, q2, z⟩)) q3
theorem sz_paid_rests (h : ∀ t, R t → C t) (hp : 0 ≤ pb) : sz (fun t => paidS C R pb af ab t ∧ R t) ≤ pb := by
  have e : sz (fun t => paidS C R pb af ab t ∧ R t) = sz (fstS R pb) := sz_congr fun t _ _ => by
    constructor
    · rintro ⟨k1, k2⟩
      exact Classical.byContradiction fun q => k1.2 (.inl ⟨k2, q⟩)
    · intro k
      refine ⟨⟨h t k.1, fun q => ?_⟩, k.1⟩
      rcases q with q | q
      · exact q.2 k
      · exact q.2.2.1.2 k.1
  rw [e, sz_fst hp]; omega
end
/-- What the law asks of two lists: the last one of the first ends ahead of the first one of the other. -/
theorem ends_below {a b : List (Int × Int)} (ha : PlainFrom 0 a) (hb : PlainFrom 0 b) (h : ∀ t u, In a t → In b u → t < u) (la : 0 < a.length) (lb : 0 < b.length) : (a.getD (a.length - 1) (0, 0)).2 ≤ (b.getD 0 (0, 0)).1 := by
  have ka := (plain_pairs.1 ha).1 (a.getD (a.length - 1) (0, 0)) (by simp [List.getD, show a.length - 1 < a.length by omega])
  have kb := (plain_pairs.1 hb).1 (b.getD 0 (0, 0)) (by simp [List.getD, lb])
  have := h ((a.getD (a.length - 1) (0, 0)).2 - 1) (b.getD 0 (0, 0)).1 ⟨a.getD (a.length - 1) (0, 0), by simp [List.getD, show a.length - 1 < a.length by omega], by omega, by omega⟩ ⟨b.getD 0 (0, 0), by simp [List.getD, lb], by omega, by omega⟩
  omega
/-! ### All days -/
/-- The seconds of day d of p. -/
def onDay (p : Int → Prop) (d t : Int) : Prop := p t ∧ t / 86400 = d
/-- What is unpaid of all days: each second by its own day. -/
def unAll (C R : Int → Prop) (pb af ab t : Int) : Prop := unP (onDay C (t / 86400)) (onDay R (t / 86400)) pb af ab t
theorem un_day {C R : Int → Prop} {pb af ab d t : Int} (h : ∀ t, R t → C t) : unP (onDay C d) (onDay R d) pb af ab t ↔ unAll C R pb af ab t ∧ t / 86400 = d := by
  constructor
  · intro k
    have e : t / 86400 = d := (un_in (C := onDay C d) (R := onDay R d) (fun t q => ⟨h t q.1, q.2⟩) k).2
    exact ⟨by unfold unAll; rw [e]; exact k, e⟩
  · rintro ⟨k, e⟩
    unfold unAll at k
    rwa [e] at k
/-- A day hangs on its own seconds alone. -/
theorem un_same {C R C' R' : Int → Prop} {pb af ab : Int} (hC : ∀ t, 0 ≤ t → t < 32054400 → (C t ↔ C' t)) (hR : ∀ t, 0 ≤ t → t < 32054400 → (R t ↔ R' t)) {t : Int} (h0 : 0 ≤ t) (h1 : t < 32054400) : unP C R pb af ab t ↔ unP C' R' pb af ab t := by
  have e1 : sz C = sz C' := sz_congr hC
  have e2 : sz R = sz R' := sz_congr hR
  have e3 : sz (fun t => C t ∧ ¬ R t) = sz (fun t => C' t ∧ ¬ R' t) := sz_congr fun t a b => by rw [hC t a b, hR t a b]
  have e4 : cnt R t.toNat = cnt R' t.toNat := cnt_congr fun u a b => hR u a (by omega)
  have e5 : cnt (fun t => C t ∧ ¬ R t) t.toNat = cnt (fun t => C' t ∧ ¬ R' t) t.toNat := cnt_congr fun u a b => by rw [hC u a (by omega), hR u a (by omega)]
  unfold unP fstS lstS
  rw [e1, e2, e3, e4, e5]
  simp only [hC t h0 h1, hR t h0 h1]
end Go.Proofs.YtdlimgpmmkcgmaaGreat

namespace Go.Proofs.YtdlimgpmmkcgmaaGreat
set_option linter.unusedVariables false
set_option linter.unusedSimpArgs false

def timeP (t : Int) : Int := min (max t 0) 32054400
def secP (t : Int) : Int := min (timeP t) 32054399
theorem time_bd (t : Int) : 0 ≤ timeP t ∧ timeP t ≤ 32054400 := by unfold timeP; omega
theorem sec_bd (t : Int) : 0 ≤ secP t ∧ secP t ≤ 32054399 := by unfold secP timeP; omega
theorem sec_in {t : Int} (h : 0 ≤ t) (h' : t < 32054400) : secP t = t := by unfold secP timeP; omega
def roundP (t u : Int) : Int :=
  if u < 1 then timeP t else if u - timeP t % u ≤ timeP t % u then min (timeP t - timeP t % u + min u 100000000) 32054400 else timeP t - timeP t % u
def dayP (t : Int) : Int := secP t / 86400
def weekP (t : Int) : Int := secP t / 604800
def aboutP (unit cap : Int) : Int := min (max unit 0) 604800 + min (max cap 0) 604800
def touchP (unit cap t : Int) : Int × Int := (weekP (secP t - aboutP unit cap), weekP (secP t + aboutP unit cap))
/-! ### Rounding -/
theorem round_div {n u : Int} (h : 1 ≤ u) : n % u = n - u * (n / u) ∧ 0 ≤ n % u ∧ n % u < u := by
  have h1 := Int.emod_def n u
  have h2 := Int.emod_nonneg n (show u ≠ 0 by omega)
  have h3 := Int.emod_lt_of_pos n (show 0 < u by omega)
  exact ⟨h1, h2, h3⟩
theorem round_up {a u : Int} (h0 : 0 ≤ a) (h1 : a < 31000000) (hu : 1 ≤ u) (hu' : u ≤ 65536) : roundP a u = u * (a / u) + (if u - a % u ≤ a % u then u else 0) := by
  have ht : timeP a = a := by unfold timeP; omega
  obtain ⟨e, e1, e2⟩ := round_div (n := a) hu
  unfold roundP
  rw [if_neg (by omega), ht]
  split
  · omega
  · omega
/-- PunchRounds. -/
theorem round_near {a u : Int} (h0 : 0 ≤ a) (h1 : a < 31000000) (hu : 1 ≤ u) (hu' : u ≤ 65536) : roundP a u % u = 0 ∧ 2 * (roundP a u - a) ≤ u ∧ 2 * (a - roundP a u) < u := by
  obtain ⟨e, e1, e2⟩ := round_div (n := a) hu
  rw [round_up h0 h1 hu hu']
  refine ⟨?_, ?_, ?_⟩
  · split
    · rw [Int.add_emod_right, Int.mul_emod_right]
    · rw [Int.add_zero, Int.mul_emod_right]
  · split <;> omega
  · split <;> omega
theorem round_keeps {a b u : Int} (h0 : 0 ≤ a) (hab : a ≤ b) (h1 : b < 31000000) (hu : 1 ≤ u) (hu' : u ≤ 65536) : roundP a u ≤ roundP b u := by
  obtain ⟨e, e1, e2⟩ := round_div (n := a) hu
  obtain ⟨f, f1, f2⟩ := round_div (n := b) hu
  rw [round_up h0 (by omega) hu hu', round_up (by omega) h1 hu hu']
  have hq : a / u ≤ b / u := Int.ediv_le_ediv (by omega) hab
  rcases Int.lt_or_le (a / u) (b / u) with q | q
  · have : u * (a / u) + u ≤ u * (b / u) := by
      have := Int.mul_le_mul_of_nonneg_left (show a / u + 1 ≤ b / u by omega) (show 0 ≤ u by omega)
      rw [Int.mul_add, Int.mul_one] at this
      exact this
    split <;> split <;> omega
  · have : a / u = b / u := by omega
    rw [this] at e ⊢
    split <;> split <;> omega
theorem round_again {a u : Int} (h0 : 0 ≤ a) (h1 : a < 31000000) (hu : 1 ≤ u) (hu' : u ≤ 65536) : roundP (roundP a u) u = roundP a u := by
  obtain ⟨h2, h3, h4⟩ := round_near h0 h1 hu hu'
  have hx : 0 ≤ roundP a u := by
    rw [round_up h0 h1 hu hu']
    have : 0 ≤ u * (a / u) := Int.mul_nonneg (by omega) (Int.ediv_nonneg h0 (by omega))
    split <;> omega
  generalize roundP a u = x at *
  have ht : timeP x = x := by unfold timeP; omega
  unfold roundP
  rw [if_neg (by omega), ht, h2, if_neg (by omega)]
  omega
/-! ### Days -/
theorem day_has (t : Int) : dayP t * 86400 ≤ secP t ∧ secP t < (dayP t + 1) * 86400 ∧ weekP t * 604800 ≤ secP t ∧ secP t < (weekP t + 1) * 604800 ∧ dayP t / 7 = weekP t := by
  have := sec_bd t
  unfold dayP weekP
  omega
theorem touch_has (unit cap t : Int) : (touchP unit cap t).1 ≤ weekP t ∧ weekP t ≤ (touchP unit cap t).2 := by
  have h := sec_bd t
  have ha : 0 ≤ aboutP unit cap := by unfold aboutP; omega
  unfold touchP weekP
  generalize aboutP unit cap = b at *
  generalize secP t = n at *
  have e1 : secP (n - b) ≤ n := by unfold secP timeP; omega
  have e2 : n ≤ secP (n + b) := by unfold secP timeP; omega
  have b1 := sec_bd (n - b)
  have b2 := sec_bd (n + b)
  simp only
  omega
theorem touch_near {unit cap t : Int} (h1 : unit ≤ 3600) (h2 : cap ≤ 57600) : (touchP unit cap t).2 - (touchP unit cap t).1 ≤ 1 := by
  have h := sec_bd t
  have ha : 0 ≤ aboutP unit cap ∧ aboutP unit cap ≤ 61200 := by unfold aboutP; omega
  unfold touchP weekP
  generalize aboutP unit cap = b at *
  generalize secP t = n at *
  have e : secP (n + b) - secP (n - b) ≤ 122400 := by unfold secP timeP; omega
  have b1 := sec_bd (n - b)
  have b2 := sec_bd (n + b)
  simp only
  omega
/-! ### Rising lists -/
theorem rise_unique : ∀ (a b : List Int), a.Pairwise (· < ·) → b.Pairwise (· < ·) → (∀ x, x ∈ a ↔ x ∈ b) → a = b
  | [], [], _, _, _ => rfl
  | [], y :: b, _, _, h => by have := (h y).2 (by simp); simp at this
  | x :: a, [], _, _, h => by have := (h x).1 (by simp); simp at this
  | x :: a, y :: b, ha, hb, h => by
    rw [List.pairwise_cons] at ha hb
    have h1 : x = y := by
      have p1 := (h x).1 (by simp)
      have p2 := (h y).2 (by simp)
      rcases List.mem_cons.1 p1 with p1 | p1
      · exact p1
      · rcases List.mem_cons.1 p2 with p2 | p2
        · exact p2.symm
        · have := hb.1 x p1
          have := ha.1 y p2
          omega
    subst h1
    congr 1
    refine rise_unique a b ha.2 hb.2 fun z => ?_
    have := h z
    simp only [List.mem_cons] at this
    constructor
    · intro hz
      rcases this.1 (.inr hz) with q | q
      · have := ha.1 z hz; omega
      · exact q
    · intro hz
      rcases this.2 (.inr hz) with q | q
      · have := hb.1 z hz; omega
      · exact q
open Classical in
/-- The days that have some. -/
noncomputable def daysP (p : Int → Prop) : List Int := ((List.range 371).filter fun d : Nat => decide (∃ t, 0 ≤ t ∧ t < 32054400 ∧ p t ∧ t / 86400 = (d : Int))).map fun d : Nat => (d : Int)
theorem days_mem (p : Int → Prop) (d : Int) : d ∈ daysP p ↔ ∃ t, 0 ≤ t ∧ t < 32054400 ∧ p t ∧ t / 86400 = d := by
  unfold daysP
  simp only [List.mem_map, List.mem_filter, List.mem_range, decide_eq_true_eq]
  constructor
  · rintro ⟨n, ⟨_, t, h⟩, rfl⟩
    exact ⟨t, h⟩
  · rintro ⟨t, h1, h2, h3, h4⟩
    exact ⟨d.toNat, ⟨by omega, t, h1, h2, h3, by omega⟩, by omega⟩
theorem range_rise (n : Nat) : ((List.range n).map fun d : Nat => (d : Int)).Pairwise (· < ·) := by
  rw [List.pairwise_map]
  exact List.pairwise_lt_range.imp (fun h => by omega)
theorem days_rise (p : Int → Prop) : (daysP p).Pairwise (· < ·) := by
  unfold daysP
  rw [List.pairwise_map]
  exact (List.pairwise_lt_range.imp (fun h => by omega)).filter _
theorem days_eq {p : Int → Prop} {l : List Int} (h1 : l.Pairwise (· < ·)) (h2 : ∀ d, d ∈ l ↔ ∃ t, 0 ≤ t ∧ t < 32054400 ∧ p t ∧ t / 86400 = d) : l = daysP p :=
  rise_unique l (daysP p) h1 (days_rise p) fun d => by rw [h2, days_mem]
/-- The seconds of one day, or week. -/
noncomputable def ofDayP (p : Int → Prop) (d : Int) : List (Int × Int) := canon fun t => p t ∧ t / 86400 = d
noncomputable def ofWeekP (p : Int → Prop) (k : Int) : List (Int × Int) := canon fun t => p t ∧ t / 604800 = k
theorem ofDay_none {p : Int → Prop} {d : Int} (h : d < 0 ∨ 370 < d) : ofDayP p d = [] := canon_none fun t h0 h1 h2 => by omega
theorem ofWeek_none {p : Int → Prop} {k : Int} (h : k < 0 ∨ 52 < k) : ofWeekP p k = [] := canon_none fun t h0 h1 h2 => by omega
theorem ofDay_some {p : Int → Prop} {d : Int} (h : d ∈ daysP p) : ofDayP p d ≠ [] := by
  intro e
  obtain ⟨t, h1, h2, h3, h4⟩ := (days_mem p d).1 h
  have := (canon_in (fun t => p t ∧ t / 86400 = d) t).2 ⟨h1, h2, h3, h4⟩
  unfold ofDayP at e
  rw [e] at this
  exact in_nil t this
/-- The days, one behind the other, make the set; those of a week the week's. -/
theorem days_make (p : Int → Prop) {t : Int} (h0 : 0 ≤ t) (h1 : t < 32054400) : In ((daysP p).flatMap (ofDayP p)) t ↔ p t := by
  constructor
  · rintro ⟨s, hs, h2⟩
    obtain ⟨d, hd, hsd⟩ := List.mem_flatMap.1 hs
    have : In (ofDayP p d) t := ⟨s, hsd, h2⟩
    exact ((canon_in _ t).1 this).2.2.1
  · intro hp
    have hd : t / 86400 ∈ daysP p := (days_mem p _).2 ⟨t, h0, h1, hp, rfl⟩
    obtain ⟨s, hs, h2⟩ := (canon_in (fun u => p u ∧ u / 86400 = t / 86400) t).2 ⟨h0, h1, hp, rfl⟩
    exact ⟨s, List.mem_flatMap.2 ⟨_, hd, hs⟩, h2⟩
theorem week_make (p : Int → Prop) (k : Int) {t : Int} (h0 : 0 ≤ t) (h1 : t < 32054400) : In (((daysP p).filter fun d => decide (d / 7 = k)).flatMap (ofDayP p)) t ↔ p t ∧ t / 604800 = k := by
  constructor
  · rintro ⟨s, hs, h2⟩
    obtain ⟨d, hd, hsd⟩ := List.mem_flatMap.1 hs
    have hk := (List.mem_filter.1 hd).2
    simp only [decide_eq_true_eq] at hk
    have : In (ofDayP p d) t := ⟨s, hsd, h2⟩
    have := ((canon_in _ t).1 this).2.2
    exact ⟨this.1, by omega⟩
  · rintro ⟨hp, hk⟩
    have hd : t / 86400 ∈ daysP p := (days_mem p _).2 ⟨t, h0, h1, hp, rfl⟩
    obtain ⟨s, hs, h2⟩ := (canon_in (fun u => p u ∧ u / 86400 = t / 86400) t).2 ⟨h0, h1, hp, rfl⟩
    refine ⟨s, List.mem_flatMap.2 ⟨_, List.mem_filter.2 ⟨hd, ?_⟩, hs⟩, h2⟩
    simp only [decide_eq_true_eq]
    omega
end Go.Proofs.YtdlimgpmmkcgmaaGreat

namespace Go.Proofs.YtdlimgpmmkcgmaaGreat
set_option linter.unusedVariables false
set_option linter.unusedSimpArgs false

section
variable {C R : Int → Prop} {pb af ab : Int}
/-- Day by day, as plain spans. -/
noncomputable def paidDay (C R : Int → Prop) (pb af ab d : Int) : List (Int × Int) := canon (paidS (onDay C d) (onDay R d) pb af ab)
noncomputable def notDay (C R : Int → Prop) (pb af ab d : Int) : List (Int × Int) := canon (notS (onDay C d) (onDay R d) pb af ab)
noncomputable def paidAll (C R : Int → Prop) (pb af ab : Int) : List (Int × Int) := canon fun t => C t ∧ ¬ unAll C R pb af ab t
noncomputable def notAll (C R : Int → Prop) (pb af ab : Int) : List (Int × Int) := canon fun t => C t ∧ unAll C R pb af ab t
theorem paid_day_iff (d t : Int) : paidS (onDay C d) (onDay R d) pb af ab t ↔ (C t ∧ ¬ unAll C R pb af ab t) ∧ t / 86400 = d := by
  unfold paidS unAll onDay
  constructor
  · rintro ⟨⟨q1, q2⟩, q3⟩
    rw [← q2] at q3
    exact ⟨⟨q1, q3⟩, q2⟩
  · rintro ⟨⟨q1, q3⟩, q2⟩
    rw [q2] at q3
    exact ⟨⟨q1, q2⟩, q3⟩
theorem not_day_iff (d t : Int) : notS (onDay C d) (onDay R d) pb af ab t ↔ (C t ∧ unAll C R pb af ab t) ∧ t / 86400 = d := by
  unfold notS unAll onDay
  constructor
  · rintro ⟨⟨q1, q2⟩, q3⟩
    rw [← q2] at q3
    exact ⟨⟨q1, q3⟩, q2⟩
  · rintro ⟨⟨q1, q3⟩, q2⟩
    rw [q2] at q3
    exact ⟨⟨q1, q2⟩, q3⟩
/-- The first k of the days of D. -/
noncomputable def paidK (C R : Int → Prop) (pb af ab : Int) (D : List Int) (k : Nat) : List (Int × Int) := (D.take k).flatMap (paidDay C R pb af ab)
noncomputable def notK (C R : Int → Prop) (pb af ab : Int) (D : List Int) (k : Nat) : List (Int × Int) := (D.take k).flatMap (notDay C R pb af ab)
theorem takeI_snoc (D : List Int) (k : Nat) (h : k < D.length) : D.take (k + 1) = D.take k ++ [D.getD k 0] := by
  rw [List.take_succ_eq_append_getElem h]
  simp [List.getD, h]
theorem paidK_snoc (D : List Int) (k : Nat) (h : k < D.length) : paidK C R pb af ab D (k + 1) = paidK C R pb af ab D k ++ paidDay C R pb af ab (D.getD k 0) := by
  unfold paidK
  rw [takeI_snoc D k h, List.flatMap_append]
  simp
theorem notK_snoc (D : List Int) (k : Nat) (h : k < D.length) : notK C R pb af ab D (k + 1) = notK C R pb af ab D k ++ notDay C R pb af ab (D.getD k 0) := by
  unfold notK
  rw [takeI_snoc D k h, List.flatMap_append]
  simp
theorem paidK_all : canon (In (paidK C R pb af ab (daysP C) (daysP C).length)) = paidAll C R pb af ab :=
  canon_congr fun t a b => by
    unfold paidK
    rw [List.take_length]
    constructor
    · rintro ⟨s, hs, h1, h2⟩
      obtain ⟨d, hd, hx⟩ := List.mem_flatMap.1 hs
      exact ((paid_day_iff d t).1 ((canon_in _ t).1 ⟨s, hx, h1, h2⟩).2.2).1
    · intro q
      obtain ⟨s, hs, h1, h2⟩ := (canon_in (paidS (onDay C (t / 86400)) (onDay R (t / 86400)) pb af ab) t).2 ⟨a, b, (paid_day_iff _ t).2 ⟨q, rfl⟩⟩
      exact ⟨s, List.mem_flatMap.2 ⟨t / 86400, (days_mem C _).2 ⟨t, a, b, q.1, rfl⟩, hs⟩, h1, h2⟩
theorem notK_all : canon (In (notK C R pb af ab (daysP C) (daysP C).length)) = notAll C R pb af ab :=
  canon_congr fun t a b => by
    unfold notK
    rw [List.take_length]
    constructor
    · rintro ⟨s, hs, h1, h2⟩
      obtain ⟨d, hd, hx⟩ := List.mem_flatMap.1 hs
      exact ((not_day_iff d t).1 ((canon_in _ t).1 ⟨s, hx, h1, h2⟩).2.2).1
    · intro q
      obtain ⟨s, hs, h1, h2⟩ := (canon_in (notS (onDay C (t / 86400)) (onDay R (t / 86400)) pb af ab) t).2 ⟨a, b, (not_day_iff _ t).2 ⟨q, rfl⟩⟩
      exact ⟨s, List.mem_flatMap.2 ⟨t / 86400, (days_mem C _).2 ⟨t, a, b, q.1, rfl⟩, hs⟩, h1, h2⟩
/-- The seconds of a day of all that is paid are what is paid of the day. -/
theorem paid_ofday (d : Int) : (canon fun t => In (paidAll C R pb af ab) t ∧ t / 86400 = d) = paidDay C R pb af ab d :=
  canon_congr fun t a b => by
    unfold paidAll
    rw [canon_in, paid_day_iff]
    exact ⟨fun q => ⟨q.1.2.2, q.2⟩, fun q => ⟨⟨a, b, q.1⟩, q.2⟩⟩
theorem not_ofday (d : Int) : (canon fun t => In (notAll C R pb af ab) t ∧ t / 86400 = d) = notDay C R pb af ab d :=
  canon_congr fun t a b => by
    unfold notAll
    rw [canon_in, not_day_iff]
    exact ⟨fun q => ⟨q.1.2.2, q.2⟩, fun q => ⟨⟨a, b, q.1⟩, q.2⟩⟩
theorem paid_not_or {t : Int} : C t ↔ (C t ∧ ¬ unAll C R pb af ab t) ∨ (C t ∧ unAll C R pb af ab t) := by
  by_cases k : unAll C R pb af ab t
  · exact ⟨fun h => .inr ⟨h, k⟩, fun h => h.elim (fun q => q.1) (fun q => q.1)⟩
  · exact ⟨fun h => .inl ⟨h, k⟩, fun h => h.elim (fun q => q.1) (fun q => q.1)⟩
/-- With what was done on day d alone. -/
theorem paid_alone (d : Int) : paidAll (onDay C d) (onDay R d) pb af ab = paidDay C R pb af ab d :=
  canon_congr fun t a b => by
    rw [paid_day_iff]
    have key : t / 86400 = d → (unAll (onDay C d) (onDay R d) pb af ab t ↔ unAll C R pb af ab t) := fun e => by
      unfold unAll
      refine un_same (fun u _ _ => ?_) (fun u _ _ => ?_) a b
      · unfold onDay; exact ⟨fun q => ⟨q.1.1, q.2⟩, fun q => ⟨⟨q.1, by omega⟩, q.2⟩⟩
      · unfold onDay; exact ⟨fun q => ⟨q.1.1, q.2⟩, fun q => ⟨⟨q.1, by omega⟩, q.2⟩⟩
    constructor
    · rintro ⟨⟨q1, q2⟩, q3⟩
      exact ⟨⟨q1, fun z => q3 ((key q2).2 z)⟩, q2⟩
    · rintro ⟨⟨q1, q3⟩, q2⟩
      exact ⟨⟨q1, q2⟩, fun z => q3 ((key q2).1 z)⟩
theorem not_alone (d : Int) : notAll (onDay C d) (onDay R d) pb af ab = notDay C R pb af ab d :=
  canon_congr fun t a b => by
    rw [not_day_iff]
    have key : t / 86400 = d → (unAll (onDay C d) (onDay R d) pb af ab t ↔ unAll C R pb af ab t) := fun e => by
      unfold unAll
      refine un_same (fun u _ _ => ?_) (fun u _ _ => ?_) a b
      · unfold onDay; exact ⟨fun q => ⟨q.1.1, q.2⟩, fun q => ⟨⟨q.1, by omega⟩, q.2⟩⟩
      · unfold onDay; exact ⟨fun q => ⟨q.1.1, q.2⟩, fun q => ⟨⟨q.1, by omega⟩, q.2⟩⟩
    constructor
    · rintro ⟨⟨q1, q2⟩, q3⟩
      exact ⟨⟨q1, (key q2).1 q3⟩, q2⟩
    · rintro ⟨⟨q1, q3⟩, q2⟩
      exact ⟨⟨q1, q2⟩, (key q2).2 q3⟩
/-- The sets hang on their seconds alone. -/
theorem paid_congr {C' R' : Int → Prop} (hC : ∀ t, 0 ≤ t → t < 32054400 → (C t ↔ C' t)) (hR : ∀ t, 0 ≤ t → t < 32054400 → (R t ↔ R' t)) : paidAll C R pb af ab = paidAll C' R' pb af ab ∧ notAll C R pb af ab = notAll C' R' pb af ab := by
  have key : ∀ t, 0 ≤ t → t < 32054400 → (unAll C R pb af ab t ↔ unAll C' R' pb af ab t) := fun t a b => by
    unfold unAll
    exact un_same (fun u a b => by unfold onDay; rw [hC u a b]) (fun u a b => by unfold onDay; rw [hR u a b]) a b
  exact ⟨canon_congr fun t a b => by rw [hC t a b, key t a b], canon_congr fun t a b => by rw [hC t a b, key t a b]⟩
end
end Go.Proofs.YtdlimgpmmkcgmaaGreat

namespace Go.Proofs.YtdlimgpmmkcgmaaGreat
open Go.RowKit

theorem cell_lt {w : World} {a : Addr} {v : Value} (h : w.cell? a = some v) : a.block < w.heap.size := by
  rcases Nat.lt_or_ge a.block w.heap.size with hlt | hge
  · exact hlt
  · unfold World.cell? at h
    rw [Array.getElem?_eq_none hge] at h
    cases h
theorem add_block (a : Addr) (n : Nat) : (a.add n).block = a.block := by unfold Addr.add; split <;> rfl

/-- The slice value '.slice A m c' reads as the cells us, 'size' of them to an element. -/
def Sl (size : Nat) (w : World) (A : Option Addr) (m c : Nat) (us : List Value) : Prop :=
  us.length = m * size ∧ ((A = none ∧ m = 0 ∧ c = 0) ∨ ∃ ad, A = some ad ∧ ∀ j u, us[j]? = some u → w.cell? (ad.add j) = some u)

section
variable {w w' : World} {size m c : Nat} {A : Option Addr} {us : List Value}
theorem Sl.keep (h : Sl size w A m c us) (hk : ∀ p : Addr, p.block < w.heap.size → w'.cell? p = w.cell? p) : Sl size w' A m c us := by
  obtain ⟨hl, h | ⟨ad, rfl, hc⟩⟩ := h
  · exact ⟨hl, .inl h⟩
  · exact ⟨hl, .inr ⟨ad, rfl, fun j u hu => (hk _ (cell_lt (hc j u hu))).trans (hc j u hu)⟩⟩
theorem Sl.below (h : Sl size w A m c us) (hb : Below w.heap.size w w') : Sl size w' A m c us := h.keep fun _ hp => hb.cell hp
theorem Sl.alloc (h : Sl size w A m c us) (o : Obj) : Sl size (w.alloc o) A m c us := h.keep fun p hp => World.cell?_alloc_lt w o p hp
theorem Sl.nil_ : Sl size w none 0 0 [] := ⟨by simp, .inl ⟨rfl, rfl, rfl⟩⟩
theorem Sl.of_own {base : Nat} {e : TypeId} (h : w.ownsRow base e size (.slice A m c) m us) : Sl size w A m c us := by
  obtain ⟨hl, ⟨hv, hn⟩ | ⟨g, cap, cur, hv, hg, hh, h1, h2, h3, h4⟩⟩ := h
  · injection hv with e1 e2 e3
    exact ⟨hl, .inl ⟨e1, e2, e3⟩⟩
  · injection hv with e1 e2 e3
    subst e1
    refine ⟨hl, .inr ⟨_, rfl, fun j u hu => ?_⟩⟩
    have hj : j < m * size := by
      rcases Nat.lt_or_ge j (m * size) with hlt | hge
      · exact hlt
      · rw [List.getElem?_eq_none (by omega)] at hu; cases hu
    have e : w.cell? ((⟨g, 0, none⟩ : Addr).add j) = cur[j]? := by
      have : ((⟨g, 0, none⟩ : Addr).add j) = ⟨g, j, none⟩ := by unfold Addr.add; split <;> simp_all
      rw [this]
      exact cell_of_row w g j cur e (0, 0) hh
    rw [e, ← hu, ← h4, List.getElem?_take, if_pos hj, Array.getElem?_toList]
end

/-- A new row that the call has just laid. -/
theorem own_new (w : World) (e : TypeId) (size n : Nat) (cur : Array Value) (hs : cur.size = n * size) (hm : n ≤ maxLen) :
    (w.alloc (.cells cur e)).ownsRow w.heap.size e size (.slice (some ⟨w.heap.size, 0, none⟩) n n) n cur.toList :=
  ⟨by simpa using hs, .inr ⟨_, n, cur, rfl, Nat.le_refl _, heap_alloc_new w _, Nat.le_refl _, hm, hs, by rw [← hs]; exact List.take_of_length_le (by simp)⟩⟩

section
variable {P : Program}
/-- What an append onto a row of the call's own does, whatever the source. -/
theorem append_any (w : World) (base : Nat) (t ty e : TypeId) (z : Value) (size bytes : Nat) (ht : P.underlying t = some (.slice e))
    (hinfo : (P.info? e).map (fun i => (i.zero, i.size, i.bytes)) = some (some z, size, bytes)) (hzs : z.cells.size = size) (hsz : 0 < size)
    {v : Value} {n : Nat} {xs : List Value} (hown : w.ownsRow base e size v n xs)
    {A : Option Addr} {m c : Nat} {news : List Value} (hr : Sl size w A m c news) (h1 : ∀ u ∈ news, u.oneCell' = true)
    (k : Nat) (hk : n + m = k) (ys : List Value) (hys : xs ++ news = ys)
    (hm : k ≤ 9223372036854775807) (hbytes : k * bytes ≤ 140737488355328) (hbase : base ≤ w.heap.size) :
    ∃ A' c' w', (Builtin.append_ #[t, t] ty #[v, .slice A m c]).run P w = .ok (.slice A' k c') w' ∧ w'.ownsRow base e size (.slice A' k c') k ys ∧
      w.grownBy w' v.ownBlock ∧ ((Value.slice A' k c').ownBlock = v.ownBlock ∨ (Value.slice A' k c').ownBlock = some w.heap.size) := by
  subst hk
  subst hys
  obtain ⟨i, hi, hz, hsize, hby⟩ := info_parts hinfo
  obtain ⟨v', w', h2, h3, h4, h5⟩ : ∃ v' w', (Builtin.append_ #[t, t] ty #[v, .slice A m c]).run P w = .ok v' w' ∧ w'.ownsRow base e size v' (n + m) (xs ++ news) ∧ w.grownBy w' v.ownBlock ∧ (v'.ownBlock = v.ownBlock ∨ v'.ownBlock = some w.heap.size) := by
    obtain ⟨hl, ⟨rfl, rfl, rfl⟩ | ⟨ad, rfl, hc⟩⟩ := hr
    · have hn : news = [] := List.eq_nil_of_length_eq_zero (by simpa using hl)
      subst hn
      refine ⟨v, w, run_append_owned_none w base t ty e i size ht hi v n xs hown, by simpa using hown, World.grownBy.refl w _, .inl rfl⟩
    · obtain ⟨v', w', hrun, k2, k3, _, k5⟩ := run_append_own_at (P := P) w base t ty e i z size bytes ht hi hz hsize hby hzs hsz v n xs hown ad m c news hl hc h1 (by simpa [maxLen] using hm) hbytes hbase
      exact ⟨v', w', hrun, k2, k3, k5⟩
  obtain ⟨A', c', rfl⟩ : ∃ A' c', v' = .slice A' (n + m) c' := by
    rcases h3.2 with ⟨rfl, hn⟩ | ⟨g, cap, cur, rfl, _⟩
    · exact ⟨none, 0, by rw [hn]⟩
    · exact ⟨_, _, rfl⟩
  exact ⟨A', c', w', h2, h3, h4, h5⟩
end

/-- In a walk: an append whose run is known. -/
theorem wpList_append_run {P : Program} {ops : Array Oper} {rest : List Oper} {o : Oper} {a : Act} {w w' : World} {Q : Exit → Act → World → Prop} {s x : Operand} {t : TypeId} {v u v' : Value}
    (hr : (Builtin.append_ #[t, t] o.type #[v, u]).run P w = .ok v' w') (hgd : o.guard = none)
    (ho : o.op = .call { callee := .builtin .append, args := #[s, x], argTypes := #[t, t] }) (hs : a.eval s = v) (hx : a.eval x = u)
    (h : wpList P ops Q rest (a.put o.dst v') w') : wpList P ops Q (o :: rest) a w := by
  refine wpList_plain hgd fun K hK => ?_
  unfold Oper.wp execOp
  simp only [ho, resolve, invoke, builtin, Sem.run_bind, Sem.run_pure, Result.andThen_ok, List.map_toArray, List.map_cons, List.map_nil, hs, hx, hr]
  exact hK _ _ h

/-- The same, where the operation is guarded and wanted. -/
theorem wpList_append_run_on {P : Program} {ops : Array Oper} {rest : List Oper} {o : Oper} {a : Act} {w w' : World} {Q : Exit → Act → World → Prop} {s x : Operand} {t : TypeId} {v u v' : Value}
    (hr : (Builtin.append_ #[t, t] o.type #[v, u]).run P w = .ok v' w') (hgd : Region.wanted o (yielded ops a.tmps) = true)
    (ho : o.op = .call { callee := .builtin .append, args := #[s, x], argTypes := #[t, t] }) (hs : a.eval s = v) (hx : a.eval x = u)
    (h : wpList P ops Q rest (a.put o.dst v') w') : wpList P ops Q (o :: rest) a w := by
  refine wpList_step fun K hK => ?_
  rw [if_pos hgd]
  unfold Oper.wp execOp
  simp only [ho, resolve, invoke, builtin, Sem.run_bind, Sem.run_pure, Result.andThen_ok, List.map_toArray, List.map_cons, List.map_nil, hs, hx, hr]
  exact hK _ _ h

/-- Behind an append onto a row that lies at 'base' or above, what lay below 'base' is as it was. -/
theorem bel_grown {a w w' : World} {v : Value} {base : Nat} {e : TypeId} {size n : Nat} {xs : List Value} (h : Below a.heap.size a w) (hown : w.ownsRow base e size v n xs) (hbase : a.heap.size ≤ base)
    (hg : w.grownBy w' v.ownBlock) : Below a.heap.size a w' :=
  h.grown hg h.size (fun k hk => by
    rcases hown.2 with ⟨rfl, _⟩ | ⟨g, cap, cur, rfl, hgb, _⟩
    · simp [Value.ownBlock] at hk
    · simp [Value.ownBlock] at hk; omega)

def ints (k : IntKind) (xs : List Int) : List Value := xs.map (Value.int k)
theorem ints_one (k : IntKind) (xs : List Int) : ∀ u ∈ ints k xs, u.oneCell' = true := by
  intro u hu
  simp only [ints, List.mem_map] at hu
  obtain ⟨x, _, rfl⟩ := hu
  rfl

theorem sl_of_row {k : IntKind} {w : World} {a : Option Addr} {len cap : Nat} {zs : List Int} (h : IsRow k w a len cap zs) : Sl 1 w a len cap (ints k (zs.take len)) ∧ (zs.take len).length = len ∧ len ≤ 9223372036854775807 ∧ ∀ n ∈ zs.take len, (Lit.int k n).wf = true := by
  rcases h with ⟨rfl, rfl, rfl, rfl⟩ | ⟨x, rfl, hl, hm, hz, hc, hw⟩
  · exact ⟨⟨rfl, .inl ⟨rfl, rfl, rfl⟩⟩, rfl, by omega, by simp⟩
  · have hlen : (zs.take len).length = len := by rw [List.length_take]; omega
    refine ⟨⟨by simp [ints]; omega, .inr ⟨x, rfl, fun j u hu => ?_⟩⟩, hlen, by simp only [maxLen] at hm; omega, fun n hn => hw n (List.mem_of_mem_take hn)⟩
    simp only [ints, List.getElem?_map, List.getElem?_take] at hu
    by_cases hj : j < len
    · rw [if_pos hj, List.getElem?_eq_getElem (by omega)] at hu
      simp at hu
      rw [hc j (by omega), ← hu]
      simp [List.getD, show j < zs.length by omega]
    · rw [if_neg hj] at hu; cases hu
end Go.Proofs.YtdlimgpmmkcgmaaGreat

namespace Go.Proofs.YtdlimgpmmkcgmaaGreat
open Go.RowKit

/-- Block g holds just the cells cs, none of them frozen. -/
def Has (w : World) (g : Nat) (cs : Array Value) : Prop := ∃ t, w.heap[g]? = some (.cells cs t (0, 0))

section
variable {w w' : World} {g : Nat} {cs : Array Value}
theorem Has.size (h : Has w g cs) : g < w.heap.size := by
  obtain ⟨t, h⟩ := h
  rcases Nat.lt_or_ge g w.heap.size with hlt | hge
  · exact hlt
  · rw [Array.getElem?_eq_none hge] at h; cases h
theorem Has.new (w : World) (t : TypeId) (cs : Array Value) {s : Nat} (hs : w.heap.size = s) : Has (w.alloc (.cells cs t)) s cs := by
  subst hs
  exact ⟨t, heap_alloc_new w _⟩
theorem Has.alloc (h : Has w g cs) (o : Obj) : Has (w.alloc o) g cs := by
  have hl := h.size
  obtain ⟨t, h⟩ := h
  exact ⟨t, (Below.heap_alloc w o g hl).trans h⟩
theorem Has.drewN (h : Has w g cs) (n : Nat) : Has (w.drewN n) g cs := h
theorem Has.drew (h : Has w g cs) : Has w.drew g cs := h
theorem Has.below (h : Has w g cs) (hb : Below w.heap.size w w') : Has w' g cs := by
  have hl := h.size
  obtain ⟨t, h⟩ := h
  exact ⟨t, (hb.block g hl).trans h⟩
theorem Has.far (h : Has w g cs) {p : Addr} (hp : g ≠ p.block) (u : Value) : Has (w.setCell p u) g cs := by
  obtain ⟨t, h⟩ := h
  exact ⟨t, (Below.heap_setCell w p u g hp).trans h⟩
theorem Has.set (h : Has w g cs) (i : Nat) (u : Value) : Has (w.setCell ⟨g, i, none⟩ u) g (cs.setIfInBounds i u) := by
  obtain ⟨t, h⟩ := h
  exact ⟨t, by simp [World.setCell, Array.getElem?_modify, h]⟩
theorem Has.cell (h : Has w g cs) (i : Nat) {v : Value} (hv : cs[i]? = some v) : w.cell? ⟨g, i, none⟩ = some v := by
  obtain ⟨t, h⟩ := h
  rw [cell_of_row w g i cs t (0, 0) h, hv]
theorem Has.frozen (h : Has w g cs) (i : Nat) : w.frozen? ⟨g, i, none⟩ = false := by
  obtain ⟨t, h⟩ := h
  simp [World.frozen?, h]
end
/-- The facts of a block of two cells, as the walk asks them. -/
theorem Has.two {w : World} {g : Nat} {x y : Value} (h : Has w g #[x, y]) : w.cell? ⟨g, 0, none⟩ = some x ∧ w.cell? ⟨g, 1, none⟩ = some y ∧ w.frozen? ⟨g, 0, none⟩ = false ∧ w.frozen? ⟨g, 1, none⟩ = false :=
  ⟨h.cell 0 rfl, h.cell 1 rfl, h.frozen 0, h.frozen 1⟩
end Go.Proofs.YtdlimgpmmkcgmaaGreat

namespace Go.Proofs.YtdlimgpmmkcgmaaGreat
open Go.RowKit
set_option linter.unusedVariables false
/-- A slot that holds a value known. -/
def Fix (v x : Value) (w : World) : Prop := v = x
theorem Fix.below {v x : Value} {w w' : World} (h : Fix v x w) (_ : Below w.heap.size w w') : Fix v x w' := h

section
variable {P : Program} {ops : Array Oper} {Q : Exit → Act → World → Prop} {md : Region.Mode} {S : World → Prop}

/-- What the word I asks of one operation. -/
def StepAt (P : Program) (md : Region.Mode) (ops : Array Oper) (Q : Exit → Act → World → Prop) (I : Array Bool → Act → World → Prop) (i : Nat) (o : Oper) : Prop :=
  ∀ listed a w, I listed a w → listed.getD i true = false → (∀ e ∈ o.after.toList, Region.binds md e = true → listed.getD e.on false = true) →
    ∀ K' : Act → World → Prop, Shut (∀ a w, I (listed.setIfInBounds i true) a w → K' a w) → if Region.wanted o (yielded ops a.tmps) = true then Oper.wp P o a w K' Q else K' (a.put o.dst undef) w
def StepsFrom (P : Program) (md : Region.Mode) (ops : Array Oper) (Q : Exit → Act → World → Prop) (I : Array Bool → Act → World → Prop) (k : Nat) (os : List Oper) : Prop :=
  ∀ j o, os[j]? = some o → StepAt P md ops Q I (k + j) o
theorem StepsFrom.nil {I : Array Bool → Act → World → Prop} {k : Nat} : StepsFrom P md ops Q I k [] := fun j o h => by simp at h
theorem StepsFrom.cons {I : Array Bool → Act → World → Prop} {k : Nat} {o : Oper} {os : List Oper} (h : StepAt P md ops Q I k o) (hs : StepsFrom P md ops Q I (k + 1) os) : StepsFrom P md ops Q I k (o :: os) := fun j p hp => by
  rcases j with _ | j
  · simp at hp; subst hp; exact h
  · have := hs j p (by simpa using hp)
    rwa [Nat.add_right_comm] at this

end
end Go.Proofs.YtdlimgpmmkcgmaaGreat
