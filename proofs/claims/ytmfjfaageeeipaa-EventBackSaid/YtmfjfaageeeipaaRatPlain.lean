/-
  Plain facts on numbers through others: lowest terms, which of them may be, what is as much. No program is named here.
-/
import Derived.Test.YtmfjfaageeeipaaPlain
namespace Go.Proofs.Ytmfjfaageeeipaa

/-- The ratio may be. -/
def mayB (n d : Int) : Bool := decide (-2147483647 ≤ n ∧ n ≤ 2147483647 ∧ 1 ≤ d ∧ d ≤ 2147483647 ∧ Int.gcd n d = 1)
/-- What Make tells: the error, and the two parts. -/
def mkC (n d : Int) : Int := if d ≤ 0 then 20 else if -2147483647 ≤ n / (Int.gcd n d : Int) ∧ n / (Int.gcd n d : Int) ≤ 2147483647 ∧ d / (Int.gcd n d : Int) ≤ 2147483647 then 0 else 10
def mkN (n d : Int) : Int := if mkC n d = 0 then n / (Int.gcd n d : Int) else 0
def mkD (n d : Int) : Int := if mkC n d = 0 then d / (Int.gcd n d : Int) else 0

theorem gcd_pos' {n d : Int} (h : 0 < d) : 0 < (Int.gcd n d : Int) := by
  have : 0 < Int.gcd n d := Int.gcd_pos_of_ne_zero_right n (by omega)
  omega
theorem gcd_n (n d : Int) : (Int.gcd n d : Int) * (n / (Int.gcd n d : Int)) = n := Int.mul_ediv_cancel' (Int.gcd_dvd_left n d)
theorem gcd_d (n d : Int) : (Int.gcd n d : Int) * (d / (Int.gcd n d : Int)) = d := Int.mul_ediv_cancel' (Int.gcd_dvd_right n d)
theorem low_d {n d : Int} (h : 0 < d) : 0 < d / (Int.gcd n d : Int) := by
  have h1 := gcd_d n d
  have h2 := gcd_pos' (n := n) h
  generalize hq : d / (Int.gcd n d : Int) = q at *
  generalize (Int.gcd n d : Int) = g at *
  rcases Int.lt_or_le 0 q with h3 | h3
  · exact h3
  · exfalso
    have : g * q ≤ g * 0 := Int.mul_le_mul_of_nonneg_left h3 (by omega)
    omega
theorem low_gcd {n d : Int} (h : 0 < d) : Int.gcd (n / (Int.gcd n d : Int)) (d / (Int.gcd n d : Int)) = 1 := by
  have h0 : 0 < Int.gcd n d := Int.gcd_pos_of_ne_zero_right n (by omega)
  rw [Int.gcd_ediv (Int.gcd_dvd_left n d) (Int.gcd_dvd_right n d)]
  simp
  exact Nat.div_self h0

theorem mkC_pos {n d : Int} (h : mkC n d = 0) : 0 < d := by
  unfold mkC at h
  split at h
  · omega
  · omega
theorem mk_may {n d : Int} (h : mkC n d = 0) : mayB (mkN n d) (mkD n d) = true := by
  have hd := mkC_pos h
  unfold mayB mkN mkD
  rw [if_pos h, if_pos h]
  have h' := h
  unfold mkC at h'
  rw [if_neg (by omega)] at h'
  split at h'
  · rename_i hb
    have := low_d (n := n) hd
    exact decide_eq_true ⟨hb.1, hb.2.1, by omega, hb.2.2, low_gcd hd⟩
  · omega
theorem mk_bad {n d : Int} (h : mkC n d ≠ 0) : mkN n d = 0 ∧ mkD n d = 0 := by
  unfold mkN mkD
  rw [if_neg h, if_neg h]
  exact ⟨rfl, rfl⟩
theorem may_zero : mayB 0 0 = false := by decide
theorem mk_mayB (n d : Int) : mayB (mkN n d) (mkD n d) = (mkC n d == 0) := by
  by_cases h : mkC n d = 0
  · rw [mk_may h, h]; rfl
  · rw [(mk_bad h).1, (mk_bad h).2, may_zero]
    simp [h]
theorem mkC_cases (n d : Int) : mkC n d = 0 ∨ mkC n d = 10 ∨ mkC n d = 20 := by
  unfold mkC
  split
  · simp
  · split <;> simp
/-- What is told is as much. -/
theorem mk_cross {n d : Int} (h : mkC n d = 0) : mkN n d * d = n * mkD n d := by
  unfold mkN mkD
  rw [if_pos h, if_pos h]
  have h1 := gcd_n n d
  have h2 := gcd_d n d
  generalize hq : d / (Int.gcd n d : Int) = q at *
  generalize hp : n / (Int.gcd n d : Int) = p at *
  generalize (Int.gcd n d : Int) = g at *
  rw [← h1, ← h2]
  ac_rfl

theorem may_bd {n d : Int} (h : mayB n d = true) : -2147483647 ≤ n ∧ n ≤ 2147483647 ∧ 1 ≤ d ∧ d ≤ 2147483647 ∧ Int.gcd n d = 1 := of_decide_eq_true h

theorem dvd_low {k n m : Int} (h : k ∣ n * m) (hg : Int.gcd k n = 1) : k ∣ m := by
  have h1 := Int.dvd_gcd_mul_iff_dvd_mul.2 h
  rw [hg] at h1
  simpa using h1
/-- What is as much, in lowest terms, is one. -/
theorem low_unique {x y p q : Int} (hy : 0 < y) (hq : 0 < q) (h1 : Int.gcd x y = 1) (h2 : Int.gcd p q = 1) (h : x * q = p * y) : x = p ∧ y = q := by
  have d1 : y ∣ q := by
    have : y ∣ x * q := ⟨p, by rw [h, Int.mul_comm]⟩
    exact dvd_low this (by rw [Int.gcd_comm]; exact h1)
  have d2 : q ∣ y := by
    have : q ∣ p * y := ⟨x, by rw [← h, Int.mul_comm]⟩
    exact dvd_low this (by rw [Int.gcd_comm]; exact h2)
  have e : y = q := Int.dvd_antisymm (by omega) (by omega) d1 d2
  subst e
  exact ⟨Int.eq_of_mul_eq_mul_right (by omega) h, rfl⟩

/-- A ratio that may be, and is as much as n through d, is what is told. -/
theorem mk_of {x y n d : Int} (hm : mayB x y = true) (hd : 0 < d) (h : x * d = n * y) : mkC n d = 0 ∧ mkN n d = x ∧ mkD n d = y := by
  obtain ⟨b1, b2, b3, b4, b5⟩ := may_bd hm
  have g1 := gcd_n n d
  have g2 := gcd_d n d
  have g3 := gcd_pos' (n := n) hd
  have g4 := low_gcd (n := n) hd
  have g5 := low_d (n := n) hd
  have hx : x * (d / (Int.gcd n d : Int)) = (n / (Int.gcd n d : Int)) * y := by
    generalize d / (Int.gcd n d : Int) = q at *
    generalize n / (Int.gcd n d : Int) = p at *
    generalize (Int.gcd n d : Int) = g at *
    rw [← g1, ← g2] at h
    have : g * (x * q) = g * (p * y) := by rw [Int.mul_left_comm, h, Int.mul_assoc]
    exact Int.eq_of_mul_eq_mul_left (by omega) this
  obtain ⟨e1, e2⟩ := low_unique (by omega) g5 b5 g4 hx
  have hc : mkC n d = 0 := by
    unfold mkC
    rw [if_neg (by omega), ← e1, ← e2, if_pos ⟨b1, b2, b4⟩]
  refine ⟨hc, ?_, ?_⟩
  · unfold mkN; rw [if_pos hc, ← e1]
  · unfold mkD; rw [if_pos hc, ← e2]
theorem mk_self {x y : Int} (hm : mayB x y = true) : mkC x y = 0 ∧ mkN x y = x ∧ mkD x y = y := mk_of hm (by have := may_bd hm; omega) rfl
/-- The same ratio, of numbers that are as much. -/
theorem mk_scale (n d k : Int) (hk : 0 < k) : mkC (n * k) (d * k) = mkC n d ∧ mkN (n * k) (d * k) = mkN n d ∧ mkD (n * k) (d * k) = mkD n d := by
  have hs : (d * k ≤ 0) = (d ≤ 0) := by
    apply propext
    constructor
    · intro h
      rcases Int.lt_or_le 0 d with h3 | h3
      · have := Int.mul_pos h3 hk; omega
      · exact h3
    · intro h
      have := Int.mul_le_mul_of_nonneg_right h (show 0 ≤ k by omega)
      omega
  have hg : (Int.gcd (n * k) (d * k) : Int) = (Int.gcd n d : Int) * k := by
    rw [Int.gcd_mul_right]
    have : (k.natAbs : Int) = k := by omega
    rw [Int.natCast_mul, this]
  have h1 : n * k / (Int.gcd (n * k) (d * k) : Int) = n / (Int.gcd n d : Int) := by rw [hg]; exact Int.mul_ediv_mul_of_pos_left _ _ hk
  have h2 : d * k / (Int.gcd (n * k) (d * k) : Int) = d / (Int.gcd n d : Int) := by rw [hg]; exact Int.mul_ediv_mul_of_pos_left _ _ hk
  have hc : mkC (n * k) (d * k) = mkC n d := by unfold mkC; rw [h1, h2]; simp only [hs]
  refine ⟨hc, ?_, ?_⟩
  · unfold mkN; rw [hc, h1]
  · unfold mkD; rw [hc, h2]

theorem may_neg (n d : Int) : mayB (-n) d = mayB n d := by
  unfold mayB
  rw [Int.neg_gcd]
  apply decide_eq_decide.2
  constructor <;> rintro ⟨a, b, c⟩ <;> exact ⟨by omega, by omega, c⟩
theorem may_turn {n d : Int} (h : mayB n d = true) (hn : 1 ≤ n) : mayB d n = true := by
  obtain ⟨b1, b2, b3, b4, b5⟩ := may_bd h
  exact decide_eq_true ⟨by omega, by omega, hn, b2, by rw [Int.gcd_comm]; exact b5⟩

/-- Bounds of products of parts. -/
theorem part_bd {a b : Int} (ha : -2147483647 ≤ a) (ha' : a ≤ 2147483647) (hb : -2147483647 ≤ b) (hb' : b ≤ 2147483647) : -4611686014132420609 ≤ a * b ∧ a * b ≤ 4611686014132420609 := by
  have h : (a * b).natAbs = a.natAbs * b.natAbs := Int.natAbs_mul a b
  have : a.natAbs * b.natAbs ≤ 2147483647 * 2147483647 := Nat.mul_le_mul (by omega) (by omega)
  omega

theorem prod_bd {a b : Int} (ha : -2147483648 ≤ a) (ha' : a ≤ 2147483648) (hb : -2147483648 ≤ b) (hb' : b ≤ 2147483648) : -4611686018427387904 ≤ a * b ∧ a * b ≤ 4611686018427387904 := by
  have h : (a * b).natAbs = a.natAbs * b.natAbs := Int.natAbs_mul a b
  have : a.natAbs * b.natAbs ≤ 2147483648 * 2147483648 := Nat.mul_le_mul (by omega) (by omega)
  omega

/-- The first of a ratio with the same value as the sum, and so on: two ratios, and what is made of them. -/
structure Rat2 where
  n : Int
  d : Int
  c : Int
def badR : Rat2 := ⟨0, 0, 20⟩
def mkR (n d : Int) : Rat2 := ⟨mkN n d, mkD n d, mkC n d⟩
def minusR (a b c d : Int) : Rat2 := if mayB a b && mayB c d then mkR (a * d - c * b) (b * d) else badR
def plusR (a b c d : Int) : Rat2 := if mayB a b && mayB c d then mkR (a * d + c * b) (b * d) else badR
def mulR (a b c d : Int) : Rat2 := if mayB a b && mayB c d then mkR (a * c) (b * d) else badR
def divR (a b c d : Int) : Rat2 := if mayB a b && mayB c d then mkR (a * d) (b * c) else badR
def lessB (a b c d : Int) : Bool := mayB a b && mayB c d && decide (a * d < c * b)

theorem mkR_may (n d : Int) : mayB (mkR n d).n (mkR n d).d = ((mkR n d).c == 0) := mk_mayB n d
theorem bad_may : mayB badR.n badR.d = (badR.c == 0) := rfl
theorem minusR_may (a b c d : Int) : mayB (minusR a b c d).n (minusR a b c d).d = ((minusR a b c d).c == 0) := by unfold minusR; split; exact mkR_may _ _; exact bad_may
theorem plusR_may (a b c d : Int) : mayB (plusR a b c d).n (plusR a b c d).d = ((plusR a b c d).c == 0) := by unfold plusR; split; exact mkR_may _ _; exact bad_may
theorem mulR_may (a b c d : Int) : mayB (mulR a b c d).n (mulR a b c d).d = ((mulR a b c d).c == 0) := by unfold mulR; split; exact mkR_may _ _; exact bad_may
theorem divR_may (a b c d : Int) : mayB (divR a b c d).n (divR a b c d).d = ((divR a b c d).c == 0) := by unfold divR; split; exact mkR_may _ _; exact bad_may

theorem plusR_comm (a b c d : Int) : plusR a b c d = plusR c d a b := by
  unfold plusR
  rw [Bool.and_comm, Int.add_comm, Int.mul_comm b d]
theorem mulR_comm (a b c d : Int) : mulR a b c d = mulR c d a b := by
  unfold mulR
  rw [Bool.and_comm, Int.mul_comm a c, Int.mul_comm b d]

/-- What is added is taken away again. -/
theorem plus_back {a b c d : Int} (h : (plusR a b c d).c = 0) : minusR (plusR a b c d).n (plusR a b c d).d c d = ⟨a, b, 0⟩ := by
  by_cases hm : (mayB a b && mayB c d) = true
  · have hs : plusR a b c d = mkR (a * d + c * b) (b * d) := if_pos hm
    rw [hs] at h ⊢
    simp only [Bool.and_eq_true] at hm
    obtain ⟨m1, m2⟩ := hm
    have b1 := may_bd m1
    have b2 := may_bd m2
    have h0 : mkC (a * d + c * b) (b * d) = 0 := h
    have m3 := mk_may h0
    have x := mk_cross h0
    have b3 := may_bd m3
    show minusR (mkN (a * d + c * b) (b * d)) (mkD (a * d + c * b) (b * d)) c d = _
    generalize mkN (a * d + c * b) (b * d) = s at *
    generalize mkD (a * d + c * b) (b * d) = t at *
    unfold minusR
    rw [m3, m2, if_pos (by rfl)]
    have hp : 0 < t * d := Int.mul_pos (by omega) (by omega)
    have e : a * (t * d) = (s * d - c * t) * b := by
      have x' : s * (b * d) = a * d * t + c * b * t := by rw [x, Int.add_mul]
      have : (s * d - c * t) * b = s * (b * d) - c * b * t := by
        rw [Int.sub_mul]
        ac_rfl
      rw [this, x', Int.add_sub_cancel]
      ac_rfl
    obtain ⟨k1, k2, k3⟩ := mk_of m1 hp e
    unfold mkR
    rw [k1, k2, k3]
  · have hs : plusR a b c d = badR := if_neg hm
    rw [hs] at h
    exact absurd h (by decide)
/-- What is multiplied is divided again, by what is above 0. -/
theorem mul_back_r {a b c d : Int} (h : (mulR a b c d).c = 0) (hc : 1 ≤ c) : divR (mulR a b c d).n (mulR a b c d).d c d = ⟨a, b, 0⟩ := by
  by_cases hm : (mayB a b && mayB c d) = true
  · have hs : mulR a b c d = mkR (a * c) (b * d) := if_pos hm
    rw [hs] at h ⊢
    simp only [Bool.and_eq_true] at hm
    obtain ⟨m1, m2⟩ := hm
    have b1 := may_bd m1
    have b2 := may_bd m2
    have h0 : mkC (a * c) (b * d) = 0 := h
    have m3 := mk_may h0
    have x := mk_cross h0
    have b3 := may_bd m3
    show divR (mkN (a * c) (b * d)) (mkD (a * c) (b * d)) c d = _
    generalize mkN (a * c) (b * d) = s at *
    generalize mkD (a * c) (b * d) = t at *
    unfold divR
    rw [m3, m2, if_pos (by rfl)]
    have hp : 0 < t * c := Int.mul_pos (by omega) (by omega)
    have e : a * (t * c) = s * d * b := by
      have : s * d * b = s * (b * d) := by ac_rfl
      rw [this, x]
      ac_rfl
    obtain ⟨k1, k2, k3⟩ := mk_of m1 hp e
    unfold mkR
    rw [k1, k2, k3]
  · have hs : mulR a b c d = badR := if_neg hm
    rw [hs] at h
    exact absurd h (by decide)
/-- The sign of what is told. -/
theorem mk_sign {n d : Int} (h : mkC n d = 0) : decide (mkN n d < 0) = decide (n < 0) := by
  have hd := mkC_pos h
  have x := mk_cross h
  have b := may_bd (mk_may h)
  generalize mkN n d = s at *
  generalize mkD n d = t at *
  apply decide_eq_decide.2
  constructor
  · intro hs
    rcases Int.lt_or_le n 0 with h1 | h1
    · exact h1
    · have := Int.mul_nonneg h1 (show 0 ≤ t by omega)
      have := Int.mul_neg_of_neg_of_pos hs hd
      omega
  · intro hn
    rcases Int.lt_or_le s 0 with h1 | h1
    · exact h1
    · have := Int.mul_nonneg h1 (show 0 ≤ d by omega)
      have := Int.mul_neg_of_neg_of_pos hn (show 0 < t by omega)
      omega

/-- The sum of a list, from s through t on; all of them may be. -/
def sumRGo : Rat2 → List (Int × Int) → Rat2
  | s, [] => s
  | s, x :: l => if s.c = 0 then sumRGo (plusR s.n s.d x.1 x.2) l else s
def allMay (l : List (Int × Int)) : Bool := l.all fun x => mayB x.1 x.2
def sumR (l : List (Int × Int)) : Rat2 := if allMay l then sumRGo ⟨0, 1, 0⟩ l else badR

theorem sumRGo_bad {s : Rat2} (h : s.c ≠ 0) (l : List (Int × Int)) : sumRGo s l = s := by
  cases l with
  | nil => rfl
  | cons x l => unfold sumRGo; rw [if_neg h]
theorem sumRGo_append (s : Rat2) (l m : List (Int × Int)) : sumRGo s (l ++ m) = sumRGo (sumRGo s l) m := by
  induction l generalizing s with
  | nil => rfl
  | cons x l ih =>
    by_cases h : s.c = 0
    · show sumRGo s (x :: (l ++ m)) = sumRGo (sumRGo s (x :: l)) m
      rw [show sumRGo s (x :: (l ++ m)) = sumRGo (plusR s.n s.d x.1 x.2) (l ++ m) from if_pos h, show sumRGo s (x :: l) = sumRGo (plusR s.n s.d x.1 x.2) l from if_pos h]
      exact ih _
    · rw [sumRGo_bad h, sumRGo_bad h, sumRGo_bad h]
theorem plus_nil {c d : Int} (h : mayB c d = true) : plusR 0 1 c d = ⟨c, d, 0⟩ := by
  unfold plusR
  rw [h]
  have e1 : (mayB 0 1 && true) = true := by decide
  rw [if_pos e1, Int.zero_mul, Int.zero_add, Int.mul_one, Int.one_mul]
  obtain ⟨k1, k2, k3⟩ := mk_self h
  unfold mkR
  rw [k1, k2, k3]
theorem sumR_two (a b c d : Int) : sumR [(a, b), (c, d)] = plusR a b c d := by
  unfold sumR allMay
  by_cases h : mayB a b = true
  · by_cases h' : mayB c d = true
    · simp only [List.all_cons, h, h', List.all_nil, Bool.and_true, if_true]
      simp only [sumRGo, if_true]
      rw [plus_nil h]
      simp
    · have e : mayB c d = false := by simpa using h'
      simp [List.all_cons, h, e, plusR]
  · have e : mayB a b = false := by simpa using h
    simp [List.all_cons, e, plusR]
theorem sumRGo_may {s : Rat2} (l : List (Int × Int)) (h : mayB s.n s.d = (s.c == 0)) : mayB (sumRGo s l).n (sumRGo s l).d = ((sumRGo s l).c == 0) := by
  induction l generalizing s with
  | nil => exact h
  | cons x l ih =>
    by_cases hc : s.c = 0
    · rw [show sumRGo s (x :: l) = sumRGo (plusR s.n s.d x.1 x.2) l from if_pos hc]
      exact ih (plusR_may _ _ _ _)
    · rw [sumRGo_bad hc]; exact h
end Go.Proofs.Ytmfjfaageeeipaa
