/-
  Plain facts on whole numbers: quotients downwards, products that may go over, greatest common divisors. No program is named here.
  Plain facts on numbers through others: lowest terms, which of them may be, what is as much. No program is named here.
  Numbers and texts as bytes: no program here. A number's bytes: how many, and its digits to 256, the highest first.
  Numbers of parts: a part is so many numbers, or a list of rows of so many numbers, with how many rows ahead. What is written so is read in one way. No program here.
  Setups: which may be, their numbers, and that they are read in one way. No program here.
  Setups read off a list of numbers, place by place. No program here.
  Events: which are fair, their numbers and bytes, and their order. No program here.
-/
import Derived.RowKit
import Derived.IntWalk
namespace Go.Proofs.Ytoconmcmnikdnaa

theorem ediv_bd {a b : Int} (hb : 1 ≤ b) (h1 : -9223372036854775808 ≤ a) (h2 : a ≤ 9223372036854775807) :
    -9223372036854775808 ≤ a / b ∧ a / b ≤ 9223372036854775807 := by
  have e := Int.mul_ediv_add_emod a b
  have l1 := Int.emod_nonneg a (show b ≠ 0 by omega)
  have l2 := Int.emod_lt_of_pos a (show 0 < b by omega)
  generalize a / b = q at *
  generalize a % b = r at *
  constructor
  · rcases Int.lt_or_le q (-9223372036854775808) with h | h
    · exfalso
      have : b * q ≤ b * (-9223372036854775809) := Int.mul_le_mul_of_nonneg_left (by omega) (by omega)
      omega
    · exact h
  · rcases Int.lt_or_le 9223372036854775807 q with h | h
    · exfalso
      have : b * 9223372036854775808 ≤ b * q := Int.mul_le_mul_of_nonneg_left (by omega) (by omega)
      omega
    · exact h

theorem tdiv_in {a p : Int} (hm : a ≠ -1) (h1 : -9223372036854775808 ≤ p) (h2 : p ≤ 9223372036854775807) : -9223372036854775808 ≤ p.tdiv a ∧ p.tdiv a ≤ 9223372036854775807 := by
  have e : (p.tdiv a).natAbs = p.natAbs / a.natAbs := Int.natAbs_tdiv p a
  by_cases h : p = -9223372036854775808
  · by_cases h0 : a = 1
    · subst h0; simp; omega
    · by_cases hz : a = 0
      · subst hz; simp
      · have : p.natAbs / a.natAbs ≤ p.natAbs / 2 := Nat.div_le_div_left (by omega) (by omega)
        omega
  · have : p.natAbs / a.natAbs ≤ p.natAbs := Nat.div_le_self _ _
    omega
end Go.Proofs.Ytoconmcmnikdnaa

namespace Go.Proofs.Ytoconmcmnikdnaa

/-- The ratio may be. -/
def mayB (n d : Int) : Bool := decide (-2147483647 ≤ n ∧ n ≤ 2147483647 ∧ 1 ≤ d ∧ d ≤ 2147483647 ∧ Int.gcd n d = 1)
/-- What Make tells: the error, and the two parts. -/
def mkC (n d : Int) : Int := if d ≤ 0 then 20 else if -2147483647 ≤ n / (Int.gcd n d : Int) ∧ n / (Int.gcd n d : Int) ≤ 2147483647 ∧ d / (Int.gcd n d : Int) ≤ 2147483647 then 0 else 10
def mkN (n d : Int) : Int := if mkC n d = 0 then n / (Int.gcd n d : Int) else 0
def mkD (n d : Int) : Int := if mkC n d = 0 then d / (Int.gcd n d : Int) else 0

theorem gcd_pos' {n d : Int} (h : 0 < d) : 0 < (Int.gcd n d : Int) := by
  have : 0 < Int.gcd n d := Int.gcd_pos_of_ne_zero_right n (by omega)
  omega
theorem gcd_n (n d : Int) : (Int.gcd n d : Int) * (n / (Int.gcd n d : Int)) = n := Int.mul_ediv_cancel' (Int.gcd_dvd_left n d)
theorem gcd_d (n d : Int) : (Int.gcd n d : Int) * (d / (Int.gcd n d : Int)) = d := Int.mul_ediv_cancel' (Int.gcd_dvd_right n d)
theorem low_d {n d : Int} (h : 0 < d) : 0 < d / (Int.gcd n d : Int) := by
  have h1 := gcd_d n d
  have h2 := gcd_pos' (n := n) h
  generalize hq : d / (Int.gcd n d : Int) = q at *
  generalize (Int.gcd n d : Int) = g at *
  rcases Int.lt_or_le 0 q with h3 | h3
  · exact h3
  · exfalso
    have : g * q ≤ g * 0 := Int.mul_le_mul_of_nonneg_left h3 (by omega)
    omega
theorem low_gcd {n d : Int} (h : 0 < d) : Int.gcd (n / (Int.gcd n d : Int)) (d / (Int.gcd n d : Int)) = 1 := by
  have h0 : 0 < Int.gcd n d := Int.gcd_pos_of_ne_zero_right n (by omega)
  rw [Int.gcd_ediv (Int.gcd_dvd_left n d) (Int.gcd_dvd_right n d)]
  simp
  exact Nat.div_self h0

theorem mkC_pos {n d : Int} (h : mkC n d = 0) : 0 < d := by
  unfold mkC at h
  split at h
  · omega
  · omega
theorem mk_may {n d : Int} (h : mkC n d = 0) : mayB (mkN n d) (mkD n d) = true := by
  have hd := mkC_pos h
  unfold mayB mkN mkD
  rw [if_pos h, if_pos h]
  have h' := h
  unfold mkC at h'
  rw [if_neg (by omega)] at h'
  split at h'
  · rename_i hb
    have := low_d (n := n) hd
    exact decide_eq_true ⟨hb.1, hb.2.1, by omega, hb.2.2, low_gcd hd⟩
  · omega
theorem mk_bad {n d : Int} (h : mkC n d ≠ 0) : mkN n d = 0 ∧ mkD n d = 0 := by
  unfold mkN mkD
  rw [if_neg h, if_neg h]
  exact ⟨rfl, rfl⟩
theorem may_zero : mayB 0 0 = false := by decide
theorem mk_mayB (n d : Int) : mayB (mkN n d) (mkD n d) = (mkC n d == 0) := by
  by_cases h : mkC n d = 0
  · rw [mk_may h, h]; rfl
  · rw [(mk_bad h).1, (mk_bad h).2, may_zero]
    simp [h]
theorem mkC_cases (n d : Int) : mkC n d = 0 ∨ mkC n d = 10 ∨ mkC n d = 20 := by
  unfold mkC
  split
  · simp
  · split <;> simp
/-- What is told is as much. -/
theorem mk_cross {n d : Int} (h : mkC n d = 0) : mkN n d * d = n * mkD n d := by
  unfold mkN mkD
  rw [if_pos h, if_pos h]
  have h1 := gcd_n n d
  have h2 := gcd_d n d
  generalize hq : d / (Int.gcd n d : Int) = q at *
  generalize hp : n / (Int.gcd n d : Int) = p at *
  generalize (Int.gcd n d : Int) = g at *
  rw [← h1, ← h2]
  ac_rfl

theorem may_bd {n d : Int} (h : mayB n d = true) : -2147483647 ≤ n ∧ n ≤ 2147483647 ∧ 1 ≤ d ∧ d ≤ 2147483647 ∧ Int.gcd n d = 1 := of_decide_eq_true h

theorem dvd_low {k n m : Int} (h : k ∣ n * m) (hg : Int.gcd k n = 1) : k ∣ m := by
  have h1 := Int.dvd_gcd_mul_iff_dvd_mul.2 h
  rw [hg] at h1
  simpa using h1
/-- What is as much, in lowest terms, is one. -/
theorem low_unique {x y p q : Int} (hy : 0 < y) (hq : 0 < q) (h1 : Int.gcd x y = 1) (h2 : Int.gcd p q = 1) (h : x * q = p * y) : x = p ∧ y = q := by
  have d1 : y ∣ q := by
    have : y ∣ x * q := ⟨p, by rw [h, Int.mul_comm]⟩
    exact dvd_low this (by rw [Int.gcd_comm]; exact h1)
  have d2 : q ∣ y := by
    have : q ∣ p * y := ⟨x, by rw [← h, Int.mul_comm]⟩
    exact dvd_low this (by rw [Int.gcd_comm]; exact h2)
  have e : y = q := Int.dvd_antisymm (by omega) (by omega) d1 d2
  subst e
  exact ⟨Int.eq_of_mul_eq_mul_right (by omega) h, rfl⟩

/-- A ratio that may be, and is as much as n through d, is what is told. -/
theorem mk_of {x y n d : Int} (hm : mayB x y = true) (hd : 0 < d) (h : x * d = n * y) : mkC n d = 0 ∧ mkN n d = x ∧ mkD n d = y := by
  obtain ⟨b1, b2, b3, b4, b5⟩ := may_bd hm
  have g1 := gcd_n n d
  have g2 := gcd_d n d
  have g3 := gcd_pos' (n := n) hd
  have g4 := low_gcd (n := n) hd
  have g5 := low_d (n := n) hd
  have hx : x * (d / (Int.gcd n d : Int)) = (n / (Int.gcd n d : Int)) * y := by
    generalize d / (Int.gcd n d : Int) = q at *
    generalize n / (Int.gcd n d : Int) = p at *
    generalize (Int.gcd n d : Int) = g at *
    rw [← g1, ← g2] at h
    have : g * (x * q) = g * (p * y) := by rw [Int.mul_left_comm, h, Int.mul_assoc]
    exact Int.eq_of_mul_eq_mul_left (by omega) this
  obtain ⟨e1, e2⟩ := low_unique (by omega) g5 b5 g4 hx
  have hc : mkC n d = 0 := by
    unfold mkC
    rw [if_neg (by omega), ← e1, ← e2, if_pos ⟨b1, b2, b4⟩]
  refine ⟨hc, ?_, ?_⟩
  · unfold mkN; rw [if_pos hc, ← e1]
  · unfold mkD; rw [if_pos hc, ← e2]
theorem mk_self {x y : Int} (hm : mayB x y = true) : mkC x y = 0 ∧ mkN x y = x ∧ mkD x y = y := mk_of hm (by have := may_bd hm; omega) rfl
theorem may_neg (n d : Int) : mayB (-n) d = mayB n d := by
  unfold mayB
  rw [Int.neg_gcd]
  apply decide_eq_decide.2
  constructor <;> rintro ⟨a, b, c⟩ <;> exact ⟨by omega, by omega, c⟩
/-- Bounds of products of parts. -/
theorem part_bd {a b : Int} (ha : -2147483647 ≤ a) (ha' : a ≤ 2147483647) (hb : -2147483647 ≤ b) (hb' : b ≤ 2147483647) : -4611686014132420609 ≤ a * b ∧ a * b ≤ 4611686014132420609 := by
  have h : (a * b).natAbs = a.natAbs * b.natAbs := Int.natAbs_mul a b
  have : a.natAbs * b.natAbs ≤ 2147483647 * 2147483647 := Nat.mul_le_mul (by omega) (by omega)
  omega

/-- The first of a ratio with the same value as the sum, and so on: two ratios, and what is made of them. -/
structure Rat2 where
  n : Int
  d : Int
  c : Int
def badR : Rat2 := ⟨0, 0, 20⟩
def mkR (n d : Int) : Rat2 := ⟨mkN n d, mkD n d, mkC n d⟩
def minusR (a b c d : Int) : Rat2 := if mayB a b && mayB c d then mkR (a * d - c * b) (b * d) else badR
def plusR (a b c d : Int) : Rat2 := if mayB a b && mayB c d then mkR (a * d + c * b) (b * d) else badR
def mulR (a b c d : Int) : Rat2 := if mayB a b && mayB c d then mkR (a * c) (b * d) else badR
def lessB (a b c d : Int) : Bool := mayB a b && mayB c d && decide (a * d < c * b)

theorem mkR_may (n d : Int) : mayB (mkR n d).n (mkR n d).d = ((mkR n d).c == 0) := mk_mayB n d
theorem bad_may : mayB badR.n badR.d = (badR.c == 0) := rfl
theorem minusR_may (a b c d : Int) : mayB (minusR a b c d).n (minusR a b c d).d = ((minusR a b c d).c == 0) := by unfold minusR; split; exact mkR_may _ _; exact bad_may
theorem plusR_may (a b c d : Int) : mayB (plusR a b c d).n (plusR a b c d).d = ((plusR a b c d).c == 0) := by unfold plusR; split; exact mkR_may _ _; exact bad_may
theorem mulR_may (a b c d : Int) : mayB (mulR a b c d).n (mulR a b c d).d = ((mulR a b c d).c == 0) := by unfold mulR; split; exact mkR_may _ _; exact bad_may
theorem plusR_comm (a b c d : Int) : plusR a b c d = plusR c d a b := by
  unfold plusR
  rw [Bool.and_comm, Int.add_comm, Int.mul_comm b d]
theorem mulR_comm (a b c d : Int) : mulR a b c d = mulR c d a b := by
  unfold mulR
  rw [Bool.and_comm, Int.mul_comm a c, Int.mul_comm b d]

/-- The sum of a list, from s through t on; all of them may be. -/
def sumRGo : Rat2 → List (Int × Int) → Rat2
  | s, [] => s
  | s, x :: l => if s.c = 0 then sumRGo (plusR s.n s.d x.1 x.2) l else s
def allMay (l : List (Int × Int)) : Bool := l.all fun x => mayB x.1 x.2
def sumR (l : List (Int × Int)) : Rat2 := if allMay l then sumRGo ⟨0, 1, 0⟩ l else badR

theorem sumRGo_bad {s : Rat2} (h : s.c ≠ 0) (l : List (Int × Int)) : sumRGo s l = s := by
  cases l with
  | nil => rfl
  | cons x l => unfold sumRGo; rw [if_neg h]
theorem sumRGo_append (s : Rat2) (l m : List (Int × Int)) : sumRGo s (l ++ m) = sumRGo (sumRGo s l) m := by
  induction l generalizing s with
  | nil => rfl
  | cons x l ih =>
    by_cases h : s.c = 0
    · show sumRGo s (x :: (l ++ m)) = sumRGo (sumRGo s (x :: l)) m
      rw [show sumRGo s (x :: (l ++ m)) = sumRGo (plusR s.n s.d x.1 x.2) (l ++ m) from if_pos h, show sumRGo s (x :: l) = sumRGo (plusR s.n s.d x.1 x.2) l from if_pos h]
      exact ih _
    · rw [sumRGo_bad h, sumRGo_bad h, sumRGo_bad h]
theorem plus_nil {c d : Int} (h : mayB c d = true) : plusR 0 1 c d = ⟨c, d, 0⟩ := by
  unfold plusR
  rw [h]
  have e1 : (mayB 0 1 && true) = true := by decide
  rw [if_pos e1, Int.zero_mul, Int.zero_add, Int.mul_one, Int.one_mul]
  obtain ⟨k1, k2, k3⟩ := mk_self h
  unfold mkR
  rw [k1, k2, k3]
theorem sumR_two (a b c d : Int) : sumR [(a, b), (c, d)] = plusR a b c d := by
  unfold sumR allMay
  by_cases h : mayB a b = true
  · by_cases h' : mayB c d = true
    · simp only [List.all_cons, h, h', List.all_nil, Bool.and_true, if_true]
      simp only [sumRGo, if_true]
      rw [plus_nil h]
      simp
    · have e : mayB c d = false := by simpa using h'
      simp [List.all_cons, h, e, plusR]
  · have e : mayB a b = false := by simpa using h
    simp [List.all_cons, e, plusR]
end Go.Proofs.Ytoconmcmnikdnaa

namespace Go.Proofs.Ytoconmcmnikdnaa
set_option linter.unusedVariables false
set_option linter.unusedSimpArgs false

/-- A number's digits to 256, the highest first. -/
def digs (n : Nat) : List Nat := if h : n = 0 then [] else digs (n / 256) ++ [n % 256]
termination_by n
decreasing_by omega
/-! ### Bytes -/
def bytN (l : List Nat) : List (BitVec 8) := l.map (BitVec.ofNat 8)
/-- A number's bytes. -/
def oneB (n : Nat) : List (BitVec 8) := BitVec.ofNat 8 (digs n).length :: bytN (digs n)
def putB (l : List Nat) : List (BitVec 8) := (l.map oneB).flatten
/-! ### The order of bytes -/
end Go.Proofs.Ytoconmcmnikdnaa

namespace Go.Proofs.Ytoconmcmnikdnaa
set_option linter.unusedVariables false
set_option linter.unusedSimpArgs false

inductive GPart where
  | fix (k : Nat)
  | tab (k : Nat)
abbrev Rows2 := List (List Int)
def GPart.nums : GPart → Rows2 → List Int
  | .fix _, t => t.flatten
  | .tab _, t => (t.length : Int) :: t.flatten
/-! ### Bytes -/
/-- Numbers from 0 on as bytes. -/
def bytesN (l : List Int) : List (BitVec 8) := putB (l.map Int.toNat)
/-! ### The numbers that bytes are -/
end Go.Proofs.Ytoconmcmnikdnaa

namespace Go.Proofs.Ytoconmcmnikdnaa
set_option linter.unusedVariables false
set_option linter.unusedSimpArgs false

/-- A setup: its lists as rows of numbers. -/
structure SetP where
  places : Int
  ways : Rows2
  pn : Int
  pd : Int
  elements : Rows2
  classes : Rows2
  gears : Rows2
  allow : Int
  unit : Int
  cap : Int
  paid : Int
  aft : Int
  brk : Int
  reg : Int
  over : Int
  week : Int
  nfrom : Int
  nto : Int
  rates : List Int
  diff : Int
  least : Int
  fault : Int
  tiers : Rows2
def SetP.none : SetP := ⟨0, [], 0, 0, [], [], [], 0, 0, 0, 0, 0, 0, 0, 0, 0, 0, 0, [], 0, 0, 0, []⟩
/-- Its rows are as wide as they should. -/
structure SetP.Wide (s : SetP) : Prop where
  ways : ∀ r ∈ s.ways, r.length = 3
  elements : ∀ r ∈ s.elements, r.length = 4
  classes : ∀ r ∈ s.classes, r.length = 2
  gears : ∀ r ∈ s.gears, r.length = 2
  tiers : ∀ r ∈ s.tiers, r.length = 2
/-- A setup's numbers. -/
def SetP.nums (s : SetP) : List Int :=
  s.places :: (s.ways.length : Int) :: (s.ways.flatten ++ (s.pn :: s.pd :: (s.elements.length : Int) :: (s.elements.flatten ++ ((s.classes.length : Int) :: (s.classes.flatten ++ ((s.gears.length : Int) :: (s.gears.flatten ++
    (s.allow :: s.unit :: s.cap :: s.paid :: s.aft :: s.brk :: s.reg :: s.over :: s.week :: s.nfrom :: s.nto :: (s.rates.length : Int) :: (s.rates ++ (s.diff :: s.least :: s.fault :: (s.tiers.length : Int) :: s.tiers.flatten))))))))))
theorem flat_ones : ∀ l : List Int, (l.map fun n => [n]).flatten = l
  | [] => rfl
  | n :: l => by simp [flat_ones l]
/-! ### Which may be -/
def shareB (n d : Int) : Bool := mayB n d && decide (0 ≤ n)
def wayP (p : Int) (r : List Int) : Prop := 0 ≤ r.getD 0 0 ∧ 0 ≤ r.getD 1 0 ∧ r.getD 0 0 < p ∧ r.getD 1 0 < p ∧ r.getD 0 0 ≠ r.getD 1 0 ∧ 1 ≤ r.getD 2 0 ∧ r.getD 2 0 ≤ 10000
def eleP (r : List Int) : Prop := shareB (r.getD 0 0) (r.getD 1 0) = true ∧ shareB (r.getD 2 0) (r.getD 3 0) = true
def ratP (r : List Int) : Prop := shareB (r.getD 0 0) (r.getD 1 0) = true
def rateP (n : Int) : Prop := 0 ≤ n ∧ n ≤ 100000
def tierP (l : Rows2) (i : Nat) : Prop := 0 ≤ (l.getD i []).getD 0 0 ∧ (l.getD i []).getD 0 0 ≤ 1000 ∧ 0 ≤ (l.getD i []).getD 1 0 ∧ (l.getD i []).getD 1 0 ≤ 100000 ∧ (0 < i → (l.getD (i - 1) []).getD 0 0 < (l.getD i []).getD 0 0)
structure SetP.May (s : SetP) : Prop where
  places : 1 ≤ s.places ∧ s.places ≤ 16
  ways : s.ways.length ≤ 64 ∧ ∀ r ∈ s.ways, wayP s.places r
  pace : shareB s.pn s.pd = true
  elements : s.elements.length ≤ 8 ∧ ∀ r ∈ s.elements, eleP r
  classes : s.classes.length ≤ 8 ∧ ∀ r ∈ s.classes, ratP r
  gears : s.gears.length ≤ 8 ∧ ∀ r ∈ s.gears, ratP r
  allow : 0 ≤ s.allow ∧ s.allow ≤ 100
  unit : 1 ≤ s.unit ∧ s.unit ≤ 3600
  cap : 60 ≤ s.cap ∧ s.cap ≤ 57600
  paid : 0 ≤ s.paid ∧ s.paid ≤ 86400
  aft : 0 ≤ s.aft ∧ s.aft ≤ 86400
  brk : 0 ≤ s.brk ∧ s.brk ≤ 86400
  nfrom : 0 ≤ s.nfrom ∧ s.nfrom ≤ 86400
  nto : 0 ≤ s.nto ∧ s.nto ≤ 86400
  fault : 0 ≤ s.fault ∧ s.fault ≤ 86400
  reg : 0 ≤ s.reg ∧ s.reg ≤ s.over
  over : s.over ≤ 86400
  week : 0 ≤ s.week ∧ s.week ≤ 604800
  rates : 1 ≤ s.rates.length ∧ s.rates.length ≤ 16 ∧ ∀ n ∈ s.rates, rateP n
  diff : 0 ≤ s.diff ∧ s.diff ≤ 100000
  least : 0 ≤ s.least ∧ s.least ≤ 100000
  tiers : s.tiers.length ≤ 8 ∧ ∀ i, i < s.tiers.length → tierP s.tiers i
theorem share_bd {n d : Int} (h : shareB n d = true) : 0 ≤ n ∧ n ≤ 2147483647 ∧ 1 ≤ d ∧ d ≤ 2147483647 := by
  unfold shareB at h
  simp only [Bool.and_eq_true, decide_eq_true_eq] at h
  have := may_bd h.1
  omega
/-! ### As bytes -/
def SetP.bytes (s : SetP) : List (BitVec 8) := bytesN s.nums
/-! ### Read -/
end Go.Proofs.Ytoconmcmnikdnaa

namespace Go.Proofs.Ytoconmcmnikdnaa
set_option linter.unusedVariables false
set_option linter.unusedSimpArgs false

theorem rows_len {k : Nat} : ∀ (t : Rows2), (∀ r ∈ t, r.length = k) → t.flatten.length = k * t.length
  | [], _ => by simp
  | r :: t, h => by
    have h1 := rows_len t (fun q hq => h q (by simp [hq]))
    have h2 := h r (by simp)
    rw [List.flatten_cons, List.length_append, h1, h2, List.length_cons, Nat.mul_add]
    omega
theorem rows_get {k : Nat} : ∀ (t : Rows2), (∀ r ∈ t, r.length = k) → ∀ i j, i < t.length → j < k → ∀ v : List Int, (t.flatten ++ v).getD (k * i + j) 0 = (t.getD i []).getD j 0
  | [], _, i, j, hi, _, v => by simp at hi
  | r :: t, h, i, j, hi, hj, v => by
    have h2 := h r (by simp)
    rw [List.flatten_cons, List.append_assoc]
    rcases i with _ | i
    · rw [Nat.mul_zero, Nat.zero_add, List.getD_eq_getElem?_getD, List.getElem?_append_left (by omega)]
      simp [List.getD]
    · have h3 := rows_get t (fun q hq => h q (by simp [hq])) i j (by simpa using hi) hj v
      rw [List.getD_eq_getElem?_getD, List.getElem?_append_right (by rw [h2, Nat.mul_add]; omega), h2, show k * (i + 1) + j - k = k * i + j by rw [Nat.mul_add]; omega, ← List.getD_eq_getElem?_getD, h3]
      simp [List.getD]
end Go.Proofs.Ytoconmcmnikdnaa

namespace Go.Proofs.Ytoconmcmnikdnaa
set_option linter.unusedVariables false
set_option linter.unusedSimpArgs false

structure EvP where
  id : Int
  wk : Int
  tm : Int
  kd : Int
  fr : Int
  to : Int
  el : Int
  un : Int
  cl : Int
  ge : Int
  cd : Int
deriving DecidableEq
def EvP.none : EvP := ⟨0, 0, 0, 0, 0, 0, 0, 0, 0, 0, 0⟩
structure EvP.Fair (e : EvP) : Prop where
  id : 0 ≤ e.id ∧ e.id ≤ 100000
  wk : 0 ≤ e.wk ∧ e.wk ≤ 9223372036854775807
  tm : 0 ≤ e.tm ∧ e.tm ≤ 31449599
  kd : 1 ≤ e.kd ∧ e.kd ≤ 7
  fr : 0 ≤ e.fr ∧ e.fr ≤ 9223372036854775807
  to : 0 ≤ e.to ∧ e.to ≤ 9223372036854775807
  el : 0 ≤ e.el ∧ e.el ≤ 9223372036854775807
  un : 0 ≤ e.un ∧ e.un ≤ 9223372036854775807
  cl : 0 ≤ e.cl ∧ e.cl ≤ 9223372036854775807
  ge : 0 ≤ e.ge ∧ e.ge ≤ 9223372036854775807
  cd : 0 ≤ e.cd ∧ e.cd ≤ 9223372036854775807
  task : e.kd = 3 ∨ (e.fr = 0 ∧ e.to = 0 ∧ e.el = 0 ∧ e.un = 0 ∧ e.cl = 0 ∧ e.ge = 0)
  code : e.kd = 4 ∨ e.cd = 0
/-! ### The document's own Take -/
/-! ### The order -/
end Go.Proofs.Ytoconmcmnikdnaa
