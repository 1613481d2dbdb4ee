/-
  The walk of the law NumTells: it answers true, and leaves what was there as it was.
-/
import Derived.Test.YtmlilkffokgkkaaRefB
namespace Go.Proofs.Ytmlilkffokgkkaa
open Go.RowKit
set_option linter.unusedVariables false

theorem rsum_sl (A : Option Addr) (n cap : Nat) (xs : List Int) (w : World) (hx : Sl 1 w A n cap (ints .i64 xs)) (hw : ∀ x ∈ xs, -9223372036854775808 ≤ x ∧ x ≤ 9223372036854775807) (hl : n ≤ 9223372036854775807) :
    Calls Try.prog 11 #[.slice A n cap] w fun e w' => e = .returned (.tuple #[.int .i64 (sumV xs), .int .i64 (sumC xs)]) ∧ Below w.heap.size w w' := by
  have hn : xs.length = n := by simpa [ints] using hx.1
  subst hn
  exact sameB (rsum_any A cap xs w (ints_of_sl hx hw) hl)

theorem numTells_long (a0 : Option Addr) (len0 cap0 : Nat) (a b : Int) (w : World) (h : 1000 < len0) :
    Calls Try.prog 3 #[.slice a0 len0 cap0, .int .i64 a, .int .i64 b] w fun e w' => e = .returned (.bool true) ∧ Below w.heap.size w w' := by
  have d0 : (1000 : Int) < (len0 : Int) := by omega
  go_enter Try.func3, Try.ntmps3
  go_wp2_with fail
  refine (awake1 _).mono ?_
  rintro e w1 ⟨rfl, hb1⟩
  go_wp2
  go_ret
  exact ⟨rfl, hb1⟩

def divV (a b : Int) : Int := if b ≤ 0 then 0 else a / b
def divC (b : Int) : Int := if b ≤ 0 then 20 else 0
def halfW (a b : Int) : Int := if b ≤ 0 then 0 else halfV a b
def upW (a b : Int) : Int := if b ≤ 0 then 0 else upV a b

section
variable (a b : Int) (w : World) (ha : -9223372036854775808 ≤ a) (ha' : a ≤ 9223372036854775807) (hb' : b ≤ 9223372036854775807)
include ha ha' hb'
theorem div_any : Calls Try.prog 14 #[.int .i64 a, .int .i64 b] w fun e w' => e = .returned (.tuple #[.int .i64 (divV a b), .int .i64 (divC b)]) ∧ Below w.heap.size w w' := by
  by_cases h : b ≤ 0
  · rw [show divV a b = 0 from if_pos h, show divC b = 20 from if_pos h]
    exact quietB (div_zero a b w h)
  · rw [show divV a b = a / b from if_neg h, show divC b = 0 from if_neg h]
    exact quietB (div_pos a b w ha ha' (by omega) hb')
theorem half_any : Calls Try.prog 16 #[.int .i64 a, .int .i64 b] w fun e w' => e = .returned (.tuple #[.int .i64 (halfW a b), .int .i64 (divC b)]) ∧ Below w.heap.size w w' := by
  by_cases h : b ≤ 0
  · rw [show halfW a b = 0 from if_pos h, show divC b = 20 from if_pos h]
    exact quietB (half_zero a b w h)
  · rw [show halfW a b = halfV a b from if_neg h, show divC b = 0 from if_neg h]
    exact quietB (half_pos a b w ha ha' (by omega) hb')
theorem up_any : Calls Try.prog 18 #[.int .i64 a, .int .i64 b] w fun e w' => e = .returned (.tuple #[.int .i64 (upW a b), .int .i64 (divC b)]) ∧ Below w.heap.size w w' := by
  by_cases h : b ≤ 0
  · rw [show upW a b = 0 from if_pos h, show divC b = 20 from if_pos h]
    exact quietB (up_zero a b w h)
  · rw [show upW a b = upV a b from if_neg h, show divC b = 0 from if_neg h]
    exact quietB (up_pos a b w ha ha' (by omega) hb')
theorem rdiv_any : Calls Try.prog 15 #[.int .i64 a, .int .i64 b] w fun e w' => e = .returned (.tuple #[.int .i64 (divV a b), .int .i64 (divC b)]) ∧ Below w.heap.size w w' := by
  by_cases h : b ≤ 0
  · rw [show divV a b = 0 from if_pos h, show divC b = 20 from if_pos h]
    exact sameB (rdiv_zero a b w h)
  · rw [show divV a b = a / b from if_neg h, show divC b = 0 from if_neg h]
    exact sameB (rdiv_pos a b w ha ha' (by omega) hb')
theorem rhalf_any : Calls Try.prog 17 #[.int .i64 a, .int .i64 b] w fun e w' => e = .returned (.tuple #[.int .i64 (halfW a b), .int .i64 (divC b)]) ∧ Below w.heap.size w w' := by
  by_cases h : b ≤ 0
  · rw [show halfW a b = 0 from if_pos h, show divC b = 20 from if_pos h]
    exact sameB (rhalf_zero a b w h)
  · rw [show halfW a b = halfV a b from if_neg h, show divC b = 0 from if_neg h]
    exact sameB (rhalf_pos a b w ha ha' (by omega) hb')
theorem rup_any : Calls Try.prog 19 #[.int .i64 a, .int .i64 b] w fun e w' => e = .returned (.tuple #[.int .i64 (upW a b), .int .i64 (divC b)]) ∧ Below w.heap.size w w' := by
  by_cases h : b ≤ 0
  · rw [show upW a b = 0 from if_pos h, show divC b = 20 from if_pos h]
    exact sameB (rup_zero a b w h)
  · rw [show upW a b = upV a b from if_neg h, show divC b = 0 from if_neg h]
    exact sameB (rup_pos a b w ha ha' (by omega) hb')
end

theorem numTells_short (a0 : Option Addr) (len0 cap0 : Nat) (xs : List Int) (a b : Int) (w : World) (s0 : Sl 1 w a0 len0 cap0 (ints .i64 xs)) (b0 : ∀ x ∈ xs, -9223372036854775808 ≤ x ∧ x ≤ 9223372036854775807) (h0 : len0 ≤ 1000)
    (ha : -9223372036854775808 ≤ a) (ha' : a ≤ 9223372036854775807) (hb : -9223372036854775808 ≤ b) (hb' : b ≤ 9223372036854775807) :
    Calls Try.prog 3 #[.slice a0 len0 cap0, .int .i64 a, .int .i64 b] w fun e w' => e = .returned (.bool true) ∧ Below w.heap.size w w' := by
  have d0 : (len0 : Int) ≤ 1000 := by omega
  have S0 := Lib.hid s0
  have B0 := Lib.hid b0
  clear s0 b0
  go_enter Try.func3, Try.ntmps3
  go_wp2_with fail
  refine (awake1 _).mono ?_
  rintro e w1 ⟨rfl, hb1⟩
  go_wp2_with fail
  refine (sum_sl _ _ _ xs _ (S0.out.below hb1) B0.out (by omega)).mono ?_
  rintro e w2 ⟨rfl, hb2⟩
  replace hb2 := bel_on hb1 hb2
  clear hb1
  go_wp2_with fail
  refine (rsum_sl _ _ _ xs _ (S0.out.below hb2) B0.out (by omega)).mono ?_
  rintro e w3 ⟨rfl, hb3⟩
  replace hb3 := bel_on hb2 hb3
  clear hb2
  go_wp2_with fail
  refine (quietB (mul_any _ _ _ ha ha' hb hb')).mono ?_
  rintro e w4 ⟨rfl, hb4⟩
  replace hb4 := bel_on hb3 hb4
  clear hb3
  go_wp2_with fail
  refine (sameB (rmul_any _ _ _ ha ha' hb hb')).mono ?_
  rintro e w5 ⟨rfl, hb5⟩
  replace hb5 := bel_on hb4 hb5
  clear hb4
  go_wp2_with fail
  refine (div_any _ _ _ ha ha' hb').mono ?_
  rintro e w6 ⟨rfl, hb6⟩
  replace hb6 := bel_on hb5 hb6
  clear hb5
  go_wp2_with fail
  refine (rdiv_any _ _ _ ha ha' hb').mono ?_
  rintro e w7 ⟨rfl, hb7⟩
  replace hb7 := bel_on hb6 hb7
  clear hb6
  go_wp2_with fail
  refine (half_any _ _ _ ha ha' hb').mono ?_
  rintro e w8 ⟨rfl, hb8⟩
  replace hb8 := bel_on hb7 hb8
  clear hb7
  go_wp2_with fail
  refine (rhalf_any _ _ _ ha ha' hb').mono ?_
  rintro e w9 ⟨rfl, hb9⟩
  replace hb9 := bel_on hb8 hb9
  clear hb8
  go_wp2_with fail
  refine (up_any _ _ _ ha ha' hb').mono ?_
  rintro e wa ⟨rfl, hba⟩
  replace hba := bel_on hb9 hba
  clear hb9
  go_wp2_with fail
  refine (rup_any _ _ _ ha ha' hb').mono ?_
  rintro e wb ⟨rfl, hbb⟩
  replace hbb := bel_on hba hbb
  clear hba
  go_wp2_with fail
  refine (quietB (gcd_any _ _ _ ha ha' hb hb')).mono ?_
  rintro e wc ⟨rfl, hbc⟩
  replace hbc := bel_on hbb hbc
  clear hbb
  go_wp2_with fail
  refine (sameB (rgcd_any _ _ _ ha ha' hb hb')).mono ?_
  rintro e wd ⟨rfl, hbd⟩
  replace hbd := bel_on hbc hbd
  clear hbc
  go_wp2
  go_ret
  exact ⟨rfl, hbd⟩

theorem numTells_walk (a0 : Option Addr) (len0 cap0 : Nat) (z0 : List Int) (a b : Int) (w : World) (r0 : IsRow .i64 w a0 len0 cap0 z0)
    (ha : -9223372036854775808 ≤ a) (ha' : a ≤ 9223372036854775807) (hb : -9223372036854775808 ≤ b) (hb' : b ≤ 9223372036854775807) :
    Calls Try.prog 3 #[.slice a0 len0 cap0, .int .i64 a, .int .i64 b] w fun e w' => e = .returned (.bool true) ∧ Below w.heap.size w w' := by
  by_cases g : 1000 < len0
  · exact numTells_long _ _ _ _ _ w g
  · obtain ⟨s0, _, _, q0⟩ := sl_of_row r0
    exact numTells_short _ _ _ _ _ _ w s0 (fun x hx => bounds_i64 (q0 x hx)) (by omega) ha ha' hb hb'
end Go.Proofs.Ytmlilkffokgkkaa
