/-
  The contract of the document's own product (lumperref01.Mul, by halves of the second number): it is the product, or the error, as package num's is.
-/
import Derived.Test.YtmlilkffokgkkaaRefA
namespace Go.Proofs.Ytmlilkffokgkkaa
open Go.RowKit
set_option linter.unusedVariables false

theorem half_sign_pos (a h : Int) (hh : 1 ≤ h) : (0 ≤ a → a ≤ a * h) ∧ (a ≤ 0 → a * h ≤ a) := by
  constructor
  · intro ha
    have := Int.mul_le_mul_of_nonneg_left hh ha
    omega
  · intro ha
    have := Int.mul_le_mul_of_nonpos_left ha hh
    omega
theorem half_sign_neg (a h : Int) (hh : h ≤ -1) : (0 ≤ a → a * h ≤ -a) ∧ (a ≤ 0 → -a ≤ a * h) := by
  constructor
  · intro ha
    have := Int.mul_le_mul_of_nonneg_left hh ha
    omega
  · intro ha
    have := Int.mul_le_mul_of_nonpos_left ha hh
    omega

/-- What the halves make, b above 0. -/
theorem halves_pos (a b : Int) (hb : 0 < b) : a * b = 2 * (a * (b / 2)) + a * (b % 2) ∧ (b % 2 = 0 ∨ b % 2 = 1) ∧
    ((b / 2 = 0 ∧ a * (b / 2) = 0) ∨ ((0 ≤ a → a ≤ a * (b / 2)) ∧ (a ≤ 0 → a * (b / 2) ≤ a))) := by
  refine ⟨?_, by omega, ?_⟩
  · have e : b = 2 * (b / 2) + b % 2 := by omega
    calc a * b = a * (2 * (b / 2) + b % 2) := by rw [← e]
      _ = _ := by rw [Int.mul_add, Int.mul_left_comm]
  · by_cases h : b / 2 = 0
    · exact .inl ⟨h, by rw [h, Int.mul_zero]⟩
    · exact .inr (half_sign_pos a (b / 2) (by omega))

def OutB (n : Int) : Prop := n < -9223372036854775808 ∨ 9223372036854775807 < n

theorem mulV_in {a b : Int} (h1 : -9223372036854775808 ≤ a * b) (h2 : a * b ≤ 9223372036854775807) : mulV a b = a * b ∧ mulC a b = 0 := by
  unfold mulV mulC
  rw [show inB (a * b) = true from decide_eq_true ⟨h1, h2⟩]
  exact ⟨rfl, rfl⟩
theorem mulV_out {a b : Int} (h : a * b < -9223372036854775808 ∨ 9223372036854775807 < a * b) : mulV a b = 0 ∧ mulC a b = 10 := by
  unfold mulV mulC
  rw [show inB (a * b) = false from decide_eq_false (by omega)]
  exact ⟨rfl, rfl⟩

theorem rmul_pos (a : Int) (ha : -9223372036854775808 ≤ a) (ha' : a ≤ 9223372036854775807) (k : Nat) : ∀ (b : Int) (w : World), b.toNat ≤ k → 0 ≤ b → b ≤ 9223372036854775807 →
    Calls Try.prog 13 #[.int .i64 a, .int .i64 b] w fun e w' => e = .returned (.tuple #[.int .i64 (mulV a b), .int .i64 (mulC a b)]) ∧ w = w' := by
  induction k with
  | zero =>
    intro b w hk hb hb'
    obtain rfl : b = 0 := by omega
    have e := mulV_in (a := a) (b := 0) (by simp) (by simp)
    rw [e.1, e.2, Int.mul_zero]
    clear e
    go_enter Try.func13, Try.ntmps13
    go_wp2_with fail
    go_ret2
    exact ⟨rfl, rfl⟩
  | succ k ih =>
    intro b w hk hb hb'
    have HI := Lib.hid ih
    clear ih
    by_cases h0 : b = 0
    · subst h0
      have e := mulV_in (a := a) (b := 0) (by simp) (by simp)
      rw [e.1, e.2, Int.mul_zero]
      clear e
      go_enter Try.func13, Try.ntmps13
      go_wp2_with fail
      go_ret2
      exact ⟨rfl, rfl⟩
    · have g0 : (b == 0) = false := by simpa using h0
      have g1 : (b == -1) = false := by simp; omega
      obtain ⟨e1, e2, e3⟩ := halves_pos a b (by omega)
      have q0 : 0 ≤ b / 2 := by omega
      have q1 : b / 2 ≤ 9223372036854775807 := by omega
      have qk : (b / 2).toNat ≤ k := by omega
      generalize hx : a * (b / 2) = x at *
      by_cases i1 : -9223372036854775808 ≤ x ∧ x ≤ 9223372036854775807
      · have m1 := mulV_in (a := a) (b := b / 2) (by omega) (by omega)
        rw [hx] at m1
        by_cases i2 : -9223372036854775808 ≤ x + x ∧ x + x ≤ 9223372036854775807
        · rcases e2 with r0 | r0
          · have r1 : (b % 2 == 0) = true := by simpa using r0
            have ev : a * b = x + x := by rw [e1, r0]; omega
            have m2 := mulV_in (a := a) (b := b) (by omega) (by omega)
            rw [m2.1, m2.2, ev]
            have M1 := Lib.hid m1
            clear e1 e3 ev m1 m2 r0 hx
            go_enter Try.func13, Try.ntmps13
            go_wp2_with fail
            refine (HI.out (b / 2) _ qk q0 q1).mono ?_
            rw [M1.out.1, M1.out.2]
            rintro e w' ⟨rfl, rfl⟩
            go_wp2_with fail
            refine (radd_in x x _ i1.1 i1.2 i1.1 i1.2 i2.1 i2.2).mono ?_
            rintro e w' ⟨rfl, rfl⟩
            go_wp2_with fail
            go_ret2
            exact ⟨rfl, rfl⟩
          · have r1 : (b % 2 == 0) = false := by simp; omega
            have ev : a * b = x + x + a := by rw [e1, r0]; omega
            by_cases i3 : -9223372036854775808 ≤ x + x + a ∧ x + x + a ≤ 9223372036854775807
            · have m2 := mulV_in (a := a) (b := b) (by omega) (by omega)
              rw [m2.1, m2.2, ev]
              have M1 := Lib.hid m1
              clear e1 e3 ev m1 m2 r0 hx
              go_enter Try.func13, Try.ntmps13
              go_wp2_with fail
              refine (HI.out (b / 2) _ qk q0 q1).mono ?_
              rw [M1.out.1, M1.out.2]
              rintro e w' ⟨rfl, rfl⟩
              go_wp2_with fail
              refine (radd_in x x _ i1.1 i1.2 i1.1 i1.2 i2.1 i2.2).mono ?_
              rintro e w' ⟨rfl, rfl⟩
              go_wp2_with fail
              refine (radd_in (x + x) a _ i2.1 i2.2 ha ha' i3.1 i3.2).mono ?_
              rintro e w' ⟨rfl, rfl⟩
              go_wp2_with fail
              go_ret2
              exact ⟨rfl, rfl⟩
            · have m2 := mulV_out (a := a) (b := b) (by omega)
              rw [m2.1, m2.2]
              have M1 := Lib.hid m1
              have i3' : x + x + a < -9223372036854775808 ∨ 9223372036854775807 < x + x + a := by omega
              clear e1 e3 ev m1 m2 r0 hx i3
              go_enter Try.func13, Try.ntmps13
              go_wp2_with fail
              refine (HI.out (b / 2) _ qk q0 q1).mono ?_
              rw [M1.out.1, M1.out.2]
              rintro e w' ⟨rfl, rfl⟩
              go_wp2_with fail
              refine (radd_in x x _ i1.1 i1.2 i1.1 i1.2 i2.1 i2.2).mono ?_
              rintro e w' ⟨rfl, rfl⟩
              go_wp2_with fail
              refine (radd_over (x + x) a _ i2.1 i2.2 ha ha' i3').mono ?_
              rintro e w' ⟨rfl, rfl⟩
              go_wp2_with fail
              go_ret2
              exact ⟨rfl, rfl⟩
        · have m2 := mulV_out (a := a) (b := b) (by rcases e2 with r0 | r0 <;> rw [e1, r0] <;> omega)
          rw [m2.1, m2.2]
          have M1 := Lib.hid m1
          have i2' : x + x < -9223372036854775808 ∨ 9223372036854775807 < x + x := by omega
          clear e1 e2 e3 m1 m2 hx i2
          go_enter Try.func13, Try.ntmps13
          go_wp2_with fail
          refine (HI.out (b / 2) _ qk q0 q1).mono ?_
          rw [M1.out.1, M1.out.2]
          rintro e w' ⟨rfl, rfl⟩
          go_wp2_with fail
          refine (radd_over x x _ i1.1 i1.2 i1.1 i1.2 i2').mono ?_
          rintro e w' ⟨rfl, rfl⟩
          go_wp2_with fail
          go_ret2
          exact ⟨rfl, rfl⟩
      · have m1 := mulV_out (a := a) (b := b / 2) (by omega)
        have m2 := mulV_out (a := a) (b := b) (by rcases e2 with r0 | r0 <;> rw [e1, r0] <;> omega)
        rw [m2.1, m2.2]
        have M1 := Lib.hid m1
        clear e1 e2 e3 m1 m2 hx i1
        go_enter Try.func13, Try.ntmps13
        go_wp2_with fail
        refine (HI.out (b / 2) _ qk q0 q1).mono ?_
        rw [M1.out.1, M1.out.2]
        rintro e w' ⟨rfl, rfl⟩
        go_wp2_with fail
        refine (radd_in 0 0 _ (by omega) (by omega) (by omega) (by omega) (by omega) (by omega)).mono ?_
        rintro e w' ⟨rfl, rfl⟩
        go_wp2_with fail
        go_ret2
        exact ⟨rfl, rfl⟩

theorem halves_neg (a c : Int) (hc : 2 ≤ c) : a * -c = 2 * (a * -(c / 2)) + -a * (c % 2) ∧ (c % 2 = 0 ∨ c % 2 = 1) ∧ (0 ≤ a → a * -(c / 2) ≤ -a) ∧ (a ≤ 0 → -a ≤ a * -(c / 2)) := by
  refine ⟨?_, by omega, half_sign_neg a (-(c / 2)) (by omega)⟩
  have e : -c = 2 * -(c / 2) + -(c % 2) := by omega
  rw [e, Int.mul_add, Int.mul_left_comm, Int.neg_mul, Int.mul_neg a (c % 2)]

theorem rmul_neg (a : Int) (ha : -9223372036854775808 ≤ a) (ha' : a ≤ 9223372036854775807) (k : Nat) : ∀ (c : Int) (w : World), c.toNat ≤ k → 1 ≤ c → c ≤ 9223372036854775808 →
    Calls Try.prog 13 #[.int .i64 a, .int .i64 (-c)] w fun e w' => e = .returned (.tuple #[.int .i64 (mulV a (-c)), .int .i64 (mulC a (-c))]) ∧ w = w' := by
  induction k with
  | zero =>
    intro c w hk hc hc'
    omega
  | succ k ih =>
    intro c w hk hc hc'
    have HI := Lib.hid ih
    clear ih
    by_cases h1 : c = 1
    · subst h1
      by_cases hl : a = -9223372036854775808
      · subst hl
        have e := mulV_out (a := -9223372036854775808) (b := -1) (by omega)
        rw [e.1, e.2]
        clear e ha ha' hc hc'
        go_enter Try.func13, Try.ntmps13
        go_wp2_with fail
        go_ret2
        exact ⟨rfl, rfl⟩
      · have g : (a == -9223372036854775808) = false := by simpa using hl
        have e := mulV_in (a := a) (b := -1) (by omega) (by omega)
        rw [e.1, e.2, show a * -1 = -a from by omega]
        clear e hc hc'
        go_enter Try.func13, Try.ntmps13
        go_wp2_with fail
        go_ret2
        exact ⟨rfl, rfl⟩
    · have g0 : (-c == 0) = false := by simp; omega
      have g1 : (-c == -1) = false := by simp; omega
      have hcn : -c < 0 := by omega
      obtain ⟨e1, e2, e3, e4⟩ := halves_neg a c (by omega)
      have hq : c.tdiv 2 = c / 2 := Int.tdiv_eq_ediv_of_nonneg (by omega)
      have hr : c.tmod 2 = c % 2 := Int.tmod_eq_emod_of_nonneg (by omega)
      have q0 : 1 ≤ c / 2 := by omega
      have q1 : c / 2 ≤ 9223372036854775807 := by omega
      have qk : (c / 2).toNat ≤ k := by omega
      generalize c / 2 = h at *
      generalize c % 2 = r at *
      generalize hx : a * -h = x at *
      have q1' : h ≤ 9223372036854775808 := by omega
      by_cases i1 : -9223372036854775808 ≤ x ∧ x ≤ 9223372036854775807
      · have m1 := mulV_in (a := a) (b := -h) (by omega) (by omega)
        rw [hx] at m1
        have hal : (a == -9223372036854775808) = false := by simp; omega
        have hal2 : (-a == -9223372036854775808) = false := by simp; omega
        have hal3 : -9223372036854775807 ≤ a := by omega
        by_cases i2 : -9223372036854775808 ≤ x + x ∧ x + x ≤ 9223372036854775807
        · rcases e2 with r0 | r0
          · subst r0
            have ev : a * -c = x + x := by rw [e1]; omega
            have m2 := mulV_in (a := a) (b := -c) (by omega) (by omega)
            rw [m2.1, m2.2, ev]
            have M1 := Lib.hid m1
            clear e1 e3 e4 ev m1 m2 hx
            go_enter Try.func13, Try.ntmps13
            go_wp2_with fail
            refine (HI.out h _ qk q0 q1').mono ?_
            rw [M1.out.1, M1.out.2]
            rintro e w' ⟨rfl, rfl⟩
            go_wp2_with fail
            refine (radd_in x x _ i1.1 i1.2 i1.1 i1.2 i2.1 i2.2).mono ?_
            rintro e w' ⟨rfl, rfl⟩
            go_wp2_with fail
            go_ret2
            exact ⟨rfl, rfl⟩
          · subst r0
            have ev : a * -c = x + x + -a := by rw [e1]; omega
            by_cases i3 : -9223372036854775808 ≤ x + x + -a ∧ x + x + -a ≤ 9223372036854775807
            · have m2 := mulV_in (a := a) (b := -c) (by omega) (by omega)
              rw [m2.1, m2.2, ev]
              have M1 := Lib.hid m1
              have HA := Lib.hid (show -9223372036854775808 ≤ -a ∧ -a ≤ 9223372036854775807 by omega)
              clear e1 e3 e4 ev m1 m2 hx
              go_enter Try.func13, Try.ntmps13
              go_wp2_with fail
              refine (HI.out h _ qk q0 q1').mono ?_
              rw [M1.out.1, M1.out.2]
              rintro e w' ⟨rfl, rfl⟩
              go_wp2_with fail
              refine (radd_in x x _ i1.1 i1.2 i1.1 i1.2 i2.1 i2.2).mono ?_
              rintro e w' ⟨rfl, rfl⟩
              go_wp2_with fail
              refine (radd_in (x + x) (-a) _ i2.1 i2.2 HA.out.1 HA.out.2 i3.1 i3.2).mono ?_
              rintro e w' ⟨rfl, rfl⟩
              go_wp2_with fail
              go_ret2
              exact ⟨rfl, rfl⟩
            · have m2 := mulV_out (a := a) (b := -c) (by omega)
              rw [m2.1, m2.2]
              have M1 := Lib.hid m1
              have HA := Lib.hid (show -9223372036854775808 ≤ -a ∧ -a ≤ 9223372036854775807 by omega)
              have i3' : x + x + -a < -9223372036854775808 ∨ 9223372036854775807 < x + x + -a := by omega
              have I3 := Lib.hid i3'
              clear e1 e3 e4 ev m1 m2 hx i3 i3'
              go_enter Try.func13, Try.ntmps13
              go_wp2_with fail
              refine (HI.out h _ qk q0 q1').mono ?_
              rw [M1.out.1, M1.out.2]
              rintro e w' ⟨rfl, rfl⟩
              go_wp2_with fail
              refine (radd_in x x _ i1.1 i1.2 i1.1 i1.2 i2.1 i2.2).mono ?_
              rintro e w' ⟨rfl, rfl⟩
              go_wp2_with fail
              refine (radd_over (x + x) (-a) _ i2.1 i2.2 HA.out.1 HA.out.2 I3.out).mono ?_
              rintro e w' ⟨rfl, rfl⟩
              go_wp2_with fail
              go_ret2
              exact ⟨rfl, rfl⟩
        · have m2 := mulV_out (a := a) (b := -c) (by rcases e2 with r0 | r0 <;> rw [e1, r0] <;> omega)
          rw [m2.1, m2.2]
          have M1 := Lib.hid m1
          have i2' : x + x < -9223372036854775808 ∨ 9223372036854775807 < x + x := by omega
          clear e1 e2 e3 e4 m1 m2 hx i2
          go_enter Try.func13, Try.ntmps13
          go_wp2_with fail
          refine (HI.out h _ qk q0 q1').mono ?_
          rw [M1.out.1, M1.out.2]
          rintro e w' ⟨rfl, rfl⟩
          go_wp2_with fail
          refine (radd_over x x _ i1.1 i1.2 i1.1 i1.2 i2').mono ?_
          rintro e w' ⟨rfl, rfl⟩
          go_wp2_with fail
          go_ret2
          exact ⟨rfl, rfl⟩
      · have m1 := mulV_out (a := a) (b := -h) (by omega)
        have m2 := mulV_out (a := a) (b := -c) (by rcases e2 with r0 | r0 <;> rw [e1, r0] <;> omega)
        rw [m2.1, m2.2]
        have M1 := Lib.hid m1
        clear e1 e2 e3 e4 m1 m2 hx i1
        go_enter Try.func13, Try.ntmps13
        go_wp2_with fail
        refine (HI.out h _ qk q0 q1').mono ?_
        rw [M1.out.1, M1.out.2]
        rintro e w' ⟨rfl, rfl⟩
        go_wp2_with fail
        refine (radd_in 0 0 _ (by omega) (by omega) (by omega) (by omega) (by omega) (by omega)).mono ?_
        rintro e w' ⟨rfl, rfl⟩
        go_wp2_with fail
        go_ret2
        exact ⟨rfl, rfl⟩

theorem rmul_any (a b : Int) (w : World) (ha : -9223372036854775808 ≤ a) (ha' : a ≤ 9223372036854775807) (hb : -9223372036854775808 ≤ b) (hb' : b ≤ 9223372036854775807) :
    Calls Try.prog 13 #[.int .i64 a, .int .i64 b] w fun e w' => e = .returned (.tuple #[.int .i64 (mulV a b), .int .i64 (mulC a b)]) ∧ w = w' := by
  by_cases h : 0 ≤ b
  · exact rmul_pos a ha ha' b.toNat b w (Nat.le_refl _) h hb'
  · have := rmul_neg a ha ha' (-b).toNat (-b) w (Nat.le_refl _) (by omega) (by omega)
    rwa [Int.neg_neg] at this
end Go.Proofs.Ytmlilkffokgkkaa
