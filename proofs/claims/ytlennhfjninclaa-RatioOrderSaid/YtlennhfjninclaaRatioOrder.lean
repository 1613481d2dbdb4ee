/-
  The walk of the law RatioOrder: it answers true, and leaves what was there as it was.
-/
import Derived.Test.YtlennhfjninclaaRatioOrderB
import Derived.Test.YtlennhfjninclaaRatioOrderC
import Derived.Test.YtlennhfjninclaaRatioOrderD
import Derived.Deep.RegionHeld3
namespace Go.Proofs.Ytlennhfjninclaa
open Go.RowKit
set_option linter.unusedVariables false


theorem minus_code {a b c d : Int} (h1 : mayB a b = true) (h2 : mayB c d = true) : (minusR a b c d).c = 0 ∨ (minusR a b c d).c = 10 := by
  have e : minusR a b c d = mkR (a * d - c * b) (b * d) := by unfold minusR; rw [h1, h2]; rfl
  rw [e]
  show mkC _ _ = 0 ∨ mkC _ _ = 10
  have b1 := may_bd h1
  have b2 := may_bd h2
  have hp : 0 < b * d := Int.mul_pos (by omega) (by omega)
  unfold mkC
  rw [if_neg (by omega)]
  split
  · exact .inl rfl
  · exact .inr rfl

theorem ratioOrder_walk (a b c d e f : Int) (w : World) (ha : -9223372036854775808 ≤ a ∧ a ≤ 9223372036854775807) (hb : -9223372036854775808 ≤ b ∧ b ≤ 9223372036854775807) (hc : -9223372036854775808 ≤ c ∧ c ≤ 9223372036854775807) (hd : -9223372036854775808 ≤ d ∧ d ≤ 9223372036854775807) (he : -9223372036854775808 ≤ e ∧ e ≤ 9223372036854775807) (hf : -9223372036854775808 ≤ f ∧ f ≤ 9223372036854775807)  :
    Calls Try.prog 6 #[.agg #[.int .i64 a, .int .i64 b], .agg #[.int .i64 c, .int .i64 d], .agg #[.int .i64 e, .int .i64 f]] w fun r w' => r = .returned (.bool true) ∧ Below w.heap.size w w' := by
  cases ma : mayB a b with
  | false => exact ratioOrder_x a b c d e f w ha hb hc hd he hf ma
  | true =>
    cases mb : mayB c d with
    | false => exact ratioOrder_y a b c d e f w ha hb hc hd he hf ma mb
    | true =>
      cases mc : mayB e f with
      | false => exact ratioOrder_z a b c d e f w ha hb hc hd he hf ma mb mc
      | true =>
        have kc := minus_code ma mb
        cases kP : lessB a b c d with
        | true =>
          have kQ := less_not ma mb kP
          by_cases hac : a = c
          · subst hac
            have hbd : (b == d) = false := by
              by_cases h : b = d
              · subst h; rw [less_self] at kP; cases kP
              · simpa using h
            cases kR : lessB a d e f with
            | true =>
              have kT := less_trans ma mb mc kP kR
              rcases kc with kM | kM
              · exact ratioOrder_2p1 a b d e f w ha hb hd he hf ma mb mc kP kQ kR kT hbd kM
              · exact ratioOrder_2p0 a b d e f w ha hb hd he hf ma mb mc kP kQ kR kT hbd kM
            | false =>
              rcases kc with kM | kM
              · exact ratioOrder_2q1 a b d e f w ha hb hd he hf ma mb mc kP kQ kR hbd kM
              · exact ratioOrder_2q0 a b d e f w ha hb hd he hf ma mb mc kP kQ kR hbd kM
          · have hne : (a == c) = false := by simpa using hac
            clear hac
            cases kR : lessB c d e f with
            | true =>
              have kT := less_trans ma mb mc kP kR
              rcases kc with kM | kM
              · exact ratioOrder_1p1 a b c d e f w ha hb hc hd he hf ma mb mc kP kQ kR kT hne kM
              · exact ratioOrder_1p0 a b c d e f w ha hb hc hd he hf ma mb mc kP kQ kR kT hne kM
            | false =>
              rcases kc with kM | kM
              · exact ratioOrder_1q1 a b c d e f w ha hb hc hd he hf ma mb mc kP kQ kR hne kM
              · exact ratioOrder_1q0 a b c d e f w ha hb hc hd he hf ma mb mc kP kQ kR hne kM
        | false =>
          cases kQ : lessB c d a b with
          | false =>
            obtain ⟨rfl, rfl⟩ := less_eq ma mb kP kQ
            rcases kc with kM | kM
            · exact ratioOrder_3e1 a b e f w ha hb he hf ma mb mc kM
            · exact ratioOrder_3e0 a b e f w ha hb he hf ma mb mc kM
          | true =>
            by_cases hac : a = c
            · subst hac
              have hbd : (b == d) = false := by
                by_cases h : b = d
                · subst h; rw [less_self] at kQ; cases kQ
                · simpa using h
              rcases kc with kM | kM
              · exact ratioOrder_2r1 a b d e f w ha hb hd he hf ma mb mc kP kQ hbd kM
              · exact ratioOrder_2r0 a b d e f w ha hb hd he hf ma mb mc kP kQ hbd kM
            · have hne : (a == c) = false := by simpa using hac
              clear hac
              rcases kc with kM | kM
              · exact ratioOrder_1r1 a b c d e f w ha hb hc hd he hf ma mb mc kP kQ hne kM
              · exact ratioOrder_1r0 a b c d e f w ha hb hc hd he hf ma mb mc kP kQ hne kM
end Go.Proofs.Ytlennhfjninclaa
