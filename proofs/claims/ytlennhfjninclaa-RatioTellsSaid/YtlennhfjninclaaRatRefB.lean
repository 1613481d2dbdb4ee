/-
  The contracts of package lumperref02, continued: quotients, which is less, the nearest number, sums.
-/
import Derived.Test.YtlennhfjninclaaRatRef
import Derived.Deep.RegionHeld3
namespace Go.Proofs.Ytlennhfjninclaa
open Go.RowKit
set_option linter.unusedVariables false

theorem div_ref_no {a b c d : Int} (h : mayB c d = false ∨ (mayB c d = true ∧ c < 1)) : divR a b c d = badR := by
  unfold divR
  rcases h with h | ⟨h, hc⟩
  · rw [h]; simp
  · rw [h, Bool.and_true]
    split
    · rename_i h1
      have b1 := may_bd h1
      have hn : b * c ≤ 0 := by
        have := Int.mul_le_mul_of_nonneg_left (show c ≤ 0 by omega) (show 0 ≤ b by omega)
        omega
      obtain ⟨e1, e2, e3⟩ := mk_neg (n := a * d) hn
      unfold mkR badR
      rw [e1, e2, e3]
    · rfl
theorem div_ref_yes {a b c d : Int} (h : mayB c d = true) (hc : 1 ≤ c) : divR a b c d = mulR a b d c := by
  unfold divR mulR
  rw [h, may_turn h hc]

theorem rdiv_q (a b c d : Int) (w : World) (ha : -9223372036854775808 ≤ a ∧ a ≤ 9223372036854775807) (hb : -9223372036854775808 ≤ b ∧ b ≤ 9223372036854775807) (hc : -9223372036854775808 ≤ c ∧ c ≤ 9223372036854775807) (hd : -9223372036854775808 ≤ d ∧ d ≤ 9223372036854775807) :
    Calls Try.prog 19 #[.agg #[.int .i64 a, .int .i64 b], .agg #[.int .i64 c, .int .i64 d]] w fun e w' => e = .returned (.tuple #[.agg #[.int .i64 (divR a b c d).n, .int .i64 (divR a b c d).d], .int .i64 (divR a b c d).c]) ∧ Below w.heap.size w w' := by
  by_cases h : mayB c d = true ∧ 1 ≤ c
  · obtain ⟨h1, h2⟩ := h
    have E := Lib.hid (div_ref_yes (a := a) (b := b) h1 h2)
    have HM := Lib.hid h1
    clear h1
    go_enter Try.func19, Try.ntmps19
    go_wp2_with fail
    refine (rcheck_any c d _ hc.1 hc.2 hd.1 hd.2).mono ?_
    rw [HM.out]
    rintro e w1 ⟨rfl, hb1⟩
    have R0 : Has w1 w.heap.size #[.int .i64 a, .int .i64 b] := Has.below (by (repeat' (first | with_reducible assumption | ((with_reducible refine Has.new _ _ _ ?_); (first | (with_reducible rfl) | (simp; done))) | with_reducible refine Has.alloc ?_ _ | with_reducible refine Has.drewN ?_ _ | with_reducible refine Has.drew ?_))) hb1
    have R1 : Has w1 (w.heap.size + 1) #[.int .i64 c, .int .i64 d] := Has.below (by (repeat' (first | with_reducible assumption | ((with_reducible refine Has.new _ _ _ ?_); (first | (with_reducible rfl) | (simp; done))) | with_reducible refine Has.alloc ?_ _ | with_reducible refine Has.drewN ?_ _ | with_reducible refine Has.drew ?_))) hb1
    have R2 : Has w1 (w.heap.size + 1 + 1) #[.int .i64 0, .int .i64 0] := Has.below (by (repeat' (first | with_reducible assumption | ((with_reducible refine Has.new _ _ _ ?_); (first | (with_reducible rfl) | (simp; done))) | with_reducible refine Has.alloc ?_ _ | with_reducible refine Has.drewN ?_ _ | with_reducible refine Has.drew ?_))) hb1
    replace hb1 := bel_on (show Below w.heap.size w _ by (repeat' (first | with_reducible exact Below.refl _ _ | with_reducible assumption | with_reducible refine bel_alloc ?_ _ | with_reducible refine bel_set ?_ ?_ _ | with_reducible refine below_drewN ?_ _ | with_reducible refine below_drew ?_ | (simp; done) | (simp; omega) | omega))) hb1
    obtain ⟨c0, c1, _, _⟩ := R0.two
    obtain ⟨c2, c3, _, _⟩ := R1.two
    go_wp2_with fail
    refine (rmul_q a b d c _ ha hb hd hc).mono ?_
    rintro e w2 ⟨rfl, hb2⟩
    replace R2 := R2.below hb2
    replace hb2 := bel_on hb1 hb2
    clear hb1 c0 c1 c2 c3
    obtain ⟨c0, c1, f0, f1⟩ := R2.two
    go_wp2
    refine bodyPost_ret (v := .tuple #[.agg #[.int .i64 (mulR a b d c).n, .int .i64 (mulR a b d c).d], .int .i64 (mulR a b d c).c]) (by simp [results, Try.results19, go_sem, c0, c1]) rfl ⟨ret_rr E.out.symm, ?_⟩
    (repeat' (first | with_reducible exact Below.refl _ _ | with_reducible assumption | with_reducible refine bel_alloc ?_ _ | with_reducible refine bel_set ?_ ?_ _ | with_reducible refine below_drewN ?_ _ | with_reducible refine below_drew ?_ | (simp; done) | (simp; omega) | omega))
  · have h' : mayB c d = false ∨ (mayB c d = true ∧ c < 1) := by
      cases h1 : mayB c d
      · exact .inl rfl
      · exact .inr ⟨rfl, by
          rcases Int.lt_or_le c 1 with h2 | h2
          · exact h2
          · exact absurd ⟨h1, h2⟩ h⟩
    have E := Lib.hid (div_ref_no (a := a) (b := b) h')
    clear h
    rcases h' with h1 | ⟨h1, h2⟩
    all_goals
      have HM := Lib.hid h1
      clear h1
      go_enter Try.func19, Try.ntmps19
      go_wp2_with fail
      refine (rcheck_any c d _ hc.1 hc.2 hd.1 hd.2).mono ?_
      rw [HM.out]
      rintro e w1 ⟨rfl, hb1⟩
      have R1 : Has w1 (w.heap.size + 1) #[.int .i64 c, .int .i64 d] := Has.below (by (repeat' (first | with_reducible assumption | ((with_reducible refine Has.new _ _ _ ?_); (first | (with_reducible rfl) | (simp; done))) | with_reducible refine Has.alloc ?_ _ | with_reducible refine Has.drewN ?_ _ | with_reducible refine Has.drew ?_))) hb1
      have R2 : Has w1 (w.heap.size + 1 + 1) #[.int .i64 0, .int .i64 0] := Has.below (by (repeat' (first | with_reducible assumption | ((with_reducible refine Has.new _ _ _ ?_); (first | (with_reducible rfl) | (simp; done))) | with_reducible refine Has.alloc ?_ _ | with_reducible refine Has.drewN ?_ _ | with_reducible refine Has.drew ?_))) hb1
      replace hb1 := bel_on (show Below w.heap.size w _ by (repeat' (first | with_reducible exact Below.refl _ _ | with_reducible assumption | with_reducible refine bel_alloc ?_ _ | with_reducible refine bel_set ?_ ?_ _ | with_reducible refine below_drewN ?_ _ | with_reducible refine below_drew ?_ | (simp; done) | (simp; omega) | omega))) hb1
      obtain ⟨c2, c3, _, _⟩ := R1.two
      obtain ⟨c0, c1, f0, f1⟩ := R2.two
      go_wp2
      refine bodyPost_ret (v := .tuple #[.agg #[.int .i64 0, .int .i64 0], .int .i64 20]) (by simp [results, Try.results19, go_sem, c0, c1]) rfl ⟨by rw [E.out]; rfl, ?_⟩
      (repeat' (first | with_reducible exact Below.refl _ _ | with_reducible assumption | with_reducible refine bel_alloc ?_ _ | with_reducible refine bel_set ?_ ?_ _ | with_reducible refine below_drewN ?_ _ | with_reducible refine below_drew ?_ | (simp; done) | (simp; omega) | omega))

theorem rless_q (a b c d : Int) (w : World) (ha : -9223372036854775808 ≤ a ∧ a ≤ 9223372036854775807) (hb : -9223372036854775808 ≤ b ∧ b ≤ 9223372036854775807) (hc : -9223372036854775808 ≤ c ∧ c ≤ 9223372036854775807) (hd : -9223372036854775808 ≤ d ∧ d ≤ 9223372036854775807) :
    Calls Try.prog 21 #[.agg #[.int .i64 a, .int .i64 b], .agg #[.int .i64 c, .int .i64 d]] w fun e w' => e = .returned (.bool (lessB a b c d)) ∧ Below w.heap.size w w' := by
  cases h1 : mayB a b with
  | false =>
    have E := Lib.hid (show lessB a b c d = false by unfold lessB; rw [h1]; rfl)
    have HM1 := Lib.hid h1
    clear h1
    go_enter Try.func21, Try.ntmps21
    go_wp2_with fail
    refine (rcheck_any a b _ ha.1 ha.2 hb.1 hb.2).mono ?_
    rw [HM1.out]
    rintro e w1 ⟨rfl, hb1⟩
    have R1 : Has w1 (w.heap.size + 1) #[.int .i64 c, .int .i64 d] := Has.below (by (repeat' (first | with_reducible assumption | ((with_reducible refine Has.new _ _ _ ?_); (first | (with_reducible rfl) | (simp; done))) | with_reducible refine Has.alloc ?_ _ | with_reducible refine Has.drewN ?_ _ | with_reducible refine Has.drew ?_))) hb1
    replace hb1 := bel_on (show Below w.heap.size w _ by (repeat' (first | with_reducible exact Below.refl _ _ | with_reducible assumption | with_reducible refine bel_alloc ?_ _ | with_reducible refine bel_set ?_ ?_ _ | with_reducible refine below_drewN ?_ _ | with_reducible refine below_drew ?_ | (simp; done) | (simp; omega) | omega))) hb1
    obtain ⟨c2, c3, _, _⟩ := R1.two
    go_wp2_with fail
    refine (rcheck_any c d _ hc.1 hc.2 hd.1 hd.2).mono ?_
    rintro e w2 ⟨rfl, hb2⟩
    replace hb2 := bel_on hb1 hb2
    go_wp2
    go_ret
    exact ⟨ret_bool E.out.symm, hb2⟩
  | true =>
    cases h2 : mayB c d with
    | false =>
      have E := Lib.hid (show lessB a b c d = false by unfold lessB; rw [h1, h2]; rfl)
      have HM1 := Lib.hid h1
      have HM2 := Lib.hid h2
      clear h1 h2
      go_enter Try.func21, Try.ntmps21
      go_wp2_with fail
      refine (rcheck_any a b _ ha.1 ha.2 hb.1 hb.2).mono ?_
      rw [HM1.out]
      rintro e w1 ⟨rfl, hb1⟩
      have R1 : Has w1 (w.heap.size + 1) #[.int .i64 c, .int .i64 d] := Has.below (by (repeat' (first | with_reducible assumption | ((with_reducible refine Has.new _ _ _ ?_); (first | (with_reducible rfl) | (simp; done))) | with_reducible refine Has.alloc ?_ _ | with_reducible refine Has.drewN ?_ _ | with_reducible refine Has.drew ?_))) hb1
      replace hb1 := bel_on (show Below w.heap.size w _ by (repeat' (first | with_reducible exact Below.refl _ _ | with_reducible assumption | with_reducible refine bel_alloc ?_ _ | with_reducible refine bel_set ?_ ?_ _ | with_reducible refine below_drewN ?_ _ | with_reducible refine below_drew ?_ | (simp; done) | (simp; omega) | omega))) hb1
      obtain ⟨c2, c3, _, _⟩ := R1.two
      go_wp2_with fail
      refine (rcheck_any c d _ hc.1 hc.2 hd.1 hd.2).mono ?_
      rw [HM2.out]
      rintro e w2 ⟨rfl, hb2⟩
      replace hb2 := bel_on hb1 hb2
      go_wp2
      go_ret
      exact ⟨ret_bool E.out.symm, hb2⟩
    | true =>
      have E := Lib.hid (show lessB a b c d = decide (a * d < c * b) by unfold lessB; rw [h1, h2]; rfl)
      obtain ⟨b1, b2, b3, b4⟩ := may_parts (show (mayB a b && mayB c d) = true by rw [h1, h2]; rfl)
      have p0 := part_bd (a := a) (b := d) (by omega) (by omega) (by omega) (by omega)
      have p1 := part_bd (a := c) (b := b) (by omega) (by omega) (by omega) (by omega)
      have HM1 := Lib.hid h1
      have HM2 := Lib.hid h2
      clear h1 h2
      go_enter Try.func21, Try.ntmps21
      go_wp2_with fail
      refine (rcheck_any a b _ ha.1 ha.2 hb.1 hb.2).mono ?_
      rw [HM1.out]
      rintro e w1 ⟨rfl, hb1⟩
      have R0 : Has w1 w.heap.size #[.int .i64 a, .int .i64 b] := Has.below (by (repeat' (first | with_reducible assumption | ((with_reducible refine Has.new _ _ _ ?_); (first | (with_reducible rfl) | (simp; done))) | with_reducible refine Has.alloc ?_ _ | with_reducible refine Has.drewN ?_ _ | with_reducible refine Has.drew ?_))) hb1
      have R1 : Has w1 (w.heap.size + 1) #[.int .i64 c, .int .i64 d] := Has.below (by (repeat' (first | with_reducible assumption | ((with_reducible refine Has.new _ _ _ ?_); (first | (with_reducible rfl) | (simp; done))) | with_reducible refine Has.alloc ?_ _ | with_reducible refine Has.drewN ?_ _ | with_reducible refine Has.drew ?_))) hb1
      replace hb1 := bel_on (show Below w.heap.size w _ by (repeat' (first | with_reducible exact Below.refl _ _ | with_reducible assumption | with_reducible refine bel_alloc ?_ _ | with_reducible refine bel_set ?_ ?_ _ | with_reducible refine below_drewN ?_ _ | with_reducible refine below_drew ?_ | (simp; done) | (simp; omega) | omega))) hb1
      obtain ⟨c2, c3, _, _⟩ := R1.two
      go_wp2_with fail
      refine (rcheck_any c d _ hc.1 hc.2 hd.1 hd.2).mono ?_
      rw [HM2.out]
      rintro e w2 ⟨rfl, hb2⟩
      replace R0 := R0.below hb2
      replace R1 := R1.below hb2
      replace hb2 := bel_on hb1 hb2
      clear hb1 c2 c3
      obtain ⟨c0, c1, _, _⟩ := R0.two
      obtain ⟨c2, c3, _, _⟩ := R1.two
      go_wp2
      go_ret
      exact ⟨ret_bool E.out.symm, hb2⟩

theorem rhalf_q (a b : Int) (w : World) (ha : -9223372036854775808 ≤ a ∧ a ≤ 9223372036854775807) (hb : -9223372036854775808 ≤ b ∧ b ≤ 9223372036854775807) :
    Calls Try.prog 23 #[.agg #[.int .i64 a, .int .i64 b]] w fun e w' => e = .returned (.int .i64 (halfR a b)) ∧ Below w.heap.size w w' := by
  cases hm : mayB a b with
  | true =>
    have E := Lib.hid (show halfR a b = halfV a b by unfold halfR; rw [hm]; rfl)
    have HM := Lib.hid hm
    have hbd := may_bd hm
    obtain ⟨b1, b2, b3, b4, _⟩ := hbd
    clear hm
    go_enter Try.func23, Try.ntmps23
    go_wp2_with fail
    refine (rcheck_any a b _ ha.1 ha.2 hb.1 hb.2).mono ?_
    rw [HM.out]
    rintro e w1 ⟨rfl, hb1⟩
    have R0 : Has w1 w.heap.size #[.int .i64 a, .int .i64 b] := Has.below (by (repeat' (first | with_reducible assumption | ((with_reducible refine Has.new _ _ _ ?_); (first | (with_reducible rfl) | (simp; done))) | with_reducible refine Has.alloc ?_ _ | with_reducible refine Has.drewN ?_ _ | with_reducible refine Has.drew ?_))) hb1
    replace hb1 := bel_on (show Below w.heap.size w _ by (repeat' (first | with_reducible exact Below.refl _ _ | with_reducible assumption | with_reducible refine bel_alloc ?_ _ | with_reducible refine bel_set ?_ ?_ _ | with_reducible refine below_drewN ?_ _ | with_reducible refine below_drew ?_ | (simp; done) | (simp; omega) | omega))) hb1
    obtain ⟨c0, c1, f0, f1⟩ := R0.two
    go_wp2_with fail
    refine (rhalf_pos a b _ ha.1 ha.2 (by omega) hb.2).mono ?_
    rintro e w2 ⟨rfl, rfl⟩
    go_wp2
    go_ret
    exact ⟨ret_one E.out.symm, hb1⟩
  | false =>
    have E := Lib.hid (show halfR a b = 0 by unfold halfR; rw [hm]; rfl)
    have HM := Lib.hid hm
    clear hm
    go_enter Try.func23, Try.ntmps23
    go_wp2_with fail
    refine (rcheck_any a b _ ha.1 ha.2 hb.1 hb.2).mono ?_
    rw [HM.out]
    rintro e w1 ⟨rfl, hb1⟩
    replace hb1 := bel_on (show Below w.heap.size w _ by (repeat' (first | with_reducible exact Below.refl _ _ | with_reducible assumption | with_reducible refine bel_alloc ?_ _ | with_reducible refine bel_set ?_ ?_ _ | with_reducible refine below_drewN ?_ _ | with_reducible refine below_drew ?_ | (simp; done) | (simp; omega) | omega))) hb1
    go_wp2
    go_ret
    exact ⟨ret_one E.out.symm, hb1⟩
end Go.Proofs.Ytlennhfjninclaa
