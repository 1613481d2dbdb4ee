/-
  The contracts of package lumperref02: the document's answers of layer 2 are what package ratio tells.
-/
import Derived.Test.YtoconmcmnikdnaaRatD
namespace Go.Proofs.Ytoconmcmnikdnaa
open Go.RowKit
set_option linter.unusedVariables false
set_option maxRecDepth 20000

theorem may_gcdV {n d : Int} (hn : -9223372036854775808 ≤ n) (hd : 0 < d) (hd' : d ≤ 9223372036854775807) :
    mayB n d = (decide (-2147483647 ≤ n) && (decide (n ≤ 2147483647) && (decide (d ≤ 2147483647) && (gcdV n d == 1)))) := by
  unfold mayB
  rw [gcdV_int hn hd hd', Bool.eq_iff_iff]
  simp
  omega

theorem rcheck_any (n d : Int) (w : World) (hn : -9223372036854775808 ≤ n) (hn' : n ≤ 9223372036854775807) (hd : -9223372036854775808 ≤ d) (hd' : d ≤ 9223372036854775807) :
    Calls Try.prog 51 #[.agg #[.int .i64 n, .int .i64 d]] w fun e w' => e = .returned (.bool (mayB n d)) ∧ Below w.heap.size w w' := by
  by_cases h : -2147483647 ≤ n ∧ n ≤ 2147483647 ∧ 1 ≤ d ∧ d ≤ 2147483647
  · obtain ⟨h1, h2, h3, h4⟩ := h
    have E := Lib.hid (show mayB n d = (gcdV n d == 1) by
      rw [may_gcdV hn (by omega) hd', decide_eq_true h1, decide_eq_true h2, decide_eq_true h4]; rfl)
    go_enter Try.func51, Try.ntmps51
    go_wp2_with fail
    refine (rgcd_any n d _ hn hn' hd hd').mono ?_
    rintro e w1 ⟨rfl, rfl⟩
    go_wp2
    go_ret
    exact ⟨ret_bool E.out.symm, by (repeat' (first | with_reducible exact Below.refl _ _ | with_reducible assumption | with_reducible refine bel_alloc ?_ _ | with_reducible refine bel_set ?_ ?_ _ | with_reducible refine below_drewN ?_ _ | with_reducible refine below_drew ?_ | (simp; done) | (simp; omega) | omega))⟩
  · have E := Lib.hid (show mayB n d = false by
      unfold mayB
      apply decide_eq_false
      rintro ⟨q1, q2, q3, q4, _⟩
      exact h ⟨q1, q2, q3, q4⟩)
    have hx : n < -2147483647 ∨ (-2147483647 ≤ n ∧ 2147483647 < n) ∨ ((-2147483647 ≤ n ∧ n ≤ 2147483647) ∧ d < 1) ∨ ((-2147483647 ≤ n ∧ n ≤ 2147483647) ∧ 1 ≤ d ∧ 2147483647 < d) := by omega
    clear h
    rcases hx with h1 | h1 | h1 | h1
    all_goals
      go_enter Try.func51, Try.ntmps51
      go_wp2
      go_ret
      exact ⟨ret_bool E.out.symm, by (repeat' (first | with_reducible exact Below.refl _ _ | with_reducible assumption | with_reducible refine bel_alloc ?_ _ | with_reducible refine bel_set ?_ ?_ _ | with_reducible refine below_drewN ?_ _ | with_reducible refine below_drew ?_ | (simp; done) | (simp; omega) | omega))⟩

theorem rmake_zero (n d : Int) (w : World) (hd : d ≤ 0) :
    Calls Try.prog 30 #[.int .i64 n, .int .i64 d] w fun e w' => e = .returned (.tuple #[.agg #[.int .i64 0, .int .i64 0], .int .i64 20]) ∧ Below w.heap.size w w' := by
  go_enter Try.func30, Try.ntmps30
  go_wp2
  refine bodyPost_ret (v := .tuple #[.agg #[.int .i64 0, .int .i64 0], .int .i64 20]) (by simp [results, Try.results30, go_sem]) rfl ⟨rfl, ?_⟩
  (repeat' (first | with_reducible exact Below.refl _ _ | with_reducible assumption | with_reducible refine bel_alloc ?_ _ | with_reducible refine bel_set ?_ ?_ _ | with_reducible refine below_drewN ?_ _ | with_reducible refine below_drew ?_ | (simp; done) | (simp; omega) | omega))

theorem low_may {n d : Int} (hd : 0 < d) : mayB (n / (Int.gcd n d : Int)) (d / (Int.gcd n d : Int)) = (mkC n d == 0) := by
  have h1 := low_d (n := n) hd
  have h2 := low_gcd (n := n) hd
  unfold mayB mkC
  rw [if_neg (by omega), h2, Bool.eq_iff_iff]
  simp
  omega

theorem rmake_pos (n d : Int) (w : World) (hn : -9223372036854775808 ≤ n) (hn' : n ≤ 9223372036854775807) (hd : 0 < d) (hd' : d ≤ 9223372036854775807) :
    Calls Try.prog 30 #[.int .i64 n, .int .i64 d] w fun e w' => e = .returned (.tuple #[.agg #[.int .i64 (mkN n d), .int .i64 (mkD n d)], .int .i64 (mkC n d)]) ∧ Below w.heap.size w w' := by
  have g0 : 0 < gcdV n d := by rw [gcdV_int hn hd hd']; exact gcd_pos' hd
  have e1 : n.tdiv (gcdV n d) = n / (Int.gcd n d : Int) := by
    rw [gcdV_int hn hd hd']
    exact Int.tdiv_eq_ediv_of_dvd (Int.gcd_dvd_left n d)
  have e2 : d / gcdV n d = d / (Int.gcd n d : Int) := by rw [gcdV_int hn hd hd']
  have E1 := Lib.hid e1
  have E2 := Lib.hid e2
  have b1 : -9223372036854775808 ≤ n.tdiv (gcdV n d) ∧ n.tdiv (gcdV n d) ≤ 9223372036854775807 := tdiv_in (by omega) hn hn'
  have b2 := ediv_bd (a := d) (b := gcdV n d) (by omega) (by omega) hd'
  have LM := Lib.hid (low_may (n := n) hd)
  cases hc : (mkC n d == 0) with
  | true =>
    have hc0 : mkC n d = 0 := by simpa using hc
    have EN := Lib.hid (show mkN n d = n / (Int.gcd n d : Int) from if_pos hc0)
    have ED := Lib.hid (show mkD n d = d / (Int.gcd n d : Int) from if_pos hc0)
    have EC := Lib.hid hc0
    have HC := Lib.hid hc
    clear e1 e2 hc0 hc
    go_enter Try.func30, Try.ntmps30
    go_wp2_with fail
    refine (rgcd_any _ _ _ hn hn' (by omega) hd').mono ?_
    rintro e w1 ⟨rfl, rfl⟩
    go_wp2
    go_region
    go_wp2_with fail
    refine (rcheck_any _ _ _ b1.1 b1.2 b2.1 b2.2).mono ?_
    rw [show mayB (n.tdiv (gcdV n d)) (d / gcdV n d) = true by rw [E1.out, E2.out, LM.out, HC.out]]
    rintro e w2 ⟨rfl, hb2⟩
    have R0 : Has w2 w.heap.size #[.int .i64 0, .int .i64 0] := Has.below (by (repeat' (first | with_reducible assumption | ((with_reducible refine Has.new _ _ _ ?_); (first | (with_reducible rfl) | (simp; done))) | with_reducible refine Has.alloc ?_ _ | with_reducible refine Has.drewN ?_ _ | with_reducible refine Has.drew ?_))) hb2
    have R1 : Has w2 (w.heap.size + 1) #[.int .i64 (n.tdiv (gcdV n d)), .int .i64 (d / gcdV n d)] := Has.below (by (repeat' (first | with_reducible assumption | ((with_reducible refine Has.new _ _ _ ?_); (first | (with_reducible rfl) | (simp; done))) | with_reducible refine Has.alloc ?_ _ | with_reducible refine Has.drewN ?_ _ | with_reducible refine Has.drew ?_))) hb2
    replace hb2 := bel_on (show Below w.heap.size w _ by (repeat' (first | with_reducible exact Below.refl _ _ | with_reducible assumption | with_reducible refine bel_alloc ?_ _ | with_reducible refine bel_set ?_ ?_ _ | with_reducible refine below_drewN ?_ _ | with_reducible refine below_drew ?_ | (simp; done) | (simp; omega) | omega))) hb2
    obtain ⟨c0, c1, f0, f1⟩ := R0.two
    obtain ⟨c2, c3, f2, f3⟩ := R1.two
    go_wp2
    refine bodyPost_ret (v := .tuple #[.agg #[.int .i64 (n.tdiv (gcdV n d)), .int .i64 (d / gcdV n d)], .int .i64 0]) (by simp [results, Try.results30, go_sem, c0, c1]) rfl ⟨ret_r (E1.out.trans EN.out.symm) (E2.out.trans ED.out.symm) EC.out.symm, ?_⟩
    (repeat' (first | with_reducible exact Below.refl _ _ | with_reducible assumption | with_reducible refine bel_alloc ?_ _ | with_reducible refine bel_set ?_ ?_ _ | with_reducible refine below_drewN ?_ _ | with_reducible refine below_drew ?_ | (simp; done) | (simp; omega) | omega))
  | false =>
    have hc0 : ¬ mkC n d = 0 := by simpa using hc
    have h10 : mkC n d = 10 := by
      rcases mkC_cases n d with h | h | h
      · exact absurd h hc0
      · exact h
      · exfalso
        unfold mkC at h
        rw [if_neg (by omega)] at h
        split at h <;> omega
    have EN := Lib.hid (mk_bad hc0).1
    have ED := Lib.hid (mk_bad hc0).2
    have EC := Lib.hid h10
    have HC := Lib.hid hc
    clear e1 e2 hc0 hc h10
    go_enter Try.func30, Try.ntmps30
    go_wp2_with fail
    refine (rgcd_any _ _ _ hn hn' (by omega) hd').mono ?_
    rintro e w1 ⟨rfl, rfl⟩
    go_wp2
    go_region
    go_wp2_with fail
    refine (rcheck_any _ _ _ b1.1 b1.2 b2.1 b2.2).mono ?_
    rw [show mayB (n.tdiv (gcdV n d)) (d / gcdV n d) = false by rw [E1.out, E2.out, LM.out, HC.out]]
    rintro e w2 ⟨rfl, hb2⟩
    have R0 : Has w2 w.heap.size #[.int .i64 0, .int .i64 0] := Has.below (by (repeat' (first | with_reducible assumption | ((with_reducible refine Has.new _ _ _ ?_); (first | (with_reducible rfl) | (simp; done))) | with_reducible refine Has.alloc ?_ _ | with_reducible refine Has.drewN ?_ _ | with_reducible refine Has.drew ?_))) hb2
    replace hb2 := bel_on (show Below w.heap.size w _ by (repeat' (first | with_reducible exact Below.refl _ _ | with_reducible assumption | with_reducible refine bel_alloc ?_ _ | with_reducible refine bel_set ?_ ?_ _ | with_reducible refine below_drewN ?_ _ | with_reducible refine below_drew ?_ | (simp; done) | (simp; omega) | omega))) hb2
    obtain ⟨c0, c1, f0, f1⟩ := R0.two
    go_wp2
    refine bodyPost_ret (v := .tuple #[.agg #[.int .i64 0, .int .i64 0], .int .i64 10]) (by simp [results, Try.results30, go_sem, c0, c1]) rfl ⟨ret_r EN.out.symm ED.out.symm EC.out.symm, ?_⟩
    (repeat' (first | with_reducible exact Below.refl _ _ | with_reducible assumption | with_reducible refine bel_alloc ?_ _ | with_reducible refine bel_set ?_ ?_ _ | with_reducible refine below_drewN ?_ _ | with_reducible refine below_drew ?_ | (simp; done) | (simp; omega) | omega))

theorem rmake_any (n d : Int) (w : World) (hn : -9223372036854775808 ≤ n) (hn' : n ≤ 9223372036854775807) (hd : -9223372036854775808 ≤ d) (hd' : d ≤ 9223372036854775807) :
    Calls Try.prog 30 #[.int .i64 n, .int .i64 d] w fun e w' => e = .returned (.tuple #[.agg #[.int .i64 (mkN n d), .int .i64 (mkD n d)], .int .i64 (mkC n d)]) ∧ Below w.heap.size w w' := by
  by_cases h : d ≤ 0
  · obtain ⟨e1, e2, e3⟩ := mk_neg (n := n) h
    rw [e1, e2, e3]
    exact rmake_zero n d w h
  · exact rmake_pos n d w hn hn' (by omega) hd'

theorem rminus_q (a b c d : Int) (w : World) (ha : -9223372036854775808 ≤ a ∧ a ≤ 9223372036854775807) (hb : -9223372036854775808 ≤ b ∧ b ≤ 9223372036854775807) (hc : -9223372036854775808 ≤ c ∧ c ≤ 9223372036854775807) (hd : -9223372036854775808 ≤ d ∧ d ≤ 9223372036854775807) :
    Calls Try.prog 52 #[.agg #[.int .i64 a, .int .i64 b], .agg #[.int .i64 c, .int .i64 d]] w fun e w' => e = .returned (.tuple #[.agg #[.int .i64 (minusR a b c d).n, .int .i64 (minusR a b c d).d], .int .i64 (minusR a b c d).c]) ∧ Below w.heap.size w w' := by
  cases hm : (mayB a b && mayB c d) with
  | true =>
    have E := Lib.hid (show minusR a b c d = mkR (a * d - c * b) (b * d) from if_pos hm)
    obtain ⟨b1, b2, b3, b4⟩ := may_parts hm
    have hm' := hm
    simp only [Bool.and_eq_true] at hm'
    have HM1 := Lib.hid hm'.1
    have HM2 := Lib.hid hm'.2
    have p0 := part_bd (a := a) (b := d) (by omega) (by omega) (by omega) (by omega)
    have p1 := part_bd (a := c) (b := b) (by omega) (by omega) (by omega) (by omega)
    have p2 := part_bd (a := b) (b := d) (by omega) (by omega) (by omega) (by omega)
    clear hm hm'
    go_enter Try.func52, Try.ntmps52
    go_wp2_with fail
    refine (rcheck_any a b _ ha.1 ha.2 hb.1 hb.2).mono ?_
    rw [HM1.out]
    rintro e w1 ⟨rfl, hb1⟩
    have R0 : Has w1 w.heap.size #[.int .i64 a, .int .i64 b] := Has.below (by (repeat' (first | with_reducible assumption | ((with_reducible refine Has.new _ _ _ ?_); (first | (with_reducible rfl) | (simp; done))) | with_reducible refine Has.alloc ?_ _ | with_reducible refine Has.drewN ?_ _ | with_reducible refine Has.drew ?_))) hb1
    have R1 : Has w1 (w.heap.size + 1) #[.int .i64 c, .int .i64 d] := Has.below (by (repeat' (first | with_reducible assumption | ((with_reducible refine Has.new _ _ _ ?_); (first | (with_reducible rfl) | (simp; done))) | with_reducible refine Has.alloc ?_ _ | with_reducible refine Has.drewN ?_ _ | with_reducible refine Has.drew ?_))) hb1
    have R2 : Has w1 (w.heap.size + 1 + 1) #[.int .i64 0, .int .i64 0] := Has.below (by (repeat' (first | with_reducible assumption | ((with_reducible refine Has.new _ _ _ ?_); (first | (with_reducible rfl) | (simp; done))) | with_reducible refine Has.alloc ?_ _ | with_reducible refine Has.drewN ?_ _ | with_reducible refine Has.drew ?_))) hb1
    replace hb1 := bel_on (show Below w.heap.size w _ by (repeat' (first | with_reducible exact Below.refl _ _ | with_reducible assumption | with_reducible refine bel_alloc ?_ _ | with_reducible refine bel_set ?_ ?_ _ | with_reducible refine below_drewN ?_ _ | with_reducible refine below_drew ?_ | (simp; done) | (simp; omega) | omega))) hb1
    obtain ⟨c2, c3, _, _⟩ := R1.two
    go_wp2_with fail
    refine (rcheck_any c d _ hc.1 hc.2 hd.1 hd.2).mono ?_
    rw [HM2.out]
    rintro e w2 ⟨rfl, hb2⟩
    replace R0 := R0.below hb2
    replace R1 := R1.below hb2
    replace R2 := R2.below hb2
    replace hb2 := bel_on hb1 hb2
    clear hb1 c2 c3
    obtain ⟨c0, c1, _, _⟩ := R0.two
    obtain ⟨c2, c3, _, _⟩ := R1.two
    go_wp2_with fail
    refine (rmake_any (a * d - c * b) (b * d) _ (by omega) (by omega) (by omega) (by omega)).mono ?_
    rintro e w3 ⟨rfl, hb3⟩
    replace R2 := R2.below hb3
    replace hb3 := bel_on hb2 hb3
    clear hb2 c0 c1 c2 c3
    obtain ⟨c0, c1, f0, f1⟩ := R2.two
    go_wp2
    refine bodyPost_ret (v := .tuple #[.agg #[.int .i64 (mkN (a * d - c * b) (b * d)), .int .i64 (mkD (a * d - c * b) (b * d))], .int .i64 (mkC (a * d - c * b) (b * d))]) (by simp [results, Try.results52, go_sem, c0, c1]) rfl ⟨by rw [E.out]; rfl, ?_⟩
    (repeat' (first | with_reducible exact Below.refl _ _ | with_reducible assumption | with_reducible refine bel_alloc ?_ _ | with_reducible refine bel_set ?_ ?_ _ | with_reducible refine below_drewN ?_ _ | with_reducible refine below_drew ?_ | (simp; done) | (simp; omega) | omega))
  | false =>
    have E := Lib.hid (show minusR a b c d = badR from if_neg (by rw [hm]; simp))
    have hm' : mayB a b = false ∨ (mayB a b = true ∧ mayB c d = false) := by
      cases h1 : mayB a b
      · exact .inl rfl
      · rw [h1] at hm; exact .inr ⟨rfl, by simpa using hm⟩
    clear hm
    rcases hm' with h1 | ⟨h1, h2⟩
    · have HM1 := Lib.hid h1
      clear h1
      go_enter Try.func52, Try.ntmps52
      go_wp2_with fail
      refine (rcheck_any a b _ ha.1 ha.2 hb.1 hb.2).mono ?_
      rw [HM1.out]
      rintro e w1 ⟨rfl, hb1⟩
      have R1 : Has w1 (w.heap.size + 1) #[.int .i64 c, .int .i64 d] := Has.below (by (repeat' (first | with_reducible assumption | ((with_reducible refine Has.new _ _ _ ?_); (first | (with_reducible rfl) | (simp; done))) | with_reducible refine Has.alloc ?_ _ | with_reducible refine Has.drewN ?_ _ | with_reducible refine Has.drew ?_))) hb1
      have R2 : Has w1 (w.heap.size + 1 + 1) #[.int .i64 0, .int .i64 0] := Has.below (by (repeat' (first | with_reducible assumption | ((with_reducible refine Has.new _ _ _ ?_); (first | (with_reducible rfl) | (simp; done))) | with_reducible refine Has.alloc ?_ _ | with_reducible refine Has.drewN ?_ _ | with_reducible refine Has.drew ?_))) hb1
      replace hb1 := bel_on (show Below w.heap.size w _ by (repeat' (first | with_reducible exact Below.refl _ _ | with_reducible assumption | with_reducible refine bel_alloc ?_ _ | with_reducible refine bel_set ?_ ?_ _ | with_reducible refine below_drewN ?_ _ | with_reducible refine below_drew ?_ | (simp; done) | (simp; omega) | omega))) hb1
      obtain ⟨c2, c3, _, _⟩ := R1.two
      go_wp2_with fail
      refine (rcheck_any c d _ hc.1 hc.2 hd.1 hd.2).mono ?_
      rintro e w2 ⟨rfl, hb2⟩
      replace R2 := R2.below hb2
      replace hb2 := bel_on hb1 hb2
      clear hb1 c2 c3
      obtain ⟨c0, c1, f0, f1⟩ := R2.two
      go_wp2
      refine bodyPost_ret (v := .tuple #[.agg #[.int .i64 0, .int .i64 0], .int .i64 20]) (by simp [results, Try.results52, go_sem, c0, c1]) rfl ⟨by rw [E.out]; rfl, ?_⟩
      (repeat' (first | with_reducible exact Below.refl _ _ | with_reducible assumption | with_reducible refine bel_alloc ?_ _ | with_reducible refine bel_set ?_ ?_ _ | with_reducible refine below_drewN ?_ _ | with_reducible refine below_drew ?_ | (simp; done) | (simp; omega) | omega))
    · have HM1 := Lib.hid h1
      have HM2 := Lib.hid h2
      clear h1 h2
      go_enter Try.func52, Try.ntmps52
      go_wp2_with fail
      refine (rcheck_any a b _ ha.1 ha.2 hb.1 hb.2).mono ?_
      rw [HM1.out]
      rintro e w1 ⟨rfl, hb1⟩
      have R1 : Has w1 (w.heap.size + 1) #[.int .i64 c, .int .i64 d] := Has.below (by (repeat' (first | with_reducible assumption | ((with_reducible refine Has.new _ _ _ ?_); (first | (with_reducible rfl) | (simp; done))) | with_reducible refine Has.alloc ?_ _ | with_reducible refine Has.drewN ?_ _ | with_reducible refine Has.drew ?_))) hb1
      have R2 : Has w1 (w.heap.size + 1 + 1) #[.int .i64 0, .int .i64 0] := Has.below (by (repeat' (first | with_reducible assumption | ((with_reducible refine Has.new _ _ _ ?_); (first | (with_reducible rfl) | (simp; done))) | with_reducible refine Has.alloc ?_ _ | with_reducible refine Has.drewN ?_ _ | with_reducible refine Has.drew ?_))) hb1
      replace hb1 := bel_on (show Below w.heap.size w _ by (repeat' (first | with_reducible exact Below.refl _ _ | with_reducible assumption | with_reducible refine bel_alloc ?_ _ | with_reducible refine bel_set ?_ ?_ _ | with_reducible refine below_drewN ?_ _ | with_reducible refine below_drew ?_ | (simp; done) | (simp; omega) | omega))) hb1
      obtain ⟨c2, c3, _, _⟩ := R1.two
      go_wp2_with fail
      refine (rcheck_any c d _ hc.1 hc.2 hd.1 hd.2).mono ?_
      rw [HM2.out]
      rintro e w2 ⟨rfl, hb2⟩
      replace R2 := R2.below hb2
      replace hb2 := bel_on hb1 hb2
      clear hb1 c2 c3
      obtain ⟨c0, c1, f0, f1⟩ := R2.two
      go_wp2
      refine bodyPost_ret (v := .tuple #[.agg #[.int .i64 0, .int .i64 0], .int .i64 20]) (by simp [results, Try.results52, go_sem, c0, c1]) rfl ⟨by rw [E.out]; rfl, ?_⟩
      (repeat' (first | with_reducible exact Below.refl _ _ | with_reducible assumption | with_reducible refine bel_alloc ?_ _ | with_reducible refine bel_set ?_ ?_ _ | with_reducible refine below_drewN ?_ _ | with_reducible refine below_drew ?_ | (simp; done) | (simp; omega) | omega))

theorem rmul_q (a b c d : Int) (w : World) (ha : -9223372036854775808 ≤ a ∧ a ≤ 9223372036854775807) (hb : -9223372036854775808 ≤ b ∧ b ≤ 9223372036854775807) (hc : -9223372036854775808 ≤ c ∧ c ≤ 9223372036854775807) (hd : -9223372036854775808 ≤ d ∧ d ≤ 9223372036854775807) :
    Calls Try.prog 27 #[.agg #[.int .i64 a, .int .i64 b], .agg #[.int .i64 c, .int .i64 d]] w fun e w' => e = .returned (.tuple #[.agg #[.int .i64 (mulR a b c d).n, .int .i64 (mulR a b c d).d], .int .i64 (mulR a b c d).c]) ∧ Below w.heap.size w w' := by
  cases hm : (mayB a b && mayB c d) with
  | true =>
    have E := Lib.hid (show mulR a b c d = mkR (a * c) (b * d) from if_pos hm)
    obtain ⟨b1, b2, b3, b4⟩ := may_parts hm
    have hm' := hm
    simp only [Bool.and_eq_true] at hm'
    have HM1 := Lib.hid hm'.1
    have HM2 := Lib.hid hm'.2
    have p0 := part_bd (a := a) (b := c) (by omega) (by omega) (by omega) (by omega)
    have p1 := part_bd (a := b) (b := d) (by omega) (by omega) (by omega) (by omega)
    clear hm hm'
    go_enter Try.func27, Try.ntmps27
    go_wp2_with fail
    refine (rcheck_any a b _ ha.1 ha.2 hb.1 hb.2).mono ?_
    rw [HM1.out]
    rintro e w1 ⟨rfl, hb1⟩
    have R0 : Has w1 w.heap.size #[.int .i64 a, .int .i64 b] := Has.below (by (repeat' (first | with_reducible assumption | ((with_reducible refine Has.new _ _ _ ?_); (first | (with_reducible rfl) | (simp; done))) | with_reducible refine Has.alloc ?_ _ | with_reducible refine Has.drewN ?_ _ | with_reducible refine Has.drew ?_))) hb1
    have R1 : Has w1 (w.heap.size + 1) #[.int .i64 c, .int .i64 d] := Has.below (by (repeat' (first | with_reducible assumption | ((with_reducible refine Has.new _ _ _ ?_); (first | (with_reducible rfl) | (simp; done))) | with_reducible refine Has.alloc ?_ _ | with_reducible refine Has.drewN ?_ _ | with_reducible refine Has.drew ?_))) hb1
    have R2 : Has w1 (w.heap.size + 1 + 1) #[.int .i64 0, .int .i64 0] := Has.below (by (repeat' (first | with_reducible assumption | ((with_reducible refine Has.new _ _ _ ?_); (first | (with_reducible rfl) | (simp; done))) | with_reducible refine Has.alloc ?_ _ | with_reducible refine Has.drewN ?_ _ | with_reducible refine Has.drew ?_))) hb1
    replace hb1 := bel_on (show Below w.heap.size w _ by (repeat' (first | with_reducible exact Below.refl _ _ | with_reducible assumption | with_reducible refine bel_alloc ?_ _ | with_reducible refine bel_set ?_ ?_ _ | with_reducible refine below_drewN ?_ _ | with_reducible refine below_drew ?_ | (simp; done) | (simp; omega) | omega))) hb1
    obtain ⟨c2, c3, _, _⟩ := R1.two
    go_wp2_with fail
    refine (rcheck_any c d _ hc.1 hc.2 hd.1 hd.2).mono ?_
    rw [HM2.out]
    rintro e w2 ⟨rfl, hb2⟩
    replace R0 := R0.below hb2
    replace R1 := R1.below hb2
    replace R2 := R2.below hb2
    replace hb2 := bel_on hb1 hb2
    clear hb1 c2 c3
    obtain ⟨c0, c1, _, _⟩ := R0.two
    obtain ⟨c2, c3, _, _⟩ := R1.two
    go_wp2_with fail
    refine (rmake_any (a * c) (b * d) _ (by omega) (by omega) (by omega) (by omega)).mono ?_
    rintro e w3 ⟨rfl, hb3⟩
    replace R2 := R2.below hb3
    replace hb3 := bel_on hb2 hb3
    clear hb2 c0 c1 c2 c3
    obtain ⟨c0, c1, f0, f1⟩ := R2.two
    go_wp2
    refine bodyPost_ret (v := .tuple #[.agg #[.int .i64 (mkN (a * c) (b * d)), .int .i64 (mkD (a * c) (b * d))], .int .i64 (mkC (a * c) (b * d))]) (by simp [results, Try.results27, go_sem, c0, c1]) rfl ⟨by rw [E.out]; rfl, ?_⟩
    (repeat' (first | with_reducible exact Below.refl _ _ | with_reducible assumption | with_reducible refine bel_alloc ?_ _ | with_reducible refine bel_set ?_ ?_ _ | with_reducible refine below_drewN ?_ _ | with_reducible refine below_drew ?_ | (simp; done) | (simp; omega) | omega))
  | false =>
    have E := Lib.hid (show mulR a b c d = badR from if_neg (by rw [hm]; simp))
    have hm' : mayB a b = false ∨ (mayB a b = true ∧ mayB c d = false) := by
      cases h1 : mayB a b
      · exact .inl rfl
      · rw [h1] at hm; exact .inr ⟨rfl, by simpa using hm⟩
    clear hm
    rcases hm' with h1 | ⟨h1, h2⟩
    · have HM1 := Lib.hid h1
      clear h1
      go_enter Try.func27, Try.ntmps27
      go_wp2_with fail
      refine (rcheck_any a b _ ha.1 ha.2 hb.1 hb.2).mono ?_
      rw [HM1.out]
      rintro e w1 ⟨rfl, hb1⟩
      have R1 : Has w1 (w.heap.size + 1) #[.int .i64 c, .int .i64 d] := Has.below (by (repeat' (first | with_reducible assumption | ((with_reducible refine Has.new _ _ _ ?_); (first | (with_reducible rfl) | (simp; done))) | with_reducible refine Has.alloc ?_ _ | with_reducible refine Has.drewN ?_ _ | with_reducible refine Has.drew ?_))) hb1
      have R2 : Has w1 (w.heap.size + 1 + 1) #[.int .i64 0, .int .i64 0] := Has.below (by (repeat' (first | with_reducible assumption | ((with_reducible refine Has.new _ _ _ ?_); (first | (with_reducible rfl) | (simp; done))) | with_reducible refine Has.alloc ?_ _ | with_reducible refine Has.drewN ?_ _ | with_reducible refine Has.drew ?_))) hb1
      replace hb1 := bel_on (show Below w.heap.size w _ by (repeat' (first | with_reducible exact Below.refl _ _ | with_reducible assumption | with_reducible refine bel_alloc ?_ _ | with_reducible refine bel_set ?_ ?_ _ | with_reducible refine below_drewN ?_ _ | with_reducible refine below_drew ?_ | (simp; done) | (simp; omega) | omega))) hb1
      obtain ⟨c2, c3, _, _⟩ := R1.two
      go_wp2_with fail
      refine (rcheck_any c d _ hc.1 hc.2 hd.1 hd.2).mono ?_
      rintro e w2 ⟨rfl, hb2⟩
      replace R2 := R2.below hb2
      replace hb2 := bel_on hb1 hb2
      clear hb1 c2 c3
      obtain ⟨c0, c1, f0, f1⟩ := R2.two
      go_wp2
      refine bodyPost_ret (v := .tuple #[.agg #[.int .i64 0, .int .i64 0], .int .i64 20]) (by simp [results, Try.results27, go_sem, c0, c1]) rfl ⟨by rw [E.out]; rfl, ?_⟩
      (repeat' (first | with_reducible exact Below.refl _ _ | with_reducible assumption | with_reducible refine bel_alloc ?_ _ | with_reducible refine bel_set ?_ ?_ _ | with_reducible refine below_drewN ?_ _ | with_reducible refine below_drew ?_ | (simp; done) | (simp; omega) | omega))
    · have HM1 := Lib.hid h1
      have HM2 := Lib.hid h2
      clear h1 h2
      go_enter Try.func27, Try.ntmps27
      go_wp2_with fail
      refine (rcheck_any a b _ ha.1 ha.2 hb.1 hb.2).mono ?_
      rw [HM1.out]
      rintro e w1 ⟨rfl, hb1⟩
      have R1 : Has w1 (w.heap.size + 1) #[.int .i64 c, .int .i64 d] := Has.below (by (repeat' (first | with_reducible assumption | ((with_reducible refine Has.new _ _ _ ?_); (first | (with_reducible rfl) | (simp; done))) | with_reducible refine Has.alloc ?_ _ | with_reducible refine Has.drewN ?_ _ | with_reducible refine Has.drew ?_))) hb1
      have R2 : Has w1 (w.heap.size + 1 + 1) #[.int .i64 0, .int .i64 0] := Has.below (by (repeat' (first | with_reducible assumption | ((with_reducible refine Has.new _ _ _ ?_); (first | (with_reducible rfl) | (simp; done))) | with_reducible refine Has.alloc ?_ _ | with_reducible refine Has.drewN ?_ _ | with_reducible refine Has.drew ?_))) hb1
      replace hb1 := bel_on (show Below w.heap.size w _ by (repeat' (first | with_reducible exact Below.refl _ _ | with_reducible assumption | with_reducible refine bel_alloc ?_ _ | with_reducible refine bel_set ?_ ?_ _ | with_reducible refine below_drewN ?_ _ | with_reducible refine below_drew ?_ | (simp; done) | (simp; omega) | omega))) hb1
      obtain ⟨c2, c3, _, _⟩ := R1.two
      go_wp2_with fail
      refine (rcheck_any c d _ hc.1 hc.2 hd.1 hd.2).mono ?_
      rw [HM2.out]
      rintro e w2 ⟨rfl, hb2⟩
      replace R2 := R2.below hb2
      replace hb2 := bel_on hb1 hb2
      clear hb1 c2 c3
      obtain ⟨c0, c1, f0, f1⟩ := R2.two
      go_wp2
      refine bodyPost_ret (v := .tuple #[.agg #[.int .i64 0, .int .i64 0], .int .i64 20]) (by simp [results, Try.results27, go_sem, c0, c1]) rfl ⟨by rw [E.out]; rfl, ?_⟩
      (repeat' (first | with_reducible exact Below.refl _ _ | with_reducible assumption | with_reducible refine bel_alloc ?_ _ | with_reducible refine bel_set ?_ ?_ _ | with_reducible refine below_drewN ?_ _ | with_reducible refine below_drew ?_ | (simp; done) | (simp; omega) | omega))
end Go.Proofs.Ytoconmcmnikdnaa
