/-
  The contracts of package ratio's functions: what each call answers, at every input; what was there is left as it was.
  The contracts of package ratio's functions, continued: Check, and all that stands on it.
  The contracts of package lumperref02: the document's answers of layer 2 are what package ratio tells.
-/
import Derived.Test.YtdlimgpmmkcgmaaGreatZae
import Derived.Test.YtdlimgpmmkcgmaaGreatZac
import Derived.Test.YtdlimgpmmkcgmaaGreatZab
import Derived.Shelf.Abstract
import Derived.StillTailTactics
import Derived.Deep.Light
namespace Go.Proofs.YtdlimgpmmkcgmaaGreat
open Go.RowKit
set_option linter.unusedVariables false

theorem gcd_pow (k : Nat) : ∀ m : Nat, 0 < m → m < 2 ^ (k + 1) → Nat.gcd (2 ^ (k + 1)) m ∣ 2 ^ k := by
  induction k with
  | zero =>
    intro m h h'
    obtain rfl : m = 1 := by omega
    simp
  | succ k ih =>
    intro m h h'
    rcases Nat.mod_two_eq_zero_or_one m with e | e
    · obtain ⟨m', rfl⟩ : ∃ m', m = 2 * m' := ⟨m / 2, by omega⟩
      have h1 := ih m' (by omega) (by rw [Nat.pow_succ] at h'; omega)
      rw [Nat.pow_succ 2 (k + 1), Nat.mul_comm _ 2, Nat.gcd_mul_left, Nat.pow_succ 2 k, Nat.mul_comm _ 2]
      exact Nat.mul_dvd_mul_left 2 (by rw [Nat.mul_comm 2, ← Nat.pow_succ]; exact h1)
    · have hc : Nat.Coprime (2 ^ (k + 1 + 1)) m := by
        apply Nat.Coprime.pow_left
        show Nat.gcd 2 m = 1
        rw [Nat.gcd_rec, e]
        rfl
      rw [hc.gcd_eq_one]
      exact Nat.one_dvd _
theorem gcd_top {m : Nat} (h : 0 < m) (h' : m < 9223372036854775808) : Nat.gcd 4611686018427387904 m = Nat.gcd 9223372036854775808 m := by
  apply Nat.dvd_antisymm
  · exact Nat.gcd_dvd_gcd_of_dvd_left m ⟨2, rfl⟩
  · exact Nat.dvd_gcd (gcd_pow 62 m h h') (Nat.gcd_dvd_right _ _)

theorem gcdV_int {n d : Int} (hn : -9223372036854775808 ≤ n) (hd : 0 < d) (hd' : d ≤ 9223372036854775807) : gcdV n d = (Int.gcd n d : Int) := by
  unfold gcdV
  rw [sideV_pos (Int.le_of_lt hd)]
  have e : Int.gcd n d = Nat.gcd n.natAbs d.toNat := by
    show Nat.gcd n.natAbs d.natAbs = _
    rw [show d.natAbs = d.toNat by omega]
  rw [e]
  by_cases h : n = -9223372036854775808
  · subst h
    show ((Nat.gcd 4611686018427387904 d.toNat : Nat) : Int) = ((Nat.gcd 9223372036854775808 d.toNat : Nat) : Int)
    congr 1
    exact gcd_top (by omega) (by omega)
  · by_cases h0 : n < 0
    · rw [sideV_neg h0 h, show (-n).toNat = n.natAbs by omega]
    · rw [sideV_pos (by omega), show n.toNat = n.natAbs by omega]

theorem ret_r {a b c a' b' c' : Int} (h : a = a') (h' : b = b') (h2 : c = c') : Ending.returned (.tuple #[.agg #[.int .i64 a, .int .i64 b], .int .i64 c]) = .returned (.tuple #[.agg #[.int .i64 a', .int .i64 b'], .int .i64 c']) := by rw [h, h', h2]

theorem make_zero (n d : Int) (w : World) (hd : d ≤ 0) :
    Calls Tryz.prog 152 #[.int .i64 n, .int .i64 d] w fun e w' => e = .returned (.tuple #[.agg #[.int .i64 0, .int .i64 0], .int .i64 20]) ∧ Below w.heap.size w w' := by
  go_enter Tryz.func152, Tryz.ntmps152
  go_wp2
  refine bodyPost_ret (v := .tuple #[.agg #[.int .i64 0, .int .i64 0], .int .i64 20]) (by simp [results, Tryz.results152, go_sem]) rfl ⟨rfl, ?_⟩
  (repeat' (first | with_reducible exact Below.refl _ _ | with_reducible assumption | with_reducible refine bel_alloc ?_ _ | with_reducible refine bel_set ?_ ?_ _ | with_reducible refine below_drewN ?_ _ | with_reducible refine below_drew ?_ | (simp; done) | (simp; omega) | omega))

theorem make_pos (n d : Int) (w : World) (hn : -9223372036854775808 ≤ n) (hn' : n ≤ 9223372036854775807) (hd : 0 < d) (hd' : d ≤ 9223372036854775807) :
    Calls Tryz.prog 152 #[.int .i64 n, .int .i64 d] w fun e w' => e = .returned (.tuple #[.agg #[.int .i64 (mkN n d), .int .i64 (mkD n d)], .int .i64 (mkC n d)]) ∧ Below w.heap.size w w' := by
  have g0 : 0 < gcdV n d := by rw [gcdV_int hn hd hd']; exact gcd_pos' hd
  have e1 : n.tdiv (gcdV n d) = n / (Int.gcd n d : Int) := by
    rw [gcdV_int hn hd hd']
    exact Int.tdiv_eq_ediv_of_dvd (Int.gcd_dvd_left n d)
  have e2 : d / gcdV n d = d / (Int.gcd n d : Int) := by rw [gcdV_int hn hd hd']
  have E1 := Lib.hid e1
  have E2 := Lib.hid e2
  by_cases h : -2147483647 ≤ n / (Int.gcd n d : Int) ∧ n / (Int.gcd n d : Int) ≤ 2147483647 ∧ d / (Int.gcd n d : Int) ≤ 2147483647
  · have hc : mkC n d = 0 := by unfold mkC; rw [if_neg (by omega), if_pos h]
    have EN := Lib.hid (show mkN n d = n / (Int.gcd n d : Int) from if_pos hc)
    have ED := Lib.hid (show mkD n d = d / (Int.gcd n d : Int) from if_pos hc)
    have EC := Lib.hid hc
    rw [← e1, ← e2] at h
    obtain ⟨h1, h2, h3⟩ := h
    clear e1 e2 hc
    go_enter Tryz.func152, Tryz.ntmps152
    go_wp2_with fail
    refine (gcd_any _ _ _ hn hn' (by omega) hd').mono ?_
    rintro e w' ⟨rfl, k, rfl⟩
    go_wp2
    go_region
    go_wp2
    refine bodyPost_ret (v := .tuple #[.agg #[.int .i64 (n.tdiv (gcdV n d)), .int .i64 (d / gcdV n d)], .int .i64 0]) (by simp [results, Tryz.results152, go_sem]) rfl ⟨ret_r (E1.out.trans EN.out.symm) (E2.out.trans ED.out.symm) EC.out.symm, ?_⟩
    (repeat' (first | with_reducible exact Below.refl _ _ | with_reducible assumption | with_reducible refine bel_alloc ?_ _ | with_reducible refine bel_set ?_ ?_ _ | with_reducible refine below_drewN ?_ _ | with_reducible refine below_drew ?_ | (simp; done) | (simp; omega) | omega))
  · have hc : mkC n d = 10 := by unfold mkC; rw [if_neg (by omega), if_neg h]
    have hc0 : ¬ mkC n d = 0 := by omega
    have EN := Lib.hid (mk_bad hc0).1
    have ED := Lib.hid (mk_bad hc0).2
    have EC := Lib.hid hc
    rw [← e1, ← e2] at h
    have hb : n.tdiv (gcdV n d) < -2147483647 ∨ (-2147483647 ≤ n.tdiv (gcdV n d) ∧ 2147483647 < n.tdiv (gcdV n d)) ∨ (-2147483647 ≤ n.tdiv (gcdV n d) ∧ n.tdiv (gcdV n d) ≤ 2147483647 ∧ 2147483647 < d / gcdV n d) := by omega
    clear e1 e2 hc hc0 h
    rcases hb with h1 | ⟨h1, h2⟩ | ⟨h1, h2, h3⟩
    all_goals
      go_enter Tryz.func152, Tryz.ntmps152
      go_wp2_with fail
      refine (gcd_any _ _ _ hn hn' (by omega) hd').mono ?_
      rintro e w' ⟨rfl, k, rfl⟩
      go_wp2
      go_region
      go_wp2
      refine bodyPost_ret (v := .tuple #[.agg #[.int .i64 0, .int .i64 0], .int .i64 10]) (by simp [results, Tryz.results152, go_sem]) rfl ⟨ret_r EN.out.symm ED.out.symm EC.out.symm, ?_⟩
      (repeat' (first | with_reducible exact Below.refl _ _ | with_reducible assumption | with_reducible refine bel_alloc ?_ _ | with_reducible refine bel_set ?_ ?_ _ | with_reducible refine below_drewN ?_ _ | with_reducible refine below_drew ?_ | (simp; done) | (simp; omega) | omega))

theorem mk_neg {n d : Int} (h : d ≤ 0) : mkC n d = 20 ∧ mkN n d = 0 ∧ mkD n d = 0 := by
  have hc : mkC n d = 20 := if_pos h
  exact ⟨hc, mk_bad (by omega)⟩
theorem make_any (n d : Int) (w : World) (hn : -9223372036854775808 ≤ n) (hn' : n ≤ 9223372036854775807) (hd : -9223372036854775808 ≤ d) (hd' : d ≤ 9223372036854775807) :
    Calls Tryz.prog 152 #[.int .i64 n, .int .i64 d] w fun e w' => e = .returned (.tuple #[.agg #[.int .i64 (mkN n d), .int .i64 (mkD n d)], .int .i64 (mkC n d)]) ∧ Below w.heap.size w w' := by
  by_cases h : d ≤ 0
  · obtain ⟨e1, e2, e3⟩ := mk_neg (n := n) h
    rw [e1, e2, e3]
    exact make_zero n d w h
  · exact make_pos n d w hn hn' (by omega) hd'
theorem bcell {W w1 : World} (hb : Below W.heap.size W w1) : (∀ b o, b < W.heap.size → w1.cell? ⟨b, o, none⟩ = W.cell? ⟨b, o, none⟩) ∧ (∀ b o, b < W.heap.size → w1.frozen? ⟨b, o, none⟩ = W.frozen? ⟨b, o, none⟩) :=
  ⟨fun b o h => hb.cell (p := ⟨b, o, none⟩) h, fun b o h => hb.frozen (p := ⟨b, o, none⟩) h⟩
end Go.Proofs.YtdlimgpmmkcgmaaGreat

namespace Go.Proofs.YtdlimgpmmkcgmaaGreat
open Go.RowKit
set_option linter.unusedVariables false

theorem may_mk (n d : Int) : mayB n d = (decide (mkC n d = 0) && (decide (mkN n d = n) && decide (mkD n d = d))) := by
  by_cases h : mayB n d = true
  · obtain ⟨a, b, c⟩ := mk_self h
    rw [h, a, b, c]
    simp
  · have h' : mayB n d = false := by simpa using h
    rw [h']
    symm
    by_cases hc : mkC n d = 0
    · by_cases h1 : mkN n d = n ∧ mkD n d = d
      · exfalso
        have := mk_may hc
        rw [h1.1, h1.2] at this
        exact h this
      · simp only [hc, decide_true, Bool.true_and, ← Bool.decide_and]
        exact decide_eq_false h1
    · simp [hc]

theorem check_any (n d : Int) (w : World) (hn : -9223372036854775808 ≤ n) (hn' : n ≤ 9223372036854775807) (hd : -9223372036854775808 ≤ d) (hd' : d ≤ 9223372036854775807) :
    Calls Tryz.prog 129 #[.agg #[.int .i64 n, .int .i64 d]] w fun e w' => e = .returned (.bool (mayB n d)) ∧ Below w.heap.size w w' := by
  have E := Lib.hid (may_mk n d)
  by_cases h : mkC n d = 0
  · have h1 : (mkC n d == 0) = true := by simpa using h
    have H := Lib.hid h
    clear h
    go_enter Tryz.func129, Tryz.ntmps129
    go_wp2_with fail
    refine (make_any _ _ _ hn hn' hd hd').mono ?_
    rintro e w1 ⟨rfl, hb1⟩
    obtain ⟨hc1, hf1⟩ := bcell hb1
    have hz : w.heap.size < w1.heap.size := by have := hb1.size; simp at this; omega
    replace hb1 := bel_on (bel_alloc (Below.refl w.heap.size w) _) hb1
    go_wp2
    all_goals
      go_ret
      exact ⟨ret_bool (by have h0 := H.out; rw [E.out]; simp [*]), by (repeat' (first | with_reducible exact Below.refl _ _ | with_reducible assumption | with_reducible refine bel_alloc ?_ _ | with_reducible refine bel_set ?_ ?_ _ | with_reducible refine below_drewN ?_ _ | with_reducible refine below_drew ?_ | (simp; done) | (simp; omega) | omega))⟩
  · have h1 : (mkC n d == 0) = false := by simpa using h
    have H := Lib.hid h
    clear h
    go_enter Tryz.func129, Tryz.ntmps129
    go_wp2_with fail
    refine (make_any _ _ _ hn hn' hd hd').mono ?_
    rintro e w1 ⟨rfl, hb1⟩
    obtain ⟨hc1, hf1⟩ := bcell hb1
    have hz : w.heap.size < w1.heap.size := by have := hb1.size; simp at this; omega
    replace hb1 := bel_on (bel_alloc (Below.refl w.heap.size w) _) hb1
    go_wp2
    go_ret
    exact ⟨ret_bool (by have h0 := H.out; rw [E.out]; simp [h0]), by (repeat' (first | with_reducible exact Below.refl _ _ | with_reducible assumption | with_reducible refine bel_alloc ?_ _ | with_reducible refine bel_set ?_ ?_ _ | with_reducible refine below_drewN ?_ _ | with_reducible refine below_drew ?_ | (simp; done) | (simp; omega) | omega))⟩

/-- A slice value over A reads as the ratios xs. -/
def Rats (w : World) (A : Option Addr) (xs : List (Int × Int)) : Prop :=
  ∀ k, k < xs.length → ∃ b off, A = some ⟨b, off, none⟩ ∧ w.cell? ⟨b, off + k * 2, none⟩ = some (.int .i64 (xs.getD k (0, 0)).1) ∧ w.cell? ⟨b, off + k * 2 + 1, none⟩ = some (.int .i64 (xs.getD k (0, 0)).2) ∧
    -9223372036854775808 ≤ (xs.getD k (0, 0)).1 ∧ (xs.getD k (0, 0)).1 ≤ 9223372036854775807 ∧ -9223372036854775808 ≤ (xs.getD k (0, 0)).2 ∧ (xs.getD k (0, 0)).2 ≤ 9223372036854775807
theorem Rats.below {w w' : World} {A : Option Addr} {xs : List (Int × Int)} (h : Rats w A xs) (hb : Below w.heap.size w w') : Rats w' A xs := by
  intro k hk
  obtain ⟨b, off, e, h1, h2, h3⟩ := h k hk
  exact ⟨b, off, e, (hb.cell (cell_lt h1)).trans h1, (hb.cell (cell_lt h2)).trans h2, h3⟩

end Go.Proofs.YtdlimgpmmkcgmaaGreat

namespace Go.Proofs.YtdlimgpmmkcgmaaGreat
open Go.RowKit
set_option linter.unusedVariables false
set_option maxRecDepth 20000

theorem may_gcdV {n d : Int} (hn : -9223372036854775808 ≤ n) (hd : 0 < d) (hd' : d ≤ 9223372036854775807) :
    mayB n d = (decide (-2147483647 ≤ n) && (decide (n ≤ 2147483647) && (decide (d ≤ 2147483647) && (gcdV n d == 1)))) := by
  unfold mayB
  rw [gcdV_int hn hd hd', Bool.eq_iff_iff]
  simp
  omega

theorem rcheck_any (n d : Int) (w : World) (hn : -9223372036854775808 ≤ n) (hn' : n ≤ 9223372036854775807) (hd : -9223372036854775808 ≤ d) (hd' : d ≤ 9223372036854775807) :
    Calls Tryz.prog 118 #[.agg #[.int .i64 n, .int .i64 d]] w fun e w' => e = .returned (.bool (mayB n d)) ∧ Below w.heap.size w w' := by
  by_cases h : -2147483647 ≤ n ∧ n ≤ 2147483647 ∧ 1 ≤ d ∧ d ≤ 2147483647
  · obtain ⟨h1, h2, h3, h4⟩ := h
    have E := Lib.hid (show mayB n d = (gcdV n d == 1) by
      rw [may_gcdV hn (by omega) hd', decide_eq_true h1, decide_eq_true h2, decide_eq_true h4]; rfl)
    go_enter Tryz.func118, Tryz.ntmps118
    go_wp2_with fail
    refine (rgcd_any n d _ hn hn' hd hd').mono ?_
    rintro e w1 ⟨rfl, rfl⟩
    go_wp2
    go_ret
    exact ⟨ret_bool E.out.symm, by (repeat' (first | with_reducible exact Below.refl _ _ | with_reducible assumption | with_reducible refine bel_alloc ?_ _ | with_reducible refine bel_set ?_ ?_ _ | with_reducible refine below_drewN ?_ _ | with_reducible refine below_drew ?_ | (simp; done) | (simp; omega) | omega))⟩
  · have E := Lib.hid (show mayB n d = false by
      unfold mayB
      apply decide_eq_false
      rintro ⟨q1, q2, q3, q4, _⟩
      exact h ⟨q1, q2, q3, q4⟩)
    have hx : n < -2147483647 ∨ (-2147483647 ≤ n ∧ 2147483647 < n) ∨ ((-2147483647 ≤ n ∧ n ≤ 2147483647) ∧ d < 1) ∨ ((-2147483647 ≤ n ∧ n ≤ 2147483647) ∧ 1 ≤ d ∧ 2147483647 < d) := by omega
    clear h
    rcases hx with h1 | h1 | h1 | h1
    all_goals
      go_enter Tryz.func118, Tryz.ntmps118
      go_wp2
      go_ret
      exact ⟨ret_bool E.out.symm, by (repeat' (first | with_reducible exact Below.refl _ _ | with_reducible assumption | with_reducible refine bel_alloc ?_ _ | with_reducible refine bel_set ?_ ?_ _ | with_reducible refine below_drewN ?_ _ | with_reducible refine below_drew ?_ | (simp; done) | (simp; omega) | omega))⟩

end Go.Proofs.YtdlimgpmmkcgmaaGreat
