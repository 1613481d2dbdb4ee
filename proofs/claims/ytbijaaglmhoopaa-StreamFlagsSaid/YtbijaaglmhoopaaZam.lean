/-
  The contracts of the document's own answers of layer 1 (package lumperref01): they are what package num's contracts say.
  The contracts of package ratio's functions: what each call answers, at every input; what was there is left as it was.
  The contracts of package ratio's functions, continued: Check, and all that stands on it.
  A session found from its first event on; its parts one by one; how many there are. No program here.
-/
import Derived.Test.YtbijaaglmhoopaaZal
import Derived.Test.YtbijaaglmhoopaaZaa
import Derived.Laws.Rows
import Derived.Shelf.Abstract
import Derived.StillTailTactics
import Derived.Deep.Light
namespace Go.Proofs.Ytbijaaglmhoopaa
open Go.RowKit
set_option linter.unusedVariables false

theorem sideV_pos {x : Int} (h : 0 ≤ x) : sideV x = x := by unfold sideV; rw [if_neg (by omega), if_neg (by omega)]
theorem sideV_neg {x : Int} (h : x < 0) (h' : x ≠ -9223372036854775808) : sideV x = -x := by unfold sideV; rw [if_neg h', if_pos h]
end Go.Proofs.Ytbijaaglmhoopaa

namespace Go.Proofs.Ytbijaaglmhoopaa
open Go.RowKit
set_option linter.unusedVariables false

theorem gcd_pow (k : Nat) : ∀ m : Nat, 0 < m → m < 2 ^ (k + 1) → Nat.gcd (2 ^ (k + 1)) m ∣ 2 ^ k := by
  induction k with
  | zero =>
    intro m h h'
    obtain rfl : m = 1 := by omega
    simp
  | succ k ih =>
    intro m h h'
    rcases Nat.mod_two_eq_zero_or_one m with e | e
    · obtain ⟨m', rfl⟩ : ∃ m', m = 2 * m' := ⟨m / 2, by omega⟩
      have h1 := ih m' (by omega) (by rw [Nat.pow_succ] at h'; omega)
      rw [Nat.pow_succ 2 (k + 1), Nat.mul_comm _ 2, Nat.gcd_mul_left, Nat.pow_succ 2 k, Nat.mul_comm _ 2]
      exact Nat.mul_dvd_mul_left 2 (by rw [Nat.mul_comm 2, ← Nat.pow_succ]; exact h1)
    · have hc : Nat.Coprime (2 ^ (k + 1 + 1)) m := by
        apply Nat.Coprime.pow_left
        show Nat.gcd 2 m = 1
        rw [Nat.gcd_rec, e]
        rfl
      rw [hc.gcd_eq_one]
      exact Nat.one_dvd _
theorem gcd_top {m : Nat} (h : 0 < m) (h' : m < 9223372036854775808) : Nat.gcd 4611686018427387904 m = Nat.gcd 9223372036854775808 m := by
  apply Nat.dvd_antisymm
  · exact Nat.gcd_dvd_gcd_of_dvd_left m ⟨2, rfl⟩
  · exact Nat.dvd_gcd (gcd_pow 62 m h h') (Nat.gcd_dvd_right _ _)

theorem gcdV_int {n d : Int} (hn : -9223372036854775808 ≤ n) (hd : 0 < d) (hd' : d ≤ 9223372036854775807) : gcdV n d = (Int.gcd n d : Int) := by
  unfold gcdV
  rw [sideV_pos (Int.le_of_lt hd)]
  have e : Int.gcd n d = Nat.gcd n.natAbs d.toNat := by
    show Nat.gcd n.natAbs d.natAbs = _
    rw [show d.natAbs = d.toNat by omega]
  rw [e]
  by_cases h : n = -9223372036854775808
  · subst h
    show ((Nat.gcd 4611686018427387904 d.toNat : Nat) : Int) = ((Nat.gcd 9223372036854775808 d.toNat : Nat) : Int)
    congr 1
    exact gcd_top (by omega) (by omega)
  · by_cases h0 : n < 0
    · rw [sideV_neg h0 h, show (-n).toNat = n.natAbs by omega]
    · rw [sideV_pos (by omega), show n.toNat = n.natAbs by omega]

theorem ret_r {a b c a' b' c' : Int} (h : a = a') (h' : b = b') (h2 : c = c') : Ending.returned (.tuple #[.agg #[.int .i64 a, .int .i64 b], .int .i64 c]) = .returned (.tuple #[.agg #[.int .i64 a', .int .i64 b'], .int .i64 c']) := by rw [h, h', h2]

theorem make_zero (n d : Int) (w : World) (hd : d ≤ 0) :
    Calls Try.prog 84 #[.int .i64 n, .int .i64 d] w fun e w' => e = .returned (.tuple #[.agg #[.int .i64 0, .int .i64 0], .int .i64 20]) ∧ Below w.heap.size w w' := by
  go_enter Try.func84, Try.ntmps84
  go_wp2
  refine bodyPost_ret (v := .tuple #[.agg #[.int .i64 0, .int .i64 0], .int .i64 20]) (by simp [results, Try.results84, go_sem]) rfl ⟨rfl, ?_⟩
  (repeat' (first | with_reducible exact Below.refl _ _ | with_reducible assumption | with_reducible refine bel_alloc ?_ _ | with_reducible refine bel_set ?_ ?_ _ | with_reducible refine below_drewN ?_ _ | with_reducible refine below_drew ?_ | (simp; done) | (simp; omega) | omega))

theorem make_pos (n d : Int) (w : World) (hn : -9223372036854775808 ≤ n) (hn' : n ≤ 9223372036854775807) (hd : 0 < d) (hd' : d ≤ 9223372036854775807) :
    Calls Try.prog 84 #[.int .i64 n, .int .i64 d] w fun e w' => e = .returned (.tuple #[.agg #[.int .i64 (mkN n d), .int .i64 (mkD n d)], .int .i64 (mkC n d)]) ∧ Below w.heap.size w w' := by
  have g0 : 0 < gcdV n d := by rw [gcdV_int hn hd hd']; exact gcd_pos' hd
  have e1 : n.tdiv (gcdV n d) = n / (Int.gcd n d : Int) := by
    rw [gcdV_int hn hd hd']
    exact Int.tdiv_eq_ediv_of_dvd (Int.gcd_dvd_left n d)
  have e2 : d / gcdV n d = d / (Int.gcd n d : Int) := by rw [gcdV_int hn hd hd']
  have E1 := Lib.hid e1
  have E2 := Lib.hid e2
  by_cases h : -2147483647 ≤ n / (Int.gcd n d : Int) ∧ n / (Int.gcd n d : Int) ≤ 2147483647 ∧ d / (Int.gcd n d : Int) ≤ 2147483647
  · have hc : mkC n d = 0 := by unfold mkC; rw [if_neg (by omega), if_pos h]
    have EN := Lib.hid (show mkN n d = n / (Int.gcd n d : Int) from if_pos hc)
    have ED := Lib.hid (show mkD n d = d / (Int.gcd n d : Int) from if_pos hc)
    have EC := Lib.hid hc
    rw [← e1, ← e2] at h
    obtain ⟨h1, h2, h3⟩ := h
    clear e1 e2 hc
    go_enter Try.func84, Try.ntmps84
    go_wp2_with fail
    refine (gcd_any _ _ _ hn hn' (by omega) hd').mono ?_
    rintro e w' ⟨rfl, k, rfl⟩
    go_wp2
    go_region
    go_wp2
    refine bodyPost_ret (v := .tuple #[.agg #[.int .i64 (n.tdiv (gcdV n d)), .int .i64 (d / gcdV n d)], .int .i64 0]) (by simp [results, Try.results84, go_sem]) rfl ⟨ret_r (E1.out.trans EN.out.symm) (E2.out.trans ED.out.symm) EC.out.symm, ?_⟩
    (repeat' (first | with_reducible exact Below.refl _ _ | with_reducible assumption | with_reducible refine bel_alloc ?_ _ | with_reducible refine bel_set ?_ ?_ _ | with_reducible refine below_drewN ?_ _ | with_reducible refine below_drew ?_ | (simp; done) | (simp; omega) | omega))
  · have hc : mkC n d = 10 := by unfold mkC; rw [if_neg (by omega), if_neg h]
    have hc0 : ¬ mkC n d = 0 := by omega
    have EN := Lib.hid (mk_bad hc0).1
    have ED := Lib.hid (mk_bad hc0).2
    have EC := Lib.hid hc
    rw [← e1, ← e2] at h
    have hb : n.tdiv (gcdV n d) < -2147483647 ∨ (-2147483647 ≤ n.tdiv (gcdV n d) ∧ 2147483647 < n.tdiv (gcdV n d)) ∨ (-2147483647 ≤ n.tdiv (gcdV n d) ∧ n.tdiv (gcdV n d) ≤ 2147483647 ∧ 2147483647 < d / gcdV n d) := by omega
    clear e1 e2 hc hc0 h
    rcases hb with h1 | ⟨h1, h2⟩ | ⟨h1, h2, h3⟩
    all_goals
      go_enter Try.func84, Try.ntmps84
      go_wp2_with fail
      refine (gcd_any _ _ _ hn hn' (by omega) hd').mono ?_
      rintro e w' ⟨rfl, k, rfl⟩
      go_wp2
      go_region
      go_wp2
      refine bodyPost_ret (v := .tuple #[.agg #[.int .i64 0, .int .i64 0], .int .i64 10]) (by simp [results, Try.results84, go_sem]) rfl ⟨ret_r EN.out.symm ED.out.symm EC.out.symm, ?_⟩
      (repeat' (first | with_reducible exact Below.refl _ _ | with_reducible assumption | with_reducible refine bel_alloc ?_ _ | with_reducible refine bel_set ?_ ?_ _ | with_reducible refine below_drewN ?_ _ | with_reducible refine below_drew ?_ | (simp; done) | (simp; omega) | omega))

theorem mk_neg {n d : Int} (h : d ≤ 0) : mkC n d = 20 ∧ mkN n d = 0 ∧ mkD n d = 0 := by
  have hc : mkC n d = 20 := if_pos h
  exact ⟨hc, mk_bad (by omega)⟩
theorem make_any (n d : Int) (w : World) (hn : -9223372036854775808 ≤ n) (hn' : n ≤ 9223372036854775807) (hd : -9223372036854775808 ≤ d) (hd' : d ≤ 9223372036854775807) :
    Calls Try.prog 84 #[.int .i64 n, .int .i64 d] w fun e w' => e = .returned (.tuple #[.agg #[.int .i64 (mkN n d), .int .i64 (mkD n d)], .int .i64 (mkC n d)]) ∧ Below w.heap.size w w' := by
  by_cases h : d ≤ 0
  · obtain ⟨e1, e2, e3⟩ := mk_neg (n := n) h
    rw [e1, e2, e3]
    exact make_zero n d w h
  · exact make_pos n d w hn hn' (by omega) hd'
theorem bcell {W w1 : World} (hb : Below W.heap.size W w1) : (∀ b o, b < W.heap.size → w1.cell? ⟨b, o, none⟩ = W.cell? ⟨b, o, none⟩) ∧ (∀ b o, b < W.heap.size → w1.frozen? ⟨b, o, none⟩ = W.frozen? ⟨b, o, none⟩) :=
  ⟨fun b o h => hb.cell (p := ⟨b, o, none⟩) h, fun b o h => hb.frozen (p := ⟨b, o, none⟩) h⟩
end Go.Proofs.Ytbijaaglmhoopaa

namespace Go.Proofs.Ytbijaaglmhoopaa
open Go.RowKit
set_option linter.unusedVariables false

theorem may_mk (n d : Int) : mayB n d = (decide (mkC n d = 0) && (decide (mkN n d = n) && decide (mkD n d = d))) := by
  by_cases h : mayB n d = true
  · obtain ⟨a, b, c⟩ := mk_self h
    rw [h, a, b, c]
    simp
  · have h' : mayB n d = false := by simpa using h
    rw [h']
    symm
    by_cases hc : mkC n d = 0
    · by_cases h1 : mkN n d = n ∧ mkD n d = d
      · exfalso
        have := mk_may hc
        rw [h1.1, h1.2] at this
        exact h this
      · simp only [hc, decide_true, Bool.true_and, ← Bool.decide_and]
        exact decide_eq_false h1
    · simp [hc]

theorem check_any (n d : Int) (w : World) (hn : -9223372036854775808 ≤ n) (hn' : n ≤ 9223372036854775807) (hd : -9223372036854775808 ≤ d) (hd' : d ≤ 9223372036854775807) :
    Calls Try.prog 70 #[.agg #[.int .i64 n, .int .i64 d]] w fun e w' => e = .returned (.bool (mayB n d)) ∧ Below w.heap.size w w' := by
  have E := Lib.hid (may_mk n d)
  by_cases h : mkC n d = 0
  · have h1 : (mkC n d == 0) = true := by simpa using h
    have H := Lib.hid h
    clear h
    go_enter Try.func70, Try.ntmps70
    go_wp2_with fail
    refine (make_any _ _ _ hn hn' hd hd').mono ?_
    rintro e w1 ⟨rfl, hb1⟩
    obtain ⟨hc1, hf1⟩ := bcell hb1
    have hz : w.heap.size < w1.heap.size := by have := hb1.size; simp at this; omega
    replace hb1 := bel_on (bel_alloc (Below.refl w.heap.size w) _) hb1
    go_wp2
    all_goals
      go_ret
      exact ⟨ret_bool (by have h0 := H.out; rw [E.out]; simp [*]), by (repeat' (first | with_reducible exact Below.refl _ _ | with_reducible assumption | with_reducible refine bel_alloc ?_ _ | with_reducible refine bel_set ?_ ?_ _ | with_reducible refine below_drewN ?_ _ | with_reducible refine below_drew ?_ | (simp; done) | (simp; omega) | omega))⟩
  · have h1 : (mkC n d == 0) = false := by simpa using h
    have H := Lib.hid h
    clear h
    go_enter Try.func70, Try.ntmps70
    go_wp2_with fail
    refine (make_any _ _ _ hn hn' hd hd').mono ?_
    rintro e w1 ⟨rfl, hb1⟩
    obtain ⟨hc1, hf1⟩ := bcell hb1
    have hz : w.heap.size < w1.heap.size := by have := hb1.size; simp at this; omega
    replace hb1 := bel_on (bel_alloc (Below.refl w.heap.size w) _) hb1
    go_wp2
    go_ret
    exact ⟨ret_bool (by have h0 := H.out; rw [E.out]; simp [h0]), by (repeat' (first | with_reducible exact Below.refl _ _ | with_reducible assumption | with_reducible refine bel_alloc ?_ _ | with_reducible refine bel_set ?_ ?_ _ | with_reducible refine below_drewN ?_ _ | with_reducible refine below_drew ?_ | (simp; done) | (simp; omega) | omega))⟩

/-- A slice value over A reads as the ratios xs. -/
def Rats (w : World) (A : Option Addr) (xs : List (Int × Int)) : Prop :=
  ∀ k, k < xs.length → ∃ b off, A = some ⟨b, off, none⟩ ∧ w.cell? ⟨b, off + k * 2, none⟩ = some (.int .i64 (xs.getD k (0, 0)).1) ∧ w.cell? ⟨b, off + k * 2 + 1, none⟩ = some (.int .i64 (xs.getD k (0, 0)).2) ∧
    -9223372036854775808 ≤ (xs.getD k (0, 0)).1 ∧ (xs.getD k (0, 0)).1 ≤ 9223372036854775807 ∧ -9223372036854775808 ≤ (xs.getD k (0, 0)).2 ∧ (xs.getD k (0, 0)).2 ≤ 9223372036854775807
theorem Rats.below {w w' : World} {A : Option Addr} {xs : List (Int × Int)} (h : Rats w A xs) (hb : Below w.heap.size w w') : Rats w' A xs := by
  intro k hk
  obtain ⟨b, off, e, h1, h2, h3⟩ := h k hk
  exact ⟨b, off, e, (hb.cell (cell_lt h1)).trans h1, (hb.cell (cell_lt h2)).trans h2, h3⟩

end Go.Proofs.Ytbijaaglmhoopaa

namespace Go.Proofs.Ytbijaaglmhoopaa
set_option linter.unusedVariables false
set_option linter.unusedSimpArgs false

/-- How many events of a session come behind its first one, when it ends, and its flag. -/
def endP (top : Int) : List EvP → Nat × Int × Int
  | [] => (0, top, 1)
  | b :: r => if top < b.tm then (0, top, 1) else if b.kd = 1 then (0, b.tm, 2) else if b.kd = 2 then (0, b.tm, 0) else ((endP top r).1 + 1, (endP top r).2.1, (endP top r).2.2)
theorem endP_over {top : Int} {b : EvP} {r : List EvP} (h : top < b.tm) : endP top (b :: r) = (0, top, 1) := by unfold endP; rw [if_pos h]
theorem endP_in {top : Int} {b : EvP} {r : List EvP} (h : ¬ top < b.tm) (k : b.kd = 1) : endP top (b :: r) = (0, b.tm, 2) := by unfold endP; rw [if_neg h, if_pos k]
theorem endP_out {top : Int} {b : EvP} {r : List EvP} (h : ¬ top < b.tm) (k : b.kd = 2) : endP top (b :: r) = (0, b.tm, 0) := by unfold endP; rw [if_neg h, if_neg (by omega), if_pos k]
theorem endP_on {top : Int} {b : EvP} {r : List EvP} (h : ¬ top < b.tm) (k : ¬ b.kd = 1) (k2 : ¬ b.kd = 2) : endP top (b :: r) = ((endP top r).1 + 1, (endP top r).2.1, (endP top r).2.2) := by
  conv => lhs; unfold endP
  rw [if_neg h, if_neg k, if_neg k2]
theorem items_end (cap : Int) (e : EvP) : ∀ (r ins : List EvP), itemsS cap (some (e, ins)) r =
    .sess e (ins ++ r.take (endP (e.tm + cap) r).1) (endP (e.tm + cap) r).2.1 (endP (e.tm + cap) r).2.2 :: itemsS cap none (r.drop (if (endP (e.tm + cap) r).2.2 = 0 then (endP (e.tm + cap) r).1 + 1 else (endP (e.tm + cap) r).1))
  | [], ins => by simp [itemsS, closeS, endP]
  | b :: r, ins => by
    by_cases q : e.tm + cap < b.tm
    · rw [endP_over q]
      by_cases k : b.kd = 1 <;> simp [itemsS, stepS, q, k]
    · by_cases k : b.kd = 1
      · rw [endP_in q k]
        simp [itemsS, stepS, q, k]
      · by_cases k2 : b.kd = 2
        · rw [endP_out q k2]
          simp [itemsS, stepS, q, k2]
        · rw [endP_on q k k2]
          have ih := items_end cap e r (ins ++ [b])
          have e1 : itemsS cap (some (e, ins)) (b :: r) = itemsS cap (some (e, ins ++ [b])) r := by simp [itemsS, stepS, q, k, k2]
          rw [e1, ih]
          generalize (endP (e.tm + cap) r).2.2 = fl
          generalize (endP (e.tm + cap) r).2.1 = to
          generalize (endP (e.tm + cap) r).1 = m
          by_cases z : fl = 0
          · simp [z]
          · simp [z]
theorem endP_bd {top : Int} : ∀ (r : List EvP), (endP top r).1 ≤ r.length ∧ ((endP top r).2.2 = 0 → (endP top r).1 < r.length) ∧ ((endP top r).2.2 = 0 ∨ (endP top r).2.2 = 1 ∨ (endP top r).2.2 = 2)
  | [] => by simp [endP]
  | b :: r => by
    by_cases q : top < b.tm
    · rw [endP_over q]; simp
    · by_cases k : b.kd = 1
      · rw [endP_in q k]; simp
      · by_cases k2 : b.kd = 2
        · rw [endP_out q k2]; simp
        · rw [endP_on q k k2]
          obtain ⟨h1, h2, h3⟩ := endP_bd (top := top) r
          refine ⟨by simp; omega, fun h => by have := h2 h; simp; omega, h3⟩
theorem endP_to {top : Int} : ∀ (r : List EvP), (∀ b ∈ r, 0 ≤ b.tm) → 0 ≤ top → 0 ≤ (endP top r).2.1 ∧ (endP top r).2.1 ≤ top
  | [], _, h => by simp [endP]; omega
  | b :: r, hr, h => by
    have hb := hr b (by simp)
    by_cases q : top < b.tm
    · rw [endP_over q]; simp; omega
    · by_cases k : b.kd = 1
      · rw [endP_in q k]; simp; omega
      · by_cases k2 : b.kd = 2
        · rw [endP_out q k2]; simp; omega
        · rw [endP_on q k k2]
          exact endP_to r (fun x hx => hr x (by simp [hx])) h
/-- The part by one event of a session. -/
def segAt (first last : Int) (es : List EvP) (i : Nat) : List SegP :=
  segI (if i = 0 then first else placeP first last (es.getD i EvP.none)) (if i + 1 < es.length then placeP first last (es.getD (i + 1) EvP.none) else last) (es.getD i EvP.none)
theorem flat_congr {f g : Nat → List SegP} (l : List Nat) (h : ∀ i ∈ l, f i = g i) : l.flatMap f = l.flatMap g := by
  rw [List.flatMap_def, List.flatMap_def, List.map_congr_left h]
theorem parts_range_a {first last : Int} : ∀ (ins : List EvP) (a : Int) (e : EvP), partsG first last a e ins =
    (List.range (ins.length + 1)).flatMap fun i => segI (if i = 0 then a else placeP first last ((e :: ins).getD i EvP.none)) (if i + 1 < (e :: ins).length then placeP first last ((e :: ins).getD (i + 1) EvP.none) else last) ((e :: ins).getD i EvP.none)
  | [], a, e => by simp [partsG, List.range_succ]
  | f :: l, a, e => by
    show segI a (placeP first last f) e ++ partsG first last (placeP first last f) f l = _
    rw [parts_range_a l]
    conv => rhs; rw [show (f :: l).length + 1 = (l.length + 1) + 1 from rfl, List.range_succ_eq_map, List.flatMap_cons, List.flatMap_map]
    congr 1
    refine flat_congr _ fun i hi => ?_
    have e1 : (e :: f :: l).getD (i + 1) EvP.none = (f :: l).getD i EvP.none := rfl
    have e2 : (e :: f :: l).getD (i + 1 + 1) EvP.none = (f :: l).getD (i + 1) EvP.none := rfl
    simp only [Nat.succ_eq_add_one, e1, e2, List.length_cons, Nat.add_lt_add_iff_right]
    rw [if_neg (show ¬ i + 1 = 0 by omega)]
    by_cases h : i = 0
    · subst h
      rfl
    · rw [if_neg h]
theorem parts_range {first last : Int} (e : EvP) (ins : List EvP) : partsG first last first e ins = (List.range (ins.length + 1)).flatMap (segAt first last (e :: ins)) := parts_range_a ins first e
def partsN (first last : Int) (es : List EvP) (i : Nat) : List SegP := (List.range i).flatMap (segAt first last es)
theorem partsN_succ (first last : Int) (es : List EvP) (i : Nat) : partsN first last es (i + 1) = partsN first last es i ++ segAt first last es i := by
  unfold partsN
  rw [List.range_succ, List.flatMap_append]
  simp
theorem segI_len (a b : Int) (e : EvP) : (segI a b e).length ≤ 1 := by unfold segI; split <;> simp
theorem partsN_len (first last : Int) (es : List EvP) : ∀ i, (partsN first last es i).length ≤ i
  | 0 => by simp [partsN]
  | i + 1 => by
    have := partsN_len first last es i
    have h2 := segI_len (if i = 0 then first else placeP first last (es.getD i EvP.none)) (if i + 1 < es.length then placeP first last (es.getD (i + 1) EvP.none) else last) (es.getD i EvP.none)
    rw [partsN_succ, List.length_append]
    unfold segAt
    omega
theorem sparts_len {first last : Int} : ∀ (ins : List EvP) (a : Int) (e : EvP), (partsG first last a e ins).length ≤ ins.length + 1
  | [], a, e => segI_len _ _ _
  | f :: l, a, e => by
    have h1 := segI_len a (placeP first last f) e
    have h2 := sparts_len (first := first) (last := last) l (placeP first last f) f
    show (segI a (placeP first last f) e ++ _).length ≤ _
    rw [List.length_append, List.length_cons]
    omega
def stN : StP → Nat
  | none => 0
  | some (_, ins) => ins.length + 1
theorem segs_len (R : Int → Int) {cap : Int} : ∀ (L : List EvP) (st : StP), (segsS R (itemsS cap st L)).length ≤ L.length + stN st
  | [], none => by simp [itemsS, closeS, segsS]
  | [], some (e, ins) => by
    have := sparts_len (first := R e.tm) (last := R (e.tm + cap)) ins (R e.tm) e
    have e1 : segsS R (itemsS cap (some (e, ins)) []) = partsG (R e.tm) (R (e.tm + cap)) (R e.tm) e ins := by simp [itemsS, closeS, segsS, segsI]
    rw [e1]
    simp [stN]
    omega
  | b :: L, st => by
    have ih := segs_len R (cap := cap) L (stepS cap st b).2
    have e0 : itemsS cap st (b :: L) = (stepS cap st b).1 ++ itemsS cap (stepS cap st b).2 L := rfl
    rw [e0, segsS_append, List.length_append, List.length_cons]
    have hs : (segsS R (stepS cap st b).1).length + stN (stepS cap st b).2 ≤ 1 + stN st := by
      match st with
      | none => by_cases k : b.kd = 1 <;> simp [stepS, k, segsS, segsI, stN]
      | some (e, ins) =>
        have p1 := sparts_len (first := R e.tm) (last := R (e.tm + cap)) ins (R e.tm) e
        have p2 := sparts_len (first := R e.tm) (last := R b.tm) ins (R e.tm) e
        by_cases q : e.tm + cap < b.tm
        · by_cases k : b.kd = 1 <;> simp [stepS, k, q, segsS, segsI, stN] <;> omega
        · by_cases k : b.kd = 1
          · simp [stepS, k, q, segsS, segsI, stN]; omega
          · by_cases k2 : b.kd = 2
            · simp [stepS, k2, q, segsS, segsI, stN]; omega
            · simp [stepS, k, k2, q, segsS, segsI, stN]; omega
    omega
theorem flags_len {cap : Int} : ∀ (L : List EvP) (st : StP), (flagsS (itemsS cap st L)).length ≤ L.length + openN st
  | [], none => by simp [itemsS, closeS, flagsS]
  | [], some (e, ins) => by simp [itemsS, closeS, flagsS, flagsI, openN]
  | b :: L, st => by
    have ih := flags_len (cap := cap) L (stepS cap st b).2
    have e0 : itemsS cap st (b :: L) = (stepS cap st b).1 ++ itemsS cap (stepS cap st b).2 L := rfl
    rw [e0, flagsS_append, List.length_append, List.length_cons]
    have hs : (flagsS (stepS cap st b).1).length + openN (stepS cap st b).2 ≤ 1 + openN st := by
      match st with
      | none => by_cases k : b.kd = 1 <;> simp [stepS, k, flagsS, flagsI, openN]
      | some (e, ins) =>
        by_cases q : e.tm + cap < b.tm
        · by_cases k : b.kd = 1 <;> simp [stepS, k, q, flagsS, flagsI, openN]
        · by_cases k : b.kd = 1
          · simp [stepS, k, q, flagsS, flagsI, openN]
          · by_cases k2 : b.kd = 2
            · simp [stepS, k2, q, flagsS, flagsI, openN]
            · simp [stepS, k, k2, q, flagsS, flagsI, openN]
    omega
/-! ### Numbers -/
def segL (s : SegP) : List Int := [s.fr, s.to, s.kd, s.id, s.cd]
def flagL (f : FlagP) : List Int := [f.id, f.kd]
def spanOf (s : SegP) : Int × Int := (s.fr, s.to)
/-- The seconds of parts, and of those of one kind. -/
noncomputable def clockP (l : List SegP) : List (Int × Int) := canon (InS l)
theorem in_spans (l : List SegP) (t : Int) : In (l.map spanOf) t ↔ InS l t := by
  constructor
  · rintro ⟨s, hs, h1, h2⟩
    obtain ⟨x, hx, rfl⟩ := List.mem_map.1 hs
    exact ⟨x, hx, h1, h2⟩
  · rintro ⟨x, hx, h1, h2⟩
    exact ⟨spanOf x, List.mem_map.2 ⟨x, hx, rfl⟩, h1, h2⟩
theorem clock_spans (l : List SegP) : canon (In (l.map spanOf)) = clockP l := canon_congr fun t _ _ => in_spans l t
end Go.Proofs.Ytbijaaglmhoopaa
