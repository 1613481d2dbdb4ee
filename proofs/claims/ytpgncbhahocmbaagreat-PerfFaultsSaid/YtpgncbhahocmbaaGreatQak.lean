/-
  The contracts of the document's own answers of layer 1 (package lumperref01): they are what package num's contracts say.
  The contracts of package ratio's functions: what each call answers, at every input; what was there is left as it was.
  The contracts of package ratio's functions, continued: Check, and all that stands on it.
  The contracts of package ratio's functions, continued: what two make, sums, which is less, the nearest number.
  The contracts of package ratio's functions, continued: sums, which is less, the nearest number.
-/
import Derived.Test.YtpgncbhahocmbaaGreatQaj
import Derived.Test.YtpgncbhahocmbaaGreatQaa
import Derived.Laws.Rows
import Derived.Shelf.Abstract
import Derived.StillTailTactics
import Derived.Deep.Light
namespace Go.Proofs.YtpgncbhahocmbaaGreat
open Go.RowKit
set_option linter.unusedVariables false

theorem sideV_pos {x : Int} (h : 0 ≤ x) : sideV x = x := by unfold sideV; rw [if_neg (by omega), if_neg (by omega)]
theorem sideV_neg {x : Int} (h : x < 0) (h' : x ≠ -9223372036854775808) : sideV x = -x := by unfold sideV; rw [if_neg h', if_pos h]
end Go.Proofs.YtpgncbhahocmbaaGreat

namespace Go.Proofs.YtpgncbhahocmbaaGreat
open Go.RowKit
set_option linter.unusedVariables false

theorem gcd_pow (k : Nat) : ∀ m : Nat, 0 < m → m < 2 ^ (k + 1) → Nat.gcd (2 ^ (k + 1)) m ∣ 2 ^ k := by
  induction k with
  | zero =>
    intro m h h'
    obtain rfl : m = 1 := by omega
    simp
  | succ k ih =>
    intro m h h'
    rcases Nat.mod_two_eq_zero_or_one m with e | e
    · obtain ⟨m', rfl⟩ : ∃ m', m = 2 * m' := ⟨m / 2, by omega⟩
      have h1 := ih m' (by omega) (by rw [Nat.pow_succ] at h'; omega)
      rw [Nat.pow_succ 2 (k + 1), Nat.mul_comm _ 2, Nat.gcd_mul_left, Nat.pow_succ 2 k, Nat.mul_comm _ 2]
      exact Nat.mul_dvd_mul_left 2 (by rw [Nat.mul_comm 2, ← Nat.pow_succ]; exact h1)
    · have hc : Nat.Coprime (2 ^ (k + 1 + 1)) m := by
        apply Nat.Coprime.pow_left
        show Nat.gcd 2 m = 1
        rw [Nat.gcd_rec, e]
        rfl
      rw [hc.gcd_eq_one]
      exact Nat.one_dvd _
theorem gcd_top {m : Nat} (h : 0 < m) (h' : m < 9223372036854775808) : Nat.gcd 4611686018427387904 m = Nat.gcd 9223372036854775808 m := by
  apply Nat.dvd_antisymm
  · exact Nat.gcd_dvd_gcd_of_dvd_left m ⟨2, rfl⟩
  · exact Nat.dvd_gcd (gcd_pow 62 m h h') (Nat.gcd_dvd_right _ _)

theorem gcdV_int {n d : Int} (hn : -9223372036854775808 ≤ n) (hd : 0 < d) (hd' : d ≤ 9223372036854775807) : gcdV n d = (Int.gcd n d : Int) := by
  unfold gcdV
  rw [sideV_pos (Int.le_of_lt hd)]
  have e : Int.gcd n d = Nat.gcd n.natAbs d.toNat := by
    show Nat.gcd n.natAbs d.natAbs = _
    rw [show d.natAbs = d.toNat by omega]
  rw [e]
  by_cases h : n = -9223372036854775808
  · subst h
    show ((Nat.gcd 4611686018427387904 d.toNat : Nat) : Int) = ((Nat.gcd 9223372036854775808 d.toNat : Nat) : Int)
    congr 1
    exact gcd_top (by omega) (by omega)
  · by_cases h0 : n < 0
    · rw [sideV_neg h0 h, show (-n).toNat = n.natAbs by omega]
    · rw [sideV_pos (by omega), show n.toNat = n.natAbs by omega]

theorem ret_r {a b c a' b' c' : Int} (h : a = a') (h' : b = b') (h2 : c = c') : Ending.returned (.tuple #[.agg #[.int .i64 a, .int .i64 b], .int .i64 c]) = .returned (.tuple #[.agg #[.int .i64 a', .int .i64 b'], .int .i64 c']) := by rw [h, h', h2]

theorem make_zero (n d : Int) (w : World) (hd : d ≤ 0) :
    Calls Tryz.prog 21 #[.int .i64 n, .int .i64 d] w fun e w' => e = .returned (.tuple #[.agg #[.int .i64 0, .int .i64 0], .int .i64 20]) ∧ Below w.heap.size w w' := by
  go_enter Tryz.func21, Tryz.ntmps21
  go_wp2
  refine bodyPost_ret (v := .tuple #[.agg #[.int .i64 0, .int .i64 0], .int .i64 20]) (by simp [results, Tryz.results21, go_sem]) rfl ⟨rfl, ?_⟩
  (repeat' (first | with_reducible exact Below.refl _ _ | with_reducible assumption | with_reducible refine bel_alloc ?_ _ | with_reducible refine bel_set ?_ ?_ _ | with_reducible refine below_drewN ?_ _ | with_reducible refine below_drew ?_ | (simp; done) | (simp; omega) | omega))

theorem make_pos (n d : Int) (w : World) (hn : -9223372036854775808 ≤ n) (hn' : n ≤ 9223372036854775807) (hd : 0 < d) (hd' : d ≤ 9223372036854775807) :
    Calls Tryz.prog 21 #[.int .i64 n, .int .i64 d] w fun e w' => e = .returned (.tuple #[.agg #[.int .i64 (mkN n d), .int .i64 (mkD n d)], .int .i64 (mkC n d)]) ∧ Below w.heap.size w w' := by
  have g0 : 0 < gcdV n d := by rw [gcdV_int hn hd hd']; exact gcd_pos' hd
  have e1 : n.tdiv (gcdV n d) = n / (Int.gcd n d : Int) := by
    rw [gcdV_int hn hd hd']
    exact Int.tdiv_eq_ediv_of_dvd (Int.gcd_dvd_left n d)
  have e2 : d / gcdV n d = d / (Int.gcd n d : Int) := by rw [gcdV_int hn hd hd']
  have E1 := Lib.hid e1
  have E2 := Lib.hid e2
  by_cases h : -2147483647 ≤ n / (Int.gcd n d : Int) ∧ n / (Int.gcd n d : Int) ≤ 2147483647 ∧ d / (Int.gcd n d : Int) ≤ 2147483647
  · have hc : mkC n d = 0 := by unfold mkC; rw [if_neg (by omega), if_pos h]
    have EN := Lib.hid (show mkN n d = n / (Int.gcd n d : Int) from if_pos hc)
    have ED := Lib.hid (show mkD n d = d / (Int.gcd n d : Int) from if_pos hc)
    have EC := Lib.hid hc
    rw [← e1, ← e2] at h
    obtain ⟨h1, h2, h3⟩ := h
    clear e1 e2 hc
    go_enter Tryz.func21, Tryz.ntmps21
    go_wp2_with fail
    refine (gcd_any _ _ _ hn hn' (by omega) hd').mono ?_
    rintro e w' ⟨rfl, k, rfl⟩
    go_wp2
    go_region
    go_wp2
    refine bodyPost_ret (v := .tuple #[.agg #[.int .i64 (n.tdiv (gcdV n d)), .int .i64 (d / gcdV n d)], .int .i64 0]) (by simp [results, Tryz.results21, go_sem]) rfl ⟨ret_r (E1.out.trans EN.out.symm) (E2.out.trans ED.out.symm) EC.out.symm, ?_⟩
    (repeat' (first | with_reducible exact Below.refl _ _ | with_reducible assumption | with_reducible refine bel_alloc ?_ _ | with_reducible refine bel_set ?_ ?_ _ | with_reducible refine below_drewN ?_ _ | with_reducible refine below_drew ?_ | (simp; done) | (simp; omega) | omega))
  · have hc : mkC n d = 10 := by unfold mkC; rw [if_neg (by omega), if_neg h]
    have hc0 : ¬ mkC n d = 0 := by omega
    have EN := Lib.hid (mk_bad hc0).1
    have ED := Lib.hid (mk_bad hc0).2
    have EC := Lib.hid hc
    rw [← e1, ← e2] at h
    have hb : n.tdiv (gcdV n d) < -2147483647 ∨ (-2147483647 ≤ n.tdiv (gcdV n d) ∧ 2147483647 < n.tdiv (gcdV n d)) ∨ (-2147483647 ≤ n.tdiv (gcdV n d) ∧ n.tdiv (gcdV n d) ≤ 2147483647 ∧ 2147483647 < d / gcdV n d) := by omega
    clear e1 e2 hc hc0 h
    rcases hb with h1 | ⟨h1, h2⟩ | ⟨h1, h2, h3⟩
    all_goals
      go_enter Tryz.func21, Tryz.ntmps21
      go_wp2_with fail
      refine (gcd_any _ _ _ hn hn' (by omega) hd').mono ?_
      rintro e w' ⟨rfl, k, rfl⟩
      go_wp2
      go_region
      go_wp2
      refine bodyPost_ret (v := .tuple #[.agg #[.int .i64 0, .int .i64 0], .int .i64 10]) (by simp [results, Tryz.results21, go_sem]) rfl ⟨ret_r EN.out.symm ED.out.symm EC.out.symm, ?_⟩
      (repeat' (first | with_reducible exact Below.refl _ _ | with_reducible assumption | with_reducible refine bel_alloc ?_ _ | with_reducible refine bel_set ?_ ?_ _ | with_reducible refine below_drewN ?_ _ | with_reducible refine below_drew ?_ | (simp; done) | (simp; omega) | omega))

theorem mk_neg {n d : Int} (h : d ≤ 0) : mkC n d = 20 ∧ mkN n d = 0 ∧ mkD n d = 0 := by
  have hc : mkC n d = 20 := if_pos h
  exact ⟨hc, mk_bad (by omega)⟩
theorem make_any (n d : Int) (w : World) (hn : -9223372036854775808 ≤ n) (hn' : n ≤ 9223372036854775807) (hd : -9223372036854775808 ≤ d) (hd' : d ≤ 9223372036854775807) :
    Calls Tryz.prog 21 #[.int .i64 n, .int .i64 d] w fun e w' => e = .returned (.tuple #[.agg #[.int .i64 (mkN n d), .int .i64 (mkD n d)], .int .i64 (mkC n d)]) ∧ Below w.heap.size w w' := by
  by_cases h : d ≤ 0
  · obtain ⟨e1, e2, e3⟩ := mk_neg (n := n) h
    rw [e1, e2, e3]
    exact make_zero n d w h
  · exact make_pos n d w hn hn' (by omega) hd'
theorem bcell {W w1 : World} (hb : Below W.heap.size W w1) : (∀ b o, b < W.heap.size → w1.cell? ⟨b, o, none⟩ = W.cell? ⟨b, o, none⟩) ∧ (∀ b o, b < W.heap.size → w1.frozen? ⟨b, o, none⟩ = W.frozen? ⟨b, o, none⟩) :=
  ⟨fun b o h => hb.cell (p := ⟨b, o, none⟩) h, fun b o h => hb.frozen (p := ⟨b, o, none⟩) h⟩
end Go.Proofs.YtpgncbhahocmbaaGreat

namespace Go.Proofs.YtpgncbhahocmbaaGreat
open Go.RowKit
set_option linter.unusedVariables false

theorem may_mk (n d : Int) : mayB n d = (decide (mkC n d = 0) && (decide (mkN n d = n) && decide (mkD n d = d))) := by
  by_cases h : mayB n d = true
  · obtain ⟨a, b, c⟩ := mk_self h
    rw [h, a, b, c]
    simp
  · have h' : mayB n d = false := by simpa using h
    rw [h']
    symm
    by_cases hc : mkC n d = 0
    · by_cases h1 : mkN n d = n ∧ mkD n d = d
      · exfalso
        have := mk_may hc
        rw [h1.1, h1.2] at this
        exact h this
      · simp only [hc, decide_true, Bool.true_and, ← Bool.decide_and]
        exact decide_eq_false h1
    · simp [hc]

theorem check_any (n d : Int) (w : World) (hn : -9223372036854775808 ≤ n) (hn' : n ≤ 9223372036854775807) (hd : -9223372036854775808 ≤ d) (hd' : d ≤ 9223372036854775807) :
    Calls Tryz.prog 28 #[.agg #[.int .i64 n, .int .i64 d]] w fun e w' => e = .returned (.bool (mayB n d)) ∧ Below w.heap.size w w' := by
  have E := Lib.hid (may_mk n d)
  by_cases h : mkC n d = 0
  · have h1 : (mkC n d == 0) = true := by simpa using h
    have H := Lib.hid h
    clear h
    go_enter Tryz.func28, Tryz.ntmps28
    go_wp2_with fail
    refine (make_any _ _ _ hn hn' hd hd').mono ?_
    rintro e w1 ⟨rfl, hb1⟩
    obtain ⟨hc1, hf1⟩ := bcell hb1
    have hz : w.heap.size < w1.heap.size := by have := hb1.size; simp at this; omega
    replace hb1 := bel_on (bel_alloc (Below.refl w.heap.size w) _) hb1
    go_wp2
    all_goals
      go_ret
      exact ⟨ret_bool (by have h0 := H.out; rw [E.out]; simp [*]), by (repeat' (first | with_reducible exact Below.refl _ _ | with_reducible assumption | with_reducible refine bel_alloc ?_ _ | with_reducible refine bel_set ?_ ?_ _ | with_reducible refine below_drewN ?_ _ | with_reducible refine below_drew ?_ | (simp; done) | (simp; omega) | omega))⟩
  · have h1 : (mkC n d == 0) = false := by simpa using h
    have H := Lib.hid h
    clear h
    go_enter Tryz.func28, Tryz.ntmps28
    go_wp2_with fail
    refine (make_any _ _ _ hn hn' hd hd').mono ?_
    rintro e w1 ⟨rfl, hb1⟩
    obtain ⟨hc1, hf1⟩ := bcell hb1
    have hz : w.heap.size < w1.heap.size := by have := hb1.size; simp at this; omega
    replace hb1 := bel_on (bel_alloc (Below.refl w.heap.size w) _) hb1
    go_wp2
    go_ret
    exact ⟨ret_bool (by have h0 := H.out; rw [E.out]; simp [h0]), by (repeat' (first | with_reducible exact Below.refl _ _ | with_reducible assumption | with_reducible refine bel_alloc ?_ _ | with_reducible refine bel_set ?_ ?_ _ | with_reducible refine below_drewN ?_ _ | with_reducible refine below_drew ?_ | (simp; done) | (simp; omega) | omega))⟩

/-- A slice value over A reads as the ratios xs. -/
def Rats (w : World) (A : Option Addr) (xs : List (Int × Int)) : Prop :=
  ∀ k, k < xs.length → ∃ b off, A = some ⟨b, off, none⟩ ∧ w.cell? ⟨b, off + k * 2, none⟩ = some (.int .i64 (xs.getD k (0, 0)).1) ∧ w.cell? ⟨b, off + k * 2 + 1, none⟩ = some (.int .i64 (xs.getD k (0, 0)).2) ∧
    -9223372036854775808 ≤ (xs.getD k (0, 0)).1 ∧ (xs.getD k (0, 0)).1 ≤ 9223372036854775807 ∧ -9223372036854775808 ≤ (xs.getD k (0, 0)).2 ∧ (xs.getD k (0, 0)).2 ≤ 9223372036854775807
theorem Rats.below {w w' : World} {A : Option Addr} {xs : List (Int × Int)} (h : Rats w A xs) (hb : Below w.heap.size w w') : Rats w' A xs := by
  intro k hk
  obtain ⟨b, off, e, h1, h2, h3⟩ := h k hk
  exact ⟨b, off, e, (hb.cell (cell_lt h1)).trans h1, (hb.cell (cell_lt h2)).trans h2, h3⟩

theorem all_snoc (xs : List (Int × Int)) (k : Nat) (h : k < xs.length) : allMay (xs.take (k + 1)) = (allMay (xs.take k) && mayB (xs.getD k (0, 0)).1 (xs.getD k (0, 0)).2) := by
  unfold allMay
  rw [List.take_succ_eq_append_getElem h, List.all_append]
  simp [List.getD, h]
theorem all_bad (xs : List (Int × Int)) (k : Nat) (h : k < xs.length) (hm : mayB (xs.getD k (0, 0)).1 (xs.getD k (0, 0)).2 = false) : allMay xs = false := by
  unfold allMay
  rw [List.all_eq_false]
  refine ⟨xs.getD k (0, 0), by simp [List.getD, h], by rw [hm]; simp⟩

theorem allMay_any (A : Option Addr) (cap : Nat) (xs : List (Int × Int)) (w : World) (hx : Rats w A xs) (hl : xs.length ≤ 9223372036854775807) :
    Calls Tryz.prog 60 #[.slice A xs.length cap] w fun e w' => e = .returned (.bool (allMay xs)) ∧ Below w.heap.size w w' := by
  have HX := Lib.hid hx
  clear hx
  go_enter Tryz.func60, Tryz.ntmps60
  go_wp2
  go_loopw [7] (fun i wr => ∃ k : Nat, k ≤ xs.length ∧ i = .int .i64 k ∧ Hid (allMay (xs.take k) = true) ∧ Below w.heap.size w wr) (fun i _ => xs.length - (intOf i).toNat)
  case atStart => exact ⟨0, Nat.zero_le _, rfl, rfl, Below.refl _ _⟩
  case round =>
    obtain ⟨k, hk, rfl, hs, hbw⟩ := hrel
    by_cases hlt : k < xs.length
    · obtain ⟨b, off, rfl, c1, c2, b1, b2, b3, b4⟩ := (HX.out.below hbw) k hlt
      have S1 := Lib.hid (all_snoc xs k hlt)
      have S2 := Lib.hid (all_bad xs k hlt)
      generalize (xs.getD k (0, 0)).1 = n at *
      generalize (xs.getD k (0, 0)).2 = d at *
      go_wp2_with fail
      refine (check_any _ _ _ b1 b2 b3 b4).mono ?_
      rintro e w2 ⟨rfl, hb2⟩
      replace hb2 := bel_on (bel_alloc hbw _) hb2
      clear hbw c1 c2
      cases hm : mayB n d with
      | true =>
        have hs' : Hid (allMay (xs.take (k + 1)) = true) := by
          show _ = _
          rw [S1.out, hs.out, hm]; rfl
        clear hm
        go_wp2
        go_roundw
        case rel => exact ⟨k + 1, by omega, by go_num, hs', hb2⟩
        case measure => simp [intOf]; omega
      | false =>
        have hs' := Lib.hid (S2.out hm)
        clear hm
        go_wp2
        go_ret
        exact ⟨ret_bool hs'.out.symm, hb2⟩
    · obtain rfl : k = xs.length := by omega
      have hs' := hs.out
      rw [List.take_length] at hs'
      have HS := Lib.hid hs'
      clear hs hs'
      go_wp2
      go_ret
      exact ⟨ret_bool HS.out.symm, hbw⟩

theorem rats_new (w : World) (xs : List (Int × Int)) (t : TypeId) (cs : Array Value) (hcs : cs = (xs.flatMap fun x => [Value.int .i64 x.1, .int .i64 x.2]).toArray)
    (h : ∀ x ∈ xs, -9223372036854775808 ≤ x.1 ∧ x.1 ≤ 9223372036854775807 ∧ -9223372036854775808 ≤ x.2 ∧ x.2 ≤ 9223372036854775807) :
    Rats (w.alloc (.cells cs t)) (some ⟨w.heap.size, 0, none⟩) xs := by
  intro k hk
  have g : ∀ (l : List (Int × Int)) (k : Nat), k < l.length → (l.flatMap fun x => [Value.int .i64 x.1, .int .i64 x.2])[k * 2]? = some (.int .i64 (l.getD k (0, 0)).1) ∧ (l.flatMap fun x => [Value.int .i64 x.1, .int .i64 x.2])[k * 2 + 1]? = some (.int .i64 (l.getD k (0, 0)).2) := by
    intro l
    induction l with
    | nil => intro k hk; simp at hk
    | cons x l ih =>
      intro k hk
      cases k with
      | zero => exact ⟨rfl, rfl⟩
      | succ k =>
        have := ih k (by simpa using hk)
        rw [show (k + 1) * 2 = k * 2 + 1 + 1 by omega]
        simp only [List.flatMap_cons, List.cons_append, List.nil_append, List.getElem?_cons_succ, List.getD_cons_succ]
        exact this
  have e : ∀ j, (w.alloc (.cells cs t)).cell? ⟨w.heap.size, j, none⟩ = cs[j]? := fun j => cell_of_row _ _ _ _ t (0, 0) (heap_alloc_new w _)
  refine ⟨_, _, rfl, ?_, ?_, h _ (by simp [List.getD, hk])⟩
  · rw [e, hcs]; simpa using (g xs k hk).1
  · rw [e, hcs]; simpa using (g xs k hk).2

theorem all_two (a b c d : Int) (w : World) (t : TypeId) (s : Nat) (hs : w.heap.size = s) (ha : -9223372036854775808 ≤ a ∧ a ≤ 9223372036854775807) (hb : -9223372036854775808 ≤ b ∧ b ≤ 9223372036854775807)
    (hc : -9223372036854775808 ≤ c ∧ c ≤ 9223372036854775807) (hd : -9223372036854775808 ≤ d ∧ d ≤ 9223372036854775807) :
    Calls Tryz.prog 60 #[.slice (some ⟨s, 0, none⟩) 2 2] (w.alloc (.cells #[.int .i64 a, .int .i64 b, .int .i64 c, .int .i64 d] t)) fun e w' => e = .returned (.bool (mayB a b && mayB c d)) ∧ Below w.heap.size w w' := by
  subst hs
  have h := allMay_any (some ⟨w.heap.size, 0, none⟩) 2 [(a, b), (c, d)] (w.alloc (.cells #[.int .i64 a, .int .i64 b, .int .i64 c, .int .i64 d] t))
    (rats_new w [(a, b), (c, d)] t _ rfl (by simp; omega)) (by simp)
  refine h.mono ?_
  rintro e w' ⟨rfl, hb⟩
  exact ⟨ret_bool (by simp [allMay]), bel_on (bel_alloc (Below.refl _ _) _) hb⟩

theorem two_yes (F : FuncId) (p q : Value) (a b c d n m : Int) (w : World) (ha : -9223372036854775808 ≤ a ∧ a ≤ 9223372036854775807) (hb : -9223372036854775808 ≤ b ∧ b ≤ 9223372036854775807)
    (hc : -9223372036854775808 ≤ c ∧ c ≤ 9223372036854775807) (hd : -9223372036854775808 ≤ d ∧ d ≤ 9223372036854775807) (hm : (mayB a b && mayB c d) = true)
    (hE : ∀ args w, (callFunc F args).run Tryz.prog w = .ok (.enter F args) w)
    (hF : ∀ w1, Below w.heap.size w w1 → Calls Tryz.prog F #[p, q] w1 fun e w' => e = .returned (.tuple #[.int .i64 n, .int .i64 m]) ∧ ∃ k, w' = w1.drewN k)
    (hn : -9223372036854775808 ≤ n) (hn' : n ≤ 9223372036854775807) (hd0 : -9223372036854775808 ≤ m) (hd' : m ≤ 9223372036854775807) :
    Calls Tryz.prog 58 #[.agg #[.int .i64 a, .int .i64 b], .agg #[.int .i64 c, .int .i64 d], .func (.func F) #[] #[p, q]] w fun e w' => e = .returned (.tuple #[.agg #[.int .i64 (mkN n m), .int .i64 (mkD n m)], .int .i64 (mkC n m)]) ∧ Below w.heap.size w w' := by
  have HF := Lib.hid hF
  have HM := Lib.hid hm
  clear hF hm
  go_enter Tryz.func58, Tryz.ntmps58
  go_wp2_with fail
  refine (all_two a b c d _ _ _ (by simp) ha hb hc hd).mono ?_
  rw [HM.out]
  rintro e w1 ⟨rfl, hb1⟩
  have R1 : Has w1 (w.heap.size + 1 + 1) #[.int .i64 0, .int .i64 0] := (Has.new _ _ _ (by simp)).below hb1
  replace hb1 := bel_on (show Below w.heap.size w _ by (repeat' (first | with_reducible exact Below.refl _ _ | with_reducible assumption | with_reducible refine bel_alloc ?_ _ | with_reducible refine bel_set ?_ ?_ _ | with_reducible refine below_drewN ?_ _ | with_reducible refine below_drew ?_ | (simp; done) | (simp; omega) | omega))) hb1
  go_wp2_with fail
  refine (HF.out w1 hb1).mono ?_
  rintro e w2 ⟨rfl, k, rfl⟩
  go_wp2_with fail
  refine (make_any n m _ hn hn' hd0 hd').mono ?_
  rintro e w2 ⟨rfl, hb2⟩
  have R2 := (R1.drewN k).below hb2
  replace hb2 := bel_on (below_drewN hb1 k) hb2
  clear R1 hb1
  obtain ⟨c0, c1, f0, f1⟩ := R2.two
  go_wp2
  refine bodyPost_ret (v := .tuple #[.agg #[.int .i64 (mkN n m), .int .i64 (mkD n m)], .int .i64 (mkC n m)]) (by simp [results, Tryz.results58, go_sem, c0, c1]) rfl ⟨rfl, ?_⟩
  (repeat' (first | with_reducible exact Below.refl _ _ | with_reducible assumption | with_reducible refine bel_alloc ?_ _ | with_reducible refine bel_set ?_ ?_ _ | with_reducible refine below_drewN ?_ _ | with_reducible refine below_drew ?_ | (simp; done) | (simp; omega) | omega))
end Go.Proofs.YtpgncbhahocmbaaGreat

namespace Go.Proofs.YtpgncbhahocmbaaGreat
open Go.RowKit
set_option linter.unusedVariables false

theorem two_no (v : Value) (a b c d : Int) (w : World) (ha : -9223372036854775808 ≤ a ∧ a ≤ 9223372036854775807) (hb : -9223372036854775808 ≤ b ∧ b ≤ 9223372036854775807) (hc : -9223372036854775808 ≤ c ∧ c ≤ 9223372036854775807) (hd : -9223372036854775808 ≤ d ∧ d ≤ 9223372036854775807) (hm : (mayB a b && mayB c d) = false) :
    Calls Tryz.prog 58 #[.agg #[.int .i64 a, .int .i64 b], .agg #[.int .i64 c, .int .i64 d], v] w fun e w' => e = .returned (.tuple #[.agg #[.int .i64 0, .int .i64 0], .int .i64 20]) ∧ Below w.heap.size w w' := by
  have HM := Lib.hid hm
  clear hm
  go_enter Tryz.func58, Tryz.ntmps58
  go_wp2_with fail
  refine (all_two a b c d _ _ _ (by simp) ha hb hc hd).mono ?_
  rw [HM.out]
  rintro e w1 ⟨rfl, hb1⟩
  have R1 : Has w1 (w.heap.size + 1 + 1) #[.int .i64 0, .int .i64 0] := (Has.new _ _ _ (by simp)).below hb1
  replace hb1 := bel_on (show Below w.heap.size w _ by (repeat' (first | with_reducible exact Below.refl _ _ | with_reducible assumption | with_reducible refine bel_alloc ?_ _ | with_reducible refine bel_set ?_ ?_ _ | with_reducible refine below_drewN ?_ _ | with_reducible refine below_drew ?_ | (simp; done) | (simp; omega) | omega))) hb1
  obtain ⟨c0, c1, f0, f1⟩ := R1.two
  go_wp2
  refine bodyPost_ret (v := .tuple #[.agg #[.int .i64 0, .int .i64 0], .int .i64 20]) (by simp [results, Tryz.results58, go_sem, c0, c1]) rfl ⟨rfl, ?_⟩
  (repeat' (first | with_reducible exact Below.refl _ _ | with_reducible assumption | with_reducible refine bel_alloc ?_ _ | with_reducible refine bel_set ?_ ?_ _ | with_reducible refine below_drewN ?_ _ | with_reducible refine below_drew ?_ | (simp; done) | (simp; omega) | omega))

theorem may_parts {a b c d : Int} (h : (mayB a b && mayB c d) = true) : (-2147483647 ≤ a ∧ a ≤ 2147483647) ∧ (1 ≤ b ∧ b ≤ 2147483647) ∧ (-2147483647 ≤ c ∧ c ≤ 2147483647) ∧ (1 ≤ d ∧ d ≤ 2147483647) := by
  simp only [Bool.and_eq_true] at h
  have h1 := may_bd h.1
  have h2 := may_bd h.2
  omega

theorem qminus_fn (g h : Nat) (a b c d : Int) (w : World) (hm : (mayB a b && mayB c d) = true) (hg : Has w g #[.int .i64 a, .int .i64 b]) (hh : Has w h #[.int .i64 c, .int .i64 d]) :
    Calls Tryz.prog 59 #[.pointer (some ⟨g, 0, none⟩), .pointer (some ⟨h, 0, none⟩)] w fun e w' => e = .returned (.tuple #[.int .i64 (a * d - c * b), .int .i64 (b * d)]) ∧ ∃ k, w' = w.drewN k := by
  obtain ⟨b1, b2, b3, b4⟩ := may_parts hm
  have p0 := part_bd (a := a) (b := d) (by omega) (by omega) (by omega) (by omega)
  have p1 := part_bd (a := c) (b := b) (by omega) (by omega) (by omega) (by omega)
  have p2 := part_bd (a := b) (b := d) (by omega) (by omega) (by omega) (by omega)
  obtain ⟨c0, c1, f0, f1⟩ := hg.two
  obtain ⟨c2, c3, f2, f3⟩ := hh.two
  clear hm f0 f1 f2 f3
  go_enter Tryz.func59, Tryz.ntmps59
  go_wp2
  go_quiet (fail)
  go_wp2
  go_ret2
  exact ⟨rfl, _, rfl⟩

theorem qminus_any (a b c d : Int) (w : World) (ha : -9223372036854775808 ≤ a ∧ a ≤ 9223372036854775807) (hb : -9223372036854775808 ≤ b ∧ b ≤ 9223372036854775807) (hc : -9223372036854775808 ≤ c ∧ c ≤ 9223372036854775807) (hd : -9223372036854775808 ≤ d ∧ d ≤ 9223372036854775807) :
    Calls Tryz.prog 22 #[.agg #[.int .i64 a, .int .i64 b], .agg #[.int .i64 c, .int .i64 d]] w fun e w' => e = .returned (.tuple #[.agg #[.int .i64 (minusR a b c d).n, .int .i64 (minusR a b c d).d], .int .i64 (minusR a b c d).c]) ∧ Below w.heap.size w w' := by
  have hmf : ∀ (fn : Fn) (first cap : Array Value) (w : World), (Instr.makeFunc fn first cap).run Tryz.prog w = .ok (.func fn first cap) w := fun _ _ _ _ => rfl
  cases hm : (mayB a b && mayB c d) with
  | true =>
    have E := Lib.hid (show minusR a b c d = mkR (a * d - c * b) (b * d) from if_pos hm)
    have HM := Lib.hid hm
    obtain ⟨b1, b2, b3, b4⟩ := may_parts hm
    have p0 := part_bd (a := a) (b := d) (by omega) (by omega) (by omega) (by omega)
    have p1 := part_bd (a := c) (b := b) (by omega) (by omega) (by omega) (by omega)
    have p2 := part_bd (a := b) (b := d) (by omega) (by omega) (by omega) (by omega)
    clear hm
    go_enter Tryz.func22, Tryz.ntmps22
    go_wp2_with fail
    refine (two_yes 59 _ _ a b c d (a * d - c * b) (b * d) _ ha hb hc hd HM.out (enters_of Tryz.func59 (by kernel_rfl) rfl) ?_ (by omega) (by omega) (by omega) (by omega)).mono ?_
    · intro w1 hb1
      refine qminus_fn _ _ a b c d w1 HM.out ?_ ?_
      · exact Has.below (((Has.new _ _ _ rfl).alloc _).alloc _) hb1
      · exact Has.below ((Has.new _ _ _ (by simp)).alloc _) hb1
    rintro e w2 ⟨rfl, hb2⟩
    have R2 : Has w2 (w.heap.size + 1 + 1) #[.int .i64 0, .int .i64 0] := (Has.new _ _ _ (by simp)).below hb2
    replace hb2 := bel_on (show Below w.heap.size w _ by (repeat' (first | with_reducible exact Below.refl _ _ | with_reducible assumption | with_reducible refine bel_alloc ?_ _ | with_reducible refine bel_set ?_ ?_ _ | with_reducible refine below_drewN ?_ _ | with_reducible refine below_drew ?_ | (simp; done) | (simp; omega) | omega))) hb2
    obtain ⟨c0, c1, f0, f1⟩ := R2.two
    go_wp2
    refine bodyPost_ret (v := .tuple #[.agg #[.int .i64 (mkN (a * d - c * b) (b * d)), .int .i64 (mkD (a * d - c * b) (b * d))], .int .i64 (mkC (a * d - c * b) (b * d))]) (by simp [results, Tryz.results22, go_sem, c0, c1]) rfl ⟨by rw [E.out]; rfl, ?_⟩
    (repeat' (first | with_reducible exact Below.refl _ _ | with_reducible assumption | with_reducible refine bel_alloc ?_ _ | with_reducible refine bel_set ?_ ?_ _ | with_reducible refine below_drewN ?_ _ | with_reducible refine below_drew ?_ | (simp; done) | (simp; omega) | omega))
  | false =>
    have E := Lib.hid (show minusR a b c d = badR from if_neg (by rw [hm]; simp))
    have HM := Lib.hid hm
    clear hm
    go_enter Tryz.func22, Tryz.ntmps22
    go_wp2_with fail
    refine (two_no _ a b c d _ ha hb hc hd HM.out).mono ?_
    rintro e w2 ⟨rfl, hb2⟩
    have R2 : Has w2 (w.heap.size + 1 + 1) #[.int .i64 0, .int .i64 0] := (Has.new _ _ _ (by simp)).below hb2
    replace hb2 := bel_on (show Below w.heap.size w _ by (repeat' (first | with_reducible exact Below.refl _ _ | with_reducible assumption | with_reducible refine bel_alloc ?_ _ | with_reducible refine bel_set ?_ ?_ _ | with_reducible refine below_drewN ?_ _ | with_reducible refine below_drew ?_ | (simp; done) | (simp; omega) | omega))) hb2
    obtain ⟨c0, c1, f0, f1⟩ := R2.two
    go_wp2
    refine bodyPost_ret (v := .tuple #[.agg #[.int .i64 0, .int .i64 0], .int .i64 20]) (by simp [results, Tryz.results22, go_sem, c0, c1]) rfl ⟨by rw [E.out]; rfl, ?_⟩
    (repeat' (first | with_reducible exact Below.refl _ _ | with_reducible assumption | with_reducible refine bel_alloc ?_ _ | with_reducible refine bel_set ?_ ?_ _ | with_reducible refine below_drewN ?_ _ | with_reducible refine below_drew ?_ | (simp; done) | (simp; omega) | omega))

theorem qmul_fn (g h : Nat) (a b c d : Int) (w : World) (hm : (mayB a b && mayB c d) = true) (hg : Has w g #[.int .i64 a, .int .i64 b]) (hh : Has w h #[.int .i64 c, .int .i64 d]) :
    Calls Tryz.prog 65 #[.pointer (some ⟨g, 0, none⟩), .pointer (some ⟨h, 0, none⟩)] w fun e w' => e = .returned (.tuple #[.int .i64 (a * c), .int .i64 (b * d)]) ∧ ∃ k, w' = w.drewN k := by
  obtain ⟨b1, b2, b3, b4⟩ := may_parts hm
  have p0 := part_bd (a := a) (b := c) (by omega) (by omega) (by omega) (by omega)
  have p1 := part_bd (a := b) (b := d) (by omega) (by omega) (by omega) (by omega)
  obtain ⟨c0, c1, f0, f1⟩ := hg.two
  obtain ⟨c2, c3, f2, f3⟩ := hh.two
  clear hm f0 f1 f2 f3
  go_enter Tryz.func65, Tryz.ntmps65
  go_wp2
  go_quiet (fail)
  go_wp2
  go_ret2
  exact ⟨rfl, _, rfl⟩

theorem qmul_any (a b c d : Int) (w : World) (ha : -9223372036854775808 ≤ a ∧ a ≤ 9223372036854775807) (hb : -9223372036854775808 ≤ b ∧ b ≤ 9223372036854775807) (hc : -9223372036854775808 ≤ c ∧ c ≤ 9223372036854775807) (hd : -9223372036854775808 ≤ d ∧ d ≤ 9223372036854775807) :
    Calls Tryz.prog 26 #[.agg #[.int .i64 a, .int .i64 b], .agg #[.int .i64 c, .int .i64 d]] w fun e w' => e = .returned (.tuple #[.agg #[.int .i64 (mulR a b c d).n, .int .i64 (mulR a b c d).d], .int .i64 (mulR a b c d).c]) ∧ Below w.heap.size w w' := by
  have hmf : ∀ (fn : Fn) (first cap : Array Value) (w : World), (Instr.makeFunc fn first cap).run Tryz.prog w = .ok (.func fn first cap) w := fun _ _ _ _ => rfl
  cases hm : (mayB a b && mayB c d) with
  | true =>
    have E := Lib.hid (show mulR a b c d = mkR (a * c) (b * d) from if_pos hm)
    have HM := Lib.hid hm
    obtain ⟨b1, b2, b3, b4⟩ := may_parts hm
    have p0 := part_bd (a := a) (b := c) (by omega) (by omega) (by omega) (by omega)
    have p1 := part_bd (a := b) (b := d) (by omega) (by omega) (by omega) (by omega)
    clear hm
    go_enter Tryz.func26, Tryz.ntmps26
    go_wp2_with fail
    refine (two_yes 65 _ _ a b c d (a * c) (b * d) _ ha hb hc hd HM.out (enters_of Tryz.func65 (by kernel_rfl) rfl) ?_ (by omega) (by omega) (by omega) (by omega)).mono ?_
    · intro w1 hb1
      refine qmul_fn _ _ a b c d w1 HM.out ?_ ?_
      · exact Has.below (((Has.new _ _ _ rfl).alloc _).alloc _) hb1
      · exact Has.below ((Has.new _ _ _ (by simp)).alloc _) hb1
    rintro e w2 ⟨rfl, hb2⟩
    have R2 : Has w2 (w.heap.size + 1 + 1) #[.int .i64 0, .int .i64 0] := (Has.new _ _ _ (by simp)).below hb2
    replace hb2 := bel_on (show Below w.heap.size w _ by (repeat' (first | with_reducible exact Below.refl _ _ | with_reducible assumption | with_reducible refine bel_alloc ?_ _ | with_reducible refine bel_set ?_ ?_ _ | with_reducible refine below_drewN ?_ _ | with_reducible refine below_drew ?_ | (simp; done) | (simp; omega) | omega))) hb2
    obtain ⟨c0, c1, f0, f1⟩ := R2.two
    go_wp2
    refine bodyPost_ret (v := .tuple #[.agg #[.int .i64 (mkN (a * c) (b * d)), .int .i64 (mkD (a * c) (b * d))], .int .i64 (mkC (a * c) (b * d))]) (by simp [results, Tryz.results26, go_sem, c0, c1]) rfl ⟨by rw [E.out]; rfl, ?_⟩
    (repeat' (first | with_reducible exact Below.refl _ _ | with_reducible assumption | with_reducible refine bel_alloc ?_ _ | with_reducible refine bel_set ?_ ?_ _ | with_reducible refine below_drewN ?_ _ | with_reducible refine below_drew ?_ | (simp; done) | (simp; omega) | omega))
  | false =>
    have E := Lib.hid (show mulR a b c d = badR from if_neg (by rw [hm]; simp))
    have HM := Lib.hid hm
    clear hm
    go_enter Tryz.func26, Tryz.ntmps26
    go_wp2_with fail
    refine (two_no _ a b c d _ ha hb hc hd HM.out).mono ?_
    rintro e w2 ⟨rfl, hb2⟩
    have R2 : Has w2 (w.heap.size + 1 + 1) #[.int .i64 0, .int .i64 0] := (Has.new _ _ _ (by simp)).below hb2
    replace hb2 := bel_on (show Below w.heap.size w _ by (repeat' (first | with_reducible exact Below.refl _ _ | with_reducible assumption | with_reducible refine bel_alloc ?_ _ | with_reducible refine bel_set ?_ ?_ _ | with_reducible refine below_drewN ?_ _ | with_reducible refine below_drew ?_ | (simp; done) | (simp; omega) | omega))) hb2
    obtain ⟨c0, c1, f0, f1⟩ := R2.two
    go_wp2
    refine bodyPost_ret (v := .tuple #[.agg #[.int .i64 0, .int .i64 0], .int .i64 20]) (by simp [results, Tryz.results26, go_sem, c0, c1]) rfl ⟨by rw [E.out]; rfl, ?_⟩
    (repeat' (first | with_reducible exact Below.refl _ _ | with_reducible assumption | with_reducible refine bel_alloc ?_ _ | with_reducible refine bel_set ?_ ?_ _ | with_reducible refine below_drewN ?_ _ | with_reducible refine below_drew ?_ | (simp; done) | (simp; omega) | omega))

theorem qdiv_fn (g h : Nat) (a b c d : Int) (w : World) (hm : (mayB a b && mayB c d) = true) (hg : Has w g #[.int .i64 a, .int .i64 b]) (hh : Has w h #[.int .i64 c, .int .i64 d]) :
    Calls Tryz.prog 70 #[.pointer (some ⟨g, 0, none⟩), .pointer (some ⟨h, 0, none⟩)] w fun e w' => e = .returned (.tuple #[.int .i64 (a * d), .int .i64 (b * c)]) ∧ ∃ k, w' = w.drewN k := by
  obtain ⟨b1, b2, b3, b4⟩ := may_parts hm
  have p0 := part_bd (a := a) (b := d) (by omega) (by omega) (by omega) (by omega)
  have p1 := part_bd (a := b) (b := c) (by omega) (by omega) (by omega) (by omega)
  obtain ⟨c0, c1, f0, f1⟩ := hg.two
  obtain ⟨c2, c3, f2, f3⟩ := hh.two
  clear hm f0 f1 f2 f3
  go_enter Tryz.func70, Tryz.ntmps70
  go_wp2
  go_quiet (fail)
  go_wp2
  go_ret2
  exact ⟨rfl, _, rfl⟩

theorem qdiv_any (a b c d : Int) (w : World) (ha : -9223372036854775808 ≤ a ∧ a ≤ 9223372036854775807) (hb : -9223372036854775808 ≤ b ∧ b ≤ 9223372036854775807) (hc : -9223372036854775808 ≤ c ∧ c ≤ 9223372036854775807) (hd : -9223372036854775808 ≤ d ∧ d ≤ 9223372036854775807) :
    Calls Tryz.prog 37 #[.agg #[.int .i64 a, .int .i64 b], .agg #[.int .i64 c, .int .i64 d]] w fun e w' => e = .returned (.tuple #[.agg #[.int .i64 (divR a b c d).n, .int .i64 (divR a b c d).d], .int .i64 (divR a b c d).c]) ∧ Below w.heap.size w w' := by
  have hmf : ∀ (fn : Fn) (first cap : Array Value) (w : World), (Instr.makeFunc fn first cap).run Tryz.prog w = .ok (.func fn first cap) w := fun _ _ _ _ => rfl
  cases hm : (mayB a b && mayB c d) with
  | true =>
    have E := Lib.hid (show divR a b c d = mkR (a * d) (b * c) from if_pos hm)
    have HM := Lib.hid hm
    obtain ⟨b1, b2, b3, b4⟩ := may_parts hm
    have p0 := part_bd (a := a) (b := d) (by omega) (by omega) (by omega) (by omega)
    have p1 := part_bd (a := b) (b := c) (by omega) (by omega) (by omega) (by omega)
    clear hm
    go_enter Tryz.func37, Tryz.ntmps37
    go_wp2_with fail
    refine (two_yes 70 _ _ a b c d (a * d) (b * c) _ ha hb hc hd HM.out (enters_of Tryz.func70 (by kernel_rfl) rfl) ?_ (by omega) (by omega) (by omega) (by omega)).mono ?_
    · intro w1 hb1
      refine qdiv_fn _ _ a b c d w1 HM.out ?_ ?_
      · exact Has.below (((Has.new _ _ _ rfl).alloc _).alloc _) hb1
      · exact Has.below ((Has.new _ _ _ (by simp)).alloc _) hb1
    rintro e w2 ⟨rfl, hb2⟩
    have R2 : Has w2 (w.heap.size + 1 + 1) #[.int .i64 0, .int .i64 0] := (Has.new _ _ _ (by simp)).below hb2
    replace hb2 := bel_on (show Below w.heap.size w _ by (repeat' (first | with_reducible exact Below.refl _ _ | with_reducible assumption | with_reducible refine bel_alloc ?_ _ | with_reducible refine bel_set ?_ ?_ _ | with_reducible refine below_drewN ?_ _ | with_reducible refine below_drew ?_ | (simp; done) | (simp; omega) | omega))) hb2
    obtain ⟨c0, c1, f0, f1⟩ := R2.two
    go_wp2
    refine bodyPost_ret (v := .tuple #[.agg #[.int .i64 (mkN (a * d) (b * c)), .int .i64 (mkD (a * d) (b * c))], .int .i64 (mkC (a * d) (b * c))]) (by simp [results, Tryz.results37, go_sem, c0, c1]) rfl ⟨by rw [E.out]; rfl, ?_⟩
    (repeat' (first | with_reducible exact Below.refl _ _ | with_reducible assumption | with_reducible refine bel_alloc ?_ _ | with_reducible refine bel_set ?_ ?_ _ | with_reducible refine below_drewN ?_ _ | with_reducible refine below_drew ?_ | (simp; done) | (simp; omega) | omega))
  | false =>
    have E := Lib.hid (show divR a b c d = badR from if_neg (by rw [hm]; simp))
    have HM := Lib.hid hm
    clear hm
    go_enter Tryz.func37, Tryz.ntmps37
    go_wp2_with fail
    refine (two_no _ a b c d _ ha hb hc hd HM.out).mono ?_
    rintro e w2 ⟨rfl, hb2⟩
    have R2 : Has w2 (w.heap.size + 1 + 1) #[.int .i64 0, .int .i64 0] := (Has.new _ _ _ (by simp)).below hb2
    replace hb2 := bel_on (show Below w.heap.size w _ by (repeat' (first | with_reducible exact Below.refl _ _ | with_reducible assumption | with_reducible refine bel_alloc ?_ _ | with_reducible refine bel_set ?_ ?_ _ | with_reducible refine below_drewN ?_ _ | with_reducible refine below_drew ?_ | (simp; done) | (simp; omega) | omega))) hb2
    obtain ⟨c0, c1, f0, f1⟩ := R2.two
    go_wp2
    refine bodyPost_ret (v := .tuple #[.agg #[.int .i64 0, .int .i64 0], .int .i64 20]) (by simp [results, Tryz.results37, go_sem, c0, c1]) rfl ⟨by rw [E.out]; rfl, ?_⟩
    (repeat' (first | with_reducible exact Below.refl _ _ | with_reducible assumption | with_reducible refine bel_alloc ?_ _ | with_reducible refine bel_set ?_ ?_ _ | with_reducible refine below_drewN ?_ _ | with_reducible refine below_drew ?_ | (simp; done) | (simp; omega) | omega))

theorem qplus_fn (g h : Nat) (a b c d : Int) (w : World) (hm : (mayB a b && mayB c d) = true) (hg : Has w g #[.int .i64 a, .int .i64 b]) (hh : Has w h #[.int .i64 c, .int .i64 d]) :
    Calls Tryz.prog 106 #[.pointer (some ⟨g, 0, none⟩), .pointer (some ⟨h, 0, none⟩)] w fun e w' => e = .returned (.tuple #[.int .i64 (a * d + c * b), .int .i64 (b * d)]) ∧ ∃ k, w' = w.drewN k := by
  obtain ⟨b1, b2, b3, b4⟩ := may_parts hm
  have p0 := part_bd (a := a) (b := d) (by omega) (by omega) (by omega) (by omega)
  have p1 := part_bd (a := c) (b := b) (by omega) (by omega) (by omega) (by omega)
  have p2 := part_bd (a := b) (b := d) (by omega) (by omega) (by omega) (by omega)
  obtain ⟨c0, c1, f0, f1⟩ := hg.two
  obtain ⟨c2, c3, f2, f3⟩ := hh.two
  clear hm f0 f1 f2 f3
  go_enter Tryz.func106, Tryz.ntmps106
  go_wp2
  go_quiet (fail)
  go_wp2
  go_ret2
  exact ⟨rfl, _, rfl⟩

theorem qplus_any (a b c d : Int) (w : World) (ha : -9223372036854775808 ≤ a ∧ a ≤ 9223372036854775807) (hb : -9223372036854775808 ≤ b ∧ b ≤ 9223372036854775807) (hc : -9223372036854775808 ≤ c ∧ c ≤ 9223372036854775807) (hd : -9223372036854775808 ≤ d ∧ d ≤ 9223372036854775807) :
    Calls Tryz.prog 64 #[.agg #[.int .i64 a, .int .i64 b], .agg #[.int .i64 c, .int .i64 d]] w fun e w' => e = .returned (.tuple #[.agg #[.int .i64 (plusR a b c d).n, .int .i64 (plusR a b c d).d], .int .i64 (plusR a b c d).c]) ∧ Below w.heap.size w w' := by
  have hmf : ∀ (fn : Fn) (first cap : Array Value) (w : World), (Instr.makeFunc fn first cap).run Tryz.prog w = .ok (.func fn first cap) w := fun _ _ _ _ => rfl
  cases hm : (mayB a b && mayB c d) with
  | true =>
    have E := Lib.hid (show plusR a b c d = mkR (a * d + c * b) (b * d) from if_pos hm)
    have HM := Lib.hid hm
    obtain ⟨b1, b2, b3, b4⟩ := may_parts hm
    have p0 := part_bd (a := a) (b := d) (by omega) (by omega) (by omega) (by omega)
    have p1 := part_bd (a := c) (b := b) (by omega) (by omega) (by omega) (by omega)
    have p2 := part_bd (a := b) (b := d) (by omega) (by omega) (by omega) (by omega)
    clear hm
    go_enter Tryz.func64, Tryz.ntmps64
    go_wp2_with fail
    refine (two_yes 106 _ _ a b c d (a * d + c * b) (b * d) _ ha hb hc hd HM.out (enters_of Tryz.func106 (by kernel_rfl) rfl) ?_ (by omega) (by omega) (by omega) (by omega)).mono ?_
    · intro w1 hb1
      refine qplus_fn _ _ a b c d w1 HM.out ?_ ?_
      · exact Has.below (((Has.new _ _ _ rfl).alloc _).alloc _) hb1
      · exact Has.below ((Has.new _ _ _ (by simp)).alloc _) hb1
    rintro e w2 ⟨rfl, hb2⟩
    have R2 : Has w2 (w.heap.size + 1 + 1) #[.int .i64 0, .int .i64 0] := (Has.new _ _ _ (by simp)).below hb2
    replace hb2 := bel_on (show Below w.heap.size w _ by (repeat' (first | with_reducible exact Below.refl _ _ | with_reducible assumption | with_reducible refine bel_alloc ?_ _ | with_reducible refine bel_set ?_ ?_ _ | with_reducible refine below_drewN ?_ _ | with_reducible refine below_drew ?_ | (simp; done) | (simp; omega) | omega))) hb2
    obtain ⟨c0, c1, f0, f1⟩ := R2.two
    go_wp2
    refine bodyPost_ret (v := .tuple #[.agg #[.int .i64 (mkN (a * d + c * b) (b * d)), .int .i64 (mkD (a * d + c * b) (b * d))], .int .i64 (mkC (a * d + c * b) (b * d))]) (by simp [results, Tryz.results64, go_sem, c0, c1]) rfl ⟨by rw [E.out]; rfl, ?_⟩
    (repeat' (first | with_reducible exact Below.refl _ _ | with_reducible assumption | with_reducible refine bel_alloc ?_ _ | with_reducible refine bel_set ?_ ?_ _ | with_reducible refine below_drewN ?_ _ | with_reducible refine below_drew ?_ | (simp; done) | (simp; omega) | omega))
  | false =>
    have E := Lib.hid (show plusR a b c d = badR from if_neg (by rw [hm]; simp))
    have HM := Lib.hid hm
    clear hm
    go_enter Tryz.func64, Tryz.ntmps64
    go_wp2_with fail
    refine (two_no _ a b c d _ ha hb hc hd HM.out).mono ?_
    rintro e w2 ⟨rfl, hb2⟩
    have R2 : Has w2 (w.heap.size + 1 + 1) #[.int .i64 0, .int .i64 0] := (Has.new _ _ _ (by simp)).below hb2
    replace hb2 := bel_on (show Below w.heap.size w _ by (repeat' (first | with_reducible exact Below.refl _ _ | with_reducible assumption | with_reducible refine bel_alloc ?_ _ | with_reducible refine bel_set ?_ ?_ _ | with_reducible refine below_drewN ?_ _ | with_reducible refine below_drew ?_ | (simp; done) | (simp; omega) | omega))) hb2
    obtain ⟨c0, c1, f0, f1⟩ := R2.two
    go_wp2
    refine bodyPost_ret (v := .tuple #[.agg #[.int .i64 0, .int .i64 0], .int .i64 20]) (by simp [results, Tryz.results64, go_sem, c0, c1]) rfl ⟨by rw [E.out]; rfl, ?_⟩
    (repeat' (first | with_reducible exact Below.refl _ _ | with_reducible assumption | with_reducible refine bel_alloc ?_ _ | with_reducible refine bel_set ?_ ?_ _ | with_reducible refine below_drewN ?_ _ | with_reducible refine below_drew ?_ | (simp; done) | (simp; omega) | omega))
end Go.Proofs.YtpgncbhahocmbaaGreat

namespace Go.Proofs.YtpgncbhahocmbaaGreat
open Go.RowKit
set_option linter.unusedVariables false

theorem may_i64 {n d : Int} (h : mayB n d = true) : (-9223372036854775808 ≤ n ∧ n ≤ 9223372036854775807) ∧ (-9223372036854775808 ≤ d ∧ d ≤ 9223372036854775807) := by
  have := may_bd h
  omega
theorem rat_i64 (s : Rat2) (h : mayB s.n s.d = (s.c == 0)) (hz : s.c ≠ 0 → s.n = 0 ∧ s.d = 0) : (-9223372036854775808 ≤ s.n ∧ s.n ≤ 9223372036854775807) ∧ (-9223372036854775808 ≤ s.d ∧ s.d ≤ 9223372036854775807) := by
  by_cases hc : s.c = 0
  · exact may_i64 (by rw [h, hc]; rfl)
  · obtain ⟨e1, e2⟩ := hz hc
    rw [e1, e2]; omega
theorem mkR_z (n d : Int) : (mkR n d).c ≠ 0 → (mkR n d).n = 0 ∧ (mkR n d).d = 0 := fun h => mk_bad h
theorem plusR_z (a b c d : Int) : (plusR a b c d).c ≠ 0 → (plusR a b c d).n = 0 ∧ (plusR a b c d).d = 0 := by unfold plusR; split; exact mkR_z _ _; exact fun _ => ⟨rfl, rfl⟩
theorem mulR_z (a b c d : Int) : (mulR a b c d).c ≠ 0 → (mulR a b c d).n = 0 ∧ (mulR a b c d).d = 0 := by unfold mulR; split; exact mkR_z _ _; exact fun _ => ⟨rfl, rfl⟩
theorem sumRGo_snoc (xs : List (Int × Int)) (k : Nat) (h : k < xs.length) (n d : Int) (hs : sumRGo ⟨0, 1, 0⟩ (xs.take k) = ⟨n, d, 0⟩) :
    sumRGo ⟨0, 1, 0⟩ (xs.take (k + 1)) = plusR n d (xs.getD k (0, 0)).1 (xs.getD k (0, 0)).2 := by
  rw [List.take_succ_eq_append_getElem h, sumRGo_append, hs]
  simp [sumRGo, List.getD, h]
theorem sumRGo_stop (xs : List (Int × Int)) (k : Nat) (s : Rat2) (hs : sumRGo ⟨0, 1, 0⟩ (xs.take k) = s) (hc : s.c ≠ 0) : sumRGo ⟨0, 1, 0⟩ xs = s := by
  rw [← List.take_append_drop k xs, sumRGo_append, hs, sumRGo_bad hc]
theorem rat2_eta (s : Rat2) (h : s.c = 0) : s = ⟨s.n, s.d, 0⟩ := by
  cases s
  simp at h
  subst h
  rfl
theorem ret_rr {s t : Rat2} (h : s = t) : Ending.returned (.tuple #[.agg #[.int .i64 s.n, .int .i64 s.d], .int .i64 s.c]) = .returned (.tuple #[.agg #[.int .i64 t.n, .int .i64 t.d], .int .i64 t.c]) := by rw [h]

theorem ratsum_no (A : Option Addr) (cap : Nat) (xs : List (Int × Int)) (w : World) (hx : Rats w A xs) (hl : xs.length ≤ 9223372036854775807) (hm : allMay xs = false) :
    Calls Tryz.prog 25 #[.slice A xs.length cap] w fun e w' => e = .returned (.tuple #[.agg #[.int .i64 (sumR xs).n, .int .i64 (sumR xs).d], .int .i64 (sumR xs).c]) ∧ Below w.heap.size w w' := by
  have E := Lib.hid (show sumR xs = badR from if_neg (by rw [hm]; simp))
  have HX := Lib.hid hx
  have HM := Lib.hid hm
  clear hx hm
  go_enter Tryz.func25, Tryz.ntmps25
  go_wp2_with fail
  refine (allMay_any A cap xs _ (HX.out.below (bel_alloc (Below.refl _ _) _)) hl).mono ?_
  rw [HM.out]
  rintro e w1 ⟨rfl, hb1⟩
  have R1 : Has w1 w.heap.size #[.int .i64 0, .int .i64 0] := (Has.new _ _ _ rfl).below hb1
  replace hb1 := bel_on (show Below w.heap.size w _ by (repeat' (first | with_reducible exact Below.refl _ _ | with_reducible assumption | with_reducible refine bel_alloc ?_ _ | with_reducible refine bel_set ?_ ?_ _ | with_reducible refine below_drewN ?_ _ | with_reducible refine below_drew ?_ | (simp; done) | (simp; omega) | omega))) hb1
  obtain ⟨c0, c1, f0, f1⟩ := R1.two
  go_wp2
  try rw [Exit.noGoto_ret]
  refine bodyPost_ret (v := .tuple #[.agg #[.int .i64 0, .int .i64 0], .int .i64 20]) (by simp [results, Tryz.results25, go_sem, c0, c1]) rfl ⟨by rw [E.out]; rfl, ?_⟩
  (repeat' (first | with_reducible exact Below.refl _ _ | with_reducible assumption | with_reducible refine bel_alloc ?_ _ | with_reducible refine bel_set ?_ ?_ _ | with_reducible refine below_drewN ?_ _ | with_reducible refine below_drew ?_ | (simp; done) | (simp; omega) | omega))

set_option maxHeartbeats 1000000 in
theorem ratsum_yes (A : Option Addr) (cap : Nat) (xs : List (Int × Int)) (w : World) (hx : Rats w A xs) (hl : xs.length ≤ 9223372036854775807) (hm : allMay xs = true) :
    Calls Tryz.prog 25 #[.slice A xs.length cap] w fun e w' => e = .returned (.tuple #[.agg #[.int .i64 (sumR xs).n, .int .i64 (sumR xs).d], .int .i64 (sumR xs).c]) ∧ Below w.heap.size w w' := by
  have E := Lib.hid (show sumR xs = sumRGo ⟨0, 1, 0⟩ xs from if_pos hm)
  have HX := Lib.hid hx
  have HM := Lib.hid hm
  clear hx hm
  go_enter Tryz.func25, Tryz.ntmps25
  go_wp2_with fail
  refine (allMay_any A cap xs _ (HX.out.below (bel_alloc (Below.refl _ _) _)) hl).mono ?_
  rw [HM.out]
  rintro e w1 ⟨rfl, hb1⟩
  have R1 : Has w1 w.heap.size #[.int .i64 0, .int .i64 0] := (Has.new _ _ _ rfl).below hb1
  replace hb1 := bel_on (show Below w.heap.size w _ by (repeat' (first | with_reducible exact Below.refl _ _ | with_reducible assumption | with_reducible refine bel_alloc ?_ _ | with_reducible refine bel_set ?_ ?_ _ | with_reducible refine below_drewN ?_ _ | with_reducible refine below_drew ?_ | (simp; done) | (simp; omega) | omega))) hb1
  have hz := R1.size
  go_wp2
  go_loopw [5, 15] (fun e i wr => ∃ (k : Nat) (n d : Int), k ≤ xs.length ∧ i = .int .i64 k ∧ e = .int .i64 0 ∧ (-9223372036854775808 ≤ n ∧ n ≤ 9223372036854775807) ∧ (-9223372036854775808 ≤ d ∧ d ≤ 9223372036854775807) ∧
      Hid (sumRGo ⟨0, 1, 0⟩ (xs.take k) = ⟨n, d, 0⟩) ∧ Has wr w1.heap.size #[.int .i64 n, .int .i64 d] ∧ Has wr w.heap.size #[.int .i64 0, .int .i64 0] ∧ Below w.heap.size w wr) (fun _ i _ => xs.length - (intOf i).toNat)
  case atStart => exact ⟨0, 0, 1, Nat.zero_le _, rfl, rfl, by omega, by omega, rfl, Has.new _ _ _ rfl, R1.alloc _, bel_alloc hb1 _⟩
  case round =>
    clear R1 hb1
    obtain ⟨k, n, d, hk, rfl, rfl, hn, hd, hs, RS, R0, hbw⟩ := hrel
    by_cases hlt : k < xs.length
    · obtain ⟨b, off, rfl, c1, c2, b1, b2, b3, b4⟩ := (HX.out.below hbw) k hlt
      have S1 := Lib.hid (sumRGo_snoc xs k hlt n d hs.out)
      generalize (xs.getD k (0, 0)).1 = p at *
      generalize (xs.getD k (0, 0)).2 = q at *
      obtain ⟨s0, s1, _, _⟩ := RS.two
      have z1 := RS.size
      have z0 := R0.size
      go_wp2_with fail
      refine (qplus_any n d p q _ hn hd ⟨b1, b2⟩ ⟨b3, b4⟩).mono ?_
      rintro e w2 ⟨rfl, hb2⟩
      have RS2 := (RS.alloc _).below hb2
      have R02 := (R0.alloc _).below hb2
      replace hb2 := bel_on (bel_alloc hbw _) hb2
      obtain ⟨t0, t1, t2, t3⟩ := RS2.two
      clear hbw c1 c2 s0 s1 RS R0 z1 z0
      have RS3 := (RS2.set 0 (.int .i64 (plusR n d p q).n)).set 1 (.int .i64 (plusR n d p q).d)
      have R03 := (R02.far (p := ⟨w1.heap.size, 0, none⟩) (by show w.heap.size ≠ w1.heap.size; omega) (.int .i64 (plusR n d p q).n)).far (p := ⟨w1.heap.size, 1, none⟩) (by show w.heap.size ≠ w1.heap.size; omega) (.int .i64 (plusR n d p q).d)
      have hb3 := bel_set (bel_set hb2 (p := ⟨w1.heap.size, 0, none⟩) (Nat.le_of_lt hz) (.int .i64 (plusR n d p q).n)) (p := ⟨w1.heap.size, 1, none⟩) (Nat.le_of_lt hz) (.int .i64 (plusR n d p q).d)
      by_cases hc : (plusR n d p q).c = 0
      · have g1 : ((plusR n d p q).c == 0) = true := by simpa using hc
        have g2 : ((plusR n d p q).c != 0) = false := by simpa using hc
        have hs' : Hid (sumRGo ⟨0, 1, 0⟩ (xs.take (k + 1)) = ⟨(plusR n d p q).n, (plusR n d p q).d, 0⟩) := by
          show _ = _
          rw [S1.out]
          exact rat2_eta _ hc
        have hbd := may_i64 (show mayB (plusR n d p q).n (plusR n d p q).d = true by rw [plusR_may]; exact g1)
        have HC := Lib.hid hc
        clear hc
        go_wp2
        go_roundw
        case rel => exact ⟨k + 1, _, _, by omega, by go_num, by rw [HC.out], hbd.1, hbd.2, hs', RS3, R03, hb3⟩
        case measure => simp [intOf]; omega
      · have g1 : ((plusR n d p q).c == 0) = false := by simpa using hc
        have g2 : ((plusR n d p q).c != 0) = true := by simpa using hc
        have F := Lib.hid (sumRGo_stop xs (k + 1) _ S1.out hc)
        clear hc
        obtain ⟨v4, v5, v6, v7⟩ := R03.two
        go_wp2
        refine bodyPost_ret (v := .tuple #[.agg #[.int .i64 (plusR n d p q).n, .int .i64 (plusR n d p q).d], .int .i64 (plusR n d p q).c]) (by simp [results, Tryz.results25, go_sem, v4, v5]) rfl ⟨ret_rr (F.out.symm.trans E.out.symm), ?_⟩
        (repeat' (first | with_reducible exact Below.refl _ _ | with_reducible assumption | with_reducible refine bel_alloc ?_ _ | with_reducible refine bel_set ?_ ?_ _ | with_reducible refine below_drewN ?_ _ | with_reducible refine below_drew ?_ | (simp; done) | (simp; omega) | omega))
    · obtain rfl : k = xs.length := by omega
      have hs' := hs.out
      rw [List.take_length] at hs'
      have F := Lib.hid hs'
      clear hs hs'
      obtain ⟨s0, s1, _, _⟩ := RS.two
      obtain ⟨v4, v5, v6, v7⟩ := R0.two
      go_wp2
      refine bodyPost_ret (v := .tuple #[.agg #[.int .i64 n, .int .i64 d], .int .i64 0]) (by simp [results, Tryz.results25, go_sem, v4, v5]) rfl ⟨ret_rr (s := ⟨n, d, 0⟩) (F.out.symm.trans E.out.symm), ?_⟩
      (repeat' (first | with_reducible exact Below.refl _ _ | with_reducible assumption | with_reducible refine bel_alloc ?_ _ | with_reducible refine bel_set ?_ ?_ _ | with_reducible refine below_drewN ?_ _ | with_reducible refine below_drew ?_ | (simp; done) | (simp; omega) | omega))

theorem ratsum_any (A : Option Addr) (cap : Nat) (xs : List (Int × Int)) (w : World) (hx : Rats w A xs) (hl : xs.length ≤ 9223372036854775807) :
    Calls Tryz.prog 25 #[.slice A xs.length cap] w fun e w' => e = .returned (.tuple #[.agg #[.int .i64 (sumR xs).n, .int .i64 (sumR xs).d], .int .i64 (sumR xs).c]) ∧ Below w.heap.size w w' := by
  cases hm : allMay xs with
  | true => exact ratsum_yes A cap xs w hx hl hm
  | false => exact ratsum_no A cap xs w hx hl hm
theorem qless_any (a b c d : Int) (w : World) (ha : -9223372036854775808 ≤ a ∧ a ≤ 9223372036854775807) (hb : -9223372036854775808 ≤ b ∧ b ≤ 9223372036854775807) (hc : -9223372036854775808 ≤ c ∧ c ≤ 9223372036854775807) (hd : -9223372036854775808 ≤ d ∧ d ≤ 9223372036854775807) :
    Calls Tryz.prog 23 #[.agg #[.int .i64 a, .int .i64 b], .agg #[.int .i64 c, .int .i64 d]] w fun e w' => e = .returned (.bool (lessB a b c d)) ∧ Below w.heap.size w w' := by
  cases hm : (mayB a b && mayB c d) with
  | true =>
    have E := Lib.hid (show lessB a b c d = decide (a * d < c * b) by unfold lessB; rw [hm]; rfl)
    have HM := Lib.hid hm
    obtain ⟨b1, b2, b3, b4⟩ := may_parts hm
    have p0 := part_bd (a := a) (b := d) (by omega) (by omega) (by omega) (by omega)
    have p1 := part_bd (a := c) (b := b) (by omega) (by omega) (by omega) (by omega)
    clear hm
    go_enter Tryz.func23, Tryz.ntmps23
    go_wp2_with fail
    refine (all_two a b c d _ _ _ (by simp) ha hb hc hd).mono ?_
    rw [HM.out]
    rintro e w1 ⟨rfl, hb1⟩
    have R0 : Has w1 w.heap.size #[.int .i64 a, .int .i64 b] := ((Has.new _ _ _ rfl).alloc _).below hb1
    have R1 : Has w1 (w.heap.size + 1) #[.int .i64 c, .int .i64 d] := (Has.new _ _ _ (by simp)).below hb1
    replace hb1 := bel_on (show Below w.heap.size w _ by (repeat' (first | with_reducible exact Below.refl _ _ | with_reducible assumption | with_reducible refine bel_alloc ?_ _ | with_reducible refine bel_set ?_ ?_ _ | with_reducible refine below_drewN ?_ _ | with_reducible refine below_drew ?_ | (simp; done) | (simp; omega) | omega))) hb1
    obtain ⟨c0, c1, f0, f1⟩ := R0.two
    obtain ⟨c2, c3, f2, f3⟩ := R1.two
    go_wp2
    go_ret
    exact ⟨ret_bool E.out.symm, hb1⟩
  | false =>
    have E := Lib.hid (show lessB a b c d = false by unfold lessB; rw [hm]; rfl)
    have HM := Lib.hid hm
    clear hm
    go_enter Tryz.func23, Tryz.ntmps23
    go_wp2_with fail
    refine (all_two a b c d _ _ _ (by simp) ha hb hc hd).mono ?_
    rw [HM.out]
    rintro e w1 ⟨rfl, hb1⟩
    replace hb1 := bel_on (show Below w.heap.size w _ by (repeat' (first | with_reducible exact Below.refl _ _ | with_reducible assumption | with_reducible refine bel_alloc ?_ _ | with_reducible refine bel_set ?_ ?_ _ | with_reducible refine below_drewN ?_ _ | with_reducible refine below_drew ?_ | (simp; done) | (simp; omega) | omega))) hb1
    go_wp2
    go_ret
    exact ⟨ret_bool E.out.symm, hb1⟩

end Go.Proofs.YtpgncbhahocmbaaGreat
