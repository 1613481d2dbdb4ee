/-
  The contracts of package lumperref03's functions: the document's answers, by definition.
-/
import Derived.Test.YtojhecllgkoclaaSpD
namespace Go.Proofs.Ytojhecllgkoclaa
open Go.RowKit
set_option linter.unusedVariables false

theorem rin_any (a b t : Int) (w : World) : Calls Try.prog 55 #[.agg #[.int .i64 a, .int .i64 b], .int .i64 t] w fun e w' => e = .returned (.bool (decide (max a 0 ≤ t ∧ t < min b 32054400))) ∧ Below w.heap.size w w' := by
  by_cases h1 : 0 ≤ t
  · by_cases h2 : t < 32054400
    · by_cases h3 : a ≤ t
      · by_cases h4 : t < b
        · go_enter Try.func55, Try.ntmps55
          go_wp2
          go_ret
          exact ⟨ret_bool (by simp; omega), by (repeat' (first | with_reducible exact Below.refl _ _ | with_reducible assumption | with_reducible refine bel_alloc ?_ _ | with_reducible refine bel_set ?_ ?_ _ | with_reducible refine below_drewN ?_ _ | with_reducible refine below_drew ?_ | (simp; done) | (simp; omega) | omega))⟩
        · go_enter Try.func55, Try.ntmps55
          go_wp2
          go_ret
          exact ⟨ret_bool (by simp; omega), by (repeat' (first | with_reducible exact Below.refl _ _ | with_reducible assumption | with_reducible refine bel_alloc ?_ _ | with_reducible refine bel_set ?_ ?_ _ | with_reducible refine below_drewN ?_ _ | with_reducible refine below_drew ?_ | (simp; done) | (simp; omega) | omega))⟩
      · go_enter Try.func55, Try.ntmps55
        go_wp2
        go_ret
        exact ⟨ret_bool (by simp; omega), by (repeat' (first | with_reducible exact Below.refl _ _ | with_reducible assumption | with_reducible refine bel_alloc ?_ _ | with_reducible refine bel_set ?_ ?_ _ | with_reducible refine below_drewN ?_ _ | with_reducible refine below_drew ?_ | (simp; done) | (simp; omega) | omega))⟩
    · go_enter Try.func55, Try.ntmps55
      go_wp2
      go_ret
      exact ⟨ret_bool (by simp; omega), by (repeat' (first | with_reducible exact Below.refl _ _ | with_reducible assumption | with_reducible refine bel_alloc ?_ _ | with_reducible refine bel_set ?_ ?_ _ | with_reducible refine below_drewN ?_ _ | with_reducible refine below_drew ?_ | (simp; done) | (simp; omega) | omega))⟩
  · go_enter Try.func55, Try.ntmps55
    go_wp2
    go_ret
    exact ⟨ret_bool (by simp; omega), by (repeat' (first | with_reducible exact Below.refl _ _ | with_reducible assumption | with_reducible refine bel_alloc ?_ _ | with_reducible refine bel_set ?_ ?_ _ | with_reducible refine below_drewN ?_ _ | with_reducible refine below_drew ?_ | (simp; done) | (simp; omega) | omega))⟩

theorem rhas_any (A : Option Addr) (cap : Nat) (xs : List (Int × Int)) (t : Int) (w : World) (hx : Spans w A xs) (hl : xs.length ≤ 100000000) :
    Calls Try.prog 50 #[.slice A xs.length cap, .int .i64 t] w fun e w' => e = .returned (.bool (hasB xs t)) ∧ Below w.heap.size w w' := by
  have HX := Lib.hid hx
  clear hx
  go_enter Try.func50, Try.ntmps50
  go_wp2
  go_loopw [5] (fun i wr => ∃ (k : Nat), k ≤ xs.length ∧ i = .int .i64 k ∧ Hid (hasB (xs.take k) t = false) ∧ Below w.heap.size w wr) (fun i _ => xs.length - (intOf i).toNat)
  case atStart => exact ⟨0, Nat.zero_le _, rfl, rfl, Below.refl _ _⟩
  case round =>
    obtain ⟨k, hk, rfl, hn, hbw⟩ := hrel
    by_cases hlt : k < xs.length
    · obtain ⟨b, off, rfl, hblt, c1, c2⟩ := (HX.out.below hbw).2 k hlt
      have S1 := Lib.hid (hasB_snoc xs k t hlt)
      have S2 := Lib.hid (hasB_hit xs k t hlt)
      generalize xs.getD k (0, 0) = z at *
      obtain ⟨p, q⟩ := z
      simp only [] at c1 c2 S1 S2
      go_wp2_with fail
      refine (rin_any p q t _).mono ?_
      rintro e w2 ⟨rfl, hb2⟩
      replace hb2 := bel_on hbw hb2
      cases hm : decide (max p 0 ≤ t ∧ t < min q 32054400) with
      | true =>
        have hs' := Lib.hid (S2.out hm)
        clear hm
        go_wp2
        go_ret
        exact ⟨ret_bool hs'.out.symm, hb2⟩
      | false =>
        have hs' : Hid (hasB (xs.take (k + 1)) t = false) := by
          show _ = _
          rw [S1.out, hn.out, hm]; rfl
        clear hm
        go_wp2
        go_roundw
        case rel => exact ⟨k + 1, by omega, by go_num, hs', hb2⟩
        case measure => simp [intOf]; omega
    · obtain rfl : k = xs.length := by omega
      have hs' := hn.out
      rw [List.take_length] at hs'
      have HS := Lib.hid hs'
      clear hn hs'
      go_wp2
      go_ret
      exact ⟨ret_bool HS.out.symm, hbw⟩

/-- The least number above t where a span begins, or ends; 'top' if there is none below it. -/
def afterL (t : Int) : Int → List (Int × Int) → Int
  | top, [] => top
  | top, s :: l => afterL t (let o := if t < s.1 then min top s.1 else top; if t < s.2 then min o s.2 else o) l
def after1 (t top : Int) (s : Int × Int) : Int := let o := if t < s.1 then min top s.1 else top; if t < s.2 then min o s.2 else o
theorem afterL_cons (t top : Int) (s : Int × Int) (l : List (Int × Int)) : afterL t top (s :: l) = afterL t (after1 t top s) l := rfl
theorem afterL_append (t : Int) : ∀ (l : List (Int × Int)) (top : Int) (s : Int × Int), afterL t top (l ++ [s]) = after1 t (afterL t top l) s
  | [], top, s => rfl
  | x :: l, top, s => by rw [List.cons_append, afterL_cons, afterL_cons, afterL_append t l]
theorem afterL_snoc (t top : Int) (xs : List (Int × Int)) (k : Nat) (h : k < xs.length) : afterL t top (xs.take (k + 1)) = after1 t (afterL t top (xs.take k)) (xs.getD k (0, 0)) := by
  rw [List.take_succ_eq_append_getElem h, afterL_append]; simp [List.getD, h]
theorem after1_spec (t top : Int) (s : Int × Int) (h : t < top) : t < after1 t top s ∧ after1 t top s ≤ top ∧ (∀ u, t ≤ u → u < after1 t top s → ((s.1 ≤ u ∧ u < s.2) ↔ (s.1 ≤ t ∧ t < s.2))) := by
  unfold after1
  simp only []
  split <;> split <;> refine ⟨by omega, by omega, fun u h1 h2 => by omega⟩
theorem afterL_spec (t : Int) : ∀ (l : List (Int × Int)) (top : Int), t < top → t < afterL t top l ∧ afterL t top l ≤ top ∧ ∀ u, t ≤ u → u < afterL t top l → (In l u ↔ In l t)
  | [], top, h => ⟨h, Int.le_refl _, fun u _ _ => by simp [in_nil]⟩
  | s :: l, top, h => by
    obtain ⟨h1, h2, h3⟩ := after1_spec t top s h
    obtain ⟨i1, i2, i3⟩ := afterL_spec t l (after1 t top s) h1
    rw [afterL_cons]
    refine ⟨i1, by omega, fun u q1 q2 => ?_⟩
    rw [in_cons, in_cons, i3 u q1 q2, h3 u q1 (by omega)]

theorem rafter_any (A : Option Addr) (cap : Nat) (xs : List (Int × Int)) (t : Int) (w : World) (hx : Spans w A xs) (hl : xs.length ≤ 100000000) :
    Calls Try.prog 49 #[.slice A xs.length cap, .int .i64 t] w fun e w' => e = .returned (.int .i64 (afterL t 32054400 xs)) ∧ w = w' := by
  have HX := Lib.hid hx
  clear hx
  go_enter Try.func49, Try.ntmps49
  go_wp2
  go_loop [5, 6] (fun o i => ∃ (k : Nat) (v : Int), k ≤ xs.length ∧ i = .int .i64 k ∧ o = .int .i64 v ∧ Hid (v = afterL t 32054400 (xs.take k))) (fun _ i => xs.length - (intOf i).toNat)
  case atStart => exact ⟨0, _, Nat.zero_le _, rfl, rfl, rfl⟩
  case round =>
    obtain ⟨k, v, hk, rfl, rfl, hv⟩ := hrel
    by_cases hlt : k < xs.length
    · obtain ⟨b, off, rfl, hblt, c1, c2⟩ := HX.out.2 k hlt
      have S1 := Lib.hid (afterL_snoc t 32054400 xs k hlt)
      generalize xs.getD k (0, 0) = z at *
      obtain ⟨p, q⟩ := z
      simp only [] at c1 c2
      by_cases h1 : t < p
      · by_cases h2 : t < q
        · go_wp2
          go_round
          case rel => exact ⟨k + 1, _, by omega, by go_num, rfl, by show _ = _; rw [S1.out, ← hv.out]; simp [after1, h1, h2]⟩
          case measure => simp [intOf]; omega
        · go_wp2
          go_round
          case rel => exact ⟨k + 1, _, by omega, by go_num, rfl, by show _ = _; rw [S1.out, ← hv.out]; simp [after1, h1]; omega⟩
          case measure => simp [intOf]; omega
      · by_cases h2 : t < q
        · go_wp2
          go_round
          case rel => exact ⟨k + 1, _, by omega, by go_num, rfl, by show _ = _; rw [S1.out, ← hv.out]; simp [after1, h2]; omega⟩
          case measure => simp [intOf]; omega
        · go_wp2
          go_round
          case rel => exact ⟨k + 1, _, by omega, by go_num, rfl, by show _ = _; rw [S1.out, ← hv.out]; simp [after1]; omega⟩
          case measure => simp [intOf]; omega
    · obtain rfl : k = xs.length := by omega
      go_wp2
      go_ret
      exact ⟨ret_one (by rw [hv.out, List.take_length]), rfl⟩
end Go.Proofs.Ytojhecllgkoclaa
