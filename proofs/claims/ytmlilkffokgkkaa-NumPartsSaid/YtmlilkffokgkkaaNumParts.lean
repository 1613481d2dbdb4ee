/-
  The walk of the law NumParts: it answers true, and leaves what was there as it was.
-/
import Derived.Test.YtmlilkffokgkkaaNumAwake
namespace Go.Proofs.Ytmlilkffokgkkaa
open Go.RowKit
set_option linter.unusedVariables false

theorem int_info : (Try.prog.info? 3).map (fun i => (i.zero, i.size, i.bytes)) = some (some (.int .i64 0), 1, 8) := by kernel_rfl

theorem sumV_bd (xs : List Int) : -9223372036854775808 ≤ sumV xs ∧ sumV xs ≤ 9223372036854775807 := by
  unfold sumV
  cases h : sumGo 0 xs with
  | none => simp
  | some s => exact sumGo_bd 0 s xs h (by omega) (by omega)
theorem parts_none (xs ys : List Int) (h : sumGo 0 xs = none) : sumC xs = 10 ∧ sumC (xs ++ ys) = 10 ∧ sumV (xs ++ ys) = 0 := by
  unfold sumC sumV
  rw [sumGo_append, h]
  exact ⟨rfl, rfl, rfl⟩
theorem parts_some (xs ys : List Int) (s : Int) (h : sumGo 0 xs = some s) : sumC xs = 0 ∧ sumV xs = s ∧ sumC (s :: ys) = sumC (xs ++ ys) ∧ sumV (s :: ys) = sumV (xs ++ ys) := by
  have hb := sumGo_bd 0 s xs h (by omega) (by omega)
  have e : sumGo 0 (s :: ys) = sumGo s ys := by
    simp only [sumGo, Int.zero_add]
    rw [if_pos hb]
  unfold sumC sumV
  rw [sumGo_append, h, e]
  exact ⟨rfl, rfl, rfl, rfl⟩

theorem numParts_long (a0 : Option Addr) (len0 cap0 : Nat) (a1 : Option Addr) (len1 cap1 : Nat) (w : World) (h : 1000 < len0 ∨ (len0 ≤ 1000 ∧ 1000 < len1)) :
    Calls Try.prog 6 #[.slice a0 len0 cap0, .slice a1 len1 cap1] w fun e w' => e = .returned (.bool true) ∧ Below w.heap.size w w' := by
  rcases h with h | ⟨h0, h⟩
  · have d0 : (1000 : Int) < (len0 : Int) := by omega
    go_enter Try.func6, Try.ntmps6
    go_wp2_with fail
    refine (awake1 _).mono ?_
    rintro e w1 ⟨rfl, hb1⟩
    go_wp2
    go_ret
    exact ⟨rfl, hb1⟩
  · have d0 : (len0 : Int) ≤ 1000 := by omega
    have d1 : (1000 : Int) < (len1 : Int) := by omega
    go_enter Try.func6, Try.ntmps6
    go_wp2_with fail
    refine (awake1 _).mono ?_
    rintro e w1 ⟨rfl, hb1⟩
    go_wp2
    go_ret
    exact ⟨rfl, hb1⟩

theorem numParts_short (a0 : Option Addr) (len0 cap0 : Nat) (xs : List Int) (a1 : Option Addr) (len1 cap1 : Nat) (ys : List Int) (w : World) (s0 : Sl 1 w a0 len0 cap0 (ints .i64 xs)) (s1 : Sl 1 w a1 len1 cap1 (ints .i64 ys))
    (b0 : ∀ x ∈ xs, -9223372036854775808 ≤ x ∧ x ≤ 9223372036854775807) (b1 : ∀ x ∈ ys, -9223372036854775808 ≤ x ∧ x ≤ 9223372036854775807) (h0 : len0 ≤ 1000) (h1 : len1 ≤ 1000) :
    Calls Try.prog 6 #[.slice a0 len0 cap0, .slice a1 len1 cap1] w fun e w' => e = .returned (.bool true) ∧ Below w.heap.size w w' := by
  have d0 : (len0 : Int) ≤ 1000 := by omega
  have d1 : (len1 : Int) ≤ 1000 := by omega
  have S0 := Lib.hid s0
  have S1 := Lib.hid s1
  have B0 := Lib.hid b0
  have B1 := Lib.hid b1
  clear s0 s1 b0 b1
  go_enter Try.func6, Try.ntmps6
  go_wp2_with fail
  refine (awake1 _).mono ?_
  rintro e w1 ⟨rfl, hb1⟩
  go_wp2_with fail
  refine (sum_sl _ _ _ xs _ (S0.out.below hb1) B0.out (by omega)).mono ?_
  rintro e w2 ⟨rfl, hb2⟩
  replace hb2 := bel_on hb1 hb2
  clear hb1
  have ho2 := own_new w2 3 1 0 #[] rfl (by decide)
  obtain ⟨A3, c3, w3, hr3, ho3, hg3, hl3⟩ := append_any (P := Try.prog) (w2.alloc (.cells #[] 3)) w2.heap.size 22 22 3 _ 1 8 Try.underlying22 int_info rfl (by omega) ho2
    ((S0.out.below hb2).alloc _) (ints_one _ _) len0 (by omega) (ints .i64 xs) rfl (by omega) (by omega) (by simp)
  have hb3 := bel_grown ((hb2.alloc hb2.size _)) ho2 hb2.size hg3
  have hz3 : w2.heap.size ≤ w3.heap.size := by have := hg3.size; simp at this; omega
  obtain ⟨A4, c4, w4, hr4, ho4, hg4, hl4⟩ := append_any (P := Try.prog) w3 w2.heap.size 22 22 3 _ 1 8 Try.underlying22 int_info rfl (by omega) ho3
    (S1.out.below hb3) (ints_one _ _) (len0 + len1) rfl (ints .i64 (xs ++ ys)) (by simp [ints]) (by omega) (by omega) hz3
  have hb4 := bel_grown hb3 ho3 hb2.size hg4
  have HO4 := Lib.hid ho4
  have HR3 := Lib.hid hr3
  have HR4 := Lib.hid hr4
  clear ho2 ho3 ho4 hg3 hg4 hl3 hl4 hr3 hr4
  go_wp2_with (first | (at_builtin; refine wpList_append_run (o := ⟨some 30, _, _, _, _, _⟩) HR3.out rfl rfl rfl rfl ?_) | (at_builtin; refine wpList_append_run (o := ⟨some 32, _, _, _, _, _⟩) HR4.out rfl rfl rfl rfl ?_))
  refine (sum_sl _ _ _ (xs ++ ys) _ (Sl.of_own HO4.out) (fun x hx => (List.mem_append.1 hx).elim (B0.out x) (B1.out x)) (by omega)).mono ?_
  rintro e w5 ⟨rfl, hb5⟩
  replace hb5 := bel_on hb4 hb5
  have ho5 := own_new w5 3 1 1 #[.int .i64 (sumV xs)] rfl (by decide)
  have hbv : -9223372036854775808 ≤ sumV xs ∧ sumV xs ≤ 9223372036854775807 := sumV_bd xs
  obtain ⟨A6, c6, w6, hr6, ho6, hg6, hl6⟩ := append_any (P := Try.prog) (w5.alloc (.cells #[.int .i64 (sumV xs)] 3)) w5.heap.size 22 22 3 _ 1 8 Try.underlying22 int_info rfl (by omega) ho5
    ((S1.out.below hb5).alloc _) (ints_one _ _) (1 + len1) rfl (ints .i64 (sumV xs :: ys)) rfl (by omega) (by omega) (by simp)
  have hb6 := bel_grown ((hb5.alloc hb5.size _)) ho5 hb5.size hg6
  have HO6 := Lib.hid ho6
  have HR6 := Lib.hid hr6
  have HB := Lib.hid hbv
  clear ho5 ho6 hg6 hl6 hr6 hb2 hb3 hb4 HR3 HR4 hbv
  go_wp2_with (at_builtin; refine wpList_append_run HR6.out rfl rfl rfl rfl ?_)
  refine (sum_sl _ _ _ (sumV xs :: ys) _ (Sl.of_own HO6.out) (fun x hx => (List.mem_cons.1 hx).elim (fun e => e ▸ HB.out) (B1.out x)) (by omega)).mono ?_
  rintro e w7 ⟨rfl, hb7⟩
  replace hb7 := bel_on hb6 hb7
  cases hs : sumGo 0 xs with
  | none =>
    obtain ⟨e1, e2, e3⟩ := parts_none xs ys hs
    rw [e1, e2, e3]
    clear hs e1 e2 e3
    go_wp2
    go_ret
    exact ⟨rfl, hb7⟩
  | some s =>
    obtain ⟨e1, e2, e3, e4⟩ := parts_some xs ys s hs
    rw [e1, e2, e3, e4]
    clear hs e1 e2 e3 e4
    go_wp2
    go_ret
    exact ⟨rfl, hb7⟩

theorem numParts_walk (a0 : Option Addr) (len0 cap0 : Nat) (z0 : List Int) (a1 : Option Addr) (len1 cap1 : Nat) (z1 : List Int) (w : World) (r0 : IsRow .i64 w a0 len0 cap0 z0) (r1 : IsRow .i64 w a1 len1 cap1 z1) :
    Calls Try.prog 6 #[.slice a0 len0 cap0, .slice a1 len1 cap1] w fun e w' => e = .returned (.bool true) ∧ Below w.heap.size w w' := by
  by_cases g : 1000 < len0 ∨ (len0 ≤ 1000 ∧ 1000 < len1)
  · exact numParts_long _ _ _ _ _ _ w g
  · obtain ⟨s0, _, _, q0⟩ := sl_of_row r0
    obtain ⟨s1, _, _, q1⟩ := sl_of_row r1
    exact numParts_short _ _ _ _ _ _ _ _ w s0 s1 (fun x hx => bounds_i64 (q0 x hx)) (fun x hx => bounds_i64 (q1 x hx)) (by omega) (by omega)
end Go.Proofs.Ytmlilkffokgkkaa
