/-
  The calls whose answers the document fixes: they are as it says.
-/
import Derived.Test.YtkdogleocffhdaaSpLaw
namespace Go.Proofs.Ytkdogleocffhdaa
open Go.RowKit
set_option linter.unusedVariables false
set_option linter.unusedSimpArgs false

theorem aw1 : canon (In [(5, 9), (1, 5), (20, 20)]) = [(1, 9)] := (canon_eq (by simp [PlainFrom]) (fun t => by simp only [in_cons, in_nil, or_false]; omega)).symm
theorem aw2 : canon (fun t => In [(1, 9)] t ∧ In [(8, 30)] t) = [(8, 9)] := (canon_eq (by simp [PlainFrom]) (fun t => by simp only [in_cons, in_nil, or_false]; omega)).symm
theorem aw3 : canon (fun t => In [(1, 9)] t ∧ ¬ In [(3, 4)] t) = [(1, 3), (4, 9)] := (canon_eq (by simp [PlainFrom]) (fun t => by simp only [in_cons, in_nil, or_false]; omega)).symm
theorem aw4 : canon (In [(-5, 1099511627776)]) = [(0, 32054400)] := (canon_eq (by simp [PlainFrom]) (fun t => by simp only [in_cons, in_nil, or_false]; omega)).symm
theorem aw_m : canon (In [(1, 3), (4, 9)]) = [(1, 3), (4, 9)] := canon_self (by simp [PlainFrom])
theorem aw5 : (canon fun t => In [(1, 3), (4, 9)] t ∧ cnt (In [(1, 3), (4, 9)]) t.toNat < 3) = [(1, 3), (4, 5)] := by
  rw [← firstL_canon _ _ (by omega), aw_m]
  simp [firstL]
theorem aw7 : sz (In [(1, 3), (4, 9)]) = 7 := by rw [← szL_canon, aw_m]; simp [szL]
theorem aw6 : canon (lastP [(1, 3), (4, 9)] 3) = [(6, 9)] := by
  refine (canon_eq (by simp [PlainFrom]) (fun t => ?_)).symm
  unfold lastP
  rw [aw7]
  by_cases h : 0 ≤ t ∧ t < 32054400
  · have e := below_canon (In [(1, 3), (4, 9)]) t.toNat (by omega)
    rw [aw_m, show ((t.toNat : Nat) : Int) = t by omega] at e
    rw [← e]
    simp only [in_cons, in_nil, or_false, below, List.map_cons, List.map_nil, List.sum_cons, List.sum_nil]
    omega
  · simp only [in_cons, in_nil, or_false]
    constructor
    · intro q; exact absurd ⟨by omega, by omega⟩ h
    · rintro ⟨q1, q2, _⟩; exact absurd ⟨q1, q2⟩ h
theorem aw8 : hasB [(1, 3), (4, 9)] 4 = true := by decide
theorem aw9 : hasB [(1, 3), (4, 9)] 3 = false := by decide
theorem aw_fits {xs : List (Int × Int)} (h : PlainFrom 0 xs) : Fits xs := .of_plain h
theorem aw_f1 : Fits [(1, 9)] := .of_plain (by simp [PlainFrom])
theorem aw_f2 : Fits [(8, 9)] := .of_plain (by simp [PlainFrom])
theorem aw_f3 : Fits [(1, 3), (4, 9)] := .of_plain (by simp [PlainFrom])
theorem aw_f4 : Fits [(0, 32054400)] := .of_plain (by simp [PlainFrom])
theorem aw_f5 : Fits [(1, 3), (4, 5)] := .of_plain (by simp [PlainFrom])
theorem aw_f6 : Fits [(6, 9)] := .of_plain (by simp [PlainFrom])

set_option maxHeartbeats 4000000 in
theorem awake3 (w : World) : Calls Try.prog 9 #[] w fun e w' => e = .returned (.bool true) ∧ Below w.heap.size w w' := by
  go_enter Try.func9, Try.ntmps9
  have T1 := Lib.hid (spans_new w [(5, 9), (1, 5), (20, 20)] 35 #[.int .i64 (5), .int .i64 (9), .int .i64 (1), .int .i64 (5), .int .i64 (20), .int .i64 (20)] rfl (by intro x hx; simp at hx; rcases hx with rfl | rfl | rfl <;> exact ⟨⟨by decide, by decide⟩, ⟨by decide, by decide⟩⟩) rfl)
  go_wp2_with fail
  refine (norm_any (some ⟨w.heap.size, 0, none⟩) 3 [(5, 9), (1, 5), (20, 20)] _ T1.out (by simp)).mono ?_
  rw [aw1]
  rintro e w2 ⟨D2, d2, rfl, r2, b2⟩
  replace b2 := bel_on (show Below w.heap.size w _ by (repeat' (first | with_reducible exact Below.refl _ _ | with_reducible assumption | with_reducible refine bel_alloc ?_ _ | with_reducible refine bel_set ?_ ?_ _ | with_reducible refine below_drewN ?_ _ | with_reducible refine below_drew ?_ | (simp; done) | (simp; omega) | omega))) b2
  have S2 := Lib.hid (r2.spans aw_f1)
  clear r2
  clear T1
  have T3 := Lib.hid (spans_new w2 [(8, 30)] 35 #[.int .i64 (8), .int .i64 (30)] rfl (by intro x hx; simp at hx; rcases hx with rfl <;> exact ⟨⟨by decide, by decide⟩, ⟨by decide, by decide⟩⟩) rfl)
  go_wp2_with fail
  refine (and_any D2 (some ⟨w2.heap.size, 0, none⟩) d2 1 [(1, 9)] [(8, 30)] _ (S2.out.below (show Below w2.heap.size w2 _ by (repeat' (first | with_reducible exact Below.refl _ _ | with_reducible assumption | with_reducible refine bel_alloc ?_ _ | with_reducible refine bel_set ?_ ?_ _ | with_reducible refine below_drewN ?_ _ | with_reducible refine below_drew ?_ | (simp; done) | (simp; omega) | omega)))) T3.out (by simp) (by simp)).mono ?_
  rw [aw2]
  rintro e w4 ⟨D4, d4, rfl, r4, b4⟩
  replace b4 := bel_on (show Below w2.heap.size w2 _ by (repeat' (first | with_reducible exact Below.refl _ _ | with_reducible assumption | with_reducible refine bel_alloc ?_ _ | with_reducible refine bel_set ?_ ?_ _ | with_reducible refine below_drewN ?_ _ | with_reducible refine below_drew ?_ | (simp; done) | (simp; omega) | omega))) b4
  have S4 := Lib.hid (r4.spans aw_f2)
  clear r4
  have S5 := Lib.hid (S2.out.below b4)
  clear S2
  have h6 := bel_on b2 b4
  clear b2 b4
  clear T3
  have T7 := Lib.hid (spans_new w4 [(3, 4)] 35 #[.int .i64 (3), .int .i64 (4)] rfl (by intro x hx; simp at hx; rcases hx with rfl <;> exact ⟨⟨by decide, by decide⟩, ⟨by decide, by decide⟩⟩) rfl)
  go_wp2_with fail
  refine (minus_any D2 (some ⟨w4.heap.size, 0, none⟩) d2 1 [(1, 9)] [(3, 4)] _ (S5.out.below (show Below w4.heap.size w4 _ by (repeat' (first | with_reducible exact Below.refl _ _ | with_reducible assumption | with_reducible refine bel_alloc ?_ _ | with_reducible refine bel_set ?_ ?_ _ | with_reducible refine below_drewN ?_ _ | with_reducible refine below_drew ?_ | (simp; done) | (simp; omega) | omega)))) T7.out (by simp) (by simp)).mono ?_
  rw [aw3]
  rintro e w8 ⟨D8, d8, rfl, r8, b8⟩
  replace b8 := bel_on (show Below w4.heap.size w4 _ by (repeat' (first | with_reducible exact Below.refl _ _ | with_reducible assumption | with_reducible refine bel_alloc ?_ _ | with_reducible refine bel_set ?_ ?_ _ | with_reducible refine below_drewN ?_ _ | with_reducible refine below_drew ?_ | (simp; done) | (simp; omega) | omega))) b8
  have S8 := Lib.hid (r8.spans aw_f3)
  clear r8
  have S9 := Lib.hid (S5.out.below b8)
  clear S5
  have S10 := Lib.hid (S4.out.below b8)
  clear S4
  have h11 := bel_on h6 b8
  clear h6 b8
  clear T7
  have T12 := Lib.hid (spans_new w8 [(-5, 1099511627776)] 35 #[.int .i64 (-5), .int .i64 (1099511627776)] rfl (by intro x hx; simp at hx; rcases hx with rfl <;> exact ⟨⟨by decide, by decide⟩, ⟨by decide, by decide⟩⟩) rfl)
  go_wp2_with fail
  refine (norm_any (some ⟨w8.heap.size, 0, none⟩) 1 [(-5, 1099511627776)] _ T12.out (by simp)).mono ?_
  rw [aw4]
  rintro e w13 ⟨D13, d13, rfl, r13, b13⟩
  replace b13 := bel_on (show Below w8.heap.size w8 _ by (repeat' (first | with_reducible exact Below.refl _ _ | with_reducible assumption | with_reducible refine bel_alloc ?_ _ | with_reducible refine bel_set ?_ ?_ _ | with_reducible refine below_drewN ?_ _ | with_reducible refine below_drew ?_ | (simp; done) | (simp; omega) | omega))) b13
  have S13 := Lib.hid (r13.spans aw_f4)
  clear r13
  have S14 := Lib.hid (S9.out.below b13)
  clear S9
  have S15 := Lib.hid (S10.out.below b13)
  clear S10
  have S16 := Lib.hid (S8.out.below b13)
  clear S8
  have h17 := bel_on h11 b13
  clear h11 b13
  clear T12
  go_wp2_with fail
  refine (first_any D8 d8 [(1, 3), (4, 9)] 3 _ S16.out (by simp) ⟨by decide, by decide⟩).mono ?_
  rw [aw5]
  rintro e w18 ⟨D18, d18, rfl, r18, b18⟩
  replace b18 := bel_on (show Below w13.heap.size w13 _ by (repeat' (first | with_reducible exact Below.refl _ _ | with_reducible assumption | with_reducible refine bel_alloc ?_ _ | with_reducible refine bel_set ?_ ?_ _ | with_reducible refine below_drewN ?_ _ | with_reducible refine below_drew ?_ | (simp; done) | (simp; omega) | omega))) b18
  have S18 := Lib.hid (r18.spans aw_f5)
  clear r18
  have S19 := Lib.hid (S14.out.below b18)
  clear S14
  have S20 := Lib.hid (S15.out.below b18)
  clear S15
  have S21 := Lib.hid (S16.out.below b18)
  clear S16
  have S22 := Lib.hid (S13.out.below b18)
  clear S13
  have h23 := bel_on h17 b18
  clear h17 b18
  go_wp2_with fail
  refine (last_any D8 d8 [(1, 3), (4, 9)] 3 _ S21.out (by simp) ⟨by decide, by decide⟩).mono ?_
  rw [aw6]
  rintro e w24 ⟨D24, d24, rfl, r24, b24⟩
  replace b24 := bel_on (show Below w18.heap.size w18 _ by (repeat' (first | with_reducible exact Below.refl _ _ | with_reducible assumption | with_reducible refine bel_alloc ?_ _ | with_reducible refine bel_set ?_ ?_ _ | with_reducible refine below_drewN ?_ _ | with_reducible refine below_drew ?_ | (simp; done) | (simp; omega) | omega))) b24
  have S24 := Lib.hid (r24.spans aw_f6)
  clear r24
  have S25 := Lib.hid (S19.out.below b24)
  clear S19
  have S26 := Lib.hid (S20.out.below b24)
  clear S20
  have S27 := Lib.hid (S21.out.below b24)
  clear S21
  have S28 := Lib.hid (S22.out.below b24)
  clear S22
  have S29 := Lib.hid (S18.out.below b24)
  clear S18
  have h30 := bel_on h23 b24
  clear h23 b24
  have T31 := Lib.hid (spans_new w24 [(1, 9)] 35 #[.int .i64 (1), .int .i64 (9)] rfl (by intro x hx; simp at hx; rcases hx with rfl <;> exact ⟨⟨by decide, by decide⟩, ⟨by decide, by decide⟩⟩) rfl)
  go_wp2_with fail
  refine (same_any D2 (some ⟨w24.heap.size, 0, none⟩) d2 1 [(1, 9)] _ (S25.out.below (show Below w24.heap.size w24 _ by (repeat' (first | with_reducible exact Below.refl _ _ | with_reducible assumption | with_reducible refine bel_alloc ?_ _ | with_reducible refine bel_set ?_ ?_ _ | with_reducible refine below_drewN ?_ _ | with_reducible refine below_drew ?_ | (simp; done) | (simp; omega) | omega)))) T31.out (by simp)).mono ?_
  rintro e w32 ⟨rfl, b32⟩
  replace b32 := bel_on (show Below w24.heap.size w24 _ by (repeat' (first | with_reducible exact Below.refl _ _ | with_reducible assumption | with_reducible refine bel_alloc ?_ _ | with_reducible refine bel_set ?_ ?_ _ | with_reducible refine below_drewN ?_ _ | with_reducible refine below_drew ?_ | (simp; done) | (simp; omega) | omega))) b32
  have S33 := Lib.hid (S26.out.below b32)
  clear S26
  have S34 := Lib.hid (S27.out.below b32)
  clear S27
  have S35 := Lib.hid (S28.out.below b32)
  clear S28
  have S36 := Lib.hid (S29.out.below b32)
  clear S29
  have S37 := Lib.hid (S24.out.below b32)
  clear S24
  have h38 := bel_on h30 b32
  clear h30 b32
  clear T31
  have T39 := Lib.hid (spans_new w32 [(8, 9)] 35 #[.int .i64 (8), .int .i64 (9)] rfl (by intro x hx; simp at hx; rcases hx with rfl <;> exact ⟨⟨by decide, by decide⟩, ⟨by decide, by decide⟩⟩) rfl)
  go_wp2_with fail
  refine (same_any D4 (some ⟨w32.heap.size, 0, none⟩) d4 1 [(8, 9)] _ (S33.out.below (show Below w32.heap.size w32 _ by (repeat' (first | with_reducible exact Below.refl _ _ | with_reducible assumption | with_reducible refine bel_alloc ?_ _ | with_reducible refine bel_set ?_ ?_ _ | with_reducible refine below_drewN ?_ _ | with_reducible refine below_drew ?_ | (simp; done) | (simp; omega) | omega)))) T39.out (by simp)).mono ?_
  rintro e w40 ⟨rfl, b40⟩
  replace b40 := bel_on (show Below w32.heap.size w32 _ by (repeat' (first | with_reducible exact Below.refl _ _ | with_reducible assumption | with_reducible refine bel_alloc ?_ _ | with_reducible refine bel_set ?_ ?_ _ | with_reducible refine below_drewN ?_ _ | with_reducible refine below_drew ?_ | (simp; done) | (simp; omega) | omega))) b40
  have S41 := Lib.hid (S34.out.below b40)
  clear S34
  have S42 := Lib.hid (S35.out.below b40)
  clear S35
  have S43 := Lib.hid (S36.out.below b40)
  clear S36
  have S44 := Lib.hid (S37.out.below b40)
  clear S37
  have h45 := bel_on h38 b40
  clear h38 b40
  clear T39
  have T46 := Lib.hid (spans_new w40 [(1, 3), (4, 9)] 35 #[.int .i64 (1), .int .i64 (3), .int .i64 (4), .int .i64 (9)] rfl (by intro x hx; simp at hx; rcases hx with rfl | rfl <;> exact ⟨⟨by decide, by decide⟩, ⟨by decide, by decide⟩⟩) rfl)
  go_wp2_with fail
  refine (same_any D8 (some ⟨w40.heap.size, 0, none⟩) d8 2 [(1, 3), (4, 9)] _ (S41.out.below (show Below w40.heap.size w40 _ by (repeat' (first | with_reducible exact Below.refl _ _ | with_reducible assumption | with_reducible refine bel_alloc ?_ _ | with_reducible refine bel_set ?_ ?_ _ | with_reducible refine below_drewN ?_ _ | with_reducible refine below_drew ?_ | (simp; done) | (simp; omega) | omega)))) T46.out (by simp)).mono ?_
  rintro e w47 ⟨rfl, b47⟩
  replace b47 := bel_on (show Below w40.heap.size w40 _ by (repeat' (first | with_reducible exact Below.refl _ _ | with_reducible assumption | with_reducible refine bel_alloc ?_ _ | with_reducible refine bel_set ?_ ?_ _ | with_reducible refine below_drewN ?_ _ | with_reducible refine below_drew ?_ | (simp; done) | (simp; omega) | omega))) b47
  have S48 := Lib.hid (S41.out.below b47)
  clear S41
  have S49 := Lib.hid (S42.out.below b47)
  clear S42
  have S50 := Lib.hid (S43.out.below b47)
  clear S43
  have S51 := Lib.hid (S44.out.below b47)
  clear S44
  have h52 := bel_on h45 b47
  clear h45 b47
  clear T46
  have T53 := Lib.hid (spans_new w47 [(0, 32054400)] 35 #[.int .i64 (0), .int .i64 (32054400)] rfl (by intro x hx; simp at hx; rcases hx with rfl <;> exact ⟨⟨by decide, by decide⟩, ⟨by decide, by decide⟩⟩) rfl)
  go_wp2_with fail
  refine (same_any D13 (some ⟨w47.heap.size, 0, none⟩) d13 1 [(0, 32054400)] _ (S49.out.below (show Below w47.heap.size w47 _ by (repeat' (first | with_reducible exact Below.refl _ _ | with_reducible assumption | with_reducible refine bel_alloc ?_ _ | with_reducible refine bel_set ?_ ?_ _ | with_reducible refine below_drewN ?_ _ | with_reducible refine below_drew ?_ | (simp; done) | (simp; omega) | omega)))) T53.out (by simp)).mono ?_
  rintro e w54 ⟨rfl, b54⟩
  replace b54 := bel_on (show Below w47.heap.size w47 _ by (repeat' (first | with_reducible exact Below.refl _ _ | with_reducible assumption | with_reducible refine bel_alloc ?_ _ | with_reducible refine bel_set ?_ ?_ _ | with_reducible refine below_drewN ?_ _ | with_reducible refine below_drew ?_ | (simp; done) | (simp; omega) | omega))) b54
  have S55 := Lib.hid (S48.out.below b54)
  clear S48
  have S56 := Lib.hid (S50.out.below b54)
  clear S50
  have S57 := Lib.hid (S51.out.below b54)
  clear S51
  have h58 := bel_on h52 b54
  clear h52 b54
  clear T53
  have T59 := Lib.hid (spans_new w54 [(1, 3), (4, 5)] 35 #[.int .i64 (1), .int .i64 (3), .int .i64 (4), .int .i64 (5)] rfl (by intro x hx; simp at hx; rcases hx with rfl | rfl <;> exact ⟨⟨by decide, by decide⟩, ⟨by decide, by decide⟩⟩) rfl)
  go_wp2_with fail
  refine (same_any D18 (some ⟨w54.heap.size, 0, none⟩) d18 2 [(1, 3), (4, 5)] _ (S56.out.below (show Below w54.heap.size w54 _ by (repeat' (first | with_reducible exact Below.refl _ _ | with_reducible assumption | with_reducible refine bel_alloc ?_ _ | with_reducible refine bel_set ?_ ?_ _ | with_reducible refine below_drewN ?_ _ | with_reducible refine below_drew ?_ | (simp; done) | (simp; omega) | omega)))) T59.out (by simp)).mono ?_
  rintro e w60 ⟨rfl, b60⟩
  replace b60 := bel_on (show Below w54.heap.size w54 _ by (repeat' (first | with_reducible exact Below.refl _ _ | with_reducible assumption | with_reducible refine bel_alloc ?_ _ | with_reducible refine bel_set ?_ ?_ _ | with_reducible refine below_drewN ?_ _ | with_reducible refine below_drew ?_ | (simp; done) | (simp; omega) | omega))) b60
  have S61 := Lib.hid (S55.out.below b60)
  clear S55
  have S62 := Lib.hid (S57.out.below b60)
  clear S57
  have h63 := bel_on h58 b60
  clear h58 b60
  clear T59
  have T64 := Lib.hid (spans_new w60 [(6, 9)] 35 #[.int .i64 (6), .int .i64 (9)] rfl (by intro x hx; simp at hx; rcases hx with rfl <;> exact ⟨⟨by decide, by decide⟩, ⟨by decide, by decide⟩⟩) rfl)
  go_wp2_with fail
  refine (same_any D24 (some ⟨w60.heap.size, 0, none⟩) d24 1 [(6, 9)] _ (S62.out.below (show Below w60.heap.size w60 _ by (repeat' (first | with_reducible exact Below.refl _ _ | with_reducible assumption | with_reducible refine bel_alloc ?_ _ | with_reducible refine bel_set ?_ ?_ _ | with_reducible refine below_drewN ?_ _ | with_reducible refine below_drew ?_ | (simp; done) | (simp; omega) | omega)))) T64.out (by simp)).mono ?_
  rintro e w65 ⟨rfl, b65⟩
  replace b65 := bel_on (show Below w60.heap.size w60 _ by (repeat' (first | with_reducible exact Below.refl _ _ | with_reducible assumption | with_reducible refine bel_alloc ?_ _ | with_reducible refine bel_set ?_ ?_ _ | with_reducible refine below_drewN ?_ _ | with_reducible refine below_drew ?_ | (simp; done) | (simp; omega) | omega))) b65
  have S66 := Lib.hid (S61.out.below b65)
  clear S61
  have h67 := bel_on h63 b65
  clear h63 b65
  clear T64
  go_wp2_with fail
  refine (size_any D8 d8 [(1, 3), (4, 9)] _ S66.out (by simp)).mono ?_
  rw [aw7]
  rintro e w68 ⟨rfl, b68⟩
  replace b68 := bel_on (show Below w65.heap.size w65 _ by (repeat' (first | with_reducible exact Below.refl _ _ | with_reducible assumption | with_reducible refine bel_alloc ?_ _ | with_reducible refine bel_set ?_ ?_ _ | with_reducible refine below_drewN ?_ _ | with_reducible refine below_drew ?_ | (simp; done) | (simp; omega) | omega))) b68
  have S69 := Lib.hid (S66.out.below b68)
  clear S66
  have h70 := bel_on h67 b68
  clear h67 b68
  go_wp2_with fail
  refine (has_any D8 d8 [(1, 3), (4, 9)] 4 _ S69.out (by simp)).mono ?_
  rw [aw8]
  rintro e w71 ⟨rfl, b71⟩
  replace b71 := bel_on (show Below w68.heap.size w68 _ by (repeat' (first | with_reducible exact Below.refl _ _ | with_reducible assumption | with_reducible refine bel_alloc ?_ _ | with_reducible refine bel_set ?_ ?_ _ | with_reducible refine below_drewN ?_ _ | with_reducible refine below_drew ?_ | (simp; done) | (simp; omega) | omega))) b71
  have S72 := Lib.hid (S69.out.below b71)
  clear S69
  have h73 := bel_on h70 b71
  clear h70 b71
  go_wp2_with fail
  refine (has_any D8 d8 [(1, 3), (4, 9)] 3 _ S72.out (by simp)).mono ?_
  rw [aw9]
  rintro e w74 ⟨rfl, b74⟩
  replace b74 := bel_on (show Below w71.heap.size w71 _ by (repeat' (first | with_reducible exact Below.refl _ _ | with_reducible assumption | with_reducible refine bel_alloc ?_ _ | with_reducible refine bel_set ?_ ?_ _ | with_reducible refine below_drewN ?_ _ | with_reducible refine below_drew ?_ | (simp; done) | (simp; omega) | omega))) b74
  have S75 := Lib.hid (S72.out.below b74)
  clear S72
  have h76 := bel_on h73 b74
  clear h73 b74
  go_wp2
  go_ret
  exact ⟨rfl, h76⟩
end Go.Proofs.Ytkdogleocffhdaa
