/-
  The walk of the law RatioOrder: it answers true, and leaves what was there as it was.
-/
import Derived.Test.YtlennhfjninclaaRatioOrderA
import Derived.Deep.RegionHeld3
namespace Go.Proofs.Ytlennhfjninclaa
open Go.RowKit
set_option linter.unusedVariables false


set_option maxRecDepth 100000 in
set_option maxHeartbeats 4000000 in
theorem ratioOrder_1r1 (a b c d e f : Int) (w : World) (ha : -9223372036854775808 ≤ a ∧ a ≤ 9223372036854775807) (hb : -9223372036854775808 ≤ b ∧ b ≤ 9223372036854775807) (hc : -9223372036854775808 ≤ c ∧ c ≤ 9223372036854775807) (hd : -9223372036854775808 ≤ d ∧ d ≤ 9223372036854775807) (he : -9223372036854775808 ≤ e ∧ e ≤ 9223372036854775807) (hf : -9223372036854775808 ≤ f ∧ f ≤ 9223372036854775807) (ma : mayB a b = true) (mb : mayB c d = true) (mc : mayB e f = true) (kP : lessB a b c d = false) (kQ : lessB c d a b = true) (hne : (a == c) = false) (kM : (minusR a b c d).c = 0) :
    Calls Try.prog 6 #[.agg #[.int .i64 a, .int .i64 b], .agg #[.int .i64 c, .int .i64 d], .agg #[.int .i64 e, .int .i64 f]] w fun r w' => r = .returned (.bool true) ∧ Below w.heap.size w w' := by
  have Hma := Lib.hid ma
  have Hmb := Lib.hid mb
  have Hmc := Lib.hid mc
  have HkP := Lib.hid kP
  have HkQ := Lib.hid kQ
  have KS := Lib.hid (less_self a b)
  have SG := Lib.hid (less_sign ma mb kM)
  have HkM := Lib.hid kM
  clear kM ma mb mc kP kQ
  go_enter Try.func6, Try.ntmps6
  go_wp2_with fail
  refine (awake2 _).mono ?_
  rintro e w1 ⟨rfl, hb1⟩
  have A : Has w1 w.heap.size #[.int .i64 a, .int .i64 b] := Has.below (by (repeat' (first | with_reducible assumption | ((with_reducible refine Has.new _ _ _ ?_); (first | (with_reducible rfl) | (simp; done))) | with_reducible refine Has.alloc ?_ _ | with_reducible refine Has.drewN ?_ _ | with_reducible refine Has.drew ?_))) hb1
  have B : Has w1 (w.heap.size + 1) #[.int .i64 c, .int .i64 d] := Has.below (by (repeat' (first | with_reducible assumption | ((with_reducible refine Has.new _ _ _ ?_); (first | (with_reducible rfl) | (simp; done))) | with_reducible refine Has.alloc ?_ _ | with_reducible refine Has.drewN ?_ _ | with_reducible refine Has.drew ?_))) hb1
  have C : Has w1 (w.heap.size + 1 + 1) #[.int .i64 e, .int .i64 f] := Has.below (by (repeat' (first | with_reducible assumption | ((with_reducible refine Has.new _ _ _ ?_); (first | (with_reducible rfl) | (simp; done))) | with_reducible refine Has.alloc ?_ _ | with_reducible refine Has.drewN ?_ _ | with_reducible refine Has.drew ?_))) hb1
  replace hb1 := bel_on (show Below w.heap.size w _ by (repeat' (first | with_reducible exact Below.refl _ _ | with_reducible assumption | with_reducible refine bel_alloc ?_ _ | with_reducible refine bel_set ?_ ?_ _ | with_reducible refine below_drewN ?_ _ | with_reducible refine below_drew ?_ | (simp; done) | (simp; omega) | omega))) hb1
  obtain ⟨A0, A1, -, -⟩ := A.two
  have Az := A.size
  obtain ⟨B0, B1, -, -⟩ := B.two
  have Bz := B.size
  obtain ⟨C0, C1, -, -⟩ := C.two
  have Cz := C.size
  go_wp2_with fail
  refine (check_any a b _ ha.1 ha.2 hb.1 hb.2).mono ?_
  rw [Hma.out]
  rintro e_2 w2 ⟨rfl, hb2⟩
  replace A := (A).below hb2
  replace B := (B).below hb2
  replace C := (C).below hb2
  replace hb2 := bel_on (hb1) hb2
  clear hb1 A0 A1 Az B0 B1 Bz C0 C1 Cz
  obtain ⟨A0, A1, -, -⟩ := A.two
  have Az := A.size
  obtain ⟨B0, B1, -, -⟩ := B.two
  have Bz := B.size
  obtain ⟨C0, C1, -, -⟩ := C.two
  have Cz := C.size
  go_wp2_with fail
  refine (check_any c d _ hc.1 hc.2 hd.1 hd.2).mono ?_
  rw [Hmb.out]
  rintro e_3 w3 ⟨rfl, hb3⟩
  replace A := (A).below hb3
  replace B := (B).below hb3
  replace C := (C).below hb3
  replace hb3 := bel_on (hb2) hb3
  clear hb2 A0 A1 Az B0 B1 Bz C0 C1 Cz
  obtain ⟨A0, A1, -, -⟩ := A.two
  have Az := A.size
  obtain ⟨B0, B1, -, -⟩ := B.two
  have Bz := B.size
  obtain ⟨C0, C1, -, -⟩ := C.two
  have Cz := C.size
  go_wp2_with fail
  refine (check_any e f _ he.1 he.2 hf.1 hf.2).mono ?_
  rw [Hmc.out]
  rintro e_4 w4 ⟨rfl, hb4⟩
  replace A := (A).below hb4
  replace B := (B).below hb4
  replace C := (C).below hb4
  replace hb4 := bel_on (hb3) hb4
  clear hb3 A0 A1 Az B0 B1 Bz C0 C1 Cz
  obtain ⟨A0, A1, -, -⟩ := A.two
  have Az := A.size
  obtain ⟨B0, B1, -, -⟩ := B.two
  have Bz := B.size
  go_wp2
  have hbx1 := hb4
  clear hb4
  first | (go_region_held3 (fun w' => w'.cell? ⟨w.heap.size, 0, none⟩ = some (.int .i64 a) ∧ w'.cell? ⟨w.heap.size, 1, none⟩ = some (.int .i64 b) ∧ w'.cell? ⟨w.heap.size + 1, 0, none⟩ = some (.int .i64 c) ∧ w'.cell? ⟨w.heap.size + 1, 1, none⟩ = some (.int .i64 d)) (go_keep) (first | (go_at_call 20; (with_reducible refine (less_any a b c d _ ha hb hc hd).mono ?_); rw [HkP.out]; rintro e_r x1 ⟨rfl, hbn⟩; (first | (with_reducible replace A := A.below hbn) | replace A := A.drew.below hbn | replace A := (A.alloc _).drew.below hbn); (first | (with_reducible replace B := B.below hbn) | replace B := B.drew.below hbn | replace B := (B.alloc _).drew.below hbn); (first | (with_reducible replace C := C.below hbn) | replace C := C.drew.below hbn | replace C := (C.alloc _).drew.below hbn); replace hbx1 := bel_on (show Below w.heap.size w _ by (repeat' (first | with_reducible exact Below.refl _ _ | with_reducible assumption | with_reducible refine bel_alloc ?_ _ | with_reducible refine bel_set ?_ ?_ _ | with_reducible refine below_drewN ?_ _ | with_reducible refine below_drew ?_ | (simp; done) | (simp; omega) | omega))) hbn; clear hbn; obtain ⟨A0, A1, -, -⟩ := A.two; obtain ⟨B0, B1, -, -⟩ := B.two; obtain ⟨C0, C1, -, -⟩ := C.two) | (go_at_call 20; (with_reducible refine (less_any c d a b _ hc hd ha hb).mono ?_); rw [HkQ.out]; rintro e_r x1 ⟨rfl, hbn⟩; (first | (with_reducible replace A := A.below hbn) | replace A := A.drew.below hbn | replace A := (A.alloc _).drew.below hbn); (first | (with_reducible replace B := B.below hbn) | replace B := B.drew.below hbn | replace B := (B.alloc _).drew.below hbn); (first | (with_reducible replace C := C.below hbn) | replace C := C.drew.below hbn | replace C := (C.alloc _).drew.below hbn); replace hbx1 := bel_on (show Below w.heap.size w _ by (repeat' (first | with_reducible exact Below.refl _ _ | with_reducible assumption | with_reducible refine bel_alloc ?_ _ | with_reducible refine bel_set ?_ ?_ _ | with_reducible refine below_drewN ?_ _ | with_reducible refine below_drew ?_ | (simp; done) | (simp; omega) | omega))) hbn; clear hbn; obtain ⟨A0, A1, -, -⟩ := A.two; obtain ⟨B0, B1, -, -⟩ := B.two; obtain ⟨C0, C1, -, -⟩ := C.two))) | fail
  obtain ⟨A0, A1, -, -⟩ := A.two
  have Az := A.size
  obtain ⟨B0, B1, -, -⟩ := B.two
  have Bz := B.size
  obtain ⟨C0, C1, -, -⟩ := C.two
  have Cz := C.size
  go_wp2_with fail
  refine (less_any a b c d _ ha hb hc hd).mono ?_
  rw [HkP.out]
  rintro e_5 w5 ⟨rfl, hb5⟩
  replace A := (A).below hb5
  replace B := (B).below hb5
  replace C := (C).below hb5
  replace hb5 := bel_on (hbx1) hb5
  clear hbx1 A0 A1 Az B0 B1 Bz C0 C1 Cz
  obtain ⟨A0, A1, -, -⟩ := A.two
  have Az := A.size
  obtain ⟨B0, B1, -, -⟩ := B.two
  have Bz := B.size
  obtain ⟨C0, C1, -, -⟩ := C.two
  have Cz := C.size
  go_wp2_with fail
  refine (qminus_any a b c d _ ha hb hc hd).mono ?_
  rw [HkM.out]
  rintro e_6 w6 ⟨rfl, hb6⟩
  replace A := (A).below hb6
  replace B := (B).below hb6
  replace C := (C).below hb6
  replace hb6 := bel_on (hb5) hb6
  clear hb5 A0 A1 Az B0 B1 Bz C0 C1 Cz
  have sg := SG.out
  rw [HkP.out] at sg
  have sg' : 0 ≤ (minusR a b c d).n := Int.not_lt.1 (of_decide_eq_false sg)
  obtain ⟨A0, A1, -, -⟩ := A.two
  have Az := A.size
  obtain ⟨B0, B1, -, -⟩ := B.two
  have Bz := B.size
  have M := Has.new w6 24 #[.int .i64 (minusR a b c d).n, .int .i64 (minusR a b c d).d] rfl
  replace A := A.alloc (.cells #[.int .i64 (minusR a b c d).n, .int .i64 (minusR a b c d).d] 24)
  replace B := B.alloc (.cells #[.int .i64 (minusR a b c d).n, .int .i64 (minusR a b c d).d] 24)
  obtain ⟨M0, M1, -, -⟩ := M.two
  obtain ⟨A2, A3, -, -⟩ := A.two
  obtain ⟨B2, B3, -, -⟩ := B.two
  replace hb6 := bel_alloc hb6 (.cells #[.int .i64 (minusR a b c d).n, .int .i64 (minusR a b c d).d] 24)
  go_wp2
  have hbx2 := hb6
  clear hb6
  first | (go_region_held3 (fun w' => w'.cell? ⟨w.heap.size, 0, none⟩ = some (.int .i64 a) ∧ w'.cell? ⟨w.heap.size, 1, none⟩ = some (.int .i64 b) ∧ w'.cell? ⟨w.heap.size + 1, 0, none⟩ = some (.int .i64 c) ∧ w'.cell? ⟨w.heap.size + 1, 1, none⟩ = some (.int .i64 d) ∧ w'.cell? ⟨w6.heap.size, 0, none⟩ = some (.int .i64 (minusR a b c d).n) ∧ w'.cell? ⟨w6.heap.size, 1, none⟩ = some (.int .i64 (minusR a b c d).d)) (go_keep) (first | (go_at_call 20; (with_reducible refine (less_any a b a b _ ha hb ha hb).mono ?_); rw [KS.out]; rintro e_r x2 ⟨rfl, hbn⟩; (first | (with_reducible replace A := A.below hbn) | replace A := A.drew.below hbn | replace A := (A.alloc _).drew.below hbn); (first | (with_reducible replace B := B.below hbn) | replace B := B.drew.below hbn | replace B := (B.alloc _).drew.below hbn); (first | (with_reducible replace M := M.below hbn) | replace M := M.drew.below hbn | replace M := (M.alloc _).drew.below hbn); replace hbx2 := bel_on (show Below w.heap.size w _ by (repeat' (first | with_reducible exact Below.refl _ _ | with_reducible assumption | with_reducible refine bel_alloc ?_ _ | with_reducible refine bel_set ?_ ?_ _ | with_reducible refine below_drewN ?_ _ | with_reducible refine below_drew ?_ | (simp; done) | (simp; omega) | omega))) hbn; clear hbn; obtain ⟨A0, A1, -, -⟩ := A.two; obtain ⟨B0, B1, -, -⟩ := B.two; obtain ⟨M0, M1, -, -⟩ := M.two) | (go_at_call 20; (with_reducible refine (less_any a b c d _ ha hb hc hd).mono ?_); rw [HkP.out]; rintro e_r x2 ⟨rfl, hbn⟩; (first | (with_reducible replace A := A.below hbn) | replace A := A.drew.below hbn | replace A := (A.alloc _).drew.below hbn); (first | (with_reducible replace B := B.below hbn) | replace B := B.drew.below hbn | replace B := (B.alloc _).drew.below hbn); (first | (with_reducible replace M := M.below hbn) | replace M := M.drew.below hbn | replace M := (M.alloc _).drew.below hbn); replace hbx2 := bel_on (show Below w.heap.size w _ by (repeat' (first | with_reducible exact Below.refl _ _ | with_reducible assumption | with_reducible refine bel_alloc ?_ _ | with_reducible refine bel_set ?_ ?_ _ | with_reducible refine below_drewN ?_ _ | with_reducible refine below_drew ?_ | (simp; done) | (simp; omega) | omega))) hbn; clear hbn; obtain ⟨A0, A1, -, -⟩ := A.two; obtain ⟨B0, B1, -, -⟩ := B.two; obtain ⟨M0, M1, -, -⟩ := M.two))) | fail
  go_wp2
  go_ret
  exact ⟨rfl, hbx2⟩

set_option maxRecDepth 100000 in
set_option maxHeartbeats 4000000 in
theorem ratioOrder_1r0 (a b c d e f : Int) (w : World) (ha : -9223372036854775808 ≤ a ∧ a ≤ 9223372036854775807) (hb : -9223372036854775808 ≤ b ∧ b ≤ 9223372036854775807) (hc : -9223372036854775808 ≤ c ∧ c ≤ 9223372036854775807) (hd : -9223372036854775808 ≤ d ∧ d ≤ 9223372036854775807) (he : -9223372036854775808 ≤ e ∧ e ≤ 9223372036854775807) (hf : -9223372036854775808 ≤ f ∧ f ≤ 9223372036854775807) (ma : mayB a b = true) (mb : mayB c d = true) (mc : mayB e f = true) (kP : lessB a b c d = false) (kQ : lessB c d a b = true) (hne : (a == c) = false) (kM : (minusR a b c d).c = 10) :
    Calls Try.prog 6 #[.agg #[.int .i64 a, .int .i64 b], .agg #[.int .i64 c, .int .i64 d], .agg #[.int .i64 e, .int .i64 f]] w fun r w' => r = .returned (.bool true) ∧ Below w.heap.size w w' := by
  have Hma := Lib.hid ma
  have Hmb := Lib.hid mb
  have Hmc := Lib.hid mc
  have HkP := Lib.hid kP
  have HkQ := Lib.hid kQ
  have KS := Lib.hid (less_self a b)
  have HkM := Lib.hid kM
  clear kM ma mb mc kP kQ
  go_enter Try.func6, Try.ntmps6
  go_wp2_with fail
  refine (awake2 _).mono ?_
  rintro e w1 ⟨rfl, hb1⟩
  have A : Has w1 w.heap.size #[.int .i64 a, .int .i64 b] := Has.below (by (repeat' (first | with_reducible assumption | ((with_reducible refine Has.new _ _ _ ?_); (first | (with_reducible rfl) | (simp; done))) | with_reducible refine Has.alloc ?_ _ | with_reducible refine Has.drewN ?_ _ | with_reducible refine Has.drew ?_))) hb1
  have B : Has w1 (w.heap.size + 1) #[.int .i64 c, .int .i64 d] := Has.below (by (repeat' (first | with_reducible assumption | ((with_reducible refine Has.new _ _ _ ?_); (first | (with_reducible rfl) | (simp; done))) | with_reducible refine Has.alloc ?_ _ | with_reducible refine Has.drewN ?_ _ | with_reducible refine Has.drew ?_))) hb1
  have C : Has w1 (w.heap.size + 1 + 1) #[.int .i64 e, .int .i64 f] := Has.below (by (repeat' (first | with_reducible assumption | ((with_reducible refine Has.new _ _ _ ?_); (first | (with_reducible rfl) | (simp; done))) | with_reducible refine Has.alloc ?_ _ | with_reducible refine Has.drewN ?_ _ | with_reducible refine Has.drew ?_))) hb1
  replace hb1 := bel_on (show Below w.heap.size w _ by (repeat' (first | with_reducible exact Below.refl _ _ | with_reducible assumption | with_reducible refine bel_alloc ?_ _ | with_reducible refine bel_set ?_ ?_ _ | with_reducible refine below_drewN ?_ _ | with_reducible refine below_drew ?_ | (simp; done) | (simp; omega) | omega))) hb1
  obtain ⟨A0, A1, -, -⟩ := A.two
  have Az := A.size
  obtain ⟨B0, B1, -, -⟩ := B.two
  have Bz := B.size
  obtain ⟨C0, C1, -, -⟩ := C.two
  have Cz := C.size
  go_wp2_with fail
  refine (check_any a b _ ha.1 ha.2 hb.1 hb.2).mono ?_
  rw [Hma.out]
  rintro e_2 w2 ⟨rfl, hb2⟩
  replace A := (A).below hb2
  replace B := (B).below hb2
  replace C := (C).below hb2
  replace hb2 := bel_on (hb1) hb2
  clear hb1 A0 A1 Az B0 B1 Bz C0 C1 Cz
  obtain ⟨A0, A1, -, -⟩ := A.two
  have Az := A.size
  obtain ⟨B0, B1, -, -⟩ := B.two
  have Bz := B.size
  obtain ⟨C0, C1, -, -⟩ := C.two
  have Cz := C.size
  go_wp2_with fail
  refine (check_any c d _ hc.1 hc.2 hd.1 hd.2).mono ?_
  rw [Hmb.out]
  rintro e_3 w3 ⟨rfl, hb3⟩
  replace A := (A).below hb3
  replace B := (B).below hb3
  replace C := (C).below hb3
  replace hb3 := bel_on (hb2) hb3
  clear hb2 A0 A1 Az B0 B1 Bz C0 C1 Cz
  obtain ⟨A0, A1, -, -⟩ := A.two
  have Az := A.size
  obtain ⟨B0, B1, -, -⟩ := B.two
  have Bz := B.size
  obtain ⟨C0, C1, -, -⟩ := C.two
  have Cz := C.size
  go_wp2_with fail
  refine (check_any e f _ he.1 he.2 hf.1 hf.2).mono ?_
  rw [Hmc.out]
  rintro e_4 w4 ⟨rfl, hb4⟩
  replace A := (A).below hb4
  replace B := (B).below hb4
  replace C := (C).below hb4
  replace hb4 := bel_on (hb3) hb4
  clear hb3 A0 A1 Az B0 B1 Bz C0 C1 Cz
  obtain ⟨A0, A1, -, -⟩ := A.two
  have Az := A.size
  obtain ⟨B0, B1, -, -⟩ := B.two
  have Bz := B.size
  go_wp2
  have hbx1 := hb4
  clear hb4
  first | (go_region_held3 (fun w' => w'.cell? ⟨w.heap.size, 0, none⟩ = some (.int .i64 a) ∧ w'.cell? ⟨w.heap.size, 1, none⟩ = some (.int .i64 b) ∧ w'.cell? ⟨w.heap.size + 1, 0, none⟩ = some (.int .i64 c) ∧ w'.cell? ⟨w.heap.size + 1, 1, none⟩ = some (.int .i64 d)) (go_keep) (first | (go_at_call 20; (with_reducible refine (less_any a b c d _ ha hb hc hd).mono ?_); rw [HkP.out]; rintro e_r x1 ⟨rfl, hbn⟩; (first | (with_reducible replace A := A.below hbn) | replace A := A.drew.below hbn | replace A := (A.alloc _).drew.below hbn); (first | (with_reducible replace B := B.below hbn) | replace B := B.drew.below hbn | replace B := (B.alloc _).drew.below hbn); (first | (with_reducible replace C := C.below hbn) | replace C := C.drew.below hbn | replace C := (C.alloc _).drew.below hbn); replace hbx1 := bel_on (show Below w.heap.size w _ by (repeat' (first | with_reducible exact Below.refl _ _ | with_reducible assumption | with_reducible refine bel_alloc ?_ _ | with_reducible refine bel_set ?_ ?_ _ | with_reducible refine below_drewN ?_ _ | with_reducible refine below_drew ?_ | (simp; done) | (simp; omega) | omega))) hbn; clear hbn; obtain ⟨A0, A1, -, -⟩ := A.two; obtain ⟨B0, B1, -, -⟩ := B.two; obtain ⟨C0, C1, -, -⟩ := C.two) | (go_at_call 20; (with_reducible refine (less_any c d a b _ hc hd ha hb).mono ?_); rw [HkQ.out]; rintro e_r x1 ⟨rfl, hbn⟩; (first | (with_reducible replace A := A.below hbn) | replace A := A.drew.below hbn | replace A := (A.alloc _).drew.below hbn); (first | (with_reducible replace B := B.below hbn) | replace B := B.drew.below hbn | replace B := (B.alloc _).drew.below hbn); (first | (with_reducible replace C := C.below hbn) | replace C := C.drew.below hbn | replace C := (C.alloc _).drew.below hbn); replace hbx1 := bel_on (show Below w.heap.size w _ by (repeat' (first | with_reducible exact Below.refl _ _ | with_reducible assumption | with_reducible refine bel_alloc ?_ _ | with_reducible refine bel_set ?_ ?_ _ | with_reducible refine below_drewN ?_ _ | with_reducible refine below_drew ?_ | (simp; done) | (simp; omega) | omega))) hbn; clear hbn; obtain ⟨A0, A1, -, -⟩ := A.two; obtain ⟨B0, B1, -, -⟩ := B.two; obtain ⟨C0, C1, -, -⟩ := C.two))) | fail
  obtain ⟨A0, A1, -, -⟩ := A.two
  have Az := A.size
  obtain ⟨B0, B1, -, -⟩ := B.two
  have Bz := B.size
  obtain ⟨C0, C1, -, -⟩ := C.two
  have Cz := C.size
  go_wp2_with fail
  refine (less_any a b c d _ ha hb hc hd).mono ?_
  rw [HkP.out]
  rintro e_5 w5 ⟨rfl, hb5⟩
  replace A := (A).below hb5
  replace B := (B).below hb5
  replace C := (C).below hb5
  replace hb5 := bel_on (hbx1) hb5
  clear hbx1 A0 A1 Az B0 B1 Bz C0 C1 Cz
  obtain ⟨A0, A1, -, -⟩ := A.two
  have Az := A.size
  obtain ⟨B0, B1, -, -⟩ := B.two
  have Bz := B.size
  obtain ⟨C0, C1, -, -⟩ := C.two
  have Cz := C.size
  go_wp2_with fail
  refine (qminus_any a b c d _ ha hb hc hd).mono ?_
  rw [HkM.out]
  rintro e_6 w6 ⟨rfl, hb6⟩
  replace A := (A).below hb6
  replace B := (B).below hb6
  replace C := (C).below hb6
  replace hb6 := bel_on (hb5) hb6
  clear hb5 A0 A1 Az B0 B1 Bz C0 C1 Cz
  obtain ⟨A0, A1, -, -⟩ := A.two
  have Az := A.size
  obtain ⟨B0, B1, -, -⟩ := B.two
  have Bz := B.size
  have M := Has.new w6 24 #[.int .i64 (minusR a b c d).n, .int .i64 (minusR a b c d).d] rfl
  replace A := A.alloc (.cells #[.int .i64 (minusR a b c d).n, .int .i64 (minusR a b c d).d] 24)
  replace B := B.alloc (.cells #[.int .i64 (minusR a b c d).n, .int .i64 (minusR a b c d).d] 24)
  obtain ⟨M0, M1, -, -⟩ := M.two
  obtain ⟨A2, A3, -, -⟩ := A.two
  obtain ⟨B2, B3, -, -⟩ := B.two
  replace hb6 := bel_alloc hb6 (.cells #[.int .i64 (minusR a b c d).n, .int .i64 (minusR a b c d).d] 24)
  go_wp2
  refine wp_region_noPanic ?_
  refine wp_region_held_drew (S := (fun w' => w'.cell? ⟨w.heap.size, 0, none⟩ = some (.int .i64 a) ∧ w'.cell? ⟨w.heap.size, 1, none⟩ = some (.int .i64 b) ∧ w'.cell? ⟨w.heap.size + 1, 0, none⟩ = some (.int .i64 c) ∧ w'.cell? ⟨w.heap.size + 1, 1, none⟩ = some (.int .i64 d) ∧ w'.cell? ⟨w6.heap.size, 0, none⟩ = some (.int .i64 (minusR a b c d).n) ∧ w'.cell? ⟨w6.heap.size, 1, none⟩ = some (.int .i64 (minusR a b c d).d))) (by kernel_rfl) ?_ (fun hHeld => ?_)
  · go_keep
  refine wpAnyH_take (i := 0) (oi := ⟨some 55, _, _, _, _, _⟩) (v := ?_) rfl (by kernel_rfl) (by kernel_rfl) (by kernel_rfl) (fun _ _ _ h => h) (Or.inl ⟨by rfl, ?_⟩) (by assumption) ?_
  rotate_left
  · intro ww hSw
    (try dsimp only at hSw)
    go_simp
    (try with_reducible rfl)
  simp only [Act.put, List.setIfInBounds_toArray, List.set_cons_zero, List.set_cons_succ]
  refine wpAnyH_take (i := 1) (oi := ⟨some 56, _, _, _, _, _⟩) (v := ?_) rfl (by kernel_rfl) (by kernel_rfl) (by kernel_rfl) (fun _ _ _ h => h) (Or.inl ⟨by rfl, ?_⟩) (by assumption) ?_
  rotate_left
  · intro ww hSw
    (try dsimp only at hSw)
    go_simp
    (try with_reducible rfl)
  simp only [Act.put, List.setIfInBounds_toArray, List.set_cons_zero, List.set_cons_succ]
  refine wpAnyH_take (i := 2) (oi := ⟨some 57, _, _, _, _, _⟩) (v := ?_) rfl (by kernel_rfl) (by kernel_rfl) (by kernel_rfl) (fun _ _ _ h => h) (Or.inl ⟨by rfl, ?_⟩) (by assumption) ?_
  rotate_left
  · intro ww hSw
    (try dsimp only at hSw)
    go_simp
    (try with_reducible rfl)
  simp only [Act.put, List.setIfInBounds_toArray, List.set_cons_zero, List.set_cons_succ]
  refine wpAnyH_take (i := 3) (oi := ⟨some 58, _, _, _, _, _⟩) (v := ?_) rfl (by kernel_rfl) (by kernel_rfl) (by kernel_rfl) (fun _ _ _ h => h) (Or.inl ⟨by rfl, ?_⟩) (by assumption) ?_
  rotate_left
  · intro ww hSw
    (try dsimp only at hSw)
    go_simp
    (try with_reducible rfl)
  simp only [Act.put, List.setIfInBounds_toArray, List.set_cons_zero, List.set_cons_succ]
  refine wpAnyH_take (i := 4) (oi := ⟨some 59, _, _, _, _, _⟩) (v := ?_) rfl (by kernel_rfl) (by kernel_rfl) (by kernel_rfl) (fun _ _ _ h => h) (Or.inl ⟨by rfl, ?_⟩) (by assumption) ?_
  rotate_left
  · intro ww hSw
    (try dsimp only at hSw)
    go_simp
    (try with_reducible rfl)
  simp only [Act.put, List.setIfInBounds_toArray, List.set_cons_zero, List.set_cons_succ]
  refine wpAnyH_take (i := 5) (oi := ⟨some 60, _, _, _, _, _⟩) (v := ?_) rfl (by kernel_rfl) (by kernel_rfl) (by kernel_rfl) (fun _ _ _ h => h) (Or.inl ⟨by rfl, ?_⟩) (by assumption) ?_
  rotate_left
  · intro ww hSw
    (try dsimp only at hSw)
    go_simp
    (try with_reducible rfl)
  simp only [Act.put, List.setIfInBounds_toArray, List.set_cons_zero, List.set_cons_succ]
  refine wpAnyH_take (i := 6) (oi := ⟨some 61, _, _, _, _, _⟩) (v := ?_) rfl (by kernel_rfl) (by kernel_rfl) (by kernel_rfl) (fun _ _ _ h => h) (Or.inl ⟨by rfl, ?_⟩) (by assumption) ?_
  rotate_left
  · intro ww hSw
    (try dsimp only at hSw)
    go_simp
    (try with_reducible rfl)
  simp only [Act.put, List.setIfInBounds_toArray, List.set_cons_zero, List.set_cons_succ]
  refine wpAnyH_take (i := 7) (oi := ⟨some 62, _, _, _, _, _⟩) (v := ?_) rfl (by kernel_rfl) (by kernel_rfl) (by kernel_rfl) (fun _ _ _ h => h) (Or.inl ⟨by rfl, ?_⟩) (by assumption) ?_
  rotate_left
  · intro ww hSw
    (try dsimp only at hSw)
    go_simp
    (try with_reducible rfl)
  simp only [Act.put, List.setIfInBounds_toArray, List.set_cons_zero, List.set_cons_succ]
  refine wpAnyH_take (i := 8) (oi := ⟨some 63, _, _, _, _, _⟩) (v := ?_) rfl (by kernel_rfl) (by kernel_rfl) (by kernel_rfl) (fun _ _ _ h => h) (Or.inl ⟨by rfl, ?_⟩) (by assumption) ?_
  rotate_left
  · intro ww hSw
    (try dsimp only at hSw)
    go_simp
    (try with_reducible rfl)
  simp only [Act.put, List.setIfInBounds_toArray, List.set_cons_zero, List.set_cons_succ]
  refine wpAnyH_take (i := 9) (oi := ⟨some 64, _, _, _, _, _⟩) (v := ?_) rfl (by kernel_rfl) (by kernel_rfl) (by kernel_rfl) (fun _ _ _ h => h) (Or.inl ⟨by rfl, ?_⟩) (by assumption) ?_
  rotate_left
  · intro ww hSw
    (try dsimp only at hSw)
    go_simp
    (try with_reducible rfl)
  simp only [Act.put, List.setIfInBounds_toArray, List.set_cons_zero, List.set_cons_succ]
  refine wpAnyH_take (i := 10) (oi := ⟨some 65, _, _, _, _, _⟩) (v := ?_) rfl (by kernel_rfl) (by kernel_rfl) (by kernel_rfl) (fun _ _ _ h => h) (Or.inl ⟨by rfl, ?_⟩) (by assumption) ?_
  rotate_left
  · intro ww hSw
    (try dsimp only at hSw)
    go_simp
    (try with_reducible rfl)
  simp only [Act.put, List.setIfInBounds_toArray, List.set_cons_zero, List.set_cons_succ]
  refine wpAnyH_take (i := 11) (oi := ⟨some 66, _, _, _, _, _⟩) (v := ?_) rfl (by kernel_rfl) (by kernel_rfl) (by kernel_rfl) (fun _ _ _ h => h) (Or.inl ⟨by rfl, ?_⟩) (by assumption) ?_
  rotate_left
  · intro ww hSw
    (try dsimp only at hSw)
    go_simp
    (try with_reducible rfl)
  simp only [Act.put, List.setIfInBounds_toArray, List.set_cons_zero, List.set_cons_succ]
  refine wpAnyH_take (i := 12) (oi := ⟨some 67, _, _, _, _, _⟩) (v := ?_) rfl (by kernel_rfl) (by kernel_rfl) (by kernel_rfl) (fun _ _ _ h => h) (Or.inl ⟨by rfl, ?_⟩) (by assumption) ?_
  rotate_left
  · intro ww hSw
    (try dsimp only at hSw)
    go_simp
    (try with_reducible rfl)
  simp only [Act.put, List.setIfInBounds_toArray, List.set_cons_zero, List.set_cons_succ]
  refine wpAnyH_take (i := 13) (oi := ⟨some 68, _, _, _, _, _⟩) (v := ?_) rfl (by kernel_rfl) (by kernel_rfl) (by kernel_rfl) (fun _ _ _ h => h) (Or.inl ⟨by rfl, ?_⟩) (by assumption) ?_
  rotate_left
  · intro ww hSw
    (try dsimp only at hSw)
    go_simp
    (try with_reducible rfl)
  simp only [Act.put, List.setIfInBounds_toArray, List.set_cons_zero, List.set_cons_succ]
  have hbx := hb6
  clear hb6
  refine wpAnyH_ready (rs := [14]) (by kernel_rfl) (by simp) ?_
  refine AllReadyH.cons (o := ⟨some 69, _, _, _, _, _⟩) rfl (fun K hK => ?_) AllReadyH.nil
  go_simp
  go_at_call 20
  with_reducible refine (less_any a b a b _ ha hb ha hb).mono ?_
  rw [KS.out]
  rintro e_r x2 ⟨rfl, hbn⟩
  (first | (with_reducible replace A := A.below hbn) | replace A := A.drew.below hbn)
  (first | (with_reducible replace B := B.below hbn) | replace B := B.drew.below hbn)
  (first | (with_reducible replace M := M.below hbn) | replace M := M.drew.below hbn)
  replace hbx := bel_on (show Below w.heap.size w _ by (repeat' (first | with_reducible exact Below.refl _ _ | with_reducible assumption | with_reducible refine bel_alloc ?_ _ | with_reducible refine bel_set ?_ ?_ _ | with_reducible refine below_drewN ?_ _ | with_reducible refine below_drew ?_ | (simp; done) | (simp; omega) | omega))) hbn
  clear hbn
  obtain ⟨A0, A1, -, -⟩ := A.two
  obtain ⟨B0, B1, -, -⟩ := B.two
  obtain ⟨M0, M1, -, -⟩ := M.two
  go_wp2_with fail
  refine hK.out _ _ ?_ (fun hHeld => ?_)
  · go_keep
  clear hK K
  (try simp only [Act.put, List.setIfInBounds_toArray, List.set_cons_zero, List.set_cons_succ])
  refine wpAnyH_take (i := 15) (oi := ⟨some 70, _, _, _, _, _⟩) (v := ?_) rfl (by kernel_rfl) (by kernel_rfl) (by kernel_rfl) (fun _ _ _ h => h) (Or.inl ⟨by rfl, ?_⟩) (by assumption) ?_
  rotate_left
  · intro ww hSw
    (try dsimp only at hSw)
    go_simp
    (try with_reducible rfl)
  simp only [Act.put, List.setIfInBounds_toArray, List.set_cons_zero, List.set_cons_succ]
  refine wpAnyH_take (i := 16) (oi := ⟨some 71, _, _, _, _, _⟩) (v := ?_) rfl (by kernel_rfl) (by kernel_rfl) (by kernel_rfl) (fun _ _ _ h => h) (Or.inl ⟨by rfl, ?_⟩) (by assumption) ?_
  rotate_left
  · intro ww hSw
    (try dsimp only at hSw)
    go_simp
    (try with_reducible rfl)
  simp only [Act.put, List.setIfInBounds_toArray, List.set_cons_zero, List.set_cons_succ]
  refine wpAnyH_take (i := 17) (oi := ⟨some 72, _, _, _, _, _⟩) (v := ?_) rfl (by kernel_rfl) (by kernel_rfl) (by kernel_rfl) (fun _ _ _ h => h) (Or.inl ⟨by rfl, ?_⟩) (by assumption) ?_
  rotate_left
  · intro ww hSw
    (try dsimp only at hSw)
    go_simp
    (try with_reducible rfl)
  simp only [Act.put, List.setIfInBounds_toArray, List.set_cons_zero, List.set_cons_succ]
  refine wpAnyH_take (i := 18) (oi := ⟨some 73, _, _, _, _, _⟩) (v := ?_) rfl (by kernel_rfl) (by kernel_rfl) (by kernel_rfl) (fun _ _ _ h => h) (Or.inl ⟨by rfl, ?_⟩) (by assumption) ?_
  rotate_left
  · intro ww hSw
    (try dsimp only at hSw)
    go_simp
    (try with_reducible rfl)
  simp only [Act.put, List.setIfInBounds_toArray, List.set_cons_zero, List.set_cons_succ]
  refine wpAnyH_take (i := 19) (oi := ⟨some 74, _, _, _, _, _⟩) (v := ?_) rfl (by kernel_rfl) (by kernel_rfl) (by kernel_rfl) (fun _ _ _ h => h) (Or.inl ⟨by rfl, ?_⟩) (by assumption) ?_
  rotate_left
  · intro ww hSw
    (try dsimp only at hSw)
    go_simp
    (try with_reducible rfl)
  simp only [Act.put, List.setIfInBounds_toArray, List.set_cons_zero, List.set_cons_succ]
  refine wpAnyH_take (i := 20) (oi := ⟨some 75, _, _, _, _, _⟩) (v := ?_) rfl (by kernel_rfl) (by kernel_rfl) (by kernel_rfl) (fun _ _ _ h => h) (Or.inl ⟨by rfl, ?_⟩) (by assumption) ?_
  rotate_left
  · intro ww hSw
    (try dsimp only at hSw)
    go_simp
    (try with_reducible rfl)
  simp only [Act.put, List.setIfInBounds_toArray, List.set_cons_zero, List.set_cons_succ]
  refine wpAnyH_take (i := 21) (oi := ⟨some 76, _, _, _, _, _⟩) (v := undef) rfl (by kernel_rfl) (by kernel_rfl) (by kernel_rfl) (fun _ _ _ h => h) (Or.inr ⟨by rfl, rfl⟩) (by assumption) ?_
  simp only [Act.put, List.setIfInBounds_toArray, List.set_cons_zero, List.set_cons_succ]
  refine wpAnyH_take (i := 22) (oi := ⟨some 77, _, _, _, _, _⟩) (v := undef) rfl (by kernel_rfl) (by kernel_rfl) (by kernel_rfl) (fun _ _ _ h => h) (Or.inr ⟨by rfl, rfl⟩) (by assumption) ?_
  simp only [Act.put, List.setIfInBounds_toArray, List.set_cons_zero, List.set_cons_succ]
  refine wpAnyH_take (i := 23) (oi := ⟨some 78, _, _, _, _, _⟩) (v := undef) rfl (by kernel_rfl) (by kernel_rfl) (by kernel_rfl) (fun _ _ _ h => h) (Or.inr ⟨by rfl, rfl⟩) (by assumption) ?_
  simp only [Act.put, List.setIfInBounds_toArray, List.set_cons_zero, List.set_cons_succ]
  refine wpAnyH_take (i := 24) (oi := ⟨some 79, _, _, _, _, _⟩) (v := undef) rfl (by kernel_rfl) (by kernel_rfl) (by kernel_rfl) (fun _ _ _ h => h) (Or.inr ⟨by rfl, rfl⟩) (by assumption) ?_
  simp only [Act.put, List.setIfInBounds_toArray, List.set_cons_zero, List.set_cons_succ]
  refine wpAnyH_take (i := 25) (oi := ⟨some 80, _, _, _, _, _⟩) (v := undef) rfl (by kernel_rfl) (by kernel_rfl) (by kernel_rfl) (fun _ _ _ h => h) (Or.inr ⟨by rfl, rfl⟩) (by assumption) ?_
  simp only [Act.put, List.setIfInBounds_toArray, List.set_cons_zero, List.set_cons_succ]
  refine wpAnyH_take (i := 26) (oi := ⟨some 81, _, _, _, _, _⟩) (v := undef) rfl (by kernel_rfl) (by kernel_rfl) (by kernel_rfl) (fun _ _ _ h => h) (Or.inr ⟨by rfl, rfl⟩) (by assumption) ?_
  simp only [Act.put, List.setIfInBounds_toArray, List.set_cons_zero, List.set_cons_succ]
  refine wpAnyH_take (i := 27) (oi := ⟨some 82, _, _, _, _, _⟩) (v := undef) rfl (by kernel_rfl) (by kernel_rfl) (by kernel_rfl) (fun _ _ _ h => h) (Or.inr ⟨by rfl, rfl⟩) (by assumption) ?_
  simp only [Act.put, List.setIfInBounds_toArray, List.set_cons_zero, List.set_cons_succ]
  refine wpAnyH_take (i := 28) (oi := ⟨some 83, _, _, _, _, _⟩) (v := ?_) rfl (by kernel_rfl) (by kernel_rfl) (by kernel_rfl) (fun _ _ _ h => h) (Or.inl ⟨by rfl, ?_⟩) (by assumption) ?_
  rotate_left
  · intro ww hSw
    (try dsimp only at hSw)
    go_simp
    (try with_reducible rfl)
  simp only [Act.put, List.setIfInBounds_toArray, List.set_cons_zero, List.set_cons_succ]
  refine wpAnyH_take (i := 29) (oi := ⟨some 84, _, _, _, _, _⟩) (v := ?_) rfl (by kernel_rfl) (by kernel_rfl) (by kernel_rfl) (fun _ _ _ h => h) (Or.inl ⟨by rfl, ?_⟩) (by assumption) ?_
  rotate_left
  · intro ww hSw
    (try dsimp only at hSw)
    go_simp
    (try with_reducible rfl)
  simp only [Act.put, List.setIfInBounds_toArray, List.set_cons_zero, List.set_cons_succ]
  refine wpAnyH_take (i := 30) (oi := ⟨some 6, _, _, _, _, _⟩) (v := ?_) rfl (by kernel_rfl) (by kernel_rfl) (by kernel_rfl) (fun _ _ _ h => h) (Or.inl ⟨by rfl, ?_⟩) (by assumption) ?_
  rotate_left
  · intro ww hSw
    (try dsimp only at hSw)
    go_simp
    (try with_reducible rfl)
  simp only [Act.put, List.setIfInBounds_toArray, List.set_cons_zero, List.set_cons_succ]
  refine wpAnyH_done (by kernel_rfl) ?_ _
  refine NoPanic.normal ?_
  go_wp2
  go_ret
  exact ⟨rfl, hbx⟩

set_option maxRecDepth 100000 in
set_option maxHeartbeats 4000000 in
theorem ratioOrder_2r1 (a b d e f : Int) (w : World) (ha : -9223372036854775808 ≤ a ∧ a ≤ 9223372036854775807) (hb : -9223372036854775808 ≤ b ∧ b ≤ 9223372036854775807) (hd : -9223372036854775808 ≤ d ∧ d ≤ 9223372036854775807) (he : -9223372036854775808 ≤ e ∧ e ≤ 9223372036854775807) (hf : -9223372036854775808 ≤ f ∧ f ≤ 9223372036854775807) (ma : mayB a b = true) (mb : mayB a d = true) (mc : mayB e f = true) (kP : lessB a b a d = false) (kQ : lessB a d a b = true) (hne : (b == d) = false) (kM : (minusR a b a d).c = 0) :
    Calls Try.prog 6 #[.agg #[.int .i64 a, .int .i64 b], .agg #[.int .i64 a, .int .i64 d], .agg #[.int .i64 e, .int .i64 f]] w fun r w' => r = .returned (.bool true) ∧ Below w.heap.size w w' := by
  have Hma := Lib.hid ma
  have Hmb := Lib.hid mb
  have Hmc := Lib.hid mc
  have HkP := Lib.hid kP
  have HkQ := Lib.hid kQ
  have KS := Lib.hid (less_self a b)
  have SG := Lib.hid (less_sign ma mb kM)
  have HkM := Lib.hid kM
  clear kM ma mb mc kP kQ
  have hc := ha
  go_enter Try.func6, Try.ntmps6
  go_wp2_with fail
  refine (awake2 _).mono ?_
  rintro e w1 ⟨rfl, hb1⟩
  have A : Has w1 w.heap.size #[.int .i64 a, .int .i64 b] := Has.below (by (repeat' (first | with_reducible assumption | ((with_reducible refine Has.new _ _ _ ?_); (first | (with_reducible rfl) | (simp; done))) | with_reducible refine Has.alloc ?_ _ | with_reducible refine Has.drewN ?_ _ | with_reducible refine Has.drew ?_))) hb1
  have B : Has w1 (w.heap.size + 1) #[.int .i64 a, .int .i64 d] := Has.below (by (repeat' (first | with_reducible assumption | ((with_reducible refine Has.new _ _ _ ?_); (first | (with_reducible rfl) | (simp; done))) | with_reducible refine Has.alloc ?_ _ | with_reducible refine Has.drewN ?_ _ | with_reducible refine Has.drew ?_))) hb1
  have C : Has w1 (w.heap.size + 1 + 1) #[.int .i64 e, .int .i64 f] := Has.below (by (repeat' (first | with_reducible assumption | ((with_reducible refine Has.new _ _ _ ?_); (first | (with_reducible rfl) | (simp; done))) | with_reducible refine Has.alloc ?_ _ | with_reducible refine Has.drewN ?_ _ | with_reducible refine Has.drew ?_))) hb1
  replace hb1 := bel_on (show Below w.heap.size w _ by (repeat' (first | with_reducible exact Below.refl _ _ | with_reducible assumption | with_reducible refine bel_alloc ?_ _ | with_reducible refine bel_set ?_ ?_ _ | with_reducible refine below_drewN ?_ _ | with_reducible refine below_drew ?_ | (simp; done) | (simp; omega) | omega))) hb1
  obtain ⟨A0, A1, -, -⟩ := A.two
  have Az := A.size
  obtain ⟨B0, B1, -, -⟩ := B.two
  have Bz := B.size
  obtain ⟨C0, C1, -, -⟩ := C.two
  have Cz := C.size
  go_wp2_with fail
  refine (check_any a b _ ha.1 ha.2 hb.1 hb.2).mono ?_
  rw [Hma.out]
  rintro e_2 w2 ⟨rfl, hb2⟩
  replace A := (A).below hb2
  replace B := (B).below hb2
  replace C := (C).below hb2
  replace hb2 := bel_on (hb1) hb2
  clear hb1 A0 A1 Az B0 B1 Bz C0 C1 Cz
  obtain ⟨A0, A1, -, -⟩ := A.two
  have Az := A.size
  obtain ⟨B0, B1, -, -⟩ := B.two
  have Bz := B.size
  obtain ⟨C0, C1, -, -⟩ := C.two
  have Cz := C.size
  go_wp2_with fail
  refine (check_any a d _ ha.1 ha.2 hd.1 hd.2).mono ?_
  rw [Hmb.out]
  rintro e_3 w3 ⟨rfl, hb3⟩
  replace A := (A).below hb3
  replace B := (B).below hb3
  replace C := (C).below hb3
  replace hb3 := bel_on (hb2) hb3
  clear hb2 A0 A1 Az B0 B1 Bz C0 C1 Cz
  obtain ⟨A0, A1, -, -⟩ := A.two
  have Az := A.size
  obtain ⟨B0, B1, -, -⟩ := B.two
  have Bz := B.size
  obtain ⟨C0, C1, -, -⟩ := C.two
  have Cz := C.size
  go_wp2_with fail
  refine (check_any e f _ he.1 he.2 hf.1 hf.2).mono ?_
  rw [Hmc.out]
  rintro e_4 w4 ⟨rfl, hb4⟩
  replace A := (A).below hb4
  replace B := (B).below hb4
  replace C := (C).below hb4
  replace hb4 := bel_on (hb3) hb4
  clear hb3 A0 A1 Az B0 B1 Bz C0 C1 Cz
  obtain ⟨A0, A1, -, -⟩ := A.two
  have Az := A.size
  obtain ⟨B0, B1, -, -⟩ := B.two
  have Bz := B.size
  go_wp2
  have hbx1 := hb4
  clear hb4
  first | (go_region_held3 (fun w' => w'.cell? ⟨w.heap.size, 0, none⟩ = some (.int .i64 a) ∧ w'.cell? ⟨w.heap.size, 1, none⟩ = some (.int .i64 b) ∧ w'.cell? ⟨w.heap.size + 1, 0, none⟩ = some (.int .i64 a) ∧ w'.cell? ⟨w.heap.size + 1, 1, none⟩ = some (.int .i64 d)) (go_keep) (first | (go_at_call 20; (with_reducible refine (less_any a b a d _ ha hb ha hd).mono ?_); rw [HkP.out]; rintro e_r x1 ⟨rfl, hbn⟩; (first | (with_reducible replace A := A.below hbn) | replace A := A.drew.below hbn | replace A := (A.alloc _).drew.below hbn); (first | (with_reducible replace B := B.below hbn) | replace B := B.drew.below hbn | replace B := (B.alloc _).drew.below hbn); (first | (with_reducible replace C := C.below hbn) | replace C := C.drew.below hbn | replace C := (C.alloc _).drew.below hbn); replace hbx1 := bel_on (show Below w.heap.size w _ by (repeat' (first | with_reducible exact Below.refl _ _ | with_reducible assumption | with_reducible refine bel_alloc ?_ _ | with_reducible refine bel_set ?_ ?_ _ | with_reducible refine below_drewN ?_ _ | with_reducible refine below_drew ?_ | (simp; done) | (simp; omega) | omega))) hbn; clear hbn; obtain ⟨A0, A1, -, -⟩ := A.two; obtain ⟨B0, B1, -, -⟩ := B.two; obtain ⟨C0, C1, -, -⟩ := C.two) | (go_at_call 20; (with_reducible refine (less_any a d a b _ ha hd ha hb).mono ?_); rw [HkQ.out]; rintro e_r x1 ⟨rfl, hbn⟩; (first | (with_reducible replace A := A.below hbn) | replace A := A.drew.below hbn | replace A := (A.alloc _).drew.below hbn); (first | (with_reducible replace B := B.below hbn) | replace B := B.drew.below hbn | replace B := (B.alloc _).drew.below hbn); (first | (with_reducible replace C := C.below hbn) | replace C := C.drew.below hbn | replace C := (C.alloc _).drew.below hbn); replace hbx1 := bel_on (show Below w.heap.size w _ by (repeat' (first | with_reducible exact Below.refl _ _ | with_reducible assumption | with_reducible refine bel_alloc ?_ _ | with_reducible refine bel_set ?_ ?_ _ | with_reducible refine below_drewN ?_ _ | with_reducible refine below_drew ?_ | (simp; done) | (simp; omega) | omega))) hbn; clear hbn; obtain ⟨A0, A1, -, -⟩ := A.two; obtain ⟨B0, B1, -, -⟩ := B.two; obtain ⟨C0, C1, -, -⟩ := C.two))) | fail
  obtain ⟨A0, A1, -, -⟩ := A.two
  have Az := A.size
  obtain ⟨B0, B1, -, -⟩ := B.two
  have Bz := B.size
  obtain ⟨C0, C1, -, -⟩ := C.two
  have Cz := C.size
  go_wp2_with fail
  refine (less_any a b a d _ ha hb ha hd).mono ?_
  rw [HkP.out]
  rintro e_5 w5 ⟨rfl, hb5⟩
  replace A := (A).below hb5
  replace B := (B).below hb5
  replace C := (C).below hb5
  replace hb5 := bel_on (hbx1) hb5
  clear hbx1 A0 A1 Az B0 B1 Bz C0 C1 Cz
  obtain ⟨A0, A1, -, -⟩ := A.two
  have Az := A.size
  obtain ⟨B0, B1, -, -⟩ := B.two
  have Bz := B.size
  obtain ⟨C0, C1, -, -⟩ := C.two
  have Cz := C.size
  go_wp2_with fail
  refine (qminus_any a b a d _ ha hb ha hd).mono ?_
  rw [HkM.out]
  rintro e_6 w6 ⟨rfl, hb6⟩
  replace A := (A).below hb6
  replace B := (B).below hb6
  replace C := (C).below hb6
  replace hb6 := bel_on (hb5) hb6
  clear hb5 A0 A1 Az B0 B1 Bz C0 C1 Cz
  have sg := SG.out
  rw [HkP.out] at sg
  have sg' : 0 ≤ (minusR a b a d).n := Int.not_lt.1 (of_decide_eq_false sg)
  obtain ⟨A0, A1, -, -⟩ := A.two
  have Az := A.size
  obtain ⟨B0, B1, -, -⟩ := B.two
  have Bz := B.size
  have M := Has.new w6 24 #[.int .i64 (minusR a b a d).n, .int .i64 (minusR a b a d).d] rfl
  replace A := A.alloc (.cells #[.int .i64 (minusR a b a d).n, .int .i64 (minusR a b a d).d] 24)
  replace B := B.alloc (.cells #[.int .i64 (minusR a b a d).n, .int .i64 (minusR a b a d).d] 24)
  obtain ⟨M0, M1, -, -⟩ := M.two
  obtain ⟨A2, A3, -, -⟩ := A.two
  obtain ⟨B2, B3, -, -⟩ := B.two
  replace hb6 := bel_alloc hb6 (.cells #[.int .i64 (minusR a b a d).n, .int .i64 (minusR a b a d).d] 24)
  go_wp2
  have hbx2 := hb6
  clear hb6
  first | (go_region_held3 (fun w' => w'.cell? ⟨w.heap.size, 0, none⟩ = some (.int .i64 a) ∧ w'.cell? ⟨w.heap.size, 1, none⟩ = some (.int .i64 b) ∧ w'.cell? ⟨w.heap.size + 1, 0, none⟩ = some (.int .i64 a) ∧ w'.cell? ⟨w.heap.size + 1, 1, none⟩ = some (.int .i64 d) ∧ w'.cell? ⟨w6.heap.size, 0, none⟩ = some (.int .i64 (minusR a b a d).n) ∧ w'.cell? ⟨w6.heap.size, 1, none⟩ = some (.int .i64 (minusR a b a d).d)) (go_keep) (first | (go_at_call 20; (with_reducible refine (less_any a b a b _ ha hb ha hb).mono ?_); rw [KS.out]; rintro e_r x2 ⟨rfl, hbn⟩; (first | (with_reducible replace A := A.below hbn) | replace A := A.drew.below hbn | replace A := (A.alloc _).drew.below hbn); (first | (with_reducible replace B := B.below hbn) | replace B := B.drew.below hbn | replace B := (B.alloc _).drew.below hbn); (first | (with_reducible replace M := M.below hbn) | replace M := M.drew.below hbn | replace M := (M.alloc _).drew.below hbn); replace hbx2 := bel_on (show Below w.heap.size w _ by (repeat' (first | with_reducible exact Below.refl _ _ | with_reducible assumption | with_reducible refine bel_alloc ?_ _ | with_reducible refine bel_set ?_ ?_ _ | with_reducible refine below_drewN ?_ _ | with_reducible refine below_drew ?_ | (simp; done) | (simp; omega) | omega))) hbn; clear hbn; obtain ⟨A0, A1, -, -⟩ := A.two; obtain ⟨B0, B1, -, -⟩ := B.two; obtain ⟨M0, M1, -, -⟩ := M.two) | (go_at_call 20; (with_reducible refine (less_any a b a d _ ha hb ha hd).mono ?_); rw [HkP.out]; rintro e_r x2 ⟨rfl, hbn⟩; (first | (with_reducible replace A := A.below hbn) | replace A := A.drew.below hbn | replace A := (A.alloc _).drew.below hbn); (first | (with_reducible replace B := B.below hbn) | replace B := B.drew.below hbn | replace B := (B.alloc _).drew.below hbn); (first | (with_reducible replace M := M.below hbn) | replace M := M.drew.below hbn | replace M := (M.alloc _).drew.below hbn); replace hbx2 := bel_on (show Below w.heap.size w _ by (repeat' (first | with_reducible exact Below.refl _ _ | with_reducible assumption | with_reducible refine bel_alloc ?_ _ | with_reducible refine bel_set ?_ ?_ _ | with_reducible refine below_drewN ?_ _ | with_reducible refine below_drew ?_ | (simp; done) | (simp; omega) | omega))) hbn; clear hbn; obtain ⟨A0, A1, -, -⟩ := A.two; obtain ⟨B0, B1, -, -⟩ := B.two; obtain ⟨M0, M1, -, -⟩ := M.two))) | fail
  go_wp2
  go_ret
  exact ⟨rfl, hbx2⟩

set_option maxRecDepth 100000 in
set_option maxHeartbeats 4000000 in
theorem ratioOrder_2r0 (a b d e f : Int) (w : World) (ha : -9223372036854775808 ≤ a ∧ a ≤ 9223372036854775807) (hb : -9223372036854775808 ≤ b ∧ b ≤ 9223372036854775807) (hd : -9223372036854775808 ≤ d ∧ d ≤ 9223372036854775807) (he : -9223372036854775808 ≤ e ∧ e ≤ 9223372036854775807) (hf : -9223372036854775808 ≤ f ∧ f ≤ 9223372036854775807) (ma : mayB a b = true) (mb : mayB a d = true) (mc : mayB e f = true) (kP : lessB a b a d = false) (kQ : lessB a d a b = true) (hne : (b == d) = false) (kM : (minusR a b a d).c = 10) :
    Calls Try.prog 6 #[.agg #[.int .i64 a, .int .i64 b], .agg #[.int .i64 a, .int .i64 d], .agg #[.int .i64 e, .int .i64 f]] w fun r w' => r = .returned (.bool true) ∧ Below w.heap.size w w' := by
  have Hma := Lib.hid ma
  have Hmb := Lib.hid mb
  have Hmc := Lib.hid mc
  have HkP := Lib.hid kP
  have HkQ := Lib.hid kQ
  have KS := Lib.hid (less_self a b)
  have HkM := Lib.hid kM
  clear kM ma mb mc kP kQ
  have hc := ha
  go_enter Try.func6, Try.ntmps6
  go_wp2_with fail
  refine (awake2 _).mono ?_
  rintro e w1 ⟨rfl, hb1⟩
  have A : Has w1 w.heap.size #[.int .i64 a, .int .i64 b] := Has.below (by (repeat' (first | with_reducible assumption | ((with_reducible refine Has.new _ _ _ ?_); (first | (with_reducible rfl) | (simp; done))) | with_reducible refine Has.alloc ?_ _ | with_reducible refine Has.drewN ?_ _ | with_reducible refine Has.drew ?_))) hb1
  have B : Has w1 (w.heap.size + 1) #[.int .i64 a, .int .i64 d] := Has.below (by (repeat' (first | with_reducible assumption | ((with_reducible refine Has.new _ _ _ ?_); (first | (with_reducible rfl) | (simp; done))) | with_reducible refine Has.alloc ?_ _ | with_reducible refine Has.drewN ?_ _ | with_reducible refine Has.drew ?_))) hb1
  have C : Has w1 (w.heap.size + 1 + 1) #[.int .i64 e, .int .i64 f] := Has.below (by (repeat' (first | with_reducible assumption | ((with_reducible refine Has.new _ _ _ ?_); (first | (with_reducible rfl) | (simp; done))) | with_reducible refine Has.alloc ?_ _ | with_reducible refine Has.drewN ?_ _ | with_reducible refine Has.drew ?_))) hb1
  replace hb1 := bel_on (show Below w.heap.size w _ by (repeat' (first | with_reducible exact Below.refl _ _ | with_reducible assumption | with_reducible refine bel_alloc ?_ _ | with_reducible refine bel_set ?_ ?_ _ | with_reducible refine below_drewN ?_ _ | with_reducible refine below_drew ?_ | (simp; done) | (simp; omega) | omega))) hb1
  obtain ⟨A0, A1, -, -⟩ := A.two
  have Az := A.size
  obtain ⟨B0, B1, -, -⟩ := B.two
  have Bz := B.size
  obtain ⟨C0, C1, -, -⟩ := C.two
  have Cz := C.size
  go_wp2_with fail
  refine (check_any a b _ ha.1 ha.2 hb.1 hb.2).mono ?_
  rw [Hma.out]
  rintro e_2 w2 ⟨rfl, hb2⟩
  replace A := (A).below hb2
  replace B := (B).below hb2
  replace C := (C).below hb2
  replace hb2 := bel_on (hb1) hb2
  clear hb1 A0 A1 Az B0 B1 Bz C0 C1 Cz
  obtain ⟨A0, A1, -, -⟩ := A.two
  have Az := A.size
  obtain ⟨B0, B1, -, -⟩ := B.two
  have Bz := B.size
  obtain ⟨C0, C1, -, -⟩ := C.two
  have Cz := C.size
  go_wp2_with fail
  refine (check_any a d _ ha.1 ha.2 hd.1 hd.2).mono ?_
  rw [Hmb.out]
  rintro e_3 w3 ⟨rfl, hb3⟩
  replace A := (A).below hb3
  replace B := (B).below hb3
  replace C := (C).below hb3
  replace hb3 := bel_on (hb2) hb3
  clear hb2 A0 A1 Az B0 B1 Bz C0 C1 Cz
  obtain ⟨A0, A1, -, -⟩ := A.two
  have Az := A.size
  obtain ⟨B0, B1, -, -⟩ := B.two
  have Bz := B.size
  obtain ⟨C0, C1, -, -⟩ := C.two
  have Cz := C.size
  go_wp2_with fail
  refine (check_any e f _ he.1 he.2 hf.1 hf.2).mono ?_
  rw [Hmc.out]
  rintro e_4 w4 ⟨rfl, hb4⟩
  replace A := (A).below hb4
  replace B := (B).below hb4
  replace C := (C).below hb4
  replace hb4 := bel_on (hb3) hb4
  clear hb3 A0 A1 Az B0 B1 Bz C0 C1 Cz
  obtain ⟨A0, A1, -, -⟩ := A.two
  have Az := A.size
  obtain ⟨B0, B1, -, -⟩ := B.two
  have Bz := B.size
  go_wp2
  have hbx1 := hb4
  clear hb4
  first | (go_region_held3 (fun w' => w'.cell? ⟨w.heap.size, 0, none⟩ = some (.int .i64 a) ∧ w'.cell? ⟨w.heap.size, 1, none⟩ = some (.int .i64 b) ∧ w'.cell? ⟨w.heap.size + 1, 0, none⟩ = some (.int .i64 a) ∧ w'.cell? ⟨w.heap.size + 1, 1, none⟩ = some (.int .i64 d)) (go_keep) (first | (go_at_call 20; (with_reducible refine (less_any a b a d _ ha hb ha hd).mono ?_); rw [HkP.out]; rintro e_r x1 ⟨rfl, hbn⟩; (first | (with_reducible replace A := A.below hbn) | replace A := A.drew.below hbn | replace A := (A.alloc _).drew.below hbn); (first | (with_reducible replace B := B.below hbn) | replace B := B.drew.below hbn | replace B := (B.alloc _).drew.below hbn); (first | (with_reducible replace C := C.below hbn) | replace C := C.drew.below hbn | replace C := (C.alloc _).drew.below hbn); replace hbx1 := bel_on (show Below w.heap.size w _ by (repeat' (first | with_reducible exact Below.refl _ _ | with_reducible assumption | with_reducible refine bel_alloc ?_ _ | with_reducible refine bel_set ?_ ?_ _ | with_reducible refine below_drewN ?_ _ | with_reducible refine below_drew ?_ | (simp; done) | (simp; omega) | omega))) hbn; clear hbn; obtain ⟨A0, A1, -, -⟩ := A.two; obtain ⟨B0, B1, -, -⟩ := B.two; obtain ⟨C0, C1, -, -⟩ := C.two) | (go_at_call 20; (with_reducible refine (less_any a d a b _ ha hd ha hb).mono ?_); rw [HkQ.out]; rintro e_r x1 ⟨rfl, hbn⟩; (first | (with_reducible replace A := A.below hbn) | replace A := A.drew.below hbn | replace A := (A.alloc _).drew.below hbn); (first | (with_reducible replace B := B.below hbn) | replace B := B.drew.below hbn | replace B := (B.alloc _).drew.below hbn); (first | (with_reducible replace C := C.below hbn) | replace C := C.drew.below hbn | replace C := (C.alloc _).drew.below hbn); replace hbx1 := bel_on (show Below w.heap.size w _ by (repeat' (first | with_reducible exact Below.refl _ _ | with_reducible assumption | with_reducible refine bel_alloc ?_ _ | with_reducible refine bel_set ?_ ?_ _ | with_reducible refine below_drewN ?_ _ | with_reducible refine below_drew ?_ | (simp; done) | (simp; omega) | omega))) hbn; clear hbn; obtain ⟨A0, A1, -, -⟩ := A.two; obtain ⟨B0, B1, -, -⟩ := B.two; obtain ⟨C0, C1, -, -⟩ := C.two))) | fail
  obtain ⟨A0, A1, -, -⟩ := A.two
  have Az := A.size
  obtain ⟨B0, B1, -, -⟩ := B.two
  have Bz := B.size
  obtain ⟨C0, C1, -, -⟩ := C.two
  have Cz := C.size
  go_wp2_with fail
  refine (less_any a b a d _ ha hb ha hd).mono ?_
  rw [HkP.out]
  rintro e_5 w5 ⟨rfl, hb5⟩
  replace A := (A).below hb5
  replace B := (B).below hb5
  replace C := (C).below hb5
  replace hb5 := bel_on (hbx1) hb5
  clear hbx1 A0 A1 Az B0 B1 Bz C0 C1 Cz
  obtain ⟨A0, A1, -, -⟩ := A.two
  have Az := A.size
  obtain ⟨B0, B1, -, -⟩ := B.two
  have Bz := B.size
  obtain ⟨C0, C1, -, -⟩ := C.two
  have Cz := C.size
  go_wp2_with fail
  refine (qminus_any a b a d _ ha hb ha hd).mono ?_
  rw [HkM.out]
  rintro e_6 w6 ⟨rfl, hb6⟩
  replace A := (A).below hb6
  replace B := (B).below hb6
  replace C := (C).below hb6
  replace hb6 := bel_on (hb5) hb6
  clear hb5 A0 A1 Az B0 B1 Bz C0 C1 Cz
  obtain ⟨A0, A1, -, -⟩ := A.two
  have Az := A.size
  obtain ⟨B0, B1, -, -⟩ := B.two
  have Bz := B.size
  have M := Has.new w6 24 #[.int .i64 (minusR a b a d).n, .int .i64 (minusR a b a d).d] rfl
  replace A := A.alloc (.cells #[.int .i64 (minusR a b a d).n, .int .i64 (minusR a b a d).d] 24)
  replace B := B.alloc (.cells #[.int .i64 (minusR a b a d).n, .int .i64 (minusR a b a d).d] 24)
  obtain ⟨M0, M1, -, -⟩ := M.two
  obtain ⟨A2, A3, -, -⟩ := A.two
  obtain ⟨B2, B3, -, -⟩ := B.two
  replace hb6 := bel_alloc hb6 (.cells #[.int .i64 (minusR a b a d).n, .int .i64 (minusR a b a d).d] 24)
  go_wp2
  refine wp_region_noPanic ?_
  refine wp_region_held_drew (S := (fun w' => w'.cell? ⟨w.heap.size, 0, none⟩ = some (.int .i64 a) ∧ w'.cell? ⟨w.heap.size, 1, none⟩ = some (.int .i64 b) ∧ w'.cell? ⟨w.heap.size + 1, 0, none⟩ = some (.int .i64 a) ∧ w'.cell? ⟨w.heap.size + 1, 1, none⟩ = some (.int .i64 d) ∧ w'.cell? ⟨w6.heap.size, 0, none⟩ = some (.int .i64 (minusR a b a d).n) ∧ w'.cell? ⟨w6.heap.size, 1, none⟩ = some (.int .i64 (minusR a b a d).d))) (by kernel_rfl) ?_ (fun hHeld => ?_)
  · go_keep
  refine wpAnyH_take (i := 0) (oi := ⟨some 55, _, _, _, _, _⟩) (v := ?_) rfl (by kernel_rfl) (by kernel_rfl) (by kernel_rfl) (fun _ _ _ h => h) (Or.inl ⟨by rfl, ?_⟩) (by assumption) ?_
  rotate_left
  · intro ww hSw
    (try dsimp only at hSw)
    go_simp
    (try with_reducible rfl)
  simp only [Act.put, List.setIfInBounds_toArray, List.set_cons_zero, List.set_cons_succ]
  refine wpAnyH_take (i := 1) (oi := ⟨some 56, _, _, _, _, _⟩) (v := ?_) rfl (by kernel_rfl) (by kernel_rfl) (by kernel_rfl) (fun _ _ _ h => h) (Or.inl ⟨by rfl, ?_⟩) (by assumption) ?_
  rotate_left
  · intro ww hSw
    (try dsimp only at hSw)
    go_simp
    (try with_reducible rfl)
  simp only [Act.put, List.setIfInBounds_toArray, List.set_cons_zero, List.set_cons_succ]
  refine wpAnyH_take (i := 2) (oi := ⟨some 57, _, _, _, _, _⟩) (v := ?_) rfl (by kernel_rfl) (by kernel_rfl) (by kernel_rfl) (fun _ _ _ h => h) (Or.inl ⟨by rfl, ?_⟩) (by assumption) ?_
  rotate_left
  · intro ww hSw
    (try dsimp only at hSw)
    go_simp
    (try with_reducible rfl)
  simp only [Act.put, List.setIfInBounds_toArray, List.set_cons_zero, List.set_cons_succ]
  refine wpAnyH_take (i := 3) (oi := ⟨some 58, _, _, _, _, _⟩) (v := ?_) rfl (by kernel_rfl) (by kernel_rfl) (by kernel_rfl) (fun _ _ _ h => h) (Or.inl ⟨by rfl, ?_⟩) (by assumption) ?_
  rotate_left
  · intro ww hSw
    (try dsimp only at hSw)
    go_simp
    (try with_reducible rfl)
  simp only [Act.put, List.setIfInBounds_toArray, List.set_cons_zero, List.set_cons_succ]
  refine wpAnyH_take (i := 4) (oi := ⟨some 59, _, _, _, _, _⟩) (v := ?_) rfl (by kernel_rfl) (by kernel_rfl) (by kernel_rfl) (fun _ _ _ h => h) (Or.inl ⟨by rfl, ?_⟩) (by assumption) ?_
  rotate_left
  · intro ww hSw
    (try dsimp only at hSw)
    go_simp
    (try with_reducible rfl)
  simp only [Act.put, List.setIfInBounds_toArray, List.set_cons_zero, List.set_cons_succ]
  refine wpAnyH_take (i := 5) (oi := ⟨some 60, _, _, _, _, _⟩) (v := ?_) rfl (by kernel_rfl) (by kernel_rfl) (by kernel_rfl) (fun _ _ _ h => h) (Or.inl ⟨by rfl, ?_⟩) (by assumption) ?_
  rotate_left
  · intro ww hSw
    (try dsimp only at hSw)
    go_simp
    (try with_reducible rfl)
  simp only [Act.put, List.setIfInBounds_toArray, List.set_cons_zero, List.set_cons_succ]
  refine wpAnyH_take (i := 6) (oi := ⟨some 61, _, _, _, _, _⟩) (v := ?_) rfl (by kernel_rfl) (by kernel_rfl) (by kernel_rfl) (fun _ _ _ h => h) (Or.inl ⟨by rfl, ?_⟩) (by assumption) ?_
  rotate_left
  · intro ww hSw
    (try dsimp only at hSw)
    go_simp
    (try with_reducible rfl)
  simp only [Act.put, List.setIfInBounds_toArray, List.set_cons_zero, List.set_cons_succ]
  refine wpAnyH_take (i := 7) (oi := ⟨some 62, _, _, _, _, _⟩) (v := ?_) rfl (by kernel_rfl) (by kernel_rfl) (by kernel_rfl) (fun _ _ _ h => h) (Or.inl ⟨by rfl, ?_⟩) (by assumption) ?_
  rotate_left
  · intro ww hSw
    (try dsimp only at hSw)
    go_simp
    (try with_reducible rfl)
  simp only [Act.put, List.setIfInBounds_toArray, List.set_cons_zero, List.set_cons_succ]
  refine wpAnyH_take (i := 8) (oi := ⟨some 63, _, _, _, _, _⟩) (v := ?_) rfl (by kernel_rfl) (by kernel_rfl) (by kernel_rfl) (fun _ _ _ h => h) (Or.inl ⟨by rfl, ?_⟩) (by assumption) ?_
  rotate_left
  · intro ww hSw
    (try dsimp only at hSw)
    go_simp
    (try with_reducible rfl)
  simp only [Act.put, List.setIfInBounds_toArray, List.set_cons_zero, List.set_cons_succ]
  refine wpAnyH_take (i := 9) (oi := ⟨some 64, _, _, _, _, _⟩) (v := ?_) rfl (by kernel_rfl) (by kernel_rfl) (by kernel_rfl) (fun _ _ _ h => h) (Or.inl ⟨by rfl, ?_⟩) (by assumption) ?_
  rotate_left
  · intro ww hSw
    (try dsimp only at hSw)
    go_simp
    (try with_reducible rfl)
  simp only [Act.put, List.setIfInBounds_toArray, List.set_cons_zero, List.set_cons_succ]
  refine wpAnyH_take (i := 10) (oi := ⟨some 65, _, _, _, _, _⟩) (v := ?_) rfl (by kernel_rfl) (by kernel_rfl) (by kernel_rfl) (fun _ _ _ h => h) (Or.inl ⟨by rfl, ?_⟩) (by assumption) ?_
  rotate_left
  · intro ww hSw
    (try dsimp only at hSw)
    go_simp
    (try with_reducible rfl)
  simp only [Act.put, List.setIfInBounds_toArray, List.set_cons_zero, List.set_cons_succ]
  refine wpAnyH_take (i := 11) (oi := ⟨some 66, _, _, _, _, _⟩) (v := ?_) rfl (by kernel_rfl) (by kernel_rfl) (by kernel_rfl) (fun _ _ _ h => h) (Or.inl ⟨by rfl, ?_⟩) (by assumption) ?_
  rotate_left
  · intro ww hSw
    (try dsimp only at hSw)
    go_simp
    (try with_reducible rfl)
  simp only [Act.put, List.setIfInBounds_toArray, List.set_cons_zero, List.set_cons_succ]
  refine wpAnyH_take (i := 12) (oi := ⟨some 67, _, _, _, _, _⟩) (v := ?_) rfl (by kernel_rfl) (by kernel_rfl) (by kernel_rfl) (fun _ _ _ h => h) (Or.inl ⟨by rfl, ?_⟩) (by assumption) ?_
  rotate_left
  · intro ww hSw
    (try dsimp only at hSw)
    go_simp
    (try with_reducible rfl)
  simp only [Act.put, List.setIfInBounds_toArray, List.set_cons_zero, List.set_cons_succ]
  refine wpAnyH_take (i := 13) (oi := ⟨some 68, _, _, _, _, _⟩) (v := ?_) rfl (by kernel_rfl) (by kernel_rfl) (by kernel_rfl) (fun _ _ _ h => h) (Or.inl ⟨by rfl, ?_⟩) (by assumption) ?_
  rotate_left
  · intro ww hSw
    (try dsimp only at hSw)
    go_simp
    (try with_reducible rfl)
  simp only [Act.put, List.setIfInBounds_toArray, List.set_cons_zero, List.set_cons_succ]
  have hbx := hb6
  clear hb6
  refine wpAnyH_ready (rs := [14]) (by kernel_rfl) (by simp) ?_
  refine AllReadyH.cons (o := ⟨some 69, _, _, _, _, _⟩) rfl (fun K hK => ?_) AllReadyH.nil
  go_simp
  go_at_call 20
  with_reducible refine (less_any a b a b _ ha hb ha hb).mono ?_
  rw [KS.out]
  rintro e_r x2 ⟨rfl, hbn⟩
  (first | (with_reducible replace A := A.below hbn) | replace A := A.drew.below hbn)
  (first | (with_reducible replace B := B.below hbn) | replace B := B.drew.below hbn)
  (first | (with_reducible replace M := M.below hbn) | replace M := M.drew.below hbn)
  replace hbx := bel_on (show Below w.heap.size w _ by (repeat' (first | with_reducible exact Below.refl _ _ | with_reducible assumption | with_reducible refine bel_alloc ?_ _ | with_reducible refine bel_set ?_ ?_ _ | with_reducible refine below_drewN ?_ _ | with_reducible refine below_drew ?_ | (simp; done) | (simp; omega) | omega))) hbn
  clear hbn
  obtain ⟨A0, A1, -, -⟩ := A.two
  obtain ⟨B0, B1, -, -⟩ := B.two
  obtain ⟨M0, M1, -, -⟩ := M.two
  go_wp2_with fail
  refine hK.out _ _ ?_ (fun hHeld => ?_)
  · go_keep
  clear hK K
  (try simp only [Act.put, List.setIfInBounds_toArray, List.set_cons_zero, List.set_cons_succ])
  refine wpAnyH_take (i := 15) (oi := ⟨some 70, _, _, _, _, _⟩) (v := ?_) rfl (by kernel_rfl) (by kernel_rfl) (by kernel_rfl) (fun _ _ _ h => h) (Or.inl ⟨by rfl, ?_⟩) (by assumption) ?_
  rotate_left
  · intro ww hSw
    (try dsimp only at hSw)
    go_simp
    (try with_reducible rfl)
  simp only [Act.put, List.setIfInBounds_toArray, List.set_cons_zero, List.set_cons_succ]
  refine wpAnyH_take (i := 16) (oi := ⟨some 71, _, _, _, _, _⟩) (v := ?_) rfl (by kernel_rfl) (by kernel_rfl) (by kernel_rfl) (fun _ _ _ h => h) (Or.inl ⟨by rfl, ?_⟩) (by assumption) ?_
  rotate_left
  · intro ww hSw
    (try dsimp only at hSw)
    go_simp
    (try with_reducible rfl)
  simp only [Act.put, List.setIfInBounds_toArray, List.set_cons_zero, List.set_cons_succ]
  refine wpAnyH_take (i := 17) (oi := ⟨some 72, _, _, _, _, _⟩) (v := ?_) rfl (by kernel_rfl) (by kernel_rfl) (by kernel_rfl) (fun _ _ _ h => h) (Or.inl ⟨by rfl, ?_⟩) (by assumption) ?_
  rotate_left
  · intro ww hSw
    (try dsimp only at hSw)
    go_simp
    (try with_reducible rfl)
  simp only [Act.put, List.setIfInBounds_toArray, List.set_cons_zero, List.set_cons_succ]
  refine wpAnyH_take (i := 18) (oi := ⟨some 73, _, _, _, _, _⟩) (v := ?_) rfl (by kernel_rfl) (by kernel_rfl) (by kernel_rfl) (fun _ _ _ h => h) (Or.inl ⟨by rfl, ?_⟩) (by assumption) ?_
  rotate_left
  · intro ww hSw
    (try dsimp only at hSw)
    go_simp
    (try with_reducible rfl)
  simp only [Act.put, List.setIfInBounds_toArray, List.set_cons_zero, List.set_cons_succ]
  refine wpAnyH_take (i := 19) (oi := ⟨some 74, _, _, _, _, _⟩) (v := ?_) rfl (by kernel_rfl) (by kernel_rfl) (by kernel_rfl) (fun _ _ _ h => h) (Or.inl ⟨by rfl, ?_⟩) (by assumption) ?_
  rotate_left
  · intro ww hSw
    (try dsimp only at hSw)
    go_simp
    (try with_reducible rfl)
  simp only [Act.put, List.setIfInBounds_toArray, List.set_cons_zero, List.set_cons_succ]
  refine wpAnyH_take (i := 20) (oi := ⟨some 75, _, _, _, _, _⟩) (v := ?_) rfl (by kernel_rfl) (by kernel_rfl) (by kernel_rfl) (fun _ _ _ h => h) (Or.inl ⟨by rfl, ?_⟩) (by assumption) ?_
  rotate_left
  · intro ww hSw
    (try dsimp only at hSw)
    go_simp
    (try with_reducible rfl)
  simp only [Act.put, List.setIfInBounds_toArray, List.set_cons_zero, List.set_cons_succ]
  refine wpAnyH_take (i := 21) (oi := ⟨some 76, _, _, _, _, _⟩) (v := undef) rfl (by kernel_rfl) (by kernel_rfl) (by kernel_rfl) (fun _ _ _ h => h) (Or.inr ⟨by rfl, rfl⟩) (by assumption) ?_
  simp only [Act.put, List.setIfInBounds_toArray, List.set_cons_zero, List.set_cons_succ]
  refine wpAnyH_take (i := 22) (oi := ⟨some 77, _, _, _, _, _⟩) (v := undef) rfl (by kernel_rfl) (by kernel_rfl) (by kernel_rfl) (fun _ _ _ h => h) (Or.inr ⟨by rfl, rfl⟩) (by assumption) ?_
  simp only [Act.put, List.setIfInBounds_toArray, List.set_cons_zero, List.set_cons_succ]
  refine wpAnyH_take (i := 23) (oi := ⟨some 78, _, _, _, _, _⟩) (v := undef) rfl (by kernel_rfl) (by kernel_rfl) (by kernel_rfl) (fun _ _ _ h => h) (Or.inr ⟨by rfl, rfl⟩) (by assumption) ?_
  simp only [Act.put, List.setIfInBounds_toArray, List.set_cons_zero, List.set_cons_succ]
  refine wpAnyH_take (i := 24) (oi := ⟨some 79, _, _, _, _, _⟩) (v := undef) rfl (by kernel_rfl) (by kernel_rfl) (by kernel_rfl) (fun _ _ _ h => h) (Or.inr ⟨by rfl, rfl⟩) (by assumption) ?_
  simp only [Act.put, List.setIfInBounds_toArray, List.set_cons_zero, List.set_cons_succ]
  refine wpAnyH_take (i := 25) (oi := ⟨some 80, _, _, _, _, _⟩) (v := undef) rfl (by kernel_rfl) (by kernel_rfl) (by kernel_rfl) (fun _ _ _ h => h) (Or.inr ⟨by rfl, rfl⟩) (by assumption) ?_
  simp only [Act.put, List.setIfInBounds_toArray, List.set_cons_zero, List.set_cons_succ]
  refine wpAnyH_take (i := 26) (oi := ⟨some 81, _, _, _, _, _⟩) (v := undef) rfl (by kernel_rfl) (by kernel_rfl) (by kernel_rfl) (fun _ _ _ h => h) (Or.inr ⟨by rfl, rfl⟩) (by assumption) ?_
  simp only [Act.put, List.setIfInBounds_toArray, List.set_cons_zero, List.set_cons_succ]
  refine wpAnyH_take (i := 27) (oi := ⟨some 82, _, _, _, _, _⟩) (v := undef) rfl (by kernel_rfl) (by kernel_rfl) (by kernel_rfl) (fun _ _ _ h => h) (Or.inr ⟨by rfl, rfl⟩) (by assumption) ?_
  simp only [Act.put, List.setIfInBounds_toArray, List.set_cons_zero, List.set_cons_succ]
  refine wpAnyH_take (i := 28) (oi := ⟨some 83, _, _, _, _, _⟩) (v := ?_) rfl (by kernel_rfl) (by kernel_rfl) (by kernel_rfl) (fun _ _ _ h => h) (Or.inl ⟨by rfl, ?_⟩) (by assumption) ?_
  rotate_left
  · intro ww hSw
    (try dsimp only at hSw)
    go_simp
    (try with_reducible rfl)
  simp only [Act.put, List.setIfInBounds_toArray, List.set_cons_zero, List.set_cons_succ]
  refine wpAnyH_take (i := 29) (oi := ⟨some 84, _, _, _, _, _⟩) (v := ?_) rfl (by kernel_rfl) (by kernel_rfl) (by kernel_rfl) (fun _ _ _ h => h) (Or.inl ⟨by rfl, ?_⟩) (by assumption) ?_
  rotate_left
  · intro ww hSw
    (try dsimp only at hSw)
    go_simp
    (try with_reducible rfl)
  simp only [Act.put, List.setIfInBounds_toArray, List.set_cons_zero, List.set_cons_succ]
  refine wpAnyH_take (i := 30) (oi := ⟨some 6, _, _, _, _, _⟩) (v := ?_) rfl (by kernel_rfl) (by kernel_rfl) (by kernel_rfl) (fun _ _ _ h => h) (Or.inl ⟨by rfl, ?_⟩) (by assumption) ?_
  rotate_left
  · intro ww hSw
    (try dsimp only at hSw)
    go_simp
    (try with_reducible rfl)
  simp only [Act.put, List.setIfInBounds_toArray, List.set_cons_zero, List.set_cons_succ]
  refine wpAnyH_done (by kernel_rfl) ?_ _
  refine NoPanic.normal ?_
  go_wp2
  go_ret
  exact ⟨rfl, hbx⟩
end Go.Proofs.Ytlennhfjninclaa
