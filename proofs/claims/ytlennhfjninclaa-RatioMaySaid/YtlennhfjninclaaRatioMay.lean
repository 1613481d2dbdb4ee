/-
  The walk of the law RatioMay: it answers true, and leaves what was there as it was.
-/
import Derived.Test.YtlennhfjninclaaRatAwake
namespace Go.Proofs.Ytlennhfjninclaa
open Go.RowKit
set_option linter.unusedVariables false

theorem may_r (s : Rat2) (h : mayB s.n s.d = (s.c == 0)) : mayB s.n s.d = (s.c == 0) := h

set_option maxRecDepth 100000 in
set_option maxHeartbeats 2000000 in
theorem ratioMay_yes (a b c d n m : Int) (w : World) (ha : -9223372036854775808 ≤ a ∧ a ≤ 9223372036854775807) (hb : -9223372036854775808 ≤ b ∧ b ≤ 9223372036854775807) (hc : -9223372036854775808 ≤ c ∧ c ≤ 9223372036854775807) (hd : -9223372036854775808 ≤ d ∧ d ≤ 9223372036854775807) (hn : -2147483648 ≤ n) (hn' : n ≤ 2147483647) (hm : -2147483648 ≤ m) (hm' : m ≤ 2147483647) (hk : mkC n m = 0) :
    Calls Try.prog 4 #[.agg #[.int .i64 a, .int .i64 b], .agg #[.int .i64 c, .int .i64 d], .int .i32 n, .int .i32 m] w fun e w' => e = .returned (.bool true) ∧ Below w.heap.size w w' := by
  have XS := rat_i64 _ (plusR_may a b c d) (plusR_z a b c d)
  have XP := rat_i64 _ (mulR_may a b c d) (mulR_z a b c d)
  have XQ := rat_i64 _ (divR_may a b c d) (divR_z a b c d)
  have XT := rat_i64 _ (minusR_may a b c d) (minusR_z a b c d)
  have g1 : (mkC n m == 0) = true := by simpa using hk
  have g2 : (mkC n m != 0) = false := by simpa using hk
  have MM := Lib.hid (mk_may hk)
  have MB := may_i64 (mk_may hk)
  have mb := may_bd (mk_may hk)
  have X := mk_cross hk
  have p0 := prod_bd (a := mkN n m) (b := m) (by omega) (by omega) (by omega) (by omega)
  have p1 := prod_bd (a := n) (b := mkD n m) (by omega) (by omega) (by omega) (by omega)
  have g3 : (mkN n m * m == n * mkD n m) = true := by rw [X]; simp
  clear hk X
  go_enter Try.func4, Try.ntmps4
  go_wp2_with fail
  refine (awake2 _).mono ?_
  rintro e w1 ⟨rfl, hb1⟩
  have A : Has w1 w.heap.size #[.int .i64 a, .int .i64 b] := Has.below (by (repeat' (first | with_reducible assumption | ((with_reducible refine Has.new _ _ _ ?_); (first | (with_reducible rfl) | (simp; done))) | with_reducible refine Has.alloc ?_ _ | with_reducible refine Has.drewN ?_ _ | with_reducible refine Has.drew ?_))) hb1
  have B : Has w1 (w.heap.size + 1) #[.int .i64 c, .int .i64 d] := Has.below (by (repeat' (first | with_reducible assumption | ((with_reducible refine Has.new _ _ _ ?_); (first | (with_reducible rfl) | (simp; done))) | with_reducible refine Has.alloc ?_ _ | with_reducible refine Has.drewN ?_ _ | with_reducible refine Has.drew ?_))) hb1
  replace hb1 := bel_on (show Below w.heap.size w _ by (repeat' (first | with_reducible exact Below.refl _ _ | with_reducible assumption | with_reducible refine bel_alloc ?_ _ | with_reducible refine bel_set ?_ ?_ _ | with_reducible refine below_drewN ?_ _ | with_reducible refine below_drew ?_ | (simp; done) | (simp; omega) | omega))) hb1
  obtain ⟨A0, A1, -, -⟩ := A.two
  have Az := A.size
  obtain ⟨B0, B1, -, -⟩ := B.two
  have Bz := B.size
  go_wp2_with fail
  refine (make_any n m _ (by omega) (by omega) (by omega) (by omega)).mono ?_
  rintro e w2 ⟨rfl, hb2⟩
  replace A := (A).below hb2
  replace B := (B).below hb2
  replace hb2 := bel_on (hb1) hb2
  clear hb1 A0 A1 Az B0 B1 Bz
  obtain ⟨A0, A1, -, -⟩ := A.two
  have Az := A.size
  obtain ⟨B0, B1, -, -⟩ := B.two
  have Bz := B.size
  go_wp2_with fail
  refine (ratsum_two a b c d _ _ _ (by simp) ha hb hc hd).mono ?_
  rintro e w3 ⟨rfl, hb3⟩
  replace A := (A.alloc _).below hb3
  replace B := (B.alloc _).below hb3
  have M : Has w3 w2.heap.size #[.int .i64 (mkN n m), .int .i64 (mkD n m)] := (Has.new _ _ _ rfl).below hb3
  replace hb3 := bel_on (bel_alloc hb2 _) hb3
  clear hb2 A0 A1 Az B0 B1 Bz
  obtain ⟨A0, A1, -, -⟩ := A.two
  have Az := A.size
  obtain ⟨B0, B1, -, -⟩ := B.two
  have Bz := B.size
  obtain ⟨M0, M1, -, -⟩ := M.two
  have Mz := M.size
  go_wp2_with fail
  refine (qmul_any a b c d _ ha hb hc hd).mono ?_
  rintro e w4 ⟨rfl, hb4⟩
  replace A := (A.alloc _).below hb4
  replace B := (B.alloc _).below hb4
  replace M := (M.alloc _).below hb4
  have S : Has w4 w3.heap.size #[.int .i64 (plusR a b c d).n, .int .i64 (plusR a b c d).d] := (Has.new _ _ _ rfl).below hb4
  replace hb4 := bel_on (bel_alloc hb3 _) hb4
  clear hb3 A0 A1 Az B0 B1 Bz M0 M1 Mz
  obtain ⟨A0, A1, -, -⟩ := A.two
  have Az := A.size
  obtain ⟨B0, B1, -, -⟩ := B.two
  have Bz := B.size
  obtain ⟨M0, M1, -, -⟩ := M.two
  have Mz := M.size
  obtain ⟨S0, S1, -, -⟩ := S.two
  have Sz := S.size
  go_wp2_with fail
  refine (qdiv_any a b c d _ ha hb hc hd).mono ?_
  rintro e w5 ⟨rfl, hb5⟩
  replace A := (A.alloc _).below hb5
  replace B := (B.alloc _).below hb5
  replace M := (M.alloc _).below hb5
  replace S := (S.alloc _).below hb5
  have P : Has w5 w4.heap.size #[.int .i64 (mulR a b c d).n, .int .i64 (mulR a b c d).d] := (Has.new _ _ _ rfl).below hb5
  replace hb5 := bel_on (bel_alloc hb4 _) hb5
  clear hb4 A0 A1 Az B0 B1 Bz M0 M1 Mz S0 S1 Sz
  obtain ⟨A0, A1, -, -⟩ := A.two
  have Az := A.size
  obtain ⟨B0, B1, -, -⟩ := B.two
  have Bz := B.size
  obtain ⟨M0, M1, -, -⟩ := M.two
  have Mz := M.size
  obtain ⟨S0, S1, -, -⟩ := S.two
  have Sz := S.size
  obtain ⟨P0, P1, -, -⟩ := P.two
  have Pz := P.size
  go_wp2_with fail
  refine (qminus_any a b c d _ ha hb hc hd).mono ?_
  rintro e w6 ⟨rfl, hb6⟩
  replace A := (A.alloc _).below hb6
  replace B := (B.alloc _).below hb6
  replace M := (M.alloc _).below hb6
  replace S := (S.alloc _).below hb6
  replace P := (P.alloc _).below hb6
  have Q : Has w6 w5.heap.size #[.int .i64 (divR a b c d).n, .int .i64 (divR a b c d).d] := (Has.new _ _ _ rfl).below hb6
  replace hb6 := bel_on (bel_alloc hb5 _) hb6
  clear hb5 A0 A1 Az B0 B1 Bz M0 M1 Mz S0 S1 Sz P0 P1 Pz
  obtain ⟨A0, A1, -, -⟩ := A.two
  have Az := A.size
  obtain ⟨B0, B1, -, -⟩ := B.two
  have Bz := B.size
  obtain ⟨M0, M1, -, -⟩ := M.two
  have Mz := M.size
  obtain ⟨S0, S1, -, -⟩ := S.two
  have Sz := S.size
  obtain ⟨P0, P1, -, -⟩ := P.two
  have Pz := P.size
  obtain ⟨Q0, Q1, -, -⟩ := Q.two
  have Qz := Q.size
  go_wp2_with fail
  refine (check_any _ _ _ MB.1.1 MB.1.2 MB.2.1 MB.2.2).mono ?_
  rw [MM.out]
  rintro e w7 ⟨rfl, hb7⟩
  replace A := (A.alloc _).below hb7
  replace B := (B.alloc _).below hb7
  replace M := (M.alloc _).below hb7
  replace S := (S.alloc _).below hb7
  replace P := (P.alloc _).below hb7
  replace Q := (Q.alloc _).below hb7
  have T : Has w7 w6.heap.size #[.int .i64 (minusR a b c d).n, .int .i64 (minusR a b c d).d] := (Has.new _ _ _ rfl).below hb7
  replace hb7 := bel_on (bel_alloc hb6 _) hb7
  clear hb6 A0 A1 Az B0 B1 Bz M0 M1 Mz S0 S1 Sz P0 P1 Pz Q0 Q1 Qz
  obtain ⟨A0, A1, -, -⟩ := A.two
  have Az := A.size
  obtain ⟨B0, B1, -, -⟩ := B.two
  have Bz := B.size
  obtain ⟨M0, M1, -, -⟩ := M.two
  have Mz := M.size
  obtain ⟨S0, S1, -, -⟩ := S.two
  have Sz := S.size
  obtain ⟨P0, P1, -, -⟩ := P.two
  have Pz := P.size
  obtain ⟨Q0, Q1, -, -⟩ := Q.two
  have Qz := Q.size
  obtain ⟨T0, T1, -, -⟩ := T.two
  have Tz := T.size
  go_wp2_with fail
  refine (check_any _ _ _ XS.1.1 XS.1.2 XS.2.1 XS.2.2).mono ?_
  rw [plusR_may a b c d]
  rintro e w8 ⟨rfl, hb8⟩
  replace A := (A).below hb8
  replace B := (B).below hb8
  replace M := (M).below hb8
  replace S := (S).below hb8
  replace P := (P).below hb8
  replace Q := (Q).below hb8
  replace T := (T).below hb8
  replace hb8 := bel_on (hb7) hb8
  clear hb7 A0 A1 Az B0 B1 Bz M0 M1 Mz S0 S1 Sz P0 P1 Pz Q0 Q1 Qz T0 T1 Tz
  obtain ⟨A0, A1, -, -⟩ := A.two
  have Az := A.size
  obtain ⟨B0, B1, -, -⟩ := B.two
  have Bz := B.size
  obtain ⟨M0, M1, -, -⟩ := M.two
  have Mz := M.size
  obtain ⟨S0, S1, -, -⟩ := S.two
  have Sz := S.size
  obtain ⟨P0, P1, -, -⟩ := P.two
  have Pz := P.size
  obtain ⟨Q0, Q1, -, -⟩ := Q.two
  have Qz := Q.size
  obtain ⟨T0, T1, -, -⟩ := T.two
  have Tz := T.size
  go_wp2_with fail
  refine (check_any _ _ _ XP.1.1 XP.1.2 XP.2.1 XP.2.2).mono ?_
  rw [mulR_may a b c d]
  rintro e w9 ⟨rfl, hb9⟩
  replace A := (A).below hb9
  replace B := (B).below hb9
  replace M := (M).below hb9
  replace S := (S).below hb9
  replace P := (P).below hb9
  replace Q := (Q).below hb9
  replace T := (T).below hb9
  replace hb9 := bel_on (hb8) hb9
  clear hb8 A0 A1 Az B0 B1 Bz M0 M1 Mz S0 S1 Sz P0 P1 Pz Q0 Q1 Qz T0 T1 Tz
  obtain ⟨A0, A1, -, -⟩ := A.two
  have Az := A.size
  obtain ⟨B0, B1, -, -⟩ := B.two
  have Bz := B.size
  obtain ⟨M0, M1, -, -⟩ := M.two
  have Mz := M.size
  obtain ⟨S0, S1, -, -⟩ := S.two
  have Sz := S.size
  obtain ⟨P0, P1, -, -⟩ := P.two
  have Pz := P.size
  obtain ⟨Q0, Q1, -, -⟩ := Q.two
  have Qz := Q.size
  obtain ⟨T0, T1, -, -⟩ := T.two
  have Tz := T.size
  go_wp2_with fail
  refine (check_any _ _ _ XQ.1.1 XQ.1.2 XQ.2.1 XQ.2.2).mono ?_
  rw [divR_may a b c d]
  rintro e w10 ⟨rfl, hb10⟩
  replace A := (A).below hb10
  replace B := (B).below hb10
  replace M := (M).below hb10
  replace S := (S).below hb10
  replace P := (P).below hb10
  replace Q := (Q).below hb10
  replace T := (T).below hb10
  replace hb10 := bel_on (hb9) hb10
  clear hb9 A0 A1 Az B0 B1 Bz M0 M1 Mz S0 S1 Sz P0 P1 Pz Q0 Q1 Qz T0 T1 Tz
  obtain ⟨A0, A1, -, -⟩ := A.two
  have Az := A.size
  obtain ⟨B0, B1, -, -⟩ := B.two
  have Bz := B.size
  obtain ⟨M0, M1, -, -⟩ := M.two
  have Mz := M.size
  obtain ⟨S0, S1, -, -⟩ := S.two
  have Sz := S.size
  obtain ⟨P0, P1, -, -⟩ := P.two
  have Pz := P.size
  obtain ⟨Q0, Q1, -, -⟩ := Q.two
  have Qz := Q.size
  obtain ⟨T0, T1, -, -⟩ := T.two
  have Tz := T.size
  go_wp2_with fail
  refine (check_any _ _ _ XT.1.1 XT.1.2 XT.2.1 XT.2.2).mono ?_
  rw [minusR_may a b c d]
  rintro e w11 ⟨rfl, hb11⟩
  replace A := (A).below hb11
  replace B := (B).below hb11
  replace M := (M).below hb11
  replace S := (S).below hb11
  replace P := (P).below hb11
  replace Q := (Q).below hb11
  replace T := (T).below hb11
  replace hb11 := bel_on (hb10) hb11
  clear hb10 A0 A1 Az B0 B1 Bz M0 M1 Mz S0 S1 Sz P0 P1 Pz Q0 Q1 Qz T0 T1 Tz
  go_wp2
  go_ret
  exact ⟨rfl, hb11⟩

set_option maxRecDepth 100000 in
set_option maxHeartbeats 2000000 in
theorem ratioMay_no (a b c d n m : Int) (w : World) (ha : -9223372036854775808 ≤ a ∧ a ≤ 9223372036854775807) (hb : -9223372036854775808 ≤ b ∧ b ≤ 9223372036854775807) (hc : -9223372036854775808 ≤ c ∧ c ≤ 9223372036854775807) (hd : -9223372036854775808 ≤ d ∧ d ≤ 9223372036854775807) (hn : -2147483648 ≤ n) (hn' : n ≤ 2147483647) (hm : -2147483648 ≤ m) (hm' : m ≤ 2147483647) (hk : ¬ mkC n m = 0) :
    Calls Try.prog 4 #[.agg #[.int .i64 a, .int .i64 b], .agg #[.int .i64 c, .int .i64 d], .int .i32 n, .int .i32 m] w fun e w' => e = .returned (.bool true) ∧ Below w.heap.size w w' := by
  have XS := rat_i64 _ (plusR_may a b c d) (plusR_z a b c d)
  have XP := rat_i64 _ (mulR_may a b c d) (mulR_z a b c d)
  have XQ := rat_i64 _ (divR_may a b c d) (divR_z a b c d)
  have XT := rat_i64 _ (minusR_may a b c d) (minusR_z a b c d)
  have g1 : (mkC n m == 0) = false := by simpa using hk
  have g2 : (mkC n m != 0) = true := by simpa using hk
  have Z := Lib.hid (mk_bad hk)
  clear hk
  go_enter Try.func4, Try.ntmps4
  go_wp2_with fail
  refine (awake2 _).mono ?_
  rintro e w1 ⟨rfl, hb1⟩
  have A : Has w1 w.heap.size #[.int .i64 a, .int .i64 b] := Has.below (by (repeat' (first | with_reducible assumption | ((with_reducible refine Has.new _ _ _ ?_); (first | (with_reducible rfl) | (simp; done))) | with_reducible refine Has.alloc ?_ _ | with_reducible refine Has.drewN ?_ _ | with_reducible refine Has.drew ?_))) hb1
  have B : Has w1 (w.heap.size + 1) #[.int .i64 c, .int .i64 d] := Has.below (by (repeat' (first | with_reducible assumption | ((with_reducible refine Has.new _ _ _ ?_); (first | (with_reducible rfl) | (simp; done))) | with_reducible refine Has.alloc ?_ _ | with_reducible refine Has.drewN ?_ _ | with_reducible refine Has.drew ?_))) hb1
  replace hb1 := bel_on (show Below w.heap.size w _ by (repeat' (first | with_reducible exact Below.refl _ _ | with_reducible assumption | with_reducible refine bel_alloc ?_ _ | with_reducible refine bel_set ?_ ?_ _ | with_reducible refine below_drewN ?_ _ | with_reducible refine below_drew ?_ | (simp; done) | (simp; omega) | omega))) hb1
  obtain ⟨A0, A1, -, -⟩ := A.two
  have Az := A.size
  obtain ⟨B0, B1, -, -⟩ := B.two
  have Bz := B.size
  go_wp2_with fail
  refine (make_any n m _ (by omega) (by omega) (by omega) (by omega)).mono ?_
  rw [Z.out.1, Z.out.2]
  rintro e w2 ⟨rfl, hb2⟩
  replace A := (A).below hb2
  replace B := (B).below hb2
  replace hb2 := bel_on (hb1) hb2
  clear hb1 A0 A1 Az B0 B1 Bz
  obtain ⟨A0, A1, -, -⟩ := A.two
  have Az := A.size
  obtain ⟨B0, B1, -, -⟩ := B.two
  have Bz := B.size
  go_wp2_with fail
  refine (ratsum_two a b c d _ _ _ (by simp) ha hb hc hd).mono ?_
  rintro e w3 ⟨rfl, hb3⟩
  replace A := (A.alloc _).below hb3
  replace B := (B.alloc _).below hb3
  have M : Has w3 w2.heap.size #[.int .i64 0, .int .i64 0] := (Has.new _ _ _ rfl).below hb3
  replace hb3 := bel_on (bel_alloc hb2 _) hb3
  clear hb2 A0 A1 Az B0 B1 Bz
  obtain ⟨A0, A1, -, -⟩ := A.two
  have Az := A.size
  obtain ⟨B0, B1, -, -⟩ := B.two
  have Bz := B.size
  obtain ⟨M0, M1, -, -⟩ := M.two
  have Mz := M.size
  go_wp2_with fail
  refine (qmul_any a b c d _ ha hb hc hd).mono ?_
  rintro e w4 ⟨rfl, hb4⟩
  replace A := (A.alloc _).below hb4
  replace B := (B.alloc _).below hb4
  replace M := (M.alloc _).below hb4
  have S : Has w4 w3.heap.size #[.int .i64 (plusR a b c d).n, .int .i64 (plusR a b c d).d] := (Has.new _ _ _ rfl).below hb4
  replace hb4 := bel_on (bel_alloc hb3 _) hb4
  clear hb3 A0 A1 Az B0 B1 Bz M0 M1 Mz
  obtain ⟨A0, A1, -, -⟩ := A.two
  have Az := A.size
  obtain ⟨B0, B1, -, -⟩ := B.two
  have Bz := B.size
  obtain ⟨M0, M1, -, -⟩ := M.two
  have Mz := M.size
  obtain ⟨S0, S1, -, -⟩ := S.two
  have Sz := S.size
  go_wp2_with fail
  refine (qdiv_any a b c d _ ha hb hc hd).mono ?_
  rintro e w5 ⟨rfl, hb5⟩
  replace A := (A.alloc _).below hb5
  replace B := (B.alloc _).below hb5
  replace M := (M.alloc _).below hb5
  replace S := (S.alloc _).below hb5
  have P : Has w5 w4.heap.size #[.int .i64 (mulR a b c d).n, .int .i64 (mulR a b c d).d] := (Has.new _ _ _ rfl).below hb5
  replace hb5 := bel_on (bel_alloc hb4 _) hb5
  clear hb4 A0 A1 Az B0 B1 Bz M0 M1 Mz S0 S1 Sz
  obtain ⟨A0, A1, -, -⟩ := A.two
  have Az := A.size
  obtain ⟨B0, B1, -, -⟩ := B.two
  have Bz := B.size
  obtain ⟨M0, M1, -, -⟩ := M.two
  have Mz := M.size
  obtain ⟨S0, S1, -, -⟩ := S.two
  have Sz := S.size
  obtain ⟨P0, P1, -, -⟩ := P.two
  have Pz := P.size
  go_wp2_with fail
  refine (qminus_any a b c d _ ha hb hc hd).mono ?_
  rintro e w6 ⟨rfl, hb6⟩
  replace A := (A.alloc _).below hb6
  replace B := (B.alloc _).below hb6
  replace M := (M.alloc _).below hb6
  replace S := (S.alloc _).below hb6
  replace P := (P.alloc _).below hb6
  have Q : Has w6 w5.heap.size #[.int .i64 (divR a b c d).n, .int .i64 (divR a b c d).d] := (Has.new _ _ _ rfl).below hb6
  replace hb6 := bel_on (bel_alloc hb5 _) hb6
  clear hb5 A0 A1 Az B0 B1 Bz M0 M1 Mz S0 S1 Sz P0 P1 Pz
  obtain ⟨A0, A1, -, -⟩ := A.two
  have Az := A.size
  obtain ⟨B0, B1, -, -⟩ := B.two
  have Bz := B.size
  obtain ⟨M0, M1, -, -⟩ := M.two
  have Mz := M.size
  obtain ⟨S0, S1, -, -⟩ := S.two
  have Sz := S.size
  obtain ⟨P0, P1, -, -⟩ := P.two
  have Pz := P.size
  obtain ⟨Q0, Q1, -, -⟩ := Q.two
  have Qz := Q.size
  go_wp2_with fail
  refine (check_any _ _ _ XS.1.1 XS.1.2 XS.2.1 XS.2.2).mono ?_
  rw [plusR_may a b c d]
  rintro e w7 ⟨rfl, hb7⟩
  replace A := (A.alloc _).below hb7
  replace B := (B.alloc _).below hb7
  replace M := (M.alloc _).below hb7
  replace S := (S.alloc _).below hb7
  replace P := (P.alloc _).below hb7
  replace Q := (Q.alloc _).below hb7
  have T : Has w7 w6.heap.size #[.int .i64 (minusR a b c d).n, .int .i64 (minusR a b c d).d] := (Has.new _ _ _ rfl).below hb7
  replace hb7 := bel_on (bel_alloc hb6 _) hb7
  clear hb6 A0 A1 Az B0 B1 Bz M0 M1 Mz S0 S1 Sz P0 P1 Pz Q0 Q1 Qz
  obtain ⟨A0, A1, -, -⟩ := A.two
  have Az := A.size
  obtain ⟨B0, B1, -, -⟩ := B.two
  have Bz := B.size
  obtain ⟨M0, M1, -, -⟩ := M.two
  have Mz := M.size
  obtain ⟨S0, S1, -, -⟩ := S.two
  have Sz := S.size
  obtain ⟨P0, P1, -, -⟩ := P.two
  have Pz := P.size
  obtain ⟨Q0, Q1, -, -⟩ := Q.two
  have Qz := Q.size
  obtain ⟨T0, T1, -, -⟩ := T.two
  have Tz := T.size
  go_wp2_with fail
  refine (check_any _ _ _ XP.1.1 XP.1.2 XP.2.1 XP.2.2).mono ?_
  rw [mulR_may a b c d]
  rintro e w8 ⟨rfl, hb8⟩
  replace A := (A).below hb8
  replace B := (B).below hb8
  replace M := (M).below hb8
  replace S := (S).below hb8
  replace P := (P).below hb8
  replace Q := (Q).below hb8
  replace T := (T).below hb8
  replace hb8 := bel_on (hb7) hb8
  clear hb7 A0 A1 Az B0 B1 Bz M0 M1 Mz S0 S1 Sz P0 P1 Pz Q0 Q1 Qz T0 T1 Tz
  obtain ⟨A0, A1, -, -⟩ := A.two
  have Az := A.size
  obtain ⟨B0, B1, -, -⟩ := B.two
  have Bz := B.size
  obtain ⟨M0, M1, -, -⟩ := M.two
  have Mz := M.size
  obtain ⟨S0, S1, -, -⟩ := S.two
  have Sz := S.size
  obtain ⟨P0, P1, -, -⟩ := P.two
  have Pz := P.size
  obtain ⟨Q0, Q1, -, -⟩ := Q.two
  have Qz := Q.size
  obtain ⟨T0, T1, -, -⟩ := T.two
  have Tz := T.size
  go_wp2_with fail
  refine (check_any _ _ _ XQ.1.1 XQ.1.2 XQ.2.1 XQ.2.2).mono ?_
  rw [divR_may a b c d]
  rintro e w9 ⟨rfl, hb9⟩
  replace A := (A).below hb9
  replace B := (B).below hb9
  replace M := (M).below hb9
  replace S := (S).below hb9
  replace P := (P).below hb9
  replace Q := (Q).below hb9
  replace T := (T).below hb9
  replace hb9 := bel_on (hb8) hb9
  clear hb8 A0 A1 Az B0 B1 Bz M0 M1 Mz S0 S1 Sz P0 P1 Pz Q0 Q1 Qz T0 T1 Tz
  obtain ⟨A0, A1, -, -⟩ := A.two
  have Az := A.size
  obtain ⟨B0, B1, -, -⟩ := B.two
  have Bz := B.size
  obtain ⟨M0, M1, -, -⟩ := M.two
  have Mz := M.size
  obtain ⟨S0, S1, -, -⟩ := S.two
  have Sz := S.size
  obtain ⟨P0, P1, -, -⟩ := P.two
  have Pz := P.size
  obtain ⟨Q0, Q1, -, -⟩ := Q.two
  have Qz := Q.size
  obtain ⟨T0, T1, -, -⟩ := T.two
  have Tz := T.size
  go_wp2_with fail
  refine (check_any _ _ _ XT.1.1 XT.1.2 XT.2.1 XT.2.2).mono ?_
  rw [minusR_may a b c d]
  rintro e w10 ⟨rfl, hb10⟩
  replace A := (A).below hb10
  replace B := (B).below hb10
  replace M := (M).below hb10
  replace S := (S).below hb10
  replace P := (P).below hb10
  replace Q := (Q).below hb10
  replace T := (T).below hb10
  replace hb10 := bel_on (hb9) hb10
  clear hb9 A0 A1 Az B0 B1 Bz M0 M1 Mz S0 S1 Sz P0 P1 Pz Q0 Q1 Qz T0 T1 Tz
  go_wp2
  go_ret
  exact ⟨rfl, hb10⟩

theorem ratioMay_walk (a b c d n m : Int) (w : World) (ha : -9223372036854775808 ≤ a ∧ a ≤ 9223372036854775807) (hb : -9223372036854775808 ≤ b ∧ b ≤ 9223372036854775807) (hc : -9223372036854775808 ≤ c ∧ c ≤ 9223372036854775807) (hd : -9223372036854775808 ≤ d ∧ d ≤ 9223372036854775807) (hn : -2147483648 ≤ n) (hn' : n ≤ 2147483647) (hm : -2147483648 ≤ m) (hm' : m ≤ 2147483647) :
    Calls Try.prog 4 #[.agg #[.int .i64 a, .int .i64 b], .agg #[.int .i64 c, .int .i64 d], .int .i32 n, .int .i32 m] w fun e w' => e = .returned (.bool true) ∧ Below w.heap.size w w' := by
  by_cases hk : mkC n m = 0
  · exact ratioMay_yes a b c d n m w ha hb hc hd hn hn' hm hm' hk
  · exact ratioMay_no a b c d n m w ha hb hc hd hn hn' hm hm' hk
end Go.Proofs.Ytlennhfjninclaa
