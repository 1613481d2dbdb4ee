/-
  The walk of the law RatioTells: it answers true, and leaves what was there as it was.
-/
import Derived.Test.YtlennhfjninclaaRatAwake
import Derived.Test.YtlennhfjninclaaRatRefC
namespace Go.Proofs.Ytlennhfjninclaa
open Go.RowKit
set_option linter.unusedVariables false

theorem ratsum_sl (A : Option Addr) (n cap : Nat) (xs : List (Int × Int)) (w : World) (hn : xs.length = n) (hx : Rats w A xs) (hl : n ≤ 9223372036854775807) :
    Calls Try.prog 12 #[.slice A n cap] w fun e w' => e = .returned (.tuple #[.agg #[.int .i64 (sumR xs).n, .int .i64 (sumR xs).d], .int .i64 (sumR xs).c]) ∧ Below w.heap.size w w' := by
  subst hn
  exact ratsum_any A cap xs w hx hl
theorem rsum_sl_q (A : Option Addr) (n cap : Nat) (xs : List (Int × Int)) (w : World) (hn : xs.length = n) (hx : Rats w A xs) (hl : n ≤ 9223372036854775807) :
    Calls Try.prog 13 #[.slice A n cap] w fun e w' => e = .returned (.tuple #[.agg #[.int .i64 (sumR xs).n, .int .i64 (sumR xs).d], .int .i64 (sumR xs).c]) ∧ Below w.heap.size w w' := by
  subst hn
  exact rsum_q A cap xs w hx hl

set_option maxRecDepth 100000 in
theorem ratioTells_long (l : Option Addr) (len cap : Nat) (xs : List (Int × Int)) (a b c d n m : Int) (w : World) (hlen : xs.length = len) (hl : len ≤ 9223372036854775807) (hx : Rats w l xs) (ha : -9223372036854775808 ≤ a ∧ a ≤ 9223372036854775807) (hb : -9223372036854775808 ≤ b ∧ b ≤ 9223372036854775807) (hc : -9223372036854775808 ≤ c ∧ c ≤ 9223372036854775807) (hd : -9223372036854775808 ≤ d ∧ d ≤ 9223372036854775807) (hn : -9223372036854775808 ≤ n) (hn' : n ≤ 9223372036854775807) (hm : -9223372036854775808 ≤ m) (hm' : m ≤ 9223372036854775807) (hlong : 1000 < len) :
    Calls Try.prog 3 #[.slice l len cap, .agg #[.int .i64 a, .int .i64 b], .agg #[.int .i64 c, .int .i64 d], .int .i64 n, .int .i64 m] w fun e w' => e = .returned (.bool true) ∧ Below w.heap.size w w' := by
  have d0 : (1000 : Int) < (len : Int) := by omega
  clear hx hlen
  go_enter Try.func3, Try.ntmps3
  go_wp2_with fail
  refine (awake2 _).mono ?_
  rintro e w1 ⟨rfl, hb1⟩
  have A : Has w1 w.heap.size #[.int .i64 a, .int .i64 b] := Has.below (by (repeat' (first | with_reducible assumption | ((with_reducible refine Has.new _ _ _ ?_); (first | (with_reducible rfl) | (simp; done))) | with_reducible refine Has.alloc ?_ _ | with_reducible refine Has.drewN ?_ _ | with_reducible refine Has.drew ?_))) hb1
  have B : Has w1 (w.heap.size + 1) #[.int .i64 c, .int .i64 d] := Has.below (by (repeat' (first | with_reducible assumption | ((with_reducible refine Has.new _ _ _ ?_); (first | (with_reducible rfl) | (simp; done))) | with_reducible refine Has.alloc ?_ _ | with_reducible refine Has.drewN ?_ _ | with_reducible refine Has.drew ?_))) hb1
  replace hb1 := bel_on (show Below w.heap.size w _ by (repeat' (first | with_reducible exact Below.refl _ _ | with_reducible assumption | with_reducible refine bel_alloc ?_ _ | with_reducible refine bel_set ?_ ?_ _ | with_reducible refine below_drewN ?_ _ | with_reducible refine below_drew ?_ | (simp; done) | (simp; omega) | omega))) hb1
  go_wp2
  go_ret
  exact ⟨rfl, hb1⟩

set_option maxRecDepth 100000 in
set_option maxHeartbeats 8000000 in
theorem ratioTells_short (l : Option Addr) (len cap : Nat) (xs : List (Int × Int)) (a b c d n m : Int) (w : World) (hlen : xs.length = len) (hl : len ≤ 9223372036854775807) (hx : Rats w l xs) (ha : -9223372036854775808 ≤ a ∧ a ≤ 9223372036854775807) (hb : -9223372036854775808 ≤ b ∧ b ≤ 9223372036854775807) (hc : -9223372036854775808 ≤ c ∧ c ≤ 9223372036854775807) (hd : -9223372036854775808 ≤ d ∧ d ≤ 9223372036854775807) (hn : -9223372036854775808 ≤ n) (hn' : n ≤ 9223372036854775807) (hm : -9223372036854775808 ≤ m) (hm' : m ≤ 9223372036854775807) (hshort : len ≤ 1000) :
    Calls Try.prog 3 #[.slice l len cap, .agg #[.int .i64 a, .int .i64 b], .agg #[.int .i64 c, .int .i64 d], .int .i64 n, .int .i64 m] w fun e w' => e = .returned (.bool true) ∧ Below w.heap.size w w' := by
  have d0 : (len : Int) ≤ 1000 := by omega
  have HX := Lib.hid hx
  have HL := Lib.hid hlen
  clear hx hlen
  go_enter Try.func3, Try.ntmps3
  go_wp2_with fail
  refine (awake2 _).mono ?_
  rintro e w1 ⟨rfl, hb1⟩
  have A : Has w1 w.heap.size #[.int .i64 a, .int .i64 b] := Has.below (by (repeat' (first | with_reducible assumption | ((with_reducible refine Has.new _ _ _ ?_); (first | (with_reducible rfl) | (simp; done))) | with_reducible refine Has.alloc ?_ _ | with_reducible refine Has.drewN ?_ _ | with_reducible refine Has.drew ?_))) hb1
  have B : Has w1 (w.heap.size + 1) #[.int .i64 c, .int .i64 d] := Has.below (by (repeat' (first | with_reducible assumption | ((with_reducible refine Has.new _ _ _ ?_); (first | (with_reducible rfl) | (simp; done))) | with_reducible refine Has.alloc ?_ _ | with_reducible refine Has.drewN ?_ _ | with_reducible refine Has.drew ?_))) hb1
  replace hb1 := bel_on (show Below w.heap.size w _ by (repeat' (first | with_reducible exact Below.refl _ _ | with_reducible assumption | with_reducible refine bel_alloc ?_ _ | with_reducible refine bel_set ?_ ?_ _ | with_reducible refine below_drewN ?_ _ | with_reducible refine below_drew ?_ | (simp; done) | (simp; omega) | omega))) hb1
  go_wp2_with fail
  refine (make_any n m _ hn hn' hm hm').mono ?_
  rintro e_2 w2 ⟨rfl, hb2⟩
  replace A := (A).below hb2
  replace B := (B).below hb2
  replace hb2 := bel_on (hb1) hb2
  clear hb1 
  go_wp2_with fail
  refine (rmake_any n m _ hn hn' hm hm').mono ?_
  rintro e_3 w3 ⟨rfl, hb3⟩
  replace A := (A.alloc _).below hb3
  replace B := (B.alloc _).below hb3
  have M : Has w3 w2.heap.size #[.int .i64 (mkN n m), .int .i64 (mkD n m)] := (Has.new _ _ _ rfl).below hb3
  replace hb3 := bel_on (bel_alloc hb2 _) hb3
  clear hb2 
  go_wp2_with fail
  refine (ratsum_sl l len cap xs _ HL.out (HX.out.below (bel_alloc hb3 _)) hl).mono ?_
  rintro e_4 w4 ⟨rfl, hb4⟩
  replace A := (A.alloc _).below hb4
  replace B := (B.alloc _).below hb4
  replace M := (M.alloc _).below hb4
  have O : Has w4 w3.heap.size #[.int .i64 (mkN n m), .int .i64 (mkD n m)] := (Has.new _ _ _ rfl).below hb4
  replace hb4 := bel_on (bel_alloc hb3 _) hb4
  clear hb3 
  go_wp2_with fail
  refine (rsum_sl_q l len cap xs _ HL.out (HX.out.below (bel_alloc hb4 _)) hl).mono ?_
  rintro e_5 w5 ⟨rfl, hb5⟩
  replace A := (A.alloc _).below hb5
  replace B := (B.alloc _).below hb5
  replace M := (M.alloc _).below hb5
  replace O := (O.alloc _).below hb5
  have S : Has w5 w4.heap.size #[.int .i64 (sumR xs).n, .int .i64 (sumR xs).d] := (Has.new _ _ _ rfl).below hb5
  replace hb5 := bel_on (bel_alloc hb4 _) hb5
  clear hb4 
  obtain ⟨A0, A1, -, -⟩ := A.two
  have Az := A.size
  obtain ⟨B0, B1, -, -⟩ := B.two
  have Bz := B.size
  go_wp2_with fail
  refine (qminus_any a b c d _ ha hb hc hd).mono ?_
  rintro e_6 w6 ⟨rfl, hb6⟩
  replace A := (A.alloc _).below hb6
  replace B := (B.alloc _).below hb6
  replace M := (M.alloc _).below hb6
  replace O := (O.alloc _).below hb6
  replace S := (S.alloc _).below hb6
  have T : Has w6 w5.heap.size #[.int .i64 (sumR xs).n, .int .i64 (sumR xs).d] := (Has.new _ _ _ rfl).below hb6
  replace hb6 := bel_on (bel_alloc hb5 _) hb6
  clear hb5 A0 A1 Az B0 B1 Bz
  obtain ⟨A0, A1, -, -⟩ := A.two
  have Az := A.size
  obtain ⟨B0, B1, -, -⟩ := B.two
  have Bz := B.size
  go_wp2_with fail
  refine (rminus_q a b c d _ ha hb hc hd).mono ?_
  rintro e_7 w7 ⟨rfl, hb7⟩
  replace A := (A.alloc _).below hb7
  replace B := (B.alloc _).below hb7
  replace M := (M.alloc _).below hb7
  replace O := (O.alloc _).below hb7
  replace S := (S.alloc _).below hb7
  replace T := (T.alloc _).below hb7
  have P : Has w7 w6.heap.size #[.int .i64 (minusR a b c d).n, .int .i64 (minusR a b c d).d] := (Has.new _ _ _ rfl).below hb7
  replace hb7 := bel_on (bel_alloc hb6 _) hb7
  clear hb6 A0 A1 Az B0 B1 Bz
  obtain ⟨A0, A1, -, -⟩ := A.two
  have Az := A.size
  obtain ⟨B0, B1, -, -⟩ := B.two
  have Bz := B.size
  go_wp2_with fail
  refine (qmul_any a b c d _ ha hb hc hd).mono ?_
  rintro e_8 w8 ⟨rfl, hb8⟩
  replace A := (A.alloc _).below hb8
  replace B := (B.alloc _).below hb8
  replace M := (M.alloc _).below hb8
  replace O := (O.alloc _).below hb8
  replace S := (S.alloc _).below hb8
  replace T := (T.alloc _).below hb8
  replace P := (P.alloc _).below hb8
  have Q : Has w8 w7.heap.size #[.int .i64 (minusR a b c d).n, .int .i64 (minusR a b c d).d] := (Has.new _ _ _ rfl).below hb8
  replace hb8 := bel_on (bel_alloc hb7 _) hb8
  clear hb7 A0 A1 Az B0 B1 Bz
  obtain ⟨A0, A1, -, -⟩ := A.two
  have Az := A.size
  obtain ⟨B0, B1, -, -⟩ := B.two
  have Bz := B.size
  go_wp2_with fail
  refine (rmul_q a b c d _ ha hb hc hd).mono ?_
  rintro e_9 w9 ⟨rfl, hb9⟩
  replace A := (A.alloc _).below hb9
  replace B := (B.alloc _).below hb9
  replace M := (M.alloc _).below hb9
  replace O := (O.alloc _).below hb9
  replace S := (S.alloc _).below hb9
  replace T := (T.alloc _).below hb9
  replace P := (P.alloc _).below hb9
  replace Q := (Q.alloc _).below hb9
  have U : Has w9 w8.heap.size #[.int .i64 (mulR a b c d).n, .int .i64 (mulR a b c d).d] := (Has.new _ _ _ rfl).below hb9
  replace hb9 := bel_on (bel_alloc hb8 _) hb9
  clear hb8 A0 A1 Az B0 B1 Bz
  obtain ⟨A0, A1, -, -⟩ := A.two
  have Az := A.size
  obtain ⟨B0, B1, -, -⟩ := B.two
  have Bz := B.size
  go_wp2_with fail
  refine (qdiv_any a b c d _ ha hb hc hd).mono ?_
  rintro e_10 w10 ⟨rfl, hb10⟩
  replace A := (A.alloc _).below hb10
  replace B := (B.alloc _).below hb10
  replace M := (M.alloc _).below hb10
  replace O := (O.alloc _).below hb10
  replace S := (S.alloc _).below hb10
  replace T := (T.alloc _).below hb10
  replace P := (P.alloc _).below hb10
  replace Q := (Q.alloc _).below hb10
  replace U := (U.alloc _).below hb10
  have V : Has w10 w9.heap.size #[.int .i64 (mulR a b c d).n, .int .i64 (mulR a b c d).d] := (Has.new _ _ _ rfl).below hb10
  replace hb10 := bel_on (bel_alloc hb9 _) hb10
  clear hb9 A0 A1 Az B0 B1 Bz
  obtain ⟨A0, A1, -, -⟩ := A.two
  have Az := A.size
  obtain ⟨B0, B1, -, -⟩ := B.two
  have Bz := B.size
  go_wp2_with fail
  refine (rdiv_q a b c d _ ha hb hc hd).mono ?_
  rintro e_11 w11 ⟨rfl, hb11⟩
  replace A := (A.alloc _).below hb11
  replace B := (B.alloc _).below hb11
  replace M := (M.alloc _).below hb11
  replace O := (O.alloc _).below hb11
  replace S := (S.alloc _).below hb11
  replace T := (T.alloc _).below hb11
  replace P := (P.alloc _).below hb11
  replace Q := (Q.alloc _).below hb11
  replace U := (U.alloc _).below hb11
  replace V := (V.alloc _).below hb11
  have X : Has w11 w10.heap.size #[.int .i64 (divR a b c d).n, .int .i64 (divR a b c d).d] := (Has.new _ _ _ rfl).below hb11
  replace hb11 := bel_on (bel_alloc hb10 _) hb11
  clear hb10 A0 A1 Az B0 B1 Bz
  obtain ⟨A0, A1, -, -⟩ := A.two
  have Az := A.size
  obtain ⟨B0, B1, -, -⟩ := B.two
  have Bz := B.size
  obtain ⟨M0, M1, -, -⟩ := M.two
  have Mz := M.size
  obtain ⟨O0, O1, -, -⟩ := O.two
  have Oz := O.size
  obtain ⟨S0, S1, -, -⟩ := S.two
  have Sz := S.size
  obtain ⟨T0, T1, -, -⟩ := T.two
  have Tz := T.size
  obtain ⟨P0, P1, -, -⟩ := P.two
  have Pz := P.size
  obtain ⟨Q0, Q1, -, -⟩ := Q.two
  have Qz := Q.size
  obtain ⟨U0, U1, -, -⟩ := U.two
  have Uz := U.size
  obtain ⟨V0, V1, -, -⟩ := V.two
  have Vz := V.size
  obtain ⟨X0, X1, -, -⟩ := X.two
  have Xz := X.size
  have Y := Has.new w11 24 #[.int .i64 (divR a b c d).n, .int .i64 (divR a b c d).d] rfl
  replace A := A.alloc (.cells #[.int .i64 (divR a b c d).n, .int .i64 (divR a b c d).d] 24)
  replace B := B.alloc (.cells #[.int .i64 (divR a b c d).n, .int .i64 (divR a b c d).d] 24)
  replace M := M.alloc (.cells #[.int .i64 (divR a b c d).n, .int .i64 (divR a b c d).d] 24)
  replace O := O.alloc (.cells #[.int .i64 (divR a b c d).n, .int .i64 (divR a b c d).d] 24)
  replace S := S.alloc (.cells #[.int .i64 (divR a b c d).n, .int .i64 (divR a b c d).d] 24)
  replace T := T.alloc (.cells #[.int .i64 (divR a b c d).n, .int .i64 (divR a b c d).d] 24)
  replace P := P.alloc (.cells #[.int .i64 (divR a b c d).n, .int .i64 (divR a b c d).d] 24)
  replace Q := Q.alloc (.cells #[.int .i64 (divR a b c d).n, .int .i64 (divR a b c d).d] 24)
  replace U := U.alloc (.cells #[.int .i64 (divR a b c d).n, .int .i64 (divR a b c d).d] 24)
  replace V := V.alloc (.cells #[.int .i64 (divR a b c d).n, .int .i64 (divR a b c d).d] 24)
  replace X := X.alloc (.cells #[.int .i64 (divR a b c d).n, .int .i64 (divR a b c d).d] 24)
  replace hb11 := bel_alloc hb11 (.cells #[.int .i64 (divR a b c d).n, .int .i64 (divR a b c d).d] 24)
  go_wp2_with fail
  clear A0 A1 Az B0 B1 Bz M0 M1 Mz O0 O1 Oz S0 S1 Sz T0 T1 Tz P0 P1 Pz Q0 Q1 Qz U0 U1 Uz V0 V1 Vz X0 X1 Xz M O S T P Q
  obtain ⟨A0, A1, -, -⟩ := A.two
  obtain ⟨B0, B1, -, -⟩ := B.two
  obtain ⟨U0, U1, -, -⟩ := U.two
  obtain ⟨V0, V1, -, -⟩ := V.two
  obtain ⟨X0, X1, -, -⟩ := X.two
  obtain ⟨Y0, Y1, -, -⟩ := Y.two
  have hbx1 := hb11
  clear hb11
  first | (go_region_held3 (fun w' => w'.cell? ⟨w.heap.size, 0, none⟩ = some (.int .i64 a) ∧ w'.cell? ⟨w.heap.size, 1, none⟩ = some (.int .i64 b) ∧ w'.cell? ⟨w.heap.size + 1, 0, none⟩ = some (.int .i64 c) ∧ w'.cell? ⟨w.heap.size + 1, 1, none⟩ = some (.int .i64 d) ∧ w'.cell? ⟨w8.heap.size, 0, none⟩ = some (.int .i64 (mulR a b c d).n) ∧ w'.cell? ⟨w8.heap.size, 1, none⟩ = some (.int .i64 (mulR a b c d).d) ∧ w'.cell? ⟨w9.heap.size, 0, none⟩ = some (.int .i64 (mulR a b c d).n) ∧ w'.cell? ⟨w9.heap.size, 1, none⟩ = some (.int .i64 (mulR a b c d).d) ∧ w'.cell? ⟨w10.heap.size, 0, none⟩ = some (.int .i64 (divR a b c d).n) ∧ w'.cell? ⟨w10.heap.size, 1, none⟩ = some (.int .i64 (divR a b c d).d) ∧ w'.cell? ⟨w11.heap.size, 0, none⟩ = some (.int .i64 (divR a b c d).n) ∧ w'.cell? ⟨w11.heap.size, 1, none⟩ = some (.int .i64 (divR a b c d).d)) (go_keep) (first | (go_at_call 20; (with_reducible refine (less_any a b c d _ ha hb hc hd).mono ?_); rintro e_r x1 ⟨rfl, hbn⟩; (first | (with_reducible replace A := A.below hbn) | replace A := A.drew.below hbn | replace A := (A.alloc _).drew.below hbn); (first | (with_reducible replace B := B.below hbn) | replace B := B.drew.below hbn | replace B := (B.alloc _).drew.below hbn); (first | (with_reducible replace U := U.below hbn) | replace U := U.drew.below hbn | replace U := (U.alloc _).drew.below hbn); (first | (with_reducible replace V := V.below hbn) | replace V := V.drew.below hbn | replace V := (V.alloc _).drew.below hbn); (first | (with_reducible replace X := X.below hbn) | replace X := X.drew.below hbn | replace X := (X.alloc _).drew.below hbn); (first | (with_reducible replace Y := Y.below hbn) | replace Y := Y.drew.below hbn | replace Y := (Y.alloc _).drew.below hbn); replace hbx1 := bel_on (show Below w.heap.size w _ by (repeat' (first | with_reducible exact Below.refl _ _ | with_reducible assumption | with_reducible refine bel_alloc ?_ _ | with_reducible refine bel_set ?_ ?_ _ | with_reducible refine below_drewN ?_ _ | with_reducible refine below_drew ?_ | (simp; done) | (simp; omega) | omega))) hbn; clear hbn; obtain ⟨A0, A1, -, -⟩ := A.two; obtain ⟨B0, B1, -, -⟩ := B.two; obtain ⟨U0, U1, -, -⟩ := U.two; obtain ⟨V0, V1, -, -⟩ := V.two; obtain ⟨X0, X1, -, -⟩ := X.two; obtain ⟨Y0, Y1, -, -⟩ := Y.two) | (go_at_call 21; (with_reducible refine (rless_q a b c d _ ha hb hc hd).mono ?_); rintro e_r x1 ⟨rfl, hbn⟩; (first | (with_reducible replace A := A.below hbn) | replace A := A.drew.below hbn | replace A := (A.alloc _).drew.below hbn); (first | (with_reducible replace B := B.below hbn) | replace B := B.drew.below hbn | replace B := (B.alloc _).drew.below hbn); (first | (with_reducible replace U := U.below hbn) | replace U := U.drew.below hbn | replace U := (U.alloc _).drew.below hbn); (first | (with_reducible replace V := V.below hbn) | replace V := V.drew.below hbn | replace V := (V.alloc _).drew.below hbn); (first | (with_reducible replace X := X.below hbn) | replace X := X.drew.below hbn | replace X := (X.alloc _).drew.below hbn); (first | (with_reducible replace Y := Y.below hbn) | replace Y := Y.drew.below hbn | replace Y := (Y.alloc _).drew.below hbn); replace hbx1 := bel_on (show Below w.heap.size w _ by (repeat' (first | with_reducible exact Below.refl _ _ | with_reducible assumption | with_reducible refine bel_alloc ?_ _ | with_reducible refine bel_set ?_ ?_ _ | with_reducible refine below_drewN ?_ _ | with_reducible refine below_drew ?_ | (simp; done) | (simp; omega) | omega))) hbn; clear hbn; obtain ⟨A0, A1, -, -⟩ := A.two; obtain ⟨B0, B1, -, -⟩ := B.two; obtain ⟨U0, U1, -, -⟩ := U.two; obtain ⟨V0, V1, -, -⟩ := V.two; obtain ⟨X0, X1, -, -⟩ := X.two; obtain ⟨Y0, Y1, -, -⟩ := Y.two) | (go_at_call 22; (with_reducible refine (rathalf_any a b _ ha hb).mono ?_); rintro e_r x1 ⟨rfl, hbn⟩; (first | (with_reducible replace A := A.below hbn) | replace A := A.drew.below hbn | replace A := (A.alloc _).drew.below hbn); (first | (with_reducible replace B := B.below hbn) | replace B := B.drew.below hbn | replace B := (B.alloc _).drew.below hbn); (first | (with_reducible replace U := U.below hbn) | replace U := U.drew.below hbn | replace U := (U.alloc _).drew.below hbn); (first | (with_reducible replace V := V.below hbn) | replace V := V.drew.below hbn | replace V := (V.alloc _).drew.below hbn); (first | (with_reducible replace X := X.below hbn) | replace X := X.drew.below hbn | replace X := (X.alloc _).drew.below hbn); (first | (with_reducible replace Y := Y.below hbn) | replace Y := Y.drew.below hbn | replace Y := (Y.alloc _).drew.below hbn); replace hbx1 := bel_on (show Below w.heap.size w _ by (repeat' (first | with_reducible exact Below.refl _ _ | with_reducible assumption | with_reducible refine bel_alloc ?_ _ | with_reducible refine bel_set ?_ ?_ _ | with_reducible refine below_drewN ?_ _ | with_reducible refine below_drew ?_ | (simp; done) | (simp; omega) | omega))) hbn; clear hbn; obtain ⟨A0, A1, -, -⟩ := A.two; obtain ⟨B0, B1, -, -⟩ := B.two; obtain ⟨U0, U1, -, -⟩ := U.two; obtain ⟨V0, V1, -, -⟩ := V.two; obtain ⟨X0, X1, -, -⟩ := X.two; obtain ⟨Y0, Y1, -, -⟩ := Y.two) | (go_at_call 23; (with_reducible refine (rhalf_q a b _ ha hb).mono ?_); rintro e_r x1 ⟨rfl, hbn⟩; (first | (with_reducible replace A := A.below hbn) | replace A := A.drew.below hbn | replace A := (A.alloc _).drew.below hbn); (first | (with_reducible replace B := B.below hbn) | replace B := B.drew.below hbn | replace B := (B.alloc _).drew.below hbn); (first | (with_reducible replace U := U.below hbn) | replace U := U.drew.below hbn | replace U := (U.alloc _).drew.below hbn); (first | (with_reducible replace V := V.below hbn) | replace V := V.drew.below hbn | replace V := (V.alloc _).drew.below hbn); (first | (with_reducible replace X := X.below hbn) | replace X := X.drew.below hbn | replace X := (X.alloc _).drew.below hbn); (first | (with_reducible replace Y := Y.below hbn) | replace Y := Y.drew.below hbn | replace Y := (Y.alloc _).drew.below hbn); replace hbx1 := bel_on (show Below w.heap.size w _ by (repeat' (first | with_reducible exact Below.refl _ _ | with_reducible assumption | with_reducible refine bel_alloc ?_ _ | with_reducible refine bel_set ?_ ?_ _ | with_reducible refine below_drewN ?_ _ | with_reducible refine below_drew ?_ | (simp; done) | (simp; omega) | omega))) hbn; clear hbn; obtain ⟨A0, A1, -, -⟩ := A.two; obtain ⟨B0, B1, -, -⟩ := B.two; obtain ⟨U0, U1, -, -⟩ := U.two; obtain ⟨V0, V1, -, -⟩ := V.two; obtain ⟨X0, X1, -, -⟩ := X.two; obtain ⟨Y0, Y1, -, -⟩ := Y.two) | (go_at_call 24; (with_reducible refine (check_any a b _ ha.1 ha.2 hb.1 hb.2).mono ?_); rintro e_r x1 ⟨rfl, hbn⟩; (first | (with_reducible replace A := A.below hbn) | replace A := A.drew.below hbn | replace A := (A.alloc _).drew.below hbn); (first | (with_reducible replace B := B.below hbn) | replace B := B.drew.below hbn | replace B := (B.alloc _).drew.below hbn); (first | (with_reducible replace U := U.below hbn) | replace U := U.drew.below hbn | replace U := (U.alloc _).drew.below hbn); (first | (with_reducible replace V := V.below hbn) | replace V := V.drew.below hbn | replace V := (V.alloc _).drew.below hbn); (first | (with_reducible replace X := X.below hbn) | replace X := X.drew.below hbn | replace X := (X.alloc _).drew.below hbn); (first | (with_reducible replace Y := Y.below hbn) | replace Y := Y.drew.below hbn | replace Y := (Y.alloc _).drew.below hbn); replace hbx1 := bel_on (show Below w.heap.size w _ by (repeat' (first | with_reducible exact Below.refl _ _ | with_reducible assumption | with_reducible refine bel_alloc ?_ _ | with_reducible refine bel_set ?_ ?_ _ | with_reducible refine below_drewN ?_ _ | with_reducible refine below_drew ?_ | (simp; done) | (simp; omega) | omega))) hbn; clear hbn; obtain ⟨A0, A1, -, -⟩ := A.two; obtain ⟨B0, B1, -, -⟩ := B.two; obtain ⟨U0, U1, -, -⟩ := U.two; obtain ⟨V0, V1, -, -⟩ := V.two; obtain ⟨X0, X1, -, -⟩ := X.two; obtain ⟨Y0, Y1, -, -⟩ := Y.two) | (go_at_call 25; (with_reducible refine (rcheck_any a b _ ha.1 ha.2 hb.1 hb.2).mono ?_); rintro e_r x1 ⟨rfl, hbn⟩; (first | (with_reducible replace A := A.below hbn) | replace A := A.drew.below hbn | replace A := (A.alloc _).drew.below hbn); (first | (with_reducible replace B := B.below hbn) | replace B := B.drew.below hbn | replace B := (B.alloc _).drew.below hbn); (first | (with_reducible replace U := U.below hbn) | replace U := U.drew.below hbn | replace U := (U.alloc _).drew.below hbn); (first | (with_reducible replace V := V.below hbn) | replace V := V.drew.below hbn | replace V := (V.alloc _).drew.below hbn); (first | (with_reducible replace X := X.below hbn) | replace X := X.drew.below hbn | replace X := (X.alloc _).drew.below hbn); (first | (with_reducible replace Y := Y.below hbn) | replace Y := Y.drew.below hbn | replace Y := (Y.alloc _).drew.below hbn); replace hbx1 := bel_on (show Below w.heap.size w _ by (repeat' (first | with_reducible exact Below.refl _ _ | with_reducible assumption | with_reducible refine bel_alloc ?_ _ | with_reducible refine bel_set ?_ ?_ _ | with_reducible refine below_drewN ?_ _ | with_reducible refine below_drew ?_ | (simp; done) | (simp; omega) | omega))) hbn; clear hbn; obtain ⟨A0, A1, -, -⟩ := A.two; obtain ⟨B0, B1, -, -⟩ := B.two; obtain ⟨U0, U1, -, -⟩ := U.two; obtain ⟨V0, V1, -, -⟩ := V.two; obtain ⟨X0, X1, -, -⟩ := X.two; obtain ⟨Y0, Y1, -, -⟩ := Y.two))) | fail
  go_wp2
  go_ret
  exact ⟨rfl, hbx1⟩

theorem ratioTells_walk (l : Option Addr) (len cap : Nat) (xs : List (Int × Int)) (a b c d n m : Int) (w : World) (hlen : xs.length = len) (hl : len ≤ 9223372036854775807) (hx : Rats w l xs) (ha : -9223372036854775808 ≤ a ∧ a ≤ 9223372036854775807) (hb : -9223372036854775808 ≤ b ∧ b ≤ 9223372036854775807) (hc : -9223372036854775808 ≤ c ∧ c ≤ 9223372036854775807) (hd : -9223372036854775808 ≤ d ∧ d ≤ 9223372036854775807) (hn : -9223372036854775808 ≤ n) (hn' : n ≤ 9223372036854775807) (hm : -9223372036854775808 ≤ m) (hm' : m ≤ 9223372036854775807) :
    Calls Try.prog 3 #[.slice l len cap, .agg #[.int .i64 a, .int .i64 b], .agg #[.int .i64 c, .int .i64 d], .int .i64 n, .int .i64 m] w fun e w' => e = .returned (.bool true) ∧ Below w.heap.size w w' := by
  by_cases h : 1000 < len
  · exact ratioTells_long l len cap xs a b c d n m w hlen hl hx ha hb hc hd hn hn' hm hm' h
  · exact ratioTells_short l len cap xs a b c d n m w hlen hl hx ha hb hc hd hn hn' hm hm' (by omega)
end Go.Proofs.Ytlennhfjninclaa
