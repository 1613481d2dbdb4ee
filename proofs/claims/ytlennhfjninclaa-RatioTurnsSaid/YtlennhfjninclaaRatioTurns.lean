/-
  The walk of the law RatioTurns: it answers true, and leaves what was there as it was.
-/
import Derived.Test.YtlennhfjninclaaRatAwake
namespace Go.Proofs.Ytlennhfjninclaa
open Go.RowKit
set_option linter.unusedVariables false

set_option maxRecDepth 100000 in
set_option maxHeartbeats 1000000 in
theorem ratioTurns_walk (a b c d : Int) (w : World) (ha : -9223372036854775808 ≤ a ∧ a ≤ 9223372036854775807) (hb : -9223372036854775808 ≤ b ∧ b ≤ 9223372036854775807) (hc : -9223372036854775808 ≤ c ∧ c ≤ 9223372036854775807) (hd : -9223372036854775808 ≤ d ∧ d ≤ 9223372036854775807) :
    Calls Try.prog 5 #[.agg #[.int .i64 a, .int .i64 b], .agg #[.int .i64 c, .int .i64 d]] w fun e w' => e = .returned (.bool true) ∧ Below w.heap.size w w' := by
  have SB := rat_i64 _ (plusR_may a b c d) (plusR_z a b c d)
  have MB := rat_i64 _ (mulR_may a b c d) (mulR_z a b c d)
  have PC := Lib.hid (plusR_comm c d a b)
  have MC := Lib.hid (mulR_comm c d a b)
  have PB := Lib.hid (plus_back (a := a) (b := b) (c := c) (d := d))
  have DB := Lib.hid (mul_back_r (a := a) (b := b) (c := c) (d := d))
  go_enter Try.func5, Try.ntmps5
  go_wp2_with fail
  refine (awake2 _).mono ?_
  rintro e w1 ⟨rfl, hb1⟩
  have A1 : Has w1 w.heap.size #[.int .i64 a, .int .i64 b] := ((Has.new _ _ _ rfl).alloc _).below hb1
  have A2 : Has w1 (w.heap.size + 1) #[.int .i64 c, .int .i64 d] := (Has.new _ _ _ (by simp)).below hb1
  replace hb1 := bel_on (show Below w.heap.size w _ by (repeat' (first | with_reducible exact Below.refl _ _ | with_reducible assumption | with_reducible refine bel_alloc ?_ _ | with_reducible refine bel_set ?_ ?_ _ | with_reducible refine below_drewN ?_ _ | with_reducible refine below_drew ?_ | (simp; done) | (simp; omega) | omega))) hb1
  obtain ⟨c0, c1, _, _⟩ := A1.two
  obtain ⟨c2, c3, _, _⟩ := A2.two
  go_wp2_with fail
  refine (ratsum_two a b c d _ _ _ rfl ha hb hc hd).mono ?_
  rintro e w2 ⟨rfl, hb2⟩
  replace A1 := A1.below hb2
  replace A2 := A2.below hb2
  replace hb2 := bel_on hb1 hb2
  clear hb1 c0 c1 c2 c3
  obtain ⟨c0, c1, _, _⟩ := A1.two
  obtain ⟨c2, c3, _, _⟩ := A2.two
  have z1 := A1.size
  have z2 := A2.size
  go_wp2_with fail
  refine (ratsum_two c d a b _ _ _ (by simp) hc hd ha hb).mono ?_
  rw [PC.out]
  rintro e w3 ⟨rfl, hb3⟩
  have S1 : Has w3 w2.heap.size #[.int .i64 (plusR a b c d).n, .int .i64 (plusR a b c d).d] := (Has.new _ _ _ rfl).below hb3
  replace A1 := (A1.alloc _).below hb3
  replace A2 := (A2.alloc _).below hb3
  replace hb3 := bel_on (bel_alloc hb2 _) hb3
  clear hb2 c0 c1 c2 c3 z1 z2
  obtain ⟨c0, c1, _, _⟩ := A1.two
  obtain ⟨c2, c3, _, _⟩ := A2.two
  have z1 := A1.size
  have z2 := A2.size
  go_wp2_with fail
  refine (qmul_any a b c d _ ha hb hc hd).mono ?_
  rintro e w4 ⟨rfl, hb4⟩
  have S2 : Has w4 w3.heap.size #[.int .i64 (plusR a b c d).n, .int .i64 (plusR a b c d).d] := (Has.new _ _ _ rfl).below hb4
  replace S1 := (S1.alloc _).below hb4
  replace A1 := (A1.alloc _).below hb4
  replace A2 := (A2.alloc _).below hb4
  replace hb4 := bel_on (bel_alloc hb3 _) hb4
  clear hb3 c0 c1 c2 c3 z1 z2
  obtain ⟨c0, c1, _, _⟩ := A1.two
  obtain ⟨c2, c3, _, _⟩ := A2.two
  have z1 := A1.size
  have z2 := A2.size
  go_wp2_with fail
  refine (qmul_any c d a b _ hc hd ha hb).mono ?_
  rw [MC.out]
  rintro e w5 ⟨rfl, hb5⟩
  have M1 : Has w5 w4.heap.size #[.int .i64 (mulR a b c d).n, .int .i64 (mulR a b c d).d] := (Has.new _ _ _ rfl).below hb5
  replace S1 := (S1.alloc _).below hb5
  replace S2 := (S2.alloc _).below hb5
  replace A1 := (A1.alloc _).below hb5
  replace A2 := (A2.alloc _).below hb5
  replace hb5 := bel_on (bel_alloc hb4 _) hb5
  clear hb4 c0 c1 c2 c3 z1 z2
  obtain ⟨c0, c1, _, _⟩ := S1.two
  obtain ⟨c2, c3, _, _⟩ := A2.two
  have z1 := S1.size
  have z2 := A2.size
  go_wp2_with fail
  refine (qminus_any _ _ c d _ SB.1 SB.2 hc hd).mono ?_
  rintro e w6 ⟨rfl, hb6⟩
  have M2 : Has w6 w5.heap.size #[.int .i64 (mulR a b c d).n, .int .i64 (mulR a b c d).d] := (Has.new _ _ _ rfl).below hb6
  replace S1 := (S1.alloc _).below hb6
  replace S2 := (S2.alloc _).below hb6
  replace M1 := (M1.alloc _).below hb6
  replace A1 := (A1.alloc _).below hb6
  replace A2 := (A2.alloc _).below hb6
  replace hb6 := bel_on (bel_alloc hb5 _) hb6
  clear hb5 c0 c1 c2 c3 z1 z2
  obtain ⟨c0, c1, _, _⟩ := M1.two
  obtain ⟨c2, c3, _, _⟩ := A2.two
  have z1 := M1.size
  have z2 := A2.size
  go_wp2_with fail
  refine (qdiv_any _ _ c d _ MB.1 MB.2 hc hd).mono ?_
  rintro e w7 ⟨rfl, hb7⟩
  have B1 : Has w7 w6.heap.size #[.int .i64 (minusR (plusR a b c d).n (plusR a b c d).d c d).n, .int .i64 (minusR (plusR a b c d).n (plusR a b c d).d c d).d] := (Has.new _ _ _ rfl).below hb7
  replace S1 := (S1.alloc _).below hb7
  replace S2 := (S2.alloc _).below hb7
  replace M1 := (M1.alloc _).below hb7
  replace M2 := (M2.alloc _).below hb7
  replace A1 := (A1.alloc _).below hb7
  replace A2 := (A2.alloc _).below hb7
  replace hb7 := bel_on (bel_alloc hb6 _) hb7
  clear hb6 c0 c1 c2 c3 z1 z2
  obtain ⟨c0, c1, _, _⟩ := S1.two
  obtain ⟨c2, c3, _, _⟩ := S2.two
  obtain ⟨c4, c5, _, _⟩ := M1.two
  obtain ⟨c6, c7, _, _⟩ := M2.two
  obtain ⟨c8, c9, _, _⟩ := A1.two
  obtain ⟨d0, d1, _, _⟩ := A2.two
  obtain ⟨d2, d3, _, _⟩ := B1.two
  have z1 := S1.size
  have z2 := S2.size
  have z3 := M1.size
  have z4 := M2.size
  have z5 := A1.size
  have z6 := A2.size
  have z7 := B1.size
  clear S1 S2 M1 M2 A1 A2 B1 PC MC SB MB
  generalize minusR (plusR a b c d).n (plusR a b c d).d c d = x at *
  generalize divR (mulR a b c d).n (mulR a b c d).d c d = y at *
  generalize plusR a b c d = s at *
  generalize mulR a b c d = m at *
  by_cases hs : s.c = 0
  · obtain rfl := PB.out hs
    have g1 : (s.c == 0) = true := by simpa using hs
    have g2 : (s.c != 0) = false := by simpa using hs
    clear hs PB
    by_cases hm : m.c = 0
    · by_cases hc1 : 1 ≤ c
      · obtain rfl := DB.out hm hc1
        have g3 : (m.c == 0) = true := by simpa using hm
        have g4 : (m.c != 0) = false := by simpa using hm
        clear hm DB
        go_wp2
        go_ret
        exact ⟨rfl, bel_alloc hb7 _⟩
      · have g3 : (m.c == 0) = true := by simpa using hm
        have g4 : (m.c != 0) = false := by simpa using hm
        have g5 : c < 1 := by omega
        clear hm DB hc1
        go_wp2
        go_ret
        exact ⟨rfl, bel_alloc hb7 _⟩
    · have g3 : (m.c == 0) = false := by simpa using hm
      have g4 : (m.c != 0) = true := by simpa using hm
      clear hm DB
      go_wp2
      go_ret
      exact ⟨rfl, bel_alloc hb7 _⟩
  · have g1 : (s.c == 0) = false := by simpa using hs
    have g2 : (s.c != 0) = true := by simpa using hs
    clear hs PB
    by_cases hm : m.c = 0
    · by_cases hc1 : 1 ≤ c
      · obtain rfl := DB.out hm hc1
        have g3 : (m.c == 0) = true := by simpa using hm
        have g4 : (m.c != 0) = false := by simpa using hm
        clear hm DB
        go_wp2
        go_ret
        exact ⟨rfl, bel_alloc hb7 _⟩
      · have g3 : (m.c == 0) = true := by simpa using hm
        have g4 : (m.c != 0) = false := by simpa using hm
        have g5 : c < 1 := by omega
        clear hm DB hc1
        go_wp2
        go_ret
        exact ⟨rfl, bel_alloc hb7 _⟩
    · have g3 : (m.c == 0) = false := by simpa using hm
      have g4 : (m.c != 0) = true := by simpa using hm
      clear hm DB
      go_wp2
      go_ret
      exact ⟨rfl, bel_alloc hb7 _⟩
end Go.Proofs.Ytlennhfjninclaa
