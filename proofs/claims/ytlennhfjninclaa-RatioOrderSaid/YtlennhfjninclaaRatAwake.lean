/-
  The law's own head of layer 2, 'awake', answers true; what was there is left as it was.
-/
import Derived.Test.YtlennhfjninclaaRatD
namespace Go.Proofs.Ytlennhfjninclaa
open Go.RowKit
set_option linter.unusedVariables false

set_option maxRecDepth 100000 in
set_option maxHeartbeats 1000000 in
theorem awake2 (w : World) :
    Calls Try.prog 9 #[] w fun e w' => e = .returned (.bool true) ∧ Below w.heap.size w w' := by
  go_enter Try.func9, Try.ntmps9
  go_wp2_with fail
  refine (ratsum_two 1 6 1 3 _ _ _ (by simp) (by omega) (by omega) (by omega) (by omega)).mono ?_
  rw [show plusR 1 6 1 3 = ⟨1, 2, 0⟩ by rfl]
  rintro e w1 ⟨rfl, hb1⟩
  have H0 : Has w1 w.heap.size #[.int .i64 1, .int .i64 2] := (Has.new _ _ _ rfl).below hb1
  replace hb1 := bel_on (show Below w.heap.size w _ by (repeat' (first | with_reducible exact Below.refl _ _ | with_reducible assumption | with_reducible refine bel_alloc ?_ _ | with_reducible refine bel_set ?_ ?_ _ | with_reducible refine below_drewN ?_ _ | with_reducible refine below_drew ?_ | (simp; done) | (simp; omega) | omega))) hb1
  obtain ⟨c0, c1, _, _⟩ := H0.two
  have z0 := H0.size
  go_wp2_with fail
  refine (qmul_any 1 2 (-2) 3 _ (by omega) (by omega) (by omega) (by omega)).mono ?_
  rw [show mulR 1 2 (-2) 3 = ⟨-1, 3, 0⟩ by rfl]
  clear c0 c1 z0
  rintro e w2 ⟨rfl, hb2⟩
  replace H0 := (H0.alloc _).below hb2
  have H1 : Has w2 w1.heap.size #[.int .i64 1, .int .i64 2] := (Has.new _ _ _ rfl).below hb2
  replace hb2 := bel_on (bel_alloc hb1 _) hb2
  clear hb1
  obtain ⟨c0, c1, _, _⟩ := H0.two
  have z0 := H0.size
  go_wp2_with fail
  refine (qdiv_any 1 2 3 4 _ (by omega) (by omega) (by omega) (by omega)).mono ?_
  rw [show divR 1 2 3 4 = ⟨2, 3, 0⟩ by rfl]
  clear c0 c1 z0
  rintro e w3 ⟨rfl, hb3⟩
  replace H0 := (H0.alloc _).below hb3
  replace H1 := (H1.alloc _).below hb3
  have H2 : Has w3 w2.heap.size #[.int .i64 (-1), .int .i64 3] := (Has.new _ _ _ rfl).below hb3
  replace hb3 := bel_on (bel_alloc hb2 _) hb3
  clear hb2
  obtain ⟨c0, c1, _, _⟩ := H0.two
  have z0 := H0.size
  go_wp2_with fail
  refine (qdiv_any 1 2 0 1 _ (by omega) (by omega) (by omega) (by omega)).mono ?_
  rw [show divR 1 2 0 1 = ⟨0, 0, 20⟩ by rfl]
  clear c0 c1 z0
  rintro e w4 ⟨rfl, hb4⟩
  replace H0 := (H0.alloc _).below hb4
  replace H1 := (H1.alloc _).below hb4
  replace H2 := (H2.alloc _).below hb4
  have H3 : Has w4 w3.heap.size #[.int .i64 2, .int .i64 3] := (Has.new _ _ _ rfl).below hb4
  replace hb4 := bel_on (bel_alloc hb3 _) hb4
  clear hb3
  go_wp2_with fail
  refine (make_any 1 2147483648 _ (by omega) (by omega) (by omega) (by omega)).mono ?_
  rw [show mkN 1 2147483648 = 0 by rfl, show mkD 1 2147483648 = 0 by rfl, show mkC 1 2147483648 = 10 by rfl]
  rintro e w5 ⟨rfl, hb5⟩
  replace H0 := (H0.alloc _).below hb5
  replace H1 := (H1.alloc _).below hb5
  replace H2 := (H2.alloc _).below hb5
  replace H3 := (H3.alloc _).below hb5
  replace hb5 := bel_on (bel_alloc hb4 _) hb5
  clear hb4
  obtain ⟨c0, c1, _, _⟩ := H0.two
  have z0 := H0.size
  go_wp2_with fail
  refine (qminus_any 1 2 1 2 _ (by omega) (by omega) (by omega) (by omega)).mono ?_
  rw [show minusR 1 2 1 2 = ⟨0, 1, 0⟩ by rfl]
  clear c0 c1 z0
  rintro e w6 ⟨rfl, hb6⟩
  replace H0 := (H0.alloc _).below hb6
  replace H1 := (H1.alloc _).below hb6
  replace H2 := (H2.alloc _).below hb6
  replace H3 := (H3.alloc _).below hb6
  replace hb6 := bel_on (bel_alloc hb5 _) hb6
  clear hb5
  obtain ⟨c0, c1, _, _⟩ := H0.two
  obtain ⟨c2, c3, _, _⟩ := H1.two
  obtain ⟨c4, c5, _, _⟩ := H2.two
  obtain ⟨c6, c7, _, _⟩ := H3.two
  have z0 := H0.size
  have z1 := H1.size
  have z2 := H2.size
  have z3 := H3.size
  go_wp2_with fail
  refine (rathalf_any (-7) 2 _ (by omega) (by omega)).mono ?_
  rw [show halfR (-7) 2 = -3 by rfl]
  rintro e w7 ⟨rfl, hb7⟩
  replace H0 := (H0.alloc _).below hb7
  replace hb7 := bel_on (bel_alloc hb6 _) hb7
  clear hb6 c0 c1 c2 c3 c4 c5 c6 c7 z0 z1 z2 z3
  obtain ⟨c0, c1, _, _⟩ := H0.two
  have z0 := H0.size
  go_wp2_with fail
  refine (less_any 1 3 1 2 _ (by omega) (by omega) (by omega) (by omega)).mono ?_
  rw [show lessB 1 3 1 2 = true by rfl]
  rintro e w8 ⟨rfl, hb8⟩
  replace hb8 := bel_on hb7 hb8
  clear hb7
  go_wp2_with fail
  refine (check_any 0 0 _ (by omega) (by omega) (by omega) (by omega)).mono ?_
  rw [show mayB 0 0 = false by rfl]
  rintro e w9 ⟨rfl, hb9⟩
  replace hb9 := bel_on hb8 hb9
  clear hb8
  go_wp2
  go_ret
  exact ⟨rfl, hb9⟩
end Go.Proofs.Ytlennhfjninclaa
