/-
  Package pack: a text taken.
-/
import Derived.Test.YtmmjkpdmjpoidaaPkE
import Derived.Test.YtmmjkpdmjpoidaaOrders
namespace Go.Proofs.Ytmmjkpdmjpoidaa
open Go.RowKit
set_option linter.unusedVariables false

set_option maxHeartbeats 1000000 in
theorem taketext_ok (A : Option Addr) (m c : Nat) (l x y : List (BitVec 8)) (w : World) (hx : Sl 1 w A m c (bytesV l)) (hml : m ≤ 1000000000000) (hmc : m ≤ c) (ht : takeTextB l = some (x, y)) :
    Calls Try.prog 13 #[.slice A m c] w fun e w' => ∃ A1 c1 A2 c2, e = .returned (.tuple #[.slice A1 x.length c1, .slice A2 y.length c2, .int .i64 0]) ∧ BRow w' w.heap.size A1 c1 x ∧ BRow w' w.heap.size A2 c2 y ∧ Below w.heap.size w w' := by
  have hm := hx.blen
  obtain ⟨n, t, hk, hnt, rfl, rfl⟩ : ∃ n t, takeB l = some (n, t) ∧ n ≤ t.length ∧ t.take n = x ∧ t.drop n = y := by
    cases hk : takeB l with
    | none => simp only [takeTextB, hk] at ht; cases ht
    | some p =>
      obtain ⟨n, t⟩ := p
      simp only [takeTextB, hk] at ht
      rcases Nat.lt_or_ge t.length n with q | q
      · rw [if_pos q] at ht; cases ht
      · rw [if_neg (by omega)] at ht
        simp only [Option.some.injEq, Prod.mk.injEq] at ht
        exact ⟨n, t, rfl, q, ht.1, ht.2⟩
  have hn := (take_own hk).2
  obtain ⟨hl, h1, hdr⟩ := take_lens hk
  have HF := Lib.hid (first_any A m c l n _ w (byts_of_sl hx) hm hml (first_some hk))
  obtain ⟨A2, hcut, hs⟩ := cut_from hx hmc (oneB n).length (by omega)
  rw [hdr] at hs
  have hq : m - (oneB n).length = t.length := by omega
  have hq' : t.length ≤ c - (oneB n).length := by omega
  generalize (oneB n).length = o at *
  generalize c - o = q' at *
  rw [hq] at hs hcut
  have ht1 : (t.take n).length = n := by rw [List.length_take]; omega
  have ht2 : (t.drop n).length = t.length - n := by rw [List.length_drop]
  rw [ht1, ht2]
  obtain ⟨A3, hcut3, hs3⟩ := cut_to hs (by omega) n hnt
  obtain ⟨A4, hcut4, hs4⟩ := cut_from hs (by omega) n hnt
  have hqm : t.length ≤ 1000000000000 := by omega
  generalize t.length = q at *
  have HC := Lib.hid hcut
  have HC3 := Lib.hid hcut3
  have HC4 := Lib.hid hcut4
  have HS3 := Lib.hid hs3
  have HS4 := Lib.hid hs4
  clear hs hcut hcut3 hcut4 hs3 hs4 hdr hl hx hm ht hk ht1 ht2 hq
  have h1' : ((o : Int) == 0) = false := by simp; omega
  have h2' : ¬ (q : Int) < (n : Int) := by omega
  go_enter Try.func13, Try.ntmps13
  go_wp2_with fail
  refine HF.out.mono ?_
  rintro e w' ⟨rfl, rfl⟩
  go_wp2_with (refine wpList_slice_run (o := ⟨some 17, _, _, _, _, _⟩) HC.out rfl rfl rfl rfl rfl rfl ?_)
  refine wp_region_noPanic ?_
  refine wp_region_held_drew (S := fun w' => Below w.heap.size w w') (by kernel_rfl) (below_drew (Below.refl _ _)) (fun hHeld => ?_)
  refine wpAnyH_take (i := 0) (oi := ⟨some 22, _, _, _, _, _⟩) (v := ?_) rfl (by kernel_rfl) (by kernel_rfl) (by kernel_rfl) (fun _ _ _ h => h) (Or.inl ⟨by rfl, ?_⟩) hHeld ?_
  rotate_left
  · intro ww hSw
    (try dsimp only at hSw)
    go_simp
    (try with_reducible rfl)
  simp only [Act.put, List.setIfInBounds_toArray, List.set_cons_zero, List.set_cons_succ]
  refine wpAnyH_take (i := 1) (oi := ⟨some 23, _, _, _, _, _⟩) (v := ?_) rfl (by kernel_rfl) (by kernel_rfl) (by kernel_rfl) (fun _ _ _ h => h) (Or.inl ⟨by rfl, ?_⟩) hHeld ?_
  rotate_left
  · intro ww hSw
    (try dsimp only at hSw)
    go_simp
    (try with_reducible rfl)
  simp only [Act.put, List.setIfInBounds_toArray, List.set_cons_zero, List.set_cons_succ]
  refine wpAnyH_take (i := 2) (oi := ⟨some 24, _, _, _, _, _⟩) (v := .slice A3 n q') rfl (by kernel_rfl) (by kernel_rfl) (by kernel_rfl) (fun _ _ _ h => h) (Or.inl ⟨by rfl, ?_⟩) hHeld ?_
  · intro ww hSw
    (try dsimp only at hSw)
    exact exec_slice_run HC3.out rfl rfl rfl rfl rfl
  simp only [Act.put, List.setIfInBounds_toArray, List.set_cons_zero, List.set_cons_succ]
  refine wpAnyH_take (i := 4) (oi := ⟨some 26, _, _, _, _, _⟩) (v := ?_) rfl (by kernel_rfl) (by kernel_rfl) (by kernel_rfl) (fun _ _ _ h => h) (Or.inl ⟨by rfl, ?_⟩) hHeld ?_
  rotate_left
  · intro ww hSw
    (try dsimp only at hSw)
    go_simp
    (try with_reducible rfl)
  simp only [Act.put, List.setIfInBounds_toArray, List.set_cons_zero, List.set_cons_succ]
  refine wpAnyH_take (i := 5) (oi := ⟨some 27, _, _, _, _, _⟩) (v := ?_) rfl (by kernel_rfl) (by kernel_rfl) (by kernel_rfl) (fun _ _ _ h => h) (Or.inl ⟨by rfl, ?_⟩) hHeld ?_
  rotate_left
  · intro ww hSw
    (try dsimp only at hSw)
    go_simp
    (try with_reducible rfl)
  simp only [Act.put, List.setIfInBounds_toArray, List.set_cons_zero, List.set_cons_succ]
  refine wpAnyH_take (i := 6) (oi := ⟨some 28, _, _, _, _, _⟩) (v := .slice A4 (q - n) (q' - n)) rfl (by kernel_rfl) (by kernel_rfl) (by kernel_rfl) (fun _ _ _ h => h) (Or.inl ⟨by rfl, ?_⟩) hHeld ?_
  · intro ww hSw
    (try dsimp only at hSw)
    exact exec_slice_run HC4.out rfl rfl rfl rfl rfl
  simp only [Act.put, List.setIfInBounds_toArray, List.set_cons_zero, List.set_cons_succ]
  refine wpAnyH_ready (rs := [3]) (by kernel_rfl) (by simp) ?_
  refine AllReadyH.cons (o := ⟨some 25, _, _, _, _, _⟩) rfl (fun K hK => ?_) AllReadyH.nil
  go_simp
  go_at_call 22
  refine (clone_any A3 n q' (t.take n) _ (HS3.out.below (show Below w.heap.size w _ by (repeat' (first | with_reducible exact Below.refl _ _ | with_reducible assumption | with_reducible refine bel_alloc ?_ _ | with_reducible refine bel_set ?_ ?_ _ | with_reducible refine below_drewN ?_ _ | with_reducible refine below_drew ?_ | (simp; done) | (simp; omega) | omega)))) (by omega)).mono ?_
  rintro e_r x1 ⟨B1, d1, rfl, hrow1, hbn⟩
  have hbx1 : Below w.heap.size w x1 := bel_on (show Below w.heap.size w _ by (repeat' (first | with_reducible exact Below.refl _ _ | with_reducible assumption | with_reducible refine bel_alloc ?_ _ | with_reducible refine bel_set ?_ ?_ _ | with_reducible refine below_drewN ?_ _ | with_reducible refine below_drew ?_ | (simp; done) | (simp; omega) | omega))) hbn
  clear hbn
  go_wp2_with fail
  refine hK.out _ _ ?_ (fun hHeld => ?_)
  · (try dsimp only)
    exact hbx1
  clear hK K
  (try simp only [Act.put, List.setIfInBounds_toArray, List.set_cons_zero, List.set_cons_succ])
  refine wpAnyH_ready (rs := [7]) (by kernel_rfl) (by simp) ?_
  refine AllReadyH.cons (o := ⟨some 29, _, _, _, _, _⟩) rfl (fun K hK => ?_) AllReadyH.nil
  go_simp
  go_at_call 22
  refine (clone_any A4 (q - n) (q' - n) (t.drop n) _ (HS4.out.below (show Below w.heap.size w _ by (repeat' (first | with_reducible exact Below.refl _ _ | with_reducible assumption | with_reducible refine bel_alloc ?_ _ | with_reducible refine bel_set ?_ ?_ _ | with_reducible refine below_drewN ?_ _ | with_reducible refine below_drew ?_ | (simp; done) | (simp; omega) | omega)))) (by omega)).mono ?_
  rintro e_r x2 ⟨B2, d2, rfl, hrow2, hbn⟩
  have hrow1' := hrow1.below hbn
  have hbx2 : Below w.heap.size w x2 := bel_on (show Below w.heap.size w _ by (repeat' (first | with_reducible exact Below.refl _ _ | with_reducible assumption | with_reducible refine bel_alloc ?_ _ | with_reducible refine bel_set ?_ ?_ _ | with_reducible refine below_drewN ?_ _ | with_reducible refine below_drew ?_ | (simp; done) | (simp; omega) | omega))) hbn
  clear hbn
  go_wp2_with fail
  refine hK.out _ _ ?_ (fun hHeld => ?_)
  · (try dsimp only)
    exact hbx2
  clear hK K
  (try simp only [Act.put, List.setIfInBounds_toArray, List.set_cons_zero, List.set_cons_succ])
  refine wpAnyH_take (i := 8) (oi := ⟨some 2, _, _, _, _, _⟩) (v := ?_) rfl (by kernel_rfl) (by kernel_rfl) (by kernel_rfl) (fun _ _ _ h => h) (Or.inl ⟨by rfl, ?_⟩) hHeld ?_
  rotate_left
  · intro ww hSw
    (try dsimp only at hSw)
    go_simp
    (try with_reducible rfl)
  simp only [Act.put, List.setIfInBounds_toArray, List.set_cons_zero, List.set_cons_succ]
  refine wpAnyH_take (i := 9) (oi := ⟨some 3, _, _, _, _, _⟩) (v := ?_) rfl (by kernel_rfl) (by kernel_rfl) (by kernel_rfl) (fun _ _ _ h => h) (Or.inl ⟨by rfl, ?_⟩) hHeld ?_
  rotate_left
  · intro ww hSw
    (try dsimp only at hSw)
    go_simp
    (try with_reducible rfl)
  simp only [Act.put, List.setIfInBounds_toArray, List.set_cons_zero, List.set_cons_succ]
  refine wpAnyH_take (i := 10) (oi := ⟨some 4, _, _, _, _, _⟩) (v := ?_) rfl (by kernel_rfl) (by kernel_rfl) (by kernel_rfl) (fun _ _ _ h => h) (Or.inl ⟨by rfl, ?_⟩) hHeld ?_
  rotate_left
  · intro ww hSw
    (try dsimp only at hSw)
    go_simp
    (try with_reducible rfl)
  simp only [Act.put, List.setIfInBounds_toArray, List.set_cons_zero, List.set_cons_succ]
  refine wpAnyH_done (by kernel_rfl) ?_ _
  refine NoPanic.normal ?_
  go_wp2
  go_ret3
  exact ⟨B1, d1, B2, d2, rfl, hrow1', hrow2.mono hbx1.size, hbx2⟩
end Go.Proofs.Ytmmjkpdmjpoidaa
