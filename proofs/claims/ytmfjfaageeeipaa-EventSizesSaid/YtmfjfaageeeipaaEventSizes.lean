/-
  The walk of the law EventSizes: it answers true, and leaves what was there as it was.
-/
import Derived.Test.YtmfjfaageeeipaaEventCuts
namespace Go.Proofs.Ytmfjfaageeeipaa
open Go.RowKit
set_option linter.unusedVariables false
set_option linter.unusedSimpArgs false
set_option maxRecDepth 20000

theorem size_eq (z : Int) (hz : 0 ≤ z ∧ z ≤ 9223372036854775807) (o : Nat) (ho : (oneB z.toNat).length = o) (w : World) : Calls Try.prog 22 #[.int .i64 z] w fun e w' => e = .returned (.int .i64 (o : Nat)) ∧ w = w' := by
  subst ho
  have := size_at z.toNat w (by omega)
  rw [Int.toNat_of_nonneg hz.1] at this
  exact this
theorem bytesN_len (l : List Int) : (bytesN l).length = (l.map fun n => (oneB n.toNat).length).sum := ev_size_nums l
theorem one_nine (z : Int) (hz : 0 ≤ z ∧ z ≤ 9223372036854775807) : (oneB z.toNat).length ≤ 9 := one_le _ (by omega)
theorem eventSizes_no (a : EvP) (w : World) (ha : a.In) (hf : ¬ a.Fair) :
    Calls Try.prog 7 #[.agg (evC a)] w fun e w' => e = .returned (.bool true) ∧ Below w.heap.size w w' := by
  have hz := evC_size a
  have HP := Lib.hid (fun w => putE_bad none 0 0 a w ha hf)
  generalize evC a = cs at *
  have HZ := Lib.hid hz
  clear hf ha hz
  go_enter Try.func7, Try.ntmps7
  go_wp2_with fail
  refine (awake8 _).mono ?_
  rintro e w1 ⟨rfl, b1⟩
  have HE := Lib.hid ((Has.new w 33 cs rfl).below b1)
  have hb1 := bel_on (bel_alloc (Below.refl w.heap.size w) _) b1
  clear b1
  go_wp2_with (refine wpList_load_e (by rfl) _ rfl w.heap.size rfl cs HE.out HZ.out ?_)
  refine (HP.out _).mono ?_
  rintro e w2 ⟨rfl, b2⟩
  go_wp2
  go_ret
  exact ⟨rfl, bel_on hb1 b2⟩
set_option maxHeartbeats 4000000 in
theorem eventSizes_task (a : EvP) (w : World) (hf : a.Fair) (hk : a.kd = 3) :
    Calls Try.prog 7 #[.agg (evC a)] w fun e w' => e = .returned (.bool true) ∧ Below w.heap.size w w' := by
  have hnn : a.nums = [a.id, a.wk, a.tm, a.kd, a.fr, a.to, a.el, a.un, a.cl, a.ge] := by unfold EvP.nums; rw [if_pos hk, if_neg (by omega)]; rfl
  have hlen : a.bytes.length = (oneB a.id.toNat).length + (oneB a.wk.toNat).length + (oneB a.tm.toNat).length + (oneB a.kd.toNat).length + (oneB a.fr.toNat).length + (oneB a.to.toNat).length + (oneB a.el.toNat).length + (oneB a.un.toNat).length + (oneB a.cl.toNat).length + (oneB a.ge.toNat).length := by
    unfold EvP.bytes
    rw [hnn, bytesN_len]
    simp only [List.map_cons, List.map_nil, List.sum_cons, List.sum_nil]
    omega
  have r0 : 0 ≤ a.id ∧ a.id ≤ 9223372036854775807 := by have := hf.id; omega
  have l0 := one_nine a.id r0
  have H0 := Lib.hid (size_eq a.id r0 _ rfl)
  have c0 : (evC a)[0]? = some (.int .i64 a.id) := rfl
  have C0 := Lib.hid c0
  have r1 : 0 ≤ a.wk ∧ a.wk ≤ 9223372036854775807 := by have := hf.wk; omega
  have l1 := one_nine a.wk r1
  have H1 := Lib.hid (size_eq a.wk r1 _ rfl)
  have c1 : (evC a)[1]? = some (.int .i64 a.wk) := rfl
  have C1 := Lib.hid c1
  have r2 : 0 ≤ a.tm ∧ a.tm ≤ 9223372036854775807 := by have := hf.tm; omega
  have l2 := one_nine a.tm r2
  have H2 := Lib.hid (size_eq a.tm r2 _ rfl)
  have c2 : (evC a)[2]? = some (.int .i64 a.tm) := rfl
  have C2 := Lib.hid c2
  have r3 : 0 ≤ a.kd ∧ a.kd ≤ 9223372036854775807 := by have := hf.kd; omega
  have l3 := one_nine a.kd r3
  have H3 := Lib.hid (size_eq a.kd r3 _ rfl)
  have c3 : (evC a)[3]? = some (.int .i64 a.kd) := rfl
  have C3 := Lib.hid c3
  have r4 : 0 ≤ a.fr ∧ a.fr ≤ 9223372036854775807 := by have := hf.fr; omega
  have l4 := one_nine a.fr r4
  have H4 := Lib.hid (size_eq a.fr r4 _ rfl)
  have c4 : (evC a)[4]? = some (.int .i64 a.fr) := rfl
  have C4 := Lib.hid c4
  have r5 : 0 ≤ a.to ∧ a.to ≤ 9223372036854775807 := by have := hf.to; omega
  have l5 := one_nine a.to r5
  have H5 := Lib.hid (size_eq a.to r5 _ rfl)
  have c5 : (evC a)[5]? = some (.int .i64 a.to) := rfl
  have C5 := Lib.hid c5
  have r6 : 0 ≤ a.el ∧ a.el ≤ 9223372036854775807 := by have := hf.el; omega
  have l6 := one_nine a.el r6
  have H6 := Lib.hid (size_eq a.el r6 _ rfl)
  have c6 : (evC a)[6]? = some (.int .i64 a.el) := rfl
  have C6 := Lib.hid c6
  have r7 : 0 ≤ a.un ∧ a.un ≤ 9223372036854775807 := by have := hf.un; omega
  have l7 := one_nine a.un r7
  have H7 := Lib.hid (size_eq a.un r7 _ rfl)
  have c7 : (evC a)[7]? = some (.int .i64 a.un) := rfl
  have C7 := Lib.hid c7
  have r8 : 0 ≤ a.cl ∧ a.cl ≤ 9223372036854775807 := by have := hf.cl; omega
  have l8 := one_nine a.cl r8
  have H8 := Lib.hid (size_eq a.cl r8 _ rfl)
  have c8 : (evC a)[8]? = some (.int .i64 a.cl) := rfl
  have C8 := Lib.hid c8
  have r9 : 0 ≤ a.ge ∧ a.ge ≤ 9223372036854775807 := by have := hf.ge; omega
  have l9 := one_nine a.ge r9
  have H9 := Lib.hid (size_eq a.ge r9 _ rfl)
  have c9 : (evC a)[9]? = some (.int .i64 a.ge) := rfl
  have C9 := Lib.hid c9
  have HP := Lib.hid (fun w n (hn : 0 + a.bytes.length = n) => putE_ok_n none 0 0 n [] a w hf Sl.nil_ (by omega) hn)
  have hz := evC_size a
  have HZ := Lib.hid hz
  have hk3 : (a.kd == 3) = true := by simp [hk]
  have hk4 : (a.kd == 4) = false := by simp [hk]
  clear hz hnn hf hk c0 c1 c2 c3 c4 c5 c6 c7 c8 c9
  generalize evC a = cs at *
  generalize a.bytes = bs at *
  generalize (oneB a.id.toNat).length = n0 at *
  generalize (oneB a.wk.toNat).length = n1 at *
  generalize (oneB a.tm.toNat).length = n2 at *
  generalize (oneB a.kd.toNat).length = n3 at *
  generalize (oneB a.fr.toNat).length = n4 at *
  generalize (oneB a.to.toNat).length = n5 at *
  generalize (oneB a.el.toNat).length = n6 at *
  generalize (oneB a.un.toNat).length = n7 at *
  generalize (oneB a.cl.toNat).length = n8 at *
  generalize (oneB a.ge.toNat).length = n9 at *
  generalize a.id = z0 at *
  generalize a.wk = z1 at *
  generalize a.tm = z2 at *
  generalize a.kd = z3 at *
  generalize a.fr = z4 at *
  generalize a.to = z5 at *
  generalize a.el = z6 at *
  generalize a.un = z7 at *
  generalize a.cl = z8 at *
  generalize a.ge = z9 at *
  clear r0 r1 r2 r3 r4 r5 r6 r7 r8 r9
  obtain ⟨N, hN⟩ : ∃ N, bs.length = N := ⟨_, rfl⟩
  have hsum : (N : Int) = (n0 : Int) + (n1 : Int) + (n2 : Int) + (n3 : Int) + (n4 : Int) + (n5 : Int) + (n6 : Int) + (n7 : Int) + (n8 : Int) + (n9 : Int) := by omega
  have HSUM := Lib.hid hsum
  have HN := Lib.hid hN
  clear hlen hN hsum
  go_enter Try.func7, Try.ntmps7
  go_wp2_with fail
  refine (awake8 _).mono ?_
  rintro e w1 ⟨rfl, b1⟩
  have HE := Lib.hid ((Has.new w 33 cs rfl).below b1)
  have hb1 := bel_on (bel_alloc (Below.refl w.heap.size w) _) b1
  clear b1
  go_wp2_with (refine wpList_load_e (by rfl) _ rfl w.heap.size rfl cs HE.out HZ.out ?_)
  refine (HP.out _ N (by have := HN.out; omega)).mono ?_
  rintro e w2 ⟨A, c, rfl, r2, b2⟩
  replace HE := Lib.hid (HE.out.below b2)
  replace hb1 := Lib.hid (bel_on hb1 b2)
  clear b2 r2
  obtain ⟨G, hG⟩ : ∃ G, w.heap.size = G := ⟨_, rfl⟩
  rw [hG] at HE ⊢
  clear hG
  have kk := HE.out.cell 3 C3.out
  go_wp2_with fail
  refine wp_region_noPanic ?_
  refine wp_region_held_drew (S := fun w' => Below w2.heap.size w2 w') (by kernel_rfl) (below_drew (Below.refl _ _)) (fun hHeld => ?_)
  refine wpAnyH_take (i := 0) (oi := ⟨some 21, _, _, _, _, _⟩) (v := ?_) rfl (by kernel_rfl) (by kernel_rfl) (by kernel_rfl) (fun _ _ _ h => h) (Or.inl ⟨by rfl, ?_⟩) hHeld ?_
  rotate_left
  · intro ww hSw
    (try dsimp only at hSw)
    go_simp
    (try with_reducible rfl)
  simp only [Act.put, List.setIfInBounds_toArray, List.set_cons_zero, List.set_cons_succ]
  refine wpAnyH_take (i := 1) (oi := ⟨some 22, _, _, _, _, _⟩) (v := .int .i64 z0) rfl (by kernel_rfl) (by kernel_rfl) (by kernel_rfl) (fun _ _ _ h => h) (Or.inl ⟨by rfl, ?_⟩) hHeld ?_
  · intro ww hSw
    (try dsimp only at hSw)
    have hcc := (hSw.cell (p := ⟨G, 0, none⟩) HE.out.size).trans (HE.out.cell 0 C0.out)
    have hcs := cell_lt hcc
    go_simp
  simp only [Act.put, List.setIfInBounds_toArray, List.set_cons_zero, List.set_cons_succ]
  refine wpAnyH_take (i := 3) (oi := ⟨some 24, _, _, _, _, _⟩) (v := ?_) rfl (by kernel_rfl) (by kernel_rfl) (by kernel_rfl) (fun _ _ _ h => h) (Or.inl ⟨by rfl, ?_⟩) hHeld ?_
  rotate_left
  · intro ww hSw
    (try dsimp only at hSw)
    go_simp
    (try with_reducible rfl)
  simp only [Act.put, List.setIfInBounds_toArray, List.set_cons_zero, List.set_cons_succ]
  refine wpAnyH_take (i := 4) (oi := ⟨some 25, _, _, _, _, _⟩) (v := .int .i64 z1) rfl (by kernel_rfl) (by kernel_rfl) (by kernel_rfl) (fun _ _ _ h => h) (Or.inl ⟨by rfl, ?_⟩) hHeld ?_
  · intro ww hSw
    (try dsimp only at hSw)
    have hcc := (hSw.cell (p := ⟨G, 1, none⟩) HE.out.size).trans (HE.out.cell 1 C1.out)
    have hcs := cell_lt hcc
    go_simp
  simp only [Act.put, List.setIfInBounds_toArray, List.set_cons_zero, List.set_cons_succ]
  refine wpAnyH_take (i := 7) (oi := ⟨some 28, _, _, _, _, _⟩) (v := ?_) rfl (by kernel_rfl) (by kernel_rfl) (by kernel_rfl) (fun _ _ _ h => h) (Or.inl ⟨by rfl, ?_⟩) hHeld ?_
  rotate_left
  · intro ww hSw
    (try dsimp only at hSw)
    go_simp
    (try with_reducible rfl)
  simp only [Act.put, List.setIfInBounds_toArray, List.set_cons_zero, List.set_cons_succ]
  refine wpAnyH_take (i := 8) (oi := ⟨some 29, _, _, _, _, _⟩) (v := .int .i64 z2) rfl (by kernel_rfl) (by kernel_rfl) (by kernel_rfl) (fun _ _ _ h => h) (Or.inl ⟨by rfl, ?_⟩) hHeld ?_
  · intro ww hSw
    (try dsimp only at hSw)
    have hcc := (hSw.cell (p := ⟨G, 2, none⟩) HE.out.size).trans (HE.out.cell 2 C2.out)
    have hcs := cell_lt hcc
    go_simp
  simp only [Act.put, List.setIfInBounds_toArray, List.set_cons_zero, List.set_cons_succ]
  refine wpAnyH_take (i := 11) (oi := ⟨some 32, _, _, _, _, _⟩) (v := ?_) rfl (by kernel_rfl) (by kernel_rfl) (by kernel_rfl) (fun _ _ _ h => h) (Or.inl ⟨by rfl, ?_⟩) hHeld ?_
  rotate_left
  · intro ww hSw
    (try dsimp only at hSw)
    go_simp
    (try with_reducible rfl)
  simp only [Act.put, List.setIfInBounds_toArray, List.set_cons_zero, List.set_cons_succ]
  refine wpAnyH_take (i := 12) (oi := ⟨some 33, _, _, _, _, _⟩) (v := .int .i64 z3) rfl (by kernel_rfl) (by kernel_rfl) (by kernel_rfl) (fun _ _ _ h => h) (Or.inl ⟨by rfl, ?_⟩) hHeld ?_
  · intro ww hSw
    (try dsimp only at hSw)
    have hcc := (hSw.cell (p := ⟨G, 3, none⟩) HE.out.size).trans (HE.out.cell 3 C3.out)
    have hcs := cell_lt hcc
    go_simp
  simp only [Act.put, List.setIfInBounds_toArray, List.set_cons_zero, List.set_cons_succ]
  refine wpAnyH_ready (rs := [2]) (by kernel_rfl) (by simp) ?_
  refine AllReadyH.cons (o := ⟨some 23, _, _, _, _, _⟩) rfl (fun K hK => ?_) AllReadyH.nil
  go_simp
  go_at_call 22
  refine (H0.out _).mono ?_
  rintro e_r _ ⟨rfl, rfl⟩
  go_wp2_with fail
  refine hK.out _ _ ?_ (fun hHeld => ?_)
  · (try dsimp only)
    (repeat' (first | with_reducible exact Below.refl _ _ | with_reducible assumption | with_reducible refine bel_alloc ?_ _ | with_reducible refine bel_set ?_ ?_ _ | with_reducible refine below_drewN ?_ _ | with_reducible refine below_drew ?_ | (simp; done) | (simp; omega) | omega))
  clear hK K
  (try simp only [Act.put, List.setIfInBounds_toArray, List.set_cons_zero, List.set_cons_succ])
  refine wpAnyH_ready (rs := [5]) (by kernel_rfl) (by simp) ?_
  refine AllReadyH.cons (o := ⟨some 26, _, _, _, _, _⟩) rfl (fun K hK => ?_) AllReadyH.nil
  go_simp
  go_at_call 22
  refine (H1.out _).mono ?_
  rintro e_r _ ⟨rfl, rfl⟩
  go_wp2_with fail
  refine hK.out _ _ ?_ (fun hHeld => ?_)
  · (try dsimp only)
    (repeat' (first | with_reducible exact Below.refl _ _ | with_reducible assumption | with_reducible refine bel_alloc ?_ _ | with_reducible refine bel_set ?_ ?_ _ | with_reducible refine below_drewN ?_ _ | with_reducible refine below_drew ?_ | (simp; done) | (simp; omega) | omega))
  clear hK K
  (try simp only [Act.put, List.setIfInBounds_toArray, List.set_cons_zero, List.set_cons_succ])
  refine wpAnyH_take (i := 6) (oi := ⟨some 27, _, _, _, _, _⟩) (v := ?_) rfl (by kernel_rfl) (by kernel_rfl) (by kernel_rfl) (fun _ _ _ h => h) (Or.inl ⟨by rfl, ?_⟩) hHeld ?_
  rotate_left
  · intro ww hSw
    (try dsimp only at hSw)
    go_simp
    (try with_reducible rfl)
  simp only [Act.put, List.setIfInBounds_toArray, List.set_cons_zero, List.set_cons_succ]
  refine wpAnyH_ready (rs := [9]) (by kernel_rfl) (by simp) ?_
  refine AllReadyH.cons (o := ⟨some 30, _, _, _, _, _⟩) rfl (fun K hK => ?_) AllReadyH.nil
  go_simp
  go_at_call 22
  refine (H2.out _).mono ?_
  rintro e_r _ ⟨rfl, rfl⟩
  go_wp2_with fail
  refine hK.out _ _ ?_ (fun hHeld => ?_)
  · (try dsimp only)
    (repeat' (first | with_reducible exact Below.refl _ _ | with_reducible assumption | with_reducible refine bel_alloc ?_ _ | with_reducible refine bel_set ?_ ?_ _ | with_reducible refine below_drewN ?_ _ | with_reducible refine below_drew ?_ | (simp; done) | (simp; omega) | omega))
  clear hK K
  (try simp only [Act.put, List.setIfInBounds_toArray, List.set_cons_zero, List.set_cons_succ])
  refine wpAnyH_take (i := 10) (oi := ⟨some 31, _, _, _, _, _⟩) (v := ?_) rfl (by kernel_rfl) (by kernel_rfl) (by kernel_rfl) (fun _ _ _ h => h) (Or.inl ⟨by rfl, ?_⟩) hHeld ?_
  rotate_left
  · intro ww hSw
    (try dsimp only at hSw)
    go_simp
    (try with_reducible rfl)
  simp only [Act.put, List.setIfInBounds_toArray, List.set_cons_zero, List.set_cons_succ]
  refine wpAnyH_ready (rs := [13]) (by kernel_rfl) (by simp) ?_
  refine AllReadyH.cons (o := ⟨some 34, _, _, _, _, _⟩) rfl (fun K hK => ?_) AllReadyH.nil
  go_simp
  go_at_call 22
  refine (H3.out _).mono ?_
  rintro e_r _ ⟨rfl, rfl⟩
  go_wp2_with fail
  refine hK.out _ _ ?_ (fun hHeld => ?_)
  · (try dsimp only)
    (repeat' (first | with_reducible exact Below.refl _ _ | with_reducible assumption | with_reducible refine bel_alloc ?_ _ | with_reducible refine bel_set ?_ ?_ _ | with_reducible refine below_drewN ?_ _ | with_reducible refine below_drew ?_ | (simp; done) | (simp; omega) | omega))
  clear hK K
  (try simp only [Act.put, List.setIfInBounds_toArray, List.set_cons_zero, List.set_cons_succ])
  refine wpAnyH_take (i := 14) (oi := ⟨some 35, _, _, _, _, _⟩) (v := ?_) rfl (by kernel_rfl) (by kernel_rfl) (by kernel_rfl) (fun _ _ _ h => h) (Or.inl ⟨by rfl, ?_⟩) hHeld ?_
  rotate_left
  · intro ww hSw
    (try dsimp only at hSw)
    go_simp
    (try with_reducible rfl)
  simp only [Act.put, List.setIfInBounds_toArray, List.set_cons_zero, List.set_cons_succ]
  refine wpAnyH_take (i := 15) (oi := ⟨some 6, _, _, _, _, _⟩) (v := ?_) rfl (by kernel_rfl) (by kernel_rfl) (by kernel_rfl) (fun _ _ _ h => h) (Or.inl ⟨by rfl, ?_⟩) hHeld ?_
  rotate_left
  · intro ww hSw
    (try dsimp only at hSw)
    go_simp
    (try with_reducible rfl)
  simp only [Act.put, List.setIfInBounds_toArray, List.set_cons_zero, List.set_cons_succ]
  refine wpAnyH_done (by kernel_rfl) ?_ _
  refine NoPanic.normal ?_
  clear hHeld
  replace HE := Lib.hid (HE.out.drew)
  replace hb1 := Lib.hid (below_drew hb1.out)
  generalize w2.drew = w3 at *
  replace kk := HE.out.cell 3 C3.out
  go_wp2_with fail
  refine wp_region_noPanic ?_
  refine wp_region_held_drew (S := fun w' => Below w3.heap.size w3 w') (by kernel_rfl) (below_drew (Below.refl _ _)) (fun hHeld => ?_)
  refine wpAnyH_take (i := 0) (oi := ⟨some 39, _, _, _, _, _⟩) (v := ?_) rfl (by kernel_rfl) (by kernel_rfl) (by kernel_rfl) (fun _ _ _ h => h) (Or.inl ⟨by rfl, ?_⟩) hHeld ?_
  rotate_left
  · intro ww hSw
    (try dsimp only at hSw)
    go_simp
    (try with_reducible rfl)
  simp only [Act.put, List.setIfInBounds_toArray, List.set_cons_zero, List.set_cons_succ]
  refine wpAnyH_take (i := 1) (oi := ⟨some 40, _, _, _, _, _⟩) (v := ?_) rfl (by kernel_rfl) (by kernel_rfl) (by kernel_rfl) (fun _ _ _ h => h) (Or.inl ⟨by rfl, ?_⟩) hHeld ?_
  rotate_left
  · intro ww hSw
    (try dsimp only at hSw)
    go_simp
    (try with_reducible rfl)
  simp only [Act.put, List.setIfInBounds_toArray, List.set_cons_zero, List.set_cons_succ]
  refine wpAnyH_take (i := 2) (oi := ⟨some 41, _, _, _, _, _⟩) (v := .int .i64 z4) rfl (by kernel_rfl) (by kernel_rfl) (by kernel_rfl) (fun _ _ _ h => h) (Or.inl ⟨by rfl, ?_⟩) hHeld ?_
  · intro ww hSw
    (try dsimp only at hSw)
    have hcc := (hSw.cell (p := ⟨G, 4, none⟩) HE.out.size).trans (HE.out.cell 4 C4.out)
    have hcs := cell_lt hcc
    go_simp
  simp only [Act.put, List.setIfInBounds_toArray, List.set_cons_zero, List.set_cons_succ]
  refine wpAnyH_take (i := 5) (oi := ⟨some 44, _, _, _, _, _⟩) (v := ?_) rfl (by kernel_rfl) (by kernel_rfl) (by kernel_rfl) (fun _ _ _ h => h) (Or.inl ⟨by rfl, ?_⟩) hHeld ?_
  rotate_left
  · intro ww hSw
    (try dsimp only at hSw)
    go_simp
    (try with_reducible rfl)
  simp only [Act.put, List.setIfInBounds_toArray, List.set_cons_zero, List.set_cons_succ]
  refine wpAnyH_take (i := 6) (oi := ⟨some 45, _, _, _, _, _⟩) (v := .int .i64 z5) rfl (by kernel_rfl) (by kernel_rfl) (by kernel_rfl) (fun _ _ _ h => h) (Or.inl ⟨by rfl, ?_⟩) hHeld ?_
  · intro ww hSw
    (try dsimp only at hSw)
    have hcc := (hSw.cell (p := ⟨G, 5, none⟩) HE.out.size).trans (HE.out.cell 5 C5.out)
    have hcs := cell_lt hcc
    go_simp
  simp only [Act.put, List.setIfInBounds_toArray, List.set_cons_zero, List.set_cons_succ]
  refine wpAnyH_take (i := 9) (oi := ⟨some 48, _, _, _, _, _⟩) (v := ?_) rfl (by kernel_rfl) (by kernel_rfl) (by kernel_rfl) (fun _ _ _ h => h) (Or.inl ⟨by rfl, ?_⟩) hHeld ?_
  rotate_left
  · intro ww hSw
    (try dsimp only at hSw)
    go_simp
    (try with_reducible rfl)
  simp only [Act.put, List.setIfInBounds_toArray, List.set_cons_zero, List.set_cons_succ]
  refine wpAnyH_take (i := 10) (oi := ⟨some 49, _, _, _, _, _⟩) (v := .int .i64 z6) rfl (by kernel_rfl) (by kernel_rfl) (by kernel_rfl) (fun _ _ _ h => h) (Or.inl ⟨by rfl, ?_⟩) hHeld ?_
  · intro ww hSw
    (try dsimp only at hSw)
    have hcc := (hSw.cell (p := ⟨G, 6, none⟩) HE.out.size).trans (HE.out.cell 6 C6.out)
    have hcs := cell_lt hcc
    go_simp
  simp only [Act.put, List.setIfInBounds_toArray, List.set_cons_zero, List.set_cons_succ]
  refine wpAnyH_take (i := 13) (oi := ⟨some 52, _, _, _, _, _⟩) (v := ?_) rfl (by kernel_rfl) (by kernel_rfl) (by kernel_rfl) (fun _ _ _ h => h) (Or.inl ⟨by rfl, ?_⟩) hHeld ?_
  rotate_left
  · intro ww hSw
    (try dsimp only at hSw)
    go_simp
    (try with_reducible rfl)
  simp only [Act.put, List.setIfInBounds_toArray, List.set_cons_zero, List.set_cons_succ]
  refine wpAnyH_take (i := 14) (oi := ⟨some 53, _, _, _, _, _⟩) (v := .int .i64 z7) rfl (by kernel_rfl) (by kernel_rfl) (by kernel_rfl) (fun _ _ _ h => h) (Or.inl ⟨by rfl, ?_⟩) hHeld ?_
  · intro ww hSw
    (try dsimp only at hSw)
    have hcc := (hSw.cell (p := ⟨G, 7, none⟩) HE.out.size).trans (HE.out.cell 7 C7.out)
    have hcs := cell_lt hcc
    go_simp
  simp only [Act.put, List.setIfInBounds_toArray, List.set_cons_zero, List.set_cons_succ]
  refine wpAnyH_take (i := 17) (oi := ⟨some 56, _, _, _, _, _⟩) (v := ?_) rfl (by kernel_rfl) (by kernel_rfl) (by kernel_rfl) (fun _ _ _ h => h) (Or.inl ⟨by rfl, ?_⟩) hHeld ?_
  rotate_left
  · intro ww hSw
    (try dsimp only at hSw)
    go_simp
    (try with_reducible rfl)
  simp only [Act.put, List.setIfInBounds_toArray, List.set_cons_zero, List.set_cons_succ]
  refine wpAnyH_take (i := 18) (oi := ⟨some 57, _, _, _, _, _⟩) (v := .int .i64 z8) rfl (by kernel_rfl) (by kernel_rfl) (by kernel_rfl) (fun _ _ _ h => h) (Or.inl ⟨by rfl, ?_⟩) hHeld ?_
  · intro ww hSw
    (try dsimp only at hSw)
    have hcc := (hSw.cell (p := ⟨G, 8, none⟩) HE.out.size).trans (HE.out.cell 8 C8.out)
    have hcs := cell_lt hcc
    go_simp
  simp only [Act.put, List.setIfInBounds_toArray, List.set_cons_zero, List.set_cons_succ]
  refine wpAnyH_take (i := 21) (oi := ⟨some 60, _, _, _, _, _⟩) (v := ?_) rfl (by kernel_rfl) (by kernel_rfl) (by kernel_rfl) (fun _ _ _ h => h) (Or.inl ⟨by rfl, ?_⟩) hHeld ?_
  rotate_left
  · intro ww hSw
    (try dsimp only at hSw)
    go_simp
    (try with_reducible rfl)
  simp only [Act.put, List.setIfInBounds_toArray, List.set_cons_zero, List.set_cons_succ]
  refine wpAnyH_take (i := 22) (oi := ⟨some 61, _, _, _, _, _⟩) (v := .int .i64 z9) rfl (by kernel_rfl) (by kernel_rfl) (by kernel_rfl) (fun _ _ _ h => h) (Or.inl ⟨by rfl, ?_⟩) hHeld ?_
  · intro ww hSw
    (try dsimp only at hSw)
    have hcc := (hSw.cell (p := ⟨G, 9, none⟩) HE.out.size).trans (HE.out.cell 9 C9.out)
    have hcs := cell_lt hcc
    go_simp
  simp only [Act.put, List.setIfInBounds_toArray, List.set_cons_zero, List.set_cons_succ]
  refine wpAnyH_ready (rs := [3]) (by kernel_rfl) (by simp) ?_
  refine AllReadyH.cons (o := ⟨some 42, _, _, _, _, _⟩) rfl (fun K hK => ?_) AllReadyH.nil
  go_simp
  go_at_call 22
  refine (H4.out _).mono ?_
  rintro e_r _ ⟨rfl, rfl⟩
  go_wp2_with fail
  refine hK.out _ _ ?_ (fun hHeld => ?_)
  · (try dsimp only)
    (repeat' (first | with_reducible exact Below.refl _ _ | with_reducible assumption | with_reducible refine bel_alloc ?_ _ | with_reducible refine bel_set ?_ ?_ _ | with_reducible refine below_drewN ?_ _ | with_reducible refine below_drew ?_ | (simp; done) | (simp; omega) | omega))
  clear hK K
  (try simp only [Act.put, List.setIfInBounds_toArray, List.set_cons_zero, List.set_cons_succ])
  refine wpAnyH_take (i := 4) (oi := ⟨some 43, _, _, _, _, _⟩) (v := ?_) rfl (by kernel_rfl) (by kernel_rfl) (by kernel_rfl) (fun _ _ _ h => h) (Or.inl ⟨by rfl, ?_⟩) hHeld ?_
  rotate_left
  · intro ww hSw
    (try dsimp only at hSw)
    go_simp
    (try with_reducible rfl)
  simp only [Act.put, List.setIfInBounds_toArray, List.set_cons_zero, List.set_cons_succ]
  refine wpAnyH_ready (rs := [7]) (by kernel_rfl) (by simp) ?_
  refine AllReadyH.cons (o := ⟨some 46, _, _, _, _, _⟩) rfl (fun K hK => ?_) AllReadyH.nil
  go_simp
  go_at_call 22
  refine (H5.out _).mono ?_
  rintro e_r _ ⟨rfl, rfl⟩
  go_wp2_with fail
  refine hK.out _ _ ?_ (fun hHeld => ?_)
  · (try dsimp only)
    (repeat' (first | with_reducible exact Below.refl _ _ | with_reducible assumption | with_reducible refine bel_alloc ?_ _ | with_reducible refine bel_set ?_ ?_ _ | with_reducible refine below_drewN ?_ _ | with_reducible refine below_drew ?_ | (simp; done) | (simp; omega) | omega))
  clear hK K
  (try simp only [Act.put, List.setIfInBounds_toArray, List.set_cons_zero, List.set_cons_succ])
  refine wpAnyH_take (i := 8) (oi := ⟨some 47, _, _, _, _, _⟩) (v := ?_) rfl (by kernel_rfl) (by kernel_rfl) (by kernel_rfl) (fun _ _ _ h => h) (Or.inl ⟨by rfl, ?_⟩) hHeld ?_
  rotate_left
  · intro ww hSw
    (try dsimp only at hSw)
    go_simp
    (try with_reducible rfl)
  simp only [Act.put, List.setIfInBounds_toArray, List.set_cons_zero, List.set_cons_succ]
  refine wpAnyH_ready (rs := [11]) (by kernel_rfl) (by simp) ?_
  refine AllReadyH.cons (o := ⟨some 50, _, _, _, _, _⟩) rfl (fun K hK => ?_) AllReadyH.nil
  go_simp
  go_at_call 22
  refine (H6.out _).mono ?_
  rintro e_r _ ⟨rfl, rfl⟩
  go_wp2_with fail
  refine hK.out _ _ ?_ (fun hHeld => ?_)
  · (try dsimp only)
    (repeat' (first | with_reducible exact Below.refl _ _ | with_reducible assumption | with_reducible refine bel_alloc ?_ _ | with_reducible refine bel_set ?_ ?_ _ | with_reducible refine below_drewN ?_ _ | with_reducible refine below_drew ?_ | (simp; done) | (simp; omega) | omega))
  clear hK K
  (try simp only [Act.put, List.setIfInBounds_toArray, List.set_cons_zero, List.set_cons_succ])
  refine wpAnyH_take (i := 12) (oi := ⟨some 51, _, _, _, _, _⟩) (v := ?_) rfl (by kernel_rfl) (by kernel_rfl) (by kernel_rfl) (fun _ _ _ h => h) (Or.inl ⟨by rfl, ?_⟩) hHeld ?_
  rotate_left
  · intro ww hSw
    (try dsimp only at hSw)
    go_simp
    (try with_reducible rfl)
  simp only [Act.put, List.setIfInBounds_toArray, List.set_cons_zero, List.set_cons_succ]
  refine wpAnyH_ready (rs := [15]) (by kernel_rfl) (by simp) ?_
  refine AllReadyH.cons (o := ⟨some 54, _, _, _, _, _⟩) rfl (fun K hK => ?_) AllReadyH.nil
  go_simp
  go_at_call 22
  refine (H7.out _).mono ?_
  rintro e_r _ ⟨rfl, rfl⟩
  go_wp2_with fail
  refine hK.out _ _ ?_ (fun hHeld => ?_)
  · (try dsimp only)
    (repeat' (first | with_reducible exact Below.refl _ _ | with_reducible assumption | with_reducible refine bel_alloc ?_ _ | with_reducible refine bel_set ?_ ?_ _ | with_reducible refine below_drewN ?_ _ | with_reducible refine below_drew ?_ | (simp; done) | (simp; omega) | omega))
  clear hK K
  (try simp only [Act.put, List.setIfInBounds_toArray, List.set_cons_zero, List.set_cons_succ])
  refine wpAnyH_take (i := 16) (oi := ⟨some 55, _, _, _, _, _⟩) (v := ?_) rfl (by kernel_rfl) (by kernel_rfl) (by kernel_rfl) (fun _ _ _ h => h) (Or.inl ⟨by rfl, ?_⟩) hHeld ?_
  rotate_left
  · intro ww hSw
    (try dsimp only at hSw)
    go_simp
    (try with_reducible rfl)
  simp only [Act.put, List.setIfInBounds_toArray, List.set_cons_zero, List.set_cons_succ]
  refine wpAnyH_ready (rs := [19]) (by kernel_rfl) (by simp) ?_
  refine AllReadyH.cons (o := ⟨some 58, _, _, _, _, _⟩) rfl (fun K hK => ?_) AllReadyH.nil
  go_simp
  go_at_call 22
  refine (H8.out _).mono ?_
  rintro e_r _ ⟨rfl, rfl⟩
  go_wp2_with fail
  refine hK.out _ _ ?_ (fun hHeld => ?_)
  · (try dsimp only)
    (repeat' (first | with_reducible exact Below.refl _ _ | with_reducible assumption | with_reducible refine bel_alloc ?_ _ | with_reducible refine bel_set ?_ ?_ _ | with_reducible refine below_drewN ?_ _ | with_reducible refine below_drew ?_ | (simp; done) | (simp; omega) | omega))
  clear hK K
  (try simp only [Act.put, List.setIfInBounds_toArray, List.set_cons_zero, List.set_cons_succ])
  refine wpAnyH_take (i := 20) (oi := ⟨some 59, _, _, _, _, _⟩) (v := ?_) rfl (by kernel_rfl) (by kernel_rfl) (by kernel_rfl) (fun _ _ _ h => h) (Or.inl ⟨by rfl, ?_⟩) hHeld ?_
  rotate_left
  · intro ww hSw
    (try dsimp only at hSw)
    go_simp
    (try with_reducible rfl)
  simp only [Act.put, List.setIfInBounds_toArray, List.set_cons_zero, List.set_cons_succ]
  refine wpAnyH_ready (rs := [23]) (by kernel_rfl) (by simp) ?_
  refine AllReadyH.cons (o := ⟨some 62, _, _, _, _, _⟩) rfl (fun K hK => ?_) AllReadyH.nil
  go_simp
  go_at_call 22
  refine (H9.out _).mono ?_
  rintro e_r _ ⟨rfl, rfl⟩
  go_wp2_with fail
  refine hK.out _ _ ?_ (fun hHeld => ?_)
  · (try dsimp only)
    (repeat' (first | with_reducible exact Below.refl _ _ | with_reducible assumption | with_reducible refine bel_alloc ?_ _ | with_reducible refine bel_set ?_ ?_ _ | with_reducible refine below_drewN ?_ _ | with_reducible refine below_drew ?_ | (simp; done) | (simp; omega) | omega))
  clear hK K
  (try simp only [Act.put, List.setIfInBounds_toArray, List.set_cons_zero, List.set_cons_succ])
  refine wpAnyH_take (i := 24) (oi := ⟨some 63, _, _, _, _, _⟩) (v := ?_) rfl (by kernel_rfl) (by kernel_rfl) (by kernel_rfl) (fun _ _ _ h => h) (Or.inl ⟨by rfl, ?_⟩) hHeld ?_
  rotate_left
  · intro ww hSw
    (try dsimp only at hSw)
    go_simp
    (try with_reducible rfl)
  simp only [Act.put, List.setIfInBounds_toArray, List.set_cons_zero, List.set_cons_succ]
  refine wpAnyH_take (i := 25) (oi := ⟨some 6, _, _, _, _, _⟩) (v := ?_) rfl (by kernel_rfl) (by kernel_rfl) (by kernel_rfl) (fun _ _ _ h => h) (Or.inl ⟨by rfl, ?_⟩) hHeld ?_
  rotate_left
  · intro ww hSw
    (try dsimp only at hSw)
    go_simp
    (try with_reducible rfl)
  simp only [Act.put, List.setIfInBounds_toArray, List.set_cons_zero, List.set_cons_succ]
  refine wpAnyH_done (by kernel_rfl) ?_ _
  refine NoPanic.normal ?_
  clear hHeld
  replace HE := Lib.hid (HE.out.drew)
  replace hb1 := Lib.hid (below_drew hb1.out)
  generalize w3.drew = w4 at *
  replace kk := HE.out.cell 3 C3.out
  go_wp2_with fail
  go_ret
  refine ⟨ret_bool (beq_iff_eq.2 ?_), hb1.out⟩
  have := HSUM.out
  first
  | omega
  | (simp only [wrapi_id, IntKind.wrap_i64] at *; omega)
set_option maxHeartbeats 4000000 in
theorem eventSizes_code (a : EvP) (w : World) (hf : a.Fair) (hk : a.kd = 4) :
    Calls Try.prog 7 #[.agg (evC a)] w fun e w' => e = .returned (.bool true) ∧ Below w.heap.size w w' := by
  have hnn : a.nums = [a.id, a.wk, a.tm, a.kd, a.cd] := by unfold EvP.nums; rw [if_neg (by omega), if_pos hk]; rfl
  have hlen : a.bytes.length = (oneB a.id.toNat).length + (oneB a.wk.toNat).length + (oneB a.tm.toNat).length + (oneB a.kd.toNat).length + (oneB a.cd.toNat).length := by
    unfold EvP.bytes
    rw [hnn, bytesN_len]
    simp only [List.map_cons, List.map_nil, List.sum_cons, List.sum_nil]
    omega
  have r0 : 0 ≤ a.id ∧ a.id ≤ 9223372036854775807 := by have := hf.id; omega
  have l0 := one_nine a.id r0
  have H0 := Lib.hid (size_eq a.id r0 _ rfl)
  have c0 : (evC a)[0]? = some (.int .i64 a.id) := rfl
  have C0 := Lib.hid c0
  have r1 : 0 ≤ a.wk ∧ a.wk ≤ 9223372036854775807 := by have := hf.wk; omega
  have l1 := one_nine a.wk r1
  have H1 := Lib.hid (size_eq a.wk r1 _ rfl)
  have c1 : (evC a)[1]? = some (.int .i64 a.wk) := rfl
  have C1 := Lib.hid c1
  have r2 : 0 ≤ a.tm ∧ a.tm ≤ 9223372036854775807 := by have := hf.tm; omega
  have l2 := one_nine a.tm r2
  have H2 := Lib.hid (size_eq a.tm r2 _ rfl)
  have c2 : (evC a)[2]? = some (.int .i64 a.tm) := rfl
  have C2 := Lib.hid c2
  have r3 : 0 ≤ a.kd ∧ a.kd ≤ 9223372036854775807 := by have := hf.kd; omega
  have l3 := one_nine a.kd r3
  have H3 := Lib.hid (size_eq a.kd r3 _ rfl)
  have c3 : (evC a)[3]? = some (.int .i64 a.kd) := rfl
  have C3 := Lib.hid c3
  have r10 : 0 ≤ a.cd ∧ a.cd ≤ 9223372036854775807 := by have := hf.cd; omega
  have l10 := one_nine a.cd r10
  have H10 := Lib.hid (size_eq a.cd r10 _ rfl)
  have c10 : (evC a)[10]? = some (.int .i64 a.cd) := rfl
  have C10 := Lib.hid c10
  have HP := Lib.hid (fun w n (hn : 0 + a.bytes.length = n) => putE_ok_n none 0 0 n [] a w hf Sl.nil_ (by omega) hn)
  have hz := evC_size a
  have HZ := Lib.hid hz
  have hk3 : (a.kd == 3) = false := by simp [hk]
  have hk4 : (a.kd == 4) = true := by simp [hk]
  clear hz hnn hf hk c0 c1 c2 c3 c10
  generalize evC a = cs at *
  generalize a.bytes = bs at *
  generalize (oneB a.id.toNat).length = n0 at *
  generalize (oneB a.wk.toNat).length = n1 at *
  generalize (oneB a.tm.toNat).length = n2 at *
  generalize (oneB a.kd.toNat).length = n3 at *
  generalize (oneB a.cd.toNat).length = n10 at *
  generalize a.id = z0 at *
  generalize a.wk = z1 at *
  generalize a.tm = z2 at *
  generalize a.kd = z3 at *
  generalize a.cd = z10 at *
  clear r0 r1 r2 r3 r10
  obtain ⟨N, hN⟩ : ∃ N, bs.length = N := ⟨_, rfl⟩
  have hsum : (N : Int) = (n0 : Int) + (n1 : Int) + (n2 : Int) + (n3 : Int) + (n10 : Int) := by omega
  have HSUM := Lib.hid hsum
  have HN := Lib.hid hN
  clear hlen hN hsum
  go_enter Try.func7, Try.ntmps7
  go_wp2_with fail
  refine (awake8 _).mono ?_
  rintro e w1 ⟨rfl, b1⟩
  have HE := Lib.hid ((Has.new w 33 cs rfl).below b1)
  have hb1 := bel_on (bel_alloc (Below.refl w.heap.size w) _) b1
  clear b1
  go_wp2_with (refine wpList_load_e (by rfl) _ rfl w.heap.size rfl cs HE.out HZ.out ?_)
  refine (HP.out _ N (by have := HN.out; omega)).mono ?_
  rintro e w2 ⟨A, c, rfl, r2, b2⟩
  replace HE := Lib.hid (HE.out.below b2)
  replace hb1 := Lib.hid (bel_on hb1 b2)
  clear b2 r2
  obtain ⟨G, hG⟩ : ∃ G, w.heap.size = G := ⟨_, rfl⟩
  rw [hG] at HE ⊢
  clear hG
  have kk := HE.out.cell 3 C3.out
  go_wp2_with fail
  refine wp_region_noPanic ?_
  refine wp_region_held_drew (S := fun w' => Below w2.heap.size w2 w') (by kernel_rfl) (below_drew (Below.refl _ _)) (fun hHeld => ?_)
  refine wpAnyH_take (i := 0) (oi := ⟨some 21, _, _, _, _, _⟩) (v := ?_) rfl (by kernel_rfl) (by kernel_rfl) (by kernel_rfl) (fun _ _ _ h => h) (Or.inl ⟨by rfl, ?_⟩) hHeld ?_
  rotate_left
  · intro ww hSw
    (try dsimp only at hSw)
    go_simp
    (try with_reducible rfl)
  simp only [Act.put, List.setIfInBounds_toArray, List.set_cons_zero, List.set_cons_succ]
  refine wpAnyH_take (i := 1) (oi := ⟨some 22, _, _, _, _, _⟩) (v := .int .i64 z0) rfl (by kernel_rfl) (by kernel_rfl) (by kernel_rfl) (fun _ _ _ h => h) (Or.inl ⟨by rfl, ?_⟩) hHeld ?_
  · intro ww hSw
    (try dsimp only at hSw)
    have hcc := (hSw.cell (p := ⟨G, 0, none⟩) HE.out.size).trans (HE.out.cell 0 C0.out)
    have hcs := cell_lt hcc
    go_simp
  simp only [Act.put, List.setIfInBounds_toArray, List.set_cons_zero, List.set_cons_succ]
  refine wpAnyH_take (i := 3) (oi := ⟨some 24, _, _, _, _, _⟩) (v := ?_) rfl (by kernel_rfl) (by kernel_rfl) (by kernel_rfl) (fun _ _ _ h => h) (Or.inl ⟨by rfl, ?_⟩) hHeld ?_
  rotate_left
  · intro ww hSw
    (try dsimp only at hSw)
    go_simp
    (try with_reducible rfl)
  simp only [Act.put, List.setIfInBounds_toArray, List.set_cons_zero, List.set_cons_succ]
  refine wpAnyH_take (i := 4) (oi := ⟨some 25, _, _, _, _, _⟩) (v := .int .i64 z1) rfl (by kernel_rfl) (by kernel_rfl) (by kernel_rfl) (fun _ _ _ h => h) (Or.inl ⟨by rfl, ?_⟩) hHeld ?_
  · intro ww hSw
    (try dsimp only at hSw)
    have hcc := (hSw.cell (p := ⟨G, 1, none⟩) HE.out.size).trans (HE.out.cell 1 C1.out)
    have hcs := cell_lt hcc
    go_simp
  simp only [Act.put, List.setIfInBounds_toArray, List.set_cons_zero, List.set_cons_succ]
  refine wpAnyH_take (i := 7) (oi := ⟨some 28, _, _, _, _, _⟩) (v := ?_) rfl (by kernel_rfl) (by kernel_rfl) (by kernel_rfl) (fun _ _ _ h => h) (Or.inl ⟨by rfl, ?_⟩) hHeld ?_
  rotate_left
  · intro ww hSw
    (try dsimp only at hSw)
    go_simp
    (try with_reducible rfl)
  simp only [Act.put, List.setIfInBounds_toArray, List.set_cons_zero, List.set_cons_succ]
  refine wpAnyH_take (i := 8) (oi := ⟨some 29, _, _, _, _, _⟩) (v := .int .i64 z2) rfl (by kernel_rfl) (by kernel_rfl) (by kernel_rfl) (fun _ _ _ h => h) (Or.inl ⟨by rfl, ?_⟩) hHeld ?_
  · intro ww hSw
    (try dsimp only at hSw)
    have hcc := (hSw.cell (p := ⟨G, 2, none⟩) HE.out.size).trans (HE.out.cell 2 C2.out)
    have hcs := cell_lt hcc
    go_simp
  simp only [Act.put, List.setIfInBounds_toArray, List.set_cons_zero, List.set_cons_succ]
  refine wpAnyH_take (i := 11) (oi := ⟨some 32, _, _, _, _, _⟩) (v := ?_) rfl (by kernel_rfl) (by kernel_rfl) (by kernel_rfl) (fun _ _ _ h => h) (Or.inl ⟨by rfl, ?_⟩) hHeld ?_
  rotate_left
  · intro ww hSw
    (try dsimp only at hSw)
    go_simp
    (try with_reducible rfl)
  simp only [Act.put, List.setIfInBounds_toArray, List.set_cons_zero, List.set_cons_succ]
  refine wpAnyH_take (i := 12) (oi := ⟨some 33, _, _, _, _, _⟩) (v := .int .i64 z3) rfl (by kernel_rfl) (by kernel_rfl) (by kernel_rfl) (fun _ _ _ h => h) (Or.inl ⟨by rfl, ?_⟩) hHeld ?_
  · intro ww hSw
    (try dsimp only at hSw)
    have hcc := (hSw.cell (p := ⟨G, 3, none⟩) HE.out.size).trans (HE.out.cell 3 C3.out)
    have hcs := cell_lt hcc
    go_simp
  simp only [Act.put, List.setIfInBounds_toArray, List.set_cons_zero, List.set_cons_succ]
  refine wpAnyH_ready (rs := [2]) (by kernel_rfl) (by simp) ?_
  refine AllReadyH.cons (o := ⟨some 23, _, _, _, _, _⟩) rfl (fun K hK => ?_) AllReadyH.nil
  go_simp
  go_at_call 22
  refine (H0.out _).mono ?_
  rintro e_r _ ⟨rfl, rfl⟩
  go_wp2_with fail
  refine hK.out _ _ ?_ (fun hHeld => ?_)
  · (try dsimp only)
    (repeat' (first | with_reducible exact Below.refl _ _ | with_reducible assumption | with_reducible refine bel_alloc ?_ _ | with_reducible refine bel_set ?_ ?_ _ | with_reducible refine below_drewN ?_ _ | with_reducible refine below_drew ?_ | (simp; done) | (simp; omega) | omega))
  clear hK K
  (try simp only [Act.put, List.setIfInBounds_toArray, List.set_cons_zero, List.set_cons_succ])
  refine wpAnyH_ready (rs := [5]) (by kernel_rfl) (by simp) ?_
  refine AllReadyH.cons (o := ⟨some 26, _, _, _, _, _⟩) rfl (fun K hK => ?_) AllReadyH.nil
  go_simp
  go_at_call 22
  refine (H1.out _).mono ?_
  rintro e_r _ ⟨rfl, rfl⟩
  go_wp2_with fail
  refine hK.out _ _ ?_ (fun hHeld => ?_)
  · (try dsimp only)
    (repeat' (first | with_reducible exact Below.refl _ _ | with_reducible assumption | with_reducible refine bel_alloc ?_ _ | with_reducible refine bel_set ?_ ?_ _ | with_reducible refine below_drewN ?_ _ | with_reducible refine below_drew ?_ | (simp; done) | (simp; omega) | omega))
  clear hK K
  (try simp only [Act.put, List.setIfInBounds_toArray, List.set_cons_zero, List.set_cons_succ])
  refine wpAnyH_take (i := 6) (oi := ⟨some 27, _, _, _, _, _⟩) (v := ?_) rfl (by kernel_rfl) (by kernel_rfl) (by kernel_rfl) (fun _ _ _ h => h) (Or.inl ⟨by rfl, ?_⟩) hHeld ?_
  rotate_left
  · intro ww hSw
    (try dsimp only at hSw)
    go_simp
    (try with_reducible rfl)
  simp only [Act.put, List.setIfInBounds_toArray, List.set_cons_zero, List.set_cons_succ]
  refine wpAnyH_ready (rs := [9]) (by kernel_rfl) (by simp) ?_
  refine AllReadyH.cons (o := ⟨some 30, _, _, _, _, _⟩) rfl (fun K hK => ?_) AllReadyH.nil
  go_simp
  go_at_call 22
  refine (H2.out _).mono ?_
  rintro e_r _ ⟨rfl, rfl⟩
  go_wp2_with fail
  refine hK.out _ _ ?_ (fun hHeld => ?_)
  · (try dsimp only)
    (repeat' (first | with_reducible exact Below.refl _ _ | with_reducible assumption | with_reducible refine bel_alloc ?_ _ | with_reducible refine bel_set ?_ ?_ _ | with_reducible refine below_drewN ?_ _ | with_reducible refine below_drew ?_ | (simp; done) | (simp; omega) | omega))
  clear hK K
  (try simp only [Act.put, List.setIfInBounds_toArray, List.set_cons_zero, List.set_cons_succ])
  refine wpAnyH_take (i := 10) (oi := ⟨some 31, _, _, _, _, _⟩) (v := ?_) rfl (by kernel_rfl) (by kernel_rfl) (by kernel_rfl) (fun _ _ _ h => h) (Or.inl ⟨by rfl, ?_⟩) hHeld ?_
  rotate_left
  · intro ww hSw
    (try dsimp only at hSw)
    go_simp
    (try with_reducible rfl)
  simp only [Act.put, List.setIfInBounds_toArray, List.set_cons_zero, List.set_cons_succ]
  refine wpAnyH_ready (rs := [13]) (by kernel_rfl) (by simp) ?_
  refine AllReadyH.cons (o := ⟨some 34, _, _, _, _, _⟩) rfl (fun K hK => ?_) AllReadyH.nil
  go_simp
  go_at_call 22
  refine (H3.out _).mono ?_
  rintro e_r _ ⟨rfl, rfl⟩
  go_wp2_with fail
  refine hK.out _ _ ?_ (fun hHeld => ?_)
  · (try dsimp only)
    (repeat' (first | with_reducible exact Below.refl _ _ | with_reducible assumption | with_reducible refine bel_alloc ?_ _ | with_reducible refine bel_set ?_ ?_ _ | with_reducible refine below_drewN ?_ _ | with_reducible refine below_drew ?_ | (simp; done) | (simp; omega) | omega))
  clear hK K
  (try simp only [Act.put, List.setIfInBounds_toArray, List.set_cons_zero, List.set_cons_succ])
  refine wpAnyH_take (i := 14) (oi := ⟨some 35, _, _, _, _, _⟩) (v := ?_) rfl (by kernel_rfl) (by kernel_rfl) (by kernel_rfl) (fun _ _ _ h => h) (Or.inl ⟨by rfl, ?_⟩) hHeld ?_
  rotate_left
  · intro ww hSw
    (try dsimp only at hSw)
    go_simp
    (try with_reducible rfl)
  simp only [Act.put, List.setIfInBounds_toArray, List.set_cons_zero, List.set_cons_succ]
  refine wpAnyH_take (i := 15) (oi := ⟨some 6, _, _, _, _, _⟩) (v := ?_) rfl (by kernel_rfl) (by kernel_rfl) (by kernel_rfl) (fun _ _ _ h => h) (Or.inl ⟨by rfl, ?_⟩) hHeld ?_
  rotate_left
  · intro ww hSw
    (try dsimp only at hSw)
    go_simp
    (try with_reducible rfl)
  simp only [Act.put, List.setIfInBounds_toArray, List.set_cons_zero, List.set_cons_succ]
  refine wpAnyH_done (by kernel_rfl) ?_ _
  refine NoPanic.normal ?_
  clear hHeld
  replace HE := Lib.hid (HE.out.drew)
  replace hb1 := Lib.hid (below_drew hb1.out)
  generalize w2.drew = w3 at *
  replace kk := HE.out.cell 3 C3.out
  have k10 := HE.out.cell 10 C10.out
  go_wp2_with fail
  refine (H10.out _).mono ?_
  rintro e _ ⟨rfl, rfl⟩
  go_wp2
  go_ret
  refine ⟨ret_bool (beq_iff_eq.2 ?_), hb1.out⟩
  have := HSUM.out
  first
  | omega
  | (simp only [wrapi_id, IntKind.wrap_i64] at *; omega)
set_option maxHeartbeats 4000000 in
theorem eventSizes_else (a : EvP) (w : World) (hf : a.Fair) (hk : a.kd ≠ 3 ∧ a.kd ≠ 4) :
    Calls Try.prog 7 #[.agg (evC a)] w fun e w' => e = .returned (.bool true) ∧ Below w.heap.size w w' := by
  have hnn : a.nums = [a.id, a.wk, a.tm, a.kd] := by unfold EvP.nums; rw [if_neg hk.1, if_neg hk.2]; rfl
  have hlen : a.bytes.length = (oneB a.id.toNat).length + (oneB a.wk.toNat).length + (oneB a.tm.toNat).length + (oneB a.kd.toNat).length := by
    unfold EvP.bytes
    rw [hnn, bytesN_len]
    simp only [List.map_cons, List.map_nil, List.sum_cons, List.sum_nil]
    omega
  have r0 : 0 ≤ a.id ∧ a.id ≤ 9223372036854775807 := by have := hf.id; omega
  have l0 := one_nine a.id r0
  have H0 := Lib.hid (size_eq a.id r0 _ rfl)
  have c0 : (evC a)[0]? = some (.int .i64 a.id) := rfl
  have C0 := Lib.hid c0
  have r1 : 0 ≤ a.wk ∧ a.wk ≤ 9223372036854775807 := by have := hf.wk; omega
  have l1 := one_nine a.wk r1
  have H1 := Lib.hid (size_eq a.wk r1 _ rfl)
  have c1 : (evC a)[1]? = some (.int .i64 a.wk) := rfl
  have C1 := Lib.hid c1
  have r2 : 0 ≤ a.tm ∧ a.tm ≤ 9223372036854775807 := by have := hf.tm; omega
  have l2 := one_nine a.tm r2
  have H2 := Lib.hid (size_eq a.tm r2 _ rfl)
  have c2 : (evC a)[2]? = some (.int .i64 a.tm) := rfl
  have C2 := Lib.hid c2
  have r3 : 0 ≤ a.kd ∧ a.kd ≤ 9223372036854775807 := by have := hf.kd; omega
  have l3 := one_nine a.kd r3
  have H3 := Lib.hid (size_eq a.kd r3 _ rfl)
  have c3 : (evC a)[3]? = some (.int .i64 a.kd) := rfl
  have C3 := Lib.hid c3
  have HP := Lib.hid (fun w n (hn : 0 + a.bytes.length = n) => putE_ok_n none 0 0 n [] a w hf Sl.nil_ (by omega) hn)
  have hz := evC_size a
  have HZ := Lib.hid hz
  have hk3 : (a.kd == 3) = false := by simp [hk.1]
  have hk4 : (a.kd == 4) = false := by simp [hk.2]
  clear hz hnn hf hk c0 c1 c2 c3
  generalize evC a = cs at *
  generalize a.bytes = bs at *
  generalize (oneB a.id.toNat).length = n0 at *
  generalize (oneB a.wk.toNat).length = n1 at *
  generalize (oneB a.tm.toNat).length = n2 at *
  generalize (oneB a.kd.toNat).length = n3 at *
  generalize a.id = z0 at *
  generalize a.wk = z1 at *
  generalize a.tm = z2 at *
  generalize a.kd = z3 at *
  clear r0 r1 r2 r3
  obtain ⟨N, hN⟩ : ∃ N, bs.length = N := ⟨_, rfl⟩
  have hsum : (N : Int) = (n0 : Int) + (n1 : Int) + (n2 : Int) + (n3 : Int) := by omega
  have HSUM := Lib.hid hsum
  have HN := Lib.hid hN
  clear hlen hN hsum
  go_enter Try.func7, Try.ntmps7
  go_wp2_with fail
  refine (awake8 _).mono ?_
  rintro e w1 ⟨rfl, b1⟩
  have HE := Lib.hid ((Has.new w 33 cs rfl).below b1)
  have hb1 := bel_on (bel_alloc (Below.refl w.heap.size w) _) b1
  clear b1
  go_wp2_with (refine wpList_load_e (by rfl) _ rfl w.heap.size rfl cs HE.out HZ.out ?_)
  refine (HP.out _ N (by have := HN.out; omega)).mono ?_
  rintro e w2 ⟨A, c, rfl, r2, b2⟩
  replace HE := Lib.hid (HE.out.below b2)
  replace hb1 := Lib.hid (bel_on hb1 b2)
  clear b2 r2
  obtain ⟨G, hG⟩ : ∃ G, w.heap.size = G := ⟨_, rfl⟩
  rw [hG] at HE ⊢
  clear hG
  have kk := HE.out.cell 3 C3.out
  go_wp2_with fail
  refine wp_region_noPanic ?_
  refine wp_region_held_drew (S := fun w' => Below w2.heap.size w2 w') (by kernel_rfl) (below_drew (Below.refl _ _)) (fun hHeld => ?_)
  refine wpAnyH_take (i := 0) (oi := ⟨some 21, _, _, _, _, _⟩) (v := ?_) rfl (by kernel_rfl) (by kernel_rfl) (by kernel_rfl) (fun _ _ _ h => h) (Or.inl ⟨by rfl, ?_⟩) hHeld ?_
  rotate_left
  · intro ww hSw
    (try dsimp only at hSw)
    go_simp
    (try with_reducible rfl)
  simp only [Act.put, List.setIfInBounds_toArray, List.set_cons_zero, List.set_cons_succ]
  refine wpAnyH_take (i := 1) (oi := ⟨some 22, _, _, _, _, _⟩) (v := .int .i64 z0) rfl (by kernel_rfl) (by kernel_rfl) (by kernel_rfl) (fun _ _ _ h => h) (Or.inl ⟨by rfl, ?_⟩) hHeld ?_
  · intro ww hSw
    (try dsimp only at hSw)
    have hcc := (hSw.cell (p := ⟨G, 0, none⟩) HE.out.size).trans (HE.out.cell 0 C0.out)
    have hcs := cell_lt hcc
    go_simp
  simp only [Act.put, List.setIfInBounds_toArray, List.set_cons_zero, List.set_cons_succ]
  refine wpAnyH_take (i := 3) (oi := ⟨some 24, _, _, _, _, _⟩) (v := ?_) rfl (by kernel_rfl) (by kernel_rfl) (by kernel_rfl) (fun _ _ _ h => h) (Or.inl ⟨by rfl, ?_⟩) hHeld ?_
  rotate_left
  · intro ww hSw
    (try dsimp only at hSw)
    go_simp
    (try with_reducible rfl)
  simp only [Act.put, List.setIfInBounds_toArray, List.set_cons_zero, List.set_cons_succ]
  refine wpAnyH_take (i := 4) (oi := ⟨some 25, _, _, _, _, _⟩) (v := .int .i64 z1) rfl (by kernel_rfl) (by kernel_rfl) (by kernel_rfl) (fun _ _ _ h => h) (Or.inl ⟨by rfl, ?_⟩) hHeld ?_
  · intro ww hSw
    (try dsimp only at hSw)
    have hcc := (hSw.cell (p := ⟨G, 1, none⟩) HE.out.size).trans (HE.out.cell 1 C1.out)
    have hcs := cell_lt hcc
    go_simp
  simp only [Act.put, List.setIfInBounds_toArray, List.set_cons_zero, List.set_cons_succ]
  refine wpAnyH_take (i := 7) (oi := ⟨some 28, _, _, _, _, _⟩) (v := ?_) rfl (by kernel_rfl) (by kernel_rfl) (by kernel_rfl) (fun _ _ _ h => h) (Or.inl ⟨by rfl, ?_⟩) hHeld ?_
  rotate_left
  · intro ww hSw
    (try dsimp only at hSw)
    go_simp
    (try with_reducible rfl)
  simp only [Act.put, List.setIfInBounds_toArray, List.set_cons_zero, List.set_cons_succ]
  refine wpAnyH_take (i := 8) (oi := ⟨some 29, _, _, _, _, _⟩) (v := .int .i64 z2) rfl (by kernel_rfl) (by kernel_rfl) (by kernel_rfl) (fun _ _ _ h => h) (Or.inl ⟨by rfl, ?_⟩) hHeld ?_
  · intro ww hSw
    (try dsimp only at hSw)
    have hcc := (hSw.cell (p := ⟨G, 2, none⟩) HE.out.size).trans (HE.out.cell 2 C2.out)
    have hcs := cell_lt hcc
    go_simp
  simp only [Act.put, List.setIfInBounds_toArray, List.set_cons_zero, List.set_cons_succ]
  refine wpAnyH_take (i := 11) (oi := ⟨some 32, _, _, _, _, _⟩) (v := ?_) rfl (by kernel_rfl) (by kernel_rfl) (by kernel_rfl) (fun _ _ _ h => h) (Or.inl ⟨by rfl, ?_⟩) hHeld ?_
  rotate_left
  · intro ww hSw
    (try dsimp only at hSw)
    go_simp
    (try with_reducible rfl)
  simp only [Act.put, List.setIfInBounds_toArray, List.set_cons_zero, List.set_cons_succ]
  refine wpAnyH_take (i := 12) (oi := ⟨some 33, _, _, _, _, _⟩) (v := .int .i64 z3) rfl (by kernel_rfl) (by kernel_rfl) (by kernel_rfl) (fun _ _ _ h => h) (Or.inl ⟨by rfl, ?_⟩) hHeld ?_
  · intro ww hSw
    (try dsimp only at hSw)
    have hcc := (hSw.cell (p := ⟨G, 3, none⟩) HE.out.size).trans (HE.out.cell 3 C3.out)
    have hcs := cell_lt hcc
    go_simp
  simp only [Act.put, List.setIfInBounds_toArray, List.set_cons_zero, List.set_cons_succ]
  refine wpAnyH_ready (rs := [2]) (by kernel_rfl) (by simp) ?_
  refine AllReadyH.cons (o := ⟨some 23, _, _, _, _, _⟩) rfl (fun K hK => ?_) AllReadyH.nil
  go_simp
  go_at_call 22
  refine (H0.out _).mono ?_
  rintro e_r _ ⟨rfl, rfl⟩
  go_wp2_with fail
  refine hK.out _ _ ?_ (fun hHeld => ?_)
  · (try dsimp only)
    (repeat' (first | with_reducible exact Below.refl _ _ | with_reducible assumption | with_reducible refine bel_alloc ?_ _ | with_reducible refine bel_set ?_ ?_ _ | with_reducible refine below_drewN ?_ _ | with_reducible refine below_drew ?_ | (simp; done) | (simp; omega) | omega))
  clear hK K
  (try simp only [Act.put, List.setIfInBounds_toArray, List.set_cons_zero, List.set_cons_succ])
  refine wpAnyH_ready (rs := [5]) (by kernel_rfl) (by simp) ?_
  refine AllReadyH.cons (o := ⟨some 26, _, _, _, _, _⟩) rfl (fun K hK => ?_) AllReadyH.nil
  go_simp
  go_at_call 22
  refine (H1.out _).mono ?_
  rintro e_r _ ⟨rfl, rfl⟩
  go_wp2_with fail
  refine hK.out _ _ ?_ (fun hHeld => ?_)
  · (try dsimp only)
    (repeat' (first | with_reducible exact Below.refl _ _ | with_reducible assumption | with_reducible refine bel_alloc ?_ _ | with_reducible refine bel_set ?_ ?_ _ | with_reducible refine below_drewN ?_ _ | with_reducible refine below_drew ?_ | (simp; done) | (simp; omega) | omega))
  clear hK K
  (try simp only [Act.put, List.setIfInBounds_toArray, List.set_cons_zero, List.set_cons_succ])
  refine wpAnyH_take (i := 6) (oi := ⟨some 27, _, _, _, _, _⟩) (v := ?_) rfl (by kernel_rfl) (by kernel_rfl) (by kernel_rfl) (fun _ _ _ h => h) (Or.inl ⟨by rfl, ?_⟩) hHeld ?_
  rotate_left
  · intro ww hSw
    (try dsimp only at hSw)
    go_simp
    (try with_reducible rfl)
  simp only [Act.put, List.setIfInBounds_toArray, List.set_cons_zero, List.set_cons_succ]
  refine wpAnyH_ready (rs := [9]) (by kernel_rfl) (by simp) ?_
  refine AllReadyH.cons (o := ⟨some 30, _, _, _, _, _⟩) rfl (fun K hK => ?_) AllReadyH.nil
  go_simp
  go_at_call 22
  refine (H2.out _).mono ?_
  rintro e_r _ ⟨rfl, rfl⟩
  go_wp2_with fail
  refine hK.out _ _ ?_ (fun hHeld => ?_)
  · (try dsimp only)
    (repeat' (first | with_reducible exact Below.refl _ _ | with_reducible assumption | with_reducible refine bel_alloc ?_ _ | with_reducible refine bel_set ?_ ?_ _ | with_reducible refine below_drewN ?_ _ | with_reducible refine below_drew ?_ | (simp; done) | (simp; omega) | omega))
  clear hK K
  (try simp only [Act.put, List.setIfInBounds_toArray, List.set_cons_zero, List.set_cons_succ])
  refine wpAnyH_take (i := 10) (oi := ⟨some 31, _, _, _, _, _⟩) (v := ?_) rfl (by kernel_rfl) (by kernel_rfl) (by kernel_rfl) (fun _ _ _ h => h) (Or.inl ⟨by rfl, ?_⟩) hHeld ?_
  rotate_left
  · intro ww hSw
    (try dsimp only at hSw)
    go_simp
    (try with_reducible rfl)
  simp only [Act.put, List.setIfInBounds_toArray, List.set_cons_zero, List.set_cons_succ]
  refine wpAnyH_ready (rs := [13]) (by kernel_rfl) (by simp) ?_
  refine AllReadyH.cons (o := ⟨some 34, _, _, _, _, _⟩) rfl (fun K hK => ?_) AllReadyH.nil
  go_simp
  go_at_call 22
  refine (H3.out _).mono ?_
  rintro e_r _ ⟨rfl, rfl⟩
  go_wp2_with fail
  refine hK.out _ _ ?_ (fun hHeld => ?_)
  · (try dsimp only)
    (repeat' (first | with_reducible exact Below.refl _ _ | with_reducible assumption | with_reducible refine bel_alloc ?_ _ | with_reducible refine bel_set ?_ ?_ _ | with_reducible refine below_drewN ?_ _ | with_reducible refine below_drew ?_ | (simp; done) | (simp; omega) | omega))
  clear hK K
  (try simp only [Act.put, List.setIfInBounds_toArray, List.set_cons_zero, List.set_cons_succ])
  refine wpAnyH_take (i := 14) (oi := ⟨some 35, _, _, _, _, _⟩) (v := ?_) rfl (by kernel_rfl) (by kernel_rfl) (by kernel_rfl) (fun _ _ _ h => h) (Or.inl ⟨by rfl, ?_⟩) hHeld ?_
  rotate_left
  · intro ww hSw
    (try dsimp only at hSw)
    go_simp
    (try with_reducible rfl)
  simp only [Act.put, List.setIfInBounds_toArray, List.set_cons_zero, List.set_cons_succ]
  refine wpAnyH_take (i := 15) (oi := ⟨some 6, _, _, _, _, _⟩) (v := ?_) rfl (by kernel_rfl) (by kernel_rfl) (by kernel_rfl) (fun _ _ _ h => h) (Or.inl ⟨by rfl, ?_⟩) hHeld ?_
  rotate_left
  · intro ww hSw
    (try dsimp only at hSw)
    go_simp
    (try with_reducible rfl)
  simp only [Act.put, List.setIfInBounds_toArray, List.set_cons_zero, List.set_cons_succ]
  refine wpAnyH_done (by kernel_rfl) ?_ _
  refine NoPanic.normal ?_
  clear hHeld
  replace HE := Lib.hid (HE.out.drew)
  replace hb1 := Lib.hid (below_drew hb1.out)
  generalize w2.drew = w3 at *
  replace kk := HE.out.cell 3 C3.out
  go_wp2_with fail
  go_ret
  refine ⟨ret_bool (beq_iff_eq.2 ?_), hb1.out⟩
  have := HSUM.out
  first
  | omega
  | (simp only [wrapi_id, IntKind.wrap_i64] at *; omega)
theorem eventSizes_walk (a : EvP) (w : World) (ha : a.In) :
    Calls Try.prog 7 #[.agg (evC a)] w fun e w' => e = .returned (.bool true) ∧ Below w.heap.size w w' := by
  by_cases hf : a.Fair
  · by_cases h3 : a.kd = 3
    · exact eventSizes_task a w hf h3
    · by_cases h4 : a.kd = 4
      · exact eventSizes_code a w hf h4
      · exact eventSizes_else a w hf ⟨h3, h4⟩
  · exact eventSizes_no a w ha hf
end Go.Proofs.Ytmfjfaageeeipaa
