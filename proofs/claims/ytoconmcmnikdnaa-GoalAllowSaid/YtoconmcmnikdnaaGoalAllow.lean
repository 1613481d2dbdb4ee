/-
  The law GoalAllow, walked.
-/
import Derived.Test.YtoconmcmnikdnaaGoD
namespace Go.Proofs.Ytoconmcmnikdnaa
open Go.RowKit
set_option linter.unusedVariables false
set_option linter.unusedSimpArgs false
set_option maxRecDepth 20000

set_option maxHeartbeats 8000000 in
theorem GoalAllow_few {w : World} {s : SetP} {cs : Array Value} (h : SetC w s cs) (hf : s.Fit) (e : EvP) (hi : e.In) (hF : ¬ s.Few) :
    Calls Try.prog 7 #[.agg cs, .agg (evC e)] w fun x w' => x = .returned (.bool true) ∧ Below w.heap.size w w' := by
  have HZ := Lib.hid h.size
  have HS := Lib.hid h
  have HF := Lib.hid (decide_eq_false hF)
  clear h hF
  generalize evC e = es at *
  go_enter Try.func7, Try.ntmps7
  go_wp2_with fail
  refine (awake10 _).mono ?_
  rintro x1 w1 ⟨rfl, b1⟩
  have HB := Lib.hid (((Has.new w 30 cs rfl).alloc (.cells es 32)).below b1)
  have HV := Lib.hid ((Has.new (w.alloc (.cells cs 30)) 32 es (s := w.heap.size + 1) (by simp)).below b1)
  have b0 : Below w.heap.size w w1 := bel_on (bel_alloc (bel_alloc (Below.refl _ _) _) _) b1
  replace HS := Lib.hid (HS.out.below b0)
  have HBW := Lib.hid b0
  clear b0 b1
  go_upto_region 2 with fail
  refine wp_region_lit ?_
  refine wpList_load_sg (by rfl) _ rfl w.heap.size rfl cs HB.out HZ.out ?_
  (try simp only [Act.put, List.setIfInBounds_toArray, List.set_cons_zero, List.set_cons_succ])
  refine wpList_step (fun K hK => ?_)
  go_simp
  go_at_call 9
  refine (few_c HS.out _ HF.out).mono ?_
  rintro e_r w2 ⟨rfl, b_⟩
  replace HS := Lib.hid (HS.out.below b_)
  replace HB := Lib.hid (HB.out.below b_)
  replace HV := Lib.hid (HV.out.below b_)
  replace HBW := Lib.hid (bel_on HBW.out b_)
  clear b_
  refine hK _ _ ?_
  clear hK K
  (try simp only [Act.put, List.setIfInBounds_toArray, List.set_cons_zero, List.set_cons_succ])
  go_wp2
  go_ret
  exact ⟨rfl, HBW.out⟩
set_option maxHeartbeats 8000000 in
theorem GoalAllow_no {w : World} {s : SetP} {cs : Array Value} (h : SetC w s cs) (hf : s.Fit) (e : EvP) (hi : e.In) (hF : s.Few) (hc : checkB s = false) :
    Calls Try.prog 7 #[.agg cs, .agg (evC e)] w fun x w' => x = .returned (.bool true) ∧ Below w.heap.size w w' := by
  have HZ := Lib.hid h.size
  have HS := Lib.hid h
  have HF := Lib.hid (decide_eq_true hF)
  have cC : Hid (∀ wx, SetC wx s cs → Calls Try.prog 12 #[.agg cs] wx fun x w' => x = .returned (.bool false) ∧ Below wx.heap.size wx w') := Lib.hid (fun wx hs => scheck_c hs hf _ hc)
  generalize evC e = es at *
  clear h hF hi hf hc
  go_enter Try.func7, Try.ntmps7
  go_wp2_with fail
  refine (awake10 _).mono ?_
  rintro x1 w1 ⟨rfl, b1⟩
  have HB := Lib.hid (((Has.new w 30 cs rfl).alloc (.cells es 32)).below b1)
  have HV := Lib.hid ((Has.new (w.alloc (.cells cs 30)) 32 es (s := w.heap.size + 1) (by simp)).below b1)
  have b0 : Below w.heap.size w w1 := bel_on (bel_alloc (bel_alloc (Below.refl _ _) _) _) b1
  replace HS := Lib.hid (HS.out.below b0)
  have HBW := Lib.hid b0
  clear b0 b1
  go_upto_region 2 with fail
  refine wp_region_lit ?_
  refine wpList_load_sg (by rfl) _ rfl w.heap.size rfl cs HB.out HZ.out ?_
  (try simp only [Act.put, List.setIfInBounds_toArray, List.set_cons_zero, List.set_cons_succ])
  refine wpList_step (fun K hK => ?_)
  go_simp
  go_at_call 9
  refine (few_c HS.out _ HF.out).mono ?_
  rintro e_r w2 ⟨rfl, b_⟩
  replace HS := Lib.hid (HS.out.below b_)
  replace HB := Lib.hid (HB.out.below b_)
  replace HV := Lib.hid (HV.out.below b_)
  replace HBW := Lib.hid (bel_on HBW.out b_)
  clear b_
  refine hK _ _ ?_
  clear hK K
  (try simp only [Act.put, List.setIfInBounds_toArray, List.set_cons_zero, List.set_cons_succ])
  iterate 2 (refine wpList_step (fun K hK => ?_); go_simp; refine hK _ _ ?_; clear hK K; (try simp only [Act.put, List.setIfInBounds_toArray, List.set_cons_zero, List.set_cons_succ]))
  refine wpList_load_sg (by rfl) _ rfl w.heap.size rfl cs HB.out HZ.out ?_
  (try simp only [Act.put, List.setIfInBounds_toArray, List.set_cons_zero, List.set_cons_succ])
  refine wpList_step (fun K hK => ?_)
  go_simp
  go_at_call 12
  refine (cC.out _ HS.out).mono ?_
  rintro e_r x5 ⟨rfl, b_⟩
  replace HB := Lib.hid (HB.out.below b_)
  replace HV := Lib.hid (HV.out.below b_)
  replace HS := Lib.hid (HS.out.below b_)
  replace HBW := Lib.hid (bel_on HBW.out b_)
  clear b_
  refine hK _ _ ?_
  clear hK K
  (try simp only [Act.put, List.setIfInBounds_toArray, List.set_cons_zero, List.set_cons_succ])
  go_wp2
  go_ret
  exact ⟨rfl, HBW.out⟩
set_option maxHeartbeats 8000000 in
theorem GoalAllow_yes {w : World} {s : SetP} {cs : Array Value} (h : SetC w s cs) (hf : s.Fit) (e : EvP) (hi : e.In) (hF : s.Few) (hc : checkB s = true) :
    Calls Try.prog 7 #[.agg cs, .agg (evC e)] w fun x w' => x = .returned (.bool true) ∧ Below w.heap.size w w' := by
  obtain ⟨X, hX⟩ : ∃ X, goalE s e = X := ⟨_, rfl⟩
  obtain ⟨Y, hY⟩ : ∃ Y, goalE s.plain e = Y := ⟨_, rfl⟩
  have HZ := Lib.hid h.size
  have HZ_es := Lib.hid (evC_size e)
  have HO_es := Lib.hid (evC_one e)
  have HS := Lib.hid h
  have HF := Lib.hid (decide_eq_true hF)
  have c_es : Hid (∀ wx, SetC wx s cs → Calls Try.prog 10 #[.agg cs, .agg (evC e)] wx fun x w' => x = .returned (.tuple #[.agg #[.int .i64 X.n, .int .i64 X.d], .int .i64 X.c]) ∧ Below wx.heap.size wx w') := Lib.hid (fun wx hs => gof_any hs hf e hi X hX)
  have HS0 := Lib.hid h
  have HO := Lib.hid h.one
  have cC : Hid (∀ wx, SetC wx s cs → Calls Try.prog 12 #[.agg cs] wx fun x w' => x = .returned (.bool true) ∧ Below wx.heap.size wx w') := Lib.hid (fun wx hs => scheck_c hs hf _ hc)
  have hA := (check_iff.1 hc).allow
  have AL := Lib.hid (goalE_allow hc hX hY)
  have bX : X.c = 0 → mayB X.n X.d = true := fun c1 => by rcases goalE_three hX with q | q | q; exact q.2.1; all_goals (rw [q.1] at c1; cases c1)
  have bY : Y.c = 0 → mayB Y.n Y.d = true := fun c1 => by rcases goalE_three hY with q | q | q; exact q.2.1; all_goals (rw [q.1] at c1; cases c1)
  have BX := Lib.hid bX
  have BY := Lib.hid bY
  obtain ⟨-, -, -, -, -, -, -, -, -, -, -, q7, -⟩ := setC_goal h
  obtain ⟨cs0, hcs0⟩ : ∃ q, cs.setIfInBounds 7 (.int .i64 0) = q := ⟨_, rfl⟩
  have hp := setC_plain h
  rw [hcs0] at hp
  have HP := Lib.hid hp
  have HZ0 : Hid (cs0.size = 23) := Lib.hid hp.size
  have HE_cs0 := Lib.hid hcs0
  have c_es0 : Hid (∀ wx, SetC wx s.plain cs0 → Calls Try.prog 10 #[.agg cs0, .agg (evC e)] wx fun x w' => x = .returned (.tuple #[.agg #[.int .i64 Y.n, .int .i64 Y.d], .int .i64 Y.c]) ∧ Below wx.heap.size wx w') := Lib.hid (fun wx hs => gof_any hs (fit_plain hf) e hi Y hY)
  generalize s.allow = al at *
  generalize evC e = es at *
  clear h hF hX hY hi hf hc hcs0 hp bX bY
  go_enter Try.func7, Try.ntmps7
  go_wp2_with fail
  refine (awake10 _).mono ?_
  rintro x1 w1 ⟨rfl, b1⟩
  have HB := Lib.hid (((Has.new w 30 cs rfl).alloc (.cells es 32)).below b1)
  have HV := Lib.hid ((Has.new (w.alloc (.cells cs 30)) 32 es (s := w.heap.size + 1) (by simp)).below b1)
  have b0 : Below w.heap.size w w1 := bel_on (bel_alloc (bel_alloc (Below.refl _ _) _) _) b1
  replace HS := Lib.hid (HS.out.below b0)
  have HBW := Lib.hid b0
  clear b0 b1
  go_upto_region 2 with fail
  refine wp_region_lit ?_
  refine wpList_load_sg (by rfl) _ rfl w.heap.size rfl cs HB.out HZ.out ?_
  (try simp only [Act.put, List.setIfInBounds_toArray, List.set_cons_zero, List.set_cons_succ])
  refine wpList_step (fun K hK => ?_)
  go_simp
  go_at_call 9
  refine (few_c HS.out _ HF.out).mono ?_
  rintro e_r w2 ⟨rfl, b_⟩
  replace HS := Lib.hid (HS.out.below b_)
  replace HB := Lib.hid (HB.out.below b_)
  replace HV := Lib.hid (HV.out.below b_)
  replace HBW := Lib.hid (bel_on HBW.out b_)
  clear b_
  refine hK _ _ ?_
  clear hK K
  (try simp only [Act.put, List.setIfInBounds_toArray, List.set_cons_zero, List.set_cons_succ])
  iterate 2 (refine wpList_step (fun K hK => ?_); go_simp; refine hK _ _ ?_; clear hK K; (try simp only [Act.put, List.setIfInBounds_toArray, List.set_cons_zero, List.set_cons_succ]))
  refine wpList_load_sg (by rfl) _ rfl w.heap.size rfl cs HB.out HZ.out ?_
  (try simp only [Act.put, List.setIfInBounds_toArray, List.set_cons_zero, List.set_cons_succ])
  refine wpList_step (fun K hK => ?_)
  go_simp
  go_at_call 12
  refine (cC.out _ HS.out).mono ?_
  rintro e_r x5 ⟨rfl, b_⟩
  replace HB := Lib.hid (HB.out.below b_)
  replace HV := Lib.hid (HV.out.below b_)
  replace HS := Lib.hid (HS.out.below b_)
  replace HBW := Lib.hid (bel_on HBW.out b_)
  clear b_
  refine hK _ _ ?_
  clear hK K
  (try simp only [Act.put, List.setIfInBounds_toArray, List.set_cons_zero, List.set_cons_succ])
  clear cC
  go_upto_region 4 with fail
  go_cut [6] (fun v6 wx => ∃ g6 : Nat, v6 = .pointer (some ⟨g6, 0, none⟩) ∧ w.heap.size ≤ g6 ∧ ¬ w.heap.size = g6 ∧ ¬ w.heap.size + 1 = g6 ∧ Hid (Has wx g6 cs) ∧ Hid (Has wx w.heap.size cs) ∧ Hid (Has wx (w.heap.size + 1) es) ∧ Hid (SetC wx s cs) ∧ Hid (Below w.heap.size w wx))
  case first =>
    have y8 := HV.out.size
    have y7 := HBW.out.size
    refine wp_region_lit ?_
    refine wpList_load_sg (by rfl) _ rfl w.heap.size rfl cs HB.out HZ.out ?_
    (try simp only [Act.put, List.setIfInBounds_toArray, List.set_cons_zero, List.set_cons_succ])
    refine wpList_laidS cs 6 _ _ rfl rfl rfl rfl rfl rfl rfl rfl HZ.out HO.out ?_
    (try simp only [Act.put, List.setIfInBounds_toArray, List.set_cons_zero, List.set_cons_succ])
    refine wpList_nil ?_
    go_wp2_with fail
    go_meet
    exact ⟨_, rfl, by omega, by omega, by omega, Lib.hid (Has.new _ _ _ rfl), Lib.hid (HB.out.alloc _), Lib.hid (HV.out.alloc _), Lib.hid (HS.out.below (bel_alloc (Below.refl _ _) _)), Lib.hid (bel_alloc HBW.out _)⟩
  case rest =>
    clear HB HV HS HBW
    obtain ⟨g6, rfl, l_g6, nb, nv, H6, HB, HV, HS, HBW⟩ := hcut
    have x7 := H6.out.cell 7 q7
    have x7f := H6.out.frozen 7
    have x6l := H6.out.size
    go_upto_region 6 with fail
    have HQ : Hid (Has (wc.setCell ⟨g6, 7, none⟩ (.int .i64 0)) g6 cs0) := Lib.hid (by rw [← HE_cs0.out]; exact H6.out.set 7 (.int .i64 0))
    clear H6
    have H6 := HQ
    clear HQ
    replace HB := Lib.hid (HB.out.far (p := ⟨g6, 7, none⟩) (by simp; omega) (.int .i64 0))
    replace HV := Lib.hid (HV.out.far (p := ⟨g6, 7, none⟩) (by simp; omega) (.int .i64 0))
    replace HBW := Lib.hid (bel_set HBW.out (p := ⟨g6, 7, none⟩) (by simp; omega) (.int .i64 0))
    clear HS
    have HS := Lib.hid (HS0.out.below HBW.out)
    have HS2 := Lib.hid (HP.out.below HBW.out)
    generalize wc.setCell ⟨g6, 7, none⟩ (.int .i64 0) = wd at *
    clear x7 x7f x6l
    go_upto_region 6 with fail
    go_cut [7, 8] (fun v7 v8 wx => ∃ g7 : Nat, v7 = .pointer (some ⟨g7, 0, none⟩) ∧ v8 = .int .i64 X.c ∧ Hid (Has wx g7 #[.int .i64 X.n, .int .i64 X.d]) ∧ Hid (Has wx g6 cs0) ∧ Hid (Has wx w.heap.size cs) ∧ Hid (Has wx (w.heap.size + 1) es) ∧ Hid (SetC wx s cs) ∧ Hid (SetC wx s.plain cs0) ∧ Hid (Below w.heap.size w wx))
    case first =>
      refine wp_region_lit ?_
      refine wpList_load_sg (by rfl) _ rfl w.heap.size rfl cs HB.out HZ.out ?_
      (try simp only [Act.put, List.setIfInBounds_toArray, List.set_cons_zero, List.set_cons_succ])
      refine wpList_load_e (by rfl) _ rfl (w.heap.size + 1) rfl es HV.out HZ_es.out ?_
      (try simp only [Act.put, List.setIfInBounds_toArray, List.set_cons_zero, List.set_cons_succ])
      refine wpList_step (fun K hK => ?_)
      go_simp
      go_at_call 10
      refine (c_es.out _ HS.out).mono ?_
      rintro e_r w5 ⟨rfl, b_⟩
      replace H6 := Lib.hid (H6.out.below b_)
      replace HB := Lib.hid (HB.out.below b_)
      replace HV := Lib.hid (HV.out.below b_)
      replace HS := Lib.hid (HS.out.below b_)
      replace HS2 := Lib.hid (HS2.out.below b_)
      replace HBW := Lib.hid (bel_on HBW.out b_)
      clear b_
      refine hK _ _ ?_
      clear hK K
      (try simp only [Act.put, List.setIfInBounds_toArray, List.set_cons_zero, List.set_cons_succ])
      iterate 6 (refine wpList_step (fun K hK => ?_); go_simp; refine hK _ _ ?_; clear hK K; (try simp only [Act.put, List.setIfInBounds_toArray, List.set_cons_zero, List.set_cons_succ]))
      refine wpList_nil ?_
      go_wp2_with fail
      go_meet
      exact ⟨_, rfl, rfl, Lib.hid (Has.new _ _ _ rfl), Lib.hid (H6.out.alloc _), Lib.hid (HB.out.alloc _), Lib.hid (HV.out.alloc _), Lib.hid (HS.out.below (bel_alloc (Below.refl _ _) _)), Lib.hid (HS2.out.below (bel_alloc (Below.refl _ _) _)), Lib.hid (bel_alloc HBW.out _)⟩
    case rest =>
      clear H6 HB HV HS HS2 HBW
      obtain ⟨g7, rfl, rfl, H7, H6, HB, HV, HS, HS2, HBW⟩ := hcut
      go_upto_region 7 with fail
      go_cut [9, 10] (fun v9 v10 wx => ∃ g9 : Nat, v9 = .pointer (some ⟨g9, 0, none⟩) ∧ v10 = .int .i64 Y.c ∧ Hid (Has wx g9 #[.int .i64 Y.n, .int .i64 Y.d]) ∧ Hid (Has wx g7 #[.int .i64 X.n, .int .i64 X.d]) ∧ Hid (Has wx g6 cs0) ∧ Hid (Has wx w.heap.size cs) ∧ Hid (Has wx (w.heap.size + 1) es) ∧ Hid (SetC wx s cs) ∧ Hid (SetC wx s.plain cs0) ∧ Hid (Below w.heap.size w wx))
      case first =>
        refine wp_region_lit ?_
        refine wpList_load_sg (by rfl) _ rfl g6 rfl cs0 H6.out HZ0.out ?_
        (try simp only [Act.put, List.setIfInBounds_toArray, List.set_cons_zero, List.set_cons_succ])
        refine wpList_load_e (by rfl) _ rfl (w.heap.size + 1) rfl es HV.out HZ_es.out ?_
        (try simp only [Act.put, List.setIfInBounds_toArray, List.set_cons_zero, List.set_cons_succ])
        refine wpList_step (fun K hK => ?_)
        go_simp
        go_at_call 10
        refine (c_es0.out _ HS2.out).mono ?_
        rintro e_r w5 ⟨rfl, b_⟩
        replace H7 := Lib.hid (H7.out.below b_)
        replace H6 := Lib.hid (H6.out.below b_)
        replace HB := Lib.hid (HB.out.below b_)
        replace HV := Lib.hid (HV.out.below b_)
        replace HS := Lib.hid (HS.out.below b_)
        replace HS2 := Lib.hid (HS2.out.below b_)
        replace HBW := Lib.hid (bel_on HBW.out b_)
        clear b_
        refine hK _ _ ?_
        clear hK K
        (try simp only [Act.put, List.setIfInBounds_toArray, List.set_cons_zero, List.set_cons_succ])
        iterate 6 (refine wpList_step (fun K hK => ?_); go_simp; refine hK _ _ ?_; clear hK K; (try simp only [Act.put, List.setIfInBounds_toArray, List.set_cons_zero, List.set_cons_succ]))
        refine wpList_nil ?_
        go_wp2_with fail
        go_meet
        exact ⟨_, rfl, rfl, Lib.hid (Has.new _ _ _ rfl), Lib.hid (H7.out.alloc _), Lib.hid (H6.out.alloc _), Lib.hid (HB.out.alloc _), Lib.hid (HV.out.alloc _), Lib.hid (HS.out.below (bel_alloc (Below.refl _ _) _)), Lib.hid (HS2.out.below (bel_alloc (Below.refl _ _) _)), Lib.hid (bel_alloc HBW.out _)⟩
      case rest =>
        clear H7 H6 HB HV HS HS2 HBW
        obtain ⟨g9, rfl, rfl, H9, H7, H6, HB, HV, HS, HS2, HBW⟩ := hcut
        obtain ⟨xn, xd, xc⟩ := X
        obtain ⟨yn, yd, yc⟩ := Y
        have al1 := AL.out
        have bX := BX.out
        have bY := BY.out
        clear AL BX BY c_es c_es0
        simp only at al1 bX bY H7 H9 ⊢
        have y7 := HB.out.cell 7 q7
        have y7l := cell_lt y7
        obtain ⟨c0, c1, -, -⟩ := H7.out.two
        have z0 := cell_lt c0
        obtain ⟨c2, c3, -, -⟩ := H9.out.two
        have z2 := cell_lt c2
        by_cases hx : xc = 0
        rotate_left
        · by_cases p1 : xc = 100
          · have p2 := al1.2.1 p1
            subst p1 p2
            go_wp2
            go_ret
            exact ⟨by simp, HBW.out⟩
          · have p2 : ¬ yc = 100 := fun h => p1 (al1.2.2 h)
            go_wp2
            go_ret
            exact ⟨by simp; rw [show (xc == 100) = false from by simpa using p1, show (yc == 100) = false from by simpa using p2], HBW.out⟩
        subst hx
        by_cases hy : yc = 0
        rotate_left
        · have p2 : ¬ yc = 100 := fun h => absurd (al1.2.2 h) (by decide)
          go_wp2
          go_ret
          exact ⟨by simp [p2], HBW.out⟩
        subst hy
        have mx := may_bd (bX rfl)
        have my := may_bd (bY rfl)
        have e1 := al1.1 rfl rfl
        clear al1 bX bY
        have p0 := part_bd (a := xn) (b := yd) (by omega) (by omega) (by omega) (by omega)
        have p1 := part_bd (a := yn) (b := 100 + al) (by omega) (by omega) (by omega) (by omega)
        have k1 : IntKind.i64.wrap (xn * yd) = xn * yd := wrapg_id (by omega) (by omega)
        have k2 : IntKind.i64.wrap (100 + al) = 100 + al := wrapg_id (by omega) (by omega)
        have k3 : IntKind.i64.wrap (yn * (100 + al)) = yn * (100 + al) := wrapg_id (by omega) (by omega)
        obtain ⟨q, hq⟩ : ∃ q, IntKind.i64.wrap (xn * yd * 100) = q := ⟨_, rfl⟩
        have hq2 : IntKind.i64.wrap (yn * (100 + al) * xd) = q := by rw [← e1]; exact hq
        clear e1 p0 p1 mx my
        go_wp2
        go_ret
        exact ⟨rfl, HBW.out⟩
set_option maxHeartbeats 8000000 in
theorem GoalAllow_main {w : World} {s : SetP} {cs : Array Value} (h : SetC w s cs) (hf : s.Fit) (e : EvP) (hi : e.In) (hF : s.Few) :
    Calls Try.prog 7 #[.agg cs, .agg (evC e)] w fun x w' => x = .returned (.bool true) ∧ Below w.heap.size w w' := by
  by_cases hc : checkB s = true
  · exact GoalAllow_yes h hf e hi hF hc
  · exact GoalAllow_no h hf e hi hF (by simpa using hc)
theorem goalAllow_walk (s : SetP) (A1 A2 A3 A4 A5 A6 : Option Addr) (c1 c2 c3 c4 c5 c6 : Nat) (e : EvP) (w : World) (hs : SetAt w s A1 A2 A3 A4 A5 A6 c1 c2 c3 c4 c5 c6) (hf : s.Fit) (hi : e.In) :
    Calls Try.prog 7 #[setV s A1 A2 A3 A4 A5 A6 c1 c2 c3 c4 c5 c6, .agg (evC e)] w fun e w' => e = .returned (.bool true) ∧ Below w.heap.size w w' := by
  obtain ⟨cs, hcs⟩ : ∃ cs, setV s A1 A2 A3 A4 A5 A6 c1 c2 c3 c4 c5 c6 = .agg cs := ⟨_, rfl⟩
  have h : SetC w s cs := ⟨A1, A2, A3, A4, A5, A6, c1, c2, c3, c4, c5, c6, hcs, hs⟩
  rw [hcs]
  by_cases hF : s.Few
  · exact GoalAllow_main h hf e hi hF
  · exact GoalAllow_few h hf e hi hF
end Go.Proofs.Ytoconmcmnikdnaa
