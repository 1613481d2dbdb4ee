/-
  The law GoalUnits, walked.
-/
import Derived.Test.YtoconmcmnikdnaaGoD
namespace Go.Proofs.Ytoconmcmnikdnaa
open Go.RowKit
set_option linter.unusedVariables false
set_option linter.unusedSimpArgs false
set_option maxRecDepth 20000

theorem qminus_x (a b c d : Int) (X : Rat2) (w : World) (hX : minusR a b c d = X) (ha : -9223372036854775808 ≤ a ∧ a ≤ 9223372036854775807) (hb : -9223372036854775808 ≤ b ∧ b ≤ 9223372036854775807) (hc : -9223372036854775808 ≤ c ∧ c ≤ 9223372036854775807) (hd : -9223372036854775808 ≤ d ∧ d ≤ 9223372036854775807) :
    Calls Try.prog 16 #[.agg #[.int .i64 a, .int .i64 b], .agg #[.int .i64 c, .int .i64 d]] w fun e w' => e = .returned (.tuple #[.agg #[.int .i64 X.n, .int .i64 X.d], .int .i64 X.c]) ∧ Below w.heap.size w w' := by
  subst hX
  exact qminus_any a b c d w ha hb hc hd
set_option maxHeartbeats 8000000 in
theorem GoalUnits_few {w : World} {s : SetP} {cs : Array Value} (h : SetC w s cs) (hf : s.Fit) (e : EvP) (hi : e.In) (hF : ¬ s.Few) (g : Int) (hg0 : 0 ≤ g) (hg1 : g ≤ 255) :
    Calls Try.prog 5 #[.agg cs, .agg (evC e), .int .u8 g] w fun x w' => x = .returned (.bool true) ∧ Below w.heap.size w w' := by
  have HZ := Lib.hid h.size
  have HS := Lib.hid h
  have HF := Lib.hid (decide_eq_false hF)
  clear h hF
  generalize evC e = es at *
  go_enter Try.func5, Try.ntmps5
  go_wp2_with fail
  refine (awake10 _).mono ?_
  rintro x1 w1 ⟨rfl, b1⟩
  have HB := Lib.hid (((Has.new w 30 cs rfl).alloc (.cells es 32)).below b1)
  have HV := Lib.hid ((Has.new (w.alloc (.cells cs 30)) 32 es (s := w.heap.size + 1) (by simp)).below b1)
  have b0 : Below w.heap.size w w1 := bel_on (bel_alloc (bel_alloc (Below.refl _ _) _) _) b1
  replace HS := Lib.hid (HS.out.below b0)
  have HBW := Lib.hid b0
  clear b0 b1
  go_upto_region 2 with fail
  refine wp_region_lit ?_
  refine wpList_load_sg (by rfl) _ rfl w.heap.size rfl cs HB.out HZ.out ?_
  (try simp only [Act.put, List.setIfInBounds_toArray, List.set_cons_zero, List.set_cons_succ])
  refine wpList_step (fun K hK => ?_)
  go_simp
  go_at_call 9
  refine (few_c HS.out _ HF.out).mono ?_
  rintro e_r w2 ⟨rfl, b_⟩
  replace HS := Lib.hid (HS.out.below b_)
  replace HB := Lib.hid (HB.out.below b_)
  replace HV := Lib.hid (HV.out.below b_)
  replace HBW := Lib.hid (bel_on HBW.out b_)
  clear b_
  refine hK _ _ ?_
  clear hK K
  (try simp only [Act.put, List.setIfInBounds_toArray, List.set_cons_zero, List.set_cons_succ])
  go_wp2
  go_ret
  exact ⟨rfl, HBW.out⟩
set_option maxHeartbeats 8000000 in
theorem GoalUnits_out {w : World} {s : SetP} {cs : Array Value} (h : SetC w s cs) (hf : s.Fit) (e : EvP) (hi : e.In) (g : Int) (hg0 : 0 ≤ g) (hg1 : g ≤ 255) (hF : s.Few) (hU : 20000 < e.un ∨ e.un < 0) :
    Calls Try.prog 5 #[.agg cs, .agg (evC e), .int .u8 g] w fun x w' => x = .returned (.bool true) ∧ Below w.heap.size w w' := by
  have HZ := Lib.hid h.size
  have HZ_es := Lib.hid (evC_size e)
  have HO_es := Lib.hid (evC_one e)
  have HS := Lib.hid h
  have HF := Lib.hid (decide_eq_true hF)
  have HS0 := Lib.hid h
  have d7 : (evC e)[7]? = some (.int .i64 e.un) := rfl
  generalize evC e = es at *
  generalize e.un = un at *
  clear h hF hi hf
  go_enter Try.func5, Try.ntmps5
  go_wp2_with fail
  refine (awake10 _).mono ?_
  rintro x1 w1 ⟨rfl, b1⟩
  have HB := Lib.hid (((Has.new w 30 cs rfl).alloc (.cells es 32)).below b1)
  have HV := Lib.hid ((Has.new (w.alloc (.cells cs 30)) 32 es (s := w.heap.size + 1) (by simp)).below b1)
  have b0 : Below w.heap.size w w1 := bel_on (bel_alloc (bel_alloc (Below.refl _ _) _) _) b1
  replace HS := Lib.hid (HS.out.below b0)
  have HBW := Lib.hid b0
  clear b0 b1
  go_upto_region 2 with fail
  refine wp_region_lit ?_
  refine wpList_load_sg (by rfl) _ rfl w.heap.size rfl cs HB.out HZ.out ?_
  (try simp only [Act.put, List.setIfInBounds_toArray, List.set_cons_zero, List.set_cons_succ])
  refine wpList_step (fun K hK => ?_)
  go_simp
  go_at_call 9
  refine (few_c HS.out _ HF.out).mono ?_
  rintro e_r w2 ⟨rfl, b_⟩
  replace HS := Lib.hid (HS.out.below b_)
  replace HB := Lib.hid (HB.out.below b_)
  replace HV := Lib.hid (HV.out.below b_)
  replace HBW := Lib.hid (bel_on HBW.out b_)
  clear b_
  refine hK _ _ ?_
  clear hK K
  (try simp only [Act.put, List.setIfInBounds_toArray, List.set_cons_zero, List.set_cons_succ])
  go_upto_region 5 with fail
  go_cut [9] (fun v9 wx => ∃ g9 : Nat, v9 = .pointer (some ⟨g9, 0, none⟩) ∧ w.heap.size ≤ g9 ∧ ¬ w.heap.size = g9 ∧ ¬ w.heap.size + 1 = g9 ∧ Hid (Has wx g9 es) ∧ Hid (Has wx w.heap.size cs) ∧ Hid (Has wx (w.heap.size + 1) es) ∧ Hid (SetC wx s cs) ∧ Hid (Below w.heap.size w wx))
  case first =>
    have y8 := HV.out.size
    have y7 := HBW.out.size
    refine wp_region_lit ?_
    refine wpList_load_e (by rfl) _ rfl (w.heap.size + 1) rfl es HV.out HZ_es.out ?_
    (try simp only [Act.put, List.setIfInBounds_toArray, List.set_cons_zero, List.set_cons_succ])
    refine wpList_laid_e es 9 _ _ rfl rfl rfl rfl rfl rfl rfl rfl HZ_es.out HO_es.out ?_
    (try simp only [Act.put, List.setIfInBounds_toArray, List.set_cons_zero, List.set_cons_succ])
    refine wpList_nil ?_
    go_wp2_with fail
    go_meet
    exact ⟨_, rfl, by omega, by omega, by omega, Lib.hid (Has.new _ _ _ rfl), Lib.hid (HB.out.alloc _), Lib.hid (HV.out.alloc _), Lib.hid (HS.out.below (bel_alloc (Below.refl _ _) _)), Lib.hid (bel_alloc HBW.out _)⟩
  case rest =>
    clear HB HV HS HBW
    obtain ⟨g9, rfl, l_g9, nb_g9, nv_g9, H9, HB, HV, HS, HBW⟩ := hcut
    go_upto_region 6 with fail
    go_cut [10] (fun v10 wx => ∃ g10 : Nat, v10 = .pointer (some ⟨g10, 0, none⟩) ∧ w.heap.size ≤ g10 ∧ ¬ w.heap.size = g10 ∧ ¬ w.heap.size + 1 = g10 ∧ ¬ g9 = g10 ∧ Hid (Has wx g10 es) ∧ Hid (Has wx g9 es) ∧ Hid (Has wx w.heap.size cs) ∧ Hid (Has wx (w.heap.size + 1) es) ∧ Hid (SetC wx s cs) ∧ Hid (Below w.heap.size w wx))
    case first =>
      have y8 := HV.out.size
      have y7 := HBW.out.size
      have y_H9 := H9.out.size
      refine wp_region_lit ?_
      refine wpList_load_e (by rfl) _ rfl (w.heap.size + 1) rfl es HV.out HZ_es.out ?_
      (try simp only [Act.put, List.setIfInBounds_toArray, List.set_cons_zero, List.set_cons_succ])
      refine wpList_laid_e es 10 _ _ rfl rfl rfl rfl rfl rfl rfl rfl HZ_es.out HO_es.out ?_
      (try simp only [Act.put, List.setIfInBounds_toArray, List.set_cons_zero, List.set_cons_succ])
      refine wpList_nil ?_
      go_wp2_with fail
      go_meet
      exact ⟨_, rfl, by omega, by omega, by omega, by omega, Lib.hid (Has.new _ _ _ rfl), Lib.hid (H9.out.alloc _), Lib.hid (HB.out.alloc _), Lib.hid (HV.out.alloc _), Lib.hid (HS.out.below (bel_alloc (Below.refl _ _) _)), Lib.hid (bel_alloc HBW.out _)⟩
    case rest =>
      clear H9 HB HV HS HBW
      obtain ⟨g10, rfl, l_g10, nb_g10, nv_g10, n_g9_g10, H10, H9, HB, HV, HS, HBW⟩ := hcut
      have y7 := HV.out.cell 7 d7
      have yl := cell_lt y7
      have x9 := H9.out.cell 7 d7
      have x9f := H9.out.frozen 7
      have x10 := H10.out.cell 7 d7
      have x10f := H10.out.frozen 7
      have n_rev : ¬ g10 = g9 := fun h => n_g9_g10 h.symm
      have lb := HB.out.size
      rcases hU with hU | hU
      · go_wp2
        go_ret
        exact ⟨rfl, HBW.out⟩
      · have hU2 : ¬ 20000 < un := by omega
        go_wp2
        go_ret
        exact ⟨rfl, HBW.out⟩
set_option maxHeartbeats 8000000 in
theorem GoalUnits_in {w : World} {s : SetP} {cs : Array Value} (h : SetC w s cs) (hf : s.Fit) (e : EvP) (hi : e.In) (g : Int) (hg0 : 0 ≤ g) (hg1 : g ≤ 255) (hF : s.Few) (hU : 0 ≤ e.un ∧ e.un ≤ 20000) :
    Calls Try.prog 5 #[.agg cs, .agg (evC e), .int .u8 g] w fun x w' => x = .returned (.bool true) ∧ Below w.heap.size w w' := by
  obtain ⟨X, hX⟩ : ∃ X, goalE s e = X := ⟨_, rfl⟩
  have HZ := Lib.hid h.size
  have HZ_es := Lib.hid (evC_size e)
  have HO_es := Lib.hid (evC_one e)
  have HS := Lib.hid h
  have HF := Lib.hid (decide_eq_true hF)
  have c_es : Hid (∀ wx, SetC wx s cs → Calls Try.prog 10 #[.agg cs, .agg (evC e)] wx fun x w' => x = .returned (.tuple #[.agg #[.int .i64 X.n, .int .i64 X.d], .int .i64 X.c]) ∧ Below wx.heap.size wx w') := Lib.hid (fun wx hs => gof_any hs hf e hi X hX)
  have HS0 := Lib.hid h
  obtain ⟨i, wk, t, k, fr, too, el, un, cl, ge, cd⟩ := e
  simp only at hU
  obtain ⟨Y, hY⟩ : ∃ Y, goalE s ⟨i, wk, t, k, fr, too, el, un + g, cl, ge, cd⟩ = Y := ⟨_, rfl⟩
  obtain ⟨Z, hZ⟩ : ∃ Z, goalE s ⟨i, wk, t, k, fr, too, el, un + 2 * g, cl, ge, cd⟩ = Z := ⟨_, rfl⟩
  have three : X.c = 0 → Y.c = 0 → Z.c = 0 → ((minusR Y.n Y.d X.n X.d).c = 0 → (minusR Z.n Z.d Y.n Y.d).c = 0 → (minusR Y.n Y.d X.n X.d).n = (minusR Z.n Z.d Y.n Y.d).n ∧ (minusR Y.n Y.d X.n X.d).d = (minusR Z.n Z.d Y.n Y.d).d) ∧ lessB Y.n Y.d X.n X.d = false ∧ lessB Z.n Z.d Y.n Y.d = false :=
    fun c1 c2 c3 => goalE_units hg0 hX hY hZ c1 c2 c3 rfl rfl
  have bX : X.c = 0 → In64 X.n ∧ In64 X.d := fun c1 => by rcases goalE_three hX with q | q | q; exact may_i64 q.2.1; all_goals (rw [q.1] at c1; cases c1)
  have bY : Y.c = 0 → In64 Y.n ∧ In64 Y.d := fun c1 => by rcases goalE_three hY with q | q | q; exact may_i64 q.2.1; all_goals (rw [q.1] at c1; cases c1)
  have bZ : Z.c = 0 → In64 Z.n ∧ In64 Z.d := fun c1 => by rcases goalE_three hZ with q | q | q; exact may_i64 q.2.1; all_goals (rw [q.1] at c1; cases c1)
  obtain ⟨e1, he1⟩ : ∃ q, evC ⟨i, wk, t, k, fr, too, el, un + g, cl, ge, cd⟩ = q := ⟨_, rfl⟩
  have HE_e1 : Hid ((evC ⟨i, wk, t, k, fr, too, el, un, cl, ge, cd⟩).setIfInBounds 7 (.int .i64 (un + g)) = e1) := Lib.hid (by rw [← he1]; rfl)
  have HZ_e1 : Hid (e1.size = 11) := Lib.hid (by rw [← he1]; rfl)
  have c_e1 : Hid (∀ wx, SetC wx s cs → Calls Try.prog 10 #[.agg cs, .agg e1] wx fun x w' => x = .returned (.tuple #[.agg #[.int .i64 Y.n, .int .i64 Y.d], .int .i64 Y.c]) ∧ Below wx.heap.size wx w') := Lib.hid (fun wx hs => by rw [← he1]; exact gof_any hs hf ⟨i, wk, t, k, fr, too, el, un + g, cl, ge, cd⟩ (by constructor <;> simp only <;> first | exact hi.id | exact hi.wk | exact hi.tm | exact hi.kd | exact hi.fr | exact hi.to | exact hi.el | exact hi.un | exact hi.cl | exact hi.ge | exact hi.cd | omega) Y hY)
  clear he1
  obtain ⟨e2, he2⟩ : ∃ q, evC ⟨i, wk, t, k, fr, too, el, un + 2 * g, cl, ge, cd⟩ = q := ⟨_, rfl⟩
  have HE_e2 : Hid ((evC ⟨i, wk, t, k, fr, too, el, un, cl, ge, cd⟩).setIfInBounds 7 (.int .i64 (un + 2 * g)) = e2) := Lib.hid (by rw [← he2]; rfl)
  have HZ_e2 : Hid (e2.size = 11) := Lib.hid (by rw [← he2]; rfl)
  have c_e2 : Hid (∀ wx, SetC wx s cs → Calls Try.prog 10 #[.agg cs, .agg e2] wx fun x w' => x = .returned (.tuple #[.agg #[.int .i64 Z.n, .int .i64 Z.d], .int .i64 Z.c]) ∧ Below wx.heap.size wx w') := Lib.hid (fun wx hs => by rw [← he2]; exact gof_any hs hf ⟨i, wk, t, k, fr, too, el, un + 2 * g, cl, ge, cd⟩ (by constructor <;> simp only <;> first | exact hi.id | exact hi.wk | exact hi.tm | exact hi.kd | exact hi.fr | exact hi.to | exact hi.el | exact hi.un | exact hi.cl | exact hi.ge | exact hi.cd | omega) Z hZ)
  clear he2
  have d7 : (evC ⟨i, wk, t, k, fr, too, el, un, cl, ge, cd⟩)[7]? = some (.int .i64 un) := rfl
  have THREE := Lib.hid three
  have BX := Lib.hid bX
  have BY := Lib.hid bY
  have BZ := Lib.hid bZ
  have w1 : IntKind.i64.wrap (un + g) = un + g := wrapg_id (by omega) (by omega)
  have w2 : IntKind.i64.wrap (2 * g) = 2 * g := wrapg_id (by omega) (by omega)
  have w3 : IntKind.i64.wrap (un + 2 * g) = un + 2 * g := wrapg_id (by omega) (by omega)
  have u1 : ¬ 20000 < un := by omega
  have u2 : ¬ un < 0 := by omega
  generalize evC ⟨i, wk, t, k, fr, too, el, un, cl, ge, cd⟩ = es at *
  clear h hX hY hZ hF hi hf three bX bY bZ
  go_enter Try.func5, Try.ntmps5
  go_wp2_with fail
  refine (awake10 _).mono ?_
  rintro x1 w1 ⟨rfl, b1⟩
  have HB := Lib.hid (((Has.new w 30 cs rfl).alloc (.cells es 32)).below b1)
  have HV := Lib.hid ((Has.new (w.alloc (.cells cs 30)) 32 es (s := w.heap.size + 1) (by simp)).below b1)
  have b0 : Below w.heap.size w w1 := bel_on (bel_alloc (bel_alloc (Below.refl _ _) _) _) b1
  replace HS := Lib.hid (HS.out.below b0)
  have HBW := Lib.hid b0
  clear b0 b1
  go_upto_region 2 with fail
  refine wp_region_lit ?_
  refine wpList_load_sg (by rfl) _ rfl w.heap.size rfl cs HB.out HZ.out ?_
  (try simp only [Act.put, List.setIfInBounds_toArray, List.set_cons_zero, List.set_cons_succ])
  refine wpList_step (fun K hK => ?_)
  go_simp
  go_at_call 9
  refine (few_c HS.out _ HF.out).mono ?_
  rintro e_r w2 ⟨rfl, b_⟩
  replace HS := Lib.hid (HS.out.below b_)
  replace HB := Lib.hid (HB.out.below b_)
  replace HV := Lib.hid (HV.out.below b_)
  replace HBW := Lib.hid (bel_on HBW.out b_)
  clear b_
  refine hK _ _ ?_
  clear hK K
  (try simp only [Act.put, List.setIfInBounds_toArray, List.set_cons_zero, List.set_cons_succ])
  go_upto_region 5 with fail
  go_cut [9] (fun v9 wx => ∃ g9 : Nat, v9 = .pointer (some ⟨g9, 0, none⟩) ∧ w.heap.size ≤ g9 ∧ ¬ w.heap.size = g9 ∧ ¬ w.heap.size + 1 = g9 ∧ Hid (Has wx g9 es) ∧ Hid (Has wx w.heap.size cs) ∧ Hid (Has wx (w.heap.size + 1) es) ∧ Hid (SetC wx s cs) ∧ Hid (Below w.heap.size w wx))
  case first =>
    have y8 := HV.out.size
    have y7 := HBW.out.size
    refine wp_region_lit ?_
    refine wpList_load_e (by rfl) _ rfl (w.heap.size + 1) rfl es HV.out HZ_es.out ?_
    (try simp only [Act.put, List.setIfInBounds_toArray, List.set_cons_zero, List.set_cons_succ])
    refine wpList_laid_e es 9 _ _ rfl rfl rfl rfl rfl rfl rfl rfl HZ_es.out HO_es.out ?_
    (try simp only [Act.put, List.setIfInBounds_toArray, List.set_cons_zero, List.set_cons_succ])
    refine wpList_nil ?_
    go_wp2_with fail
    go_meet
    exact ⟨_, rfl, by omega, by omega, by omega, Lib.hid (Has.new _ _ _ rfl), Lib.hid (HB.out.alloc _), Lib.hid (HV.out.alloc _), Lib.hid (HS.out.below (bel_alloc (Below.refl _ _) _)), Lib.hid (bel_alloc HBW.out _)⟩
  case rest =>
    clear HB HV HS HBW
    obtain ⟨g9, rfl, l_g9, nb_g9, nv_g9, H9, HB, HV, HS, HBW⟩ := hcut
    go_upto_region 6 with fail
    go_cut [10] (fun v10 wx => ∃ g10 : Nat, v10 = .pointer (some ⟨g10, 0, none⟩) ∧ w.heap.size ≤ g10 ∧ ¬ w.heap.size = g10 ∧ ¬ w.heap.size + 1 = g10 ∧ ¬ g9 = g10 ∧ Hid (Has wx g10 es) ∧ Hid (Has wx g9 es) ∧ Hid (Has wx w.heap.size cs) ∧ Hid (Has wx (w.heap.size + 1) es) ∧ Hid (SetC wx s cs) ∧ Hid (Below w.heap.size w wx))
    case first =>
      have y8 := HV.out.size
      have y7 := HBW.out.size
      have y_H9 := H9.out.size
      refine wp_region_lit ?_
      refine wpList_load_e (by rfl) _ rfl (w.heap.size + 1) rfl es HV.out HZ_es.out ?_
      (try simp only [Act.put, List.setIfInBounds_toArray, List.set_cons_zero, List.set_cons_succ])
      refine wpList_laid_e es 10 _ _ rfl rfl rfl rfl rfl rfl rfl rfl HZ_es.out HO_es.out ?_
      (try simp only [Act.put, List.setIfInBounds_toArray, List.set_cons_zero, List.set_cons_succ])
      refine wpList_nil ?_
      go_wp2_with fail
      go_meet
      exact ⟨_, rfl, by omega, by omega, by omega, by omega, Lib.hid (Has.new _ _ _ rfl), Lib.hid (H9.out.alloc _), Lib.hid (HB.out.alloc _), Lib.hid (HV.out.alloc _), Lib.hid (HS.out.below (bel_alloc (Below.refl _ _) _)), Lib.hid (bel_alloc HBW.out _)⟩
    case rest =>
      clear H9 HB HV HS HBW
      obtain ⟨g10, rfl, l_g10, nb_g10, nv_g10, n_g9_g10, H10, H9, HB, HV, HS, HBW⟩ := hcut
      have y7 := HV.out.cell 7 d7
      have yl := cell_lt y7
      have x9 := H9.out.cell 7 d7
      have x9f := H9.out.frozen 7
      have x10 := H10.out.cell 7 d7
      have x10f := H10.out.frozen 7
      have n_rev : ¬ g10 = g9 := fun h => n_g9_g10 h.symm
      have lb := HB.out.size
      have x_H9 := H9.out.size
      have x_H10 := H10.out.size
      have x_v := HV.out.size
      go_upto_region 11 with fail
      have Q9 : Hid (Has ((wc.setCell ⟨g9, 7, none⟩ (.int .i64 (un + g))).setCell ⟨g10, 7, none⟩ (.int .i64 (un + 2 * g))) g9 e1) := Lib.hid (by rw [← HE_e1.out]; exact (H9.out.set 7 (.int .i64 (un + g))).far (p := ⟨g10, 7, none⟩) (by simp; omega) (.int .i64 (un + 2 * g)))
      have Q10 : Hid (Has ((wc.setCell ⟨g9, 7, none⟩ (.int .i64 (un + g))).setCell ⟨g10, 7, none⟩ (.int .i64 (un + 2 * g))) g10 e2) := Lib.hid (by rw [← HE_e2.out]; exact (H10.out.far (p := ⟨g9, 7, none⟩) (by simp; omega) (.int .i64 (un + g))).set 7 (.int .i64 (un + 2 * g)))
      clear H9 H10
      have H9 := Q9
      have H10 := Q10
      clear Q9 Q10
      replace HB := Lib.hid ((HB.out.far (p := ⟨g9, 7, none⟩) (by simp; omega) (.int .i64 (un + g))).far (p := ⟨g10, 7, none⟩) (by simp; omega) (.int .i64 (un + 2 * g)))
      replace HV := Lib.hid ((HV.out.far (p := ⟨g9, 7, none⟩) (by simp; omega) (.int .i64 (un + g))).far (p := ⟨g10, 7, none⟩) (by simp; omega) (.int .i64 (un + 2 * g)))
      replace HBW := Lib.hid (bel_set (bel_set HBW.out (p := ⟨g9, 7, none⟩) (by simp; omega) (.int .i64 (un + g))) (p := ⟨g10, 7, none⟩) (by simp; omega) (.int .i64 (un + 2 * g)))
      clear HS
      have HS := Lib.hid (HS0.out.below HBW.out)
      generalize (wc.setCell ⟨g9, 7, none⟩ (.int .i64 (un + g))).setCell ⟨g10, 7, none⟩ (.int .i64 (un + 2 * g)) = wd at *
      clear y7 yl x9 x9f x10 x10f w1 w2 w3 u1 u2 hU
      go_upto_region 11 with fail
      go_cut [11, 12] (fun v11 v12 wx => ∃ g11 : Nat, v11 = .pointer (some ⟨g11, 0, none⟩) ∧ v12 = .int .i64 X.c ∧ Hid (Has wx g11 #[.int .i64 X.n, .int .i64 X.d]) ∧ Hid (Has wx g10 e2) ∧ Hid (Has wx g9 e1) ∧ Hid (Has wx w.heap.size cs) ∧ Hid (Has wx (w.heap.size + 1) es) ∧ Hid (SetC wx s cs) ∧ Hid (Below w.heap.size w wx))
      case first =>
        refine wp_region_lit ?_
        refine wpList_load_sg (by rfl) _ rfl w.heap.size rfl cs HB.out HZ.out ?_
        (try simp only [Act.put, List.setIfInBounds_toArray, List.set_cons_zero, List.set_cons_succ])
        refine wpList_load_e (by rfl) _ rfl (w.heap.size + 1) rfl es HV.out HZ_es.out ?_
        (try simp only [Act.put, List.setIfInBounds_toArray, List.set_cons_zero, List.set_cons_succ])
        refine wpList_step (fun K hK => ?_)
        go_simp
        go_at_call 10
        refine (c_es.out _ HS.out).mono ?_
        rintro e_r w5 ⟨rfl, b_⟩
        replace H10 := Lib.hid (H10.out.below b_)
        replace H9 := Lib.hid (H9.out.below b_)
        replace HB := Lib.hid (HB.out.below b_)
        replace HV := Lib.hid (HV.out.below b_)
        replace HS := Lib.hid (HS.out.below b_)
        replace HBW := Lib.hid (bel_on HBW.out b_)
        clear b_
        refine hK _ _ ?_
        clear hK K
        (try simp only [Act.put, List.setIfInBounds_toArray, List.set_cons_zero, List.set_cons_succ])
        iterate 6 (refine wpList_step (fun K hK => ?_); go_simp; refine hK _ _ ?_; clear hK K; (try simp only [Act.put, List.setIfInBounds_toArray, List.set_cons_zero, List.set_cons_succ]))
        refine wpList_nil ?_
        go_wp2_with fail
        go_meet
        exact ⟨_, rfl, rfl, Lib.hid (Has.new _ _ _ rfl), Lib.hid (H10.out.alloc _), Lib.hid (H9.out.alloc _), Lib.hid (HB.out.alloc _), Lib.hid (HV.out.alloc _), Lib.hid (HS.out.below (bel_alloc (Below.refl _ _) _)), Lib.hid (bel_alloc HBW.out _)⟩
      case rest =>
        clear H10 H9 HB HV HS HBW
        obtain ⟨g11, rfl, rfl, H11, H10, H9, HB, HV, HS, HBW⟩ := hcut
        go_upto_region 12 with fail
        go_cut [13, 14] (fun v13 v14 wx => ∃ g13 : Nat, v13 = .pointer (some ⟨g13, 0, none⟩) ∧ v14 = .int .i64 Y.c ∧ Hid (Has wx g13 #[.int .i64 Y.n, .int .i64 Y.d]) ∧ Hid (Has wx g11 #[.int .i64 X.n, .int .i64 X.d]) ∧ Hid (Has wx g10 e2) ∧ Hid (Has wx g9 e1) ∧ Hid (Has wx w.heap.size cs) ∧ Hid (Has wx (w.heap.size + 1) es) ∧ Hid (SetC wx s cs) ∧ Hid (Below w.heap.size w wx))
        case first =>
          refine wp_region_lit ?_
          refine wpList_load_sg (by rfl) _ rfl w.heap.size rfl cs HB.out HZ.out ?_
          (try simp only [Act.put, List.setIfInBounds_toArray, List.set_cons_zero, List.set_cons_succ])
          refine wpList_load_e (by rfl) _ rfl g9 rfl e1 H9.out HZ_e1.out ?_
          (try simp only [Act.put, List.setIfInBounds_toArray, List.set_cons_zero, List.set_cons_succ])
          refine wpList_step (fun K hK => ?_)
          go_simp
          go_at_call 10
          refine (c_e1.out _ HS.out).mono ?_
          rintro e_r w5 ⟨rfl, b_⟩
          replace H11 := Lib.hid (H11.out.below b_)
          replace H10 := Lib.hid (H10.out.below b_)
          replace H9 := Lib.hid (H9.out.below b_)
          replace HB := Lib.hid (HB.out.below b_)
          replace HV := Lib.hid (HV.out.below b_)
          replace HS := Lib.hid (HS.out.below b_)
          replace HBW := Lib.hid (bel_on HBW.out b_)
          clear b_
          refine hK _ _ ?_
          clear hK K
          (try simp only [Act.put, List.setIfInBounds_toArray, List.set_cons_zero, List.set_cons_succ])
          iterate 6 (refine wpList_step (fun K hK => ?_); go_simp; refine hK _ _ ?_; clear hK K; (try simp only [Act.put, List.setIfInBounds_toArray, List.set_cons_zero, List.set_cons_succ]))
          refine wpList_nil ?_
          go_wp2_with fail
          go_meet
          exact ⟨_, rfl, rfl, Lib.hid (Has.new _ _ _ rfl), Lib.hid (H11.out.alloc _), Lib.hid (H10.out.alloc _), Lib.hid (H9.out.alloc _), Lib.hid (HB.out.alloc _), Lib.hid (HV.out.alloc _), Lib.hid (HS.out.below (bel_alloc (Below.refl _ _) _)), Lib.hid (bel_alloc HBW.out _)⟩
        case rest =>
          clear H11 H10 H9 HB HV HS HBW
          obtain ⟨g13, rfl, rfl, H13, H11, H10, H9, HB, HV, HS, HBW⟩ := hcut
          go_upto_region 13 with fail
          go_cut [15, 16] (fun v15 v16 wx => ∃ g15 : Nat, v15 = .pointer (some ⟨g15, 0, none⟩) ∧ v16 = .int .i64 Z.c ∧ Hid (Has wx g15 #[.int .i64 Z.n, .int .i64 Z.d]) ∧ Hid (Has wx g13 #[.int .i64 Y.n, .int .i64 Y.d]) ∧ Hid (Has wx g11 #[.int .i64 X.n, .int .i64 X.d]) ∧ Hid (Has wx g10 e2) ∧ Hid (Has wx g9 e1) ∧ Hid (Has wx w.heap.size cs) ∧ Hid (Has wx (w.heap.size + 1) es) ∧ Hid (SetC wx s cs) ∧ Hid (Below w.heap.size w wx))
          case first =>
            refine wp_region_lit ?_
            refine wpList_load_sg (by rfl) _ rfl w.heap.size rfl cs HB.out HZ.out ?_
            (try simp only [Act.put, List.setIfInBounds_toArray, List.set_cons_zero, List.set_cons_succ])
            refine wpList_load_e (by rfl) _ rfl g10 rfl e2 H10.out HZ_e2.out ?_
            (try simp only [Act.put, List.setIfInBounds_toArray, List.set_cons_zero, List.set_cons_succ])
            refine wpList_step (fun K hK => ?_)
            go_simp
            go_at_call 10
            refine (c_e2.out _ HS.out).mono ?_
            rintro e_r w5 ⟨rfl, b_⟩
            replace H13 := Lib.hid (H13.out.below b_)
            replace H11 := Lib.hid (H11.out.below b_)
            replace H10 := Lib.hid (H10.out.below b_)
            replace H9 := Lib.hid (H9.out.below b_)
            replace HB := Lib.hid (HB.out.below b_)
            replace HV := Lib.hid (HV.out.below b_)
            replace HS := Lib.hid (HS.out.below b_)
            replace HBW := Lib.hid (bel_on HBW.out b_)
            clear b_
            refine hK _ _ ?_
            clear hK K
            (try simp only [Act.put, List.setIfInBounds_toArray, List.set_cons_zero, List.set_cons_succ])
            iterate 6 (refine wpList_step (fun K hK => ?_); go_simp; refine hK _ _ ?_; clear hK K; (try simp only [Act.put, List.setIfInBounds_toArray, List.set_cons_zero, List.set_cons_succ]))
            refine wpList_nil ?_
            go_wp2_with fail
            go_meet
            exact ⟨_, rfl, rfl, Lib.hid (Has.new _ _ _ rfl), Lib.hid (H13.out.alloc _), Lib.hid (H11.out.alloc _), Lib.hid (H10.out.alloc _), Lib.hid (H9.out.alloc _), Lib.hid (HB.out.alloc _), Lib.hid (HV.out.alloc _), Lib.hid (HS.out.below (bel_alloc (Below.refl _ _) _)), Lib.hid (bel_alloc HBW.out _)⟩
          case rest =>
            clear H13 H11 H10 H9 HB HV HS HBW
            obtain ⟨g15, rfl, rfl, H15, H13, H11, H10, H9, HB, HV, HS, HBW⟩ := hcut
            obtain ⟨xn, xd, xc⟩ := X
            obtain ⟨yn, yd, yc⟩ := Y
            obtain ⟨zn, zd, zc⟩ := Z
            have three := THREE.out
            have bX := BX.out
            have bY := BY.out
            have bZ := BZ.out
            clear THREE BX BY BZ c_es c_e1 c_e2
            simp only at three bX bY bZ H11 H13 H15 ⊢
            by_cases hxc : xc = 0
            rotate_left
            · go_wp2
              go_ret
              exact ⟨rfl, HBW.out⟩
            subst hxc
            by_cases hyc : yc = 0
            rotate_left
            · go_wp2
              go_ret
              exact ⟨rfl, HBW.out⟩
            subst hyc
            by_cases hzc : zc = 0
            rotate_left
            · go_wp2
              go_ret
              exact ⟨rfl, HBW.out⟩
            subst hzc
            obtain ⟨t1, t2, t3⟩ := three rfl rfl rfl
            replace bX := bX rfl
            replace bY := bY rfl
            replace bZ := bZ rfl
            clear three
            have T1 := Lib.hid t1
            have T2 := Lib.hid t2
            have T3 := Lib.hid t3
            clear t1 t2 t3
            obtain ⟨M1, hM1⟩ : ∃ M, minusR yn yd xn xd = M := ⟨_, rfl⟩
            obtain ⟨M2, hM2⟩ : ∃ M, minusR zn zd yn yd = M := ⟨_, rfl⟩
            rw [hM1, hM2] at T1
            have HM1 := Lib.hid hM1
            have HM2 := Lib.hid hM2
            clear hM1 hM2
            have BB := Lib.hid (And.intro bX (And.intro bY bZ))
            clear bX bY bZ
            go_upto_region 16 with fail
            go_cut [17, 18] (fun v17 v18 wx => ∃ g17 : Nat, v17 = .pointer (some ⟨g17, 0, none⟩) ∧ v18 = .int .i64 M1.c ∧ Hid (Has wx g17 #[.int .i64 M1.n, .int .i64 M1.d]) ∧ Hid (Has wx g15 #[.int .i64 zn, .int .i64 zd]) ∧ Hid (Has wx g13 #[.int .i64 yn, .int .i64 yd]) ∧ Hid (Has wx g11 #[.int .i64 xn, .int .i64 xd]) ∧ Hid (Has wx g10 e2) ∧ Hid (Has wx g9 e1) ∧ Hid (Has wx w.heap.size cs) ∧ Hid (Has wx (w.heap.size + 1) es) ∧ Hid (SetC wx s cs) ∧ Hid (Below w.heap.size w wx))
            case first =>
              refine wp_region_lit ?_
              obtain ⟨c0, c1, -, -⟩ := H13.out.two
              have z0 := cell_lt c0
              obtain ⟨c2, c3, -, -⟩ := H11.out.two
              have z2 := cell_lt c2
              iterate 2 (refine wpList_step (fun K hK => ?_); go_simp; refine hK _ _ ?_; clear hK K; (try simp only [Act.put, List.setIfInBounds_toArray, List.set_cons_zero, List.set_cons_succ]))
              clear c0 c1 c2 c3 z0 z2
              refine wpList_step (fun K hK => ?_)
              go_simp
              go_at_call 16
              refine (qminus_x yn yd xn xd M1 _ HM1.out BB.out.2.1.1 BB.out.2.1.2 BB.out.1.1 BB.out.1.2).mono ?_
              rintro e_r w5 ⟨rfl, b_⟩
              replace H15 := Lib.hid (H15.out.below b_)
              replace H13 := Lib.hid (H13.out.below b_)
              replace H11 := Lib.hid (H11.out.below b_)
              replace H10 := Lib.hid (H10.out.below b_)
              replace H9 := Lib.hid (H9.out.below b_)
              replace HB := Lib.hid (HB.out.below b_)
              replace HV := Lib.hid (HV.out.below b_)
              replace HS := Lib.hid (HS.out.below b_)
              replace HBW := Lib.hid (bel_on HBW.out b_)
              clear b_
              refine hK _ _ ?_
              clear hK K
              (try simp only [Act.put, List.setIfInBounds_toArray, List.set_cons_zero, List.set_cons_succ])
              iterate 6 (refine wpList_step (fun K hK => ?_); go_simp; refine hK _ _ ?_; clear hK K; (try simp only [Act.put, List.setIfInBounds_toArray, List.set_cons_zero, List.set_cons_succ]))
              refine wpList_nil ?_
              go_wp2_with fail
              go_meet
              exact ⟨_, rfl, rfl, Lib.hid (Has.new _ _ _ rfl), Lib.hid (H15.out.alloc _), Lib.hid (H13.out.alloc _), Lib.hid (H11.out.alloc _), Lib.hid (H10.out.alloc _), Lib.hid (H9.out.alloc _), Lib.hid (HB.out.alloc _), Lib.hid (HV.out.alloc _), Lib.hid (HS.out.below (bel_alloc (Below.refl _ _) _)), Lib.hid (bel_alloc HBW.out _)⟩
            case rest =>
              clear H15 H13 H11 H10 H9 HB HV HS HBW
              obtain ⟨g17, rfl, rfl, H17, H15, H13, H11, H10, H9, HB, HV, HS, HBW⟩ := hcut
              go_upto_region 17 with fail
              go_cut [19, 20] (fun v19 v20 wx => ∃ g19 : Nat, v19 = .pointer (some ⟨g19, 0, none⟩) ∧ v20 = .int .i64 M2.c ∧ Hid (Has wx g19 #[.int .i64 M2.n, .int .i64 M2.d]) ∧ Hid (Has wx g17 #[.int .i64 M1.n, .int .i64 M1.d]) ∧ Hid (Has wx g15 #[.int .i64 zn, .int .i64 zd]) ∧ Hid (Has wx g13 #[.int .i64 yn, .int .i64 yd]) ∧ Hid (Has wx g11 #[.int .i64 xn, .int .i64 xd]) ∧ Hid (Has wx g10 e2) ∧ Hid (Has wx g9 e1) ∧ Hid (Has wx w.heap.size cs) ∧ Hid (Has wx (w.heap.size + 1) es) ∧ Hid (SetC wx s cs) ∧ Hid (Below w.heap.size w wx))
              case first =>
                refine wp_region_lit ?_
                obtain ⟨c0, c1, -, -⟩ := H15.out.two
                have z0 := cell_lt c0
                obtain ⟨c2, c3, -, -⟩ := H13.out.two
                have z2 := cell_lt c2
                iterate 2 (refine wpList_step (fun K hK => ?_); go_simp; refine hK _ _ ?_; clear hK K; (try simp only [Act.put, List.setIfInBounds_toArray, List.set_cons_zero, List.set_cons_succ]))
                clear c0 c1 c2 c3 z0 z2
                refine wpList_step (fun K hK => ?_)
                go_simp
                go_at_call 16
                refine (qminus_x zn zd yn yd M2 _ HM2.out BB.out.2.2.1 BB.out.2.2.2 BB.out.2.1.1 BB.out.2.1.2).mono ?_
                rintro e_r w5 ⟨rfl, b_⟩
                replace H17 := Lib.hid (H17.out.below b_)
                replace H15 := Lib.hid (H15.out.below b_)
                replace H13 := Lib.hid (H13.out.below b_)
                replace H11 := Lib.hid (H11.out.below b_)
                replace H10 := Lib.hid (H10.out.below b_)
                replace H9 := Lib.hid (H9.out.below b_)
                replace HB := Lib.hid (HB.out.below b_)
                replace HV := Lib.hid (HV.out.below b_)
                replace HS := Lib.hid (HS.out.below b_)
                replace HBW := Lib.hid (bel_on HBW.out b_)
                clear b_
                refine hK _ _ ?_
                clear hK K
                (try simp only [Act.put, List.setIfInBounds_toArray, List.set_cons_zero, List.set_cons_succ])
                iterate 6 (refine wpList_step (fun K hK => ?_); go_simp; refine hK _ _ ?_; clear hK K; (try simp only [Act.put, List.setIfInBounds_toArray, List.set_cons_zero, List.set_cons_succ]))
                refine wpList_nil ?_
                go_wp2_with fail
                go_meet
                exact ⟨_, rfl, rfl, Lib.hid (Has.new _ _ _ rfl), Lib.hid (H17.out.alloc _), Lib.hid (H15.out.alloc _), Lib.hid (H13.out.alloc _), Lib.hid (H11.out.alloc _), Lib.hid (H10.out.alloc _), Lib.hid (H9.out.alloc _), Lib.hid (HB.out.alloc _), Lib.hid (HV.out.alloc _), Lib.hid (HS.out.below (bel_alloc (Below.refl _ _) _)), Lib.hid (bel_alloc HBW.out _)⟩
              case rest =>
                clear H17 H15 H13 H11 H10 H9 HB HV HS HBW
                obtain ⟨g19, rfl, rfl, H19, H17, H15, H13, H11, H10, H9, HB, HV, HS, HBW⟩ := hcut
                obtain ⟨m1n, m1d, m1c⟩ := M1
                obtain ⟨m2n, m2d, m2c⟩ := M2
                have t1 := T1.out
                clear T1 HM1 HM2
                simp only at t1 H17 H19 ⊢
                by_cases hm1 : m1c = 0
                · subst hm1
                  by_cases hm2 : m2c = 0
                  · subst hm2
                    obtain ⟨rfl, rfl⟩ := t1 rfl rfl
                    obtain ⟨a0, b0, -, -⟩ := H17.out.two
                    have z0 := cell_lt a0
                    obtain ⟨a1, b1, -, -⟩ := H19.out.two
                    have z1 := cell_lt a1
                    obtain ⟨a2, b2, -, -⟩ := H13.out.two
                    have z2 := cell_lt a2
                    obtain ⟨a3, b3, -, -⟩ := H11.out.two
                    have z3 := cell_lt a3
                    go_wp2_with fail
                    refine (less_any yn yd xn xd _ BB.out.2.1.1 BB.out.2.1.2 BB.out.1.1 BB.out.1.2).mono ?_
                    rintro e_r w8 ⟨rfl, b_⟩
                    rw [T2.out]
                    replace H13 := Lib.hid (H13.out.below b_)
                    replace H15 := Lib.hid (H15.out.below b_)
                    replace HBW := Lib.hid (bel_on HBW.out b_)
                    clear b_ a0 b0 z0 a1 b1 z1 a2 b2 z2 a3 b3 z3
                    obtain ⟨a0, b0, -, -⟩ := H15.out.two
                    have z0 := cell_lt a0
                    obtain ⟨a1, b1, -, -⟩ := H13.out.two
                    have z1 := cell_lt a1
                    go_wp2_with fail
                    refine (less_any zn zd yn yd _ BB.out.2.2.1 BB.out.2.2.2 BB.out.2.1.1 BB.out.2.1.2).mono ?_
                    rintro e_r w9 ⟨rfl, b_⟩
                    rw [T3.out]
                    replace HBW := Lib.hid (bel_on HBW.out b_)
                    clear b_
                    go_wp2
                    go_ret
                    exact ⟨rfl, HBW.out⟩
                  · obtain ⟨a0, b0, -, -⟩ := H17.out.two
                    have z0 := cell_lt a0
                    obtain ⟨a1, b1, -, -⟩ := H19.out.two
                    have z1 := cell_lt a1
                    obtain ⟨a2, b2, -, -⟩ := H13.out.two
                    have z2 := cell_lt a2
                    obtain ⟨a3, b3, -, -⟩ := H11.out.two
                    have z3 := cell_lt a3
                    go_wp2_with fail
                    refine (less_any yn yd xn xd _ BB.out.2.1.1 BB.out.2.1.2 BB.out.1.1 BB.out.1.2).mono ?_
                    rintro e_r w8 ⟨rfl, b_⟩
                    rw [T2.out]
                    replace H13 := Lib.hid (H13.out.below b_)
                    replace H15 := Lib.hid (H15.out.below b_)
                    replace HBW := Lib.hid (bel_on HBW.out b_)
                    clear b_ a0 b0 z0 a1 b1 z1 a2 b2 z2 a3 b3 z3
                    obtain ⟨a0, b0, -, -⟩ := H15.out.two
                    have z0 := cell_lt a0
                    obtain ⟨a1, b1, -, -⟩ := H13.out.two
                    have z1 := cell_lt a1
                    go_wp2_with fail
                    refine (less_any zn zd yn yd _ BB.out.2.2.1 BB.out.2.2.2 BB.out.2.1.1 BB.out.2.1.2).mono ?_
                    rintro e_r w9 ⟨rfl, b_⟩
                    rw [T3.out]
                    replace HBW := Lib.hid (bel_on HBW.out b_)
                    clear b_
                    go_wp2
                    go_ret
                    exact ⟨rfl, HBW.out⟩
                · obtain ⟨a0, b0, -, -⟩ := H17.out.two
                  have z0 := cell_lt a0
                  obtain ⟨a1, b1, -, -⟩ := H19.out.two
                  have z1 := cell_lt a1
                  obtain ⟨a2, b2, -, -⟩ := H13.out.two
                  have z2 := cell_lt a2
                  obtain ⟨a3, b3, -, -⟩ := H11.out.two
                  have z3 := cell_lt a3
                  go_wp2_with fail
                  refine (less_any yn yd xn xd _ BB.out.2.1.1 BB.out.2.1.2 BB.out.1.1 BB.out.1.2).mono ?_
                  rintro e_r w8 ⟨rfl, b_⟩
                  rw [T2.out]
                  replace H13 := Lib.hid (H13.out.below b_)
                  replace H15 := Lib.hid (H15.out.below b_)
                  replace HBW := Lib.hid (bel_on HBW.out b_)
                  clear b_ a0 b0 z0 a1 b1 z1 a2 b2 z2 a3 b3 z3
                  obtain ⟨a0, b0, -, -⟩ := H15.out.two
                  have z0 := cell_lt a0
                  obtain ⟨a1, b1, -, -⟩ := H13.out.two
                  have z1 := cell_lt a1
                  go_wp2_with fail
                  refine (less_any zn zd yn yd _ BB.out.2.2.1 BB.out.2.2.2 BB.out.2.1.1 BB.out.2.1.2).mono ?_
                  rintro e_r w9 ⟨rfl, b_⟩
                  rw [T3.out]
                  replace HBW := Lib.hid (bel_on HBW.out b_)
                  clear b_
                  go_wp2
                  go_ret
                  exact ⟨rfl, HBW.out⟩
set_option maxHeartbeats 8000000 in
theorem GoalUnits_main {w : World} {s : SetP} {cs : Array Value} (h : SetC w s cs) (hf : s.Fit) (e : EvP) (hi : e.In) (g : Int) (hg0 : 0 ≤ g) (hg1 : g ≤ 255) (hF : s.Few) :
    Calls Try.prog 5 #[.agg cs, .agg (evC e), .int .u8 g] w fun x w' => x = .returned (.bool true) ∧ Below w.heap.size w w' := by
  by_cases hU : 0 ≤ e.un ∧ e.un ≤ 20000
  · exact GoalUnits_in h hf e hi g hg0 hg1 hF hU
  · exact GoalUnits_out h hf e hi g hg0 hg1 hF (by omega)
theorem goalUnits_walk (s : SetP) (A1 A2 A3 A4 A5 A6 : Option Addr) (c1 c2 c3 c4 c5 c6 : Nat) (e : EvP) (g : Int) (w : World) (hs : SetAt w s A1 A2 A3 A4 A5 A6 c1 c2 c3 c4 c5 c6) (hf : s.Fit) (hi : e.In) (hg0 : 0 ≤ g) (hg1 : g ≤ 255) :
    Calls Try.prog 5 #[setV s A1 A2 A3 A4 A5 A6 c1 c2 c3 c4 c5 c6, .agg (evC e), .int .u8 g] w fun e w' => e = .returned (.bool true) ∧ Below w.heap.size w w' := by
  obtain ⟨cs, hcs⟩ : ∃ cs, setV s A1 A2 A3 A4 A5 A6 c1 c2 c3 c4 c5 c6 = .agg cs := ⟨_, rfl⟩
  have h : SetC w s cs := ⟨A1, A2, A3, A4, A5, A6, c1, c2, c3, c4, c5, c6, hcs, hs⟩
  rw [hcs]
  by_cases hF : s.Few
  · exact GoalUnits_main h hf e hi g hg0 hg1 hF
  · exact GoalUnits_few h hf e hi hF g hg0 hg1
end Go.Proofs.Ytoconmcmnikdnaa
