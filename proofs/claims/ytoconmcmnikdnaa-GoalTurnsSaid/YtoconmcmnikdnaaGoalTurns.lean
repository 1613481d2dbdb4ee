/-
  The law GoalTurns, walked.
-/
import Derived.Test.YtoconmcmnikdnaaGoD
namespace Go.Proofs.Ytoconmcmnikdnaa
open Go.RowKit
set_option linter.unusedVariables false
set_option linter.unusedSimpArgs false
set_option maxRecDepth 20000

set_option maxHeartbeats 8000000 in
theorem GoalTurns_few {w : World} {s : SetP} {cs : Array Value} (h : SetC w s cs) (hf : s.Fit) (e : EvP) (hi : e.In) (hF : ¬ s.Few) (g : Int) (hg0 : 0 ≤ g) (hg1 : g ≤ 255) :
    Calls Try.prog 6 #[.agg cs, .agg (evC e), .int .u8 g] w fun x w' => x = .returned (.bool true) ∧ Below w.heap.size w w' := by
  have HZ := Lib.hid h.size
  have HS := Lib.hid h
  have HF := Lib.hid (decide_eq_false hF)
  clear h hF
  generalize evC e = es at *
  go_enter Try.func6, Try.ntmps6
  go_wp2_with fail
  refine (awake10 _).mono ?_
  rintro x1 w1 ⟨rfl, b1⟩
  have HB := Lib.hid (((Has.new w 30 cs rfl).alloc (.cells es 32)).below b1)
  have HV := Lib.hid ((Has.new (w.alloc (.cells cs 30)) 32 es (s := w.heap.size + 1) (by simp)).below b1)
  have b0 : Below w.heap.size w w1 := bel_on (bel_alloc (bel_alloc (Below.refl _ _) _) _) b1
  replace HS := Lib.hid (HS.out.below b0)
  have HBW := Lib.hid b0
  clear b0 b1
  go_upto_region 2 with fail
  refine wp_region_lit ?_
  refine wpList_load_sg (by rfl) _ rfl w.heap.size rfl cs HB.out HZ.out ?_
  (try simp only [Act.put, List.setIfInBounds_toArray, List.set_cons_zero, List.set_cons_succ])
  refine wpList_step (fun K hK => ?_)
  go_simp
  go_at_call 9
  refine (few_c HS.out _ HF.out).mono ?_
  rintro e_r w2 ⟨rfl, b_⟩
  replace HS := Lib.hid (HS.out.below b_)
  replace HB := Lib.hid (HB.out.below b_)
  replace HV := Lib.hid (HV.out.below b_)
  replace HBW := Lib.hid (bel_on HBW.out b_)
  clear b_
  refine hK _ _ ?_
  clear hK K
  (try simp only [Act.put, List.setIfInBounds_toArray, List.set_cons_zero, List.set_cons_succ])
  go_wp2
  go_ret
  exact ⟨rfl, HBW.out⟩
set_option maxHeartbeats 8000000 in
theorem GoalTurns_main {w : World} {s : SetP} {cs : Array Value} (h : SetC w s cs) (hf : s.Fit) (e : EvP) (hi : e.In) (g : Int) (hg0 : 0 ≤ g) (hg1 : g ≤ 255) (hF : s.Few) :
    Calls Try.prog 6 #[.agg cs, .agg (evC e), .int .u8 g] w fun x w' => x = .returned (.bool true) ∧ Below w.heap.size w w' := by
  obtain ⟨X, hX⟩ : ∃ X, goalE s e = X := ⟨_, rfl⟩
  have HZ := Lib.hid h.size
  have HZ_es := Lib.hid (evC_size e)
  have HO_es := Lib.hid (evC_one e)
  have HS := Lib.hid h
  have HF := Lib.hid (decide_eq_true hF)
  have c_es : Hid (∀ wx, SetC wx s cs → Calls Try.prog 10 #[.agg cs, .agg (evC e)] wx fun x w' => x = .returned (.tuple #[.agg #[.int .i64 X.n, .int .i64 X.d], .int .i64 X.c]) ∧ Below wx.heap.size wx w') := Lib.hid (fun wx hs => gof_any hs hf e hi X hX)
  have HS0 := Lib.hid h
  obtain ⟨-, -, -, -, A4, q4, -, -, -, -, q6, -⟩ := setC_goal h
  obtain ⟨i, wk, t, k, fr, too, el, un, cl, ge, cd⟩ := e
  have hgi := hi.ge
  simp only at hgi
  have hT : goalE s ⟨i, wk, t, k, too, fr, el, un, cl, ge, cd⟩ = X := goalE_turn.trans hX
  obtain ⟨eb, heb⟩ : ∃ q, evC ⟨i, wk, t, k, too, fr, el, un, cl, ge, cd⟩ = q := ⟨_, rfl⟩
  have HE_eb : Hid (((evC ⟨i, wk, t, k, fr, too, el, un, cl, ge, cd⟩).setIfInBounds 4 (.int .i64 too)).setIfInBounds 5 (.int .i64 fr) = eb) := Lib.hid (by rw [← heb]; rfl)
  have HZ_eb : Hid (eb.size = 11) := Lib.hid (by rw [← heb]; rfl)
  have c_eb : Hid (∀ wx, SetC wx s cs → Calls Try.prog 10 #[.agg cs, .agg eb] wx fun x w' => x = .returned (.tuple #[.agg #[.int .i64 X.n, .int .i64 X.d], .int .i64 X.c]) ∧ Below wx.heap.size wx w') := Lib.hid (fun wx hs => by rw [← heb]; exact gof_any hs hf ⟨i, wk, t, k, too, fr, el, un, cl, ge, cd⟩ (by constructor <;> simp only <;> first | exact hi.id | exact hi.wk | exact hi.tm | exact hi.kd | exact hi.fr | exact hi.to | exact hi.el | exact hi.un | exact hi.cl | exact hi.ge | exact hi.cd | omega) X hT)
  clear heb
  by_cases hcond : fr = too ∧ k = 3 ∧ g < s.gears.length ∧ 0 ≤ ge ∧ ge < s.gears.length
  · obtain ⟨rfl, rfl, hc3, hc4, hc5⟩ := hcond
    have hG : goalE s ⟨i, wk, t, 3, fr, fr, el, un, cl, g, cd⟩ = X := (goalE_stays rfl ⟨hc4, hc5⟩ ⟨hg0, hc3⟩ (by omega) (by omega)).trans hX
    obtain ⟨eg, heg⟩ : ∃ q, evC ⟨i, wk, t, 3, fr, fr, el, un, cl, g, cd⟩ = q := ⟨_, rfl⟩
    have HE_eg : Hid ((evC ⟨i, wk, t, 3, fr, fr, el, un, cl, ge, cd⟩).setIfInBounds 9 (.int .i64 g) = eg) := Lib.hid (by rw [← heg]; rfl)
    have HZ_eg : Hid (eg.size = 11) := Lib.hid (by rw [← heg]; rfl)
    have c_eg : Hid (∀ wx, SetC wx s cs → Calls Try.prog 10 #[.agg cs, .agg eg] wx fun x w' => x = .returned (.tuple #[.agg #[.int .i64 X.n, .int .i64 X.d], .int .i64 X.c]) ∧ Below wx.heap.size wx w') := Lib.hid (fun wx hs => by rw [← heg]; exact gof_any hs hf ⟨i, wk, t, 3, fr, fr, el, un, cl, g, cd⟩ (by constructor <;> simp only <;> first | exact hi.id | exact hi.wk | exact hi.tm | exact hi.kd | exact hi.fr | exact hi.to | exact hi.el | exact hi.un | exact hi.cl | exact hi.ge | exact hi.cd | omega) X hG)
    clear heg
    have d3 : (evC ⟨i, wk, t, 3, fr, fr, el, un, cl, ge, cd⟩)[3]? = some (.int .i64 3) := rfl
    have d4 : (evC ⟨i, wk, t, 3, fr, fr, el, un, cl, ge, cd⟩)[4]? = some (.int .i64 fr) := rfl
    have d5 : (evC ⟨i, wk, t, 3, fr, fr, el, un, cl, ge, cd⟩)[5]? = some (.int .i64 fr) := rfl
    have d9 : (evC ⟨i, wk, t, 3, fr, fr, el, un, cl, ge, cd⟩)[9]? = some (.int .i64 ge) := rfl
    have e9 : eb[9]? = some (.int .i64 ge) := by rw [← HE_eb.out]; rfl
    generalize evC ⟨i, wk, t, 3, fr, fr, el, un, cl, ge, cd⟩ = es at *
    clear h hX hT hG hF hi hf
    go_enter Try.func6, Try.ntmps6
    go_wp2_with fail
    refine (awake10 _).mono ?_
    rintro x1 w1 ⟨rfl, b1⟩
    have HB := Lib.hid (((Has.new w 30 cs rfl).alloc (.cells es 32)).below b1)
    have HV := Lib.hid ((Has.new (w.alloc (.cells cs 30)) 32 es (s := w.heap.size + 1) (by simp)).below b1)
    have b0 : Below w.heap.size w w1 := bel_on (bel_alloc (bel_alloc (Below.refl _ _) _) _) b1
    replace HS := Lib.hid (HS.out.below b0)
    have HBW := Lib.hid b0
    clear b0 b1
    go_upto_region 2 with fail
    refine wp_region_lit ?_
    refine wpList_load_sg (by rfl) _ rfl w.heap.size rfl cs HB.out HZ.out ?_
    (try simp only [Act.put, List.setIfInBounds_toArray, List.set_cons_zero, List.set_cons_succ])
    refine wpList_step (fun K hK => ?_)
    go_simp
    go_at_call 9
    refine (few_c HS.out _ HF.out).mono ?_
    rintro e_r w2 ⟨rfl, b_⟩
    replace HS := Lib.hid (HS.out.below b_)
    replace HB := Lib.hid (HB.out.below b_)
    replace HV := Lib.hid (HV.out.below b_)
    replace HBW := Lib.hid (bel_on HBW.out b_)
    clear b_
    refine hK _ _ ?_
    clear hK K
    (try simp only [Act.put, List.setIfInBounds_toArray, List.set_cons_zero, List.set_cons_succ])
    go_upto_region 4 with fail
    go_cut [8] (fun v8 wx => ∃ g8 : Nat, v8 = .pointer (some ⟨g8, 0, none⟩) ∧ w.heap.size ≤ g8 ∧ ¬ w.heap.size = g8 ∧ ¬ w.heap.size + 1 = g8 ∧ Hid (Has wx g8 es) ∧ Hid (Has wx w.heap.size cs) ∧ Hid (Has wx (w.heap.size + 1) es) ∧ Hid (SetC wx s cs) ∧ Hid (Below w.heap.size w wx))
    case first =>
      have y8 := HV.out.size
      have y7 := HBW.out.size
      refine wp_region_lit ?_
      refine wpList_load_e (by rfl) _ rfl (w.heap.size + 1) rfl es HV.out HZ_es.out ?_
      (try simp only [Act.put, List.setIfInBounds_toArray, List.set_cons_zero, List.set_cons_succ])
      refine wpList_laid_e es 8 _ _ rfl rfl rfl rfl rfl rfl rfl rfl HZ_es.out HO_es.out ?_
      (try simp only [Act.put, List.setIfInBounds_toArray, List.set_cons_zero, List.set_cons_succ])
      refine wpList_nil ?_
      go_wp2_with fail
      go_meet
      exact ⟨_, rfl, by omega, by omega, by omega, Lib.hid (Has.new _ _ _ rfl), Lib.hid (HB.out.alloc _), Lib.hid (HV.out.alloc _), Lib.hid (HS.out.below (bel_alloc (Below.refl _ _) _)), Lib.hid (bel_alloc HBW.out _)⟩
    case rest =>
      clear HB HV HS HBW
      obtain ⟨g8, rfl, l_g8, nb_g8, nv_g8, H8, HB, HV, HS, HBW⟩ := hcut
      have y4 := HV.out.cell 4 d4
      have y5 := HV.out.cell 5 d5
      have x4 := H8.out.cell 4 d4
      have x5 := H8.out.cell 5 d5
      have xf := H8.out.frozen 4
      have xg := H8.out.frozen 5
      have lb := HB.out.size
      have x_g8 := H8.out.size
      have x_v := HV.out.size
      go_upto_region 7 with fail
      have HQ : Hid (Has ((wc.setCell ⟨g8, 4, none⟩ (.int .i64 fr)).setCell ⟨g8, 5, none⟩ (.int .i64 fr)) g8 eb) := Lib.hid (by rw [← HE_eb.out]; exact ((H8.out.set 4 (.int .i64 fr)).set 5 (.int .i64 fr)))
      clear H8
      have H8 := HQ
      clear HQ
      replace HB := Lib.hid ((HB.out.far (p := ⟨g8, 4, none⟩) (by simp; omega) (.int .i64 fr)).far (p := ⟨g8, 5, none⟩) (by simp; omega) (.int .i64 fr))
      replace HV := Lib.hid ((HV.out.far (p := ⟨g8, 4, none⟩) (by simp; omega) (.int .i64 fr)).far (p := ⟨g8, 5, none⟩) (by simp; omega) (.int .i64 fr))
      replace HBW := Lib.hid (bel_set (bel_set HBW.out (p := ⟨g8, 4, none⟩) (by simp; omega) (.int .i64 fr)) (p := ⟨g8, 5, none⟩) (by simp; omega) (.int .i64 fr))
      clear HS
      have HS := Lib.hid (HS0.out.below HBW.out)
      generalize (wc.setCell ⟨g8, 4, none⟩ (.int .i64 fr)).setCell ⟨g8, 5, none⟩ (.int .i64 fr) = wd at *
      clear y4 y5 x4 x5 xf xg
      go_upto_region 7 with fail
      go_cut [9, 10] (fun v9 v10 wx => ∃ g9 : Nat, v9 = .pointer (some ⟨g9, 0, none⟩) ∧ v10 = .int .i64 X.c ∧ Hid (Has wx g9 #[.int .i64 X.n, .int .i64 X.d]) ∧ Hid (Has wx g8 eb) ∧ Hid (Has wx w.heap.size cs) ∧ Hid (Has wx (w.heap.size + 1) es) ∧ Hid (SetC wx s cs) ∧ Hid (Below w.heap.size w wx))
      case first =>
        refine wp_region_lit ?_
        refine wpList_load_sg (by rfl) _ rfl w.heap.size rfl cs HB.out HZ.out ?_
        (try simp only [Act.put, List.setIfInBounds_toArray, List.set_cons_zero, List.set_cons_succ])
        refine wpList_load_e (by rfl) _ rfl (w.heap.size + 1) rfl es HV.out HZ_es.out ?_
        (try simp only [Act.put, List.setIfInBounds_toArray, List.set_cons_zero, List.set_cons_succ])
        refine wpList_step (fun K hK => ?_)
        go_simp
        go_at_call 10
        refine (c_es.out _ HS.out).mono ?_
        rintro e_r w5 ⟨rfl, b_⟩
        replace H8 := Lib.hid (H8.out.below b_)
        replace HB := Lib.hid (HB.out.below b_)
        replace HV := Lib.hid (HV.out.below b_)
        replace HS := Lib.hid (HS.out.below b_)
        replace HBW := Lib.hid (bel_on HBW.out b_)
        clear b_
        refine hK _ _ ?_
        clear hK K
        (try simp only [Act.put, List.setIfInBounds_toArray, List.set_cons_zero, List.set_cons_succ])
        iterate 6 (refine wpList_step (fun K hK => ?_); go_simp; refine hK _ _ ?_; clear hK K; (try simp only [Act.put, List.setIfInBounds_toArray, List.set_cons_zero, List.set_cons_succ]))
        refine wpList_nil ?_
        go_wp2_with fail
        go_meet
        exact ⟨_, rfl, rfl, Lib.hid (Has.new _ _ _ rfl), Lib.hid (H8.out.alloc _), Lib.hid (HB.out.alloc _), Lib.hid (HV.out.alloc _), Lib.hid (HS.out.below (bel_alloc (Below.refl _ _) _)), Lib.hid (bel_alloc HBW.out _)⟩
      case rest =>
        clear H8 HB HV HS HBW
        obtain ⟨g9, rfl, rfl, H9, H8, HB, HV, HS, HBW⟩ := hcut
        go_upto_region 8 with fail
        go_cut [11, 12] (fun v11 v12 wx => ∃ g11 : Nat, v11 = .pointer (some ⟨g11, 0, none⟩) ∧ v12 = .int .i64 X.c ∧ Hid (Has wx g11 #[.int .i64 X.n, .int .i64 X.d]) ∧ Hid (Has wx g9 #[.int .i64 X.n, .int .i64 X.d]) ∧ Hid (Has wx g8 eb) ∧ Hid (Has wx w.heap.size cs) ∧ Hid (Has wx (w.heap.size + 1) es) ∧ Hid (SetC wx s cs) ∧ Hid (Below w.heap.size w wx))
        case first =>
          refine wp_region_lit ?_
          refine wpList_load_sg (by rfl) _ rfl w.heap.size rfl cs HB.out HZ.out ?_
          (try simp only [Act.put, List.setIfInBounds_toArray, List.set_cons_zero, List.set_cons_succ])
          refine wpList_load_e (by rfl) _ rfl g8 rfl eb H8.out HZ_eb.out ?_
          (try simp only [Act.put, List.setIfInBounds_toArray, List.set_cons_zero, List.set_cons_succ])
          refine wpList_step (fun K hK => ?_)
          go_simp
          go_at_call 10
          refine (c_eb.out _ HS.out).mono ?_
          rintro e_r w5 ⟨rfl, b_⟩
          replace H9 := Lib.hid (H9.out.below b_)
          replace H8 := Lib.hid (H8.out.below b_)
          replace HB := Lib.hid (HB.out.below b_)
          replace HV := Lib.hid (HV.out.below b_)
          replace HS := Lib.hid (HS.out.below b_)
          replace HBW := Lib.hid (bel_on HBW.out b_)
          clear b_
          refine hK _ _ ?_
          clear hK K
          (try simp only [Act.put, List.setIfInBounds_toArray, List.set_cons_zero, List.set_cons_succ])
          iterate 6 (refine wpList_step (fun K hK => ?_); go_simp; refine hK _ _ ?_; clear hK K; (try simp only [Act.put, List.setIfInBounds_toArray, List.set_cons_zero, List.set_cons_succ]))
          refine wpList_nil ?_
          go_wp2_with fail
          go_meet
          exact ⟨_, rfl, rfl, Lib.hid (Has.new _ _ _ rfl), Lib.hid (H9.out.alloc _), Lib.hid (H8.out.alloc _), Lib.hid (HB.out.alloc _), Lib.hid (HV.out.alloc _), Lib.hid (HS.out.below (bel_alloc (Below.refl _ _) _)), Lib.hid (bel_alloc HBW.out _)⟩
        case rest =>
          clear H9 H8 HB HV HS HBW
          obtain ⟨g11, rfl, rfl, H11, H9, H8, HB, HV, HS, HBW⟩ := hcut
          have y3 := HV.out.cell 3 d3
          have y4 := HV.out.cell 4 d4
          have y5 := HV.out.cell 5 d5
          have y9 := HV.out.cell 9 d9
          have yl := cell_lt y4
          have yb := HB.out.cell 6 q6
          have ybl := cell_lt yb
          generalize s.gears.length = nG at *
          go_upto_region 11 with fail
          go_cut [14] (fun v14 wx => ∃ g14 : Nat, v14 = .pointer (some ⟨g14, 0, none⟩) ∧ w.heap.size ≤ g14 ∧ ¬ w.heap.size = g14 ∧ ¬ w.heap.size + 1 = g14 ∧ ¬ g11 = g14 ∧ ¬ g9 = g14 ∧ ¬ g8 = g14 ∧ Hid (Has wx g14 es) ∧ Hid (Has wx g11 #[.int .i64 X.n, .int .i64 X.d]) ∧ Hid (Has wx g9 #[.int .i64 X.n, .int .i64 X.d]) ∧ Hid (Has wx g8 eb) ∧ Hid (Has wx w.heap.size cs) ∧ Hid (Has wx (w.heap.size + 1) es) ∧ Hid (SetC wx s cs) ∧ Hid (Below w.heap.size w wx))
          case first =>
            have y8 := HV.out.size
            have y7 := HBW.out.size
            have y_H11 := H11.out.size
            have y_H9 := H9.out.size
            have y_H8 := H8.out.size
            refine wp_region_lit ?_
            refine wpList_load_e (by rfl) _ rfl (w.heap.size + 1) rfl es HV.out HZ_es.out ?_
            (try simp only [Act.put, List.setIfInBounds_toArray, List.set_cons_zero, List.set_cons_succ])
            refine wpList_laid_e es 14 _ _ rfl rfl rfl rfl rfl rfl rfl rfl HZ_es.out HO_es.out ?_
            (try simp only [Act.put, List.setIfInBounds_toArray, List.set_cons_zero, List.set_cons_succ])
            refine wpList_nil ?_
            go_wp2_with fail
            go_meet
            exact ⟨_, rfl, by omega, by omega, by omega, by omega, by omega, by omega, Lib.hid (Has.new _ _ _ rfl), Lib.hid (H11.out.alloc _), Lib.hid (H9.out.alloc _), Lib.hid (H8.out.alloc _), Lib.hid (HB.out.alloc _), Lib.hid (HV.out.alloc _), Lib.hid (HS.out.below (bel_alloc (Below.refl _ _) _)), Lib.hid (bel_alloc HBW.out _)⟩
          case rest =>
            clear H11 H9 H8 HB HV HS HBW
            obtain ⟨g14, rfl, l_g14, nb_g14, nv_g14, n_g11_g14, n_g9_g14, n_g8_g14, H14, H11, H9, H8, HB, HV, HS, HBW⟩ := hcut
            clear y3 y4 y5 y9 yl yb ybl
            have x9 := H14.out.cell 9 d9
            have xf := H14.out.frozen 9
            have lb := HB.out.size
            have x_g14 := H14.out.size
            have x_v := HV.out.size
            go_upto_region 13 with fail
            have HQ : Hid (Has (wc.setCell ⟨g14, 9, none⟩ (.int .i64 g)) g14 eg) := Lib.hid (by rw [← HE_eg.out]; exact (H14.out.set 9 (.int .i64 g)))
            clear H14
            have H14 := HQ
            clear HQ
            replace H11 := Lib.hid (H11.out.far (p := ⟨g14, 9, none⟩) (by simp; omega) (.int .i64 g))
            replace H9 := Lib.hid (H9.out.far (p := ⟨g14, 9, none⟩) (by simp; omega) (.int .i64 g))
            replace H8 := Lib.hid (H8.out.far (p := ⟨g14, 9, none⟩) (by simp; omega) (.int .i64 g))
            replace HB := Lib.hid (HB.out.far (p := ⟨g14, 9, none⟩) (by simp; omega) (.int .i64 g))
            replace HV := Lib.hid (HV.out.far (p := ⟨g14, 9, none⟩) (by simp; omega) (.int .i64 g))
            replace HBW := Lib.hid (bel_set HBW.out (p := ⟨g14, 9, none⟩) (by simp; omega) (.int .i64 g))
            clear HS
            have HS := Lib.hid (HS0.out.below HBW.out)
            generalize wc.setCell ⟨g14, 9, none⟩ (.int .i64 g) = wd at *
            clear x9 xf
            go_upto_region 13 with fail
            go_cut [15, 16] (fun v15 v16 wx => ∃ g15 : Nat, v15 = .pointer (some ⟨g15, 0, none⟩) ∧ v16 = .int .i64 X.c ∧ Hid (Has wx g15 #[.int .i64 X.n, .int .i64 X.d]) ∧ Hid (Has wx g14 eg) ∧ Hid (Has wx g11 #[.int .i64 X.n, .int .i64 X.d]) ∧ Hid (Has wx g9 #[.int .i64 X.n, .int .i64 X.d]) ∧ Hid (Has wx g8 eb) ∧ Hid (Has wx w.heap.size cs) ∧ Hid (Has wx (w.heap.size + 1) es) ∧ Hid (SetC wx s cs) ∧ Hid (Below w.heap.size w wx))
            case first =>
              refine wp_region_lit ?_
              refine wpList_load_sg (by rfl) _ rfl w.heap.size rfl cs HB.out HZ.out ?_
              (try simp only [Act.put, List.setIfInBounds_toArray, List.set_cons_zero, List.set_cons_succ])
              refine wpList_load_e (by rfl) _ rfl g14 rfl eg H14.out HZ_eg.out ?_
              (try simp only [Act.put, List.setIfInBounds_toArray, List.set_cons_zero, List.set_cons_succ])
              refine wpList_step (fun K hK => ?_)
              go_simp
              go_at_call 10
              refine (c_eg.out _ HS.out).mono ?_
              rintro e_r w5 ⟨rfl, b_⟩
              replace H14 := Lib.hid (H14.out.below b_)
              replace H11 := Lib.hid (H11.out.below b_)
              replace H9 := Lib.hid (H9.out.below b_)
              replace H8 := Lib.hid (H8.out.below b_)
              replace HB := Lib.hid (HB.out.below b_)
              replace HV := Lib.hid (HV.out.below b_)
              replace HS := Lib.hid (HS.out.below b_)
              replace HBW := Lib.hid (bel_on HBW.out b_)
              clear b_
              refine hK _ _ ?_
              clear hK K
              (try simp only [Act.put, List.setIfInBounds_toArray, List.set_cons_zero, List.set_cons_succ])
              iterate 6 (refine wpList_step (fun K hK => ?_); go_simp; refine hK _ _ ?_; clear hK K; (try simp only [Act.put, List.setIfInBounds_toArray, List.set_cons_zero, List.set_cons_succ]))
              refine wpList_nil ?_
              go_wp2_with fail
              go_meet
              exact ⟨_, rfl, rfl, Lib.hid (Has.new _ _ _ rfl), Lib.hid (H14.out.alloc _), Lib.hid (H11.out.alloc _), Lib.hid (H9.out.alloc _), Lib.hid (H8.out.alloc _), Lib.hid (HB.out.alloc _), Lib.hid (HV.out.alloc _), Lib.hid (HS.out.below (bel_alloc (Below.refl _ _) _)), Lib.hid (bel_alloc HBW.out _)⟩
            case rest =>
              clear H14 H11 H9 H8 HB HV HS HBW
              obtain ⟨g15, rfl, rfl, H15, H14, H11, H9, H8, HB, HV, HS, HBW⟩ := hcut
              obtain ⟨c4, c5, -, -⟩ := H15.out.two
              have z4 := cell_lt c4
              obtain ⟨c0, c1, -, -⟩ := H9.out.two
              have z0 := cell_lt c0
              obtain ⟨c2, c3, -, -⟩ := H11.out.two
              have z2 := cell_lt c2
              go_wp2
              go_ret
              exact ⟨rfl, HBW.out⟩
  · have d3 : (evC ⟨i, wk, t, k, fr, too, el, un, cl, ge, cd⟩)[3]? = some (.int .i64 k) := rfl
    have d4 : (evC ⟨i, wk, t, k, fr, too, el, un, cl, ge, cd⟩)[4]? = some (.int .i64 fr) := rfl
    have d5 : (evC ⟨i, wk, t, k, fr, too, el, un, cl, ge, cd⟩)[5]? = some (.int .i64 too) := rfl
    have d9 : (evC ⟨i, wk, t, k, fr, too, el, un, cl, ge, cd⟩)[9]? = some (.int .i64 ge) := rfl
    generalize evC ⟨i, wk, t, k, fr, too, el, un, cl, ge, cd⟩ = es at *
    clear h hX hT hF hi hf
    go_enter Try.func6, Try.ntmps6
    go_wp2_with fail
    refine (awake10 _).mono ?_
    rintro x1 w1 ⟨rfl, b1⟩
    have HB := Lib.hid (((Has.new w 30 cs rfl).alloc (.cells es 32)).below b1)
    have HV := Lib.hid ((Has.new (w.alloc (.cells cs 30)) 32 es (s := w.heap.size + 1) (by simp)).below b1)
    have b0 : Below w.heap.size w w1 := bel_on (bel_alloc (bel_alloc (Below.refl _ _) _) _) b1
    replace HS := Lib.hid (HS.out.below b0)
    have HBW := Lib.hid b0
    clear b0 b1
    go_upto_region 2 with fail
    refine wp_region_lit ?_
    refine wpList_load_sg (by rfl) _ rfl w.heap.size rfl cs HB.out HZ.out ?_
    (try simp only [Act.put, List.setIfInBounds_toArray, List.set_cons_zero, List.set_cons_succ])
    refine wpList_step (fun K hK => ?_)
    go_simp
    go_at_call 9
    refine (few_c HS.out _ HF.out).mono ?_
    rintro e_r w2 ⟨rfl, b_⟩
    replace HS := Lib.hid (HS.out.below b_)
    replace HB := Lib.hid (HB.out.below b_)
    replace HV := Lib.hid (HV.out.below b_)
    replace HBW := Lib.hid (bel_on HBW.out b_)
    clear b_
    refine hK _ _ ?_
    clear hK K
    (try simp only [Act.put, List.setIfInBounds_toArray, List.set_cons_zero, List.set_cons_succ])
    go_upto_region 4 with fail
    go_cut [8] (fun v8 wx => ∃ g8 : Nat, v8 = .pointer (some ⟨g8, 0, none⟩) ∧ w.heap.size ≤ g8 ∧ ¬ w.heap.size = g8 ∧ ¬ w.heap.size + 1 = g8 ∧ Hid (Has wx g8 es) ∧ Hid (Has wx w.heap.size cs) ∧ Hid (Has wx (w.heap.size + 1) es) ∧ Hid (SetC wx s cs) ∧ Hid (Below w.heap.size w wx))
    case first =>
      have y8 := HV.out.size
      have y7 := HBW.out.size
      refine wp_region_lit ?_
      refine wpList_load_e (by rfl) _ rfl (w.heap.size + 1) rfl es HV.out HZ_es.out ?_
      (try simp only [Act.put, List.setIfInBounds_toArray, List.set_cons_zero, List.set_cons_succ])
      refine wpList_laid_e es 8 _ _ rfl rfl rfl rfl rfl rfl rfl rfl HZ_es.out HO_es.out ?_
      (try simp only [Act.put, List.setIfInBounds_toArray, List.set_cons_zero, List.set_cons_succ])
      refine wpList_nil ?_
      go_wp2_with fail
      go_meet
      exact ⟨_, rfl, by omega, by omega, by omega, Lib.hid (Has.new _ _ _ rfl), Lib.hid (HB.out.alloc _), Lib.hid (HV.out.alloc _), Lib.hid (HS.out.below (bel_alloc (Below.refl _ _) _)), Lib.hid (bel_alloc HBW.out _)⟩
    case rest =>
      clear HB HV HS HBW
      obtain ⟨g8, rfl, l_g8, nb_g8, nv_g8, H8, HB, HV, HS, HBW⟩ := hcut
      have y4 := HV.out.cell 4 d4
      have y5 := HV.out.cell 5 d5
      have x4 := H8.out.cell 4 d4
      have x5 := H8.out.cell 5 d5
      have xf := H8.out.frozen 4
      have xg := H8.out.frozen 5
      have lb := HB.out.size
      have x_g8 := H8.out.size
      have x_v := HV.out.size
      go_upto_region 7 with fail
      have HQ : Hid (Has ((wc.setCell ⟨g8, 4, none⟩ (.int .i64 too)).setCell ⟨g8, 5, none⟩ (.int .i64 fr)) g8 eb) := Lib.hid (by rw [← HE_eb.out]; exact ((H8.out.set 4 (.int .i64 too)).set 5 (.int .i64 fr)))
      clear H8
      have H8 := HQ
      clear HQ
      replace HB := Lib.hid ((HB.out.far (p := ⟨g8, 4, none⟩) (by simp; omega) (.int .i64 too)).far (p := ⟨g8, 5, none⟩) (by simp; omega) (.int .i64 fr))
      replace HV := Lib.hid ((HV.out.far (p := ⟨g8, 4, none⟩) (by simp; omega) (.int .i64 too)).far (p := ⟨g8, 5, none⟩) (by simp; omega) (.int .i64 fr))
      replace HBW := Lib.hid (bel_set (bel_set HBW.out (p := ⟨g8, 4, none⟩) (by simp; omega) (.int .i64 too)) (p := ⟨g8, 5, none⟩) (by simp; omega) (.int .i64 fr))
      clear HS
      have HS := Lib.hid (HS0.out.below HBW.out)
      generalize (wc.setCell ⟨g8, 4, none⟩ (.int .i64 too)).setCell ⟨g8, 5, none⟩ (.int .i64 fr) = wd at *
      clear y4 y5 x4 x5 xf xg
      go_upto_region 7 with fail
      go_cut [9, 10] (fun v9 v10 wx => ∃ g9 : Nat, v9 = .pointer (some ⟨g9, 0, none⟩) ∧ v10 = .int .i64 X.c ∧ Hid (Has wx g9 #[.int .i64 X.n, .int .i64 X.d]) ∧ Hid (Has wx g8 eb) ∧ Hid (Has wx w.heap.size cs) ∧ Hid (Has wx (w.heap.size + 1) es) ∧ Hid (SetC wx s cs) ∧ Hid (Below w.heap.size w wx))
      case first =>
        refine wp_region_lit ?_
        refine wpList_load_sg (by rfl) _ rfl w.heap.size rfl cs HB.out HZ.out ?_
        (try simp only [Act.put, List.setIfInBounds_toArray, List.set_cons_zero, List.set_cons_succ])
        refine wpList_load_e (by rfl) _ rfl (w.heap.size + 1) rfl es HV.out HZ_es.out ?_
        (try simp only [Act.put, List.setIfInBounds_toArray, List.set_cons_zero, List.set_cons_succ])
        refine wpList_step (fun K hK => ?_)
        go_simp
        go_at_call 10
        refine (c_es.out _ HS.out).mono ?_
        rintro e_r w5 ⟨rfl, b_⟩
        replace H8 := Lib.hid (H8.out.below b_)
        replace HB := Lib.hid (HB.out.below b_)
        replace HV := Lib.hid (HV.out.below b_)
        replace HS := Lib.hid (HS.out.below b_)
        replace HBW := Lib.hid (bel_on HBW.out b_)
        clear b_
        refine hK _ _ ?_
        clear hK K
        (try simp only [Act.put, List.setIfInBounds_toArray, List.set_cons_zero, List.set_cons_succ])
        iterate 6 (refine wpList_step (fun K hK => ?_); go_simp; refine hK _ _ ?_; clear hK K; (try simp only [Act.put, List.setIfInBounds_toArray, List.set_cons_zero, List.set_cons_succ]))
        refine wpList_nil ?_
        go_wp2_with fail
        go_meet
        exact ⟨_, rfl, rfl, Lib.hid (Has.new _ _ _ rfl), Lib.hid (H8.out.alloc _), Lib.hid (HB.out.alloc _), Lib.hid (HV.out.alloc _), Lib.hid (HS.out.below (bel_alloc (Below.refl _ _) _)), Lib.hid (bel_alloc HBW.out _)⟩
      case rest =>
        clear H8 HB HV HS HBW
        obtain ⟨g9, rfl, rfl, H9, H8, HB, HV, HS, HBW⟩ := hcut
        go_upto_region 8 with fail
        go_cut [11, 12] (fun v11 v12 wx => ∃ g11 : Nat, v11 = .pointer (some ⟨g11, 0, none⟩) ∧ v12 = .int .i64 X.c ∧ Hid (Has wx g11 #[.int .i64 X.n, .int .i64 X.d]) ∧ Hid (Has wx g9 #[.int .i64 X.n, .int .i64 X.d]) ∧ Hid (Has wx g8 eb) ∧ Hid (Has wx w.heap.size cs) ∧ Hid (Has wx (w.heap.size + 1) es) ∧ Hid (SetC wx s cs) ∧ Hid (Below w.heap.size w wx))
        case first =>
          refine wp_region_lit ?_
          refine wpList_load_sg (by rfl) _ rfl w.heap.size rfl cs HB.out HZ.out ?_
          (try simp only [Act.put, List.setIfInBounds_toArray, List.set_cons_zero, List.set_cons_succ])
          refine wpList_load_e (by rfl) _ rfl g8 rfl eb H8.out HZ_eb.out ?_
          (try simp only [Act.put, List.setIfInBounds_toArray, List.set_cons_zero, List.set_cons_succ])
          refine wpList_step (fun K hK => ?_)
          go_simp
          go_at_call 10
          refine (c_eb.out _ HS.out).mono ?_
          rintro e_r w5 ⟨rfl, b_⟩
          replace H9 := Lib.hid (H9.out.below b_)
          replace H8 := Lib.hid (H8.out.below b_)
          replace HB := Lib.hid (HB.out.below b_)
          replace HV := Lib.hid (HV.out.below b_)
          replace HS := Lib.hid (HS.out.below b_)
          replace HBW := Lib.hid (bel_on HBW.out b_)
          clear b_
          refine hK _ _ ?_
          clear hK K
          (try simp only [Act.put, List.setIfInBounds_toArray, List.set_cons_zero, List.set_cons_succ])
          iterate 6 (refine wpList_step (fun K hK => ?_); go_simp; refine hK _ _ ?_; clear hK K; (try simp only [Act.put, List.setIfInBounds_toArray, List.set_cons_zero, List.set_cons_succ]))
          refine wpList_nil ?_
          go_wp2_with fail
          go_meet
          exact ⟨_, rfl, rfl, Lib.hid (Has.new _ _ _ rfl), Lib.hid (H9.out.alloc _), Lib.hid (H8.out.alloc _), Lib.hid (HB.out.alloc _), Lib.hid (HV.out.alloc _), Lib.hid (HS.out.below (bel_alloc (Below.refl _ _) _)), Lib.hid (bel_alloc HBW.out _)⟩
        case rest =>
          clear H9 H8 HB HV HS HBW
          obtain ⟨g11, rfl, rfl, H11, H9, H8, HB, HV, HS, HBW⟩ := hcut
          have y3 := HV.out.cell 3 d3
          have y4 := HV.out.cell 4 d4
          have y5 := HV.out.cell 5 d5
          have y9 := HV.out.cell 9 d9
          have yl := cell_lt y4
          have yb := HB.out.cell 6 q6
          have ybl := cell_lt yb
          generalize s.gears.length = nG at *
          go_upto_region 10 with fail
          go_cut [71] (fun v71 wx => v71 = .bool false ∧ Hid (Has wx g11 #[.int .i64 X.n, .int .i64 X.d]) ∧ Hid (Has wx g9 #[.int .i64 X.n, .int .i64 X.d]) ∧ Hid (Has wx g8 eb) ∧ Hid (Has wx w.heap.size cs) ∧ Hid (Has wx (w.heap.size + 1) es) ∧ Hid (SetC wx s cs) ∧ Hid (Below w.heap.size w wx))
          case first =>
            by_cases hq_12 : fr = too
            rotate_left
            · go_wp2_with fail
              go_meet
              exact ⟨rfl, Lib.hid (H11.out), Lib.hid (H9.out), Lib.hid (H8.out), Lib.hid (HB.out), Lib.hid (HV.out), Lib.hid (HS.out), Lib.hid (HBW.out)⟩
            subst hq_12
            by_cases hq_12 : k = 3
            rotate_left
            · go_wp2_with fail
              go_meet
              exact ⟨rfl, Lib.hid (H11.out), Lib.hid (H9.out), Lib.hid (H8.out), Lib.hid (HB.out), Lib.hid (HV.out), Lib.hid (HS.out), Lib.hid (HBW.out)⟩
            subst hq_12
            by_cases hq_12 : g < nG
            rotate_left
            · go_wp2_with fail
              go_meet
              exact ⟨rfl, Lib.hid (H11.out), Lib.hid (H9.out), Lib.hid (H8.out), Lib.hid (HB.out), Lib.hid (HV.out), Lib.hid (HS.out), Lib.hid (HBW.out)⟩
            by_cases hq_12 : 0 ≤ ge
            rotate_left
            · go_wp2_with fail
              go_meet
              exact ⟨rfl, Lib.hid (H11.out), Lib.hid (H9.out), Lib.hid (H8.out), Lib.hid (HB.out), Lib.hid (HV.out), Lib.hid (HS.out), Lib.hid (HBW.out)⟩
            have hq5 : ¬ ge < nG := fun h5 => hcond ⟨rfl, rfl, by assumption, by assumption, h5⟩
            go_wp2_with fail
            go_meet
            exact ⟨rfl, Lib.hid (H11.out), Lib.hid (H9.out), Lib.hid (H8.out), Lib.hid (HB.out), Lib.hid (HV.out), Lib.hid (HS.out), Lib.hid (HBW.out)⟩
          case rest =>
            clear H11 H9 H8 HB HV HS HBW y3 y4 y5 y9 yl yb ybl
            obtain ⟨rfl, H11, H9, H8, HB, HV, HS, HBW⟩ := hcut
            obtain ⟨c0, c1, -, -⟩ := H9.out.two
            have z0 := cell_lt c0
            obtain ⟨c2, c3, -, -⟩ := H11.out.two
            have z2 := cell_lt c2
            go_wp2
            go_ret
            exact ⟨rfl, HBW.out⟩
theorem goalTurns_walk (s : SetP) (A1 A2 A3 A4 A5 A6 : Option Addr) (c1 c2 c3 c4 c5 c6 : Nat) (e : EvP) (g : Int) (w : World) (hs : SetAt w s A1 A2 A3 A4 A5 A6 c1 c2 c3 c4 c5 c6) (hf : s.Fit) (hi : e.In) (hg0 : 0 ≤ g) (hg1 : g ≤ 255) :
    Calls Try.prog 6 #[setV s A1 A2 A3 A4 A5 A6 c1 c2 c3 c4 c5 c6, .agg (evC e), .int .u8 g] w fun e w' => e = .returned (.bool true) ∧ Below w.heap.size w w' := by
  obtain ⟨cs, hcs⟩ : ∃ cs, setV s A1 A2 A3 A4 A5 A6 c1 c2 c3 c4 c5 c6 = .agg cs := ⟨_, rfl⟩
  have h : SetC w s cs := ⟨A1, A2, A3, A4, A5, A6, c1, c2, c3, c4, c5, c6, hcs, hs⟩
  rw [hcs]
  by_cases hF : s.Few
  · exact GoalTurns_main h hf e hi g hg0 hg1 hF
  · exact GoalTurns_few h hf e hi hF g hg0 hg1
end Go.Proofs.Ytoconmcmnikdnaa
