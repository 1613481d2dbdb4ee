/-
  The law GoalMay, walked.
-/
import Derived.Test.YtoconmcmnikdnaaGoD
namespace Go.Proofs.Ytoconmcmnikdnaa
open Go.RowKit
set_option linter.unusedVariables false
set_option linter.unusedSimpArgs false
set_option maxRecDepth 20000

set_option maxHeartbeats 8000000 in
theorem GoalMay_few {w : World} {s : SetP} {cs : Array Value} (h : SetC w s cs) (hf : s.Fit) (e : EvP) (hi : e.In) (hF : ¬ s.Few) :
    Calls Try.prog 4 #[.agg cs, .agg (evC e)] w fun x w' => x = .returned (.bool true) ∧ Below w.heap.size w w' := by
  have HZ := Lib.hid h.size
  have HS := Lib.hid h
  have HF := Lib.hid (decide_eq_false hF)
  clear h hF
  generalize evC e = es at *
  go_enter Try.func4, Try.ntmps4
  go_wp2_with fail
  refine (awake10 _).mono ?_
  rintro x1 w1 ⟨rfl, b1⟩
  have HB := Lib.hid (((Has.new w 30 cs rfl).alloc (.cells es 32)).below b1)
  have HV := Lib.hid ((Has.new (w.alloc (.cells cs 30)) 32 es (s := w.heap.size + 1) (by simp)).below b1)
  have b0 : Below w.heap.size w w1 := bel_on (bel_alloc (bel_alloc (Below.refl _ _) _) _) b1
  replace HS := Lib.hid (HS.out.below b0)
  have HBW := Lib.hid b0
  clear b0 b1
  go_upto_region 2 with fail
  refine wp_region_lit ?_
  refine wpList_load_sg (by rfl) _ rfl w.heap.size rfl cs HB.out HZ.out ?_
  (try simp only [Act.put, List.setIfInBounds_toArray, List.set_cons_zero, List.set_cons_succ])
  refine wpList_step (fun K hK => ?_)
  go_simp
  go_at_call 9
  refine (few_c HS.out _ HF.out).mono ?_
  rintro e_r w2 ⟨rfl, b_⟩
  replace HS := Lib.hid (HS.out.below b_)
  replace HB := Lib.hid (HB.out.below b_)
  replace HV := Lib.hid (HV.out.below b_)
  replace HBW := Lib.hid (bel_on HBW.out b_)
  clear b_
  refine hK _ _ ?_
  clear hK K
  (try simp only [Act.put, List.setIfInBounds_toArray, List.set_cons_zero, List.set_cons_succ])
  go_wp2
  go_ret
  exact ⟨rfl, HBW.out⟩
set_option maxHeartbeats 8000000 in
theorem GoalMay_main0 {w : World} {s : SetP} {cs : Array Value} (h : SetC w s cs) (hf : s.Fit) (e : EvP) (hi : e.In) (hF : s.Few) (X : Rat2) (hX : goalE s e = X) (b1 b2 tk : Bool) (hb1 : checkB s = b1) (hb2 : decide (EvIn s e) = b2) (k D : Int) (hk : e.kd = k) (hD : farV s e.fr e.to = D) (ht : tk = true ↔ b1 = true ∧ b2 = true ∧ k = 3 ∧ D ≠ -1) (h1 : X.c = 0 ∧ mayB X.n X.d = true ∧ 0 ≤ X.n ∧ tk = true ∨ X = ⟨0, 0, 10⟩ ∧ tk = true ∨ X = ⟨0, 0, 100⟩ ∧ tk = false) :
    Calls Try.prog 4 #[.agg cs, .agg (evC e)] w fun x w' => x = .returned (.bool true) ∧ Below w.heap.size w w' := by
  have HZ := Lib.hid h.size
  have HZ_es := Lib.hid (evC_size e)
  have HO_es := Lib.hid (evC_one e)
  have HS := Lib.hid h
  have HF := Lib.hid (decide_eq_true hF)
  have c_es : Hid (∀ wx, SetC wx s cs → Calls Try.prog 10 #[.agg cs, .agg (evC e)] wx fun x w' => x = .returned (.tuple #[.agg #[.int .i64 X.n, .int .i64 X.d], .int .i64 X.c]) ∧ Below wx.heap.size wx w') := Lib.hid (fun wx hs => gof_any hs hf e hi X hX)
  have cC : Hid (∀ wx, SetC wx s cs → Calls Try.prog 12 #[.agg cs] wx fun x w' => x = .returned (.bool b1) ∧ Below wx.heap.size wx w') := Lib.hid (fun wx hs => scheck_c hs hf _ hb1)
  have cE : Hid (∀ wx, Calls Try.prog 13 #[.agg cs, .agg (evC e)] wx fun x w' => x = .returned (.bool b2) ∧ Below wx.heap.size wx w') := Lib.hid (fun wx => echeck_any cs _ _ _ _ _ (setS_of h) e hi wx _ hb2)
  have cD : Hid (∀ wx, SetC wx s cs → Calls Try.prog 14 #[.agg cs, .int .i64 e.fr, .int .i64 e.to] wx fun x w' => x = .returned (.int .i64 D) ∧ Below wx.heap.size wx w') := Lib.hid (fun wx hs => wdist_c hs hf e.fr e.to _ hD)
  have d3 : (evC e)[3]? = some (.int .i64 k) := by show some (Value.int .i64 e.kd) = _; rw [hk]
  have d4 : (evC e)[4]? = some (.int .i64 e.fr) := rfl
  have d5 : (evC e)[5]? = some (.int .i64 e.to) := rfl
  have HX1 := Lib.hid h1
  have HT := Lib.hid ht
  generalize evC e = es at *
  generalize e.fr = fr at *
  generalize e.to = too at *
  clear h hF hX hb1 hb2 hk hD h1 hi hf ht
  go_enter Try.func4, Try.ntmps4
  go_wp2_with fail
  refine (awake10 _).mono ?_
  rintro x1 w1 ⟨rfl, b1⟩
  have HB := Lib.hid (((Has.new w 30 cs rfl).alloc (.cells es 32)).below b1)
  have HV := Lib.hid ((Has.new (w.alloc (.cells cs 30)) 32 es (s := w.heap.size + 1) (by simp)).below b1)
  have b0 : Below w.heap.size w w1 := bel_on (bel_alloc (bel_alloc (Below.refl _ _) _) _) b1
  replace HS := Lib.hid (HS.out.below b0)
  have HBW := Lib.hid b0
  clear b0 b1
  go_upto_region 2 with fail
  refine wp_region_lit ?_
  refine wpList_load_sg (by rfl) _ rfl w.heap.size rfl cs HB.out HZ.out ?_
  (try simp only [Act.put, List.setIfInBounds_toArray, List.set_cons_zero, List.set_cons_succ])
  refine wpList_step (fun K hK => ?_)
  go_simp
  go_at_call 9
  refine (few_c HS.out _ HF.out).mono ?_
  rintro e_r w2 ⟨rfl, b_⟩
  replace HS := Lib.hid (HS.out.below b_)
  replace HB := Lib.hid (HB.out.below b_)
  replace HV := Lib.hid (HV.out.below b_)
  replace HBW := Lib.hid (bel_on HBW.out b_)
  clear b_
  refine hK _ _ ?_
  clear hK K
  (try simp only [Act.put, List.setIfInBounds_toArray, List.set_cons_zero, List.set_cons_succ])
  go_upto_region 4 with fail
  go_cut [6, 7] (fun v6 v7 wx => ∃ g6 : Nat, v6 = .pointer (some ⟨g6, 0, none⟩) ∧ v7 = .int .i64 X.c ∧ Hid (Has wx g6 #[.int .i64 X.n, .int .i64 X.d]) ∧ Hid (Has wx w.heap.size cs) ∧ Hid (Has wx (w.heap.size + 1) es) ∧ Hid (SetC wx s cs) ∧ Hid (Below w.heap.size w wx))
  case first =>
    refine wp_region_lit ?_
    refine wpList_load_sg (by rfl) _ rfl w.heap.size rfl cs HB.out HZ.out ?_
    (try simp only [Act.put, List.setIfInBounds_toArray, List.set_cons_zero, List.set_cons_succ])
    refine wpList_load_e (by rfl) _ rfl (w.heap.size + 1) rfl es HV.out HZ_es.out ?_
    (try simp only [Act.put, List.setIfInBounds_toArray, List.set_cons_zero, List.set_cons_succ])
    refine wpList_step (fun K hK => ?_)
    go_simp
    go_at_call 10
    refine (c_es.out _ HS.out).mono ?_
    rintro e_r w5 ⟨rfl, b_⟩
    replace HB := Lib.hid (HB.out.below b_)
    replace HV := Lib.hid (HV.out.below b_)
    replace HS := Lib.hid (HS.out.below b_)
    replace HBW := Lib.hid (bel_on HBW.out b_)
    clear b_
    refine hK _ _ ?_
    clear hK K
    (try simp only [Act.put, List.setIfInBounds_toArray, List.set_cons_zero, List.set_cons_succ])
    iterate 6 (refine wpList_step (fun K hK => ?_); go_simp; refine hK _ _ ?_; clear hK K; (try simp only [Act.put, List.setIfInBounds_toArray, List.set_cons_zero, List.set_cons_succ]))
    refine wpList_nil ?_
    go_wp2_with fail
    go_meet
    exact ⟨_, rfl, rfl, Lib.hid (Has.new _ _ _ rfl), Lib.hid (HB.out.alloc _), Lib.hid (HV.out.alloc _), Lib.hid (HS.out.below (bel_alloc (Below.refl _ _) _)), Lib.hid (bel_alloc HBW.out _)⟩
  case rest =>
    clear HB HV HS HBW
    obtain ⟨g6, rfl, rfl, H6, HB, HV, HS, HBW⟩ := hcut
    go_upto_region 5 with fail
    go_cut [8] (fun v8 wx => v8 = .bool tk ∧ Hid (Has wx g6 #[.int .i64 X.n, .int .i64 X.d]) ∧ Hid (Has wx w.heap.size cs) ∧ Hid (Has wx (w.heap.size + 1) es) ∧ Hid (SetC wx s cs) ∧ Hid (Below w.heap.size w wx))
    case first =>
      have y3 := HV.out.cell 3 d3
      refine wp_region_lit ?_
      refine wpList_load_sg (by rfl) _ rfl w.heap.size rfl cs HB.out HZ.out ?_
      (try simp only [Act.put, List.setIfInBounds_toArray, List.set_cons_zero, List.set_cons_succ])
      refine wpList_step (fun K hK => ?_)
      go_simp
      go_at_call 12
      refine (cC.out _ HS.out).mono ?_
      rintro e_r x5 ⟨rfl, b_⟩
      replace H6 := Lib.hid (H6.out.below b_)
      replace HB := Lib.hid (HB.out.below b_)
      replace HV := Lib.hid (HV.out.below b_)
      replace HS := Lib.hid (HS.out.below b_)
      replace HBW := Lib.hid (bel_on HBW.out b_)
      clear b_
      refine hK _ _ ?_
      clear hK K
      (try simp only [Act.put, List.setIfInBounds_toArray, List.set_cons_zero, List.set_cons_succ])
      cases b1 with
      | false =>
        go_wp2_with fail
        go_meet
        exact ⟨congrArg Value.bool (by cases tk; exact rfl; exact absurd (HT.out.1 rfl) (by simp [*])), Lib.hid (H6.out), Lib.hid (HB.out), Lib.hid (HV.out), Lib.hid (HS.out), Lib.hid (HBW.out)⟩
      | true =>
        clear y3
        iterate 1 (refine wpList_step (fun K hK => ?_); go_simp; refine hK _ _ ?_; clear hK K; (try simp only [Act.put, List.setIfInBounds_toArray, List.set_cons_zero, List.set_cons_succ]))
        refine wpList_load_sg (by rfl) _ rfl w.heap.size rfl cs HB.out HZ.out ?_
        (try simp only [Act.put, List.setIfInBounds_toArray, List.set_cons_zero, List.set_cons_succ])
        refine wpList_load_e (by rfl) _ rfl (w.heap.size + 1) rfl es HV.out HZ_es.out ?_
        (try simp only [Act.put, List.setIfInBounds_toArray, List.set_cons_zero, List.set_cons_succ])
        refine wpList_step (fun K hK => ?_)
        go_simp
        go_at_call 13
        refine (cE.out _).mono ?_
        rintro e_r x5 ⟨rfl, b_⟩
        replace H6 := Lib.hid (H6.out.below b_)
        replace HB := Lib.hid (HB.out.below b_)
        replace HV := Lib.hid (HV.out.below b_)
        replace HS := Lib.hid (HS.out.below b_)
        replace HBW := Lib.hid (bel_on HBW.out b_)
        clear b_
        refine hK _ _ ?_
        clear hK K
        (try simp only [Act.put, List.setIfInBounds_toArray, List.set_cons_zero, List.set_cons_succ])
        cases b2 with
        | false =>
          go_wp2_with fail
          go_meet
          exact ⟨congrArg Value.bool (by cases tk; exact rfl; exact absurd (HT.out.1 rfl) (by simp [*])), Lib.hid (H6.out), Lib.hid (HB.out), Lib.hid (HV.out), Lib.hid (HS.out), Lib.hid (HBW.out)⟩
        | true =>
          have y3 := HV.out.cell 3 d3
          have y4 := HV.out.cell 4 d4
          have y5 := HV.out.cell 5 d5
          have yl := cell_lt y4
          by_cases hk3 : k = 3
          · subst hk3
            iterate 7 (refine wpList_step (fun K hK => ?_); go_simp; refine hK _ _ ?_; clear hK K; (try simp only [Act.put, List.setIfInBounds_toArray, List.set_cons_zero, List.set_cons_succ]))
            refine wpList_load_sg (by rfl) _ rfl w.heap.size rfl cs HB.out HZ.out ?_
            (try simp only [Act.put, List.setIfInBounds_toArray, List.set_cons_zero, List.set_cons_succ])
            iterate 4 (refine wpList_step (fun K hK => ?_); go_simp; refine hK _ _ ?_; clear hK K; (try simp only [Act.put, List.setIfInBounds_toArray, List.set_cons_zero, List.set_cons_succ]))
            clear y3 y4 y5 yl
            refine wpList_step (fun K hK => ?_)
            go_simp
            go_at_call 14
            refine (cD.out _ HS.out).mono ?_
            rintro e_r x5 ⟨rfl, b_⟩
            replace H6 := Lib.hid (H6.out.below b_)
            replace HB := Lib.hid (HB.out.below b_)
            replace HV := Lib.hid (HV.out.below b_)
            replace HS := Lib.hid (HS.out.below b_)
            replace HBW := Lib.hid (bel_on HBW.out b_)
            clear b_
            refine hK _ _ ?_
            clear hK K
            (try simp only [Act.put, List.setIfInBounds_toArray, List.set_cons_zero, List.set_cons_succ])
            by_cases hD1 : D = -1
            · subst hD1
              go_wp2_with fail
              go_meet
              exact ⟨congrArg Value.bool (by cases tk; exact rfl; exact absurd (HT.out.1 rfl) (by simp [*])), Lib.hid (H6.out), Lib.hid (HB.out), Lib.hid (HV.out), Lib.hid (HS.out), Lib.hid (HBW.out)⟩
            · go_wp2_with fail
              go_meet
              exact ⟨congrArg Value.bool ((show (D != -1) = true by simp [hD1]).trans (HT.out.2 (by simp [hD1])).symm), Lib.hid (H6.out), Lib.hid (HB.out), Lib.hid (HV.out), Lib.hid (HS.out), Lib.hid (HBW.out)⟩
          · go_wp2_with fail
            go_meet
            exact ⟨congrArg Value.bool (by cases tk; exact rfl; exact absurd (HT.out.1 rfl) (by simp [*])), Lib.hid (H6.out), Lib.hid (HB.out), Lib.hid (HV.out), Lib.hid (HS.out), Lib.hid (HBW.out)⟩
    case rest =>
      clear HB HV HS HBW H6 cC cE cD d3 d4 d5 HT
      obtain ⟨rfl, H6, HB, HV, HS, HBW⟩ := hcut
      obtain ⟨xn, xd, xc⟩ := X
      have HX2 := HX1.out
      clear HX1 c_es
      simp only at HX2 H6 ⊢
      obtain ⟨c0, c1, -, -⟩ := H6.out.two
      have z0 := cell_lt c0
      rcases HX2 with ⟨rfl, hm, hn, rfl⟩ | ⟨h, rfl⟩ | ⟨h, rfl⟩
      · have hb := may_bd hm
        go_wp2_with fail
        refine (check_any xn xd _ (by omega) (by omega) (by omega) (by omega)).mono ?_
        rintro e_r w7 ⟨rfl, b_⟩
        rw [hm]
        obtain ⟨c2, c3, -, -⟩ := (H6.out.below (by first | exact b_.1 | exact b_)).two
        have z2 := cell_lt c2
        go_wp2
        go_ret
        exact ⟨rfl, bel_on HBW.out (by first | exact b_.1 | exact b_)⟩
      all_goals
        injection h with h1 h2 h3
        subst h1 h2 h3
        go_wp2
        go_ret
        exact ⟨rfl, HBW.out⟩
set_option maxHeartbeats 8000000 in
theorem GoalMay_main {w : World} {s : SetP} {cs : Array Value} (h : SetC w s cs) (hf : s.Fit) (e : EvP) (hi : e.In) (hF : s.Few) :
    Calls Try.prog 4 #[.agg cs, .agg (evC e)] w fun x w' => x = .returned (.bool true) ∧ Below w.heap.size w w' := by
  have h3 := goalE_three (s := s) (e := e) rfl
  by_cases ht : TaskP s e
  · refine GoalMay_main0 h hf e hi hF _ rfl _ _ true rfl rfl _ _ rfl rfl ⟨fun _ => ⟨ht.1, decide_eq_true ht.2.1, ht.2.2⟩, fun _ => rfl⟩ ?_
    rcases h3 with q | q | q
    · exact .inl ⟨q.1, q.2.1, q.2.2.1, rfl⟩
    · exact .inr (.inl ⟨q.1, rfl⟩)
    · exact absurd ht q.2
  · refine GoalMay_main0 h hf e hi hF _ rfl _ _ false rfl rfl _ _ rfl rfl ⟨fun q => (by cases q), fun q => absurd ⟨q.1, of_decide_eq_true q.2.1, q.2.2⟩ ht⟩ ?_
    rcases h3 with q | q | q
    · exact absurd q.2.2.2 ht
    · exact absurd q.2 ht
    · exact .inr (.inr ⟨q.1, rfl⟩)
theorem goalMay_walk (s : SetP) (A1 A2 A3 A4 A5 A6 : Option Addr) (c1 c2 c3 c4 c5 c6 : Nat) (e : EvP) (w : World) (hs : SetAt w s A1 A2 A3 A4 A5 A6 c1 c2 c3 c4 c5 c6) (hf : s.Fit) (hi : e.In) :
    Calls Try.prog 4 #[setV s A1 A2 A3 A4 A5 A6 c1 c2 c3 c4 c5 c6, .agg (evC e)] w fun e w' => e = .returned (.bool true) ∧ Below w.heap.size w w' := by
  obtain ⟨cs, hcs⟩ : ∃ cs, setV s A1 A2 A3 A4 A5 A6 c1 c2 c3 c4 c5 c6 = .agg cs := ⟨_, rfl⟩
  have h : SetC w s cs := ⟨A1, A2, A3, A4, A5, A6, c1, c2, c3, c4, c5, c6, hcs, hs⟩
  rw [hcs]
  by_cases hF : s.Few
  · exact GoalMay_main h hf e hi hF
  · exact GoalMay_few h hf e hi hF
end Go.Proofs.Ytoconmcmnikdnaa
