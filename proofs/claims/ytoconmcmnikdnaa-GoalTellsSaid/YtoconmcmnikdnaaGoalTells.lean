/-
  The law GoalTells, walked.
-/
import Derived.Test.YtoconmcmnikdnaaGoD
import Derived.Test.YtoconmcmnikdnaaGoR
namespace Go.Proofs.Ytoconmcmnikdnaa
open Go.RowKit
set_option linter.unusedVariables false
set_option linter.unusedSimpArgs false
set_option maxRecDepth 20000

set_option maxHeartbeats 8000000 in
theorem GoalTells_few {w : World} {s : SetP} {cs : Array Value} (h : SetC w s cs) (hf : s.Fit) (e : EvP) (hi : e.In) (hF : ¬ s.Few) :
    Calls Try.prog 3 #[.agg cs, .agg (evC e)] w fun x w' => x = .returned (.bool true) ∧ Below w.heap.size w w' := by
  have HZ := Lib.hid h.size
  have HS := Lib.hid h
  have HF := Lib.hid (decide_eq_false hF)
  clear h hF
  generalize evC e = es at *
  go_enter Try.func3, Try.ntmps3
  go_wp2_with fail
  refine (awake10 _).mono ?_
  rintro x1 w1 ⟨rfl, b1⟩
  have HB := Lib.hid (((Has.new w 30 cs rfl).alloc (.cells es 32)).below b1)
  have HV := Lib.hid ((Has.new (w.alloc (.cells cs 30)) 32 es (s := w.heap.size + 1) (by simp)).below b1)
  have b0 : Below w.heap.size w w1 := bel_on (bel_alloc (bel_alloc (Below.refl _ _) _) _) b1
  replace HS := Lib.hid (HS.out.below b0)
  have HBW := Lib.hid b0
  clear b0 b1
  go_upto_region 2 with fail
  refine wp_region_lit ?_
  refine wpList_load_sg (by rfl) _ rfl w.heap.size rfl cs HB.out HZ.out ?_
  (try simp only [Act.put, List.setIfInBounds_toArray, List.set_cons_zero, List.set_cons_succ])
  refine wpList_step (fun K hK => ?_)
  go_simp
  go_at_call 9
  refine (few_c HS.out _ HF.out).mono ?_
  rintro e_r w2 ⟨rfl, b_⟩
  replace HS := Lib.hid (HS.out.below b_)
  replace HB := Lib.hid (HB.out.below b_)
  replace HV := Lib.hid (HV.out.below b_)
  replace HBW := Lib.hid (bel_on HBW.out b_)
  clear b_
  refine hK _ _ ?_
  clear hK K
  (try simp only [Act.put, List.setIfInBounds_toArray, List.set_cons_zero, List.set_cons_succ])
  go_wp2
  go_ret
  exact ⟨rfl, HBW.out⟩
set_option maxHeartbeats 8000000 in
theorem GoalTells_main {w : World} {s : SetP} {cs : Array Value} (h : SetC w s cs) (hf : s.Fit) (e : EvP) (hi : e.In) (hF : s.Few) :
    Calls Try.prog 3 #[.agg cs, .agg (evC e)] w fun x w' => x = .returned (.bool true) ∧ Below w.heap.size w w' := by
  obtain ⟨X, hX⟩ : ∃ X, goalE s e = X := ⟨_, rfl⟩
  have HZ := Lib.hid h.size
  have HZ_es := Lib.hid (evC_size e)
  have HO_es := Lib.hid (evC_one e)
  have HS := Lib.hid h
  have HF := Lib.hid (decide_eq_true hF)
  have c_es : Hid (∀ wx, SetC wx s cs → Calls Try.prog 10 #[.agg cs, .agg (evC e)] wx fun x w' => x = .returned (.tuple #[.agg #[.int .i64 X.n, .int .i64 X.d], .int .i64 X.c]) ∧ Below wx.heap.size wx w') := Lib.hid (fun wx hs => gof_any hs hf e hi X hX)
  have r_es : Hid (∀ wx, SetC wx s cs → Calls Try.prog 11 #[.agg cs, .agg (evC e)] wx fun x w' => x = .returned (.tuple #[.agg #[.int .i64 X.n, .int .i64 X.d], .int .i64 X.c]) ∧ Below wx.heap.size wx w') := Lib.hid (fun wx hs => rof_any hs hf e hi X hX)
  generalize evC e = es at *
  clear h hF hX hi hf
  go_enter Try.func3, Try.ntmps3
  go_wp2_with fail
  refine (awake10 _).mono ?_
  rintro x1 w1 ⟨rfl, b1⟩
  have HB := Lib.hid (((Has.new w 30 cs rfl).alloc (.cells es 32)).below b1)
  have HV := Lib.hid ((Has.new (w.alloc (.cells cs 30)) 32 es (s := w.heap.size + 1) (by simp)).below b1)
  have b0 : Below w.heap.size w w1 := bel_on (bel_alloc (bel_alloc (Below.refl _ _) _) _) b1
  replace HS := Lib.hid (HS.out.below b0)
  have HBW := Lib.hid b0
  clear b0 b1
  go_upto_region 2 with fail
  refine wp_region_lit ?_
  refine wpList_load_sg (by rfl) _ rfl w.heap.size rfl cs HB.out HZ.out ?_
  (try simp only [Act.put, List.setIfInBounds_toArray, List.set_cons_zero, List.set_cons_succ])
  refine wpList_step (fun K hK => ?_)
  go_simp
  go_at_call 9
  refine (few_c HS.out _ HF.out).mono ?_
  rintro e_r w2 ⟨rfl, b_⟩
  replace HS := Lib.hid (HS.out.below b_)
  replace HB := Lib.hid (HB.out.below b_)
  replace HV := Lib.hid (HV.out.below b_)
  replace HBW := Lib.hid (bel_on HBW.out b_)
  clear b_
  refine hK _ _ ?_
  clear hK K
  (try simp only [Act.put, List.setIfInBounds_toArray, List.set_cons_zero, List.set_cons_succ])
  go_upto_region 4 with fail
  go_cut [6, 7] (fun v6 v7 wx => ∃ g6 : Nat, v6 = .pointer (some ⟨g6, 0, none⟩) ∧ v7 = .int .i64 X.c ∧ Hid (Has wx g6 #[.int .i64 X.n, .int .i64 X.d]) ∧ Hid (Has wx w.heap.size cs) ∧ Hid (Has wx (w.heap.size + 1) es) ∧ Hid (SetC wx s cs) ∧ Hid (Below w.heap.size w wx))
  case first =>
    refine wp_region_lit ?_
    refine wpList_load_sg (by rfl) _ rfl w.heap.size rfl cs HB.out HZ.out ?_
    (try simp only [Act.put, List.setIfInBounds_toArray, List.set_cons_zero, List.set_cons_succ])
    refine wpList_load_e (by rfl) _ rfl (w.heap.size + 1) rfl es HV.out HZ_es.out ?_
    (try simp only [Act.put, List.setIfInBounds_toArray, List.set_cons_zero, List.set_cons_succ])
    refine wpList_step (fun K hK => ?_)
    go_simp
    go_at_call 10
    refine (c_es.out _ HS.out).mono ?_
    rintro e_r w5 ⟨rfl, b_⟩
    replace HB := Lib.hid (HB.out.below b_)
    replace HV := Lib.hid (HV.out.below b_)
    replace HS := Lib.hid (HS.out.below b_)
    replace HBW := Lib.hid (bel_on HBW.out b_)
    clear b_
    refine hK _ _ ?_
    clear hK K
    (try simp only [Act.put, List.setIfInBounds_toArray, List.set_cons_zero, List.set_cons_succ])
    iterate 6 (refine wpList_step (fun K hK => ?_); go_simp; refine hK _ _ ?_; clear hK K; (try simp only [Act.put, List.setIfInBounds_toArray, List.set_cons_zero, List.set_cons_succ]))
    refine wpList_nil ?_
    go_wp2_with fail
    go_meet
    exact ⟨_, rfl, rfl, Lib.hid (Has.new _ _ _ rfl), Lib.hid (HB.out.alloc _), Lib.hid (HV.out.alloc _), Lib.hid (HS.out.below (bel_alloc (Below.refl _ _) _)), Lib.hid (bel_alloc HBW.out _)⟩
  case rest =>
    clear HB HV HS HBW
    obtain ⟨g6, rfl, rfl, H6, HB, HV, HS, HBW⟩ := hcut
    go_upto_region 5 with fail
    go_cut [8, 9] (fun v8 v9 wx => ∃ g8 : Nat, v8 = .pointer (some ⟨g8, 0, none⟩) ∧ v9 = .int .i64 X.c ∧ Hid (Has wx g8 #[.int .i64 X.n, .int .i64 X.d]) ∧ Hid (Has wx g6 #[.int .i64 X.n, .int .i64 X.d]) ∧ Hid (Has wx w.heap.size cs) ∧ Hid (Has wx (w.heap.size + 1) es) ∧ Hid (SetC wx s cs) ∧ Hid (Below w.heap.size w wx))
    case first =>
      refine wp_region_lit ?_
      refine wpList_load_sg (by rfl) _ rfl w.heap.size rfl cs HB.out HZ.out ?_
      (try simp only [Act.put, List.setIfInBounds_toArray, List.set_cons_zero, List.set_cons_succ])
      refine wpList_load_e (by rfl) _ rfl (w.heap.size + 1) rfl es HV.out HZ_es.out ?_
      (try simp only [Act.put, List.setIfInBounds_toArray, List.set_cons_zero, List.set_cons_succ])
      refine wpList_step (fun K hK => ?_)
      go_simp
      go_at_call 11
      refine (r_es.out _ HS.out).mono ?_
      rintro e_r w5 ⟨rfl, b_⟩
      replace H6 := Lib.hid (H6.out.below b_)
      replace HB := Lib.hid (HB.out.below b_)
      replace HV := Lib.hid (HV.out.below b_)
      replace HS := Lib.hid (HS.out.below b_)
      replace HBW := Lib.hid (bel_on HBW.out b_)
      clear b_
      refine hK _ _ ?_
      clear hK K
      (try simp only [Act.put, List.setIfInBounds_toArray, List.set_cons_zero, List.set_cons_succ])
      iterate 6 (refine wpList_step (fun K hK => ?_); go_simp; refine hK _ _ ?_; clear hK K; (try simp only [Act.put, List.setIfInBounds_toArray, List.set_cons_zero, List.set_cons_succ]))
      refine wpList_nil ?_
      go_wp2_with fail
      go_meet
      exact ⟨_, rfl, rfl, Lib.hid (Has.new _ _ _ rfl), Lib.hid (H6.out.alloc _), Lib.hid (HB.out.alloc _), Lib.hid (HV.out.alloc _), Lib.hid (HS.out.below (bel_alloc (Below.refl _ _) _)), Lib.hid (bel_alloc HBW.out _)⟩
    case rest =>
      clear H6 HB HV HS HBW
      obtain ⟨g8, rfl, rfl, H8, H6, HB, HV, HS, HBW⟩ := hcut
      obtain ⟨xn, xd, xc⟩ := X
      clear c_es r_es
      simp only at H6 H8 ⊢
      obtain ⟨c0, c1, -, -⟩ := H6.out.two
      have z0 := cell_lt c0
      obtain ⟨c2, c3, -, -⟩ := H8.out.two
      have z2 := cell_lt c2
      go_wp2
      go_ret
      exact ⟨rfl, HBW.out⟩
theorem goalTells_walk (s : SetP) (A1 A2 A3 A4 A5 A6 : Option Addr) (c1 c2 c3 c4 c5 c6 : Nat) (e : EvP) (w : World) (hs : SetAt w s A1 A2 A3 A4 A5 A6 c1 c2 c3 c4 c5 c6) (hf : s.Fit) (hi : e.In) :
    Calls Try.prog 3 #[setV s A1 A2 A3 A4 A5 A6 c1 c2 c3 c4 c5 c6, .agg (evC e)] w fun e w' => e = .returned (.bool true) ∧ Below w.heap.size w w' := by
  obtain ⟨cs, hcs⟩ : ∃ cs, setV s A1 A2 A3 A4 A5 A6 c1 c2 c3 c4 c5 c6 = .agg cs := ⟨_, rfl⟩
  have h : SetC w s cs := ⟨A1, A2, A3, A4, A5, A6, c1, c2, c3, c4, c5, c6, hcs, hs⟩
  rw [hcs]
  by_cases hF : s.Few
  · exact GoalTells_main h hf e hi hF
  · exact GoalTells_few h hf e hi hF
end Go.Proofs.Ytoconmcmnikdnaa
