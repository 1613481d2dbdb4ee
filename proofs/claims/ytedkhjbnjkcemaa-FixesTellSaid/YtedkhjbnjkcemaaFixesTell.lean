/-
  FixesTell: the event of any number, any events behind any correction, and the weeks that it touches, are what the document says.
-/
import Derived.Test.YtedkhjbnjkcemaaZbf
namespace Go.Proofs.Ytedkhjbnjkcemaa
open Go.RowKit
set_option linter.unusedVariables false
set_option linter.unusedSimpArgs false
set_option maxRecDepth 100000

set_option maxHeartbeats 8000000 in
theorem fixesTell_main (s : SetP) (cs : Array Value) (w : World) (hW : SetF w s cs) (A : Option Addr) (n c : Nat) (l : List EvP) (h1 : Evs w A n c l) (hl : ∀ e ∈ l, e.In) (hnc : n ≤ c ∧ c ≤ 9223372036854775807) (k : Int) (x : EvP) (hx : x.In) (id : Int) (b : Bool) (hb : decide (s.Few ∧ n ≤ 100) = b) :
    Calls Try.prog 3 #[.agg cs, .slice A n c, .agg (fixC k x), .int .i64 id] w fun e w' => e = .returned (.bool true) ∧ Below w.heap.size w w' := by
  have mixed : Try.prog.follows Departure.mixedOrders = true := by kernel_rfl
  have HZ := Lib.hid hW.size
  have HC0 := Lib.hid (cx_start (fx := fixC k x) h1 hW 30 35)
  have HNC := Lib.hid hnc
  have HI := Lib.hid hx
  have HLI := Lib.hid hl
  obtain ⟨fx, hfx⟩ : ∃ fx, fixC k x = fx := ⟨_, rfl⟩
  have HZF : Hid (fx.size = 12) := Lib.hid (by rw [← hfx]; rfl)
  rw [hfx] at HC0 ⊢
  have HFX := Lib.hid hfx
  have HBB := Lib.hid hb
  have HL := Lib.hid h1.2
  clear hW h1 hnc hx hl hfx hb
  go_enter Try.func3, Try.ntmps3
  go_wp2_with fail
  obtain ⟨w0, hw0⟩ : ∃ w0, (w.alloc (.cells cs 30)).alloc (.cells fx 35) = w0 := ⟨_, rfl⟩
  rw [hw0] at HC0 ⊢
  clear hw0
  refine (awake13 _).mono ?_
  rintro e w1 ⟨rfl, hb1⟩
  have HC1 := Lib.hid (HC0.out.below hb1)
  clear HC0 hb1
  go_wp2_with (refine wpList_exec (o := ⟨some 19, _, _, _, _, _⟩) (by rfl) (exec_load_st _ rfl rfl HC1.out.sc HZ.out) ?_)
  refine (few13 s cs _ HC1.out.st A n c b HBB.out).mono ?_
  rintro e w2 ⟨rfl, hb2⟩
  have HC2 := Lib.hid (HC1.out.below hb2)
  clear HC1 hb2
  cases b with
  | false =>
    have HE := Lib.hid HC2.out.b
    clear HC2 HBB
    go_wp2
    go_ret
    exact ⟨rfl, HE.out⟩
  | true =>
    obtain ⟨hfew, hn⟩ := of_decide_eq_true HBB.out
    have HN5 : Hid (n ≤ 500) := Lib.hid (by omega)
    clear hfew HBB
    have HP := Lib.hid (apply_any HC2.out.st.q A n c l k x w2 HC2.out.ev HNC.out HN5.out HI.out (mayS s x) rfl)
    rw [HFX.out] at HP
    obtain ⟨R, hR⟩ : ∃ R, applyE (mayS s x) l k x = R := ⟨_, rfl⟩
    rw [hR] at HP
    have HR := Lib.hid hR
    have HLEN : Hid (R.1.length ≤ 600) := Lib.hid (by
      have h1 := applyE_len (mayS s x) l k x
      rw [hR, HL.out] at h1
      omega)
    clear hR
    go_wp2_with (first | refine wpList_exec (o := ⟨some 25, _, _, _, _, _⟩) (by rfl) (exec_load_st _ rfl rfl HC2.out.sc HZ.out) ?_ | refine wpList_exec (o := ⟨some 27, _, _, _, _, _⟩) (by rfl) (exec_load_fx _ rfl rfl HC2.out.fc HZF.out) ?_ | fail)
    refine HP.out.mono ?_
    rintro e w3 ⟨A1, n1, c1, rfl, he1, hc1, hd1, hb3⟩
    have HA3 := Lib.hid he1
    have HC3 := Lib.hid (HC2.out.below hb3)
    clear HP he1 HC2 hb3 hc1 hd1
    have HP := Lib.hid (rapply_any HC3.out.st.q A n c l k x w3 HC3.out.ev HNC.out HN5.out HI.out (mayS s x) rfl)
    rw [HFX.out, HR.out] at HP
    go_wp2_with (first | refine wpList_exec (o := ⟨some 32, _, _, _, _, _⟩) (by rfl) (exec_load_st _ rfl rfl HC3.out.sc HZ.out) ?_ | refine wpList_exec (o := ⟨some 34, _, _, _, _, _⟩) (by rfl) (exec_load_fx _ rfl rfl HC3.out.fc HZF.out) ?_ | fail)
    refine HP.out.mono ?_
    rintro e w4 ⟨A2, n2, c2, rfl, he2, hb4⟩
    have HB4 := Lib.hid he2
    have HA4 := Lib.hid (HA3.out.below hb4)
    have HC4 := Lib.hid (HC3.out.below hb4)
    clear HP he2 HC3 HA3 hb4
    go_wp2_with fail
    refine (find_any A n c l id _ HC4.out.ev (by have := HN5.out; omega)).mono ?_
    rintro e w5 ⟨rfl, hb5⟩
    obtain ⟨fe, hfe⟩ : ∃ fe, findE l id = fe := ⟨_, rfl⟩
    rw [hfe]
    have HFE := Lib.hid hfe
    clear hfe
    have hb5' := bel_on hb5 (bel_alloc (Below.refl w5.heap.size w5) (.cells (evC fe) 33))
    have HX5 := Lib.hid (Has.new w5 33 (evC fe) rfl)
    have HB5 := Lib.hid (HB4.out.below hb5')
    have HA5 := Lib.hid (HA4.out.below hb5')
    have HC5 := Lib.hid (HC4.out.below hb5')
    clear HB4 HA4 HC4 hb5 hb5'
    go_wp2_with (first | refine wpList_laid_e (evC fe) 14 _ _ rfl rfl rfl rfl rfl rfl rfl rfl rfl (evC_one _) ?_ | fail)
    refine (rfind_any A n c l id _ HC5.out.ev (by have := HN5.out; omega)).mono ?_
    rw [HFE.out]
    rintro e w5b ⟨rfl, hb6⟩
    have hb6' := bel_on hb6 (bel_alloc (Below.refl w5b.heap.size w5b) (.cells (evC fe) 33))
    have HY6 := Lib.hid (Has.new w5b 33 (evC fe) rfl)
    have HX6 := Lib.hid (HX5.out.below hb6')
    have HB6 := Lib.hid (HB5.out.below hb6')
    have HA6 := Lib.hid (HA5.out.below hb6')
    have HC6 := Lib.hid (HC5.out.below hb6')
    clear HB5 HA5 HC5 HX5 hb6 hb6'
    generalize (ixE l id).isSome = fb at *
    go_wp2_with (first | refine wpList_laid_e (evC fe) 16 _ _ rfl rfl rfl rfl rfl rfl rfl rfl rfl (evC_one _) ?_ | fail)
    obtain ⟨w6, hw6⟩ : ∃ w6, w5b.alloc (.cells (evC fe) 33) = w6 := ⟨_, rfl⟩
    rw [hw6] at HY6 HX6 HB6 HA6 HC6 ⊢
    clear hw6
    refine wp_region_noPanic ?_
    refine wp_region_held_drew (S := fun w' => Below w6.heap.size w6 w') (by kernel_rfl) (below_drew (Below.refl _ _)) (fun hHeld => ?_)
    refine wpAnyH_take (i := 0) (oi := ⟨some 50, _, _, _, _, _⟩) (v := ?_) rfl (by kernel_rfl) (by kernel_rfl) (by kernel_rfl) (fun _ _ _ h => h) (Or.inl ⟨by rfl, ?_⟩) hHeld ?_
    rotate_left
    · intro ww hSw
      (try dsimp only at hSw)
      go_simp
      (try with_reducible rfl)
    simp only [Act.put, List.setIfInBounds_toArray, List.set_cons_zero, List.set_cons_succ]
    refine wpAnyH_take (i := 1) (oi := ⟨some 51, _, _, _, _, _⟩) (v := ?_) rfl (by kernel_rfl) (by kernel_rfl) (by kernel_rfl) (fun _ _ _ h => h) (Or.inl ⟨by rfl, ?_⟩) hHeld ?_
    rotate_left
    · intro ww hSw
      (try dsimp only at hSw)
      go_simp
      (try with_reducible rfl)
    simp only [Act.put, List.setIfInBounds_toArray, List.set_cons_zero, List.set_cons_succ]
    refine wpAnyH_take (i := 2) (oi := ⟨some 52, _, _, _, _, _⟩) (v := ?_) rfl (by kernel_rfl) (by kernel_rfl) (by kernel_rfl) (fun _ _ _ h => h) (Or.inl ⟨by rfl, ?_⟩) hHeld ?_
    rotate_left
    · intro ww hSw
      (try dsimp only at hSw)
      go_simp
      (try with_reducible rfl)
    simp only [Act.put, List.setIfInBounds_toArray, List.set_cons_zero, List.set_cons_succ]
    refine wpAnyH_take (i := 3) (oi := ⟨some 53, _, _, _, _, _⟩) (v := ?_) rfl (by kernel_rfl) (by kernel_rfl) (by kernel_rfl) (fun _ _ _ h => h) (Or.inl ⟨by rfl, ?_⟩) hHeld ?_
    rotate_left
    · intro ww hSw
      (try dsimp only at hSw)
      go_simp
      (try with_reducible rfl)
    simp only [Act.put, List.setIfInBounds_toArray, List.set_cons_zero, List.set_cons_succ]
    refine wpAnyH_ready (rs := [4]) (by kernel_rfl) (by simp) ?_
    refine AllReadyH.cons (o := ⟨some 54, _, _, _, _, _⟩) rfl (fun K hK => ?_) AllReadyH.nil
    go_simp
    go_at_call 14
    refine (rsame_any A1 A2 n1 n2 c1 c2 _ _ _ (HA6.out.below (below_drew (Below.refl _ _))) (HB6.out.below (below_drew (Below.refl _ _))) (by have := HA6.out.2; have := HLEN.out; omega) (by have := HB6.out.2; have := HLEN.out; omega) true (decide_eq_true rfl)).mono ?_
    rintro e_r w7 ⟨rfl, hbn⟩
    have hbw7 : Below w6.heap.size w6 w7 := bel_on (show Below w6.heap.size w6 _ by (repeat' (first | with_reducible exact Below.refl _ _ | with_reducible assumption | with_reducible refine bel_alloc ?_ _ | with_reducible refine bel_set ?_ ?_ _ | with_reducible refine below_drewN ?_ _ | with_reducible refine below_drew ?_ | (simp; done) | (simp; omega) | omega))) hbn
    clear hbn
    go_wp2_with fail
    refine hK.out _ _ ?_ (fun hHeld => ?_)
    · (try dsimp only)
      exact hbw7
    clear hK K
    (try simp only [Act.put, List.setIfInBounds_toArray, List.set_cons_zero, List.set_cons_succ])
    refine wpAnyH_take (i := 5) (oi := ⟨some 55, _, _, _, _, _⟩) (v := ?_) rfl (by kernel_rfl) (by kernel_rfl) (by kernel_rfl) (fun _ _ _ h => h) (Or.inl ⟨by rfl, ?_⟩) hHeld ?_
    rotate_left
    · intro ww hSw
      (try dsimp only at hSw)
      go_simp
      (try with_reducible rfl)
    simp only [Act.put, List.setIfInBounds_toArray, List.set_cons_zero, List.set_cons_succ]
    refine wpAnyH_take (i := 6) (oi := ⟨some 56, _, _, _, _, _⟩) (v := ?_) rfl (by kernel_rfl) (by kernel_rfl) (by kernel_rfl) (fun _ _ _ h => h) (Or.inl ⟨by rfl, ?_⟩) hHeld ?_
    rotate_left
    · intro ww hSw
      (try dsimp only at hSw)
      go_simp
      (try with_reducible rfl)
    simp only [Act.put, List.setIfInBounds_toArray, List.set_cons_zero, List.set_cons_succ]
    refine wpAnyH_take (i := 7) (oi := ⟨some 57, _, _, _, _, _⟩) (v := ?_) rfl (by kernel_rfl) (by kernel_rfl) (by kernel_rfl) (fun _ _ _ h => h) (Or.inl ⟨by rfl, ?_⟩) hHeld ?_
    rotate_left
    · intro ww hSw
      (try dsimp only at hSw)
      go_simp
      (try with_reducible rfl)
    simp only [Act.put, List.setIfInBounds_toArray, List.set_cons_zero, List.set_cons_succ]
    refine wpAnyH_take (i := 8) (oi := ⟨some 58, _, _, _, _, _⟩) (v := ?_) rfl (by kernel_rfl) (by kernel_rfl) (by kernel_rfl) (fun _ _ _ h => h) (Or.inl ⟨by rfl, ?_⟩) hHeld ?_
    rotate_left
    · intro ww hSw
      (try dsimp only at hSw)
      go_simp
      (try with_reducible rfl)
    simp only [Act.put, List.setIfInBounds_toArray, List.set_cons_zero, List.set_cons_succ]
    refine wpAnyH_take (i := 9) (oi := ⟨some 59, _, _, _, _, _⟩) (v := .bool true) rfl (by kernel_rfl) (by kernel_rfl) (by kernel_rfl) (fun _ _ _ h => h) (Or.inl ⟨by rfl, ?_⟩) hHeld ?_
    · intro ww hSw
      (try dsimp only at hSw)
      go_simp
    simp only [Act.put, List.setIfInBounds_toArray, List.set_cons_zero, List.set_cons_succ]
    refine wpAnyH_take (i := 10) (oi := ⟨some 60, _, _, _, _, _⟩) (v := ?_) rfl (by kernel_rfl) (by kernel_rfl) (by kernel_rfl) (fun _ _ _ h => h) (Or.inl ⟨by rfl, ?_⟩) hHeld ?_
    rotate_left
    · intro ww hSw
      (try dsimp only at hSw)
      go_simp
      (try with_reducible rfl)
    simp only [Act.put, List.setIfInBounds_toArray, List.set_cons_zero, List.set_cons_succ]
    refine wpAnyH_take (i := 11) (oi := ⟨some 61, _, _, _, _, _⟩) (v := ?_) rfl (by kernel_rfl) (by kernel_rfl) (by kernel_rfl) (fun _ _ _ h => h) (Or.inl ⟨by rfl, ?_⟩) hHeld ?_
    rotate_left
    · intro ww hSw
      (try dsimp only at hSw)
      go_simp
      (try with_reducible rfl)
    simp only [Act.put, List.setIfInBounds_toArray, List.set_cons_zero, List.set_cons_succ]
    refine wpAnyH_take (i := 12) (oi := ⟨some 62, _, _, _, _, _⟩) (v := .agg (evC fe)) rfl (by kernel_rfl) (by kernel_rfl) (by kernel_rfl) (fun _ _ _ h => h) (Or.inl ⟨by rfl, ?_⟩) hHeld ?_
    · intro ww hSw
      (try dsimp only at hSw)
      exact exec_load_at _ rfl rfl (has_load_e (HX6.out.below hSw))
    simp only [Act.put, List.setIfInBounds_toArray, List.set_cons_zero, List.set_cons_succ]
    refine wpAnyH_take (i := 13) (oi := ⟨some 63, _, _, _, _, _⟩) (v := .agg (evC fe)) rfl (by kernel_rfl) (by kernel_rfl) (by kernel_rfl) (fun _ _ _ h => h) (Or.inl ⟨by rfl, ?_⟩) hHeld ?_
    · intro ww hSw
      (try dsimp only at hSw)
      exact exec_load_at _ rfl rfl (has_load_e (HY6.out.below hSw))
    simp only [Act.put, List.setIfInBounds_toArray, List.set_cons_zero, List.set_cons_succ]
    refine wpAnyH_take (i := 14) (oi := ⟨some 64, _, _, _, _, _⟩) (v := .bool true) rfl (by kernel_rfl) (by kernel_rfl) (by kernel_rfl) (fun _ _ _ h => h) (Or.inl ⟨by rfl, ?_⟩) hHeld ?_
    · intro ww hSw
      (try dsimp only at hSw)
      exact exec_eql_e rfl rfl rfl (by rw [run_ev_eql]; simp)
    simp only [Act.put, List.setIfInBounds_toArray, List.set_cons_zero, List.set_cons_succ]
    refine wpAnyH_take (i := 15) (oi := ⟨some 65, _, _, _, _, _⟩) (v := ?_) rfl (by kernel_rfl) (by kernel_rfl) (by kernel_rfl) (fun _ _ _ h => h) (Or.inl ⟨by rfl, ?_⟩) hHeld ?_
    rotate_left
    · intro ww hSw
      (try dsimp only at hSw)
      go_simp
      (try with_reducible rfl)
    simp only [Act.put, List.setIfInBounds_toArray, List.set_cons_zero, List.set_cons_succ]
    refine wpAnyH_take (i := 16) (oi := ⟨some 66, _, _, _, _, _⟩) (v := ?_) rfl (by kernel_rfl) (by kernel_rfl) (by kernel_rfl) (fun _ _ _ h => h) (Or.inl ⟨by rfl, ?_⟩) hHeld ?_
    rotate_left
    · intro ww hSw
      (try dsimp only at hSw)
      go_simp
      (try with_reducible rfl)
    simp only [Act.put, List.setIfInBounds_toArray, List.set_cons_zero, List.set_cons_succ]
    refine wpAnyH_take (i := 17) (oi := ⟨some 67, _, _, _, _, _⟩) (v := ?_) rfl (by kernel_rfl) (by kernel_rfl) (by kernel_rfl) (fun _ _ _ h => h) (Or.inl ⟨by rfl, ?_⟩) hHeld ?_
    rotate_left
    · intro ww hSw
      (try dsimp only at hSw)
      go_simp
      (try with_reducible rfl)
    simp only [Act.put, List.setIfInBounds_toArray, List.set_cons_zero, List.set_cons_succ]
    refine wpAnyH_take (i := 18) (oi := ⟨some 68, _, _, _, _, _⟩) (v := ?_) rfl (by kernel_rfl) (by kernel_rfl) (by kernel_rfl) (fun _ _ _ h => h) (Or.inl ⟨by rfl, ?_⟩) hHeld ?_
    rotate_left
    · intro ww hSw
      (try dsimp only at hSw)
      go_simp
      (try with_reducible rfl)
    simp only [Act.put, List.setIfInBounds_toArray, List.set_cons_zero, List.set_cons_succ]
    refine wpAnyH_take (i := 19) (oi := ⟨some 69, _, _, _, _, _⟩) (v := .bool true) rfl (by kernel_rfl) (by kernel_rfl) (by kernel_rfl) (fun _ _ _ h => h) (Or.inl ⟨by rfl, ?_⟩) hHeld ?_
    · intro ww hSw
      (try dsimp only at hSw)
      go_simp
    simp only [Act.put, List.setIfInBounds_toArray, List.set_cons_zero, List.set_cons_succ]
    refine wpAnyH_take (i := 20) (oi := ⟨some 70, _, _, _, _, _⟩) (v := ?_) rfl (by kernel_rfl) (by kernel_rfl) (by kernel_rfl) (fun _ _ _ h => h) (Or.inl ⟨by rfl, ?_⟩) hHeld ?_
    rotate_left
    · intro ww hSw
      (try dsimp only at hSw)
      go_simp
      (try with_reducible rfl)
    simp only [Act.put, List.setIfInBounds_toArray, List.set_cons_zero, List.set_cons_succ]
    refine wpAnyH_take (i := 21) (oi := ⟨some 71, _, _, _, _, _⟩) (v := ?_) rfl (by kernel_rfl) (by kernel_rfl) (by kernel_rfl) (fun _ _ _ h => h) (Or.inl ⟨by rfl, ?_⟩) hHeld ?_
    rotate_left
    · intro ww hSw
      (try dsimp only at hSw)
      go_simp
      (try with_reducible rfl)
    simp only [Act.put, List.setIfInBounds_toArray, List.set_cons_zero, List.set_cons_succ]
    refine wpAnyH_take (i := 22) (oi := ⟨some 72, _, _, _, _, _⟩) (v := .agg cs) rfl (by kernel_rfl) (by kernel_rfl) (by kernel_rfl) (fun _ _ _ h => h) (Or.inl ⟨by rfl, ?_⟩) hHeld ?_
    · intro ww hSw
      (try dsimp only at hSw)
      exact exec_load_st _ rfl rfl (HC6.out.sc.below hSw) HZ.out
    simp only [Act.put, List.setIfInBounds_toArray, List.set_cons_zero, List.set_cons_succ]
    refine wpAnyH_take (i := 23) (oi := ⟨some 73, _, _, _, _, _⟩) (v := ?_) rfl (by kernel_rfl) (by kernel_rfl) (by kernel_rfl) (fun _ _ _ h => h) (Or.inl ⟨by rfl, ?_⟩) hHeld ?_
    rotate_left
    · intro ww hSw
      (try dsimp only at hSw)
      go_simp
      (try with_reducible rfl)
    simp only [Act.put, List.setIfInBounds_toArray, List.set_cons_zero, List.set_cons_succ]
    refine wpAnyH_take (i := 24) (oi := ⟨some 74, _, _, _, _, _⟩) (v := .agg fx) rfl (by kernel_rfl) (by kernel_rfl) (by kernel_rfl) (fun _ _ _ h => h) (Or.inl ⟨by rfl, ?_⟩) hHeld ?_
    · intro ww hSw
      (try dsimp only at hSw)
      exact exec_load_fx _ rfl rfl (HC6.out.fc.below hSw) HZF.out
    simp only [Act.put, List.setIfInBounds_toArray, List.set_cons_zero, List.set_cons_succ]
    refine wpAnyH_take (i := 26) (oi := ⟨some 76, _, _, _, _, _⟩) (v := .agg cs) rfl (by kernel_rfl) (by kernel_rfl) (by kernel_rfl) (fun _ _ _ h => h) (Or.inl ⟨by rfl, ?_⟩) hHeld ?_
    · intro ww hSw
      (try dsimp only at hSw)
      exact exec_load_st _ rfl rfl (HC6.out.sc.below hSw) HZ.out
    simp only [Act.put, List.setIfInBounds_toArray, List.set_cons_zero, List.set_cons_succ]
    refine wpAnyH_take (i := 27) (oi := ⟨some 77, _, _, _, _, _⟩) (v := ?_) rfl (by kernel_rfl) (by kernel_rfl) (by kernel_rfl) (fun _ _ _ h => h) (Or.inl ⟨by rfl, ?_⟩) hHeld ?_
    rotate_left
    · intro ww hSw
      (try dsimp only at hSw)
      go_simp
      (try with_reducible rfl)
    simp only [Act.put, List.setIfInBounds_toArray, List.set_cons_zero, List.set_cons_succ]
    refine wpAnyH_take (i := 28) (oi := ⟨some 78, _, _, _, _, _⟩) (v := .agg fx) rfl (by kernel_rfl) (by kernel_rfl) (by kernel_rfl) (fun _ _ _ h => h) (Or.inl ⟨by rfl, ?_⟩) hHeld ?_
    · intro ww hSw
      (try dsimp only at hSw)
      exact exec_load_fx _ rfl rfl (HC6.out.fc.below hSw) HZF.out
    simp only [Act.put, List.setIfInBounds_toArray, List.set_cons_zero, List.set_cons_succ]
    have HT8 := Lib.hid (touched_any HC6.out.st.q HC6.out.st.u HC6.out.st.k A n c l k x _ (HC6.out.ev.below hbw7) HNC.out HN5.out HI.out HLI.out)
    rw [HFX.out] at HT8
    refine wpAnyH_ready (rs := [25]) (by kernel_rfl) (by simp) ?_
    refine AllReadyH.cons (o := ⟨some 75, _, _, _, _, _⟩) rfl (fun K hK => ?_) AllReadyH.nil
    go_simp
    go_at_call 16
    refine (HT8.out).mono ?_
    rintro e_r w8 ⟨A8, m8, c8, rfl, hk8, hm8, hbn⟩
    have HK8 := Lib.hid hk8
    clear HT8 hk8
    have hbw8 : Below w6.heap.size w6 w8 := bel_on (show Below w6.heap.size w6 _ by (repeat' (first | with_reducible exact Below.refl _ _ | with_reducible assumption | with_reducible refine bel_alloc ?_ _ | with_reducible refine bel_set ?_ ?_ _ | with_reducible refine below_drewN ?_ _ | with_reducible refine below_drew ?_ | (simp; done) | (simp; omega) | omega))) hbn
    clear hbn
    go_wp2_with fail
    refine hK.out _ _ ?_ (fun hHeld => ?_)
    · (try dsimp only)
      exact hbw8
    clear hK K
    (try simp only [Act.put, List.setIfInBounds_toArray, List.set_cons_zero, List.set_cons_succ])
    have HT9 := Lib.hid (rtouched_any HC6.out.st.size HC6.out.st.u HC6.out.st.k A n c l k x _ (HC6.out.ev.below hbw8) HNC.out HN5.out HI.out HLI.out)
    rw [HFX.out] at HT9
    refine wpAnyH_ready (rs := [29]) (by kernel_rfl) (by simp) ?_
    refine AllReadyH.cons (o := ⟨some 79, _, _, _, _, _⟩) rfl (fun K hK => ?_) AllReadyH.nil
    go_simp
    go_at_call 17
    refine (HT9.out).mono ?_
    rintro e_r w9 ⟨A9, m9, c9, rfl, hk9, hm9, hc9, hbn⟩
    have HK9 := Lib.hid hk9
    have HK8b := Lib.hid (HK8.out.below hbn)
    have hm89 : m9 ≤ 1000 := by have h1 := hk9.2; have h2 := HK8.out.2; omega
    clear HT9 hk9
    have hbw9 : Below w6.heap.size w6 w9 := bel_on (show Below w6.heap.size w6 _ by (repeat' (first | with_reducible exact Below.refl _ _ | with_reducible assumption | with_reducible refine bel_alloc ?_ _ | with_reducible refine bel_set ?_ ?_ _ | with_reducible refine below_drewN ?_ _ | with_reducible refine below_drew ?_ | (simp; done) | (simp; omega) | omega))) hbn
    clear hbn
    go_wp2_with fail
    refine hK.out _ _ ?_ (fun hHeld => ?_)
    · (try dsimp only)
      exact hbw9
    clear hK K
    (try simp only [Act.put, List.setIfInBounds_toArray, List.set_cons_zero, List.set_cons_succ])
    refine wpAnyH_ready (rs := [30]) (by kernel_rfl) (by simp) ?_
    refine AllReadyH.cons (o := ⟨some 80, _, _, _, _, _⟩) rfl (fun K hK => ?_) AllReadyH.nil
    go_simp
    go_at_call 15
    refine (rsamek_any A8 A9 m8 m9 c8 c9 _ _ _ HK8b.out HK9.out (by omega) (by omega) true (decide_eq_true rfl)).mono ?_
    rintro e_r w10 ⟨rfl, hbn⟩
    have hbw10 : Below w6.heap.size w6 w10 := bel_on (show Below w6.heap.size w6 _ by (repeat' (first | with_reducible exact Below.refl _ _ | with_reducible assumption | with_reducible refine bel_alloc ?_ _ | with_reducible refine bel_set ?_ ?_ _ | with_reducible refine below_drewN ?_ _ | with_reducible refine below_drew ?_ | (simp; done) | (simp; omega) | omega))) hbn
    clear hbn
    go_wp2_with fail
    refine hK.out _ _ ?_ (fun hHeld => ?_)
    · (try dsimp only)
      exact hbw10
    clear hK K
    (try simp only [Act.put, List.setIfInBounds_toArray, List.set_cons_zero, List.set_cons_succ])
    refine wpAnyH_take (i := 31) (oi := ⟨some 81, _, _, _, _, _⟩) (v := ?_) rfl (by kernel_rfl) (by kernel_rfl) (by kernel_rfl) (fun _ _ _ h => h) (Or.inl ⟨by rfl, ?_⟩) hHeld ?_
    rotate_left
    · intro ww hSw
      (try dsimp only at hSw)
      go_simp
      (try with_reducible rfl)
    simp only [Act.put, List.setIfInBounds_toArray, List.set_cons_zero, List.set_cons_succ]
    refine wpAnyH_take (i := 32) (oi := ⟨some 8, _, _, _, _, _⟩) (v := ?_) rfl (by kernel_rfl) (by kernel_rfl) (by kernel_rfl) (fun _ _ _ h => h) (Or.inl ⟨by rfl, ?_⟩) hHeld ?_
    rotate_left
    · intro ww hSw
      (try dsimp only at hSw)
      go_simp
      (try with_reducible rfl)
    simp only [Act.put, List.setIfInBounds_toArray, List.set_cons_zero, List.set_cons_succ]
    refine wpAnyH_done (by kernel_rfl) ?_ _
    refine NoPanic.normal ?_
    have HE := Lib.hid (bel_on HC6.out.b hbw10)
    go_wp2
    go_ret
    exact ⟨rfl, HE.out⟩
theorem fixesTell_walk (s : SetP) (A1 A2 A3 A4 A5 A6 : Option Addr) (c1 c2 c3 c4 c5 c6 : Nat) (a1 : Option Addr) (len1 cap1 : Nat) (z1 : List EvP) (k : Int) (x : EvP) (id : Int) (w : World) (hs : SetAt w s A1 A2 A3 A4 A5 A6 c1 c2 c3 c4 c5 c6) (hf : s.Fit)
    (s1 : Evs w a1 len1 cap1 z1) (i1 : ∀ e ∈ z1, e.In) (l1 : len1 ≤ cap1) (l1' : cap1 ≤ 9223372036854775807) (hk : -9223372036854775808 ≤ k ∧ k ≤ 9223372036854775807) (hx : x.In) (b1 : -9223372036854775808 ≤ id) (b2 : id ≤ 9223372036854775807) :
    Calls Try.prog 3 #[setV s A1 A2 A3 A4 A5 A6 c1 c2 c3 c4 c5 c6, .slice a1 len1 cap1, .agg (fixC k x), .int .i64 id] w fun e w' => e = .returned (.bool true) ∧ Below w.heap.size w w' := by
  obtain ⟨cs, hcs⟩ : ∃ cs, setV s A1 A2 A3 A4 A5 A6 c1 c2 c3 c4 c5 c6 = .agg cs := ⟨_, rfl⟩
  have hW := setF_of hcs hs hf
  rw [hcs]
  exact fixesTell_main s cs w hW a1 len1 cap1 z1 s1 i1 ⟨l1, l1'⟩ k x hx id _ rfl
end Go.Proofs.Ytedkhjbnjkcemaa
