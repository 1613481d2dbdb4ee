/-
  The document's own Apply.
-/
import Derived.Test.YtedkhjbnjkcemaaZay
import Derived.Test.YtedkhjbnjkcemaaZar
import Derived.Test.YtedkhjbnjkcemaaZat
namespace Go.Proofs.Ytedkhjbnjkcemaa
open Go.RowKit
set_option linter.unusedVariables false
set_option linter.unusedSimpArgs false
set_option maxRecDepth 20000

/-- What the document's own Apply answers. -/
def GotR (W : World) (R : List EvP × Int) (e : Ending) (w' : World) : Prop := ∃ A' n' c', e = .returned (.tuple #[.slice A' n' c', .int .i64 R.2]) ∧ Evs w' A' n' c' R.1 ∧ Below W.heap.size W w'
set_option maxHeartbeats 8000000 in
theorem rapply_1 {cs : Array Value} {pl : Int} {nE nC nG nR : Nat} (hs : SetS cs pl nE nC nG nR) (A : Option Addr) (n c : Nat) (l : List EvP) (x : EvP) (W : World) (h : Evs W A n c l) (hnc : n ≤ c ∧ c ≤ 9223372036854775807) (hn : n ≤ 500) (hi : x.In) (b : Bool) (hb : decide (x.May pl nE nC nG nR) = b) :
    Calls Try.prog 11 #[.agg cs, .slice A n c, .agg (fixC 1 x)] W (GotR W (applyE b l 1 x)) := by
  have mixed : Try.prog.follows Departure.mixedOrders = true := by kernel_rfl
  have hs23 := hs.1
  obtain ⟨W1, hW1⟩ : ∃ W1, (W.alloc (.cells cs 30)).alloc (.cells (fixC 1 x) 35) = W1 := ⟨_, rfl⟩
  have hB1 : Below W.heap.size W W1 := by rw [← hW1]; exact bel_alloc (bel_alloc (Below.refl _ _) _) _
  have hC1 : Has W1 W.heap.size cs := by rw [← hW1]; exact (Has.new _ _ _ rfl).alloc _
  have hF1 : Has W1 (W.heap.size + 1) (fixC 1 x) := by rw [← hW1]; exact Has.new _ _ _ (by simp)
  have HC := Lib.hid hC1
  have HF := Lib.hid hF1
  have HB := Lib.hid hB1
  have HE := Lib.hid (h.below hB1)
  have HS23 := Lib.hid hs23
  have HN := Lib.hid h.2
  have HL := Lib.hid (fix_loadE hF1)
  have HCH := Lib.hid (rcheck8_any cs pl nE nC nG nR hs x hi W1 b hb)
  have HW1 := Lib.hid hW1
  obtain ⟨R, hR⟩ : ∃ R, applyE b l 1 x = R := ⟨_, rfl⟩
  rw [hR]
  have HR := Lib.hid hR
  clear hC1 hF1 hB1 h hs hs23 hR hb hW1
  rw [← HW1.out] at HC HF HB HE HL HCH
  clear HW1 W1
  generalize hfx : fixC 1 x = fx at HC HF HB HE HL HCH ⊢
  replace hfx := Lib.hid hfx
  go_enter Try.func11, Try.ntmps11
  go_wp2_with (first | refine wpList_load_has (by rfl) _ rfl W.heap.size rfl cs HC.out HS23.out ?_ | refine wpList_exec (o := ⟨some 13, _, _, _, _, _⟩) rfl (exec_load_at _ rfl rfl HL.out) ?_ | fail)
  refine HCH.out.mono ?_
  rintro e w3 ⟨rfl, hb3⟩
  have hF3 := HF.out.below hb3
  rw [← hfx.out] at hF3
  have HF3 := Lib.hid hF3
  have HE3 := Lib.hid (HE.out.below hb3)
  have HB3 := Lib.hid (bel_on HB.out hb3)
  have q0 := hF3.cell 0 (v := .int .i64 1) rfl
  have q1 := hF3.cell 1 (v := .int .i64 x.id) rfl
  have qz := cell_lt q0
  clear HC HF HB HE HL HCH hb3 hF3 hfx
  cases b with
  | false =>
    obtain rfl : R = ([], 80) := by rw [← HR.out]; simp [applyE]
    clear HR
    go_wp2
    go_ret2
    exact ⟨none, 0, 0, rfl, evs_nil _, HB3.out⟩
  | true =>
    have HAT := Lib.hid (rat13_any A n c l x.id w3 HE3.out (by omega))
    cases hx : ixE l x.id with
    | some i =>
      rw [show ixZ l x.id = (i : Int) by unfold ixZ; rw [hx]] at HAT
      have hil := (ixE_some hx).1
      rw [HN.out] at hil
      have hi0 : (0 : Int) ≤ (i : Int) := by omega
      have hiN : (i : Int) ≤ 1000 := by omega
      go_wp2_with fail
      refine HAT.out.mono ?_
      rintro e w4 ⟨rfl, rfl⟩
      obtain rfl : R = ([], 130) := by rw [← HR.out]; simp [applyE, hx]
      clear HR HAT hx
      go_wp2
      go_ret2
      exact ⟨none, 0, 0, rfl, evs_nil _, HB3.out⟩
    | none =>
      rw [show ixZ l x.id = -1 by unfold ixZ; rw [hx]] at HAT
      go_wp2_with fail
      refine HAT.out.mono ?_
      rintro e w4 ⟨rfl, rfl⟩
      obtain rfl : R = (sortE (l ++ [x]), 0) := by rw [← HR.out]; simp [applyE, hx]
      clear HR HAT hx
      go_wp2_with fail
      refine wp_region_noPanic ?_
      refine wp_region_held_drew (S := fun w' => Below w3.heap.size w3 w') (by kernel_rfl) (below_drew (Below.refl _ _)) (fun hHeld => ?_)
      refine wpAnyH_take (i := 1) (oi := ⟨some 43, _, _, _, _, _⟩) (v := ?_) rfl (by kernel_rfl) (by kernel_rfl) (by kernel_rfl) (fun _ _ _ h => h) (Or.inl ⟨by rfl, ?_⟩) hHeld ?_
      rotate_left
      · intro ww hSw
        (try dsimp only at hSw)
        go_simp
        (try with_reducible rfl)
      simp only [Act.put, List.setIfInBounds_toArray, List.set_cons_zero, List.set_cons_succ]
      refine wpAnyH_take (i := 3) (oi := ⟨some 45, _, _, _, _, _⟩) (v := ?_) rfl (by kernel_rfl) (by kernel_rfl) (by kernel_rfl) (fun _ _ _ h => h) (Or.inl ⟨by rfl, ?_⟩) hHeld ?_
      rotate_left
      · intro ww hSw
        (try dsimp only at hSw)
        go_simp
        (try with_reducible rfl)
      simp only [Act.put, List.setIfInBounds_toArray, List.set_cons_zero, List.set_cons_succ]
      refine wpAnyH_take (i := 4) (oi := ⟨some 46, _, _, _, _, _⟩) (v := .agg (evC x)) rfl (by kernel_rfl) (by kernel_rfl) (by kernel_rfl) (fun _ _ _ h => h) (Or.inl ⟨by rfl, ?_⟩) hHeld ?_
      · intro ww hSw
        (try dsimp only at hSw)
        exact exec_load_at _ rfl rfl (fix_loadE (k := 1) (HF3.out.below hSw))
      simp only [Act.put, List.setIfInBounds_toArray, List.set_cons_zero, List.set_cons_succ]
      obtain ⟨wd, hwd⟩ : ∃ wd, w3.drew = wd := ⟨_, rfl⟩
      have B3d : Hid (Below w3.heap.size w3 wd) := by rw [← hwd]; exact below_drew (Below.refl _ _)
      have H39d : Hid (Evs wd A n c l) := by rw [← hwd]; exact HE3.out
      have HSZ : Hid (wd.heap.size = w3.heap.size) := Lib.hid (by rw [← hwd]; rfl)
      rw [hwd]
      clear hwd
      refine wpAnyH_ready (rs := [0, 5]) (by kernel_rfl) (by simp) ?_
      refine AllReadyH.cons (o := ⟨some 42, _, _, _, _, _⟩) rfl (fun K hK => ?_) (AllReadyH.cons (o := ⟨some 47, _, _, _, _, _⟩) rfl (fun K hK => ?_) AllReadyH.nil)
      · skip
        go_simp
        refine hK.out _ _ ?_ (fun hHeld => ?_)
        · (try dsimp only)
          exact bel_alloc B3d.out _
        clear hK K
        (try simp only [Act.put, List.setIfInBounds_toArray, List.set_cons_zero, List.set_cons_succ])
        have R42 := Lib.hid (erow_empty wd)
        have B42 := Lib.hid (bel_alloc B3d.out (.cells #[] 33))
        have H42 := Lib.hid (H39d.out.below (bel_alloc (Below.refl _ _) (.cells #[] 33)))
        refine wpAnyH_ready (rs := [2, 5]) (by kernel_rfl) (by simp) ?_
        refine AllReadyH.cons (o := ⟨some 44, _, _, _, _, _⟩) rfl (fun K hK => ?_) (AllReadyH.cons (o := ⟨some 47, _, _, _, _, _⟩) rfl (fun K hK => ?_) AllReadyH.nil)
        · skip
          obtain ⟨A44, c44, w44, hr44, row44, bel44, keep44⟩ := erow_append (erow_mono R42.out (Nat.le_of_eq HSZ.out.symm)) H42.out (show 0 + n ≤ 100000 by omega) B42.out.size (k := n) (by omega)
          have HR44 : Hid ((Builtin.append_ #[31, 31] 31 #[.slice (some ⟨wd.heap.size, 0, none⟩) 0 0, .slice A n c]).run Try.prog (wd.alloc (.cells #[] 33)) = .ok (.slice A44 n c44) w44) := hr44
          have b44 := bel44 w3 (Nat.le_refl _) B42.out
          rw [List.nil_append] at row44
          have B44 := Lib.hid b44
          rw [if_pos (by rfl)]
          refine wp_append_run8 HR44.out rfl rfl rfl ?_
          refine hK.out _ _ ?_ (fun hHeld => ?_)
          · (try dsimp only)
            exact B44.out
          clear hK K
          (try simp only [Act.put, List.setIfInBounds_toArray, List.set_cons_zero, List.set_cons_succ])
          refine wpAnyH_ready (rs := [5]) (by kernel_rfl) (by simp) ?_
          refine AllReadyH.cons (o := ⟨some 47, _, _, _, _, _⟩) rfl (fun K hK => ?_) AllReadyH.nil
          rw [if_pos (by rfl)]
          refine wp_build_e x rfl rfl ?_
          refine hK.out _ _ ?_ (fun hHeld => ?_)
          · (try dsimp only)
            exact bel_alloc B44.out _
          clear hK K
          (try simp only [Act.put, List.setIfInBounds_toArray, List.set_cons_zero, List.set_cons_succ])
          have R44 := Lib.hid (row44.alloc (.cells (evC x) 33))
          have X47 := Lib.hid (evs_one w44 x)
          have B0 := Lib.hid (bel_alloc B44.out (.cells (evC x) 33))
          obtain ⟨g47, hg47⟩ : ∃ g, w44.heap.size = g := ⟨_, rfl⟩
          rw [hg47] at X47
          rw [hg47]
          obtain ⟨wz, hwz⟩ : ∃ wz, w44.alloc (.cells (evC x) 33) = wz := ⟨_, rfl⟩
          rw [hwz] at R44 X47 B0
          rw [hwz]
          clear hwz hg47 HR44 hr44 row44 bel44 keep44 b44 B44 R42 B42 H42 B3d H39d HSZ
          obtain ⟨A48, c48, w48, hr48, row48, bel48, keep48⟩ := erow_append R44.out X47.out (show n + 1 ≤ 100000 by omega) B0.out.size (k := n + 1) rfl
          have HR48 : Hid ((Builtin.append_ #[31, 31] 31 #[.slice A44 n c44, .slice (some ⟨g47, 0, none⟩) 1 1]).run Try.prog wz = .ok (.slice A48 (n + 1) c48) w48) := hr48
          have b48 := bel48 w3 (Nat.le_refl _) B0.out
          have E48 := Lib.hid (row48.evs (n := n + 1) (by rw [List.length_append, HN.out]; rfl))
          have B48 := Lib.hid b48
          clear hr48 bel48 keep48 row48 b48 R44 X47 B0
          refine wpAnyH_ready (rs := [6]) (by kernel_rfl) (by simp) ?_
          refine AllReadyH.cons (o := ⟨some 48, _, _, _, _, _⟩) rfl (fun K hK => ?_) AllReadyH.nil
          rw [if_pos (by rfl)]
          refine wp_append_run8 HR48.out rfl rfl rfl ?_
          refine hK.out _ _ ?_ (fun hHeld => ?_)
          · (try dsimp only)
            exact B48.out
          clear hK K
          (try simp only [Act.put, List.setIfInBounds_toArray, List.set_cons_zero, List.set_cons_succ])
          refine wpAnyH_ready (rs := [7]) (by kernel_rfl) (by simp) ?_
          refine AllReadyH.cons (o := ⟨some 49, _, _, _, _, _⟩) rfl (fun K hK => ?_) AllReadyH.nil
          go_simp
          go_at_call 27
          refine (rsort_any A48 (n + 1) c48 (l ++ [x]) _ E48.out (by omega)).mono ?_
          rintro e_r w9 ⟨A9, c9, rfl, hb9, he9⟩
          have B9 := Lib.hid (bel_on B48.out hb9)
          have E9 := Lib.hid he9
          clear hb9 he9 HR48 E48
          go_wp2_with fail
          refine hK.out _ _ ?_ (fun hHeld => ?_)
          · (try dsimp only)
            exact B9.out
          clear hK K
          (try simp only [Act.put, List.setIfInBounds_toArray, List.set_cons_zero, List.set_cons_succ])
          refine wpAnyH_take (i := 8) (oi := ⟨some 6, _, _, _, _, _⟩) (v := ?_) rfl (by kernel_rfl) (by kernel_rfl) (by kernel_rfl) (fun _ _ _ h => h) (Or.inl ⟨by rfl, ?_⟩) hHeld ?_
          rotate_left
          · intro ww hSw
            (try dsimp only at hSw)
            go_simp
            (try with_reducible rfl)
          simp only [Act.put, List.setIfInBounds_toArray, List.set_cons_zero, List.set_cons_succ]
          refine wpAnyH_take (i := 9) (oi := ⟨some 7, _, _, _, _, _⟩) (v := ?_) rfl (by kernel_rfl) (by kernel_rfl) (by kernel_rfl) (fun _ _ _ h => h) (Or.inl ⟨by rfl, ?_⟩) hHeld ?_
          rotate_left
          · intro ww hSw
            (try dsimp only at hSw)
            go_simp
            (try with_reducible rfl)
          simp only [Act.put, List.setIfInBounds_toArray, List.set_cons_zero, List.set_cons_succ]
          refine wpAnyH_done (by kernel_rfl) ?_ _
          refine NoPanic.normal ?_
          go_wp2
          go_ret2
          exact ⟨A9, n + 1, c9, rfl, E9.out, bel_on HB3.out B9.out⟩
        · skip
          rw [if_pos (by rfl)]
          refine wp_build_e x rfl rfl ?_
          refine hK.out _ _ ?_ (fun hHeld => ?_)
          · (try dsimp only)
            exact bel_alloc B42.out _
          clear hK K
          (try simp only [Act.put, List.setIfInBounds_toArray, List.set_cons_zero, List.set_cons_succ])
          have R42b := Lib.hid ((erow_mono R42.out (Nat.le_of_eq HSZ.out.symm)).alloc (.cells (evC x) 33))
          have X47a := Lib.hid (evs_one (wd.alloc (.cells #[] 33)) x)
          have B47 := Lib.hid (bel_alloc B42.out (.cells (evC x) 33))
          have H39b := Lib.hid (H42.out.below (bel_alloc (Below.refl _ _) (.cells (evC x) 33)))
          have hs47 : (wd.alloc (.cells #[] 33)).heap.size = wd.heap.size + 1 := by simp
          rw [hs47] at X47a
          (try rw [hs47])
          have hne : ¬ wd.heap.size + 1 = wd.heap.size := by omega
          have hlt47 : wd.heap.size + 1 < ((wd.alloc (.cells #[] 33)).alloc (.cells (evC x) 33)).heap.size := by simp
          generalize hg47 : wd.heap.size + 1 = g47 at *
          generalize hg42 : wd.heap.size = g42 at *
          generalize hwy : (wd.alloc (.cells #[] 33)).alloc (.cells (evC x) 33) = wy at *
          obtain ⟨A44, c44, w44, hr44, row44, bel44, keep44⟩ := erow_append R42b.out H39b.out (show 0 + n ≤ 100000 by omega) B47.out.size (k := n) (by omega)
          have HR44 : Hid ((Builtin.append_ #[31, 31] 31 #[.slice (some ⟨g42, 0, none⟩) 0 0, .slice A n c]).run Try.prog wy = .ok (.slice A44 n c44) w44) := hr44
          have b44 := bel44 w3 (Nat.le_refl _) B47.out
          rw [List.nil_append] at row44
          have B0 := Lib.hid b44
          have R44 := Lib.hid row44
          have X47 := Lib.hid (X47a.out.keep (w' := w44) (fun g hg => keep44 _ (by injection hg with hg; subst hg; exact hlt47) (fun g' hg' => by injection hg' with hg'; injection hg with hg; subst hg' hg; exact hne)))
          clear hr44 row44 bel44 keep44 b44 R42b X47a B47 H39b hne hlt47 hg47 hg42 hwy R42 B42 H42 B3d H39d HSZ hs47
          refine wpAnyH_ready (rs := [2]) (by kernel_rfl) (by simp) ?_
          refine AllReadyH.cons (o := ⟨some 44, _, _, _, _, _⟩) rfl (fun K hK => ?_) AllReadyH.nil
          rw [if_pos (by rfl)]
          refine wp_append_run8 HR44.out rfl rfl rfl ?_
          refine hK.out _ _ ?_ (fun hHeld => ?_)
          · (try dsimp only)
            exact B0.out
          clear hK K
          (try simp only [Act.put, List.setIfInBounds_toArray, List.set_cons_zero, List.set_cons_succ])
          clear HR44
          obtain ⟨A48, c48, w48, hr48, row48, bel48, keep48⟩ := erow_append R44.out X47.out (show n + 1 ≤ 100000 by omega) B0.out.size (k := n + 1) rfl
          have HR48 : Hid ((Builtin.append_ #[31, 31] 31 #[.slice A44 n c44, .slice (some ⟨g47, 0, none⟩) 1 1]).run Try.prog w44 = .ok (.slice A48 (n + 1) c48) w48) := hr48
          have b48 := bel48 w3 (Nat.le_refl _) B0.out
          have E48 := Lib.hid (row48.evs (n := n + 1) (by rw [List.length_append, HN.out]; rfl))
          have B48 := Lib.hid b48
          clear hr48 bel48 keep48 row48 b48 R44 X47 B0
          refine wpAnyH_ready (rs := [6]) (by kernel_rfl) (by simp) ?_
          refine AllReadyH.cons (o := ⟨some 48, _, _, _, _, _⟩) rfl (fun K hK => ?_) AllReadyH.nil
          rw [if_pos (by rfl)]
          refine wp_append_run8 HR48.out rfl rfl rfl ?_
          refine hK.out _ _ ?_ (fun hHeld => ?_)
          · (try dsimp only)
            exact B48.out
          clear hK K
          (try simp only [Act.put, List.setIfInBounds_toArray, List.set_cons_zero, List.set_cons_succ])
          refine wpAnyH_ready (rs := [7]) (by kernel_rfl) (by simp) ?_
          refine AllReadyH.cons (o := ⟨some 49, _, _, _, _, _⟩) rfl (fun K hK => ?_) AllReadyH.nil
          go_simp
          go_at_call 27
          refine (rsort_any A48 (n + 1) c48 (l ++ [x]) _ E48.out (by omega)).mono ?_
          rintro e_r w9 ⟨A9, c9, rfl, hb9, he9⟩
          have B9 := Lib.hid (bel_on B48.out hb9)
          have E9 := Lib.hid he9
          clear hb9 he9 HR48 E48
          go_wp2_with fail
          refine hK.out _ _ ?_ (fun hHeld => ?_)
          · (try dsimp only)
            exact B9.out
          clear hK K
          (try simp only [Act.put, List.setIfInBounds_toArray, List.set_cons_zero, List.set_cons_succ])
          refine wpAnyH_take (i := 8) (oi := ⟨some 6, _, _, _, _, _⟩) (v := ?_) rfl (by kernel_rfl) (by kernel_rfl) (by kernel_rfl) (fun _ _ _ h => h) (Or.inl ⟨by rfl, ?_⟩) hHeld ?_
          rotate_left
          · intro ww hSw
            (try dsimp only at hSw)
            go_simp
            (try with_reducible rfl)
          simp only [Act.put, List.setIfInBounds_toArray, List.set_cons_zero, List.set_cons_succ]
          refine wpAnyH_take (i := 9) (oi := ⟨some 7, _, _, _, _, _⟩) (v := ?_) rfl (by kernel_rfl) (by kernel_rfl) (by kernel_rfl) (fun _ _ _ h => h) (Or.inl ⟨by rfl, ?_⟩) hHeld ?_
          rotate_left
          · intro ww hSw
            (try dsimp only at hSw)
            go_simp
            (try with_reducible rfl)
          simp only [Act.put, List.setIfInBounds_toArray, List.set_cons_zero, List.set_cons_succ]
          refine wpAnyH_done (by kernel_rfl) ?_ _
          refine NoPanic.normal ?_
          go_wp2
          go_ret2
          exact ⟨A9, n + 1, c9, rfl, E9.out, bel_on HB3.out B9.out⟩
      · skip
        rw [if_pos (by rfl)]
        refine wp_build_e x rfl rfl ?_
        refine hK.out _ _ ?_ (fun hHeld => ?_)
        · (try dsimp only)
          exact bel_alloc B3d.out _
        clear hK K
        (try simp only [Act.put, List.setIfInBounds_toArray, List.set_cons_zero, List.set_cons_succ])
        refine wpAnyH_ready (rs := [0]) (by kernel_rfl) (by simp) ?_
        refine AllReadyH.cons (o := ⟨some 42, _, _, _, _, _⟩) rfl (fun K hK => ?_) AllReadyH.nil
        go_simp
        refine hK.out _ _ ?_ (fun hHeld => ?_)
        · (try dsimp only)
          exact bel_alloc (bel_alloc B3d.out _) _
        clear hK K
        (try simp only [Act.put, List.setIfInBounds_toArray, List.set_cons_zero, List.set_cons_succ])
        have R42b := Lib.hid (erow_mono (erow_empty (wd.alloc (.cells (evC x) 33))) (by have := HSZ.out; simp; omega : w3.heap.size ≤ _))
        have X47a := Lib.hid ((evs_one wd x).below (bel_alloc (Below.refl _ _) (.cells #[] 33)))
        have B47 := Lib.hid (bel_alloc (bel_alloc B3d.out (.cells (evC x) 33)) (.cells #[] 33))
        have H39b := Lib.hid (H39d.out.below (bel_alloc (bel_alloc (Below.refl _ _) (.cells (evC x) 33)) (.cells #[] 33)))
        have hs47 : (wd.alloc (.cells (evC x) 33)).heap.size = wd.heap.size + 1 := by simp
        rw [hs47] at R42b
        (try rw [hs47])
        have hne : ¬ wd.heap.size = wd.heap.size + 1 := by omega
        have hlt47 : wd.heap.size < ((wd.alloc (.cells (evC x) 33)).alloc (.cells #[] 33)).heap.size := by simp; omega
        generalize hg42 : wd.heap.size + 1 = g42 at *
        generalize hg47 : wd.heap.size = g47 at *
        generalize hwy : (wd.alloc (.cells (evC x) 33)).alloc (.cells #[] 33) = wy at *
        obtain ⟨A44, c44, w44, hr44, row44, bel44, keep44⟩ := erow_append R42b.out H39b.out (show 0 + n ≤ 100000 by omega) B47.out.size (k := n) (by omega)
        have HR44 : Hid ((Builtin.append_ #[31, 31] 31 #[.slice (some ⟨g42, 0, none⟩) 0 0, .slice A n c]).run Try.prog wy = .ok (.slice A44 n c44) w44) := hr44
        have b44 := bel44 w3 (Nat.le_refl _) B47.out
        rw [List.nil_append] at row44
        have B0 := Lib.hid b44
        have R44 := Lib.hid row44
        have X47 := Lib.hid (X47a.out.keep (w' := w44) (fun g hg => keep44 _ (by injection hg with hg; subst hg; exact hlt47) (fun g' hg' => by injection hg' with hg'; injection hg with hg; subst hg' hg; exact hne)))
        clear hr44 row44 bel44 keep44 b44 R42b X47a B47 H39b hne hlt47 hg47 hg42 hwy B3d H39d HSZ hs47
        refine wpAnyH_ready (rs := [2]) (by kernel_rfl) (by simp) ?_
        refine AllReadyH.cons (o := ⟨some 44, _, _, _, _, _⟩) rfl (fun K hK => ?_) AllReadyH.nil
        rw [if_pos (by rfl)]
        refine wp_append_run8 HR44.out rfl rfl rfl ?_
        refine hK.out _ _ ?_ (fun hHeld => ?_)
        · (try dsimp only)
          exact B0.out
        clear hK K
        (try simp only [Act.put, List.setIfInBounds_toArray, List.set_cons_zero, List.set_cons_succ])
        clear HR44
        obtain ⟨A48, c48, w48, hr48, row48, bel48, keep48⟩ := erow_append R44.out X47.out (show n + 1 ≤ 100000 by omega) B0.out.size (k := n + 1) rfl
        have HR48 : Hid ((Builtin.append_ #[31, 31] 31 #[.slice A44 n c44, .slice (some ⟨g47, 0, none⟩) 1 1]).run Try.prog w44 = .ok (.slice A48 (n + 1) c48) w48) := hr48
        have b48 := bel48 w3 (Nat.le_refl _) B0.out
        have E48 := Lib.hid (row48.evs (n := n + 1) (by rw [List.length_append, HN.out]; rfl))
        have B48 := Lib.hid b48
        clear hr48 bel48 keep48 row48 b48 R44 X47 B0
        refine wpAnyH_ready (rs := [6]) (by kernel_rfl) (by simp) ?_
        refine AllReadyH.cons (o := ⟨some 48, _, _, _, _, _⟩) rfl (fun K hK => ?_) AllReadyH.nil
        rw [if_pos (by rfl)]
        refine wp_append_run8 HR48.out rfl rfl rfl ?_
        refine hK.out _ _ ?_ (fun hHeld => ?_)
        · (try dsimp only)
          exact B48.out
        clear hK K
        (try simp only [Act.put, List.setIfInBounds_toArray, List.set_cons_zero, List.set_cons_succ])
        refine wpAnyH_ready (rs := [7]) (by kernel_rfl) (by simp) ?_
        refine AllReadyH.cons (o := ⟨some 49, _, _, _, _, _⟩) rfl (fun K hK => ?_) AllReadyH.nil
        go_simp
        go_at_call 27
        refine (rsort_any A48 (n + 1) c48 (l ++ [x]) _ E48.out (by omega)).mono ?_
        rintro e_r w9 ⟨A9, c9, rfl, hb9, he9⟩
        have B9 := Lib.hid (bel_on B48.out hb9)
        have E9 := Lib.hid he9
        clear hb9 he9 HR48 E48
        go_wp2_with fail
        refine hK.out _ _ ?_ (fun hHeld => ?_)
        · (try dsimp only)
          exact B9.out
        clear hK K
        (try simp only [Act.put, List.setIfInBounds_toArray, List.set_cons_zero, List.set_cons_succ])
        refine wpAnyH_take (i := 8) (oi := ⟨some 6, _, _, _, _, _⟩) (v := ?_) rfl (by kernel_rfl) (by kernel_rfl) (by kernel_rfl) (fun _ _ _ h => h) (Or.inl ⟨by rfl, ?_⟩) hHeld ?_
        rotate_left
        · intro ww hSw
          (try dsimp only at hSw)
          go_simp
          (try with_reducible rfl)
        simp only [Act.put, List.setIfInBounds_toArray, List.set_cons_zero, List.set_cons_succ]
        refine wpAnyH_take (i := 9) (oi := ⟨some 7, _, _, _, _, _⟩) (v := ?_) rfl (by kernel_rfl) (by kernel_rfl) (by kernel_rfl) (fun _ _ _ h => h) (Or.inl ⟨by rfl, ?_⟩) hHeld ?_
        rotate_left
        · intro ww hSw
          (try dsimp only at hSw)
          go_simp
          (try with_reducible rfl)
        simp only [Act.put, List.setIfInBounds_toArray, List.set_cons_zero, List.set_cons_succ]
        refine wpAnyH_done (by kernel_rfl) ?_ _
        refine NoPanic.normal ?_
        go_wp2
        go_ret2
        exact ⟨A9, n + 1, c9, rfl, E9.out, bel_on HB3.out B9.out⟩
set_option maxHeartbeats 8000000 in
theorem rapply_2 {cs : Array Value} {pl : Int} {nE nC nG nR : Nat} (hs : SetS cs pl nE nC nG nR) (A : Option Addr) (n c : Nat) (l : List EvP) (x : EvP) (W : World) (h : Evs W A n c l) (hnc : n ≤ c ∧ c ≤ 9223372036854775807) (hn : n ≤ 500) (hi : x.In) (b : Bool) (hb : decide (x.May pl nE nC nG nR) = b) :
    Calls Try.prog 11 #[.agg cs, .slice A n c, .agg (fixC 2 x)] W (GotR W (applyE b l 2 x)) := by
  have mixed : Try.prog.follows Departure.mixedOrders = true := by kernel_rfl
  have hs23 := hs.1
  obtain ⟨W1, hW1⟩ : ∃ W1, (W.alloc (.cells cs 30)).alloc (.cells (fixC 2 x) 35) = W1 := ⟨_, rfl⟩
  have hB1 : Below W.heap.size W W1 := by rw [← hW1]; exact bel_alloc (bel_alloc (Below.refl _ _) _) _
  have hC1 : Has W1 W.heap.size cs := by rw [← hW1]; exact (Has.new _ _ _ rfl).alloc _
  have hF1 : Has W1 (W.heap.size + 1) (fixC 2 x) := by rw [← hW1]; exact Has.new _ _ _ (by simp)
  have HC := Lib.hid hC1
  have HF := Lib.hid hF1
  have HB := Lib.hid hB1
  have HE := Lib.hid (h.below hB1)
  have HS23 := Lib.hid hs23
  have HN := Lib.hid h.2
  have HL := Lib.hid (fix_loadE hF1)
  have HCH := Lib.hid (rcheck8_any cs pl nE nC nG nR hs x hi W1 b hb)
  have HW1 := Lib.hid hW1
  obtain ⟨R, hR⟩ : ∃ R, applyE b l 2 x = R := ⟨_, rfl⟩
  rw [hR]
  have HR := Lib.hid hR
  clear hC1 hF1 hB1 h hs hs23 hR hb hW1
  rw [← HW1.out] at HC HF HB HE HL HCH
  clear HW1 W1
  generalize hfx : fixC 2 x = fx at HC HF HB HE HL HCH ⊢
  replace hfx := Lib.hid hfx
  go_enter Try.func11, Try.ntmps11
  go_wp2_with (first | refine wpList_load_has (by rfl) _ rfl W.heap.size rfl cs HC.out HS23.out ?_ | refine wpList_exec (o := ⟨some 13, _, _, _, _, _⟩) rfl (exec_load_at _ rfl rfl HL.out) ?_ | fail)
  refine HCH.out.mono ?_
  rintro e w3 ⟨rfl, hb3⟩
  have hF3 := HF.out.below hb3
  rw [← hfx.out] at hF3
  have HF3 := Lib.hid hF3
  have HE3 := Lib.hid (HE.out.below hb3)
  have HB3 := Lib.hid (bel_on HB.out hb3)
  have q0 := hF3.cell 0 (v := .int .i64 2) rfl
  have q1 := hF3.cell 1 (v := .int .i64 x.id) rfl
  have qz := cell_lt q0
  clear HC HF HB HE HL HCH hb3 hF3 hfx
  have HAT := Lib.hid (rat13_any A n c l x.id w3 HE3.out (by omega))
  cases hx : ixE l x.id with
  | none =>
    rw [show ixZ l x.id = -1 by unfold ixZ; rw [hx]] at HAT
    go_wp2_with fail
    refine HAT.out.mono ?_
    rintro e w4 ⟨rfl, rfl⟩
    obtain rfl : R = ([], 131) := by rw [← HR.out]; simp [applyE, hx]
    clear HR HAT hx
    go_wp2
    go_ret2
    exact ⟨none, 0, 0, rfl, evs_nil _, HB3.out⟩
  | some i =>
    rw [show ixZ l x.id = (i : Int) by unfold ixZ; rw [hx]] at HAT
    have hil := (ixE_some hx).1
    rw [HN.out] at hil
    have hi0 : (0 : Int) ≤ (i : Int) := by omega
    have hiN : (i : Int) ≤ 1000 := by omega
    go_wp2_with fail
    refine HAT.out.mono ?_
    rintro e w4 ⟨rfl, rfl⟩
    obtain rfl : R = (sortE (rmE l i), 0) := by rw [← HR.out]; simp [applyE, hx]
    clear HR HAT hx
    obtain ⟨B1, ht1, hv1⟩ := evcut_to HE3.out hnc.1 i (by omega)
    obtain ⟨B2, ht2, hv2⟩ := evcut_from HE3.out hnc.1 (i + 1) (by omega)
    have HT1 := Lib.hid ht1
    have HT2 := Lib.hid ht2
    have HV1 := Lib.hid hv1
    have HV2 := Lib.hid hv2
    have HNN : Hid (i + (n - (i + 1)) = n - 1) := by show _ = _; omega
    have HI1 : Hid (IntKind.i64.wrap ((i : Int) + 1) = ((i + 1 : Nat) : Int)) := by show _ = _; rw [wrapp_id (by omega) (by omega)]; omega
    have HRM := Lib.hid (rmE_length (l := l) (i := i) (by rw [HN.out]; exact hil))
    clear ht1 ht2 hv1 hv2
    go_wp2_with fail
    refine wp_region_noPanic ?_
    refine wp_region_held_drew (S := fun w' => Below w3.heap.size w3 w') (by kernel_rfl) (below_drew (Below.refl _ _)) (fun hHeld => ?_)
    refine wpAnyH_take (i := 1) (oi := ⟨some 53, _, _, _, _, _⟩) (v := ?_) rfl (by kernel_rfl) (by kernel_rfl) (by kernel_rfl) (fun _ _ _ h => h) (Or.inl ⟨by rfl, ?_⟩) hHeld ?_
    rotate_left
    · intro ww hSw
      (try dsimp only at hSw)
      go_simp
      (try with_reducible rfl)
    simp only [Act.put, List.setIfInBounds_toArray, List.set_cons_zero, List.set_cons_succ]
    refine wpAnyH_take (i := 2) (oi := ⟨some 54, _, _, _, _, _⟩) (v := ?_) rfl (by kernel_rfl) (by kernel_rfl) (by kernel_rfl) (fun _ _ _ h => h) (Or.inl ⟨by rfl, ?_⟩) hHeld ?_
    rotate_left
    · intro ww hSw
      (try dsimp only at hSw)
      go_simp
      (try with_reducible rfl)
    simp only [Act.put, List.setIfInBounds_toArray, List.set_cons_zero, List.set_cons_succ]
    refine wpAnyH_take (i := 3) (oi := ⟨some 55, _, _, _, _, _⟩) (v := .slice B1 i c) rfl (by kernel_rfl) (by kernel_rfl) (by kernel_rfl) (fun _ _ _ h => h) (Or.inl ⟨by rfl, ?_⟩) hHeld ?_
    · intro ww hSw
      (try dsimp only at hSw)
      exact exec_slice_run HT1.out rfl rfl rfl rfl rfl
    simp only [Act.put, List.setIfInBounds_toArray, List.set_cons_zero, List.set_cons_succ]
    refine wpAnyH_take (i := 5) (oi := ⟨some 57, _, _, _, _, _⟩) (v := ?_) rfl (by kernel_rfl) (by kernel_rfl) (by kernel_rfl) (fun _ _ _ h => h) (Or.inl ⟨by rfl, ?_⟩) hHeld ?_
    rotate_left
    · intro ww hSw
      (try dsimp only at hSw)
      go_simp
      (try with_reducible rfl)
    simp only [Act.put, List.setIfInBounds_toArray, List.set_cons_zero, List.set_cons_succ]
    refine wpAnyH_take (i := 6) (oi := ⟨some 58, _, _, _, _, _⟩) (v := ?_) rfl (by kernel_rfl) (by kernel_rfl) (by kernel_rfl) (fun _ _ _ h => h) (Or.inl ⟨by rfl, ?_⟩) hHeld ?_
    rotate_left
    · intro ww hSw
      (try dsimp only at hSw)
      go_simp
      (try with_reducible rfl)
    simp only [Act.put, List.setIfInBounds_toArray, List.set_cons_zero, List.set_cons_succ]
    refine wpAnyH_take (i := 7) (oi := ⟨some 59, _, _, _, _, _⟩) (v := .int .i64 ((i + 1 : Nat) : Int)) rfl (by kernel_rfl) (by kernel_rfl) (by kernel_rfl) (fun _ _ _ h => h) (Or.inl ⟨by rfl, ?_⟩) hHeld ?_
    · intro ww hSw
      (try dsimp only at hSw)
      go_simp
      first | rw [HI1.out] | omega
      try omega
    simp only [Act.put, List.setIfInBounds_toArray, List.set_cons_zero, List.set_cons_succ]
    refine wpAnyH_take (i := 8) (oi := ⟨some 60, _, _, _, _, _⟩) (v := .slice B2 (n - (i + 1)) (c - (i + 1))) rfl (by kernel_rfl) (by kernel_rfl) (by kernel_rfl) (fun _ _ _ h => h) (Or.inl ⟨by rfl, ?_⟩) hHeld ?_
    · intro ww hSw
      (try dsimp only at hSw)
      exact exec_slice_run HT2.out rfl rfl rfl rfl rfl
    simp only [Act.put, List.setIfInBounds_toArray, List.set_cons_zero, List.set_cons_succ]
    obtain ⟨wd, hwd⟩ : ∃ wd, w3.drew = wd := ⟨_, rfl⟩
    have B3d : Hid (Below w3.heap.size w3 wd) := by rw [← hwd]; exact below_drew (Below.refl _ _)
    have HSZ : Hid (wd.heap.size = w3.heap.size) := Lib.hid (by rw [← hwd]; rfl)
    rw [hwd]
    clear hwd
    have B52 := Lib.hid (bel_alloc B3d.out (.cells #[] 33))
    obtain ⟨A56, c56, w56, hr56, row56, bel56, keep56⟩ := erow_append (erow_mono (erow_empty wd) (Nat.le_of_eq HSZ.out.symm)) (HV1.out.below B52.out) (show 0 + i ≤ 100000 by omega) B52.out.size (k := i) (by omega)
    have b56 := bel56 w3 (Nat.le_refl _) B52.out
    rw [List.nil_append] at row56
    obtain ⟨A61, c61, w61, hr61, row61, bel61, keep61⟩ := erow_append row56 (HV2.out.below b56) (show i + (n - (i + 1)) ≤ 100000 by omega) b56.size (k := n - 1) HNN.out
    have b61 := bel61 w3 (Nat.le_refl _) b56
    have HR56 := Lib.hid hr56
    have HR61 := Lib.hid hr61
    have B56 := Lib.hid b56
    have B61 := Lib.hid b61
    have W61 := Lib.hid row61
    clear hr56 hr61 b56 b61 row56 row61 bel56 bel61 keep56 keep61
    refine wpAnyH_ready (rs := [0]) (by kernel_rfl) (by simp) ?_
    refine AllReadyH.cons (o := ⟨some 52, _, _, _, _, _⟩) rfl (fun K hK => ?_) AllReadyH.nil
    go_simp
    refine hK.out _ _ ?_ (fun hHeld => ?_)
    · (try dsimp only)
      exact B52.out
    clear hK K
    (try simp only [Act.put, List.setIfInBounds_toArray, List.set_cons_zero, List.set_cons_succ])
    refine wpAnyH_ready (rs := [4]) (by kernel_rfl) (by simp) ?_
    refine AllReadyH.cons (o := ⟨some 56, _, _, _, _, _⟩) rfl (fun K hK => ?_) AllReadyH.nil
    rw [if_pos (by rfl)]
    refine wp_append_run8 HR56.out rfl rfl rfl ?_
    refine hK.out _ _ ?_ (fun hHeld => ?_)
    · (try dsimp only)
      exact B56.out
    clear hK K
    (try simp only [Act.put, List.setIfInBounds_toArray, List.set_cons_zero, List.set_cons_succ])
    refine wpAnyH_ready (rs := [9]) (by kernel_rfl) (by simp) ?_
    refine AllReadyH.cons (o := ⟨some 61, _, _, _, _, _⟩) rfl (fun K hK => ?_) AllReadyH.nil
    rw [if_pos (by rfl)]
    refine wp_append_run8 HR61.out rfl rfl rfl ?_
    refine hK.out _ _ ?_ (fun hHeld => ?_)
    · (try dsimp only)
      exact B61.out
    clear hK K
    (try simp only [Act.put, List.setIfInBounds_toArray, List.set_cons_zero, List.set_cons_succ])
    refine wpAnyH_take (i := 10) (oi := ⟨some 10, _, _, _, _, _⟩) (v := ?_) rfl (by kernel_rfl) (by kernel_rfl) (by kernel_rfl) (fun _ _ _ h => h) (Or.inl ⟨by rfl, ?_⟩) hHeld ?_
    rotate_left
    · intro ww hSw
      (try dsimp only at hSw)
      go_simp
      (try with_reducible rfl)
    simp only [Act.put, List.setIfInBounds_toArray, List.set_cons_zero, List.set_cons_succ]
    refine wpAnyH_done (by kernel_rfl) ?_ _
    refine NoPanic.normal ?_
    have HF6 := Lib.hid (HF3.out.below B61.out)
    have q2 := HF6.out.cell 0 (v := .int .i64 2) rfl
    have q2z := cell_lt q2
    have HE6 := Lib.hid (show Evs w61 A61 (n - 1) c61 (rmE l i) from W61.out.evs (by have := HRM.out; rw [HN.out] at this; exact this))
    clear q0 q1 qz HR56 HR61
    go_wp2_with fail
    refine (rsort_any A61 (n - 1) c61 (rmE l i) _ HE6.out (by omega)).mono ?_
    rintro e w9 ⟨A9, c9, rfl, hb9, he9⟩
    have B9 := Lib.hid (bel_on HB3.out (bel_on B61.out hb9))
    have E9 := Lib.hid he9
    clear hb9 he9 q2 q2z
    go_wp2
    go_ret2
    exact ⟨A9, n - 1, c9, rfl, E9.out, B9.out⟩
set_option maxHeartbeats 8000000 in
theorem rapply_3 {cs : Array Value} {pl : Int} {nE nC nG nR : Nat} (hs : SetS cs pl nE nC nG nR) (A : Option Addr) (n c : Nat) (l : List EvP) (x : EvP) (W : World) (h : Evs W A n c l) (hnc : n ≤ c ∧ c ≤ 9223372036854775807) (hn : n ≤ 500) (hi : x.In) (b : Bool) (hb : decide (x.May pl nE nC nG nR) = b) :
    Calls Try.prog 11 #[.agg cs, .slice A n c, .agg (fixC 3 x)] W (GotR W (applyE b l 3 x)) := by
  have mixed : Try.prog.follows Departure.mixedOrders = true := by kernel_rfl
  have hs23 := hs.1
  obtain ⟨W1, hW1⟩ : ∃ W1, (W.alloc (.cells cs 30)).alloc (.cells (fixC 3 x) 35) = W1 := ⟨_, rfl⟩
  have hB1 : Below W.heap.size W W1 := by rw [← hW1]; exact bel_alloc (bel_alloc (Below.refl _ _) _) _
  have hC1 : Has W1 W.heap.size cs := by rw [← hW1]; exact (Has.new _ _ _ rfl).alloc _
  have hF1 : Has W1 (W.heap.size + 1) (fixC 3 x) := by rw [← hW1]; exact Has.new _ _ _ (by simp)
  have HC := Lib.hid hC1
  have HF := Lib.hid hF1
  have HB := Lib.hid hB1
  have HE := Lib.hid (h.below hB1)
  have HS23 := Lib.hid hs23
  have HN := Lib.hid h.2
  have HL := Lib.hid (fix_loadE hF1)
  have HCH := Lib.hid (rcheck8_any cs pl nE nC nG nR hs x hi W1 b hb)
  have HW1 := Lib.hid hW1
  obtain ⟨R, hR⟩ : ∃ R, applyE b l 3 x = R := ⟨_, rfl⟩
  rw [hR]
  have HR := Lib.hid hR
  clear hC1 hF1 hB1 h hs hs23 hR hb hW1
  rw [← HW1.out] at HC HF HB HE HL HCH
  clear HW1 W1
  generalize hfx : fixC 3 x = fx at HC HF HB HE HL HCH ⊢
  replace hfx := Lib.hid hfx
  go_enter Try.func11, Try.ntmps11
  go_wp2_with (first | refine wpList_load_has (by rfl) _ rfl W.heap.size rfl cs HC.out HS23.out ?_ | refine wpList_exec (o := ⟨some 13, _, _, _, _, _⟩) rfl (exec_load_at _ rfl rfl HL.out) ?_ | fail)
  refine HCH.out.mono ?_
  rintro e w3 ⟨rfl, hb3⟩
  have hF3 := HF.out.below hb3
  rw [← hfx.out] at hF3
  have HF3 := Lib.hid hF3
  have HE3 := Lib.hid (HE.out.below hb3)
  have HB3 := Lib.hid (bel_on HB.out hb3)
  have q0 := hF3.cell 0 (v := .int .i64 3) rfl
  have q1 := hF3.cell 1 (v := .int .i64 x.id) rfl
  have qz := cell_lt q0
  clear HC HF HB HE HL HCH hb3 hF3 hfx
  cases b with
  | false =>
    obtain rfl : R = ([], 80) := by rw [← HR.out]; simp [applyE]
    clear HR
    go_wp2
    go_ret2
    exact ⟨none, 0, 0, rfl, evs_nil _, HB3.out⟩
  | true =>
    have HAT := Lib.hid (rat13_any A n c l x.id w3 HE3.out (by omega))
    cases hx : ixE l x.id with
    | none =>
      rw [show ixZ l x.id = -1 by unfold ixZ; rw [hx]] at HAT
      go_wp2_with fail
      refine HAT.out.mono ?_
      rintro e w4 ⟨rfl, rfl⟩
      obtain rfl : R = ([], 131) := by rw [← HR.out]; simp [applyE, hx]
      clear HR HAT hx
      go_wp2
      go_ret2
      exact ⟨none, 0, 0, rfl, evs_nil _, HB3.out⟩
    | some i =>
      rw [show ixZ l x.id = (i : Int) by unfold ixZ; rw [hx]] at HAT
      have hil := (ixE_some hx).1
      rw [HN.out] at hil
      have hi0 : (0 : Int) ≤ (i : Int) := by omega
      have hiN : (i : Int) ≤ 1000 := by omega
      go_wp2_with fail
      refine HAT.out.mono ?_
      rintro e w4 ⟨rfl, rfl⟩
      obtain rfl : R = (sortE (rmE l i ++ [x]), 0) := by rw [← HR.out]; simp [applyE, hx]
      clear HR HAT hx
      obtain ⟨B1, ht1, hv1⟩ := evcut_to HE3.out hnc.1 i (by omega)
      obtain ⟨B2, ht2, hv2⟩ := evcut_from HE3.out hnc.1 (i + 1) (by omega)
      have HT1 := Lib.hid ht1
      have HT2 := Lib.hid ht2
      have HV1 := Lib.hid hv1
      have HV2 := Lib.hid hv2
      have HNN : Hid (i + (n - (i + 1)) = n - 1) := by show _ = _; omega
      have HI1 : Hid (IntKind.i64.wrap ((i : Int) + 1) = ((i + 1 : Nat) : Int)) := by show _ = _; rw [wrapp_id (by omega) (by omega)]; omega
      have HRM := Lib.hid (rmE_length (l := l) (i := i) (by rw [HN.out]; exact hil))
      clear ht1 ht2 hv1 hv2
      go_wp2_with fail
      refine wp_region_noPanic ?_
      refine wp_region_held_drew (S := fun w' => Below w3.heap.size w3 w') (by kernel_rfl) (below_drew (Below.refl _ _)) (fun hHeld => ?_)
      refine wpAnyH_take (i := 1) (oi := ⟨some 53, _, _, _, _, _⟩) (v := ?_) rfl (by kernel_rfl) (by kernel_rfl) (by kernel_rfl) (fun _ _ _ h => h) (Or.inl ⟨by rfl, ?_⟩) hHeld ?_
      rotate_left
      · intro ww hSw
        (try dsimp only at hSw)
        go_simp
        (try with_reducible rfl)
      simp only [Act.put, List.setIfInBounds_toArray, List.set_cons_zero, List.set_cons_succ]
      refine wpAnyH_take (i := 2) (oi := ⟨some 54, _, _, _, _, _⟩) (v := ?_) rfl (by kernel_rfl) (by kernel_rfl) (by kernel_rfl) (fun _ _ _ h => h) (Or.inl ⟨by rfl, ?_⟩) hHeld ?_
      rotate_left
      · intro ww hSw
        (try dsimp only at hSw)
        go_simp
        (try with_reducible rfl)
      simp only [Act.put, List.setIfInBounds_toArray, List.set_cons_zero, List.set_cons_succ]
      refine wpAnyH_take (i := 3) (oi := ⟨some 55, _, _, _, _, _⟩) (v := .slice B1 i c) rfl (by kernel_rfl) (by kernel_rfl) (by kernel_rfl) (fun _ _ _ h => h) (Or.inl ⟨by rfl, ?_⟩) hHeld ?_
      · intro ww hSw
        (try dsimp only at hSw)
        exact exec_slice_run HT1.out rfl rfl rfl rfl rfl
      simp only [Act.put, List.setIfInBounds_toArray, List.set_cons_zero, List.set_cons_succ]
      refine wpAnyH_take (i := 5) (oi := ⟨some 57, _, _, _, _, _⟩) (v := ?_) rfl (by kernel_rfl) (by kernel_rfl) (by kernel_rfl) (fun _ _ _ h => h) (Or.inl ⟨by rfl, ?_⟩) hHeld ?_
      rotate_left
      · intro ww hSw
        (try dsimp only at hSw)
        go_simp
        (try with_reducible rfl)
      simp only [Act.put, List.setIfInBounds_toArray, List.set_cons_zero, List.set_cons_succ]
      refine wpAnyH_take (i := 6) (oi := ⟨some 58, _, _, _, _, _⟩) (v := ?_) rfl (by kernel_rfl) (by kernel_rfl) (by kernel_rfl) (fun _ _ _ h => h) (Or.inl ⟨by rfl, ?_⟩) hHeld ?_
      rotate_left
      · intro ww hSw
        (try dsimp only at hSw)
        go_simp
        (try with_reducible rfl)
      simp only [Act.put, List.setIfInBounds_toArray, List.set_cons_zero, List.set_cons_succ]
      refine wpAnyH_take (i := 7) (oi := ⟨some 59, _, _, _, _, _⟩) (v := .int .i64 ((i + 1 : Nat) : Int)) rfl (by kernel_rfl) (by kernel_rfl) (by kernel_rfl) (fun _ _ _ h => h) (Or.inl ⟨by rfl, ?_⟩) hHeld ?_
      · intro ww hSw
        (try dsimp only at hSw)
        go_simp
        first | rw [HI1.out] | omega
        try omega
      simp only [Act.put, List.setIfInBounds_toArray, List.set_cons_zero, List.set_cons_succ]
      refine wpAnyH_take (i := 8) (oi := ⟨some 60, _, _, _, _, _⟩) (v := .slice B2 (n - (i + 1)) (c - (i + 1))) rfl (by kernel_rfl) (by kernel_rfl) (by kernel_rfl) (fun _ _ _ h => h) (Or.inl ⟨by rfl, ?_⟩) hHeld ?_
      · intro ww hSw
        (try dsimp only at hSw)
        exact exec_slice_run HT2.out rfl rfl rfl rfl rfl
      simp only [Act.put, List.setIfInBounds_toArray, List.set_cons_zero, List.set_cons_succ]
      obtain ⟨wd, hwd⟩ : ∃ wd, w3.drew = wd := ⟨_, rfl⟩
      have B3d : Hid (Below w3.heap.size w3 wd) := by rw [← hwd]; exact below_drew (Below.refl _ _)
      have HSZ : Hid (wd.heap.size = w3.heap.size) := Lib.hid (by rw [← hwd]; rfl)
      rw [hwd]
      clear hwd
      have B52 := Lib.hid (bel_alloc B3d.out (.cells #[] 33))
      obtain ⟨A56, c56, w56, hr56, row56, bel56, keep56⟩ := erow_append (erow_mono (erow_empty wd) (Nat.le_of_eq HSZ.out.symm)) (HV1.out.below B52.out) (show 0 + i ≤ 100000 by omega) B52.out.size (k := i) (by omega)
      have b56 := bel56 w3 (Nat.le_refl _) B52.out
      rw [List.nil_append] at row56
      obtain ⟨A61, c61, w61, hr61, row61, bel61, keep61⟩ := erow_append row56 (HV2.out.below b56) (show i + (n - (i + 1)) ≤ 100000 by omega) b56.size (k := n - 1) HNN.out
      have b61 := bel61 w3 (Nat.le_refl _) b56
      have HR56 := Lib.hid hr56
      have HR61 := Lib.hid hr61
      have B56 := Lib.hid b56
      have B61 := Lib.hid b61
      have W61 := Lib.hid row61
      clear hr56 hr61 b56 b61 row56 row61 bel56 bel61 keep56 keep61
      refine wpAnyH_ready (rs := [0]) (by kernel_rfl) (by simp) ?_
      refine AllReadyH.cons (o := ⟨some 52, _, _, _, _, _⟩) rfl (fun K hK => ?_) AllReadyH.nil
      go_simp
      refine hK.out _ _ ?_ (fun hHeld => ?_)
      · (try dsimp only)
        exact B52.out
      clear hK K
      (try simp only [Act.put, List.setIfInBounds_toArray, List.set_cons_zero, List.set_cons_succ])
      refine wpAnyH_ready (rs := [4]) (by kernel_rfl) (by simp) ?_
      refine AllReadyH.cons (o := ⟨some 56, _, _, _, _, _⟩) rfl (fun K hK => ?_) AllReadyH.nil
      rw [if_pos (by rfl)]
      refine wp_append_run8 HR56.out rfl rfl rfl ?_
      refine hK.out _ _ ?_ (fun hHeld => ?_)
      · (try dsimp only)
        exact B56.out
      clear hK K
      (try simp only [Act.put, List.setIfInBounds_toArray, List.set_cons_zero, List.set_cons_succ])
      refine wpAnyH_ready (rs := [9]) (by kernel_rfl) (by simp) ?_
      refine AllReadyH.cons (o := ⟨some 61, _, _, _, _, _⟩) rfl (fun K hK => ?_) AllReadyH.nil
      rw [if_pos (by rfl)]
      refine wp_append_run8 HR61.out rfl rfl rfl ?_
      refine hK.out _ _ ?_ (fun hHeld => ?_)
      · (try dsimp only)
        exact B61.out
      clear hK K
      (try simp only [Act.put, List.setIfInBounds_toArray, List.set_cons_zero, List.set_cons_succ])
      refine wpAnyH_take (i := 10) (oi := ⟨some 10, _, _, _, _, _⟩) (v := ?_) rfl (by kernel_rfl) (by kernel_rfl) (by kernel_rfl) (fun _ _ _ h => h) (Or.inl ⟨by rfl, ?_⟩) hHeld ?_
      rotate_left
      · intro ww hSw
        (try dsimp only at hSw)
        go_simp
        (try with_reducible rfl)
      simp only [Act.put, List.setIfInBounds_toArray, List.set_cons_zero, List.set_cons_succ]
      refine wpAnyH_done (by kernel_rfl) ?_ _
      refine NoPanic.normal ?_
      have HF6 := Lib.hid (HF3.out.below B61.out)
      have q2 := HF6.out.cell 0 (v := .int .i64 3) rfl
      have q2z := cell_lt q2
      have HE6 := Lib.hid (show Evs w61 A61 (n - 1) c61 (rmE l i) from W61.out.evs (by have := HRM.out; rw [HN.out] at this; exact this))
      clear q0 q1 qz HR56 HR61
      have HL6 := Lib.hid (fix_loadE (k := 3) HF6.out)
      have hsz6 := (bel_on HB3.out B61.out).size
      obtain ⟨A69, c69, w69, hr69, row69, bel69, keep69⟩ := erow_append ((show ERow w61 w3.heap.size A61 (n - 1) c61 (rmE l i) from W61.out).alloc (.cells (evC x) 33)) (evs_one w61 x) (show n - 1 + 1 ≤ 100000 by omega) (by have := B61.out.size; simp; omega) (k := n) (by omega)
      have HR69 := Lib.hid hr69
      have B69 := Lib.hid (bel69 w3 (Nat.le_refl _) (bel_alloc B61.out _))
      have E69 := Lib.hid (show Evs w69 A69 n c69 (rmE l i ++ [x]) from row69.evs (by rw [List.length_append]; have := HRM.out; rw [HN.out] at this; rw [this]; simp; omega))
      clear hr69 row69 bel69 keep69
      go_wp2_with (first | refine wpList_exec (o := ⟨some 67, _, _, _, _, _⟩) rfl (exec_load_at _ rfl rfl HL6.out) ?_ | refine wpList_build_e (o := ⟨some 68, _, _, _, _, _⟩) rfl x rfl rfl ?_ | (at_builtin; refine wpList_append_run (o := ⟨some 69, _, _, _, _, _⟩) HR69.out rfl rfl rfl rfl ?_) | fail)
      refine (rsort_any A69 n c69 (rmE l i ++ [x]) _ E69.out (by omega)).mono ?_
      rintro e w9 ⟨A9, c9, rfl, hb9, he9⟩
      have B9 := Lib.hid (bel_on HB3.out (bel_on B69.out hb9))
      have E9 := Lib.hid he9
      clear hb9 he9 q2 q2z
      go_wp2
      go_ret2
      exact ⟨A9, n, c9, rfl, E9.out, B9.out⟩
set_option maxHeartbeats 4000000 in
theorem rapply_0 {cs : Array Value} {pl : Int} {nE nC nG nR : Nat} (hs : SetS cs pl nE nC nG nR) (A : Option Addr) (n c : Nat) (l : List EvP) (k : Int) (x : EvP) (W : World) (h1 : k ≠ 1) (h2 : k ≠ 2) (h3 : k ≠ 3) (hi : x.In) (b : Bool) (hb : decide (x.May pl nE nC nG nR) = b) :
    Calls Try.prog 11 #[.agg cs, .slice A n c, .agg (fixC k x)] W (GotR W (applyE b l k x)) := by
  rw [show applyE b l k x = ([], 80) by unfold applyE; rw [if_neg h1, if_neg h2, if_neg h3]]
  have hs23 := hs.1
  obtain ⟨W1, hW1⟩ : ∃ W1, (W.alloc (.cells cs 30)).alloc (.cells (fixC k x) 35) = W1 := ⟨_, rfl⟩
  have hB1 : Below W.heap.size W W1 := by rw [← hW1]; exact bel_alloc (bel_alloc (Below.refl _ _) _) _
  have hC1 : Has W1 W.heap.size cs := by rw [← hW1]; exact (Has.new _ _ _ rfl).alloc _
  have hF1 : Has W1 (W.heap.size + 1) (fixC k x) := by rw [← hW1]; exact Has.new _ _ _ (by simp)
  have HC := Lib.hid hC1
  have HF := Lib.hid hF1
  have HB := Lib.hid hB1
  have HS23 := Lib.hid hs23
  have HL := Lib.hid (fix_loadE hF1)
  have HCH := Lib.hid (rcheck8_any cs pl nE nC nG nR hs x hi W1 b hb)
  have HW1 := Lib.hid hW1
  clear hC1 hF1 hB1 hs hs23 hb hW1
  rw [← HW1.out] at HC HF HB HL HCH
  clear HW1 W1
  generalize hfx : fixC k x = fx at HC HF HB HL HCH ⊢
  replace hfx := Lib.hid hfx
  have H1 := Lib.hid h1
  have H2 := Lib.hid h2
  have H3 := Lib.hid h3
  clear h1 h2 h3
  go_enter Try.func11, Try.ntmps11
  go_wp2_with (first | refine wpList_load_has (by rfl) _ rfl W.heap.size rfl cs HC.out HS23.out ?_ | refine wpList_exec (o := ⟨some 13, _, _, _, _, _⟩) rfl (exec_load_at _ rfl rfl HL.out) ?_ | fail)
  refine HCH.out.mono ?_
  rintro e w3 ⟨rfl, hb3⟩
  have hF3 := HF.out.below hb3
  rw [← hfx.out] at hF3
  have HB3 := Lib.hid (bel_on HB.out hb3)
  have q0 := hF3.cell 0 (v := .int .i64 k) rfl
  have qz := cell_lt q0
  clear HC HF HB HL HCH hb3 hF3 hfx
  by_cases hk : k < 1
  · have hk' : decide (k < 1) = true := decide_eq_true hk
    clear H1 H2 H3
    go_wp2
    go_ret2
    exact ⟨none, 0, 0, rfl, evs_nil _, HB3.out⟩
  · have hk2 : k > 3 := by have := H1.out; have := H2.out; have := H3.out; omega
    have hk' : decide (k < 1) = false := decide_eq_false hk
    have hk3 : decide (3 < k) = true := decide_eq_true hk2
    clear H1 H2 H3
    go_wp2
    go_ret2
    exact ⟨none, 0, 0, rfl, evs_nil _, HB3.out⟩
theorem rapply_any {cs : Array Value} {pl : Int} {nE nC nG nR : Nat} (hs : SetS cs pl nE nC nG nR) (A : Option Addr) (n c : Nat) (l : List EvP) (k : Int) (x : EvP) (W : World) (h : Evs W A n c l) (hnc : n ≤ c ∧ c ≤ 9223372036854775807) (hn : n ≤ 500) (hi : x.In) (b : Bool) (hb : decide (x.May pl nE nC nG nR) = b) :
    Calls Try.prog 11 #[.agg cs, .slice A n c, .agg (fixC k x)] W (GotR W (applyE b l k x)) := by
  by_cases h1 : k = 1
  · subst h1; exact rapply_1 hs A n c l x W h hnc hn hi b hb
  · by_cases h2 : k = 2
    · subst h2; exact rapply_2 hs A n c l x W h hnc hn hi b hb
    · by_cases h3 : k = 3
      · subst h3; exact rapply_3 hs A n c l x W h hnc hn hi b hb
      · exact rapply_0 hs A n c l k x W h1 h2 h3 hi b hb
end Go.Proofs.Ytedkhjbnjkcemaa
