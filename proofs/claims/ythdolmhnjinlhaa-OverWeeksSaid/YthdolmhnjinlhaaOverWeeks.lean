/-
  OverWeeks: a week does not hang on others, and its first seconds are told as of all.
-/
import Derived.Test.YthdolmhnjinlhaaOvrAw
import Derived.Test.YthdolmhnjinlhaaZar
namespace Go.Proofs.Ythdolmhnjinlhaa
open Go.RowKit
set_option linter.unusedVariables false
set_option linter.unusedSimpArgs false
set_option maxRecDepth 100000

set_option maxHeartbeats 8000000 in
theorem overWeeks_main (s : SetP) (cs : Array Value) (w : World) (hC : SetC w s cs) (hf : s.Fit) (A : Option Addr) (cap : Nat) (xs : List (Int × Int)) (hx : Spans w A xs) (hmax : xs.length ≤ 9223372036854775807) (wk ct : Int) (wk0 : 0 ≤ wk) (wk1 : wk ≤ 255) (ct0 : 0 ≤ ct) (ct1 : ct ≤ 4294967295) :
    Calls Try.prog 5 #[.agg cs, .slice A xs.length cap, .int .u8 wk, .int .u32 ct] w fun e w' => e = .returned (.bool true) ∧ Below w.heap.size w w' := by
  obtain ⟨k, hk⟩ : ∃ k, wk.tmod 53 = k := ⟨_, rfl⟩
  have hkm : wk % 53 = k := by rw [← hk]; exact (Int.tmod_eq_emod_of_nonneg wk0).symm
  have hk2 : 0 ≤ k ∧ k ≤ 52 := by omega
  obtain ⟨m, hm⟩ : ∃ m, ct.tmod 604801 = m := ⟨_, rfl⟩
  have hmm : ct % 604801 = m := by rw [← hm]; exact (Int.tmod_eq_emod_of_nonneg ct0).symm
  have hm2 : 0 ≤ m ∧ m ≤ 604800 := by omega
  obtain ⟨Y, hY⟩ : ∃ Y, k * 604800 = Y := ⟨_, rfl⟩
  obtain ⟨X, hX⟩ : ∃ X, Y + m = X := ⟨_, rfl⟩
  have bY : 0 ≤ Y ∧ Y ≤ 31449600 := by omega
  have bX : 0 ≤ X ∧ X ≤ 32054400 := by omega
  have wY : IntKind.i64.wrap (k * 604800) = Y := by rw [hY]; exact wrapn_id (by omega) (by omega)
  have wX : IntKind.i64.wrap (Y + m) = X := by rw [hX]; exact wrapn_id (by omega) (by omega)
  replace hX := Lib.hid hX
  replace hY := Lib.hid hY
  have mixed : Try.prog.follows Departure.mixedOrders = true := by kernel_rfl
  have HM := Lib.hid mixed
  have HZ := Lib.hid hC.size
  have HN0 := Lib.hid (ox_start hC hx)
  have HFEW := Lib.hid (fun W (hW : SetC W s cs) (hX : Spans W A xs) => few16 s cs W hW A xs.length cap xs hX rfl hmax)
  obtain ⟨b, hb⟩ : ∃ b, checkB s = b := ⟨_, rfl⟩
  have C1 := Lib.hid (fun W (hW : SetC W s cs) (hX : Spans W A xs) hl => over_c hW hf b hb A cap xs hX hl k)
  have CWK := Lib.hid (fun W (hX : Spans W A xs) hl => ofweek_any A cap xs k W hX hl)
  have lW : (ofWeekP (In xs) k).length ≤ 32054401 := canon_len _
  have FW : Hid (Fits (ofWeekP (In xs) k)) := Fits.canon _
  have C2 := Lib.hid (fun W D dc (hW : SetC W s cs) (hD : Spans W D (ofWeekP (In xs) k)) => reg_of (b := b) (s := s) (p := In xs) (k := k) ▸ ovr_of (b := b) (s := s) (p := In xs) (k := k) ▸ dbl_of (b := b) (s := s) (p := In xs) (k := k) ▸ over_c hW hf b hb D dc (ofWeekP (In xs) k) hD (by omega) k)
  have FTO : Hid (Fits [(0, X)]) := fun y hy => by rw [List.mem_singleton.1 hy]; exact ⟨⟨by simp, by simp⟩, ⟨by simp only []; omega, by simp only []; omega⟩⟩
  have CAT0 := Lib.hid (fun W T tc (hX : Spans W A xs) (hT : Spans W T [(0, X)]) hl => and_any A T cap tc xs [(0, X)] W hX hT hl (by simp))
  have lT : (canon fun t => In xs t ∧ In [(0, X)] t).length ≤ 32054401 := canon_len _
  have FT : Hid (Fits (canon fun t => In xs t ∧ In [(0, X)] t)) := Fits.canon _
  have ea := (reg_cutL (b := b) (s := s) (wk_to (k := k) (X := X) (l := xs))).trans (to_and (X := X) (l := regL b s (In xs) k)).symm
  have eb := (ovr_cutL (b := b) (s := s) (wk_to (k := k) (X := X) (l := xs))).trans (to_and (X := X) (l := ovrL b s (In xs) k)).symm
  have ec := (dbl_cutL (b := b) (s := s) (wk_to (k := k) (X := X) (l := xs))).trans (to_and (X := X) (l := dblL b s (In xs) k)).symm
  have C3 := Lib.hid (fun W D dc (hW : SetC W s cs) (hD : Spans W D (canon fun t => In xs t ∧ In [(0, X)] t)) => ea ▸ eb ▸ ec ▸ over_c hW hf b hb D dc (canon fun t => In xs t ∧ In [(0, X)] t) hD (by omega) k)
  clear ea eb ec
  have PA := Lib.hid (reg_plain b s (In xs) k)
  have PB := Lib.hid (ovr_plain b s (In xs) k)
  have PC := Lib.hid (dbl_plain b s (In xs) k)
  have lA := pl_len PA.out
  have lB := pl_len PB.out
  have lC := pl_len PC.out
  have CA0 := Lib.hid (fun W D dc T tc (hD : Spans W D (regL b s (In xs) k)) (hT : Spans W T [(0, X)]) => and_any D T dc tc (regL b s (In xs) k) [(0, X)] W hD hT (by omega) (by simp))
  have CB0 := Lib.hid (fun W D dc T tc (hD : Spans W D (ovrL b s (In xs) k)) (hT : Spans W T [(0, X)]) => and_any D T dc tc (ovrL b s (In xs) k) [(0, X)] W hD hT (by omega) (by simp))
  have CC0 := Lib.hid (fun W D dc T tc (hD : Spans W D (dblL b s (In xs) k)) (hT : Spans W T [(0, X)]) => and_any D T dc tc (dblL b s (In xs) k) [(0, X)] W hD hT (by omega) (by simp))
  have FKA : Hid (Fits (canon fun t => In (regL b s (In xs) k) t ∧ In [(0, X)] t)) := Fits.canon _
  have FKB : Hid (Fits (canon fun t => In (ovrL b s (In xs) k) t ∧ In [(0, X)] t)) := Fits.canon _
  have FKC : Hid (Fits (canon fun t => In (dblL b s (In xs) k) t ∧ In [(0, X)] t)) := Fits.canon _
  have lKA : (canon fun t => In (regL b s (In xs) k) t ∧ In [(0, X)] t).length ≤ 32054401 := canon_len _
  have lKB : (canon fun t => In (ovrL b s (In xs) k) t ∧ In [(0, X)] t).length ≤ 32054401 := canon_len _
  have lKC : (canon fun t => In (dblL b s (In xs) k) t ∧ In [(0, X)] t).length ≤ 32054401 := canon_len _
  generalize (canon fun t => In (regL b s (In xs) k) t ∧ In [(0, X)] t) = KA at *
  generalize (canon fun t => In (ovrL b s (In xs) k) t ∧ In [(0, X)] t) = KB at *
  generalize (canon fun t => In (dblL b s (In xs) k) t ∧ In [(0, X)] t) = KC at *
  generalize (canon fun t => In xs t ∧ In [(0, X)] t) = XT at *
  generalize regL b s (In xs) k = LA at *
  generalize ovrL b s (In xs) k = LB at *
  generalize dblL b s (In xs) k = LC at *
  generalize ofWeekP (In xs) k = XW at *
  clear hC hx hf hb
  go_enter Try.func5, Try.ntmps5
  go_wp2_with fail
  refine (awake16 _).mono ?_
  rintro e w1 ⟨rfl, b1⟩
  have HN1 := Lib.hid (HN0.out.below b1)
  clear HN0 b1
  go_wp2_with (refine wpList_load_sp (by rfl) _ rfl w.heap.size rfl cs HN1.out.h HZ.out ?_)
  refine (HFEW.out _ HN1.out.c HN1.out.x).mono ?_
  rintro e w2 ⟨⟨q, rfl, hq⟩, b2⟩
  have HN2 := Lib.hid (HN1.out.below b2)
  clear HN1 b2 HFEW
  cases q with
  | false =>
    have HE := Lib.hid HN2.out.b
    clear HN2 hq
    go_wp2
    go_ret
    exact ⟨rfl, HE.out⟩
  | true =>
    have h30 := hq rfl
    clear hq
    go_upto_region 5 with fail
    (try rw [hkm])
    (try rw [hk])
    (try rw [hmm])
    (try rw [hm])
    clear hk hkm
    have hb5 := bel_alloc (Below.refl w2.heap.size w2) (.cells #[.int .i64 0, .int .i64 X] 46)
    have HT5 := Lib.hid (spans_new w2 [(0, X)] 46 #[.int .i64 0, .int .i64 X] rfl FTO.out rfl)
    have HN5 := Lib.hid (HN2.out.below hb5)
    have CWK := Lib.hid (fun W (hX : Spans W A xs) => CWK.out W hX (by omega))
    have CAT := Lib.hid (fun W (hX : Spans W A xs) (hT : Spans W (some ⟨w2.heap.size, 0, none⟩) [(0, X)]) => CAT0.out W (some ⟨w2.heap.size, 0, none⟩) 1 hX hT (by omega))
    clear hb5 HN2 CAT0
    go_wp2_with (refine wpList_load_sp (by rfl) _ rfl w.heap.size rfl cs HN5.out.h HZ.out ?_)
    refine (C1.out _ HN5.out.c HN5.out.x (by omega)).mono ?_
    rintro e w6 ⟨A6, c6, B6, d6, E6, f6, rfl, r6, s6, t6, b6⟩
    have HN6 := Lib.hid (HN5.out.below b6)
    have HT6 := Lib.hid (HT5.out.below b6)
    have HA6 := Lib.hid (r6.spans (.of_plain PA.out))
    have HB6 := Lib.hid (s6.spans (.of_plain PB.out))
    have HC6 := Lib.hid (t6.spans (.of_plain PC.out))
    clear r6 s6 t6 b6 HN5 HT5 C1 hm hmm
    go_wp2_with fail
    refine wp_region_noPanic ?_
    refine wp_region_held_drew (S := fun w' => Below w6.heap.size w6 w') (by kernel_rfl) (below_drew (Below.refl _ _)) (fun hHeld => ?_)
    refine wpAnyH_take (i := 0) (oi := ⟨some 48, _, _, _, _, _⟩) (v := .agg cs) rfl (by kernel_rfl) (by kernel_rfl) (by kernel_rfl) (fun _ _ _ h => h) (Or.inl ⟨by rfl, ?_⟩) hHeld ?_
    · intro ww hSw
      (try dsimp only at hSw)
      exact exec_load_sp _ rfl rfl (HN6.out.h.below hSw) HZ.out
    simp only [Act.put, List.setIfInBounds_toArray, List.set_cons_zero, List.set_cons_succ]
    refine wpAnyH_take (i := 1) (oi := ⟨some 49, _, _, _, _, _⟩) (v := ?_) rfl (by kernel_rfl) (by kernel_rfl) (by kernel_rfl) (fun _ _ _ h => h) (Or.inl ⟨by rfl, ?_⟩) hHeld ?_
    rotate_left
    · intro ww hSw
      (try dsimp only at hSw)
      go_simp
      (try with_reducible rfl)
    simp only [Act.put, List.setIfInBounds_toArray, List.set_cons_zero, List.set_cons_succ]
    refine wpAnyH_take (i := 2) (oi := ⟨some 50, _, _, _, _, _⟩) (v := ?_) rfl (by kernel_rfl) (by kernel_rfl) (by kernel_rfl) (fun _ _ _ h => h) (Or.inl ⟨by rfl, ?_⟩) hHeld ?_
    rotate_left
    · intro ww hSw
      (try dsimp only at hSw)
      go_simp
      (try with_reducible rfl)
    simp only [Act.put, List.setIfInBounds_toArray, List.set_cons_zero, List.set_cons_succ]
    refine wpAnyH_take (i := 4) (oi := ⟨some 52, _, _, _, _, _⟩) (v := ?_) rfl (by kernel_rfl) (by kernel_rfl) (by kernel_rfl) (fun _ _ _ h => h) (Or.inl ⟨by rfl, ?_⟩) hHeld ?_
    rotate_left
    · intro ww hSw
      (try dsimp only at hSw)
      go_simp
      (try with_reducible rfl)
    simp only [Act.put, List.setIfInBounds_toArray, List.set_cons_zero, List.set_cons_succ]
    refine wpAnyH_ready (rs := [3]) (by kernel_rfl) (by simp) ?_
    refine AllReadyH.cons (o := ⟨some 51, _, _, _, _, _⟩) rfl (fun K hK => ?_) AllReadyH.nil
    go_simp
    go_at_call 12
    refine (CWK.out _ (HN6.out.x.below (below_drew (Below.refl _ _)))).mono ?_
    rintro e_r w7 ⟨A7, c7, rfl, r7, hbn⟩
    have HV7 := Lib.hid (r7.spans FW.out)
    clear r7
    have hbw7 : Below w6.heap.size w6 w7 := bel_on (show Below w6.heap.size w6 _ by (repeat' (first | with_reducible exact Below.refl _ _ | with_reducible assumption | with_reducible refine bel_alloc ?_ _ | with_reducible refine bel_set ?_ ?_ _ | with_reducible refine below_drewN ?_ _ | with_reducible refine below_drew ?_ | (simp; done) | (simp; omega) | omega))) hbn
    clear hbn
    go_wp2_with fail
    refine hK.out _ _ ?_ (fun hHeld => ?_)
    · (try dsimp only)
      exact hbw7
    clear hK K
    (try simp only [Act.put, List.setIfInBounds_toArray, List.set_cons_zero, List.set_cons_succ])
    refine wpAnyH_ready (rs := [5]) (by kernel_rfl) (by simp) ?_
    refine AllReadyH.cons (o := ⟨some 53, _, _, _, _, _⟩) rfl (fun K hK => ?_) AllReadyH.nil
    go_simp
    go_at_call 8
    refine (C2.out _ A7 c7 (HN6.out.c.below hbw7) HV7.out).mono ?_
    rintro e_r w8 ⟨A8, c8, B8, d8, E8, f8, rfl, r8, s8, t8, hbn⟩
    have HA8 := Lib.hid (r8.spans (.of_plain PA.out))
    have HB8 := Lib.hid (s8.spans (.of_plain PB.out))
    have HC8 := Lib.hid (t8.spans (.of_plain PC.out))
    clear r8 s8 t8 HV7
    have hbw8 : Below w6.heap.size w6 w8 := bel_on (show Below w6.heap.size w6 _ by (repeat' (first | with_reducible exact Below.refl _ _ | with_reducible assumption | with_reducible refine bel_alloc ?_ _ | with_reducible refine bel_set ?_ ?_ _ | with_reducible refine below_drewN ?_ _ | with_reducible refine below_drew ?_ | (simp; done) | (simp; omega) | omega))) hbn
    clear hbn
    go_wp2_with fail
    refine hK.out _ _ ?_ (fun hHeld => ?_)
    · (try dsimp only)
      exact hbw8
    clear hK K
    (try simp only [Act.put, List.setIfInBounds_toArray, List.set_cons_zero, List.set_cons_succ])
    refine wpAnyH_take (i := 6) (oi := ⟨some 47, _, _, _, _, _⟩) (v := ?_) rfl (by kernel_rfl) (by kernel_rfl) (by kernel_rfl) (fun _ _ _ h => h) (Or.inl ⟨by rfl, ?_⟩) hHeld ?_
    rotate_left
    · intro ww hSw
      (try dsimp only at hSw)
      go_simp
      (try with_reducible rfl)
    simp only [Act.put, List.setIfInBounds_toArray, List.set_cons_zero, List.set_cons_succ]
    refine wpAnyH_take (i := 7) (oi := ⟨some 54, _, _, _, _, _⟩) (v := ?_) rfl (by kernel_rfl) (by kernel_rfl) (by kernel_rfl) (fun _ _ _ h => h) (Or.inl ⟨by rfl, ?_⟩) hHeld ?_
    rotate_left
    · intro ww hSw
      (try dsimp only at hSw)
      go_simp
      (try with_reducible rfl)
    simp only [Act.put, List.setIfInBounds_toArray, List.set_cons_zero, List.set_cons_succ]
    refine wpAnyH_take (i := 8) (oi := ⟨some 55, _, _, _, _, _⟩) (v := ?_) rfl (by kernel_rfl) (by kernel_rfl) (by kernel_rfl) (fun _ _ _ h => h) (Or.inl ⟨by rfl, ?_⟩) hHeld ?_
    rotate_left
    · intro ww hSw
      (try dsimp only at hSw)
      go_simp
      (try with_reducible rfl)
    simp only [Act.put, List.setIfInBounds_toArray, List.set_cons_zero, List.set_cons_succ]
    refine wpAnyH_take (i := 9) (oi := ⟨some 56, _, _, _, _, _⟩) (v := ?_) rfl (by kernel_rfl) (by kernel_rfl) (by kernel_rfl) (fun _ _ _ h => h) (Or.inl ⟨by rfl, ?_⟩) hHeld ?_
    rotate_left
    · intro ww hSw
      (try dsimp only at hSw)
      go_simp
      (try with_reducible rfl)
    simp only [Act.put, List.setIfInBounds_toArray, List.set_cons_zero, List.set_cons_succ]
    refine wpAnyH_take (i := 10) (oi := ⟨some 15, _, _, _, _, _⟩) (v := ?_) rfl (by kernel_rfl) (by kernel_rfl) (by kernel_rfl) (fun _ _ _ h => h) (Or.inl ⟨by rfl, ?_⟩) hHeld ?_
    rotate_left
    · intro ww hSw
      (try dsimp only at hSw)
      go_simp
      (try with_reducible rfl)
    simp only [Act.put, List.setIfInBounds_toArray, List.set_cons_zero, List.set_cons_succ]
    refine wpAnyH_take (i := 11) (oi := ⟨some 16, _, _, _, _, _⟩) (v := ?_) rfl (by kernel_rfl) (by kernel_rfl) (by kernel_rfl) (fun _ _ _ h => h) (Or.inl ⟨by rfl, ?_⟩) hHeld ?_
    rotate_left
    · intro ww hSw
      (try dsimp only at hSw)
      go_simp
      (try with_reducible rfl)
    simp only [Act.put, List.setIfInBounds_toArray, List.set_cons_zero, List.set_cons_succ]
    refine wpAnyH_take (i := 12) (oi := ⟨some 17, _, _, _, _, _⟩) (v := ?_) rfl (by kernel_rfl) (by kernel_rfl) (by kernel_rfl) (fun _ _ _ h => h) (Or.inl ⟨by rfl, ?_⟩) hHeld ?_
    rotate_left
    · intro ww hSw
      (try dsimp only at hSw)
      go_simp
      (try with_reducible rfl)
    simp only [Act.put, List.setIfInBounds_toArray, List.set_cons_zero, List.set_cons_succ]
    refine wpAnyH_done (by kernel_rfl) ?_ _
    refine NoPanic.normal ?_
    have HN8 := Lib.hid (HN6.out.below hbw8)
    have HT8 := Lib.hid (HT6.out.below hbw8)
    have HA9 := Lib.hid (HA6.out.below hbw8)
    have HB9 := Lib.hid (HB6.out.below hbw8)
    have HC9 := Lib.hid (HC6.out.below hbw8)
    clear HN6 HT6 HA6 HB6 HC6 hbw7 hbw8 CWK C2
    go_wp2_with fail
    refine wp_region_noPanic ?_
    refine wp_region_held_drew (S := fun w' => Below w8.heap.size w8 w') (by kernel_rfl) (below_drew (Below.refl _ _)) (fun hHeld => ?_)
    refine wpAnyH_take (i := 0) (oi := ⟨some 58, _, _, _, _, _⟩) (v := .agg cs) rfl (by kernel_rfl) (by kernel_rfl) (by kernel_rfl) (fun _ _ _ h => h) (Or.inl ⟨by rfl, ?_⟩) hHeld ?_
    · intro ww hSw
      (try dsimp only at hSw)
      exact exec_load_sp _ rfl rfl (HN8.out.h.below hSw) HZ.out
    simp only [Act.put, List.setIfInBounds_toArray, List.set_cons_zero, List.set_cons_succ]
    refine wpAnyH_take (i := 1) (oi := ⟨some 59, _, _, _, _, _⟩) (v := ?_) rfl (by kernel_rfl) (by kernel_rfl) (by kernel_rfl) (fun _ _ _ h => h) (Or.inl ⟨by rfl, ?_⟩) hHeld ?_
    rotate_left
    · intro ww hSw
      (try dsimp only at hSw)
      go_simp
      (try with_reducible rfl)
    simp only [Act.put, List.setIfInBounds_toArray, List.set_cons_zero, List.set_cons_succ]
    refine wpAnyH_take (i := 2) (oi := ⟨some 60, _, _, _, _, _⟩) (v := ?_) rfl (by kernel_rfl) (by kernel_rfl) (by kernel_rfl) (fun _ _ _ h => h) (Or.inl ⟨by rfl, ?_⟩) hHeld ?_
    rotate_left
    · intro ww hSw
      (try dsimp only at hSw)
      go_simp
      (try with_reducible rfl)
    simp only [Act.put, List.setIfInBounds_toArray, List.set_cons_zero, List.set_cons_succ]
    refine wpAnyH_take (i := 4) (oi := ⟨some 62, _, _, _, _, _⟩) (v := ?_) rfl (by kernel_rfl) (by kernel_rfl) (by kernel_rfl) (fun _ _ _ h => h) (Or.inl ⟨by rfl, ?_⟩) hHeld ?_
    rotate_left
    · intro ww hSw
      (try dsimp only at hSw)
      go_simp
      (try with_reducible rfl)
    simp only [Act.put, List.setIfInBounds_toArray, List.set_cons_zero, List.set_cons_succ]
    refine wpAnyH_ready (rs := [3]) (by kernel_rfl) (by simp) ?_
    refine AllReadyH.cons (o := ⟨some 61, _, _, _, _, _⟩) rfl (fun K hK => ?_) AllReadyH.nil
    go_simp
    go_at_call 14
    refine (CAT.out _ (HN8.out.x.below (below_drew (Below.refl _ _))) (HT8.out.below (below_drew (Below.refl _ _)))).mono ?_
    rintro e_r w9 ⟨A9, c9, rfl, r9, hbn⟩
    have HV9 := Lib.hid (r9.spans FT.out)
    clear r9
    have hbw9 : Below w8.heap.size w8 w9 := bel_on (show Below w8.heap.size w8 _ by (repeat' (first | with_reducible exact Below.refl _ _ | with_reducible assumption | with_reducible refine bel_alloc ?_ _ | with_reducible refine bel_set ?_ ?_ _ | with_reducible refine below_drewN ?_ _ | with_reducible refine below_drew ?_ | (simp; done) | (simp; omega) | omega))) hbn
    clear hbn
    go_wp2_with fail
    refine hK.out _ _ ?_ (fun hHeld => ?_)
    · (try dsimp only)
      exact hbw9
    clear hK K
    (try simp only [Act.put, List.setIfInBounds_toArray, List.set_cons_zero, List.set_cons_succ])
    refine wpAnyH_ready (rs := [5]) (by kernel_rfl) (by simp) ?_
    refine AllReadyH.cons (o := ⟨some 63, _, _, _, _, _⟩) rfl (fun K hK => ?_) AllReadyH.nil
    go_simp
    go_at_call 8
    refine (C3.out _ A9 c9 (HN8.out.c.below hbw9) HV9.out).mono ?_
    rintro e_r w10 ⟨A10, c10, B10, d10, E10, f10, rfl, r10, s10, t10, hbn⟩
    have HP10 := Lib.hid (r10.spans FKA.out)
    have HQ10 := Lib.hid (s10.spans FKB.out)
    have HR10 := Lib.hid (t10.spans FKC.out)
    clear r10 s10 t10 HV9
    have hbw10 : Below w8.heap.size w8 w10 := bel_on (show Below w8.heap.size w8 _ by (repeat' (first | with_reducible exact Below.refl _ _ | with_reducible assumption | with_reducible refine bel_alloc ?_ _ | with_reducible refine bel_set ?_ ?_ _ | with_reducible refine below_drewN ?_ _ | with_reducible refine below_drew ?_ | (simp; done) | (simp; omega) | omega))) hbn
    clear hbn
    go_wp2_with fail
    refine hK.out _ _ ?_ (fun hHeld => ?_)
    · (try dsimp only)
      exact hbw10
    clear hK K
    (try simp only [Act.put, List.setIfInBounds_toArray, List.set_cons_zero, List.set_cons_succ])
    refine wpAnyH_take (i := 6) (oi := ⟨some 57, _, _, _, _, _⟩) (v := ?_) rfl (by kernel_rfl) (by kernel_rfl) (by kernel_rfl) (fun _ _ _ h => h) (Or.inl ⟨by rfl, ?_⟩) hHeld ?_
    rotate_left
    · intro ww hSw
      (try dsimp only at hSw)
      go_simp
      (try with_reducible rfl)
    simp only [Act.put, List.setIfInBounds_toArray, List.set_cons_zero, List.set_cons_succ]
    refine wpAnyH_take (i := 7) (oi := ⟨some 64, _, _, _, _, _⟩) (v := ?_) rfl (by kernel_rfl) (by kernel_rfl) (by kernel_rfl) (fun _ _ _ h => h) (Or.inl ⟨by rfl, ?_⟩) hHeld ?_
    rotate_left
    · intro ww hSw
      (try dsimp only at hSw)
      go_simp
      (try with_reducible rfl)
    simp only [Act.put, List.setIfInBounds_toArray, List.set_cons_zero, List.set_cons_succ]
    refine wpAnyH_take (i := 8) (oi := ⟨some 65, _, _, _, _, _⟩) (v := ?_) rfl (by kernel_rfl) (by kernel_rfl) (by kernel_rfl) (fun _ _ _ h => h) (Or.inl ⟨by rfl, ?_⟩) hHeld ?_
    rotate_left
    · intro ww hSw
      (try dsimp only at hSw)
      go_simp
      (try with_reducible rfl)
    simp only [Act.put, List.setIfInBounds_toArray, List.set_cons_zero, List.set_cons_succ]
    refine wpAnyH_take (i := 9) (oi := ⟨some 66, _, _, _, _, _⟩) (v := ?_) rfl (by kernel_rfl) (by kernel_rfl) (by kernel_rfl) (fun _ _ _ h => h) (Or.inl ⟨by rfl, ?_⟩) hHeld ?_
    rotate_left
    · intro ww hSw
      (try dsimp only at hSw)
      go_simp
      (try with_reducible rfl)
    simp only [Act.put, List.setIfInBounds_toArray, List.set_cons_zero, List.set_cons_succ]
    refine wpAnyH_take (i := 10) (oi := ⟨some 18, _, _, _, _, _⟩) (v := ?_) rfl (by kernel_rfl) (by kernel_rfl) (by kernel_rfl) (fun _ _ _ h => h) (Or.inl ⟨by rfl, ?_⟩) hHeld ?_
    rotate_left
    · intro ww hSw
      (try dsimp only at hSw)
      go_simp
      (try with_reducible rfl)
    simp only [Act.put, List.setIfInBounds_toArray, List.set_cons_zero, List.set_cons_succ]
    refine wpAnyH_take (i := 11) (oi := ⟨some 19, _, _, _, _, _⟩) (v := ?_) rfl (by kernel_rfl) (by kernel_rfl) (by kernel_rfl) (fun _ _ _ h => h) (Or.inl ⟨by rfl, ?_⟩) hHeld ?_
    rotate_left
    · intro ww hSw
      (try dsimp only at hSw)
      go_simp
      (try with_reducible rfl)
    simp only [Act.put, List.setIfInBounds_toArray, List.set_cons_zero, List.set_cons_succ]
    refine wpAnyH_take (i := 12) (oi := ⟨some 20, _, _, _, _, _⟩) (v := ?_) rfl (by kernel_rfl) (by kernel_rfl) (by kernel_rfl) (fun _ _ _ h => h) (Or.inl ⟨by rfl, ?_⟩) hHeld ?_
    rotate_left
    · intro ww hSw
      (try dsimp only at hSw)
      go_simp
      (try with_reducible rfl)
    simp only [Act.put, List.setIfInBounds_toArray, List.set_cons_zero, List.set_cons_succ]
    refine wpAnyH_done (by kernel_rfl) ?_ _
    refine NoPanic.normal ?_
    have HE10 := Lib.hid (bel_on HN8.out.b hbw10)
    have HT10 := Lib.hid (HT8.out.below hbw10)
    have HA10 := Lib.hid (HA9.out.below hbw10)
    have HB10 := Lib.hid (HB9.out.below hbw10)
    have HC10 := Lib.hid (HC9.out.below hbw10)
    have HU10 := Lib.hid (HA8.out.below hbw10)
    have HV10 := Lib.hid (HB8.out.below hbw10)
    have HW10 := Lib.hid (HC8.out.below hbw10)
    have CA1 := Lib.hid (fun W (hD : Spans W A6 LA) (hT : Spans W (some ⟨w2.heap.size, 0, none⟩) [(0, X)]) => CA0.out W A6 c6 (some ⟨w2.heap.size, 0, none⟩) 1 hD hT)
    have CB1 := Lib.hid (fun W (hD : Spans W B6 LB) (hT : Spans W (some ⟨w2.heap.size, 0, none⟩) [(0, X)]) => CB0.out W B6 d6 (some ⟨w2.heap.size, 0, none⟩) 1 hD hT)
    have CC1 := Lib.hid (fun W (hD : Spans W E6 LC) (hT : Spans W (some ⟨w2.heap.size, 0, none⟩) [(0, X)]) => CC0.out W E6 f6 (some ⟨w2.heap.size, 0, none⟩) 1 hD hT)
    clear HN8 HT8 HA9 HB9 HC9 HA8 HB8 HC8 hbw9 hbw10 CAT C3 CA0 CB0 CC0
    go_wp2_with fail
    refine (same_any A6 A8 c6 c8 LA _ HA10.out HU10.out (by omega)).mono ?_
    rintro e w11 ⟨rfl, b11⟩
    have HE11 := Lib.hid (bel_on HE10.out b11)
    have HA11 := Lib.hid (HA10.out.below b11)
    have HB11 := Lib.hid (HB10.out.below b11)
    have HC11 := Lib.hid (HC10.out.below b11)
    have HV11 := Lib.hid (HV10.out.below b11)
    have HW11 := Lib.hid (HW10.out.below b11)
    have HP11 := Lib.hid (HP10.out.below b11)
    have HQ11 := Lib.hid (HQ10.out.below b11)
    have HR11 := Lib.hid (HR10.out.below b11)
    have HT11 := Lib.hid (HT10.out.below b11)
    clear b11 HE10 HA10 HB10 HC10 HU10 HV10 HW10 HP10 HQ10 HR10 HT10
    go_wp2_with fail
    refine (same_any B6 B8 d6 d8 LB _ HB11.out HV11.out (by omega)).mono ?_
    rintro e w12 ⟨rfl, b12⟩
    have HE12 := Lib.hid (bel_on HE11.out b12)
    have HA12 := Lib.hid (HA11.out.below b12)
    have HB12 := Lib.hid (HB11.out.below b12)
    have HC12 := Lib.hid (HC11.out.below b12)
    have HW12 := Lib.hid (HW11.out.below b12)
    have HP12 := Lib.hid (HP11.out.below b12)
    have HQ12 := Lib.hid (HQ11.out.below b12)
    have HR12 := Lib.hid (HR11.out.below b12)
    have HT12 := Lib.hid (HT11.out.below b12)
    clear b12 HE11 HA11 HB11 HC11 HV11 HW11 HP11 HQ11 HR11 HT11
    go_wp2_with fail
    refine (same_any E6 E8 f6 f8 LC _ HC12.out HW12.out (by omega)).mono ?_
    rintro e w13 ⟨rfl, b13⟩
    have HE13 := Lib.hid (bel_on HE12.out b13)
    have HA13 := Lib.hid (HA12.out.below b13)
    have HB13 := Lib.hid (HB12.out.below b13)
    have HC13 := Lib.hid (HC12.out.below b13)
    have HP13 := Lib.hid (HP12.out.below b13)
    have HQ13 := Lib.hid (HQ12.out.below b13)
    have HR13 := Lib.hid (HR12.out.below b13)
    have HT13 := Lib.hid (HT12.out.below b13)
    clear b13 HE12 HA12 HB12 HC12 HW12 HP12 HQ12 HR12 HT12
    go_wp2_with fail
    refine (CA1.out _ HA13.out HT13.out).mono ?_
    rintro e w14 ⟨AN14, cN14, rfl, rN14, b14⟩
    have HX14 := Lib.hid (rN14.spans FKA.out)
    clear rN14
    have HE14 := Lib.hid (bel_on HE13.out b14)
    have HA14 := Lib.hid (HA13.out.below b14)
    have HB14 := Lib.hid (HB13.out.below b14)
    have HC14 := Lib.hid (HC13.out.below b14)
    have HP14 := Lib.hid (HP13.out.below b14)
    have HQ14 := Lib.hid (HQ13.out.below b14)
    have HR14 := Lib.hid (HR13.out.below b14)
    have HT14 := Lib.hid (HT13.out.below b14)
    clear b14 HE13 HA13 HB13 HC13 HP13 HQ13 HR13 HT13
    go_wp2_with fail
    refine (same_any A10 AN14 c10 cN14 KA _ HP14.out HX14.out (by omega)).mono ?_
    rintro e w15 ⟨rfl, b15⟩
    have HE15 := Lib.hid (bel_on HE14.out b15)
    have HB15 := Lib.hid (HB14.out.below b15)
    have HC15 := Lib.hid (HC14.out.below b15)
    have HQ15 := Lib.hid (HQ14.out.below b15)
    have HR15 := Lib.hid (HR14.out.below b15)
    have HT15 := Lib.hid (HT14.out.below b15)
    clear b15 HE14 HA14 HB14 HC14 HP14 HQ14 HR14 HT14 HX14
    go_wp2_with fail
    refine (CB1.out _ HB15.out HT15.out).mono ?_
    rintro e w16 ⟨AN16, cN16, rfl, rN16, b16⟩
    have HX16 := Lib.hid (rN16.spans FKB.out)
    clear rN16
    have HE16 := Lib.hid (bel_on HE15.out b16)
    have HB16 := Lib.hid (HB15.out.below b16)
    have HC16 := Lib.hid (HC15.out.below b16)
    have HQ16 := Lib.hid (HQ15.out.below b16)
    have HR16 := Lib.hid (HR15.out.below b16)
    have HT16 := Lib.hid (HT15.out.below b16)
    clear b16 HE15 HB15 HC15 HQ15 HR15 HT15
    go_wp2_with fail
    refine (same_any B10 AN16 d10 cN16 KB _ HQ16.out HX16.out (by omega)).mono ?_
    rintro e w17 ⟨rfl, b17⟩
    have HE17 := Lib.hid (bel_on HE16.out b17)
    have HC17 := Lib.hid (HC16.out.below b17)
    have HR17 := Lib.hid (HR16.out.below b17)
    have HT17 := Lib.hid (HT16.out.below b17)
    clear b17 HE16 HB16 HC16 HQ16 HR16 HT16 HX16
    go_wp2_with fail
    refine (CC1.out _ HC17.out HT17.out).mono ?_
    rintro e w18 ⟨AN18, cN18, rfl, rN18, b18⟩
    have HX18 := Lib.hid (rN18.spans FKC.out)
    clear rN18
    have HE18 := Lib.hid (bel_on HE17.out b18)
    have HC18 := Lib.hid (HC17.out.below b18)
    have HR18 := Lib.hid (HR17.out.below b18)
    have HT18 := Lib.hid (HT17.out.below b18)
    clear b18 HE17 HC17 HR17 HT17
    go_wp2_with fail
    refine (same_any E10 AN18 f10 cN18 KC _ HR18.out HX18.out (by omega)).mono ?_
    rintro e w19 ⟨rfl, b19⟩
    have HE19 := Lib.hid (bel_on HE18.out b19)
    clear b19 HE18 HC18 HR18 HT18 HX18
    go_wp2
    go_ret
    exact ⟨rfl, HE19.out⟩
theorem overWeeks_walk (s : SetP) (A1 A2 A3 A4 A5 A6 : Option Addr) (c1 c2 c3 c4 c5 c6 : Nat) (a1 : Option Addr) (len1 cap1 : Nat) (z1 : List (Int × Int)) (wk : Int) (ct : Int) (w : World) (hs : SetAt w s A1 A2 A3 A4 A5 A6 c1 c2 c3 c4 c5 c6) (hf : s.Fit)
   (l1 : z1.length = len1) (l1' : len1 ≤ 9223372036854775807) (s1 : Spans w a1 z1) (n1 : a1 = none → cap1 = 0) (wk0 : 0 ≤ wk) (wk1 : wk ≤ 255) (ct0 : 0 ≤ ct) (ct1 : ct ≤ 4294967295) :
    Calls Try.prog 5 #[setV s A1 A2 A3 A4 A5 A6 c1 c2 c3 c4 c5 c6, .slice a1 len1 cap1, .int .u8 wk, .int .u32 ct] w fun e w' => e = .returned (.bool true) ∧ Below w.heap.size w w' := by
  obtain ⟨cs, hcs⟩ : ∃ cs, setV s A1 A2 A3 A4 A5 A6 c1 c2 c3 c4 c5 c6 = .agg cs := ⟨_, rfl⟩
  rw [hcs]
  subst l1
  exact overWeeks_main s cs w ⟨A1, A2, A3, A4, A5, A6, c1, c2, c3, c4, c5, c6, hcs, hs⟩ hf a1 cap1 z1 s1 l1' wk ct wk0 wk1 ct0 ct1
end Go.Proofs.Ythdolmhnjinlhaa
