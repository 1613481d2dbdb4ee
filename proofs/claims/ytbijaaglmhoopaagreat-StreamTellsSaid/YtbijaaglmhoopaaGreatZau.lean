/-
  The document's own answer of layer 12: Of.
  What layer 12's laws are walked by: a setup's facts; few.
-/
import Derived.Test.YtbijaaglmhoopaaGreatZat
import Derived.Deep.RegionHeld3
import Derived.Test.YtbijaaglmhoopaaGreatZah
import Derived.Test.YtbijaaglmhoopaaGreatZag
namespace Go.Proofs.YtbijaaglmhoopaaGreat
open Go.RowKit
set_option linter.unusedVariables false
set_option linter.unusedSimpArgs false
set_option maxRecDepth 20000

set_option maxHeartbeats 16000000 in
theorem rstream_any (s : SetP) (cs : Array Value) (w : World) (hC : SetC w s cs) (hf : s.Fit) (hS : SetS cs s.places s.elements.length s.classes.length s.gears.length s.rates.length) (h8 : cs[8]? = some (.int .i64 s.unit)) (h9 : cs[9]? = some (.int .i64 s.cap))
    (A : Option Addr) (n c : Nat) (l : List EvP) (h : Evs w A n c l) (hn : n ≤ 1000) (hIn : ∀ e ∈ l, e.In) (wk : Int) :
    Calls Tryz.prog 7 #[.agg cs, .slice A n c, .int .i64 wk] w (GivesT w (segsOf s wk l) (flagsOf s wk l)) := by
  have HZ := Lib.hid hS.size
  have hb0 := bel_alloc (Below.refl w.heap.size w) (.cells cs 30)
  have HB0 := Lib.hid (Has.new w 30 cs rfl)
  have HCC := Lib.hid (hC.below hb0)
  have HE0 := Lib.hid (h.below hb0)
  have hln := h.2
  unfold segsOf flagsOf
  cases hq : checkB s with
  | false =>
    have HCK := Lib.hid (rsetcheck_c HCC.out hf false hq)
    rw [if_neg (by simp), if_neg (by simp)]
    clear hq h hIn hC hf
    go_enter Tryz.func7, Tryz.ntmps7
    go_wp2_with (refine wpList_exec (o := ⟨some 16, _, _, _, _, _⟩) (by rfl) (exec_load_st _ rfl rfl HB0.out HZ.out) ?_)
    refine HCK.out.mono ?_
    rintro e w1 ⟨rfl, b1⟩
    have HB := Lib.hid (bel_on hb0 b1)
    clear b1 hb0
    go_wp2
    refine bodyPost_ret (v := .tuple #[.slice none 0 0, .slice none 0 0]) (by simp [results, Tryz.results7, go_sem]) rfl ⟨none, 0, none, 0, rfl, TRow.nil _ _, TRow.nil _ _, (fun g e h _ => by cases h), HB.out⟩
  | true =>
    rw [if_pos rfl, if_pos rfl]
    have hM := check_iff.1 hq
    have HCK := Lib.hid (rsetcheck_c HCC.out hf true hq)
    obtain ⟨L, hL⟩ : ∃ L, wevs (mayE s.places s.elements.length s.classes.length s.gears.length s.rates.length) wk l = L := ⟨_, rfl⟩
    obtain ⟨N, hN⟩ : ∃ N, L.length = N := ⟨_, rfl⟩
    have hNn : N ≤ n := by rw [← hN, ← hL, ← hln]; exact wevs_len _ _ _
    have HOK : Hid (∀ x ∈ L, 0 ≤ x.tm ∧ x.tm ≤ 31449599) := fun x hx => (wevs_ok (pl := s.places) (nE := s.elements.length) (nC := s.classes.length) (nG := s.gears.length) (nR := s.rates.length) (wk := wk) (l := l) x (by rw [hL]; exact hx)).2.2.2
    have HEV := Lib.hid (fun W (hE : Evs W A n c l) => revents_any cs s.places s.elements.length s.classes.length s.gears.length s.rates.length hS A n c l wk W hE hn hIn L hL N hN)
    have hu := hM.unit
    have hc := hM.cap
    have H8 := Lib.hid h8
    have H9 := Lib.hid h9
    have e0 : itemsOf s wk l = itemsS s.cap none L := by unfold itemsOf; rw [hL]
    rw [e0]
    obtain ⟨SG, hSG⟩ : ∃ SG, segsS (fun t => roundP t s.unit) (itemsS s.cap none L) = SG := ⟨_, rfl⟩
    obtain ⟨FG, hFG⟩ : ∃ FG, flagsS (itemsS s.cap none L) = FG := ⟨_, rfl⟩
    have hSl : SG.length ≤ 1000 := by have := segs_len (fun t => roundP t s.unit) (cap := s.cap) L none; rw [hSG] at this; simp [stN] at this; omega
    have hFl : FG.length ≤ 1000 := by have := flags_len (cap := s.cap) L none; rw [hFG] at this; simp [openN] at this; omega
    rw [hSG, hFG]
    have HSG := Lib.hid hSG
    have HFG := Lib.hid hFG
    have HNN := Lib.hid hN
    clear hq hM h hIn hC hf hL hSG hFG e0 h8 h9 hln hN
    go_enter Tryz.func7, Tryz.ntmps7
    go_wp2_with (refine wpList_exec (o := ⟨some 16, _, _, _, _, _⟩) (by rfl) (exec_load_st _ rfl rfl HB0.out HZ.out) ?_)
    refine HCK.out.mono ?_
    rintro e w0 ⟨rfl, b1⟩
    have HB := Lib.hid (bel_on hb0 b1)
    have HG0 := Lib.hid (HB0.out.below b1)
    have HE1 := Lib.hid (HE0.out.below b1)
    clear b1 hb0 HB0 HE0 HCC HCK
    go_wp2_with (refine wpList_exec (o := ⟨some 20, _, _, _, _, _⟩) (by rfl) (exec_load_st _ rfl rfl HG0.out HZ.out) ?_)
    refine (HEV.out _ HE1.out).mono ?_
    rintro e w1 ⟨A9, c9, rfl, r9, b9⟩
    have hcap := erow_caps r9
    have HL1 := Lib.hid (ERow.evs r9 HNN.out)
    have HG1 := Lib.hid (HG0.out.below b9)
    have HB1 := Lib.hid (bel_on HB.out b9)
    clear b9 r9 HB HG0 HE1 HEV
    go_wp2
    go_loopw [10, 11, 12] (fun os of_ i wr => ∃ (j : Nat) (A : Option Addr) (p c : Nat) (B : Option Addr) (q d : Nat) (S : List SegP) (F : List FlagP), j ≤ N ∧ i = .int .i64 j ∧ os = .slice A p c ∧ of_ = .slice B q d ∧ Hid (S.length = p) ∧ Hid (F.length = q) ∧
      Hid (S ++ segsS (fun t => roundP t s.unit) (itemsS s.cap none (L.drop j)) = SG) ∧ Hid (F ++ flagsS (itemsS s.cap none (L.drop j)) = FG) ∧ Hid (STwo w1 wr A p c S B q d F)) (fun _ _ i _ => N - (intOf i).toNat)
    case atStart => exact ⟨0, none, 0, 0, none, 0, 0, [], [], Nat.zero_le _, rfl, rfl, rfl, rfl, rfl, HSG, HFG, STwo.start _⟩
    case round =>
      obtain ⟨j, A2, p, c2, B, q, d, S, F, hj, rfl, rfl, rfl, HSL, HFL, HS, HF, HT⟩ := hrel
      have hp : p ≤ 1000 := by have := congrArg List.length HS.out; rw [List.length_append, HSL.out] at this; omega
      have hq : q ≤ 1000 := by have := congrArg List.length HF.out; rw [List.length_append, HFL.out] at this; omega
      by_cases hlt : j < N
      · have hjl : j < L.length := by rw [HNN.out]; exact hlt
        have HLr := Lib.hid (HL1.out.below HT.out.bel)
        have HGr := Lib.hid (HG1.out.below HT.out.bel)
        obtain ⟨ba, oa, rfl⟩ := HLr.out.form (by omega)
        obtain ⟨x, hx⟩ : ∃ x, L.getD j EvP.none = x := ⟨_, rfl⟩
        have HDR := Lib.hid (drop_get hjl)
        rw [hx] at HDR
        obtain ⟨z0, -, z2, z3, -⟩ := evs_num HLr.out hlt x hx
        have hz := cell_lt z0
        have hxt := HOK.out x (by rw [← hx]; simp [List.getD, hjl])
        have i0 : (0 : Int) ≤ (j : Int) := by omega
        have i1 : (j : Int) < (N : Int) := by omega
        by_cases k1 : x.kd = 1
        · have k1' : (x.kd != 1) = false := by simp [k1]
          obtain ⟨kk, tz, fl, hE⟩ : ∃ kk tz fl, endP (x.tm + s.cap) (L.drop (j + 1)) = (kk, tz, fl) := ⟨_, _, _, rfl⟩
          have hbd := endP_bd (top := x.tm + s.cap) (L.drop (j + 1))
          rw [hE, List.length_drop, HNN.out] at hbd
          simp only at hbd
          obtain ⟨e1, e2, e3⟩ := hbd
          obtain ⟨p0, hp0⟩ : ∃ p0, j + 1 + kk = p0 := ⟨_, rfl⟩
          have HP0 := Lib.hid hp0
          have HKB : Hid (p0 ≤ N ∧ (fl = 0 → p0 < N)) := ⟨by omega, fun h => by have := e2 h; omega⟩
          have HIT0 := items_first s.cap x (L.drop (j + 1)) kk tz fl hE k1
          rw [← HDR.out] at HIT0
          have CE := Lib.hid (fun W (hEv : Evs W (some ⟨ba, oa, none⟩) N c9 L) => rend_any cs HZ.out s.cap H9.out (some ⟨ba, oa, none⟩) N c9 L W hEv j hlt x hx HOK.out (by omega) (by omega) kk tz fl hE p0 hp0)
          obtain ⟨PT, hPT⟩ : ∃ PT, partsG (roundP x.tm s.unit) (roundP tz s.unit) (roundP x.tm s.unit) x ((L.drop (j + 1)).take kk) = PT := ⟨_, rfl⟩
          obtain ⟨pm, hpm⟩ : ∃ pm, PT.length = pm := ⟨_, rfl⟩
          have hpml : pm ≤ 1001 := by
            have := sparts_len (first := roundP x.tm s.unit) (last := roundP tz s.unit) ((L.drop (j + 1)).take kk) (roundP x.tm s.unit) x
            rw [hPT, hpm, List.length_take, List.length_drop] at this
            omega
          obtain ⟨p9, hp9⟩ : ∃ p9, p + pm = p9 := ⟨_, rfl⟩
          have HP9 := Lib.hid hp9
          have HPM := Lib.hid hpm
          obtain ⟨A70, hr70, he70⟩ := evcut_mid HL1.out hcap.1 j p0 (by omega) (by omega)
          have s1 : p0 - j = 1 + kk := by omega
          have s2 : (L.drop j).take (1 + kk) = x :: (L.drop (j + 1)).take kk := by rw [HDR.out, Nat.add_comm, List.take_succ_cons]
          rw [s1] at hr70 he70
          rw [s2] at he70
          obtain ⟨c70, hc70⟩ : ∃ c70, c9 - j = c70 := ⟨_, rfl⟩
          rw [hc70] at hr70 he70
          have HC70 := Lib.hid hr70
          have HE70 : Hid (∀ ww, Below w1.heap.size w1 ww → Evs ww A70 (1 + kk) c70 (x :: (L.drop (j + 1)).take kk)) := fun ww hb => he70.below hb
          have HPT := Lib.hid (fun W (hEv : Evs W A70 (1 + kk) c70 (x :: (L.drop (j + 1)).take kk)) => rparts_any cs HZ.out s.unit H8.out (by omega) A70 (1 + kk) c70 x ((L.drop (j + 1)).take kk) W hEv (by omega) tz PT hPT pm hpm)
          have HIT : Hid (itemsS s.cap none (L.drop j) = .sess x ((L.drop (j + 1)).take kk) tz fl :: itemsS s.cap none (L.drop (if fl = 0 then p0 + 1 else p0))) := by
            show _ = _
            rw [HIT0, List.drop_drop]
            congr 2
            by_cases hz0 : fl = 0
            · rw [if_pos hz0, if_pos hz0]; congr 1; omega
            · rw [if_neg hz0, if_neg hz0]; congr 1
          have HPTE : Hid (segsI (fun t => roundP t s.unit) (.sess x ((L.drop (j + 1)).take kk) tz fl) = PT) := hPT
          have hp0N : p0 ≤ N := HKB.out.1
          have HXX := Lib.hid hx
          clear hE hp0 HIT0 hPT hpm hp9 hr70 he70 s1 s2 hc70 hx HDR e1 e2
          rcases e3 with rfl | rfl | rfl
          · have HIT2 : Hid (itemsS s.cap none (L.drop j) = .sess x ((L.drop (j + 1)).take kk) tz 0 :: itemsS s.cap none (L.drop (p0 + 1))) := HIT
            clear HIT
            have HIT := HIT2
            clear HIT2
            go_wp2_with (refine wpList_exec (o := ⟨some 46, _, _, _, _, _⟩) (by rfl) (exec_load_st _ rfl rfl HGr.out HZ.out) ?_)
            refine (CE.out _ HLr.out).mono ?_
            rintro e w3 ⟨rfl, b3⟩
            have HT3 := Lib.hid (HT.out.below b3)
            clear b3 CE z0 z2 z3 hz HT
            have HL3 := Lib.hid (HL1.out.below HT3.out.bel)
            obtain ⟨z0, -, z2, z3, -⟩ := evs_num HL3.out hlt x HXX.out
            have hz := cell_lt z0
            have HW := HT3
            have HFL2 : Hid (F.length = q) := HFL
            have hbw := HW.out.bel
            go_upto_region 15 with fail
            refine wp_region_noPanic ?_
            refine wp_region_held_drew (S := fun w' => Below w1.heap.size w1 w') (by kernel_rfl) (below_drew (hbw)) (fun hHeld => ?_)
            refine wpAnyH_take (i := 0) (oi := ⟨some 65, _, _, _, _, _⟩) (v := ?_) rfl (by kernel_rfl) (by kernel_rfl) (by kernel_rfl) (fun _ _ _ h => h) (Or.inl ⟨by rfl, ?_⟩) hHeld ?_
            rotate_left
            · intro ww hSw
              (try dsimp only at hSw)
              go_simp
              (try with_reducible rfl)
            simp only [Act.put, List.setIfInBounds_toArray, List.set_cons_zero, List.set_cons_succ]
            refine wpAnyH_take (i := 1) (oi := ⟨some 66, _, _, _, _, _⟩) (v := .agg cs) rfl (by kernel_rfl) (by kernel_rfl) (by kernel_rfl) (fun _ _ _ h => h) (Or.inl ⟨by rfl, ?_⟩) hHeld ?_
            · intro ww hSw
              (try dsimp only at hSw)
              exact exec_load_st _ rfl rfl (HG1.out.below hSw) HZ.out
            simp only [Act.put, List.setIfInBounds_toArray, List.set_cons_zero, List.set_cons_succ]
            refine wpAnyH_take (i := 2) (oi := ⟨some 67, _, _, _, _, _⟩) (v := ?_) rfl (by kernel_rfl) (by kernel_rfl) (by kernel_rfl) (fun _ _ _ h => h) (Or.inl ⟨by rfl, ?_⟩) hHeld ?_
            rotate_left
            · intro ww hSw
              (try dsimp only at hSw)
              go_simp
              (try with_reducible rfl)
            simp only [Act.put, List.setIfInBounds_toArray, List.set_cons_zero, List.set_cons_succ]
            refine wpAnyH_take (i := 3) (oi := ⟨some 68, _, _, _, _, _⟩) (v := ?_) rfl (by kernel_rfl) (by kernel_rfl) (by kernel_rfl) (fun _ _ _ h => h) (Or.inl ⟨by rfl, ?_⟩) hHeld ?_
            rotate_left
            · intro ww hSw
              (try dsimp only at hSw)
              go_simp
              (try with_reducible rfl)
            simp only [Act.put, List.setIfInBounds_toArray, List.set_cons_zero, List.set_cons_succ]
            refine wpAnyH_take (i := 4) (oi := ⟨some 69, _, _, _, _, _⟩) (v := ?_) rfl (by kernel_rfl) (by kernel_rfl) (by kernel_rfl) (fun _ _ _ h => h) (Or.inl ⟨by rfl, ?_⟩) hHeld ?_
            rotate_left
            · intro ww hSw
              (try dsimp only at hSw)
              go_simp
              (try with_reducible rfl)
            simp only [Act.put, List.setIfInBounds_toArray, List.set_cons_zero, List.set_cons_succ]
            refine wpAnyH_take (i := 5) (oi := ⟨some 70, _, _, _, _, _⟩) (v := .slice A70 (1 + kk) c70) rfl (by kernel_rfl) (by kernel_rfl) (by kernel_rfl) (fun _ _ _ h => h) (Or.inl ⟨by rfl, ?_⟩) hHeld ?_
            · intro ww hSw
              (try dsimp only at hSw)
              exact exec_slice_run HC70.out rfl rfl rfl rfl rfl
            simp only [Act.put, List.setIfInBounds_toArray, List.set_cons_zero, List.set_cons_succ]
            refine wpAnyH_take (i := 6) (oi := ⟨some 71, _, _, _, _, _⟩) (v := ?_) rfl (by kernel_rfl) (by kernel_rfl) (by kernel_rfl) (fun _ _ _ h => h) (Or.inl ⟨by rfl, ?_⟩) hHeld ?_
            rotate_left
            · intro ww hSw
              (try dsimp only at hSw)
              go_simp
              (try with_reducible rfl)
            simp only [Act.put, List.setIfInBounds_toArray, List.set_cons_zero, List.set_cons_succ]
            refine wpAnyH_ready (rs := [7]) (by kernel_rfl) (by simp) ?_
            refine AllReadyH.cons (o := ⟨some 72, _, _, _, _, _⟩) rfl (fun K hK => ?_) AllReadyH.nil
            go_simp
            go_at_call 24
            refine (HPT.out _ (HE70.out _ (below_drew hbw))).mono ?_
            rintro e_r w6 ⟨A72, c72, rfl, r72, hbn⟩
            have HK6 := Lib.hid hbn
            have hbw6 : Below w1.heap.size w1 w6 := bel_on (show Below w1.heap.size w1 _ by (repeat' (first | with_reducible exact Below.refl _ _ | with_reducible assumption | with_reducible refine bel_alloc ?_ _ | with_reducible refine bel_set ?_ ?_ _ | with_reducible refine below_drewN ?_ _ | with_reducible refine below_drew ?_ | (simp; done) | (simp; omega) | omega))) hbn
            clear hbn
            go_wp2_with fail
            refine hK.out _ _ ?_ (fun hHeld => ?_)
            · (try dsimp only)
              exact hbw6
            clear hK K
            (try simp only [Act.put, List.setIfInBounds_toArray, List.set_cons_zero, List.set_cons_succ])
            have HT6 := Lib.hid ((HW.out.drew).below HK6.out)
            obtain ⟨A9, c9, w9, hr9, ht9⟩ := HT6.out.segs (sl_rows r72) (show p + pm ≤ 100000 by omega) (q := p9) HP9.out
            have HR9 := Lib.hid hr9
            have HT9 := Lib.hid ht9
            clear hr9 ht9 r72
            refine wpAnyH_ready (rs := [8]) (by kernel_rfl) (by simp) ?_
            refine AllReadyH.cons (o := ⟨some 73, _, _, _, _, _⟩) rfl (fun K hK => ?_) AllReadyH.nil
            rw [if_pos (by rfl)]
            refine wp_append_run8 HR9.out rfl rfl rfl ?_
            refine hK.out _ _ ?_ (fun hHeld => ?_)
            · (try dsimp only)
              exact HT9.out.bel
            clear hK K
            (try simp only [Act.put, List.setIfInBounds_toArray, List.set_cons_zero, List.set_cons_succ])
            refine wpAnyH_take (i := 9) (oi := ⟨some 10, _, _, _, _, _⟩) (v := ?_) rfl (by kernel_rfl) (by kernel_rfl) (by kernel_rfl) (fun _ _ _ h => h) (Or.inl ⟨by rfl, ?_⟩) hHeld ?_
            rotate_left
            · intro ww hSw
              (try dsimp only at hSw)
              go_simp
              (try with_reducible rfl)
            simp only [Act.put, List.setIfInBounds_toArray, List.set_cons_zero, List.set_cons_succ]
            refine wpAnyH_done (by kernel_rfl) ?_ _
            refine NoPanic.normal ?_
            have HSE : Hid ((S ++ PT) ++ segsS (fun t => roundP t s.unit) (itemsS s.cap none (L.drop (p0 + 1))) = SG) := by
              show _ = _
              rw [← HS.out, HIT.out, segsS_cons, HPTE.out, List.append_assoc]
            have HFE : Hid ((F) ++ flagsS (itemsS s.cap none (L.drop (p0 + 1))) = FG) := by
              show _ = _
              rw [← HF.out, HIT.out, flagsS_cons]
              simp [flagsI]
            have HSL2 : Hid ((S ++ PT).length = p9) := by show _ = _; rw [List.length_append, HSL.out, HPM.out]; exact HP9.out
            have hp0 := HP0.out
            clear HS HF
            go_wp2
            go_roundw
            case rel => exact ⟨p0 + 1, A9, p9, c9, B, q, d, S ++ PT, F, by have := HKB.out; simp at this; omega, by go_num, rfl, rfl, HSL2, HFL2, HSE, HFE, HT9⟩
            case measure => simp [intOf]; omega
          · have HIT2 : Hid (itemsS s.cap none (L.drop j) = .sess x ((L.drop (j + 1)).take kk) tz 1 :: itemsS s.cap none (L.drop (p0))) := HIT
            clear HIT
            have HIT := HIT2
            clear HIT2
            go_wp2_with (refine wpList_exec (o := ⟨some 46, _, _, _, _, _⟩) (by rfl) (exec_load_st _ rfl rfl HGr.out HZ.out) ?_)
            refine (CE.out _ HLr.out).mono ?_
            rintro e w3 ⟨rfl, b3⟩
            have HT3 := Lib.hid (HT.out.below b3)
            clear b3 CE z0 z2 z3 hz HT
            have HL3 := Lib.hid (HL1.out.below HT3.out.bel)
            obtain ⟨z0, -, z2, z3, -⟩ := evs_num HL3.out hlt x HXX.out
            have hz := cell_lt z0
            obtain ⟨B2, d2, w4, hr2, ht2⟩ := HT3.out.flag ⟨x.id, 1⟩ (by omega) (s := w3.heap.size) rfl
            have HR2 := Lib.hid hr2
            have HW := Lib.hid ht2
            have HFL2 : Hid ((F ++ [(⟨x.id, 1⟩ : FlagP)]).length = q + 1) := by show _ = _; rw [List.length_append, HFL.out]; rfl
            clear hr2 ht2
            have hbw := HW.out.bel
            go_upto_region 15 with (at_builtin; refine wpList_append_run (o := ⟨some 64, _, _, _, _, _⟩) HR2.out rfl rfl rfl rfl ?_)
            refine wp_region_noPanic ?_
            refine wp_region_held_drew (S := fun w' => Below w1.heap.size w1 w') (by kernel_rfl) (below_drew (hbw)) (fun hHeld => ?_)
            refine wpAnyH_take (i := 0) (oi := ⟨some 65, _, _, _, _, _⟩) (v := ?_) rfl (by kernel_rfl) (by kernel_rfl) (by kernel_rfl) (fun _ _ _ h => h) (Or.inl ⟨by rfl, ?_⟩) hHeld ?_
            rotate_left
            · intro ww hSw
              (try dsimp only at hSw)
              go_simp
              (try with_reducible rfl)
            simp only [Act.put, List.setIfInBounds_toArray, List.set_cons_zero, List.set_cons_succ]
            refine wpAnyH_take (i := 1) (oi := ⟨some 66, _, _, _, _, _⟩) (v := .agg cs) rfl (by kernel_rfl) (by kernel_rfl) (by kernel_rfl) (fun _ _ _ h => h) (Or.inl ⟨by rfl, ?_⟩) hHeld ?_
            · intro ww hSw
              (try dsimp only at hSw)
              exact exec_load_st _ rfl rfl (HG1.out.below hSw) HZ.out
            simp only [Act.put, List.setIfInBounds_toArray, List.set_cons_zero, List.set_cons_succ]
            refine wpAnyH_take (i := 2) (oi := ⟨some 67, _, _, _, _, _⟩) (v := ?_) rfl (by kernel_rfl) (by kernel_rfl) (by kernel_rfl) (fun _ _ _ h => h) (Or.inl ⟨by rfl, ?_⟩) hHeld ?_
            rotate_left
            · intro ww hSw
              (try dsimp only at hSw)
              go_simp
              (try with_reducible rfl)
            simp only [Act.put, List.setIfInBounds_toArray, List.set_cons_zero, List.set_cons_succ]
            refine wpAnyH_take (i := 3) (oi := ⟨some 68, _, _, _, _, _⟩) (v := ?_) rfl (by kernel_rfl) (by kernel_rfl) (by kernel_rfl) (fun _ _ _ h => h) (Or.inl ⟨by rfl, ?_⟩) hHeld ?_
            rotate_left
            · intro ww hSw
              (try dsimp only at hSw)
              go_simp
              (try with_reducible rfl)
            simp only [Act.put, List.setIfInBounds_toArray, List.set_cons_zero, List.set_cons_succ]
            refine wpAnyH_take (i := 4) (oi := ⟨some 69, _, _, _, _, _⟩) (v := ?_) rfl (by kernel_rfl) (by kernel_rfl) (by kernel_rfl) (fun _ _ _ h => h) (Or.inl ⟨by rfl, ?_⟩) hHeld ?_
            rotate_left
            · intro ww hSw
              (try dsimp only at hSw)
              go_simp
              (try with_reducible rfl)
            simp only [Act.put, List.setIfInBounds_toArray, List.set_cons_zero, List.set_cons_succ]
            refine wpAnyH_take (i := 5) (oi := ⟨some 70, _, _, _, _, _⟩) (v := .slice A70 (1 + kk) c70) rfl (by kernel_rfl) (by kernel_rfl) (by kernel_rfl) (fun _ _ _ h => h) (Or.inl ⟨by rfl, ?_⟩) hHeld ?_
            · intro ww hSw
              (try dsimp only at hSw)
              exact exec_slice_run HC70.out rfl rfl rfl rfl rfl
            simp only [Act.put, List.setIfInBounds_toArray, List.set_cons_zero, List.set_cons_succ]
            refine wpAnyH_take (i := 6) (oi := ⟨some 71, _, _, _, _, _⟩) (v := ?_) rfl (by kernel_rfl) (by kernel_rfl) (by kernel_rfl) (fun _ _ _ h => h) (Or.inl ⟨by rfl, ?_⟩) hHeld ?_
            rotate_left
            · intro ww hSw
              (try dsimp only at hSw)
              go_simp
              (try with_reducible rfl)
            simp only [Act.put, List.setIfInBounds_toArray, List.set_cons_zero, List.set_cons_succ]
            refine wpAnyH_ready (rs := [7]) (by kernel_rfl) (by simp) ?_
            refine AllReadyH.cons (o := ⟨some 72, _, _, _, _, _⟩) rfl (fun K hK => ?_) AllReadyH.nil
            go_simp
            go_at_call 24
            refine (HPT.out _ (HE70.out _ (below_drew hbw))).mono ?_
            rintro e_r w6 ⟨A72, c72, rfl, r72, hbn⟩
            have HK6 := Lib.hid hbn
            have hbw6 : Below w1.heap.size w1 w6 := bel_on (show Below w1.heap.size w1 _ by (repeat' (first | with_reducible exact Below.refl _ _ | with_reducible assumption | with_reducible refine bel_alloc ?_ _ | with_reducible refine bel_set ?_ ?_ _ | with_reducible refine below_drewN ?_ _ | with_reducible refine below_drew ?_ | (simp; done) | (simp; omega) | omega))) hbn
            clear hbn
            go_wp2_with fail
            refine hK.out _ _ ?_ (fun hHeld => ?_)
            · (try dsimp only)
              exact hbw6
            clear hK K
            (try simp only [Act.put, List.setIfInBounds_toArray, List.set_cons_zero, List.set_cons_succ])
            have HT6 := Lib.hid ((HW.out.drew).below HK6.out)
            obtain ⟨A9, c9, w9, hr9, ht9⟩ := HT6.out.segs (sl_rows r72) (show p + pm ≤ 100000 by omega) (q := p9) HP9.out
            have HR9 := Lib.hid hr9
            have HT9 := Lib.hid ht9
            clear hr9 ht9 r72
            refine wpAnyH_ready (rs := [8]) (by kernel_rfl) (by simp) ?_
            refine AllReadyH.cons (o := ⟨some 73, _, _, _, _, _⟩) rfl (fun K hK => ?_) AllReadyH.nil
            rw [if_pos (by rfl)]
            refine wp_append_run8 HR9.out rfl rfl rfl ?_
            refine hK.out _ _ ?_ (fun hHeld => ?_)
            · (try dsimp only)
              exact HT9.out.bel
            clear hK K
            (try simp only [Act.put, List.setIfInBounds_toArray, List.set_cons_zero, List.set_cons_succ])
            refine wpAnyH_take (i := 9) (oi := ⟨some 10, _, _, _, _, _⟩) (v := ?_) rfl (by kernel_rfl) (by kernel_rfl) (by kernel_rfl) (fun _ _ _ h => h) (Or.inl ⟨by rfl, ?_⟩) hHeld ?_
            rotate_left
            · intro ww hSw
              (try dsimp only at hSw)
              go_simp
              (try with_reducible rfl)
            simp only [Act.put, List.setIfInBounds_toArray, List.set_cons_zero, List.set_cons_succ]
            refine wpAnyH_done (by kernel_rfl) ?_ _
            refine NoPanic.normal ?_
            have HSE : Hid ((S ++ PT) ++ segsS (fun t => roundP t s.unit) (itemsS s.cap none (L.drop (p0))) = SG) := by
              show _ = _
              rw [← HS.out, HIT.out, segsS_cons, HPTE.out, List.append_assoc]
            have HFE : Hid ((F ++ [(⟨x.id, 1⟩ : FlagP)]) ++ flagsS (itemsS s.cap none (L.drop (p0))) = FG) := by
              show _ = _
              rw [← HF.out, HIT.out, flagsS_cons]
              simp [flagsI]
            have HSL2 : Hid ((S ++ PT).length = p9) := by show _ = _; rw [List.length_append, HSL.out, HPM.out]; exact HP9.out
            have hp0 := HP0.out
            clear HS HF
            go_wp2
            go_roundw
            case rel => exact ⟨p0, A9, p9, c9, B2, q + 1, d2, S ++ PT, F ++ [(⟨x.id, 1⟩ : FlagP)], hp0N, by go_num, rfl, rfl, HSL2, HFL2, HSE, HFE, HT9⟩
            case measure => simp [intOf]; omega
          · have HIT2 : Hid (itemsS s.cap none (L.drop j) = .sess x ((L.drop (j + 1)).take kk) tz 2 :: itemsS s.cap none (L.drop (p0))) := HIT
            clear HIT
            have HIT := HIT2
            clear HIT2
            go_wp2_with (refine wpList_exec (o := ⟨some 46, _, _, _, _, _⟩) (by rfl) (exec_load_st _ rfl rfl HGr.out HZ.out) ?_)
            refine (CE.out _ HLr.out).mono ?_
            rintro e w3 ⟨rfl, b3⟩
            have HT3 := Lib.hid (HT.out.below b3)
            clear b3 CE z0 z2 z3 hz HT
            have HL3 := Lib.hid (HL1.out.below HT3.out.bel)
            obtain ⟨z0, -, z2, z3, -⟩ := evs_num HL3.out hlt x HXX.out
            have hz := cell_lt z0
            obtain ⟨B2, d2, w4, hr2, ht2⟩ := HT3.out.flag ⟨x.id, 2⟩ (by omega) (s := w3.heap.size) rfl
            have HR2 := Lib.hid hr2
            have HW := Lib.hid ht2
            have HFL2 : Hid ((F ++ [(⟨x.id, 2⟩ : FlagP)]).length = q + 1) := by show _ = _; rw [List.length_append, HFL.out]; rfl
            clear hr2 ht2
            have hbw := HW.out.bel
            go_upto_region 15 with (at_builtin; refine wpList_append_run (o := ⟨some 64, _, _, _, _, _⟩) HR2.out rfl rfl rfl rfl ?_)
            refine wp_region_noPanic ?_
            refine wp_region_held_drew (S := fun w' => Below w1.heap.size w1 w') (by kernel_rfl) (below_drew (hbw)) (fun hHeld => ?_)
            refine wpAnyH_take (i := 0) (oi := ⟨some 65, _, _, _, _, _⟩) (v := ?_) rfl (by kernel_rfl) (by kernel_rfl) (by kernel_rfl) (fun _ _ _ h => h) (Or.inl ⟨by rfl, ?_⟩) hHeld ?_
            rotate_left
            · intro ww hSw
              (try dsimp only at hSw)
              go_simp
              (try with_reducible rfl)
            simp only [Act.put, List.setIfInBounds_toArray, List.set_cons_zero, List.set_cons_succ]
            refine wpAnyH_take (i := 1) (oi := ⟨some 66, _, _, _, _, _⟩) (v := .agg cs) rfl (by kernel_rfl) (by kernel_rfl) (by kernel_rfl) (fun _ _ _ h => h) (Or.inl ⟨by rfl, ?_⟩) hHeld ?_
            · intro ww hSw
              (try dsimp only at hSw)
              exact exec_load_st _ rfl rfl (HG1.out.below hSw) HZ.out
            simp only [Act.put, List.setIfInBounds_toArray, List.set_cons_zero, List.set_cons_succ]
            refine wpAnyH_take (i := 2) (oi := ⟨some 67, _, _, _, _, _⟩) (v := ?_) rfl (by kernel_rfl) (by kernel_rfl) (by kernel_rfl) (fun _ _ _ h => h) (Or.inl ⟨by rfl, ?_⟩) hHeld ?_
            rotate_left
            · intro ww hSw
              (try dsimp only at hSw)
              go_simp
              (try with_reducible rfl)
            simp only [Act.put, List.setIfInBounds_toArray, List.set_cons_zero, List.set_cons_succ]
            refine wpAnyH_take (i := 3) (oi := ⟨some 68, _, _, _, _, _⟩) (v := ?_) rfl (by kernel_rfl) (by kernel_rfl) (by kernel_rfl) (fun _ _ _ h => h) (Or.inl ⟨by rfl, ?_⟩) hHeld ?_
            rotate_left
            · intro ww hSw
              (try dsimp only at hSw)
              go_simp
              (try with_reducible rfl)
            simp only [Act.put, List.setIfInBounds_toArray, List.set_cons_zero, List.set_cons_succ]
            refine wpAnyH_take (i := 4) (oi := ⟨some 69, _, _, _, _, _⟩) (v := ?_) rfl (by kernel_rfl) (by kernel_rfl) (by kernel_rfl) (fun _ _ _ h => h) (Or.inl ⟨by rfl, ?_⟩) hHeld ?_
            rotate_left
            · intro ww hSw
              (try dsimp only at hSw)
              go_simp
              (try with_reducible rfl)
            simp only [Act.put, List.setIfInBounds_toArray, List.set_cons_zero, List.set_cons_succ]
            refine wpAnyH_take (i := 5) (oi := ⟨some 70, _, _, _, _, _⟩) (v := .slice A70 (1 + kk) c70) rfl (by kernel_rfl) (by kernel_rfl) (by kernel_rfl) (fun _ _ _ h => h) (Or.inl ⟨by rfl, ?_⟩) hHeld ?_
            · intro ww hSw
              (try dsimp only at hSw)
              exact exec_slice_run HC70.out rfl rfl rfl rfl rfl
            simp only [Act.put, List.setIfInBounds_toArray, List.set_cons_zero, List.set_cons_succ]
            refine wpAnyH_take (i := 6) (oi := ⟨some 71, _, _, _, _, _⟩) (v := ?_) rfl (by kernel_rfl) (by kernel_rfl) (by kernel_rfl) (fun _ _ _ h => h) (Or.inl ⟨by rfl, ?_⟩) hHeld ?_
            rotate_left
            · intro ww hSw
              (try dsimp only at hSw)
              go_simp
              (try with_reducible rfl)
            simp only [Act.put, List.setIfInBounds_toArray, List.set_cons_zero, List.set_cons_succ]
            refine wpAnyH_ready (rs := [7]) (by kernel_rfl) (by simp) ?_
            refine AllReadyH.cons (o := ⟨some 72, _, _, _, _, _⟩) rfl (fun K hK => ?_) AllReadyH.nil
            go_simp
            go_at_call 24
            refine (HPT.out _ (HE70.out _ (below_drew hbw))).mono ?_
            rintro e_r w6 ⟨A72, c72, rfl, r72, hbn⟩
            have HK6 := Lib.hid hbn
            have hbw6 : Below w1.heap.size w1 w6 := bel_on (show Below w1.heap.size w1 _ by (repeat' (first | with_reducible exact Below.refl _ _ | with_reducible assumption | with_reducible refine bel_alloc ?_ _ | with_reducible refine bel_set ?_ ?_ _ | with_reducible refine below_drewN ?_ _ | with_reducible refine below_drew ?_ | (simp; done) | (simp; omega) | omega))) hbn
            clear hbn
            go_wp2_with fail
            refine hK.out _ _ ?_ (fun hHeld => ?_)
            · (try dsimp only)
              exact hbw6
            clear hK K
            (try simp only [Act.put, List.setIfInBounds_toArray, List.set_cons_zero, List.set_cons_succ])
            have HT6 := Lib.hid ((HW.out.drew).below HK6.out)
            obtain ⟨A9, c9, w9, hr9, ht9⟩ := HT6.out.segs (sl_rows r72) (show p + pm ≤ 100000 by omega) (q := p9) HP9.out
            have HR9 := Lib.hid hr9
            have HT9 := Lib.hid ht9
            clear hr9 ht9 r72
            refine wpAnyH_ready (rs := [8]) (by kernel_rfl) (by simp) ?_
            refine AllReadyH.cons (o := ⟨some 73, _, _, _, _, _⟩) rfl (fun K hK => ?_) AllReadyH.nil
            rw [if_pos (by rfl)]
            refine wp_append_run8 HR9.out rfl rfl rfl ?_
            refine hK.out _ _ ?_ (fun hHeld => ?_)
            · (try dsimp only)
              exact HT9.out.bel
            clear hK K
            (try simp only [Act.put, List.setIfInBounds_toArray, List.set_cons_zero, List.set_cons_succ])
            refine wpAnyH_take (i := 9) (oi := ⟨some 10, _, _, _, _, _⟩) (v := ?_) rfl (by kernel_rfl) (by kernel_rfl) (by kernel_rfl) (fun _ _ _ h => h) (Or.inl ⟨by rfl, ?_⟩) hHeld ?_
            rotate_left
            · intro ww hSw
              (try dsimp only at hSw)
              go_simp
              (try with_reducible rfl)
            simp only [Act.put, List.setIfInBounds_toArray, List.set_cons_zero, List.set_cons_succ]
            refine wpAnyH_done (by kernel_rfl) ?_ _
            refine NoPanic.normal ?_
            have HSE : Hid ((S ++ PT) ++ segsS (fun t => roundP t s.unit) (itemsS s.cap none (L.drop (p0))) = SG) := by
              show _ = _
              rw [← HS.out, HIT.out, segsS_cons, HPTE.out, List.append_assoc]
            have HFE : Hid ((F ++ [(⟨x.id, 2⟩ : FlagP)]) ++ flagsS (itemsS s.cap none (L.drop (p0))) = FG) := by
              show _ = _
              rw [← HF.out, HIT.out, flagsS_cons]
              simp [flagsI]
            have HSL2 : Hid ((S ++ PT).length = p9) := by show _ = _; rw [List.length_append, HSL.out, HPM.out]; exact HP9.out
            have hp0 := HP0.out
            clear HS HF
            go_wp2
            go_roundw
            case rel => exact ⟨p0, A9, p9, c9, B2, q + 1, d2, S ++ PT, F ++ [(⟨x.id, 2⟩ : FlagP)], hp0N, by go_num, rfl, rfl, HSL2, HFL2, HSE, HFE, HT9⟩
            case measure => simp [intOf]; omega
        · have k1' : (x.kd != 1) = true := by simpa using k1
          have HIT := Lib.hid (items_out s.cap x (L.drop (j + 1)) k1)
          rw [← HDR.out] at HIT
          obtain ⟨B2, d2, w2, hr2, ht2⟩ := HT.out.flag ⟨x.id, 3⟩ (by omega) (s := wr.heap.size) rfl
          have HR2 := Lib.hid hr2
          have HT2 := Lib.hid ht2
          have HSE : Hid (S ++ segsS (fun t => roundP t s.unit) (itemsS s.cap none (L.drop (j + 1))) = SG) := by
            show _ = _
            rw [← HS.out, HIT.out, segsS_cons]
            rfl
          have HFE : Hid ((F ++ [(⟨x.id, 3⟩ : FlagP)]) ++ flagsS (itemsS s.cap none (L.drop (j + 1))) = FG) := by
            show _ = _
            rw [← HF.out, HIT.out, flagsS_cons]
            simp [flagsI]
          have HFL2 : Hid ((F ++ [(⟨x.id, 3⟩ : FlagP)]).length = q + 1) := by show _ = _; rw [List.length_append, HFL.out]; rfl
          clear hr2 ht2 HS HF HIT hx HDR
          go_wp2_with (at_builtin; refine wpList_append_run (o := ⟨some 42, _, _, _, _, _⟩) HR2.out rfl rfl rfl rfl ?_)
          go_roundw
          case rel => exact ⟨j + 1, A2, p, c2, B2, q + 1, d2, S, F ++ [(⟨x.id, 3⟩ : FlagP)], by omega, by go_num, rfl, rfl, HSL, HFL2, HSE, HFE, HT2⟩
          case measure => simp [intOf]; omega
      · obtain rfl : j = N := by omega
        have e1 : L.drop j = [] := List.drop_of_length_le (by rw [HNN.out]; exact Nat.le_refl _)
        have hS1 : S = SG := by have := HS.out; rw [e1] at this; simpa [itemsS, closeS, segsS] using this
        have hF1 : F = FG := by have := HF.out; rw [e1] at this; simpa [itemsS, closeS, flagsS] using this
        subst hS1 hF1
        obtain rfl : p = S.length := HSL.out.symm
        obtain rfl : q = F.length := HFL.out.symm
        have HEND : Hid (STwo w wr A2 S.length c2 S B F.length d F) := ⟨trow_mono HT.out.a HB1.out.size, trow_mono HT.out.b HB1.out.size, HT.out.ne, bel_on HB1.out HT.out.bel⟩
        go_wp2
        refine bodyPost_ret (v := .tuple #[.slice A2 S.length c2, .slice B F.length d]) (by simp [results, Tryz.results7, go_sem]) rfl ⟨A2, c2, B, d, rfl, HEND.out⟩
end Go.Proofs.YtbijaaglmhoopaaGreat

namespace Go.Proofs.YtbijaaglmhoopaaGreat
open Go.RowKit
set_option linter.unusedVariables false
set_option linter.unusedSimpArgs false
set_option maxRecDepth 20000

/-- All that is asked of a setup's cells. -/
structure SetW (w : World) (s : SetP) (cs : Array Value) : Prop where
  c : SetC w s cs
  f : s.Fit
  q : SetS cs s.places s.elements.length s.classes.length s.gears.length s.rates.length
  u : cs[8]? = some (.int .i64 s.unit)
  k : cs[9]? = some (.int .i64 s.cap)
theorem SetW.below {w w' : World} {s : SetP} {cs : Array Value} (h : SetW w s cs) (hb : Below w.heap.size w w') : SetW w' s cs := ⟨h.c.below hb, h.f, h.q, h.u, h.k⟩
theorem setW_of {w : World} {s : SetP} {A1 A2 A3 A4 A5 A6 : Option Addr} {c1 c2 c3 c4 c5 c6 : Nat} {cs : Array Value} (h : setV s A1 A2 A3 A4 A5 A6 c1 c2 c3 c4 c5 c6 = .agg cs) (hs : SetAt w s A1 A2 A3 A4 A5 A6 c1 c2 c3 c4 c5 c6) (hf : s.Fit) : SetW w s cs := by
  have hC : SetC w s cs := ⟨A1, A2, A3, A4, A5, A6, c1, c2, c3, c4, c5, c6, h, hs⟩
  have h' := h
  unfold setV at h'
  injection h' with h'
  have hsz := hC.size
  subst h'
  exact ⟨hC, hf, ⟨hsz, by simp [Value.oneCell'], rfl, ⟨_, _, rfl⟩, ⟨_, _, rfl⟩, ⟨_, _, rfl⟩, ⟨_, _, rfl⟩⟩, rfl, rfl⟩
/-- A setup that has no unit of its own but this one. -/
theorem SetW.size {w : World} {s : SetP} {cs : Array Value} (h : SetW w s cs) : cs.size = 23 := h.q.size
set_option maxHeartbeats 2000000 in
theorem few12 (s : SetP) (cs : Array Value) (w : World) (hW : SetW w s cs) (A : Option Addr) (n c : Nat) (b : Bool) (hb : decide (s.Few ∧ n ≤ 100) = b) :
    Calls Tryz.prog 5 #[.agg cs, .slice A n c] w fun e w' => e = .returned (.bool b) ∧ Below w.heap.size w w' := by
  have HZ := Lib.hid hW.size
  have hb0 := bel_alloc (Below.refl w.heap.size w) (.cells cs 30)
  have HB0 := Lib.hid (Has.new w 30 cs rfl)
  cases hF : decide s.Few with
  | false =>
    have HC := Lib.hid (few_c (hW.c.below hb0) false hF)
    have hF' := of_decide_eq_false hF
    obtain rfl : b = false := by rw [← hb, decide_eq_false]; exact fun h => hF' h.1
    clear hW hF hF' hb
    go_enter Tryz.func5, Tryz.ntmps5
    go_wp2_with (refine wpList_exec (o := ⟨some 5, _, _, _, _, _⟩) (by rfl) (exec_load_st _ rfl rfl HB0.out HZ.out) ?_)
    refine HC.out.mono ?_
    rintro e w1 ⟨rfl, b1⟩
    have HB := Lib.hid (bel_on hb0 b1)
    clear b1 hb0
    go_wp2
    go_ret
    exact ⟨rfl, HB.out⟩
  | true =>
    have HC := Lib.hid (few_c (hW.c.below hb0) true hF)
    have hF' := of_decide_eq_true hF
    have hn : decide ((n : Int) ≤ 100) = b := by rw [← hb]; exact decide_eq_decide.2 ⟨fun h => ⟨hF', by omega⟩, fun h => by omega⟩
    clear hW hF hF' hb
    go_enter Tryz.func5, Tryz.ntmps5
    go_wp2_with (refine wpList_exec (o := ⟨some 5, _, _, _, _, _⟩) (by rfl) (exec_load_st _ rfl rfl HB0.out HZ.out) ?_)
    refine HC.out.mono ?_
    rintro e w1 ⟨rfl, b1⟩
    have HB := Lib.hid (bel_on hb0 b1)
    clear b1 hb0
    go_wp2
    go_ret
    exact ⟨ret_bool (by first | exact hn | simp [hn]), HB.out⟩
theorem GivesT.two {w w' : World} {S : List SegP} {F : List FlagP} {e : Ending} (h : GivesT w S F e w') : ∃ A c B d, e = .returned (.tuple #[.slice A S.length c, .slice B F.length d]) ∧ Segs w' A S.length c S ∧ Flgs w' B F.length d F ∧ Below w.heap.size w w' := by
  obtain ⟨A, c, B, d, h1, h2⟩ := h
  exact ⟨A, c, B, d, h1, SRow.segs h2.a rfl, FRow.flgs h2.b rfl, h2.bel⟩
theorem segsOf_len (s : SetP) (wk : Int) (l : List EvP) : (segsOf s wk l).length ≤ l.length := by
  unfold segsOf
  split
  · have := segs_len (fun t => roundP t s.unit) (cap := s.cap) (wevs (mayE s.places s.elements.length s.classes.length s.gears.length s.rates.length) wk l) none
    have h2 := wevs_len (mayE s.places s.elements.length s.classes.length s.gears.length s.rates.length) wk l
    unfold itemsOf
    simp only [stN] at this
    omega
  · simp
theorem flagsOf_len (s : SetP) (wk : Int) (l : List EvP) : (flagsOf s wk l).length ≤ l.length := by
  unfold flagsOf
  split
  · have := flags_len (cap := s.cap) (wevs (mayE s.places s.elements.length s.classes.length s.gears.length s.rates.length) wk l) none
    have h2 := wevs_len (mayE s.places s.elements.length s.classes.length s.gears.length s.rates.length) wk l
    unfold itemsOf
    simp only [openN] at this
    omega
  · simp
end Go.Proofs.YtbijaaglmhoopaaGreat
