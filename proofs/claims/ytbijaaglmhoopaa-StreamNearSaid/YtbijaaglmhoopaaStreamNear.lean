/-
  The law StreamNear, walked.
-/
import Derived.Test.YtbijaaglmhoopaaZbd
import Derived.StillTailTactics
namespace Go.Proofs.Ytbijaaglmhoopaa
open Go.RowKit
set_option linter.unusedVariables false
set_option linter.unusedSimpArgs false
set_option maxRecDepth 20000

theorem streamNear_no (s : SetP) (cs : Array Value) (w : World) (hW : SetW w s cs) (A : Option Addr) (n c : Nat) (l : List EvP) (h : Evs w A n c l) (hIn : ∀ e ∈ l, e.In) (e : EvP) (hIe : e.In) (wk : Int) (hF : decide (s.Few ∧ n ≤ 100) = false) :
    Calls Try.prog 7 #[.agg cs, .slice A n c, .agg (evC e), .int .i64 wk] w fun e w' => e = .returned (.bool true) ∧ Below w.heap.size w w' := by
  have HF := Lib.hid hF
  clear hF
  have HZ := Lib.hid hW.size
  have HQS := Lib.hid hW.q
  have HFT := Lib.hid hW.f
  have HSU := Lib.hid hW.u
  have HSK := Lib.hid hW.k
  have hb0 := bel_alloc (bel_alloc (Below.refl w.heap.size w) (.cells cs 30)) (.cells (evC e) 39)
  have HB := Lib.hid ((Has.new w 30 cs rfl).alloc (.cells (evC e) 39))
  have HX : Hid (Has ((w.alloc (.cells cs 30)).alloc (.cells (evC e) 39)) (w.heap.size + 1) (evC e)) := Has.new _ _ _ (by simp)
  have HS := Lib.hid (hW.below hb0)
  have HE := Lib.hid (h.below hb0)
  have HW := Lib.hid hb0
  have HIN := Lib.hid hIn
  have HIE := Lib.hid hIe
  clear hW h hb0 hIn hIe
  go_enter Try.func7, Try.ntmps7
  go_wp2_with fail
  refine (awake12 _).mono ?_
  rintro e w1 ⟨rfl, b1⟩
  replace HB := Lib.hid (HB.out.below b1)
  replace HS := Lib.hid (HS.out.below b1)
  replace HE := Lib.hid (HE.out.below b1)
  replace HX := Lib.hid (HX.out.below b1)
  replace HW := Lib.hid (bel_on HW.out b1)
  clear b1
  go_wp2_with (refine wpList_exec (o := ⟨some 16, _, _, _, _, _⟩) (by rfl) (exec_load_st _ rfl rfl HB.out HZ.out) ?_)
  refine (few12 s cs _ HS.out A n c _ HF.out).mono ?_
  rintro e w2 ⟨rfl, b2⟩
  replace HB := Lib.hid (HB.out.below b2)
  replace HS := Lib.hid (HS.out.below b2)
  replace HE := Lib.hid (HE.out.below b2)
  replace HX := Lib.hid (HX.out.below b2)
  replace HW := Lib.hid (bel_on HW.out b2)
  clear b2
  go_wp2
  go_ret
  exact ⟨rfl, HW.out⟩
theorem streamNear_nock (s : SetP) (cs : Array Value) (w : World) (hW : SetW w s cs) (A : Option Addr) (n c : Nat) (l : List EvP) (h : Evs w A n c l) (hIn : ∀ e ∈ l, e.In) (e : EvP) (hIe : e.In) (wk : Int) (hF : decide (s.Few ∧ n ≤ 100) = true) (hck : checkB s = false) :
    Calls Try.prog 7 #[.agg cs, .slice A n c, .agg (evC e), .int .i64 wk] w fun e w' => e = .returned (.bool true) ∧ Below w.heap.size w w' := by
  have HF := Lib.hid hF
  have HCK := Lib.hid hck
  clear hF hck
  have HZ := Lib.hid hW.size
  have HQS := Lib.hid hW.q
  have HFT := Lib.hid hW.f
  have HSU := Lib.hid hW.u
  have HSK := Lib.hid hW.k
  have hb0 := bel_alloc (bel_alloc (Below.refl w.heap.size w) (.cells cs 30)) (.cells (evC e) 39)
  have HB := Lib.hid ((Has.new w 30 cs rfl).alloc (.cells (evC e) 39))
  have HX : Hid (Has ((w.alloc (.cells cs 30)).alloc (.cells (evC e) 39)) (w.heap.size + 1) (evC e)) := Has.new _ _ _ (by simp)
  have HS := Lib.hid (hW.below hb0)
  have HE := Lib.hid (h.below hb0)
  have HW := Lib.hid hb0
  have HIN := Lib.hid hIn
  have HIE := Lib.hid hIe
  clear hW h hb0 hIn hIe
  go_enter Try.func7, Try.ntmps7
  go_wp2_with fail
  refine (awake12 _).mono ?_
  rintro e w1 ⟨rfl, b1⟩
  replace HB := Lib.hid (HB.out.below b1)
  replace HS := Lib.hid (HS.out.below b1)
  replace HE := Lib.hid (HE.out.below b1)
  replace HX := Lib.hid (HX.out.below b1)
  replace HW := Lib.hid (bel_on HW.out b1)
  clear b1
  go_wp2_with (refine wpList_exec (o := ⟨some 16, _, _, _, _, _⟩) (by rfl) (exec_load_st _ rfl rfl HB.out HZ.out) ?_)
  refine (few12 s cs _ HS.out A n c _ HF.out).mono ?_
  rintro e w2 ⟨rfl, b2⟩
  replace HB := Lib.hid (HB.out.below b2)
  replace HS := Lib.hid (HS.out.below b2)
  replace HE := Lib.hid (HE.out.below b2)
  replace HX := Lib.hid (HX.out.below b2)
  replace HW := Lib.hid (bel_on HW.out b2)
  clear b2
  go_wp2_with (refine wpList_exec (o := ⟨some 21, _, _, _, _, _⟩) (by rfl) (exec_load_st _ rfl rfl HB.out HZ.out) ?_)
  refine (scheck_c HS.out.c HFT.out _ HCK.out).mono ?_
  rintro e w3 ⟨rfl, b3⟩
  replace HB := Lib.hid (HB.out.below b3)
  replace HS := Lib.hid (HS.out.below b3)
  replace HE := Lib.hid (HE.out.below b3)
  replace HX := Lib.hid (HX.out.below b3)
  replace HW := Lib.hid (bel_on HW.out b3)
  clear b3
  go_wp2
  go_ret
  exact ⟨rfl, HW.out⟩
theorem streamNear_noev (s : SetP) (cs : Array Value) (w : World) (hW : SetW w s cs) (A : Option Addr) (n c : Nat) (l : List EvP) (h : Evs w A n c l) (hIn : ∀ e ∈ l, e.In) (e : EvP) (hIe : e.In) (wk : Int) (hF : decide (s.Few ∧ n ≤ 100) = true) (hck : checkB s = true) (hec : decide (e.May s.places s.elements.length s.classes.length s.gears.length s.rates.length) = false) :
    Calls Try.prog 7 #[.agg cs, .slice A n c, .agg (evC e), .int .i64 wk] w fun e w' => e = .returned (.bool true) ∧ Below w.heap.size w w' := by
  have HF := Lib.hid hF
  have HCK := Lib.hid hck
  have HEC := Lib.hid hec
  clear hF hck hec
  have HZ := Lib.hid hW.size
  have HQS := Lib.hid hW.q
  have HFT := Lib.hid hW.f
  have HSU := Lib.hid hW.u
  have HSK := Lib.hid hW.k
  have hb0 := bel_alloc (bel_alloc (Below.refl w.heap.size w) (.cells cs 30)) (.cells (evC e) 39)
  have HB := Lib.hid ((Has.new w 30 cs rfl).alloc (.cells (evC e) 39))
  have HX : Hid (Has ((w.alloc (.cells cs 30)).alloc (.cells (evC e) 39)) (w.heap.size + 1) (evC e)) := Has.new _ _ _ (by simp)
  have HS := Lib.hid (hW.below hb0)
  have HE := Lib.hid (h.below hb0)
  have HW := Lib.hid hb0
  have HIN := Lib.hid hIn
  have HIE := Lib.hid hIe
  clear hW h hb0 hIn hIe
  go_enter Try.func7, Try.ntmps7
  go_wp2_with fail
  refine (awake12 _).mono ?_
  rintro e w1 ⟨rfl, b1⟩
  replace HB := Lib.hid (HB.out.below b1)
  replace HS := Lib.hid (HS.out.below b1)
  replace HE := Lib.hid (HE.out.below b1)
  replace HX := Lib.hid (HX.out.below b1)
  replace HW := Lib.hid (bel_on HW.out b1)
  clear b1
  go_wp2_with (refine wpList_exec (o := ⟨some 16, _, _, _, _, _⟩) (by rfl) (exec_load_st _ rfl rfl HB.out HZ.out) ?_)
  refine (few12 s cs _ HS.out A n c _ HF.out).mono ?_
  rintro e w2 ⟨rfl, b2⟩
  replace HB := Lib.hid (HB.out.below b2)
  replace HS := Lib.hid (HS.out.below b2)
  replace HE := Lib.hid (HE.out.below b2)
  replace HX := Lib.hid (HX.out.below b2)
  replace HW := Lib.hid (bel_on HW.out b2)
  clear b2
  go_wp2_with (refine wpList_exec (o := ⟨some 21, _, _, _, _, _⟩) (by rfl) (exec_load_st _ rfl rfl HB.out HZ.out) ?_)
  refine (scheck_c HS.out.c HFT.out _ HCK.out).mono ?_
  rintro e w3 ⟨rfl, b3⟩
  replace HB := Lib.hid (HB.out.below b3)
  replace HS := Lib.hid (HS.out.below b3)
  replace HE := Lib.hid (HE.out.below b3)
  replace HX := Lib.hid (HX.out.below b3)
  replace HW := Lib.hid (bel_on HW.out b3)
  clear b3
  have HLX := Lib.hid (has_load_e HX.out)
  go_wp2_with (first | refine wpList_exec (o := ⟨some 26, _, _, _, _, _⟩) (by rfl) (exec_load_st _ rfl rfl HB.out HZ.out) ?_ | refine wpList_exec (o := ⟨some 27, _, _, _, _, _⟩) (by rfl) (exec_load_at _ rfl rfl HLX.out) ?_)
  refine (echeck_any cs _ _ _ _ _ HQS.out e HIE.out _ _ HEC.out).mono ?_
  rintro x w4 ⟨rfl, b4⟩
  clear HLX
  replace HB := Lib.hid (HB.out.below b4)
  replace HS := Lib.hid (HS.out.below b4)
  replace HE := Lib.hid (HE.out.below b4)
  replace HX := Lib.hid (HX.out.below b4)
  replace HW := Lib.hid (bel_on HW.out b4)
  clear b4
  go_wp2
  go_ret
  exact ⟨rfl, HW.out⟩
set_option maxHeartbeats 16000000 in
theorem streamNear_main (s : SetP) (cs : Array Value) (w : World) (hW : SetW w s cs) (A : Option Addr) (n c : Nat) (l : List EvP) (h : Evs w A n c l) (hIn : ∀ e ∈ l, e.In) (e : EvP) (hIe : e.In) (wk : Int) (hF : decide (s.Few ∧ n ≤ 100) = true) (hck : checkB s = true) (hec : decide (e.May s.places s.elements.length s.classes.length s.gears.length s.rates.length) = true) :
    Calls Try.prog 7 #[.agg cs, .slice A n c, .agg (evC e), .int .i64 wk] w fun e w' => e = .returned (.bool true) ∧ Below w.heap.size w w' := by
  have hn : n ≤ 100 := (of_decide_eq_true hF).2
  have mixed : Try.prog.follows Departure.mixedOrders = true := by kernel_rfl
  have hM := check_iff.1 hck
  have hem := (of_decide_eq_true hec).1.tm
  have hu := hM.unit
  have hcp := hM.cap
  have HF := Lib.hid hF
  have HCK := Lib.hid hck
  have HEC := Lib.hid hec
  obtain ⟨y, hy⟩ : ∃ y, s.cap + s.unit = y := ⟨_, rfl⟩
  obtain ⟨lo, hlo⟩ : ∃ lo, e.tm - y = lo := ⟨_, rfl⟩
  obtain ⟨hi, hhi⟩ : ∃ hi, e.tm + y = hi := ⟨_, rfl⟩
  have HNM := Lib.hid (near_more hM wk l e hem)
  rw [hy, hlo, hhi] at HNM
  have HY : Hid (IntKind.i64.wrap (s.cap + s.unit) = y) := by show _ = _; rw [hy]; exact wrapw_id (by omega) (by omega)
  have HBD : Hid ((-1000000000 ≤ lo ∧ lo ≤ 1000000000) ∧ (-1000000000 ≤ hi ∧ hi ≤ 1000000000)) := by refine ⟨⟨?_, ?_⟩, ?_, ?_⟩ <;> omega
  have HLO := Lib.hid hlo
  have HHI := Lib.hid hhi
  have HLE := Lib.hid (segsOf_len s wk l)
  have HLE2 := Lib.hid (segsOf_len s wk (l ++ [e]))
  clear hF hck hec hM hem hu hcp hy hlo hhi
  have HZ := Lib.hid hW.size
  have HQS := Lib.hid hW.q
  have HFT := Lib.hid hW.f
  have HSU := Lib.hid hW.u
  have HSK := Lib.hid hW.k
  have hb0 := bel_alloc (bel_alloc (Below.refl w.heap.size w) (.cells cs 30)) (.cells (evC e) 39)
  have HB := Lib.hid ((Has.new w 30 cs rfl).alloc (.cells (evC e) 39))
  have HX : Hid (Has ((w.alloc (.cells cs 30)).alloc (.cells (evC e) 39)) (w.heap.size + 1) (evC e)) := Has.new _ _ _ (by simp)
  have HS := Lib.hid (hW.below hb0)
  have HE := Lib.hid (h.below hb0)
  have HW := Lib.hid hb0
  have HIN := Lib.hid hIn
  have HIE := Lib.hid hIe
  clear hW h hb0 hIn hIe
  go_enter Try.func7, Try.ntmps7
  go_wp2_with fail
  refine (awake12 _).mono ?_
  rintro e w1 ⟨rfl, b1⟩
  replace HB := Lib.hid (HB.out.below b1)
  replace HS := Lib.hid (HS.out.below b1)
  replace HE := Lib.hid (HE.out.below b1)
  replace HX := Lib.hid (HX.out.below b1)
  replace HW := Lib.hid (bel_on HW.out b1)
  clear b1
  go_wp2_with (refine wpList_exec (o := ⟨some 16, _, _, _, _, _⟩) (by rfl) (exec_load_st _ rfl rfl HB.out HZ.out) ?_)
  refine (few12 s cs _ HS.out A n c _ HF.out).mono ?_
  rintro e w2 ⟨rfl, b2⟩
  replace HB := Lib.hid (HB.out.below b2)
  replace HS := Lib.hid (HS.out.below b2)
  replace HE := Lib.hid (HE.out.below b2)
  replace HX := Lib.hid (HX.out.below b2)
  replace HW := Lib.hid (bel_on HW.out b2)
  clear b2
  go_wp2_with (refine wpList_exec (o := ⟨some 21, _, _, _, _, _⟩) (by rfl) (exec_load_st _ rfl rfl HB.out HZ.out) ?_)
  refine (scheck_c HS.out.c HFT.out _ HCK.out).mono ?_
  rintro e w3 ⟨rfl, b3⟩
  replace HB := Lib.hid (HB.out.below b3)
  replace HS := Lib.hid (HS.out.below b3)
  replace HE := Lib.hid (HE.out.below b3)
  replace HX := Lib.hid (HX.out.below b3)
  replace HW := Lib.hid (bel_on HW.out b3)
  clear b3
  have HLX := Lib.hid (has_load_e HX.out)
  go_wp2_with (first | refine wpList_exec (o := ⟨some 26, _, _, _, _, _⟩) (by rfl) (exec_load_st _ rfl rfl HB.out HZ.out) ?_ | refine wpList_exec (o := ⟨some 27, _, _, _, _, _⟩) (by rfl) (exec_load_at _ rfl rfl HLX.out) ?_)
  refine (echeck_any cs _ _ _ _ _ HQS.out e HIE.out _ _ HEC.out).mono ?_
  rintro x w4 ⟨rfl, b4⟩
  clear HLX
  replace HB := Lib.hid (HB.out.below b4)
  replace HS := Lib.hid (HS.out.below b4)
  replace HE := Lib.hid (HE.out.below b4)
  replace HX := Lib.hid (HX.out.below b4)
  replace HW := Lib.hid (bel_on HW.out b4)
  clear b4
  have HLN := Lib.hid HE.out.2
  have HIN2 : Hid (∀ x ∈ l ++ [e], x.In) := fun x hx => by
    rcases List.mem_append.1 hx with hx | hx
    · exact HIN.out x hx
    · rw [List.mem_singleton.1 hx]; exact HIE.out
  go_wp2
  go_loopg [10] n (fun kx s10 wr => ∃ k : Nat, s10 = .int .i64 k ∧ k + kx = n ∧ Hid (Below w4.heap.size w4 wr))
  case atStart => exact ⟨0, rfl, by omega, Lib.hid (Below.refl _ _)⟩
  case round =>
    obtain ⟨k, rfl, hk, HW5⟩ := hrel
    by_cases hlt : k < n
    · have HLr := Lib.hid (HE.out.below HW5.out)
      obtain ⟨ba, oa, rfl⟩ := HLr.out.form (by omega)
      obtain ⟨x, hx⟩ : ∃ x, l.getD k EvP.none = x := ⟨_, rfl⟩
      obtain ⟨z0, -, -, -, -⟩ := evs_num HLr.out hlt x hx
      have zl := cell_lt z0
      have HXr := HX.out.below HW5.out
      have y0 := HXr.cell 0 (show (evC e)[0]? = some (.int .i64 e.id) from rfl)
      have yl := cell_lt y0
      have i0 : (0 : Int) ≤ (k : Int) := by omega
      have i1 : (k : Int) < (n : Int) := by omega
      have hb5 := HW5.out
      have HWW := Lib.hid (bel_on HW.out hb5)
      obtain ⟨xi, hxi⟩ : ∃ xi, Hid (x.id = xi) := ⟨_, rfl⟩
      obtain ⟨yi, hyi⟩ : ∃ yi, Hid (e.id = yi) := ⟨_, rfl⟩
      rw [hxi.out] at z0
      rw [hyi.out] at y0
      clear hx HXr
      by_cases hq : xi = yi
      · have hq' : (xi == yi) = true := by simpa using hq
        clear hq
        go_wp2
        go_quiet (fail)
        go_wp2
        go_ret
        exact ⟨rfl, below_drewN HWW.out _⟩
      · have hq' : (xi == yi) = false := beq_eq_false_iff_ne.2 hq
        clear hq
        go_wp2
        go_quiet (fail)
        go_wp2
        go_roundg (n - (k + 1))
        case measure => omega
        case rel => exact ⟨k + 1, by go_num, by omega, Lib.hid (below_drewN hb5 _)⟩
    · obtain rfl : k = n := by omega
      have hb3 := HW5.out
      replace HB := Lib.hid (HB.out.below hb3)
      replace HS := Lib.hid (HS.out.below hb3)
      replace HE := Lib.hid (HE.out.below hb3)
      replace HX := Lib.hid (HX.out.below hb3)
      replace HW := Lib.hid (bel_on HW.out hb3)
      clear hb3
      clear HW5
      go_wp2_with (refine wpList_exec (o := ⟨some 48, _, _, _, _, _⟩) (by rfl) (exec_load_st _ rfl rfl HB.out HZ.out) ?_)
      refine (stream_any s cs _ HS.out A k c l HE.out (by omega) HIN.out wk).mono ?_
      intro e_r w9 hg
      obtain ⟨A4, c4, B4, d4, rfl, hs2, hf2, hb2⟩ := hg.two
      have HA := Lib.hid hs2
      have HFA := Lib.hid hf2
      clear hg hs2 hf2
      replace HB := Lib.hid (HB.out.below hb2)
      replace HS := Lib.hid (HS.out.below hb2)
      replace HE := Lib.hid (HE.out.below hb2)
      replace HX := Lib.hid (HX.out.below hb2)
      replace HW := Lib.hid (bel_on HW.out hb2)
      clear hb2
      have hl1 := HLE.out
      have hl2 := HLE2.out
      have hla := HLN.out
      rw [List.length_append] at hl2
      have hl3 : [e].length = 1 := rfl
      obtain ⟨SA, hSA⟩ : ∃ SA, Hid (segsOf s wk l = SA) := ⟨_, rfl⟩
      obtain ⟨SB, hSB⟩ : ∃ SB, Hid (segsOf s wk (l ++ [e]) = SB) := ⟨_, rfl⟩
      rw [hSA.out] at HA HNM hl1
      rw [hSB.out] at HNM hl2
      rw [hSA.out]
      obtain ⟨ma, hma⟩ : ∃ ma, SA.length = ma := ⟨_, rfl⟩
      obtain ⟨mb, hmb⟩ : ∃ mb, SB.length = mb := ⟨_, rfl⟩
      have hma' : ma ≤ 101 := by omega
      have hmb' : mb ≤ 101 := by omega
      have hnl1 := nearP_len lo hi SA
      rw [hma] at HA hnl1 ⊢
      obtain ⟨NL, hNL⟩ : ∃ NL, Hid (nearP lo hi SA = NL) := ⟨_, rfl⟩
      rw [hNL.out] at hnl1
      clear hl1 hl2 hl3 hla HLE HLE2 HFA hma HF HCK HEC HFT HQS HIE
      go_upto_region 10 with fail
      go_cut [13] (fun v13 wx => ∃ (A5 : Option Addr) (c5 : Nat), v13 = .slice A5 mb c5 ∧ Segs wx A5 mb c5 SB ∧ Below w9.heap.size w9 wx)
      case first =>
        refine wp_region_noPanic ?_
        refine wp_region_held_drew (S := fun w' => Below w9.heap.size w9 w') (by kernel_rfl) (below_drew (Below.refl _ _)) (fun hHeld => ?_)
        refine wpAnyH_take (i := 0) (oi := ⟨some 55, _, _, _, _, _⟩) (v := .agg cs) rfl (by kernel_rfl) (by kernel_rfl) (by kernel_rfl) (fun _ _ _ h => h) (Or.inl ⟨by rfl, ?_⟩) hHeld ?_
        · intro ww hSw
          (try dsimp only at hSw)
          exact exec_load_st _ rfl rfl (HB.out.below hSw) HZ.out
        simp only [Act.put, List.setIfInBounds_toArray, List.set_cons_zero, List.set_cons_succ]
        refine wpAnyH_take (i := 2) (oi := ⟨some 57, _, _, _, _, _⟩) (v := ?_) rfl (by kernel_rfl) (by kernel_rfl) (by kernel_rfl) (fun _ _ _ h => h) (Or.inl ⟨by rfl, ?_⟩) hHeld ?_
        rotate_left
        · intro ww hSw
          (try dsimp only at hSw)
          go_simp
          (try with_reducible rfl)
        simp only [Act.put, List.setIfInBounds_toArray, List.set_cons_zero, List.set_cons_succ]
        refine wpAnyH_take (i := 4) (oi := ⟨some 59, _, _, _, _, _⟩) (v := .agg (evC e)) rfl (by kernel_rfl) (by kernel_rfl) (by kernel_rfl) (fun _ _ _ h => h) (Or.inl ⟨by rfl, ?_⟩) hHeld ?_
        · intro ww hSw
          (try dsimp only at hSw)
          exact exec_load_at _ rfl rfl (has_load_e (HX.out.below hSw))
        simp only [Act.put, List.setIfInBounds_toArray, List.set_cons_zero, List.set_cons_succ]
        refine wpAnyH_take (i := 7) (oi := ⟨some 62, _, _, _, _, _⟩) (v := ?_) rfl (by kernel_rfl) (by kernel_rfl) (by kernel_rfl) (fun _ _ _ h => h) (Or.inl ⟨by rfl, ?_⟩) hHeld ?_
        rotate_left
        · intro ww hSw
          (try dsimp only at hSw)
          go_simp
          (try with_reducible rfl)
        simp only [Act.put, List.setIfInBounds_toArray, List.set_cons_zero, List.set_cons_succ]
        have HBw := Lib.hid hHeld
        clear hHeld
        generalize w9.drew = v0 at *
        refine wpAnyH_ready (rs := [1, 5]) (by kernel_rfl) (by simp) ?_
        refine AllReadyH.cons (o := ⟨some 56, _, _, _, _, _⟩) rfl (fun K hK => ?_) ?_
        · go_simp
          have HR : Hid (ERow (v0.alloc (.cells #[] 39)) w9.heap.size (some ⟨v0.heap.size, 0, none⟩) 0 0 []) := erow_mono (erow_empty v0) HBw.out.size
          replace HBw := Lib.hid (bel_alloc HBw.out (.cells #[] 39))
          refine hK.out _ _ HBw.out (fun hHeld => ?_)
          clear hK K hHeld
          (try simp only [Act.put, List.setIfInBounds_toArray, List.set_cons_zero, List.set_cons_succ])
          generalize World.alloc v0 (.cells #[] 39) = v1 at *
          refine wpAnyH_ready (rs := [3, 5]) (by kernel_rfl) (by simp) ?_
          refine AllReadyH.cons (o := ⟨some 58, _, _, _, _, _⟩) rfl (fun K hK => ?_) ?_
          · obtain ⟨A8, c8, v2, hr8, row8, bel8, keep8⟩ := erow_append HR.out (HE.out.below HBw.out) (show 0 + k ≤ 100000 by omega) HBw.out.size (k := k) (by omega)
            have HR8 := Lib.hid hr8
            rw [List.nil_append] at row8
            replace HR := Lib.hid row8
            replace HBw := Lib.hid (bel8 w9 (Nat.le_refl _) HBw.out)
            clear row8 bel8 keep8
            rw [if_pos (by rfl)]
            refine wp_append_run8 HR8.out rfl rfl rfl ?_
            refine hK.out _ _ HBw.out (fun hHeld => ?_)
            clear hK K hHeld
            (try simp only [Act.put, List.setIfInBounds_toArray, List.set_cons_zero, List.set_cons_succ])
            refine wpAnyH_ready (rs := [5]) (by kernel_rfl) (by simp) ?_
            refine AllReadyH.cons (o := ⟨some 60, _, _, _, _, _⟩) rfl (fun K hK => ?_) AllReadyH.nil
            rw [if_pos (by rfl)]
            refine wp_build_e e rfl rfl ?_
            have HO : Hid (Evs (v2.alloc (.cells (evC e) 39)) (some ⟨v2.heap.size, 0, none⟩) 1 1 [e]) := evs_one v2 e
            have HO5 : Hid (v2.heap.size < (v2.alloc (.cells (evC e) 39)).heap.size) := by show _ < _; simp
            have HRL := Lib.hid (fun g hg => (TRow.lt HR.out g hg).2)
            replace HR := Lib.hid (TRow.alloc HR.out (.cells (evC e) 39))
            replace HBw := Lib.hid (bel_alloc HBw.out (.cells (evC e) 39))
            refine hK.out _ _ HBw.out (fun hHeld => ?_)
            clear hK K hHeld
            (try simp only [Act.put, List.setIfInBounds_toArray, List.set_cons_zero, List.set_cons_succ])
            obtain ⟨b5, hb5⟩ : ∃ b5, Hid (v2.heap.size = b5) := ⟨_, rfl⟩
            rw [hb5.out] at HO HO5
            rw [hb5.out]
            generalize World.alloc v2 (.cells (evC e) 39) = v3 at *
            obtain ⟨A9, c9, x9, hr9, row9, bel9, keep9⟩ := erow_append HR.out HO.out (show k + 1 ≤ 100000 by omega) HBw.out.size (k := k + 1) rfl
            have HR9 := Lib.hid hr9
            have HRW := Lib.hid row9
            have HBz := Lib.hid (bel9 w9 (Nat.le_refl _) HBw.out)
            clear hr9 row9 bel9 keep9
            refine wpAnyH_ready (rs := [6]) (by kernel_rfl) (by simp) ?_
            refine AllReadyH.cons (o := ⟨some 61, _, _, _, _, _⟩) rfl (fun K hK => ?_) AllReadyH.nil
            rw [if_pos (by rfl)]
            refine wp_append_run8 HR9.out rfl rfl rfl ?_
            refine hK.out _ _ HBz.out (fun hHeld => ?_)
            clear hK K
            (try simp only [Act.put, List.setIfInBounds_toArray, List.set_cons_zero, List.set_cons_succ])
            have HEV : Hid (Evs x9 A9 (k + 1) c9 (l ++ [e])) := ERow.evs HRW.out (by rw [List.length_append, HLN.out]; rfl)
            refine wpAnyH_ready (rs := [8]) (by kernel_rfl) (by simp) ?_
            refine AllReadyH.cons (o := ⟨some 63, _, _, _, _, _⟩) rfl (fun K hK => ?_) AllReadyH.nil
            go_simp
            go_at_call 11
            refine (stream_any s cs _ (HS.out.below HBz.out) A9 (k + 1) c9 (l ++ [e]) HEV.out (by omega) HIN2.out wk).mono ?_
            intro e_r x10 hg
            obtain ⟨A5, c5, B5, d5, rfl, hs2, hf2, hb2⟩ := hg.two
            have HEND := Lib.hid (And.intro hs2 (bel_on HBz.out hb2))
            clear hg hs2 hf2 hb2
            go_wp2_with fail
            refine hK.out _ _ HEND.out.2 (fun hHeld => ?_)
            clear hK K
            (try simp only [Act.put, List.setIfInBounds_toArray, List.set_cons_zero, List.set_cons_succ])
            refine wpAnyH_take (i := 9) (oi := ⟨some 54, _, _, _, _, _⟩) (v := ?_) rfl (by kernel_rfl) (by kernel_rfl) (by kernel_rfl) (fun _ _ _ h => h) (Or.inl ⟨by rfl, ?_⟩) hHeld ?_
            rotate_left
            · intro ww hSw
              (try dsimp only at hSw)
              go_simp
              (try with_reducible rfl)
            simp only [Act.put, List.setIfInBounds_toArray, List.set_cons_zero, List.set_cons_succ]
            refine wpAnyH_take (i := 10) (oi := ⟨some 64, _, _, _, _, _⟩) (v := ?_) rfl (by kernel_rfl) (by kernel_rfl) (by kernel_rfl) (fun _ _ _ h => h) (Or.inl ⟨by rfl, ?_⟩) hHeld ?_
            rotate_left
            · intro ww hSw
              (try dsimp only at hSw)
              go_simp
              (try with_reducible rfl)
            simp only [Act.put, List.setIfInBounds_toArray, List.set_cons_zero, List.set_cons_succ]
            refine wpAnyH_take (i := 11) (oi := ⟨some 65, _, _, _, _, _⟩) (v := ?_) rfl (by kernel_rfl) (by kernel_rfl) (by kernel_rfl) (fun _ _ _ h => h) (Or.inl ⟨by rfl, ?_⟩) hHeld ?_
            rotate_left
            · intro ww hSw
              (try dsimp only at hSw)
              go_simp
              (try with_reducible rfl)
            simp only [Act.put, List.setIfInBounds_toArray, List.set_cons_zero, List.set_cons_succ]
            refine wpAnyH_take (i := 12) (oi := ⟨some 13, _, _, _, _, _⟩) (v := ?_) rfl (by kernel_rfl) (by kernel_rfl) (by kernel_rfl) (fun _ _ _ h => h) (Or.inl ⟨by rfl, ?_⟩) hHeld ?_
            rotate_left
            · intro ww hSw
              (try dsimp only at hSw)
              go_simp
              (try with_reducible rfl)
            simp only [Act.put, List.setIfInBounds_toArray, List.set_cons_zero, List.set_cons_succ]
            refine wpAnyH_take (i := 13) (oi := ⟨some 14, _, _, _, _, _⟩) (v := ?_) rfl (by kernel_rfl) (by kernel_rfl) (by kernel_rfl) (fun _ _ _ h => h) (Or.inl ⟨by rfl, ?_⟩) hHeld ?_
            rotate_left
            · intro ww hSw
              (try dsimp only at hSw)
              go_simp
              (try with_reducible rfl)
            simp only [Act.put, List.setIfInBounds_toArray, List.set_cons_zero, List.set_cons_succ]
            refine wpAnyH_done (by kernel_rfl) ?_ _
            refine NoPanic.normal ?_
            go_wp2_with fail
            go_meet
            refine ⟨A5, c5, by rw [hSB.out, hmb], by have h := HEND.out.1; rw [hSB.out, hmb] at h; exact h, HEND.out.2⟩
          refine AllReadyH.cons (o := ⟨some 60, _, _, _, _, _⟩) rfl (fun K hK => ?_) AllReadyH.nil
          rw [if_pos (by rfl)]
          refine wp_build_e e rfl rfl ?_
          have HO : Hid (Evs (v1.alloc (.cells (evC e) 39)) (some ⟨v1.heap.size, 0, none⟩) 1 1 [e]) := evs_one v1 e
          have HO5 : Hid (v1.heap.size < (v1.alloc (.cells (evC e) 39)).heap.size) := by show _ < _; simp
          have HRL := Lib.hid (fun g hg => (TRow.lt HR.out g hg).2)
          replace HR := Lib.hid (TRow.alloc HR.out (.cells (evC e) 39))
          replace HBw := Lib.hid (bel_alloc HBw.out (.cells (evC e) 39))
          refine hK.out _ _ HBw.out (fun hHeld => ?_)
          clear hK K hHeld
          (try simp only [Act.put, List.setIfInBounds_toArray, List.set_cons_zero, List.set_cons_succ])
          obtain ⟨b5, hb5⟩ : ∃ b5, Hid (v1.heap.size = b5) := ⟨_, rfl⟩
          rw [hb5.out] at HO HO5
          rw [hb5.out]
          have HNE := Lib.hid (HRL.out _ rfl)
          rw [hb5.out] at HNE
          replace HNE := Lib.hid (show _ ≠ b5 from Nat.ne_of_lt HNE.out)
          generalize World.alloc v1 (.cells (evC e) 39) = v4 at *
          refine wpAnyH_ready (rs := [3]) (by kernel_rfl) (by simp) ?_
          refine AllReadyH.cons (o := ⟨some 58, _, _, _, _, _⟩) rfl (fun K hK => ?_) AllReadyH.nil
          obtain ⟨A8, c8, v5, hr8, row8, bel8, keep8⟩ := erow_append HR.out (HE.out.below HBw.out) (show 0 + k ≤ 100000 by omega) HBw.out.size (k := k) (by omega)
          have HR8 := Lib.hid hr8
          have HOb := HO5.out
          replace HO := Lib.hid (HO.out.keep (w' := v5) fun ad had => by injection had with had; subst had; exact keep8 b5 HO5.out (fun g hg => by injection hg with hg; subst hg; exact (Ne.symm HNE.out)))
          clear HOb
          rw [List.nil_append] at row8
          replace HR := Lib.hid row8
          replace HBw := Lib.hid (bel8 w9 (Nat.le_refl _) HBw.out)
          clear row8 bel8 keep8
          rw [if_pos (by rfl)]
          refine wp_append_run8 HR8.out rfl rfl rfl ?_
          refine hK.out _ _ HBw.out (fun hHeld => ?_)
          clear hK K hHeld
          (try simp only [Act.put, List.setIfInBounds_toArray, List.set_cons_zero, List.set_cons_succ])
          obtain ⟨A9, c9, x9, hr9, row9, bel9, keep9⟩ := erow_append HR.out HO.out (show k + 1 ≤ 100000 by omega) HBw.out.size (k := k + 1) rfl
          have HR9 := Lib.hid hr9
          have HRW := Lib.hid row9
          have HBz := Lib.hid (bel9 w9 (Nat.le_refl _) HBw.out)
          clear hr9 row9 bel9 keep9
          refine wpAnyH_ready (rs := [6]) (by kernel_rfl) (by simp) ?_
          refine AllReadyH.cons (o := ⟨some 61, _, _, _, _, _⟩) rfl (fun K hK => ?_) AllReadyH.nil
          rw [if_pos (by rfl)]
          refine wp_append_run8 HR9.out rfl rfl rfl ?_
          refine hK.out _ _ HBz.out (fun hHeld => ?_)
          clear hK K
          (try simp only [Act.put, List.setIfInBounds_toArray, List.set_cons_zero, List.set_cons_succ])
          have HEV : Hid (Evs x9 A9 (k + 1) c9 (l ++ [e])) := ERow.evs HRW.out (by rw [List.length_append, HLN.out]; rfl)
          refine wpAnyH_ready (rs := [8]) (by kernel_rfl) (by simp) ?_
          refine AllReadyH.cons (o := ⟨some 63, _, _, _, _, _⟩) rfl (fun K hK => ?_) AllReadyH.nil
          go_simp
          go_at_call 11
          refine (stream_any s cs _ (HS.out.below HBz.out) A9 (k + 1) c9 (l ++ [e]) HEV.out (by omega) HIN2.out wk).mono ?_
          intro e_r x10 hg
          obtain ⟨A5, c5, B5, d5, rfl, hs2, hf2, hb2⟩ := hg.two
          have HEND := Lib.hid (And.intro hs2 (bel_on HBz.out hb2))
          clear hg hs2 hf2 hb2
          go_wp2_with fail
          refine hK.out _ _ HEND.out.2 (fun hHeld => ?_)
          clear hK K
          (try simp only [Act.put, List.setIfInBounds_toArray, List.set_cons_zero, List.set_cons_succ])
          refine wpAnyH_take (i := 9) (oi := ⟨some 54, _, _, _, _, _⟩) (v := ?_) rfl (by kernel_rfl) (by kernel_rfl) (by kernel_rfl) (fun _ _ _ h => h) (Or.inl ⟨by rfl, ?_⟩) hHeld ?_
          rotate_left
          · intro ww hSw
            (try dsimp only at hSw)
            go_simp
            (try with_reducible rfl)
          simp only [Act.put, List.setIfInBounds_toArray, List.set_cons_zero, List.set_cons_succ]
          refine wpAnyH_take (i := 10) (oi := ⟨some 64, _, _, _, _, _⟩) (v := ?_) rfl (by kernel_rfl) (by kernel_rfl) (by kernel_rfl) (fun _ _ _ h => h) (Or.inl ⟨by rfl, ?_⟩) hHeld ?_
          rotate_left
          · intro ww hSw
            (try dsimp only at hSw)
            go_simp
            (try with_reducible rfl)
          simp only [Act.put, List.setIfInBounds_toArray, List.set_cons_zero, List.set_cons_succ]
          refine wpAnyH_take (i := 11) (oi := ⟨some 65, _, _, _, _, _⟩) (v := ?_) rfl (by kernel_rfl) (by kernel_rfl) (by kernel_rfl) (fun _ _ _ h => h) (Or.inl ⟨by rfl, ?_⟩) hHeld ?_
          rotate_left
          · intro ww hSw
            (try dsimp only at hSw)
            go_simp
            (try with_reducible rfl)
          simp only [Act.put, List.setIfInBounds_toArray, List.set_cons_zero, List.set_cons_succ]
          refine wpAnyH_take (i := 12) (oi := ⟨some 13, _, _, _, _, _⟩) (v := ?_) rfl (by kernel_rfl) (by kernel_rfl) (by kernel_rfl) (fun _ _ _ h => h) (Or.inl ⟨by rfl, ?_⟩) hHeld ?_
          rotate_left
          · intro ww hSw
            (try dsimp only at hSw)
            go_simp
            (try with_reducible rfl)
          simp only [Act.put, List.setIfInBounds_toArray, List.set_cons_zero, List.set_cons_succ]
          refine wpAnyH_take (i := 13) (oi := ⟨some 14, _, _, _, _, _⟩) (v := ?_) rfl (by kernel_rfl) (by kernel_rfl) (by kernel_rfl) (fun _ _ _ h => h) (Or.inl ⟨by rfl, ?_⟩) hHeld ?_
          rotate_left
          · intro ww hSw
            (try dsimp only at hSw)
            go_simp
            (try with_reducible rfl)
          simp only [Act.put, List.setIfInBounds_toArray, List.set_cons_zero, List.set_cons_succ]
          refine wpAnyH_done (by kernel_rfl) ?_ _
          refine NoPanic.normal ?_
          go_wp2_with fail
          go_meet
          refine ⟨A5, c5, by rw [hSB.out, hmb], by have h := HEND.out.1; rw [hSB.out, hmb] at h; exact h, HEND.out.2⟩
        refine AllReadyH.cons (o := ⟨some 60, _, _, _, _, _⟩) rfl (fun K hK => ?_) AllReadyH.nil
        rw [if_pos (by rfl)]
        refine wp_build_e e rfl rfl ?_
        have HO : Hid (Evs (v0.alloc (.cells (evC e) 39)) (some ⟨v0.heap.size, 0, none⟩) 1 1 [e]) := evs_one v0 e
        have HO5 : Hid (v0.heap.size < (v0.alloc (.cells (evC e) 39)).heap.size) := by show _ < _; simp
        replace HBw := Lib.hid (bel_alloc HBw.out (.cells (evC e) 39))
        refine hK.out _ _ HBw.out (fun hHeld => ?_)
        clear hK K hHeld
        (try simp only [Act.put, List.setIfInBounds_toArray, List.set_cons_zero, List.set_cons_succ])
        obtain ⟨b5, hb5⟩ : ∃ b5, Hid (v0.heap.size = b5) := ⟨_, rfl⟩
        rw [hb5.out] at HO HO5
        rw [hb5.out]
        generalize World.alloc v0 (.cells (evC e) 39) = v6 at *
        refine wpAnyH_ready (rs := [1]) (by kernel_rfl) (by simp) ?_
        refine AllReadyH.cons (o := ⟨some 56, _, _, _, _, _⟩) rfl (fun K hK => ?_) AllReadyH.nil
        go_simp
        have HR : Hid (ERow (v6.alloc (.cells #[] 39)) w9.heap.size (some ⟨v6.heap.size, 0, none⟩) 0 0 []) := erow_mono (erow_empty v6) HBw.out.size
        have HNE : Hid (v6.heap.size ≠ b5) := by have := HO5.out; show _ ≠ _; omega
        replace HO := Lib.hid (HO.out.below (bel_alloc (Below.refl _ _) (.cells #[] 39)))
        replace HO5 := Lib.hid (Nat.lt_of_lt_of_le HO5.out (bel_alloc (Below.refl _ _) (.cells #[] 39)).size)
        replace HBw := Lib.hid (bel_alloc HBw.out (.cells #[] 39))
        refine hK.out _ _ HBw.out (fun hHeld => ?_)
        clear hK K hHeld
        (try simp only [Act.put, List.setIfInBounds_toArray, List.set_cons_zero, List.set_cons_succ])
        generalize World.alloc v6 (.cells #[] 39) = v7 at *
        refine wpAnyH_ready (rs := [3]) (by kernel_rfl) (by simp) ?_
        refine AllReadyH.cons (o := ⟨some 58, _, _, _, _, _⟩) rfl (fun K hK => ?_) AllReadyH.nil
        obtain ⟨A8, c8, v8, hr8, row8, bel8, keep8⟩ := erow_append HR.out (HE.out.below HBw.out) (show 0 + k ≤ 100000 by omega) HBw.out.size (k := k) (by omega)
        have HR8 := Lib.hid hr8
        have HOb := HO5.out
        replace HO := Lib.hid (HO.out.keep (w' := v8) fun ad had => by injection had with had; subst had; exact keep8 b5 HO5.out (fun g hg => by injection hg with hg; subst hg; exact (Ne.symm HNE.out)))
        clear HOb
        rw [List.nil_append] at row8
        replace HR := Lib.hid row8
        replace HBw := Lib.hid (bel8 w9 (Nat.le_refl _) HBw.out)
        clear row8 bel8 keep8
        rw [if_pos (by rfl)]
        refine wp_append_run8 HR8.out rfl rfl rfl ?_
        refine hK.out _ _ HBw.out (fun hHeld => ?_)
        clear hK K hHeld
        (try simp only [Act.put, List.setIfInBounds_toArray, List.set_cons_zero, List.set_cons_succ])
        obtain ⟨A9, c9, x9, hr9, row9, bel9, keep9⟩ := erow_append HR.out HO.out (show k + 1 ≤ 100000 by omega) HBw.out.size (k := k + 1) rfl
        have HR9 := Lib.hid hr9
        have HRW := Lib.hid row9
        have HBz := Lib.hid (bel9 w9 (Nat.le_refl _) HBw.out)
        clear hr9 row9 bel9 keep9
        refine wpAnyH_ready (rs := [6]) (by kernel_rfl) (by simp) ?_
        refine AllReadyH.cons (o := ⟨some 61, _, _, _, _, _⟩) rfl (fun K hK => ?_) AllReadyH.nil
        rw [if_pos (by rfl)]
        refine wp_append_run8 HR9.out rfl rfl rfl ?_
        refine hK.out _ _ HBz.out (fun hHeld => ?_)
        clear hK K
        (try simp only [Act.put, List.setIfInBounds_toArray, List.set_cons_zero, List.set_cons_succ])
        have HEV : Hid (Evs x9 A9 (k + 1) c9 (l ++ [e])) := ERow.evs HRW.out (by rw [List.length_append, HLN.out]; rfl)
        refine wpAnyH_ready (rs := [8]) (by kernel_rfl) (by simp) ?_
        refine AllReadyH.cons (o := ⟨some 63, _, _, _, _, _⟩) rfl (fun K hK => ?_) AllReadyH.nil
        go_simp
        go_at_call 11
        refine (stream_any s cs _ (HS.out.below HBz.out) A9 (k + 1) c9 (l ++ [e]) HEV.out (by omega) HIN2.out wk).mono ?_
        intro e_r x10 hg
        obtain ⟨A5, c5, B5, d5, rfl, hs2, hf2, hb2⟩ := hg.two
        have HEND := Lib.hid (And.intro hs2 (bel_on HBz.out hb2))
        clear hg hs2 hf2 hb2
        go_wp2_with fail
        refine hK.out _ _ HEND.out.2 (fun hHeld => ?_)
        clear hK K
        (try simp only [Act.put, List.setIfInBounds_toArray, List.set_cons_zero, List.set_cons_succ])
        refine wpAnyH_take (i := 9) (oi := ⟨some 54, _, _, _, _, _⟩) (v := ?_) rfl (by kernel_rfl) (by kernel_rfl) (by kernel_rfl) (fun _ _ _ h => h) (Or.inl ⟨by rfl, ?_⟩) hHeld ?_
        rotate_left
        · intro ww hSw
          (try dsimp only at hSw)
          go_simp
          (try with_reducible rfl)
        simp only [Act.put, List.setIfInBounds_toArray, List.set_cons_zero, List.set_cons_succ]
        refine wpAnyH_take (i := 10) (oi := ⟨some 64, _, _, _, _, _⟩) (v := ?_) rfl (by kernel_rfl) (by kernel_rfl) (by kernel_rfl) (fun _ _ _ h => h) (Or.inl ⟨by rfl, ?_⟩) hHeld ?_
        rotate_left
        · intro ww hSw
          (try dsimp only at hSw)
          go_simp
          (try with_reducible rfl)
        simp only [Act.put, List.setIfInBounds_toArray, List.set_cons_zero, List.set_cons_succ]
        refine wpAnyH_take (i := 11) (oi := ⟨some 65, _, _, _, _, _⟩) (v := ?_) rfl (by kernel_rfl) (by kernel_rfl) (by kernel_rfl) (fun _ _ _ h => h) (Or.inl ⟨by rfl, ?_⟩) hHeld ?_
        rotate_left
        · intro ww hSw
          (try dsimp only at hSw)
          go_simp
          (try with_reducible rfl)
        simp only [Act.put, List.setIfInBounds_toArray, List.set_cons_zero, List.set_cons_succ]
        refine wpAnyH_take (i := 12) (oi := ⟨some 13, _, _, _, _, _⟩) (v := ?_) rfl (by kernel_rfl) (by kernel_rfl) (by kernel_rfl) (fun _ _ _ h => h) (Or.inl ⟨by rfl, ?_⟩) hHeld ?_
        rotate_left
        · intro ww hSw
          (try dsimp only at hSw)
          go_simp
          (try with_reducible rfl)
        simp only [Act.put, List.setIfInBounds_toArray, List.set_cons_zero, List.set_cons_succ]
        refine wpAnyH_take (i := 13) (oi := ⟨some 14, _, _, _, _, _⟩) (v := ?_) rfl (by kernel_rfl) (by kernel_rfl) (by kernel_rfl) (fun _ _ _ h => h) (Or.inl ⟨by rfl, ?_⟩) hHeld ?_
        rotate_left
        · intro ww hSw
          (try dsimp only at hSw)
          go_simp
          (try with_reducible rfl)
        simp only [Act.put, List.setIfInBounds_toArray, List.set_cons_zero, List.set_cons_succ]
        refine wpAnyH_done (by kernel_rfl) ?_ _
        refine NoPanic.normal ?_
        go_wp2_with fail
        go_meet
        refine ⟨A5, c5, by rw [hSB.out, hmb], by have h := HEND.out.1; rw [hSB.out, hmb] at h; exact h, HEND.out.2⟩
      case rest =>
        obtain ⟨A5, c5, rfl, hs5, hb5⟩ := hcut
        have HA2 := Lib.hid hs5
        replace HA := Lib.hid (HA.out.below hb5)
        replace HB := Lib.hid (HB.out.below hb5)
        replace HX := Lib.hid (HX.out.below hb5)
        replace HW := Lib.hid (bel_on HW.out hb5)
        clear hb5
        clear hs5
        obtain ⟨w5, hw5⟩ : ∃ w5, wc = w5 := ⟨_, rfl⟩
        subst hw5
        clear hSA hSB
        have hnl : NL.length = NL.length := rfl
        obtain ⟨mn, hmn⟩ : ∃ mn, NL.length = mn := ⟨_, rfl⟩
        replace hnl : (nearP lo hi SA).length = mn := by rw [hNL.out]; exact hmn
        have hmn' : mn ≤ 1000000 := by omega
        go_upto_region 11 with fail
        refine wp_region_noPanic ?_
        refine wp_region_held_drew (S := fun w' => Below wc.heap.size wc w') (by kernel_rfl) (below_drew (Below.refl _ _)) (fun hHeld => ?_)
        refine wpAnyH_take (i := 0) (oi := ⟨some 66, _, _, _, _, _⟩) (v := ?_) rfl (by kernel_rfl) (by kernel_rfl) (by kernel_rfl) (fun _ _ _ h => h) (Or.inl ⟨by rfl, ?_⟩) hHeld ?_
        rotate_left
        · intro ww hSw
          (try dsimp only at hSw)
          go_simp
          (try with_reducible rfl)
        simp only [Act.put, List.setIfInBounds_toArray, List.set_cons_zero, List.set_cons_succ]
        refine wpAnyH_take (i := 1) (oi := ⟨some 67, _, _, _, _, _⟩) (v := ?_) rfl (by kernel_rfl) (by kernel_rfl) (by kernel_rfl) (fun _ _ _ h => h) (Or.inl ⟨by rfl, ?_⟩) hHeld ?_
        rotate_left
        · intro ww hSw
          (try dsimp only at hSw)
          go_simp
          (try with_reducible rfl)
        simp only [Act.put, List.setIfInBounds_toArray, List.set_cons_zero, List.set_cons_succ]
        refine wpAnyH_take (i := 2) (oi := ⟨some 68, _, _, _, _, _⟩) (v := ?_) rfl (by kernel_rfl) (by kernel_rfl) (by kernel_rfl) (fun _ _ _ h => h) (Or.inl ⟨by rfl, ?_⟩) hHeld ?_
        rotate_left
        · intro ww hSw
          (try dsimp only at hSw)
          go_simp
          (try with_reducible rfl)
        simp only [Act.put, List.setIfInBounds_toArray, List.set_cons_zero, List.set_cons_succ]
        refine wpAnyH_take (i := 3) (oi := ⟨some 69, _, _, _, _, _⟩) (v := ?_) rfl (by kernel_rfl) (by kernel_rfl) (by kernel_rfl) (fun _ _ _ h => h) (Or.inl ⟨by rfl, ?_⟩) hHeld ?_
        rotate_left
        · intro ww hSw
          (try dsimp only at hSw)
          go_simp
          (try with_reducible rfl)
        simp only [Act.put, List.setIfInBounds_toArray, List.set_cons_zero, List.set_cons_succ]
        refine wpAnyH_take (i := 4) (oi := ⟨some 70, _, _, _, _, _⟩) (v := .int .i64 e.tm) rfl (by kernel_rfl) (by kernel_rfl) (by kernel_rfl) (fun _ _ _ h => h) (Or.inl ⟨by rfl, ?_⟩) hHeld ?_
        · intro ww hSw
          (try dsimp only at hSw)
          have q := (HX.out.below hSw).cell 2 (show (evC e)[2]? = some (.int .i64 e.tm) from rfl)
          have qz := cell_lt q
          go_simp
        simp only [Act.put, List.setIfInBounds_toArray, List.set_cons_zero, List.set_cons_succ]
        refine wpAnyH_take (i := 5) (oi := ⟨some 71, _, _, _, _, _⟩) (v := ?_) rfl (by kernel_rfl) (by kernel_rfl) (by kernel_rfl) (fun _ _ _ h => h) (Or.inl ⟨by rfl, ?_⟩) hHeld ?_
        rotate_left
        · intro ww hSw
          (try dsimp only at hSw)
          go_simp
          (try with_reducible rfl)
        simp only [Act.put, List.setIfInBounds_toArray, List.set_cons_zero, List.set_cons_succ]
        refine wpAnyH_take (i := 6) (oi := ⟨some 72, _, _, _, _, _⟩) (v := .int .i64 s.cap) rfl (by kernel_rfl) (by kernel_rfl) (by kernel_rfl) (fun _ _ _ h => h) (Or.inl ⟨by rfl, ?_⟩) hHeld ?_
        · intro ww hSw
          (try dsimp only at hSw)
          have q := (HB.out.below hSw).cell 9 HSK.out
          have qz := cell_lt q
          go_simp
        simp only [Act.put, List.setIfInBounds_toArray, List.set_cons_zero, List.set_cons_succ]
        refine wpAnyH_take (i := 7) (oi := ⟨some 73, _, _, _, _, _⟩) (v := ?_) rfl (by kernel_rfl) (by kernel_rfl) (by kernel_rfl) (fun _ _ _ h => h) (Or.inl ⟨by rfl, ?_⟩) hHeld ?_
        rotate_left
        · intro ww hSw
          (try dsimp only at hSw)
          go_simp
          (try with_reducible rfl)
        simp only [Act.put, List.setIfInBounds_toArray, List.set_cons_zero, List.set_cons_succ]
        refine wpAnyH_take (i := 8) (oi := ⟨some 74, _, _, _, _, _⟩) (v := .int .i64 s.unit) rfl (by kernel_rfl) (by kernel_rfl) (by kernel_rfl) (fun _ _ _ h => h) (Or.inl ⟨by rfl, ?_⟩) hHeld ?_
        · intro ww hSw
          (try dsimp only at hSw)
          have q := (HB.out.below hSw).cell 8 HSU.out
          have qz := cell_lt q
          go_simp
        simp only [Act.put, List.setIfInBounds_toArray, List.set_cons_zero, List.set_cons_succ]
        refine wpAnyH_take (i := 9) (oi := ⟨some 75, _, _, _, _, _⟩) (v := .int .i64 y) rfl (by kernel_rfl) (by kernel_rfl) (by kernel_rfl) (fun _ _ _ h => h) (Or.inl ⟨by rfl, ?_⟩) hHeld ?_
        · intro ww hSw
          (try dsimp only at hSw)
          have hy := HY.out
          go_simp
        simp only [Act.put, List.setIfInBounds_toArray, List.set_cons_zero, List.set_cons_succ]
        refine wpAnyH_take (i := 11) (oi := ⟨some 77, _, _, _, _, _⟩) (v := ?_) rfl (by kernel_rfl) (by kernel_rfl) (by kernel_rfl) (fun _ _ _ h => h) (Or.inl ⟨by rfl, ?_⟩) hHeld ?_
        rotate_left
        · intro ww hSw
          (try dsimp only at hSw)
          go_simp
          (try with_reducible rfl)
        simp only [Act.put, List.setIfInBounds_toArray, List.set_cons_zero, List.set_cons_succ]
        refine wpAnyH_take (i := 12) (oi := ⟨some 78, _, _, _, _, _⟩) (v := ?_) rfl (by kernel_rfl) (by kernel_rfl) (by kernel_rfl) (fun _ _ _ h => h) (Or.inl ⟨by rfl, ?_⟩) hHeld ?_
        rotate_left
        · intro ww hSw
          (try dsimp only at hSw)
          go_simp
          (try with_reducible rfl)
        simp only [Act.put, List.setIfInBounds_toArray, List.set_cons_zero, List.set_cons_succ]
        refine wpAnyH_take (i := 13) (oi := ⟨some 79, _, _, _, _, _⟩) (v := .int .i64 e.tm) rfl (by kernel_rfl) (by kernel_rfl) (by kernel_rfl) (fun _ _ _ h => h) (Or.inl ⟨by rfl, ?_⟩) hHeld ?_
        · intro ww hSw
          (try dsimp only at hSw)
          have q := (HX.out.below hSw).cell 2 (show (evC e)[2]? = some (.int .i64 e.tm) from rfl)
          have qz := cell_lt q
          go_simp
        simp only [Act.put, List.setIfInBounds_toArray, List.set_cons_zero, List.set_cons_succ]
        refine wpAnyH_take (i := 14) (oi := ⟨some 80, _, _, _, _, _⟩) (v := ?_) rfl (by kernel_rfl) (by kernel_rfl) (by kernel_rfl) (fun _ _ _ h => h) (Or.inl ⟨by rfl, ?_⟩) hHeld ?_
        rotate_left
        · intro ww hSw
          (try dsimp only at hSw)
          go_simp
          (try with_reducible rfl)
        simp only [Act.put, List.setIfInBounds_toArray, List.set_cons_zero, List.set_cons_succ]
        refine wpAnyH_take (i := 15) (oi := ⟨some 81, _, _, _, _, _⟩) (v := .int .i64 s.cap) rfl (by kernel_rfl) (by kernel_rfl) (by kernel_rfl) (fun _ _ _ h => h) (Or.inl ⟨by rfl, ?_⟩) hHeld ?_
        · intro ww hSw
          (try dsimp only at hSw)
          have q := (HB.out.below hSw).cell 9 HSK.out
          have qz := cell_lt q
          go_simp
        simp only [Act.put, List.setIfInBounds_toArray, List.set_cons_zero, List.set_cons_succ]
        refine wpAnyH_take (i := 16) (oi := ⟨some 82, _, _, _, _, _⟩) (v := ?_) rfl (by kernel_rfl) (by kernel_rfl) (by kernel_rfl) (fun _ _ _ h => h) (Or.inl ⟨by rfl, ?_⟩) hHeld ?_
        rotate_left
        · intro ww hSw
          (try dsimp only at hSw)
          go_simp
          (try with_reducible rfl)
        simp only [Act.put, List.setIfInBounds_toArray, List.set_cons_zero, List.set_cons_succ]
        refine wpAnyH_take (i := 17) (oi := ⟨some 83, _, _, _, _, _⟩) (v := .int .i64 s.unit) rfl (by kernel_rfl) (by kernel_rfl) (by kernel_rfl) (fun _ _ _ h => h) (Or.inl ⟨by rfl, ?_⟩) hHeld ?_
        · intro ww hSw
          (try dsimp only at hSw)
          have q := (HB.out.below hSw).cell 8 HSU.out
          have qz := cell_lt q
          go_simp
        simp only [Act.put, List.setIfInBounds_toArray, List.set_cons_zero, List.set_cons_succ]
        refine wpAnyH_take (i := 18) (oi := ⟨some 84, _, _, _, _, _⟩) (v := .int .i64 y) rfl (by kernel_rfl) (by kernel_rfl) (by kernel_rfl) (fun _ _ _ h => h) (Or.inl ⟨by rfl, ?_⟩) hHeld ?_
        · intro ww hSw
          (try dsimp only at hSw)
          have hy := HY.out
          go_simp
        simp only [Act.put, List.setIfInBounds_toArray, List.set_cons_zero, List.set_cons_succ]
        refine wpAnyH_ready (rs := [10]) (by kernel_rfl) (by simp) ?_
        refine AllReadyH.cons (o := ⟨some 76, _, _, _, _, _⟩) rfl (fun K hK => ?_) AllReadyH.nil
        go_simp
        go_at_call 20
        refine (near_any A4 ma c4 SA e.tm y lo hi _ (HA.out.below (below_drew (Below.refl _ _))) (by omega) HLO.out HHI.out HBD.out.1 HBD.out.2).mono ?_
        rintro e_r w6 ⟨A6, c6, rfl, hs6, hb6⟩
        have HB6 := Lib.hid (bel_on hHeld hb6)
        have HS6 := Lib.hid hs6
        rw [hnl] at HS6 ⊢
        clear hs6 hb6
        go_wp2_with fail
        refine hK.out _ _ ?_ (fun hHeld => ?_)
        · (try dsimp only)
          exact HB6.out
        clear hK K
        (try simp only [Act.put, List.setIfInBounds_toArray, List.set_cons_zero, List.set_cons_succ])
        refine wpAnyH_ready (rs := [19]) (by kernel_rfl) (by simp) ?_
        refine AllReadyH.cons (o := ⟨some 85, _, _, _, _, _⟩) rfl (fun K hK => ?_) AllReadyH.nil
        go_simp
        go_at_call 20
        refine (near_any A5 mb c5 SB e.tm y lo hi _ (HA2.out.below HB6.out) (by omega) HLO.out HHI.out HBD.out.1 HBD.out.2).mono ?_
        rw [← HNM.out]
        rintro e_r w7 ⟨A7, c7, rfl, hs7, hb7⟩
        have HB7 := Lib.hid (bel_on HB6.out hb7)
        have HS7 := Lib.hid hs7
        replace HS6 := Lib.hid (HS6.out.below hb7)
        rw [hnl] at HS7 ⊢
        clear hs7 hb7
        go_wp2_with fail
        refine hK.out _ _ ?_ (fun hHeld => ?_)
        · (try dsimp only)
          exact HB7.out
        clear hK K
        (try simp only [Act.put, List.setIfInBounds_toArray, List.set_cons_zero, List.set_cons_succ])
        refine wpAnyH_ready (rs := [20]) (by kernel_rfl) (by simp) ?_
        refine AllReadyH.cons (o := ⟨some 86, _, _, _, _, _⟩) rfl (fun K hK => ?_) AllReadyH.nil
        go_simp
        go_at_call 15
        refine (ssame_any _ _ _ _ _ (nearP lo hi SA) _ HS6.out HS7.out (by omega)).mono ?_
        rintro e_r w8 ⟨rfl, hb8⟩
        have HB8 := Lib.hid (bel_on HB7.out hb8)
        clear hb8
        go_wp2_with fail
        refine hK.out _ _ ?_ (fun hHeld => ?_)
        · (try dsimp only)
          exact HB8.out
        clear hK K
        (try simp only [Act.put, List.setIfInBounds_toArray, List.set_cons_zero, List.set_cons_succ])
        refine wpAnyH_take (i := 21) (oi := ⟨some 87, _, _, _, _, _⟩) (v := ?_) rfl (by kernel_rfl) (by kernel_rfl) (by kernel_rfl) (fun _ _ _ h => h) (Or.inl ⟨by rfl, ?_⟩) hHeld ?_
        rotate_left
        · intro ww hSw
          (try dsimp only at hSw)
          go_simp
          (try with_reducible rfl)
        simp only [Act.put, List.setIfInBounds_toArray, List.set_cons_zero, List.set_cons_succ]
        refine wpAnyH_take (i := 22) (oi := ⟨some 8, _, _, _, _, _⟩) (v := ?_) rfl (by kernel_rfl) (by kernel_rfl) (by kernel_rfl) (fun _ _ _ h => h) (Or.inl ⟨by rfl, ?_⟩) hHeld ?_
        rotate_left
        · intro ww hSw
          (try dsimp only at hSw)
          go_simp
          (try with_reducible rfl)
        simp only [Act.put, List.setIfInBounds_toArray, List.set_cons_zero, List.set_cons_succ]
        refine wpAnyH_done (by kernel_rfl) ?_ _
        refine NoPanic.normal ?_
        replace HW := Lib.hid (bel_on HW.out HB8.out)
        go_wp2
        go_ret
        exact ⟨rfl, HW.out⟩
theorem streamNear_walk (s : SetP) (A1 A2 A3 A4 A5 A6 : Option Addr) (c1 c2 c3 c4 c5 c6 : Nat) (a1 : Option Addr) (len1 cap1 : Nat) (z1 : List EvP) (ev : EvP) (wk : Int) (w : World) (hs : SetAt w s A1 A2 A3 A4 A5 A6 c1 c2 c3 c4 c5 c6) (hf : s.Fit)
    (s1 : Evs w a1 len1 cap1 z1) (i1 : ∀ e ∈ z1, e.In) (l1 : len1 ≤ cap1) (l1' : cap1 ≤ 9223372036854775807) (iev : ev.In) (b1 : -9223372036854775808 ≤ wk) (b2 : wk ≤ 9223372036854775807) :
    Calls Try.prog 7 #[setV s A1 A2 A3 A4 A5 A6 c1 c2 c3 c4 c5 c6, .slice a1 len1 cap1, .agg (evC ev), .int .i64 wk] w fun e w' => e = .returned (.bool true) ∧ Below w.heap.size w w' := by
  obtain ⟨cs, hcs⟩ : ∃ cs, setV s A1 A2 A3 A4 A5 A6 c1 c2 c3 c4 c5 c6 = .agg cs := ⟨_, rfl⟩
  have hW := setW_of hcs hs hf
  rw [hcs]
  cases hF : decide (s.Few ∧ len1 ≤ 100) with
  | false => exact streamNear_no s cs w hW a1 len1 cap1 z1 s1 i1 ev iev wk hF
  | true =>
    cases hck : checkB s with
    | false => exact streamNear_nock s cs w hW a1 len1 cap1 z1 s1 i1 ev iev wk hF hck
    | true =>
      cases hec : decide (ev.May s.places s.elements.length s.classes.length s.gears.length s.rates.length) with
      | false => exact streamNear_noev s cs w hW a1 len1 cap1 z1 s1 i1 ev iev wk hF hck hec
      | true => exact streamNear_main s cs w hW a1 len1 cap1 z1 s1 i1 ev iev wk hF hck hec
end Go.Proofs.Ytbijaaglmhoopaa
