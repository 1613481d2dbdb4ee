/-
  The law StreamClock, walked.
-/
import Derived.Test.YtbijaaglmhoopaaZbd
namespace Go.Proofs.Ytbijaaglmhoopaa
open Go.RowKit
set_option linter.unusedVariables false
set_option linter.unusedSimpArgs false
set_option maxRecDepth 20000

theorem streamClock_no (s : SetP) (cs : Array Value) (w : World) (hW : SetW w s cs) (A : Option Addr) (n c : Nat) (l : List EvP) (h : Evs w A n c l) (hIn : ∀ e ∈ l, e.In) (wk : Int) (hF : decide (s.Few ∧ n ≤ 100) = false) :
    Calls Try.prog 6 #[.agg cs, .slice A n c, .int .i64 wk] w fun e w' => e = .returned (.bool true) ∧ Below w.heap.size w w' := by
  have HF := Lib.hid hF
  clear hF
  have HZ := Lib.hid hW.size
  have hb0 := bel_alloc (Below.refl w.heap.size w) (.cells cs 30)
  have HB := Lib.hid (Has.new w 30 cs rfl)
  have HS := Lib.hid (hW.below hb0)
  have HE := Lib.hid (h.below hb0)
  have HW := Lib.hid hb0
  have HIN := Lib.hid hIn
  clear hW h hb0 hIn
  go_enter Try.func6, Try.ntmps6
  go_wp2_with fail
  refine (awake12 _).mono ?_
  rintro e w1 ⟨rfl, b1⟩
  replace HB := Lib.hid (HB.out.below b1)
  replace HS := Lib.hid (HS.out.below b1)
  replace HE := Lib.hid (HE.out.below b1)
  replace HW := Lib.hid (bel_on HW.out b1)
  clear b1
  go_wp2_with (refine wpList_exec (o := ⟨some 16, _, _, _, _, _⟩) (by rfl) (exec_load_st _ rfl rfl HB.out HZ.out) ?_)
  refine (few12 s cs _ HS.out A n c _ HF.out).mono ?_
  rintro e w2 ⟨rfl, b2⟩
  replace HB := Lib.hid (HB.out.below b2)
  replace HS := Lib.hid (HS.out.below b2)
  replace HE := Lib.hid (HE.out.below b2)
  replace HW := Lib.hid (bel_on HW.out b2)
  clear b2
  go_wp2
  go_ret
  exact ⟨rfl, HW.out⟩
set_option maxHeartbeats 8000000 in
theorem streamClock_main (s : SetP) (cs : Array Value) (w : World) (hW : SetW w s cs) (A : Option Addr) (n c : Nat) (l : List EvP) (h : Evs w A n c l) (hIn : ∀ e ∈ l, e.In) (wk : Int) (hF : decide (s.Few ∧ n ≤ 100) = true) :
    Calls Try.prog 6 #[.agg cs, .slice A n c, .int .i64 wk] w fun e w' => e = .returned (.bool true) ∧ Below w.heap.size w w' := by
  have hn : n ≤ 100 := (of_decide_eq_true hF).2
  have mixed : Try.prog.follows Departure.mixedOrders = true := by kernel_rfl
  have HF := Lib.hid hF
  have HSU := Lib.hid hW.u
  have HSK := Lib.hid hW.k
  have HPS := Lib.hid (punch_seg s wk l)
  have HCP := Lib.hid (clock_punch s wk l)
  have HUP := Lib.hid (fun l => (segsOf_up s wk l).2)
  have HLE := Lib.hid (fun l => segsOf_len s wk l)
  have HFI := Lib.hid (fun l => segsOf_fit s wk l)
  have HMY : Hid (∀ l x, x ∈ segsOf s wk l → s.May) := fun l x hx => by
    unfold segsOf at hx
    split at hx
    · next h => exact check_iff.1 h
    · cases hx
  clear hF
  have HZ := Lib.hid hW.size
  have hb0 := bel_alloc (Below.refl w.heap.size w) (.cells cs 30)
  have HB := Lib.hid (Has.new w 30 cs rfl)
  have HS := Lib.hid (hW.below hb0)
  have HE := Lib.hid (h.below hb0)
  have HW := Lib.hid hb0
  have HIN := Lib.hid hIn
  clear hW h hb0 hIn
  go_enter Try.func6, Try.ntmps6
  go_wp2_with fail
  refine (awake12 _).mono ?_
  rintro e w1 ⟨rfl, b1⟩
  replace HB := Lib.hid (HB.out.below b1)
  replace HS := Lib.hid (HS.out.below b1)
  replace HE := Lib.hid (HE.out.below b1)
  replace HW := Lib.hid (bel_on HW.out b1)
  clear b1
  go_wp2_with (refine wpList_exec (o := ⟨some 16, _, _, _, _, _⟩) (by rfl) (exec_load_st _ rfl rfl HB.out HZ.out) ?_)
  refine (few12 s cs _ HS.out A n c _ HF.out).mono ?_
  rintro e w2 ⟨rfl, b2⟩
  replace HB := Lib.hid (HB.out.below b2)
  replace HS := Lib.hid (HS.out.below b2)
  replace HE := Lib.hid (HE.out.below b2)
  replace HW := Lib.hid (bel_on HW.out b2)
  clear b2
  have HLN := Lib.hid HE.out.2
  go_wp2
  go_loopg [8, 9] n (fun kx s8 s9 wr => ∃ (k q d : Nat) (B : Option Addr), s8 = .slice B q d ∧ s9 = .int .i64 k ∧ k + kx = n ∧ q ≤ k ∧ Hid (((l.take k).filter isPunch).length = q) ∧ Hid (ERow wr w2.heap.size B q d ((l.take k).filter isPunch)) ∧ Hid (Below w2.heap.size w2 wr))
  case atStart => exact ⟨0, 0, 0, none, rfl, rfl, by omega, by omega, Lib.hid (by simp), Lib.hid (by rw [List.take_zero]; exact TRow.nil _ _), Lib.hid (Below.refl _ _)⟩
  case round =>
    obtain ⟨k, q, d, B, rfl, rfl, hk, hqk, HQL, HR, HW3⟩ := hrel
    by_cases hlt : k < n
    · have HLr := Lib.hid (HE.out.below HW3.out)
      obtain ⟨ba, oa, rfl⟩ := HLr.out.form (by omega)
      obtain ⟨x, hx⟩ : ∃ x, l.getD k EvP.none = x := ⟨_, rfl⟩
      have HLD := Lib.hid (evs_load HLr.out (i := k) hlt)
      rw [hx] at HLD
      obtain ⟨-, -, -, z3, -⟩ := evs_num HLr.out hlt x hx
      have zl := cell_lt z3
      have HTK : Hid (l.take (k + 1) = l.take k ++ [x]) := by show _ = _; rw [← hx]; exact take_snoc_ev (by rw [HLN.out]; exact hlt)
      have i0 : (0 : Int) ≤ (k : Int) := by omega
      have i1 : (k : Int) < (n : Int) := by omega
      obtain ⟨xk, hxk⟩ : ∃ xk, Hid (x.kd = xk) := ⟨_, rfl⟩
      rw [hxk.out] at z3
      clear hx
      by_cases g1 : xk = 1
      · have g1' : (xk == 1) = true := by simpa using g1
        have hyes : isPunch x = true := by simp [isPunch, hxk.out, g1]
        have e1 : (l.take (k + 1)).filter isPunch = (l.take k).filter isPunch ++ [x] := by rw [HTK.out, List.filter_append, List.filter_cons_of_pos hyes]; simp
        have HE1 := Lib.hid e1
        obtain ⟨A9, c9, w9, hr9, row9, bel9, keep9⟩ := erow_append (HR.out.alloc (.cells (evC x) 39)) (evs_one wr x) (show q + 1 ≤ 100000 by omega) (bel_alloc HW3.out _).size (k := q + 1) rfl
        have HR9 := Lib.hid hr9
        have HW9 := Lib.hid (bel9 w2 (Nat.le_refl _) (bel_alloc HW3.out _))
        have HRW9 := Lib.hid row9
        clear hr9 row9 bel9 keep9 hyes e1
        clear g1
        go_wp2_with (first | refine wpList_exec (o := ⟨some 45, _, _, _, _, _⟩) rfl (exec_load_at _ rfl rfl HLD.out) ?_ | refine wpList_build_e (o := ⟨some 46, _, _, _, _, _⟩) rfl x rfl rfl ?_ | (at_builtin; refine wpList_append_run (o := ⟨some 47, _, _, _, _, _⟩) HR9.out rfl rfl rfl rfl ?_))
        go_roundg (n - (k + 1))
        case measure => omega
        case rel => exact ⟨k + 1, q + 1, c9, A9, rfl, by go_num, by omega, by omega, Lib.hid (by rw [HE1.out, List.length_append, HQL.out]; rfl), Lib.hid (by rw [HE1.out]; exact HRW9.out), HW9⟩
      · have g1' : (xk == 1) = false := beq_eq_false_iff_ne.2 g1
        by_cases g2 : xk = 2
        · have g2' : (xk == 2) = true := by simpa using g2
          have hyes : isPunch x = true := by simp [isPunch, hxk.out, g2]
          have e1 : (l.take (k + 1)).filter isPunch = (l.take k).filter isPunch ++ [x] := by rw [HTK.out, List.filter_append, List.filter_cons_of_pos hyes]; simp
          have HE1 := Lib.hid e1
          obtain ⟨A9, c9, w9, hr9, row9, bel9, keep9⟩ := erow_append (HR.out.alloc (.cells (evC x) 39)) (evs_one wr x) (show q + 1 ≤ 100000 by omega) (bel_alloc HW3.out _).size (k := q + 1) rfl
          have HR9 := Lib.hid hr9
          have HW9 := Lib.hid (bel9 w2 (Nat.le_refl _) (bel_alloc HW3.out _))
          have HRW9 := Lib.hid row9
          clear hr9 row9 bel9 keep9 hyes e1
          clear g1 g2
          go_wp2_with (first | refine wpList_exec (o := ⟨some 45, _, _, _, _, _⟩) rfl (exec_load_at _ rfl rfl HLD.out) ?_ | refine wpList_build_e (o := ⟨some 46, _, _, _, _, _⟩) rfl x rfl rfl ?_ | (at_builtin; refine wpList_append_run (o := ⟨some 47, _, _, _, _, _⟩) HR9.out rfl rfl rfl rfl ?_))
          go_roundg (n - (k + 1))
          case measure => omega
          case rel => exact ⟨k + 1, q + 1, c9, A9, rfl, by go_num, by omega, by omega, Lib.hid (by rw [HE1.out, List.length_append, HQL.out]; rfl), Lib.hid (by rw [HE1.out]; exact HRW9.out), HW9⟩
        · have g2' : (xk == 2) = false := beq_eq_false_iff_ne.2 g2
          have hno : isPunch x = false := by simp [isPunch, hxk.out, g1, g2]
          have e1 : (l.take (k + 1)).filter isPunch = (l.take k).filter isPunch := by rw [HTK.out, List.filter_append, List.filter_cons_of_neg (by rw [hno]; simp)]; simp
          have HE1 := Lib.hid e1
          clear hno e1 g1 g2
          go_wp2
          go_roundg (n - (k + 1))
          case measure => omega
          case rel => exact ⟨k + 1, q, d, B, rfl, by go_num, by omega, by omega, Lib.hid (by rw [HE1.out]; exact HQL.out), Lib.hid (by rw [HE1.out]; exact HR.out), HW3⟩
    · obtain rfl : k = n := by omega
      have eT : l.take k = l := by rw [← HLN.out]; exact List.take_length
      rw [eT] at HQL HR
      have HPE := Lib.hid (HR.out.evs HQL.out)
      have HPI : Hid (∀ e ∈ l.filter isPunch, e.In) := fun e he => HIN.out e (List.mem_filter.1 he).1
      have hb3 := HW3.out
      replace HB := Lib.hid (HB.out.below hb3)
      replace HS := Lib.hid (HS.out.below hb3)
      replace HE := Lib.hid (HE.out.below hb3)
      replace HW := Lib.hid (bel_on HW.out hb3)
      clear hb3
      clear HR HW3 eT
      go_wp2_with (refine wpList_exec (o := ⟨some 49, _, _, _, _, _⟩) (by rfl) (exec_load_st _ rfl rfl HB.out HZ.out) ?_)
      refine (stream_any s cs _ HS.out A k c l HE.out (by omega) HIN.out wk).mono ?_
      intro e w4 hg
      obtain ⟨A4, c4, B4, d4, rfl, hs2, hf2, hb2⟩ := hg.two
      have HA := Lib.hid hs2
      have HFA := Lib.hid hf2
      clear hg hs2 hf2
      replace HB := Lib.hid (HB.out.below hb2)
      replace HS := Lib.hid (HS.out.below hb2)
      replace HPE := Lib.hid (HPE.out.below hb2)
      replace HW := Lib.hid (bel_on HW.out hb2)
      clear hb2
      go_wp2_with (refine wpList_exec (o := ⟨some 56, _, _, _, _, _⟩) (by rfl) (exec_load_st _ rfl rfl HB.out HZ.out) ?_)
      refine (stream_any s cs _ HS.out B q d (l.filter isPunch) HPE.out (by omega) HPI.out wk).mono ?_
      intro e w5 hg
      obtain ⟨A5, c5, B5, d5, rfl, hs2, hf2, hb2⟩ := hg.two
      have HA2 := Lib.hid hs2
      have HFA2 := Lib.hid hf2
      clear hg hs2 hf2
      replace HB := Lib.hid (HB.out.below hb2)
      replace HS := Lib.hid (HS.out.below hb2)
      replace HA := Lib.hid (HA.out.below hb2)
      replace HW := Lib.hid (bel_on HW.out hb2)
      clear hb2
      have hl1 := HLE.out l
      have hl2 := HLE.out (l.filter isPunch)
      have hfl : (l.filter isPunch).length ≤ 100 := by rw [HQL.out]; omega
      have hla := HLN.out
      obtain ⟨SA, hSA⟩ : ∃ SA, Hid (segsOf s wk l = SA) := ⟨_, rfl⟩
      obtain ⟨SB, hSB⟩ : ∃ SB, Hid (segsOf s wk (l.filter isPunch) = SB) := ⟨_, rfl⟩
      rw [hSB.out] at HPS hl2
      rw [hSA.out, hSB.out] at HCP
      have HUB := Lib.hid (HUP.out (l.filter isPunch))
      have HFB := Lib.hid (HFI.out (l.filter isPunch))
      have HFA1 := Lib.hid (HFI.out l)
      have HMB := Lib.hid (HMY.out (l.filter isPunch))
      rw [hSB.out] at HUB HFB HMB HA2
      rw [hSA.out] at HFA1 HA hl1
      rw [hSA.out, hSB.out]
      obtain ⟨ma, hma⟩ : ∃ ma, SA.length = ma := ⟨_, rfl⟩
      obtain ⟨mb, hmb⟩ : ∃ mb, SB.length = mb := ⟨_, rfl⟩
      have hma' : ma ≤ 100 := by omega
      have hmb' : mb ≤ 100 := by omega
      rw [hma] at HA
      rw [hmb] at HA2
      rw [hma, hmb]
      clear hSA hSB hl1 hl2 hfl hla HUP HLE HFI HMY HFA HFA2 HPE HPI HQL hma
      go_wp2
      go_loopg [14] mb (fun kx s14 wr => ∃ j : Nat, s14 = .int .i64 j ∧ j + kx = mb ∧ Hid (Below w5.heap.size w5 wr))
      case atStart => exact ⟨0, rfl, by omega, Lib.hid (Below.refl _ _)⟩
      case round =>
        obtain ⟨j, rfl, hj, HW6⟩ := hrel
        by_cases hlt : j < mb
        · have HLr := Lib.hid (HA2.out.below HW6.out)
          obtain ⟨ba, oa, rfl⟩ := HLr.out.form (by omega)
          obtain ⟨x, hx⟩ : ∃ x, SB.getD j SegP.none = x := ⟨_, rfl⟩
          obtain ⟨z0, z1, z2, -, -⟩ := segs_num HLr.out hlt x hx
          have zl := cell_lt z0
          have hxm : x ∈ SB := by
            rw [← hx, List.getD_eq_getElem?_getD, List.getElem?_eq_getElem (by omega), Option.getD_some]
            exact List.getElem_mem _
          have hp := HPS.out x hxm
          have hu := HUB.out x hxm
          have hm := HMB.out x hxm
          have hm1 := hm.unit
          have hm2 := hm.cap
          have HBr := HB.out.below HW6.out
          have q8 := HBr.cell 8 HSU.out
          have q9 := HBr.cell 9 HSK.out
          have z8 := cell_lt q8
          have i0 : (0 : Int) ≤ (j : Int) := by omega
          have i1 : (j : Int) < (mb : Int) := by omega
          obtain ⟨v, hv⟩ : ∃ v, x.to - x.fr = v := ⟨_, rfl⟩
          obtain ⟨y, hy⟩ : ∃ y, s.cap + s.unit = y := ⟨_, rfl⟩
          have e1 : IntKind.i64.wrap (x.to - x.fr) = v := by rw [hv]; exact wrapw_id (by omega) (by omega)
          have e2 : IntKind.i64.wrap (s.cap + s.unit) = y := by rw [hy]; exact wrapw_id (by omega) (by omega)
          have e3 : ¬ y < v := by omega
          rw [hp.1] at z2
          clear hx hxm hp hu hm hm1 hm2 hv hy HBr
          go_wp2
          go_quiet (fail)
          go_wp2
          go_roundg (mb - (j + 1))
          case measure => omega
          case rel => exact ⟨j + 1, by go_num, by omega, Lib.hid (below_drewN HW6.out _)⟩
        · obtain rfl : j = mb := by omega
          have hb6 := HW6.out
          replace HA := Lib.hid (HA.out.below hb6)
          replace HA2 := Lib.hid (HA2.out.below hb6)
          replace HW := Lib.hid (bel_on HW.out hb6)
          obtain ⟨v, hv⟩ : ∃ v, clockP SA = v := ⟨_, rfl⟩
          have C1 := Lib.hid (fun W hA => sclock_any A4 ma c4 SA W hA (by omega) HFA1.out)
          have C2 := Lib.hid (fun W hA => sclock_any A5 j c5 SB W hA (by omega) HFB.out)
          rw [HCP.out] at C2
          rw [hv] at C1 C2
          have hfv : Fits v := by rw [← hv]; exact Fits.canon _
          have hlv : v.length ≤ 32054401 := by rw [← hv]; exact canon_len _
          replace hfv := Lib.hid hfv
          clear hb6 HW6 hv
          go_wp2_with fail
          refine (C1.out _ HA.out).mono ?_
          rintro e w7 ⟨D7, d7, rfl, r7, b7⟩
          have HX := Lib.hid (r7.spans hfv.out)
          replace HA2 := Lib.hid (HA2.out.below b7)
          replace HW := Lib.hid (bel_on HW.out b7)
          clear b7 r7
          go_wp2_with fail
          refine (C2.out _ HA2.out).mono ?_
          rintro e w8 ⟨D8, d8, rfl, r8, b8⟩
          have HY := Lib.hid (r8.spans hfv.out)
          replace HX := Lib.hid (HX.out.below b8)
          replace HW := Lib.hid (bel_on HW.out b8)
          clear b8 r8
          go_wp2_with fail
          refine (same_any _ _ _ _ v _ HX.out HY.out (by omega)).mono ?_
          rintro e w9 ⟨rfl, b9⟩
          replace HW := Lib.hid (bel_on HW.out b9)
          clear b9
          go_wp2
          go_ret
          exact ⟨rfl, HW.out⟩
theorem streamClock_walk (s : SetP) (A1 A2 A3 A4 A5 A6 : Option Addr) (c1 c2 c3 c4 c5 c6 : Nat) (a1 : Option Addr) (len1 cap1 : Nat) (z1 : List EvP) (wk : Int) (w : World) (hs : SetAt w s A1 A2 A3 A4 A5 A6 c1 c2 c3 c4 c5 c6) (hf : s.Fit)
    (s1 : Evs w a1 len1 cap1 z1) (i1 : ∀ e ∈ z1, e.In) (l1 : len1 ≤ cap1) (l1' : cap1 ≤ 9223372036854775807) (b1 : -9223372036854775808 ≤ wk) (b2 : wk ≤ 9223372036854775807) :
    Calls Try.prog 6 #[setV s A1 A2 A3 A4 A5 A6 c1 c2 c3 c4 c5 c6, .slice a1 len1 cap1, .int .i64 wk] w fun e w' => e = .returned (.bool true) ∧ Below w.heap.size w w' := by
  obtain ⟨cs, hcs⟩ : ∃ cs, setV s A1 A2 A3 A4 A5 A6 c1 c2 c3 c4 c5 c6 = .agg cs := ⟨_, rfl⟩
  have hW := setW_of hcs hs hf
  rw [hcs]
  cases hF : decide (s.Few ∧ len1 ≤ 100) with
  | false => exact streamClock_no s cs w hW a1 len1 cap1 z1 s1 i1 wk hF
  | true => exact streamClock_main s cs w hW a1 len1 cap1 z1 s1 i1 wk hF
end Go.Proofs.Ytbijaaglmhoopaa
