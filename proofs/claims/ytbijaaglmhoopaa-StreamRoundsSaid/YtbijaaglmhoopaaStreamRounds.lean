/-
  The law StreamRounds, walked.
-/
import Derived.Test.YtbijaaglmhoopaaZbd
namespace Go.Proofs.Ytbijaaglmhoopaa
open Go.RowKit
set_option linter.unusedVariables false
set_option linter.unusedSimpArgs false
set_option maxRecDepth 20000

theorem streamRounds_no (s : SetP) (cs : Array Value) (w : World) (hW : SetW w s cs) (A : Option Addr) (n c : Nat) (l : List EvP) (h : Evs w A n c l) (hIn : ∀ e ∈ l, e.In) (wk : Int) (hF : decide (s.Few ∧ n ≤ 100) = false) :
    Calls Try.prog 8 #[.agg cs, .slice A n c, .int .i64 wk] w fun e w' => e = .returned (.bool true) ∧ Below w.heap.size w w' := by
  have HF := Lib.hid hF
  clear hF
  have HZ := Lib.hid hW.size
  have hb0 := bel_alloc (Below.refl w.heap.size w) (.cells cs 30)
  have HB := Lib.hid (Has.new w 30 cs rfl)
  have HS := Lib.hid (hW.below hb0)
  have HE := Lib.hid (h.below hb0)
  have HW := Lib.hid hb0
  have HIN := Lib.hid hIn
  clear hW h hb0 hIn
  go_enter Try.func8, Try.ntmps8
  go_wp2_with fail
  refine (awake12 _).mono ?_
  rintro e w1 ⟨rfl, b1⟩
  replace HB := Lib.hid (HB.out.below b1)
  replace HS := Lib.hid (HS.out.below b1)
  replace HE := Lib.hid (HE.out.below b1)
  replace HW := Lib.hid (bel_on HW.out b1)
  clear b1
  go_wp2_with (refine wpList_exec (o := ⟨some 19, _, _, _, _, _⟩) (by rfl) (exec_load_st _ rfl rfl HB.out HZ.out) ?_)
  refine (few12 s cs _ HS.out A n c _ HF.out).mono ?_
  rintro e w2 ⟨rfl, b2⟩
  replace HB := Lib.hid (HB.out.below b2)
  replace HS := Lib.hid (HS.out.below b2)
  replace HE := Lib.hid (HE.out.below b2)
  replace HW := Lib.hid (bel_on HW.out b2)
  clear b2
  go_wp2
  go_ret
  exact ⟨rfl, HW.out⟩
theorem streamRounds_nock (s : SetP) (cs : Array Value) (w : World) (hW : SetW w s cs) (A : Option Addr) (n c : Nat) (l : List EvP) (h : Evs w A n c l) (hIn : ∀ e ∈ l, e.In) (wk : Int) (hF : decide (s.Few ∧ n ≤ 100) = true) (hck : checkB s = false) :
    Calls Try.prog 8 #[.agg cs, .slice A n c, .int .i64 wk] w fun e w' => e = .returned (.bool true) ∧ Below w.heap.size w w' := by
  have HF := Lib.hid hF
  have HCK := Lib.hid hck
  have HFT := Lib.hid hW.f
  clear hF hck
  have HZ := Lib.hid hW.size
  have hb0 := bel_alloc (Below.refl w.heap.size w) (.cells cs 30)
  have HB := Lib.hid (Has.new w 30 cs rfl)
  have HS := Lib.hid (hW.below hb0)
  have HE := Lib.hid (h.below hb0)
  have HW := Lib.hid hb0
  have HIN := Lib.hid hIn
  clear hW h hb0 hIn
  go_enter Try.func8, Try.ntmps8
  go_wp2_with fail
  refine (awake12 _).mono ?_
  rintro e w1 ⟨rfl, b1⟩
  replace HB := Lib.hid (HB.out.below b1)
  replace HS := Lib.hid (HS.out.below b1)
  replace HE := Lib.hid (HE.out.below b1)
  replace HW := Lib.hid (bel_on HW.out b1)
  clear b1
  go_wp2_with (refine wpList_exec (o := ⟨some 19, _, _, _, _, _⟩) (by rfl) (exec_load_st _ rfl rfl HB.out HZ.out) ?_)
  refine (few12 s cs _ HS.out A n c _ HF.out).mono ?_
  rintro e w2 ⟨rfl, b2⟩
  replace HB := Lib.hid (HB.out.below b2)
  replace HS := Lib.hid (HS.out.below b2)
  replace HE := Lib.hid (HE.out.below b2)
  replace HW := Lib.hid (bel_on HW.out b2)
  clear b2
  go_wp2_with (refine wpList_exec (o := ⟨some 24, _, _, _, _, _⟩) (by rfl) (exec_load_st _ rfl rfl HB.out HZ.out) ?_)
  refine (scheck_c HS.out.c HFT.out _ HCK.out).mono ?_
  rintro e w3 ⟨rfl, b3⟩
  replace HB := Lib.hid (HB.out.below b3)
  replace HS := Lib.hid (HS.out.below b3)
  replace HE := Lib.hid (HE.out.below b3)
  replace HW := Lib.hid (bel_on HW.out b3)
  clear b3
  go_wp2
  go_ret
  exact ⟨rfl, HW.out⟩
set_option maxHeartbeats 16000000 in
theorem streamRounds_main (s : SetP) (cs : Array Value) (w : World) (hW : SetW w s cs) (A : Option Addr) (n c : Nat) (l : List EvP) (h : Evs w A n c l) (hIn : ∀ e ∈ l, e.In) (wk : Int) (hF : decide (s.Few ∧ n ≤ 100) = true) (hck : checkB s = true) :
    Calls Try.prog 8 #[.agg cs, .slice A n c, .int .i64 wk] w fun e w' => e = .returned (.bool true) ∧ Below w.heap.size w w' := by
  have hn : n ≤ 100 := (of_decide_eq_true hF).2
  have hM := check_iff.1 hck
  have HF := Lib.hid hF
  have HCK := Lib.hid hck
  have HFT := Lib.hid hW.f
  have HSU := Lib.hid hW.u
  have HSO := Lib.hid hW.q.one
  have HRN := Lib.hid (rounds_same hM wk l)
  have HLE := Lib.hid (segsOf_len s wk (l.filter isPunch))
  have HLE1 := Lib.hid (segsOf_len { s with unit := 1 } wk (l.filter isPunch))
  have hun := hM.unit
  obtain ⟨un, hun2⟩ : ∃ un, s.unit = un := ⟨_, rfl⟩
  rw [hun2] at hun HSU HRN
  have CR := Lib.hid (fun t W => round_bel t un (roundP t un) W (by omega) rfl)
  clear hF hck hM hun hun2
  have HZ := Lib.hid hW.size
  have hb0 := bel_alloc (Below.refl w.heap.size w) (.cells cs 30)
  have HB := Lib.hid (Has.new w 30 cs rfl)
  have HS := Lib.hid (hW.below hb0)
  have HE := Lib.hid (h.below hb0)
  have HW := Lib.hid hb0
  have HIN := Lib.hid hIn
  clear hW h hb0 hIn
  go_enter Try.func8, Try.ntmps8
  go_wp2_with fail
  refine (awake12 _).mono ?_
  rintro e w1 ⟨rfl, b1⟩
  replace HB := Lib.hid (HB.out.below b1)
  replace HS := Lib.hid (HS.out.below b1)
  replace HE := Lib.hid (HE.out.below b1)
  replace HW := Lib.hid (bel_on HW.out b1)
  clear b1
  go_wp2_with (refine wpList_exec (o := ⟨some 19, _, _, _, _, _⟩) (by rfl) (exec_load_st _ rfl rfl HB.out HZ.out) ?_)
  refine (few12 s cs _ HS.out A n c _ HF.out).mono ?_
  rintro e w2 ⟨rfl, b2⟩
  replace HB := Lib.hid (HB.out.below b2)
  replace HS := Lib.hid (HS.out.below b2)
  replace HE := Lib.hid (HE.out.below b2)
  replace HW := Lib.hid (bel_on HW.out b2)
  clear b2
  go_wp2_with (refine wpList_exec (o := ⟨some 24, _, _, _, _, _⟩) (by rfl) (exec_load_st _ rfl rfl HB.out HZ.out) ?_)
  refine (scheck_c HS.out.c HFT.out _ HCK.out).mono ?_
  rintro e w3 ⟨rfl, b3⟩
  replace HB := Lib.hid (HB.out.below b3)
  replace HS := Lib.hid (HS.out.below b3)
  replace HE := Lib.hid (HE.out.below b3)
  replace HW := Lib.hid (bel_on HW.out b3)
  clear b3
  go_upto_region 5 with (first | refine wpList_exec (o := ⟨some 29, _, _, _, _, _⟩) (by rfl) (exec_load_st _ rfl rfl HB.out HZ.out) ?_ | refine wpList_laidS cs 8 _ _ rfl rfl rfl rfl rfl rfl rfl rfl HZ.out HSO.out ?_)
  have HB4 : Hid (Has (w3.alloc (.cells cs 30)) w3.heap.size cs) := Has.new w3 _ _ rfl
  have hb4 := bel_alloc (Below.refl w3.heap.size w3) (.cells cs 30)
  have HB5 := Lib.hid (bel_set hb4 (p := ⟨w3.heap.size, 8, none⟩) (Nat.le_refl _) (.int .i64 1))
  obtain ⟨g4, hg4⟩ : ∃ g4, Hid (w3.heap.size = g4) := ⟨_, rfl⟩
  rw [hg4.out] at HB4
  have HB6 : Hid (Below w3.heap.size w3 ((w3.alloc (.cells cs 30)).setCell ⟨g4, 8, none⟩ (.int .i64 1))) := by
    rw [← hg4.out]
    exact HB5.out
  rw [hg4.out]
  generalize w3.alloc (.cells cs 30) = w4 at *
  have q8 := HB4.out.cell 8 HSU.out
  have f8 := HB4.out.frozen 8
  have z8 := cell_lt q8
  have HB1 : Hid (Has (w4.setCell ⟨g4, 8, none⟩ (.int .i64 1)) g4 (cs.setIfInBounds 8 (.int .i64 1))) := HB4.out.set 8 _
  have hb5 := HB6.out
  replace HB := Lib.hid (HB.out.below hb5)
  replace HS := Lib.hid (HS.out.below hb5)
  replace HE := Lib.hid (HE.out.below hb5)
  replace HW := Lib.hid (bel_on HW.out hb5)
  have HS1 := Lib.hid (unit1 HS.out)
  have HZ1 := Lib.hid HS1.out.size
  clear hb4 hb5 HB5 HB6 hg4 HB4
  go_upto_region 8 with fail
  generalize w4.setCell ⟨g4, 8, none⟩ (.int .i64 1) = w5 at *
  clear q8 f8 z8
  have HLN := Lib.hid HE.out.2
  go_wp2
  go_loopg [9, 10] n (fun kx s8 s9 wr => ∃ (k q d : Nat) (B : Option Addr), s8 = .slice B q d ∧ s9 = .int .i64 k ∧ k + kx = n ∧ q ≤ k ∧ Hid (((l.take k).filter isPunch).length = q) ∧ Hid (ERow wr w5.heap.size B q d ((l.take k).filter isPunch)) ∧ Hid (Below w5.heap.size w5 wr))
  case atStart => exact ⟨0, 0, 0, none, rfl, rfl, by omega, by omega, Lib.hid (by simp), Lib.hid (by rw [List.take_zero]; exact TRow.nil _ _), Lib.hid (Below.refl _ _)⟩
  case round =>
    obtain ⟨k, q, d, B, rfl, rfl, hk, hqk, HQL, HR, HW3⟩ := hrel
    by_cases hlt : k < n
    · have HLr := Lib.hid (HE.out.below HW3.out)
      obtain ⟨ba, oa, rfl⟩ := HLr.out.form (by omega)
      obtain ⟨x, hx⟩ : ∃ x, l.getD k EvP.none = x := ⟨_, rfl⟩
      have HLD := Lib.hid (evs_load HLr.out (i := k) hlt)
      rw [hx] at HLD
      obtain ⟨-, -, -, z3, -⟩ := evs_num HLr.out hlt x hx
      have zl := cell_lt z3
      have HTK : Hid (l.take (k + 1) = l.take k ++ [x]) := by show _ = _; rw [← hx]; exact take_snoc_ev (by rw [HLN.out]; exact hlt)
      have i0 : (0 : Int) ≤ (k : Int) := by omega
      have i1 : (k : Int) < (n : Int) := by omega
      obtain ⟨xk, hxk⟩ : ∃ xk, Hid (x.kd = xk) := ⟨_, rfl⟩
      rw [hxk.out] at z3
      clear hx
      by_cases g1 : xk = 1
      · have g1' : (xk == 1) = true := by simpa using g1
        have hyes : isPunch x = true := by simp [isPunch, hxk.out, g1]
        have e1 : (l.take (k + 1)).filter isPunch = (l.take k).filter isPunch ++ [x] := by rw [HTK.out, List.filter_append, List.filter_cons_of_pos hyes]; simp
        have HE1 := Lib.hid e1
        obtain ⟨A9, c9, w9, hr9, row9, bel9, keep9⟩ := erow_append (HR.out.alloc (.cells (evC x) 39)) (evs_one wr x) (show q + 1 ≤ 100000 by omega) (bel_alloc HW3.out _).size (k := q + 1) rfl
        have HR9 := Lib.hid hr9
        have HW9 := Lib.hid (bel9 w5 (Nat.le_refl _) (bel_alloc HW3.out _))
        have HRW9 := Lib.hid row9
        clear hr9 row9 bel9 keep9 hyes e1
        clear g1
        go_wp2_with (first | refine wpList_exec (o := ⟨some 55, _, _, _, _, _⟩) rfl (exec_load_at _ rfl rfl HLD.out) ?_ | refine wpList_build_e (o := ⟨some 56, _, _, _, _, _⟩) rfl x rfl rfl ?_ | (at_builtin; refine wpList_append_run (o := ⟨some 57, _, _, _, _, _⟩) HR9.out rfl rfl rfl rfl ?_))
        go_roundg (n - (k + 1))
        case measure => omega
        case rel => exact ⟨k + 1, q + 1, c9, A9, rfl, by go_num, by omega, by omega, Lib.hid (by rw [HE1.out, List.length_append, HQL.out]; rfl), Lib.hid (by rw [HE1.out]; exact HRW9.out), HW9⟩
      · have g1' : (xk == 1) = false := beq_eq_false_iff_ne.2 g1
        by_cases g2 : xk = 2
        · have g2' : (xk == 2) = true := by simpa using g2
          have hyes : isPunch x = true := by simp [isPunch, hxk.out, g2]
          have e1 : (l.take (k + 1)).filter isPunch = (l.take k).filter isPunch ++ [x] := by rw [HTK.out, List.filter_append, List.filter_cons_of_pos hyes]; simp
          have HE1 := Lib.hid e1
          obtain ⟨A9, c9, w9, hr9, row9, bel9, keep9⟩ := erow_append (HR.out.alloc (.cells (evC x) 39)) (evs_one wr x) (show q + 1 ≤ 100000 by omega) (bel_alloc HW3.out _).size (k := q + 1) rfl
          have HR9 := Lib.hid hr9
          have HW9 := Lib.hid (bel9 w5 (Nat.le_refl _) (bel_alloc HW3.out _))
          have HRW9 := Lib.hid row9
          clear hr9 row9 bel9 keep9 hyes e1
          clear g1 g2
          go_wp2_with (first | refine wpList_exec (o := ⟨some 55, _, _, _, _, _⟩) rfl (exec_load_at _ rfl rfl HLD.out) ?_ | refine wpList_build_e (o := ⟨some 56, _, _, _, _, _⟩) rfl x rfl rfl ?_ | (at_builtin; refine wpList_append_run (o := ⟨some 57, _, _, _, _, _⟩) HR9.out rfl rfl rfl rfl ?_))
          go_roundg (n - (k + 1))
          case measure => omega
          case rel => exact ⟨k + 1, q + 1, c9, A9, rfl, by go_num, by omega, by omega, Lib.hid (by rw [HE1.out, List.length_append, HQL.out]; rfl), Lib.hid (by rw [HE1.out]; exact HRW9.out), HW9⟩
        · have g2' : (xk == 2) = false := beq_eq_false_iff_ne.2 g2
          have hno : isPunch x = false := by simp [isPunch, hxk.out, g1, g2]
          have e1 : (l.take (k + 1)).filter isPunch = (l.take k).filter isPunch := by rw [HTK.out, List.filter_append, List.filter_cons_of_neg (by rw [hno]; simp)]; simp
          have HE1 := Lib.hid e1
          clear hno e1 g1 g2
          go_wp2
          go_roundg (n - (k + 1))
          case measure => omega
          case rel => exact ⟨k + 1, q, d, B, rfl, by go_num, by omega, by omega, Lib.hid (by rw [HE1.out]; exact HQL.out), Lib.hid (by rw [HE1.out]; exact HR.out), HW3⟩
    · obtain rfl : k = n := by omega
      have eT : l.take k = l := by rw [← HLN.out]; exact List.take_length
      rw [eT] at HQL HR
      have HPE := Lib.hid (HR.out.evs HQL.out)
      have HPI : Hid (∀ e ∈ l.filter isPunch, e.In) := fun e he => HIN.out e (List.mem_filter.1 he).1
      have hb3 := HW3.out
      replace HB := Lib.hid (HB.out.below hb3)
      replace HB1 := Lib.hid (HB1.out.below hb3)
      replace HS1 := Lib.hid (HS1.out.below hb3)
      replace HS := Lib.hid (HS.out.below hb3)
      replace HE := Lib.hid (HE.out.below hb3)
      replace HW := Lib.hid (bel_on HW.out hb3)
      clear hb3
      clear HR HW3 eT
      go_wp2_with (refine wpList_exec (o := ⟨some 59, _, _, _, _, _⟩) (by rfl) (exec_load_st _ rfl rfl HB1.out HZ1.out) ?_)
      refine (stream_any { s with unit := 1 } _ _ HS1.out B q d (l.filter isPunch) HPE.out (by omega) HPI.out wk).mono ?_
      intro e w6 hg
      obtain ⟨A4, c4, B4, d4, rfl, hs2, hf2, hb2⟩ := hg.two
      have HA := Lib.hid hs2
      have HFA := Lib.hid hf2
      clear hg hs2 hf2
      replace HB := Lib.hid (HB.out.below hb2)
      replace HS := Lib.hid (HS.out.below hb2)
      replace HPE := Lib.hid (HPE.out.below hb2)
      replace HW := Lib.hid (bel_on HW.out hb2)
      clear hb2
      go_wp2_with (refine wpList_exec (o := ⟨some 66, _, _, _, _, _⟩) (by rfl) (exec_load_st _ rfl rfl HB.out HZ.out) ?_)
      refine (stream_any s cs _ HS.out B q d (l.filter isPunch) HPE.out (by omega) HPI.out wk).mono ?_
      intro e w7 hg
      obtain ⟨A5, c5, B5, d5, rfl, hs2, hf2, hb2⟩ := hg.two
      have HA2 := Lib.hid hs2
      have HFA2 := Lib.hid hf2
      clear hg hs2 hf2
      replace HB := Lib.hid (HB.out.below hb2)
      replace HS := Lib.hid (HS.out.below hb2)
      replace HA := Lib.hid (HA.out.below hb2)
      replace HW := Lib.hid (bel_on HW.out hb2)
      clear hb2
      have hfl : (l.filter isPunch).length ≤ 100 := by rw [HQL.out]; omega
      have hl1 := HLE.out
      have hl2 := HLE1.out
      obtain ⟨SB, hSB⟩ : ∃ SB, Hid (segsOf s wk (l.filter isPunch) = SB) := ⟨_, rfl⟩
      obtain ⟨SA, hSA⟩ : ∃ SA, Hid (segsOf { s with unit := 1 } wk (l.filter isPunch) = SA) := ⟨_, rfl⟩
      rw [hSA.out] at HA HRN hl2
      rw [hSB.out] at HA2 HRN hl1
      rw [hSA.out, hSB.out]
      obtain ⟨ma, hma⟩ : ∃ ma, SA.length = ma := ⟨_, rfl⟩
      have hma' : ma ≤ 100 := by omega
      have hmb' : SB.length ≤ 100 := by omega
      rw [hma] at HA ⊢
      replace hmb' := Lib.hid hmb'
      clear hSA hSB hl1 hl2 hfl HLE HLE1 HFA HFA2 HPE HPI HQL HB1 HS1 HZ1 HFT HF HCK
      go_wp2
      go_loopg [15, 16] ma (fun kx s15 s16 wr => ∃ (j p e : Nat) (D : Option Addr), s15 = .slice D p e ∧ s16 = .int .i64 j ∧ j + kx = ma ∧ p ≤ j ∧ Hid (((SA.take j).flatMap (reR fun t => roundP t un)).length = p) ∧ Hid (SRow wr w7.heap.size D p e ((SA.take j).flatMap (reR fun t => roundP t un))) ∧ Hid (Below w7.heap.size w7 wr))
      case atStart => exact ⟨0, 0, 0, none, rfl, rfl, by omega, by omega, Lib.hid (by rw [List.take_zero]; rfl), Lib.hid (by rw [List.take_zero]; exact TRow.nil _ _), Lib.hid (Below.refl _ _)⟩
      case round =>
        obtain ⟨j, p, e, D, rfl, rfl, hj, hpj, HPL, HR, HW8⟩ := hrel
        by_cases hlt : j < ma
        · have HLr := Lib.hid (HA.out.below HW8.out)
          obtain ⟨ba, oa, rfl⟩ := HLr.out.form (by omega)
          obtain ⟨x, hx⟩ : ∃ x, SA.getD j SegP.none = x := ⟨_, rfl⟩
          obtain ⟨z0, z1, z2, z3, z4⟩ := segs_num HLr.out hlt x hx
          have zl := cell_lt z0
          have i0 : (0 : Int) ≤ (j : Int) := by omega
          have i1 : (j : Int) < (ma : Int) := by omega
          have HTK : Hid ((SA.take (j + 1)).flatMap (reR fun t => roundP t un) = (SA.take j).flatMap (reR fun t => roundP t un) ++ reR (fun t => roundP t un) x) := by
            show _ = _
            rw [take_snoc_sg (by omega), hx, List.flatMap_append]
            simp
          have hba := bel_alloc (Below.refl wr.heap.size wr) (.cells #[.int .i64 x.fr, .int .i64 x.to, .int .i64 x.kd, .int .i64 x.id, .int .i64 x.cd] 41)
          have HXA : Hid (Has (wr.alloc (.cells #[.int .i64 x.fr, .int .i64 x.to, .int .i64 x.kd, .int .i64 x.id, .int .i64 x.cd] 41)) wr.heap.size #[.int .i64 x.fr, .int .i64 x.to, .int .i64 x.kd, .int .i64 x.id, .int .i64 x.cd]) := Has.new wr _ _ rfl
          have HX1 := Lib.hid (bel_on HW8.out hba)
          have HBx := Lib.hid (HB.out.below HX1.out)
          have HRx := Lib.hid (HR.out.alloc (.cells #[.int .i64 x.fr, .int .i64 x.to, .int .i64 x.kd, .int .i64 x.id, .int .i64 x.cd] 41))
          have HGS : Hid (w7.heap.size ≤ wr.heap.size) := HW8.out.size
          have HRG : Hid (∀ a, (some ⟨ba, oa, none⟩ : Option Addr) = some a → True) := fun _ _ => trivial
          have HDX : Hid (∀ y, D = some y → y.block ≠ wr.heap.size) := fun y hy => by have := (HR.out.lt y hy).2; omega
          have q8 := HBx.out.cell 8 HSU.out
          have z8 := cell_lt q8
          obtain ⟨bx, hbx⟩ : ∃ bx, Hid (wr.heap.size = bx) := ⟨_, rfl⟩
          clear hx hba HRG
          go_upto_region 19 with fail
          rw [hbx.out] at HXA HGS HDX
          rw [hbx.out]
          generalize wr.alloc (.cells #[.int .i64 x.fr, .int .i64 x.to, .int .i64 x.kd, .int .i64 x.id, .int .i64 x.cd] 41) = v0 at *
          clear z0 z1 z2 z3 z4 zl
          have y0 := HXA.out.cell 0 rfl
          have yl := cell_lt y0
          go_wp2_with fail
          refine (CR.out x.fr _).mono ?_
          rintro e_r v1 ⟨rfl, b1⟩
          have HX2 := Lib.hid (HXA.out.below b1)
          have HRv1 := HRx.out.below b1
          have y0' := HX2.out.cell 0 rfl
          have f0' := HX2.out.frozen 0
          have yl' := cell_lt y0'
          have hb2 := bel_set (bel_on HX1.out b1) (p := ⟨bx, 0, none⟩) HGS.out (.int .i64 (roundP x.fr un))
          have HX3 : Hid (Has (v1.setCell ⟨bx, 0, none⟩ (.int .i64 (roundP x.fr un))) bx #[.int .i64 (roundP x.fr un), .int .i64 x.to, .int .i64 x.kd, .int .i64 x.id, .int .i64 x.cd]) := HX2.out.set 0 _
          have HR3 := Lib.hid (TRow.far HRv1 (p := ⟨bx, 0, none⟩) (fun y hy => HDX.out y hy) (.int .i64 (roundP x.fr un)))
          have HB3 := Lib.hid (HB.out.below hb2)
          have HW3 := Lib.hid hb2
          obtain ⟨r1, hr1⟩ : ∃ r1, Hid (roundP x.fr un = r1) := ⟨_, rfl⟩
          rw [hr1.out] at HX3 HR3 HB3 HW3
          rw [hr1.out]
          clear b1 HRv1 hb2 y0 yl q8 z8 HX1 HBx HRx HXA
          go_upto_region 20 with fail
          generalize v1.setCell ⟨bx, 0, none⟩ (.int .i64 r1) = v2 at *
          clear y0' f0' yl' HX2
          have q8 := HB3.out.cell 8 HSU.out
          have z8 := cell_lt q8
          have y1 := HX3.out.cell 1 rfl
          have yl := cell_lt y1
          go_wp2_with fail
          refine (CR.out x.to _).mono ?_
          rintro e_r v3 ⟨rfl, b1⟩
          have HX4 := Lib.hid (HX3.out.below b1)
          have HRv3 := HR3.out.below b1
          have y1' := HX4.out.cell 1 rfl
          have f1' := HX4.out.frozen 1
          have yl' := cell_lt y1'
          have hb2 := bel_set (bel_on HW3.out b1) (p := ⟨bx, 1, none⟩) HGS.out (.int .i64 (roundP x.to un))
          have HX5 : Hid (Has (v3.setCell ⟨bx, 1, none⟩ (.int .i64 (roundP x.to un))) bx #[.int .i64 r1, .int .i64 (roundP x.to un), .int .i64 x.kd, .int .i64 x.id, .int .i64 x.cd]) := HX4.out.set 1 _
          have HR5 := Lib.hid (TRow.far HRv3 (p := ⟨bx, 1, none⟩) (fun y hy => HDX.out y hy) (.int .i64 (roundP x.to un)))
          have HW5 := Lib.hid hb2
          obtain ⟨r2, hr2⟩ : ∃ r2, Hid (roundP x.to un = r2) := ⟨_, rfl⟩
          rw [hr2.out] at HX5 HR5 HW5
          rw [hr2.out]
          clear b1 HRv3 hb2 y1 yl q8 z8 HW3 HB3 HR3 HX3
          go_upto_region 21 with fail
          generalize v3.setCell ⟨bx, 1, none⟩ (.int .i64 r2) = v4 at *
          clear y1' f1' yl' HX4
          have x0 := HX5.out.cell 0 rfl
          have x1 := HX5.out.cell 1 rfl
          have x2 := HX5.out.cell 2 rfl
          have x3 := HX5.out.cell 3 rfl
          have x4 := HX5.out.cell 4 rfl
          have xl := cell_lt x0
          by_cases hrr : r1 < r2
          · have HE1 : Hid ((SA.take (j + 1)).flatMap (reR fun t => roundP t un) = (SA.take j).flatMap (reR fun t => roundP t un) ++ [⟨r1, r2, x.kd, x.id, x.cd⟩]) := by
              show _ = _
              rw [HTK.out]
              unfold reR
              simp only [hr1.out, hr2.out]
              rw [if_pos hrr]
            obtain ⟨A9, c9, w9, hr9, row9, kp9⟩ := srow_more HR5.out ⟨r1, r2, x.kd, x.id, x.cd⟩ (by omega) HW5.out.size (s := v4.heap.size) rfl
            have HR9 := Lib.hid hr9
            have HRW9 := Lib.hid row9
            have HW9 := Lib.hid (bel_kept HW5.out kp9)
            clear hr9 row9 kp9
            go_wp2_with (at_builtin; refine wpList_append_run (o := ⟨some 102, _, _, _, _, _⟩) HR9.out rfl rfl rfl rfl ?_)
            go_roundg (ma - (j + 1))
            case measure => omega
            case rel => exact ⟨j + 1, p + 1, c9, A9, rfl, by go_num, by omega, by omega, Lib.hid (by rw [HE1.out, List.length_append, HPL.out]; rfl), Lib.hid (by rw [HE1.out]; exact HRW9.out), HW9⟩
          · have HE1 : Hid ((SA.take (j + 1)).flatMap (reR fun t => roundP t un) = (SA.take j).flatMap (reR fun t => roundP t un)) := by
              show _ = _
              rw [HTK.out]
              unfold reR
              simp only [hr1.out, hr2.out]
              rw [if_neg hrr, List.append_nil]
            go_wp2
            go_roundg (ma - (j + 1))
            case measure => omega
            case rel => exact ⟨j + 1, p, e, D, rfl, by go_num, by omega, by omega, Lib.hid (by rw [HE1.out]; exact HPL.out), Lib.hid (by rw [HE1.out]; exact HR5.out), HW5⟩
        · obtain rfl : j = ma := by omega
          have eT : SA.take j = SA := by rw [← hma]; exact List.take_length
          rw [eT, ← HRN.out] at HPL HR
          have hpl := HPL.out
          subst hpl
          have HA9 : Hid (Segs wr D SB.length e SB) := SRow.segs HR.out rfl
          have HA8 := Lib.hid (HA2.out.below HW8.out)
          replace HW := Lib.hid (bel_on HW.out HW8.out)
          clear HR HPL eT
          have hmb := hmb'.out
          go_wp2_with fail
          refine (ssame_any _ _ _ _ _ SB _ HA8.out HA9.out (by omega)).mono ?_
          rintro e_r w9 ⟨rfl, b9⟩
          replace HW := Lib.hid (bel_on HW.out b9)
          clear b9
          go_wp2
          go_ret
          exact ⟨rfl, HW.out⟩
theorem streamRounds_walk (s : SetP) (A1 A2 A3 A4 A5 A6 : Option Addr) (c1 c2 c3 c4 c5 c6 : Nat) (a1 : Option Addr) (len1 cap1 : Nat) (z1 : List EvP) (wk : Int) (w : World) (hs : SetAt w s A1 A2 A3 A4 A5 A6 c1 c2 c3 c4 c5 c6) (hf : s.Fit)
    (s1 : Evs w a1 len1 cap1 z1) (i1 : ∀ e ∈ z1, e.In) (l1 : len1 ≤ cap1) (l1' : cap1 ≤ 9223372036854775807) (b1 : -9223372036854775808 ≤ wk) (b2 : wk ≤ 9223372036854775807) :
    Calls Try.prog 8 #[setV s A1 A2 A3 A4 A5 A6 c1 c2 c3 c4 c5 c6, .slice a1 len1 cap1, .int .i64 wk] w fun e w' => e = .returned (.bool true) ∧ Below w.heap.size w w' := by
  obtain ⟨cs, hcs⟩ : ∃ cs, setV s A1 A2 A3 A4 A5 A6 c1 c2 c3 c4 c5 c6 = .agg cs := ⟨_, rfl⟩
  have hW := setW_of hcs hs hf
  rw [hcs]
  cases hF : decide (s.Few ∧ len1 ≤ 100) with
  | false => exact streamRounds_no s cs w hW a1 len1 cap1 z1 s1 i1 wk hF
  | true =>
    cases hck : checkB s with
    | false => exact streamRounds_nock s cs w hW a1 len1 cap1 z1 s1 i1 wk hF hck
    | true => exact streamRounds_main s cs w hW a1 len1 cap1 z1 s1 i1 wk hF hck
end Go.Proofs.Ytbijaaglmhoopaa
