/-
  SplitOver: by day and by night together each category is what over.Of tells of what is paid.
-/
import Derived.Test.YtdlimgpmmkcgmaaGreatSplAw
import Derived.Test.YtdlimgpmmkcgmaaGreatSplC
import Derived.Test.YtdlimgpmmkcgmaaGreatZbk
import Derived.Test.YtdlimgpmmkcgmaaGreatZbc
import Derived.Test.YtdlimgpmmkcgmaaGreatZbf
import Derived.Test.YtdlimgpmmkcgmaaGreatZbb
import Derived.Test.YtdlimgpmmkcgmaaGreatZar
import Derived.Test.YtdlimgpmmkcgmaaGreatZav
import Derived.Test.YtdlimgpmmkcgmaaGreatZak
namespace Go.Proofs.YtdlimgpmmkcgmaaGreat
open Go.RowKit
set_option linter.unusedVariables false
set_option linter.unusedSimpArgs false
set_option maxRecDepth 100000

set_option maxHeartbeats 8000000 in
theorem splitOver_main (s : SetP) (cs : Array Value) (w : World) (hC : SetC w s cs) (hf : s.Fit) (A : Option Addr) (n c : Nat) (l : List SegP) (hx : Segs w A n c l) (hF : ∀ e ∈ l, Fit e.fr ∧ Fit e.to) (hmax : n ≤ 9223372036854775807) (k : Int) (k0 : -9223372036854775808 ≤ k) (k1 : k ≤ 9223372036854775807) :
    Calls Tryz.prog 6 #[.agg cs, .slice A n c, .int .i64 k] w fun e w' => e = .returned (.bool true) ∧ Below w.heap.size w w' := by
  have mixed : Tryz.prog.follows Departure.mixedOrders = true := by kernel_rfl
  have HM := Lib.hid mixed
  have HZ := Lib.hid hC.size
  have HN0 := Lib.hid (bx_start hC hx)
  have HFEW := Lib.hid (fun W (hW : SetC W s cs) (hX : Segs W A n c l) => few15 s cs W hW A n c l hX hmax)
  obtain ⟨b, hb⟩ : ∃ b, checkB s = b := ⟨_, rfl⟩
  have hm : b = true → s.May := fun h => check_iff.1 (hb.trans h)
  have CP := Lib.hid (fun W (hW : SetC W s cs) (hX : Segs W A n c l) hn => parts_c hW hf b hb A n c l hX hn hF k)
  have CB := Lib.hid (fun W (hW : SetC W s cs) (hX : Segs W A n c l) hn => bpaid_c hW hf b hb A n c l hX hn hF)
  have PY : PlainFrom 0 (allYes b s l) := by
    unfold allYes
    split
    · exact canon_plain _
    · trivial
  have lY := pl_len PY
  have FY := Lib.hid (Fits.of_plain PY)
  have CO := Lib.hid (fun W D d (hW : SetC W s cs) (hD : Spans W D (allYes b s l)) => over_c hW hf b hb D d (allYes b s l) hD (by omega) k)
  have hPL := wparts_len b s l k
  have CS := Lib.hid (fun (j : Nat) (hj : j < 7) W D m d (hD : Prts W D m d (wpartsL b s l k)) => (spans_wparts hm hj ▸ rspans_c D m d (wpartsL b s l k) (j : Int) W hD (by have := hD.2; omega) : Calls _ _ _ W (Gives W (catB b s l k j))))
  have FC := Lib.hid (fun j => Fits.of_plain (catB_plain b s l k j))
  have LC := Lib.hid (fun j => pl_len (catB_plain b s l k j))
  have E1 := Lib.hid (both_reg b s l k)
  have E2 := Lib.hid (both_ovr b s l k)
  have E3 := Lib.hid (both_dbl b s l k)
  have F1 := Lib.hid (Fits.of_plain (reg_plain b s (In (allYes b s l)) k))
  have F2 := Lib.hid (Fits.of_plain (ovr_plain b s (In (allYes b s l)) k))
  have F3 := Lib.hid (Fits.of_plain (dbl_plain b s (In (allYes b s l)) k))
  have l1 := pl_len (reg_plain b s (In (allYes b s l)) k)
  have l2 := pl_len (ovr_plain b s (In (allYes b s l)) k)
  have l3 := pl_len (dbl_plain b s (In (allYes b s l)) k)
  generalize catB b s l k = CC at *
  generalize wpartsL b s l k = L at *
  generalize regL b s (In (allYes b s l)) k = LA at *
  generalize ovrL b s (In (allYes b s l)) k = LB at *
  generalize dblL b s (In (allYes b s l)) k = LD at *
  generalize allYes b s l = YL at *
  generalize allNo b s l = NL at *
  clear hC hx hF hf hb PY hm
  go_enter Tryz.func6, Tryz.ntmps6
  go_wp2_with fail
  refine (awake17 _).mono ?_
  rintro e w1 ⟨rfl, b1⟩
  have HN1 := Lib.hid (HN0.out.below b1)
  clear HN0 b1
  go_wp2_with (refine wpList_load_sp (by rfl) _ rfl w.heap.size rfl cs HN1.out.h HZ.out ?_)
  refine (HFEW.out _ HN1.out.c HN1.out.x).mono ?_
  rintro e w2 ⟨⟨q, rfl, hq⟩, b2⟩
  have HN2 := Lib.hid (HN1.out.below b2)
  clear HN1 b2 HFEW
  cases q with
  | false =>
    have HE := Lib.hid HN2.out.b
    clear HN2 hq
    go_wp2
    go_ret
    exact ⟨rfl, HE.out⟩
  | true =>
    have h30 := hq rfl
    clear hq
    go_wp2_with (refine wpList_load_sp (by rfl) _ rfl w.heap.size rfl cs HN2.out.h HZ.out ?_)
    refine (CP.out _ HN2.out.c HN2.out.x (by omega)).mono ?_
    rintro e w3 ⟨A4, n4, c4, rfl, p4, nc4, nm4, b3⟩
    have HN3 := Lib.hid (HN2.out.below b3)
    have HP3 := Lib.hid p4
    clear p4 b3 HN2 CP
    go_wp2_with (refine wpList_load_sp (by rfl) _ rfl w.heap.size rfl cs HN3.out.h HZ.out ?_)
    refine (CB.out _ HN3.out.c HN3.out.x (by omega)).mono ?_
    rintro e w4 ⟨Y, y, N, ny, rfl, ry, rn, b4⟩
    have HN4 := Lib.hid (HN3.out.below b4)
    have HP4 := Lib.hid (HP3.out.below b4)
    have HY4 := Lib.hid (ry.spans FY.out)
    clear ry rn b4 HN3 HP3 CB
    go_wp2_with (refine wpList_load_sp (by rfl) _ rfl w.heap.size rfl cs HN4.out.h HZ.out ?_)
    refine (CO.out _ Y y HN4.out.c HY4.out).mono ?_
    rintro e w5 ⟨P, p, Q, q, R, r, rfl, rp, rq, rr, b5⟩
    have HW5 := Lib.hid (bel_on HN4.out.b b5)
    have HP5 := Lib.hid (HP4.out.below b5)
    have HA5 := Lib.hid (rp.spans F1.out)
    have HB5 := Lib.hid (rq.spans F2.out)
    have HD5 := Lib.hid (rr.spans F3.out)
    clear rp rq rr b5 HN4 HP4 HY4 CO
    have h1 := HP5.out
    go_wp2_with fail
    refine (CS.out 1 (by omega) _ A4 n4 c4 h1).mono ?_
    clear h1
    rintro e wa0 ⟨Da0, da0, rfl, ra0, ba0⟩
    have HPa0 := Lib.hid (HP5.out.below ba0)
    have HRa0 := Lib.hid ra0
    have BBa0 := Lib.hid ba0
    clear ra0 ba0
    have h1 := HPa0.out
    go_wp2_with fail
    refine (CS.out 4 (by omega) _ A4 n4 c4 h1).mono ?_
    clear h1
    rintro e wb0 ⟨Db0, db0, rfl, rb0, bb0⟩
    obtain ⟨T0, t0, wc0, hrc0, rowc0, belc0, -, -⟩ := row_append (HRa0.out.below bb0) (row_sl rb0) (by have := LC.out 1; have := LC.out 4; omega) (Nat.le_trans BBa0.out.size bb0.size)
    have HAPc0 := Lib.hid hrc0
    have BEc0 := Lib.hid (belc0 w5 (Nat.le_refl _) (bel_on BBa0.out bb0))
    have HPc0 := Lib.hid (HP5.out.below BEc0.out)
    have HAc0 := Lib.hid (HA5.out.below BEc0.out)
    have HBc0 := Lib.hid (HB5.out.below BEc0.out)
    have HDc0 := Lib.hid (HD5.out.below BEc0.out)
    have HWc0 := Lib.hid (bel_on HW5.out BEc0.out)
    have HT0_c0 := Lib.hid (rowc0.spans (Fits.append (FC.out 1) (FC.out 4)))
    clear hrc0 rowc0 belc0 rb0 bb0 HRa0 BBa0 HPa0 HP5 HA5 HB5 HD5 HW5
    go_wp2_with (at_builtin; refine wpList_append_run HAPc0.out rfl rfl rfl rfl ?_)
    clear HAPc0 BEc0
    have h1 := HPc0.out
    go_wp2_with fail
    refine (CS.out 2 (by omega) _ A4 n4 c4 h1).mono ?_
    clear h1
    rintro e wa1 ⟨Da1, da1, rfl, ra1, ba1⟩
    have HPa1 := Lib.hid (HPc0.out.below ba1)
    have HRa1 := Lib.hid ra1
    have BBa1 := Lib.hid ba1
    clear ra1 ba1
    have h1 := HPa1.out
    go_wp2_with fail
    refine (CS.out 5 (by omega) _ A4 n4 c4 h1).mono ?_
    clear h1
    rintro e wb1 ⟨Db1, db1, rfl, rb1, bb1⟩
    obtain ⟨T1, t1, wc1, hrc1, rowc1, belc1, -, -⟩ := row_append (HRa1.out.below bb1) (row_sl rb1) (by have := LC.out 2; have := LC.out 5; omega) (Nat.le_trans BBa1.out.size bb1.size)
    have HAPc1 := Lib.hid hrc1
    have BEc1 := Lib.hid (belc1 wc0 (Nat.le_refl _) (bel_on BBa1.out bb1))
    have HPc1 := Lib.hid (HPc0.out.below BEc1.out)
    have HAc1 := Lib.hid (HAc0.out.below BEc1.out)
    have HBc1 := Lib.hid (HBc0.out.below BEc1.out)
    have HDc1 := Lib.hid (HDc0.out.below BEc1.out)
    have HT0_c1 := Lib.hid (HT0_c0.out.below BEc1.out)
    have HWc1 := Lib.hid (bel_on HWc0.out BEc1.out)
    have HT1_c1 := Lib.hid (rowc1.spans (Fits.append (FC.out 2) (FC.out 5)))
    clear hrc1 rowc1 belc1 rb1 bb1 HRa1 BBa1 HPa1 HPc0 HAc0 HBc0 HDc0 HT0_c0 HWc0
    go_wp2_with (at_builtin; refine wpList_append_run HAPc1.out rfl rfl rfl rfl ?_)
    clear HAPc1 BEc1
    have h1 := HPc1.out
    go_wp2_with fail
    refine (CS.out 3 (by omega) _ A4 n4 c4 h1).mono ?_
    clear h1
    rintro e wa2 ⟨Da2, da2, rfl, ra2, ba2⟩
    have HPa2 := Lib.hid (HPc1.out.below ba2)
    have HRa2 := Lib.hid ra2
    have BBa2 := Lib.hid ba2
    clear ra2 ba2
    have h1 := HPa2.out
    go_wp2_with fail
    refine (CS.out 6 (by omega) _ A4 n4 c4 h1).mono ?_
    clear h1
    rintro e wb2 ⟨Db2, db2, rfl, rb2, bb2⟩
    obtain ⟨T2, t2, wc2, hrc2, rowc2, belc2, -, -⟩ := row_append (HRa2.out.below bb2) (row_sl rb2) (by have := LC.out 3; have := LC.out 6; omega) (Nat.le_trans BBa2.out.size bb2.size)
    have HAPc2 := Lib.hid hrc2
    have BEc2 := Lib.hid (belc2 wc1 (Nat.le_refl _) (bel_on BBa2.out bb2))
    have HPc2 := Lib.hid (HPc1.out.below BEc2.out)
    have HAc2 := Lib.hid (HAc1.out.below BEc2.out)
    have HBc2 := Lib.hid (HBc1.out.below BEc2.out)
    have HDc2 := Lib.hid (HDc1.out.below BEc2.out)
    have HT0_c2 := Lib.hid (HT0_c1.out.below BEc2.out)
    have HT1_c2 := Lib.hid (HT1_c1.out.below BEc2.out)
    have HWc2 := Lib.hid (bel_on HWc1.out BEc2.out)
    have HT2_c2 := Lib.hid (rowc2.spans (Fits.append (FC.out 3) (FC.out 6)))
    clear hrc2 rowc2 belc2 rb2 bb2 HRa2 BBa2 HPa2 HPc1 HAc1 HBc1 HDc1 HT0_c1 HT1_c1 HWc1
    go_wp2_with (at_builtin; refine wpList_append_run HAPc2.out rfl rfl rfl rfl ?_)
    clear HAPc2 BEc2
    have HNO : Calls Tryz.prog 17 #[.slice T0 ((CC 1).length + (CC 4).length) t0] wc2 (Gives wc2 LA) := by
      have := norm_any T0 t0 (CC 1 ++ CC 4) wc2 HT0_c2.out (by have := LC.out 1; have := LC.out 4; rw [List.length_append]; omega)
      rw [E1.out, List.length_append] at this
      exact this
    have HNO2 := Lib.hid HNO
    clear HNO
    go_wp2_with fail
    refine HNO2.out.mono ?_
    clear HNO2
    rintro e wn0 ⟨U0, u0, rfl, ru, bu⟩
    have HU0 := Lib.hid (ru.spans F1.out)
    have HT0_n0 := Lib.hid (HT0_c2.out.below bu)
    have HT1_n0 := Lib.hid (HT1_c2.out.below bu)
    have HT2_n0 := Lib.hid (HT2_c2.out.below bu)
    have HAn0 := Lib.hid (HAc2.out.below bu)
    have HBn0 := Lib.hid (HBc2.out.below bu)
    have HDn0 := Lib.hid (HDc2.out.below bu)
    have HWn0 := Lib.hid (bel_on HWc2.out bu)
    clear ru bu HT0_c2 HT1_c2 HT2_c2 HAc2 HBc2 HDc2 HWc2
    go_wp2_with fail
    refine (same_any U0 P u0 p LA _ HU0.out HAn0.out (by omega)).mono ?_
    rintro e wm0 ⟨rfl, bs⟩
    have HT1_m0 := Lib.hid (HT1_n0.out.below bs)
    have HT2_m0 := Lib.hid (HT2_n0.out.below bs)
    have HBm0 := Lib.hid (HBn0.out.below bs)
    have HDm0 := Lib.hid (HDn0.out.below bs)
    have HWm0 := Lib.hid (bel_on HWn0.out bs)
    clear bs HU0 HT0_n0 HT1_n0 HT2_n0 HAn0 HBn0 HDn0 HWn0
    have HNO : Calls Tryz.prog 17 #[.slice T1 ((CC 2).length + (CC 5).length) t1] wm0 (Gives wm0 LB) := by
      have := norm_any T1 t1 (CC 2 ++ CC 5) wm0 HT1_m0.out (by have := LC.out 2; have := LC.out 5; rw [List.length_append]; omega)
      rw [E2.out, List.length_append] at this
      exact this
    have HNO2 := Lib.hid HNO
    clear HNO
    go_wp2_with fail
    refine HNO2.out.mono ?_
    clear HNO2
    rintro e wn1 ⟨U1, u1, rfl, ru, bu⟩
    have HU1 := Lib.hid (ru.spans F2.out)
    have HT1_n1 := Lib.hid (HT1_m0.out.below bu)
    have HT2_n1 := Lib.hid (HT2_m0.out.below bu)
    have HBn1 := Lib.hid (HBm0.out.below bu)
    have HDn1 := Lib.hid (HDm0.out.below bu)
    have HWn1 := Lib.hid (bel_on HWm0.out bu)
    clear ru bu HT1_m0 HT2_m0 HBm0 HDm0 HWm0
    go_wp2_with fail
    refine (same_any U1 Q u1 q LB _ HU1.out HBn1.out (by omega)).mono ?_
    rintro e wm1 ⟨rfl, bs⟩
    have HT2_m1 := Lib.hid (HT2_n1.out.below bs)
    have HDm1 := Lib.hid (HDn1.out.below bs)
    have HWm1 := Lib.hid (bel_on HWn1.out bs)
    clear bs HU1 HT1_n1 HT2_n1 HBn1 HDn1 HWn1
    have HNO : Calls Tryz.prog 17 #[.slice T2 ((CC 3).length + (CC 6).length) t2] wm1 (Gives wm1 LD) := by
      have := norm_any T2 t2 (CC 3 ++ CC 6) wm1 HT2_m1.out (by have := LC.out 3; have := LC.out 6; rw [List.length_append]; omega)
      rw [E3.out, List.length_append] at this
      exact this
    have HNO2 := Lib.hid HNO
    clear HNO
    go_wp2_with fail
    refine HNO2.out.mono ?_
    clear HNO2
    rintro e wn2 ⟨U2, u2, rfl, ru, bu⟩
    have HU2 := Lib.hid (ru.spans F3.out)
    have HT2_n2 := Lib.hid (HT2_m1.out.below bu)
    have HDn2 := Lib.hid (HDm1.out.below bu)
    have HWn2 := Lib.hid (bel_on HWm1.out bu)
    clear ru bu HT2_m1 HDm1 HWm1
    go_wp2_with fail
    refine (same_any U2 R u2 r LD _ HU2.out HDn2.out (by omega)).mono ?_
    rintro e wm2 ⟨rfl, bs⟩
    have HWm2 := Lib.hid (bel_on HWn2.out bs)
    clear bs HU2 HT2_n2 HDn2 HWn2
    go_wp2
    go_ret
    exact ⟨rfl, HWm2.out⟩
theorem splitOver_walk (s : SetP) (A1 A2 A3 A4 A5 A6 : Option Addr) (c1 c2 c3 c4 c5 c6 : Nat) (a1 : Option Addr) (len1 cap1 : Nat) (z1 : List SegP) (k : Int) (w : World) (hs : SetAt w s A1 A2 A3 A4 A5 A6 c1 c2 c3 c4 c5 c6) (hf : s.Fit)
   (w1 : Segs w a1 len1 cap1 z1) (i1 : ∀ e ∈ z1, Fit e.fr ∧ Fit e.to) (l1 : len1 ≤ cap1) (l1' : cap1 ≤ 9223372036854775807) (k0 : -9223372036854775808 ≤ k) (k1 : k ≤ 9223372036854775807) :
    Calls Tryz.prog 6 #[setV s A1 A2 A3 A4 A5 A6 c1 c2 c3 c4 c5 c6, .slice a1 len1 cap1, .int .i64 k] w fun e w' => e = .returned (.bool true) ∧ Below w.heap.size w w' := by
  obtain ⟨cs, hcs⟩ : ∃ cs, setV s A1 A2 A3 A4 A5 A6 c1 c2 c3 c4 c5 c6 = .agg cs := ⟨_, rfl⟩
  rw [hcs]
  exact splitOver_main s cs w ⟨A1, A2, A3, A4, A5, A6, c1, c2, c3, c4, c5, c6, hcs, hs⟩ hf a1 len1 cap1 z1 w1 i1 (by omega) k k0 k1
end Go.Proofs.YtdlimgpmmkcgmaaGreat
