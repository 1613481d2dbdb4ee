/-
  BreaksSizes: of a day there is as much unpaid as its breaks are more than PaidBreak, and as AutoBreak is more than they are.
-/
import Derived.Test.YtghfhoodbiiciaaBrkLw
namespace Go.Proofs.Ytghfhoodbiiciaa
open Go.RowKit
set_option linter.unusedVariables false
set_option linter.unusedSimpArgs false
set_option maxRecDepth 100000

set_option maxHeartbeats 8000000 in
theorem breaksSizes_main (s : SetP) (cs : Array Value) (w : World) (hC : SetC w s cs) (hf : s.Fit) (A : Option Addr) (n c : Nat) (l : List SegP) (hx : Segs w A n c l) (hF : ∀ e ∈ l, Fit e.fr ∧ Fit e.to) (hmax : n ≤ 9223372036854775807) (dy : Int) (dy0 : 0 ≤ dy) (dy1 : dy ≤ 255) :
    Calls Try.prog 4 #[.agg cs, .slice A n c, .int .u8 dy] w fun e w' => e = .returned (.bool true) ∧ Below w.heap.size w w' := by
  have mixed : Try.prog.follows Departure.mixedOrders = true := by kernel_rfl
  have HM := Lib.hid mixed
  have HZ := Lib.hid hC.size
  have HN0 := Lib.hid (bx_start hC hx)
  have HFEW := Lib.hid (fun W (hW : SetC W s cs) (hX : Segs W A n c l) => few15 s cs W hW A n c l hX hmax)
  obtain ⟨b, hb⟩ : ∃ b, checkB s = b := ⟨_, rfl⟩
  have CCK := Lib.hid (fun W (hW : SetC W s cs) => scheck_c hW hf b hb)
  have COD := Lib.hid (fun W (hW : SetC W s cs) (hX : Segs W A n c l) hn => bofday_c hW hf b hb A n c l hX hn hF dy)
  have CCL := Lib.hid (fun W (hX : Segs W A n c l) (hn : n ≤ 30) => sclock_any A n c l W hX (by omega) hF)
  have CON := Lib.hid (fun W (hX : Segs W A n c l) (hn : n ≤ 30) => sonly_any A n c l 3 W hX (by omega) hF)
  have PN := Lib.hid (dno_plain b s l dy)
  have PY := Lib.hid (dyes_plain b s l dy)
  obtain ⟨zc, hzc⟩ : ∃ z, sz (onDay (clkS l) dy) = z := ⟨_, rfl⟩
  obtain ⟨zr, hzr⟩ : ∃ z, sz (onDay (rstS l) dy) = z := ⟨_, rfl⟩
  have bc := sz_bound (onDay (clkS l) dy)
  have br := sz_bound (onDay (rstS l) dy)
  rw [hzc] at bc
  rw [hzr] at br
  have HSZ : Hid (b = true → (0 ≤ s.paid ∧ s.paid ≤ 86400) ∧ (0 ≤ s.brk ∧ s.brk ≤ 86400) ∧ sz (In (dayNo b s l dy)) = max 0 (zr - s.paid) + (if s.aft ≤ zc ∧ zr < s.brk then min (s.brk - zr) (zc - zr) else 0)) := fun e => by
    subst e
    exact ⟨(check_iff.1 hb).paid, (check_iff.1 hb).brk, size_no s l dy (check_iff.1 hb) hzc hzr⟩
  obtain ⟨q10, q11, q12⟩ := setC_brk hC
  have FX : Hid (Fits (clockP l)) := Fits.canon _
  have FR : Hid (Fits (clockP (l.filter (ofKind 3)))) := Fits.canon _
  have lX : (clockP l).length ≤ 32054401 := canon_len _
  have lR : (clockP (l.filter (ofKind 3))).length ≤ 32054401 := canon_len _
  have CDX := Lib.hid (fun W D d (hW : Spans W D (clockP l)) => ofday_any D d (clockP l) dy W hW (by omega))
  have CDR := Lib.hid (fun W D d (hW : Spans W D (clockP (l.filter (ofKind 3)))) => ofday_any D d (clockP (l.filter (ofKind 3))) dy W hW (by omega))
  have lDX : (ofDayP (In (clockP l)) dy).length ≤ 32054401 := canon_len _
  have lDR : (ofDayP (In (clockP (l.filter (ofKind 3)))) dy).length ≤ 32054401 := canon_len _
  have FDX : Hid (Fits (ofDayP (In (clockP l)) dy)) := Fits.canon _
  have FDR : Hid (Fits (ofDayP (In (clockP (l.filter (ofKind 3)))) dy)) := Fits.canon _
  have CSX := Lib.hid (fun W D d (hW : Spans W D (ofDayP (In (clockP l)) dy)) => ((day_only (p := In (clockP l)) dy).trans hzc) ▸ size_any D d (ofDayP (In (clockP l)) dy) W hW (by omega))
  have CSR := Lib.hid (fun W D d (hW : Spans W D (ofDayP (In (clockP (l.filter (ofKind 3)))) dy)) => ((day_only (p := In (clockP (l.filter (ofKind 3)))) dy).trans hzr) ▸ size_any D d (ofDayP (In (clockP (l.filter (ofKind 3)))) dy) W hW (by omega))
  generalize ofDayP (In (clockP l)) dy = DX at *
  generalize ofDayP (In (clockP (l.filter (ofKind 3)))) dy = DR at *
  clear hzc hzr
  generalize dayYes b s l dy = PA at *
  generalize dayNo b s l dy = NA at *
  generalize clockP (l.filter (ofKind 3)) = Y at *
  generalize clockP l = X at *
  have lN := pl_len PN.out
  generalize s.paid = pb at *
  generalize s.aft = af at *
  generalize s.brk = ab at *
  clear hC hx hF hf hb
  go_enter Try.func4, Try.ntmps4
  go_wp2_with fail
  refine (awake15 _).mono ?_
  rintro e w1 ⟨rfl, b1⟩
  have HN1 := Lib.hid (HN0.out.below b1)
  clear HN0 b1
  go_wp2_with (refine wpList_load_sp (by rfl) _ rfl w.heap.size rfl cs HN1.out.h HZ.out ?_)
  refine (HFEW.out _ HN1.out.c HN1.out.x).mono ?_
  rintro e w2 ⟨⟨q, rfl, hq⟩, b2⟩
  have HN2 := Lib.hid (HN1.out.below b2)
  clear HN1 b2 HFEW
  cases q with
  | false =>
    have HE := Lib.hid HN2.out.b
    clear HN2 hq
    go_wp2
    go_ret
    exact ⟨rfl, HE.out⟩
  | true =>
    have h30 := hq rfl
    clear hq
    go_wp2_with (refine wpList_load_sp (by rfl) _ rfl w.heap.size rfl cs HN2.out.h HZ.out ?_)
    refine (CCK.out _ HN2.out.c).mono ?_
    rintro e w3 ⟨rfl, b3⟩
    have HN3 := Lib.hid (HN2.out.below b3)
    clear b3 HN2 CCK
    cases b with
    | false =>
      have HE := Lib.hid HN3.out.b
      clear HN3
      go_wp2
      go_ret
      exact ⟨rfl, HE.out⟩
    | true =>
      obtain ⟨⟨pb0, pb1⟩, ⟨ab0, ab1⟩, HS⟩ := HSZ.out rfl
      obtain ⟨v, hv⟩ : ∃ v, zr - pb = v := ⟨_, rfl⟩
      rw [hv] at HS
      have bv : -86400 ≤ v ∧ v ≤ 32054400 := by omega
      have wv : IntKind.i64.wrap (zr - pb) = v := by rw [hv]; exact wrapn_id (by omega) (by omega)
      obtain ⟨m1, hm1⟩ : ∃ m, max 0 v = m := ⟨_, rfl⟩
      have bm1 : 0 ≤ m1 ∧ m1 ≤ 32054400 := by omega
      have HM1 := Lib.hid hm1
      have HSX := Lib.hid HS
      clear HS hv hm1 HSZ
      go_wp2_with (refine wpList_load_sp (by rfl) _ rfl w.heap.size rfl cs HN3.out.h HZ.out ?_)
      refine (COD.out _ HN3.out.c HN3.out.x (by omega)).mono ?_
      rintro e w4 ⟨A4, c4, B4, d4, rfl, r4, s4, b4⟩
      have HN4 := Lib.hid (HN3.out.below b4)
      have HB4 := Lib.hid (s4.spans (.of_plain PN.out))
      clear r4 s4 b4 HN3 COD
      go_wp2_with fail
      refine (CCL.out _ HN4.out.x h30).mono ?_
      rintro e w5 ⟨A5, c5, rfl, r5, b5⟩
      have HN5 := Lib.hid (HN4.out.below b5)
      have HB5 := Lib.hid (HB4.out.below b5)
      have HX5 := Lib.hid (r5.spans FX.out)
      clear r5 b5 HN4 HB4 CCL
      go_wp2_with fail
      refine (CDX.out _ _ _ HX5.out).mono ?_
      rintro e w6 ⟨A6, c6, rfl, r6, b6⟩
      have HN6 := Lib.hid (HN5.out.below b6)
      have HB6 := Lib.hid (HB5.out.below b6)
      have HX6 := Lib.hid (r6.spans FDX.out)
      clear r6 b6 HN5 HB5 HX5 CDX
      go_wp2_with fail
      refine (CSX.out _ _ _ HX6.out).mono ?_
      rintro e w7 ⟨rfl, b7⟩
      have HN7 := Lib.hid (HN6.out.below b7)
      have HB7 := Lib.hid (HB6.out.below b7)
      clear b7 HN6 HB6 HX6 CSX
      go_wp2_with fail
      refine (CON.out _ HN7.out.x h30).mono ?_
      rintro e w8 ⟨A8, c8, rfl, r8, b8⟩
      have HN8 := Lib.hid (HN7.out.below b8)
      have HB8 := Lib.hid (HB7.out.below b8)
      have HX8 := Lib.hid (r8.spans FR.out)
      clear r8 b8 HN7 HB7 CON
      go_wp2_with fail
      refine (CDR.out _ _ _ HX8.out).mono ?_
      rintro e w9 ⟨A9, c9, rfl, r9, b9⟩
      have HN9 := Lib.hid (HN8.out.below b9)
      have HB9 := Lib.hid (HB8.out.below b9)
      have HX9 := Lib.hid (r9.spans FDR.out)
      clear r9 b9 HN8 HB8 HX8 CDR
      go_wp2_with fail
      refine (CSR.out _ _ _ HX9.out).mono ?_
      rintro e wa ⟨rfl, b10⟩
      have HN10 := Lib.hid (HN9.out.below b10)
      have HB10 := Lib.hid (HB9.out.below b10)
      clear b10 HN9 HB9 HX9 CSR
      have k10 := HN10.out.h.cell 10 q10
      have k11 := HN10.out.h.cell 11 q11
      have k12 := HN10.out.h.cell 12 q12
      have kz := HN10.out.h.size
      have HE10 := Lib.hid HN10.out.b
      clear q10 q11 q12 HN10
      by_cases hc : af ≤ zc
      · by_cases hr : zr < ab
        · obtain ⟨v2, hv2⟩ : ∃ v, ab - zr = v := ⟨_, rfl⟩
          obtain ⟨v3, hv3⟩ : ∃ v, zc - zr = v := ⟨_, rfl⟩
          have wv2 : IntKind.i64.wrap (ab - zr) = v2 := by rw [hv2]; exact wrapn_id (by omega) (by omega)
          have wv3 : IntKind.i64.wrap (zc - zr) = v3 := by rw [hv3]; exact wrapn_id (by omega) (by omega)
          obtain ⟨m2, hm2⟩ : ∃ m, min v2 v3 = m := ⟨_, rfl⟩
          have HM2 := Lib.hid hm2
          obtain ⟨tt, htt⟩ : ∃ m, m1 + m2 = m := ⟨_, rfl⟩
          have wt : IntKind.i64.wrap (m1 + m2) = tt := by rw [htt]; exact wrapn_id (by omega) (by omega)
          have hs : sz (In NA) = tt := by
            have k1 := HSX.out
            have k2 := HM1.out
            rw [if_pos ⟨hc, hr⟩, k2, hv2, hv3, hm2, htt] at k1
            exact k1
          have CSN := Lib.hid (fun W (hW : Spans W B4 NA) => hs ▸ size_any B4 d4 NA W hW (by omega))
          clear hv2 hv3 hm2 htt hs HSX
          go_wp2_with (first | refine wpList_max2i (o := ⟨some 48, _, _, _, _, _⟩) _ _ _ HM1.out rfl rfl rfl rfl ?_ | refine wpList_min2i (o := ⟨some 67, _, _, _, _, _⟩) _ _ _ HM2.out rfl rfl rfl rfl ?_)
          refine (CSN.out _ HB10.out).mono ?_
          rintro e wb ⟨rfl, b11⟩
          have HE11 := Lib.hid (bel_on HE10.out b11)
          clear b11
          go_wp2
          go_ret
          exact ⟨rfl, HE11.out⟩
        · have hs : sz (In NA) = m1 := by
            have k1 := HSX.out
            have k2 := HM1.out
            rw [if_neg (fun q => hr q.2), k2, Int.add_zero] at k1
            exact k1
          have CSN := Lib.hid (fun W (hW : Spans W B4 NA) => hs ▸ size_any B4 d4 NA W hW (by omega))
          clear hs HSX
          go_wp2_with (first | refine wpList_max2i (o := ⟨some 48, _, _, _, _, _⟩) _ _ _ HM1.out rfl rfl rfl rfl ?_)
          refine (CSN.out _ HB10.out).mono ?_
          rintro e wb ⟨rfl, b11⟩
          have HE11 := Lib.hid (bel_on HE10.out b11)
          clear b11
          go_wp2
          go_ret
          exact ⟨rfl, HE11.out⟩
      · have hs : sz (In NA) = m1 := by
          have k1 := HSX.out
          have k2 := HM1.out
          rw [if_neg (fun q => hc q.1), k2, Int.add_zero] at k1
          exact k1
        have CSN := Lib.hid (fun W (hW : Spans W B4 NA) => hs ▸ size_any B4 d4 NA W hW (by omega))
        clear hs HSX
        go_wp2_with (first | refine wpList_max2i (o := ⟨some 48, _, _, _, _, _⟩) _ _ _ HM1.out rfl rfl rfl rfl ?_)
        refine (CSN.out _ HB10.out).mono ?_
        rintro e wb ⟨rfl, b11⟩
        have HE11 := Lib.hid (bel_on HE10.out b11)
        clear b11
        go_wp2
        go_ret
        exact ⟨rfl, HE11.out⟩
theorem breaksSizes_walk (s : SetP) (A1 A2 A3 A4 A5 A6 : Option Addr) (c1 c2 c3 c4 c5 c6 : Nat) (a1 : Option Addr) (len1 cap1 : Nat) (z1 : List SegP) (dy : Int) (w : World) (hs : SetAt w s A1 A2 A3 A4 A5 A6 c1 c2 c3 c4 c5 c6) (hf : s.Fit)
   (w1 : Segs w a1 len1 cap1 z1) (i1 : ∀ e ∈ z1, Fit e.fr ∧ Fit e.to) (l1 : len1 ≤ cap1) (l1' : cap1 ≤ 9223372036854775807) (dy0 : 0 ≤ dy) (dy1 : dy ≤ 255) :
    Calls Try.prog 4 #[setV s A1 A2 A3 A4 A5 A6 c1 c2 c3 c4 c5 c6, .slice a1 len1 cap1, .int .u8 dy] w fun e w' => e = .returned (.bool true) ∧ Below w.heap.size w w' := by
  obtain ⟨cs, hcs⟩ : ∃ cs, setV s A1 A2 A3 A4 A5 A6 c1 c2 c3 c4 c5 c6 = .agg cs := ⟨_, rfl⟩
  rw [hcs]
  exact breaksSizes_main s cs w ⟨A1, A2, A3, A4, A5, A6, c1, c2, c3, c4, c5, c6, hcs, hs⟩ hf a1 len1 cap1 z1 w1 i1 (by omega) dy dy0 dy1
end Go.Proofs.Ytghfhoodbiiciaa
