/-
  OverSizes: as many double seconds as each day has more than DayOver, as many regular ones as its days have, up to DayReg, up to WeekReg.
-/
import Derived.Test.YthdolmhnjinlhaaOvrAw
import Derived.Test.YthdolmhnjinlhaaZar
namespace Go.Proofs.Ythdolmhnjinlhaa
open Go.RowKit
set_option linter.unusedVariables false
set_option linter.unusedSimpArgs false
set_option maxRecDepth 100000

set_option maxHeartbeats 8000000 in
theorem overSizes_main (s : SetP) (cs : Array Value) (w : World) (hC : SetC w s cs) (hf : s.Fit) (A : Option Addr) (cap : Nat) (xs : List (Int × Int)) (hx : Spans w A xs) (hmax : xs.length ≤ 9223372036854775807) (wk : Int) (wk0 : 0 ≤ wk) (wk1 : wk ≤ 255) :
    Calls Try.prog 4 #[.agg cs, .slice A xs.length cap, .int .u8 wk] w fun e w' => e = .returned (.bool true) ∧ Below w.heap.size w w' := by
  obtain ⟨k, hk⟩ : ∃ k, wk.tmod 53 = k := ⟨_, rfl⟩
  have hkm : wk % 53 = k := by rw [← hk]; exact (Int.tmod_eq_emod_of_nonneg wk0).symm
  have hk2 : 0 ≤ k ∧ k ≤ 52 := by omega
  have mixed : Try.prog.follows Departure.mixedOrders = true := by kernel_rfl
  have HM := Lib.hid mixed
  have HZ := Lib.hid hC.size
  have HN0 := Lib.hid (ox_start hC hx)
  have HFEW := Lib.hid (fun W (hW : SetC W s cs) (hX : Spans W A xs) => few16 s cs W hW A xs.length cap xs hX rfl hmax)
  obtain ⟨b, hb⟩ : ∃ b, checkB s = b := ⟨_, rfl⟩
  have CCK := Lib.hid (fun W (hW : SetC W s cs) => scheck_c hW hf b hb)
  have COF := Lib.hid (fun W (hW : SetC W s cs) (hX : Spans W A xs) hl => over_c hW hf b hb A cap xs hX hl k)
  have CDY := Lib.hid (fun W d (hX : Spans W A xs) hl => ofday_any A cap xs d W hX hl)
  have CSD := Lib.hid (fun W D dc d (hW : Spans W D (ofDayP (In xs) d)) => dayN_of (In xs) d ▸ size_any D dc (ofDayP (In xs) d) W hW (by have := canon_len (onDay (In xs) d); show (ofDayP (In xs) d).length ≤ _; exact Nat.le_trans this (by decide)))
  have PA := Lib.hid (reg_plain b s (In xs) k)
  have PB := Lib.hid (ovr_plain b s (In xs) k)
  have PC := Lib.hid (dbl_plain b s (In xs) k)
  obtain ⟨q13, q14, q15⟩ := setC_over hC
  have F1 : Hid (b = true → (0 ≤ s.reg ∧ s.reg ≤ 86400) ∧ (0 ≤ s.over ∧ s.over ≤ 86400) ∧ (0 ≤ s.week ∧ s.week ≤ 604800) ∧ sz (In (regL b s (In xs) k)) = min (sumD (fun d => min (dayN (In xs) d) s.reg) (7 * k) 7) s.week ∧ sz (In (dblL b s (In xs) k)) = sumD (fun d => max 0 (dayN (In xs) d - s.over)) (7 * k) 7 ∧
      sz (In (regL b s (In xs) k)) + sz (In (ovrL b s (In xs) k)) + sz (In (dblL b s (In xs) k)) = sumD (dayN (In xs)) (7 * k) 7) := fun e => by
    subst e
    have hm := check_iff.1 hb
    have h1 := hm.reg
    have h2 := hm.over
    exact ⟨⟨h1.1, by omega⟩, ⟨by omega, h2⟩, hm.week, sz_regL hm hk2.1, sz_dblL hm hk2.1, sz_all3 hm hk2.1⟩
  generalize regL b s (In xs) k = LA at *
  generalize ovrL b s (In xs) k = LB at *
  generalize dblL b s (In xs) k = LC at *
  have lA := pl_len PA.out
  have lB := pl_len PB.out
  have lC := pl_len PC.out
  generalize s.reg = rg at *
  generalize s.over = ov at *
  generalize s.week = wr0 at *
  clear hC hx hf hb
  go_enter Try.func4, Try.ntmps4
  go_wp2_with fail
  refine (awake16 _).mono ?_
  rintro e w1 ⟨rfl, b1⟩
  have HN1 := Lib.hid (HN0.out.below b1)
  clear HN0 b1
  go_wp2_with (refine wpList_load_sp (by rfl) _ rfl w.heap.size rfl cs HN1.out.h HZ.out ?_)
  refine (HFEW.out _ HN1.out.c HN1.out.x).mono ?_
  rintro e w2 ⟨⟨q, rfl, hq⟩, b2⟩
  have HN2 := Lib.hid (HN1.out.below b2)
  clear HN1 b2 HFEW
  cases q with
  | false =>
    have HE := Lib.hid HN2.out.b
    clear HN2 hq
    go_wp2
    go_ret
    exact ⟨rfl, HE.out⟩
  | true =>
    have h30 := hq rfl
    clear hq
    go_wp2_with (refine wpList_load_sp (by rfl) _ rfl w.heap.size rfl cs HN2.out.h HZ.out ?_)
    refine (CCK.out _ HN2.out.c).mono ?_
    rintro e w3 ⟨rfl, b3⟩
    have HN3 := Lib.hid (HN2.out.below b3)
    clear b3 HN2 CCK
    cases b with
    | false =>
      have HE := Lib.hid HN3.out.b
      clear HN3
      go_wp2
      go_ret
      exact ⟨rfl, HE.out⟩
    | true =>
      obtain ⟨⟨rg0, rg1⟩, ⟨ov0, ov1⟩, ⟨wk2, wk3⟩, S1, S2, S3⟩ := F1.out rfl
      have S1 := Lib.hid S1
      have S2 := Lib.hid S2
      have S3 := Lib.hid S3
      have B1 := Lib.hid (fun n hn => sum_bd7 (f := fun d => min (dayN (In xs) d) rg) (fun d => min_bd7 (dayN_bd (In xs) d) rg0) (7 * k) n hn)
      have B2 := Lib.hid (fun n hn => sum_bd7 (f := fun d => max 0 (dayN (In xs) d - ov)) (fun d => max_bd7 (dayN_bd (In xs) d) ov0) (7 * k) n hn)
      have B3 := Lib.hid (fun n hn => sum_bd7 (f := dayN (In xs)) (dayN_bd (In xs)) (7 * k) n hn)
      have N1 : Hid (∀ n : Nat, sumD (fun d => min (dayN (In xs) d) rg) (7 * k) (n + 1) = sumD (fun d => min (dayN (In xs) d) rg) (7 * k) n + min (dayN (In xs) (7 * k + n)) rg) := fun n => rfl
      have N2 : Hid (∀ n : Nat, sumD (fun d => max 0 (dayN (In xs) d - ov)) (7 * k) (n + 1) = sumD (fun d => max 0 (dayN (In xs) d - ov)) (7 * k) n + max 0 (dayN (In xs) (7 * k + n) - ov)) := fun n => rfl
      have N3 : Hid (∀ n : Nat, sumD (dayN (In xs)) (7 * k) (n + 1) = sumD (dayN (In xs)) (7 * k) n + dayN (In xs) (7 * k + n)) := fun n => rfl
      have Z1 : Hid (sumD (fun d => min (dayN (In xs) d) rg) (7 * k) 0 = 0) := rfl
      have Z2 : Hid (sumD (fun d => max 0 (dayN (In xs) d - ov)) (7 * k) 0 = 0) := rfl
      have Z3 : Hid (sumD (dayN (In xs)) (7 * k) 0 = 0) := rfl
      have HBD := Lib.hid (fun d => dayN_bd (In xs) d)
      have CSD2 := CSD
      have FDY : Hid (∀ d, Fits (ofDayP (In xs) d)) := fun d => Fits.canon _
      generalize sumD (fun d => min (dayN (In xs) d) rg) (7 * k) = u1 at *
      generalize sumD (fun d => max 0 (dayN (In xs) d - ov)) (7 * k) = u2 at *
      generalize sumD (dayN (In xs)) (7 * k) = u3 at *
      generalize dayN (In xs) = nd at *
      clear F1 CSD
      go_upto_region 5 with fail
      (try rw [hkm])
      (try rw [hk])
      clear hk hkm
      go_wp2_with (refine wpList_load_sp (by rfl) _ rfl w.heap.size rfl cs HN3.out.h HZ.out ?_)
      refine (COF.out _ HN3.out.c HN3.out.x (by omega)).mono ?_
      rintro e w4 ⟨A4, c4, B4, d4, E4, f4, rfl, r4, s4, t4, b4⟩
      have HN4 := Lib.hid (HN3.out.below b4)
      have HA4 := Lib.hid (r4.spans (.of_plain PA.out))
      have HB4 := Lib.hid (s4.spans (.of_plain PB.out))
      have HC4 := Lib.hid (t4.spans (.of_plain PC.out))
      clear r4 s4 t4 b4 HN3 COF
      obtain ⟨a, ha⟩ : ∃ a, 7 * k = a := ⟨_, rfl⟩
      have wa : IntKind.i64.wrap (7 * k) = a := by rw [ha]; exact wrapn_id (by omega) (by omega)
      have ba : 0 ≤ a ∧ a ≤ 364 := by omega
      have we : IntKind.i64.wrap (a + 7) = a + 7 := wrapn_id (by omega) (by omega)
      rw [ha] at N1 N2 N3
      have HA0 := Lib.hid ha
      clear ha
      go_wp2
      (try simp only [HA0.out])
      go_loopw [12, 13, 14, 15] (fun s12 s13 s14 s15 wr => ∃ n : Nat, n ≤ 7 ∧ s12 = .int .i64 (u1 n) ∧ s13 = .int .i64 (u2 n) ∧ s14 = .int .i64 (u3 n) ∧ s15 = .int .i64 (a + n) ∧ Hid (Below w4.heap.size w4 wr)) (fun _ _ _ s15 _ => (a + 7 - intOf s15).toNat)
      case atStart => exact ⟨0, by omega, by rw [Z1.out], by rw [Z2.out], by rw [Z3.out], by simp, Below.refl _ _⟩
      case round =>
        obtain ⟨n, hn, rfl, rfl, rfl, rfl, hbw⟩ := hrel
        have b1 := B1.out n hn
        have b2 := B2.out n hn
        have b3 := B3.out n hn
        have HNr := Lib.hid (HN4.out.below hbw.out)
        obtain ⟨x1, hx1⟩ : ∃ x, u1 n = x := ⟨_, rfl⟩
        obtain ⟨x2, hx2⟩ : ∃ x, u2 n = x := ⟨_, rfl⟩
        obtain ⟨x3, hx3⟩ : ∃ x, u3 n = x := ⟨_, rfl⟩
        rw [hx1] at b1 ⊢
        rw [hx2] at b2 ⊢
        rw [hx3] at b3 ⊢
        by_cases hlt : n < 7
        · have hd := HBD.out (a + n)
          have e1 := N1.out n
          have e2 := N2.out n
          have e3 := N3.out n
          have c1 := B1.out (n + 1) (by omega)
          have c2 := B2.out (n + 1) (by omega)
          have c3 := B3.out (n + 1) (by omega)
          have CD := CSD2.out
          obtain ⟨dn, hdn⟩ : ∃ d, a + (n : Int) = d := ⟨_, rfl⟩
          have bd : a ≤ dn ∧ dn < a + 7 := by omega
          rw [hdn] at hd e1 e2 e3 ⊢
          have CD := Lib.hid (fun W D dc (hW : Spans W D (ofDayP (In xs) dn)) => CSD2.out W D dc dn hW)
          have HDN := Lib.hid hdn
          obtain ⟨v1, hv1⟩ : ∃ x, u1 (n + 1) = x := ⟨_, rfl⟩
          obtain ⟨v2, hv2⟩ : ∃ x, u2 (n + 1) = x := ⟨_, rfl⟩
          obtain ⟨v3, hv3⟩ : ∃ x, u3 (n + 1) = x := ⟨_, rfl⟩
          rw [hv1] at e1 c1
          rw [hv2] at e2 c2
          rw [hv3] at e3 c3
          rw [hx1] at e1
          rw [hx2] at e2
          rw [hx3] at e3
          have V1 := Lib.hid hv1
          have V2 := Lib.hid hv2
          have V3 := Lib.hid hv3
          obtain ⟨z, hz⟩ : ∃ z, nd dn = z := ⟨_, rfl⟩
          rw [hz] at hd e1 e2 e3 CD
          obtain ⟨m1, hm1⟩ : ∃ m, min z rg = m := ⟨_, rfl⟩
          obtain ⟨y2, hy2⟩ : ∃ m, z - ov = m := ⟨_, rfl⟩
          rw [hy2] at e2
          obtain ⟨m2, hm2⟩ : ∃ m, max 0 y2 = m := ⟨_, rfl⟩
          rw [hm1] at e1
          rw [hm2] at e2
          have HM1 := Lib.hid hm1
          have HM2 := Lib.hid hm2
          have wy : IntKind.i64.wrap (z - ov) = y2 := by rw [hy2]; exact wrapn_id (by omega) (by omega)
          have w1' : IntKind.i64.wrap (x1 + m1) = v1 := by rw [← e1]; exact wrapn_id (by omega) (by omega)
          have w2' : IntKind.i64.wrap (x2 + m2) = v2 := by rw [← e2]; exact wrapn_id (by omega) (by omega)
          have w3' : IntKind.i64.wrap (x3 + z) = v3 := by rw [← e3]; exact wrapn_id (by omega) (by omega)
          have CDD := Lib.hid (fun W (hX : Spans W A xs) => CDY.out W dn hX (by omega))
          have FD := Lib.hid (FDY.out dn)
          have hn1 : n + 1 ≤ 7 := by omega
          have HN1' := Lib.hid hn1
          generalize ofDayP (In xs) dn = DL at *
          clear hm1 hm2 hy2 hdn e1 e2 e3 hx1 hx2 hx3 hv1 hv2 hv3 hz hlt hn
          go_wp2_with fail
          refine (CDD.out _ HNr.out.x).mono ?_
          rintro e w5 ⟨A5, c5, rfl, r5, b5⟩
          have HN5 := Lib.hid (HNr.out.below b5)
          have HS5 := Lib.hid (r5.spans FD.out)
          have HW5 := Lib.hid (bel_on hbw.out b5)
          clear r5 b5
          go_wp2_with fail
          refine (CD.out _ _ _ HS5.out).mono ?_
          rintro e w6 ⟨rfl, b6⟩
          have HN6 := Lib.hid (HN5.out.below b6)
          have HW6 := Lib.hid (bel_on HW5.out b6)
          have k13 := HN6.out.h.cell 13 q13
          have k14 := HN6.out.h.cell 14 q14
          have kz := HN6.out.h.size
          clear b6 HN5 HS5 HW5
          go_wp2_with (first | refine wpList_min2i (o := ⟨some 57, _, _, _, _, _⟩) _ _ m1 HM1.out rfl rfl rfl rfl ?_ | refine wpList_max2i (o := ⟨some 64, _, _, _, _, _⟩) _ _ m2 HM2.out rfl rfl rfl rfl ?_)
          go_roundw
          case rel => exact ⟨n + 1, HN1'.out, by rw [V1.out], by rw [V2.out], by rw [V3.out], by rw [show dn + 1 = a + ((n + 1 : Nat) : Int) by have := HDN.out; omega], HW6⟩
          case measure => have := HDN.out; simp [intOf]; omega
        · obtain rfl : n = 7 := by omega
          have s1 := S1.out
          have s2 := S2.out
          have s3 := S3.out
          rw [hx1] at s1
          rw [hx2] at s2
          rw [hx3] at s3
          have hb2 := sz_bound (In LA)
          have hb3 := sz_bound (In LB)
          obtain ⟨r, hr⟩ : ∃ r, min x1 wr0 = r := ⟨_, rfl⟩
          rw [hr] at s1
          rw [s1] at s3 hb2
          rw [s2] at s3
          obtain ⟨zb, hzb⟩ : ∃ z, sz (In LB) = z := ⟨_, rfl⟩
          rw [hzb] at s3 hb3
          have HR := Lib.hid hr
          obtain ⟨q1, hq1⟩ : ∃ q, x3 - r = q := ⟨_, rfl⟩
          have wq : IntKind.i64.wrap (x3 - r) = q1 := by rw [hq1]; exact wrapn_id (by omega) (by omega)
          have wz : IntKind.i64.wrap (q1 - x2) = zb := by rw [show q1 - x2 = zb by omega]; exact wrapn_id (by omega) (by omega)
          have CSA := Lib.hid (fun W (hW : Spans W A4 LA) => s1 ▸ size_any A4 c4 LA W hW (by omega))
          have CSB := Lib.hid (fun W (hW : Spans W B4 LB) => hzb ▸ size_any B4 d4 LB W hW (by omega))
          have CSC := Lib.hid (fun W (hW : Spans W E4 LC) => s2 ▸ size_any E4 f4 LC W hW (by omega))
          have k15 := HNr.out.h.cell 15 q15
          have kz := HNr.out.h.size
          have HAr := Lib.hid (HA4.out.below hbw.out)
          have HBr := Lib.hid (HB4.out.below hbw.out)
          have HCr := Lib.hid (HC4.out.below hbw.out)
          have HEr := Lib.hid HNr.out.b
          clear hx1 hx2 hx3 s1 s2 s3 hr hzb hq1 HNr hbw HA4 HB4 HC4 HN4
          go_wp2_with (refine wpList_min2i (o := ⟨some 72, _, _, _, _, _⟩) _ _ r HR.out rfl rfl rfl rfl ?_)
          refine (CSA.out _ HAr.out).mono ?_
          rintro e w5 ⟨rfl, b5⟩
          have HB5 := Lib.hid (HBr.out.below b5)
          have HC5 := Lib.hid (HCr.out.below b5)
          have HE5 := Lib.hid (bel_on HEr.out b5)
          clear b5 HAr HBr HCr HEr k15 kz
          go_wp2_with fail
          refine (CSC.out _ HC5.out).mono ?_
          rintro e w6 ⟨rfl, b6⟩
          have HB6 := Lib.hid (HB5.out.below b6)
          have HE6 := Lib.hid (bel_on HE5.out b6)
          clear b6 HB5 HC5 HE5
          go_wp2_with fail
          refine (CSB.out _ HB6.out).mono ?_
          rintro e w7 ⟨rfl, b7⟩
          have HE7 := Lib.hid (bel_on HE6.out b7)
          clear b7
          go_wp2
          go_ret
          exact ⟨rfl, HE7.out⟩
theorem overSizes_walk (s : SetP) (A1 A2 A3 A4 A5 A6 : Option Addr) (c1 c2 c3 c4 c5 c6 : Nat) (a1 : Option Addr) (len1 cap1 : Nat) (z1 : List (Int × Int)) (wk : Int) (w : World) (hs : SetAt w s A1 A2 A3 A4 A5 A6 c1 c2 c3 c4 c5 c6) (hf : s.Fit)
   (l1 : z1.length = len1) (l1' : len1 ≤ 9223372036854775807) (s1 : Spans w a1 z1) (n1 : a1 = none → cap1 = 0) (wk0 : 0 ≤ wk) (wk1 : wk ≤ 255) :
    Calls Try.prog 4 #[setV s A1 A2 A3 A4 A5 A6 c1 c2 c3 c4 c5 c6, .slice a1 len1 cap1, .int .u8 wk] w fun e w' => e = .returned (.bool true) ∧ Below w.heap.size w w' := by
  obtain ⟨cs, hcs⟩ : ∃ cs, setV s A1 A2 A3 A4 A5 A6 c1 c2 c3 c4 c5 c6 = .agg cs := ⟨_, rfl⟩
  rw [hcs]
  subst l1
  exact overSizes_main s cs w ⟨A1, A2, A3, A4, A5, A6, c1, c2, c3, c4, c5, c6, hcs, hs⟩ hf a1 cap1 z1 s1 l1' wk wk0 wk1
end Go.Proofs.Ythdolmhnjinlhaa
