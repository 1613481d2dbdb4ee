/-
  OverMakes: what is regular, overtime, and double, shares no second, and is the week's.
-/
import Derived.Test.YthdolmhnjinlhaaOvrAw
import Derived.Test.YthdolmhnjinlhaaZar
namespace Go.Proofs.Ythdolmhnjinlhaa
open Go.RowKit
set_option linter.unusedVariables false
set_option linter.unusedSimpArgs false
set_option maxRecDepth 100000

set_option maxHeartbeats 8000000 in
theorem overMakes_main (s : SetP) (cs : Array Value) (w : World) (hC : SetC w s cs) (hf : s.Fit) (A : Option Addr) (cap : Nat) (xs : List (Int × Int)) (hx : Spans w A xs) (hmax : xs.length ≤ 9223372036854775807) (k : Int) (k0 : -9223372036854775808 ≤ k) (k1 : k ≤ 9223372036854775807) :
    Calls Try.prog 3 #[.agg cs, .slice A xs.length cap, .int .i64 k] w fun e w' => e = .returned (.bool true) ∧ Below w.heap.size w w' := by
  have mixed : Try.prog.follows Departure.mixedOrders = true := by kernel_rfl
  have HM := Lib.hid mixed
  have HZ := Lib.hid hC.size
  have HN0 := Lib.hid (ox_start hC hx)
  have HFEW := Lib.hid (fun W (hW : SetC W s cs) (hX : Spans W A xs) => few16 s cs W hW A xs.length cap xs hX rfl hmax)
  obtain ⟨b, hb⟩ : ∃ b, checkB s = b := ⟨_, rfl⟩
  have CCK := Lib.hid (fun W (hW : SetC W s cs) => scheck_c hW hf b hb)
  have COF := Lib.hid (fun W (hW : SetC W s cs) (hX : Spans W A xs) hl => over_c hW hf b hb A cap xs hX hl k)
  have CWK := Lib.hid (fun W (hX : Spans W A xs) hl => ofweek_any A cap xs k W hX hl)
  have PA := Lib.hid (reg_plain b s (In xs) k)
  have PB := Lib.hid (ovr_plain b s (In xs) k)
  have PC := Lib.hid (dbl_plain b s (In xs) k)
  have F1 : Hid (b = true → canon (In ((regL b s (In xs) k ++ ovrL b s (In xs) k) ++ dblL b s (In xs) k)) = ofWeekP (In xs) k) := fun e => by subst e; exact make3_all (check_iff.1 hb)
  have F2 : Hid (b = true → sz (In (regL b s (In xs) k)) + sz (In (ovrL b s (In xs) k)) + sz (In (dblL b s (In xs) k)) = sz (In ((regL b s (In xs) k ++ ovrL b s (In xs) k) ++ dblL b s (In xs) k))) := fun e => by subst e; exact make3_sz (check_iff.1 hb)
  have F3 : Hid (b = true → (canon fun t => In (regL b s (In xs) k) t ∧ In (ovrL b s (In xs) k) t) = []) := fun e => by subst e; exact make3_and
  have F4 : Hid (b = false → regL b s (In xs) k = [] ∧ ovrL b s (In xs) k = [] ∧ dblL b s (In xs) k = []) := fun e => by subst e; exact ⟨rfl, rfl, rfl⟩
  have FX : Hid (Fits (ofWeekP (In xs) k)) := Fits.canon _
  have lX : (ofWeekP (In xs) k).length ≤ 32054401 := canon_len _
  generalize regL b s (In xs) k = LA at *
  generalize ovrL b s (In xs) k = LB at *
  generalize dblL b s (In xs) k = LC at *
  generalize ofWeekP (In xs) k = X at *
  have lA := pl_len PA.out
  have lB := pl_len PB.out
  have lC := pl_len PC.out
  clear hC hx hf hb
  go_enter Try.func3, Try.ntmps3
  go_wp2_with fail
  refine (awake16 _).mono ?_
  rintro e w1 ⟨rfl, b1⟩
  have HN1 := Lib.hid (HN0.out.below b1)
  clear HN0 b1
  go_wp2_with (refine wpList_load_sp (by rfl) _ rfl w.heap.size rfl cs HN1.out.h HZ.out ?_)
  refine (HFEW.out _ HN1.out.c HN1.out.x).mono ?_
  rintro e w2 ⟨⟨q, rfl, hq⟩, b2⟩
  have HN2 := Lib.hid (HN1.out.below b2)
  clear HN1 b2 HFEW
  cases q with
  | false =>
    have HE := Lib.hid HN2.out.b
    clear HN2 hq
    go_wp2
    go_ret
    exact ⟨rfl, HE.out⟩
  | true =>
    have h30 := hq rfl
    clear hq
    go_wp2_with (refine wpList_load_sp (by rfl) _ rfl w.heap.size rfl cs HN2.out.h HZ.out ?_)
    refine (COF.out _ HN2.out.c HN2.out.x (by omega)).mono ?_
    rintro e w3 ⟨A3, c3, B3, d3, E3, f3, rfl, r3, s3, t3, b3⟩
    have HN3 := Lib.hid (HN2.out.below b3)
    have HA3 := Lib.hid (r3.spans (.of_plain PA.out))
    have HB3 := Lib.hid (s3.spans (.of_plain PB.out))
    have HC3 := Lib.hid (t3.spans (.of_plain PC.out))
    have HAN := Lib.hid r3.forms
    have HBN := Lib.hid s3.forms
    have HCN := Lib.hid t3.forms
    clear r3 s3 t3 b3 HN2 COF
    go_wp2_with (refine wpList_load_sp (by rfl) _ rfl w.heap.size rfl cs HN3.out.h HZ.out ?_)
    refine (CCK.out _ HN3.out.c).mono ?_
    rintro e w4 ⟨rfl, b4⟩
    have HN4 := Lib.hid (HN3.out.below b4)
    have HA4 := Lib.hid (HA3.out.below b4)
    have HB4 := Lib.hid (HB3.out.below b4)
    have HC4 := Lib.hid (HC3.out.below b4)
    clear b4 HN3 HA3 HB3 HC3 CCK
    cases b with
    | false =>
      obtain ⟨rfl, rfl, rfl⟩ := F4.out rfl
      have HE := Lib.hid HN4.out.b
      clear F1 F2 F3 F4 HN4 HAN HBN HCN
      go_wp2
      go_ret
      exact ⟨rfl, HE.out⟩
    | true =>
      have G1 := Lib.hid (F1.out rfl)
      have G2 := Lib.hid (F2.out rfl)
      have G3 := Lib.hid (F3.out rfl)
      clear F1 F2 F3 F4
      have hb7 := bel_alloc (Below.refl w4.heap.size w4) (.cells #[] 46)
      have hrow := row_new w4 [] #[] rfl (by simp) rfl (base := w4.heap.size) (Nat.le_refl _) rfl
      have HA7 := HA4.out.below hb7
      obtain ⟨A8, c8, w8, hr8, row8, bel8, -, -⟩ := row_append hrow (HA7.sl (c := c3) (fun e => by rcases HAN.out with ⟨_, _, q⟩ | ⟨g, q, _⟩; exact q; rw [q] at e; cases e)) (by simp; omega) (by simp)
      have hb8 := bel8 w4 (Nat.le_refl _) hb7
      have HB8 := HB4.out.below hb8
      simp only [List.nil_append] at row8
      obtain ⟨A9, c9, w9, hr9, row9, bel9, -, -⟩ := row_append row8 (HB8.sl (c := d3) (fun e => by rcases HBN.out with ⟨_, _, q⟩ | ⟨g, q, _⟩; exact q; rw [q] at e; cases e)) (by omega) hb8.size
      have hb9 := bel9 w4 (Nat.le_refl _) hb8
      have HC9 := HC4.out.below hb9
      have lAB : (LA ++ LB).length ≤ 64108802 := by rw [List.length_append]; omega
      obtain ⟨A10, c10, w10, hr10, row10, bel10, -, -⟩ := row_append row9 (HC9.sl (c := f3) (fun e => by rcases HCN.out with ⟨_, _, q⟩ | ⟨g, q, _⟩; exact q; rw [q] at e; cases e)) (by omega) hb9.size
      have hb10 := bel10 w4 (Nat.le_refl _) hb9
      have lU : ((LA ++ LB) ++ LC).length ≤ 100000000 := by rw [List.length_append]; omega
      rw [← List.length_append] at hr9 hr10
      simp only [List.length_nil, Nat.zero_add] at hr8
      have HR8 := Lib.hid hr8
      have HR9 := Lib.hid hr9
      have HR10 := Lib.hid hr10
      have HU := Lib.hid (row10.spans (Fits.append (Fits.append (.of_plain PA.out) (.of_plain PB.out)) (.of_plain PC.out)))
      have HN10 := Lib.hid (HN4.out.below hb10)
      have HA10 := Lib.hid (HA4.out.below hb10)
      have HB10 := Lib.hid (HB4.out.below hb10)
      have HC10 := Lib.hid (HC4.out.below hb10)
      have CNO := Lib.hid (fun W (hW : Spans W A10 ((LA ++ LB) ++ LC)) => G1.out ▸ norm_any A10 c10 ((LA ++ LB) ++ LC) W hW lU)
      obtain ⟨za, hza⟩ : ∃ z, sz (In LA) = z := ⟨_, rfl⟩
      obtain ⟨zb, hzb⟩ : ∃ z, sz (In LB) = z := ⟨_, rfl⟩
      obtain ⟨zc, hzc⟩ : ∃ z, sz (In LC) = z := ⟨_, rfl⟩
      obtain ⟨zab, hzab⟩ : ∃ z, za + zb = z := ⟨_, rfl⟩
      obtain ⟨zu, hzu⟩ : ∃ z, zab + zc = z := ⟨_, rfl⟩
      have ba := sz_bound (In LA)
      have bb := sz_bound (In LB)
      have bc := sz_bound (In LC)
      rw [hza] at ba
      rw [hzb] at bb
      rw [hzc] at bc
      have wab : IntKind.i64.wrap (za + zb) = zab := by rw [hzab]; exact wrapn_id (by omega) (by omega)
      have wu : IntKind.i64.wrap (zab + zc) = zu := by rw [hzu]; exact wrapn_id (by omega) (by omega)
      have hU : sz (In ((LA ++ LB) ++ LC)) = zu := by
        have q := G2.out
        rw [hza, hzb, hzc, hzab, hzu] at q
        exact q.symm
      have CSA := Lib.hid (fun W (hW : Spans W A3 LA) => hza ▸ size_any A3 c3 LA W hW (by omega))
      have CSB := Lib.hid (fun W (hW : Spans W B3 LB) => hzb ▸ size_any B3 d3 LB W hW (by omega))
      have CSC := Lib.hid (fun W (hW : Spans W E3 LC) => hzc ▸ size_any E3 f3 LC W hW (by omega))
      have CSU := Lib.hid (fun W (hW : Spans W A10 ((LA ++ LB) ++ LC)) => hU ▸ size_any A10 c10 ((LA ++ LB) ++ LC) W hW lU)
      have CAN := Lib.hid (fun W (h1 : Spans W A3 LA) (h2 : Spans W B3 LB) => G3.out ▸ and_any A3 B3 c3 d3 LA LB W h1 h2 (by omega) (by omega))
      generalize (LA ++ LB) ++ LC = U at *
      generalize LA ++ LB = V at *
      clear hb7 hrow HA7 hr8 row8 bel8 hb8 HB8 hr9 row9 bel9 hb9 HC9 hr10 row10 bel10 hb10 HN4 HA4 HB4 HC4 HAN HBN HCN G1 G2 G3 lU lAB hza hzb hzc hzab hzu hU
      go_wp2_with (first | (at_builtin; refine wpList_append_run (o := ⟨some 43, _, _, _, _, _⟩) HR8.out rfl rfl rfl rfl ?_) | (at_builtin; refine wpList_append_run (o := ⟨some 45, _, _, _, _, _⟩) HR9.out rfl rfl rfl rfl ?_) | (at_builtin; refine wpList_append_run (o := ⟨some 47, _, _, _, _, _⟩) HR10.out rfl rfl rfl rfl ?_))
      refine (CNO.out _ HU.out).mono ?_
      rintro e w11 ⟨A11, c11, rfl, r11, b11⟩
      have HV11 := Lib.hid (r11.spans FX.out)
      have HN11 := Lib.hid (HN10.out.below b11)
      have HA11 := Lib.hid (HA10.out.below b11)
      have HB11 := Lib.hid (HB10.out.below b11)
      have HC11 := Lib.hid (HC10.out.below b11)
      have HU11 := Lib.hid (HU.out.below b11)
      clear r11 b11 HN10 HA10 HB10 HC10 HU
      go_wp2_with fail
      refine (CWK.out _ HN11.out.x (by omega)).mono ?_
      rintro e w12 ⟨A12, c12, rfl, r12, b12⟩
      have HE12 := Lib.hid (bel_on HN11.out.b b12)
      have HW12 := Lib.hid (r12.spans FX.out)
      have HV12 := Lib.hid (HV11.out.below b12)
      have HA12 := Lib.hid (HA11.out.below b12)
      have HB12 := Lib.hid (HB11.out.below b12)
      have HC12 := Lib.hid (HC11.out.below b12)
      have HU12 := Lib.hid (HU11.out.below b12)
      clear r12 b12 HN11 HA11 HB11 HC11 HU11 HV11
      go_wp2_with fail
      refine (same_any A11 A12 c11 c12 X _ HV12.out HW12.out (by omega)).mono ?_
      rintro e w13 ⟨rfl, b13⟩
      have HE13 := Lib.hid (bel_on HE12.out b13)
      have HA13 := Lib.hid (HA12.out.below b13)
      have HB13 := Lib.hid (HB12.out.below b13)
      have HC13 := Lib.hid (HC12.out.below b13)
      have HU13 := Lib.hid (HU12.out.below b13)
      clear b13 HE12 HA12 HB12 HC12 HU12 HV12 HW12
      go_wp2_with fail
      refine (CSA.out _ HA13.out).mono ?_
      rintro e w14 ⟨rfl, b14⟩
      have HE14 := Lib.hid (bel_on HE13.out b14)
      have HA14 := Lib.hid (HA13.out.below b14)
      have HB14 := Lib.hid (HB13.out.below b14)
      have HC14 := Lib.hid (HC13.out.below b14)
      have HU14 := Lib.hid (HU13.out.below b14)
      clear b14 HE13 HA13 HB13 HC13 HU13
      go_wp2_with fail
      refine (CSB.out _ HB14.out).mono ?_
      rintro e w15 ⟨rfl, b15⟩
      have HE15 := Lib.hid (bel_on HE14.out b15)
      have HA15 := Lib.hid (HA14.out.below b15)
      have HB15 := Lib.hid (HB14.out.below b15)
      have HC15 := Lib.hid (HC14.out.below b15)
      have HU15 := Lib.hid (HU14.out.below b15)
      clear b15 HE14 HA14 HB14 HC14 HU14
      go_wp2_with fail
      refine (CSC.out _ HC15.out).mono ?_
      rintro e w16 ⟨rfl, b16⟩
      have HE16 := Lib.hid (bel_on HE15.out b16)
      have HA16 := Lib.hid (HA15.out.below b16)
      have HB16 := Lib.hid (HB15.out.below b16)
      have HU16 := Lib.hid (HU15.out.below b16)
      clear b16 HE15 HA15 HB15 HC15 HU15
      go_wp2_with fail
      refine (CSU.out _ HU16.out).mono ?_
      rintro e w17 ⟨rfl, b17⟩
      have HE17 := Lib.hid (bel_on HE16.out b17)
      have HA17 := Lib.hid (HA16.out.below b17)
      have HB17 := Lib.hid (HB16.out.below b17)
      clear b17 HE16 HA16 HB16 HU16
      go_wp2_with fail
      refine (CAN.out _ HA17.out HB17.out).mono ?_
      rintro e w18 ⟨A18, c18, rfl, r18, b18⟩
      have HE18 := Lib.hid (bel_on HE17.out b18)
      clear b18 r18
      go_wp2
      go_ret
      exact ⟨rfl, HE18.out⟩
theorem overMakes_walk (s : SetP) (A1 A2 A3 A4 A5 A6 : Option Addr) (c1 c2 c3 c4 c5 c6 : Nat) (a1 : Option Addr) (len1 cap1 : Nat) (z1 : List (Int × Int)) (k : Int) (w : World) (hs : SetAt w s A1 A2 A3 A4 A5 A6 c1 c2 c3 c4 c5 c6) (hf : s.Fit)
   (l1 : z1.length = len1) (l1' : len1 ≤ 9223372036854775807) (s1 : Spans w a1 z1) (n1 : a1 = none → cap1 = 0) (k0 : -9223372036854775808 ≤ k) (k1 : k ≤ 9223372036854775807) :
    Calls Try.prog 3 #[setV s A1 A2 A3 A4 A5 A6 c1 c2 c3 c4 c5 c6, .slice a1 len1 cap1, .int .i64 k] w fun e w' => e = .returned (.bool true) ∧ Below w.heap.size w w' := by
  obtain ⟨cs, hcs⟩ : ∃ cs, setV s A1 A2 A3 A4 A5 A6 c1 c2 c3 c4 c5 c6 = .agg cs := ⟨_, rfl⟩
  rw [hcs]
  subst l1
  exact overMakes_main s cs w ⟨A1, A2, A3, A4, A5, A6, c1, c2, c3, c4, c5, c6, hcs, hs⟩ hf a1 cap1 z1 s1 l1' k k0 k1
end Go.Proofs.Ythdolmhnjinlhaa
