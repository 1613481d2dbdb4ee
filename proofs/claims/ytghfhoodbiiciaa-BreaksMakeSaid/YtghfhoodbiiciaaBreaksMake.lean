/-
  BreaksMake: what is paid, and what is unpaid, are the clock, and share no second.
-/
import Derived.Test.YtghfhoodbiiciaaBrkLw
namespace Go.Proofs.Ytghfhoodbiiciaa
open Go.RowKit
set_option linter.unusedVariables false
set_option linter.unusedSimpArgs false
set_option maxRecDepth 100000

set_option maxHeartbeats 8000000 in
theorem breaksMake_main (s : SetP) (cs : Array Value) (w : World) (hC : SetC w s cs) (hf : s.Fit) (A : Option Addr) (n c : Nat) (l : List SegP) (hx : Segs w A n c l) (hF : ∀ e ∈ l, Fit e.fr ∧ Fit e.to) (hmax : n ≤ 9223372036854775807) :
    Calls Try.prog 3 #[.agg cs, .slice A n c] w fun e w' => e = .returned (.bool true) ∧ Below w.heap.size w w' := by
  have mixed : Try.prog.follows Departure.mixedOrders = true := by kernel_rfl
  have HM := Lib.hid mixed
  have HZ := Lib.hid hC.size
  have HN0 := Lib.hid (bx_start hC hx)
  have HFEW := Lib.hid (fun W (hW : SetC W s cs) (hX : Segs W A n c l) => few15 s cs W hW A n c l hX hmax)
  obtain ⟨b, hb⟩ : ∃ b, checkB s = b := ⟨_, rfl⟩
  have CCK := Lib.hid (fun W (hW : SetC W s cs) => scheck_c hW hf b hb)
  have CPD := Lib.hid (fun W (hW : SetC W s cs) (hX : Segs W A n c l) hn => bpaid_c hW hf b hb A n c l hX hn hF)
  have CCL := Lib.hid (fun W (hX : Segs W A n c l) (hn : n ≤ 30) => sclock_any A n c l W hX (by omega) hF)
  have PY := Lib.hid (yes_plain b s l)
  have PN := Lib.hid (no_plain b s l)
  have F1 : Hid (b = true → (canon fun t => In (allYes b s l) t ∧ In (allNo b s l) t) = []) := fun e => by subst e; exact make_and s l
  have F2 : Hid (b = true → canon (In (allYes b s l ++ allNo b s l)) = clockP l) := fun e => by subst e; exact make_or s l
  have F3 : Hid (b = false → allYes b s l = [] ∧ allNo b s l = []) := fun e => by subst e; exact ⟨rfl, rfl⟩
  have FX : Hid (Fits (clockP l)) := Fits.canon _
  have lX : (clockP l).length ≤ 32054401 := canon_len _
  generalize allYes b s l = PA at *
  generalize allNo b s l = NA at *
  generalize clockP l = X at *
  have lP := pl_len PY.out
  have lN := pl_len PN.out
  clear hC hx hF hf hb
  go_enter Try.func3, Try.ntmps3
  go_wp2_with fail
  refine (awake15 _).mono ?_
  rintro e w1 ⟨rfl, b1⟩
  have HN1 := Lib.hid (HN0.out.below b1)
  clear HN0 b1
  go_wp2_with (refine wpList_load_sp (by rfl) _ rfl w.heap.size rfl cs HN1.out.h HZ.out ?_)
  refine (HFEW.out _ HN1.out.c HN1.out.x).mono ?_
  rintro e w2 ⟨⟨q, rfl, hq⟩, b2⟩
  have HN2 := Lib.hid (HN1.out.below b2)
  clear HN1 b2 HFEW
  cases q with
  | false =>
    have HE := Lib.hid HN2.out.b
    clear HN2 hq
    go_wp2
    go_ret
    exact ⟨rfl, HE.out⟩
  | true =>
    have h30 := hq rfl
    clear hq
    go_wp2_with (refine wpList_load_sp (by rfl) _ rfl w.heap.size rfl cs HN2.out.h HZ.out ?_)
    refine (CPD.out _ HN2.out.c HN2.out.x (by omega)).mono ?_
    rintro e w3 ⟨A3, c3, B3, d3, rfl, r3, s3, b3⟩
    have HN3 := Lib.hid (HN2.out.below b3)
    have HA3 := Lib.hid (r3.spans (.of_plain PY.out))
    have HB3 := Lib.hid (s3.spans (.of_plain PN.out))
    have HAN := Lib.hid r3.forms
    have HBN := Lib.hid s3.forms
    clear r3 s3 b3 HN2 CPD
    go_wp2_with (refine wpList_load_sp (by rfl) _ rfl w.heap.size rfl cs HN3.out.h HZ.out ?_)
    refine (CCK.out _ HN3.out.c).mono ?_
    rintro e w4 ⟨rfl, b4⟩
    have HN4 := Lib.hid (HN3.out.below b4)
    have HA4 := Lib.hid (HA3.out.below b4)
    have HB4 := Lib.hid (HB3.out.below b4)
    clear b4 HN3 HA3 HB3 CCK
    cases b with
    | false =>
      obtain ⟨rfl, rfl⟩ := F3.out rfl
      have HE := Lib.hid HN4.out.b
      clear F1 F2 F3 HN4 HAN HBN
      go_wp2
      go_ret
      exact ⟨rfl, HE.out⟩
    | true =>
      have G1 := Lib.hid (F1.out rfl)
      have G2 := Lib.hid (F2.out rfl)
      clear F1 F2 F3
      go_wp2_with fail
      refine (CCL.out _ HN4.out.x h30).mono ?_
      rintro e w5 ⟨A5, c5, rfl, r5, b5⟩
      have HX5 := Lib.hid (r5.spans FX.out)
      have HA5 := Lib.hid (HA4.out.below b5)
      have HB5 := Lib.hid (HB4.out.below b5)
      have HE5 := Lib.hid (bel_on HN4.out.b b5)
      clear r5 b5 HN4 HA4 HB4 CCL
      go_wp2_with fail
      refine (and_any A3 B3 c3 d3 PA NA _ HA5.out HB5.out (by omega) (by omega)).mono ?_
      rw [G1.out]
      rintro e w6 ⟨A6, c6, rfl, r6, b6⟩
      have HX6 := Lib.hid (HX5.out.below b6)
      have HA6 := Lib.hid (HA5.out.below b6)
      have HB6 := Lib.hid (HB5.out.below b6)
      have HE6 := Lib.hid (bel_on HE5.out b6)
      clear r6 b6 HX5 HA5 HB5 HE5
      have hb7 := bel_alloc (Below.refl w6.heap.size w6) (.cells #[] 50)
      have hrow := row_new w6 [] #[] rfl (by simp) rfl (base := w6.heap.size) (Nat.le_refl _) rfl
      have HA7 := Lib.hid (HA6.out.below hb7)
      have HB7 := Lib.hid (HB6.out.below hb7)
      obtain ⟨A8, c8, w8, hr8, row8, bel8, -, -⟩ := row_append hrow (HA7.out.sl (c := c3) (fun e => by rcases HAN.out with ⟨_, _, q⟩ | ⟨g, q, _⟩; exact q; rw [q] at e; cases e)) (by simp; omega) (by simp)
      have hb8 := bel8 w6 (Nat.le_refl _) hb7
      have HB8 := Lib.hid (HB6.out.below hb8)
      simp only [List.nil_append] at row8
      obtain ⟨A9, c9, w9, hr9, row9, bel9, -, -⟩ := row_append row8 (HB8.out.sl (c := d3) (fun e => by rcases HBN.out with ⟨_, _, q⟩ | ⟨g, q, _⟩; exact q; rw [q] at e; cases e)) (by omega) hb8.size
      have hb9 := bel9 w6 (Nat.le_refl _) hb8
      rw [← List.length_append] at hr9
      simp only [List.length_nil, Nat.zero_add] at hr8
      have HR8 := Lib.hid hr8
      have HR9 := Lib.hid hr9
      have HU9 := Lib.hid (row9.spans (Fits.append (.of_plain PY.out) (.of_plain PN.out)))
      have HX9 := Lib.hid (HX6.out.below hb9)
      have HA9 := Lib.hid (HA6.out.below hb9)
      have HB9 := Lib.hid (HB6.out.below hb9)
      have HE9 := Lib.hid (bel_on HE6.out hb9)
      have lU : (PA ++ NA).length ≤ 100000000 := by rw [List.length_append]; omega
      have CNO := Lib.hid (fun W (hW : Spans W A9 (PA ++ NA)) => G2.out ▸ norm_any A9 c9 (PA ++ NA) W hW lU)
      have CNA := Lib.hid (fun W (hW : Spans W A3 PA) => (canon_self PY.out) ▸ norm_any A3 c3 PA W hW (by omega))
      have CNB := Lib.hid (fun W (hW : Spans W B3 NA) => (canon_self PN.out) ▸ norm_any B3 d3 NA W hW (by omega))
      generalize PA ++ NA = U at *
      clear hb7 hrow HA7 HB7 hr8 row8 bel8 hb8 HB8 hr9 row9 bel9 hb9 HX6 HA6 HB6 HE6 HAN HBN G1 G2 lU
      go_wp2_with (first | (at_builtin; refine wpList_append_run_onB (o := ⟨some 48, _, _, _, _, _⟩) HR8.out (by rfl) rfl rfl rfl ?_) | (at_builtin; refine wpList_append_run_onB (o := ⟨some 50, _, _, _, _, _⟩) HR9.out (by rfl) rfl rfl rfl ?_))
      refine (CNO.out _ HU9.out).mono ?_
      rintro e w10 ⟨A10, c10, rfl, r10, b10⟩
      have HV10 := Lib.hid (r10.spans FX.out)
      have HX10 := Lib.hid (HX9.out.below b10)
      have HA10 := Lib.hid (HA9.out.below b10)
      have HB10 := Lib.hid (HB9.out.below b10)
      have HE10 := Lib.hid (bel_on HE9.out b10)
      clear r10 b10 HX9 HA9 HB9 HE9 HU9
      go_wp2_with fail
      refine (same_any A10 A5 c10 c5 X _ HV10.out HX10.out (by omega)).mono ?_
      rintro e w11 ⟨rfl, b11⟩
      have HA11 := Lib.hid (HA10.out.below b11)
      have HB11 := Lib.hid (HB10.out.below b11)
      have HE11 := Lib.hid (bel_on HE10.out b11)
      clear b11 HV10 HX10 HA10 HB10 HE10
      go_wp2_with fail
      refine (CNA.out _ HA11.out).mono ?_
      rintro e w12 ⟨A12, c12, rfl, r12, b12⟩
      have HV12 := Lib.hid (r12.spans (.of_plain PY.out))
      have HA12 := Lib.hid (HA11.out.below b12)
      have HB12 := Lib.hid (HB11.out.below b12)
      have HE12 := Lib.hid (bel_on HE11.out b12)
      clear r12 b12 HA11 HB11 HE11
      go_wp2_with fail
      refine (same_any A3 A12 c3 c12 PA _ HA12.out HV12.out (by omega)).mono ?_
      rintro e w13 ⟨rfl, b13⟩
      have HB13 := Lib.hid (HB12.out.below b13)
      have HE13 := Lib.hid (bel_on HE12.out b13)
      clear b13 HA12 HV12 HB12 HE12
      go_wp2_with fail
      refine (CNB.out _ HB13.out).mono ?_
      rintro e w14 ⟨A14, c14, rfl, r14, b14⟩
      have HV14 := Lib.hid (r14.spans (.of_plain PN.out))
      have HB14 := Lib.hid (HB13.out.below b14)
      have HE14 := Lib.hid (bel_on HE13.out b14)
      clear r14 b14 HB13 HE13
      go_wp2_with fail
      refine (same_any B3 A14 d3 c14 NA _ HB14.out HV14.out (by omega)).mono ?_
      rintro e w15 ⟨rfl, b15⟩
      have HE15 := Lib.hid (bel_on HE14.out b15)
      clear b15
      go_wp2
      go_ret
      exact ⟨rfl, HE15.out⟩
theorem breaksMake_walk (s : SetP) (A1 A2 A3 A4 A5 A6 : Option Addr) (c1 c2 c3 c4 c5 c6 : Nat) (a1 : Option Addr) (len1 cap1 : Nat) (z1 : List SegP) (w : World) (hs : SetAt w s A1 A2 A3 A4 A5 A6 c1 c2 c3 c4 c5 c6) (hf : s.Fit)
   (w1 : Segs w a1 len1 cap1 z1) (i1 : ∀ e ∈ z1, Fit e.fr ∧ Fit e.to) (l1 : len1 ≤ cap1) (l1' : cap1 ≤ 9223372036854775807) :
    Calls Try.prog 3 #[setV s A1 A2 A3 A4 A5 A6 c1 c2 c3 c4 c5 c6, .slice a1 len1 cap1] w fun e w' => e = .returned (.bool true) ∧ Below w.heap.size w w' := by
  obtain ⟨cs, hcs⟩ : ∃ cs, setV s A1 A2 A3 A4 A5 A6 c1 c2 c3 c4 c5 c6 = .agg cs := ⟨_, rfl⟩
  rw [hcs]
  exact breaksMake_main s cs w ⟨A1, A2, A3, A4, A5, A6, c1, c2, c3, c4, c5, c6, hcs, hs⟩ hf a1 len1 cap1 z1 w1 i1 (by omega)
end Go.Proofs.Ytghfhoodbiiciaa
