/-
  Package breaks: a day parted in what is paid and what is not.
  The lists that a week's overtime is made of, day by day, as plain spans. No program here.
  The document's own cut of a day: span by span, by how much there was ahead. No program here.
  What is paid of a week's days hangs on that week alone. No program here.
-/
import Derived.Test.YtdlimgpmmkcgmaaGreatZay
import Derived.Test.YtdlimgpmmkcgmaaGreatZas
import Derived.Test.YtdlimgpmmkcgmaaGreatZaz
import Derived.Test.YtdlimgpmmkcgmaaGreatZak
import Derived.Test.YtdlimgpmmkcgmaaGreatZac
import Derived.Test.YtdlimgpmmkcgmaaGreatZab
namespace Go.Proofs.YtdlimgpmmkcgmaaGreat
open Go.RowKit
set_option linter.unusedVariables false
set_option linter.unusedSimpArgs false
set_option maxRecDepth 20000

theorem setC_brk {w : World} {s : SetP} {cs : Array Value} (h : SetC w s cs) : cs[10]? = some (.int .i64 s.paid) ∧ cs[11]? = some (.int .i64 s.aft) ∧ cs[12]? = some (.int .i64 s.brk) := by
  obtain ⟨A1, A2, A3, A4, A5, A6, c1, c2, c3, c4, c5, c6, h1, h2⟩ := h
  unfold setV at h1
  injection h1 with h1
  subst h1
  exact ⟨rfl, rfl, rfl⟩
/-- What a call that tells two lists of spans answers: slices of its own. -/
def Gives2 (w : World) (xs ys : List (Int × Int)) (e : Ending) (w' : World) : Prop :=
  ∃ A c B d, e = .returned (.tuple #[.slice A xs.length c, .slice B ys.length d]) ∧ Row w' w.heap.size A c xs ∧ Row w' w.heap.size B d ys ∧ Below w.heap.size w w'
theorem row_sl {w : World} {base c : Nat} {A : Option Addr} {xs : List (Int × Int)} (h : Row w base A c xs) : Sl 2 w A xs.length c (cells2 xs) := Sl.of_own h

set_option maxHeartbeats 8000000 in
theorem parted_c {w : World} {s : SetP} {cs : Array Value} (h : SetC w s cs) (hm : s.May) (A : Option Addr) (ca : Nat) (xs : List (Int × Int)) (B : Option Addr) (cb : Nat) (ys : List (Int × Int)) (hx : Spans w A xs) (hy : Spans w B ys) (hlx : xs.length ≤ 100000000) (hly : ys.length ≤ 100000000) (d : Int) :
    Calls Tryz.prog 51 #[.agg cs, .slice A xs.length ca, .slice B ys.length cb, .int .i64 d] w (Gives2 w (paidDay (In xs) (In ys) s.paid s.aft s.brk d) (unDay (In xs) (In ys) s.paid s.aft s.brk d)) := by
  obtain ⟨q10, q11, q12⟩ := setC_brk h
  have HZ := Lib.hid h.size
  have hb0 := bel_alloc (Below.refl w.heap.size w) (.cells cs 30)
  have HB0 := Lib.hid (Has.new w 30 cs rfl)
  have HX0 := Lib.hid (hx.below hb0)
  have HY0 := Lib.hid (hy.below hb0)
  obtain ⟨pb0, pb1⟩ := hm.paid
  obtain ⟨af0, af1⟩ := hm.aft
  obtain ⟨ab0, ab1⟩ := hm.brk
  generalize s.paid = pb at *
  generalize s.aft = af at *
  generalize s.brk = ab at *
  clear h hm hx hy
  have HC1 := Lib.hid (fun W (hW : Spans W A xs) => ofday_any A ca xs d W hW hlx)
  have HC2 := Lib.hid (fun W (hW : Spans W B ys) => ofday_any B cb ys d W hW hly)
  have lC := canon_len (onDay (In xs) d)
  have lR := canon_len (onDay (In ys) d)
  replace lC : (ofDayP (In xs) d).length ≤ 32054401 := lC
  replace lR : (ofDayP (In ys) d).length ≤ 32054401 := lR
  have lF : (fstL (In ys) pb d).length ≤ 32054401 := canon_len _
  have lO : (othL (In ys) pb d).length ≤ 32054401 := canon_len _
  have lM : (wrkL (In xs) (In ys) d).length ≤ 32054401 := canon_len _
  obtain ⟨zr, hzr⟩ : ∃ z, sz (onDay (In ys) d) = z := ⟨_, rfl⟩
  have bzr := sz_bound (onDay (In ys) d)
  rw [hzr] at bzr
  obtain ⟨zc, hzc⟩ : ∃ z, sz (onDay (In xs) d) = z := ⟨_, rfl⟩
  obtain ⟨n, hn⟩ : ∃ n, ab - zr = n := ⟨_, rfl⟩
  have bn : -32054400 ≤ n ∧ n ≤ 86400 := by omega
  have hwn : IntKind.i64.wrap (ab - zr) = n := by rw [hn]; exact wrapn_id (by omega) (by omega)
  have lA : (autL (In xs) (In ys) n d).length ≤ 32054401 := canon_len _
  have FC : Hid (Fits (ofDayP (In xs) d)) := Fits.canon _
  have FR : Hid (Fits (ofDayP (In ys) d)) := Fits.canon _
  have FF : Hid (Fits (fstL (In ys) pb d)) := Fits.canon _
  have FO : Hid (Fits (othL (In ys) pb d)) := Fits.canon _
  have FM : Hid (Fits (wrkL (In xs) (In ys) d)) := Fits.canon _
  have FA : Hid (Fits (autL (In xs) (In ys) n d)) := Fits.canon _
  have HF := Lib.hid (fun W D dc (hW : Spans W D (ofDayP (In ys) d)) => fst_list (R := In ys) pb d ▸ first_any D dc (ofDayP (In ys) d) pb W hW (by omega) ⟨by omega, by omega⟩)
  have HO := Lib.hid (fun W D dc E ec (hW : Spans W D (ofDayP (In ys) d)) (hV : Spans W E (fstL (In ys) pb d)) => oth_list (R := In ys) pb d ▸ minus_any D E dc ec (ofDayP (In ys) d) (fstL (In ys) pb d) W hW hV (by omega) (by omega))
  have HM := Lib.hid (fun W D dc E ec (hW : Spans W D (ofDayP (In xs) d)) (hV : Spans W E (ofDayP (In ys) d)) => wrk_list (C := In xs) (R := In ys) d ▸ minus_any D E dc ec (ofDayP (In xs) d) (ofDayP (In ys) d) W hW hV (by omega) (by omega))
  have HL := Lib.hid (fun W D dc (hW : Spans W D (wrkL (In xs) (In ys) d)) => aut_list (C := In xs) (R := In ys) n d ▸ last_any D dc (wrkL (In xs) (In ys) d) n W hW (by omega) ⟨by omega, by omega⟩)
  have HSC := Lib.hid (fun W D dc (hW : Spans W D (ofDayP (In xs) d)) => ((day_only (p := In xs) d).trans hzc) ▸ size_any D dc (ofDayP (In xs) d) W hW (by omega))
  have HSR := Lib.hid (fun W D dc (hW : Spans W D (ofDayP (In ys) d)) => ((day_only (p := In ys) d).trans hzr) ▸ size_any D dc (ofDayP (In ys) d) W hW (by omega))
  have HUY := Lib.hid (fun (q : af ≤ zc) t h0 h1 => un_yes (C := In xs) (R := In ys) (pb := pb) (af := af) (ab := ab) (d := d) (hzc ▸ q) (t := t) h0 h1)
  rw [hzr, hn] at HUY
  have HUN := Lib.hid (fun (q : ¬ af ≤ zc) t h0 h1 => un_no (C := In xs) (R := In ys) (pb := pb) (af := af) (ab := ab) (d := d) (hzc ▸ q) (t := t) h0 h1)
  have HP := Lib.hid (fun W D dc E ec U (hW : Spans W D (ofDayP (In xs) d)) (hV : Spans W E U) (hl : U.length ≤ 100000000) hU => un_paid (C := In xs) (R := In ys) (pb := pb) (af := af) (ab := ab) (U := U) (d := d) hU ▸ minus_any D E dc ec (ofDayP (In xs) d) U W hW hV (by omega) hl)
  have HU := Lib.hid (fun W E ec U (hV : Spans W E U) (hl : U.length ≤ 100000000) hU => un_norm (C := In xs) (R := In ys) (pb := pb) (af := af) (ab := ab) (U := U) (d := d) hU ▸ norm_any E ec U W hV hl)
  replace hzr := Lib.hid hzr
  replace hzc := Lib.hid hzc
  replace hn := Lib.hid hn
  generalize ofDayP (In xs) d = CL at *
  generalize ofDayP (In ys) d = RL at *
  generalize fstL (In ys) pb d = FL at *
  generalize othL (In ys) pb d = OL at *
  generalize wrkL (In xs) (In ys) d = ML at *
  generalize autL (In xs) (In ys) n d = AL at *
  generalize paidDay (In xs) (In ys) pb af ab d = PL at *
  generalize unDay (In xs) (In ys) pb af ab d = UL at *
  generalize unP (onDay (In xs) d) (onDay (In ys) d) pb af ab = UP at *
  clear hzr hzc hn
  go_enter Tryz.func51, Tryz.ntmps51
  go_wp2_with fail
  refine (HC1.out _ HX0.out).mono ?_
  rintro e w1 ⟨D1, c1, rfl, r1, b1⟩
  have HB1 := Lib.hid (HB0.out.below b1)
  have HY1 := Lib.hid (HY0.out.below b1)
  have HS1 := Lib.hid (r1.spans FC.out)
  have HW1 := Lib.hid (bel_on hb0 b1)
  clear r1 b1 hb0 HB0 HY0 HX0 HC1
  go_wp2_with fail
  refine (HC2.out _ HY1.out).mono ?_
  rintro e w2 ⟨D2, c2, rfl, r2, b2⟩
  have HB2 := Lib.hid (HB1.out.below b2)
  have HS2 := Lib.hid (HS1.out.below b2)
  have HR2 := Lib.hid (r2.spans FR.out)
  have HW2 := Lib.hid (bel_on HW1.out b2)
  have g10 := HB2.out.cell 10 q10
  have gz := HB2.out.size
  clear r2 b2 HB1 HY1 HS1 HW1 HC2
  go_wp2_with fail
  refine (HF.out _ _ _ HR2.out).mono ?_
  rintro e w3 ⟨D3, c3, rfl, r3, b3⟩
  have HB3 := Lib.hid (HB2.out.below b3)
  have HS3 := Lib.hid (HS2.out.below b3)
  have HR3 := Lib.hid (HR2.out.below b3)
  have HF3 := Lib.hid (r3.spans FF.out)
  have HW3 := Lib.hid (bel_on HW2.out b3)
  clear r3 b3 HB2 HS2 HR2 HW2 HF g10 gz
  go_wp2_with fail
  refine (HO.out _ _ _ _ _ HR3.out HF3.out).mono ?_
  rintro e w4 ⟨D4, c4, rfl, r4, b4⟩
  have HBX := Lib.hid (HB3.out.below b4)
  have HC := Lib.hid (HS3.out.below b4)
  have HRr := Lib.hid (HR3.out.below b4)
  have HV4 := Lib.hid b4
  have HO4 := Lib.hid r4
  clear r4 b4 HB3 HR3 HF3 HO
  by_cases hq : af ≤ zc
  · have hqd : decide (af ≤ zc) = true := decide_eq_true hq
    have HUQ := Lib.hid (HUY.out hq)
    clear HUY HUN hq
    go_wp2_with fail
    refine wp_region_noPanic ?_
    refine wp_region_held_drew (S := fun w' => Below w4.heap.size w4 w') (by kernel_rfl) (below_drew (Below.refl _ _)) (fun hHeld => ?_)
    refine wpAnyH_take (i := 0) (oi := ⟨some 23, _, _, _, _, _⟩) (v := ?_) rfl (by kernel_rfl) (by kernel_rfl) (by kernel_rfl) (fun _ _ _ h => h) (Or.inl ⟨by rfl, ?_⟩) hHeld ?_
    rotate_left
    · intro ww hSw
      (try dsimp only at hSw)
      go_simp
      (try with_reducible rfl)
    simp only [Act.put, List.setIfInBounds_toArray, List.set_cons_zero, List.set_cons_succ]
    refine wpAnyH_take (i := 2) (oi := ⟨some 25, _, _, _, _, _⟩) (v := ?_) rfl (by kernel_rfl) (by kernel_rfl) (by kernel_rfl) (fun _ _ _ h => h) (Or.inl ⟨by rfl, ?_⟩) hHeld ?_
    rotate_left
    · intro ww hSw
      (try dsimp only at hSw)
      go_simp
      (try with_reducible rfl)
    simp only [Act.put, List.setIfInBounds_toArray, List.set_cons_zero, List.set_cons_succ]
    refine wpAnyH_take (i := 3) (oi := ⟨some 26, _, _, _, _, _⟩) (v := .int .i64 af) rfl (by kernel_rfl) (by kernel_rfl) (by kernel_rfl) (fun _ _ _ h => h) (Or.inl ⟨by rfl, ?_⟩) hHeld ?_
    · intro ww hSw
      (try dsimp only at hSw)
      have qc := (HBX.out.below hSw).cell 11 q11
      have qz := cell_lt qc
      go_simp
    simp only [Act.put, List.setIfInBounds_toArray, List.set_cons_zero, List.set_cons_succ]
    refine wpAnyH_ready (rs := [1]) (by kernel_rfl) (by simp) ?_
    refine AllReadyH.cons (o := ⟨some 24, _, _, _, _, _⟩) rfl (fun K hK => ?_) AllReadyH.nil
    go_simp
    go_at_call 21
    refine (HSC.out _ _ _ (HC.out.below (below_drew (Below.refl _ _)))).mono ?_
    rintro e_r w5 ⟨rfl, hbn⟩
    have hbw5 : Below w4.heap.size w4 w5 := bel_on (show Below w4.heap.size w4 _ by (repeat' (first | with_reducible exact Below.refl _ _ | with_reducible assumption | with_reducible refine bel_alloc ?_ _ | with_reducible refine bel_set ?_ ?_ _ | with_reducible refine below_drewN ?_ _ | with_reducible refine below_drew ?_ | (simp; done) | (simp; omega) | omega))) hbn
    clear hbn
    go_wp2_with fail
    refine hK.out _ _ ?_ (fun hHeld => ?_)
    · (try dsimp only)
      exact hbw5
    clear hK K
    (try simp only [Act.put, List.setIfInBounds_toArray, List.set_cons_zero, List.set_cons_succ])
    refine wpAnyH_take (i := 4) (oi := ⟨some 27, _, _, _, _, _⟩) (v := .bool true) rfl (by kernel_rfl) (by kernel_rfl) (by kernel_rfl) (fun _ _ _ h => h) (Or.inl ⟨by rfl, ?_⟩) hHeld ?_
    · intro ww hSw
      (try dsimp only at hSw)
      go_simp
      (try simp only [hqd])
    simp only [Act.put, List.setIfInBounds_toArray, List.set_cons_zero, List.set_cons_succ]
    refine wpAnyH_done (by kernel_rfl) ?_ _
    refine NoPanic.normal ?_
    clear hqd
    have HBX := Lib.hid (HBX.out.below hbw5)
    have HC := Lib.hid (HC.out.below hbw5)
    have HRr := Lib.hid (HRr.out.below hbw5)
    have HV5 := Lib.hid (bel_on HV4.out hbw5)
    have HO5 := Lib.hid (HO4.out.below hbw5)
    clear HO4 HV4 hbw5
    go_wp2_with fail
    refine wp_region_noPanic ?_
    refine wp_region_held_drew (S := fun w' => Below w5.heap.size w5 w') (by kernel_rfl) (below_drew (Below.refl _ _)) (fun hHeld => ?_)
    refine wpAnyH_take (i := 0) (oi := ⟨some 28, _, _, _, _, _⟩) (v := ?_) rfl (by kernel_rfl) (by kernel_rfl) (by kernel_rfl) (fun _ _ _ h => h) (Or.inl ⟨by rfl, ?_⟩) hHeld ?_
    rotate_left
    · intro ww hSw
      (try dsimp only at hSw)
      go_simp
      (try with_reducible rfl)
    simp only [Act.put, List.setIfInBounds_toArray, List.set_cons_zero, List.set_cons_succ]
    refine wpAnyH_take (i := 2) (oi := ⟨some 30, _, _, _, _, _⟩) (v := ?_) rfl (by kernel_rfl) (by kernel_rfl) (by kernel_rfl) (fun _ _ _ h => h) (Or.inl ⟨by rfl, ?_⟩) hHeld ?_
    rotate_left
    · intro ww hSw
      (try dsimp only at hSw)
      go_simp
      (try with_reducible rfl)
    simp only [Act.put, List.setIfInBounds_toArray, List.set_cons_zero, List.set_cons_succ]
    refine wpAnyH_take (i := 1) (oi := ⟨some 29, _, _, _, _, _⟩) (v := .int .i64 ab) rfl (by kernel_rfl) (by kernel_rfl) (by kernel_rfl) (fun _ _ _ h => h) (Or.inl ⟨by rfl, ?_⟩) hHeld ?_
    · intro ww hSw
      (try dsimp only at hSw)
      have qc := (HBX.out.below hSw).cell 12 q12
      have qz := cell_lt qc
      go_simp
    simp only [Act.put, List.setIfInBounds_toArray, List.set_cons_zero, List.set_cons_succ]
    refine wpAnyH_ready (rs := [3]) (by kernel_rfl) (by simp) ?_
    refine AllReadyH.cons (o := ⟨some 31, _, _, _, _, _⟩) rfl (fun K hK => ?_) AllReadyH.nil
    go_simp
    go_at_call 21
    refine (HSR.out _ _ _ (HRr.out.below (below_drew (Below.refl _ _)))).mono ?_
    rintro e_r w6 ⟨rfl, hbn⟩
    have hbw6 : Below w5.heap.size w5 w6 := bel_on (show Below w5.heap.size w5 _ by (repeat' (first | with_reducible exact Below.refl _ _ | with_reducible assumption | with_reducible refine bel_alloc ?_ _ | with_reducible refine bel_set ?_ ?_ _ | with_reducible refine below_drewN ?_ _ | with_reducible refine below_drew ?_ | (simp; done) | (simp; omega) | omega))) hbn
    clear hbn
    go_wp2_with fail
    refine hK.out _ _ ?_ (fun hHeld => ?_)
    · (try dsimp only)
      exact hbw6
    clear hK K
    (try simp only [Act.put, List.setIfInBounds_toArray, List.set_cons_zero, List.set_cons_succ])
    refine wpAnyH_take (i := 4) (oi := ⟨some 32, _, _, _, _, _⟩) (v := .int .i64 n) rfl (by kernel_rfl) (by kernel_rfl) (by kernel_rfl) (fun _ _ _ h => h) (Or.inl ⟨by rfl, ?_⟩) hHeld ?_
    · intro ww hSw
      (try dsimp only at hSw)
      go_simp
      (try rw [hwn])
    simp only [Act.put, List.setIfInBounds_toArray, List.set_cons_zero, List.set_cons_succ]
    refine wpAnyH_take (i := 5) (oi := ⟨some 10, _, _, _, _, _⟩) (v := ?_) rfl (by kernel_rfl) (by kernel_rfl) (by kernel_rfl) (fun _ _ _ h => h) (Or.inl ⟨by rfl, ?_⟩) hHeld ?_
    rotate_left
    · intro ww hSw
      (try dsimp only at hSw)
      go_simp
      (try with_reducible rfl)
    simp only [Act.put, List.setIfInBounds_toArray, List.set_cons_zero, List.set_cons_succ]
    refine wpAnyH_done (by kernel_rfl) ?_ _
    refine NoPanic.normal ?_
    have HC6 := Lib.hid (HC.out.below hbw6)
    have HR6 := Lib.hid (HRr.out.below hbw6)
    have HV6 := Lib.hid (bel_on HV5.out hbw6)
    have HO6 := Lib.hid (HO5.out.below hbw6)
    clear HO5 HV5 hbw6 HBX HC HRr
    go_wp2_with fail
    refine (HM.out _ _ _ _ _ HC6.out HR6.out).mono ?_
    rintro e w7 ⟨D7, c7, rfl, r7, b7⟩
    have HM7 := Lib.hid (r7.spans FM.out)
    have HV7 := Lib.hid (bel_on HV6.out b7)
    have HO7 := Lib.hid (HO6.out.below b7)
    clear r7 b7 HC6 HR6 HV6 HO6
    go_wp2_with fail
    refine (HL.out _ _ _ HM7.out).mono ?_
    rintro e w8 ⟨D8, c8, rfl, r8, b8⟩
    have HV8 := Lib.hid (bel_on HV7.out b8)
    have HO8 := Lib.hid (HO7.out.below b8)
    obtain ⟨A9, c9, w9, hr9, row9, bel9, -, -⟩ := row_append HO8.out (row_sl r8) (by omega) HV8.out.size
    have lU : (OL ++ AL).length ≤ 100000000 := by rw [List.length_append]; omega
    rw [← List.length_append] at hr9
    have HR9 := Lib.hid hr9
    have HU9 := Lib.hid (row9.spans (FO.out.append FA.out))
    have HV9 := Lib.hid (bel9 w3 (Nat.le_refl _) HV8.out)
    have HC9 := Lib.hid (HS3.out.below HV9.out)
    have HW9 := Lib.hid (bel_on HW3.out HV9.out)
    clear r8 b8 hr9 row9 bel9 HV7 HV8 HV9 HO7 HO8 HM7 HS3 HW3
    generalize OL ++ AL = U at *
    go_wp2_with (at_builtin; refine wpList_append_run (o := ⟨some 39, _, _, _, _, _⟩) HR9.out rfl rfl rfl rfl ?_)
    refine (HP.out _ _ _ _ _ U HC9.out HU9.out lU HUQ.out).mono ?_
    rintro e w10 ⟨A10, c10, rfl, r10, b10⟩
    have HU10 := Lib.hid (HU9.out.below b10)
    have HR10 := Lib.hid (r10.mono (show w.heap.size ≤ w9.heap.size from HW9.out.size))
    have HW10 := Lib.hid (bel_on HW9.out b10)
    clear r10 b10
    go_wp2_with fail
    refine (HU.out _ _ _ U HU10.out lU HUQ.out).mono ?_
    rintro e w11 ⟨A11, c11, rfl, r11, b11⟩
    have HR11 := Lib.hid (HR10.out.below b11)
    have HQ11 := Lib.hid (r11.mono (show w.heap.size ≤ w10.heap.size from HW10.out.size))
    have HW11 := Lib.hid (bel_on HW10.out b11)
    clear r11 b11
    go_wp2
    refine bodyPost_ret (v := .tuple #[.slice A10 PL.length c10, .slice A11 UL.length c11]) (by simp [results, Tryz.results51, go_sem]) rfl ⟨A10, c10, A11, c11, rfl, HR11.out, HQ11.out, HW11.out⟩
  · have hqd : decide (af ≤ zc) = false := decide_eq_false hq
    have HUQ := Lib.hid (HUN.out (by omega))
    clear HUY HUN hq
    go_wp2_with fail
    refine wp_region_noPanic ?_
    refine wp_region_held_drew (S := fun w' => Below w4.heap.size w4 w') (by kernel_rfl) (below_drew (Below.refl _ _)) (fun hHeld => ?_)
    refine wpAnyH_take (i := 0) (oi := ⟨some 23, _, _, _, _, _⟩) (v := ?_) rfl (by kernel_rfl) (by kernel_rfl) (by kernel_rfl) (fun _ _ _ h => h) (Or.inl ⟨by rfl, ?_⟩) hHeld ?_
    rotate_left
    · intro ww hSw
      (try dsimp only at hSw)
      go_simp
      (try with_reducible rfl)
    simp only [Act.put, List.setIfInBounds_toArray, List.set_cons_zero, List.set_cons_succ]
    refine wpAnyH_take (i := 2) (oi := ⟨some 25, _, _, _, _, _⟩) (v := ?_) rfl (by kernel_rfl) (by kernel_rfl) (by kernel_rfl) (fun _ _ _ h => h) (Or.inl ⟨by rfl, ?_⟩) hHeld ?_
    rotate_left
    · intro ww hSw
      (try dsimp only at hSw)
      go_simp
      (try with_reducible rfl)
    simp only [Act.put, List.setIfInBounds_toArray, List.set_cons_zero, List.set_cons_succ]
    refine wpAnyH_take (i := 3) (oi := ⟨some 26, _, _, _, _, _⟩) (v := .int .i64 af) rfl (by kernel_rfl) (by kernel_rfl) (by kernel_rfl) (fun _ _ _ h => h) (Or.inl ⟨by rfl, ?_⟩) hHeld ?_
    · intro ww hSw
      (try dsimp only at hSw)
      have qc := (HBX.out.below hSw).cell 11 q11
      have qz := cell_lt qc
      go_simp
    simp only [Act.put, List.setIfInBounds_toArray, List.set_cons_zero, List.set_cons_succ]
    refine wpAnyH_ready (rs := [1]) (by kernel_rfl) (by simp) ?_
    refine AllReadyH.cons (o := ⟨some 24, _, _, _, _, _⟩) rfl (fun K hK => ?_) AllReadyH.nil
    go_simp
    go_at_call 21
    refine (HSC.out _ _ _ (HC.out.below (below_drew (Below.refl _ _)))).mono ?_
    rintro e_r w5 ⟨rfl, hbn⟩
    have hbw5 : Below w4.heap.size w4 w5 := bel_on (show Below w4.heap.size w4 _ by (repeat' (first | with_reducible exact Below.refl _ _ | with_reducible assumption | with_reducible refine bel_alloc ?_ _ | with_reducible refine bel_set ?_ ?_ _ | with_reducible refine below_drewN ?_ _ | with_reducible refine below_drew ?_ | (simp; done) | (simp; omega) | omega))) hbn
    clear hbn
    go_wp2_with fail
    refine hK.out _ _ ?_ (fun hHeld => ?_)
    · (try dsimp only)
      exact hbw5
    clear hK K
    (try simp only [Act.put, List.setIfInBounds_toArray, List.set_cons_zero, List.set_cons_succ])
    refine wpAnyH_take (i := 4) (oi := ⟨some 27, _, _, _, _, _⟩) (v := .bool false) rfl (by kernel_rfl) (by kernel_rfl) (by kernel_rfl) (fun _ _ _ h => h) (Or.inl ⟨by rfl, ?_⟩) hHeld ?_
    · intro ww hSw
      (try dsimp only at hSw)
      go_simp
      (try simp only [hqd])
    simp only [Act.put, List.setIfInBounds_toArray, List.set_cons_zero, List.set_cons_succ]
    refine wpAnyH_done (by kernel_rfl) ?_ _
    refine NoPanic.normal ?_
    clear hqd
    have HV5 := Lib.hid (bel_on HV4.out hbw5)
    have HC9 := Lib.hid (HS3.out.below HV5.out)
    have HW9 := Lib.hid (bel_on HW3.out HV5.out)
    have HU9 := Lib.hid ((HO4.out.below hbw5).spans FO.out)
    have lU : OL.length ≤ 100000000 := by omega
    clear HBX HC HRr HV4 HO4 hbw5 HS3 HW3 HV5
    go_wp2_with fail
    refine (HP.out _ _ _ _ _ OL HC9.out HU9.out lU HUQ.out).mono ?_
    rintro e w10 ⟨A10, c10, rfl, r10, b10⟩
    have HU10 := Lib.hid (HU9.out.below b10)
    have HR10 := Lib.hid (r10.mono (show w.heap.size ≤ w5.heap.size from HW9.out.size))
    have HW10 := Lib.hid (bel_on HW9.out b10)
    clear r10 b10
    go_wp2_with fail
    refine (HU.out _ _ _ OL HU10.out lU HUQ.out).mono ?_
    rintro e w11 ⟨A11, c11, rfl, r11, b11⟩
    have HR11 := Lib.hid (HR10.out.below b11)
    have HQ11 := Lib.hid (r11.mono (show w.heap.size ≤ w10.heap.size from HW10.out.size))
    have HW11 := Lib.hid (bel_on HW10.out b11)
    clear r11 b11
    go_wp2
    refine bodyPost_ret (v := .tuple #[.slice A10 PL.length c10, .slice A11 UL.length c11]) (by simp [results, Tryz.results51, go_sem]) rfl ⟨A10, c10, A11, c11, rfl, HR11.out, HQ11.out, HW11.out⟩

theorem both_c (A : Option Addr) (n c : Nat) (l : List SegP) (w : World) (h : Segs w A n c l) (hn : n ≤ 1000) (hF : ∀ s ∈ l, Fit s.fr ∧ Fit s.to) :
    Calls Tryz.prog 49 #[.slice A n c] w (Gives2 w (clockP l) (clockP (l.filter (ofKind 3)))) := by
  have HS := Lib.hid h
  have H1 := Lib.hid (fun W (hW : Segs W A n c l) => sclock_any A n c l W hW (by omega) hF)
  have H2 := Lib.hid (fun W (hW : Segs W A n c l) => sonly_any A n c l 3 W hW hn hF)
  generalize clockP (l.filter (ofKind 3)) = Y at *
  generalize clockP l = X at *
  clear h hF
  go_enter Tryz.func49, Tryz.ntmps49
  go_wp2_with fail
  refine (H1.out _ HS.out).mono ?_
  rintro e w1 ⟨D1, c1, rfl, r1, b1⟩
  have HS1 := Lib.hid (HS.out.below b1)
  have HR1 := Lib.hid r1
  have HB1 := Lib.hid b1
  clear r1 b1
  go_wp2_with fail
  refine (H2.out _ HS1.out).mono ?_
  rintro e w2 ⟨D2, c2, rfl, r2, b2⟩
  have HR2 := Lib.hid (HR1.out.below b2)
  have HQ2 := Lib.hid (r2.mono HB1.out.size)
  have HB2 := Lib.hid (bel_on HB1.out b2)
  clear r2 b2
  go_wp2
  refine bodyPost_ret (v := .tuple #[.slice D1 X.length c1, .slice D2 Y.length c2]) (by simp [results, Tryz.results49, go_sem]) rfl ⟨D1, c1, D2, c2, rfl, HR2.out, HQ2.out, HB2.out⟩
/-- The clock, and the breaks, of parts. -/
noncomputable def clkS (l : List SegP) : Int → Prop := In (clockP l)
noncomputable def rstS (l : List SegP) : Int → Prop := In (clockP (l.filter (ofKind 3)))
theorem rst_clk (l : List SegP) : ∀ t, rstS l t → clkS l t := fun t h => by
  unfold rstS clkS clockP at *
  rw [canon_in] at h ⊢
  obtain ⟨h0, h1, x, hx, h2⟩ := h
  exact ⟨h0, h1, x, (List.mem_filter.1 hx).1, h2⟩
/-- What OfDay tells, and Paid. -/
noncomputable def dayYes (b : Bool) (s : SetP) (l : List SegP) (d : Int) : List (Int × Int) := if b = true then paidDay (clkS l) (rstS l) s.paid s.aft s.brk d else []
noncomputable def dayNo (b : Bool) (s : SetP) (l : List SegP) (d : Int) : List (Int × Int) := if b = true then notDay (clkS l) (rstS l) s.paid s.aft s.brk d else []
noncomputable def allYes (b : Bool) (s : SetP) (l : List SegP) : List (Int × Int) := if b = true then paidAll (clkS l) (rstS l) s.paid s.aft s.brk else []
noncomputable def allNo (b : Bool) (s : SetP) (l : List SegP) : List (Int × Int) := if b = true then notAll (clkS l) (rstS l) s.paid s.aft s.brk else []
end Go.Proofs.YtdlimgpmmkcgmaaGreat

namespace Go.Proofs.YtdlimgpmmkcgmaaGreat
set_option linter.unusedVariables false
set_option linter.unusedSimpArgs false
set_option maxRecDepth 20000

theorem short_zero {q : Int → Prop} {t : Int} : ¬ shortS q 0 t := fun h => by have := h.2; have := (cnt_bound (onDay q (t / 86400)) t.toNat).1; omega
theorem short_full {q : Int → Prop} {t : Int} (h1 : t < 32054400) : shortS q 40000000 t ↔ q t := by
  unfold shortS fstS onDay
  have := cnt_bound (fun u => q u ∧ u / 86400 = t / 86400) t.toNat
  exact ⟨fun z => z.1.1, fun z => ⟨⟨z, rfl⟩, by omega⟩⟩
theorem short_wk {p : Int → Prop} {k n t : Int} (h0 : 0 ≤ t) (h1 : t < 32054400) : shortS (In (ofWeekP p k)) n t ↔ shortS (onWk p k) n t := by
  rw [short_cut (W := onWk p k) (X := 32054400) (fun u a c => by unfold ofWeekP; rw [in_can a c]; exact ⟨fun z => ⟨z, c⟩, fun z => z.1⟩) h0 h1]
  exact ⟨fun z => z.1, fun z => ⟨z, h1⟩⟩
section
variable {s : SetP} {p : Int → Prop} {k : Int}
/-- What lumperref16.Of makes of the three lists. -/
theorem ref_reg {L : List (Int × Int)} (h : ∀ t, 0 ≤ t → t < 32054400 → (In L t ↔ shortS (onWk p k) s.reg t)) : (canon fun t => In L t ∧ cnt (In L) t.toNat < s.week) = regL true s p k := by
  unfold regL
  rw [if_pos rfl]
  exact canon_congr fun t h0 h1 => by
    unfold regS fstS
    rw [h t h0 h1, cnt_congr fun u a c => h u a (by omega)]
theorem ref_rest {L : List (Int × Int)} (h : ∀ t, 0 ≤ t → t < 32054400 → (In L t ↔ shortS (onWk p k) s.reg t)) {t : Int} (h0 : 0 ≤ t) (h1 : t < 32054400) : In (canon fun t => In L t ∧ ¬ In (regL true s p k) t) t ↔ shortS (onWk p k) s.reg t ∧ ¬ regS (onWk p k) s.reg s.week t := by
  rw [in_can h0 h1, h t h0 h1, reg_mem h0 h1]
theorem ref_over {L M : List (Int × Int)} (h : ∀ t, 0 ≤ t → t < 32054400 → (In L t ↔ shortS (onWk p k) s.reg t ∧ ¬ regS (onWk p k) s.reg s.week t)) (g : ∀ t, 0 ≤ t → t < 32054400 → (In M t ↔ shortS (onWk p k) s.over t ∧ ¬ shortS (onWk p k) s.reg t)) : canon (In (L ++ M)) = ovrL true s p k := by
  unfold ovrL
  rw [if_pos rfl]
  exact canon_congr fun t h0 h1 => by
    rw [in_append, h t h0 h1, g t h0 h1]
    exact Iff.rfl
theorem ref_dbl {L : List (Int × Int)} (h : ∀ t, 0 ≤ t → t < 32054400 → (In L t ↔ onWk p k t ∧ ¬ shortS (onWk p k) s.over t)) : canon (In L) = dblL true s p k := by
  unfold dblL
  rw [if_pos rfl]
  exact canon_congr h
end
/-- The lists of the first k of the days of D. -/
noncomputable def listK (f : Int → List (Int × Int)) (D : List Int) (k : Nat) : List (Int × Int) := (D.take k).flatMap f
section
variable {f : Int → List (Int × Int)} {D : List Int}
theorem listK_zero : listK f D 0 = [] := by simp [listK]
theorem listK_snoc (k : Nat) (h : k < D.length) : listK f D (k + 1) = listK f D k ++ f (D.getD k 0) := by
  unfold listK
  rw [List.take_succ_eq_append_getElem h, List.flatMap_append]
  simp [List.getD, h]
theorem listK_len (hf : ∀ d, (f d).length ≤ 86401) : ∀ k, k ≤ D.length → (listK f D k).length ≤ k * 86401
  | 0, _ => by simp [listK]
  | k + 1, h => by
    have := listK_len hf k (by omega)
    have h2 := hf (D.getD k 0)
    rw [listK_snoc k h, List.length_append]; omega
theorem listK_bd (hf : ∀ d, (f d).length ≤ 86401) (k : Nat) (h : k ≤ D.length) (hD : D.length ≤ 371) : (listK f D k).length ≤ 32054771 :=
  Nat.le_trans (listK_len hf k h) (Nat.le_trans (Nat.mul_le_mul_right _ (Nat.le_trans h hD)) (by decide))
theorem listK_fits (hf : ∀ d, Fits (f d)) (k : Nat) : Fits (listK f D k) := fun u hu => by
  obtain ⟨d, _, h⟩ := List.mem_flatMap.1 hu
  exact hf d u h
theorem listK_in (t : Int) : In (listK f D D.length) t ↔ ∃ d ∈ D, In (f d) t := by
  unfold listK
  rw [List.take_length]
  constructor
  · rintro ⟨u, hu, u1, u2⟩
    obtain ⟨d, hd, hin⟩ := List.mem_flatMap.1 hu
    exact ⟨d, hd, u, hin, u1, u2⟩
  · rintro ⟨d, hd, u, hu, u1, u2⟩
    exact ⟨u, List.mem_flatMap.2 ⟨d, hd, hu⟩, u1, u2⟩
end
/-- A day's first n seconds; what is among its first o, and not among its first r; what is not among its first o. -/
noncomputable def fstD (q : Int → Prop) (n d : Int) : List (Int × Int) := canon fun t => In (ofDayP q d) t ∧ cnt (In (ofDayP q d)) t.toNat < n
noncomputable def midD (q : Int → Prop) (r o d : Int) : List (Int × Int) := canon fun t => In (fstD q o d) t ∧ ¬ In (fstD q r d) t
noncomputable def lstD (q : Int → Prop) (o d : Int) : List (Int × Int) := canon fun t => In (ofDayP q d) t ∧ ¬ In (fstD q o d) t
section
variable {q : Int → Prop}
theorem fstD_in {n d t : Int} (h0 : 0 ≤ t) (h1 : t < 32054400) : In (fstD q n d) t ↔ fstS (onDay q d) n t := by
  unfold fstD
  rw [in_can h0 h1]
  unfold ofDayP fstS
  rw [in_can h0 h1, cnt_can _ (by omega)]
  exact Iff.rfl
theorem midD_in {r o d t : Int} (h0 : 0 ≤ t) (h1 : t < 32054400) : In (midD q r o d) t ↔ fstS (onDay q d) o t ∧ ¬ fstS (onDay q d) r t := by
  unfold midD
  rw [in_can h0 h1, fstD_in h0 h1, fstD_in h0 h1]
theorem lstD_in {o d t : Int} (h0 : 0 ≤ t) (h1 : t < 32054400) : In (lstD q o d) t ↔ onDay q d t ∧ ¬ fstS (onDay q d) o t := by
  unfold lstD
  rw [in_can h0 h1, fstD_in h0 h1]
  unfold ofDayP
  rw [in_can h0 h1]
  exact Iff.rfl
theorem ofday_of {d t : Int} (h : In (ofDayP q d) t) : t / 86400 = d := by
  unfold ofDayP at h
  exact ((canon_in _ _).1 h).2.2.2
theorem fstD_of {n d t : Int} (h : In (fstD q n d) t) : t / 86400 = d := by
  unfold fstD at h
  exact ofday_of ((canon_in _ _).1 h).2.2.1
theorem fstD_len (n d : Int) : (fstD q n d).length ≤ 86401 := day_len (d := d) fun t h => ofday_of h.1
theorem midD_len (r o d : Int) : (midD q r o d).length ≤ 86401 := day_len (d := d) fun t h => fstD_of h.1
theorem lstD_len (o d : Int) : (lstD q o d).length ≤ 86401 := day_len (d := d) fun t h => ofday_of h.1
theorem days_of {P : Int → Int → Prop} {t : Int} (h0 : 0 ≤ t) (h1 : t < 32054400) (hP : ∀ d, P d t → onDay q d t) : (∃ d ∈ daysP q, P d t) ↔ P (t / 86400) t := by
  constructor
  · rintro ⟨d, _, h⟩
    have : t / 86400 = d := (hP d h).2
    rw [this]; exact h
  · intro h
    exact ⟨_, (days_mem q _).2 ⟨t, h0, h1, (hP _ h).1, rfl⟩, h⟩
theorem brief_in {n t : Int} (h0 : 0 ≤ t) (h1 : t < 32054400) : In (listK (fstD q n) (daysP q) (daysP q).length) t ↔ shortS q n t := by
  rw [listK_in, days_of (P := fun d t => In (fstD q n d) t) h0 h1 fun d h => ((fstD_in h0 h1).1 h).1]
  exact fstD_in h0 h1
theorem mid_in {r o t : Int} (h0 : 0 ≤ t) (h1 : t < 32054400) : In (listK (midD q r o) (daysP q) (daysP q).length) t ↔ shortS q o t ∧ ¬ shortS q r t := by
  rw [listK_in, days_of (P := fun d t => In (midD q r o d) t) h0 h1 fun d h => ((midD_in h0 h1).1 h).1.1]
  exact midD_in h0 h1
theorem lst_in {o t : Int} (h0 : 0 ≤ t) (h1 : t < 32054400) : In (listK (lstD q o) (daysP q) (daysP q).length) t ↔ q t ∧ ¬ shortS q o t := by
  rw [listK_in, days_of (P := fun d t => In (lstD q o d) t) h0 h1 fun d h => ((lstD_in h0 h1).1 h).1]
  rw [lstD_in h0 h1]
  unfold onDay shortS
  exact ⟨fun z => ⟨z.1.1, z.2⟩, fun z => ⟨⟨z.1, rfl⟩, z.2⟩⟩
end
section
variable {s : SetP} {p : Int → Prop} {k t : Int}
theorem brief_wk (h0 : 0 ≤ t) (h1 : t < 32054400) : In (listK (fstD (In (ofWeekP p k)) s.reg) (daysP (In (ofWeekP p k))) (daysP (In (ofWeekP p k))).length) t ↔ shortS (onWk p k) s.reg t := by
  rw [brief_in h0 h1, short_wk h0 h1]
theorem mid_wk (h0 : 0 ≤ t) (h1 : t < 32054400) : In (listK (midD (In (ofWeekP p k)) s.reg s.over) (daysP (In (ofWeekP p k))) (daysP (In (ofWeekP p k))).length) t ↔ shortS (onWk p k) s.over t ∧ ¬ shortS (onWk p k) s.reg t := by
  rw [mid_in h0 h1, short_wk h0 h1, short_wk h0 h1]
theorem lst_wk (h0 : 0 ≤ t) (h1 : t < 32054400) : In (listK (lstD (In (ofWeekP p k)) s.over) (daysP (In (ofWeekP p k))) (daysP (In (ofWeekP p k))).length) t ↔ onWk p k t ∧ ¬ shortS (onWk p k) s.over t := by
  rw [lst_in h0 h1, short_wk h0 h1]
  unfold ofWeekP
  rw [in_can h0 h1]
  exact Iff.rfl
/-- What is overtime: what lies between a day's two bounds, and then what of the short ones is not regular. -/
theorem ovr_two {L M : List (Int × Int)} (g : ∀ t, 0 ≤ t → t < 32054400 → (In L t ↔ shortS (onWk p k) s.over t ∧ ¬ shortS (onWk p k) s.reg t)) (h : ∀ t, 0 ≤ t → t < 32054400 → (In M t ↔ shortS (onWk p k) s.reg t ∧ ¬ regS (onWk p k) s.reg s.week t)) : canon (In (L ++ M)) = ovrL true s p k := by
  rw [← ref_over h g]
  exact canon_congr fun t _ _ => by rw [in_append, in_append, or_comm]
end
end Go.Proofs.YtdlimgpmmkcgmaaGreat

namespace Go.Proofs.YtdlimgpmmkcgmaaGreat
set_option linter.unusedVariables false
set_option linter.unusedSimpArgs false
set_option maxRecDepth 20000

/-- Where a span is cut that has n seconds ahead, if x of all are on the one side. -/
def cutP (x n : Int) (s : Int × Int) : Int := s.1 + max 0 (min (s.2 - s.1) (x - n))
/-- Of spans with n seconds ahead: those from the x-th on, up to the y-th. -/
def cutG (x y : Int) : Int → List (Int × Int) → List (Int × Int)
  | _, [] => []
  | n, s :: l => (cutP x n s, cutP y n s) :: cutG x y (n + (s.2 - s.1)) l
theorem cutG_len (x y : Int) : ∀ (n : Int) (l : List (Int × Int)), (cutG x y n l).length = l.length
  | _, [] => rfl
  | n, s :: l => by simp [cutG, cutG_len x y (n + (s.2 - s.1)) l]
theorem cutG_snoc (x y : Int) (s : Int × Int) : ∀ (n : Int) (l : List (Int × Int)), cutG x y n (l ++ [s]) = cutG x y n l ++ [(cutP x (n + szL l) s, cutP y (n + szL l) s)]
  | n, [] => by
    have e : szL [] = 0 := rfl
    simp [cutG, e]
  | n, u :: l => by
    have ih := cutG_snoc x y s (n + (u.2 - u.1)) l
    have e : n + (u.2 - u.1) + szL l = n + szL (u :: l) := by rw [szL_cons]; omega
    rw [e] at ih
    rw [List.cons_append, cutG, ih, cutG, List.cons_append]
theorem cutP_zero {n : Int} {s : Int × Int} (hn : 0 ≤ n) (hs : s.1 ≤ s.2) : cutP 0 n s = s.1 := by unfold cutP; omega
theorem cutP_top {n B : Int} {s : Int × Int} (h : n + (s.2 - s.1) ≤ B) (hs : s.1 ≤ s.2) : cutP B n s = s.2 := by unfold cutP; omega
theorem cut_one {x y n a b t z : Int} (hab : a < b) (hz : 0 ≤ z) (hx : 0 ≤ x) : (a + max 0 (min (b - a) (x - n)) ≤ t ∧ t < a + max 0 (min (b - a) (y - n))) → a ≤ t ∧ t < b ∧ x ≤ n + (t - a) ∧ n + (t - a) < y := by
  intro q
  have h1 : a ≤ t := by omega
  have h2 : t < b := by omega
  refine ⟨h1, h2, ?_, ?_⟩ <;> omega
theorem cut_two {x y n a b t : Int} (h1 : a ≤ t) (h2 : t < b) (h3 : x ≤ n + (t - a)) (h4 : n + (t - a) < y) : a + max 0 (min (b - a) (x - n)) ≤ t ∧ t < a + max 0 (min (b - a) (y - n)) := by
  constructor <;> omega
theorem cutG_in {x y : Int} (hx : 0 ≤ x) : ∀ {l : List (Int × Int)} {a n t : Int}, PlainFrom a l → (In (cutG x y n l) t ↔ In l t ∧ x ≤ n + below l t ∧ n + below l t < y)
  | [], a, n, t, _ => by simp [cutG, in_nil]
  | s :: l, a, n, t, ⟨h1, h2, h3, h4⟩ => by
    rw [cutG, in_cons, cutG_in hx h4, in_cons, below_cons]
    by_cases hs : t < s.2
    · have hz : below l t = 0 := below_zero h4 (by omega)
      have hl : ¬ In l t := fun q => by obtain ⟨u, hu, u1, _⟩ := q; have := (plain_pairs.1 h4).1 u hu; omega
      rw [hz]
      simp only [hl, false_and, or_false]
      unfold cutP
      constructor
      · intro q
        obtain ⟨q1, q2, q3, q4⟩ := cut_one (z := 0) h2 (by omega) hx q
        exact ⟨⟨q1, q2⟩, by omega, by omega⟩
      · rintro ⟨⟨q1, q2⟩, q3, q4⟩
        exact cut_two q1 q2 (by omega) (by omega)
    · have e : max 0 (min s.2 t - s.1) = s.2 - s.1 := by omega
      rw [e]
      have hp : ¬ (cutP x n s ≤ t ∧ t < cutP y n s) := fun q => by
        obtain ⟨q1, q2, _, _⟩ := cut_one (z := 0) h2 (by omega) hx q
        omega
      simp only [hp, false_or]
      constructor
      · rintro ⟨q1, q2, q3⟩
        exact ⟨.inr q1, by omega, by omega⟩
      · rintro ⟨q1 | q1, q2, q3⟩
        · omega
        · exact ⟨q1, by omega, by omega⟩
theorem below_in {l : List (Int × Int)} (hl : PlainFrom 0 l) {t : Int} (h0 : 0 ≤ t) (h1 : t < 32054400) : below l t = cnt (In l) t.toNat := by
  have e := below_canon (In l) t.toNat (by omega)
  rw [canon_self hl, show ((t.toNat : Nat) : Int) = t by omega] at e
  exact e
/-- What the three lists of a day have: its first x; those behind, up to the y-th; the others. -/
theorem cut_set {x y : Int} (hx : 0 ≤ x) {l : List (Int × Int)} (hl : PlainFrom 0 l) {t : Int} (h0 : 0 ≤ t) (h1 : t < 32054400) : In (cutG x y 0 l) t ↔ fstS (In l) y t ∧ ¬ fstS (In l) x t := by
  rw [cutG_in hx hl, below_in hl h0 h1, Int.zero_add]
  unfold fstS
  constructor
  · rintro ⟨q1, q2, q3⟩; exact ⟨⟨q1, q3⟩, fun z => by have := z.2; omega⟩
  · rintro ⟨⟨q1, q3⟩, q2⟩; exact ⟨q1, Classical.byContradiction fun z => q2 ⟨q1, by omega⟩, q3⟩
theorem cut_fits {x y n : Int} : ∀ {l : List (Int × Int)} {a : Int}, 0 ≤ a → PlainFrom a l → Fits (cutG x y n l)
  | [], _, _, _ => Fits.nil
  | s :: l, a, h, ⟨h1, h2, h3, h4⟩ => fun u hu => by
    rw [cutG] at hu
    rcases List.mem_cons.1 hu with rfl | hu
    · unfold cutP Fit
      simp only []
      omega
    · exact cut_fits (by omega) h4 u hu
end Go.Proofs.YtdlimgpmmkcgmaaGreat

namespace Go.Proofs.YtdlimgpmmkcgmaaGreat
set_option linter.unusedVariables false
set_option linter.unusedSimpArgs false

section
variable {C R : Int → Prop} {pb af ab k : Int}
theorem unAll_wk {t : Int} (h0 : 0 ≤ t) (h1 : t < 32054400) (e : t / 604800 = k) : unAll (onWk C k) (onWk R k) pb af ab t ↔ unAll C R pb af ab t := by
  unfold unAll
  refine un_same (fun u a b => ?_) (fun u a b => ?_) h0 h1
  · unfold onDay onWk
    exact ⟨fun h => ⟨h.1.1, h.2⟩, fun h => ⟨⟨h.1, by have := h.2; omega⟩, h.2⟩⟩
  · unfold onDay onWk
    exact ⟨fun h => ⟨h.1.1, h.2⟩, fun h => ⟨⟨h.1, by have := h.2; omega⟩, h.2⟩⟩
theorem paid_wk : paidAll (onWk C k) (onWk R k) pb af ab = ofWeekP (In (paidAll C R pb af ab)) k :=
  canon_congr fun t a b => by
    unfold paidAll
    rw [canon_in]
    constructor
    · rintro ⟨⟨h1, h2⟩, h3⟩
      exact ⟨⟨a, b, h1, fun q => h3 ((unAll_wk a b h2).2 q)⟩, h2⟩
    · rintro ⟨⟨_, _, h1, h3⟩, h2⟩
      exact ⟨⟨h1, h2⟩, fun q => h3 ((unAll_wk a b h2).1 q)⟩
theorem not_wk : notAll (onWk C k) (onWk R k) pb af ab = ofWeekP (In (notAll C R pb af ab)) k :=
  canon_congr fun t a b => by
    unfold notAll
    rw [canon_in]
    constructor
    · rintro ⟨⟨h1, h2⟩, h3⟩
      exact ⟨⟨a, b, h1, (unAll_wk a b h2).1 h3⟩, h2⟩
    · rintro ⟨⟨_, _, h1, h3⟩, h2⟩
      exact ⟨⟨h1, h2⟩, (unAll_wk a b h2).2 h3⟩
end
/-- A week's of a week's; of another week. -/
theorem ofweek_twice {p : Int → Prop} {k : Int} : ofWeekP (In (ofWeekP p k)) k = ofWeekP p k := canon_congr fun t a b => by
  unfold ofWeekP
  rw [canon_in]
  exact ⟨fun h => ⟨h.1.2.2.1, h.2⟩, fun h => ⟨⟨a, b, h⟩, h.2⟩⟩
theorem ofweek_other {p : Int → Prop} {k j : Int} (h : j ≠ k) : ofWeekP (In (ofWeekP p k)) j = [] := canon_none fun t a b q => by
  unfold ofWeekP at q
  rw [canon_in] at q
  exact h (q.2.symm.trans q.1.2.2.2)
end Go.Proofs.YtdlimgpmmkcgmaaGreat
