/-
  Package breaks: a day parted in what is paid and what is not.
  An argument of type []api.Seg, opened.
-/
import Derived.Test.YtghfhoodbiiciaaGreatZas
import Derived.Test.YtghfhoodbiiciaaGreatZae
import Derived.Test.YtghfhoodbiiciaaGreatZax
import Derived.Test.YtghfhoodbiiciaaGreatZaq
import Derived.Test.YtghfhoodbiiciaaGreatZal
namespace Go.Proofs.YtghfhoodbiiciaaGreat
open Go.RowKit
set_option linter.unusedVariables false
set_option linter.unusedSimpArgs false
set_option maxRecDepth 20000

theorem setC_brk {w : World} {s : SetP} {cs : Array Value} (h : SetC w s cs) : cs[10]? = some (.int .i64 s.paid) ∧ cs[11]? = some (.int .i64 s.aft) ∧ cs[12]? = some (.int .i64 s.brk) := by
  obtain ⟨A1, A2, A3, A4, A5, A6, c1, c2, c3, c4, c5, c6, h1, h2⟩ := h
  unfold setV at h1
  injection h1 with h1
  subst h1
  exact ⟨rfl, rfl, rfl⟩
/-- What a call that tells two lists of spans answers: slices of its own. -/
def Gives2 (w : World) (xs ys : List (Int × Int)) (e : Ending) (w' : World) : Prop :=
  ∃ A c B d, e = .returned (.tuple #[.slice A xs.length c, .slice B ys.length d]) ∧ Row w' w.heap.size A c xs ∧ Row w' w.heap.size B d ys ∧ Below w.heap.size w w'
theorem gives2_bel {w w1 w' : World} {xs ys xs' ys' : List (Int × Int)} {e : Ending} (h : Gives2 w1 xs ys e w') (hb : Below w.heap.size w w1) (he : xs = xs') (he' : ys = ys') : Gives2 w xs' ys' e w' := by
  subst he; subst he'
  obtain ⟨A, c, B, d, rfl, h1, h2, hb2⟩ := h
  exact ⟨A, c, B, d, rfl, h1.mono hb.size, h2.mono hb.size, bel_on hb hb2⟩
theorem row_sl {w : World} {base c : Nat} {A : Option Addr} {xs : List (Int × Int)} (h : Row w base A c xs) : Sl 2 w A xs.length c (cells2 xs) := Sl.of_own h

set_option maxHeartbeats 8000000 in
theorem parted_c {w : World} {s : SetP} {cs : Array Value} (h : SetC w s cs) (hm : s.May) (A : Option Addr) (ca : Nat) (xs : List (Int × Int)) (B : Option Addr) (cb : Nat) (ys : List (Int × Int)) (hx : Spans w A xs) (hy : Spans w B ys) (hlx : xs.length ≤ 100000000) (hly : ys.length ≤ 100000000) (d : Int) :
    Calls Tryz.prog 16 #[.agg cs, .slice A xs.length ca, .slice B ys.length cb, .int .i64 d] w (Gives2 w (paidDay (In xs) (In ys) s.paid s.aft s.brk d) (unDay (In xs) (In ys) s.paid s.aft s.brk d)) := by
  obtain ⟨q10, q11, q12⟩ := setC_brk h
  have HZ := Lib.hid h.size
  have hb0 := bel_alloc (Below.refl w.heap.size w) (.cells cs 30)
  have HB0 := Lib.hid (Has.new w 30 cs rfl)
  have HX0 := Lib.hid (hx.below hb0)
  have HY0 := Lib.hid (hy.below hb0)
  obtain ⟨pb0, pb1⟩ := hm.paid
  obtain ⟨af0, af1⟩ := hm.aft
  obtain ⟨ab0, ab1⟩ := hm.brk
  generalize s.paid = pb at *
  generalize s.aft = af at *
  generalize s.brk = ab at *
  clear h hm hx hy
  have HC1 := Lib.hid (fun W (hW : Spans W A xs) => ofday_any A ca xs d W hW hlx)
  have HC2 := Lib.hid (fun W (hW : Spans W B ys) => ofday_any B cb ys d W hW hly)
  have lC := canon_len (onDay (In xs) d)
  have lR := canon_len (onDay (In ys) d)
  replace lC : (ofDayP (In xs) d).length ≤ 32054401 := lC
  replace lR : (ofDayP (In ys) d).length ≤ 32054401 := lR
  have lF : (fstL (In ys) pb d).length ≤ 32054401 := canon_len _
  have lO : (othL (In ys) pb d).length ≤ 32054401 := canon_len _
  have lM : (wrkL (In xs) (In ys) d).length ≤ 32054401 := canon_len _
  obtain ⟨zr, hzr⟩ : ∃ z, sz (onDay (In ys) d) = z := ⟨_, rfl⟩
  have bzr := sz_bound (onDay (In ys) d)
  rw [hzr] at bzr
  obtain ⟨zc, hzc⟩ : ∃ z, sz (onDay (In xs) d) = z := ⟨_, rfl⟩
  obtain ⟨n, hn⟩ : ∃ n, ab - zr = n := ⟨_, rfl⟩
  have bn : -32054400 ≤ n ∧ n ≤ 86400 := by omega
  have hwn : IntKind.i64.wrap (ab - zr) = n := by rw [hn]; exact wrapn_id (by omega) (by omega)
  have lA : (autL (In xs) (In ys) n d).length ≤ 32054401 := canon_len _
  have FC : Hid (Fits (ofDayP (In xs) d)) := Fits.canon _
  have FR : Hid (Fits (ofDayP (In ys) d)) := Fits.canon _
  have FF : Hid (Fits (fstL (In ys) pb d)) := Fits.canon _
  have FO : Hid (Fits (othL (In ys) pb d)) := Fits.canon _
  have FM : Hid (Fits (wrkL (In xs) (In ys) d)) := Fits.canon _
  have FA : Hid (Fits (autL (In xs) (In ys) n d)) := Fits.canon _
  have HF := Lib.hid (fun W D dc (hW : Spans W D (ofDayP (In ys) d)) => fst_list (R := In ys) pb d ▸ first_any D dc (ofDayP (In ys) d) pb W hW (by omega) ⟨by omega, by omega⟩)
  have HO := Lib.hid (fun W D dc E ec (hW : Spans W D (ofDayP (In ys) d)) (hV : Spans W E (fstL (In ys) pb d)) => oth_list (R := In ys) pb d ▸ minus_any D E dc ec (ofDayP (In ys) d) (fstL (In ys) pb d) W hW hV (by omega) (by omega))
  have HM := Lib.hid (fun W D dc E ec (hW : Spans W D (ofDayP (In xs) d)) (hV : Spans W E (ofDayP (In ys) d)) => wrk_list (C := In xs) (R := In ys) d ▸ minus_any D E dc ec (ofDayP (In xs) d) (ofDayP (In ys) d) W hW hV (by omega) (by omega))
  have HL := Lib.hid (fun W D dc (hW : Spans W D (wrkL (In xs) (In ys) d)) => aut_list (C := In xs) (R := In ys) n d ▸ last_any D dc (wrkL (In xs) (In ys) d) n W hW (by omega) ⟨by omega, by omega⟩)
  have HSC := Lib.hid (fun W D dc (hW : Spans W D (ofDayP (In xs) d)) => ((day_only (p := In xs) d).trans hzc) ▸ size_any D dc (ofDayP (In xs) d) W hW (by omega))
  have HSR := Lib.hid (fun W D dc (hW : Spans W D (ofDayP (In ys) d)) => ((day_only (p := In ys) d).trans hzr) ▸ size_any D dc (ofDayP (In ys) d) W hW (by omega))
  have HUY := Lib.hid (fun (q : af ≤ zc) t h0 h1 => un_yes (C := In xs) (R := In ys) (pb := pb) (af := af) (ab := ab) (d := d) (hzc ▸ q) (t := t) h0 h1)
  rw [hzr, hn] at HUY
  have HUN := Lib.hid (fun (q : ¬ af ≤ zc) t h0 h1 => un_no (C := In xs) (R := In ys) (pb := pb) (af := af) (ab := ab) (d := d) (hzc ▸ q) (t := t) h0 h1)
  have HP := Lib.hid (fun W D dc E ec U (hW : Spans W D (ofDayP (In xs) d)) (hV : Spans W E U) (hl : U.length ≤ 100000000) hU => un_paid (C := In xs) (R := In ys) (pb := pb) (af := af) (ab := ab) (U := U) (d := d) hU ▸ minus_any D E dc ec (ofDayP (In xs) d) U W hW hV (by omega) hl)
  have HU := Lib.hid (fun W E ec U (hV : Spans W E U) (hl : U.length ≤ 100000000) hU => un_norm (C := In xs) (R := In ys) (pb := pb) (af := af) (ab := ab) (U := U) (d := d) hU ▸ norm_any E ec U W hV hl)
  replace hzr := Lib.hid hzr
  replace hzc := Lib.hid hzc
  replace hn := Lib.hid hn
  generalize ofDayP (In xs) d = CL at *
  generalize ofDayP (In ys) d = RL at *
  generalize fstL (In ys) pb d = FL at *
  generalize othL (In ys) pb d = OL at *
  generalize wrkL (In xs) (In ys) d = ML at *
  generalize autL (In xs) (In ys) n d = AL at *
  generalize paidDay (In xs) (In ys) pb af ab d = PL at *
  generalize unDay (In xs) (In ys) pb af ab d = UL at *
  generalize unP (onDay (In xs) d) (onDay (In ys) d) pb af ab = UP at *
  clear hzr hzc hn
  go_enter Tryz.func16, Tryz.ntmps16
  go_wp2_with fail
  refine (HC1.out _ HX0.out).mono ?_
  rintro e w1 ⟨D1, c1, rfl, r1, b1⟩
  have HB1 := Lib.hid (HB0.out.below b1)
  have HY1 := Lib.hid (HY0.out.below b1)
  have HS1 := Lib.hid (r1.spans FC.out)
  have HW1 := Lib.hid (bel_on hb0 b1)
  clear r1 b1 hb0 HB0 HY0 HX0 HC1
  go_wp2_with fail
  refine (HC2.out _ HY1.out).mono ?_
  rintro e w2 ⟨D2, c2, rfl, r2, b2⟩
  have HB2 := Lib.hid (HB1.out.below b2)
  have HS2 := Lib.hid (HS1.out.below b2)
  have HR2 := Lib.hid (r2.spans FR.out)
  have HW2 := Lib.hid (bel_on HW1.out b2)
  have g10 := HB2.out.cell 10 q10
  have gz := HB2.out.size
  clear r2 b2 HB1 HY1 HS1 HW1 HC2
  go_wp2_with fail
  refine (HF.out _ _ _ HR2.out).mono ?_
  rintro e w3 ⟨D3, c3, rfl, r3, b3⟩
  have HB3 := Lib.hid (HB2.out.below b3)
  have HS3 := Lib.hid (HS2.out.below b3)
  have HR3 := Lib.hid (HR2.out.below b3)
  have HF3 := Lib.hid (r3.spans FF.out)
  have HW3 := Lib.hid (bel_on HW2.out b3)
  clear r3 b3 HB2 HS2 HR2 HW2 HF g10 gz
  go_wp2_with fail
  refine (HO.out _ _ _ _ _ HR3.out HF3.out).mono ?_
  rintro e w4 ⟨D4, c4, rfl, r4, b4⟩
  have HBX := Lib.hid (HB3.out.below b4)
  have HC := Lib.hid (HS3.out.below b4)
  have HRr := Lib.hid (HR3.out.below b4)
  have HV4 := Lib.hid b4
  have HO4 := Lib.hid r4
  clear r4 b4 HB3 HR3 HF3 HO
  by_cases hq : af ≤ zc
  · have hqd : decide (af ≤ zc) = true := decide_eq_true hq
    have HUQ := Lib.hid (HUY.out hq)
    clear HUY HUN hq
    go_wp2_with fail
    refine wp_region_noPanic ?_
    refine wp_region_held_drew (S := fun w' => Below w4.heap.size w4 w') (by kernel_rfl) (below_drew (Below.refl _ _)) (fun hHeld => ?_)
    refine wpAnyH_take (i := 0) (oi := ⟨some 23, _, _, _, _, _⟩) (v := ?_) rfl (by kernel_rfl) (by kernel_rfl) (by kernel_rfl) (fun _ _ _ h => h) (Or.inl ⟨by rfl, ?_⟩) hHeld ?_
    rotate_left
    · intro ww hSw
      (try dsimp only at hSw)
      go_simp
      (try with_reducible rfl)
    simp only [Act.put, List.setIfInBounds_toArray, List.set_cons_zero, List.set_cons_succ]
    refine wpAnyH_take (i := 2) (oi := ⟨some 25, _, _, _, _, _⟩) (v := ?_) rfl (by kernel_rfl) (by kernel_rfl) (by kernel_rfl) (fun _ _ _ h => h) (Or.inl ⟨by rfl, ?_⟩) hHeld ?_
    rotate_left
    · intro ww hSw
      (try dsimp only at hSw)
      go_simp
      (try with_reducible rfl)
    simp only [Act.put, List.setIfInBounds_toArray, List.set_cons_zero, List.set_cons_succ]
    refine wpAnyH_take (i := 3) (oi := ⟨some 26, _, _, _, _, _⟩) (v := .int .i64 af) rfl (by kernel_rfl) (by kernel_rfl) (by kernel_rfl) (fun _ _ _ h => h) (Or.inl ⟨by rfl, ?_⟩) hHeld ?_
    · intro ww hSw
      (try dsimp only at hSw)
      have qc := (HBX.out.below hSw).cell 11 q11
      have qz := cell_lt qc
      go_simp
    simp only [Act.put, List.setIfInBounds_toArray, List.set_cons_zero, List.set_cons_succ]
    refine wpAnyH_ready (rs := [1]) (by kernel_rfl) (by simp) ?_
    refine AllReadyH.cons (o := ⟨some 24, _, _, _, _, _⟩) rfl (fun K hK => ?_) AllReadyH.nil
    go_simp
    go_at_call 11
    refine (HSC.out _ _ _ (HC.out.below (below_drew (Below.refl _ _)))).mono ?_
    rintro e_r w5 ⟨rfl, hbn⟩
    have hbw5 : Below w4.heap.size w4 w5 := bel_on (show Below w4.heap.size w4 _ by (repeat' (first | with_reducible exact Below.refl _ _ | with_reducible assumption | with_reducible refine bel_alloc ?_ _ | with_reducible refine bel_set ?_ ?_ _ | with_reducible refine below_drewN ?_ _ | with_reducible refine below_drew ?_ | (simp; done) | (simp; omega) | omega))) hbn
    clear hbn
    go_wp2_with fail
    refine hK.out _ _ ?_ (fun hHeld => ?_)
    · (try dsimp only)
      exact hbw5
    clear hK K
    (try simp only [Act.put, List.setIfInBounds_toArray, List.set_cons_zero, List.set_cons_succ])
    refine wpAnyH_take (i := 4) (oi := ⟨some 27, _, _, _, _, _⟩) (v := .bool true) rfl (by kernel_rfl) (by kernel_rfl) (by kernel_rfl) (fun _ _ _ h => h) (Or.inl ⟨by rfl, ?_⟩) hHeld ?_
    · intro ww hSw
      (try dsimp only at hSw)
      go_simp
      (try simp only [hqd])
    simp only [Act.put, List.setIfInBounds_toArray, List.set_cons_zero, List.set_cons_succ]
    refine wpAnyH_done (by kernel_rfl) ?_ _
    refine NoPanic.normal ?_
    clear hqd
    have HBX := Lib.hid (HBX.out.below hbw5)
    have HC := Lib.hid (HC.out.below hbw5)
    have HRr := Lib.hid (HRr.out.below hbw5)
    have HV5 := Lib.hid (bel_on HV4.out hbw5)
    have HO5 := Lib.hid (HO4.out.below hbw5)
    clear HO4 HV4 hbw5
    go_wp2_with fail
    refine wp_region_noPanic ?_
    refine wp_region_held_drew (S := fun w' => Below w5.heap.size w5 w') (by kernel_rfl) (below_drew (Below.refl _ _)) (fun hHeld => ?_)
    refine wpAnyH_take (i := 0) (oi := ⟨some 28, _, _, _, _, _⟩) (v := ?_) rfl (by kernel_rfl) (by kernel_rfl) (by kernel_rfl) (fun _ _ _ h => h) (Or.inl ⟨by rfl, ?_⟩) hHeld ?_
    rotate_left
    · intro ww hSw
      (try dsimp only at hSw)
      go_simp
      (try with_reducible rfl)
    simp only [Act.put, List.setIfInBounds_toArray, List.set_cons_zero, List.set_cons_succ]
    refine wpAnyH_take (i := 2) (oi := ⟨some 30, _, _, _, _, _⟩) (v := ?_) rfl (by kernel_rfl) (by kernel_rfl) (by kernel_rfl) (fun _ _ _ h => h) (Or.inl ⟨by rfl, ?_⟩) hHeld ?_
    rotate_left
    · intro ww hSw
      (try dsimp only at hSw)
      go_simp
      (try with_reducible rfl)
    simp only [Act.put, List.setIfInBounds_toArray, List.set_cons_zero, List.set_cons_succ]
    refine wpAnyH_take (i := 1) (oi := ⟨some 29, _, _, _, _, _⟩) (v := .int .i64 ab) rfl (by kernel_rfl) (by kernel_rfl) (by kernel_rfl) (fun _ _ _ h => h) (Or.inl ⟨by rfl, ?_⟩) hHeld ?_
    · intro ww hSw
      (try dsimp only at hSw)
      have qc := (HBX.out.below hSw).cell 12 q12
      have qz := cell_lt qc
      go_simp
    simp only [Act.put, List.setIfInBounds_toArray, List.set_cons_zero, List.set_cons_succ]
    refine wpAnyH_ready (rs := [3]) (by kernel_rfl) (by simp) ?_
    refine AllReadyH.cons (o := ⟨some 31, _, _, _, _, _⟩) rfl (fun K hK => ?_) AllReadyH.nil
    go_simp
    go_at_call 11
    refine (HSR.out _ _ _ (HRr.out.below (below_drew (Below.refl _ _)))).mono ?_
    rintro e_r w6 ⟨rfl, hbn⟩
    have hbw6 : Below w5.heap.size w5 w6 := bel_on (show Below w5.heap.size w5 _ by (repeat' (first | with_reducible exact Below.refl _ _ | with_reducible assumption | with_reducible refine bel_alloc ?_ _ | with_reducible refine bel_set ?_ ?_ _ | with_reducible refine below_drewN ?_ _ | with_reducible refine below_drew ?_ | (simp; done) | (simp; omega) | omega))) hbn
    clear hbn
    go_wp2_with fail
    refine hK.out _ _ ?_ (fun hHeld => ?_)
    · (try dsimp only)
      exact hbw6
    clear hK K
    (try simp only [Act.put, List.setIfInBounds_toArray, List.set_cons_zero, List.set_cons_succ])
    refine wpAnyH_take (i := 4) (oi := ⟨some 32, _, _, _, _, _⟩) (v := .int .i64 n) rfl (by kernel_rfl) (by kernel_rfl) (by kernel_rfl) (fun _ _ _ h => h) (Or.inl ⟨by rfl, ?_⟩) hHeld ?_
    · intro ww hSw
      (try dsimp only at hSw)
      go_simp
      (try rw [hwn])
    simp only [Act.put, List.setIfInBounds_toArray, List.set_cons_zero, List.set_cons_succ]
    refine wpAnyH_take (i := 5) (oi := ⟨some 10, _, _, _, _, _⟩) (v := ?_) rfl (by kernel_rfl) (by kernel_rfl) (by kernel_rfl) (fun _ _ _ h => h) (Or.inl ⟨by rfl, ?_⟩) hHeld ?_
    rotate_left
    · intro ww hSw
      (try dsimp only at hSw)
      go_simp
      (try with_reducible rfl)
    simp only [Act.put, List.setIfInBounds_toArray, List.set_cons_zero, List.set_cons_succ]
    refine wpAnyH_done (by kernel_rfl) ?_ _
    refine NoPanic.normal ?_
    have HC6 := Lib.hid (HC.out.below hbw6)
    have HR6 := Lib.hid (HRr.out.below hbw6)
    have HV6 := Lib.hid (bel_on HV5.out hbw6)
    have HO6 := Lib.hid (HO5.out.below hbw6)
    clear HO5 HV5 hbw6 HBX HC HRr
    go_wp2_with fail
    refine (HM.out _ _ _ _ _ HC6.out HR6.out).mono ?_
    rintro e w7 ⟨D7, c7, rfl, r7, b7⟩
    have HM7 := Lib.hid (r7.spans FM.out)
    have HV7 := Lib.hid (bel_on HV6.out b7)
    have HO7 := Lib.hid (HO6.out.below b7)
    clear r7 b7 HC6 HR6 HV6 HO6
    go_wp2_with fail
    refine (HL.out _ _ _ HM7.out).mono ?_
    rintro e w8 ⟨D8, c8, rfl, r8, b8⟩
    have HV8 := Lib.hid (bel_on HV7.out b8)
    have HO8 := Lib.hid (HO7.out.below b8)
    obtain ⟨A9, c9, w9, hr9, row9, bel9, -, -⟩ := row_append HO8.out (row_sl r8) (by omega) HV8.out.size
    have lU : (OL ++ AL).length ≤ 100000000 := by rw [List.length_append]; omega
    rw [← List.length_append] at hr9
    have HR9 := Lib.hid hr9
    have HU9 := Lib.hid (row9.spans (FO.out.append FA.out))
    have HV9 := Lib.hid (bel9 w3 (Nat.le_refl _) HV8.out)
    have HC9 := Lib.hid (HS3.out.below HV9.out)
    have HW9 := Lib.hid (bel_on HW3.out HV9.out)
    clear r8 b8 hr9 row9 bel9 HV7 HV8 HV9 HO7 HO8 HM7 HS3 HW3
    generalize OL ++ AL = U at *
    go_wp2_with (at_builtin; refine wpList_append_run (o := ⟨some 39, _, _, _, _, _⟩) HR9.out rfl rfl rfl rfl ?_)
    refine (HP.out _ _ _ _ _ U HC9.out HU9.out lU HUQ.out).mono ?_
    rintro e w10 ⟨A10, c10, rfl, r10, b10⟩
    have HU10 := Lib.hid (HU9.out.below b10)
    have HR10 := Lib.hid (r10.mono (show w.heap.size ≤ w9.heap.size from HW9.out.size))
    have HW10 := Lib.hid (bel_on HW9.out b10)
    clear r10 b10
    go_wp2_with fail
    refine (HU.out _ _ _ U HU10.out lU HUQ.out).mono ?_
    rintro e w11 ⟨A11, c11, rfl, r11, b11⟩
    have HR11 := Lib.hid (HR10.out.below b11)
    have HQ11 := Lib.hid (r11.mono (show w.heap.size ≤ w10.heap.size from HW10.out.size))
    have HW11 := Lib.hid (bel_on HW10.out b11)
    clear r11 b11
    go_wp2
    refine bodyPost_ret (v := .tuple #[.slice A10 PL.length c10, .slice A11 UL.length c11]) (by simp [results, Tryz.results16, go_sem]) rfl ⟨A10, c10, A11, c11, rfl, HR11.out, HQ11.out, HW11.out⟩
  · have hqd : decide (af ≤ zc) = false := decide_eq_false hq
    have HUQ := Lib.hid (HUN.out (by omega))
    clear HUY HUN hq
    go_wp2_with fail
    refine wp_region_noPanic ?_
    refine wp_region_held_drew (S := fun w' => Below w4.heap.size w4 w') (by kernel_rfl) (below_drew (Below.refl _ _)) (fun hHeld => ?_)
    refine wpAnyH_take (i := 0) (oi := ⟨some 23, _, _, _, _, _⟩) (v := ?_) rfl (by kernel_rfl) (by kernel_rfl) (by kernel_rfl) (fun _ _ _ h => h) (Or.inl ⟨by rfl, ?_⟩) hHeld ?_
    rotate_left
    · intro ww hSw
      (try dsimp only at hSw)
      go_simp
      (try with_reducible rfl)
    simp only [Act.put, List.setIfInBounds_toArray, List.set_cons_zero, List.set_cons_succ]
    refine wpAnyH_take (i := 2) (oi := ⟨some 25, _, _, _, _, _⟩) (v := ?_) rfl (by kernel_rfl) (by kernel_rfl) (by kernel_rfl) (fun _ _ _ h => h) (Or.inl ⟨by rfl, ?_⟩) hHeld ?_
    rotate_left
    · intro ww hSw
      (try dsimp only at hSw)
      go_simp
      (try with_reducible rfl)
    simp only [Act.put, List.setIfInBounds_toArray, List.set_cons_zero, List.set_cons_succ]
    refine wpAnyH_take (i := 3) (oi := ⟨some 26, _, _, _, _, _⟩) (v := .int .i64 af) rfl (by kernel_rfl) (by kernel_rfl) (by kernel_rfl) (fun _ _ _ h => h) (Or.inl ⟨by rfl, ?_⟩) hHeld ?_
    · intro ww hSw
      (try dsimp only at hSw)
      have qc := (HBX.out.below hSw).cell 11 q11
      have qz := cell_lt qc
      go_simp
    simp only [Act.put, List.setIfInBounds_toArray, List.set_cons_zero, List.set_cons_succ]
    refine wpAnyH_ready (rs := [1]) (by kernel_rfl) (by simp) ?_
    refine AllReadyH.cons (o := ⟨some 24, _, _, _, _, _⟩) rfl (fun K hK => ?_) AllReadyH.nil
    go_simp
    go_at_call 11
    refine (HSC.out _ _ _ (HC.out.below (below_drew (Below.refl _ _)))).mono ?_
    rintro e_r w5 ⟨rfl, hbn⟩
    have hbw5 : Below w4.heap.size w4 w5 := bel_on (show Below w4.heap.size w4 _ by (repeat' (first | with_reducible exact Below.refl _ _ | with_reducible assumption | with_reducible refine bel_alloc ?_ _ | with_reducible refine bel_set ?_ ?_ _ | with_reducible refine below_drewN ?_ _ | with_reducible refine below_drew ?_ | (simp; done) | (simp; omega) | omega))) hbn
    clear hbn
    go_wp2_with fail
    refine hK.out _ _ ?_ (fun hHeld => ?_)
    · (try dsimp only)
      exact hbw5
    clear hK K
    (try simp only [Act.put, List.setIfInBounds_toArray, List.set_cons_zero, List.set_cons_succ])
    refine wpAnyH_take (i := 4) (oi := ⟨some 27, _, _, _, _, _⟩) (v := .bool false) rfl (by kernel_rfl) (by kernel_rfl) (by kernel_rfl) (fun _ _ _ h => h) (Or.inl ⟨by rfl, ?_⟩) hHeld ?_
    · intro ww hSw
      (try dsimp only at hSw)
      go_simp
      (try simp only [hqd])
    simp only [Act.put, List.setIfInBounds_toArray, List.set_cons_zero, List.set_cons_succ]
    refine wpAnyH_done (by kernel_rfl) ?_ _
    refine NoPanic.normal ?_
    clear hqd
    have HV5 := Lib.hid (bel_on HV4.out hbw5)
    have HC9 := Lib.hid (HS3.out.below HV5.out)
    have HW9 := Lib.hid (bel_on HW3.out HV5.out)
    have HU9 := Lib.hid ((HO4.out.below hbw5).spans FO.out)
    have lU : OL.length ≤ 100000000 := by omega
    clear HBX HC HRr HV4 HO4 hbw5 HS3 HW3 HV5
    go_wp2_with fail
    refine (HP.out _ _ _ _ _ OL HC9.out HU9.out lU HUQ.out).mono ?_
    rintro e w10 ⟨A10, c10, rfl, r10, b10⟩
    have HU10 := Lib.hid (HU9.out.below b10)
    have HR10 := Lib.hid (r10.mono (show w.heap.size ≤ w5.heap.size from HW9.out.size))
    have HW10 := Lib.hid (bel_on HW9.out b10)
    clear r10 b10
    go_wp2_with fail
    refine (HU.out _ _ _ OL HU10.out lU HUQ.out).mono ?_
    rintro e w11 ⟨A11, c11, rfl, r11, b11⟩
    have HR11 := Lib.hid (HR10.out.below b11)
    have HQ11 := Lib.hid (r11.mono (show w.heap.size ≤ w10.heap.size from HW10.out.size))
    have HW11 := Lib.hid (bel_on HW10.out b11)
    clear r11 b11
    go_wp2
    refine bodyPost_ret (v := .tuple #[.slice A10 PL.length c10, .slice A11 UL.length c11]) (by simp [results, Tryz.results16, go_sem]) rfl ⟨A10, c10, A11, c11, rfl, HR11.out, HQ11.out, HW11.out⟩

theorem both_c (A : Option Addr) (n c : Nat) (l : List SegP) (w : World) (h : Segs w A n c l) (hn : n ≤ 1000) (hF : ∀ s ∈ l, Fit s.fr ∧ Fit s.to) :
    Calls Tryz.prog 14 #[.slice A n c] w (Gives2 w (clockP l) (clockP (l.filter (ofKind 3)))) := by
  have HS := Lib.hid h
  have H1 := Lib.hid (fun W (hW : Segs W A n c l) => sclock_any A n c l W hW (by omega) hF)
  have H2 := Lib.hid (fun W (hW : Segs W A n c l) => sonly_any A n c l 3 W hW hn hF)
  generalize clockP (l.filter (ofKind 3)) = Y at *
  generalize clockP l = X at *
  clear h hF
  go_enter Tryz.func14, Tryz.ntmps14
  go_wp2_with fail
  refine (H1.out _ HS.out).mono ?_
  rintro e w1 ⟨D1, c1, rfl, r1, b1⟩
  have HS1 := Lib.hid (HS.out.below b1)
  have HR1 := Lib.hid r1
  have HB1 := Lib.hid b1
  clear r1 b1
  go_wp2_with fail
  refine (H2.out _ HS1.out).mono ?_
  rintro e w2 ⟨D2, c2, rfl, r2, b2⟩
  have HR2 := Lib.hid (HR1.out.below b2)
  have HQ2 := Lib.hid (r2.mono HB1.out.size)
  have HB2 := Lib.hid (bel_on HB1.out b2)
  clear r2 b2
  go_wp2
  refine bodyPost_ret (v := .tuple #[.slice D1 X.length c1, .slice D2 Y.length c2]) (by simp [results, Tryz.results14, go_sem]) rfl ⟨D1, c1, D2, c2, rfl, HR2.out, HQ2.out, HB2.out⟩
/-- The clock, and the breaks, of parts. -/
noncomputable def clkS (l : List SegP) : Int → Prop := In (clockP l)
noncomputable def rstS (l : List SegP) : Int → Prop := In (clockP (l.filter (ofKind 3)))
theorem rst_clk (l : List SegP) : ∀ t, rstS l t → clkS l t := fun t h => by
  unfold rstS clkS clockP at *
  rw [canon_in] at h ⊢
  obtain ⟨h0, h1, x, hx, h2⟩ := h
  exact ⟨h0, h1, x, (List.mem_filter.1 hx).1, h2⟩
/-- What OfDay tells, and Paid. -/
noncomputable def dayYes (b : Bool) (s : SetP) (l : List SegP) (d : Int) : List (Int × Int) := if b = true then paidDay (clkS l) (rstS l) s.paid s.aft s.brk d else []
noncomputable def dayNo (b : Bool) (s : SetP) (l : List SegP) (d : Int) : List (Int × Int) := if b = true then notDay (clkS l) (rstS l) s.paid s.aft s.brk d else []
noncomputable def allYes (b : Bool) (s : SetP) (l : List SegP) : List (Int × Int) := if b = true then paidAll (clkS l) (rstS l) s.paid s.aft s.brk else []
noncomputable def allNo (b : Bool) (s : SetP) (l : List SegP) : List (Int × Int) := if b = true then notAll (clkS l) (rstS l) s.paid s.aft s.brk else []
set_option maxHeartbeats 4000000 in
theorem bofday_c {w : World} {s : SetP} {cs : Array Value} (h : SetC w s cs) (hf : s.Fit) (b : Bool) (hb : checkB s = b) (A : Option Addr) (n c : Nat) (l : List SegP) (hs : Segs w A n c l) (hn : n ≤ 1000) (hF : ∀ s ∈ l, Fit s.fr ∧ Fit s.to) (d : Int) :
    Calls Tryz.prog 8 #[.agg cs, .slice A n c, .int .i64 d] w (Gives2 w (dayYes b s l d) (dayNo b s l d)) := by
  have HZ := Lib.hid h.size
  have hb0 := bel_alloc (Below.refl w.heap.size w) (.cells cs 30)
  have HB0 := Lib.hid (Has.new w 30 cs rfl)
  have HS0 := Lib.hid (h.below hb0)
  have HL0 := Lib.hid (hs.below hb0)
  have HC := Lib.hid (scheck_c HS0.out hf b hb)
  clear h hs
  cases b with
  | false =>
    have e1 : dayYes false s l d = [] := rfl
    have e2 : dayNo false s l d = [] := rfl
    rw [e1, e2]
    clear e1 e2 hb
    go_enter Tryz.func8, Tryz.ntmps8
    go_wp2_with (refine wpList_load_sp (by rfl) _ rfl w.heap.size rfl cs HB0.out HZ.out ?_)
    refine HC.out.mono ?_
    rintro e w1 ⟨rfl, b1⟩
    have HB1 := Lib.hid (bel_on hb0 b1)
    clear b1 hb0
    go_wp2
    refine bodyPost_ret (v := .tuple #[.slice none 0 0, .slice none 0 0]) (by simp [results, Tryz.results8, go_sem]) rfl ⟨none, 0, none, 0, rfl, Row.nil _ _, Row.nil _ _, HB1.out⟩
  | true =>
    have hmay := check_iff.1 hb
    have e1 : dayYes true s l d = paidDay (clkS l) (rstS l) s.paid s.aft s.brk d := if_pos rfl
    have e2 : dayNo true s l d = unDay (clkS l) (rstS l) s.paid s.aft s.brk d := (if_pos rfl).trans (unDay_not (rst_clk l) d).symm
    rw [e1, e2]
    clear e1 e2 hb
    have H2 := Lib.hid (fun W (hW : Segs W A n c l) => both_c A n c l W hW hn hF)
    have lX : (clockP l).length ≤ 32054401 := canon_len _
    have lY : (clockP (l.filter (ofKind 3))).length ≤ 32054401 := canon_len _
    have FX : Hid (Fits (clockP l)) := Fits.canon _
    have FY : Hid (Fits (clockP (l.filter (ofKind 3)))) := Fits.canon _
    unfold clkS rstS
    have H3 := Lib.hid (fun W D1 c1 D2 c2 (hW : SetC W s cs) (h1 : Spans W D1 (clockP l)) (h2 : Spans W D2 (clockP (l.filter (ofKind 3)))) => parted_c hW hmay D1 c1 (clockP l) D2 c2 (clockP (l.filter (ofKind 3))) h1 h2 (by omega) (by omega) d)
    generalize paidDay (In (clockP l)) (In (clockP (l.filter (ofKind 3)))) s.paid s.aft s.brk d = PL at *
    generalize unDay (In (clockP l)) (In (clockP (l.filter (ofKind 3)))) s.paid s.aft s.brk d = UL at *
    generalize clockP (l.filter (ofKind 3)) = Y at *
    generalize clockP l = X at *
    clear hmay hF
    go_enter Tryz.func8, Tryz.ntmps8
    go_wp2_with (refine wpList_load_sp (by rfl) _ rfl w.heap.size rfl cs HB0.out HZ.out ?_)
    refine HC.out.mono ?_
    rintro e w1 ⟨rfl, b1⟩
    have HB1 := Lib.hid (HB0.out.below b1)
    have HS1 := Lib.hid (HS0.out.below b1)
    have HL1 := Lib.hid (HL0.out.below b1)
    have HW1 := Lib.hid (bel_on hb0 b1)
    clear b1 hb0 HB0 HS0 HL0 HC
    go_wp2_with fail
    refine (H2.out _ HL1.out).mono ?_
    rintro e w2 ⟨D1, c1, D2, c2, rfl, r1, r2, b2⟩
    have HB2 := Lib.hid (HB1.out.below b2)
    have HS2 := Lib.hid (HS1.out.below b2)
    have HX2 := Lib.hid (r1.spans FX.out)
    have HY2 := Lib.hid (r2.spans FY.out)
    have HW2 := Lib.hid (bel_on HW1.out b2)
    clear r1 r2 b2 HB1 HS1 HL1 HW1
    go_wp2_with (refine wpList_load_sp (by rfl) _ rfl w.heap.size rfl cs HB2.out HZ.out ?_)
    refine (H3.out _ _ _ _ _ HS2.out HX2.out HY2.out).mono ?_
    intro e w3 hg
    have HG := gives2_bel hg HW2.out rfl rfl
    clear hg
    obtain ⟨A5, c5, B5, d5, rfl, r5, r6, b6⟩ := HG
    go_wp2
    refine bodyPost_ret (v := .tuple #[.slice A5 PL.length c5, .slice B5 UL.length d5]) (by simp [results, Tryz.results8, go_sem]) rfl ⟨A5, c5, B5, d5, rfl, r5, r6, b6⟩
end Go.Proofs.YtghfhoodbiiciaaGreat

namespace Go.Proofs.YtghfhoodbiiciaaGreat
open Go.RowKit Go.Deep Go.WideShapes
set_option linter.unusedVariables false
set_option maxRecDepth 20000

theorem numsT_seg : NumsT Tryz.prog 41 5 := alli_struct Tryz.underlying41 (by kernel_rfl)
  ⟨rfl, nums_at_e numsT_int_e (by kernel_rfl), by kernel_rfl, nums_at_e numsT_int_e (by kernel_rfl), by kernel_rfl, nums_at_e numsT_int_e (by kernel_rfl), by kernel_rfl, nums_at_e numsT_int_e (by kernel_rfl), by kernel_rfl, nums_at_e numsT_int_e (by kernel_rfl), by change _ = _; kernel_rfl⟩
theorem seg_of_list {zs : List Int} (h : zs.length = 5) (hb : ∀ z ∈ zs, In64 z) : ∃ s : SegP, segL s = zs ∧ Fit s.fr ∧ Fit s.to ∧ In64 s.kd := by
  match zs, h with
  | [a, b, c, d, e], _ => exact ⟨⟨a, b, c, d, e⟩, rfl, hb a (by simp), hb b (by simp), hb c (by simp)⟩
/-- Rows of five numbers are parts. -/
theorem segs_of_rows : ∀ (t : Rows2), (∀ r ∈ t, r.length = 5) → (∀ r ∈ t, ∀ z ∈ r, In64 z) → ∃ l : List SegP, l.map segL = t ∧ ∀ s ∈ l, Fit s.fr ∧ Fit s.to
  | [], _, _ => ⟨[], rfl, fun e h => by simp at h⟩
  | r :: t, h1, h2 => by
    obtain ⟨l, hl, hi⟩ := segs_of_rows t (fun q hq => h1 q (by simp [hq])) (fun q hq => h2 q (by simp [hq]))
    obtain ⟨s, hs, f1, f2, _⟩ := seg_of_list (h1 r (by simp)) (h2 r (by simp))
    exact ⟨s :: l, by simp [hs, hl], fun x hx => by
      rcases List.mem_cons.1 hx with rfl | hx
      · exact ⟨f1, f2⟩
      · exact hi x hx⟩
theorem segs_open {H : Type} {enc : TypeId × Value → H} {w : World} {base : Nat} {held : Bool} {fuel : Nat} {cs : List Value} {x : DataW H × List MemPlace}
    (h : DataW.trod enc Tryz.prog w base (fun _ => true) held fuel 31 cs = some x) : ∃ A n c l, cs = [.slice A n c] ∧ Segs w A n c l ∧ (∀ s ∈ l, Fit s.fr ∧ Fit s.to) ∧ n ≤ c ∧ c ≤ 9223372036854775807 := by
  obtain ⟨A, n, c, rows, hcs, T⟩ := open_tab Tryz.underlying31 numsT_seg (by kernel_rfl) (by omega) h
  obtain ⟨l, hl, hi⟩ := segs_of_rows rows T.wide T.small
  refine ⟨A, n, c, l, hcs, ⟨by rw [hl]; exact T.sl, ?_⟩, hi, T.cap, T.max⟩
  rw [← T.len, ← hl, List.length_map]
end Go.Proofs.YtghfhoodbiiciaaGreat
