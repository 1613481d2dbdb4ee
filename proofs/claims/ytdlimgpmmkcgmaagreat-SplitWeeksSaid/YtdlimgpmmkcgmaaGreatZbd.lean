/-
  The document's own OfDay and Paid.
-/
import Derived.Test.YtdlimgpmmkcgmaaGreatZbc
import Derived.Test.YtdlimgpmmkcgmaaGreatZav
import Derived.Test.YtdlimgpmmkcgmaaGreatZax
import Derived.Test.YtdlimgpmmkcgmaaGreatZan
import Derived.Test.YtdlimgpmmkcgmaaGreatZaz
namespace Go.Proofs.YtdlimgpmmkcgmaaGreat
open Go.RowKit
set_option linter.unusedVariables false
set_option linter.unusedSimpArgs false
set_option maxRecDepth 20000

section
variable {C R : Int → Prop} {pb af ab : Int}
noncomputable def keepL (C R : Int → Prop) (pb d : Int) : List (Int × Int) := canon fun t => In (ofDayP C d) t ∧ ¬ In (othL R pb d) t
theorem keep_list (d : Int) : (canon fun t => In (ofDayP C d) t ∧ ¬ In (othL R pb d) t) = keepL C R pb d := rfl
theorem un_none {d : Int} (h : ¬ (af ≤ sz (onDay C d) ∧ sz (onDay R d) < ab)) {t : Int} (h0 : 0 ≤ t) (h1 : t < 32054400) : (In (othL R pb d) t ∨ In ([] : List (Int × Int)) t) ↔ unP (onDay C d) (onDay R d) pb af ab t := by
  unfold othL unP
  rw [in_can h0 h1]
  exact ⟨fun q => q.elim .inl (fun z => absurd z (in_nil t)), fun q => q.elim .inl (fun z => absurd ⟨z.1, z.2.1⟩ h)⟩
theorem un_some {d : Int} (h : af ≤ sz (onDay C d)) {t : Int} (h0 : 0 ≤ t) (h1 : t < 32054400) : (In (othL R pb d) t ∨ In (autL C R (ab - sz (onDay R d)) d) t) ↔ unP (onDay C d) (onDay R d) pb af ab t := by
  rw [← un_yes h h0 h1, in_append]
theorem ref_paid {U : List (Int × Int)} {d : Int} (h : ∀ t, 0 ≤ t → t < 32054400 → ((In (othL R pb d) t ∨ In U t) ↔ unP (onDay C d) (onDay R d) pb af ab t)) : (canon fun t => In (keepL C R pb d) t ∧ ¬ In U t) = paidDay C R pb af ab d :=
  canon_congr fun t h0 h1 => by
    unfold keepL ofDayP paidS
    rw [in_can h0 h1, in_can h0 h1, ← h t h0 h1]
    constructor
    · rintro ⟨⟨q1, q2⟩, q3⟩; exact ⟨q1, fun z => z.elim q2 q3⟩
    · rintro ⟨q1, q2⟩; exact ⟨⟨q1, fun z => q2 (.inl z)⟩, fun z => q2 (.inr z)⟩
theorem ref_not (d : Int) : (canon fun t => In (ofDayP C d) t ∧ ¬ In (paidDay C R pb af ab d) t) = notDay C R pb af ab d :=
  canon_congr fun t h0 h1 => by
    unfold paidDay ofDayP notS paidS
    rw [in_can h0 h1, in_can h0 h1]
    constructor
    · rintro ⟨q1, q2⟩; exact ⟨q1, Classical.byContradiction fun z => q2 ⟨q1, z⟩⟩
    · rintro ⟨q1, q2⟩; exact ⟨q1, fun z => z.2 q2⟩
end
set_option maxHeartbeats 8000000 in
theorem rofday15_c {w : World} {s : SetP} {cs : Array Value} (h : SetC w s cs) (hf : s.Fit) (b : Bool) (hb : checkB s = b) (A : Option Addr) (m c : Nat) (l : List SegP) (hs : Segs w A m c l) (hm : m ≤ 1000) (hF : ∀ s ∈ l, Fit s.fr ∧ Fit s.to) (d : Int) :
    Calls Tryz.prog 72 #[.agg cs, .slice A m c, .int .i64 d] w (Gives2 w (dayYes b s l d) (dayNo b s l d)) := by
  have HZ := Lib.hid h.size
  obtain ⟨q10, q11, q12⟩ := setC_brk h
  have hb0 := bel_alloc (Below.refl w.heap.size w) (.cells cs 30)
  have HB0 := Lib.hid (Has.new w 30 cs rfl)
  have HS0 := Lib.hid (h.below hb0)
  have HL0 := Lib.hid (hs.below hb0)
  have HCK := Lib.hid (rsetcheck_c HS0.out hf b hb)
  clear h hs
  cases b with
  | false =>
    have e1 : dayYes false s l d = [] := rfl
    have e2 : dayNo false s l d = [] := rfl
    rw [e1, e2]
    clear e1 e2 hb
    go_enter Tryz.func72, Tryz.ntmps72
    go_wp2_with (refine wpList_load_sp (by rfl) _ rfl w.heap.size rfl cs HB0.out HZ.out ?_)
    refine HCK.out.mono ?_
    rintro e w1 ⟨rfl, b1⟩
    have HB1 := Lib.hid (bel_on hb0 b1)
    clear b1 hb0
    go_wp2
    refine bodyPost_ret (v := .tuple #[.slice none 0 0, .slice none 0 0]) (by simp [results, Tryz.results72, go_sem]) rfl ⟨none, 0, none, 0, rfl, Row.nil _ _, Row.nil _ _, HB1.out⟩
  | true =>
    have hmay := check_iff.1 hb
    have e1 : dayYes true s l d = paidDay (In (clockP l)) (In (clockP (l.filter (ofKind 3)))) s.paid s.aft s.brk d := if_pos rfl
    have e2 : dayNo true s l d = notDay (In (clockP l)) (In (clockP (l.filter (ofKind 3)))) s.paid s.aft s.brk d := if_pos rfl
    rw [e1, e2]
    clear e1 e2 hb
    obtain ⟨pb0, pb1⟩ := hmay.paid
    obtain ⟨af0, af1⟩ := hmay.aft
    obtain ⟨ab0, ab1⟩ := hmay.brk
    generalize s.paid = pb at *
    generalize s.aft = af at *
    generalize s.brk = ab at *
    have HCL := Lib.hid (fun W (hW : Segs W A m c l) => rclock_any A m c l W hW (by omega) hF)
    have HON := Lib.hid (fun W (hW : Segs W A m c l) => ronly_any A m c l 3 W hW hm hF)
    clear hmay hF
    have lX : (clockP l).length ≤ 32054401 := canon_len _
    have lY : (clockP (l.filter (ofKind 3))).length ≤ 32054401 := canon_len _
    have FX : Hid (Fits (clockP l)) := Fits.canon _
    have FY : Hid (Fits (clockP (l.filter (ofKind 3)))) := Fits.canon _
    generalize clockP (l.filter (ofKind 3)) = ys at *
    generalize clockP l = xs at *
    have HC1 := Lib.hid (fun W D dc (hW : Spans W D xs) => rofday_any D dc xs d W hW (by omega))
    have HC2 := Lib.hid (fun W D dc (hW : Spans W D ys) => rofday_any D dc ys d W hW (by omega))
    have lC : (ofDayP (In xs) d).length ≤ 32054401 := canon_len _
    have lR : (ofDayP (In ys) d).length ≤ 32054401 := canon_len _
    have lF : (fstL (In ys) pb d).length ≤ 32054401 := canon_len _
    have lO : (othL (In ys) pb d).length ≤ 32054401 := canon_len _
    have lM : (wrkL (In xs) (In ys) d).length ≤ 32054401 := canon_len _
    have lK : (keepL (In xs) (In ys) pb d).length ≤ 32054401 := canon_len _
    have lP : (paidDay (In xs) (In ys) pb af ab d).length ≤ 32054401 := canon_len _
    obtain ⟨zr, hzr⟩ : ∃ z, sz (onDay (In ys) d) = z := ⟨_, rfl⟩
    have bzr := sz_bound (onDay (In ys) d)
    rw [hzr] at bzr
    obtain ⟨zc, hzc⟩ : ∃ z, sz (onDay (In xs) d) = z := ⟨_, rfl⟩
    obtain ⟨n, hn⟩ : ∃ n, ab - zr = n := ⟨_, rfl⟩
    have bn : -32054400 ≤ n ∧ n ≤ 86400 := by omega
    have hwn : IntKind.i64.wrap (ab - zr) = n := by rw [hn]; exact wrapn_id (by omega) (by omega)
    have lA : (autL (In xs) (In ys) n d).length ≤ 32054401 := canon_len _
    have FC : Hid (Fits (ofDayP (In xs) d)) := Fits.canon _
    have FR : Hid (Fits (ofDayP (In ys) d)) := Fits.canon _
    have FF : Hid (Fits (fstL (In ys) pb d)) := Fits.canon _
    have FO : Hid (Fits (othL (In ys) pb d)) := Fits.canon _
    have FM : Hid (Fits (wrkL (In xs) (In ys) d)) := Fits.canon _
    have FA : Hid (Fits (autL (In xs) (In ys) n d)) := Fits.canon _
    have FK : Hid (Fits (keepL (In xs) (In ys) pb d)) := Fits.canon _
    have FP : Hid (Fits (paidDay (In xs) (In ys) pb af ab d)) := Fits.canon _
    have HF := Lib.hid (fun W D dc (hW : Spans W D (ofDayP (In ys) d)) => fst_list (R := In ys) pb d ▸ rfirst_any D dc (ofDayP (In ys) d) pb W hW (by omega) ⟨by omega, by omega⟩)
    have HO := Lib.hid (fun W D dc E ec (hW : Spans W D (ofDayP (In ys) d)) (hV : Spans W E (fstL (In ys) pb d)) => oth_list (R := In ys) pb d ▸ rminus_any D E dc ec (ofDayP (In ys) d) (fstL (In ys) pb d) W hW hV (by omega) (by omega))
    have HM := Lib.hid (fun W D dc E ec (hW : Spans W D (ofDayP (In xs) d)) (hV : Spans W E (ofDayP (In ys) d)) => wrk_list (C := In xs) (R := In ys) d ▸ rminus_any D E dc ec (ofDayP (In xs) d) (ofDayP (In ys) d) W hW hV (by omega) (by omega))
    have HL := Lib.hid (fun W D dc (hW : Spans W D (wrkL (In xs) (In ys) d)) => aut_list (C := In xs) (R := In ys) n d ▸ rlast_any D dc (wrkL (In xs) (In ys) d) n W hW (by omega) ⟨by omega, by omega⟩)
    have HK := Lib.hid (fun W D dc E ec (hW : Spans W D (ofDayP (In xs) d)) (hV : Spans W E (othL (In ys) pb d)) => keep_list (C := In xs) (R := In ys) (pb := pb) d ▸ rminus_any D E dc ec (ofDayP (In xs) d) (othL (In ys) pb d) W hW hV (by omega) (by omega))
    have HSC := Lib.hid (fun W D dc (hW : Spans W D (ofDayP (In xs) d)) => ((day_only (p := In xs) d).trans hzc) ▸ rsize_any D dc (ofDayP (In xs) d) W hW (by omega))
    have HSR := Lib.hid (fun W D dc (hW : Spans W D (ofDayP (In ys) d)) => ((day_only (p := In ys) d).trans hzr) ▸ rsize_any D dc (ofDayP (In ys) d) W hW (by omega))
    have HUY := Lib.hid (fun (q : af ≤ zc) t h0 h1 => un_some (C := In xs) (R := In ys) (pb := pb) (af := af) (ab := ab) (d := d) (hzc ▸ q) (t := t) h0 h1)
    rw [hzr, hn] at HUY
    have HUN : Hid (¬ (af ≤ zc ∧ zr < ab) → ∀ t, 0 ≤ t → t < 32054400 → ((In (othL (In ys) pb d) t ∨ In ([] : List (Int × Int)) t) ↔ unP (onDay (In xs) d) (onDay (In ys) d) pb af ab t)) := fun q t h0 h1 => un_none (by rw [hzc, hzr]; exact q) h0 h1
    have HP := Lib.hid (fun W D dc E ec U (hW : Spans W D (keepL (In xs) (In ys) pb d)) (hV : Spans W E U) (hl : U.length ≤ 100000000) hU => ref_paid (C := In xs) (R := In ys) (pb := pb) (af := af) (ab := ab) (U := U) (d := d) hU ▸ rminus_any D E dc ec (keepL (In xs) (In ys) pb d) U W hW hV (by omega) hl)
    have HN := Lib.hid (fun W D dc E ec (hW : Spans W D (ofDayP (In xs) d)) (hV : Spans W E (paidDay (In xs) (In ys) pb af ab d)) => ref_not (C := In xs) (R := In ys) (pb := pb) (af := af) (ab := ab) d ▸ rminus_any D E dc ec (ofDayP (In xs) d) (paidDay (In xs) (In ys) pb af ab d) W hW hV (by omega) (by omega))
    replace hzr := Lib.hid hzr
    replace hzc := Lib.hid hzc
    replace hn := Lib.hid hn
    generalize ofDayP (In xs) d = CL at *
    generalize ofDayP (In ys) d = RL at *
    generalize fstL (In ys) pb d = FL at *
    generalize othL (In ys) pb d = OL at *
    generalize wrkL (In xs) (In ys) d = ML at *
    generalize autL (In xs) (In ys) n d = AL at *
    generalize keepL (In xs) (In ys) pb d = KL at *
    generalize paidDay (In xs) (In ys) pb af ab d = PL at *
    generalize notDay (In xs) (In ys) pb af ab d = NL at *
    generalize unP (onDay (In xs) d) (onDay (In ys) d) pb af ab = UP at *
    clear hzr hzc hn
    go_enter Tryz.func72, Tryz.ntmps72
    go_wp2_with (refine wpList_load_sp (by rfl) _ rfl w.heap.size rfl cs HB0.out HZ.out ?_)
    refine HCK.out.mono ?_
    rintro e w1 ⟨rfl, b1⟩
    have HB1 := Lib.hid (HB0.out.below b1)
    have HL1 := Lib.hid (HL0.out.below b1)
    have HW1 := Lib.hid (bel_on hb0 b1)
    clear b1 hb0 HB0 HS0 HL0 HCK
    go_wp2_with fail
    refine (HCL.out _ HL1.out).mono ?_
    rintro e w2 ⟨D2, c2, rfl, r2, b2⟩
    have HB2 := Lib.hid (HB1.out.below b2)
    have HL2 := Lib.hid (HL1.out.below b2)
    have HX2 := Lib.hid (r2.spans FX.out)
    have HW2 := Lib.hid (bel_on HW1.out b2)
    clear r2 b2 HB1 HL1 HW1 HCL
    go_wp2_with fail
    refine (HC1.out _ _ _ HX2.out).mono ?_
    rintro e w3 ⟨D3, c3, rfl, r3, b3⟩
    have HB3 := Lib.hid (HB2.out.below b3)
    have HL3 := Lib.hid (HL2.out.below b3)
    have HC3 := Lib.hid (r3.spans FC.out)
    have HW3 := Lib.hid (bel_on HW2.out b3)
    clear r3 b3 HB2 HL2 HW2 HX2 HC1
    go_wp2_with fail
    refine (HON.out _ HL3.out).mono ?_
    rintro e w4 ⟨D4, c4, rfl, r4, b4⟩
    have HB4 := Lib.hid (HB3.out.below b4)
    have HC4 := Lib.hid (HC3.out.below b4)
    have HY4 := Lib.hid (r4.spans FY.out)
    have HW4 := Lib.hid (bel_on HW3.out b4)
    clear r4 b4 HB3 HL3 HC3 HW3 HON
    go_wp2_with fail
    refine (HC2.out _ _ _ HY4.out).mono ?_
    rintro e w5 ⟨D5, c5, rfl, r5, b5⟩
    have HB5 := Lib.hid (HB4.out.below b5)
    have HC5 := Lib.hid (HC4.out.below b5)
    have HR5 := Lib.hid (r5.spans FR.out)
    have HW5 := Lib.hid (bel_on HW4.out b5)
    have g10 := HB5.out.cell 10 q10
    have gz := HB5.out.size
    clear r5 b5 HB4 HC4 HY4 HW4 HC2
    go_wp2_with fail
    refine (HF.out _ _ _ HR5.out).mono ?_
    rintro e w6 ⟨D6, c6, rfl, r6, b6⟩
    have HB6 := Lib.hid (HB5.out.below b6)
    have HC6 := Lib.hid (HC5.out.below b6)
    have HR6 := Lib.hid (HR5.out.below b6)
    have HF6 := Lib.hid (r6.spans FF.out)
    have HW6 := Lib.hid (bel_on HW5.out b6)
    clear r6 b6 HB5 HC5 HR5 HW5 g10 gz HF
    go_wp2_with fail
    refine (HSR.out _ _ _ HR6.out).mono ?_
    rintro e w7 ⟨rfl, b7⟩
    have HBX := Lib.hid (HB6.out.below b7)
    have HC := Lib.hid (HC6.out.below b7)
    have HRr := Lib.hid (HR6.out.below b7)
    have HF7 := Lib.hid (HF6.out.below b7)
    have HW7 := Lib.hid (bel_on HW6.out b7)
    clear b7 HB6 HC6 HR6 HF6 HW6 HSR
    by_cases hq : af ≤ zc
    · have hqd : decide (af ≤ zc) = true := decide_eq_true hq
      by_cases hr : zr < ab
      · have hrd : decide (zr < ab) = true := decide_eq_true hr
        have G := Lib.hid (HUY.out hq)
        clear HUY HUN hq hr
        go_wp2_with fail
        refine wp_region_noPanic ?_
        refine wp_region_held_drew (S := fun w' => Below w7.heap.size w7 w') (by kernel_rfl) (below_drew (Below.refl _ _)) (fun hHeld => ?_)
        refine wpAnyH_take (i := 0) (oi := ⟨some 33, _, _, _, _, _⟩) (v := ?_) rfl (by kernel_rfl) (by kernel_rfl) (by kernel_rfl) (fun _ _ _ h => h) (Or.inl ⟨by rfl, ?_⟩) hHeld ?_
        rotate_left
        · intro ww hSw
          (try dsimp only at hSw)
          go_simp
          (try with_reducible rfl)
        simp only [Act.put, List.setIfInBounds_toArray, List.set_cons_zero, List.set_cons_succ]
        refine wpAnyH_take (i := 2) (oi := ⟨some 35, _, _, _, _, _⟩) (v := ?_) rfl (by kernel_rfl) (by kernel_rfl) (by kernel_rfl) (fun _ _ _ h => h) (Or.inl ⟨by rfl, ?_⟩) hHeld ?_
        rotate_left
        · intro ww hSw
          (try dsimp only at hSw)
          go_simp
          (try with_reducible rfl)
        simp only [Act.put, List.setIfInBounds_toArray, List.set_cons_zero, List.set_cons_succ]
        refine wpAnyH_take (i := 3) (oi := ⟨some 36, _, _, _, _, _⟩) (v := .int .i64 af) rfl (by kernel_rfl) (by kernel_rfl) (by kernel_rfl) (fun _ _ _ h => h) (Or.inl ⟨by rfl, ?_⟩) hHeld ?_
        · intro ww hSw
          (try dsimp only at hSw)
          have qc := (HBX.out.below hSw).cell 11 q11
          have qz := cell_lt qc
          go_simp
        simp only [Act.put, List.setIfInBounds_toArray, List.set_cons_zero, List.set_cons_succ]
        refine wpAnyH_ready (rs := [1]) (by kernel_rfl) (by simp) ?_
        refine AllReadyH.cons (o := ⟨some 34, _, _, _, _, _⟩) rfl (fun K hK => ?_) AllReadyH.nil
        go_simp
        go_at_call 40
        refine (HSC.out _ _ _ (HC.out.below (below_drew (Below.refl _ _)))).mono ?_
        rintro e_r w8 ⟨rfl, hbn⟩
        have hbw8 : Below w7.heap.size w7 w8 := bel_on (show Below w7.heap.size w7 _ by (repeat' (first | with_reducible exact Below.refl _ _ | with_reducible assumption | with_reducible refine bel_alloc ?_ _ | with_reducible refine bel_set ?_ ?_ _ | with_reducible refine below_drewN ?_ _ | with_reducible refine below_drew ?_ | (simp; done) | (simp; omega) | omega))) hbn
        clear hbn
        go_wp2_with fail
        refine hK.out _ _ ?_ (fun hHeld => ?_)
        · (try dsimp only)
          exact hbw8
        clear hK K
        (try simp only [Act.put, List.setIfInBounds_toArray, List.set_cons_zero, List.set_cons_succ])
        refine wpAnyH_take (i := 4) (oi := ⟨some 37, _, _, _, _, _⟩) (v := .bool true) rfl (by kernel_rfl) (by kernel_rfl) (by kernel_rfl) (fun _ _ _ h => h) (Or.inl ⟨by rfl, ?_⟩) hHeld ?_
        · intro ww hSw
          (try dsimp only at hSw)
          go_simp
          (try simp only [hqd])
        simp only [Act.put, List.setIfInBounds_toArray, List.set_cons_zero, List.set_cons_succ]
        refine wpAnyH_take (i := 5) (oi := ⟨some 38, _, _, _, _, _⟩) (v := ?_) rfl (by kernel_rfl) (by kernel_rfl) (by kernel_rfl) (fun _ _ _ h => h) (Or.inl ⟨by rfl, ?_⟩) hHeld ?_
        rotate_left
        · intro ww hSw
          (try dsimp only at hSw)
          go_simp
          (try with_reducible rfl)
        simp only [Act.put, List.setIfInBounds_toArray, List.set_cons_zero, List.set_cons_succ]
        refine wpAnyH_take (i := 6) (oi := ⟨some 39, _, _, _, _, _⟩) (v := ?_) rfl (by kernel_rfl) (by kernel_rfl) (by kernel_rfl) (fun _ _ _ h => h) (Or.inl ⟨by rfl, ?_⟩) hHeld ?_
        rotate_left
        · intro ww hSw
          (try dsimp only at hSw)
          go_simp
          (try with_reducible rfl)
        simp only [Act.put, List.setIfInBounds_toArray, List.set_cons_zero, List.set_cons_succ]
        refine wpAnyH_take (i := 7) (oi := ⟨some 40, _, _, _, _, _⟩) (v := ?_) rfl (by kernel_rfl) (by kernel_rfl) (by kernel_rfl) (fun _ _ _ h => h) (Or.inl ⟨by rfl, ?_⟩) hHeld ?_
        rotate_left
        · intro ww hSw
          (try dsimp only at hSw)
          go_simp
          (try with_reducible rfl)
        simp only [Act.put, List.setIfInBounds_toArray, List.set_cons_zero, List.set_cons_succ]
        refine wpAnyH_take (i := 8) (oi := ⟨some 41, _, _, _, _, _⟩) (v := .int .i64 ab) rfl (by kernel_rfl) (by kernel_rfl) (by kernel_rfl) (fun _ _ _ h => h) (Or.inl ⟨by rfl, ?_⟩) hHeld ?_
        · intro ww hSw
          (try dsimp only at hSw)
          have qc := (HBX.out.below hSw).cell 12 q12
          have qz := cell_lt qc
          go_simp
        simp only [Act.put, List.setIfInBounds_toArray, List.set_cons_zero, List.set_cons_succ]
        refine wpAnyH_take (i := 9) (oi := ⟨some 42, _, _, _, _, _⟩) (v := .bool true) rfl (by kernel_rfl) (by kernel_rfl) (by kernel_rfl) (fun _ _ _ h => h) (Or.inl ⟨by rfl, ?_⟩) hHeld ?_
        · intro ww hSw
          (try dsimp only at hSw)
          go_simp
          (try simp only [hrd])
        simp only [Act.put, List.setIfInBounds_toArray, List.set_cons_zero, List.set_cons_succ]
        refine wpAnyH_take (i := 10) (oi := ⟨some 43, _, _, _, _, _⟩) (v := ?_) rfl (by kernel_rfl) (by kernel_rfl) (by kernel_rfl) (fun _ _ _ h => h) (Or.inl ⟨by rfl, ?_⟩) hHeld ?_
        rotate_left
        · intro ww hSw
          (try dsimp only at hSw)
          go_simp
          (try with_reducible rfl)
        simp only [Act.put, List.setIfInBounds_toArray, List.set_cons_zero, List.set_cons_succ]
        refine wpAnyH_done (by kernel_rfl) ?_ _
        refine NoPanic.normal ?_
        clear hqd hrd
        have HBX := Lib.hid (HBX.out.below hbw8)
        have HC := Lib.hid (HC.out.below hbw8)
        have HRr := Lib.hid (HRr.out.below hbw8)
        have HF8 := Lib.hid (HF7.out.below hbw8)
        have HW8 := Lib.hid (bel_on HW7.out hbw8)
        clear HF7 HW7 hbw8
        go_wp2_with fail
        refine wp_region_noPanic ?_
        refine wp_region_held_drew (S := fun w' => Below w8.heap.size w8 w') (by kernel_rfl) (below_drew (Below.refl _ _)) (fun hHeld => ?_)
        refine wpAnyH_take (i := 0) (oi := ⟨some 44, _, _, _, _, _⟩) (v := ?_) rfl (by kernel_rfl) (by kernel_rfl) (by kernel_rfl) (fun _ _ _ h => h) (Or.inl ⟨by rfl, ?_⟩) hHeld ?_
        rotate_left
        · intro ww hSw
          (try dsimp only at hSw)
          go_simp
          (try with_reducible rfl)
        simp only [Act.put, List.setIfInBounds_toArray, List.set_cons_zero, List.set_cons_succ]
        refine wpAnyH_take (i := 1) (oi := ⟨some 45, _, _, _, _, _⟩) (v := ?_) rfl (by kernel_rfl) (by kernel_rfl) (by kernel_rfl) (fun _ _ _ h => h) (Or.inl ⟨by rfl, ?_⟩) hHeld ?_
        rotate_left
        · intro ww hSw
          (try dsimp only at hSw)
          go_simp
          (try with_reducible rfl)
        simp only [Act.put, List.setIfInBounds_toArray, List.set_cons_zero, List.set_cons_succ]
        refine wpAnyH_take (i := 3) (oi := ⟨some 47, _, _, _, _, _⟩) (v := ?_) rfl (by kernel_rfl) (by kernel_rfl) (by kernel_rfl) (fun _ _ _ h => h) (Or.inl ⟨by rfl, ?_⟩) hHeld ?_
        rotate_left
        · intro ww hSw
          (try dsimp only at hSw)
          go_simp
          (try with_reducible rfl)
        simp only [Act.put, List.setIfInBounds_toArray, List.set_cons_zero, List.set_cons_succ]
        refine wpAnyH_take (i := 5) (oi := ⟨some 49, _, _, _, _, _⟩) (v := ?_) rfl (by kernel_rfl) (by kernel_rfl) (by kernel_rfl) (fun _ _ _ h => h) (Or.inl ⟨by rfl, ?_⟩) hHeld ?_
        rotate_left
        · intro ww hSw
          (try dsimp only at hSw)
          go_simp
          (try with_reducible rfl)
        simp only [Act.put, List.setIfInBounds_toArray, List.set_cons_zero, List.set_cons_succ]
        refine wpAnyH_take (i := 4) (oi := ⟨some 48, _, _, _, _, _⟩) (v := .int .i64 ab) rfl (by kernel_rfl) (by kernel_rfl) (by kernel_rfl) (fun _ _ _ h => h) (Or.inl ⟨by rfl, ?_⟩) hHeld ?_
        · intro ww hSw
          (try dsimp only at hSw)
          have qc := (HBX.out.below hSw).cell 12 q12
          have qz := cell_lt qc
          go_simp
        simp only [Act.put, List.setIfInBounds_toArray, List.set_cons_zero, List.set_cons_succ]
        refine wpAnyH_take (i := 6) (oi := ⟨some 50, _, _, _, _, _⟩) (v := .int .i64 n) rfl (by kernel_rfl) (by kernel_rfl) (by kernel_rfl) (fun _ _ _ h => h) (Or.inl ⟨by rfl, ?_⟩) hHeld ?_
        · intro ww hSw
          (try dsimp only at hSw)
          go_simp
          (try rw [hwn])
        simp only [Act.put, List.setIfInBounds_toArray, List.set_cons_zero, List.set_cons_succ]
        refine wpAnyH_ready (rs := [2]) (by kernel_rfl) (by simp) ?_
        refine AllReadyH.cons (o := ⟨some 46, _, _, _, _, _⟩) rfl (fun K hK => ?_) AllReadyH.nil
        go_simp
        go_at_call 37
        refine (HM.out _ _ _ _ _ (HC.out.below (below_drew (Below.refl _ _))) (HRr.out.below (below_drew (Below.refl _ _)))).mono ?_
        rintro e_r w9 ⟨D9, c9, rfl, r9, hbn⟩
        have HM9 := Lib.hid (r9.spans FM.out)
        clear r9
        have hbw9 : Below w8.heap.size w8 w9 := bel_on (show Below w8.heap.size w8 _ by (repeat' (first | with_reducible exact Below.refl _ _ | with_reducible assumption | with_reducible refine bel_alloc ?_ _ | with_reducible refine bel_set ?_ ?_ _ | with_reducible refine below_drewN ?_ _ | with_reducible refine below_drew ?_ | (simp; done) | (simp; omega) | omega))) hbn
        clear hbn
        go_wp2_with fail
        refine hK.out _ _ ?_ (fun hHeld => ?_)
        · (try dsimp only)
          exact hbw9
        clear hK K
        (try simp only [Act.put, List.setIfInBounds_toArray, List.set_cons_zero, List.set_cons_succ])
        refine wpAnyH_ready (rs := [7]) (by kernel_rfl) (by simp) ?_
        refine AllReadyH.cons (o := ⟨some 51, _, _, _, _, _⟩) rfl (fun K hK => ?_) AllReadyH.nil
        go_simp
        go_at_call 121
        refine (HL.out _ _ _ HM9.out).mono ?_
        rintro e_r w10 ⟨D10, c10, rfl, r10, hbn⟩
        have HA10 := Lib.hid (r10.spans FA.out)
        clear r10 HM9
        have hbw10 : Below w8.heap.size w8 w10 := bel_on (show Below w8.heap.size w8 _ by (repeat' (first | with_reducible exact Below.refl _ _ | with_reducible assumption | with_reducible refine bel_alloc ?_ _ | with_reducible refine bel_set ?_ ?_ _ | with_reducible refine below_drewN ?_ _ | with_reducible refine below_drew ?_ | (simp; done) | (simp; omega) | omega))) hbn
        clear hbn
        go_wp2_with fail
        refine hK.out _ _ ?_ (fun hHeld => ?_)
        · (try dsimp only)
          exact hbw10
        clear hK K
        (try simp only [Act.put, List.setIfInBounds_toArray, List.set_cons_zero, List.set_cons_succ])
        refine wpAnyH_take (i := 8) (oi := ⟨some 13, _, _, _, _, _⟩) (v := ?_) rfl (by kernel_rfl) (by kernel_rfl) (by kernel_rfl) (fun _ _ _ h => h) (Or.inl ⟨by rfl, ?_⟩) hHeld ?_
        rotate_left
        · intro ww hSw
          (try dsimp only at hSw)
          go_simp
          (try with_reducible rfl)
        simp only [Act.put, List.setIfInBounds_toArray, List.set_cons_zero, List.set_cons_succ]
        refine wpAnyH_done (by kernel_rfl) ?_ _
        refine NoPanic.normal ?_
        have HCx := Lib.hid (HC.out.below hbw10)
        have HRx := Lib.hid (HRr.out.below hbw10)
        have HFx := Lib.hid (HF8.out.below hbw10)
        have HWx := Lib.hid (bel_on HW8.out hbw10)
        have lAU : AL.length ≤ 100000000 := by omega
        clear HC HRr HF8 HW8 HBX hbw9 hbw10
        go_wp2_with fail
        refine (HO.out _ _ _ _ _ HRx.out HFx.out).mono ?_
        rintro e w11 ⟨D11, c11, rfl, r11, b11⟩
        have HC11 := Lib.hid (HCx.out.below b11)
        have HA11 := Lib.hid (HA10.out.below b11)
        have HO11 := Lib.hid (r11.spans FO.out)
        have HW11 := Lib.hid (bel_on HWx.out b11)
        clear r11 b11 HRx HFx HCx HA10 HWx
        go_wp2_with fail
        refine (HK.out _ _ _ _ _ HC11.out HO11.out).mono ?_
        rintro e w12 ⟨D12, c12, rfl, r12, b12⟩
        have HC12 := Lib.hid (HC11.out.below b12)
        have HA12 := Lib.hid (HA11.out.below b12)
        have HK12 := Lib.hid (r12.spans FK.out)
        have HW12 := Lib.hid (bel_on HW11.out b12)
        clear r12 b12 HC11 HA11 HO11 HW11
        go_wp2_with fail
        refine (HP.out _ _ _ _ _ AL HK12.out HA12.out lAU G.out).mono ?_
        rintro e w13 ⟨D13, c13, rfl, r13, b13⟩
        have HC13 := Lib.hid (HC12.out.below b13)
        have HP13 := Lib.hid (r13.spans FP.out)
        have HR13 := Lib.hid (r13.mono (show w.heap.size ≤ w12.heap.size from HW12.out.size))
        have HW13 := Lib.hid (bel_on HW12.out b13)
        clear r13 b13 HC12 HA12 HK12 HW12
        go_wp2_with fail
        refine (HN.out _ _ _ _ _ HC13.out HP13.out).mono ?_
        rintro e w14 ⟨D14, c14, rfl, r14, b14⟩
        have HR14 := Lib.hid (HR13.out.below b14)
        have HQ14 := Lib.hid (r14.mono (show w.heap.size ≤ w13.heap.size from HW13.out.size))
        have HW14 := Lib.hid (bel_on HW13.out b14)
        clear r14 b14 HC13 HP13 HR13 HW13
        go_wp2
        refine bodyPost_ret (v := .tuple #[.slice D13 PL.length c13, .slice D14 NL.length c14]) (by simp [results, Tryz.results72, go_sem]) rfl ⟨D13, c13, D14, c14, rfl, HR14.out, HQ14.out, HW14.out⟩
      · have hrd : decide (zr < ab) = false := decide_eq_false hr
        have G := Lib.hid (HUN.out (by intros; omega))
        clear HUY HUN hq hr
        go_wp2_with fail
        refine wp_region_noPanic ?_
        refine wp_region_held_drew (S := fun w' => Below w7.heap.size w7 w') (by kernel_rfl) (below_drew (Below.refl _ _)) (fun hHeld => ?_)
        refine wpAnyH_take (i := 0) (oi := ⟨some 33, _, _, _, _, _⟩) (v := ?_) rfl (by kernel_rfl) (by kernel_rfl) (by kernel_rfl) (fun _ _ _ h => h) (Or.inl ⟨by rfl, ?_⟩) hHeld ?_
        rotate_left
        · intro ww hSw
          (try dsimp only at hSw)
          go_simp
          (try with_reducible rfl)
        simp only [Act.put, List.setIfInBounds_toArray, List.set_cons_zero, List.set_cons_succ]
        refine wpAnyH_take (i := 2) (oi := ⟨some 35, _, _, _, _, _⟩) (v := ?_) rfl (by kernel_rfl) (by kernel_rfl) (by kernel_rfl) (fun _ _ _ h => h) (Or.inl ⟨by rfl, ?_⟩) hHeld ?_
        rotate_left
        · intro ww hSw
          (try dsimp only at hSw)
          go_simp
          (try with_reducible rfl)
        simp only [Act.put, List.setIfInBounds_toArray, List.set_cons_zero, List.set_cons_succ]
        refine wpAnyH_take (i := 3) (oi := ⟨some 36, _, _, _, _, _⟩) (v := .int .i64 af) rfl (by kernel_rfl) (by kernel_rfl) (by kernel_rfl) (fun _ _ _ h => h) (Or.inl ⟨by rfl, ?_⟩) hHeld ?_
        · intro ww hSw
          (try dsimp only at hSw)
          have qc := (HBX.out.below hSw).cell 11 q11
          have qz := cell_lt qc
          go_simp
        simp only [Act.put, List.setIfInBounds_toArray, List.set_cons_zero, List.set_cons_succ]
        refine wpAnyH_ready (rs := [1]) (by kernel_rfl) (by simp) ?_
        refine AllReadyH.cons (o := ⟨some 34, _, _, _, _, _⟩) rfl (fun K hK => ?_) AllReadyH.nil
        go_simp
        go_at_call 40
        refine (HSC.out _ _ _ (HC.out.below (below_drew (Below.refl _ _)))).mono ?_
        rintro e_r w8 ⟨rfl, hbn⟩
        have hbw8 : Below w7.heap.size w7 w8 := bel_on (show Below w7.heap.size w7 _ by (repeat' (first | with_reducible exact Below.refl _ _ | with_reducible assumption | with_reducible refine bel_alloc ?_ _ | with_reducible refine bel_set ?_ ?_ _ | with_reducible refine below_drewN ?_ _ | with_reducible refine below_drew ?_ | (simp; done) | (simp; omega) | omega))) hbn
        clear hbn
        go_wp2_with fail
        refine hK.out _ _ ?_ (fun hHeld => ?_)
        · (try dsimp only)
          exact hbw8
        clear hK K
        (try simp only [Act.put, List.setIfInBounds_toArray, List.set_cons_zero, List.set_cons_succ])
        refine wpAnyH_take (i := 4) (oi := ⟨some 37, _, _, _, _, _⟩) (v := .bool true) rfl (by kernel_rfl) (by kernel_rfl) (by kernel_rfl) (fun _ _ _ h => h) (Or.inl ⟨by rfl, ?_⟩) hHeld ?_
        · intro ww hSw
          (try dsimp only at hSw)
          go_simp
          (try simp only [hqd])
        simp only [Act.put, List.setIfInBounds_toArray, List.set_cons_zero, List.set_cons_succ]
        refine wpAnyH_take (i := 5) (oi := ⟨some 38, _, _, _, _, _⟩) (v := ?_) rfl (by kernel_rfl) (by kernel_rfl) (by kernel_rfl) (fun _ _ _ h => h) (Or.inl ⟨by rfl, ?_⟩) hHeld ?_
        rotate_left
        · intro ww hSw
          (try dsimp only at hSw)
          go_simp
          (try with_reducible rfl)
        simp only [Act.put, List.setIfInBounds_toArray, List.set_cons_zero, List.set_cons_succ]
        refine wpAnyH_take (i := 6) (oi := ⟨some 39, _, _, _, _, _⟩) (v := ?_) rfl (by kernel_rfl) (by kernel_rfl) (by kernel_rfl) (fun _ _ _ h => h) (Or.inl ⟨by rfl, ?_⟩) hHeld ?_
        rotate_left
        · intro ww hSw
          (try dsimp only at hSw)
          go_simp
          (try with_reducible rfl)
        simp only [Act.put, List.setIfInBounds_toArray, List.set_cons_zero, List.set_cons_succ]
        refine wpAnyH_take (i := 7) (oi := ⟨some 40, _, _, _, _, _⟩) (v := ?_) rfl (by kernel_rfl) (by kernel_rfl) (by kernel_rfl) (fun _ _ _ h => h) (Or.inl ⟨by rfl, ?_⟩) hHeld ?_
        rotate_left
        · intro ww hSw
          (try dsimp only at hSw)
          go_simp
          (try with_reducible rfl)
        simp only [Act.put, List.setIfInBounds_toArray, List.set_cons_zero, List.set_cons_succ]
        refine wpAnyH_take (i := 8) (oi := ⟨some 41, _, _, _, _, _⟩) (v := .int .i64 ab) rfl (by kernel_rfl) (by kernel_rfl) (by kernel_rfl) (fun _ _ _ h => h) (Or.inl ⟨by rfl, ?_⟩) hHeld ?_
        · intro ww hSw
          (try dsimp only at hSw)
          have qc := (HBX.out.below hSw).cell 12 q12
          have qz := cell_lt qc
          go_simp
        simp only [Act.put, List.setIfInBounds_toArray, List.set_cons_zero, List.set_cons_succ]
        refine wpAnyH_take (i := 9) (oi := ⟨some 42, _, _, _, _, _⟩) (v := .bool false) rfl (by kernel_rfl) (by kernel_rfl) (by kernel_rfl) (fun _ _ _ h => h) (Or.inl ⟨by rfl, ?_⟩) hHeld ?_
        · intro ww hSw
          (try dsimp only at hSw)
          go_simp
          (try simp only [hrd])
        simp only [Act.put, List.setIfInBounds_toArray, List.set_cons_zero, List.set_cons_succ]
        refine wpAnyH_take (i := 10) (oi := ⟨some 43, _, _, _, _, _⟩) (v := ?_) rfl (by kernel_rfl) (by kernel_rfl) (by kernel_rfl) (fun _ _ _ h => h) (Or.inl ⟨by rfl, ?_⟩) hHeld ?_
        rotate_left
        · intro ww hSw
          (try dsimp only at hSw)
          go_simp
          (try with_reducible rfl)
        simp only [Act.put, List.setIfInBounds_toArray, List.set_cons_zero, List.set_cons_succ]
        refine wpAnyH_done (by kernel_rfl) ?_ _
        refine NoPanic.normal ?_
        clear hqd hrd
        have HCx := Lib.hid (HC.out.below hbw8)
        have HRx := Lib.hid (HRr.out.below hbw8)
        have HFx := Lib.hid (HF7.out.below hbw8)
        have HWx := Lib.hid (bel_on HW7.out hbw8)
        have HA10 := Lib.hid (Spans.nil w8 none)
        have lAU : ([] : List (Int × Int)).length ≤ 100000000 := by simp
        clear HC HRr HF7 HW7 HBX hbw8
        go_wp2_with fail
        refine (HO.out _ _ _ _ _ HRx.out HFx.out).mono ?_
        rintro e w11 ⟨D11, c11, rfl, r11, b11⟩
        have HC11 := Lib.hid (HCx.out.below b11)
        have HA11 := Lib.hid (HA10.out.below b11)
        have HO11 := Lib.hid (r11.spans FO.out)
        have HW11 := Lib.hid (bel_on HWx.out b11)
        clear r11 b11 HRx HFx HCx HA10 HWx
        go_wp2_with fail
        refine (HK.out _ _ _ _ _ HC11.out HO11.out).mono ?_
        rintro e w12 ⟨D12, c12, rfl, r12, b12⟩
        have HC12 := Lib.hid (HC11.out.below b12)
        have HA12 := Lib.hid (HA11.out.below b12)
        have HK12 := Lib.hid (r12.spans FK.out)
        have HW12 := Lib.hid (bel_on HW11.out b12)
        clear r12 b12 HC11 HA11 HO11 HW11
        go_wp2_with fail
        refine (HP.out _ _ _ _ _ [] HK12.out HA12.out lAU G.out).mono ?_
        rintro e w13 ⟨D13, c13, rfl, r13, b13⟩
        have HC13 := Lib.hid (HC12.out.below b13)
        have HP13 := Lib.hid (r13.spans FP.out)
        have HR13 := Lib.hid (r13.mono (show w.heap.size ≤ w12.heap.size from HW12.out.size))
        have HW13 := Lib.hid (bel_on HW12.out b13)
        clear r13 b13 HC12 HA12 HK12 HW12
        go_wp2_with fail
        refine (HN.out _ _ _ _ _ HC13.out HP13.out).mono ?_
        rintro e w14 ⟨D14, c14, rfl, r14, b14⟩
        have HR14 := Lib.hid (HR13.out.below b14)
        have HQ14 := Lib.hid (r14.mono (show w.heap.size ≤ w13.heap.size from HW13.out.size))
        have HW14 := Lib.hid (bel_on HW13.out b14)
        clear r14 b14 HC13 HP13 HR13 HW13
        go_wp2
        refine bodyPost_ret (v := .tuple #[.slice D13 PL.length c13, .slice D14 NL.length c14]) (by simp [results, Tryz.results72, go_sem]) rfl ⟨D13, c13, D14, c14, rfl, HR14.out, HQ14.out, HW14.out⟩
    · have hqd : decide (af ≤ zc) = false := decide_eq_false hq
      have G := Lib.hid (HUN.out (by intros; omega))
      clear HUY HUN hq
      go_wp2_with fail
      refine wp_region_noPanic ?_
      refine wp_region_held_drew (S := fun w' => Below w7.heap.size w7 w') (by kernel_rfl) (below_drew (Below.refl _ _)) (fun hHeld => ?_)
      refine wpAnyH_take (i := 0) (oi := ⟨some 33, _, _, _, _, _⟩) (v := ?_) rfl (by kernel_rfl) (by kernel_rfl) (by kernel_rfl) (fun _ _ _ h => h) (Or.inl ⟨by rfl, ?_⟩) hHeld ?_
      rotate_left
      · intro ww hSw
        (try dsimp only at hSw)
        go_simp
        (try with_reducible rfl)
      simp only [Act.put, List.setIfInBounds_toArray, List.set_cons_zero, List.set_cons_succ]
      refine wpAnyH_take (i := 2) (oi := ⟨some 35, _, _, _, _, _⟩) (v := ?_) rfl (by kernel_rfl) (by kernel_rfl) (by kernel_rfl) (fun _ _ _ h => h) (Or.inl ⟨by rfl, ?_⟩) hHeld ?_
      rotate_left
      · intro ww hSw
        (try dsimp only at hSw)
        go_simp
        (try with_reducible rfl)
      simp only [Act.put, List.setIfInBounds_toArray, List.set_cons_zero, List.set_cons_succ]
      refine wpAnyH_take (i := 3) (oi := ⟨some 36, _, _, _, _, _⟩) (v := .int .i64 af) rfl (by kernel_rfl) (by kernel_rfl) (by kernel_rfl) (fun _ _ _ h => h) (Or.inl ⟨by rfl, ?_⟩) hHeld ?_
      · intro ww hSw
        (try dsimp only at hSw)
        have qc := (HBX.out.below hSw).cell 11 q11
        have qz := cell_lt qc
        go_simp
      simp only [Act.put, List.setIfInBounds_toArray, List.set_cons_zero, List.set_cons_succ]
      refine wpAnyH_ready (rs := [1]) (by kernel_rfl) (by simp) ?_
      refine AllReadyH.cons (o := ⟨some 34, _, _, _, _, _⟩) rfl (fun K hK => ?_) AllReadyH.nil
      go_simp
      go_at_call 40
      refine (HSC.out _ _ _ (HC.out.below (below_drew (Below.refl _ _)))).mono ?_
      rintro e_r w8 ⟨rfl, hbn⟩
      have hbw8 : Below w7.heap.size w7 w8 := bel_on (show Below w7.heap.size w7 _ by (repeat' (first | with_reducible exact Below.refl _ _ | with_reducible assumption | with_reducible refine bel_alloc ?_ _ | with_reducible refine bel_set ?_ ?_ _ | with_reducible refine below_drewN ?_ _ | with_reducible refine below_drew ?_ | (simp; done) | (simp; omega) | omega))) hbn
      clear hbn
      go_wp2_with fail
      refine hK.out _ _ ?_ (fun hHeld => ?_)
      · (try dsimp only)
        exact hbw8
      clear hK K
      (try simp only [Act.put, List.setIfInBounds_toArray, List.set_cons_zero, List.set_cons_succ])
      refine wpAnyH_take (i := 4) (oi := ⟨some 37, _, _, _, _, _⟩) (v := .bool false) rfl (by kernel_rfl) (by kernel_rfl) (by kernel_rfl) (fun _ _ _ h => h) (Or.inl ⟨by rfl, ?_⟩) hHeld ?_
      · intro ww hSw
        (try dsimp only at hSw)
        go_simp
        (try simp only [hqd])
      simp only [Act.put, List.setIfInBounds_toArray, List.set_cons_zero, List.set_cons_succ]
      refine wpAnyH_take (i := 5) (oi := ⟨some 38, _, _, _, _, _⟩) (v := ?_) rfl (by kernel_rfl) (by kernel_rfl) (by kernel_rfl) (fun _ _ _ h => h) (Or.inl ⟨by rfl, ?_⟩) hHeld ?_
      rotate_left
      · intro ww hSw
        (try dsimp only at hSw)
        go_simp
        (try with_reducible rfl)
      simp only [Act.put, List.setIfInBounds_toArray, List.set_cons_zero, List.set_cons_succ]
      refine wpAnyH_take (i := 6) (oi := ⟨some 39, _, _, _, _, _⟩) (v := undef) rfl (by kernel_rfl) (by kernel_rfl) (by kernel_rfl) (fun _ _ _ h => h) (Or.inr ⟨by rfl, rfl⟩) hHeld ?_
      simp only [Act.put, List.setIfInBounds_toArray, List.set_cons_zero, List.set_cons_succ]
      refine wpAnyH_take (i := 7) (oi := ⟨some 40, _, _, _, _, _⟩) (v := undef) rfl (by kernel_rfl) (by kernel_rfl) (by kernel_rfl) (fun _ _ _ h => h) (Or.inr ⟨by rfl, rfl⟩) hHeld ?_
      simp only [Act.put, List.setIfInBounds_toArray, List.set_cons_zero, List.set_cons_succ]
      refine wpAnyH_take (i := 8) (oi := ⟨some 41, _, _, _, _, _⟩) (v := undef) rfl (by kernel_rfl) (by kernel_rfl) (by kernel_rfl) (fun _ _ _ h => h) (Or.inr ⟨by rfl, rfl⟩) hHeld ?_
      simp only [Act.put, List.setIfInBounds_toArray, List.set_cons_zero, List.set_cons_succ]
      refine wpAnyH_take (i := 9) (oi := ⟨some 42, _, _, _, _, _⟩) (v := undef) rfl (by kernel_rfl) (by kernel_rfl) (by kernel_rfl) (fun _ _ _ h => h) (Or.inr ⟨by rfl, rfl⟩) hHeld ?_
      simp only [Act.put, List.setIfInBounds_toArray, List.set_cons_zero, List.set_cons_succ]
      refine wpAnyH_take (i := 10) (oi := ⟨some 43, _, _, _, _, _⟩) (v := ?_) rfl (by kernel_rfl) (by kernel_rfl) (by kernel_rfl) (fun _ _ _ h => h) (Or.inl ⟨by rfl, ?_⟩) hHeld ?_
      rotate_left
      · intro ww hSw
        (try dsimp only at hSw)
        go_simp
        (try with_reducible rfl)
      simp only [Act.put, List.setIfInBounds_toArray, List.set_cons_zero, List.set_cons_succ]
      refine wpAnyH_done (by kernel_rfl) ?_ _
      refine NoPanic.normal ?_
      clear hqd
      have HCx := Lib.hid (HC.out.below hbw8)
      have HRx := Lib.hid (HRr.out.below hbw8)
      have HFx := Lib.hid (HF7.out.below hbw8)
      have HWx := Lib.hid (bel_on HW7.out hbw8)
      have HA10 := Lib.hid (Spans.nil w8 none)
      have lAU : ([] : List (Int × Int)).length ≤ 100000000 := by simp
      clear HC HRr HF7 HW7 HBX hbw8
      go_wp2_with fail
      refine (HO.out _ _ _ _ _ HRx.out HFx.out).mono ?_
      rintro e w11 ⟨D11, c11, rfl, r11, b11⟩
      have HC11 := Lib.hid (HCx.out.below b11)
      have HA11 := Lib.hid (HA10.out.below b11)
      have HO11 := Lib.hid (r11.spans FO.out)
      have HW11 := Lib.hid (bel_on HWx.out b11)
      clear r11 b11 HRx HFx HCx HA10 HWx
      go_wp2_with fail
      refine (HK.out _ _ _ _ _ HC11.out HO11.out).mono ?_
      rintro e w12 ⟨D12, c12, rfl, r12, b12⟩
      have HC12 := Lib.hid (HC11.out.below b12)
      have HA12 := Lib.hid (HA11.out.below b12)
      have HK12 := Lib.hid (r12.spans FK.out)
      have HW12 := Lib.hid (bel_on HW11.out b12)
      clear r12 b12 HC11 HA11 HO11 HW11
      go_wp2_with fail
      refine (HP.out _ _ _ _ _ [] HK12.out HA12.out lAU G.out).mono ?_
      rintro e w13 ⟨D13, c13, rfl, r13, b13⟩
      have HC13 := Lib.hid (HC12.out.below b13)
      have HP13 := Lib.hid (r13.spans FP.out)
      have HR13 := Lib.hid (r13.mono (show w.heap.size ≤ w12.heap.size from HW12.out.size))
      have HW13 := Lib.hid (bel_on HW12.out b13)
      clear r13 b13 HC12 HA12 HK12 HW12
      go_wp2_with fail
      refine (HN.out _ _ _ _ _ HC13.out HP13.out).mono ?_
      rintro e w14 ⟨D14, c14, rfl, r14, b14⟩
      have HR14 := Lib.hid (HR13.out.below b14)
      have HQ14 := Lib.hid (r14.mono (show w.heap.size ≤ w13.heap.size from HW13.out.size))
      have HW14 := Lib.hid (bel_on HW13.out b14)
      clear r14 b14 HC13 HP13 HR13 HW13
      go_wp2
      refine bodyPost_ret (v := .tuple #[.slice D13 PL.length c13, .slice D14 NL.length c14]) (by simp [results, Tryz.results72, go_sem]) rfl ⟨D13, c13, D14, c14, rfl, HR14.out, HQ14.out, HW14.out⟩

/-! ### All days -/
noncomputable def yesK (b : Bool) (s : SetP) (l : List SegP) (D : List Int) (k : Nat) : List (Int × Int) := (D.take k).flatMap (dayYes b s l)
noncomputable def noK (b : Bool) (s : SetP) (l : List SegP) (D : List Int) (k : Nat) : List (Int × Int) := (D.take k).flatMap (dayNo b s l)
section
variable {b : Bool} {s : SetP} {l : List SegP} {D : List Int}
theorem dayYes_len (d : Int) : (dayYes b s l d).length ≤ 86401 := by
  unfold dayYes
  split
  · exact paidDay_len d
  · simp
theorem dayNo_len (d : Int) : (dayNo b s l d).length ≤ 86401 := by
  unfold dayNo
  split
  · exact notDay_len d
  · simp
theorem yesK_snoc (k : Nat) (h : k < D.length) : yesK b s l D (k + 1) = yesK b s l D k ++ dayYes b s l (D.getD k 0) := by
  unfold yesK
  rw [takeI_snoc D k h, List.flatMap_append]
  simp
theorem noK_snoc (k : Nat) (h : k < D.length) : noK b s l D (k + 1) = noK b s l D k ++ dayNo b s l (D.getD k 0) := by
  unfold noK
  rw [takeI_snoc D k h, List.flatMap_append]
  simp
theorem yesK_len : ∀ k, k ≤ D.length → (yesK b s l D k).length ≤ k * 86401
  | 0, _ => by simp [yesK]
  | k + 1, h => by
    have := yesK_len k (by omega)
    have := dayYes_len (b := b) (s := s) (l := l) (D.getD k 0)
    rw [yesK_snoc k h, List.length_append]; omega
theorem noK_len : ∀ k, k ≤ D.length → (noK b s l D k).length ≤ k * 86401
  | 0, _ => by simp [noK]
  | k + 1, h => by
    have := noK_len k (by omega)
    have := dayNo_len (b := b) (s := s) (l := l) (D.getD k 0)
    rw [noK_snoc k h, List.length_append]; omega
theorem yesK_fits (k : Nat) : Fits (yesK b s l D k) := fun x hx => by
  obtain ⟨d, _, h⟩ := List.mem_flatMap.1 hx
  exact Fits.of_plain (dyes_plain b s l d) x h
theorem noK_fits (k : Nat) : Fits (noK b s l D k) := fun x hx => by
  obtain ⟨d, _, h⟩ := List.mem_flatMap.1 hx
  exact Fits.of_plain (dno_plain b s l d) x h
theorem yesK_all : canon (In (yesK b s l (daysP (clkS l)) (daysP (clkS l)).length)) = allYes b s l := by
  cases b with
  | true =>
    have e : dayYes true s l = paidDay (clkS l) (rstS l) s.paid s.aft s.brk := funext fun d => if_pos rfl
    unfold yesK
    rw [e]
    exact (paidK_all (C := clkS l) (R := rstS l) (pb := s.paid) (af := s.aft) (ab := s.brk)).trans (if_pos rfl).symm
  | false =>
    refine (canon_none fun t _ _ h => ?_).trans (show [] = allYes false s l from rfl)
    obtain ⟨x, hx, _⟩ := h
    obtain ⟨d, _, hd⟩ := List.mem_flatMap.1 hx
    exact absurd hd (by show ¬ x ∈ []; simp)
theorem noK_all : canon (In (noK b s l (daysP (clkS l)) (daysP (clkS l)).length)) = allNo b s l := by
  cases b with
  | true =>
    have e : dayNo true s l = notDay (clkS l) (rstS l) s.paid s.aft s.brk := funext fun d => if_pos rfl
    unfold noK
    rw [e]
    exact (notK_all (C := clkS l) (R := rstS l) (pb := s.paid) (af := s.aft) (ab := s.brk)).trans (if_pos rfl).symm
  | false =>
    refine (canon_none fun t _ _ h => ?_).trans (show [] = allNo false s l from rfl)
    obtain ⟨x, hx, _⟩ := h
    obtain ⟨d, _, hd⟩ := List.mem_flatMap.1 hx
    exact absurd hd (by show ¬ x ∈ []; simp)
theorem small371 {k n m : Nat} (hk : k ≤ m) (hm : m ≤ 371) (h : n ≤ k * 86401) : n ≤ 32054771 :=
  Nat.le_trans h (Nat.le_trans (Nat.mul_le_mul_right _ (Nat.le_trans hk hm)) (by decide))
end
set_option maxHeartbeats 8000000 in
theorem rpaid15_c {w : World} {s : SetP} {cs : Array Value} (h : SetC w s cs) (hf : s.Fit) (b : Bool) (hb : checkB s = b) (A : Option Addr) (m c : Nat) (l : List SegP) (hs : Segs w A m c l) (hm : m ≤ 1000) (hF : ∀ s ∈ l, Fit s.fr ∧ Fit s.to) :
    Calls Tryz.prog 32 #[.agg cs, .slice A m c] w (Gives2 w (allYes b s l) (allNo b s l)) := by
  have HZ := Lib.hid h.size
  have hb0 := bel_alloc (Below.refl w.heap.size w) (.cells cs 30)
  have HB0 := Lib.hid (Has.new w 30 cs rfl)
  have HS0 := Lib.hid (h.below hb0)
  have HL0 := Lib.hid (hs.below hb0)
  have HCL := Lib.hid (fun W (hW : Segs W A m c l) => rclock_any A m c l W hW (by omega) hF)
  have HOD := Lib.hid (fun W d (hC : SetC W s cs) (hW : Segs W A m c l) => rofday15_c hC hf b hb A m c l hW hm hF d)
  have HNP := Lib.hid (fun W P p (hW : Spans W P (yesK b s l (daysP (clkS l)) (daysP (clkS l)).length)) hl => yesK_all (b := b) (s := s) (l := l) ▸ rnorm_any P p (yesK b s l (daysP (clkS l)) (daysP (clkS l)).length) W hW hl)
  have HNN := Lib.hid (fun W P p (hW : Spans W P (noK b s l (daysP (clkS l)) (daysP (clkS l)).length)) hl => noK_all (b := b) (s := s) (l := l) ▸ rnorm_any P p (noK b s l (daysP (clkS l)) (daysP (clkS l)).length) W hW hl)
  have lX : (clockP l).length ≤ 32054401 := canon_len _
  have FX : Hid (Fits (clockP l)) := Fits.canon _
  have HDY := Lib.hid (fun W D d (hW : Spans W D (clockP l)) => rdays_any D d (clockP l) W hW (by omega))
  unfold clkS at HNP HNN
  have hN := daysP_len (In (clockP l))
  have HPS := Lib.hid (fun k h => yesK_snoc (b := b) (s := s) (l := l) (D := daysP (In (clockP l))) k h)
  have HNS := Lib.hid (fun k h => noK_snoc (b := b) (s := s) (l := l) (D := daysP (In (clockP l))) k h)
  have HPL := Lib.hid (fun k h => small371 h hN (yesK_len (b := b) (s := s) (l := l) (D := daysP (In (clockP l))) k h))
  have HNL := Lib.hid (fun k h => small371 h hN (noK_len (b := b) (s := s) (l := l) (D := daysP (In (clockP l))) k h))
  have HPF := Lib.hid (fun k => yesK_fits (b := b) (s := s) (l := l) (D := daysP (In (clockP l))) k)
  have HNF := Lib.hid (fun k => noK_fits (b := b) (s := s) (l := l) (D := daysP (In (clockP l))) k)
  have HP0 : Hid (yesK b s l (daysP (In (clockP l))) 0 = []) := rfl
  have HN0 : Hid (noK b s l (daysP (In (clockP l))) 0 = []) := rfl
  have HYL := Lib.hid (fun d => dayYes_len (b := b) (s := s) (l := l) d)
  have HQL := Lib.hid (fun d => dayNo_len (b := b) (s := s) (l := l) d)
  generalize yesK b s l (daysP (In (clockP l))) = YP at *
  generalize noK b s l (daysP (In (clockP l))) = YN at *
  have lPA := pl_len (yes_plain b s l)
  generalize allYes b s l = PA at *
  generalize allNo b s l = NA at *
  generalize dayYes b s l = FY at *
  generalize dayNo b s l = FN at *
  generalize daysP (In (clockP l)) = D at *
  generalize clockP l = X at *
  obtain ⟨N, hDN⟩ : ∃ N, D.length = N := ⟨_, rfl⟩
  rw [hDN] at hN HNP HNN HPS HNS HPL HNL
  have HDN := Lib.hid hDN
  clear h hs hf hb hF hDN
  go_enter Tryz.func32, Tryz.ntmps32
  go_wp2_with fail
  refine (HCL.out _ HL0.out).mono ?_
  rintro e w2 ⟨D2, c2, rfl, r2, b2⟩
  have HB2 := Lib.hid (HB0.out.below b2)
  have HS2 := Lib.hid (HS0.out.below b2)
  have HL2 := Lib.hid (HL0.out.below b2)
  have HX2 := Lib.hid (r2.spans FX.out)
  have HW2 := Lib.hid (bel_on hb0 b2)
  clear r2 b2 hb0 HB0 HS0 HL0 HCL
  go_wp2_with fail
  refine (HDY.out _ _ _ HX2.out).mono ?_
  rintro e w3 ⟨A3, c3, rfl, r3, b3⟩
  rw [HDN.out]
  have HB3 := Lib.hid (HB2.out.below b3)
  have HS3 := Lib.hid (HS2.out.below b3)
  have HL3 := Lib.hid (HL2.out.below b3)
  have HD3 := Lib.hid r3
  have HW3 := Lib.hid (bel_on HW2.out b3)
  clear r3 b3 HB2 HS2 HL2 HX2 HW2 HDY
  go_wp2
  go_loopg [7, 8, 9] N (fun kx s7 s8 s9 wr => ∃ (k p q : Nat) (P Q : Option Addr), s7 = .slice P (YP k).length p ∧ s8 = .slice Q (YN k).length q ∧ s9 = .int .i64 k ∧ k + kx = N ∧ Hid (Two2 wr w3.heap.size P p (YP k) Q q (YN k)) ∧ Hid (Below w3.heap.size w3 wr))
  case atStart => exact ⟨0, 0, 0, none, none, by rw [HP0.out]; rfl, by rw [HN0.out]; rfl, rfl, by omega, Lib.hid (by rw [HP0.out, HN0.out]; exact ⟨Row.nil _ _, Row.nil _ _, fun x y h => by cases h⟩), Lib.hid (Below.refl _ _)⟩
  case round =>
    obtain ⟨k, p, q, P, Q, rfl, rfl, rfl, hk, HT, HW⟩ := hrel
    have HBr := Lib.hid (HB3.out.below HW.out)
    have HSr := Lib.hid (HS3.out.below HW.out)
    have HLr := Lib.hid (HL3.out.below HW.out)
    have hyl := HPL.out k (by omega)
    have hyn := HNL.out k (by omega)
    by_cases hlt : k < N
    · have hDr := HD3.out.below HW.out
      obtain ⟨bd, od, rfl, hcd⟩ := hDr.nums k (by have := HDN.out; omega)
      have hbd := cell_lt hcd
      have HPk := Lib.hid (HPS.out k hlt)
      have HNk := Lib.hid (HNS.out k hlt)
      obtain ⟨dk, hdk⟩ : ∃ x, D.getD k 0 = x := ⟨_, rfl⟩
      rw [hdk] at hcd HPk HNk
      have HCD := Lib.hid hcd
      have i0 : (0 : Int) ≤ (k : Int) := by omega
      have i1 : (k : Int) < (N : Int) := by omega
      have h1 := HYL.out dk
      have h2 := HQL.out dk
      clear hDr hcd hdk
      go_wp2_with fail
      refine wp_region_noPanic ?_
      refine wp_region_held_drew (S := fun w' => Below wr.heap.size wr w') (by kernel_rfl) (below_drew (Below.refl _ _)) (fun hHeld => ?_)
      refine wpAnyH_take (i := 0) (oi := ⟨some 22, _, _, _, _, _⟩) (v := .agg cs) rfl (by kernel_rfl) (by kernel_rfl) (by kernel_rfl) (fun _ _ _ h => h) (Or.inl ⟨by rfl, ?_⟩) hHeld ?_
      · intro ww hSw
        (try dsimp only at hSw)
        exact exec_load_sp _ rfl rfl (HBr.out.below hSw) HZ.out
      simp only [Act.put, List.setIfInBounds_toArray, List.set_cons_zero, List.set_cons_succ]
      refine wpAnyH_take (i := 1) (oi := ⟨some 23, _, _, _, _, _⟩) (v := ?_) rfl (by kernel_rfl) (by kernel_rfl) (by kernel_rfl) (fun _ _ _ h => h) (Or.inl ⟨by rfl, ?_⟩) hHeld ?_
      rotate_left
      · intro ww hSw
        (try dsimp only at hSw)
        go_simp
        (try with_reducible rfl)
      simp only [Act.put, List.setIfInBounds_toArray, List.set_cons_zero, List.set_cons_succ]
      refine wpAnyH_take (i := 2) (oi := ⟨some 24, _, _, _, _, _⟩) (v := ?_) rfl (by kernel_rfl) (by kernel_rfl) (by kernel_rfl) (fun _ _ _ h => h) (Or.inl ⟨by rfl, ?_⟩) hHeld ?_
      rotate_left
      · intro ww hSw
        (try dsimp only at hSw)
        go_simp
        (try with_reducible rfl)
      simp only [Act.put, List.setIfInBounds_toArray, List.set_cons_zero, List.set_cons_succ]
      refine wpAnyH_take (i := 3) (oi := ⟨some 25, _, _, _, _, _⟩) (v := ?_) rfl (by kernel_rfl) (by kernel_rfl) (by kernel_rfl) (fun _ _ _ h => h) (Or.inl ⟨by rfl, ?_⟩) hHeld ?_
      rotate_left
      · intro ww hSw
        (try dsimp only at hSw)
        go_simp
        (try with_reducible rfl)
      simp only [Act.put, List.setIfInBounds_toArray, List.set_cons_zero, List.set_cons_succ]
      refine wpAnyH_take (i := 4) (oi := ⟨some 26, _, _, _, _, _⟩) (v := ?_) rfl (by kernel_rfl) (by kernel_rfl) (by kernel_rfl) (fun _ _ _ h => h) (Or.inl ⟨by rfl, ?_⟩) hHeld ?_
      rotate_left
      · intro ww hSw
        (try dsimp only at hSw)
        go_simp
        (try with_reducible rfl)
      simp only [Act.put, List.setIfInBounds_toArray, List.set_cons_zero, List.set_cons_succ]
      refine wpAnyH_take (i := 5) (oi := ⟨some 27, _, _, _, _, _⟩) (v := .int .i64 dk) rfl (by kernel_rfl) (by kernel_rfl) (by kernel_rfl) (fun _ _ _ h => h) (Or.inl ⟨by rfl, ?_⟩) hHeld ?_
      · intro ww hSw
        (try dsimp only at hSw)
        have qc := (hSw.cell (p := ⟨bd, od + k, none⟩) hbd).trans HCD.out
        have qz := cell_lt qc
        go_simp
      simp only [Act.put, List.setIfInBounds_toArray, List.set_cons_zero, List.set_cons_succ]
      refine wpAnyH_ready (rs := [6]) (by kernel_rfl) (by simp) ?_
      refine AllReadyH.cons (o := ⟨some 28, _, _, _, _, _⟩) rfl (fun K hK => ?_) AllReadyH.nil
      go_simp
      go_at_call 72
      refine (HOD.out _ dk (HSr.out.below (below_drew (Below.refl _ _))) (HLr.out.below (below_drew (Below.refl _ _)))).mono ?_
      rintro e_r w5 ⟨A5, c5, B5, d5, rfl, r5, r6, hbn⟩
      have HY5 := Lib.hid (r5.mono (show wr.heap.size ≤ wr.drew.heap.size from Nat.le_refl _))
      have HQ5 := Lib.hid (r6.mono (show wr.heap.size ≤ wr.drew.heap.size from Nat.le_refl _))
      clear r5 r6
      have hbw5 : Below wr.heap.size wr w5 := bel_on (show Below wr.heap.size wr _ by (repeat' (first | with_reducible exact Below.refl _ _ | with_reducible assumption | with_reducible refine bel_alloc ?_ _ | with_reducible refine bel_set ?_ ?_ _ | with_reducible refine below_drewN ?_ _ | with_reducible refine below_drew ?_ | (simp; done) | (simp; omega) | omega))) hbn
      clear hbn
      go_wp2_with fail
      refine hK.out _ _ ?_ (fun hHeld => ?_)
      · (try dsimp only)
        exact hbw5
      clear hK K
      (try simp only [Act.put, List.setIfInBounds_toArray, List.set_cons_zero, List.set_cons_succ])
      refine wpAnyH_take (i := 7) (oi := ⟨some 21, _, _, _, _, _⟩) (v := ?_) rfl (by kernel_rfl) (by kernel_rfl) (by kernel_rfl) (fun _ _ _ h => h) (Or.inl ⟨by rfl, ?_⟩) hHeld ?_
      rotate_left
      · intro ww hSw
        (try dsimp only at hSw)
        go_simp
        (try with_reducible rfl)
      simp only [Act.put, List.setIfInBounds_toArray, List.set_cons_zero, List.set_cons_succ]
      refine wpAnyH_take (i := 8) (oi := ⟨some 29, _, _, _, _, _⟩) (v := ?_) rfl (by kernel_rfl) (by kernel_rfl) (by kernel_rfl) (fun _ _ _ h => h) (Or.inl ⟨by rfl, ?_⟩) hHeld ?_
      rotate_left
      · intro ww hSw
        (try dsimp only at hSw)
        go_simp
        (try with_reducible rfl)
      simp only [Act.put, List.setIfInBounds_toArray, List.set_cons_zero, List.set_cons_succ]
      refine wpAnyH_take (i := 9) (oi := ⟨some 30, _, _, _, _, _⟩) (v := ?_) rfl (by kernel_rfl) (by kernel_rfl) (by kernel_rfl) (fun _ _ _ h => h) (Or.inl ⟨by rfl, ?_⟩) hHeld ?_
      rotate_left
      · intro ww hSw
        (try dsimp only at hSw)
        go_simp
        (try with_reducible rfl)
      simp only [Act.put, List.setIfInBounds_toArray, List.set_cons_zero, List.set_cons_succ]
      refine wpAnyH_take (i := 10) (oi := ⟨some 10, _, _, _, _, _⟩) (v := ?_) rfl (by kernel_rfl) (by kernel_rfl) (by kernel_rfl) (fun _ _ _ h => h) (Or.inl ⟨by rfl, ?_⟩) hHeld ?_
      rotate_left
      · intro ww hSw
        (try dsimp only at hSw)
        go_simp
        (try with_reducible rfl)
      simp only [Act.put, List.setIfInBounds_toArray, List.set_cons_zero, List.set_cons_succ]
      refine wpAnyH_take (i := 11) (oi := ⟨some 11, _, _, _, _, _⟩) (v := ?_) rfl (by kernel_rfl) (by kernel_rfl) (by kernel_rfl) (fun _ _ _ h => h) (Or.inl ⟨by rfl, ?_⟩) hHeld ?_
      rotate_left
      · intro ww hSw
        (try dsimp only at hSw)
        go_simp
        (try with_reducible rfl)
      simp only [Act.put, List.setIfInBounds_toArray, List.set_cons_zero, List.set_cons_succ]
      refine wpAnyH_done (by kernel_rfl) ?_ _
      refine NoPanic.normal ?_
      have T5 := HT.out.below hbw5
      have hz5 : w3.heap.size ≤ w5.heap.size := Nat.le_trans HW.out.size hbw5.size
      obtain ⟨P6, p6, w6, hr6, T6, K6⟩ := T5.push (row_sl HY5.out) (by omega) hz5
      have hN6 := HQ5.out.keep (w' := w6) fun g hg => K6.block _ ⟨(HQ5.out.lt g hg).2, fun x hx => by have e1 := (HT.out.a.lt x hx).2; have e2 := (HQ5.out.lt g hg).1; omega⟩
      obtain ⟨N7, q7, w7, hr7, T7, K7⟩ := T6.turn.push (row_sl hN6) (by omega) (Nat.le_trans hz5 K6.size)
      rw [← List.length_append, ← HPk.out] at hr6
      rw [← List.length_append, ← HNk.out] at hr7
      have T8 := T7.turn
      rw [← HPk.out, ← HNk.out] at T8
      have HW8 := Lib.hid ((bel_on HW.out hbw5).trans ((K6.below (B := w3.heap.size) fun i hi => ⟨by omega, fun x hx => by have := (T5.a.lt x hx).1; omega⟩).trans (K7.below (B := w3.heap.size) fun i hi => ⟨by have := K6.size; omega, fun x hx => by have := (T6.b.lt x hx).1; omega⟩)))
      have HT8 := Lib.hid T8
      have HR6 := Lib.hid hr6
      have HR7 := Lib.hid hr7
      clear T5 hz5 hr6 T6 K6 hN6 hr7 T7 K7 T8 HT HW HBr HSr HLr HY5 HQ5 hbw5 HPk HNk h1 h2
      go_wp2_with (first | (at_builtin; refine wpList_append_run (o := ⟨some 33, _, _, _, _, _⟩) HR6.out rfl rfl rfl rfl ?_) | (at_builtin; refine wpList_append_run (o := ⟨some 36, _, _, _, _, _⟩) HR7.out rfl rfl rfl rfl ?_))
      go_roundg (N - (k + 1))
      case measure => omega
      case rel => exact ⟨k + 1, p6, q7, P6, N7, rfl, rfl, by go_num, by omega, HT8, HW8⟩
    · obtain rfl : k = N := by omega
      have HWR := Lib.hid (bel_on HW3.out HW.out)
      have HSP := Lib.hid (HT.out.a.spans (HPF.out k))
      have HSN := Lib.hid (HT.out.b.spans (HNF.out k))
      clear HT HW HBr HSr HLr
      go_wp2_with fail
      refine (HNP.out _ _ _ HSP.out (by omega)).mono ?_
      rintro e w6 ⟨A6, c6, rfl, r6, b6⟩
      have HSN6 := Lib.hid (HSN.out.below b6)
      have HR6 := Lib.hid (r6.mono (show w.heap.size ≤ wr.heap.size from HWR.out.size))
      have HW6 := Lib.hid (bel_on HWR.out b6)
      clear r6 b6 HSN HSP HWR
      go_wp2_with fail
      refine (HNN.out _ _ _ HSN6.out (by omega)).mono ?_
      rintro e w7 ⟨A7, c7, rfl, r7, b7⟩
      have HR7 := Lib.hid (HR6.out.below b7)
      have HQ7 := Lib.hid (r7.mono (show w.heap.size ≤ w6.heap.size from HW6.out.size))
      have HW7 := Lib.hid (bel_on HW6.out b7)
      clear r7 b7
      go_wp2
      refine bodyPost_ret (v := .tuple #[.slice A6 PA.length c6, .slice A7 NA.length c7]) (by simp [results, Tryz.results32, go_sem]) rfl ⟨A6, c6, A7, c7, rfl, HR7.out, HQ7.out, HW7.out⟩
end Go.Proofs.YtdlimgpmmkcgmaaGreat
