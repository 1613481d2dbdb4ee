/-
  FixesTurn: two corrections of unlike events do not hang on which is first.
-/
import Derived.Test.YtedkhjbnjkcemaaFixPq
namespace Go.Proofs.Ytedkhjbnjkcemaa
open Go.RowKit
set_option linter.unusedVariables false
set_option linter.unusedSimpArgs false
set_option maxRecDepth 100000

set_option maxHeartbeats 8000000 in
theorem fixesTurn_main (s : SetP) (cs : Array Value) (w : World) (hW : SetF w s cs) (A : Option Addr) (n c : Nat) (l : List EvP) (h1 : Evs w A n c l) (hl : ∀ e ∈ l, e.In) (hnc : n ≤ c ∧ c ≤ 9223372036854775807) (k : Int) (x : EvP) (hx : x.In) (m : Int) (y : EvP) (hy : y.In) (b : Bool) (hb : decide (s.Few ∧ n ≤ 100) = b) :
    Calls Try.prog 5 #[.agg cs, .slice A n c, .agg (fixC k x), .agg (fixC m y)] w fun e w' => e = .returned (.bool true) ∧ Below w.heap.size w w' := by
  have HZ := Lib.hid hW.size
  have HC0 := Lib.hid ((cx_start (fx := fixC k x) h1 hW 30 35).alloc (.cells (fixC m y) 35))
  have HG0 : Hid (Has (((w.alloc (.cells cs 30)).alloc (.cells (fixC k x) 35)).alloc (.cells (fixC m y) 35)) (w.heap.size + 2) (fixC m y)) := Lib.hid (Has.new _ _ _ (by simp))
  have HNC := Lib.hid hnc
  have HI := Lib.hid hx
  have HJ := Lib.hid hy
  have HLI := Lib.hid hl
  obtain ⟨fx, hfx⟩ : ∃ fx, fixC k x = fx := ⟨_, rfl⟩
  obtain ⟨gy, hgy⟩ : ∃ gy, fixC m y = gy := ⟨_, rfl⟩
  have HZF : Hid (fx.size = 12) := Lib.hid (by rw [← hfx]; rfl)
  have HZG : Hid (gy.size = 12) := Lib.hid (by rw [← hgy]; rfl)
  have HF1 : Hid (fx[1]? = some (.int .i64 x.id)) := Lib.hid (by rw [← hfx]; rfl)
  have HG1 : Hid (gy[1]? = some (.int .i64 y.id)) := Lib.hid (by rw [← hgy]; rfl)
  rw [hfx] at HC0 HG0 ⊢
  rw [hgy] at HC0 HG0 ⊢
  have HFX := Lib.hid hfx
  have HGY := Lib.hid hgy
  have HBB := Lib.hid hb
  have HL := Lib.hid h1.2
  clear hW h1 hnc hx hl hfx hb hy hgy
  go_enter Try.func5, Try.ntmps5
  go_wp2_with fail
  obtain ⟨w0, hw0⟩ : ∃ w0, ((w.alloc (.cells cs 30)).alloc (.cells fx 35)).alloc (.cells gy 35) = w0 := ⟨_, rfl⟩
  rw [hw0] at HC0 HG0 ⊢
  clear hw0
  refine (awake13 _).mono ?_
  rintro e w1 ⟨rfl, hb1⟩
  have HC1 := Lib.hid (HC0.out.below hb1)
  have HG1' := Lib.hid (HG0.out.below hb1)
  clear HC0 HG0 hb1
  go_wp2_with (refine wpList_exec (o := ⟨some 23, _, _, _, _, _⟩) (by rfl) (exec_load_st _ rfl rfl HC1.out.sc HZ.out) ?_)
  refine (few13 s cs _ HC1.out.st A n c b HBB.out).mono ?_
  rintro e w2 ⟨rfl, hb2⟩
  have HC := Lib.hid (HC1.out.below hb2)
  have HG := Lib.hid (HG1'.out.below hb2)
  clear HC1 HG1' hb2
  cases b with
  | false =>
    have HE := Lib.hid HC.out.b
    clear HC HG HBB
    go_wp2
    go_ret
    exact ⟨rfl, HE.out⟩
  | true =>
    obtain ⟨hfew, hn⟩ := of_decide_eq_true HBB.out
    clear hfew HBB
    have q1 := HC.out.fc.cell 1 HF1.out
    have q2 := HG.out.cell 1 HG1.out
    have q1z := cell_lt q1
    have q2z := cell_lt q2
    have hn' : (n : Int) < 9223372036854775807 := by omega
    obtain ⟨xi, hxi⟩ : ∃ xi, Hid (x.id = xi) := ⟨_, rfl⟩
    obtain ⟨yi, hyi⟩ : ∃ yi, Hid (y.id = yi) := ⟨_, rfl⟩
    rw [hxi.out] at q1
    rw [hyi.out] at q2
    by_cases hxy : xi = yi
    · have HE := Lib.hid HC.out.b
      have hxy' : (xi == yi) = true := by simpa using hxy
      clear HC HG HF1 HG1 hxy
      go_wp2
      go_ret
      exact ⟨rfl, HE.out⟩
    · have hxy' : (xi == yi) = false := beq_eq_false_iff_ne.2 hxy
      have HXY : Hid (x.id ≠ y.id) := by show _ ≠ _; rw [hxi.out, hyi.out]; exact hxy
      clear hxy HF1 HG1
      go_wp2
      clear q1 q2 q1z q2z hxy'
      obtain ⟨lo0, hlo0⟩ : ∃ lo0 : Nat, Hid (w2.heap.size = lo0) := ⟨_, rfl⟩
      have HLN := Lib.hid HC.out.ev.2
      go_loopg [10, 11] n (fun kx s8 s9 wr => ∃ (k q d : Nat) (B : Option Addr), s8 = .slice B q d ∧ s9 = .int .i64 k ∧ k + kx = n ∧ q ≤ k ∧ Hid ((dedE (l.take k)).length = q) ∧ Hid (ERow wr w2.heap.size B q d (dedE (l.take k))) ∧ Hid (Below w2.heap.size w2 wr))
      case atStart => exact ⟨0, 0, 0, none, rfl, rfl, by omega, by omega, Lib.hid rfl, Lib.hid (by rw [List.take_zero]; exact TRow.nil _ _), Lib.hid (Below.refl _ _)⟩
      case round =>
        obtain ⟨p, q, d, B, rfl, rfl, hk, hqk, HQL, HR, HW3⟩ := hrel
        by_cases hlt : p < n
        · have HLr := Lib.hid (HC.out.ev.below HW3.out)
          obtain ⟨ba, oa, rfl⟩ := HLr.out.form (by omega)
          obtain ⟨z, hz⟩ : ∃ z, l.getD p EvP.none = z := ⟨_, rfl⟩
          obtain ⟨z0, -⟩ := evs_num HLr.out hlt z hz
          have zl := cell_lt z0
          have HTK : Hid (l.take (p + 1) = l.take p ++ [z]) := by show _ = _; rw [← hz]; exact take_snoc_e (by rw [HLN.out]; exact hlt)
          have i0 : (0 : Int) ≤ (p : Int) := by omega
          have i1 : (p : Int) < (n : Int) := by omega
          obtain ⟨zi, hzi⟩ : ∃ zi, Hid (z.id = zi) := ⟨_, rfl⟩
          rw [hzi.out] at z0
          have HF := Lib.hid (find_any B q d (dedE (l.take p)) zi wr (HR.out.evs HQL.out) (by omega))
          obtain ⟨fe, hfe⟩ : ∃ fe, findE (dedE (l.take p)) zi = fe := ⟨_, rfl⟩
          rw [hfe] at HF
          have HZZ := Lib.hid hz
          clear hz hfe
          go_wp2_with fail
          refine HF.out.mono ?_
          rintro e w4 ⟨rfl, hb4⟩
          clear HF
          have hb4' := bel_on hb4 (bel_alloc (Below.refl w4.heap.size w4) (.cells (evC fe) 33))
          have HW5 := Lib.hid (bel_on HW3.out hb4')
          have HR5 := Lib.hid (HR.out.below hb4')
          clear hb4 hb4' z0 zl
          cases hin : (ixE (dedE (l.take p)) zi).isSome with
          | true =>
            have HE1 : Hid (dedE (l.take (p + 1)) = dedE (l.take p)) := by
              show _ = _
              rw [HTK.out, dedE_snoc]
              unfold dedS
              rw [hzi.out, if_pos hin]
            clear hin
            go_wp2_with (first | refine wpList_laid_e (evC fe) 12 _ _ rfl rfl rfl rfl rfl rfl rfl rfl rfl (evC_one _) ?_ | fail)
            go_roundg (n - (p + 1))
            case measure => omega
            case rel => exact ⟨p + 1, q, d, B, rfl, by go_num, by omega, by omega, Lib.hid (by rw [HE1.out]; exact HQL.out), Lib.hid (by rw [HE1.out]; exact HR5.out), HW5⟩
          | false =>
            have HE1 : Hid (dedE (l.take (p + 1)) = dedE (l.take p) ++ [z]) := by
              show _ = _
              rw [HTK.out, dedE_snoc]
              unfold dedS
              rw [hzi.out, if_neg (by rw [hin]; simp)]
            clear hin
            obtain ⟨w5, hw5⟩ : ∃ w5, w4.alloc (.cells (evC fe) 33) = w5 := ⟨_, rfl⟩
            rw [hw5] at HW5 HR5
            have HLD := Lib.hid (evs_load (HC.out.ev.below HW5.out) (i := p) hlt)
            rw [HZZ.out] at HLD
            obtain ⟨A9, c9, w9, hr9, row9, bel9, keep9⟩ := erow_append (HR5.out.alloc (.cells (evC z) 33)) (evs_one w5 z) (show q + 1 ≤ 100000 by omega) (bel_alloc HW5.out _).size (k := q + 1) rfl
            have HR9 := Lib.hid hr9
            have HW9 := Lib.hid (bel9 w2 (Nat.le_refl _) (bel_alloc HW5.out _))
            have HRW9 := Lib.hid row9
            clear hr9 row9 bel9 keep9
            go_upto_region 9 with (first | refine wpList_laid_e (evC fe) 12 _ _ rfl rfl rfl rfl rfl rfl rfl rfl rfl (evC_one _) ?_ | fail)
            clear hw5
            go_wp2_with (first | refine wpList_exec (o := ⟨some 59, _, _, _, _, _⟩) rfl (exec_load_at _ rfl rfl HLD.out) ?_ | refine wpList_build_e (o := ⟨some 60, _, _, _, _, _⟩) rfl z rfl rfl ?_ | (at_builtin; refine wpList_append_run (o := ⟨some 61, _, _, _, _, _⟩) HR9.out rfl rfl rfl rfl ?_))
            go_roundg (n - (p + 1))
            case measure => omega
            case rel => exact ⟨p + 1, q + 1, c9, A9, rfl, by go_num, by omega, by omega, Lib.hid (by rw [HE1.out, List.length_append, HQL.out]; rfl), Lib.hid (by rw [HE1.out]; exact HRW9.out), HW9⟩
        · obtain rfl : p = n := by omega
          have eT : l.take p = l := by rw [← HLN.out]; exact List.take_length
          rw [eT] at HQL HR
          have HCD := Lib.hid (erow_caps HR.out)
          have HPE := Lib.hid (HR.out.evs HQL.out)
          have hb3 := HW3.out
          have HC3 := Lib.hid (HC.out.below hb3)
          have HG3 := Lib.hid (HG.out.below hb3)
          have HQ100 : Hid (q ≤ 101) := Lib.hid (by omega)
          clear HC HG HR HW3 eT hb3 HLN
          obtain ⟨D, hD⟩ : ∃ D, dedE l = D := ⟨_, rfl⟩
          have HU : Hid (UniE D) := Lib.hid (by rw [← hD]; exact dedE_uni l)
          rw [hD] at HPE HQL
          clear hD
          have HP := Lib.hid (apply_any HC3.out.st.q B q d D k x wr HPE.out HCD.out (by have := HQ100.out; omega) HI.out (mayS s x) rfl)
          rw [HFX.out] at HP
          obtain ⟨R, hR⟩ : ∃ R, applyE (mayS s x) D k x = R := ⟨_, rfl⟩
          rw [hR] at HP
          have HR := Lib.hid hR
          have HLEN : Hid (R.1.length ≤ 102) := Lib.hid (by
            have h1 := applyE_len (mayS s x) D k x
            rw [hR, HQL.out] at h1
            have := HQ100.out
            omega)
          clear hR
          go_wp2_with (first | refine wpList_exec (o := ⟨some 63, _, _, _, _, _⟩) (by rfl) (exec_load_st _ rfl rfl HC3.out.sc HZ.out) ?_ | refine wpList_exec (o := ⟨some 65, _, _, _, _, _⟩) (by rfl) (exec_load_fx _ rfl rfl HC3.out.fc HZF.out) ?_ | fail)
          refine HP.out.mono ?_
          rintro e w4 ⟨A1, n1, c1, rfl, he1, hc1, hd1, hb4⟩
          have HA4 := Lib.hid he1
          have HCA := Lib.hid (And.intro hc1 hd1)
          have HPE4 := Lib.hid (HPE.out.below hb4)
          have HC4 := Lib.hid (HC3.out.below hb4)
          have HG4 := Lib.hid (HG3.out.below hb4)
          clear HP he1 HC3 HG3 HPE hb4 hc1 hd1
          have HP := Lib.hid (apply_any HC4.out.st.q B q d D m y w4 HPE4.out HCD.out (by have := HQ100.out; omega) HJ.out (mayS s y) rfl)
          rw [HGY.out] at HP
          obtain ⟨T, hT⟩ : ∃ T, applyE (mayS s y) D m y = T := ⟨_, rfl⟩
          rw [hT] at HP
          have HT := Lib.hid hT
          have HLET : Hid (T.1.length ≤ 102) := Lib.hid (by
            have h1 := applyE_len (mayS s y) D m y
            rw [hT, HQL.out] at h1
            have := HQ100.out
            omega)
          clear hT
          go_wp2_with (first | refine wpList_exec (o := ⟨some 70, _, _, _, _, _⟩) (by rfl) (exec_load_st _ rfl rfl HC4.out.sc HZ.out) ?_ | refine wpList_exec (o := ⟨some 72, _, _, _, _, _⟩) (by rfl) (exec_load_fx _ rfl rfl HG4.out HZG.out) ?_ | fail)
          refine HP.out.mono ?_
          rintro e w5 ⟨A2, n2, c2, rfl, he2, hc2, hd2, hb5⟩
          have HB5 := Lib.hid he2
          have HCB := Lib.hid (And.intro hc2 hd2)
          have HA5 := Lib.hid (HA4.out.below hb5)
          have HC5 := Lib.hid (HC4.out.below hb5)
          have HG5 := Lib.hid (HG4.out.below hb5)
          have HN1 := Lib.hid HA4.out.2
          have HN2 := Lib.hid he2.2
          clear HP he2 HC4 HG4 HA4 HPE4 hb5 hc2 hd2
          obtain ⟨r1, hr1⟩ : ∃ r1, Hid (R.2 = r1) := ⟨_, rfl⟩
          obtain ⟨r2, hr2⟩ : ∃ r2, Hid (T.2 = r2) := ⟨_, rfl⟩
          rw [hr1.out, hr2.out]
          by_cases g1 : r1 = 0
          · by_cases g2 : r2 = 0
            · subst g1 g2
              obtain ⟨t1, t2, t3⟩ := turn_same HU.out HXY.out (show (applyE (mayS s x) D k x).2 = 0 by rw [HR.out]; exact hr1.out) (show (applyE (mayS s y) D m y).2 = 0 by rw [HT.out]; exact hr2.out)
              rw [HR.out] at t1 t3
              rw [HT.out] at t2 t3
              have H1 := Lib.hid t1
              have H2 := Lib.hid t2
              have H3 := Lib.hid t3
              clear t1 t2 t3
              have HP := Lib.hid (apply_any HC5.out.st.q A1 n1 c1 R.1 m y w5 HA5.out HCA.out (by have := HLEN.out; have := HN1.out; omega) HJ.out (mayS s y) rfl)
              rw [HGY.out] at HP
              have HL6 : Hid ((applyE (mayS s y) R.1 m y).1.length ≤ 103) := Lib.hid (by
                have h1 := applyE_len (mayS s y) R.1 m y
                have := HLEN.out
                omega)
              obtain ⟨P, hP⟩ : ∃ P, applyE (mayS s y) R.1 m y = P := ⟨_, rfl⟩
              rw [hP] at HP H1 H3 HL6
              clear hP
              go_wp2_with (first | refine wpList_exec (o := ⟨some 102, _, _, _, _, _⟩) (by rfl) (exec_load_st _ rfl rfl HC5.out.sc HZ.out) ?_ | refine wpList_exec (o := ⟨some 104, _, _, _, _, _⟩) (by rfl) (exec_load_fx _ rfl rfl HG5.out HZG.out) ?_ | fail)
              refine HP.out.mono ?_
              rintro e w6 ⟨A3, n3, c3, rfl, he3, hc3, hd3, hb6⟩
              have HA6 := Lib.hid he3
              have HB6 := Lib.hid (HB5.out.below hb6)
              have HC6 := Lib.hid (HC5.out.below hb6)
              clear HP he3 HC5 HG5 HA5 HB5 hb6 hc3 hd3
              have HP := Lib.hid (apply_any HC6.out.st.q A2 n2 c2 T.1 k x w6 HB6.out HCB.out (by have := HLET.out; have := HN2.out; omega) HI.out (mayS s x) rfl)
              rw [HFX.out] at HP
              have HL7 : Hid ((applyE (mayS s x) T.1 k x).1.length ≤ 103) := Lib.hid (by
                have h1 := applyE_len (mayS s x) T.1 k x
                have := HLET.out
                omega)
              obtain ⟨Q, hQ⟩ : ∃ Q, applyE (mayS s x) T.1 k x = Q := ⟨_, rfl⟩
              rw [hQ] at HP H2 H3 HL7
              clear hQ
              go_wp2_with (first | refine wpList_exec (o := ⟨some 109, _, _, _, _, _⟩) (by rfl) (exec_load_st _ rfl rfl HC6.out.sc HZ.out) ?_ | refine wpList_exec (o := ⟨some 111, _, _, _, _, _⟩) (by rfl) (exec_load_fx _ rfl rfl HC6.out.fc HZF.out) ?_ | fail)
              refine HP.out.mono ?_
              rintro e w7 ⟨A4, n4, c4, rfl, he4, hc4, hd4, hb7⟩
              have HB7 := Lib.hid he4
              have HA7 := Lib.hid (HA6.out.below hb7)
              have HE := Lib.hid (bel_on HC6.out.b hb7)
              clear HP he4 HC6 HA6 HB6 hb7 hc4 hd4
              rw [H1.out, H2.out]
              have HS := Lib.hid (rsame_any A3 A4 n3 n4 c3 c4 _ _ w7 HA7.out HB7.out (by have := HA7.out.2; have := HL6.out; omega) (by have := HB7.out.2; have := HL7.out; omega) true (by rw [H3.out]; exact decide_eq_true rfl))
              clear HA7 HB7
              go_wp2_with fail
              refine HS.out.mono ?_
              rintro e w8 ⟨rfl, hb8⟩
              have HE8 := Lib.hid (bel_on HE.out hb8)
              clear HS HE hb8
              go_wp2
              go_ret
              exact ⟨rfl, HE8.out⟩
            · subst g1
              have g2' : (r2 == 0) = false := beq_eq_false_iff_ne.2 g2
              have g2'' : (r2 != 0) = true := by simpa using g2
              have hn2 : n2 = 0 := by rw [← HN2.out, apply_bad HT.out (by rw [hr2.out]; exact g2)]; rfl
              subst hn2
              have HE := Lib.hid HC5.out.b
              clear HC5 HG5 HA5 HB5 g2 HN2 HT
              go_wp2
              go_ret
              exact ⟨rfl, HE.out⟩
          · have g1' : (r1 == 0) = false := beq_eq_false_iff_ne.2 g1
            have g1'' : (r1 != 0) = true := by simpa using g1
            have hn1 : n1 = 0 := by rw [← HN1.out, apply_bad HR.out (by rw [hr1.out]; exact g1)]; rfl
            subst hn1
            have HE := Lib.hid HC5.out.b
            clear HC5 HG5 HA5 HB5 g1 HN1 HR
            go_wp2
            go_ret
            exact ⟨rfl, HE.out⟩
theorem fixesTurn_walk (s : SetP) (A1 A2 A3 A4 A5 A6 : Option Addr) (c1 c2 c3 c4 c5 c6 : Nat) (a1 : Option Addr) (len1 cap1 : Nat) (z1 : List EvP) (k : Int) (x : EvP) (m : Int) (y : EvP) (w : World) (hs : SetAt w s A1 A2 A3 A4 A5 A6 c1 c2 c3 c4 c5 c6) (hf : s.Fit)
    (s1 : Evs w a1 len1 cap1 z1) (i1 : ∀ e ∈ z1, e.In) (l1 : len1 ≤ cap1) (l1' : cap1 ≤ 9223372036854775807) (hk : -9223372036854775808 ≤ k ∧ k ≤ 9223372036854775807) (hx : x.In) (hm : -9223372036854775808 ≤ m ∧ m ≤ 9223372036854775807) (hy : y.In) :
    Calls Try.prog 5 #[setV s A1 A2 A3 A4 A5 A6 c1 c2 c3 c4 c5 c6, .slice a1 len1 cap1, .agg (fixC k x), .agg (fixC m y)] w fun e w' => e = .returned (.bool true) ∧ Below w.heap.size w w' := by
  obtain ⟨cs, hcs⟩ : ∃ cs, setV s A1 A2 A3 A4 A5 A6 c1 c2 c3 c4 c5 c6 = .agg cs := ⟨_, rfl⟩
  have hW := setF_of hcs hs hf
  rw [hcs]
  exact fixesTurn_main s cs w hW a1 len1 cap1 z1 s1 i1 ⟨l1, l1'⟩ k x hx m y hy _ rfl
end Go.Proofs.Ytedkhjbnjkcemaa
