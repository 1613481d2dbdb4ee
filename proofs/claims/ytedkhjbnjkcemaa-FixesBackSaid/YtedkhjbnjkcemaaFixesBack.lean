/-
  FixesBack: an event that was put in and is taken out, and one that was changed and is changed back, leave the events as they were.
-/
import Derived.Test.YtedkhjbnjkcemaaFixPq
namespace Go.Proofs.Ytedkhjbnjkcemaa
open Go.RowKit
set_option linter.unusedVariables false
set_option linter.unusedSimpArgs false
set_option maxRecDepth 100000

theorem built_fix (k : Int) (x : EvP) : Try.prog.built 35 [(0, .int .i64 k), (1, .agg (evC x))] = some (fixC k x) := by
  obtain ⟨b1, b2, b3, b4, b5, b6, b7, b8, b9, b10, b11⟩ := x
  kernel_rfl
theorem built_ev (i : Int) : Try.prog.built 33 [(0, .int .i64 i)] = some (evC { EvP.none with id := i }) := by kernel_rfl
theorem wpList_build_fx {ops : Array Oper} {rest : List Oper} {o : Oper} {a : Act} {w : World} {Q : Exit → Act → World → Prop} {p1 p2 : Operand} {k : Int} {x : EvP} (hgd : o.guard = none)
    (ho : o.op = .build 35 #[(0, p1), (1, p2)]) (h1 : a.eval p1 = .int .i64 k) (h2 : a.eval p2 = .agg (evC x))
    (h : wpList Try.prog ops Q rest (a.put o.dst (.agg (fixC k x))) w) : wpList Try.prog ops Q (o :: rest) a w := by
  refine wpList_plain hgd fun K hK => ?_
  have hc : Try.prog.built 35 ((#[(0, p1), (1, p2)] : Array (Nat × Operand)).map fun (i, x) => (i, a.eval x)).toList = some (fixC k x) := by
    simp only [List.map_toArray, List.map_cons, List.map_nil, h1, h2]
    exact built_fix k x
  refine wp_build _ _ ho (by rw [hc]; rfl) ?_
  rw [hc]
  exact hK _ _ h
theorem wpList_build_ev {ops : Array Oper} {rest : List Oper} {o : Oper} {a : Act} {w : World} {Q : Exit → Act → World → Prop} {p1 : Operand} {i : Int} (hgd : o.guard = none)
    (ho : o.op = .build 33 #[(0, p1)]) (h1 : a.eval p1 = .int .i64 i)
    (h : wpList Try.prog ops Q rest (a.put o.dst (.agg (evC { EvP.none with id := i }))) w) : wpList Try.prog ops Q (o :: rest) a w := by
  refine wpList_plain hgd fun K hK => ?_
  have hc : Try.prog.built 33 ((#[(0, p1)] : Array (Nat × Operand)).map fun (i, x) => (i, a.eval x)).toList = some (evC { EvP.none with id := i }) := by
    simp only [List.map_toArray, List.map_cons, List.map_nil, h1]
    exact built_ev i
  refine wp_build _ _ ho (by rw [hc]; rfl) ?_
  rw [hc]
  exact hK _ _ h
theorem id_in {x : EvP} (h : x.In) : ({ EvP.none with id := x.id } : EvP).In := by
  constructor <;> first | exact h.id | (simp [EvP.none])
theorem apply_not {l : List EvP} {k : Int} {x : EvP} (hk : k = 1 ∨ k = 3) : applyE false l k x = ([], 80) := by rcases hk with rfl | rfl <;> simp [applyE]
set_option maxHeartbeats 8000000 in
theorem fixesBack_main (s : SetP) (cs : Array Value) (w : World) (hW : SetF w s cs) (A : Option Addr) (n c : Nat) (l : List EvP) (h1 : Evs w A n c l) (hl : ∀ e ∈ l, e.In) (hnc : n ≤ c ∧ c ≤ 9223372036854775807) (x : EvP) (hx : x.In) (b : Bool) (hb : decide (s.Few ∧ n ≤ 100) = b) :
    Calls Try.prog 4 #[.agg cs, .slice A n c, .agg (evC x)] w fun e w' => e = .returned (.bool true) ∧ Below w.heap.size w w' := by
  have HZ := Lib.hid hW.size
  have HC0 := Lib.hid (cx_start (fx := evC x) h1 hW 30 33)
  have HNC := Lib.hid hnc
  have HI := Lib.hid hx
  have HLI := Lib.hid hl
  have HBB := Lib.hid hb
  have HL := Lib.hid h1.2
  clear hW h1 hnc hx hl hb
  obtain ⟨ce, hce⟩ : ∃ ce, evC x = ce := ⟨_, rfl⟩
  rw [hce] at HC0 ⊢
  have HCE := Lib.hid hce
  have HX1 : Hid (ce[0]? = some (.int .i64 x.id)) := Lib.hid (by rw [← hce]; rfl)
  have HZF : Hid (ce.size = 11) := Lib.hid (by rw [← hce]; rfl)
  clear hce
  go_enter Try.func4, Try.ntmps4
  go_wp2_with fail
  obtain ⟨w0, hw0⟩ : ∃ w0, (w.alloc (.cells cs 30)).alloc (.cells ce 33) = w0 := ⟨_, rfl⟩
  rw [hw0] at HC0 ⊢
  clear hw0
  refine (awake13 _).mono ?_
  rintro e w1 ⟨rfl, hb1⟩
  have HC1 := Lib.hid (HC0.out.below hb1)
  clear HC0 hb1
  go_wp2_with (refine wpList_exec (o := ⟨some 24, _, _, _, _, _⟩) (by rfl) (exec_load_st _ rfl rfl HC1.out.sc HZ.out) ?_)
  refine (few13 s cs _ HC1.out.st A n c b HBB.out).mono ?_
  rintro e w2 ⟨rfl, hb2⟩
  have HC := Lib.hid (HC1.out.below hb2)
  clear HC1 hb2
  cases b with
  | false =>
    have HE := Lib.hid HC.out.b
    clear HC HBB
    go_wp2
    go_ret
    exact ⟨rfl, HE.out⟩
  | true =>
    obtain ⟨hfew, hn⟩ := of_decide_eq_true HBB.out
    clear hfew HBB
    have hn' : (n : Int) < 9223372036854775807 := by omega
    go_wp2
    obtain ⟨lo0, hlo0⟩ : ∃ lo0 : Nat, Hid (w2.heap.size = lo0) := ⟨_, rfl⟩
    have HLN := Lib.hid HC.out.ev.2
    go_loopg [8, 9] n (fun kx s8 s9 wr => ∃ (k q d : Nat) (B : Option Addr), s8 = .slice B q d ∧ s9 = .int .i64 k ∧ k + kx = n ∧ q ≤ k ∧ Hid ((dedE (l.take k)).length = q) ∧ Hid (ERow wr w2.heap.size B q d (dedE (l.take k))) ∧ Hid (Below w2.heap.size w2 wr))
    case atStart => exact ⟨0, 0, 0, none, rfl, rfl, by omega, by omega, Lib.hid rfl, Lib.hid (by rw [List.take_zero]; exact TRow.nil _ _), Lib.hid (Below.refl _ _)⟩
    case round =>
      obtain ⟨p, q, d, B, rfl, rfl, hk, hqk, HQL, HR, HW3⟩ := hrel
      by_cases hlt : p < n
      · have HLr := Lib.hid (HC.out.ev.below HW3.out)
        obtain ⟨ba, oa, rfl⟩ := HLr.out.form (by omega)
        obtain ⟨z, hz⟩ : ∃ z, l.getD p EvP.none = z := ⟨_, rfl⟩
        obtain ⟨z0, -⟩ := evs_num HLr.out hlt z hz
        have zl := cell_lt z0
        have HTK : Hid (l.take (p + 1) = l.take p ++ [z]) := by show _ = _; rw [← hz]; exact take_snoc_e (by rw [HLN.out]; exact hlt)
        have i0 : (0 : Int) ≤ (p : Int) := by omega
        have i1 : (p : Int) < (n : Int) := by omega
        obtain ⟨zi, hzi⟩ : ∃ zi, Hid (z.id = zi) := ⟨_, rfl⟩
        rw [hzi.out] at z0
        have HF := Lib.hid (find_any B q d (dedE (l.take p)) zi wr (HR.out.evs HQL.out) (by omega))
        obtain ⟨fe, hfe⟩ : ∃ fe, findE (dedE (l.take p)) zi = fe := ⟨_, rfl⟩
        rw [hfe] at HF
        have HZZ := Lib.hid hz
        clear hz hfe
        go_wp2_with fail
        refine HF.out.mono ?_
        rintro e w4 ⟨rfl, hb4⟩
        clear HF
        have hb4' := bel_on hb4 (bel_alloc (Below.refl w4.heap.size w4) (.cells (evC fe) 33))
        have HW5 := Lib.hid (bel_on HW3.out hb4')
        have HR5 := Lib.hid (HR.out.below hb4')
        clear hb4 hb4' z0 zl
        cases hin : (ixE (dedE (l.take p)) zi).isSome with
        | true =>
          have HE1 : Hid (dedE (l.take (p + 1)) = dedE (l.take p)) := by
            show _ = _
            rw [HTK.out, dedE_snoc]
            unfold dedS
            rw [hzi.out, if_pos hin]
          clear hin
          go_wp2_with (first | refine wpList_laid_e (evC fe) 10 _ _ rfl rfl rfl rfl rfl rfl rfl rfl rfl (evC_one _) ?_ | fail)
          go_roundg (n - (p + 1))
          case measure => omega
          case rel => exact ⟨p + 1, q, d, B, rfl, by go_num, by omega, by omega, Lib.hid (by rw [HE1.out]; exact HQL.out), Lib.hid (by rw [HE1.out]; exact HR5.out), HW5⟩
        | false =>
          have HE1 : Hid (dedE (l.take (p + 1)) = dedE (l.take p) ++ [z]) := by
            show _ = _
            rw [HTK.out, dedE_snoc]
            unfold dedS
            rw [hzi.out, if_neg (by rw [hin]; simp)]
          clear hin
          obtain ⟨w5, hw5⟩ : ∃ w5, w4.alloc (.cells (evC fe) 33) = w5 := ⟨_, rfl⟩
          rw [hw5] at HW5 HR5
          have HLD := Lib.hid (evs_load (HC.out.ev.below HW5.out) (i := p) hlt)
          rw [HZZ.out] at HLD
          obtain ⟨A9, c9, w9, hr9, row9, bel9, keep9⟩ := erow_append (HR5.out.alloc (.cells (evC z) 33)) (evs_one w5 z) (show q + 1 ≤ 100000 by omega) (bel_alloc HW5.out _).size (k := q + 1) rfl
          have HR9 := Lib.hid hr9
          have HW9 := Lib.hid (bel9 w2 (Nat.le_refl _) (bel_alloc HW5.out _))
          have HRW9 := Lib.hid row9
          clear hr9 row9 bel9 keep9
          go_upto_region 9 with (first | refine wpList_laid_e (evC fe) 10 _ _ rfl rfl rfl rfl rfl rfl rfl rfl rfl (evC_one _) ?_ | fail)
          clear hw5
          go_wp2_with (first | refine wpList_exec (o := ⟨some 51, _, _, _, _, _⟩) rfl (exec_load_at _ rfl rfl HLD.out) ?_ | refine wpList_build_e (o := ⟨some 52, _, _, _, _, _⟩) rfl z rfl rfl ?_ | (at_builtin; refine wpList_append_run (o := ⟨some 53, _, _, _, _, _⟩) HR9.out rfl rfl rfl rfl ?_))
          go_roundg (n - (p + 1))
          case measure => omega
          case rel => exact ⟨p + 1, q + 1, c9, A9, rfl, by go_num, by omega, by omega, Lib.hid (by rw [HE1.out, List.length_append, HQL.out]; rfl), Lib.hid (by rw [HE1.out]; exact HRW9.out), HW9⟩
      · obtain rfl : p = n := by omega
        have eT : l.take p = l := by rw [← HLN.out]; exact List.take_length
        rw [eT] at HQL HR
        have HCD := Lib.hid (erow_caps HR.out)
        have HPE := Lib.hid (HR.out.evs HQL.out)
        have hb3 := HW3.out
        have HC3 := Lib.hid (HC.out.below hb3)
        have HQ100 : Hid (q ≤ 101) := Lib.hid (by omega)
        clear HC HR HW3 eT hb3 HLN
        obtain ⟨D, hD⟩ : ∃ D, dedE l = D := ⟨_, rfl⟩
        have HU : Hid (UniE D) := Lib.hid (by rw [← hD]; exact dedE_uni l)
        have HDI : Hid (∀ e ∈ D, e.In) := Lib.hid (by rw [← hD]; exact dedE_in HLI.out)
        rw [hD] at HPE HQL
        clear hD
        have HP := Lib.hid (esort_caps B q d D wr HPE.out (by have := HQ100.out; omega))
        obtain ⟨S, hS⟩ : ∃ S, sortE D = S := ⟨_, rfl⟩
        have HSL : Hid (S.length = q) := Lib.hid (by rw [← hS, sortE_length]; exact HQL.out)
        have HSU : Hid (UniE S) := Lib.hid (by rw [← hS]; exact HU.out.perm (ev_sort_perm D).symm)
        have HSS : Hid (sortE S = S) := Lib.hid (by rw [← hS]; exact sort_self HU.out)
        have HSI : Hid (∀ e ∈ S, e.In) := Lib.hid (by rw [← hS]; exact fun e he => HDI.out e ((ev_sort_perm D).mem_iff.1 he))
        rw [hS] at HP
        clear hS HU HDI HPE HQL HCD
        go_wp2_with fail
        refine HP.out.mono ?_
        rintro e w4 ⟨A0, c0, rfl, hb4, he4, hc4, hd4⟩
        have HS4 := Lib.hid he4
        have HCS := Lib.hid (And.intro hc4 hd4)
        have HC4 := Lib.hid (HC3.out.below hb4)
        clear HP he4 HC3 hb4 hc4 hd4
        have q1 := HC4.out.fc.cell 0 HX1.out
        have q1z := cell_lt q1
        obtain ⟨xi, hxi⟩ : ∃ xi, Hid (x.id = xi) := ⟨_, rfl⟩
        rw [hxi.out] at q1
        have HP := Lib.hid (find_any A0 q c0 S xi w4 HS4.out (by have := HQ100.out; omega))
        go_wp2_with fail
        refine HP.out.mono ?_
        rintro e w5 ⟨rfl, hb5⟩
        obtain ⟨fe, hfe⟩ : ∃ fe, findE S xi = fe := ⟨_, rfl⟩
        rw [hfe]
        have hb5' := bel_on hb5 (bel_alloc (Below.refl w5.heap.size w5) (.cells (evC fe) 33))
        have HF6 := Lib.hid (Has.new w5 33 (evC fe) rfl)
        have HS6 := Lib.hid (HS4.out.below hb5')
        have HC6 := Lib.hid (HC4.out.below hb5')
        clear HP HS4 HC4 hb5 hb5' q1 q1z
        cases hin : (ixE S xi).isSome with
        | true =>
          obtain ⟨i, hi⟩ := Option.isSome_iff_exists.1 hin
          have hfe2 : S.getD i EvP.none = fe := by rw [← hfe]; unfold findE; rw [hi]
          have HFI : Hid (fe.In) := Lib.hid (HSI.out fe (by
            have hlt := (ixE_some hi).1
            rw [← hfe2, List.getD_eq_getElem?_getD, List.getElem?_eq_getElem hlt, Option.getD_some]
            exact List.getElem_mem hlt))
          have HBA := Lib.hid (fun (c : Bool) hb => back_amend (b := mayS s x) (c := c) HSU.out HSS.out (show ixE S x.id = some i by rw [hxi.out]; exact hi) hb)
          rw [hfe2] at HBA
          clear hi hfe hfe2 hin
          have HP := Lib.hid (apply_any HC6.out.st.q A0 q c0 S 3 x (w5.alloc (.cells (evC fe) 33)) HS6.out HCS.out (by have := HQ100.out; omega) HI.out (mayS s x) rfl)
          have HXE := Lib.hid (show Has _ _ (evC x) from by rw [HCE.out]; exact HC6.out.fc)
          go_wp2_with (first | refine wpList_laid_e (evC fe) 13 _ _ rfl rfl rfl rfl rfl rfl rfl rfl rfl (evC_one _) ?_ | refine wpList_exec (o := ⟨some 65, _, _, _, _, _⟩) (by rfl) (exec_load_st _ rfl rfl HC6.out.sc HZ.out) ?_ | refine wpList_exec (o := ⟨some 67, _, _, _, _, _⟩) (by rfl) (exec_load_at _ rfl rfl (has_load_e HXE.out)) ?_ | refine wpList_build_fx (o := ⟨some 68, _, _, _, _, _⟩) (k := 3) (x := x) rfl rfl rfl rfl ?_ | fail)
          refine HP.out.mono ?_
          rintro e w7 ⟨A1, n1, c1, rfl, he1, hc1, hd1, hb7⟩
          have HA7 := Lib.hid he1
          have HCA := Lib.hid (And.intro hc1 hd1)
          have HS7 := Lib.hid (HS6.out.below hb7)
          have HC7 := Lib.hid (HC6.out.below hb7)
          have HF7 := Lib.hid (HF6.out.below hb7)
          have HXE7 := Lib.hid (HXE.out.below hb7)
          clear HP he1 HC6 HS6 HF6 HXE hb7 hc1 hd1
          have HN1 : Hid (n1 ≤ 102) := Lib.hid (by
            have h1 := applyE_len (mayS s x) S 3 x
            have h2 := HA7.out.2
            have := HSL.out
            have := HQ100.out
            omega)
          obtain ⟨R, hR⟩ : ∃ R, applyE (mayS s x) S 3 x = R := ⟨_, rfl⟩
          rw [hR] at HA7 HBA
          have HR := Lib.hid hR
          rw [hR]
          clear hR
          obtain ⟨cm, hcm⟩ : ∃ cm, mayS s fe = cm := ⟨_, rfl⟩
          have HP := Lib.hid (apply_any HC7.out.st.q A1 n1 c1 R.1 3 fe w7 HA7.out HCA.out (by have := HN1.out; omega) HFI.out cm hcm)
          obtain ⟨T, hT⟩ : ∃ T, applyE cm R.1 3 fe = T := ⟨_, rfl⟩
          rw [hT] at HP
          have HT := Lib.hid hT
          have HCM := Lib.hid hcm
          clear hT hcm
          go_wp2_with (first | refine wpList_exec (o := ⟨some 73, _, _, _, _, _⟩) (by rfl) (exec_load_st _ rfl rfl HC7.out.sc HZ.out) ?_ | refine wpList_exec (o := ⟨some 75, _, _, _, _, _⟩) (by rfl) (exec_load_at _ rfl rfl (has_load_e HF7.out)) ?_ | refine wpList_build_fx (o := ⟨some 76, _, _, _, _, _⟩) (k := 3) (x := fe) rfl rfl rfl rfl ?_ | fail)
          refine HP.out.mono ?_
          rintro e w8 ⟨A2, n2, c2, rfl, he2, hc2, hd2, hb8⟩
          have HA8 := Lib.hid he2
          have HS8 := Lib.hid (HS7.out.below hb8)
          have HC8 := Lib.hid (HC7.out.below hb8)
          have HF8 := Lib.hid (HF7.out.below hb8)
          have HXE8 := Lib.hid (HXE7.out.below hb8)
          clear HP he2 HC7 HS7 HF7 HA7 HXE7 hb8 hc2 hd2
          cases hbx : mayS s x with
          | false =>
            have hR := HR.out
            rw [hbx, apply_not (by decide)] at hR
            subst hR
            clear HBA HR HT
            go_wp2_with (first | refine wpList_exec (o := ⟨some 85, _, _, _, _, _⟩) (by rfl) (exec_load_st _ rfl rfl HC8.out.sc HZ.out) ?_ | refine wpList_exec (o := ⟨some 86, _, _, _, _, _⟩) (by rfl) (exec_load_at _ rfl rfl (has_load_e HXE8.out)) ?_ | fail)
            refine (echeck_any cs s.places s.elements.length s.classes.length s.gears.length s.rates.length HC8.out.st.q x HI.out _ false hbx).mono ?_
            rintro e w9 ⟨rfl, hb9⟩
            have HE9 := Lib.hid (bel_on HC8.out.b hb9)
            clear hb9 HC8 HS8 HF8 HA8 HXE8
            go_wp2
            go_ret
            exact ⟨rfl, HE9.out⟩
          | true =>
            obtain ⟨t0, t1, t2⟩ := HBA.out cm hbx
            have HR0 := Lib.hid t0
            rw [HT.out] at t1 t2
            rw [t0]
            clear HBA HR t0 hbx
            cases cm with
            | true =>
              have hT := t1 rfl
              subst hT
              clear HT t1 t2
              go_wp2_with fail
              refine (rsame_any A2 A0 n2 q c2 c0 S S _ HA8.out HS8.out (by have := HQ100.out; have := HA8.out.2; have := HSL.out; omega) (by have := HQ100.out; omega) true (decide_eq_true rfl)).mono ?_
              rintro e w9 ⟨rfl, hb9⟩
              have HE9 := Lib.hid (bel_on HC8.out.b hb9)
              clear hb9 HC8 HS8 HF8 HA8 HXE8
              go_wp2
              go_ret
              exact ⟨rfl, HE9.out⟩
            | false =>
              have hT := t2 rfl
              subst hT
              clear HT t1 t2
              go_wp2_with (first | refine wpList_exec (o := ⟨some 105, _, _, _, _, _⟩) (by rfl) (exec_load_st _ rfl rfl HC8.out.sc HZ.out) ?_ | refine wpList_exec (o := ⟨some 106, _, _, _, _, _⟩) (by rfl) (exec_load_at _ rfl rfl (has_load_e HF8.out)) ?_ | fail)
              refine (echeck_any cs s.places s.elements.length s.classes.length s.gears.length s.rates.length HC8.out.st.q fe HFI.out _ false HCM.out).mono ?_
              rintro e w9 ⟨rfl, hb9⟩
              have HE9 := Lib.hid (bel_on HC8.out.b hb9)
              clear hb9 HC8 HS8 HF8 HA8 HXE8
              go_wp2
              go_ret
              exact ⟨rfl, HE9.out⟩
        | false =>
          have hno : ixE S x.id = none := by
            rw [hxi.out]
            cases q : ixE S xi with
            | none => rfl
            | some i => rw [q] at hin; simp at hin
          have HBA := Lib.hid (fun (c : Bool) hb => back_void (b := mayS s x) (c := c) HSU.out HSS.out hno hb)
          clear hfe hin hno
          have HP := Lib.hid (apply_any HC6.out.st.q A0 q c0 S 1 x (w5.alloc (.cells (evC fe) 33)) HS6.out HCS.out (by have := HQ100.out; omega) HI.out (mayS s x) rfl)
          have HXE := Lib.hid (show Has _ _ (evC x) from by rw [HCE.out]; exact HC6.out.fc)
          go_wp2_with (first | refine wpList_laid_e (evC fe) 13 _ _ rfl rfl rfl rfl rfl rfl rfl rfl rfl (evC_one _) ?_ | refine wpList_exec (o := ⟨some 115, _, _, _, _, _⟩) (by rfl) (exec_load_st _ rfl rfl HC6.out.sc HZ.out) ?_ | refine wpList_exec (o := ⟨some 117, _, _, _, _, _⟩) (by rfl) (exec_load_at _ rfl rfl (has_load_e HXE.out)) ?_ | refine wpList_build_fx (o := ⟨some 118, _, _, _, _, _⟩) (k := 1) (x := x) rfl rfl rfl rfl ?_ | fail)
          refine HP.out.mono ?_
          rintro e w7 ⟨A1, n1, c1, rfl, he1, hc1, hd1, hb7⟩
          have HA7 := Lib.hid he1
          have HCA := Lib.hid (And.intro hc1 hd1)
          have HS7 := Lib.hid (HS6.out.below hb7)
          have HC7 := Lib.hid (HC6.out.below hb7)
          have HF7 := Lib.hid (HF6.out.below hb7)
          have HXE7 := Lib.hid (HXE.out.below hb7)
          clear HP he1 HC6 HS6 HF6 HXE hb7 hc1 hd1
          have HN1 : Hid (n1 ≤ 102) := Lib.hid (by
            have h1 := applyE_len (mayS s x) S 1 x
            have h2 := HA7.out.2
            have := HSL.out
            have := HQ100.out
            omega)
          obtain ⟨R, hR⟩ : ∃ R, applyE (mayS s x) S 1 x = R := ⟨_, rfl⟩
          rw [hR] at HA7 HBA
          have HR := Lib.hid hR
          rw [hR]
          clear hR
          have q1 := HC7.out.fc.cell 0 HX1.out
          have q1z := cell_lt q1
          obtain ⟨cm, hcm⟩ : ∃ cm, mayS s ({ EvP.none with id := x.id } : EvP) = cm := ⟨_, rfl⟩
          have HP := Lib.hid (apply_any HC7.out.st.q A1 n1 c1 R.1 2 ({ EvP.none with id := x.id } : EvP) w7 HA7.out HCA.out (by have := HN1.out; omega) (id_in HI.out) cm hcm)
          obtain ⟨T, hT⟩ : ∃ T, applyE cm R.1 2 ({ EvP.none with id := x.id } : EvP) = T := ⟨_, rfl⟩
          rw [hT] at HP
          have HT := Lib.hid hT
          have HCM := Lib.hid hcm
          clear hT hcm
          go_wp2_with (first | refine wpList_exec (o := ⟨some 123, _, _, _, _, _⟩) (by rfl) (exec_load_st _ rfl rfl HC7.out.sc HZ.out) ?_ | refine wpList_build_ev (o := ⟨some 127, _, _, _, _, _⟩) (i := x.id) rfl rfl rfl ?_ | refine wpList_build_fx (o := ⟨some 128, _, _, _, _, _⟩) (k := 2) (x := ({ EvP.none with id := x.id } : EvP)) rfl rfl rfl rfl ?_ | fail)
          refine HP.out.mono ?_
          rintro e w8 ⟨A2, n2, c2, rfl, he2, hc2, hd2, hb8⟩
          have HA8 := Lib.hid he2
          have HS8 := Lib.hid (HS7.out.below hb8)
          have HC8 := Lib.hid (HC7.out.below hb8)
          have HF8 := Lib.hid (HF7.out.below hb8)
          have HXE8 := Lib.hid (HXE7.out.below hb8)
          clear HP he2 HC7 HS7 HF7 HA7 HXE7 hb8 hc2 hd2
          clear q1 q1z
          cases hbx : mayS s x with
          | false =>
            have hR := HR.out
            rw [hbx, apply_not (by decide)] at hR
            subst hR
            clear HBA HR HT
            go_wp2_with (first | refine wpList_exec (o := ⟨some 137, _, _, _, _, _⟩) (by rfl) (exec_load_st _ rfl rfl HC8.out.sc HZ.out) ?_ | refine wpList_exec (o := ⟨some 138, _, _, _, _, _⟩) (by rfl) (exec_load_at _ rfl rfl (has_load_e HXE8.out)) ?_ | fail)
            refine (echeck_any cs s.places s.elements.length s.classes.length s.gears.length s.rates.length HC8.out.st.q x HI.out _ false hbx).mono ?_
            rintro e w9 ⟨rfl, hb9⟩
            have HE9 := Lib.hid (bel_on HC8.out.b hb9)
            clear hb9 HC8 HS8 HF8 HA8 HXE8
            go_wp2
            go_ret
            exact ⟨rfl, HE9.out⟩
          | true =>
            obtain ⟨t0, t1⟩ := HBA.out cm hbx
            have hT := t1 ({ EvP.none with id := x.id } : EvP) rfl
            rw [HT.out] at hT
            rw [t0]
            subst hT
            clear HBA HR t0 t1 hbx HT
            go_wp2_with fail
            refine (rsame_any A2 A0 n2 q c2 c0 S S _ HA8.out HS8.out (by have := HQ100.out; have := HA8.out.2; have := HSL.out; omega) (by have := HQ100.out; omega) true (decide_eq_true rfl)).mono ?_
            rintro e w9 ⟨rfl, hb9⟩
            have HE9 := Lib.hid (bel_on HC8.out.b hb9)
            clear hb9 HC8 HS8 HF8 HA8 HXE8
            go_wp2
            go_ret
            exact ⟨rfl, HE9.out⟩
theorem fixesBack_walk (s : SetP) (A1 A2 A3 A4 A5 A6 : Option Addr) (c1 c2 c3 c4 c5 c6 : Nat) (a1 : Option Addr) (len1 cap1 : Nat) (z1 : List EvP) (x : EvP) (w : World) (hs : SetAt w s A1 A2 A3 A4 A5 A6 c1 c2 c3 c4 c5 c6) (hf : s.Fit)
    (s1 : Evs w a1 len1 cap1 z1) (i1 : ∀ e ∈ z1, e.In) (l1 : len1 ≤ cap1) (l1' : cap1 ≤ 9223372036854775807) (hx : x.In) :
    Calls Try.prog 4 #[setV s A1 A2 A3 A4 A5 A6 c1 c2 c3 c4 c5 c6, .slice a1 len1 cap1, .agg (evC x)] w fun e w' => e = .returned (.bool true) ∧ Below w.heap.size w w' := by
  obtain ⟨cs, hcs⟩ : ∃ cs, setV s A1 A2 A3 A4 A5 A6 c1 c2 c3 c4 c5 c6 = .agg cs := ⟨_, rfl⟩
  have hW := setF_of hcs hs hf
  rw [hcs]
  exact fixesBack_main s cs w hW a1 len1 cap1 z1 s1 i1 ⟨l1, l1'⟩ x hx _ rfl
end Go.Proofs.Ytedkhjbnjkcemaa
