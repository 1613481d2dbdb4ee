/-
  The law StreamRises, walked.
-/
import Derived.Test.YtbijaaglmhoopaaZbd
import Derived.Test.YtbijaaglmhoopaaStrPm
namespace Go.Proofs.Ytbijaaglmhoopaa
open Go.RowKit
set_option linter.unusedVariables false
set_option linter.unusedSimpArgs false
set_option maxRecDepth 20000

theorem streamRises_no (s : SetP) (cs : Array Value) (w : World) (hW : SetW w s cs) (A : Option Addr) (n c : Nat) (l : List EvP) (h : Evs w A n c l) (hIn : ∀ e ∈ l, e.In) (wk : Int) (hF : decide (s.Few ∧ n ≤ 100) = false) :
    Calls Try.prog 3 #[.agg cs, .slice A n c, .int .i64 wk] w fun e w' => e = .returned (.bool true) ∧ Below w.heap.size w w' := by
  have HF := Lib.hid hF
  clear hF
  have HZ := Lib.hid hW.size
  have hb0 := bel_alloc (Below.refl w.heap.size w) (.cells cs 30)
  have HB := Lib.hid (Has.new w 30 cs rfl)
  have HS := Lib.hid (hW.below hb0)
  have HE := Lib.hid (h.below hb0)
  have HW := Lib.hid hb0
  have HIN := Lib.hid hIn
  clear hW h hb0 hIn
  go_enter Try.func3, Try.ntmps3
  go_wp2_with fail
  refine (awake12 _).mono ?_
  rintro e w1 ⟨rfl, b1⟩
  replace HB := Lib.hid (HB.out.below b1)
  replace HS := Lib.hid (HS.out.below b1)
  replace HE := Lib.hid (HE.out.below b1)
  replace HW := Lib.hid (bel_on HW.out b1)
  clear b1
  go_wp2_with (refine wpList_exec (o := ⟨some 18, _, _, _, _, _⟩) (by rfl) (exec_load_st _ rfl rfl HB.out HZ.out) ?_)
  refine (few12 s cs _ HS.out A n c _ HF.out).mono ?_
  rintro e w2 ⟨rfl, b2⟩
  replace HB := Lib.hid (HB.out.below b2)
  replace HS := Lib.hid (HS.out.below b2)
  replace HE := Lib.hid (HE.out.below b2)
  replace HW := Lib.hid (bel_on HW.out b2)
  clear b2
  go_wp2
  go_ret
  exact ⟨rfl, HW.out⟩
set_option maxHeartbeats 32000000 in
theorem streamRises_main (s : SetP) (cs : Array Value) (w : World) (hW : SetW w s cs) (A : Option Addr) (n c : Nat) (l : List EvP) (h : Evs w A n c l) (hIn : ∀ e ∈ l, e.In) (wk : Int) (hF : decide (s.Few ∧ n ≤ 100) = true) :
    Calls Try.prog 3 #[.agg cs, .slice A n c, .int .i64 wk] w fun e w' => e = .returned (.bool true) ∧ Below w.heap.size w w' := by
  have hn : n ≤ 100 := (of_decide_eq_true hF).2
  have mixed : Try.prog.follows Departure.mixedOrders = true := by kernel_rfl
  have HF := Lib.hid hF
  have HRO := Lib.hid (rise_of s wk l)
  have HUP := Lib.hid (segsOf_up s wk l)
  have HKD := Lib.hid (segs_kinds s wk l)
  have HFI := Lib.hid (segsOf_fit s wk l)
  have HLE := Lib.hid (segsOf_len s wk l)
  clear hF
  have HZ := Lib.hid hW.size
  have hb0 := bel_alloc (Below.refl w.heap.size w) (.cells cs 30)
  have HB := Lib.hid (Has.new w 30 cs rfl)
  have HS := Lib.hid (hW.below hb0)
  have HE := Lib.hid (h.below hb0)
  have HW := Lib.hid hb0
  have HIN := Lib.hid hIn
  clear hW h hb0 hIn
  go_enter Try.func3, Try.ntmps3
  go_wp2_with fail
  refine (awake12 _).mono ?_
  rintro e w1 ⟨rfl, b1⟩
  replace HB := Lib.hid (HB.out.below b1)
  replace HS := Lib.hid (HS.out.below b1)
  replace HE := Lib.hid (HE.out.below b1)
  replace HW := Lib.hid (bel_on HW.out b1)
  clear b1
  go_wp2_with (refine wpList_exec (o := ⟨some 18, _, _, _, _, _⟩) (by rfl) (exec_load_st _ rfl rfl HB.out HZ.out) ?_)
  refine (few12 s cs _ HS.out A n c _ HF.out).mono ?_
  rintro e w2 ⟨rfl, b2⟩
  replace HB := Lib.hid (HB.out.below b2)
  replace HS := Lib.hid (HS.out.below b2)
  replace HE := Lib.hid (HE.out.below b2)
  replace HW := Lib.hid (bel_on HW.out b2)
  clear b2
  have HLN := Lib.hid HE.out.2
  go_wp2_with (refine wpList_exec (o := ⟨some 24, _, _, _, _, _⟩) (by rfl) (exec_load_st _ rfl rfl HB.out HZ.out) ?_)
  refine (stream_any s cs _ HS.out A n c l HE.out (by omega) HIN.out wk).mono ?_
  intro e w3 hg
  obtain ⟨A4, c4, B4, d4, rfl, hs2, hf2, hb2⟩ := hg.two
  have HA := Lib.hid hs2
  have HFA := Lib.hid hf2
  clear hg hs2 hf2
  replace HE := Lib.hid (HE.out.below hb2)
  replace HW := Lib.hid (bel_on HW.out hb2)
  clear hb2
  have hl1 := HLE.out
  have hla := HLN.out
  obtain ⟨SA, hSA⟩ : ∃ SA, Hid (segsOf s wk l = SA) := ⟨_, rfl⟩
  rw [hSA.out] at HRO HUP HKD HFI hl1 HA
  rw [hSA.out]
  obtain ⟨ma, hma⟩ : ∃ ma, SA.length = ma := ⟨_, rfl⟩
  have hma' : ma ≤ 100 := by omega
  rw [hma] at HA ⊢
  clear hl1 HLE HFA hSA HB HS HIN HF
  go_wp2
  go_loopg [10] ma (fun kx s10 wr => ∃ i : Nat, s10 = .int .i64 i ∧ i + kx = ma ∧ Hid (Below w3.heap.size w3 wr))
  case atStart => exact ⟨0, rfl, by omega, Lib.hid (Below.refl _ _)⟩
  case round =>
    obtain ⟨i, rfl, hi, HW4⟩ := hrel
    by_cases hlt : i < ma
    · obtain ⟨x, hx⟩ : ∃ x, SA.getD i SegP.none = x := ⟨_, rfl⟩
      have hxm : x ∈ SA := by
        rw [← hx, List.getD_eq_getElem?_getD, List.getElem?_eq_getElem (by omega), Option.getD_some]
        exact List.getElem_mem _
      obtain ⟨e0, he0, m1, m2, m3, m4, m5, m6⟩ := HRO.out x hxm
      obtain ⟨k0, hk0, hke⟩ := List.mem_iff_getElem.1 he0
      have HK0 : Hid (k0 < n ∧ l.getD k0 EvP.none = e0) := ⟨by omega, by simp [List.getD, hk0, hke]⟩
      have HM : Hid (e0.id = x.id ∧ e0.wk = wk ∧ x.kd = kindP e0.kd ∧ x.cd = e0.cd ∧ (e0.kd = 1 ∨ e0.kd = 3 ∨ e0.kd = 4 ∨ e0.kd = 5 ∨ e0.kd = 6) ∧ (e0.kd = 4 ∨ e0.cd = 0)) := ⟨m1, m2, m3, m4, m5, m6⟩
      have HE4 := Lib.hid (HE.out.below HW4.out)
      have HA4 := Lib.hid (HA.out.below HW4.out)
      obtain ⟨be, oe, rfl⟩ := HE4.out.form (by have := HK0.out.1; omega)
      obtain ⟨bs, os, rfl⟩ := HA4.out.form (by omega)
      have HX := Lib.hid hx
      have HXM := Lib.hid hxm
      clear he0 m1 m2 m3 m4 m5 m6 hk0 hke hx hxm
      generalize wr = w4 at *
      go_wp2
      go_loopg [11, 12] n (fun kx s11 s12 wr => ∃ (k : Nat) (b : Bool), s11 = .bool b ∧ s12 = .int .i64 k ∧ k + kx = n ∧ Hid (k0 < k → b = true) ∧ Hid (Below w4.heap.size w4 wr))
      case atStart => exact ⟨0, false, rfl, rfl, by omega, Lib.hid (fun h => by omega), Lib.hid (Below.refl _ _)⟩
      case round =>
        obtain ⟨k, b, rfl, rfl, hk, HBT, HW5⟩ := hrel
        by_cases hkn : k < n
        · obtain ⟨e, he⟩ : ∃ e, l.getD k EvP.none = e := ⟨_, rfl⟩
          have HE5 := Lib.hid (HE4.out.below HW5.out)
          have HLD := Lib.hid (evs_load HE5.out (i := k) hkn)
          rw [he] at HLD
          have HEE := Lib.hid he
          have i0 : (0 : Int) ≤ (k : Int) := by omega
          have i1 : (k : Int) < (n : Int) := by omega
          have j0 : (0 : Int) ≤ (i : Int) := by omega
          have j1 : (i : Int) < (ma : Int) := by omega
          have HSZ := Lib.hid (evC_size e)
          have HSO := Lib.hid (evC_one e)
          have hba := bel_alloc (Below.refl wr.heap.size wr) (.cells (evC e) 39)
          have HXA : Hid (Has (wr.alloc (.cells (evC e) 39)) wr.heap.size (evC e)) := Has.new wr _ _ rfl
          have HWV := Lib.hid (bel_on HW5.out hba)
          have HAV := Lib.hid (HA4.out.below HWV.out)
          obtain ⟨bt, hbt⟩ : ∃ bt, Hid (wr.heap.size = bt) := ⟨_, rfl⟩
          rw [hbt.out] at HXA
          clear he hba HE5
          go_upto_region 13 with (first | refine wpList_exec (o := ⟨some 45, _, _, _, _, _⟩) (by rfl) (exec_load_at _ rfl rfl HLD.out) ?_ | refine wpList_laid_e (evC e) 13 _ _ rfl rfl rfl rfl rfl rfl rfl rfl HSZ.out HSO.out ?_)
          rw [hbt.out]
          generalize wr.alloc (.cells (evC e) 39) = v at *
          clear hbt HLD
          obtain ⟨ei, hei⟩ : ∃ z, Hid (e.id = z) := ⟨_, rfl⟩
          obtain ⟨ew, hew⟩ : ∃ z, Hid (e.wk = z) := ⟨_, rfl⟩
          obtain ⟨ek, hek⟩ : ∃ z, Hid (e.kd = z) := ⟨_, rfl⟩
          obtain ⟨ec, hec⟩ : ∃ z, Hid (e.cd = z) := ⟨_, rfl⟩
          obtain ⟨xk, hxk⟩ : ∃ z, Hid (x.kd = z) := ⟨_, rfl⟩
          obtain ⟨xi, hxi⟩ : ∃ z, Hid (x.id = z) := ⟨_, rfl⟩
          obtain ⟨xc, hxc⟩ : ∃ z, Hid (x.cd = z) := ⟨_, rfl⟩
          have HC : Hid (∀ u, Below v.heap.size v u → u.cell? ⟨bs, os + i * 5 + 2, none⟩ = some (.int .i64 xk) ∧ u.cell? ⟨bs, os + i * 5 + 3, none⟩ = some (.int .i64 xi) ∧ u.cell? ⟨bs, os + i * 5 + 4, none⟩ = some (.int .i64 xc) ∧ bs < u.heap.size ∧
              u.cell? ⟨bt, 0, none⟩ = some (.int .i64 ei) ∧ u.cell? ⟨bt, 1, none⟩ = some (.int .i64 ew) ∧ u.cell? ⟨bt, 3, none⟩ = some (.int .i64 ek) ∧ u.cell? ⟨bt, 10, none⟩ = some (.int .i64 ec) ∧ bt < u.heap.size) := fun u hu => by
            obtain ⟨-, -, z2, z3, z4⟩ := segs_num (HAV.out.below hu) hlt x HX.out
            have hq := HXA.out.below hu
            rw [← hxk.out, ← hxi.out, ← hxc.out, ← hei.out, ← hew.out, ← hek.out, ← hec.out]
            exact ⟨z2, z3, z4, cell_lt z2, hq.cell 0 (show (evC e)[0]? = some (.int .i64 e.id) from rfl), hq.cell 1 (show (evC e)[1]? = some (.int .i64 e.wk) from rfl), hq.cell 3 (show (evC e)[3]? = some (.int .i64 e.kd) from rfl), hq.cell 10 (show (evC e)[10]? = some (.int .i64 e.cd) from rfl), hq.size⟩
          obtain ⟨z2, z3, z4, zl, y0, y1, y3, y10, yl⟩ := HC.out v (Below.refl _ _)
          (try simp only [Act.put, List.setIfInBounds_toArray, List.set_cons_zero, List.set_cons_succ])
          go_cut [14] (fun v14 wx => v14 = .bool (decide (ek = 4) || decide (xc = 0)) ∧ v = wx)
          case first => as_aux_lemma =>
            by_cases g4 : ek = 4
            · have g4' : (ek == 4) = true := by simpa using g4
              go_wp2_with fail
              go_meet
              exact ⟨by first | rfl | (simp [*]; done) | (simp [*]; rfl), rfl⟩
            · have g4' : (ek == 4) = false := beq_eq_false_iff_ne.2 g4
              go_wp2_with fail
              go_meet
              exact ⟨by first | rfl | (simp [*]; done) | (simp [*]; rfl), rfl⟩
          case rest => as_aux_lemma =>
          obtain ⟨rfl, rfl⟩ := hcut
          obtain ⟨b14, h14⟩ : ∃ b14, Hid ((decide (ek = 4) || decide (xc = 0)) = b14) := ⟨_, rfl⟩
          rw [h14.out]
          go_upto_region 14 with fail
          go_cut [15] (fun v15 wx => v15 = .bool ((decide (ek = 1) || decide (ek = 6)) && decide (xk = 0)) ∧ v = wx)
          case first => as_aux_lemma =>
            by_cases g1 : ek = 1
            · have g1' : (ek == 1) = true := by simpa using g1
              by_cases x0 : xk = 0
              · have x0' : (xk == 0) = true := by simpa using x0
                go_wp2_with fail
                go_meet
                exact ⟨by first | rfl | (simp [*]; done) | (simp [*]; rfl), rfl⟩
              · have x0' : (xk == 0) = false := beq_eq_false_iff_ne.2 x0
                go_wp2_with fail
                go_meet
                exact ⟨by first | rfl | (simp [*]; done) | (simp [*]; rfl), rfl⟩
            · have g1' : (ek == 1) = false := beq_eq_false_iff_ne.2 g1
              by_cases g6 : ek = 6
              · have g6' : (ek == 6) = true := by simpa using g6
                by_cases x0 : xk = 0
                · have x0' : (xk == 0) = true := by simpa using x0
                  go_wp2_with fail
                  go_meet
                  exact ⟨by first | rfl | (simp [*]; done) | (simp [*]; rfl), rfl⟩
                · have x0' : (xk == 0) = false := beq_eq_false_iff_ne.2 x0
                  go_wp2_with fail
                  go_meet
                  exact ⟨by first | rfl | (simp [*]; done) | (simp [*]; rfl), rfl⟩
              · have g6' : (ek == 6) = false := beq_eq_false_iff_ne.2 g6
                go_wp2_with fail
                go_meet
                exact ⟨by first | rfl | (simp [*]; done) | (simp [*]; rfl), rfl⟩
          case rest => as_aux_lemma =>
          obtain ⟨rfl, rfl⟩ := hcut
          obtain ⟨b15, h15⟩ : ∃ b15, Hid (((decide (ek = 1) || decide (ek = 6)) && decide (xk = 0)) = b15) := ⟨_, rfl⟩
          rw [h15.out]
          have hvw := Below.refl v.heap.size v
          go_upto_region 15 with fail
          go_cut [16] (fun v16 wx => v16 = .bool (decide (ek = 3) && decide (xk = 1) || (decide (ek = 4) && decide (xk = 2) && decide (xc = ec)) || (decide (ek = 5) && decide (xk = 3))) ∧ Hid (Below v.heap.size v wx))
          case first => as_aux_lemma =>
            by_cases g3 : ek = 3
            · have g3' : (ek == 3) = true := by simpa using g3
              by_cases x1 : xk = 1
              · have x1' : (xk == 1) = true := by simpa using x1
                go_wp2
                go_quiet (fail)
                go_wp2
                go_meet
                exact ⟨by first | rfl | (simp [*]; done) | (simp [*]; rfl), Lib.hid (below_drewN hvw _)⟩
              · have x1' : (xk == 1) = false := beq_eq_false_iff_ne.2 x1
                go_wp2
                go_quiet (fail)
                go_wp2
                go_meet
                exact ⟨by first | rfl | (simp [*]; done) | (simp [*]; rfl), Lib.hid (below_drewN hvw _)⟩
            · have g3' : (ek == 3) = false := beq_eq_false_iff_ne.2 g3
              by_cases g4 : ek = 4
              · have g4' : (ek == 4) = true := by simpa using g4
                by_cases x2 : xk = 2
                · have x2' : (xk == 2) = true := by simpa using x2
                  by_cases c0 : xc = ec
                  · have c0' : (xc == ec) = true := by simpa using c0
                    go_wp2
                    go_quiet (fail)
                    go_wp2
                    go_meet
                    exact ⟨by first | rfl | (simp [*]; done) | (simp [*]; rfl), Lib.hid (below_drewN hvw _)⟩
                  · have c0' : (xc == ec) = false := beq_eq_false_iff_ne.2 c0
                    go_wp2
                    go_quiet (fail)
                    go_wp2
                    go_meet
                    exact ⟨by first | rfl | (simp [*]; done) | (simp [*]; rfl), Lib.hid (below_drewN hvw _)⟩
                · have x2' : (xk == 2) = false := beq_eq_false_iff_ne.2 x2
                  go_wp2
                  go_quiet (fail)
                  go_wp2
                  go_meet
                  exact ⟨by first | rfl | (simp [*]; done) | (simp [*]; rfl), Lib.hid (below_drewN hvw _)⟩
              · have g4' : (ek == 4) = false := beq_eq_false_iff_ne.2 g4
                by_cases g5 : ek = 5
                · have g5' : (ek == 5) = true := by simpa using g5
                  by_cases x3 : xk = 3
                  · have x3' : (xk == 3) = true := by simpa using x3
                    go_wp2
                    go_quiet (fail)
                    go_wp2
                    go_meet
                    exact ⟨by first | rfl | (simp [*]; done) | (simp [*]; rfl), Lib.hid (below_drewN hvw _)⟩
                  · have x3' : (xk == 3) = false := beq_eq_false_iff_ne.2 x3
                    go_wp2
                    go_quiet (fail)
                    go_wp2
                    go_meet
                    exact ⟨by first | rfl | (simp [*]; done) | (simp [*]; rfl), Lib.hid (below_drewN hvw _)⟩
                · have g5' : (ek == 5) = false := beq_eq_false_iff_ne.2 g5
                  go_wp2
                  go_quiet (fail)
                  go_wp2
                  go_meet
                  exact ⟨by first | rfl | (simp [*]; done) | (simp [*]; rfl), Lib.hid (below_drewN hvw _)⟩
          case rest => as_aux_lemma =>
          obtain ⟨rfl, HV6⟩ := hcut
          obtain ⟨b16, h16⟩ : ∃ b16, Hid ((decide (ek = 3) && decide (xk = 1) || (decide (ek = 4) && decide (xk = 2) && decide (xc = ec)) || (decide (ek = 5) && decide (xk = 3))) = b16) := ⟨_, rfl⟩
          rw [h16.out]
          clear z2 z3 z4 zl y0 y1 y3 y10 yl hvw
          obtain ⟨z2, z3, z4, zl, y0, y1, y3, y10, yl⟩ := HC.out wc HV6.out
          have hvw := HV6.out
          go_upto_region 16 with fail
          have HB2 : Hid (k0 < k + 1 → (b || (decide (ei = xi) && decide (ew = wk) && b14 && (b15 || b16))) = true) := fun hlt0 => by
            by_cases q : k0 < k
            · rw [HBT.out q]; rfl
            · obtain rfl : k0 = k := by omega
              have e1 : e0 = e := by rw [← HK0.out.2]; exact HEE.out
              obtain ⟨m1, m2, m3, m4, m5, m6⟩ := HM.out
              rw [e1] at m1 m2 m3 m4 m5 m6
              rw [hei.out, hxi.out] at m1
              rw [hew.out] at m2
              rw [hxk.out, hek.out] at m3
              rw [hxc.out, hec.out] at m4
              rw [hek.out] at m5 m6
              rw [hec.out] at m6
              rw [← h14.out, ← h15.out, ← h16.out]
              subst m1 m2 m3 m4
              rcases m5 with rfl | rfl | rfl | rfl | rfl <;> simp [kindP] <;> omega
          have hbz := bel_on HWV.out HV6.out
          clear h14 h15 h16
          cases b with
          | true =>
            go_wp2
            go_quiet (fail)
            go_wp2
            go_roundg (n - (k + 1))
            case measure => omega
            case rel => exact ⟨k + 1, _, rfl, by go_num, by omega, Lib.hid (fun h => by first | rfl | exact absurd (HB2.out h) (by simp [*])), Lib.hid (below_drewN hbz _)⟩
          | false =>
            by_cases gi : ei = xi
            · have gi' : (ei == xi) = true := by simpa using gi
              by_cases gw : ew = wk
              · have gw' : (ew == wk) = true := by simpa using gw
                cases b14 with
                | true =>
                  cases b15 with
                  | true =>
                    go_wp2
                    go_quiet (fail)
                    go_wp2
                    go_roundg (n - (k + 1))
                    case measure => omega
                    case rel => exact ⟨k + 1, _, rfl, by go_num, by omega, Lib.hid (fun h => by first | rfl | exact absurd (HB2.out h) (by simp [*])), Lib.hid (below_drewN hbz _)⟩
                  | false =>
                    cases b16 with
                    | true =>
                      go_wp2
                      go_quiet (fail)
                      go_wp2
                      go_roundg (n - (k + 1))
                      case measure => omega
                      case rel => exact ⟨k + 1, _, rfl, by go_num, by omega, Lib.hid (fun h => by first | rfl | exact absurd (HB2.out h) (by simp [*])), Lib.hid (below_drewN hbz _)⟩
                    | false =>
                      go_wp2
                      go_quiet (fail)
                      go_wp2
                      go_roundg (n - (k + 1))
                      case measure => omega
                      case rel => exact ⟨k + 1, _, rfl, by go_num, by omega, Lib.hid (fun h => by first | rfl | exact absurd (HB2.out h) (by simp [*])), Lib.hid (below_drewN hbz _)⟩
                | false =>
                  go_wp2
                  go_quiet (fail)
                  go_wp2
                  go_roundg (n - (k + 1))
                  case measure => omega
                  case rel => exact ⟨k + 1, _, rfl, by go_num, by omega, Lib.hid (fun h => by first | rfl | exact absurd (HB2.out h) (by simp [*])), Lib.hid (below_drewN hbz _)⟩
              · have gw' : (ew == wk) = false := beq_eq_false_iff_ne.2 gw
                go_wp2
                go_quiet (fail)
                go_wp2
                go_roundg (n - (k + 1))
                case measure => omega
                case rel => exact ⟨k + 1, _, rfl, by go_num, by omega, Lib.hid (fun h => by first | rfl | exact absurd (HB2.out h) (by simp [*])), Lib.hid (below_drewN hbz _)⟩
            · have gi' : (ei == xi) = false := beq_eq_false_iff_ne.2 gi
              go_wp2
              go_quiet (fail)
              go_wp2
              go_roundg (n - (k + 1))
              case measure => omega
              case rel => exact ⟨k + 1, _, rfl, by go_num, by omega, Lib.hid (fun h => by first | rfl | exact absurd (HB2.out h) (by simp [*])), Lib.hid (below_drewN hbz _)⟩
        · obtain rfl : k = n := by omega
          obtain rfl : b = true := HBT.out HK0.out.1
          have HA5 := Lib.hid (HA4.out.below HW5.out)
          have HUX := HUP.out.2 x HXM.out
          obtain ⟨z0, z1, -, -, -⟩ := segs_num HA5.out hlt x HX.out
          have zl := cell_lt z0
          have j0 : (0 : Int) ≤ (i : Int) := by omega
          have j1 : (i : Int) < (ma : Int) := by omega
          obtain ⟨xf, hxf⟩ : ∃ z, Hid (x.fr = z) := ⟨_, rfl⟩
          obtain ⟨xt, hxt⟩ : ∃ z, Hid (x.to = z) := ⟨_, rfl⟩
          rw [hxf.out] at z0
          rw [hxt.out] at z1
          rw [hxf.out, hxt.out] at HUX
          have u1 : ¬ xf < 0 := by omega
          have u2 : ¬ xt ≤ xf := by omega
          have u3 : ¬ 32054400 < xt := by omega
          have d1 : decide (xf < 0) = false := decide_eq_false u1
          have d2 : decide (xt ≤ xf) = false := decide_eq_false u2
          have d3 : decide (32054400 < xt) = false := decide_eq_false u3
          have hbz := bel_on HW4.out HW5.out
          by_cases hi0 : i = 0
          · subst hi0
            have a0 : os + 0 * 5 = os := by omega
            rw [a0] at z0 z1
            go_wp2
            go_quiet (fail)
            go_wp2
            go_roundg (ma - (0 + 1))
            case measure => omega
            case rel => exact ⟨1, by go_num, by omega, Lib.hid (below_drewN hbz _)⟩
          · obtain ⟨p, rfl⟩ : ∃ p, i = p + 1 := ⟨i - 1, by omega⟩
            obtain ⟨yy, hyy⟩ : ∃ yy, SA.getD p SegP.none = yy := ⟨_, rfl⟩
            obtain ⟨-, y1, -, -, -⟩ := segs_num HA5.out (i := p) (by omega) yy hyy
            have hnx := segs_next HUP.out.1 p (by omega)
            rw [hyy, HX.out, hxf.out] at hnx
            obtain ⟨yt, hyt⟩ : ∃ z, Hid (yy.to = z) := ⟨_, rfl⟩
            rw [hyt.out] at y1 hnx
            have u4 : ¬ xf < yt := by omega
            have i5 : (0 : Int) < (p : Int) + 1 := by omega
            have d4 : decide (xf < yt) = false := decide_eq_false u4
            have d5 : decide ((0 : Int) < (p : Int) + 1) = true := decide_eq_true i5
            have i6 : IntKind.i64.wrap ((p : Int) + 1 - 1) = (p : Int) := by rw [wrapw_id (by omega) (by omega)]; omega
            have i7 : (0 : Int) ≤ (p : Int) := by omega
            have i8 : (p : Int) < (ma : Int) := by omega
            clear hyy hnx
            go_wp2
            go_quiet (fail)
            go_wp2
            go_roundg (ma - (p + 1 + 1))
            case measure => omega
            case rel => exact ⟨p + 1 + 1, by go_num, by omega, Lib.hid (below_drewN hbz _)⟩
    · obtain rfl : i = ma := by omega
      have hb4 := HW4.out
      replace HA := Lib.hid (HA.out.below hb4)
      replace HW := Lib.hid (bel_on HW.out hb4)
      have HCS := Lib.hid (clock_sizes HUP.out.1 HKD.out)
      have HC0 := Lib.hid (fun W hA => sclock_any A4 i c4 SA W hA (by omega) HFI.out)
      have HO : Hid (∀ k W, Segs W A4 i c4 SA → Calls Try.prog 14 #[.slice A4 i c4, .int .i64 k] W (Gives W (clockP (SA.filter (ofKind k))))) := fun k W hA => sonly_any A4 i c4 SA k W hA (by omega) HFI.out
      obtain ⟨v, hv⟩ : ∃ v, clockP SA = v := ⟨_, rfl⟩
      rw [hv] at HCS HC0
      have fv : Hid (Fits v) := by rw [← hv]; exact Fits.canon _
      have lv0 : v.length ≤ 32054401 := by rw [← hv]; exact canon_len _
      have lv : v.length ≤ 100000000 := by omega
      obtain ⟨v0, hv0⟩ : ∃ v, clockP (SA.filter (ofKind 0)) = v := ⟨_, rfl⟩
      rw [hv0] at HCS
      have HO0 := Lib.hid (HO.out 0)
      rw [hv0] at HO0
      have fv0 : Hid (Fits v0) := by rw [← hv0]; exact Fits.canon _
      have lw0 : v0.length ≤ 32054401 := by rw [← hv0]; exact canon_len _
      have lv0 : v0.length ≤ 100000000 := by omega
      obtain ⟨t0, ht0⟩ : ∃ t, sz (In v0) = t := ⟨_, rfl⟩
      have bt0 := sz_span (In v0)
      rw [ht0] at bt0 HCS
      have HT0 := Lib.hid ht0
      clear hv0 ht0
      obtain ⟨v1, hv1⟩ : ∃ v, clockP (SA.filter (ofKind 1)) = v := ⟨_, rfl⟩
      rw [hv1] at HCS
      have HO1 := Lib.hid (HO.out 1)
      rw [hv1] at HO1
      have fv1 : Hid (Fits v1) := by rw [← hv1]; exact Fits.canon _
      have lw1 : v1.length ≤ 32054401 := by rw [← hv1]; exact canon_len _
      have lv1 : v1.length ≤ 100000000 := by omega
      obtain ⟨t1, ht1⟩ : ∃ t, sz (In v1) = t := ⟨_, rfl⟩
      have bt1 := sz_span (In v1)
      rw [ht1] at bt1 HCS
      have HT1 := Lib.hid ht1
      clear hv1 ht1
      obtain ⟨v2, hv2⟩ : ∃ v, clockP (SA.filter (ofKind 2)) = v := ⟨_, rfl⟩
      rw [hv2] at HCS
      have HO2 := Lib.hid (HO.out 2)
      rw [hv2] at HO2
      have fv2 : Hid (Fits v2) := by rw [← hv2]; exact Fits.canon _
      have lw2 : v2.length ≤ 32054401 := by rw [← hv2]; exact canon_len _
      have lv2 : v2.length ≤ 100000000 := by omega
      obtain ⟨t2, ht2⟩ : ∃ t, sz (In v2) = t := ⟨_, rfl⟩
      have bt2 := sz_span (In v2)
      rw [ht2] at bt2 HCS
      have HT2 := Lib.hid ht2
      clear hv2 ht2
      obtain ⟨v3, hv3⟩ : ∃ v, clockP (SA.filter (ofKind 3)) = v := ⟨_, rfl⟩
      rw [hv3] at HCS
      have HO3 := Lib.hid (HO.out 3)
      rw [hv3] at HO3
      have fv3 : Hid (Fits v3) := by rw [← hv3]; exact Fits.canon _
      have lw3 : v3.length ≤ 32054401 := by rw [← hv3]; exact canon_len _
      have lv3 : v3.length ≤ 100000000 := by omega
      obtain ⟨t3, ht3⟩ : ∃ t, sz (In v3) = t := ⟨_, rfl⟩
      have bt3 := sz_span (In v3)
      rw [ht3] at bt3 HCS
      have HT3 := Lib.hid ht3
      clear hv3 ht3
      clear hb4 HW4 hv
      obtain ⟨cv, hcv⟩ : ∃ cv, sz (In v) = cv := ⟨_, rfl⟩
      rw [hcv] at HCS
      have b9 := sz_span (In v)
      rw [hcv] at b9
      obtain ⟨s1, hs1⟩ : ∃ s1, t0 + t1 = s1 := ⟨_, rfl⟩
      obtain ⟨s2, hs2⟩ : ∃ s2, s1 + t2 = s2 := ⟨_, rfl⟩
      have hcs := HCS.out
      have e1 : IntKind.i64.wrap (t0 + t1) = s1 := by rw [hs1]; exact wrapw_id (by omega) (by omega)
      have e2 : IntKind.i64.wrap (s1 + t2) = s2 := by rw [hs2]; exact wrapw_id (by omega) (by omega)
      have e3 : IntKind.i64.wrap (s2 + t3) = cv := by rw [wrapw_id (by omega) (by omega)]; omega
      have HCV := Lib.hid hcv
      clear hs1 hs2 hcs HCS hcv b9 bt0 bt1 bt2 bt3
      go_wp2_with fail
      refine (HC0.out _ HA.out).mono ?_
      rintro e w5 ⟨D5, d5, rfl, r5, b5⟩
      have HX5 := Lib.hid (r5.spans fv.out)
      clear r5
      replace HA := Lib.hid (HA.out.below b5)
      replace HW := Lib.hid (bel_on HW.out b5)
      clear b5
      go_wp2_with fail
      refine (size_any _ _ v _ HX5.out lv).mono ?_
      rw [HCV.out]
      rintro e w6 ⟨rfl, b6⟩
      clear HX5
      replace HA := Lib.hid (HA.out.below b6)
      replace HW := Lib.hid (bel_on HW.out b6)
      clear b6
      go_wp2_with fail
      refine (HO0.out _ HA.out).mono ?_
      rintro e x0 ⟨D5, d5, rfl, r5, b5⟩
      have HX5 := Lib.hid (r5.spans fv0.out)
      clear r5
      replace HA := Lib.hid (HA.out.below b5)
      replace HW := Lib.hid (bel_on HW.out b5)
      clear b5
      go_wp2_with fail
      refine (size_any _ _ v0 _ HX5.out lv0).mono ?_
      rw [HT0.out]
      rintro e y0 ⟨rfl, b6⟩
      clear HX5
      replace HA := Lib.hid (HA.out.below b6)
      replace HW := Lib.hid (bel_on HW.out b6)
      clear b6
      go_wp2_with fail
      refine (HO1.out _ HA.out).mono ?_
      rintro e x1 ⟨D5, d5, rfl, r5, b5⟩
      have HX5 := Lib.hid (r5.spans fv1.out)
      clear r5
      replace HA := Lib.hid (HA.out.below b5)
      replace HW := Lib.hid (bel_on HW.out b5)
      clear b5
      go_wp2_with fail
      refine (size_any _ _ v1 _ HX5.out lv1).mono ?_
      rw [HT1.out]
      rintro e y1 ⟨rfl, b6⟩
      clear HX5
      replace HA := Lib.hid (HA.out.below b6)
      replace HW := Lib.hid (bel_on HW.out b6)
      clear b6
      go_wp2_with fail
      refine (HO2.out _ HA.out).mono ?_
      rintro e x2 ⟨D5, d5, rfl, r5, b5⟩
      have HX5 := Lib.hid (r5.spans fv2.out)
      clear r5
      replace HA := Lib.hid (HA.out.below b5)
      replace HW := Lib.hid (bel_on HW.out b5)
      clear b5
      go_wp2_with fail
      refine (size_any _ _ v2 _ HX5.out lv2).mono ?_
      rw [HT2.out]
      rintro e y2 ⟨rfl, b6⟩
      clear HX5
      replace HA := Lib.hid (HA.out.below b6)
      replace HW := Lib.hid (bel_on HW.out b6)
      clear b6
      go_wp2_with fail
      refine (HO3.out _ HA.out).mono ?_
      rintro e x3 ⟨D5, d5, rfl, r5, b5⟩
      have HX5 := Lib.hid (r5.spans fv3.out)
      clear r5
      replace HA := Lib.hid (HA.out.below b5)
      replace HW := Lib.hid (bel_on HW.out b5)
      clear b5
      go_wp2_with fail
      refine (size_any _ _ v3 _ HX5.out lv3).mono ?_
      rw [HT3.out]
      rintro e y3 ⟨rfl, b6⟩
      clear HX5
      replace HA := Lib.hid (HA.out.below b6)
      replace HW := Lib.hid (bel_on HW.out b6)
      clear b6
      go_wp2
      go_ret
      exact ⟨by first | rfl | simp, HW.out⟩
theorem streamRises_walk (s : SetP) (A1 A2 A3 A4 A5 A6 : Option Addr) (c1 c2 c3 c4 c5 c6 : Nat) (a1 : Option Addr) (len1 cap1 : Nat) (z1 : List EvP) (wk : Int) (w : World) (hs : SetAt w s A1 A2 A3 A4 A5 A6 c1 c2 c3 c4 c5 c6) (hf : s.Fit)
    (s1 : Evs w a1 len1 cap1 z1) (i1 : ∀ e ∈ z1, e.In) (l1 : len1 ≤ cap1) (l1' : cap1 ≤ 9223372036854775807) (b1 : -9223372036854775808 ≤ wk) (b2 : wk ≤ 9223372036854775807) :
    Calls Try.prog 3 #[setV s A1 A2 A3 A4 A5 A6 c1 c2 c3 c4 c5 c6, .slice a1 len1 cap1, .int .i64 wk] w fun e w' => e = .returned (.bool true) ∧ Below w.heap.size w w' := by
  obtain ⟨cs, hcs⟩ : ∃ cs, setV s A1 A2 A3 A4 A5 A6 c1 c2 c3 c4 c5 c6 = .agg cs := ⟨_, rfl⟩
  have hW := setW_of hcs hs hf
  rw [hcs]
  cases hF : decide (s.Few ∧ len1 ≤ 100) with
  | false => exact streamRises_no s cs w hW a1 len1 cap1 z1 s1 i1 wk hF
  | true => exact streamRises_main s cs w hW a1 len1 cap1 z1 s1 i1 wk hF
end Go.Proofs.Ytbijaaglmhoopaa
