/-
  PerfWeeks: the seconds of all weeks together are those of direct work.
-/
import Derived.Test.YtpgncbhahocmbaaGreatQbd
import Derived.Test.YtpgncbhahocmbaaGreatQbe
import Derived.Test.YtpgncbhahocmbaaGreatQas
import Derived.Test.YtpgncbhahocmbaaGreatQba

import Derived.Test.YtpgncbhahocmbaaGreatStrSF
import Derived.Test.YtpgncbhahocmbaaGreatSpD
import Derived.Test.YtpgncbhahocmbaaGreatQav
import Derived.Test.YtpgncbhahocmbaaGreatQan
import Derived.Test.YtpgncbhahocmbaaGreatQao
import Derived.Test.YtpgncbhahocmbaaGreatQap
import Derived.Test.YtpgncbhahocmbaaGreatQar
import Derived.Deep.DeepCutAuto
namespace Go.Proofs.YtpgncbhahocmbaaGreat
open Go.RowKit
set_option linter.unusedVariables false
set_option linter.unusedSimpArgs false
set_option maxRecDepth 20000

structure Ob (a w : World) : Prop where
  b : Below a.heap.size a w
theorem Ob.below {a w w' : World} (h : Ob a w) (k : Below w.heap.size w w') : Ob a w' := ⟨bel_on h.b k⟩
theorem week_in {t : Int} (h0 : 0 ≤ t) (h1 : t < 32054400) : 0 ≤ weekP t ∧ weekP t < 53 := by
  unfold weekP secP timeP
  omega
/-- What a week tells of its seconds. -/
theorem week_done {s : SetP} (hb : checkB s = true) (wk k : Int) (l : List EvP) (hl : l.length ≤ 800) (hIn : ∀ e ∈ l, e.In) :
    (perfP true s wk k l).el = secsP (tasksP s wk k l) ∧ 0 ≤ secsP (tasksP s wk k l) ∧ secsP (tasksP s wk k l) ≤ 32054400 ∧ (0 < secsP (tasksP s wk k l) ↔ tasksP s wk k l ≠ []) ∧ (tasksP s wk k l = [] → (perfP true s wk k l).pn = 0 ∧ (perfP true s wk k l).pd = 1 ∧ (perfP true s wk k l).er = 0) := by
  have hF := (check_iff.1 hb).fault
  have hln := lost_len (mayS s) wk k l
  obtain ⟨hu, hb2⟩ := segsOf_up s wk l
  have hT : ∀ x ∈ tasksP s wk k l, 0 ≤ x.fr ∧ x.fr < x.to ∧ x.to ≤ 32054400 := fun x hx => hb2 x (List.mem_filter.1 hx).1
  have hsb : 0 ≤ secsP (tasksP s wk k l) ∧ secsP (tasksP s wk k l) ≤ 32054400 - 0 := secs_bd (hi := 32054400) (up_filter (ofWk k) hu) (fun x hx => (hb2 x (List.mem_filter.1 hx).1).2.2) (by omega)
  have hFl : 0 ≤ s.fault * (lostP (mayS s) wk k l : Int) ∧ s.fault * (lostP (mayS s) wk k l : Int) ≤ 2147483647 := by
    have hq : (lostP (mayS s) wk k l : Int) ≤ 800 := by omega
    have hq0 : 0 ≤ (lostP (mayS s) wk k l : Int) := by omega
    generalize (lostP (mayS s) wk k l : Int) = q at *
    refine ⟨?_, ?_⟩
    · exact Int.mul_nonneg hF.1 hq0
    · have := Int.mul_le_mul hF.2 hq hq0 (by omega)
      omega
  have hp : perfP true s wk k l = doneP (secsP (tasksP s wk k l)) (wrongP ((tasksP s wk k l).map (goalX s wk l))) (earnP s.fault ((tasksP s wk k l).map (goalX s wk l)) (lostP (mayS s) wk k l)) := by
    unfold perfP
    rw [if_pos rfl]
  refine ⟨by rw [hp, done_el], hsb.1, by omega, secs_pos (fun x hx => (hT x hx).2.1), fun h0 => ?_⟩
  rw [hp, h0]
  have := done_none hFl
  exact ⟨this.2.1, this.2.2, this.1⟩
theorem any_take (S : List SegP) (p : SegP → Bool) (i : Nat) (h : i < S.length) : (S.take (i + 1)).any p = ((S.take i).any p || p (S.getD i SegP.none)) := by
  rw [seg_take_snoc h, List.any_append]
  simp
theorem any_ne {S : List SegP} {p : SegP → Bool} : S.any p = true ↔ S.filter p ≠ [] := by
  constructor
  · intro h e
    obtain ⟨x, hx, hp⟩ := List.any_eq_true.1 h
    have : x ∈ S.filter p := List.mem_filter.2 ⟨hx, hp⟩
    rw [e] at this
    cases this
  · intro h
    cases e : S.filter p with
    | nil => exact absurd e h
    | cons x t =>
      have : x ∈ S.filter p := by rw [e]; simp
      exact List.any_eq_true.2 ⟨x, (List.mem_filter.1 this).1, (List.mem_filter.1 this).2⟩
theorem weeks_bd {S : List SegP} (hu : SegsUp 0 S) (hb : ∀ x ∈ S, x.to ≤ 32054400) : ∀ n : Nat, 0 ≤ weeksP S n ∧ weeksP S n ≤ 32054400 * n
  | 0 => by simp [weeksP]
  | n + 1 => by
    have h1 := weeks_bd hu hb n
    have h2 : 0 ≤ secsP (S.filter (ofWk n)) ∧ secsP (S.filter (ofWk n)) ≤ 32054400 - 0 := secs_bd (hi := 32054400) (up_filter (ofWk n) hu) (fun x hx => hb x (List.mem_filter.1 hx).1) (by omega)
    simp only [weeksP]
    push_cast
    omega
set_option maxHeartbeats 16000000 in
theorem perfWeeks_main (s : SetP) (cs : Array Value) (w : World) (hW : SetW w s cs) (A : Option Addr) (n c : Nat) (l : List EvP) (hx : Evs w A n c l) (hIn : ∀ e ∈ l, e.In) (wk : Int) :
    Calls Tryz.prog 5 #[.agg cs, .slice A n c, .int .i64 wk] w fun e w' => e = .returned (.bool true) ∧ Below w.heap.size w w' := by
  have HZ := Lib.hid hW.size
  obtain ⟨b, hb⟩ : ∃ b, checkB s = b := ⟨_, rfl⟩
  obtain ⟨q, hq⟩ : ∃ q, decide (s.Few ∧ n ≤ 60) = q := ⟨_, rfl⟩
  have HFEW := Lib.hid (fun W (hs : SetW W s cs) => few18 s cs W hs A n c q hq)
  have HCK := Lib.hid (fun W (hs : SetC W s cs) => scheck_c hs hW.f b hb)
  have HLN := Lib.hid hx.2
  have HBB := Lib.hid hb
  have HIN := Lib.hid hIn
  have HN0 := Lib.hid (dx_start hW hx)
  clear hW hx hb hIn
  go_enter Tryz.func5, Tryz.ntmps5
  go_wp2_with fail
  refine (awake18 _).mono ?_
  rintro e w1 ⟨rfl, b1⟩
  have HN1 := Lib.hid (HN0.out.below b1)
  clear b1 HN0
  go_wp2_with (refine wpList_exec (o := ⟨some 20, _, _, _, _, _⟩) (by rfl) (exec_load_st _ rfl rfl HN1.out.h HZ.out) ?_)
  refine (HFEW.out _ HN1.out.c).mono ?_
  rintro e w2 ⟨rfl, b2⟩
  have HN2 := Lib.hid (HN1.out.below b2)
  clear b2 HN1 HFEW
  cases q with
  | false =>
    clear HCK HBB
    have HE := Lib.hid HN2.out.b
    clear HN2 hq
    go_wp2
    go_ret
    exact ⟨rfl, HE.out⟩
  | true =>
    have h60 := (of_decide_eq_true hq).2
    clear hq
    go_wp2_with (refine wpList_exec (o := ⟨some 25, _, _, _, _, _⟩) (by rfl) (exec_load_st _ rfl rfl HN2.out.h HZ.out) ?_)
    refine (HCK.out _ HN2.out.c.c).mono ?_
    rintro e w3 ⟨rfl, b3⟩
    have HN3 := Lib.hid (HN2.out.below b3)
    clear b3 HN2 HCK
    cases b with
    | false =>
      clear HBB
      have HE := Lib.hid HN3.out.b
      clear HN3
      go_wp2
      go_ret
      exact ⟨rfl, HE.out⟩
    | true =>
      have HST := Lib.hid (fun W (hs : SetW W s cs) (hE : Evs W A n c l) => stream_any s cs W hs A n c l hE (by omega) HIN.out wk)
      have HWD := Lib.hid (fun k => week_done HBB.out wk k l (by rw [HLN.out]; omega) HIN.out)
      have HPC := Lib.hid (fun k W (hs : SetW W s cs) (hE : Evs W A n c l) => perf_c hs true HBB.out A n c l wk k hE (by omega) HIN.out)
      have hSL := segsOf_len s wk l
      have HUP := Lib.hid (segsOf_up s wk l)
      obtain ⟨S, hS⟩ : ∃ S, segsOf s wk l = S := ⟨_, rfl⟩
      obtain ⟨m, hm⟩ : ∃ m, S.length = m := ⟨_, rfl⟩
      have HTS : Hid (∀ k, tasksP s wk k l = S.filter (ofWk k)) := fun k => by unfold tasksP; rw [hS]
      rw [hS] at HST HUP hSL
      rw [hm, HLN.out] at hSL
      have hFit : ∀ x ∈ S, Fit x.fr ∧ Fit x.to := fun x hx => by have := HUP.out.2 x hx; exact ⟨⟨by omega, by omega⟩, ⟨by omega, by omega⟩⟩
      have HWB := Lib.hid (weeks_bd HUP.out.1 (fun x hx => (HUP.out.2 x hx).2.2))
      have HSZ : Hid (sz (In (clockP (S.filter (ofKind 1)))) = weeksP S 53) := by
        show _ = _
        unfold clockP
        rw [← szL_canon, canon_self (canon_plain _), szL_canon, sz_segs (up_filter (ofKind 1) HUP.out.1) (by omega) (fun x hx => (HUP.out.2 x (List.mem_filter.1 hx).1).2.2), weeks_all (fun x hx => week_in (HUP.out.2 x hx).1 (by have := HUP.out.2 x hx; omega))]
        rfl
      have HFF := Lib.hid hFit
      clear hS hFit
      go_wp2_with (refine wpList_exec (o := ⟨some 31, _, _, _, _, _⟩) (by rfl) (exec_load_st _ rfl rfl HN3.out.h HZ.out) ?_)
      refine (HST.out _ HN3.out.c HN3.out.x).mono ?_
      rintro e w4 ⟨C, d, C2, d2, rfl, hT⟩
      rw [hm]
      have HL4 : Hid (Segs w4 C m d S) := ⟨by rw [← hm]; exact Sl.of_own hT.a, hm⟩
      have HN4 := Lib.hid (HN3.out.below hT.bel)
      have HM := Lib.hid hm
      clear hT hm HN3 HST
      go_wp2_with fail
      refine (sonly_any C m d S 1 _ HL4.out (by omega) HFF.out).mono ?_
      rintro e w5 ⟨P, d5, rfl, hr5, hb5⟩
      have HP5 := Lib.hid (hr5.spans (.of_plain (canon_plain _)))
      have hxl := canon_len (InS (S.filter (ofKind 1)))
      have HL5 := Lib.hid (HL4.out.below hb5)
      have HN5 := Lib.hid (HN4.out.below hb5)
      have HXL : Hid ((clockP (S.filter (ofKind 1))).length ≤ 32054401) := hxl
      clear hr5 hb5 HL4 HN4 HFF hxl
      obtain ⟨xs, hxs⟩ : ∃ xs, clockP (S.filter (ofKind 1)) = xs := ⟨_, rfl⟩
      rw [hxs] at HP5 HSZ HXL
      rw [hxs]
      clear hxs
      go_wp2
      go_loopw [11, 12] (fun s11 s12 wr => ∃ k : Nat, k ≤ 53 ∧ s12 = .int .i64 k ∧ s11 = .int .i64 (weeksP S k) ∧ Hid (Below w5.heap.size w5 wr)) (fun _ i _ => 53 - (intOf i).toNat)
      case atStart => exact ⟨0, Nat.zero_le _, rfl, rfl, Below.refl _ _⟩
      case round =>
        obtain ⟨k, hk, rfl, rfl, HW⟩ := hrel
        have HN := Lib.hid (HN5.out.below HW.out)
        have HL := Lib.hid (HL5.out.below HW.out)
        have HP := Lib.hid (HP5.out.below HW.out)
        by_cases hlt : k < 53
        · have i1 : (k : Int) < 53 := by omega
          obtain ⟨D, hD⟩ : ∃ D, perfP true s wk (k : Int) l = D := ⟨_, rfl⟩
          have CP := Lib.hid (HPC.out (k : Int))
          have HD := Lib.hid (HWD.out (k : Int))
          have HTT := Lib.hid (HTS.out (k : Int))
          rw [hD] at CP HD
          rw [HTT.out] at HD
          obtain ⟨bh, hbh⟩ : ∃ bh, S.any (ofWk (k : Int)) = bh := ⟨_, rfl⟩
          have HBH := Lib.hid hbh
          have HO : Hid (Ob w5 wr) := ⟨HW.out⟩
          clear hD hbh HW HPC
          go_upto_region 10 with fail
          go_cut [13, 14, 15, 16] (fun v12 v13 v14 v15 wx => ∃ g12 g14 : Nat, v12 = .pointer (some ⟨g12, 0, none⟩) ∧ v13 = .int .i64 D.el ∧ v14 = .pointer (some ⟨g14, 0, none⟩) ∧ v15 = .int .i64 D.er ∧ Hid (Has wx g12 #[.int .i64 D.en, .int .i64 D.ed]) ∧ Hid (Has wx g14 #[.int .i64 D.pn, .int .i64 D.pd]) ∧ Hid (Dx w wx w.heap.size s cs A n c l) ∧ Hid (Segs wx C m d S) ∧ Hid (Spans wx P xs) ∧ Hid (Ob w5 wx))
          case first =>
            go_wp2_with (refine wpList_exec (o := ⟨some 44, _, _, _, _, _⟩) (by rfl) (exec_load_st _ rfl rfl HN.out.h HZ.out) ?_)
            refine (CP.out _ HN.out.c HN.out.x).mono ?_
            rintro e w3 ⟨rfl, b3⟩
            have t0 := HN.out.below b3
            have t1 := HL.out.below b3
            have t2 := HP.out.below b3
            have t3 := HO.out.below b3
            obtain ⟨w4, hw4⟩ : ∃ W, (w3.alloc (.cells #[.int .i64 0, .int .i64 0] 24)).alloc (.cells #[.int .i64 0, .int .i64 0] 24) = W := ⟨_, rfl⟩
            have b4 : Below w3.heap.size w3 w4 := by rw [← hw4]; exact bel_alloc (bel_alloc (Below.refl _ _) _) _
            have h12 : Has w4 w3.heap.size #[.int .i64 0, .int .i64 0] := by rw [← hw4]; exact (Has.new w3 _ _ rfl).alloc _
            have h14 : Has w4 (w3.heap.size + 1) #[.int .i64 0, .int .i64 0] := by rw [← hw4]; exact Has.new _ _ _ (by simp)
            obtain ⟨g12, hg12⟩ : ∃ g, w3.heap.size = g := ⟨_, rfl⟩
            rw [hg12] at h12 h14
            obtain ⟨g14, hg14⟩ : ∃ g, g12 + 1 = g := ⟨_, rfl⟩
            rw [hg14] at h14
            have q0 := h12.cell 0 rfl
            have q1 := h12.cell 1 rfl
            have q2 := h12.frozen 0
            have q3 := h12.frozen 1
            have ql := cell_lt q0
            have p0 := h14.cell 0 rfl
            have p1 := h14.cell 1 rfl
            have p2 := h14.frozen 0
            have p3 := h14.frozen 1
            have pl := cell_lt p0
            have hne : g12 < g14 := by omega
            obtain ⟨w5, hw5⟩ : ∃ W, (((w4.setCell ⟨g12, 0, none⟩ (.int .i64 D.en)).setCell ⟨g12, 1, none⟩ (.int .i64 D.ed)).setCell ⟨g14, 0, none⟩ (.int .i64 D.pn)).setCell ⟨g14, 1, none⟩ (.int .i64 D.pd) = W := ⟨_, rfl⟩
            have H12x : Hid (Has w5 g12 #[.int .i64 D.en, .int .i64 D.ed]) := by
              show Has _ _ _
              rw [← hw5]
              exact (((h12.set 0 _).set 1 _).far (p := ⟨g14, 0, none⟩) (by show g12 ≠ g14; omega) _).far (p := ⟨g14, 1, none⟩) (by show g12 ≠ g14; omega) _
            have H14x : Hid (Has w5 g14 #[.int .i64 D.pn, .int .i64 D.pd]) := by
              show Has _ _ _
              rw [← hw5]
              exact (((h14.far (p := ⟨g12, 0, none⟩) (by show g14 ≠ g12; omega) _).far (p := ⟨g12, 1, none⟩) (by show g14 ≠ g12; omega) _).set 0 _).set 1 _
            have b5 : Below w3.heap.size w3 w5 := by
              rw [← hw5]
              exact bel_set (bel_set (bel_set (bel_set b4 (by show _ ≤ g12; omega) _) (by show _ ≤ g12; omega) _) (by show _ ≤ g14; omega) _) (by show _ ≤ g14; omega) _
            have T0 := Lib.hid (t0.below b5)
            have T1 := Lib.hid (t1.below b5)
            have T2 := Lib.hid (t2.below b5)
            have T3 := Lib.hid (t3.below b5)
            clear h12 h14 b4 b5 b3 t0 t1 t2 t3 HN HL HP HO
            go_wp2_with fail
            go_meet
            exact ⟨g12, g14, rfl, rfl, rfl, rfl, H12x, H14x, T0, T1, T2, T3⟩
          case rest =>
            obtain ⟨g12, g14, rfl, rfl, rfl, rfl, H12, H14, HNx, HLx, HPx, HOx⟩ := hcut
            clear HN HL HP CP H12 HO
            have HN := HNx
            have HL := HLx
            have HP := HPx
            have HNB := Lib.hid HOx.out.b
            clear HNx HLx HPx HOx
            go_wp2
            go_loopw [17, 18] (fun s17 s18 wq => ∃ j : Nat, j ≤ m ∧ s18 = .int .i64 j ∧ s17 = .bool ((S.take j).any (ofWk (k : Int))) ∧ Hid (Below wc.heap.size wc wq)) (fun _ i _ => m - (intOf i).toNat)
            case atStart => exact ⟨0, Nat.zero_le _, rfl, rfl, Below.refl _ _⟩
            case round =>
              obtain ⟨j, hj, rfl, rfl, HWj⟩ := hrel
              by_cases hjt : j < m
              · have HLj := Lib.hid (HL.out.below HWj.out)
                have hjl : j < S.length := by rw [HM.out]; exact hjt
                obtain ⟨ba, oa, rfl⟩ := HLj.out.form (by omega)
                obtain ⟨x, hx⟩ : ∃ x, S.getD j SegP.none = x := ⟨_, rfl⟩
                obtain ⟨z0, z1, z2, z3, z4⟩ := segs_num HLj.out hjt x hx
                have zl := cell_lt z0
                have HAT := Lib.hid (any_take S (ofWk (k : Int)) j hjl)
                rw [hx] at HAT
                have i2 : (0 : Int) ≤ (j : Int) := by omega
                have i3 : (j : Int) < (m : Int) := by omega
                obtain ⟨bj, hbj⟩ : ∃ bj, (S.take j).any (ofWk (k : Int)) = bj := ⟨_, rfl⟩
                rw [hbj] at HAT ⊢
                clear hx hbj hjl HLj HN HP H14
                cases bj with
                | true =>
                  have HA2 : Hid ((S.take (j + 1)).any (ofWk (k : Int)) = true) := by show _ = _; rw [HAT.out]; rfl
                  clear HAT z0 z1 z2 z3 z4 zl
                  go_wp2
                  go_roundw
                  case rel => exact ⟨j + 1, by omega, by go_num, by rw [HA2.out], HWj⟩
                  case measure => simp [intOf]; omega
                | false =>
                  by_cases q1 : x.kd = 1
                  · have q1' : (x.kd == 1) = true := by simp [q1]
                    by_cases q2 : weekP x.fr = (k : Int)
                    · have q2' : (weekP x.fr == (k : Int)) = true := by simp [q2]
                      have HA2 : Hid ((S.take (j + 1)).any (ofWk (k : Int)) = true) := by show _ = _; rw [HAT.out]; unfold ofWk; simp [q1, q2]
                      clear HAT q1 q2
                      go_wp2_with fail
                      refine (week_any _ _).mono ?_
                      rintro e w' ⟨rfl, rfl⟩
                      go_wp2
                      go_roundw
                      case rel => exact ⟨j + 1, by omega, by go_num, by rw [HA2.out], HWj⟩
                      case measure => simp [intOf]; omega
                    · have q2' : (weekP x.fr == (k : Int)) = false := beq_eq_false_iff_ne.2 q2
                      have HA2 : Hid ((S.take (j + 1)).any (ofWk (k : Int)) = false) := by show _ = _; rw [HAT.out]; unfold ofWk; simp [q2]
                      clear HAT q1 q2
                      go_wp2_with fail
                      refine (week_any _ _).mono ?_
                      rintro e w' ⟨rfl, rfl⟩
                      go_wp2
                      go_roundw
                      case rel => exact ⟨j + 1, by omega, by go_num, by rw [HA2.out], HWj⟩
                      case measure => simp [intOf]; omega
                  · have q1' : (x.kd == 1) = false := beq_eq_false_iff_ne.2 q1
                    have HA2 : Hid ((S.take (j + 1)).any (ofWk (k : Int)) = false) := by show _ = _; rw [HAT.out]; unfold ofWk; simp [q1]
                    clear HAT q1
                    go_wp2
                    go_roundw
                    case rel => exact ⟨j + 1, by omega, by go_num, by rw [HA2.out], HWj⟩
                    case measure => simp [intOf]; omega
              · obtain rfl : j = m := by omega
                have e1 : S.take j = S := List.take_of_length_le (by rw [HM.out]; omega)
                rw [e1, HBH.out]
                have HWk := Lib.hid (bel_on HNB.out HWj.out)
                have hel0 := HD.out.1
                have hel1 := HD.out.2.1
                have hel2 := HD.out.2.2.1
                have hne := HD.out.2.2.2.1
                have hno := HD.out.2.2.2.2
                have hwk := HWB.out k
                have hws : weeksP S (k + 1) = weeksP S k + secsP (S.filter (ofWk (k : Int))) := rfl
                have HWS : Hid (weeksP S (k + 1) = weeksP S k + D.el) := by show _ = _; rw [hws, hel0]
                have hw1 : IntKind.i64.wrap (weeksP S k + D.el) = weeksP S k + D.el := by
                  rw [IntKind.wrap_i64]
                  rw [hel0]
                  have : (k : Int) ≤ 53 := by omega
                  omega
                cases bh with
                | true =>
                  have h1 : 0 < D.el := by rw [hel0]; exact hne.2 (any_ne.1 HBH.out)
                  have h2 : decide (D.el < 0) = false := decide_eq_false (by omega)
                  have h3 : decide (0 < D.el) = true := decide_eq_true h1
                  obtain ⟨el, hel⟩ : ∃ el, D.el = el := ⟨_, rfl⟩
                  rw [hel] at HWS hw1 h2 h3 ⊢
                  clear hel0 hel1 hel2 hne hno hws h1 hel HD HBH HN HL HP H14 HWj e1 hwk
                  go_wp2
                  go_roundw
                  case rel => exact ⟨k + 1, by omega, by go_num, by rw [HWS.out], HWk⟩
                  case measure => simp [intOf]; omega
                | false =>
                  have h0 : S.filter (ofWk (k : Int)) = [] := by
                    by_cases g : S.filter (ofWk (k : Int)) = []
                    · exact g
                    · have := any_ne.2 g
                      rw [HBH.out] at this
                      cases this
                  have h1 : D.el = 0 := by rw [hel0, h0]; rfl
                  obtain ⟨n1, n2, n3⟩ := hno h0
                  have H14b := H14.out.below HWj.out
                  rw [n1, n2] at H14b
                  have p0 := H14b.cell 0 rfl
                  have p1 := H14b.cell 1 rfl
                  have pl := cell_lt p0
                  have h2 : decide (D.el < 0) = false := decide_eq_false (by omega)
                  have h3 : decide (0 < D.el) = false := decide_eq_false (by omega)
                  rw [n3]
                  obtain ⟨el, hel⟩ : ∃ el, D.el = el := ⟨_, rfl⟩
                  rw [hel] at HWS hw1 h2 h3 ⊢
                  clear hel0 hel1 hel2 hne hno hws h1 h0 n1 n2 n3 hel HD HBH HN HL HP H14 H14b HWj e1 hwk
                  go_wp2
                  go_roundw
                  case rel => exact ⟨k + 1, by omega, by go_num, by rw [HWS.out], HWk⟩
                  case measure => simp [intOf]; omega

        · obtain rfl : k = 53 := by omega
          have HE := Lib.hid HN.out.b
          go_wp2_with fail
          refine (size_any P d5 xs _ HP.out (by have := HXL.out; omega)).mono ?_
          rw [HSZ.out]
          rintro e w9 ⟨rfl, b9⟩
          have HE9 := Lib.hid (bel_on HE.out b9)
          clear b9 HE HN HL HP HW
          go_wp2
          go_ret
          exact ⟨rfl, HE9.out⟩

theorem perfWeeks_walk (s : SetP) (A1 A2 A3 A4 A5 A6 : Option Addr) (c1 c2 c3 c4 c5 c6 : Nat) (a1 : Option Addr) (len1 cap1 : Nat) (z1 : List EvP) (wk : Int) (w : World) (hs : SetAt w s A1 A2 A3 A4 A5 A6 c1 c2 c3 c4 c5 c6) (hf : s.Fit) (w1 : Evs w a1 len1 cap1 z1) (i1 : ∀ e ∈ z1, e.In) (l1 : len1 ≤ cap1) (l1' : cap1 ≤ 9223372036854775807) (e0 : -9223372036854775808 ≤ wk) (e1 : wk ≤ 9223372036854775807) :
    Calls Tryz.prog 5 #[setV s A1 A2 A3 A4 A5 A6 c1 c2 c3 c4 c5 c6, .slice a1 len1 cap1, .int .i64 wk] w fun e w' => e = .returned (.bool true) ∧ Below w.heap.size w w' := by
  obtain ⟨cs, hcs⟩ : ∃ cs, setV s A1 A2 A3 A4 A5 A6 c1 c2 c3 c4 c5 c6 = .agg cs := ⟨_, rfl⟩
  have hW := setW_of hcs hs hf
  rw [hcs]
  exact perfWeeks_main s cs w hW a1 len1 cap1 z1 w1 i1 wk
end Go.Proofs.YtpgncbhahocmbaaGreat
