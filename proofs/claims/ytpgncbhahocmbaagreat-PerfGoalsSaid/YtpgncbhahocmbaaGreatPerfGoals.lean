/-
  PerfGoals: without faults what was earned is the sum of the goals of the week's tasks.
-/
import Derived.Test.YtpgncbhahocmbaaGreatQbd
import Derived.Test.YtpgncbhahocmbaaGreatQbe
import Derived.Test.YtpgncbhahocmbaaGreatQas
import Derived.Test.YtpgncbhahocmbaaGreatQba

import Derived.Test.YtpgncbhahocmbaaGreatQbc
import Derived.Test.YtpgncbhahocmbaaGreatQav
import Derived.Test.YtpgncbhahocmbaaGreatQan
import Derived.Test.YtpgncbhahocmbaaGreatQao
import Derived.Test.YtpgncbhahocmbaaGreatQap

import Derived.Test.YtpgncbhahocmbaaGreatQai
import Derived.Test.YtpgncbhahocmbaaGreatQar
import Derived.Test.YtpgncbhahocmbaaGreatQaz
import Derived.Test.YtpgncbhahocmbaaGreatQak
import Derived.Deep.DeepCutAuto
namespace Go.Proofs.YtpgncbhahocmbaaGreat
open Go.RowKit
set_option linter.unusedVariables false
set_option linter.unusedSimpArgs false
set_option maxRecDepth 20000

theorem divR_z' (a b c d : Int) : (divR a b c d).c ≠ 0 → (divR a b c d).n = 0 ∧ (divR a b c d).d = 0 := by unfold divR; split; exact mkR_z _ _; exact fun _ => ⟨rfl, rfl⟩
theorem done_bad {n e : Int} {X : Rat2} (h : (doneP n e X).er ≠ 0) : (doneP n e X).en = 0 ∧ (doneP n e X).ed = 0 ∧ (doneP n e X).pn = 0 ∧ (doneP n e X).pd = 0 := by
  unfold doneP at h ⊢
  split
  · exact ⟨rfl, rfl, rfl, rfl⟩
  · split
    · exact ⟨rfl, rfl, rfl, rfl⟩
    · split
      · rename_i h1 h2 h3
        rw [if_neg h1, if_neg h2, if_pos h3] at h
        exact absurd rfl h
      · split
        · exact ⟨rfl, rfl, rfl, rfl⟩
        · split
          · exact ⟨rfl, rfl, rfl, rfl⟩
          · rename_i h1 h2 h3 h4 h5
            rw [if_neg h1, if_neg h2, if_neg h3, if_neg h4, if_neg h5] at h
            exact absurd rfl h
/-- What a week without faults tells. -/
theorem goals_done {s : SetP} (hb : checkB s = true) (wk k : Int) (l : List EvP) (h7 : ∀ e ∈ l, e.kd ≠ 7) (D : DoneP) (hD : perfP true s wk k l = D) (X : Rat2) (hX : sumR (ratsP ((tasksP s wk k l).map (goalX s wk l))) = X) :
    (D.er ≠ 0 → D.en = 0 ∧ D.ed = 0 ∧ D.pn = 0 ∧ D.pd = 0) ∧ (D.er = 0 → X.c = 0 ∧ D.en = X.n ∧ D.ed = X.d ∧ (D.el = 0 ∧ D.pn = 0 ∧ D.pd = 1 ∨ 0 < D.el ∧ D.el ≤ 2147483647 ∧ mulR D.pn D.pd D.el 1 = ⟨X.n, X.d, 0⟩ ∧ ((-9223372036854775808 ≤ D.pn ∧ D.pn ≤ 9223372036854775807) ∧ (-9223372036854775808 ≤ D.pd ∧ D.pd ≤ 9223372036854775807)))) := by
  obtain ⟨hu, hb2⟩ := segsOf_up s wk l
  have hsb : 0 ≤ secsP (tasksP s wk k l) ∧ secsP (tasksP s wk k l) ≤ 32054400 - 0 := secs_bd (hi := 32054400) (up_filter (ofWk k) hu) (fun x hx => (hb2 x (List.mem_filter.1 hx).1).2.2) (by omega)
  have hp : D = doneP (secsP (tasksP s wk k l)) (wrongP ((tasksP s wk k l).map (goalX s wk l))) (earnP s.fault ((tasksP s wk k l).map (goalX s wk l)) 0) := by
    rw [← hD, ← lost_none (may := mayS s) (wk := wk) (k := k) h7]
    unfold perfP
    rw [if_pos rfl]
  have hel : D.el = secsP (tasksP s wk k l) := by rw [hp, done_el]
  refine ⟨fun h => by rw [hp] at h ⊢; exact done_bad h, fun h => ?_⟩
  rw [hp] at h
  obtain ⟨h1, h2, h3, h4, h5⟩ := done_ok (by omega) h
  have hs := earn_bad h2
  have he := earn_none (F := s.fault) (fun g hg => by obtain ⟨x, -, rfl⟩ := List.mem_map.1 hg; exact goal_nonneg) hs
  rw [← hp] at h3 h4 h5
  rw [he, hX] at h3 h4 h5
  rw [hX] at hs
  refine ⟨hs, h3, h4, ?_⟩
  rw [hel]
  rcases h5 with ⟨g1, g2, g3⟩ | ⟨g1, g2, g3, g4⟩
  · exact .inl ⟨g1, g2, g3⟩
  · refine .inr ⟨g1, by omega, ?_, ?_⟩
    · rw [g3, g4]
      exact gl_mul_back g1 (by omega) g2
    · rw [g3, g4]
      exact rat_i64 _ (divR_may _ _ _ _) (divR_z' _ _ _ _)
theorem pair_snoc {l : List EvP} {i : Nat} (h : i < l.length) (hp : (l.take i).Pairwise fun a b => a.id ≠ b.id) (hn : ∀ y ∈ l.take i, y.id ≠ (l.getD i EvP.none).id) : (l.take (i + 1)).Pairwise fun a b => a.id ≠ b.id := by
  rw [take_snoc_e h, List.pairwise_append]
  refine ⟨hp, by simp, fun a ha b hb => ?_⟩
  obtain rfl : b = l.getD i EvP.none := by simpa using hb
  exact hn a ha
theorem all_snoc18 {l : List EvP} {i : Nat} {p : EvP → Prop} (h : i < l.length) (hp : ∀ y ∈ l.take i, p y) (hn : p (l.getD i EvP.none)) : ∀ y ∈ l.take (i + 1), p y := fun y hy => by
  rw [take_snoc_e h] at hy
  rcases List.mem_append.1 hy with hy | hy
  · exact hp y hy
  · obtain rfl : y = l.getD i EvP.none := by simpa using hy
    exact hn
def idIs (i : Int) (e : EvP) : Bool := decide (e.id = i)
def rowsR (gs : List Rat2) : List (List Int) := gs.map fun g => [g.n, g.d]
theorem rowsR_snoc (gs : List Rat2) (g : Rat2) : rowsR (gs ++ [g]) = rowsR gs ++ [[g.n, g.d]] := by simp [rowsR]
structure Ob (a w : World) : Prop where
  b : Below a.heap.size a w
theorem Ob.below {a w w' : World} (h : Ob a w) (k : Below w.heap.size w w') : Ob a w' := ⟨bel_on h.b k⟩
set_option maxHeartbeats 16000000 in
theorem perfGoals_main (s : SetP) (cs : Array Value) (w : World) (hW : SetW w s cs) (A : Option Addr) (n c : Nat) (l : List EvP) (hx : Evs w A n c l) (hIn : ∀ e ∈ l, e.In) (hmax : n ≤ 9223372036854775807) (wk week : Int) :
    Calls Tryz.prog 7 #[.agg cs, .slice A n c, .int .i64 wk, .int .i64 week] w fun e w' => e = .returned (.bool true) ∧ Below w.heap.size w w' := by
  have mixed : Tryz.prog.follows Departure.mixedOrders = true := by kernel_rfl
  have HMX := Lib.hid mixed
  have HZ := Lib.hid hW.size
  obtain ⟨b, hb⟩ : ∃ b, checkB s = b := ⟨_, rfl⟩
  obtain ⟨q, hq⟩ : ∃ q, decide (s.Few ∧ n ≤ 60) = q := ⟨_, rfl⟩
  have HFEW := Lib.hid (fun W (hs : SetW W s cs) => few18 s cs W hs A n c q hq)
  have HCK := Lib.hid (fun W (hs : SetC W s cs) => scheck_c hs hW.f b hb)
  have HFT := Lib.hid hW.f
  have HLN := Lib.hid hx.2
  have HBB := Lib.hid hb
  have HIN := Lib.hid hIn
  have HN0 := Lib.hid (dx_start hW hx)
  clear hW hx hb hIn
  go_enter Tryz.func7, Tryz.ntmps7
  go_wp2_with fail
  refine (awake18 _).mono ?_
  rintro e w1 ⟨rfl, b1⟩
  have HN1 := Lib.hid (HN0.out.below b1)
  clear b1 HN0
  go_wp2_with (refine wpList_exec (o := ⟨some 30, _, _, _, _, _⟩) (by rfl) (exec_load_st _ rfl rfl HN1.out.h HZ.out) ?_)
  refine (HFEW.out _ HN1.out.c).mono ?_
  rintro e w2 ⟨rfl, b2⟩
  have HN2 := Lib.hid (HN1.out.below b2)
  clear b2 HN1 HFEW
  cases q with
  | false =>
    have HE := Lib.hid HN2.out.b
    clear HN2 hq HCK HBB
    go_wp2
    go_ret
    exact ⟨rfl, HE.out⟩
  | true =>
    have h60 := (of_decide_eq_true hq).2
    clear hq
    go_wp2_with (refine wpList_exec (o := ⟨some 35, _, _, _, _, _⟩) (by rfl) (exec_load_st _ rfl rfl HN2.out.h HZ.out) ?_)
    refine (HCK.out _ HN2.out.c.c).mono ?_
    rintro e w3 ⟨rfl, b3⟩
    have HN3 := Lib.hid (HN2.out.below b3)
    clear b3 HN2 HCK
    cases b with
    | false =>
      clear HBB
      have HE := Lib.hid HN3.out.b
      clear HN3
      go_wp2
      go_ret
      exact ⟨rfl, HE.out⟩
    | true =>
      go_wp2
      go_loopw [10] (fun s10 wr => ∃ i : Nat, i ≤ n ∧ s10 = .int .i64 i ∧ Hid ((l.take i).Pairwise fun a b => a.id ≠ b.id) ∧ Hid (∀ e ∈ l.take i, e.kd ≠ 7) ∧ Hid (Below w3.heap.size w3 wr)) (fun i _ => n - (intOf i).toNat)
      case atStart => exact ⟨0, Nat.zero_le _, rfl, Lib.hid (by simp), Lib.hid (by simp), Below.refl _ _⟩
      case round =>
        obtain ⟨i, hi, rfl, HPW, H7, HW⟩ := hrel
        by_cases hlt : i < n
        · have hil : i < l.length := by rw [HLN.out]; exact hlt
          have HLo := Lib.hid (HN3.out.x.below HW.out)
          have HA : Hid (∃ b off, A = some ⟨b, off, none⟩) := HLo.out.form (by omega)
          obtain ⟨x, hx⟩ : ∃ x, l.getD i EvP.none = x := ⟨_, rfl⟩
          have HX := Lib.hid hx
          have i0 : (0 : Int) ≤ (i : Int) := by omega
          have i1 : (i : Int) < (n : Int) := by omega
          have HWO := HW
          clear hx HW
          generalize wr = wo at *
          go_wp2
          go_loopw [11] (fun s11 wq => ∃ k : Nat, k ≤ i ∧ s11 = .int .i64 k ∧ Hid (∀ y ∈ l.take k, y.id ≠ x.id) ∧ Hid (Below wo.heap.size wo wq)) (fun k _ => i - (intOf k).toNat)
          case atStart => exact ⟨0, Nat.zero_le _, rfl, Lib.hid (by simp), Below.refl _ _⟩
          case round =>
            obtain ⟨k, hk, rfl, HID, HW⟩ := hrel
            have HLr := Lib.hid (HLo.out.below HW.out)
            have HE0 := Lib.hid (bel_on HWO.out HW.out)
            obtain ⟨ba, oa, hA⟩ := HA.out
            subst hA
            obtain ⟨x0, x1, x2, x3, x4⟩ := evs_num HLr.out hlt x HX.out
            have xl := cell_lt x0
            by_cases hkt : k < i
            · have k0 : (0 : Int) ≤ (k : Int) := by omega
              have k1 : (k : Int) < (i : Int) := by omega
              have k2 : (k : Int) < (n : Int) := by omega
              have hkl : k < l.length := by rw [HLN.out]; omega
              obtain ⟨y, hy⟩ : ∃ y, l.getD k EvP.none = y := ⟨_, rfl⟩
              obtain ⟨y0, y1, y2, y3, y4⟩ := evs_num HLr.out (show k < n by omega) y hy
              have HSN := Lib.hid (all_snoc18 (p := fun y => y.id ≠ x.id) hkl HID.out)
              rw [hy] at HSN
              clear hy hkl x1 x2 x3 x4 y1 y2 y3 y4
              by_cases q : y.id = x.id
              · have q' : (y.id == x.id) = true := by simpa using q
                have HE := Lib.hid (bel_on HN3.out.b HE0.out)
                clear q HSN
                go_wp2
                go_quiet (fail)
                go_wp2
                go_ret
                exact ⟨rfl, below_drewN HE.out _⟩
              · have q' : (y.id == x.id) = false := beq_eq_false_iff_ne.2 q
                have HS2 := Lib.hid (HSN.out q)
                clear q HSN
                go_wp2
                go_quiet (fail)
                go_wp2
                go_roundw
                case rel => exact ⟨k + 1, by omega, by go_num, HS2, below_drewN HW.out _⟩
                case measure => simp [intOf]; omega
            · obtain rfl : k = i := by omega
              have HPN := Lib.hid (pair_snoc hil HPW.out (by rw [HX.out]; exact HID.out))
              by_cases q7 : x.kd = 7
              · have q7' : (x.kd == 7) = true := by simpa using q7
                have HE := Lib.hid (bel_on HN3.out.b HE0.out)
                clear q7
                go_wp2
                go_ret
                exact ⟨rfl, HE.out⟩
              · have q7' : (x.kd == 7) = false := beq_eq_false_iff_ne.2 q7
                have H7N := Lib.hid (all_snoc18 (p := fun y => y.kd ≠ 7) hil H7.out (by rw [HX.out]; exact q7))
                clear q7
                go_wp2
                go_roundw
                case rel => exact ⟨k + 1, by omega, by go_num, HPN, H7N, HE0⟩
                case measure => simp [intOf]; omega
        · obtain rfl : i = n := by omega
          have e1 : l.take i = l := List.take_of_length_le (by rw [HLN.out]; omega)
          have hpw := HPW.out
          have h7 := H7.out
          rw [e1] at hpw h7
          have HPL := Lib.hid hpw
          have H7L := Lib.hid h7
          have HN5 := Lib.hid (HN3.out.below HW.out)
          clear e1 hpw h7 HPW H7 HN3
          have HST := Lib.hid (fun W (hs : SetW W s cs) (hE : Evs W A i c l) => stream_any s cs W hs A i c l hE (by omega) HIN.out wk)
          have HUP := Lib.hid (segsOf_up s wk l)
          have hSL := segsOf_len s wk l
          have HGL0 := Lib.hid (goals_law (s := s) (wk := wk) (k := week) HPL.out)
          have CP0 := Lib.hid (fun W (hs : SetW W s cs) (hE : Evs W A i c l) => perf_c hs true HBB.out A i c l wk week hE (by omega) HIN.out)
          have HGD := Lib.hid (goals_done HBB.out wk week l H7L.out)
          obtain ⟨gx, hgx⟩ : ∃ gx, goalX s wk l = gx := ⟨_, rfl⟩
          have HGI0 : Hid (∀ x : SegP, In64 (gx x).n ∧ In64 (gx x).d) := fun x => by rw [← hgx]; exact goal_in64
          obtain ⟨S, hS⟩ : ∃ S, segsOf s wk l = S := ⟨_, rfl⟩
          obtain ⟨m, hm⟩ : ∃ m, S.length = m := ⟨_, rfl⟩
          have HTS : Hid (tasksP s wk week l = S.filter (ofWk week)) := by show _ = _; unfold tasksP; rw [hS]
          rw [hS] at HST HUP hSL
          rw [hm, HLN.out] at hSL
          rw [HTS.out] at HGL0 HGD
          rw [hgx] at HGL0 HGD
          clear hS hgx H7L HPL HTS
          go_wp2_with (refine wpList_exec (o := ⟨some 71, _, _, _, _, _⟩) (by rfl) (exec_load_st _ rfl rfl HN5.out.h HZ.out) ?_)
          refine (HST.out _ HN5.out.c HN5.out.x).mono ?_
          rintro e w6 ⟨C, d6, C2, d62, rfl, hT⟩
          rw [hm]
          have HL6 : Hid (Segs w6 C m d6 S) := ⟨by rw [← hm]; exact Sl.of_own hT.a, hm⟩
          have HN6 := Lib.hid (HN5.out.below hT.bel)
          have HMM := Lib.hid hm
          clear hT hm HN5 HST
          generalize i = n at *
          go_wp2
          go_loopw [14, 15] (fun s14 s15 wr => ∃ (i q d : Nat) (B : Option Addr), i ≤ m ∧ s15 = .int .i64 i ∧ s14 = .slice B q d ∧ q ≤ i ∧ Hid ((((S.take i).filter (ofWk week)).map gx).length = q) ∧ Hid (TRow 24 2 wr w6.heap.size B q d (rowsR (((S.take i).filter (ofWk week)).map gx))) ∧ Hid (Below w6.heap.size w6 wr)) (fun _ i _ => m - (intOf i).toNat)
          case atStart => exact ⟨0, 0, 0, none, Nat.zero_le _, rfl, rfl, Nat.le_refl _, Lib.hid (by simp), Lib.hid (by rw [List.take_zero]; exact TRow.nil _ _), Below.refl _ _⟩
          case round =>
            obtain ⟨i, q0, d0, B0, hi, rfl, rfl, hq0, HQ0, HR0, HWO⟩ := hrel
            by_cases hlt : i < m
            · have hil : i < S.length := by rw [HMM.out]; exact hlt
              have HCC : Hid (∃ b off, C = some ⟨b, off, none⟩) := HL6.out.form (by omega)
              obtain ⟨x, hx⟩ : ∃ x, S.getD i SegP.none = x := ⟨_, rfl⟩
              have HX := Lib.hid hx
              have HNX := Lib.hid (take_ofwk week S i hil)
              rw [hx] at HNX
              have hxm : x ∈ S := by rw [← hx]; simp [List.getD, hil]
              have i0 : (0 : Int) ≤ (i : Int) := by omega
              have i1 : (i : Int) < (m : Int) := by omega
              clear hx hil
              obtain ⟨Gi, hGi⟩ : ∃ Gi, ((S.take i).filter (ofWk week)).map gx = Gi := ⟨_, rfl⟩
              rw [hGi] at HQ0 HR0
              generalize wr = wo at *
              by_cases g1 : x.kd = 1
              · have g1' : (x.kd == 1) = true := by simpa using g1
                by_cases g2 : weekP x.fr = week
                · have g2' : (weekP x.fr == week) = true := by simpa using g2
                  have HK := Lib.hid (And.intro g1 g2)
                  have HGL : Hid (ofWk week x = true → (l.filter (idIs x.id)).map (goalE s) = [gx x]) := fun h => HGL0.out x (List.mem_filter.2 ⟨hxm, h⟩)
                  have HGN : Hid (Gi ++ [gx x] = ((S.take (i + 1)).filter (ofWk week)).map gx) := by show _ = _; rw [HNX.out, if_pos (by unfold ofWk; simp [g1, g2]), List.map_append, hGi]; rfl
                  clear g1 g2 hGi hxm HNX HGL0 HGD
                  go_wp2
                  go_loopw [14, 16] (fun s14 s16 wq => ∃ (k q_ d : Nat) (B : Option Addr), k ≤ n ∧ s16 = .int .i64 k ∧ s14 = .slice B q_ d ∧ q_ ≤ i + k ∧ Hid ((Gi ++ ((l.take k).filter (idIs x.id)).map (goalE s)).length = q_) ∧ Hid (TRow 24 2 wq w6.heap.size B q_ d (rowsR (Gi ++ ((l.take k).filter (idIs x.id)).map (goalE s)))) ∧ Hid (Below w6.heap.size w6 wq)) (fun _ k _ => n - (intOf k).toNat)
                  case atStart => exact ⟨0, q0, d0, B0, Nat.zero_le _, rfl, rfl, by omega, Lib.hid (by simp only [List.take_zero, List.filter_nil, List.map_nil, List.append_nil]; exact HQ0.out), Lib.hid (by simp only [List.take_zero, List.filter_nil, List.map_nil, List.append_nil]; exact HR0.out), HWO⟩
                  case round =>
                    obtain ⟨k, q_, d, B, hk, rfl, rfl, hqk, HQ, HR, HW⟩ := hrel
                    have HSr := Lib.hid (HL6.out.below HW.out)
                    obtain ⟨bs, os, hC⟩ := HCC.out
                    subst hC
                    obtain ⟨z0, z1, z2, z3, z4⟩ := segs_num HSr.out hlt x HX.out
                    have zl := cell_lt z0
                    by_cases hkt : k < n
                    · have k0 : (0 : Int) ≤ (k : Int) := by omega
                      have k1 : (k : Int) < (n : Int) := by omega
                      have hkl : k < l.length := by rw [HLN.out]; exact hkt
                      have HLr := Lib.hid (HN6.out.x.below HW.out)
                      have HGr := Lib.hid (HN6.out.h.below HW.out)
                      have HCr := Lib.hid (HN6.out.c.c.below HW.out)
                      obtain ⟨ba, oa, rfl⟩ := HLr.out.form (by omega)
                      obtain ⟨y, hy⟩ : ∃ y, l.getD k EvP.none = y := ⟨_, rfl⟩
                      obtain ⟨y0, y1, y2, y3, y4⟩ := evs_num HLr.out hkt y hy
                      have yl := cell_lt y0
                      have HY := Lib.hid hy
                      have HNX := Lib.hid (in_filter (idIs x.id) l k hkl)
                      rw [hy] at HNX
                      have hyi : y.In := HIN.out y (by rw [← hy]; simp [List.getD, hkl])
                      have HGY := Lib.hid (fun W (hs : SetC W s cs) => gof_any hs HFT.out y hyi (goalE s y) rfl)
                      have HGI : Hid (In64 (goalE s y).n ∧ In64 (goalE s y).d) := goal_in64
                      clear hy hkl hyi y1 y2 y3 y4
                      by_cases q : y.id = x.id
                      · have q' : (y.id == x.id) = true := by simpa using q
                        have e1 : Gi ++ ((l.take (k + 1)).filter (idIs x.id)).map (goalE s) = (Gi ++ ((l.take k).filter (idIs x.id)).map (goalE s)) ++ [goalE s y] := by rw [HNX.out, if_pos (by unfold idIs; simpa using q), List.map_append, List.map_cons, List.map_nil, List.append_assoc]
                        have HE1 := Lib.hid e1
                        obtain ⟨G, hG⟩ : ∃ G, Gi ++ ((l.take k).filter (idIs x.id)).map (goalE s) = G := ⟨_, rfl⟩
                        rw [hG] at HQ HR HE1
                        clear e1 HNX q hG
                        go_wp2_with fail
                        refine (week_any _ _).mono ?_
                        rintro e w' ⟨rfl, rfl⟩
                        clear z1 z2 z4
                        go_wp2
                        go_quiet (fail)
                        clear z0 z3 zl y0 yl
                        have hb11 : Below wr.heap.size wr (wr.drewN nq) := below_drewN (Below.refl _ _) _
                        replace HLr := Lib.hid (HLr.out.below hb11)
                        replace HGr := Lib.hid (HGr.out.below hb11)
                        replace HCr := Lib.hid (HCr.out.below hb11)
                        replace HW := Lib.hid (bel_on HW.out hb11)
                        replace HR := Lib.hid (HR.out.below hb11)
                        clear hb11 HSr
                        generalize wr.drewN nq = wv at *
                        go_upto_region 23 with fail
                        go_cut [17] (fun v17 wx => ∃ g : Nat, v17 = .pointer (some ⟨g, 0, none⟩) ∧ Has wx g #[.int .i64 (goalE s y).n, .int .i64 (goalE s y).d] ∧ Below wv.heap.size wv wx)
                        case first =>
                          go_wp2_with fail
                          refine wp_region_noPanic ?_
                          refine wp_region_held_drew (S := fun w' => Below wv.heap.size wv w') (by kernel_rfl) (below_drew (Below.refl _ _)) (fun hHeld => ?_)
                          refine wpAnyH_take (i := 0) (oi := ⟨some 119, _, _, _, _, _⟩) (v := .agg cs) rfl (by kernel_rfl) (by kernel_rfl) (by kernel_rfl) (fun _ _ _ h => h) (Or.inl ⟨by rfl, ?_⟩) hHeld ?_
                          · intro ww hSw
                            (try dsimp only at hSw)
                            exact exec_load_st _ rfl rfl (HGr.out.below hSw) HZ.out
                          simp only [Act.put, List.setIfInBounds_toArray, List.set_cons_zero, List.set_cons_succ]
                          refine wpAnyH_take (i := 1) (oi := ⟨some 120, _, _, _, _, _⟩) (v := ?_) rfl (by kernel_rfl) (by kernel_rfl) (by kernel_rfl) (fun _ _ _ h => h) (Or.inl ⟨by rfl, ?_⟩) hHeld ?_
                          rotate_left
                          · intro ww hSw
                            (try dsimp only at hSw)
                            go_simp
                            (try with_reducible rfl)
                          simp only [Act.put, List.setIfInBounds_toArray, List.set_cons_zero, List.set_cons_succ]
                          refine wpAnyH_take (i := 2) (oi := ⟨some 121, _, _, _, _, _⟩) (v := ?_) rfl (by kernel_rfl) (by kernel_rfl) (by kernel_rfl) (fun _ _ _ h => h) (Or.inl ⟨by rfl, ?_⟩) hHeld ?_
                          rotate_left
                          · intro ww hSw
                            (try dsimp only at hSw)
                            go_simp
                            (try with_reducible rfl)
                          simp only [Act.put, List.setIfInBounds_toArray, List.set_cons_zero, List.set_cons_succ]
                          refine wpAnyH_take (i := 3) (oi := ⟨some 122, _, _, _, _, _⟩) (v := .pointer (some ⟨ba, oa + k * 11, none⟩)) rfl (by kernel_rfl) (by kernel_rfl) (by kernel_rfl) (fun _ _ _ h => h) (Or.inl ⟨by rfl, ?_⟩) hHeld ?_
                          · intro ww hSw
                            (try dsimp only at hSw)
                            go_simp
                          simp only [Act.put, List.setIfInBounds_toArray, List.set_cons_zero, List.set_cons_succ]
                          refine wpAnyH_take (i := 4) (oi := ⟨some 123, _, _, _, _, _⟩) (v := .agg (evC y)) rfl (by kernel_rfl) (by kernel_rfl) (by kernel_rfl) (fun _ _ _ h => h) (Or.inl ⟨by rfl, ?_⟩) hHeld ?_
                          · intro ww hSw
                            (try dsimp only at hSw)
                            rw [← HY.out]
                            exact exec_load_at _ rfl rfl (evs_load (HLr.out.below hSw) (by omega))
                          simp only [Act.put, List.setIfInBounds_toArray, List.set_cons_zero, List.set_cons_succ]
                          have hbd : Below wv.heap.size wv wv.drew := below_drew (Below.refl _ _)
                          generalize wv.drew = wd at *
                          refine wpAnyH_ready (rs := [5, 9]) (by kernel_rfl) (by simp) ?_
                          refine AllReadyH.cons (o := ⟨some 124, _, _, _, _, _⟩) rfl (fun K hK => ?_) (AllReadyH.cons (o := ⟨some 17, _, _, _, _, _⟩) rfl (fun K hK => ?_) AllReadyH.nil)
                          · skip
                            go_simp
                            go_at_call 24
                            refine (HGY.out _ (HCr.out.below hbd)).mono ?_
                            rintro e_r x1 ⟨rfl, hbn⟩
                            have hb1 : Below wv.heap.size wv x1 := bel_on hbd hbn
                            clear hbn
                            go_wp2_with fail
                            refine hK.out _ _ ?_ (fun hHeld => ?_)
                            · (try dsimp only)
                              exact hb1
                            clear hK K
                            (try simp only [Act.put, List.setIfInBounds_toArray, List.set_cons_zero, List.set_cons_succ])
                            refine wpAnyH_take (i := 6) (oi := ⟨some 118, _, _, _, _, _⟩) (v := ?_) rfl (by kernel_rfl) (by kernel_rfl) (by kernel_rfl) (fun _ _ _ h => h) (Or.inl ⟨by rfl, ?_⟩) hHeld ?_
                            rotate_left
                            · intro ww hSw
                              (try dsimp only at hSw)
                              go_simp
                              (try with_reducible rfl)
                            simp only [Act.put, List.setIfInBounds_toArray, List.set_cons_zero, List.set_cons_succ]
                            refine wpAnyH_take (i := 7) (oi := ⟨some 125, _, _, _, _, _⟩) (v := ?_) rfl (by kernel_rfl) (by kernel_rfl) (by kernel_rfl) (fun _ _ _ h => h) (Or.inl ⟨by rfl, ?_⟩) hHeld ?_
                            rotate_left
                            · intro ww hSw
                              (try dsimp only at hSw)
                              go_simp
                              (try with_reducible rfl)
                            simp only [Act.put, List.setIfInBounds_toArray, List.set_cons_zero, List.set_cons_succ]
                            refine wpAnyH_take (i := 8) (oi := ⟨some 126, _, _, _, _, _⟩) (v := ?_) rfl (by kernel_rfl) (by kernel_rfl) (by kernel_rfl) (fun _ _ _ h => h) (Or.inl ⟨by rfl, ?_⟩) hHeld ?_
                            rotate_left
                            · intro ww hSw
                              (try dsimp only at hSw)
                              go_simp
                              (try with_reducible rfl)
                            simp only [Act.put, List.setIfInBounds_toArray, List.set_cons_zero, List.set_cons_succ]
                            refine wpAnyH_ready (rs := [9]) (by kernel_rfl) (by simp) ?_
                            refine AllReadyH.cons (o := ⟨some 17, _, _, _, _, _⟩) rfl (fun K hK => ?_) AllReadyH.nil
                            go_simp
                            refine hK.out _ _ ?_ (fun hHeld => ?_)
                            · (try dsimp only)
                              exact bel_alloc hb1 _
                            clear hK K
                            (try simp only [Act.put, List.setIfInBounds_toArray, List.set_cons_zero, List.set_cons_succ])
                            have HQ2 : Hid (Has (x1.alloc (.cells #[.int .i64 0, .int .i64 0] 24)) x1.heap.size #[.int .i64 0, .int .i64 0]) := Has.new _ _ _ rfl
                            have hg2 : wv.heap.size ≤ x1.heap.size := hb1.size
                            have hb2 := bel_alloc hb1 (.cells #[.int .i64 0, .int .i64 0] 24)
                            generalize x1.alloc (.cells #[.int .i64 0, .int .i64 0] 24) = x2 at *
                            have s0 := HQ2.out.cell 0 rfl
                            have s1 := HQ2.out.cell 1 rfl
                            have s2 := HQ2.out.frozen 0
                            have s3 := HQ2.out.frozen 1
                            have sl := cell_lt s0
                            refine wpAnyH_ready (rs := [10]) (by kernel_rfl) (by simp) ?_
                            refine AllReadyH.cons (o := ⟨none, _, _, _, _, _⟩) rfl (fun K hK => ?_) AllReadyH.nil
                            go_simp
                            refine hK.out _ _ ?_ (fun hHeld => ?_)
                            · (try dsimp only)
                              exact bel_set (bel_set hb2 hg2 _) hg2 _
                            clear hK K
                            (try simp only [Act.put, List.setIfInBounds_toArray, List.set_cons_zero, List.set_cons_succ])
                            refine wpAnyH_take (i := 11) (oi := ⟨some 18, _, _, _, _, _⟩) (v := ?_) rfl (by kernel_rfl) (by kernel_rfl) (by kernel_rfl) (fun _ _ _ h => h) (Or.inl ⟨by rfl, ?_⟩) hHeld ?_
                            rotate_left
                            · intro ww hSw
                              (try dsimp only at hSw)
                              go_simp
                              (try with_reducible rfl)
                            simp only [Act.put, List.setIfInBounds_toArray, List.set_cons_zero, List.set_cons_succ]
                            refine wpAnyH_done (by kernel_rfl) ?_ _
                            refine NoPanic.normal ?_
                            clear s0 s1 s2 s3 sl
                            go_wp2
                            go_meet
                            exact ⟨x1.heap.size, rfl, (HQ2.out.set 0 _).set 1 _, bel_set (bel_set hb2 hg2 _) hg2 _⟩
                          · skip
                            go_simp
                            refine hK.out _ _ ?_ (fun hHeld => ?_)
                            · (try dsimp only)
                              exact bel_alloc hbd _
                            clear hK K
                            (try simp only [Act.put, List.setIfInBounds_toArray, List.set_cons_zero, List.set_cons_succ])
                            have HQ3 : Hid (Has (wd.alloc (.cells #[.int .i64 0, .int .i64 0] 24)) wd.heap.size #[.int .i64 0, .int .i64 0]) := Has.new _ _ _ rfl
                            have hg3 : wv.heap.size ≤ wd.heap.size := hbd.size
                            have hb3 := bel_alloc hbd (.cells #[.int .i64 0, .int .i64 0] 24)
                            generalize wd.alloc (.cells #[.int .i64 0, .int .i64 0] 24) = x3 at *
                            refine wpAnyH_ready (rs := [5]) (by kernel_rfl) (by simp) ?_
                            refine AllReadyH.cons (o := ⟨some 124, _, _, _, _, _⟩) rfl (fun K hK => ?_) AllReadyH.nil
                            go_simp
                            go_at_call 24
                            refine (HGY.out _ (HCr.out.below hb3)).mono ?_
                            rintro e_r x4 ⟨rfl, hbn⟩
                            have hb4 : Below wv.heap.size wv x4 := bel_on hb3 hbn
                            have HQ4 := Lib.hid (HQ3.out.below hbn)
                            clear hbn
                            go_wp2_with fail
                            refine hK.out _ _ ?_ (fun hHeld => ?_)
                            · (try dsimp only)
                              exact hb4
                            clear hK K
                            (try simp only [Act.put, List.setIfInBounds_toArray, List.set_cons_zero, List.set_cons_succ])
                            refine wpAnyH_take (i := 6) (oi := ⟨some 118, _, _, _, _, _⟩) (v := ?_) rfl (by kernel_rfl) (by kernel_rfl) (by kernel_rfl) (fun _ _ _ h => h) (Or.inl ⟨by rfl, ?_⟩) hHeld ?_
                            rotate_left
                            · intro ww hSw
                              (try dsimp only at hSw)
                              go_simp
                              (try with_reducible rfl)
                            simp only [Act.put, List.setIfInBounds_toArray, List.set_cons_zero, List.set_cons_succ]
                            refine wpAnyH_take (i := 7) (oi := ⟨some 125, _, _, _, _, _⟩) (v := ?_) rfl (by kernel_rfl) (by kernel_rfl) (by kernel_rfl) (fun _ _ _ h => h) (Or.inl ⟨by rfl, ?_⟩) hHeld ?_
                            rotate_left
                            · intro ww hSw
                              (try dsimp only at hSw)
                              go_simp
                              (try with_reducible rfl)
                            simp only [Act.put, List.setIfInBounds_toArray, List.set_cons_zero, List.set_cons_succ]
                            refine wpAnyH_take (i := 8) (oi := ⟨some 126, _, _, _, _, _⟩) (v := ?_) rfl (by kernel_rfl) (by kernel_rfl) (by kernel_rfl) (fun _ _ _ h => h) (Or.inl ⟨by rfl, ?_⟩) hHeld ?_
                            rotate_left
                            · intro ww hSw
                              (try dsimp only at hSw)
                              go_simp
                              (try with_reducible rfl)
                            simp only [Act.put, List.setIfInBounds_toArray, List.set_cons_zero, List.set_cons_succ]
                            have s0 := HQ4.out.cell 0 rfl
                            have s1 := HQ4.out.cell 1 rfl
                            have s2 := HQ4.out.frozen 0
                            have s3 := HQ4.out.frozen 1
                            have sl := cell_lt s0
                            refine wpAnyH_ready (rs := [10]) (by kernel_rfl) (by simp) ?_
                            refine AllReadyH.cons (o := ⟨none, _, _, _, _, _⟩) rfl (fun K hK => ?_) AllReadyH.nil
                            go_simp
                            refine hK.out _ _ ?_ (fun hHeld => ?_)
                            · (try dsimp only)
                              exact bel_set (bel_set hb4 hg3 _) hg3 _
                            clear hK K
                            (try simp only [Act.put, List.setIfInBounds_toArray, List.set_cons_zero, List.set_cons_succ])
                            refine wpAnyH_take (i := 11) (oi := ⟨some 18, _, _, _, _, _⟩) (v := ?_) rfl (by kernel_rfl) (by kernel_rfl) (by kernel_rfl) (fun _ _ _ h => h) (Or.inl ⟨by rfl, ?_⟩) hHeld ?_
                            rotate_left
                            · intro ww hSw
                              (try dsimp only at hSw)
                              go_simp
                              (try with_reducible rfl)
                            simp only [Act.put, List.setIfInBounds_toArray, List.set_cons_zero, List.set_cons_succ]
                            refine wpAnyH_done (by kernel_rfl) ?_ _
                            refine NoPanic.normal ?_
                            clear s0 s1 s2 s3 sl
                            go_wp2
                            go_meet
                            exact ⟨wd.heap.size, rfl, (HQ4.out.set 0 _).set 1 _, bel_set (bel_set hb4 hg3 _) hg3 _⟩
                        case rest =>
                          obtain ⟨g, rfl, HQG, hbw⟩ := hcut
                          have HWc := Lib.hid (bel_on HW.out hbw)
                          have HRc := HR.out.below hbw
                          obtain ⟨A9, c9, w9, hr9, row9, kp9, -, -⟩ := trow_one (t := 26) (e := 24) (k := 2) (by_ := 16) (z := .agg #[.int .i64 0, .int .i64 0]) Tryz.underlying26 ratio_info rfl (by omega) (by omega) HRc [(goalE s y).n, (goalE s y).d] rfl (by omega) HWc.out.size (s := wc.heap.size) rfl
                          have e0 : (ints .i64 [(goalE s y).n, (goalE s y).d]).toArray = #[.int .i64 (goalE s y).n, .int .i64 (goalE s y).d] := rfl
                          rw [e0] at hr9
                          rw [← rowsR_snoc, ← HE1.out] at row9
                          have HR9 := Lib.hid hr9
                          have HRW9 := Lib.hid row9
                          have HW9 := Lib.hid (below_kept0 HWc.out kp9)
                          have HQ9 : Hid ((Gi ++ ((l.take (k + 1)).filter (idIs x.id)).map (goalE s)).length = q_ + 1) := by show _ = _; rw [HE1.out, List.length_append, HQ.out]; rfl
                          have u0 := HQG.cell 0 rfl
                          have u1 := HQG.cell 1 rfl
                          have ul := cell_lt u0
                          clear hr9 row9 kp9 e0 HQG HRc HR HW HLr HGr HCr hbw HQ HGY
                          go_wp2_with (at_builtin; refine wpList_append_run (o := ⟨some 130, _, _, _, _, _⟩) HR9.out rfl rfl rfl rfl ?_)
                          go_roundw
                          case rel => exact ⟨k + 1, q_ + 1, c9, A9, by omega, by go_num, rfl, by omega, HQ9, HRW9, HW9⟩
                          case measure => simp [intOf]; omega
                      · have q' : (y.id == x.id) = false := beq_eq_false_iff_ne.2 q
                        have e1 : Gi ++ ((l.take (k + 1)).filter (idIs x.id)).map (goalE s) = Gi ++ ((l.take k).filter (idIs x.id)).map (goalE s) := by rw [HNX.out, if_neg (by unfold idIs; simpa using q), List.append_nil]
                        have HE1 := Lib.hid e1
                        clear e1 HNX q
                        go_wp2_with fail
                        refine (week_any _ _).mono ?_
                        rintro e w' ⟨rfl, rfl⟩
                        clear z1 z2 z4
                        go_wp2
                        go_quiet (fail)
                        go_wp2
                        go_roundw
                        case rel => exact ⟨k + 1, q_, d, B, by omega, by go_num, rfl, by omega, by rw [HE1.out]; exact HQ, by rw [HE1.out]; exact Lib.hid (HR.out.below (below_drewN (Below.refl _ _) _)), below_drewN HW.out _⟩
                        case measure => simp [intOf]; omega
                    · obtain rfl : k = n := by omega
                      have hG1 := HGL.out (by unfold ofWk; simp [HK.out.1, HK.out.2])
                      have e1 : l.take k = l := List.take_of_length_le (by rw [HLN.out]; omega)
                      rw [e1, hG1] at HQ HR
                      rw [HGN.out] at HQ HR
                      clear e1 hG1 z1 z2 z3 z4 z0 zl
                      go_wp2
                      go_roundw
                      case rel => exact ⟨i + 1, q_, d, B, by omega, by go_num, rfl, by have := HQ.out; rw [List.length_map] at this; rw [← this]; exact Nat.le_trans (List.length_filter_le _ _) (by simp; omega), HQ, HR, HW⟩
                      case measure => simp [intOf]; omega
                · have g2' : (weekP x.fr == week) = false := beq_eq_false_iff_ne.2 g2
                  have e1 : ((S.take (i + 1)).filter (ofWk week)).map gx = Gi := by rw [HNX.out, if_neg (by unfold ofWk; simp [g2]), List.append_nil, hGi]
                  have HGN2 := Lib.hid e1
                  have HQN : Hid ((((S.take (i + 1)).filter (ofWk week)).map gx).length = q0) := by show _ = _; rw [e1]; exact HQ0.out
                  clear g1 g2 hGi hxm HNX HGL0 HGD e1
                  go_wp2
                  go_loopw [14, 16] (fun s14 s16 wq => s14 = .slice B0 q0 d0 ∧ s16 = .int .i64 0 ∧ Hid (Below wo.heap.size wo wq)) (fun _ k _ => 1 - (intOf k).toNat)
                  case atStart => exact ⟨rfl, rfl, Below.refl _ _⟩
                  case round =>
                    obtain ⟨rfl, rfl, HW⟩ := hrel
                    have HSr := Lib.hid ((HL6.out.below HWO.out).below HW.out)
                    obtain ⟨bs, os, hC⟩ := HCC.out
                    subst hC
                    obtain ⟨z0, z1, z2, z3, z4⟩ := segs_num HSr.out hlt x HX.out
                    have zl := cell_lt z0
                    have HR9 := Lib.hid (HR0.out.below HW.out)
                    have HW9 := Lib.hid (bel_on HWO.out HW.out)
                    by_cases hkt : 0 < n
                    · have k1 : decide ((0 : Int) < (n : Int)) = true := decide_eq_true (by omega)
                      go_wp2_with fail
                      refine (week_any _ _).mono ?_
                      rintro e w' ⟨rfl, rfl⟩
                      go_wp2
                      go_roundw
                      case rel => exact ⟨i + 1, q0, d0, B0, by omega, by go_num, rfl, by omega, HQN, by rw [HGN2.out]; exact HR9, HW9⟩
                      case measure => simp [intOf]; omega
                    · have k1 : decide ((0 : Int) < (n : Int)) = false := decide_eq_false (by omega)
                      clear z0 z1 z2 z3 z4 zl
                      go_wp2
                      go_roundw
                      case rel => exact ⟨i + 1, q0, d0, B0, by omega, by go_num, rfl, by omega, HQN, by rw [HGN2.out]; exact HR9, HW9⟩
                      case measure => simp [intOf]; omega
              · have g1' : (x.kd == 1) = false := beq_eq_false_iff_ne.2 g1
                have e1 : ((S.take (i + 1)).filter (ofWk week)).map gx = Gi := by rw [HNX.out, if_neg (by unfold ofWk; simp [g1]), List.append_nil, hGi]
                have HGN2 := Lib.hid e1
                have HQN : Hid ((((S.take (i + 1)).filter (ofWk week)).map gx).length = q0) := by show _ = _; rw [e1]; exact HQ0.out
                clear g1 hGi hxm HNX HGL0 HGD e1
                go_wp2
                go_loopw [14, 16] (fun s14 s16 wq => s14 = .slice B0 q0 d0 ∧ s16 = .int .i64 0 ∧ Hid (Below wo.heap.size wo wq)) (fun _ k _ => 1 - (intOf k).toNat)
                case atStart => exact ⟨rfl, rfl, Below.refl _ _⟩
                case round =>
                  obtain ⟨rfl, rfl, HW⟩ := hrel
                  have HSr := Lib.hid ((HL6.out.below HWO.out).below HW.out)
                  obtain ⟨bs, os, hC⟩ := HCC.out
                  subst hC
                  obtain ⟨z0, z1, z2, z3, z4⟩ := segs_num HSr.out hlt x HX.out
                  have zl := cell_lt z0
                  have HR9 := Lib.hid (HR0.out.below HW.out)
                  have HW9 := Lib.hid (bel_on HWO.out HW.out)
                  by_cases hkt : 0 < n
                  · have k1 : decide ((0 : Int) < (n : Int)) = true := decide_eq_true (by omega)
                    go_wp2
                    go_roundw
                    case rel => exact ⟨i + 1, q0, d0, B0, by omega, by go_num, rfl, by omega, HQN, by rw [HGN2.out]; exact HR9, HW9⟩
                    case measure => simp [intOf]; omega
                  · have k1 : decide ((0 : Int) < (n : Int)) = false := decide_eq_false (by omega)
                    clear z0 z1 z2 z3 z4 zl
                    go_wp2
                    go_roundw
                    case rel => exact ⟨i + 1, q0, d0, B0, by omega, by go_num, rfl, by omega, HQN, by rw [HGN2.out]; exact HR9, HW9⟩
                    case measure => simp [intOf]; omega
            · obtain rfl : i = m := by omega
              have e1 : S.take i = S := List.take_of_length_le (by rw [HMM.out]; omega)
              rw [e1] at HQ0 HR0
              obtain ⟨gs, hgs⟩ : ∃ gs, (S.filter (ofWk week)).map gx = gs := ⟨_, rfl⟩
              have HG64 : Hid (∀ g ∈ gs, In64 g.n ∧ In64 g.d) := fun g hg => by rw [← hgs] at hg; obtain ⟨x, -, rfl⟩ := List.mem_map.1 hg; exact HGI0.out x
              rw [hgs] at HQ0 HR0 HGD
              have HR := Lib.hid (rats_row HR0.out HQ0.out HG64.out)
              have HN := Lib.hid (HN6.out.below HWO.out)
              obtain ⟨D, hD⟩ : ∃ D, perfP true s wk week l = D := ⟨_, rfl⟩
              obtain ⟨X, hX⟩ : ∃ X, sumR (ratsP gs) = X := ⟨_, rfl⟩
              have HG2 := Lib.hid (HGD.out D hD X hX)
              have CP := CP0
              rw [hD] at CP
              have HXX := Lib.hid hX
              have hq1 : q0 = (ratsP gs).length := by unfold ratsP; rw [List.length_map]; exact HQ0.out.symm
              subst hq1
              have hl9 : (ratsP gs).length ≤ 1000 := by omega
              have HL9 := Lib.hid hl9
              clear e1 HG64 HGI0 hgs hD hX HGD CP0 HR0 HL6 HWO HN6 HGL0 HQ0 hl9
              go_upto_region 25 with fail
              go_cut [19, 20, 21, 22] (fun v12 v13 v14 v15 wx => ∃ g12 g14 : Nat, v12 = .pointer (some ⟨g12, 0, none⟩) ∧ v13 = .int .i64 D.el ∧ v14 = .pointer (some ⟨g14, 0, none⟩) ∧ v15 = .int .i64 D.er ∧ Hid (Has wx g12 #[.int .i64 D.en, .int .i64 D.ed]) ∧ Hid (Has wx g14 #[.int .i64 D.pn, .int .i64 D.pd]) ∧ Hid (Dx w wx w.heap.size s cs A n c l) ∧ Hid (Rats wx B0 (ratsP gs)))
              case first =>
                go_wp2_with (refine wpList_exec (o := ⟨some 132, _, _, _, _, _⟩) (by rfl) (exec_load_st _ rfl rfl HN.out.h HZ.out) ?_)
                refine (CP.out _ HN.out.c HN.out.x).mono ?_
                rintro e w3 ⟨rfl, b3⟩
                have t0 := HN.out.below b3
                have t1 := HR.out.below b3
                obtain ⟨w4, hw4⟩ : ∃ W, (w3.alloc (.cells #[.int .i64 0, .int .i64 0] 24)).alloc (.cells #[.int .i64 0, .int .i64 0] 24) = W := ⟨_, rfl⟩
                have b4 : Below w3.heap.size w3 w4 := by rw [← hw4]; exact bel_alloc (bel_alloc (Below.refl _ _) _) _
                have h12 : Has w4 w3.heap.size #[.int .i64 0, .int .i64 0] := by rw [← hw4]; exact (Has.new w3 _ _ rfl).alloc _
                have h14 : Has w4 (w3.heap.size + 1) #[.int .i64 0, .int .i64 0] := by rw [← hw4]; exact Has.new _ _ _ (by simp)
                obtain ⟨g12, hg12⟩ : ∃ g, w3.heap.size = g := ⟨_, rfl⟩
                rw [hg12] at h12 h14
                obtain ⟨g14, hg14⟩ : ∃ g, g12 + 1 = g := ⟨_, rfl⟩
                rw [hg14] at h14
                have q0 := h12.cell 0 rfl
                have q1 := h12.cell 1 rfl
                have q2 := h12.frozen 0
                have q3 := h12.frozen 1
                have ql := cell_lt q0
                have p0 := h14.cell 0 rfl
                have p1 := h14.cell 1 rfl
                have p2 := h14.frozen 0
                have p3 := h14.frozen 1
                have pl := cell_lt p0
                have hne : g12 < g14 := by omega
                obtain ⟨w5, hw5⟩ : ∃ W, (((w4.setCell ⟨g12, 0, none⟩ (.int .i64 D.en)).setCell ⟨g12, 1, none⟩ (.int .i64 D.ed)).setCell ⟨g14, 0, none⟩ (.int .i64 D.pn)).setCell ⟨g14, 1, none⟩ (.int .i64 D.pd) = W := ⟨_, rfl⟩
                have H12x : Hid (Has w5 g12 #[.int .i64 D.en, .int .i64 D.ed]) := by
                  show Has _ _ _
                  rw [← hw5]
                  exact (((h12.set 0 _).set 1 _).far (p := ⟨g14, 0, none⟩) (by show g12 ≠ g14; omega) _).far (p := ⟨g14, 1, none⟩) (by show g12 ≠ g14; omega) _
                have H14x : Hid (Has w5 g14 #[.int .i64 D.pn, .int .i64 D.pd]) := by
                  show Has _ _ _
                  rw [← hw5]
                  exact (((h14.far (p := ⟨g12, 0, none⟩) (by show g14 ≠ g12; omega) _).far (p := ⟨g12, 1, none⟩) (by show g14 ≠ g12; omega) _).set 0 _).set 1 _
                have b5 : Below w3.heap.size w3 w5 := by
                  rw [← hw5]
                  exact bel_set (bel_set (bel_set (bel_set b4 (by show _ ≤ g12; omega) _) (by show _ ≤ g12; omega) _) (by show _ ≤ g14; omega) _) (by show _ ≤ g14; omega) _
                have T0 := Lib.hid (t0.below b5)
                have T1 := Lib.hid (t1.below b5)
                clear h12 h14 b4 b5 b3 t0 t1 HN HR
                go_wp2_with fail
                go_meet
                exact ⟨g12, g14, rfl, rfl, rfl, rfl, H12x, H14x, T0, T1⟩
              case rest =>
                obtain ⟨g12, g14, rfl, rfl, rfl, rfl, HA, HP, HN2, HR2⟩ := hcut
                clear HN HR CP
                obtain ⟨en, ed, el, pn, pd, er⟩ := D
                simp only at HA HP HG2 ⊢
                go_wp2_with fail
                refine (ratsum_any B0 d0 (ratsP gs) _ HR2.out (by have := HL9.out; omega)).mono ?_
                rw [HXX.out]
                rintro e w8 ⟨rfl, b8⟩
                obtain ⟨xn, xd, xc⟩ := X
                simp only at HG2 ⊢
                have HXS : Hid (Has (w8.alloc (.cells #[.int .i64 xn, .int .i64 xd] 24)) w8.heap.size #[.int .i64 xn, .int .i64 xd]) := Has.new _ _ _ rfl
                have HAx := Lib.hid ((HA.out.below b8).alloc (.cells #[.int .i64 xn, .int .i64 xd] 24))
                have HPx := Lib.hid ((HP.out.below b8).alloc (.cells #[.int .i64 xn, .int .i64 xd] 24))
                have HE := Lib.hid (bel_alloc (bel_on HN2.out.b b8) (.cells #[.int .i64 xn, .int .i64 xd] 24))
                clear b8 HA HP HN2 HR2
                go_upto_region 27 with fail
                generalize w8.alloc (.cells #[.int .i64 xn, .int .i64 xd] 24) = w9 at *
                obtain ⟨g23, hg23⟩ : ∃ g, w8.heap.size = g := ⟨_, rfl⟩
                rw [hg23] at HXS
                rw [hg23]
                clear hg23
                by_cases her : er = 0
                · have her' : (er != 0) = false := by simp [her]
                  obtain ⟨f1, f2, f3, f4⟩ := HG2.out.2 her
                  subst f1 f2 f3
                  rcases f4 with ⟨h0, h1, h2⟩ | ⟨h0, h1, h2, h3⟩
                  · subst h0 h1 h2
                    have HK1 := Lib.hid (fun W => make_one 1 W (mk_int (m := 1) (by omega)) (by omega))
                    have HM0 : Hid (mulR 0 1 1 1 = ⟨0, 1, 0⟩) := rat2_ext (by decide) (by decide) (by decide)
                    have HQM := Lib.hid (fun W => qmul_any 0 1 1 1 W (by omega) (by omega) (by omega) (by omega))
                    rw [HM0.out] at HQM
                    have HME : Hid (max (0 : Int) 1 = 1) := by show _ = _; omega
                    clear HG2 her HM0
                    go_wp2_with fail
                    refine (HK1.out _).mono ?_
                    rintro e wa ⟨rfl, ba⟩
                    have hba := bel_alloc (Below.refl wa.heap.size wa) (.cells #[.int .i64 1, .int .i64 1] 24)
                    have HXa := Lib.hid ((HXS.out.below ba).below hba)
                    have HAa := Lib.hid ((HAx.out.below ba).below hba)
                    have HPa := Lib.hid ((HPx.out.below ba).below hba)
                    have HEa := Lib.hid (bel_on (bel_on HE.out ba) hba)
                    have HYa : Has (wa.alloc (.cells #[.int .i64 1, .int .i64 1] 24)) wa.heap.size #[.int .i64 1, .int .i64 1] := Has.new _ _ _ rfl
                    have y0 := HYa.cell 0 rfl
                    have y1 := HYa.cell 1 rfl
                    have yl := cell_lt y0
                    have p0 := HPa.out.cell 0 rfl
                    have p1 := HPa.out.cell 1 rfl
                    have pl := cell_lt p0
                    clear ba hba HXS HAx HPx HE HYa HK1
                    go_wp2_with fail
                    refine (HQM.out _).mono ?_
                    rintro e wb ⟨rfl, bb⟩
                    have hbb := bel_alloc (Below.refl wb.heap.size wb) (.cells #[.int .i64 0, .int .i64 1] 24)
                    have HXb := (HXa.out.below bb).below hbb
                    have HAb := (HAa.out.below bb).below hbb
                    have HPb := (HPa.out.below bb).below hbb
                    have HEb := Lib.hid (bel_on (bel_on HEa.out bb) hbb)
                    clear y0 y1 yl p0 p1 pl
                    have x0 := HXb.cell 0 rfl
                    have x1 := HXb.cell 1 rfl
                    have xl := cell_lt x0
                    have a0 := HAb.cell 0 rfl
                    have a1 := HAb.cell 1 rfl
                    have al := cell_lt a0
                    have p0 := HPb.cell 0 rfl
                    have p1 := HPb.cell 1 rfl
                    have pl := cell_lt p0
                    clear bb hbb HXa HAa HPa HEa HXb HAb HPb HQM
                    go_wp2
                    go_ret
                    exact ⟨rfl, HEb.out⟩
                  · have HK1 := Lib.hid (fun W => make_one el W (mk_int (m := el) (by omega)) (by omega))
                    have HQM := Lib.hid (fun W => qmul_any pn pd el 1 W h3.1 h3.2 (by omega) (by omega))
                    rw [h2] at HQM
                    have HME : Hid (max el 1 = el) := by show _ = _; omega
                    have HE0 := Lib.hid (show (el == 0) = false from beq_eq_false_iff_ne.2 (by omega))
                    have HE1 := Lib.hid (show decide (0 < el) = true from decide_eq_true h0)
                    clear HG2 her h0 h1 h2 h3
                    go_wp2_with fail
                    rw [HME.out]
                    refine (HK1.out _).mono ?_
                    rintro e wa ⟨rfl, ba⟩
                    have hba := bel_alloc (Below.refl wa.heap.size wa) (.cells #[.int .i64 el, .int .i64 1] 24)
                    have HXa := Lib.hid ((HXS.out.below ba).below hba)
                    have HAa := Lib.hid ((HAx.out.below ba).below hba)
                    have HPa := Lib.hid ((HPx.out.below ba).below hba)
                    have HEa := Lib.hid (bel_on (bel_on HE.out ba) hba)
                    have HYa : Has (wa.alloc (.cells #[.int .i64 el, .int .i64 1] 24)) wa.heap.size #[.int .i64 el, .int .i64 1] := Has.new _ _ _ rfl
                    have y0 := HYa.cell 0 rfl
                    have y1 := HYa.cell 1 rfl
                    have yl := cell_lt y0
                    have p0 := HPa.out.cell 0 rfl
                    have p1 := HPa.out.cell 1 rfl
                    have pl := cell_lt p0
                    clear ba hba HXS HAx HPx HE HYa HK1
                    go_wp2_with fail
                    refine (HQM.out _).mono ?_
                    rintro e wb ⟨rfl, bb⟩
                    have hbb := bel_alloc (Below.refl wb.heap.size wb) (.cells #[.int .i64 en, .int .i64 ed] 24)
                    have HXb := (HXa.out.below bb).below hbb
                    have HAb := (HAa.out.below bb).below hbb
                    have HPb := (HPa.out.below bb).below hbb
                    have HEb := Lib.hid (bel_on (bel_on HEa.out bb) hbb)
                    clear y0 y1 yl p0 p1 pl
                    have x0 := HXb.cell 0 rfl
                    have x1 := HXb.cell 1 rfl
                    have xl := cell_lt x0
                    have a0 := HAb.cell 0 rfl
                    have a1 := HAb.cell 1 rfl
                    have al := cell_lt a0
                    have p0 := HPb.cell 0 rfl
                    have p1 := HPb.cell 1 rfl
                    have pl := cell_lt p0
                    clear bb hbb HXa HAa HPa HEa HXb HAb HPb HQM
                    have e0 := HE0.out
                    have e1 := HE1.out
                    go_wp2
                    go_ret
                    exact ⟨rfl, HEb.out⟩
                · have her' : (er != 0) = true := by simpa using her
                  obtain ⟨f1, f2, f3, f4⟩ := HG2.out.1 her
                  subst f1 f2 f3 f4
                  have a0 := HAx.out.cell 0 rfl
                  have a1 := HAx.out.cell 1 rfl
                  have al := cell_lt a0
                  have p0 := HPx.out.cell 0 rfl
                  have p1 := HPx.out.cell 1 rfl
                  have pl := cell_lt p0
                  clear HG2 her HXS HAx HPx
                  go_wp2
                  go_ret
                  exact ⟨rfl, HE.out⟩
theorem perfGoals_walk (s : SetP) (A1 A2 A3 A4 A5 A6 : Option Addr) (c1 c2 c3 c4 c5 c6 : Nat) (a1 : Option Addr) (len1 cap1 : Nat) (z1 : List EvP) (wk k : Int) (w : World) (hs : SetAt w s A1 A2 A3 A4 A5 A6 c1 c2 c3 c4 c5 c6) (hf : s.Fit) (w1 : Evs w a1 len1 cap1 z1) (i1 : ∀ e ∈ z1, e.In) (l1 : len1 ≤ cap1) (l1' : cap1 ≤ 9223372036854775807) (e0 : -9223372036854775808 ≤ wk) (e1 : wk ≤ 9223372036854775807) (k0 : -9223372036854775808 ≤ k) (k1 : k ≤ 9223372036854775807) :
    Calls Tryz.prog 7 #[setV s A1 A2 A3 A4 A5 A6 c1 c2 c3 c4 c5 c6, .slice a1 len1 cap1, .int .i64 wk, .int .i64 k] w fun e w' => e = .returned (.bool true) ∧ Below w.heap.size w w' := by
  obtain ⟨cs, hcs⟩ : ∃ cs, setV s A1 A2 A3 A4 A5 A6 c1 c2 c3 c4 c5 c6 = .agg cs := ⟨_, rfl⟩
  have hW := setW_of hcs hs hf
  rw [hcs]
  exact perfGoals_main s cs w hW a1 len1 cap1 z1 w1 i1 (by omega) wk k
end Go.Proofs.YtpgncbhahocmbaaGreat
