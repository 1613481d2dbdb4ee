/-
  The law StreamAlone, walked.
-/
import Derived.Test.YtbijaaglmhoopaaZbd
namespace Go.Proofs.Ytbijaaglmhoopaa
open Go.RowKit
set_option linter.unusedVariables false
set_option linter.unusedSimpArgs false
set_option maxRecDepth 20000

theorem streamAlone_no (s : SetP) (cs : Array Value) (w : World) (hW : SetW w s cs) (A : Option Addr) (n c : Nat) (l : List EvP) (h : Evs w A n c l) (hIn : ∀ e ∈ l, e.In) (wk fr : Int) (hF : decide (s.Few ∧ n ≤ 100) = false) :
    Calls Try.prog 4 #[.agg cs, .slice A n c, .int .i64 wk, .int .u8 fr] w fun e w' => e = .returned (.bool true) ∧ Below w.heap.size w w' := by
  have HF := Lib.hid hF
  clear hF
  have HZ := Lib.hid hW.size
  have hb0 := bel_alloc (Below.refl w.heap.size w) (.cells cs 30)
  have HB := Lib.hid (Has.new w 30 cs rfl)
  have HS := Lib.hid (hW.below hb0)
  have HE := Lib.hid (h.below hb0)
  have HW := Lib.hid hb0
  have HIN := Lib.hid hIn
  clear hW h hb0 hIn
  go_enter Try.func4, Try.ntmps4
  go_wp2_with fail
  refine (awake12 _).mono ?_
  rintro e w1 ⟨rfl, b1⟩
  replace HB := Lib.hid (HB.out.below b1)
  replace HS := Lib.hid (HS.out.below b1)
  replace HE := Lib.hid (HE.out.below b1)
  replace HW := Lib.hid (bel_on HW.out b1)
  clear b1
  go_wp2_with (refine wpList_exec (o := ⟨some 19, _, _, _, _, _⟩) (by rfl) (exec_load_st _ rfl rfl HB.out HZ.out) ?_)
  refine (few12 s cs _ HS.out A n c _ HF.out).mono ?_
  rintro e w2 ⟨rfl, b2⟩
  replace HB := Lib.hid (HB.out.below b2)
  replace HS := Lib.hid (HS.out.below b2)
  replace HE := Lib.hid (HE.out.below b2)
  replace HW := Lib.hid (bel_on HW.out b2)
  clear b2
  go_wp2
  go_ret
  exact ⟨rfl, HW.out⟩
set_option maxHeartbeats 16000000 in
theorem streamAlone_main (s : SetP) (cs : Array Value) (w : World) (hW : SetW w s cs) (A : Option Addr) (n c : Nat) (l : List EvP) (h : Evs w A n c l) (hIn : ∀ e ∈ l, e.In) (wk : Int) (f : Nat) (hf : f ≤ 255) (hF : decide (s.Few ∧ n ≤ 100) = true) :
    Calls Try.prog 4 #[.agg cs, .slice A n c, .int .i64 wk, .int .u8 (f : Int)] w fun e w' => e = .returned (.bool true) ∧ Below w.heap.size w w' := by
  have hn : n ≤ 100 := (of_decide_eq_true hF).2
  have mixed : Try.prog.follows Departure.mixedOrders = true := by kernel_rfl
  have HF := Lib.hid hF
  have HSAME := Lib.hid (fun hd => alone_same s wk l n f h.2 hd)
  have HLE := Lib.hid (fun l => segsOf_len s wk l)
  have HLF := Lib.hid (fun l => flagsOf_len s wk l)
  clear hF
  have HZ := Lib.hid hW.size
  have hb0 := bel_alloc (Below.refl w.heap.size w) (.cells cs 30)
  have HB := Lib.hid (Has.new w 30 cs rfl)
  have HS := Lib.hid (hW.below hb0)
  have HE := Lib.hid (h.below hb0)
  have HW := Lib.hid hb0
  have HIN := Lib.hid hIn
  clear hW h hb0 hIn
  go_enter Try.func4, Try.ntmps4
  go_wp2_with fail
  refine (awake12 _).mono ?_
  rintro e w1 ⟨rfl, b1⟩
  replace HB := Lib.hid (HB.out.below b1)
  replace HS := Lib.hid (HS.out.below b1)
  replace HE := Lib.hid (HE.out.below b1)
  replace HW := Lib.hid (bel_on HW.out b1)
  clear b1
  go_wp2_with (refine wpList_exec (o := ⟨some 19, _, _, _, _, _⟩) (by rfl) (exec_load_st _ rfl rfl HB.out HZ.out) ?_)
  refine (few12 s cs _ HS.out A n c _ HF.out).mono ?_
  rintro e w2 ⟨rfl, b2⟩
  replace HB := Lib.hid (HB.out.below b2)
  replace HS := Lib.hid (HS.out.below b2)
  replace HE := Lib.hid (HE.out.below b2)
  replace HW := Lib.hid (bel_on HW.out b2)
  clear b2
  have HLN := Lib.hid HE.out.2
  go_wp2
  go_loopg [10, 11] n (fun kx s10 s11 wr => ∃ (k q d : Nat) (B : Option Addr), s10 = .slice B q d ∧ s11 = .int .i64 k ∧ k + kx = n ∧ q ≤ k ∧ Hid ((((List.range k).map (fun i => l.getD ((i + f) % n) EvP.none)).filter (alone wk)).length = q) ∧ Hid (ERow wr w2.heap.size B q d (((List.range k).map (fun i => l.getD ((i + f) % n) EvP.none)).filter (alone wk))) ∧ Hid (∀ a b, a < k → b < a → (l.getD b EvP.none).id ≠ (l.getD a EvP.none).id) ∧ Hid (Below w2.heap.size w2 wr))
  case atStart => exact ⟨0, 0, 0, none, rfl, rfl, by omega, by omega, Lib.hid (by simp), Lib.hid (TRow.nil _ _), Lib.hid (fun a b h => by omega), Lib.hid (Below.refl _ _)⟩
  case round =>
    obtain ⟨k, q, d, B, rfl, rfl, hk, hqk, HQL, HR, HID, HW3⟩ := hrel
    by_cases hlt : k < n
    · have HLr := Lib.hid (HE.out.below HW3.out)
      obtain ⟨ba, oa, rfl⟩ := HLr.out.form (by omega)
      obtain ⟨r, hr⟩ : ∃ r, (k + f) % n = r := ⟨_, rfl⟩
      have hrn : r < n := by rw [← hr]; exact Nat.mod_lt _ (by omega)
      have hrm : ((k : Int) + (f : Int)).tmod (n : Int) = (r : Int) := by
        rw [Int.tmod_eq_emod_of_nonneg (by omega), ← hr]
        simp
      have hz : ¬ (n : Int) = 0 := by omega
      have hwr : IntKind.i64.wrap ((k : Int) + (f : Int)) = (k : Int) + (f : Int) := wrapw_id (by omega) (by omega)
      obtain ⟨x, hx⟩ : ∃ x, l.getD r EvP.none = x := ⟨_, rfl⟩
      obtain ⟨y, hy⟩ : ∃ y, l.getD k EvP.none = y := ⟨_, rfl⟩
      have HLD := Lib.hid (evs_load HLr.out (i := r) hrn)
      rw [hx] at HLD
      have HTK : Hid ((List.range (k + 1)).map (fun i => l.getD ((i + f) % n) EvP.none) = (List.range k).map (fun i => l.getD ((i + f) % n) EvP.none) ++ [x]) := by show _ = _; rw [List.range_succ, List.map_append, List.map_cons, List.map_nil, hr, hx]
      have HY := Lib.hid hy
      have i0 : (0 : Int) ≤ (r : Int) := by omega
      have i1 : (r : Int) < (n : Int) := by omega
      have HSZ := Lib.hid (evC_size x)
      have HSO := Lib.hid (evC_one x)
      have hba := bel_alloc (Below.refl wr.heap.size wr) (.cells (evC x) 39)
      have HXA : Hid (Has (wr.alloc (.cells (evC x) 39)) wr.heap.size (evC x)) := Has.new wr _ _ rfl
      replace HW3 := Lib.hid (bel_on HW3.out hba)
      replace HR := Lib.hid (HR.out.alloc (.cells (evC x) 39))
      replace HLr := Lib.hid (HLr.out.below hba)
      obtain ⟨be, hbe⟩ : ∃ be, Hid (wr.heap.size = be) := ⟨_, rfl⟩
      rw [hbe.out] at HXA
      clear hx hy hr hba
      go_wp2_with (first | refine wpList_exec (o := ⟨some 39, _, _, _, _, _⟩) (by rfl) (exec_load_at _ rfl rfl HLD.out) ?_ | refine wpList_laid_e (evC x) 12 _ _ rfl rfl rfl rfl rfl rfl rfl rfl HSZ.out HSO.out ?_)
      rw [hbe.out]
      generalize wr.alloc (.cells (evC x) 39) = w3 at *
      clear hbe HLD hz hwr hrm
      go_loopg [13] k (fun kx s13 wr => ∃ j : Nat, s13 = .int .i64 j ∧ j + kx = k ∧ Hid (∀ b, b < j → (l.getD b EvP.none).id ≠ y.id) ∧ Hid (Below w3.heap.size w3 wr))
      case atStart => exact ⟨0, rfl, by omega, Lib.hid (fun b h => by omega), Lib.hid (Below.refl _ _)⟩
      case round =>
        obtain ⟨j, rfl, hj, HNE, HW4⟩ := hrel
        have HLs := Lib.hid (HLr.out.below HW4.out)
        by_cases hjk : j < k
        · obtain ⟨z, hz⟩ : ∃ z, l.getD j EvP.none = z := ⟨_, rfl⟩
          obtain ⟨z0, -, -, -, -⟩ := evs_num HLs.out (i := j) (by omega) z hz
          obtain ⟨y0, -, -, -, -⟩ := evs_num HLs.out (i := k) (by omega) y HY.out
          have zl := cell_lt z0
          have j0 : (0 : Int) ≤ (j : Int) := by omega
          have j1 : (j : Int) < (n : Int) := by omega
          have k0 : (0 : Int) ≤ (k : Int) := by omega
          have k1 : (k : Int) < (n : Int) := by omega
          obtain ⟨zi, hzi⟩ : ∃ zi, Hid (z.id = zi) := ⟨_, rfl⟩
          obtain ⟨yi, hyi⟩ : ∃ yi, Hid (y.id = yi) := ⟨_, rfl⟩
          rw [hzi.out] at z0
          rw [hyi.out] at y0
          have hb4 := HW4.out
          have HZN : Hid (zi ≠ yi → ∀ b, b < j + 1 → (l.getD b EvP.none).id ≠ y.id) := fun hne b hb => by
            by_cases q : b = j
            · subst q; rw [hz, hzi.out, hyi.out]; exact hne
            · exact HNE.out b (by omega)
          clear hz
          by_cases hq : zi = yi
          · have hq' : (zi == yi) = true := by simpa using hq
            have hend := Lib.hid (bel_on (bel_on HW.out HW3.out) hb4)
            clear hq HZN
            go_wp2
            go_quiet (fail)
            go_wp2
            go_ret
            exact ⟨rfl, below_drewN hend.out _⟩
          · have hq' : (zi == yi) = false := beq_eq_false_iff_ne.2 hq
            have HNE2 := Lib.hid (HZN.out hq)
            clear hq HZN
            go_wp2
            go_quiet (fail)
            go_wp2
            go_roundg (k - (j + 1))
            case measure => omega
            case rel => exact ⟨j + 1, by go_num, by omega, HNE2, Lib.hid (below_drewN hb4 _)⟩
        · obtain rfl : j = k := by omega
          have hb4 := HW4.out
          have HX4 := Lib.hid (HXA.out.below hb4)
          have HR4 := Lib.hid (HR.out.below hb4)
          have HB4 := Lib.hid (bel_on HW3.out hb4)
          have q1 := HX4.out.cell 1 (show (evC x)[1]? = some (.int .i64 x.wk) from rfl)
          have q3 := HX4.out.cell 3 (show (evC x)[3]? = some (.int .i64 x.kd) from rfl)
          have z1 := cell_lt q1
          have HLX := Lib.hid (has_load_e HX4.out)
          have HID2 : Hid (∀ a b, a < j + 1 → b < a → (l.getD b EvP.none).id ≠ (l.getD a EvP.none).id) := fun a b ha hb => by
            by_cases q : a = j
            · subst q; rw [HY.out]; exact HNE.out b hb
            · exact HID.out a b (by omega) hb
          obtain ⟨xk, hxk⟩ : ∃ xk, Hid (x.kd = xk) := ⟨_, rfl⟩
          obtain ⟨xw, hxw⟩ : ∃ xw, Hid (x.wk = xw) := ⟨_, rfl⟩
          rw [hxk.out] at q3
          rw [hxw.out] at q1
          clear hb4 HW4
          have HNO : Hid (alone wk x = false → ((List.range (j + 1)).map (fun i => l.getD ((i + f) % n) EvP.none)).filter (alone wk) = ((List.range j).map (fun i => l.getD ((i + f) % n) EvP.none)).filter (alone wk)) := fun hno => by
            rw [HTK.out, List.filter_append, List.filter_cons_of_neg (by rw [hno]; simp)]; simp
          by_cases g1 : xw = wk
          · have g1' : (xw == wk) = true := by simpa using g1
            by_cases g2 : xk = 7
            · have g2' : (xk != 7) = false := by simp [g2]
              have E1 := Lib.hid (HNO.out (by simp [alone, hxk.out, g2]))
              clear g1 g2 HNO
              go_wp2
              go_roundg (n - (j + 1))
              case measure => omega
              case rel => exact ⟨j + 1, q, d, B, rfl, by go_num, by omega, by omega, Lib.hid (by rw [E1.out]; exact HQL.out), Lib.hid (by rw [E1.out]; exact HR4.out), HID2, HB4⟩
            · have g2' : (xk != 7) = true := by simpa using g2
              have hyes : alone wk x = true := by simp [alone, hxk.out, hxw.out, g1, g2]
              have e1 : ((List.range (j + 1)).map (fun i => l.getD ((i + f) % n) EvP.none)).filter (alone wk) = ((List.range j).map (fun i => l.getD ((i + f) % n) EvP.none)).filter (alone wk) ++ [x] := by rw [HTK.out, List.filter_append, List.filter_cons_of_pos hyes]; simp
              have E1 := Lib.hid e1
              obtain ⟨A9, c9, w9, hr9, row9, bel9, keep9⟩ := erow_append (HR4.out.alloc (.cells (evC x) 39)) (evs_one wr x) (show q + 1 ≤ 100000 by omega) (bel_alloc HB4.out _).size (k := q + 1) rfl
              have HR9 := Lib.hid hr9
              have HW9 := Lib.hid (bel9 w2 (Nat.le_refl _) (bel_alloc HB4.out _))
              have HRW9 := Lib.hid row9
              clear g1 g2 HNO hyes e1 hr9 row9 bel9 keep9
              go_wp2_with (first | refine wpList_exec (o := ⟨some 67, _, _, _, _, _⟩) rfl (exec_load_at _ rfl rfl HLX.out) ?_ | refine wpList_build_e (o := ⟨some 68, _, _, _, _, _⟩) rfl x rfl rfl ?_ | (at_builtin; refine wpList_append_run (o := ⟨some 69, _, _, _, _, _⟩) HR9.out rfl rfl rfl rfl ?_))
              go_roundg (n - (j + 1))
              case measure => omega
              case rel => exact ⟨j + 1, q + 1, c9, A9, rfl, by go_num, by omega, by omega, Lib.hid (by rw [E1.out, List.length_append, HQL.out]; rfl), Lib.hid (by rw [E1.out]; exact HRW9.out), HID2, HW9⟩
          · have g1' : (xw == wk) = false := beq_eq_false_iff_ne.2 g1
            have E1 := Lib.hid (HNO.out (by simp [alone, hxw.out, g1]))
            clear g1 HNO
            go_wp2
            go_roundg (n - (j + 1))
            case measure => omega
            case rel => exact ⟨j + 1, q, d, B, rfl, by go_num, by omega, by omega, Lib.hid (by rw [E1.out]; exact HQL.out), Lib.hid (by rw [E1.out]; exact HR4.out), HID2, HB4⟩
    · obtain rfl : k = n := by omega
      have HSM := Lib.hid (HSAME.out HID.out)
      have HPE := Lib.hid (HR.out.evs HQL.out)
      have HPI : Hid (∀ e ∈ ((List.range k).map (fun i => l.getD ((i + f) % k) EvP.none)).filter (alone wk), e.In) := fun e he => by
        have hm := (List.mem_filter.1 he).1
        exact HIN.out e ((turn_perm l k f HLN.out).subset hm)
      have hb3 := HW3.out
      replace HB := Lib.hid (HB.out.below hb3)
      replace HS := Lib.hid (HS.out.below hb3)
      replace HE := Lib.hid (HE.out.below hb3)
      replace HW := Lib.hid (bel_on HW.out hb3)
      clear hb3
      clear HR HW3 HID HSAME
      obtain ⟨m, hm⟩ : ∃ m, Hid (((List.range k).map (fun i => l.getD ((i + f) % k) EvP.none)).filter (alone wk) = m) := ⟨_, rfl⟩
      rw [hm.out] at HSM HPE HPI HQL
      clear hm
      go_wp2_with (refine wpList_exec (o := ⟨some 71, _, _, _, _, _⟩) (by rfl) (exec_load_st _ rfl rfl HB.out HZ.out) ?_)
      refine (stream_any s cs _ HS.out _ k c l HE.out (by omega) HIN.out wk).mono ?_
      intro e w4 hg
      obtain ⟨A4, c4, B4, d4, rfl, hs2, hf2, hb2⟩ := hg.two
      have HA := Lib.hid hs2
      have HFA := Lib.hid hf2
      clear hg hs2 hf2
      replace HB := Lib.hid (HB.out.below hb2)
      replace HS := Lib.hid (HS.out.below hb2)
      replace HPE := Lib.hid (HPE.out.below hb2)
      replace HW := Lib.hid (bel_on HW.out hb2)
      clear hb2
      go_wp2_with (refine wpList_exec (o := ⟨some 78, _, _, _, _, _⟩) (by rfl) (exec_load_st _ rfl rfl HB.out HZ.out) ?_)
      refine (stream_any s cs _ HS.out B q d m HPE.out (by omega) HPI.out wk).mono ?_
      intro e w5 hg
      obtain ⟨A5, c5, B5, d5, rfl, hs2, hf2, hb2⟩ := hg.two
      have HA2 := Lib.hid hs2
      have HFA2 := Lib.hid hf2
      clear hg hs2 hf2
      replace HB := Lib.hid (HB.out.below hb2)
      replace HS := Lib.hid (HS.out.below hb2)
      replace HA := Lib.hid (HA.out.below hb2)
      replace HFA := Lib.hid (HFA.out.below hb2)
      replace HW := Lib.hid (bel_on HW.out hb2)
      clear hb2
      rw [← HSM.out.1] at HA2 ⊢
      rw [← HSM.out.2] at HFA2 ⊢
      have hl1 := HLE.out l
      have hl2 := HLF.out l
      have hla := HLN.out
      generalize segsOf s wk l = SA at *
      generalize flagsOf s wk l = FA at *
      obtain ⟨ma, hma⟩ : ∃ ma, SA.length = ma := ⟨_, rfl⟩
      obtain ⟨mb, hmb⟩ : ∃ mb, FA.length = mb := ⟨_, rfl⟩
      have hma' : ma ≤ 100 := by omega
      have hmb' : mb ≤ 100 := by omega
      rw [hma] at HA HA2 ⊢
      rw [hmb] at HFA HFA2 ⊢
      clear hl1 hl2 hla HLE HLF HSM hma hmb HPE HPI HQL
      go_wp2_with fail
      refine (ssame_any _ _ _ _ _ SA _ HA.out HA2.out (by omega)).mono ?_
      rintro e w6 ⟨rfl, b6⟩
      replace HFA := Lib.hid (HFA.out.below b6)
      replace HFA2 := Lib.hid (HFA2.out.below b6)
      replace HW := Lib.hid (bel_on HW.out b6)
      clear b6
      go_wp2_with fail
      refine (fsame_any _ _ _ _ _ FA _ HFA.out HFA2.out (by omega)).mono ?_
      rintro e w7 ⟨rfl, b7⟩
      replace HW := Lib.hid (bel_on HW.out b7)
      clear b7
      go_wp2
      go_ret
      exact ⟨rfl, HW.out⟩
theorem streamAlone_walk (s : SetP) (A1 A2 A3 A4 A5 A6 : Option Addr) (c1 c2 c3 c4 c5 c6 : Nat) (a1 : Option Addr) (len1 cap1 : Nat) (z1 : List EvP) (wk fr : Int) (w : World) (hs : SetAt w s A1 A2 A3 A4 A5 A6 c1 c2 c3 c4 c5 c6) (hf : s.Fit)
    (s1 : Evs w a1 len1 cap1 z1) (i1 : ∀ e ∈ z1, e.In) (l1 : len1 ≤ cap1) (l1' : cap1 ≤ 9223372036854775807) (b1 : -9223372036854775808 ≤ wk) (b2 : wk ≤ 9223372036854775807) (b3 : 0 ≤ fr) (b4 : fr ≤ 255) :
    Calls Try.prog 4 #[setV s A1 A2 A3 A4 A5 A6 c1 c2 c3 c4 c5 c6, .slice a1 len1 cap1, .int .i64 wk, .int .u8 fr] w fun e w' => e = .returned (.bool true) ∧ Below w.heap.size w w' := by
  obtain ⟨cs, hcs⟩ : ∃ cs, setV s A1 A2 A3 A4 A5 A6 c1 c2 c3 c4 c5 c6 = .agg cs := ⟨_, rfl⟩
  have hW := setW_of hcs hs hf
  rw [hcs]
  cases hF : decide (s.Few ∧ len1 ≤ 100) with
  | false => exact streamAlone_no s cs w hW a1 len1 cap1 z1 s1 i1 wk fr hF
  | true => exact (by obtain ⟨f, rfl⟩ : ∃ f : Nat, fr = (f : Int) := ⟨fr.toNat, by omega⟩; exact streamAlone_main s cs w hW a1 len1 cap1 z1 s1 i1 wk f (by omega) hF)
end Go.Proofs.Ytbijaaglmhoopaa
