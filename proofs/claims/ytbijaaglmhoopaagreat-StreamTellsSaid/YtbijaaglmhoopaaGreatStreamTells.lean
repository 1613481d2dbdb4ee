/-
  The law StreamTells, walked.
-/
import Derived.Test.YtbijaaglmhoopaaGreatZax
import Derived.Test.YtbijaaglmhoopaaGreatZau
import Derived.Test.YtbijaaglmhoopaaGreatZat
namespace Go.Proofs.YtbijaaglmhoopaaGreat
open Go.RowKit
set_option linter.unusedVariables false
set_option linter.unusedSimpArgs false
set_option maxRecDepth 20000

theorem streamTells_no (s : SetP) (cs : Array Value) (w : World) (hW : SetW w s cs) (A : Option Addr) (n c : Nat) (l : List EvP) (h : Evs w A n c l) (hIn : ∀ e ∈ l, e.In) (B : Option Addr) (m d : Nat) (z : List SegP) (hz : Segs w B m d z) (hZF : ∀ x ∈ z, Fit x.fr ∧ Fit x.to) (wk kd : Int) (hF : decide (s.Few ∧ n ≤ 100) = false) :
    Calls Tryz.prog 3 #[.agg cs, .slice A n c, .int .i64 wk, .slice B m d, .int .i64 kd] w fun e w' => e = .returned (.bool true) ∧ Below w.heap.size w w' := by
  have HF := Lib.hid hF
  clear hF
  have HZ := Lib.hid hW.size
  have hb0 := bel_alloc (Below.refl w.heap.size w) (.cells cs 30)
  have HB := Lib.hid (Has.new w 30 cs rfl)
  have HS := Lib.hid (hW.below hb0)
  have HE := Lib.hid (h.below hb0)
  have HW := Lib.hid hb0
  have HIN := Lib.hid hIn
  clear hW h hb0 hIn
  go_enter Tryz.func3, Tryz.ntmps3
  go_wp2_with fail
  refine (awake12 _).mono ?_
  rintro e w1 ⟨rfl, b1⟩
  replace HB := Lib.hid (HB.out.below b1)
  replace HS := Lib.hid (HS.out.below b1)
  replace HE := Lib.hid (HE.out.below b1)
  replace HW := Lib.hid (bel_on HW.out b1)
  clear b1
  go_wp2_with (refine wpList_exec (o := ⟨some 17, _, _, _, _, _⟩) (by rfl) (exec_load_st _ rfl rfl HB.out HZ.out) ?_)
  refine (few12 s cs _ HS.out A n c _ HF.out).mono ?_
  rintro e w2 ⟨rfl, b2⟩
  replace HB := Lib.hid (HB.out.below b2)
  replace HS := Lib.hid (HS.out.below b2)
  replace HE := Lib.hid (HE.out.below b2)
  replace HW := Lib.hid (bel_on HW.out b2)
  clear b2
  go_wp2
  go_ret
  exact ⟨rfl, HW.out⟩
theorem streamTells_long (s : SetP) (cs : Array Value) (w : World) (hW : SetW w s cs) (A : Option Addr) (n c : Nat) (l : List EvP) (h : Evs w A n c l) (hIn : ∀ e ∈ l, e.In) (B : Option Addr) (m d : Nat) (z : List SegP) (hz : Segs w B m d z) (hZF : ∀ x ∈ z, Fit x.fr ∧ Fit x.to) (wk kd : Int) (hF : decide (s.Few ∧ n ≤ 100) = true) (hm : 100 < m) :
    Calls Tryz.prog 3 #[.agg cs, .slice A n c, .int .i64 wk, .slice B m d, .int .i64 kd] w fun e w' => e = .returned (.bool true) ∧ Below w.heap.size w w' := by
  have hd : (100 : Int) < (m : Int) := by omega
  have HF := Lib.hid hF
  clear hF hZF
  have HZ := Lib.hid hW.size
  have hb0 := bel_alloc (Below.refl w.heap.size w) (.cells cs 30)
  have HB := Lib.hid (Has.new w 30 cs rfl)
  have HS := Lib.hid (hW.below hb0)
  have HE := Lib.hid (h.below hb0)
  have HW := Lib.hid hb0
  have HIN := Lib.hid hIn
  clear hW h hb0 hIn
  go_enter Tryz.func3, Tryz.ntmps3
  go_wp2_with fail
  refine (awake12 _).mono ?_
  rintro e w1 ⟨rfl, b1⟩
  replace HB := Lib.hid (HB.out.below b1)
  replace HS := Lib.hid (HS.out.below b1)
  replace HE := Lib.hid (HE.out.below b1)
  replace HW := Lib.hid (bel_on HW.out b1)
  clear b1
  go_wp2_with (refine wpList_exec (o := ⟨some 17, _, _, _, _, _⟩) (by rfl) (exec_load_st _ rfl rfl HB.out HZ.out) ?_)
  refine (few12 s cs _ HS.out A n c _ HF.out).mono ?_
  rintro e w2 ⟨rfl, b2⟩
  replace HB := Lib.hid (HB.out.below b2)
  replace HS := Lib.hid (HS.out.below b2)
  replace HE := Lib.hid (HE.out.below b2)
  replace HW := Lib.hid (bel_on HW.out b2)
  clear b2
  go_wp2
  go_ret
  exact ⟨rfl, HW.out⟩
set_option maxHeartbeats 4000000 in
theorem streamTells_main (s : SetP) (cs : Array Value) (w : World) (hW : SetW w s cs) (A : Option Addr) (n c : Nat) (l : List EvP) (h : Evs w A n c l) (hIn : ∀ e ∈ l, e.In) (B : Option Addr) (m d : Nat) (z : List SegP) (hz : Segs w B m d z) (hZF : ∀ x ∈ z, Fit x.fr ∧ Fit x.to) (wk kd : Int) (hF : decide (s.Few ∧ n ≤ 100) = true) (hm : m ≤ 100) :
    Calls Tryz.prog 3 #[.agg cs, .slice A n c, .int .i64 wk, .slice B m d, .int .i64 kd] w fun e w' => e = .returned (.bool true) ∧ Below w.heap.size w w' := by
  have hd : ¬ (100 : Int) < (m : Int) := by omega
  have hn : n ≤ 100 := (of_decide_eq_true hF).2
  have HF := Lib.hid hF
  have hl1 := segsOf_len s wk l
  have hl2 := flagsOf_len s wk l
  have hla := h.2
  have HR := Lib.hid (fun W (hC : SetW W s cs) (hE : Evs W A n c l) => rstream_any s cs W hC.c hC.f hC.q hC.u hC.k A n c l hE (by omega) hIn wk)
  have HC1 := Lib.hid (fun W hA => sclock_any B m d z W hA (by omega) hZF)
  have HC2 := Lib.hid (fun W hA => rclock_any B m d z W hA (by omega) hZF)
  have HO1 := Lib.hid (fun W hA => sonly_any B m d z kd W hA (by omega) hZF)
  have HO2 := Lib.hid (fun W hA => ronly_any B m d z kd W hA (by omega) hZF)
  have hfv : Fits (clockP z) := Fits.canon _
  have hlv : (clockP z).length ≤ 32054401 := canon_len _
  have hfo : Fits (clockP (z.filter (ofKind kd))) := Fits.canon _
  have hlo : (clockP (z.filter (ofKind kd))).length ≤ 32054401 := canon_len _
  generalize clockP z = vc at *
  generalize clockP (z.filter (ofKind kd)) = vo at *
  replace hfv := Lib.hid hfv
  replace hfo := Lib.hid hfo
  have HSZ := Lib.hid (hz.below (bel_alloc (Below.refl w.heap.size w) (.cells cs 30)))
  clear hF hz hZF
  have HZ := Lib.hid hW.size
  have hb0 := bel_alloc (Below.refl w.heap.size w) (.cells cs 30)
  have HB := Lib.hid (Has.new w 30 cs rfl)
  have HS := Lib.hid (hW.below hb0)
  have HE := Lib.hid (h.below hb0)
  have HW := Lib.hid hb0
  have HIN := Lib.hid hIn
  clear hW h hb0 hIn
  go_enter Tryz.func3, Tryz.ntmps3
  go_wp2_with fail
  refine (awake12 _).mono ?_
  rintro e w1 ⟨rfl, b1⟩
  replace HB := Lib.hid (HB.out.below b1)
  replace HS := Lib.hid (HS.out.below b1)
  replace HE := Lib.hid (HE.out.below b1)
  replace HSZ := Lib.hid (HSZ.out.below b1)
  replace HW := Lib.hid (bel_on HW.out b1)
  clear b1
  go_wp2_with (refine wpList_exec (o := ⟨some 17, _, _, _, _, _⟩) (by rfl) (exec_load_st _ rfl rfl HB.out HZ.out) ?_)
  refine (few12 s cs _ HS.out A n c _ HF.out).mono ?_
  rintro e w2 ⟨rfl, b2⟩
  replace HB := Lib.hid (HB.out.below b2)
  replace HS := Lib.hid (HS.out.below b2)
  replace HE := Lib.hid (HE.out.below b2)
  replace HSZ := Lib.hid (HSZ.out.below b2)
  replace HW := Lib.hid (bel_on HW.out b2)
  clear b2
  go_wp2_with (refine wpList_exec (o := ⟨some 28, _, _, _, _, _⟩) (by rfl) (exec_load_st _ rfl rfl HB.out HZ.out) ?_)
  refine (stream_any s cs _ HS.out A n c l HE.out (by omega) HIN.out wk).mono ?_
  intro e w4 hg
  obtain ⟨A4, c4, B4, d4, rfl, hs2, hf2, hb2⟩ := hg.two
  have HA := Lib.hid hs2
  have HFA := Lib.hid hf2
  clear hg hs2 hf2
  replace HB := Lib.hid (HB.out.below hb2)
  replace HS := Lib.hid (HS.out.below hb2)
  replace HE := Lib.hid (HE.out.below hb2)
  replace HSZ := Lib.hid (HSZ.out.below hb2)
  replace HW := Lib.hid (bel_on HW.out hb2)
  clear hb2
  go_wp2_with (refine wpList_exec (o := ⟨some 35, _, _, _, _, _⟩) (by rfl) (exec_load_st _ rfl rfl HB.out HZ.out) ?_)
  refine (HR.out _ HS.out HE.out).mono ?_
  intro e w5 hg
  obtain ⟨A5, c5, B5, d5, rfl, hs2, hf2, hb2⟩ := hg.two
  have HA2 := Lib.hid hs2
  have HFA2 := Lib.hid hf2
  clear hg hs2 hf2
  replace HA := Lib.hid (HA.out.below hb2)
  replace HFA := Lib.hid (HFA.out.below hb2)
  replace HSZ := Lib.hid (HSZ.out.below hb2)
  replace HW := Lib.hid (bel_on HW.out hb2)
  clear hb2
  generalize segsOf s wk l = SA at *
  generalize flagsOf s wk l = FA at *
  obtain ⟨ma, hma⟩ : ∃ ma, SA.length = ma := ⟨_, rfl⟩
  obtain ⟨mb, hmb⟩ : ∃ mb, FA.length = mb := ⟨_, rfl⟩
  have hma' : ma ≤ 100 := by omega
  have hmb' : mb ≤ 100 := by omega
  rw [hma] at HA HA2 ⊢
  rw [hmb] at HFA HFA2 ⊢
  clear hl1 hl2 hla hma hmb HR HB HS HE
  go_wp2_with fail
  refine (ssame_any _ _ _ _ _ SA _ HA.out HA2.out (by omega)).mono ?_
  rintro e w6 ⟨rfl, b6⟩
  replace HFA := Lib.hid (HFA.out.below b6)
  replace HFA2 := Lib.hid (HFA2.out.below b6)
  replace HSZ := Lib.hid (HSZ.out.below b6)
  replace HW := Lib.hid (bel_on HW.out b6)
  clear b6
  go_wp2_with fail
  refine (fsame_any _ _ _ _ _ FA _ HFA.out HFA2.out (by omega)).mono ?_
  rintro e w7 ⟨rfl, b7⟩
  replace HSZ := Lib.hid (HSZ.out.below b7)
  replace HW := Lib.hid (bel_on HW.out b7)
  clear b7
  go_wp2_with fail
  refine (HC1.out _ HSZ.out).mono ?_
  rintro e x0 ⟨D7, d7, rfl, r7, b7⟩
  have HX := Lib.hid (r7.spans hfv.out)
  clear r7
  replace HSZ := Lib.hid (HSZ.out.below b7)
  replace HW := Lib.hid (bel_on HW.out b7)
  clear b7
  go_wp2_with fail
  refine (HC2.out _ HSZ.out).mono ?_
  rintro e y0 ⟨D8, d8, rfl, r8, b8⟩
  have HY := Lib.hid (r8.spans hfv.out)
  clear r8
  replace HX := Lib.hid (HX.out.below b8)
  replace HSZ := Lib.hid (HSZ.out.below b8)
  replace HW := Lib.hid (bel_on HW.out b8)
  clear b8
  go_wp2_with fail
  refine (same_any _ _ _ _ vc _ HX.out HY.out (by omega)).mono ?_
  rintro e u0 ⟨rfl, b9⟩
  clear HX HY
  replace HSZ := Lib.hid (HSZ.out.below b9)
  replace HW := Lib.hid (bel_on HW.out b9)
  clear b9
  go_wp2_with fail
  refine (HO1.out _ HSZ.out).mono ?_
  rintro e x1 ⟨D7, d7, rfl, r7, b7⟩
  have HX := Lib.hid (r7.spans hfo.out)
  clear r7
  replace HSZ := Lib.hid (HSZ.out.below b7)
  replace HW := Lib.hid (bel_on HW.out b7)
  clear b7
  go_wp2_with fail
  refine (HO2.out _ HSZ.out).mono ?_
  rintro e y1 ⟨D8, d8, rfl, r8, b8⟩
  have HY := Lib.hid (r8.spans hfo.out)
  clear r8
  replace HX := Lib.hid (HX.out.below b8)
  replace HSZ := Lib.hid (HSZ.out.below b8)
  replace HW := Lib.hid (bel_on HW.out b8)
  clear b8
  go_wp2_with fail
  refine (same_any _ _ _ _ vo _ HX.out HY.out (by omega)).mono ?_
  rintro e u1 ⟨rfl, b9⟩
  clear HX HY
  replace HSZ := Lib.hid (HSZ.out.below b9)
  replace HW := Lib.hid (bel_on HW.out b9)
  clear b9
  go_wp2
  go_ret
  exact ⟨rfl, HW.out⟩
theorem streamTells_walk (s : SetP) (A1 A2 A3 A4 A5 A6 : Option Addr) (c1 c2 c3 c4 c5 c6 : Nat) (a1 : Option Addr) (len1 cap1 : Nat) (z1 : List EvP) (wk : Int) (a3 : Option Addr) (len3 cap3 : Nat) (z3 : List SegP) (kd : Int) (w : World) (hs : SetAt w s A1 A2 A3 A4 A5 A6 c1 c2 c3 c4 c5 c6) (hf : s.Fit)
    (s1 : Evs w a1 len1 cap1 z1) (i1 : ∀ e ∈ z1, e.In) (l1 : len1 ≤ cap1) (l1' : cap1 ≤ 9223372036854775807) (b1 : -9223372036854775808 ≤ wk) (b2 : wk ≤ 9223372036854775807) (s3 : Segs w a3 len3 cap3 z3) (i3 : ∀ x ∈ z3, Fit x.fr ∧ Fit x.to) (l3 : len3 ≤ cap3) (l3' : cap3 ≤ 9223372036854775807) (b3 : -9223372036854775808 ≤ kd) (b4 : kd ≤ 9223372036854775807) :
    Calls Tryz.prog 3 #[setV s A1 A2 A3 A4 A5 A6 c1 c2 c3 c4 c5 c6, .slice a1 len1 cap1, .int .i64 wk, .slice a3 len3 cap3, .int .i64 kd] w fun e w' => e = .returned (.bool true) ∧ Below w.heap.size w w' := by
  obtain ⟨cs, hcs⟩ : ∃ cs, setV s A1 A2 A3 A4 A5 A6 c1 c2 c3 c4 c5 c6 = .agg cs := ⟨_, rfl⟩
  have hW := setW_of hcs hs hf
  rw [hcs]
  cases hF : decide (s.Few ∧ len1 ≤ 100) with
  | false => exact streamTells_no s cs w hW a1 len1 cap1 z1 s1 i1 a3 len3 cap3 z3 s3 i3 wk kd hF
  | true => exact (by
    by_cases q : len3 ≤ 100
    · exact streamTells_main s cs w hW a1 len1 cap1 z1 s1 i1 a3 len3 cap3 z3 s3 i3 wk kd hF q
    · exact streamTells_long s cs w hW a1 len1 cap1 z1 s1 i1 a3 len3 cap3 z3 s3 i3 wk kd hF (by omega))
end Go.Proofs.YtbijaaglmhoopaaGreat
