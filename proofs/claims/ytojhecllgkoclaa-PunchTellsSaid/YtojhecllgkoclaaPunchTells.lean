/-
  The law PunchTells, walked.
-/
import Derived.Test.YtojhecllgkoclaaPunE
namespace Go.Proofs.Ytojhecllgkoclaa
open Go.RowKit
set_option linter.unusedVariables false
set_option linter.unusedSimpArgs false
set_option maxRecDepth 20000

theorem punchTells_long (cs : Array Value) (a1 : Option Addr) (len1 cap1 : Nat) (t u n : Int) (w : World) (h : 100 < len1) :
    Calls Try.prog 3 #[.agg cs, .slice a1 len1 cap1, .int .i64 t, .int .i64 u, .int .i64 n] w fun e w' => e = .returned (.bool true) ∧ Below w.heap.size w w' := by
  have hd : (100 : Int) < (len1 : Int) := by omega
  have hb0 := bel_alloc (Below.refl w.heap.size w) (.cells cs 30)
  go_enter Try.func3, Try.ntmps3
  go_wp2_with fail
  refine (awake11 _).mono ?_
  rintro e w1 ⟨rfl, b1⟩
  have HB := Lib.hid (bel_on hb0 b1)
  clear b1 hb0
  go_wp2
  go_ret
  exact ⟨rfl, HB.out⟩
set_option maxHeartbeats 8000000 in
theorem punchTells_short (cs : Array Value) (c7 c8 : Int) (a1 : Option Addr) (cap1 : Nat) (z1 : List (Int × Int)) (t u n : Int) (w : World) (hs : cs.size = 23) (h7 : cs[8]? = some (.int .i64 c7)) (h8 : cs[9]? = some (.int .i64 c8)) (s1 : Spans w a1 z1) (hu : u ≤ 9223372036854775807) (g : z1.length ≤ 100) :
    Calls Try.prog 3 #[.agg cs, .slice a1 z1.length cap1, .int .i64 t, .int .i64 u, .int .i64 n] w fun e w' => e = .returned (.bool true) ∧ Below w.heap.size w w' := by
  have hl : z1.length ≤ 100000000 := by omega
  have hd : ¬ (100 : Int) < (z1.length : Int) := by omega
  have HZ := Lib.hid hs
  have CT := Lib.hid (fun W => touch_any cs c7 c8 t W hs h7 h8)
  have CR := Lib.hid (fun W => rtouch_any cs c7 c8 t W hs h7 h8)
  obtain ⟨x, hx⟩ : ∃ x, (touchP c7 c8 t).1 = x := ⟨_, rfl⟩
  obtain ⟨y, hy⟩ : ∃ y, (touchP c7 c8 t).2 = y := ⟨_, rfl⟩
  rw [hx, hy] at CT CR
  obtain ⟨r, hr⟩ : ∃ r, roundP t u = r := ⟨_, rfl⟩
  have CU := Lib.hid (fun W => round_bel t u r W hu hr)
  have CV := Lib.hid (fun W => rround_any t u W hu)
  rw [hr] at CV
  obtain ⟨d, hdd⟩ : ∃ d, dayP t = d := ⟨_, rfl⟩
  have CD := Lib.hid (fun W => day_is t d W hdd)
  have CE := Lib.hid (fun W => rday_any t W)
  rw [hdd] at CE
  obtain ⟨k, hk⟩ : ∃ k, weekP t = k := ⟨_, rfl⟩
  have CW := Lib.hid (fun W => week_is t k W hk)
  have CX := Lib.hid (fun W => rweek_any t W)
  rw [hk] at CX
  have C1 := Lib.hid (fun W (h : Spans W a1 z1) => ofday_any a1 cap1 z1 n W h hl)
  have C2 := Lib.hid (fun W (h : Spans W a1 z1) => rofday_any a1 cap1 z1 n W h hl)
  have C3 := Lib.hid (fun W (h : Spans W a1 z1) => ofweek_any a1 cap1 z1 n W h hl)
  have C4 := Lib.hid (fun W (h : Spans W a1 z1) => rofweek_any a1 cap1 z1 n W h hl)
  have C5 := Lib.hid (fun W (h : Spans W a1 z1) => days_any a1 cap1 z1 W h hl)
  have C6 := Lib.hid (fun W (h : Spans W a1 z1) => rdays_any a1 cap1 z1 W h hl)
  have fD : Fits (ofDayP (In z1) n) := Fits.canon _
  have fW : Fits (ofWeekP (In z1) n) := Fits.canon _
  have lD : (ofDayP (In z1) n).length ≤ 32054401 := canon_len _
  have lW : (ofWeekP (In z1) n).length ≤ 32054401 := canon_len _
  have lN := daysP_len (In z1)
  generalize ofDayP (In z1) n = vD at *
  generalize ofWeekP (In z1) n = vW at *
  generalize daysP (In z1) = vN at *
  have hb0 := bel_alloc (Below.refl w.heap.size w) (.cells cs 30)
  have HB0 := Lib.hid (Has.new w 30 cs rfl)
  have HS0 := Lib.hid (s1.below hb0)
  clear s1 hs h7 h8 hx hy hr hdd hk
  go_enter Try.func3, Try.ntmps3
  go_wp2_with fail
  refine (awake11 _).mono ?_
  rintro e w1 ⟨rfl, b1⟩
  have HB1 := Lib.hid (bel_on hb0 b1)
  have HS1 := Lib.hid (HS0.out.below b1)
  have HG1 := Lib.hid (HB0.out.below b1)
  clear b1 hb0 HB0 HS0
  go_wp2_with (refine wpList_load_sp (by rfl) _ rfl w.heap.size rfl cs HG1.out HZ.out ?_)
  refine (CT.out _).mono ?_
  rintro e w2 ⟨rfl, b2⟩
  have HB2 := Lib.hid (bel_on HB1.out b2)
  have HS2 := Lib.hid (HS1.out.below b2)
  have HG2 := Lib.hid (HG1.out.below b2)
  clear b2 HB1 HS1 HG1
  go_wp2_with (refine wpList_load_sp (by rfl) _ rfl w.heap.size rfl cs HG2.out HZ.out ?_)
  refine (CR.out _).mono ?_
  rintro e w3 ⟨rfl, b3⟩
  have HB3 := Lib.hid (bel_on HB2.out b3)
  have HS3 := Lib.hid (HS2.out.below b3)
  clear b3 HB2 HS2 HG2
  go_wp2_with fail
  refine (CU.out _).mono ?_
  rintro e w4 ⟨rfl, b4⟩
  have HB4 := Lib.hid (bel_on HB3.out b4)
  have HS4 := Lib.hid (HS3.out.below b4)
  clear b4 HB3 HS3
  go_wp2_with fail
  refine (CV.out _).mono ?_
  rintro e w5 ⟨rfl, rfl⟩
  go_wp2_with fail
  refine (CD.out _).mono ?_
  rintro e w5 ⟨rfl, rfl⟩
  go_wp2_with fail
  refine (CE.out _).mono ?_
  rintro e w5 ⟨rfl, rfl⟩
  go_wp2_with fail
  refine (CW.out _).mono ?_
  rintro e w5 ⟨rfl, rfl⟩
  go_wp2_with fail
  refine (CX.out _).mono ?_
  rintro e w5 ⟨rfl, rfl⟩
  go_wp2_with fail
  refine (C1.out _ HS4.out).mono ?_
  rintro e w5 ⟨A5, d5, rfl, r5, b5⟩
  have HX5 := Lib.hid (r5.spans fD)
  have HB5 := Lib.hid (bel_on HB4.out b5)
  have HS5 := Lib.hid (HS4.out.below b5)
  clear b5 r5 HB4 HS4
  go_wp2_with fail
  refine (C2.out _ HS5.out).mono ?_
  rintro e w6 ⟨A6, d6, rfl, r6, b6⟩
  have HY6 := Lib.hid (r6.spans fD)
  have HX6 := Lib.hid (HX5.out.below b6)
  have HB6 := Lib.hid (bel_on HB5.out b6)
  have HS6 := Lib.hid (HS5.out.below b6)
  clear b6 r6 HB5 HS5 HX5
  go_wp2_with fail
  refine (same_any _ _ _ _ vD _ HX6.out HY6.out (by omega)).mono ?_
  rintro e w7 ⟨rfl, b7⟩
  have HB7 := Lib.hid (bel_on HB6.out b7)
  have HS7 := Lib.hid (HS6.out.below b7)
  clear b7 HB6 HS6 HX6 HY6
  go_wp2_with fail
  refine (C3.out _ HS7.out).mono ?_
  rintro e w8 ⟨A8, d8, rfl, r8, b8⟩
  have HX8 := Lib.hid (r8.spans fW)
  have HB8 := Lib.hid (bel_on HB7.out b8)
  have HS8 := Lib.hid (HS7.out.below b8)
  clear b8 r8 HB7 HS7
  go_wp2_with fail
  refine (C4.out _ HS8.out).mono ?_
  rintro e w9 ⟨A9, d9, rfl, r9, b9⟩
  have HY9 := Lib.hid (r9.spans fW)
  have HX9 := Lib.hid (HX8.out.below b9)
  have HB9 := Lib.hid (bel_on HB8.out b9)
  have HS9 := Lib.hid (HS8.out.below b9)
  clear b9 r9 HB8 HS8 HX8
  go_wp2_with fail
  refine (same_any _ _ _ _ vW _ HX9.out HY9.out (by omega)).mono ?_
  rintro e w10 ⟨rfl, b10⟩
  have HB10 := Lib.hid (bel_on HB9.out b10)
  have HS10 := Lib.hid (HS9.out.below b10)
  clear b10 HB9 HS9 HX9 HY9
  go_wp2_with fail
  refine (C5.out _ HS10.out).mono ?_
  rintro e w11 ⟨A11, d11, rfl, r11, b11⟩
  have HX11 := Lib.hid r11.nums
  have HB11 := Lib.hid (bel_on HB10.out b11)
  have HS11 := Lib.hid (HS10.out.below b11)
  clear b11 r11 HB10 HS10
  go_wp2_with fail
  refine (C6.out _ HS11.out).mono ?_
  rintro e w12 ⟨A12, d12, rfl, r12, b12⟩
  have HY12 := Lib.hid r12.nums
  have HX12 := Lib.hid (HX11.out.below b12)
  have HB12 := Lib.hid (bel_on HB11.out b12)
  clear b12 r12 HB11 HS11 HX11
  go_wp2_with fail
  refine (nsame_any _ _ _ _ _ vN _ HX12.out HY12.out rfl (by omega)).mono ?_
  rintro e w13 ⟨rfl, b13⟩
  have HB13 := Lib.hid (bel_on HB12.out b13)
  clear b13 HB12 HX12 HY12
  go_wp2
  go_ret
  exact ⟨rfl, HB13.out⟩
theorem punchTells_walk (s : SetP) (A1 A2 A3 A4 A5 A6 : Option Addr) (c1 c2 c3 c4 c5 c6 : Nat) (a1 : Option Addr) (len1 cap1 : Nat) (z1 : List (Int × Int)) (t u n : Int) (w : World) (hs : SetAt w s A1 A2 A3 A4 A5 A6 c1 c2 c3 c4 c5 c6) (hf : s.Fit)
    (l1 : z1.length = len1) (l1' : len1 ≤ 9223372036854775807) (s1 : Spans w a1 z1) (n1 : a1 = none → cap1 = 0) (t1 : -9223372036854775808 ≤ t) (t2 : t ≤ 9223372036854775807) (u1 : -9223372036854775808 ≤ u) (u2 : u ≤ 9223372036854775807) (m1 : -9223372036854775808 ≤ n) (m2 : n ≤ 9223372036854775807) :
    Calls Try.prog 3 #[setV s A1 A2 A3 A4 A5 A6 c1 c2 c3 c4 c5 c6, .slice a1 len1 cap1, .int .i64 t, .int .i64 u, .int .i64 n] w fun e w' => e = .returned (.bool true) ∧ Below w.heap.size w w' := by
  obtain ⟨cs, hcs⟩ : ∃ cs, setV s A1 A2 A3 A4 A5 A6 c1 c2 c3 c4 c5 c6 = .agg cs := ⟨_, rfl⟩
  obtain ⟨h1, h2, h3⟩ := setV_pun hcs
  rw [hcs]
  subst l1
  by_cases g : z1.length ≤ 100
  · exact punchTells_short cs _ _ a1 cap1 z1 t u n w h1 h2 h3 s1 u2 g
  · exact punchTells_long cs a1 _ cap1 t u n w (by omega)
end Go.Proofs.Ytojhecllgkoclaa
