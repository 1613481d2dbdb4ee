/-
  The document's own Parts: a week, by what is paid for it.
-/
import Derived.Test.YtdlimgpmmkcgmaaGreatZbj
import Derived.Test.YtdlimgpmmkcgmaaGreatZbc
import Derived.Test.YtdlimgpmmkcgmaaGreatZan
import Derived.Test.YtdlimgpmmkcgmaaGreatZbd
import Derived.Test.YtdlimgpmmkcgmaaGreatZbh
import Derived.Test.YtdlimgpmmkcgmaaGreatNgtC
import Derived.Test.YtdlimgpmmkcgmaaGreatZax
import Derived.Test.YtdlimgpmmkcgmaaGreatZay
import Derived.Test.YtdlimgpmmkcgmaaGreatZbg
import Derived.Deep.DeepCutAuto
namespace Go.Proofs.YtdlimgpmmkcgmaaGreat
open Go.RowKit
set_option linter.unusedVariables false
set_option linter.unusedSimpArgs false
set_option maxRecDepth 20000

/-- What a call that tells parts answers, in memory that may be another's. -/
def TellP (w : World) (l : List PartP) (e : Ending) (w' : World) : Prop := ∃ A n c, e = .returned (.slice A n c) ∧ Prts w' A n c l ∧ n ≤ c ∧ c ≤ 9223372036854775807 ∧ Below w.heap.size w w'
theorem three_at {A : Option Addr} {n c : Nat} {B : Option Addr} {m d : Nat} {E : Option Addr} {k f : Nat} : (one3 A n c B m d E k f)[0]? = some (.slice A n c) ∧ (one3 A n c B m d E k f)[1]? = some (.slice B m d) ∧ (one3 A n c B m d E k f)[2]? = some (.slice E k f) := ⟨rfl, rfl, rfl⟩
theorem prts_nil (w : World) : Prts w none 0 0 [] := ⟨⟨by simp [ints], .inl ⟨rfl, rfl, rfl⟩⟩, rfl⟩
set_option maxHeartbeats 16000000 in
theorem rparts_c {w : World} {s : SetP} {cs : Array Value} (h : SetC w s cs) (hf : s.Fit) (b : Bool) (hb : checkB s = b) (A : Option Addr) (m c : Nat) (l : List SegP) (hs : Segs w A m c l) (hm : m ≤ 1000) (hF : ∀ s ∈ l, Fit s.fr ∧ Fit s.to) (k : Int) :
    Calls Tryz.prog 12 #[.agg cs, .slice A m c, .int .i64 k] w (TellP w (wpartsL b s l k)) := by
  have HZ := Lib.hid h.size
  obtain ⟨w1, hw1⟩ : ∃ w1, w.alloc (.cells cs 30) = w1 := ⟨_, rfl⟩
  have hb1 : Below w.heap.size w w1 := by rw [← hw1]; exact bel_alloc (Below.refl _ _) _
  have HG1 : Hid (Has w1 w.heap.size cs) := by show Has _ _ _; rw [← hw1]; exact Has.new _ _ _ rfl
  have HS1 := Lib.hid (h.below hb1)
  have HX1 := Lib.hid (hs.below hb1)
  have HW1 := Lib.hid hb1
  have HCK := Lib.hid (rsetcheck_c HS1.out hf b hb)
  clear h hs hb1
  cases b with
  | false =>
    rw [show wpartsL false s l k = [] from rfl]
    clear hb
    go_enter Tryz.func12, Tryz.ntmps12
    go_wp2_with (refine wpList_load_sp (by rfl) _ rfl w.heap.size rfl cs HG1.out HZ.out ?_)
    refine HCK.out.mono ?_
    rintro e w2 ⟨rfl, b2⟩
    have HW2 := Lib.hid (bel_on HW1.out b2)
    clear b2 hw1
    go_wp2
    go_ret
    exact ⟨none, 0, 0, rfl, prts_nil _, by omega, by omega, HW2.out⟩
  | true =>
    have HPA := Lib.hid (fun W (hW : SetC W s cs) (hX : Segs W A m c l) => rpaid15_c hW hf true hb A m c l hX hm hF)
    have PY : PlainFrom 0 (allYes true s l) := canon_plain _
    have PN : PlainFrom 0 (allNo true s l) := canon_plain _
    have lY := pl_len PY
    have lN := pl_len PN
    have HOF := Lib.hid (fun W D dc (hW : SetC W s cs) (hD : Spans W D (allYes true s l)) => rover_c hW hf true hb D dc (allYes true s l) hD (by omega) k)
    have HOW := Lib.hid (fun W D dc (hD : Spans W D (allYes true s l)) => rofweek_any D dc (allYes true s l) k W hD (by omega))
    have HON := Lib.hid (fun W D dc (hD : Spans W D (allNo true s l)) => rofweek_any D dc (allNo true s l) k W hD (by omega))
    have HNG := Lib.hid (fun W D dc (hW : SetC W s cs) (hD : Spans W D (ofWeekP (In (allYes true s l)) k)) => (show Calls _ _ _ W (Gives W (darkL true s l k)) from rofnight_c hW hf true hb D dc (ofWeekP (In (allYes true s l)) k) hD (by have := canon_len (fun t => In (allYes true s l) t ∧ t / 604800 = k); unfold ofWeekP; omega)))
    have HCP := Lib.hid (catW_plain true s l k)
    have HLL : Hid (∀ j, (catW true s l k j).length ≤ 32054401) := fun j => pl_len (HCP.out j)
    have PD : PlainFrom 0 (darkL true s l k) := canon_plain _
    have PA := reg_plain true s (In (allYes true s l)) k
    have PB := ovr_plain true s (In (allYes true s l)) k
    have PC := dbl_plain true s (In (allYes true s l)) k
    have lA := pl_len PA
    have lB := pl_len PB
    have lC := pl_len PC
    have lD := pl_len PD
    have lWY : (ofWeekP (In (allYes true s l)) k).length ≤ 32054401 := canon_len _
    have FWY : Hid (Fits (ofWeekP (In (allYes true s l)) k)) := Fits.of_plain (canon_plain _)
    have HMA := Lib.hid (fun W P p D d (hP : Spans W P (regL true s (In (allYes true s l)) k)) (hD : Spans W D (darkL true s l k)) => (show Calls _ _ _ W (Gives W (catW true s l k 1)) from rminus_any P D p d (regL true s (In (allYes true s l)) k) (darkL true s l k) W hP hD (by omega) (by omega)))
    have HMB := Lib.hid (fun W P p D d (hP : Spans W P (ovrL true s (In (allYes true s l)) k)) (hD : Spans W D (darkL true s l k)) => (show Calls _ _ _ W (Gives W (catW true s l k 2)) from rminus_any P D p d (ovrL true s (In (allYes true s l)) k) (darkL true s l k) W hP hD (by omega) (by omega)))
    have HMC := Lib.hid (fun W P p D d (hP : Spans W P (dblL true s (In (allYes true s l)) k)) (hD : Spans W D (darkL true s l k)) => (show Calls _ _ _ W (Gives W (catW true s l k 3)) from rminus_any P D p d (dblL true s (In (allYes true s l)) k) (darkL true s l k) W hP hD (by omega) (by omega)))
    have HAA := Lib.hid (fun W P p D d (hP : Spans W P (regL true s (In (allYes true s l)) k)) (hD : Spans W D (darkL true s l k)) => (show Calls _ _ _ W (Gives W (catW true s l k 4)) from rand_any P D p d (regL true s (In (allYes true s l)) k) (darkL true s l k) W hP hD (by omega) (by omega)))
    have HAB := Lib.hid (fun W P p D d (hP : Spans W P (ovrL true s (In (allYes true s l)) k)) (hD : Spans W D (darkL true s l k)) => (show Calls _ _ _ W (Gives W (catW true s l k 5)) from rand_any P D p d (ovrL true s (In (allYes true s l)) k) (darkL true s l k) W hP hD (by omega) (by omega)))
    have HAC := Lib.hid (fun W P p D d (hP : Spans W P (dblL true s (In (allYes true s l)) k)) (hD : Spans W D (darkL true s l k)) => (show Calls _ _ _ W (Gives W (catW true s l k 6)) from rand_any P D p d (dblL true s (In (allYes true s l)) k) (darkL true s l k) W hP hD (by omega) (by omega)))
    have HU0 : Hid (ofWeekP (In (allNo true s l)) k = catW true s l k 0) := rfl
    rw [show wpartsL true s l k = catsP (catW true s l k) 7 from rfl]
    have FY := Lib.hid (Fits.of_plain PY)
    have FN := Lib.hid (Fits.of_plain PN)
    have FA := Lib.hid (Fits.of_plain PA)
    have FB := Lib.hid (Fits.of_plain PB)
    have FC := Lib.hid (Fits.of_plain PC)
    have FD := Lib.hid (Fits.of_plain PD)
    rw [HU0.out] at HON
    have HN : Hid (True) := trivial
    generalize hL : catW true s l k = L at *
    generalize darkL true s l k = DK at *
    generalize regL true s (In (allYes true s l)) k = LA at *
    generalize ovrL true s (In (allYes true s l)) k = LB at *
    generalize dblL true s (In (allYes true s l)) k = LC at *
    generalize ofWeekP (In (allYes true s l)) k = WY at *
    generalize allYes true s l = YL at *
    generalize allNo true s l = NL at *
    clear hL HU0 hb hf hF PY PN PA PB PC PD
    go_enter Tryz.func12, Tryz.ntmps12
    go_wp2_with (refine wpList_load_sp (by rfl) _ rfl w.heap.size rfl cs HG1.out HZ.out ?_)
    refine HCK.out.mono ?_
    rintro e w2 ⟨rfl, b2⟩
    have HG2 := Lib.hid (HG1.out.below b2)
    have HS2 := Lib.hid (HS1.out.below b2)
    have HX2 := Lib.hid (HX1.out.below b2)
    have HW2 := Lib.hid (bel_on HW1.out b2)
    clear b2 HG1 HS1 HX1 HW1 HCK hw1
    go_wp2_with (refine wpList_load_sp (by rfl) _ rfl w.heap.size rfl cs HG2.out HZ.out ?_)
    refine (HPA.out _ HS2.out HX2.out).mono ?_
    rintro e w3 ⟨Y3, y3, N3, n3, rfl, ry, rn, b3⟩
    have HG3 := Lib.hid (HG2.out.below b3)
    have HS3 := Lib.hid (HS2.out.below b3)
    have HW3 := Lib.hid (bel_on HW2.out b3)
    have HY3 := Lib.hid (ry.spans FY.out)
    have HN3 := Lib.hid (rn.spans FN.out)
    clear b3 ry rn HG2 HS2 HX2 HW2 HPA
    go_wp2_with (refine wpList_load_sp (by rfl) _ rfl w.heap.size rfl cs HG3.out HZ.out ?_)
    refine (HOF.out _ _ _ HS3.out HY3.out).mono ?_
    rintro e w4 ⟨P3, P3c, Q3, Q3c, R3, R3c, rfl, rp, rq, rr, b4⟩
    obtain ⟨g, hg⟩ : ∃ g, w4.heap.size = g := ⟨_, rfl⟩
    obtain ⟨w5, hw5⟩ : ∃ W, w4.alloc (.cells #[.slice P3 LA.length P3c, .slice Q3 LB.length Q3c, .slice R3 LC.length R3c] 68) = W := ⟨_, rfl⟩
    have hb45 : Below w4.heap.size w4 w5 := by rw [← hw5]; exact bel_alloc (Below.refl _ _) _
    have HT5 : Hid (Has w5 g (one3 P3 LA.length P3c Q3 LB.length Q3c R3 LC.length R3c)) := by show Has _ _ _; rw [← hw5]; exact Has.new _ _ _ hg
    have HA5 := Lib.hid ((rp.spans FA.out).below hb45)
    have HB5 := Lib.hid ((rq.spans FB.out).below hb45)
    have HC5 := Lib.hid ((rr.spans FC.out).below hb45)
    have HG5 := Lib.hid ((HG3.out.below b4).below hb45)
    have HS5 := Lib.hid ((HS3.out.below b4).below hb45)
    have HY5 := Lib.hid ((HY3.out.below b4).below hb45)
    have HN5 := Lib.hid ((HN3.out.below b4).below hb45)
    have HW5 := Lib.hid (bel_on (bel_on HW3.out b4) hb45)
    clear b4 rp rq rr hb45 HG3 HS3 HW3 HY3 HN3 HOF
    go_wp2_with fail
    clear hw5 hg
    refine wp_region_noPanic ?_
    refine wp_region_held_drew (S := fun w' => Below w5.heap.size w5 w') (by kernel_rfl) (below_drew (Below.refl _ _)) (fun hHeld => ?_)
    refine wpAnyH_take (i := 0) (oi := ⟨some 27, _, _, _, _, _⟩) (v := .agg cs) rfl (by kernel_rfl) (by kernel_rfl) (by kernel_rfl) (fun _ _ _ h => h) (Or.inl ⟨by rfl, ?_⟩) hHeld ?_
    · intro ww hSw
      (try dsimp only at hSw)
      exact exec_load_sp _ rfl rfl (HG5.out.below hSw) HZ.out
    simp only [Act.put, List.setIfInBounds_toArray, List.set_cons_zero, List.set_cons_succ]
    refine wpAnyH_take (i := 1) (oi := ⟨some 28, _, _, _, _, _⟩) (v := ?_) rfl (by kernel_rfl) (by kernel_rfl) (by kernel_rfl) (fun _ _ _ h => h) (Or.inl ⟨by rfl, ?_⟩) hHeld ?_
    rotate_left
    · intro ww hSw
      (try dsimp only at hSw)
      go_simp
      (try with_reducible rfl)
    simp only [Act.put, List.setIfInBounds_toArray, List.set_cons_zero, List.set_cons_succ]
    refine wpAnyH_take (i := 2) (oi := ⟨some 29, _, _, _, _, _⟩) (v := ?_) rfl (by kernel_rfl) (by kernel_rfl) (by kernel_rfl) (fun _ _ _ h => h) (Or.inl ⟨by rfl, ?_⟩) hHeld ?_
    rotate_left
    · intro ww hSw
      (try dsimp only at hSw)
      go_simp
      (try with_reducible rfl)
    simp only [Act.put, List.setIfInBounds_toArray, List.set_cons_zero, List.set_cons_succ]
    refine wpAnyH_ready (rs := [3]) (by kernel_rfl) (by simp) ?_
    refine AllReadyH.cons (o := ⟨some 30, _, _, _, _, _⟩) rfl (fun K hK => ?_) AllReadyH.nil
    go_simp
    go_at_call 35
    refine (HOW.out _ Y3 y3 (HY5.out.below (below_drew (Below.refl _ _)))).mono ?_
    rintro e_r w6 ⟨A6, c6, rfl, r6, hbn⟩
    have HW6a := Lib.hid (r6.spans FWY.out)
    clear r6
    have hbw6 : Below w5.heap.size w5 w6 := bel_on (show Below w5.heap.size w5 _ by (repeat' (first | with_reducible exact Below.refl _ _ | with_reducible assumption | with_reducible refine bel_alloc ?_ _ | with_reducible refine bel_set ?_ ?_ _ | with_reducible refine below_drewN ?_ _ | with_reducible refine below_drew ?_ | (simp; done) | (simp; omega) | omega))) hbn
    clear hbn
    go_wp2_with fail
    refine hK.out _ _ ?_ (fun hHeld => ?_)
    · (try dsimp only)
      exact hbw6
    clear hK K
    (try simp only [Act.put, List.setIfInBounds_toArray, List.set_cons_zero, List.set_cons_succ])
    refine wpAnyH_ready (rs := [4]) (by kernel_rfl) (by simp) ?_
    refine AllReadyH.cons (o := ⟨some 31, _, _, _, _, _⟩) rfl (fun K hK => ?_) AllReadyH.nil
    go_simp
    go_at_call 34
    refine (HNG.out _ A6 c6 (HS5.out.below hbw6) HW6a.out).mono ?_
    rintro e_r w7 ⟨A7, c7, rfl, r7, hbn⟩
    have HK7 := Lib.hid (r7.spans FD.out)
    clear r7
    have hbw7 : Below w5.heap.size w5 w7 := bel_on (show Below w5.heap.size w5 _ by (repeat' (first | with_reducible exact Below.refl _ _ | with_reducible assumption | with_reducible refine bel_alloc ?_ _ | with_reducible refine bel_set ?_ ?_ _ | with_reducible refine below_drewN ?_ _ | with_reducible refine below_drew ?_ | (simp; done) | (simp; omega) | omega))) hbn
    clear hbn
    go_wp2_with fail
    refine hK.out _ _ ?_ (fun hHeld => ?_)
    · (try dsimp only)
      exact hbw7
    clear hK K
    (try simp only [Act.put, List.setIfInBounds_toArray, List.set_cons_zero, List.set_cons_succ])
    refine wpAnyH_take (i := 5) (oi := ⟨some 11, _, _, _, _, _⟩) (v := ?_) rfl (by kernel_rfl) (by kernel_rfl) (by kernel_rfl) (fun _ _ _ h => h) (Or.inl ⟨by rfl, ?_⟩) hHeld ?_
    rotate_left
    · intro ww hSw
      (try dsimp only at hSw)
      go_simp
      (try with_reducible rfl)
    simp only [Act.put, List.setIfInBounds_toArray, List.set_cons_zero, List.set_cons_succ]
    refine wpAnyH_done (by kernel_rfl) ?_ _
    refine NoPanic.normal ?_
    have HT7 := Lib.hid (HT5.out.below hbw7)
    have HA7 := Lib.hid (HA5.out.below hbw7)
    have HB7 := Lib.hid (HB5.out.below hbw7)
    have HC7 := Lib.hid (HC5.out.below hbw7)
    have HN7 := Lib.hid (HN5.out.below hbw7)
    have HW7 := Lib.hid (bel_on HW5.out hbw7)
    clear hbw6 hbw7 hHeld HT5 HA5 HB5 HC5 HN5 HW5 HG5 HS5 HY5 HW6a HOW HNG
    go_wp2_with fail
    refine (HON.out _ N3 n3 HN7.out).mono ?_
    rintro e w70 ⟨A70, c70, rfl, r70, b70⟩
    have HT70 := Lib.hid (HT7.out.below b70)
    have HA70 := Lib.hid (HA7.out.below b70)
    have HB70 := Lib.hid (HB7.out.below b70)
    have HC70 := Lib.hid (HC7.out.below b70)
    have HK70 := Lib.hid (HK7.out.below b70)
    have HW70 := Lib.hid (bel_on HW7.out b70)
    have HS70 := Lib.hid (r70.spans (.of_plain (HCP.out 0)))
    clear r70 b70 HT7 HA7 HB7 HC7 HN7 HK7 HW7 HON
    go_wp2_with fail
    refine (radd_c none 0 0 [] A70 (L 0).length c70 (L 0) 0 w70 (prts_nil _) (by omega) (by omega) HS70.out rfl (by have := HLL.out 0; omega)).mono ?_
    rintro e w8 ⟨X8, m8, rfl, b8, p8, n8c, n8m⟩
    have HT8 := Lib.hid (HT70.out.below b8)
    have HA8 := Lib.hid (HA70.out.below b8)
    have HB8 := Lib.hid (HB70.out.below b8)
    have HC8 := Lib.hid (HC70.out.below b8)
    have HK8 := Lib.hid (HK70.out.below b8)
    have HW8 := Lib.hid (bel_on HW70.out b8)
    have HP8 : Hid (Prts w8 X8 (0 + (L 0).length) m8 (catsP L 1)) := p8
    obtain ⟨n8, hn8⟩ : ∃ n, 0 + (L 0).length = n := ⟨_, rfl⟩
    rw [hn8] at HP8 n8c
    rw [hn8]
    have hnb8 : n8 ≤ 32054401 := by have := HLL.out 0; omega
    clear p8 b8 hn8 HS70 HT70 HA70 HB70 HC70 HK70 HW70
    have q1 := HT8.out.cell 0 three_at.1
    have z1 := cell_lt q1
    go_wp2_with fail
    refine (HMA.out _ P3 P3c A7 c7 HA8.out HK8.out).mono ?_
    rintro e w9 ⟨A9, c9, rfl, r9, b9⟩
    have HT9 := Lib.hid (HT8.out.below b9)
    have HA9 := Lib.hid (HA8.out.below b9)
    have HB9 := Lib.hid (HB8.out.below b9)
    have HC9 := Lib.hid (HC8.out.below b9)
    have HK9 := Lib.hid (HK8.out.below b9)
    have HP9 := Lib.hid (HP8.out.below b9)
    have HW9 := Lib.hid (bel_on HW8.out b9)
    have HS9 := Lib.hid (r9.spans (.of_plain (HCP.out 1)))
    clear q1 z1 r9 b9 HT8 HA8 HB8 HC8 HK8 HP8 HW8
    go_wp2_with fail
    refine (radd_c X8 n8 m8 (catsP L 1) A9 (L 1).length c9 (L 1) 1 w9 HP9.out n8c n8m HS9.out rfl (by have := HLL.out 1; omega)).mono ?_
    rintro e w10 ⟨X10, m10, rfl, b10, p10, n10c, n10m⟩
    have HT10 := Lib.hid (HT9.out.below b10)
    have HA10 := Lib.hid (HA9.out.below b10)
    have HB10 := Lib.hid (HB9.out.below b10)
    have HC10 := Lib.hid (HC9.out.below b10)
    have HK10 := Lib.hid (HK9.out.below b10)
    have HW10 := Lib.hid (bel_on HW9.out b10)
    have HP10 : Hid (Prts w10 X10 (n8 + (L 1).length) m10 (catsP L 2)) := p10
    obtain ⟨n10, hn10⟩ : ∃ n, n8 + (L 1).length = n := ⟨_, rfl⟩
    rw [hn10] at HP10 n10c
    rw [hn10]
    have hnb10 : n10 ≤ 64108802 := by have := HLL.out 1; omega
    have HNQ10 := Lib.hid hn10
    clear p10 b10 hn10 HS9 HT9 HA9 HB9 HC9 HK9 HP9 HW9
    have q2 := HT10.out.cell 1 three_at.2.1
    have z2 := cell_lt q2
    go_wp2_with fail
    refine (HMB.out _ Q3 Q3c A7 c7 HB10.out HK10.out).mono ?_
    rintro e w11 ⟨A11, c11, rfl, r11, b11⟩
    have HT11 := Lib.hid (HT10.out.below b11)
    have HA11 := Lib.hid (HA10.out.below b11)
    have HB11 := Lib.hid (HB10.out.below b11)
    have HC11 := Lib.hid (HC10.out.below b11)
    have HK11 := Lib.hid (HK10.out.below b11)
    have HP11 := Lib.hid (HP10.out.below b11)
    have HW11 := Lib.hid (bel_on HW10.out b11)
    have HS11 := Lib.hid (r11.spans (.of_plain (HCP.out 2)))
    clear q2 z2 r11 b11 HT10 HA10 HB10 HC10 HK10 HP10 HW10
    go_wp2_with fail
    refine (radd_c X10 n10 m10 (catsP L 2) A11 (L 2).length c11 (L 2) 2 w11 HP11.out n10c n10m HS11.out rfl (by have := HLL.out 2; omega)).mono ?_
    rintro e w12 ⟨X12, m12, rfl, b12, p12, n12c, n12m⟩
    have HT12 := Lib.hid (HT11.out.below b12)
    have HA12 := Lib.hid (HA11.out.below b12)
    have HB12 := Lib.hid (HB11.out.below b12)
    have HC12 := Lib.hid (HC11.out.below b12)
    have HK12 := Lib.hid (HK11.out.below b12)
    have HW12 := Lib.hid (bel_on HW11.out b12)
    have HP12 : Hid (Prts w12 X12 (n10 + (L 2).length) m12 (catsP L 3)) := p12
    obtain ⟨n12, hn12⟩ : ∃ n, n10 + (L 2).length = n := ⟨_, rfl⟩
    rw [hn12] at HP12 n12c
    rw [hn12]
    have hnb12 : n12 ≤ 96163203 := by have := HLL.out 2; omega
    have HNQ12 := Lib.hid hn12
    clear p12 b12 hn12 HS11 HT11 HA11 HB11 HC11 HK11 HP11 HW11
    have q3 := HT12.out.cell 2 three_at.2.2
    have z3 := cell_lt q3
    go_wp2_with fail
    refine (HMC.out _ R3 R3c A7 c7 HC12.out HK12.out).mono ?_
    rintro e w13 ⟨A13, c13, rfl, r13, b13⟩
    have HT13 := Lib.hid (HT12.out.below b13)
    have HA13 := Lib.hid (HA12.out.below b13)
    have HB13 := Lib.hid (HB12.out.below b13)
    have HC13 := Lib.hid (HC12.out.below b13)
    have HK13 := Lib.hid (HK12.out.below b13)
    have HP13 := Lib.hid (HP12.out.below b13)
    have HW13 := Lib.hid (bel_on HW12.out b13)
    have HS13 := Lib.hid (r13.spans (.of_plain (HCP.out 3)))
    clear q3 z3 r13 b13 HT12 HA12 HB12 HC12 HK12 HP12 HW12
    go_wp2_with fail
    refine (radd_c X12 n12 m12 (catsP L 3) A13 (L 3).length c13 (L 3) 3 w13 HP13.out n12c n12m HS13.out rfl (by have := HLL.out 3; omega)).mono ?_
    rintro e w14 ⟨X14, m14, rfl, b14, p14, n14c, n14m⟩
    have HT14 := Lib.hid (HT13.out.below b14)
    have HA14 := Lib.hid (HA13.out.below b14)
    have HB14 := Lib.hid (HB13.out.below b14)
    have HC14 := Lib.hid (HC13.out.below b14)
    have HK14 := Lib.hid (HK13.out.below b14)
    have HW14 := Lib.hid (bel_on HW13.out b14)
    have HP14 : Hid (Prts w14 X14 (n12 + (L 3).length) m14 (catsP L 4)) := p14
    obtain ⟨n14, hn14⟩ : ∃ n, n12 + (L 3).length = n := ⟨_, rfl⟩
    rw [hn14] at HP14 n14c
    rw [hn14]
    have hnb14 : n14 ≤ 128217604 := by have := HLL.out 3; omega
    have HNQ14 := Lib.hid hn14
    clear p14 b14 hn14 HS13 HT13 HA13 HB13 HC13 HK13 HP13 HW13
    have q4 := HT14.out.cell 0 three_at.1
    have z4 := cell_lt q4
    go_wp2_with fail
    refine (HAA.out _ P3 P3c A7 c7 HA14.out HK14.out).mono ?_
    rintro e w15 ⟨A15, c15, rfl, r15, b15⟩
    have HT15 := Lib.hid (HT14.out.below b15)
    have HA15 := Lib.hid (HA14.out.below b15)
    have HB15 := Lib.hid (HB14.out.below b15)
    have HC15 := Lib.hid (HC14.out.below b15)
    have HK15 := Lib.hid (HK14.out.below b15)
    have HP15 := Lib.hid (HP14.out.below b15)
    have HW15 := Lib.hid (bel_on HW14.out b15)
    have HS15 := Lib.hid (r15.spans (.of_plain (HCP.out 4)))
    clear q4 z4 r15 b15 HT14 HA14 HB14 HC14 HK14 HP14 HW14
    go_wp2_with fail
    refine (radd_c X14 n14 m14 (catsP L 4) A15 (L 4).length c15 (L 4) 4 w15 HP15.out n14c n14m HS15.out rfl (by have := HLL.out 4; omega)).mono ?_
    rintro e w16 ⟨X16, m16, rfl, b16, p16, n16c, n16m⟩
    have HT16 := Lib.hid (HT15.out.below b16)
    have HA16 := Lib.hid (HA15.out.below b16)
    have HB16 := Lib.hid (HB15.out.below b16)
    have HC16 := Lib.hid (HC15.out.below b16)
    have HK16 := Lib.hid (HK15.out.below b16)
    have HW16 := Lib.hid (bel_on HW15.out b16)
    have HP16 : Hid (Prts w16 X16 (n14 + (L 4).length) m16 (catsP L 5)) := p16
    obtain ⟨n16, hn16⟩ : ∃ n, n14 + (L 4).length = n := ⟨_, rfl⟩
    rw [hn16] at HP16 n16c
    rw [hn16]
    have hnb16 : n16 ≤ 160272005 := by have := HLL.out 4; omega
    have HNQ16 := Lib.hid hn16
    clear p16 b16 hn16 HS15 HT15 HA15 HB15 HC15 HK15 HP15 HW15
    have q5 := HT16.out.cell 1 three_at.2.1
    have z5 := cell_lt q5
    go_wp2_with fail
    refine (HAB.out _ Q3 Q3c A7 c7 HB16.out HK16.out).mono ?_
    rintro e w17 ⟨A17, c17, rfl, r17, b17⟩
    have HT17 := Lib.hid (HT16.out.below b17)
    have HA17 := Lib.hid (HA16.out.below b17)
    have HB17 := Lib.hid (HB16.out.below b17)
    have HC17 := Lib.hid (HC16.out.below b17)
    have HK17 := Lib.hid (HK16.out.below b17)
    have HP17 := Lib.hid (HP16.out.below b17)
    have HW17 := Lib.hid (bel_on HW16.out b17)
    have HS17 := Lib.hid (r17.spans (.of_plain (HCP.out 5)))
    clear q5 z5 r17 b17 HT16 HA16 HB16 HC16 HK16 HP16 HW16
    go_wp2_with fail
    refine (radd_c X16 n16 m16 (catsP L 5) A17 (L 5).length c17 (L 5) 5 w17 HP17.out n16c n16m HS17.out rfl (by have := HLL.out 5; omega)).mono ?_
    rintro e w18 ⟨X18, m18, rfl, b18, p18, n18c, n18m⟩
    have HT18 := Lib.hid (HT17.out.below b18)
    have HA18 := Lib.hid (HA17.out.below b18)
    have HB18 := Lib.hid (HB17.out.below b18)
    have HC18 := Lib.hid (HC17.out.below b18)
    have HK18 := Lib.hid (HK17.out.below b18)
    have HW18 := Lib.hid (bel_on HW17.out b18)
    have HP18 : Hid (Prts w18 X18 (n16 + (L 5).length) m18 (catsP L 6)) := p18
    obtain ⟨n18, hn18⟩ : ∃ n, n16 + (L 5).length = n := ⟨_, rfl⟩
    rw [hn18] at HP18 n18c
    rw [hn18]
    have hnb18 : n18 ≤ 192326406 := by have := HLL.out 5; omega
    have HNQ18 := Lib.hid hn18
    clear p18 b18 hn18 HS17 HT17 HA17 HB17 HC17 HK17 HP17 HW17
    have q6 := HT18.out.cell 2 three_at.2.2
    have z6 := cell_lt q6
    go_wp2_with fail
    refine (HAC.out _ R3 R3c A7 c7 HC18.out HK18.out).mono ?_
    rintro e w19 ⟨A19, c19, rfl, r19, b19⟩
    have HT19 := Lib.hid (HT18.out.below b19)
    have HA19 := Lib.hid (HA18.out.below b19)
    have HB19 := Lib.hid (HB18.out.below b19)
    have HC19 := Lib.hid (HC18.out.below b19)
    have HK19 := Lib.hid (HK18.out.below b19)
    have HP19 := Lib.hid (HP18.out.below b19)
    have HW19 := Lib.hid (bel_on HW18.out b19)
    have HS19 := Lib.hid (r19.spans (.of_plain (HCP.out 6)))
    clear q6 z6 r19 b19 HT18 HA18 HB18 HC18 HK18 HP18 HW18
    go_wp2_with fail
    refine (radd_c X18 n18 m18 (catsP L 6) A19 (L 6).length c19 (L 6) 6 w19 HP19.out n18c n18m HS19.out rfl (by have := HLL.out 6; omega)).mono ?_
    rintro e w20 ⟨X20, m20, rfl, b20, p20, n20c, n20m⟩
    have HT20 := Lib.hid (HT19.out.below b20)
    have HA20 := Lib.hid (HA19.out.below b20)
    have HB20 := Lib.hid (HB19.out.below b20)
    have HC20 := Lib.hid (HC19.out.below b20)
    have HK20 := Lib.hid (HK19.out.below b20)
    have HW20 := Lib.hid (bel_on HW19.out b20)
    have HP20 : Hid (Prts w20 X20 (n18 + (L 6).length) m20 (catsP L 7)) := p20
    obtain ⟨n20, hn20⟩ : ∃ n, n18 + (L 6).length = n := ⟨_, rfl⟩
    rw [hn20] at HP20 n20c
    rw [hn20]
    have hnb20 : n20 ≤ 224380807 := by have := HLL.out 6; omega
    have HNQ20 := Lib.hid hn20
    clear p20 b20 hn20 HS19 HT19 HA19 HB19 HC19 HK19 HP19 HW19
    go_wp2
    go_ret
    exact ⟨X20, n20, m20, rfl, HP20.out, n20c, n20m, HW20.out⟩

end Go.Proofs.YtdlimgpmmkcgmaaGreat
