/-
  SplitTotals: the totals of a week are as many seconds together as its clock has.
-/
import Derived.Test.YtdlimgpmmkcgmaaGreatSplAw
import Derived.Test.YtdlimgpmmkcgmaaGreatSplC
import Derived.Test.YtdlimgpmmkcgmaaGreatZbk
import Derived.Test.YtdlimgpmmkcgmaaGreatZbc
import Derived.Test.YtdlimgpmmkcgmaaGreatZbg
import Derived.Test.YtdlimgpmmkcgmaaGreatZak
import Derived.Test.YtdlimgpmmkcgmaaGreatZaz
import Derived.Test.YtdlimgpmmkcgmaaGreatZay
import Derived.Test.YtdlimgpmmkcgmaaGreatZas
import Derived.Test.YtdlimgpmmkcgmaaGreatZaw
import Derived.Test.YtdlimgpmmkcgmaaGreatZbb

namespace Go.Proofs.YtdlimgpmmkcgmaaGreat
open Go.RowKit
set_option linter.unusedVariables false
set_option linter.unusedSimpArgs false
set_option maxRecDepth 100000

theorem wparts_fit {b : Bool} {s : SetP} {l : List SegP} {k : Int} : ∀ e ∈ wpartsL b s l k, FitP e := fun e he => by
  unfold wpartsL at he
  split at he
  · have := part_is (catW_plain b s l k) he
    refine ⟨⟨?_, ?_⟩, ⟨?_, ?_⟩, ⟨?_, ?_⟩⟩ <;> omega
  · cases he
def sum7V (v : Nat → Int) : Nat → Int
  | 0 => 0
  | k + 1 => sum7V v k + v k
theorem sumV_bd {v : Nat → Int} (h : ∀ j, 0 ≤ v j ∧ v j ≤ 32054400) : ∀ k, 0 ≤ sum7V v k ∧ sum7V v k ≤ 32054400 * k
  | 0 => by simp [sum7V]
  | k + 1 => by
    have := sumV_bd h k
    have := h k
    unfold sum7V
    omega
set_option maxHeartbeats 8000000 in
theorem splitTotals_main (s : SetP) (cs : Array Value) (w : World) (hC : SetC w s cs) (hf : s.Fit) (A : Option Addr) (n c : Nat) (l : List SegP) (hx : Segs w A n c l) (hF : ∀ e ∈ l, Fit e.fr ∧ Fit e.to) (hmax : n ≤ 9223372036854775807) (k : Int) (k0 : -9223372036854775808 ≤ k) (k1 : k ≤ 9223372036854775807) :
    Calls Tryz.prog 5 #[.agg cs, .slice A n c, .int .i64 k] w fun e w' => e = .returned (.bool true) ∧ Below w.heap.size w w' := by
  have mixed : Tryz.prog.follows Departure.mixedOrders = true := by kernel_rfl
  have HM := Lib.hid mixed
  have HZ := Lib.hid hC.size
  have HN0 := Lib.hid (bx_start hC hx)
  have HFEW := Lib.hid (fun W (hW : SetC W s cs) (hX : Segs W A n c l) => few15 s cs W hW A n c l hX hmax)
  obtain ⟨b, hb⟩ : ∃ b, checkB s = b := ⟨_, rfl⟩
  have CH := Lib.hid (fun W (hW : SetC W s cs) => scheck_c hW hf b hb)
  go_enter Tryz.func5, Tryz.ntmps5
  go_wp2_with fail
  refine (awake17 _).mono ?_
  rintro e w1 ⟨rfl, b1⟩
  have HN1 := Lib.hid (HN0.out.below b1)
  clear HN0 b1
  go_wp2_with (refine wpList_load_sp (by rfl) _ rfl w.heap.size rfl cs HN1.out.h HZ.out ?_)
  refine (HFEW.out _ HN1.out.c HN1.out.x).mono ?_
  rintro e w2 ⟨⟨q, rfl, hq⟩, b2⟩
  have HN2 := Lib.hid (HN1.out.below b2)
  clear HN1 b2 HFEW
  cases q with
  | false =>
    have HE := Lib.hid HN2.out.b
    clear HN2 hq CH
    go_wp2
    go_ret
    exact ⟨rfl, HE.out⟩
  | true =>
    have h30 := hq rfl
    clear hq
    go_wp2_with (refine wpList_load_sp (by rfl) _ rfl w.heap.size rfl cs HN2.out.h HZ.out ?_)
    refine (CH.out _ HN2.out.c).mono ?_
    rintro e w3 ⟨rfl, b3⟩
    have HN3 := Lib.hid (HN2.out.below b3)
    clear HN2 b3 CH
    cases b with
    | false =>
      have HE := Lib.hid HN3.out.b
      clear HN3
      go_wp2
      go_ret
      exact ⟨rfl, HE.out⟩
    | true =>
      have hm := check_iff.1 hb
      have CP := Lib.hid (fun W (hW : SetC W s cs) (hX : Segs W A n c l) hn => parts_c hW hf true hb A n c l hX hn hF k)
      have CB := Lib.hid (fun W (hW : SetC W s cs) (hX : Segs W A n c l) hn => bpaid_c hW hf true hb A n c l hX hn hF)
      have CC := Lib.hid (fun W (hX : Segs W A n c l) => sclock_any A n c l W hX (by omega) hF)
      have PY : PlainFrom 0 (allYes true s l) := canon_plain _
      have PN : PlainFrom 0 (allNo true s l) := canon_plain _
      have PC : PlainFrom 0 (clockP l) := canon_plain _
      have lY := pl_len PY
      have lN := pl_len PN
      have lC := pl_len PC
      have FY := Lib.hid (Fits.of_plain PY)
      have FN := Lib.hid (Fits.of_plain PN)
      have FCK := Lib.hid (Fits.of_plain PC)
      have CW1 := Lib.hid (fun W D d (hD : Spans W D (clockP l)) => ofweek_any D d (clockP l) k W hD (by omega))
      have CW2 := Lib.hid (fun W D d (hD : Spans W D (allNo true s l)) => ofweek_any D d (allNo true s l) k W hD (by omega))
      have CW3 := Lib.hid (fun W D d (hD : Spans W D (allYes true s l)) => ofweek_any D d (allYes true s l) k W hD (by omega))
      have lWY : (ofWeekP (In (allYes true s l)) k).length ≤ 32054401 := canon_len _
      have lWN : (ofWeekP (In (allNo true s l)) k).length ≤ 32054401 := canon_len _
      have lWC : (ofWeekP (In (clockP l)) k).length ≤ 32054401 := canon_len _
      have lDK : (darkL true s l k).length ≤ 32054401 := canon_len _
      have FWY : Hid (Fits (ofWeekP (In (allYes true s l)) k)) := Fits.of_plain (canon_plain _)
      have FWN : Hid (Fits (ofWeekP (In (allNo true s l)) k)) := Fits.of_plain (canon_plain _)
      have FWC : Hid (Fits (ofWeekP (In (clockP l)) k)) := Fits.of_plain (canon_plain _)
      have FDK : Hid (Fits (darkL true s l k)) := Fits.of_plain (canon_plain _)
      have CN := Lib.hid (fun W D d (hW : SetC W s cs) (hD : Spans W D (ofWeekP (In (allYes true s l)) k)) => (show Calls _ _ _ W (Gives W (darkL true s l k)) from ofnight_c hW hf true hb D d (ofWeekP (In (allYes true s l)) k) hD (by omega)))
      have hPL := wparts_len true s l k
      have hcat : ∀ j : Nat, j < 7 → spansP (wpartsL true s l k) (j : Int) = catW true s l k j := fun j hj => spans_wparts (fun _ => hm) hj
      have CT := Lib.hid (fun W D m d (hD : Prts W D m d (wpartsL true s l k)) => totals_c D m d (wpartsL true s l k) W hD wparts_fit (by have := hD.2; omega) (fun j hj => by rw [hcat j hj]; have := pl_len (catW_plain true s l k j); omega))
      obtain ⟨vv, hvv⟩ : ∃ vv : Nat → Int, ∀ j, szP (wpartsL true s l k) j = vv j := ⟨_, fun _ => rfl⟩
      have hsz : ∀ j, j < 7 → vv j = sz (In (catW true s l k j)) := fun j hj => by rw [← hvv j]; unfold szP; rw [hcat j hj]
      have hvb : ∀ j, 0 ≤ vv j ∧ vv j ≤ 32054400 := fun j => by rw [← hvv j]; exact sz_bound _
      have ENO : Hid (vv 0 = sz (In (ofWeekP (In (allNo true s l)) k))) := hsz 0 (by omega)
      have EDK : Hid (vv 4 + vv 5 + vv 6 = sz (In (darkL true s l k))) := by
        show _ = _
        rw [hsz 4 (by omega), hsz 5 (by omega), hsz 6 (by omega)]
        exact tot_dark hm
      have EALL : Hid (sum7V vv 7 = sz (In (ofWeekP (In (clockP l)) k))) := by
        show _ = _
        have e := tot_all (k := k) (l := l) hm
        rw [← hsz 0 (by omega), ← hsz 1 (by omega), ← hsz 2 (by omega), ← hsz 3 (by omega), ← hsz 4 (by omega), ← hsz 5 (by omega), ← hsz 6 (by omega)] at e
        refine Eq.trans ?_ e
        simp only [sum7V]
        generalize vv 0 = x0
        generalize vv 1 = x1
        generalize vv 2 = x2
        generalize vv 3 = x3
        generalize vv 4 = x4
        generalize vv 5 = x5
        generalize vv 6 = x6
        clear e hvb hsz hcat hvv ENO EDK
        omega
      rw [tot_full, hvv, hvv, hvv, hvv, hvv, hvv, hvv] at CT
      have HVB := Lib.hid hvb
      have u4 := hvb 4
      have u5 := hvb 5
      have u6 := hvb 6
      have hat : ∀ j, j < 7 → (#[.int .i64 (vv 0), .int .i64 (vv 1), .int .i64 (vv 2), .int .i64 (vv 3), .int .i64 (vv 4), .int .i64 (vv 5), .int .i64 (vv 6)] : Array Value)[j]? = some (.int .i64 (vv j)) := fun j hj => by
        have : j = 0 ∨ j = 1 ∨ j = 2 ∨ j = 3 ∨ j = 4 ∨ j = 5 ∨ j = 6 := by omega
        rcases this with rfl | rfl | rfl | rfl | rfl | rfl | rfl <;> rfl
      have HAT := Lib.hid hat
      generalize wpartsL true s l k = L at *
      generalize darkL true s l k = DK at *
      generalize ofWeekP (In (allYes true s l)) k = WY at *
      generalize ofWeekP (In (allNo true s l)) k = WN at *
      generalize ofWeekP (In (clockP l)) k = WC at *
      generalize allYes true s l = YL at *
      generalize allNo true s l = NL at *
      generalize clockP l = CL at *
      clear hm hf hb hF hx hC PY PN PC hcat hvv hsz hvb hat
      go_wp2_with (refine wpList_load_sp (by rfl) _ rfl w.heap.size rfl cs HN3.out.h HZ.out ?_)
      refine (CP.out _ HN3.out.c HN3.out.x (by omega)).mono ?_
      rintro e w4 ⟨A4, n4, c4, rfl, p4, nc4, nm4, b4⟩
      have HN4 := Lib.hid (HN3.out.below b4)
      have HCT := Lib.hid (CT.out w4 A4 n4 c4 p4)
      clear p4 b4 HN3 CP CT
      go_wp2_with fail
      refine HCT.out.mono ?_
      rintro e w5 ⟨rfl, b5⟩
      obtain ⟨g, hg⟩ : ∃ g, w5.heap.size = g := ⟨_, rfl⟩
      obtain ⟨w6, hw6⟩ : ∃ W, w5.alloc (.cells #[.int .i64 (vv 0), .int .i64 (vv 1), .int .i64 (vv 2), .int .i64 (vv 3), .int .i64 (vv 4), .int .i64 (vv 5), .int .i64 (vv 6)] 37) = W := ⟨_, rfl⟩
      have hb56 : Below w5.heap.size w5 w6 := by rw [← hw6]; exact bel_alloc (Below.refl _ _) _
      have HT6 : Hid (Has w6 g #[.int .i64 (vv 0), .int .i64 (vv 1), .int .i64 (vv 2), .int .i64 (vv 3), .int .i64 (vv 4), .int .i64 (vv 5), .int .i64 (vv 6)]) := by show Has _ _ _; rw [← hw6]; exact Has.new _ _ _ hg
      have HN6 := Lib.hid ((HN4.out.below b5).below hb56)
      clear HN4 b5 hb56 HCT
      go_wp2_with (refine wpList_load_sp (by rfl) _ rfl w.heap.size rfl cs HN6.out.h HZ.out ?_)
      refine (CB.out _ HN6.out.c HN6.out.x (by omega)).mono ?_
      rintro e w7 ⟨Y, y, N, ny, rfl, ry, rn, b7⟩
      have HN7 := Lib.hid (HN6.out.below b7)
      have HT7 := Lib.hid (HT6.out.below b7)
      have HY7 := Lib.hid (ry.spans FY.out)
      have HNO7 := Lib.hid (rn.spans FN.out)
      clear ry rn b7 HN6 HT6 CB hw6 hg
      go_wp2_with fail
      go_loopw [11, 12] (fun sv iv wr => ∃ j : Nat, j ≤ 7 ∧ iv = .int .i64 j ∧ sv = .int .i64 (sum7V vv j) ∧ Hid (Below w7.heap.size w7 wr)) (fun _ iv _ => 7 - (intOf iv).toNat)
      case atStart => exact ⟨0, by omega, rfl, rfl, Lib.hid (Below.refl _ _)⟩
      case round =>
        obtain ⟨j, hj, rfl, rfl, HB⟩ := hrel
        by_cases hlt : j < 7
        · have zc := (HT7.out.below HB.out).cell j (HAT.out j hlt)
          have zl := cell_lt zc
          have i0 : (0 : Int) ≤ (j : Int) := by omega
          have i1 : (j : Int) < 7 := by omega
          have s1 := sumV_bd HVB.out j
          have s2 := HVB.out j
          have s3 : sum7V vv j ≤ 224380800 := by omega
          go_wp2
          go_roundw
          case rel => exact ⟨j + 1, by omega, by go_num, by go_num, HB⟩
          case measure => simp [intOf]; omega
        · obtain rfl : j = 7 := by omega
          have HN8 := Lib.hid (HN7.out.below HB.out)
          have HT8 := Lib.hid (HT7.out.below HB.out)
          have HNO8 := Lib.hid (HNO7.out.below HB.out)
          have HY8 := Lib.hid (HY7.out.below HB.out)
          have s1 := sumV_bd HVB.out 7
          clear HN7 HT7 HNO7 HY7 HB HAT
          go_wp2_with fail
          refine (CW3.out _ Y y HY8.out).mono ?_
          rintro e w9 ⟨A7, c7, rfl, r7, b9⟩
          have HN6 := Lib.hid (HN8.out.below b9)
          have HT6 := Lib.hid (HT8.out.below b9)
          have HNO6 := Lib.hid (HNO8.out.below b9)
          have HX6 := Lib.hid (r7.spans FWY.out)
          clear r7 b9 HN8 HT8 HNO8 HY8 CW3
          go_wp2_with fail
          refine wp_region_noPanic ?_
          refine wp_region_held_drew (S := fun w' => Below w9.heap.size w9 w') (by kernel_rfl) (below_drew (Below.refl _ _)) (fun hHeld => ?_)
          refine wpAnyH_take (i := 0) (oi := ⟨some 48, _, _, _, _, _⟩) (v := ?_) rfl (by kernel_rfl) (by kernel_rfl) (by kernel_rfl) (fun _ _ _ h => h) (Or.inl ⟨by rfl, ?_⟩) hHeld ?_
          rotate_left
          · intro ww hSw
            (try dsimp only at hSw)
            go_simp
            (try with_reducible rfl)
          simp only [Act.put, List.setIfInBounds_toArray, List.set_cons_zero, List.set_cons_succ]
          refine wpAnyH_take (i := 1) (oi := ⟨some 49, _, _, _, _, _⟩) (v := ?_) rfl (by kernel_rfl) (by kernel_rfl) (by kernel_rfl) (fun _ _ _ h => h) (Or.inl ⟨by rfl, ?_⟩) hHeld ?_
          rotate_left
          · intro ww hSw
            (try dsimp only at hSw)
            go_simp
            (try with_reducible rfl)
          simp only [Act.put, List.setIfInBounds_toArray, List.set_cons_zero, List.set_cons_succ]
          refine wpAnyH_take (i := 2) (oi := ⟨some 50, _, _, _, _, _⟩) (v := ?_) rfl (by kernel_rfl) (by kernel_rfl) (by kernel_rfl) (fun _ _ _ h => h) (Or.inl ⟨by rfl, ?_⟩) hHeld ?_
          rotate_left
          · intro ww hSw
            (try dsimp only at hSw)
            go_simp
            (try with_reducible rfl)
          simp only [Act.put, List.setIfInBounds_toArray, List.set_cons_zero, List.set_cons_succ]
          refine wpAnyH_take (i := 3) (oi := ⟨some 51, _, _, _, _, _⟩) (v := ?_) rfl (by kernel_rfl) (by kernel_rfl) (by kernel_rfl) (fun _ _ _ h => h) (Or.inl ⟨by rfl, ?_⟩) hHeld ?_
          rotate_left
          · intro ww hSw
            (try dsimp only at hSw)
            go_simp
            (try with_reducible rfl)
          simp only [Act.put, List.setIfInBounds_toArray, List.set_cons_zero, List.set_cons_succ]
          refine wpAnyH_take (i := 5) (oi := ⟨some 53, _, _, _, _, _⟩) (v := ?_) rfl (by kernel_rfl) (by kernel_rfl) (by kernel_rfl) (fun _ _ _ h => h) (Or.inl ⟨by rfl, ?_⟩) hHeld ?_
          rotate_left
          · intro ww hSw
            (try dsimp only at hSw)
            go_simp
            (try with_reducible rfl)
          simp only [Act.put, List.setIfInBounds_toArray, List.set_cons_zero, List.set_cons_succ]
          refine wpAnyH_ready (rs := [4]) (by kernel_rfl) (by simp) ?_
          refine AllReadyH.cons (o := ⟨some 52, _, _, _, _, _⟩) rfl (fun K hK => ?_) AllReadyH.nil
          go_simp
          go_at_call 19
          refine (CC.out _ (HN6.out.x.below (below_drew (Below.refl _ _)))).mono ?_
          rintro e_r wa ⟨A1, a1, rfl, r1, hbn⟩
          have H1 := Lib.hid (r1.spans FCK.out)
          clear r1
          have hbwa : Below w9.heap.size w9 wa := bel_on (show Below w9.heap.size w9 _ by (repeat' (first | with_reducible exact Below.refl _ _ | with_reducible assumption | with_reducible refine bel_alloc ?_ _ | with_reducible refine bel_set ?_ ?_ _ | with_reducible refine below_drewN ?_ _ | with_reducible refine below_drew ?_ | (simp; done) | (simp; omega) | omega))) hbn
          clear hbn
          go_wp2_with fail
          refine hK.out _ _ ?_ (fun hHeld => ?_)
          · (try dsimp only)
            exact hbwa
          clear hK K
          (try simp only [Act.put, List.setIfInBounds_toArray, List.set_cons_zero, List.set_cons_succ])
          refine wpAnyH_ready (rs := [6]) (by kernel_rfl) (by simp) ?_
          refine AllReadyH.cons (o := ⟨some 54, _, _, _, _, _⟩) rfl (fun K hK => ?_) AllReadyH.nil
          go_simp
          go_at_call 18
          refine (CW1.out _ A1 a1 H1.out).mono ?_
          rintro e_r wb ⟨A2, a2, rfl, r2, hbn⟩
          have H2 := Lib.hid (r2.spans FWC.out)
          clear r2
          have hbwb : Below w9.heap.size w9 wb := bel_on (show Below w9.heap.size w9 _ by (repeat' (first | with_reducible exact Below.refl _ _ | with_reducible assumption | with_reducible refine bel_alloc ?_ _ | with_reducible refine bel_set ?_ ?_ _ | with_reducible refine below_drewN ?_ _ | with_reducible refine below_drew ?_ | (simp; done) | (simp; omega) | omega))) hbn
          clear hbn
          go_wp2_with fail
          refine hK.out _ _ ?_ (fun hHeld => ?_)
          · (try dsimp only)
            exact hbwb
          clear hK K
          (try simp only [Act.put, List.setIfInBounds_toArray, List.set_cons_zero, List.set_cons_succ])
          refine wpAnyH_ready (rs := [7]) (by kernel_rfl) (by simp) ?_
          refine AllReadyH.cons (o := ⟨some 55, _, _, _, _, _⟩) rfl (fun K hK => ?_) AllReadyH.nil
          go_simp
          go_at_call 21
          refine (size_any A2 a2 WC _ H2.out (by omega)).mono ?_
          rintro e_r wc2 ⟨rfl, hbn⟩
          have hbwc2 : Below w9.heap.size w9 wc2 := bel_on (show Below w9.heap.size w9 _ by (repeat' (first | with_reducible exact Below.refl _ _ | with_reducible assumption | with_reducible refine bel_alloc ?_ _ | with_reducible refine bel_set ?_ ?_ _ | with_reducible refine below_drewN ?_ _ | with_reducible refine below_drew ?_ | (simp; done) | (simp; omega) | omega))) hbn
          clear hbn
          go_wp2_with fail
          refine hK.out _ _ ?_ (fun hHeld => ?_)
          · (try dsimp only)
            exact hbwc2
          clear hK K
          (try simp only [Act.put, List.setIfInBounds_toArray, List.set_cons_zero, List.set_cons_succ])
          refine wpAnyH_take (i := 8) (oi := ⟨some 56, _, _, _, _, _⟩) (v := .bool true) rfl (by kernel_rfl) (by kernel_rfl) (by kernel_rfl) (fun _ _ _ h => h) (Or.inl ⟨by rfl, ?_⟩) hHeld ?_
          · intro ww hSw
            (try dsimp only at hSw)
            go_simp
            (try simp only [EALL.out])
            (try simp)
          simp only [Act.put, List.setIfInBounds_toArray, List.set_cons_zero, List.set_cons_succ]
          refine wpAnyH_take (i := 9) (oi := ⟨some 57, _, _, _, _, _⟩) (v := .bool true) rfl (by kernel_rfl) (by kernel_rfl) (by kernel_rfl) (fun _ _ _ h => h) (Or.inl ⟨by rfl, ?_⟩) hHeld ?_
          · intro ww hSw
            (try dsimp only at hSw)
            go_simp
          simp only [Act.put, List.setIfInBounds_toArray, List.set_cons_zero, List.set_cons_succ]
          refine wpAnyH_take (i := 10) (oi := ⟨some 58, _, _, _, _, _⟩) (v := ?_) rfl (by kernel_rfl) (by kernel_rfl) (by kernel_rfl) (fun _ _ _ h => h) (Or.inl ⟨by rfl, ?_⟩) hHeld ?_
          rotate_left
          · intro ww hSw
            (try dsimp only at hSw)
            go_simp
            (try with_reducible rfl)
          simp only [Act.put, List.setIfInBounds_toArray, List.set_cons_zero, List.set_cons_succ]
          refine wpAnyH_take (i := 11) (oi := ⟨some 59, _, _, _, _, _⟩) (v := .pointer (some ⟨g, 0, none⟩)) rfl (by kernel_rfl) (by kernel_rfl) (by kernel_rfl) (fun _ _ _ h => h) (Or.inl ⟨by rfl, ?_⟩) hHeld ?_
          · intro ww hSw
            (try dsimp only at hSw)
            go_simp
          simp only [Act.put, List.setIfInBounds_toArray, List.set_cons_zero, List.set_cons_succ]
          refine wpAnyH_take (i := 12) (oi := ⟨some 60, _, _, _, _, _⟩) (v := .int .i64 (vv 0)) rfl (by kernel_rfl) (by kernel_rfl) (by kernel_rfl) (fun _ _ _ h => h) (Or.inl ⟨by rfl, ?_⟩) hHeld ?_
          · intro ww hSw
            (try dsimp only at hSw)
            have zc := (HT6.out.below hSw).cell 0 (v := .int .i64 (vv 0)) rfl
            have zl := cell_lt zc
            go_simp
          simp only [Act.put, List.setIfInBounds_toArray, List.set_cons_zero, List.set_cons_succ]
          refine wpAnyH_take (i := 13) (oi := ⟨some 61, _, _, _, _, _⟩) (v := ?_) rfl (by kernel_rfl) (by kernel_rfl) (by kernel_rfl) (fun _ _ _ h => h) (Or.inl ⟨by rfl, ?_⟩) hHeld ?_
          rotate_left
          · intro ww hSw
            (try dsimp only at hSw)
            go_simp
            (try with_reducible rfl)
          simp only [Act.put, List.setIfInBounds_toArray, List.set_cons_zero, List.set_cons_succ]
          refine wpAnyH_take (i := 14) (oi := ⟨some 62, _, _, _, _, _⟩) (v := ?_) rfl (by kernel_rfl) (by kernel_rfl) (by kernel_rfl) (fun _ _ _ h => h) (Or.inl ⟨by rfl, ?_⟩) hHeld ?_
          rotate_left
          · intro ww hSw
            (try dsimp only at hSw)
            go_simp
            (try with_reducible rfl)
          simp only [Act.put, List.setIfInBounds_toArray, List.set_cons_zero, List.set_cons_succ]
          refine wpAnyH_ready (rs := [15]) (by kernel_rfl) (by simp) ?_
          refine AllReadyH.cons (o := ⟨some 63, _, _, _, _, _⟩) rfl (fun K hK => ?_) AllReadyH.nil
          go_simp
          go_at_call 18
          refine (CW2.out _ N ny (HNO6.out.below hbwc2)).mono ?_
          rintro e_r wd ⟨A3, a3, rfl, r3, hbn⟩
          have H3 := Lib.hid (r3.spans FWN.out)
          clear r3
          have hbwd : Below w9.heap.size w9 wd := bel_on (show Below w9.heap.size w9 _ by (repeat' (first | with_reducible exact Below.refl _ _ | with_reducible assumption | with_reducible refine bel_alloc ?_ _ | with_reducible refine bel_set ?_ ?_ _ | with_reducible refine below_drewN ?_ _ | with_reducible refine below_drew ?_ | (simp; done) | (simp; omega) | omega))) hbn
          clear hbn
          go_wp2_with fail
          refine hK.out _ _ ?_ (fun hHeld => ?_)
          · (try dsimp only)
            exact hbwd
          clear hK K
          (try simp only [Act.put, List.setIfInBounds_toArray, List.set_cons_zero, List.set_cons_succ])
          refine wpAnyH_ready (rs := [16]) (by kernel_rfl) (by simp) ?_
          refine AllReadyH.cons (o := ⟨some 64, _, _, _, _, _⟩) rfl (fun K hK => ?_) AllReadyH.nil
          go_simp
          go_at_call 21
          refine (size_any A3 a3 WN _ H3.out (by omega)).mono ?_
          rintro e_r we ⟨rfl, hbn⟩
          have hbwe : Below w9.heap.size w9 we := bel_on (show Below w9.heap.size w9 _ by (repeat' (first | with_reducible exact Below.refl _ _ | with_reducible assumption | with_reducible refine bel_alloc ?_ _ | with_reducible refine bel_set ?_ ?_ _ | with_reducible refine below_drewN ?_ _ | with_reducible refine below_drew ?_ | (simp; done) | (simp; omega) | omega))) hbn
          clear hbn
          go_wp2_with fail
          refine hK.out _ _ ?_ (fun hHeld => ?_)
          · (try dsimp only)
            exact hbwe
          clear hK K
          (try simp only [Act.put, List.setIfInBounds_toArray, List.set_cons_zero, List.set_cons_succ])
          refine wpAnyH_take (i := 17) (oi := ⟨some 65, _, _, _, _, _⟩) (v := .bool true) rfl (by kernel_rfl) (by kernel_rfl) (by kernel_rfl) (fun _ _ _ h => h) (Or.inl ⟨by rfl, ?_⟩) hHeld ?_
          · intro ww hSw
            (try dsimp only at hSw)
            go_simp
            (try simp only [ENO.out])
            (try simp)
          simp only [Act.put, List.setIfInBounds_toArray, List.set_cons_zero, List.set_cons_succ]
          refine wpAnyH_take (i := 18) (oi := ⟨some 66, _, _, _, _, _⟩) (v := .bool true) rfl (by kernel_rfl) (by kernel_rfl) (by kernel_rfl) (fun _ _ _ h => h) (Or.inl ⟨by rfl, ?_⟩) hHeld ?_
          · intro ww hSw
            (try dsimp only at hSw)
            go_simp
          simp only [Act.put, List.setIfInBounds_toArray, List.set_cons_zero, List.set_cons_succ]
          refine wpAnyH_take (i := 19) (oi := ⟨some 67, _, _, _, _, _⟩) (v := ?_) rfl (by kernel_rfl) (by kernel_rfl) (by kernel_rfl) (fun _ _ _ h => h) (Or.inl ⟨by rfl, ?_⟩) hHeld ?_
          rotate_left
          · intro ww hSw
            (try dsimp only at hSw)
            go_simp
            (try with_reducible rfl)
          simp only [Act.put, List.setIfInBounds_toArray, List.set_cons_zero, List.set_cons_succ]
          refine wpAnyH_take (i := 20) (oi := ⟨some 68, _, _, _, _, _⟩) (v := .pointer (some ⟨g, 4, none⟩)) rfl (by kernel_rfl) (by kernel_rfl) (by kernel_rfl) (fun _ _ _ h => h) (Or.inl ⟨by rfl, ?_⟩) hHeld ?_
          · intro ww hSw
            (try dsimp only at hSw)
            go_simp
          simp only [Act.put, List.setIfInBounds_toArray, List.set_cons_zero, List.set_cons_succ]
          refine wpAnyH_take (i := 21) (oi := ⟨some 69, _, _, _, _, _⟩) (v := .int .i64 (vv 4)) rfl (by kernel_rfl) (by kernel_rfl) (by kernel_rfl) (fun _ _ _ h => h) (Or.inl ⟨by rfl, ?_⟩) hHeld ?_
          · intro ww hSw
            (try dsimp only at hSw)
            have zc := (HT6.out.below hSw).cell 4 (v := .int .i64 (vv 4)) rfl
            have zl := cell_lt zc
            go_simp
          simp only [Act.put, List.setIfInBounds_toArray, List.set_cons_zero, List.set_cons_succ]
          refine wpAnyH_take (i := 22) (oi := ⟨some 70, _, _, _, _, _⟩) (v := .pointer (some ⟨g, 5, none⟩)) rfl (by kernel_rfl) (by kernel_rfl) (by kernel_rfl) (fun _ _ _ h => h) (Or.inl ⟨by rfl, ?_⟩) hHeld ?_
          · intro ww hSw
            (try dsimp only at hSw)
            go_simp
          simp only [Act.put, List.setIfInBounds_toArray, List.set_cons_zero, List.set_cons_succ]
          refine wpAnyH_take (i := 23) (oi := ⟨some 71, _, _, _, _, _⟩) (v := .int .i64 (vv 5)) rfl (by kernel_rfl) (by kernel_rfl) (by kernel_rfl) (fun _ _ _ h => h) (Or.inl ⟨by rfl, ?_⟩) hHeld ?_
          · intro ww hSw
            (try dsimp only at hSw)
            have zc := (HT6.out.below hSw).cell 5 (v := .int .i64 (vv 5)) rfl
            have zl := cell_lt zc
            go_simp
          simp only [Act.put, List.setIfInBounds_toArray, List.set_cons_zero, List.set_cons_succ]
          refine wpAnyH_take (i := 24) (oi := ⟨some 72, _, _, _, _, _⟩) (v := .int .i64 (vv 4 + vv 5)) rfl (by kernel_rfl) (by kernel_rfl) (by kernel_rfl) (fun _ _ _ h => h) (Or.inl ⟨by rfl, ?_⟩) hHeld ?_
          · intro ww hSw
            (try dsimp only at hSw)
            go_simp
            rw [IntKind.wrap_i64]
            omega
          simp only [Act.put, List.setIfInBounds_toArray, List.set_cons_zero, List.set_cons_succ]
          refine wpAnyH_take (i := 25) (oi := ⟨some 73, _, _, _, _, _⟩) (v := .pointer (some ⟨g, 6, none⟩)) rfl (by kernel_rfl) (by kernel_rfl) (by kernel_rfl) (fun _ _ _ h => h) (Or.inl ⟨by rfl, ?_⟩) hHeld ?_
          · intro ww hSw
            (try dsimp only at hSw)
            go_simp
          simp only [Act.put, List.setIfInBounds_toArray, List.set_cons_zero, List.set_cons_succ]
          refine wpAnyH_take (i := 26) (oi := ⟨some 74, _, _, _, _, _⟩) (v := .int .i64 (vv 6)) rfl (by kernel_rfl) (by kernel_rfl) (by kernel_rfl) (fun _ _ _ h => h) (Or.inl ⟨by rfl, ?_⟩) hHeld ?_
          · intro ww hSw
            (try dsimp only at hSw)
            have zc := (HT6.out.below hSw).cell 6 (v := .int .i64 (vv 6)) rfl
            have zl := cell_lt zc
            go_simp
          simp only [Act.put, List.setIfInBounds_toArray, List.set_cons_zero, List.set_cons_succ]
          refine wpAnyH_take (i := 27) (oi := ⟨some 75, _, _, _, _, _⟩) (v := .int .i64 (vv 4 + vv 5 + vv 6)) rfl (by kernel_rfl) (by kernel_rfl) (by kernel_rfl) (fun _ _ _ h => h) (Or.inl ⟨by rfl, ?_⟩) hHeld ?_
          · intro ww hSw
            (try dsimp only at hSw)
            go_simp
            rw [IntKind.wrap_i64]
            omega
          simp only [Act.put, List.setIfInBounds_toArray, List.set_cons_zero, List.set_cons_succ]
          refine wpAnyH_take (i := 28) (oi := ⟨some 76, _, _, _, _, _⟩) (v := .agg cs) rfl (by kernel_rfl) (by kernel_rfl) (by kernel_rfl) (fun _ _ _ h => h) (Or.inl ⟨by rfl, ?_⟩) hHeld ?_
          · intro ww hSw
            (try dsimp only at hSw)
            exact exec_load_sp _ rfl rfl (HN6.out.h.below hSw) HZ.out
          simp only [Act.put, List.setIfInBounds_toArray, List.set_cons_zero, List.set_cons_succ]
          refine wpAnyH_take (i := 29) (oi := ⟨some 77, _, _, _, _, _⟩) (v := ?_) rfl (by kernel_rfl) (by kernel_rfl) (by kernel_rfl) (fun _ _ _ h => h) (Or.inl ⟨by rfl, ?_⟩) hHeld ?_
          rotate_left
          · intro ww hSw
            (try dsimp only at hSw)
            go_simp
            (try with_reducible rfl)
          simp only [Act.put, List.setIfInBounds_toArray, List.set_cons_zero, List.set_cons_succ]
          refine wpAnyH_ready (rs := [30]) (by kernel_rfl) (by simp) ?_
          refine AllReadyH.cons (o := ⟨some 78, _, _, _, _, _⟩) rfl (fun K hK => ?_) AllReadyH.nil
          go_simp
          go_at_call 22
          refine (CN.out _ A7 c7 (HN6.out.c.below hbwe) (HX6.out.below hbwe)).mono ?_
          rintro e_r wf ⟨A4, a4, rfl, r4, hbn⟩
          have H4 := Lib.hid (r4.spans FDK.out)
          clear r4
          have hbwf : Below w9.heap.size w9 wf := bel_on (show Below w9.heap.size w9 _ by (repeat' (first | with_reducible exact Below.refl _ _ | with_reducible assumption | with_reducible refine bel_alloc ?_ _ | with_reducible refine bel_set ?_ ?_ _ | with_reducible refine below_drewN ?_ _ | with_reducible refine below_drew ?_ | (simp; done) | (simp; omega) | omega))) hbn
          clear hbn
          go_wp2_with fail
          refine hK.out _ _ ?_ (fun hHeld => ?_)
          · (try dsimp only)
            exact hbwf
          clear hK K
          (try simp only [Act.put, List.setIfInBounds_toArray, List.set_cons_zero, List.set_cons_succ])
          refine wpAnyH_ready (rs := [31]) (by kernel_rfl) (by simp) ?_
          refine AllReadyH.cons (o := ⟨some 79, _, _, _, _, _⟩) rfl (fun K hK => ?_) AllReadyH.nil
          go_simp
          go_at_call 21
          refine (size_any A4 a4 DK _ H4.out (by omega)).mono ?_
          rintro e_r wg ⟨rfl, hbn⟩
          have hbwg : Below w9.heap.size w9 wg := bel_on (show Below w9.heap.size w9 _ by (repeat' (first | with_reducible exact Below.refl _ _ | with_reducible assumption | with_reducible refine bel_alloc ?_ _ | with_reducible refine bel_set ?_ ?_ _ | with_reducible refine below_drewN ?_ _ | with_reducible refine below_drew ?_ | (simp; done) | (simp; omega) | omega))) hbn
          clear hbn
          go_wp2_with fail
          refine hK.out _ _ ?_ (fun hHeld => ?_)
          · (try dsimp only)
            exact hbwg
          clear hK K
          (try simp only [Act.put, List.setIfInBounds_toArray, List.set_cons_zero, List.set_cons_succ])
          refine wpAnyH_take (i := 32) (oi := ⟨some 80, _, _, _, _, _⟩) (v := .bool true) rfl (by kernel_rfl) (by kernel_rfl) (by kernel_rfl) (fun _ _ _ h => h) (Or.inl ⟨by rfl, ?_⟩) hHeld ?_
          · intro ww hSw
            (try dsimp only at hSw)
            go_simp
            (try simp only [EDK.out])
            (try simp)
          simp only [Act.put, List.setIfInBounds_toArray, List.set_cons_zero, List.set_cons_succ]
          refine wpAnyH_take (i := 33) (oi := ⟨some 81, _, _, _, _, _⟩) (v := .bool true) rfl (by kernel_rfl) (by kernel_rfl) (by kernel_rfl) (fun _ _ _ h => h) (Or.inl ⟨by rfl, ?_⟩) hHeld ?_
          · intro ww hSw
            (try dsimp only at hSw)
            go_simp
          simp only [Act.put, List.setIfInBounds_toArray, List.set_cons_zero, List.set_cons_succ]
          refine wpAnyH_take (i := 34) (oi := ⟨some 6, _, _, _, _, _⟩) (v := ?_) rfl (by kernel_rfl) (by kernel_rfl) (by kernel_rfl) (fun _ _ _ h => h) (Or.inl ⟨by rfl, ?_⟩) hHeld ?_
          rotate_left
          · intro ww hSw
            (try dsimp only at hSw)
            go_simp
            (try with_reducible rfl)
          simp only [Act.put, List.setIfInBounds_toArray, List.set_cons_zero, List.set_cons_succ]
          refine wpAnyH_done (by kernel_rfl) ?_ _
          refine NoPanic.normal ?_
          have HW := Lib.hid (bel_on HN6.out.b hbwg)
          clear hHeld
          go_wp2
          go_ret
          exact ⟨rfl, HW.out⟩
theorem splitTotals_walk (s : SetP) (A1 A2 A3 A4 A5 A6 : Option Addr) (c1 c2 c3 c4 c5 c6 : Nat) (a1 : Option Addr) (len1 cap1 : Nat) (z1 : List SegP) (k : Int) (w : World) (hs : SetAt w s A1 A2 A3 A4 A5 A6 c1 c2 c3 c4 c5 c6) (hf : s.Fit)
   (w1 : Segs w a1 len1 cap1 z1) (i1 : ∀ e ∈ z1, Fit e.fr ∧ Fit e.to) (l1 : len1 ≤ cap1) (l1' : cap1 ≤ 9223372036854775807) (k0 : -9223372036854775808 ≤ k) (k1 : k ≤ 9223372036854775807) :
    Calls Tryz.prog 5 #[setV s A1 A2 A3 A4 A5 A6 c1 c2 c3 c4 c5 c6, .slice a1 len1 cap1, .int .i64 k] w fun e w' => e = .returned (.bool true) ∧ Below w.heap.size w w' := by
  obtain ⟨cs, hcs⟩ : ∃ cs, setV s A1 A2 A3 A4 A5 A6 c1 c2 c3 c4 c5 c6 = .agg cs := ⟨_, rfl⟩
  rw [hcs]
  exact splitTotals_main s cs w ⟨A1, A2, A3, A4, A5, A6, c1, c2, c3, c4, c5, c6, hcs, hs⟩ hf a1 len1 cap1 z1 w1 i1 (by omega) k k0 k1
end Go.Proofs.YtdlimgpmmkcgmaaGreat
