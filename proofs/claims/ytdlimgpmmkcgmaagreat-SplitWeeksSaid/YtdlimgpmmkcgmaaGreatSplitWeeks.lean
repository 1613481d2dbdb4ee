/-
  SplitWeeks: a week does not hang on others.
-/
import Derived.Test.YtdlimgpmmkcgmaaGreatSplAw
import Derived.Test.YtdlimgpmmkcgmaaGreatSplC
import Derived.Test.YtdlimgpmmkcgmaaGreatSplW
import Derived.Test.YtdlimgpmmkcgmaaGreatZbi
import Derived.Test.YtdlimgpmmkcgmaaGreatZbc
import Derived.Test.YtdlimgpmmkcgmaaGreatZbk

import Derived.Deep.DeepCutAuto
namespace Go.Proofs.YtdlimgpmmkcgmaaGreat
open Go.RowKit
set_option linter.unusedVariables false
set_option linter.unusedSimpArgs false
set_option maxRecDepth 100000

set_option maxHeartbeats 16000000 in
theorem splitWeeks_main (s : SetP) (cs : Array Value) (w : World) (hC : SetC w s cs) (hf : s.Fit) (A : Option Addr) (n c : Nat) (l : List SegP) (hx : Segs w A n c l) (hF : ∀ e ∈ l, Fit e.fr ∧ Fit e.to) (hmax : n ≤ 9223372036854775807) (dy : Int) (dy0 : 0 ≤ dy) (dy1 : dy ≤ 255) :
    Calls Tryz.prog 7 #[.agg cs, .slice A n c, .int .u8 dy] w fun e w' => e = .returned (.bool true) ∧ Below w.heap.size w w' := by
  have mixed : Tryz.prog.follows Departure.mixedOrders = true := by kernel_rfl
  have HM := Lib.hid mixed
  have HZ := Lib.hid hC.size
  have HN0 := Lib.hid (bx_start hC hx)
  have HFEW := Lib.hid (fun W (hW : SetC W s cs) (hX : Segs W A n c l) => few15 s cs W hW A n c l hX hmax)
  obtain ⟨b, hb⟩ : ∃ b, checkB s = b := ⟨_, rfl⟩
  obtain ⟨wk, hwk⟩ : ∃ wk, dy % 53 = wk := ⟨_, rfl⟩
  have wk0 : 0 ≤ wk := by omega
  have wk1 : wk ≤ 52 := by omega
  have CP := Lib.hid (fun W (hW : SetC W s cs) (hX : Segs W A n c l) hn => parts_c hW hf b hb A n c l hX hn hF wk)
  have CS := Lib.hid (fun W B q d (hW : SetC W s cs) (hX : Segs W B q d (wclipL wk l)) hn => wclip_same b s l wk ▸ parts_c hW hf b hb B q d (wclipL wk l) hX hn (wclip_fits wk0 (by omega) hF) wk)
  have CO : Hid (∀ W B q d, SetC W s cs → Segs W B q d (wclipL wk l) → q ≤ 1000 → Calls Tryz.prog 11 #[.agg cs, .slice B q d, .int .i64 (wk + 1)] W (TellP W [])) := fun W B q d hW hX hn => by
    have := parts_c hW hf b hb B q d (wclipL wk l) hX hn (wclip_fits wk0 (by omega) hF) (wk + 1)
    rw [wclip_none b s l (show wk + 1 ≠ wk by omega)] at this
    exact this
  have hPL := wparts_len b s l wk
  generalize wpartsL b s l wk = LP at *
  clear hC hf hb hF
  have hln := hx.2
  clear hx
  go_enter Tryz.func7, Tryz.ntmps7
  go_wp2_with fail
  refine (awake17 _).mono ?_
  rintro e w1 ⟨rfl, b1⟩
  have HN1 := Lib.hid (HN0.out.below b1)
  clear HN0 b1
  go_wp2_with (refine wpList_load_sp (by rfl) _ rfl w.heap.size rfl cs HN1.out.h HZ.out ?_)
  refine (HFEW.out _ HN1.out.c HN1.out.x).mono ?_
  rintro e w2 ⟨⟨q, rfl, hq⟩, b2⟩
  have HN2 := Lib.hid (HN1.out.below b2)
  clear HN1 b2 HFEW
  cases q with
  | false =>
    have HE := Lib.hid HN2.out.b
    clear HN2 hq
    go_wp2
    go_ret
    exact ⟨rfl, HE.out⟩
  | true =>
    have h30 := hq rfl
    clear hq
    go_wp2
    clear hwk
    go_loopg [9, 10] n (fun kx s9 s10 wr => ∃ (k q d : Nat) (B : Option Addr), s9 = .slice B q d ∧ s10 = .int .i64 k ∧ k + kx = n ∧ q ≤ k ∧ Hid ((wclipL wk (l.take k)).length = q) ∧ Hid (WRw wr w2.heap.size B q d (wclipL wk (l.take k))) ∧ Hid (Below w2.heap.size w2 wr))
    case atStart => exact ⟨0, 0, 0, none, rfl, rfl, by omega, by omega, Lib.hid (by rw [List.take_zero]; rfl), Lib.hid (by rw [List.take_zero]; exact TRow.nil _ _), Lib.hid (Below.refl _ _)⟩
    case round =>
      obtain ⟨k, q, d, B, rfl, rfl, hk, hqk, HQ, HR, HW⟩ := hrel
      by_cases hlt : k < n
      · have HLr := Lib.hid (HN2.out.x.below HW.out)
        obtain ⟨ba, oa, rfl⟩ := HLr.out.form (by omega)
        obtain ⟨x, hx⟩ : ∃ x, l.getD k SegP.none = x := ⟨_, rfl⟩
        obtain ⟨y0, y1, y2, y3, y4⟩ := segs_num HLr.out hlt x hx
        have yl := cell_lt y0
        have HTK : Hid (l.take (k + 1) = l.take k ++ [x]) := by show _ = _; rw [← hx]; exact take_snoc_w (by omega)
        have i0 : (0 : Int) ≤ (k : Int) := by omega
        have i1 : (k : Int) < (n : Int) := by omega
        obtain ⟨m1, hm1⟩ : ∃ m1, max x.fr (wk * 604800) = m1 := ⟨_, rfl⟩
        obtain ⟨m2, hm2⟩ : ∃ m2, min x.to ((wk + 1) * 604800) = m2 := ⟨_, rfl⟩
        have HM1 := Lib.hid hm1
        have HM2 := Lib.hid hm2
        have HSN := Lib.hid (wclip_snoc wk (l.take k) x)
        have HCS : Hid (wclipS wk x = ⟨m1, m2, x.kd, x.id, x.cd⟩) := by show _ = _; unfold wclipS; rw [hm1, hm2]
        rw [hm1, hm2, HCS.out, ← HTK.out] at HSN
        clear hx hm1 hm2 HLr HCS HTK
        have hba := bel_alloc (Below.refl wr.heap.size wr) (.cells #[.int .i64 m1, .int .i64 m2, .int .i64 x.kd, .int .i64 x.id, .int .i64 x.cd] 59)
        have HWA := Lib.hid (bel_on HW.out hba)
        by_cases g1 : m1 < m2
        · have HEE := Lib.hid (HSN.out.trans (by rw [if_pos g1]))
          obtain ⟨A9, c9, w9, hr9, row9, kp9⟩ := wsrow_more (HR.out.alloc (.cells #[.int .i64 m1, .int .i64 m2, .int .i64 x.kd, .int .i64 x.id, .int .i64 x.cd] 59)) ⟨m1, m2, x.kd, x.id, x.cd⟩ (by omega) HWA.out.size (s := wr.heap.size + 1) (by simp)
          have HR9 := Lib.hid hr9
          have HRW9 := Lib.hid row9
          have HW9 := Lib.hid (bel_keptW HWA.out kp9)
          clear hr9 row9 kp9 HSN
          go_wp2_with (first | refine wpList_max2i (o := ⟨some 35, _, _, _, _, _⟩) _ _ m1 HM1.out rfl rfl rfl rfl ?_ | refine wpList_min2i (o := ⟨some 42, _, _, _, _, _⟩) _ _ m2 HM2.out rfl rfl rfl rfl ?_ | (at_builtin; refine wpList_append_run (o := ⟨some 52, _, _, _, _, _⟩) HR9.out rfl rfl rfl rfl ?_))
          go_roundg (n - (k + 1))
          case measure => omega
          case rel => exact ⟨k + 1, q + 1, c9, A9, rfl, by go_num, by omega, by omega, Lib.hid (by rw [HEE.out, List.length_append, HQ.out]; rfl), Lib.hid (by rw [HEE.out]; exact HRW9.out), HW9⟩
        · have HEE := Lib.hid (HSN.out.trans (by rw [if_neg g1, List.append_nil]))
          have HRA := Lib.hid (HR.out.alloc (.cells #[.int .i64 m1, .int .i64 m2, .int .i64 x.kd, .int .i64 x.id, .int .i64 x.cd] 59))
          clear HSN hba
          go_wp2_with (first | refine wpList_max2i (o := ⟨some 35, _, _, _, _, _⟩) _ _ m1 HM1.out rfl rfl rfl rfl ?_ | refine wpList_min2i (o := ⟨some 42, _, _, _, _, _⟩) _ _ m2 HM2.out rfl rfl rfl rfl ?_)
          go_roundg (n - (k + 1))
          case measure => omega
          case rel => exact ⟨k + 1, q, d, B, rfl, by go_num, by omega, by omega, Lib.hid (by rw [HEE.out]; exact HQ.out), Lib.hid (by rw [HEE.out]; exact HRA.out), HWA⟩
      · obtain rfl : k = n := by omega
        have e : l.take k = l := List.take_of_length_le (by omega)
        rw [e] at HR HQ
        have HN3 := Lib.hid (HN2.out.below HW.out)
        have HS3 := Lib.hid ((show Segs _ _ _ _ _ from ⟨Sl.of_own HR.out, HQ.out⟩))
        clear HR HW HN2 e HQ
        go_wp2_with fail
        refine wp_region_noPanic ?_
        refine wp_region_held_drew (S := fun w' => Below wr.heap.size wr w') (by kernel_rfl) (below_drew (Below.refl _ _)) (fun hHeld => ?_)
        refine wpAnyH_take (i := 0) (oi := ⟨some 53, _, _, _, _, _⟩) (v := ?_) rfl (by kernel_rfl) (by kernel_rfl) (by kernel_rfl) (fun _ _ _ h => h) (Or.inl ⟨by rfl, ?_⟩) hHeld ?_
        rotate_left
        · intro ww hSw
          (try dsimp only at hSw)
          go_simp
          (try with_reducible rfl)
        simp only [Act.put, List.setIfInBounds_toArray, List.set_cons_zero, List.set_cons_succ]
        refine wpAnyH_take (i := 1) (oi := ⟨some 54, _, _, _, _, _⟩) (v := ?_) rfl (by kernel_rfl) (by kernel_rfl) (by kernel_rfl) (fun _ _ _ h => h) (Or.inl ⟨by rfl, ?_⟩) hHeld ?_
        rotate_left
        · intro ww hSw
          (try dsimp only at hSw)
          go_simp
          (try with_reducible rfl)
        simp only [Act.put, List.setIfInBounds_toArray, List.set_cons_zero, List.set_cons_succ]
        refine wpAnyH_take (i := 2) (oi := ⟨some 55, _, _, _, _, _⟩) (v := .agg cs) rfl (by kernel_rfl) (by kernel_rfl) (by kernel_rfl) (fun _ _ _ h => h) (Or.inl ⟨by rfl, ?_⟩) hHeld ?_
        · intro ww hSw
          (try dsimp only at hSw)
          exact exec_load_sp _ rfl rfl (HN3.out.h.below hSw) HZ.out
        simp only [Act.put, List.setIfInBounds_toArray, List.set_cons_zero, List.set_cons_succ]
        refine wpAnyH_take (i := 3) (oi := ⟨some 56, _, _, _, _, _⟩) (v := ?_) rfl (by kernel_rfl) (by kernel_rfl) (by kernel_rfl) (fun _ _ _ h => h) (Or.inl ⟨by rfl, ?_⟩) hHeld ?_
        rotate_left
        · intro ww hSw
          (try dsimp only at hSw)
          go_simp
          (try with_reducible rfl)
        simp only [Act.put, List.setIfInBounds_toArray, List.set_cons_zero, List.set_cons_succ]
        refine wpAnyH_take (i := 4) (oi := ⟨some 57, _, _, _, _, _⟩) (v := ?_) rfl (by kernel_rfl) (by kernel_rfl) (by kernel_rfl) (fun _ _ _ h => h) (Or.inl ⟨by rfl, ?_⟩) hHeld ?_
        rotate_left
        · intro ww hSw
          (try dsimp only at hSw)
          go_simp
          (try with_reducible rfl)
        simp only [Act.put, List.setIfInBounds_toArray, List.set_cons_zero, List.set_cons_succ]
        refine wpAnyH_take (i := 6) (oi := ⟨some 59, _, _, _, _, _⟩) (v := .agg cs) rfl (by kernel_rfl) (by kernel_rfl) (by kernel_rfl) (fun _ _ _ h => h) (Or.inl ⟨by rfl, ?_⟩) hHeld ?_
        · intro ww hSw
          (try dsimp only at hSw)
          exact exec_load_sp _ rfl rfl (HN3.out.h.below hSw) HZ.out
        simp only [Act.put, List.setIfInBounds_toArray, List.set_cons_zero, List.set_cons_succ]
        refine wpAnyH_take (i := 7) (oi := ⟨some 60, _, _, _, _, _⟩) (v := ?_) rfl (by kernel_rfl) (by kernel_rfl) (by kernel_rfl) (fun _ _ _ h => h) (Or.inl ⟨by rfl, ?_⟩) hHeld ?_
        rotate_left
        · intro ww hSw
          (try dsimp only at hSw)
          go_simp
          (try with_reducible rfl)
        simp only [Act.put, List.setIfInBounds_toArray, List.set_cons_zero, List.set_cons_succ]
        refine wpAnyH_take (i := 8) (oi := ⟨some 61, _, _, _, _, _⟩) (v := ?_) rfl (by kernel_rfl) (by kernel_rfl) (by kernel_rfl) (fun _ _ _ h => h) (Or.inl ⟨by rfl, ?_⟩) hHeld ?_
        rotate_left
        · intro ww hSw
          (try dsimp only at hSw)
          go_simp
          (try with_reducible rfl)
        simp only [Act.put, List.setIfInBounds_toArray, List.set_cons_zero, List.set_cons_succ]
        refine wpAnyH_ready (rs := [5]) (by kernel_rfl) (by simp) ?_
        refine AllReadyH.cons (o := ⟨some 58, _, _, _, _, _⟩) rfl (fun K hK => ?_) AllReadyH.nil
        go_simp
        go_at_call 11
        refine (CS.out _ B q d (HN3.out.c.below (below_drew (Below.refl _ _))) (HS3.out.below (below_drew (Below.refl _ _))) (by omega)).mono ?_
        rintro e_r w5 ⟨A5, n5, c5, rfl, p5, nc5, nm5, hbn⟩
        have HP5 := Lib.hid p5
        clear p5
        have hbw5 : Below wr.heap.size wr w5 := bel_on (show Below wr.heap.size wr _ by (repeat' (first | with_reducible exact Below.refl _ _ | with_reducible assumption | with_reducible refine bel_alloc ?_ _ | with_reducible refine bel_set ?_ ?_ _ | with_reducible refine below_drewN ?_ _ | with_reducible refine below_drew ?_ | (simp; done) | (simp; omega) | omega))) hbn
        clear hbn
        go_wp2_with fail
        refine hK.out _ _ ?_ (fun hHeld => ?_)
        · (try dsimp only)
          exact hbw5
        clear hK K
        (try simp only [Act.put, List.setIfInBounds_toArray, List.set_cons_zero, List.set_cons_succ])
        refine wpAnyH_ready (rs := [9]) (by kernel_rfl) (by simp) ?_
        refine AllReadyH.cons (o := ⟨some 62, _, _, _, _, _⟩) rfl (fun K hK => ?_) AllReadyH.nil
        go_simp
        go_at_call 11
        refine (CP.out _ (HN3.out.c.below hbw5) (HN3.out.x.below hbw5) (by omega)).mono ?_
        rintro e_r w9 ⟨A9, n9, c9, rfl, p9, nc9, nm9, hbn⟩
        have HP9 := Lib.hid p9
        have HP59 := Lib.hid (HP5.out.below hbn)
        obtain rfl : n5 = n9 := HP59.out.2.symm.trans p9.2
        have hn9 : n5 ≤ 999999999 := by have := p9.2; omega
        clear p9
        have hbw9 : Below wr.heap.size wr w9 := bel_on (show Below wr.heap.size wr _ by (repeat' (first | with_reducible exact Below.refl _ _ | with_reducible assumption | with_reducible refine bel_alloc ?_ _ | with_reducible refine bel_set ?_ ?_ _ | with_reducible refine below_drewN ?_ _ | with_reducible refine below_drew ?_ | (simp; done) | (simp; omega) | omega))) hbn
        clear hbn
        go_wp2_with fail
        refine hK.out _ _ ?_ (fun hHeld => ?_)
        · (try dsimp only)
          exact hbw9
        clear hK K
        (try simp only [Act.put, List.setIfInBounds_toArray, List.set_cons_zero, List.set_cons_succ])
        refine wpAnyH_ready (rs := [10]) (by kernel_rfl) (by simp) ?_
        refine AllReadyH.cons (o := ⟨some 63, _, _, _, _, _⟩) rfl (fun K hK => ?_) AllReadyH.nil
        go_simp
        go_at_call 10
        refine (psame_c A5 A9 n5 c5 c9 LP _ HP59.out HP9.out (by omega)).mono ?_
        rintro e_r w10 ⟨rfl, hbn⟩
        have hbw10 : Below wr.heap.size wr w10 := bel_on (show Below wr.heap.size wr _ by (repeat' (first | with_reducible exact Below.refl _ _ | with_reducible assumption | with_reducible refine bel_alloc ?_ _ | with_reducible refine bel_set ?_ ?_ _ | with_reducible refine below_drewN ?_ _ | with_reducible refine below_drew ?_ | (simp; done) | (simp; omega) | omega))) hbn
        clear hbn
        go_wp2_with fail
        refine hK.out _ _ ?_ (fun hHeld => ?_)
        · (try dsimp only)
          exact hbw10
        clear hK K
        (try simp only [Act.put, List.setIfInBounds_toArray, List.set_cons_zero, List.set_cons_succ])
        refine wpAnyH_take (i := 11) (oi := ⟨some 64, _, _, _, _, _⟩) (v := ?_) rfl (by kernel_rfl) (by kernel_rfl) (by kernel_rfl) (fun _ _ _ h => h) (Or.inl ⟨by rfl, ?_⟩) hHeld ?_
        rotate_left
        · intro ww hSw
          (try dsimp only at hSw)
          go_simp
          (try with_reducible rfl)
        simp only [Act.put, List.setIfInBounds_toArray, List.set_cons_zero, List.set_cons_succ]
        refine wpAnyH_take (i := 12) (oi := ⟨some 65, _, _, _, _, _⟩) (v := ?_) rfl (by kernel_rfl) (by kernel_rfl) (by kernel_rfl) (fun _ _ _ h => h) (Or.inl ⟨by rfl, ?_⟩) hHeld ?_
        rotate_left
        · intro ww hSw
          (try dsimp only at hSw)
          go_simp
          (try with_reducible rfl)
        simp only [Act.put, List.setIfInBounds_toArray, List.set_cons_zero, List.set_cons_succ]
        refine wpAnyH_take (i := 13) (oi := ⟨some 66, _, _, _, _, _⟩) (v := .agg cs) rfl (by kernel_rfl) (by kernel_rfl) (by kernel_rfl) (fun _ _ _ h => h) (Or.inl ⟨by rfl, ?_⟩) hHeld ?_
        · intro ww hSw
          (try dsimp only at hSw)
          exact exec_load_sp _ rfl rfl (HN3.out.h.below hSw) HZ.out
        simp only [Act.put, List.setIfInBounds_toArray, List.set_cons_zero, List.set_cons_succ]
        refine wpAnyH_take (i := 14) (oi := ⟨some 67, _, _, _, _, _⟩) (v := ?_) rfl (by kernel_rfl) (by kernel_rfl) (by kernel_rfl) (fun _ _ _ h => h) (Or.inl ⟨by rfl, ?_⟩) hHeld ?_
        rotate_left
        · intro ww hSw
          (try dsimp only at hSw)
          go_simp
          (try with_reducible rfl)
        simp only [Act.put, List.setIfInBounds_toArray, List.set_cons_zero, List.set_cons_succ]
        refine wpAnyH_take (i := 15) (oi := ⟨some 68, _, _, _, _, _⟩) (v := ?_) rfl (by kernel_rfl) (by kernel_rfl) (by kernel_rfl) (fun _ _ _ h => h) (Or.inl ⟨by rfl, ?_⟩) hHeld ?_
        rotate_left
        · intro ww hSw
          (try dsimp only at hSw)
          go_simp
          (try with_reducible rfl)
        simp only [Act.put, List.setIfInBounds_toArray, List.set_cons_zero, List.set_cons_succ]
        refine wpAnyH_take (i := 16) (oi := ⟨some 69, _, _, _, _, _⟩) (v := .int .i64 (wk + 1)) rfl (by kernel_rfl) (by kernel_rfl) (by kernel_rfl) (fun _ _ _ h => h) (Or.inl ⟨by rfl, ?_⟩) hHeld ?_
        · intro ww hSw
          (try dsimp only at hSw)
          have jw : IntKind.i64.wrap (wk + 1) = wk + 1 := by rw [IntKind.wrap_i64]; omega
          go_simp
        simp only [Act.put, List.setIfInBounds_toArray, List.set_cons_zero, List.set_cons_succ]
        refine wpAnyH_ready (rs := [17]) (by kernel_rfl) (by simp) ?_
        refine AllReadyH.cons (o := ⟨some 70, _, _, _, _, _⟩) rfl (fun K hK => ?_) AllReadyH.nil
        go_simp
        go_at_call 11
        refine (CO.out _ B q d (HN3.out.c.below hbw10) (HS3.out.below hbw10) (by omega)).mono ?_
        rintro e_r w17 ⟨A17, n17, c17, rfl, p17, nc17, nm17, hbn⟩
        obtain rfl : n17 = 0 := p17.2.symm
        clear p17 nc17 nm17
        have hbw17 : Below wr.heap.size wr w17 := bel_on (show Below wr.heap.size wr _ by (repeat' (first | with_reducible exact Below.refl _ _ | with_reducible assumption | with_reducible refine bel_alloc ?_ _ | with_reducible refine bel_set ?_ ?_ _ | with_reducible refine below_drewN ?_ _ | with_reducible refine below_drew ?_ | (simp; done) | (simp; omega) | omega))) hbn
        clear hbn
        go_wp2_with fail
        refine hK.out _ _ ?_ (fun hHeld => ?_)
        · (try dsimp only)
          exact hbw17
        clear hK K
        (try simp only [Act.put, List.setIfInBounds_toArray, List.set_cons_zero, List.set_cons_succ])
        refine wpAnyH_take (i := 18) (oi := ⟨some 71, _, _, _, _, _⟩) (v := ?_) rfl (by kernel_rfl) (by kernel_rfl) (by kernel_rfl) (fun _ _ _ h => h) (Or.inl ⟨by rfl, ?_⟩) hHeld ?_
        rotate_left
        · intro ww hSw
          (try dsimp only at hSw)
          go_simp
          (try with_reducible rfl)
        simp only [Act.put, List.setIfInBounds_toArray, List.set_cons_zero, List.set_cons_succ]
        refine wpAnyH_take (i := 19) (oi := ⟨some 72, _, _, _, _, _⟩) (v := ?_) rfl (by kernel_rfl) (by kernel_rfl) (by kernel_rfl) (fun _ _ _ h => h) (Or.inl ⟨by rfl, ?_⟩) hHeld ?_
        rotate_left
        · intro ww hSw
          (try dsimp only at hSw)
          go_simp
          (try with_reducible rfl)
        simp only [Act.put, List.setIfInBounds_toArray, List.set_cons_zero, List.set_cons_succ]
        refine wpAnyH_take (i := 20) (oi := ⟨some 73, _, _, _, _, _⟩) (v := ?_) rfl (by kernel_rfl) (by kernel_rfl) (by kernel_rfl) (fun _ _ _ h => h) (Or.inl ⟨by rfl, ?_⟩) hHeld ?_
        rotate_left
        · intro ww hSw
          (try dsimp only at hSw)
          go_simp
          (try with_reducible rfl)
        simp only [Act.put, List.setIfInBounds_toArray, List.set_cons_zero, List.set_cons_succ]
        refine wpAnyH_take (i := 21) (oi := ⟨some 6, _, _, _, _, _⟩) (v := ?_) rfl (by kernel_rfl) (by kernel_rfl) (by kernel_rfl) (fun _ _ _ h => h) (Or.inl ⟨by rfl, ?_⟩) hHeld ?_
        rotate_left
        · intro ww hSw
          (try dsimp only at hSw)
          go_simp
          (try with_reducible rfl)
        simp only [Act.put, List.setIfInBounds_toArray, List.set_cons_zero, List.set_cons_succ]
        refine wpAnyH_done (by kernel_rfl) ?_ _
        refine NoPanic.normal ?_
        have HW := Lib.hid (bel_on HN3.out.b hbw17)
        clear hHeld hbw5 hbw9 hbw10 hbw17 HN3 HS3
        go_wp2
        go_ret
        exact ⟨rfl, HW.out⟩
theorem splitWeeks_walk (s : SetP) (A1 A2 A3 A4 A5 A6 : Option Addr) (c1 c2 c3 c4 c5 c6 : Nat) (a1 : Option Addr) (len1 cap1 : Nat) (z1 : List SegP) (dy : Int) (w : World) (hs : SetAt w s A1 A2 A3 A4 A5 A6 c1 c2 c3 c4 c5 c6) (hf : s.Fit)
   (w1 : Segs w a1 len1 cap1 z1) (i1 : ∀ e ∈ z1, Fit e.fr ∧ Fit e.to) (l1 : len1 ≤ cap1) (l1' : cap1 ≤ 9223372036854775807) (k0 : 0 ≤ dy) (k1 : dy ≤ 255) :
    Calls Tryz.prog 7 #[setV s A1 A2 A3 A4 A5 A6 c1 c2 c3 c4 c5 c6, .slice a1 len1 cap1, .int .u8 dy] w fun e w' => e = .returned (.bool true) ∧ Below w.heap.size w w' := by
  obtain ⟨cs, hcs⟩ : ∃ cs, setV s A1 A2 A3 A4 A5 A6 c1 c2 c3 c4 c5 c6 = .agg cs := ⟨_, rfl⟩
  rw [hcs]
  exact splitWeeks_main s cs w ⟨A1, A2, A3, A4, A5, A6, c1, c2, c3, c4, c5, c6, hcs, hs⟩ hf a1 len1 cap1 z1 w1 i1 (by omega) dy k0 k1
end Go.Proofs.YtdlimgpmmkcgmaaGreat
