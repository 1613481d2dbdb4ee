/-
  The walk of the law CrcBurst: it answers true, and leaves what was there as it was.
-/
import Derived.Test.YtjhjhkhnkfckeaaCrcStr
import Derived.Test.YtjhjhkhnkfckeaaCrcStrB
import Derived.RegionTactic
namespace Go.Proofs.Ytjhjhkhnkfckeaa
open Go.RowKit
set_option linter.unusedVariables false

theorem crcBurst_long (a0 : Option Addr) (len0 cap0 : Nat) (t : Int) (b : Int) (w : World) (h : 1000 < len0) :
    Calls Try.prog 6 #[.slice a0 len0 cap0, .int .u16 t, .int .u32 b] w fun e w' => e = .returned (.bool true) ∧ Below w.heap.size w w' := by
  have d0 : (1000 : Int) < (len0 : Int) := by omega
  go_enter Try.func6, Try.ntmps6
  go_wp2_with fail
  refine (awake4 _).mono ?_
  rintro e w1 ⟨rfl, hb1⟩
  go_wp2
  go_ret
  exact ⟨rfl, hb1⟩

set_option maxHeartbeats 2000000 in
theorem crcBurst_short (a0 : Option Addr) (len0 cap0 : Nat) (l : List (BitVec 8)) (t : Nat) (bu : BitVec 32) (w : World) (s0 : Sl 1 w a0 len0 cap0 (bytesV l)) (h0 : l.length = len0) (h : len0 ≤ 1000) (ht : t ≤ 65535) :
    Calls Try.prog 6 #[.slice a0 len0 cap0, .int .u16 (t : Int), v32 bu] w fun e w' => e = .returned (.bool true) ∧ Below w.heap.size w w' := by
  have d0 : (len0 : Int) ≤ 1000 := by omega
  have d1 : decide ((1000 : Int) < (len0 : Int)) = false := by simp; omega
  have HL := Lib.hid h0
  have S0 := Lib.hid s0
  have HB := Lib.hid (byts_of_sl s0)
  clear h0 s0
  obtain ⟨f, hf, hf2⟩ := from_val t len0
  go_enter Try.func6, Try.ntmps6
  go_wp2_with fail
  refine (awake4 _).mono ?_
  rintro e w1 ⟨rfl, hb1⟩
  go_wp2_with fail
  refine (crcsum_at _ 1 _ [l] (sumB l) _ (parts_one 22 (HB.out.below hb1) HL.out (by omega) rfl) (congrArg sumB (flat_one l)) rfl (by omega)).mono ?_
  rintro e w2 ⟨rfl, hb2⟩
  replace hb2 := bel_on (bel_alloc hb1 _) hb2
  clear hb1
  go_wp2_with fail
  refine (crcbytes_any (sumB l) _).mono ?_
  rintro e w3 ⟨rfl, hb3⟩
  replace hb3 := bel_on hb2 hb3
  clear hb2
  go_wp2_with (refine wpList_laid4 (sumB l) _ _ rfl rfl rfl rfl rfl ?_)
  have HH := laid4_has w3 (sumB l)
  have hb4 := laid4_below (sumB l) hb3
  generalize laid4 w3 (sumB l) = W at *
  generalize w3.heap.size = g at *
  have HLC : Hid ((l ++ bytesB (sumB l)).length = len0 + 4) := by
    have := HL.out
    show (l ++ bytesB (sumB l)).length = len0 + 4
    rw [List.length_append, this]; rfl
  clear hb3
  have R0 : BRow ((W.drew).alloc (.cells #[] 5)) W.heap.size (some ⟨W.heap.size, 0, none⟩) 0 [] := own_new W.drew 5 1 0 #[] rfl (by decide)
  obtain ⟨A1, c1, x1, hr1, R1, hbel1, hg1, _⟩ := brow_append R0 (d := cap0) (ys := l) (by rw [HL.out]; exact ((S0.out.below hb4).alloc (.cells #[] 5))) (by rw [HL.out]; simp; omega) (by simp)
  have hx1 := hbel1 W (Nat.le_refl _) (bel_alloc (below_drew (Below.refl _ _)) _)
  obtain ⟨A2, c2, x2, hr2, R2, hbel2, hg2, _⟩ := brow_append R1 (d := 4) (ys := bytesB (sumB l)) (sl_of_has (HH.below hx1)) (by simp only [List.nil_append]; rw [HL.out]; show len0 + 4 ≤ _; omega) hx1.size
  have hx2 := hbel2 W (Nat.le_refl _) hx1
  simp only [List.nil_append, List.length_nil, Nat.zero_add] at hr1 hr2 R2
  rw [HL.out] at hr1 hr2
  have HR1 : Hid ((Builtin.append_ #[22, 22] 22 #[.slice (some ⟨W.heap.size, 0, none⟩) 0 0, .slice a0 len0 cap0]).run Try.prog (W.alloc (.cells #[] 5)).drew = .ok (.slice A1 len0 c1) x1) := hr1
  have HR2 : Hid ((Builtin.append_ #[22, 22] 22 #[.slice A1 len0 c1, .slice (some ⟨g, 0, none⟩) 4 4]).run Try.prog x1 = .ok (.slice A2 (len0 + 4) c2) x2) := hr2
  clear hr1 hr2 hbel1 hbel2 hg1 hg2 R0 R1
  refine wp_region_noPanic ?_
  refine wp_region_held_drew (S := fun w' => Below W.heap.size W w') (by kernel_rfl) (below_drew (Below.refl _ _)) (fun hHeld => ?_)
  refine wpAnyH_take (i := 1) (oi := ⟨some 24, _, _, _, _, _⟩) (v := ?_) rfl (by kernel_rfl) (by kernel_rfl) (by kernel_rfl) (fun _ _ _ h => h) (Or.inl ⟨by rfl, ?_⟩) hHeld ?_
  rotate_left
  · intro ww hSw
    (try dsimp only at hSw)
    go_simp
    (try with_reducible rfl)
  simp only [Act.put, List.setIfInBounds_toArray, List.set_cons_zero, List.set_cons_succ]
  refine wpAnyH_take (i := 3) (oi := ⟨some 26, _, _, _, _, _⟩) (v := ?_) rfl (by kernel_rfl) (by kernel_rfl) (by kernel_rfl) (fun _ _ _ h => h) (Or.inl ⟨by rfl, ?_⟩) hHeld ?_
  rotate_left
  · intro ww hSw
    (try dsimp only at hSw)
    go_simp
    (try with_reducible rfl)
  simp only [Act.put, List.setIfInBounds_toArray, List.set_cons_zero, List.set_cons_succ]
  refine wpAnyH_ready (rs := [0]) (by kernel_rfl) (by simp) ?_
  refine AllReadyH.cons (o := ⟨some 23, _, _, _, _, _⟩) rfl (fun K hK => ?_) AllReadyH.nil
  go_simp
  refine hK.out _ _ ?_ (fun hHeld => ?_)
  · (try dsimp only)
    (repeat' (first | with_reducible exact Below.refl _ _ | with_reducible assumption | with_reducible refine bel_alloc ?_ _ | with_reducible refine bel_set ?_ ?_ _ | with_reducible refine below_drewN ?_ _ | with_reducible refine below_drew ?_ | (simp; done) | (simp; omega) | omega))
  clear hK K
  (try simp only [Act.put, List.setIfInBounds_toArray, List.set_cons_zero, List.set_cons_succ])
  refine wpAnyH_ready (rs := [2]) (by kernel_rfl) (by simp) ?_
  refine AllReadyH.cons (o := ⟨some 25, _, _, _, _, _⟩) rfl (fun K hK => ?_) AllReadyH.nil
  rw [if_pos (by rfl)]
  refine wp_append_run HR1.out rfl rfl rfl ?_
  refine hK.out _ _ ?_ (fun hHeld => ?_)
  · (try dsimp only)
    exact hx1
  clear hK K
  (try simp only [Act.put, List.setIfInBounds_toArray, List.set_cons_zero, List.set_cons_succ])
  refine wpAnyH_ready (rs := [4]) (by kernel_rfl) (by simp) ?_
  refine AllReadyH.cons (o := ⟨some 27, _, _, _, _, _⟩) rfl (fun K hK => ?_) AllReadyH.nil
  rw [if_pos (by rfl)]
  refine wp_append_run HR2.out rfl rfl rfl ?_
  refine hK.out _ _ ?_ (fun hHeld => ?_)
  · (try dsimp only)
    exact hx2
  clear hK K
  (try simp only [Act.put, List.setIfInBounds_toArray, List.set_cons_zero, List.set_cons_succ])
  refine wpAnyH_take (i := 5) (oi := ⟨some 9, _, _, _, _, _⟩) (v := ?_) rfl (by kernel_rfl) (by kernel_rfl) (by kernel_rfl) (fun _ _ _ h => h) (Or.inl ⟨by rfl, ?_⟩) hHeld ?_
  rotate_left
  · intro ww hSw
    (try dsimp only at hSw)
    go_simp
    (try with_reducible rfl)
  simp only [Act.put, List.setIfInBounds_toArray, List.set_cons_zero, List.set_cons_succ]
  refine wpAnyH_done (by kernel_rfl) ?_ _
  refine NoPanic.normal ?_
  have hbx := bel_on hb4 hx2
  obtain ⟨G, rfl⟩ := R2.form (by intro e; have := HLC.out; rw [e] at this; simp at this)
  have hGl := R2.lt _ rfl
  have hcc : len0 + 4 ≤ c2 ∧ c2 ≤ maxLen := by
    rcases R2.forms with ⟨e, _⟩ | ⟨_, _, _, _, q1, q2⟩
    · cases e
    · rw [HLC.out] at q1; exact ⟨q1, q2⟩
  unfold maxLen at hcc
  go_wp2
  go_loopw [11] (fun i wr => ∃ (k : Nat), k ≤ 32 ∧ i = .int .i64 k ∧ BRow wr W.heap.size (some ⟨G, 0, none⟩) c2 (burstB (l ++ bytesB (sumB l)) f bu k) ∧ Below W.heap.size W wr) (fun i _ => 32 - (intOf i).toNat)
  case atStart => exact ⟨0, by omega, rfl, R2, hx2⟩
  case round =>
    obtain ⟨k, hk, rfl, hrow, hbw⟩ := hrel
    clear R2 hx2 hbx
    by_cases hlt : k < 32
    · have hd : (k : Int) < 32 := by omega
      have b32 : bu.toNat < 4294967296 := bu.isLt
      have hln : (burstB (l ++ bytesB (sumB l)) f bu k).length = len0 + 4 := by rw [burst_len, HLC.out]
      by_cases hbit : bu.getLsbD k = true
      · have ht2 : (((bu.toNat : Int) / 2 ^ k).tmod 2 == 1) = true := bit_on bu k hbit
        obtain ⟨q, hq⟩ : ∃ q : Nat, q = (f + k) / 8 := ⟨_, rfl⟩
        obtain ⟨r, hr⟩ : ∃ r : Nat, r = (f + k) % 8 := ⟨_, rfl⟩
        have q1 : ((f : Int) + (k : Int)) / 8 = (q : Int) := by omega
        have q2 : ((f : Int) + (k : Int)) % 8 = (r : Int) := by omega
        have q3 : q < len0 + 4 := by omega
        have q4 : (q : Int) < (len0 : Int) + 4 := by omega
        have r8 : r < 8 := by omega
        have HQ := Lib.hid hq
        have HR := Lib.hid hr
        have cq := hrow.cellAt (k := q) (by rw [hln]; exact q3)
        have fq := hrow.frozenAt q
        have HSET := Lib.hid (hrow.set (k := q) (by rw [hln]; exact q3))
        generalize hx : (burstB (l ++ bytesB (sumB l)) f bu k).getD q 0#8 = x at *
        have HX := Lib.hid hx
        clear hx hq hr hln
        have x8 : x.toNat < 256 := x.isLt
        have HY := Lib.hid (burst_yes (l ++ bytesB (sumB l)) f bu k q r x hbit HQ.out HR.out HX.out)
        have HV := Lib.hid (flip_val x r r8)
        go_wp2
        rw [HV.out]
        go_roundw
        case rel =>
          exact ⟨k + 1, by omega, by go_num, HY.out ▸ HSET.out _, bel_set hbw (p := ⟨G, q, none⟩) hGl.1 _⟩
        case measure => simp [intOf]; omega
      · have hbit' : bu.getLsbD k = false := by simpa using hbit
        have ht2 : (((bu.toNat : Int) / 2 ^ k).tmod 2 == 1) = false := bit_off bu k hbit'
        have HY := Lib.hid (burst_no (l ++ bytesB (sumB l)) f bu k hbit')
        clear hbit hbit' hln
        go_wp2
        go_roundw
        case rel => exact ⟨k + 1, by omega, by go_num, HY.out ▸ hrow, hbw⟩
        case measure => simp [intOf]; omega
    · obtain rfl : k = 32 := by omega
      have HSEEN := Lib.hid (burst_seen l f bu (by rw [HL.out]; omega))
      have hln : (burstB (l ++ bytesB (sumB l)) f bu 32).length = len0 + 4 := by rw [burst_len, HLC.out]
      rw [HL.out] at HSEEN
      generalize burstB (l ++ bytesB (sumB l)) f bu 32 = C at *
      have HLN := Lib.hid hln
      have BT := Lib.hid (hrow.byts.take len0)
      have LT : Hid ((C.take len0).length = len0) := by
        have := hln
        show (C.take len0).length = len0
        rw [List.length_take]; omega
      clear hln
      have f0 : (len0 : Int) ≤ (c2 : Int) := by omega
      have f3 : (0 : Int) ≤ (len0 : Int) := by omega
      go_wp2_with fail
      refine (crcsum_at _ 1 _ [C.take len0] (sumB (C.take len0)) _ (parts_one 22 BT.out LT.out (by omega) rfl) (congrArg sumB (flat_one _)) rfl (by omega)).mono ?_
      rintro e w6 ⟨rfl, hb6⟩
      have hk6 := bel_on (bel_alloc (Below.refl wr.heap.size wr) _) hb6
      clear hb6
      go_wp2_with fail
      refine (crcbytes_any (sumB (C.take len0)) _).mono ?_
      rintro e w7 ⟨rfl, hb7⟩
      have hk7 := bel_on hk6 hb7
      clear hb7 hk6
      go_wp2_with (refine wpList_laid4 (sumB (C.take len0)) _ _ rfl rfl rfl rfl rfl ?_)
      have HN := laid4_has w7 (sumB (C.take len0))
      have hk8 := laid4_below (sumB (C.take len0)) hk7
      generalize laid4 w7 (sumB (C.take len0)) = Z at *
      generalize w7.heap.size = g2 at *
      have HS1 := Lib.hid (byts_of_has HN)
      have HS2 := Lib.hid ((byts_drop hrow.byts len0).below hk8)
      have LS2 : Hid ((C.drop len0).length = 4) := by
        have := HLN.out
        show (C.drop len0).length = 4
        rw [List.length_drop]; omega
      have hbz := bel_on (bel_on hb4 hbw) hk8
      have LS1 : Hid ((bytesB (sumB (C.take len0))).length = 4) := rfl
      generalize bytesB (sumB (C.take len0)) = y1 at *
      generalize C.drop len0 = y2 at *
      obtain ⟨B, E1, E2⟩ : ∃ B : Bool, ((strB y1).toList == (strB y2).toList) = B ∧ ((bu.toNat : Int) == 0) = B := ⟨_, rfl, seen_bool HSEEN.out⟩
      have f5 : (c2 = len0) = False := by simp; omega
      have f6 : (len0 : Int) ≤ (len0 : Int) + 4 := by omega
      clear hk7 HN
      refine wp_region_noPanic ?_
      refine wp_region_held_drew (S := fun w' => Below Z.heap.size Z w') (by kernel_rfl) (below_drew (Below.refl _ _)) (fun hHeld => ?_)
      refine wpAnyH_take (i := 0) (oi := ⟨some 69, _, _, _, _, _⟩) (v := ?_) rfl (by kernel_rfl) (by kernel_rfl) (by kernel_rfl) (fun _ _ _ h => h) (Or.inl ⟨by rfl, ?_⟩) hHeld ?_
      rotate_left
      · intro ww hSw
        (try dsimp only at hSw)
        go_simp
        (try with_reducible rfl)
      simp only [Act.put, List.setIfInBounds_toArray, List.set_cons_zero, List.set_cons_succ]
      refine wpAnyH_take (i := 1) (oi := ⟨some 70, _, _, _, _, _⟩) (v := ?_) rfl (by kernel_rfl) (by kernel_rfl) (by kernel_rfl) (fun _ _ _ h => h) (Or.inl ⟨by rfl, ?_⟩) hHeld ?_
      rotate_left
      · intro ww hSw
        (try dsimp only at hSw)
        go_simp
        (try with_reducible rfl)
      simp only [Act.put, List.setIfInBounds_toArray, List.set_cons_zero, List.set_cons_succ]
      refine wpAnyH_take (i := 2) (oi := ⟨some 71, _, _, _, _, _⟩) (v := ?_) rfl (by kernel_rfl) (by kernel_rfl) (by kernel_rfl) (fun _ _ _ h => h) (Or.inl ⟨by rfl, ?_⟩) hHeld ?_
      rotate_left
      · intro ww hSw
        (try dsimp only at hSw)
        go_simp
        (try with_reducible rfl)
      simp only [Act.put, List.setIfInBounds_toArray, List.set_cons_zero, List.set_cons_succ]
      refine wpAnyH_take (i := 4) (oi := ⟨some 73, _, _, _, _, _⟩) (v := ?_) rfl (by kernel_rfl) (by kernel_rfl) (by kernel_rfl) (fun _ _ _ h => h) (Or.inl ⟨by rfl, ?_⟩) hHeld ?_
      rotate_left
      · intro ww hSw
        (try dsimp only at hSw)
        go_simp
        (try with_reducible rfl)
      simp only [Act.put, List.setIfInBounds_toArray, List.set_cons_zero, List.set_cons_succ]
      refine wpAnyH_take (i := 5) (oi := ⟨some 74, _, _, _, _, _⟩) (v := ?_) rfl (by kernel_rfl) (by kernel_rfl) (by kernel_rfl) (fun _ _ _ h => h) (Or.inl ⟨by rfl, ?_⟩) hHeld ?_
      rotate_left
      · intro ww hSw
        (try dsimp only at hSw)
        go_simp
        (try with_reducible rfl)
      simp only [Act.put, List.setIfInBounds_toArray, List.set_cons_zero, List.set_cons_succ]
      refine wpAnyH_take (i := 6) (oi := ⟨some 75, _, _, _, _, _⟩) (v := ?_) rfl (by kernel_rfl) (by kernel_rfl) (by kernel_rfl) (fun _ _ _ h => h) (Or.inl ⟨by rfl, ?_⟩) hHeld ?_
      rotate_left
      · intro ww hSw
        (try dsimp only at hSw)
        go_simp
        (try with_reducible rfl)
      simp only [Act.put, List.setIfInBounds_toArray, List.set_cons_zero, List.set_cons_succ]
      refine wpAnyH_take (i := 7) (oi := ⟨some 76, _, _, _, _, _⟩) (v := ?_) rfl (by kernel_rfl) (by kernel_rfl) (by kernel_rfl) (fun _ _ _ h => h) (Or.inl ⟨by rfl, ?_⟩) hHeld ?_
      rotate_left
      · intro ww hSw
        (try dsimp only at hSw)
        go_simp
        (try with_reducible rfl)
      simp only [Act.put, List.setIfInBounds_toArray, List.set_cons_zero, List.set_cons_succ]
      refine wpAnyH_take (i := 10) (oi := ⟨some 79, _, _, _, _, _⟩) (v := ?_) rfl (by kernel_rfl) (by kernel_rfl) (by kernel_rfl) (fun _ _ _ h => h) (Or.inl ⟨by rfl, ?_⟩) hHeld ?_
      rotate_left
      · intro ww hSw
        (try dsimp only at hSw)
        go_simp
        (try with_reducible rfl)
      simp only [Act.put, List.setIfInBounds_toArray, List.set_cons_zero, List.set_cons_succ]
      refine wpAnyH_take (i := 11) (oi := ⟨some 80, _, _, _, _, _⟩) (v := ?_) rfl (by kernel_rfl) (by kernel_rfl) (by kernel_rfl) (fun _ _ _ h => h) (Or.inl ⟨by rfl, ?_⟩) hHeld ?_
      rotate_left
      · intro ww hSw
        (try dsimp only at hSw)
        go_simp
        (try with_reducible rfl)
      simp only [Act.put, List.setIfInBounds_toArray, List.set_cons_zero, List.set_cons_succ]
      refine wpAnyH_take (i := 3) (oi := ⟨some 72, _, _, _, _, _⟩) (v := .string (strB y1)) rfl (by kernel_rfl) (by kernel_rfl) (by kernel_rfl) (fun _ _ _ h => h) (Or.inl ⟨by rfl, ?_⟩) hHeld ?_
      · intro ww hSw
        (try dsimp only at hSw)
        have hcv := conv_str (n := 4) (c := 4) (HS1.out.below hSw) LS1.out (by omega)
        go_simp
      simp only [Act.put, List.setIfInBounds_toArray, List.set_cons_zero, List.set_cons_succ]
      refine wpAnyH_take (i := 8) (oi := ⟨some 77, _, _, _, _, _⟩) (v := .string (strB y2)) rfl (by kernel_rfl) (by kernel_rfl) (by kernel_rfl) (fun _ _ _ h => h) (Or.inl ⟨by rfl, ?_⟩) hHeld ?_
      · intro ww hSw
        (try dsimp only at hSw)
        have hcv := conv_str (n := 4) (c := c2 - len0) (HS2.out.below hSw) LS2.out (by omega)
        rw [Nat.zero_add] at hcv
        go_simp
      simp only [Act.put, List.setIfInBounds_toArray, List.set_cons_zero, List.set_cons_succ]
      refine wpAnyH_take (i := 9) (oi := ⟨some 78, _, _, _, _, _⟩) (v := ?_) rfl (by kernel_rfl) (by kernel_rfl) (by kernel_rfl) (fun _ _ _ h => h) (Or.inl ⟨by rfl, ?_⟩) hHeld ?_
      rotate_left
      · intro ww hSw
        (try dsimp only at hSw)
        go_simp
        (try with_reducible rfl)
      simp only [Act.put, List.setIfInBounds_toArray, List.set_cons_zero, List.set_cons_succ]
      refine wpAnyH_take (i := 12) (oi := ⟨some 81, _, _, _, _, _⟩) (v := ?_) rfl (by kernel_rfl) (by kernel_rfl) (by kernel_rfl) (fun _ _ _ h => h) (Or.inl ⟨by rfl, ?_⟩) hHeld ?_
      rotate_left
      · intro ww hSw
        (try dsimp only at hSw)
        go_simp
        (try with_reducible rfl)
      simp only [Act.put, List.setIfInBounds_toArray, List.set_cons_zero, List.set_cons_succ]
      refine wpAnyH_take (i := 13) (oi := ⟨some 82, _, _, _, _, _⟩) (v := ?_) rfl (by kernel_rfl) (by kernel_rfl) (by kernel_rfl) (fun _ _ _ h => h) (Or.inl ⟨by rfl, ?_⟩) hHeld ?_
      rotate_left
      · intro ww hSw
        (try dsimp only at hSw)
        go_simp
        (try with_reducible rfl)
      simp only [Act.put, List.setIfInBounds_toArray, List.set_cons_zero, List.set_cons_succ]
      refine wpAnyH_take (i := 14) (oi := ⟨some 6, _, _, _, _, _⟩) (v := ?_) rfl (by kernel_rfl) (by kernel_rfl) (by kernel_rfl) (fun _ _ _ h => h) (Or.inl ⟨by rfl, ?_⟩) hHeld ?_
      rotate_left
      · intro ww hSw
        (try dsimp only at hSw)
        go_simp
        (try with_reducible rfl)
      simp only [Act.put, List.setIfInBounds_toArray, List.set_cons_zero, List.set_cons_succ]
      refine wpAnyH_done (by kernel_rfl) ?_ _
      refine NoPanic.normal ?_
      go_wp2
      go_ret
      exact ⟨rfl, below_drew hbz⟩

theorem crcBurst_walk (a0 : Option Addr) (len0 cap0 : Nat) (z0 : List Int) (t b : Int) (w : World) (r0 : IsRow .u8 w a0 len0 cap0 z0) (h1 : 0 ≤ t) (h2 : t ≤ 65535) (h3 : 0 ≤ b) (h4 : b ≤ 4294967295) :
    Calls Try.prog 6 #[.slice a0 len0 cap0, .int .u16 t, .int .u32 b] w fun e w' => e = .returned (.bool true) ∧ Below w.heap.size w w' := by
  by_cases g : 1000 < len0
  · exact crcBurst_long _ _ _ _ _ w g
  · obtain ⟨l, hl, s0, hm⟩ := bytes_of_row r0
    obtain ⟨m, rfl⟩ := word_of_int h3 h4
    obtain ⟨t, rfl⟩ := Int.eq_ofNat_of_zero_le h1
    exact crcBurst_short _ _ _ l t m w s0 hl (by omega) (by omega)
end Go.Proofs.Ytjhjhkhnkfckeaa
