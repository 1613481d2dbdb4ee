/-
  The walk of the law CrcThree: it answers true, and leaves what was there as it was.
-/
import Derived.Test.YtjhjhkhnkfckeaaCrcStr
import Derived.Test.YtjhjhkhnkfckeaaByRow
import Derived.RegionTactic
namespace Go.Proofs.Ytjhjhkhnkfckeaa
open Go.RowKit
set_option linter.unusedVariables false

theorem crcThree_long (a0 : Option Addr) (len0 cap0 : Nat) (a1 : Option Addr) (len1 cap1 : Nat) (a2 : Option Addr) (len2 cap2 : Nat) (w : World) (n : Nat) (hn : min (min len0 len1) len2 = n) (h : 300 < n) :
    Calls Try.prog 7 #[.slice a0 len0 cap0, .slice a1 len1 cap1, .slice a2 len2 cap2] w fun e w' => e = .returned (.bool true) ∧ Below w.heap.size w w' := by
  have d3 : (300 : Int) < (n : Int) := by omega
  have HN := Lib.hid hn
  clear hn
  go_enter Try.func7, Try.ntmps7
  go_wp2_with fail
  refine (awake4 _).mono ?_
  rintro e w1 ⟨rfl, hb1⟩
  go_wp2_with (refine wpList_min3 len0 len1 len2 n HN.out rfl rfl rfl rfl rfl ?_)
  go_ret
  exact ⟨rfl, hb1⟩

set_option maxHeartbeats 2000000 in
theorem crcThree_short (a0 : Option Addr) (len0 cap0 : Nat) (xs : List (BitVec 8)) (a1 : Option Addr) (len1 cap1 : Nat) (ys : List (BitVec 8)) (a2 : Option Addr) (len2 cap2 : Nat) (zs : List (BitVec 8)) (w : World)
    (s0 : Sl 1 w a0 len0 cap0 (bytesV xs)) (s1 : Sl 1 w a1 len1 cap1 (bytesV ys)) (s2 : Sl 1 w a2 len2 cap2 (bytesV zs)) (l0 : xs.length = len0) (l1 : ys.length = len1) (l2 : zs.length = len2)
    (k0 : len0 ≤ cap0 ∧ cap0 ≤ 9223372036854775807) (k1 : len1 ≤ cap1 ∧ cap1 ≤ 9223372036854775807) (k2 : len2 ≤ cap2 ∧ cap2 ≤ 9223372036854775807)
    (n : Nat) (hn : min (min len0 len1) len2 = n) (h : n ≤ 300) :
    Calls Try.prog 7 #[.slice a0 len0 cap0, .slice a1 len1 cap1, .slice a2 len2 cap2] w fun e w' => e = .returned (.bool true) ∧ Below w.heap.size w w' := by
  have n0 : n ≤ len0 := by omega
  have n1 : n ≤ len1 := by omega
  have n2 : n ≤ len2 := by omega
  have t0 : (xs.take n).length = n := by rw [List.length_take]; omega
  have t1 : (ys.take n).length = n := by rw [List.length_take]; omega
  have t2 : (zs.take n).length = n := by rw [List.length_take]; omega
  have HTL := Lib.hid (tri_len _ _ _ n t0 t1 t2)
  have HTS := Lib.hid (tri_snoc _ _ _ n t0 t1 t2)
  have HT3 := Lib.hid (sum_three (xs.take n) (ys.take n) (zs.take n) (t0.trans t1.symm) (t1.trans t2.symm))
  have T0 := Lib.hid t0
  have T1 := Lib.hid t1
  have T2 := Lib.hid t2
  have S0 := Lib.hid s0
  have S1 := Lib.hid s1
  have S2 := Lib.hid s2
  have L0 := Lib.hid l0
  have L1 := Lib.hid l1
  have L2 := Lib.hid l2
  have HN := Lib.hid hn
  clear s0 s1 s2 l0 l1 l2 hn t0 t1 t2
  have d3 : (n : Int) ≤ 300 := by omega
  have d4 : decide ((300 : Int) < (n : Int)) = false := by simp; omega
  go_enter Try.func7, Try.ntmps7
  go_wp2_with fail
  refine (awake4 _).mono ?_
  rintro e w1 ⟨rfl, hb1⟩
  go_wp2_with (refine wpList_min3 len0 len1 len2 n HN.out rfl rfl rfl rfl rfl ?_)
  have B0 := Lib.hid (byts_of_sl (S0.out.below hb1))
  have B1 := Lib.hid (byts_of_sl (S1.out.below hb1))
  have B2 := Lib.hid (byts_of_sl (S2.out.below hb1))
  go_loopw [9, 10] (fun d i wr => ∃ (k : Nat) (A : Option Addr) (c : Nat) (D : List (BitVec 8)), k ≤ n ∧ i = .int .i64 k ∧ d = .slice A k c ∧ D.length = k ∧ Hid (D = (triB (xs.take n) (ys.take n) (zs.take n)).take k) ∧ BRow wr w1.heap.size A c D ∧ Below w1.heap.size w1 wr) (fun _ i _ => n - (intOf i).toNat)
  case atStart => exact ⟨0, none, 0, [], by omega, rfl, rfl, rfl, rfl, BRow.nil _ _, Below.refl _ _⟩
  case round =>
    obtain ⟨k, A, c, D, hk, rfl, rfl, hDk, hD, hrow, hbw⟩ := hrel
    by_cases hlt : k < n
    · obtain ⟨p0, o0, rfl, c0⟩ := B0.out k (by rw [L0.out]; omega)
      obtain ⟨p1, o1, rfl, c1⟩ := B1.out k (by rw [L1.out]; omega)
      obtain ⟨p2, o2, rfl, c2⟩ := B2.out k (by rw [L2.out]; omega)
      have HD' := Lib.hid (HTS.out k hlt)
      rw [getD_take hlt, getD_take hlt, getD_take hlt, ← hD.out] at HD'
      have hx0 := xor8 (xs.getD k 0#8) (ys.getD k 0#8)
      have hx1 := xor8 (xs.getD k 0#8 ^^^ ys.getD k 0#8) (zs.getD k 0#8)
      generalize xs.getD k 0#8 ^^^ ys.getD k 0#8 ^^^ zs.getD k 0#8 = t at *
      generalize xs.getD k 0#8 ^^^ ys.getD k 0#8 = s at *
      generalize xs.getD k 0#8 = x at *
      generalize ys.getD k 0#8 = y at *
      generalize zs.getD k 0#8 = z at *
      obtain ⟨A', c', w5, hrun, hrow', hbel, hsz⟩ := brow_push hrow.drew t (by omega) hbw.size (s := wr.heap.size) rfl
      rw [hDk] at hrun
      have HRUN : Hid ((Builtin.append_ #[22, 22] 22 #[.slice A k c, .slice (some ⟨wr.heap.size, 0, none⟩) 1 1]).run Try.prog (wr.alloc (.cells #[v8 t] 5)).drew = .ok (.slice A' (k + 1) c') w5) := hrun
      have hb5 := hbel w1 (Nat.le_refl _) (below_drew hbw)
      have hD5 : (D ++ [t]).length = k + 1 := by rw [List.length_append, hDk]; rfl
      have HD5 := Lib.hid hD5
      clear hD5
      have e0 : (k : Int) < (len0 : Int) := by omega
      have e1 : (k : Int) < (len1 : Int) := by omega
      have e2 : (k : Int) < (len2 : Int) := by omega
      have x8 : x.toNat < 256 := x.isLt
      have y8 : y.toNat < 256 := y.isLt
      have z8 : z.toNat < 256 := z.isLt
      have s8 : s.toNat < 256 := s.isLt
      have t8 : t.toNat < 256 := t.isLt
      clear hrun hbel B0 B1 B2
      go_wp2
      refine wp_region_noPanic ?_
      refine wp_region_held_drew (S := fun w' => Below w1.heap.size w1 w') (by kernel_rfl) (below_drew (hbw)) (fun hHeld => ?_)
      refine wpAnyH_take (i := 0) (oi := ⟨some 27, _, _, _, _, _⟩) (v := ?_) rfl (by kernel_rfl) (by kernel_rfl) (by kernel_rfl) (fun _ _ _ h => h) (Or.inl ⟨by rfl, ?_⟩) hHeld ?_
      rotate_left
      · intro ww hSw
        (try dsimp only at hSw)
        go_simp
        (try with_reducible rfl)
      simp only [Act.put, List.setIfInBounds_toArray, List.set_cons_zero, List.set_cons_succ]
      refine wpAnyH_take (i := 1) (oi := ⟨some 28, _, _, _, _, _⟩) (v := ?_) rfl (by kernel_rfl) (by kernel_rfl) (by kernel_rfl) (fun _ _ _ h => h) (Or.inl ⟨by rfl, ?_⟩) hHeld ?_
      rotate_left
      · intro ww hSw
        (try dsimp only at hSw)
        go_simp
        (try with_reducible rfl)
      simp only [Act.put, List.setIfInBounds_toArray, List.set_cons_zero, List.set_cons_succ]
      refine wpAnyH_take (i := 2) (oi := ⟨some 29, _, _, _, _, _⟩) (v := ?_) rfl (by kernel_rfl) (by kernel_rfl) (by kernel_rfl) (fun _ _ _ h => h) (Or.inl ⟨by rfl, ?_⟩) hHeld ?_
      rotate_left
      · intro ww hSw
        (try dsimp only at hSw)
        go_simp
        (try with_reducible rfl)
      simp only [Act.put, List.setIfInBounds_toArray, List.set_cons_zero, List.set_cons_succ]
      refine wpAnyH_take (i := 3) (oi := ⟨some 30, _, _, _, _, _⟩) (v := ?_) rfl (by kernel_rfl) (by kernel_rfl) (by kernel_rfl) (fun _ _ _ h => h) (Or.inl ⟨by rfl, ?_⟩) hHeld ?_
      rotate_left
      · intro ww hSw
        (try dsimp only at hSw)
        go_simp
        (try with_reducible rfl)
      simp only [Act.put, List.setIfInBounds_toArray, List.set_cons_zero, List.set_cons_succ]
      refine wpAnyH_take (i := 4) (oi := ⟨some 31, _, _, _, _, _⟩) (v := v8 x) rfl (by kernel_rfl) (by kernel_rfl) (by kernel_rfl) (fun _ _ _ h => h) (Or.inl ⟨by rfl, ?_⟩) hHeld ?_
      · intro ww hSw
        (try dsimp only at hSw)
        have hcc := (hSw.cell (p := ⟨p0, o0 + k, none⟩) (cell_lt c0)).trans c0
        go_simp
      simp only [Act.put, List.setIfInBounds_toArray, List.set_cons_zero, List.set_cons_succ]
      refine wpAnyH_take (i := 5) (oi := ⟨some 32, _, _, _, _, _⟩) (v := ?_) rfl (by kernel_rfl) (by kernel_rfl) (by kernel_rfl) (fun _ _ _ h => h) (Or.inl ⟨by rfl, ?_⟩) hHeld ?_
      rotate_left
      · intro ww hSw
        (try dsimp only at hSw)
        go_simp
        (try with_reducible rfl)
      simp only [Act.put, List.setIfInBounds_toArray, List.set_cons_zero, List.set_cons_succ]
      refine wpAnyH_take (i := 6) (oi := ⟨some 33, _, _, _, _, _⟩) (v := ?_) rfl (by kernel_rfl) (by kernel_rfl) (by kernel_rfl) (fun _ _ _ h => h) (Or.inl ⟨by rfl, ?_⟩) hHeld ?_
      rotate_left
      · intro ww hSw
        (try dsimp only at hSw)
        go_simp
        (try with_reducible rfl)
      simp only [Act.put, List.setIfInBounds_toArray, List.set_cons_zero, List.set_cons_succ]
      refine wpAnyH_take (i := 7) (oi := ⟨some 34, _, _, _, _, _⟩) (v := ?_) rfl (by kernel_rfl) (by kernel_rfl) (by kernel_rfl) (fun _ _ _ h => h) (Or.inl ⟨by rfl, ?_⟩) hHeld ?_
      rotate_left
      · intro ww hSw
        (try dsimp only at hSw)
        go_simp
        (try with_reducible rfl)
      simp only [Act.put, List.setIfInBounds_toArray, List.set_cons_zero, List.set_cons_succ]
      refine wpAnyH_take (i := 8) (oi := ⟨some 35, _, _, _, _, _⟩) (v := v8 y) rfl (by kernel_rfl) (by kernel_rfl) (by kernel_rfl) (fun _ _ _ h => h) (Or.inl ⟨by rfl, ?_⟩) hHeld ?_
      · intro ww hSw
        (try dsimp only at hSw)
        have hcc := (hSw.cell (p := ⟨p1, o1 + k, none⟩) (cell_lt c1)).trans c1
        go_simp
      simp only [Act.put, List.setIfInBounds_toArray, List.set_cons_zero, List.set_cons_succ]
      refine wpAnyH_take (i := 9) (oi := ⟨some 36, _, _, _, _, _⟩) (v := ?_) rfl (by kernel_rfl) (by kernel_rfl) (by kernel_rfl) (fun _ _ _ h => h) (Or.inl ⟨by rfl, ?_⟩) hHeld ?_
      rotate_left
      · intro ww hSw
        (try dsimp only at hSw)
        go_simp
        (try with_reducible rfl)
      simp only [Act.put, List.setIfInBounds_toArray, List.set_cons_zero, List.set_cons_succ]
      refine wpAnyH_take (i := 10) (oi := ⟨some 37, _, _, _, _, _⟩) (v := ?_) rfl (by kernel_rfl) (by kernel_rfl) (by kernel_rfl) (fun _ _ _ h => h) (Or.inl ⟨by rfl, ?_⟩) hHeld ?_
      rotate_left
      · intro ww hSw
        (try dsimp only at hSw)
        go_simp
        (try with_reducible rfl)
      simp only [Act.put, List.setIfInBounds_toArray, List.set_cons_zero, List.set_cons_succ]
      refine wpAnyH_take (i := 11) (oi := ⟨some 38, _, _, _, _, _⟩) (v := ?_) rfl (by kernel_rfl) (by kernel_rfl) (by kernel_rfl) (fun _ _ _ h => h) (Or.inl ⟨by rfl, ?_⟩) hHeld ?_
      rotate_left
      · intro ww hSw
        (try dsimp only at hSw)
        go_simp
        (try with_reducible rfl)
      simp only [Act.put, List.setIfInBounds_toArray, List.set_cons_zero, List.set_cons_succ]
      refine wpAnyH_take (i := 12) (oi := ⟨some 39, _, _, _, _, _⟩) (v := ?_) rfl (by kernel_rfl) (by kernel_rfl) (by kernel_rfl) (fun _ _ _ h => h) (Or.inl ⟨by rfl, ?_⟩) hHeld ?_
      rotate_left
      · intro ww hSw
        (try dsimp only at hSw)
        go_simp
        (try with_reducible rfl)
      simp only [Act.put, List.setIfInBounds_toArray, List.set_cons_zero, List.set_cons_succ]
      refine wpAnyH_take (i := 13) (oi := ⟨some 40, _, _, _, _, _⟩) (v := v8 z) rfl (by kernel_rfl) (by kernel_rfl) (by kernel_rfl) (fun _ _ _ h => h) (Or.inl ⟨by rfl, ?_⟩) hHeld ?_
      · intro ww hSw
        (try dsimp only at hSw)
        have hcc := (hSw.cell (p := ⟨p2, o2 + k, none⟩) (cell_lt c2)).trans c2
        go_simp
      simp only [Act.put, List.setIfInBounds_toArray, List.set_cons_zero, List.set_cons_succ]
      refine wpAnyH_take (i := 14) (oi := ⟨some 41, _, _, _, _, _⟩) (v := ?_) rfl (by kernel_rfl) (by kernel_rfl) (by kernel_rfl) (fun _ _ _ h => h) (Or.inl ⟨by rfl, ?_⟩) hHeld ?_
      rotate_left
      · intro ww hSw
        (try dsimp only at hSw)
        go_simp
        (try with_reducible rfl)
      simp only [Act.put, List.setIfInBounds_toArray, List.set_cons_zero, List.set_cons_succ]
      refine wpAnyH_ready (rs := [15]) (by kernel_rfl) (by simp) ?_
      refine AllReadyH.cons (o := ⟨some 42, _, _, _, _, _⟩) rfl (fun K hK => ?_) AllReadyH.nil
      go_simp
      refine hK.out _ _ ?_ (fun hHeld => ?_)
      · (try dsimp only)
        (repeat' (first | with_reducible exact Below.refl _ _ | with_reducible assumption | with_reducible refine bel_alloc ?_ _ | with_reducible refine bel_set ?_ ?_ _ | with_reducible refine below_drewN ?_ _ | with_reducible refine below_drew ?_ | (simp; done) | (simp; omega) | omega))
      clear hK K
      (try simp only [Act.put, List.setIfInBounds_toArray, List.set_cons_zero, List.set_cons_succ])
      refine wpAnyH_ready (rs := [16]) (by kernel_rfl) (by simp) ?_
      refine AllReadyH.cons (o := ⟨some 43, _, _, _, _, _⟩) rfl (fun K hK => ?_) AllReadyH.nil
      rw [if_pos (by rfl)]
      refine wp_append_run HRUN.out rfl rfl rfl ?_
      refine hK.out _ _ ?_ (fun hHeld => ?_)
      · (try dsimp only)
        exact hb5
      clear hK K
      (try simp only [Act.put, List.setIfInBounds_toArray, List.set_cons_zero, List.set_cons_succ])
      refine wpAnyH_take (i := 17) (oi := ⟨some 9, _, _, _, _, _⟩) (v := ?_) rfl (by kernel_rfl) (by kernel_rfl) (by kernel_rfl) (fun _ _ _ h => h) (Or.inl ⟨by rfl, ?_⟩) hHeld ?_
      rotate_left
      · intro ww hSw
        (try dsimp only at hSw)
        go_simp
        (try with_reducible rfl)
      simp only [Act.put, List.setIfInBounds_toArray, List.set_cons_zero, List.set_cons_succ]
      refine wpAnyH_done (by kernel_rfl) ?_ _
      refine NoPanic.normal ?_
      go_wp2
      go_roundw
      case rel => exact ⟨k + 1, A', c', D ++ [t], by omega, by go_num, rfl, HD5.out, HD'.out.symm, hrow', hb5⟩
      case measure => simp [intOf]; omega
    · obtain rfl : k = n := by omega
      have hDT := hD.out
      rw [List.take_of_length_le (by rw [HTL.out]; exact Nat.le_refl _)] at hDT
      have HSUM : Hid (sumB (List.flatten [D]) = sumB (xs.take k) ^^^ sumB (ys.take k) ^^^ sumB (zs.take k)) := by
        rw [flat_one, hDT]
        exact HT3.out
      have C0 := Lib.hid ((B0.out.take k).below hbw)
      have C1 := Lib.hid ((B1.out.take k).below hbw)
      have C2 := Lib.hid ((B2.out.take k).below hbw)
      have CD := Lib.hid hrow.byts
      have LD := Lib.hid hDk
      have F0 := Lib.hid (congrArg sumB (flat_one (xs.take k)))
      have F1 := Lib.hid (congrArg sumB (flat_one (ys.take k)))
      have F2 := Lib.hid (congrArg sumB (flat_one (zs.take k)))
      have X1 := xor32 (sumB (xs.take k)) (sumB (ys.take k))
      have X2 := xor32 (sumB (xs.take k) ^^^ sumB (ys.take k)) (sumB (zs.take k))
      generalize sumB (xs.take k) ^^^ sumB (ys.take k) ^^^ sumB (zs.take k) = cD at *
      generalize sumB (xs.take k) ^^^ sumB (ys.take k) = c01 at *
      generalize sumB (xs.take k) = c0 at *
      generalize sumB (ys.take k) = c1 at *
      generalize sumB (zs.take k) = c2 at *
      generalize xs.take k = xt at *
      generalize ys.take k = yt at *
      generalize zs.take k = zt at *
      have hm0 : k ≤ 9223372036854775807 := by omega
      have f0 : (k : Int) ≤ (cap0 : Int) := by omega
      have f1 : (k : Int) ≤ (cap1 : Int) := by omega
      have f2 : (k : Int) ≤ (cap2 : Int) := by omega
      have f3 : (0 : Int) ≤ (k : Int) := by omega
      clear hD hDT hDk hrow B0 B1 B2 HT3 HTS HTL
      go_wp2
      refine wp_region_noPanic ?_
      refine wp_region_held_drew (S := fun w' => Below wr.heap.size wr w') (by kernel_rfl) (below_drew (Below.refl _ _)) (fun hHeld => ?_)
      refine wpAnyH_take (i := 0) (oi := ⟨some 44, _, _, _, _, _⟩) (v := ?_) rfl (by kernel_rfl) (by kernel_rfl) (by kernel_rfl) (fun _ _ _ h => h) (Or.inl ⟨by rfl, ?_⟩) hHeld ?_
      rotate_left
      · intro ww hSw
        (try dsimp only at hSw)
        go_simp
        (try with_reducible rfl)
      simp only [Act.put, List.setIfInBounds_toArray, List.set_cons_zero, List.set_cons_succ]
      refine wpAnyH_take (i := 1) (oi := ⟨some 45, _, _, _, _, _⟩) (v := ?_) rfl (by kernel_rfl) (by kernel_rfl) (by kernel_rfl) (fun _ _ _ h => h) (Or.inl ⟨by rfl, ?_⟩) hHeld ?_
      rotate_left
      · intro ww hSw
        (try dsimp only at hSw)
        go_simp
        (try with_reducible rfl)
      simp only [Act.put, List.setIfInBounds_toArray, List.set_cons_zero, List.set_cons_succ]
      refine wpAnyH_take (i := 2) (oi := ⟨some 46, _, _, _, _, _⟩) (v := ?_) rfl (by kernel_rfl) (by kernel_rfl) (by kernel_rfl) (fun _ _ _ h => h) (Or.inl ⟨by rfl, ?_⟩) hHeld ?_
      rotate_left
      · intro ww hSw
        (try dsimp only at hSw)
        go_simp
        (try with_reducible rfl)
      simp only [Act.put, List.setIfInBounds_toArray, List.set_cons_zero, List.set_cons_succ]
      refine wpAnyH_take (i := 5) (oi := ⟨some 49, _, _, _, _, _⟩) (v := ?_) rfl (by kernel_rfl) (by kernel_rfl) (by kernel_rfl) (fun _ _ _ h => h) (Or.inl ⟨by rfl, ?_⟩) hHeld ?_
      rotate_left
      · intro ww hSw
        (try dsimp only at hSw)
        go_simp
        (try with_reducible rfl)
      simp only [Act.put, List.setIfInBounds_toArray, List.set_cons_zero, List.set_cons_succ]
      refine wpAnyH_take (i := 6) (oi := ⟨some 50, _, _, _, _, _⟩) (v := ?_) rfl (by kernel_rfl) (by kernel_rfl) (by kernel_rfl) (fun _ _ _ h => h) (Or.inl ⟨by rfl, ?_⟩) hHeld ?_
      rotate_left
      · intro ww hSw
        (try dsimp only at hSw)
        go_simp
        (try with_reducible rfl)
      simp only [Act.put, List.setIfInBounds_toArray, List.set_cons_zero, List.set_cons_succ]
      refine wpAnyH_take (i := 7) (oi := ⟨some 51, _, _, _, _, _⟩) (v := ?_) rfl (by kernel_rfl) (by kernel_rfl) (by kernel_rfl) (fun _ _ _ h => h) (Or.inl ⟨by rfl, ?_⟩) hHeld ?_
      rotate_left
      · intro ww hSw
        (try dsimp only at hSw)
        go_simp
        (try with_reducible rfl)
      simp only [Act.put, List.setIfInBounds_toArray, List.set_cons_zero, List.set_cons_succ]
      refine wpAnyH_take (i := 10) (oi := ⟨some 54, _, _, _, _, _⟩) (v := ?_) rfl (by kernel_rfl) (by kernel_rfl) (by kernel_rfl) (fun _ _ _ h => h) (Or.inl ⟨by rfl, ?_⟩) hHeld ?_
      rotate_left
      · intro ww hSw
        (try dsimp only at hSw)
        go_simp
        (try with_reducible rfl)
      simp only [Act.put, List.setIfInBounds_toArray, List.set_cons_zero, List.set_cons_succ]
      refine wpAnyH_take (i := 11) (oi := ⟨some 55, _, _, _, _, _⟩) (v := ?_) rfl (by kernel_rfl) (by kernel_rfl) (by kernel_rfl) (fun _ _ _ h => h) (Or.inl ⟨by rfl, ?_⟩) hHeld ?_
      rotate_left
      · intro ww hSw
        (try dsimp only at hSw)
        go_simp
        (try with_reducible rfl)
      simp only [Act.put, List.setIfInBounds_toArray, List.set_cons_zero, List.set_cons_succ]
      refine wpAnyH_take (i := 12) (oi := ⟨some 56, _, _, _, _, _⟩) (v := ?_) rfl (by kernel_rfl) (by kernel_rfl) (by kernel_rfl) (fun _ _ _ h => h) (Or.inl ⟨by rfl, ?_⟩) hHeld ?_
      rotate_left
      · intro ww hSw
        (try dsimp only at hSw)
        go_simp
        (try with_reducible rfl)
      simp only [Act.put, List.setIfInBounds_toArray, List.set_cons_zero, List.set_cons_succ]
      refine wpAnyH_take (i := 16) (oi := ⟨some 60, _, _, _, _, _⟩) (v := ?_) rfl (by kernel_rfl) (by kernel_rfl) (by kernel_rfl) (fun _ _ _ h => h) (Or.inl ⟨by rfl, ?_⟩) hHeld ?_
      rotate_left
      · intro ww hSw
        (try dsimp only at hSw)
        go_simp
        (try with_reducible rfl)
      simp only [Act.put, List.setIfInBounds_toArray, List.set_cons_zero, List.set_cons_succ]
      refine wpAnyH_take (i := 17) (oi := ⟨some 61, _, _, _, _, _⟩) (v := ?_) rfl (by kernel_rfl) (by kernel_rfl) (by kernel_rfl) (fun _ _ _ h => h) (Or.inl ⟨by rfl, ?_⟩) hHeld ?_
      rotate_left
      · intro ww hSw
        (try dsimp only at hSw)
        go_simp
        (try with_reducible rfl)
      simp only [Act.put, List.setIfInBounds_toArray, List.set_cons_zero, List.set_cons_succ]
      refine wpAnyH_take (i := 18) (oi := ⟨some 62, _, _, _, _, _⟩) (v := ?_) rfl (by kernel_rfl) (by kernel_rfl) (by kernel_rfl) (fun _ _ _ h => h) (Or.inl ⟨by rfl, ?_⟩) hHeld ?_
      rotate_left
      · intro ww hSw
        (try dsimp only at hSw)
        go_simp
        (try with_reducible rfl)
      simp only [Act.put, List.setIfInBounds_toArray, List.set_cons_zero, List.set_cons_succ]
      refine wpAnyH_lit (fuel' := 13) (l := #[true, true, true, false, false, true, true, true, false, false, true, true, true, false, false, false, true, true, true, false, false, false, false, false, false]) (by kernel_rfl) (by kernel_rfl) ?_
      refine wpAnyH_letters [47, 48, 52, 53, 57, 58, 59, 63, 64, 65, 66, 67, 6] [3, 4, 8, 9, 13, 14, 15, 19, 20, 21, 22, 23, 24] (fun vs bs w => ∃ (v3 v4 v8 v9 v13 v14 v15 v19 v20 v21 v22 v23 v24 : Value) (b3 b4 b8 b9 b13 b14 b15 b19 b20 b21 b22 b23 b24 : Bool), vs = [v3, v4, v8, v9, v13, v14, v15, v19, v20, v21, v22, v23, v24] ∧ bs = [b3, b4, b8, b9, b13, b14, b15, b19, b20, b21, b22, b23, b24] ∧ Below wr.heap.size wr w ∧ (b3 = true → PartsV v3 1 [D] w) ∧ (b4 = true → Fix v4 (v32 cD) w) ∧ (b8 = true → PartsV v8 1 [xt] w) ∧ (b9 = true → Fix v9 (v32 c0) w) ∧ (b13 = true → PartsV v13 1 [yt] w) ∧ (b14 = true → Fix v14 (v32 c1) w) ∧ (b15 = true → Fix v15 (v32 c01) w) ∧ (b19 = true → PartsV v19 1 [zt] w) ∧ (b20 = true → Fix v20 (v32 c2) w) ∧ (b21 = true → Fix v21 (v32 cD) w) ∧ (b22 = true → Fix v22 (.bool true) w) ∧ (b23 = true → Fix v23 (.bool true) w) ∧ (b24 = true → Fix v24 (.bool true) w)) ?_ (by decide) [undef, undef, undef, undef, undef, undef, undef, undef, undef, undef, undef, undef, .bool false] [false, false, false, false, false, false, false, false, false, false, false, false, false] rfl (by simp only [putsA, Act.put, List.setIfInBounds_toArray, List.set_cons_zero, List.set_cons_succ]) ⟨undef, undef, undef, undef, undef, undef, undef, undef, undef, undef, undef, undef, .bool false, false, false, false, false, false, false, false, false, false, false, false, false, false, rfl, rfl, hHeld, (fun h => by cases h), (fun h => by cases h), (fun h => by cases h), (fun h => by cases h), (fun h => by cases h), (fun h => by cases h), (fun h => by cases h), (fun h => by cases h), (fun h => by cases h), (fun h => by cases h), (fun h => by cases h), (fun h => by cases h), (fun h => by cases h)⟩ ?_ ?_
      · rintro _ _ w ⟨_, _, _, _, _, _, _, _, _, _, _, _, _, _, _, _, _, _, _, _, _, _, _, _, _, _, rfl, rfl, hb, _⟩
        exact hb
      · clear hHeld
        refine StepsFrom.cons (k := 0) ?_ ?_
        · rintro _ _ wc ⟨_, _, rfl, rfl, v3, v4, v8, v9, v13, v14, v15, v19, v20, v21, v22, v23, v24, b3, b4, b8, b9, b13, b14, b15, b19, b20, b21, b22, b23, b24, rfl, rfl, hbw', h3, h4, h8, h9, h13, h14, h15, h19, h20, h21, h22, h23, h24⟩ hun
          simp [setsB] at hun
        refine StepsFrom.cons (k := 1) ?_ ?_
        · rintro _ _ wc ⟨_, _, rfl, rfl, v3, v4, v8, v9, v13, v14, v15, v19, v20, v21, v22, v23, v24, b3, b4, b8, b9, b13, b14, b15, b19, b20, b21, b22, b23, b24, rfl, rfl, hbw', h3, h4, h8, h9, h13, h14, h15, h19, h20, h21, h22, h23, h24⟩ hun
          simp [setsB] at hun
        refine StepsFrom.cons (k := 2) ?_ ?_
        · rintro _ _ wc ⟨_, _, rfl, rfl, v3, v4, v8, v9, v13, v14, v15, v19, v20, v21, v22, v23, v24, b3, b4, b8, b9, b13, b14, b15, b19, b20, b21, b22, b23, b24, rfl, rfl, hbw', h3, h4, h8, h9, h13, h14, h15, h19, h20, h21, h22, h23, h24⟩ hun
          simp [setsB] at hun
        refine StepsFrom.cons (k := 3) ?_ ?_
        · rintro _ _ wc ⟨_, _, rfl, rfl, v3, v4, v8, v9, v13, v14, v15, v19, v20, v21, v22, v23, v24, b3, b4, b8, b9, b13, b14, b15, b19, b20, b21, b22, b23, b24, rfl, rfl, hbw', h3, h4, h8, h9, h13, h14, h15, h19, h20, h21, h22, h23, h24⟩ hun hpre K hK
          simp only [setsB, List.setIfInBounds_toArray, List.set_cons_zero, List.set_cons_succ] at hpre
          clear hun hpre
          simp only [putsA, Act.put, List.setIfInBounds_toArray, List.set_cons_zero, List.set_cons_succ]
          go_simp
          have hbn := bel_alloc (Below.refl wc.heap.size wc) (Obj.cells #[.slice A k c] 22)
          have qI : PartsV (.slice (some ⟨wc.heap.size, 0, none⟩) 1 1) 1 [D] (wc.alloc (Obj.cells #[.slice A k c] 22)) := PartsV.mk1 22 (CD.out.below hbw') LD.out hm0
          refine hK.out _ _ ⟨_, _, ?_, ?_, (.slice (some ⟨wc.heap.size, 0, none⟩) 1 1), v4, v8, v9, v13, v14, v15, v19, v20, v21, v22, v23, v24, true, b4, b8, b9, b13, b14, b15, b19, b20, b21, b22, b23, b24, rfl, rfl, bel_on hbw' hbn, (fun _ => qI), (fun e => (h4 e).below hbn), (fun e => (h8 e).below hbn), (fun e => (h9 e).below hbn), (fun e => (h13 e).below hbn), (fun e => (h14 e).below hbn), (fun e => (h15 e).below hbn), (fun e => (h19 e).below hbn), (fun e => (h20 e).below hbn), (fun e => (h21 e).below hbn), (fun e => (h22 e).below hbn), (fun e => (h23 e).below hbn), (fun e => (h24 e).below hbn)⟩
          · simp only [setsB, List.setIfInBounds_toArray, List.set_cons_zero, List.set_cons_succ]
          · simp only [putsA, Act.put, List.setIfInBounds_toArray, List.set_cons_zero, List.set_cons_succ]
        refine StepsFrom.cons (k := 4) ?_ ?_
        · rintro _ _ wc ⟨_, _, rfl, rfl, v3, v4, v8, v9, v13, v14, v15, v19, v20, v21, v22, v23, v24, b3, b4, b8, b9, b13, b14, b15, b19, b20, b21, b22, b23, b24, rfl, rfl, hbw', h3, h4, h8, h9, h13, h14, h15, h19, h20, h21, h22, h23, h24⟩ hun hpre K hK
          simp only [setsB, List.setIfInBounds_toArray, List.set_cons_zero, List.set_cons_succ] at hpre
          have p3 := hpre ⟨3, .data⟩ (by simp) rfl
          subst p3
          clear hun hpre
          have q3 := h3 rfl
          clear h3
          refine PartsV.elim q3 ?_
          intro A3 c3 z3 hp3
          subst z3
          simp only [putsA, Act.put, List.setIfInBounds_toArray, List.set_cons_zero, List.set_cons_succ]
          go_simp
          go_at_call 10
          refine (crcsum_at _ 1 _ [D] cD _ hp3 HSUM.out rfl (by omega)).mono ?_
          rintro e_r wn ⟨rfl, hbn⟩
          go_wp2_with fail
          have qI : Fix (v32 cD) (v32 cD) wn := rfl
          refine hK.out _ _ ⟨_, _, ?_, ?_, (.slice A3 1 c3), (v32 cD), v8, v9, v13, v14, v15, v19, v20, v21, v22, v23, v24, true, true, b8, b9, b13, b14, b15, b19, b20, b21, b22, b23, b24, rfl, rfl, bel_on hbw' hbn, (fun _ => q3.below hbn), (fun _ => qI), (fun e => (h8 e).below hbn), (fun e => (h9 e).below hbn), (fun e => (h13 e).below hbn), (fun e => (h14 e).below hbn), (fun e => (h15 e).below hbn), (fun e => (h19 e).below hbn), (fun e => (h20 e).below hbn), (fun e => (h21 e).below hbn), (fun e => (h22 e).below hbn), (fun e => (h23 e).below hbn), (fun e => (h24 e).below hbn)⟩
          · simp only [setsB, List.setIfInBounds_toArray, List.set_cons_zero, List.set_cons_succ]
          · simp only [putsA, Act.put, List.setIfInBounds_toArray, List.set_cons_zero, List.set_cons_succ]
        refine StepsFrom.cons (k := 5) ?_ ?_
        · rintro _ _ wc ⟨_, _, rfl, rfl, v3, v4, v8, v9, v13, v14, v15, v19, v20, v21, v22, v23, v24, b3, b4, b8, b9, b13, b14, b15, b19, b20, b21, b22, b23, b24, rfl, rfl, hbw', h3, h4, h8, h9, h13, h14, h15, h19, h20, h21, h22, h23, h24⟩ hun
          simp [setsB] at hun
        refine StepsFrom.cons (k := 6) ?_ ?_
        · rintro _ _ wc ⟨_, _, rfl, rfl, v3, v4, v8, v9, v13, v14, v15, v19, v20, v21, v22, v23, v24, b3, b4, b8, b9, b13, b14, b15, b19, b20, b21, b22, b23, b24, rfl, rfl, hbw', h3, h4, h8, h9, h13, h14, h15, h19, h20, h21, h22, h23, h24⟩ hun
          simp [setsB] at hun
        refine StepsFrom.cons (k := 7) ?_ ?_
        · rintro _ _ wc ⟨_, _, rfl, rfl, v3, v4, v8, v9, v13, v14, v15, v19, v20, v21, v22, v23, v24, b3, b4, b8, b9, b13, b14, b15, b19, b20, b21, b22, b23, b24, rfl, rfl, hbw', h3, h4, h8, h9, h13, h14, h15, h19, h20, h21, h22, h23, h24⟩ hun
          simp [setsB] at hun
        refine StepsFrom.cons (k := 8) ?_ ?_
        · rintro _ _ wc ⟨_, _, rfl, rfl, v3, v4, v8, v9, v13, v14, v15, v19, v20, v21, v22, v23, v24, b3, b4, b8, b9, b13, b14, b15, b19, b20, b21, b22, b23, b24, rfl, rfl, hbw', h3, h4, h8, h9, h13, h14, h15, h19, h20, h21, h22, h23, h24⟩ hun hpre K hK
          simp only [setsB, List.setIfInBounds_toArray, List.set_cons_zero, List.set_cons_succ] at hpre
          clear hun hpre
          simp only [putsA, Act.put, List.setIfInBounds_toArray, List.set_cons_zero, List.set_cons_succ]
          go_simp
          have hbn := bel_alloc (Below.refl wc.heap.size wc) (Obj.cells #[.slice a0 k cap0] 22)
          have qI : PartsV (.slice (some ⟨wc.heap.size, 0, none⟩) 1 1) 1 [xt] (wc.alloc (Obj.cells #[.slice a0 k cap0] 22)) := PartsV.mk1 22 (C0.out.below hbw') T0.out hm0
          refine hK.out _ _ ⟨_, _, ?_, ?_, v3, v4, (.slice (some ⟨wc.heap.size, 0, none⟩) 1 1), v9, v13, v14, v15, v19, v20, v21, v22, v23, v24, b3, b4, true, b9, b13, b14, b15, b19, b20, b21, b22, b23, b24, rfl, rfl, bel_on hbw' hbn, (fun e => (h3 e).below hbn), (fun e => (h4 e).below hbn), (fun _ => qI), (fun e => (h9 e).below hbn), (fun e => (h13 e).below hbn), (fun e => (h14 e).below hbn), (fun e => (h15 e).below hbn), (fun e => (h19 e).below hbn), (fun e => (h20 e).below hbn), (fun e => (h21 e).below hbn), (fun e => (h22 e).below hbn), (fun e => (h23 e).below hbn), (fun e => (h24 e).below hbn)⟩
          · simp only [setsB, List.setIfInBounds_toArray, List.set_cons_zero, List.set_cons_succ]
          · simp only [putsA, Act.put, List.setIfInBounds_toArray, List.set_cons_zero, List.set_cons_succ]
        refine StepsFrom.cons (k := 9) ?_ ?_
        · rintro _ _ wc ⟨_, _, rfl, rfl, v3, v4, v8, v9, v13, v14, v15, v19, v20, v21, v22, v23, v24, b3, b4, b8, b9, b13, b14, b15, b19, b20, b21, b22, b23, b24, rfl, rfl, hbw', h3, h4, h8, h9, h13, h14, h15, h19, h20, h21, h22, h23, h24⟩ hun hpre K hK
          simp only [setsB, List.setIfInBounds_toArray, List.set_cons_zero, List.set_cons_succ] at hpre
          have p8 := hpre ⟨8, .data⟩ (by simp) rfl
          subst p8
          have p4 := hpre ⟨4, .chain⟩ (by simp) rfl
          subst p4
          clear hun hpre
          have q4 := h4 rfl
          clear h4
          have q8 := h8 rfl
          clear h8
          have z4 : v4 = _ := q4
          subst z4
          refine PartsV.elim q8 ?_
          intro A8 c8 z8 hp8
          subst z8
          simp only [putsA, Act.put, List.setIfInBounds_toArray, List.set_cons_zero, List.set_cons_succ]
          go_simp
          go_at_call 10
          refine (crcsum_at _ 1 _ [xt] c0 _ hp8 F0.out rfl (by omega)).mono ?_
          rintro e_r wn ⟨rfl, hbn⟩
          go_wp2_with fail
          have qI : Fix (v32 c0) (v32 c0) wn := rfl
          refine hK.out _ _ ⟨_, _, ?_, ?_, v3, (v32 cD), (.slice A8 1 c8), (v32 c0), v13, v14, v15, v19, v20, v21, v22, v23, v24, b3, true, true, true, b13, b14, b15, b19, b20, b21, b22, b23, b24, rfl, rfl, bel_on hbw' hbn, (fun e => (h3 e).below hbn), (fun _ => q4.below hbn), (fun _ => q8.below hbn), (fun _ => qI), (fun e => (h13 e).below hbn), (fun e => (h14 e).below hbn), (fun e => (h15 e).below hbn), (fun e => (h19 e).below hbn), (fun e => (h20 e).below hbn), (fun e => (h21 e).below hbn), (fun e => (h22 e).below hbn), (fun e => (h23 e).below hbn), (fun e => (h24 e).below hbn)⟩
          · simp only [setsB, List.setIfInBounds_toArray, List.set_cons_zero, List.set_cons_succ]
          · simp only [putsA, Act.put, List.setIfInBounds_toArray, List.set_cons_zero, List.set_cons_succ]
        refine StepsFrom.cons (k := 10) ?_ ?_
        · rintro _ _ wc ⟨_, _, rfl, rfl, v3, v4, v8, v9, v13, v14, v15, v19, v20, v21, v22, v23, v24, b3, b4, b8, b9, b13, b14, b15, b19, b20, b21, b22, b23, b24, rfl, rfl, hbw', h3, h4, h8, h9, h13, h14, h15, h19, h20, h21, h22, h23, h24⟩ hun
          simp [setsB] at hun
        refine StepsFrom.cons (k := 11) ?_ ?_
        · rintro _ _ wc ⟨_, _, rfl, rfl, v3, v4, v8, v9, v13, v14, v15, v19, v20, v21, v22, v23, v24, b3, b4, b8, b9, b13, b14, b15, b19, b20, b21, b22, b23, b24, rfl, rfl, hbw', h3, h4, h8, h9, h13, h14, h15, h19, h20, h21, h22, h23, h24⟩ hun
          simp [setsB] at hun
        refine StepsFrom.cons (k := 12) ?_ ?_
        · rintro _ _ wc ⟨_, _, rfl, rfl, v3, v4, v8, v9, v13, v14, v15, v19, v20, v21, v22, v23, v24, b3, b4, b8, b9, b13, b14, b15, b19, b20, b21, b22, b23, b24, rfl, rfl, hbw', h3, h4, h8, h9, h13, h14, h15, h19, h20, h21, h22, h23, h24⟩ hun
          simp [setsB] at hun
        refine StepsFrom.cons (k := 13) ?_ ?_
        · rintro _ _ wc ⟨_, _, rfl, rfl, v3, v4, v8, v9, v13, v14, v15, v19, v20, v21, v22, v23, v24, b3, b4, b8, b9, b13, b14, b15, b19, b20, b21, b22, b23, b24, rfl, rfl, hbw', h3, h4, h8, h9, h13, h14, h15, h19, h20, h21, h22, h23, h24⟩ hun hpre K hK
          simp only [setsB, List.setIfInBounds_toArray, List.set_cons_zero, List.set_cons_succ] at hpre
          clear hun hpre
          simp only [putsA, Act.put, List.setIfInBounds_toArray, List.set_cons_zero, List.set_cons_succ]
          go_simp
          have hbn := bel_alloc (Below.refl wc.heap.size wc) (Obj.cells #[.slice a1 k cap1] 22)
          have qI : PartsV (.slice (some ⟨wc.heap.size, 0, none⟩) 1 1) 1 [yt] (wc.alloc (Obj.cells #[.slice a1 k cap1] 22)) := PartsV.mk1 22 (C1.out.below hbw') T1.out hm0
          refine hK.out _ _ ⟨_, _, ?_, ?_, v3, v4, v8, v9, (.slice (some ⟨wc.heap.size, 0, none⟩) 1 1), v14, v15, v19, v20, v21, v22, v23, v24, b3, b4, b8, b9, true, b14, b15, b19, b20, b21, b22, b23, b24, rfl, rfl, bel_on hbw' hbn, (fun e => (h3 e).below hbn), (fun e => (h4 e).below hbn), (fun e => (h8 e).below hbn), (fun e => (h9 e).below hbn), (fun _ => qI), (fun e => (h14 e).below hbn), (fun e => (h15 e).below hbn), (fun e => (h19 e).below hbn), (fun e => (h20 e).below hbn), (fun e => (h21 e).below hbn), (fun e => (h22 e).below hbn), (fun e => (h23 e).below hbn), (fun e => (h24 e).below hbn)⟩
          · simp only [setsB, List.setIfInBounds_toArray, List.set_cons_zero, List.set_cons_succ]
          · simp only [putsA, Act.put, List.setIfInBounds_toArray, List.set_cons_zero, List.set_cons_succ]
        refine StepsFrom.cons (k := 14) ?_ ?_
        · rintro _ _ wc ⟨_, _, rfl, rfl, v3, v4, v8, v9, v13, v14, v15, v19, v20, v21, v22, v23, v24, b3, b4, b8, b9, b13, b14, b15, b19, b20, b21, b22, b23, b24, rfl, rfl, hbw', h3, h4, h8, h9, h13, h14, h15, h19, h20, h21, h22, h23, h24⟩ hun hpre K hK
          simp only [setsB, List.setIfInBounds_toArray, List.set_cons_zero, List.set_cons_succ] at hpre
          have p13 := hpre ⟨13, .data⟩ (by simp) rfl
          subst p13
          have p9 := hpre ⟨9, .chain⟩ (by simp) rfl
          subst p9
          clear hun hpre
          have q9 := h9 rfl
          clear h9
          have q13 := h13 rfl
          clear h13
          have z9 : v9 = _ := q9
          subst z9
          refine PartsV.elim q13 ?_
          intro A13 c13 z13 hp13
          subst z13
          simp only [putsA, Act.put, List.setIfInBounds_toArray, List.set_cons_zero, List.set_cons_succ]
          go_simp
          go_at_call 10
          refine (crcsum_at _ 1 _ [yt] c1 _ hp13 F1.out rfl (by omega)).mono ?_
          rintro e_r wn ⟨rfl, hbn⟩
          go_wp2_with fail
          have qI : Fix (v32 c1) (v32 c1) wn := rfl
          refine hK.out _ _ ⟨_, _, ?_, ?_, v3, v4, v8, (v32 c0), (.slice A13 1 c13), (v32 c1), v15, v19, v20, v21, v22, v23, v24, b3, b4, b8, true, true, true, b15, b19, b20, b21, b22, b23, b24, rfl, rfl, bel_on hbw' hbn, (fun e => (h3 e).below hbn), (fun e => (h4 e).below hbn), (fun e => (h8 e).below hbn), (fun _ => q9.below hbn), (fun _ => q13.below hbn), (fun _ => qI), (fun e => (h15 e).below hbn), (fun e => (h19 e).below hbn), (fun e => (h20 e).below hbn), (fun e => (h21 e).below hbn), (fun e => (h22 e).below hbn), (fun e => (h23 e).below hbn), (fun e => (h24 e).below hbn)⟩
          · simp only [setsB, List.setIfInBounds_toArray, List.set_cons_zero, List.set_cons_succ]
          · simp only [putsA, Act.put, List.setIfInBounds_toArray, List.set_cons_zero, List.set_cons_succ]
        refine StepsFrom.cons (k := 15) ?_ ?_
        · rintro _ _ wc ⟨_, _, rfl, rfl, v3, v4, v8, v9, v13, v14, v15, v19, v20, v21, v22, v23, v24, b3, b4, b8, b9, b13, b14, b15, b19, b20, b21, b22, b23, b24, rfl, rfl, hbw', h3, h4, h8, h9, h13, h14, h15, h19, h20, h21, h22, h23, h24⟩ hun hpre K hK
          simp only [setsB, List.setIfInBounds_toArray, List.set_cons_zero, List.set_cons_succ] at hpre
          have p9 := hpre ⟨9, .data⟩ (by simp) rfl
          subst p9
          have p14 := hpre ⟨14, .data⟩ (by simp) rfl
          subst p14
          clear hun hpre
          have q9 := h9 rfl
          clear h9
          have q14 := h14 rfl
          clear h14
          have z9 : v9 = _ := q9
          subst z9
          have z14 : v14 = _ := q14
          subst z14
          simp only [putsA, Act.put, List.setIfInBounds_toArray, List.set_cons_zero, List.set_cons_succ]
          go_simp
          refine hK.out _ _ ⟨_, _, ?_, ?_, v3, v4, v8, (v32 c0), v13, (v32 c1), (v32 c01), v19, v20, v21, v22, v23, v24, b3, b4, b8, true, b13, true, true, b19, b20, b21, b22, b23, b24, rfl, rfl, hbw', h3, h4, h8, (fun _ => q9), h13, (fun _ => q14), (fun _ => rfl), h19, h20, h21, h22, h23, h24⟩
          · simp only [setsB, List.setIfInBounds_toArray, List.set_cons_zero, List.set_cons_succ]
          · simp only [putsA, Act.put, List.setIfInBounds_toArray, List.set_cons_zero, List.set_cons_succ]
        refine StepsFrom.cons (k := 16) ?_ ?_
        · rintro _ _ wc ⟨_, _, rfl, rfl, v3, v4, v8, v9, v13, v14, v15, v19, v20, v21, v22, v23, v24, b3, b4, b8, b9, b13, b14, b15, b19, b20, b21, b22, b23, b24, rfl, rfl, hbw', h3, h4, h8, h9, h13, h14, h15, h19, h20, h21, h22, h23, h24⟩ hun
          simp [setsB] at hun
        refine StepsFrom.cons (k := 17) ?_ ?_
        · rintro _ _ wc ⟨_, _, rfl, rfl, v3, v4, v8, v9, v13, v14, v15, v19, v20, v21, v22, v23, v24, b3, b4, b8, b9, b13, b14, b15, b19, b20, b21, b22, b23, b24, rfl, rfl, hbw', h3, h4, h8, h9, h13, h14, h15, h19, h20, h21, h22, h23, h24⟩ hun
          simp [setsB] at hun
        refine StepsFrom.cons (k := 18) ?_ ?_
        · rintro _ _ wc ⟨_, _, rfl, rfl, v3, v4, v8, v9, v13, v14, v15, v19, v20, v21, v22, v23, v24, b3, b4, b8, b9, b13, b14, b15, b19, b20, b21, b22, b23, b24, rfl, rfl, hbw', h3, h4, h8, h9, h13, h14, h15, h19, h20, h21, h22, h23, h24⟩ hun
          simp [setsB] at hun
        refine StepsFrom.cons (k := 19) ?_ ?_
        · rintro _ _ wc ⟨_, _, rfl, rfl, v3, v4, v8, v9, v13, v14, v15, v19, v20, v21, v22, v23, v24, b3, b4, b8, b9, b13, b14, b15, b19, b20, b21, b22, b23, b24, rfl, rfl, hbw', h3, h4, h8, h9, h13, h14, h15, h19, h20, h21, h22, h23, h24⟩ hun hpre K hK
          simp only [setsB, List.setIfInBounds_toArray, List.set_cons_zero, List.set_cons_succ] at hpre
          clear hun hpre
          simp only [putsA, Act.put, List.setIfInBounds_toArray, List.set_cons_zero, List.set_cons_succ]
          go_simp
          have hbn := bel_alloc (Below.refl wc.heap.size wc) (Obj.cells #[.slice a2 k cap2] 22)
          have qI : PartsV (.slice (some ⟨wc.heap.size, 0, none⟩) 1 1) 1 [zt] (wc.alloc (Obj.cells #[.slice a2 k cap2] 22)) := PartsV.mk1 22 (C2.out.below hbw') T2.out hm0
          refine hK.out _ _ ⟨_, _, ?_, ?_, v3, v4, v8, v9, v13, v14, v15, (.slice (some ⟨wc.heap.size, 0, none⟩) 1 1), v20, v21, v22, v23, v24, b3, b4, b8, b9, b13, b14, b15, true, b20, b21, b22, b23, b24, rfl, rfl, bel_on hbw' hbn, (fun e => (h3 e).below hbn), (fun e => (h4 e).below hbn), (fun e => (h8 e).below hbn), (fun e => (h9 e).below hbn), (fun e => (h13 e).below hbn), (fun e => (h14 e).below hbn), (fun e => (h15 e).below hbn), (fun _ => qI), (fun e => (h20 e).below hbn), (fun e => (h21 e).below hbn), (fun e => (h22 e).below hbn), (fun e => (h23 e).below hbn), (fun e => (h24 e).below hbn)⟩
          · simp only [setsB, List.setIfInBounds_toArray, List.set_cons_zero, List.set_cons_succ]
          · simp only [putsA, Act.put, List.setIfInBounds_toArray, List.set_cons_zero, List.set_cons_succ]
        refine StepsFrom.cons (k := 20) ?_ ?_
        · rintro _ _ wc ⟨_, _, rfl, rfl, v3, v4, v8, v9, v13, v14, v15, v19, v20, v21, v22, v23, v24, b3, b4, b8, b9, b13, b14, b15, b19, b20, b21, b22, b23, b24, rfl, rfl, hbw', h3, h4, h8, h9, h13, h14, h15, h19, h20, h21, h22, h23, h24⟩ hun hpre K hK
          simp only [setsB, List.setIfInBounds_toArray, List.set_cons_zero, List.set_cons_succ] at hpre
          have p19 := hpre ⟨19, .data⟩ (by simp) rfl
          subst p19
          have p14 := hpre ⟨14, .chain⟩ (by simp) rfl
          subst p14
          clear hun hpre
          have q14 := h14 rfl
          clear h14
          have q19 := h19 rfl
          clear h19
          have z14 : v14 = _ := q14
          subst z14
          refine PartsV.elim q19 ?_
          intro A19 c19 z19 hp19
          subst z19
          simp only [putsA, Act.put, List.setIfInBounds_toArray, List.set_cons_zero, List.set_cons_succ]
          go_simp
          go_at_call 10
          refine (crcsum_at _ 1 _ [zt] c2 _ hp19 F2.out rfl (by omega)).mono ?_
          rintro e_r wn ⟨rfl, hbn⟩
          go_wp2_with fail
          have qI : Fix (v32 c2) (v32 c2) wn := rfl
          refine hK.out _ _ ⟨_, _, ?_, ?_, v3, v4, v8, v9, v13, (v32 c1), v15, (.slice A19 1 c19), (v32 c2), v21, v22, v23, v24, b3, b4, b8, b9, b13, true, b15, true, true, b21, b22, b23, b24, rfl, rfl, bel_on hbw' hbn, (fun e => (h3 e).below hbn), (fun e => (h4 e).below hbn), (fun e => (h8 e).below hbn), (fun e => (h9 e).below hbn), (fun e => (h13 e).below hbn), (fun _ => q14.below hbn), (fun e => (h15 e).below hbn), (fun _ => q19.below hbn), (fun _ => qI), (fun e => (h21 e).below hbn), (fun e => (h22 e).below hbn), (fun e => (h23 e).below hbn), (fun e => (h24 e).below hbn)⟩
          · simp only [setsB, List.setIfInBounds_toArray, List.set_cons_zero, List.set_cons_succ]
          · simp only [putsA, Act.put, List.setIfInBounds_toArray, List.set_cons_zero, List.set_cons_succ]
        refine StepsFrom.cons (k := 21) ?_ ?_
        · rintro _ _ wc ⟨_, _, rfl, rfl, v3, v4, v8, v9, v13, v14, v15, v19, v20, v21, v22, v23, v24, b3, b4, b8, b9, b13, b14, b15, b19, b20, b21, b22, b23, b24, rfl, rfl, hbw', h3, h4, h8, h9, h13, h14, h15, h19, h20, h21, h22, h23, h24⟩ hun hpre K hK
          simp only [setsB, List.setIfInBounds_toArray, List.set_cons_zero, List.set_cons_succ] at hpre
          have p15 := hpre ⟨15, .data⟩ (by simp) rfl
          subst p15
          have p20 := hpre ⟨20, .data⟩ (by simp) rfl
          subst p20
          clear hun hpre
          have q15 := h15 rfl
          clear h15
          have q20 := h20 rfl
          clear h20
          have z15 : v15 = _ := q15
          subst z15
          have z20 : v20 = _ := q20
          subst z20
          simp only [putsA, Act.put, List.setIfInBounds_toArray, List.set_cons_zero, List.set_cons_succ]
          go_simp
          refine hK.out _ _ ⟨_, _, ?_, ?_, v3, v4, v8, v9, v13, v14, (v32 c01), v19, (v32 c2), (v32 cD), v22, v23, v24, b3, b4, b8, b9, b13, b14, true, b19, true, true, b22, b23, b24, rfl, rfl, hbw', h3, h4, h8, h9, h13, h14, (fun _ => q15), h19, (fun _ => q20), (fun _ => rfl), h22, h23, h24⟩
          · simp only [setsB, List.setIfInBounds_toArray, List.set_cons_zero, List.set_cons_succ]
          · simp only [putsA, Act.put, List.setIfInBounds_toArray, List.set_cons_zero, List.set_cons_succ]
        refine StepsFrom.cons (k := 22) ?_ ?_
        · rintro _ _ wc ⟨_, _, rfl, rfl, v3, v4, v8, v9, v13, v14, v15, v19, v20, v21, v22, v23, v24, b3, b4, b8, b9, b13, b14, b15, b19, b20, b21, b22, b23, b24, rfl, rfl, hbw', h3, h4, h8, h9, h13, h14, h15, h19, h20, h21, h22, h23, h24⟩ hun hpre K hK
          simp only [setsB, List.setIfInBounds_toArray, List.set_cons_zero, List.set_cons_succ] at hpre
          have p4 := hpre ⟨4, .data⟩ (by simp) rfl
          subst p4
          have p21 := hpre ⟨21, .data⟩ (by simp) rfl
          subst p21
          clear hun hpre
          have q4 := h4 rfl
          clear h4
          have q21 := h21 rfl
          clear h21
          have z4 : v4 = _ := q4
          subst z4
          have z21 : v21 = _ := q21
          subst z21
          simp only [putsA, Act.put, List.setIfInBounds_toArray, List.set_cons_zero, List.set_cons_succ]
          go_simp
          refine hK.out _ _ ⟨_, _, ?_, ?_, v3, (v32 cD), v8, v9, v13, v14, v15, v19, v20, (v32 cD), (.bool true), v23, v24, b3, true, b8, b9, b13, b14, b15, b19, b20, true, true, b23, b24, rfl, rfl, hbw', h3, (fun _ => q4), h8, h9, h13, h14, h15, h19, h20, (fun _ => q21), (fun _ => rfl), h23, h24⟩
          · simp only [setsB, List.setIfInBounds_toArray, List.set_cons_zero, List.set_cons_succ]
          · simp only [putsA, Act.put, List.setIfInBounds_toArray, List.set_cons_zero, List.set_cons_succ]
        refine StepsFrom.cons (k := 23) ?_ ?_
        · rintro _ _ wc ⟨_, _, rfl, rfl, v3, v4, v8, v9, v13, v14, v15, v19, v20, v21, v22, v23, v24, b3, b4, b8, b9, b13, b14, b15, b19, b20, b21, b22, b23, b24, rfl, rfl, hbw', h3, h4, h8, h9, h13, h14, h15, h19, h20, h21, h22, h23, h24⟩ hun hpre K hK
          simp only [setsB, List.setIfInBounds_toArray, List.set_cons_zero, List.set_cons_succ] at hpre
          have p22 := hpre ⟨22, .data⟩ (by simp) rfl
          subst p22
          clear hun hpre
          have q22 := h22 rfl
          clear h22
          have z22 : v22 = _ := q22
          subst z22
          simp only [putsA, Act.put, List.setIfInBounds_toArray, List.set_cons_zero, List.set_cons_succ]
          go_simp
          refine hK.out _ _ ⟨_, _, ?_, ?_, v3, v4, v8, v9, v13, v14, v15, v19, v20, v21, (.bool true), (.bool true), v24, b3, b4, b8, b9, b13, b14, b15, b19, b20, b21, true, true, b24, rfl, rfl, hbw', h3, h4, h8, h9, h13, h14, h15, h19, h20, h21, (fun _ => q22), (fun _ => rfl), h24⟩
          · simp only [setsB, List.setIfInBounds_toArray, List.set_cons_zero, List.set_cons_succ]
          · simp only [putsA, Act.put, List.setIfInBounds_toArray, List.set_cons_zero, List.set_cons_succ]
        refine StepsFrom.cons (k := 24) ?_ ?_
        · rintro _ _ wc ⟨_, _, rfl, rfl, v3, v4, v8, v9, v13, v14, v15, v19, v20, v21, v22, v23, v24, b3, b4, b8, b9, b13, b14, b15, b19, b20, b21, b22, b23, b24, rfl, rfl, hbw', h3, h4, h8, h9, h13, h14, h15, h19, h20, h21, h22, h23, h24⟩ hun hpre K hK
          simp only [setsB, List.setIfInBounds_toArray, List.set_cons_zero, List.set_cons_succ] at hpre
          have p23 := hpre ⟨23, .data⟩ (by simp) rfl
          subst p23
          have p20 := hpre ⟨20, .chain⟩ (by simp) rfl
          subst p20
          have p3 := hpre ⟨3, .phase⟩ (by simp) rfl
          subst p3
          have p4 := hpre ⟨4, .phase⟩ (by simp) rfl
          subst p4
          have p8 := hpre ⟨8, .phase⟩ (by simp) rfl
          subst p8
          have p9 := hpre ⟨9, .phase⟩ (by simp) rfl
          subst p9
          have p13 := hpre ⟨13, .phase⟩ (by simp) rfl
          subst p13
          have p14 := hpre ⟨14, .phase⟩ (by simp) rfl
          subst p14
          have p15 := hpre ⟨15, .phase⟩ (by simp) rfl
          subst p15
          have p19 := hpre ⟨19, .phase⟩ (by simp) rfl
          subst p19
          have p21 := hpre ⟨21, .phase⟩ (by simp) rfl
          subst p21
          have p22 := hpre ⟨22, .phase⟩ (by simp) rfl
          subst p22
          clear hun hpre
          have q3 := h3 rfl
          clear h3
          have q4 := h4 rfl
          clear h4
          have q8 := h8 rfl
          clear h8
          have q9 := h9 rfl
          clear h9
          have q13 := h13 rfl
          clear h13
          have q14 := h14 rfl
          clear h14
          have q15 := h15 rfl
          clear h15
          have q19 := h19 rfl
          clear h19
          have q20 := h20 rfl
          clear h20
          have q21 := h21 rfl
          clear h21
          have q22 := h22 rfl
          clear h22
          have q23 := h23 rfl
          clear h23
          refine PartsV.elim q3 ?_
          intro A3 c3 z3 hp3
          subst z3
          have z4 : v4 = _ := q4
          subst z4
          refine PartsV.elim q8 ?_
          intro A8 c8 z8 hp8
          subst z8
          have z9 : v9 = _ := q9
          subst z9
          refine PartsV.elim q13 ?_
          intro A13 c13 z13 hp13
          subst z13
          have z14 : v14 = _ := q14
          subst z14
          have z15 : v15 = _ := q15
          subst z15
          refine PartsV.elim q19 ?_
          intro A19 c19 z19 hp19
          subst z19
          have z20 : v20 = _ := q20
          subst z20
          have z21 : v21 = _ := q21
          subst z21
          have z22 : v22 = _ := q22
          subst z22
          have z23 : v23 = _ := q23
          subst z23
          simp only [putsA, Act.put, List.setIfInBounds_toArray, List.set_cons_zero, List.set_cons_succ]
          go_simp
          refine hK.out _ _ ⟨_, _, ?_, ?_, (.slice A3 1 c3), (v32 cD), (.slice A8 1 c8), (v32 c0), (.slice A13 1 c13), (v32 c1), (v32 c01), (.slice A19 1 c19), (v32 c2), (v32 cD), (.bool true), (.bool true), (.bool true), true, true, true, true, true, true, true, true, true, true, true, true, true, rfl, rfl, hbw', (fun _ => q3), (fun _ => q4), (fun _ => q8), (fun _ => q9), (fun _ => q13), (fun _ => q14), (fun _ => q15), (fun _ => q19), (fun _ => q20), (fun _ => q21), (fun _ => q22), (fun _ => q23), (fun _ => rfl)⟩
          · simp only [setsB, List.setIfInBounds_toArray, List.set_cons_zero, List.set_cons_succ]
          · simp only [putsA, Act.put, List.setIfInBounds_toArray, List.set_cons_zero, List.set_cons_succ]
        exact StepsFrom.nil
      clear hHeld
      rintro _ _ wc ⟨_, _, rfl, rfl, v3, v4, v8, v9, v13, v14, v15, v19, v20, v21, v22, v23, v24, b3, b4, b8, b9, b13, b14, b15, b19, b20, b21, b22, b23, b24, rfl, rfl, hbw', h3, h4, h8, h9, h13, h14, h15, h19, h20, h21, h22, h23, h24⟩ hr
      simp only [setsB, List.setIfInBounds_toArray, List.set_cons_zero, List.set_cons_succ] at hr
      have u3 : b3 = true := all_up hr 3 rfl (by simp [Region.binds])
      subst u3
      have u4 : b4 = true := all_up hr 4 rfl (by simp [Region.binds])
      subst u4
      have u8 : b8 = true := all_up hr 8 rfl (by simp [Region.binds])
      subst u8
      have u9 : b9 = true := all_up hr 9 rfl (by simp [Region.binds])
      subst u9
      have u13 : b13 = true := all_up hr 13 rfl (by simp [Region.binds])
      subst u13
      have u14 : b14 = true := all_up hr 14 rfl (by simp [Region.binds])
      subst u14
      have u15 : b15 = true := all_up hr 15 rfl (by simp [Region.binds])
      subst u15
      have u19 : b19 = true := all_up hr 19 rfl (by simp [Region.binds])
      subst u19
      have u20 : b20 = true := all_up hr 20 rfl (by simp [Region.binds])
      subst u20
      have u21 : b21 = true := all_up hr 21 rfl (by simp [Region.binds])
      subst u21
      have u22 : b22 = true := all_up hr 22 rfl (by simp [Region.binds])
      subst u22
      have u23 : b23 = true := all_up hr 23 rfl (by simp [Region.binds])
      subst u23
      have u24 : b24 = true := all_up hr 24 rfl (by simp [Region.binds])
      subst u24
      have q3 := h3 rfl
      refine PartsV.elim q3 ?_
      intro A3 c3 z3 _
      subst z3
      have q4 := h4 rfl
      have z4 : v4 = _ := q4
      subst z4
      have q8 := h8 rfl
      refine PartsV.elim q8 ?_
      intro A8 c8 z8 _
      subst z8
      have q9 := h9 rfl
      have z9 : v9 = _ := q9
      subst z9
      have q13 := h13 rfl
      refine PartsV.elim q13 ?_
      intro A13 c13 z13 _
      subst z13
      have q14 := h14 rfl
      have z14 : v14 = _ := q14
      subst z14
      have q15 := h15 rfl
      have z15 : v15 = _ := q15
      subst z15
      have q19 := h19 rfl
      refine PartsV.elim q19 ?_
      intro A19 c19 z19 _
      subst z19
      have q20 := h20 rfl
      have z20 : v20 = _ := q20
      subst z20
      have q21 := h21 rfl
      have z21 : v21 = _ := q21
      subst z21
      have q22 := h22 rfl
      have z22 : v22 = _ := q22
      subst z22
      have q23 := h23 rfl
      have z23 : v23 = _ := q23
      subst z23
      have q24 := h24 rfl
      have z24 : v24 = _ := q24
      subst z24
      clear hr h3 h4 h8 h9 h13 h14 h15 h19 h20 h21 h22 h23 h24
      simp only [putsA, Act.put, List.setIfInBounds_toArray, List.set_cons_zero, List.set_cons_succ]
      refine NoPanic.normal ?_
      go_wp2
      go_ret
      exact ⟨rfl, bel_on (bel_on hb1 hbw) hbw'⟩

theorem crcThree_walk (a0 : Option Addr) (len0 cap0 : Nat) (z0 : List Int) (a1 : Option Addr) (len1 cap1 : Nat) (z1 : List Int) (a2 : Option Addr) (len2 cap2 : Nat) (z2 : List Int) (w : World) (r0 : IsRow .u8 w a0 len0 cap0 z0) (r1 : IsRow .u8 w a1 len1 cap1 z1) (r2 : IsRow .u8 w a2 len2 cap2 z2) :
    Calls Try.prog 7 #[.slice a0 len0 cap0, .slice a1 len1 cap1, .slice a2 len2 cap2] w fun e w' => e = .returned (.bool true) ∧ Below w.heap.size w w' := by
  by_cases g : 300 < min (min len0 len1) len2
  · exact crcThree_long _ _ _ _ _ _ _ _ _ w _ rfl g
  · obtain ⟨xs, l0, s0, _⟩ := bytes_of_row r0
    obtain ⟨ys, l1, s1, _⟩ := bytes_of_row r1
    obtain ⟨zs, l2, s2, _⟩ := bytes_of_row r2
    exact crcThree_short _ _ _ xs _ _ _ ys _ _ _ zs w s0 s1 s2 l0 l1 l2 (bytes_caps r0) (bytes_caps r1) (bytes_caps r2) _ rfl (by omega)
end Go.Proofs.Ytjhjhkhnkfckeaa
