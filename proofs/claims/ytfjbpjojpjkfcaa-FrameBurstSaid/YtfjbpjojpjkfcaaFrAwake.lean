/-
  The calls whose answers the document fixes, at the head of layer 6's laws.
-/
import Derived.Test.YtfjbpjojpjkfcaaFrA
import Derived.Test.YtfjbpjojpjkfcaaFrE
import Derived.Test.YtfjbpjojpjkfcaaByOld
import Derived.Test.YtfjbpjojpjkfcaaByStr
import Derived.Test.YtfjbpjojpjkfcaaPkRef
import Derived.Test.YtfjbpjojpjkfcaaOrders
import Derived.Lib.SlBytesConst
import Derived.RegionTactic
namespace Go.Proofs.Ytfjbpjojpjkfcaa
open Go.RowKit
set_option linter.unusedVariables false
set_option linter.unusedSimpArgs false

theorem aw6_frame : frameB [97#8, 98#8] = [1#8, 2#8, 97#8, 98#8, 150#8, 237#8, 142#8, 201#8] := by decide +kernel
theorem aw6_take : takeF ([1#8, 2#8, 97#8, 98#8, 150#8, 237#8, 142#8, 201#8] ++ [7#8]) = some ([97#8, 98#8], [7#8]) := by
  rw [← aw6_frame]
  exact frame_back (by decide) _
theorem aw6_all : allF ([1#8, 2#8, 97#8, 98#8, 150#8, 237#8, 142#8, 201#8] ++ [1#8, 2#8, 97#8, 98#8, 150#8, 237#8, 142#8, 201#8]) = ([[97#8, 98#8], [97#8, 98#8]], 16) := by
  have h := all_back [[97#8, 98#8], [97#8, 98#8]] (by decide) []
  have e : framesB [[97#8, 98#8], [97#8, 98#8]] ++ [] = [1#8, 2#8, 97#8, 98#8, 150#8, 237#8, 142#8, 201#8] ++ [1#8, 2#8, 97#8, 98#8, 150#8, 237#8, 142#8, 201#8] := by
    unfold framesB
    simp [aw6_frame]
  have hn : allF [] = ([], 0) := all_none (by decide +kernel)
  rw [e, hn] at h
  rw [h]
  decide +kernel
theorem aw6_bad : takeF [0#8, 0#8, 0#8, 0#8, 0#8] = none := by decide +kernel
theorem aw6_sum : bytesB (sumB [1#8, 2#8, 97#8, 98#8]) = [150#8, 237#8, 142#8, 201#8] := by decide +kernel
/-- A text of bytes that a block just laid holds, frozen behind. -/
theorem sl_const6 (w : World) (l : List (BitVec 8)) (t : TypeId) (fr : Nat × Nat) (n c : Nat) (hn : l.length = n) : Sl 1 (w.alloc (.cells (bytesV l).toArray t fr)) (some ⟨w.heap.size, 0, none⟩) n c (bytesV l) := by
  subst hn
  refine ⟨by rw [bytesV_len]; omega, .inr ⟨_, rfl, fun j u hu => ?_⟩⟩
  rw [by_add_none, Nat.zero_add, cell_of_row _ _ j _ t fr (heap_alloc_new w _)]
  simpa using hu
set_option maxHeartbeats 2000000 in
set_option maxRecDepth 100000 in
theorem awake6 (w : World) : Calls Try.prog 8 #[] w fun e w' => e = .returned (.bool true) ∧ Below w.heap.size w w' := by
  have kc := fun (w : World) (C : Array Value) (n c : Nat) => Lib.run_convert_bytes_const (P := Try.prog) w 22 5 C n c Try.underlying22 Try.underlying5
  go_enter Try.func8, Try.ntmps8
  go_wp2_with fail
  refine (fput_ok _ 0 _ [] _ 2 _ [97#8, 98#8] _ Sl.nil_ (Nat.le_refl 0) (sl_const6 w [97#8, 98#8] 5 _ 2 2 rfl) (by omega) (by omega)).mono ?_
  rintro e w1 ⟨A1, c1, rfl, r1, b1⟩
  rw [aw6_frame]
  rw [aw6_frame, List.nil_append] at r1
  replace b1 := bel_on (bel_alloc (Below.refl w.heap.size w) _) b1
  replace r1 := r1.mono (b := w.heap.size) (by simp)
  have hc1 := r1.cap_le (n := 8) rfl
  -- append(b, 7)
  obtain ⟨A2, c2, w2, hr2, r2, hbel2, hsz2⟩ := brow_push r1 7#8 (by decide) b1.size (s := w1.heap.size) rfl
  have s1 : Sl 1 w2 A1 8 c1 (bytesV [1#8, 2#8, 97#8, 98#8, 150#8, 237#8, 142#8, 201#8]) := brow_append_old (r1.alloc (.cells #[v8 7#8] 5)) (ys := [7#8]) (sl_byte w1 5 7#8 rfl) (by decide) (by decide) hr2 r2
  have b2 := hbel2 w (Nat.le_refl _) b1
  have hc2 := r2.cap_le (n := 9) rfl
  have HR2 : Hid ((Builtin.append_ #[22, 22] 22 #[.slice A1 8 c1, .slice (some ⟨w1.heap.size, 0, none⟩) 1 1]).run Try.prog (w1.alloc (.cells #[.int .u8 7] 5)) = .ok (.slice A2 9 c2) w2) := hr2
  have S1 := Lib.hid s1
  have S2 := Lib.hid (r2.slAt (n := 9) rfl)
  clear hr2 hbel2 s1 r1 r2
  go_wp2_with (at_builtin; refine wpList_append_run (o := ⟨some 21, _, _, _, _, _⟩) HR2.out rfl rfl rfl rfl ?_)
  refine (ftake_some A2 9 c2 _ _ _ _ S2.out hc2 (by omega) aw6_take).mono ?_
  rintro e w3 ⟨A3, c3, A4, c4, rfl, r3, r4, b3⟩
  replace S1 := Lib.hid (S1.out.below b3)
  have R3 := Lib.hid (r3.slAt (n := 2) rfl)
  have R4 := Lib.hid (r4.slAt (n := 1) rfl)
  replace b3 := bel_on b2 b3
  clear b1 b2 S2 HR2 r3 r4
  -- append(append([]byte{}, b...), b...)
  obtain ⟨A5, c5, w5, hr5, r5, b5, hz5⟩ := brow_copy w3 S1.out (by omega)
  obtain ⟨A6, c6, w6, hr6, r6, hbel6, hsz6⟩ := brow_append r5 (d := c1) (ys := [1#8, 2#8, 97#8, 98#8, 150#8, 237#8, 142#8, 201#8]) (S1.out.below b5) (by decide) hz5
  have b6 := hbel6 w3 (Nat.le_refl _) b5
  have hc6 := r6.cap_le (n := 16) rfl
  have HR5 := Lib.hid hr5
  have HR6 : Hid ((Builtin.append_ #[22, 22] 22 #[.slice A5 8 c5, .slice A1 8 c1]).run Try.prog w5 = .ok (.slice A6 16 c6) w6) := hr6
  have S6 := Lib.hid (r6.slAt (n := 16) rfl)
  clear hr5 hr6 hbel6 r5 r6 hsz6
  go_wp2_with (first | (at_builtin; refine wpList_append_run (o := ⟨some 29, _, _, _, _, _⟩) HR5.out rfl rfl rfl rfl ?_) | (at_builtin; refine wpList_append_run (o := ⟨some 31, _, _, _, _, _⟩) HR6.out rfl rfl rfl rfl ?_))
  refine (fall_any A6 16 c6 _ _ S6.out hc6 (by omega)).mono ?_
  rintro e w7 ⟨D7, d7, rfl, _, b7⟩
  rw [aw6_all]
  replace b6 := bel_on b6 b7
  replace S1 := Lib.hid (S1.out.below b6)
  replace R3 := Lib.hid (R3.out.below b6)
  replace R4 := Lib.hid (R4.out.below b6)
  replace b6 := bel_on b3 b6
  clear b3 b5 b7 S6 HR5 HR6
  -- five zeros
  go_wp2_with fail
  refine (ftake_none _ 5 _ [0#8, 0#8, 0#8, 0#8, 0#8] _ (sl_new w7 5 [0#8, 0#8, 0#8, 0#8, 0#8] rfl rfl) (Nat.le_refl 5) (by omega) aw6_bad).mono ?_
  rintro e w8 ⟨rfl, b8⟩
  replace b8 := bel_on (bel_alloc (Below.refl w7.heap.size w7) _) b8
  replace S1 := Lib.hid (S1.out.below b8)
  replace R3 := Lib.hid (R3.out.below b8)
  replace R4 := Lib.hid (R4.out.below b8)
  replace b8 := bel_on b6 b8
  clear b6
  -- the sum
  go_wp2_with fail
  refine (crcsum_at _ 1 _ [[1#8, 2#8, 97#8, 98#8]] (sumB [1#8, 2#8, 97#8, 98#8]) _ (parts_one 22 (byts_of_sl (sl_const6 w8 [1#8, 2#8, 97#8, 98#8] 5 _ 4 4 rfl)) rfl (by decide) (by simp)) (congrArg sumB (flat_one _)) rfl (by omega)).mono ?_
  rintro e w9 ⟨rfl, b9⟩
  replace b9 := bel_on (bel_alloc (bel_alloc (Below.refl w8.heap.size w8) _) _) b9
  go_wp2_with fail
  refine (crcbytes_any (sumB [1#8, 2#8, 97#8, 98#8]) _).mono ?_
  rintro e w10 ⟨rfl, b10⟩
  replace b10 := bel_on b9 b10
  clear b9 kc
  go_wp2_with (refine wpList_laid4 (sumB [1#8, 2#8, 97#8, 98#8]) _ _ rfl rfl rfl rfl rfl ?_)
  have HH := laid4_has w10 (sumB [1#8, 2#8, 97#8, 98#8])
  have b11 := laid4_below (sumB [1#8, 2#8, 97#8, 98#8]) b10
  clear b10
  generalize laid4 w10 (sumB [1#8, 2#8, 97#8, 98#8]) = W at *
  generalize w10.heap.size = g at *
  rw [aw6_sum] at HH
  have S9 : Hid (Sl 1 W (some ⟨g, 0, none⟩) 4 4 (bytesV [150#8, 237#8, 142#8, 201#8])) := sl_of_has HH
  replace S1 := Lib.hid (S1.out.below b11)
  replace R3 := Lib.hid (R3.out.below b11)
  replace R4 := Lib.hid (R4.out.below b11)
  have hbz := bel_on b8 b11
  clear b8 b11 HH
  refine wp_region_noPanic ?_
  refine wp_region_held_drew (S := fun w' => Below W.heap.size W w') (by kernel_rfl) (below_drew (Below.refl _ _)) (fun hHeld => ?_)
  refine wpAnyH_take (i := 0) (oi := ⟨some 46, _, _, _, _, _⟩) (v := ?_) rfl (by kernel_rfl) (by kernel_rfl) (by kernel_rfl) (fun _ _ _ h => h) (Or.inl ⟨by rfl, ?_⟩) hHeld ?_
  rotate_left
  · intro ww hSw
    (try dsimp only at hSw)
    go_simp
    (try with_reducible rfl)
  simp only [Act.put, List.setIfInBounds_toArray, List.set_cons_zero, List.set_cons_succ]
  refine wpAnyH_take (i := 1) (oi := ⟨some 47, _, _, _, _, _⟩) (v := .string ⟨#[1, 2, 97, 98, 150, 237, 142, 201]⟩) rfl (by kernel_rfl) (by kernel_rfl) (by kernel_rfl) (fun _ _ _ h => h) (Or.inl ⟨by rfl, ?_⟩) hHeld ?_
  · intro ww hSw
    (try dsimp only at hSw)
    have hcv : (convert 22 9 (.slice A1 8 c1)).run Try.prog ww = .ok (.string ⟨#[1, 2, 97, 98, 150, 237, 142, 201]⟩) ww := conv_sl (S1.out.below hSw)
    go_simp
  simp only [Act.put, List.setIfInBounds_toArray, List.set_cons_zero, List.set_cons_succ]
  refine wpAnyH_take (i := 2) (oi := ⟨some 48, _, _, _, _, _⟩) (v := ?_) rfl (by kernel_rfl) (by kernel_rfl) (by kernel_rfl) (fun _ _ _ h => h) (Or.inl ⟨by rfl, ?_⟩) hHeld ?_
  rotate_left
  · intro ww hSw
    (try dsimp only at hSw)
    go_simp
    (try with_reducible rfl)
  simp only [Act.put, List.setIfInBounds_toArray, List.set_cons_zero, List.set_cons_succ]
  refine wpAnyH_take (i := 3) (oi := ⟨some 49, _, _, _, _, _⟩) (v := .string ⟨#[150, 237, 142, 201]⟩) rfl (by kernel_rfl) (by kernel_rfl) (by kernel_rfl) (fun _ _ _ h => h) (Or.inl ⟨by rfl, ?_⟩) hHeld ?_
  · intro ww hSw
    (try dsimp only at hSw)
    have hcv : (convert 22 9 (.slice (some ⟨g, 0, none⟩) 4 4)).run Try.prog ww = .ok (.string ⟨#[150, 237, 142, 201]⟩) ww := conv_sl (S9.out.below hSw)
    go_simp
  simp only [Act.put, List.setIfInBounds_toArray, List.set_cons_zero, List.set_cons_succ]
  refine wpAnyH_take (i := 4) (oi := ⟨some 50, _, _, _, _, _⟩) (v := .string ⟨#[1, 2, 97, 98, 150, 237, 142, 201]⟩) rfl (by kernel_rfl) (by kernel_rfl) (by kernel_rfl) (fun _ _ _ h => h) (Or.inl ⟨by rfl, ?_⟩) hHeld ?_
  · intro ww hSw
    (try dsimp only at hSw)
    go_simp
    (try rfl)
  simp only [Act.put, List.setIfInBounds_toArray, List.set_cons_zero, List.set_cons_succ]
  refine wpAnyH_take (i := 5) (oi := ⟨some 51, _, _, _, _, _⟩) (v := .bool true) rfl (by kernel_rfl) (by kernel_rfl) (by kernel_rfl) (fun _ _ _ h => h) (Or.inl ⟨by rfl, ?_⟩) hHeld ?_
  · intro ww hSw
    (try dsimp only at hSw)
    go_simp
    (try rfl)
  simp only [Act.put, List.setIfInBounds_toArray, List.set_cons_zero, List.set_cons_succ]
  refine wpAnyH_take (i := 6) (oi := ⟨some 52, _, _, _, _, _⟩) (v := ?_) rfl (by kernel_rfl) (by kernel_rfl) (by kernel_rfl) (fun _ _ _ h => h) (Or.inl ⟨by rfl, ?_⟩) hHeld ?_
  rotate_left
  · intro ww hSw
    (try dsimp only at hSw)
    go_simp
    (try with_reducible rfl)
  simp only [Act.put, List.setIfInBounds_toArray, List.set_cons_zero, List.set_cons_succ]
  refine wpAnyH_take (i := 7) (oi := ⟨some 53, _, _, _, _, _⟩) (v := ?_) rfl (by kernel_rfl) (by kernel_rfl) (by kernel_rfl) (fun _ _ _ h => h) (Or.inl ⟨by rfl, ?_⟩) hHeld ?_
  rotate_left
  · intro ww hSw
    (try dsimp only at hSw)
    go_simp
    (try with_reducible rfl)
  simp only [Act.put, List.setIfInBounds_toArray, List.set_cons_zero, List.set_cons_succ]
  refine wpAnyH_take (i := 8) (oi := ⟨some 54, _, _, _, _, _⟩) (v := ?_) rfl (by kernel_rfl) (by kernel_rfl) (by kernel_rfl) (fun _ _ _ h => h) (Or.inl ⟨by rfl, ?_⟩) hHeld ?_
  rotate_left
  · intro ww hSw
    (try dsimp only at hSw)
    go_simp
    (try with_reducible rfl)
  simp only [Act.put, List.setIfInBounds_toArray, List.set_cons_zero, List.set_cons_succ]
  refine wpAnyH_take (i := 9) (oi := ⟨some 55, _, _, _, _, _⟩) (v := ?_) rfl (by kernel_rfl) (by kernel_rfl) (by kernel_rfl) (fun _ _ _ h => h) (Or.inl ⟨by rfl, ?_⟩) hHeld ?_
  rotate_left
  · intro ww hSw
    (try dsimp only at hSw)
    go_simp
    (try with_reducible rfl)
  simp only [Act.put, List.setIfInBounds_toArray, List.set_cons_zero, List.set_cons_succ]
  refine wpAnyH_take (i := 10) (oi := ⟨some 56, _, _, _, _, _⟩) (v := ?_) rfl (by kernel_rfl) (by kernel_rfl) (by kernel_rfl) (fun _ _ _ h => h) (Or.inl ⟨by rfl, ?_⟩) hHeld ?_
  rotate_left
  · intro ww hSw
    (try dsimp only at hSw)
    go_simp
    (try with_reducible rfl)
  simp only [Act.put, List.setIfInBounds_toArray, List.set_cons_zero, List.set_cons_succ]
  refine wpAnyH_take (i := 11) (oi := ⟨some 57, _, _, _, _, _⟩) (v := ?_) rfl (by kernel_rfl) (by kernel_rfl) (by kernel_rfl) (fun _ _ _ h => h) (Or.inl ⟨by rfl, ?_⟩) hHeld ?_
  rotate_left
  · intro ww hSw
    (try dsimp only at hSw)
    go_simp
    (try with_reducible rfl)
  simp only [Act.put, List.setIfInBounds_toArray, List.set_cons_zero, List.set_cons_succ]
  refine wpAnyH_take (i := 12) (oi := ⟨some 58, _, _, _, _, _⟩) (v := .string ⟨#[97, 98]⟩) rfl (by kernel_rfl) (by kernel_rfl) (by kernel_rfl) (fun _ _ _ h => h) (Or.inl ⟨by rfl, ?_⟩) hHeld ?_
  · intro ww hSw
    (try dsimp only at hSw)
    have hcv : (convert 22 9 (.slice A3 2 c3)).run Try.prog ww = .ok (.string ⟨#[97, 98]⟩) ww := conv_sl (R3.out.below hSw)
    go_simp
  simp only [Act.put, List.setIfInBounds_toArray, List.set_cons_zero, List.set_cons_succ]
  refine wpAnyH_take (i := 13) (oi := ⟨some 59, _, _, _, _, _⟩) (v := ?_) rfl (by kernel_rfl) (by kernel_rfl) (by kernel_rfl) (fun _ _ _ h => h) (Or.inl ⟨by rfl, ?_⟩) hHeld ?_
  rotate_left
  · intro ww hSw
    (try dsimp only at hSw)
    go_simp
    (try with_reducible rfl)
  simp only [Act.put, List.setIfInBounds_toArray, List.set_cons_zero, List.set_cons_succ]
  refine wpAnyH_take (i := 14) (oi := ⟨some 60, _, _, _, _, _⟩) (v := ?_) rfl (by kernel_rfl) (by kernel_rfl) (by kernel_rfl) (fun _ _ _ h => h) (Or.inl ⟨by rfl, ?_⟩) hHeld ?_
  rotate_left
  · intro ww hSw
    (try dsimp only at hSw)
    go_simp
    (try with_reducible rfl)
  simp only [Act.put, List.setIfInBounds_toArray, List.set_cons_zero, List.set_cons_succ]
  refine wpAnyH_take (i := 15) (oi := ⟨some 61, _, _, _, _, _⟩) (v := ?_) rfl (by kernel_rfl) (by kernel_rfl) (by kernel_rfl) (fun _ _ _ h => h) (Or.inl ⟨by rfl, ?_⟩) hHeld ?_
  rotate_left
  · intro ww hSw
    (try dsimp only at hSw)
    go_simp
    (try with_reducible rfl)
  simp only [Act.put, List.setIfInBounds_toArray, List.set_cons_zero, List.set_cons_succ]
  refine wpAnyH_take (i := 16) (oi := ⟨some 62, _, _, _, _, _⟩) (v := ?_) rfl (by kernel_rfl) (by kernel_rfl) (by kernel_rfl) (fun _ _ _ h => h) (Or.inl ⟨by rfl, ?_⟩) hHeld ?_
  rotate_left
  · intro ww hSw
    (try dsimp only at hSw)
    go_simp
    (try with_reducible rfl)
  simp only [Act.put, List.setIfInBounds_toArray, List.set_cons_zero, List.set_cons_succ]
  refine wpAnyH_take (i := 17) (oi := ⟨some 63, _, _, _, _, _⟩) (v := .string ⟨#[7]⟩) rfl (by kernel_rfl) (by kernel_rfl) (by kernel_rfl) (fun _ _ _ h => h) (Or.inl ⟨by rfl, ?_⟩) hHeld ?_
  · intro ww hSw
    (try dsimp only at hSw)
    have hcv : (convert 22 9 (.slice A4 1 c4)).run Try.prog ww = .ok (.string ⟨#[7]⟩) ww := conv_sl (R4.out.below hSw)
    go_simp
  simp only [Act.put, List.setIfInBounds_toArray, List.set_cons_zero, List.set_cons_succ]
  refine wpAnyH_take (i := 18) (oi := ⟨some 64, _, _, _, _, _⟩) (v := ?_) rfl (by kernel_rfl) (by kernel_rfl) (by kernel_rfl) (fun _ _ _ h => h) (Or.inl ⟨by rfl, ?_⟩) hHeld ?_
  rotate_left
  · intro ww hSw
    (try dsimp only at hSw)
    go_simp
    (try with_reducible rfl)
  simp only [Act.put, List.setIfInBounds_toArray, List.set_cons_zero, List.set_cons_succ]
  refine wpAnyH_take (i := 19) (oi := ⟨some 65, _, _, _, _, _⟩) (v := ?_) rfl (by kernel_rfl) (by kernel_rfl) (by kernel_rfl) (fun _ _ _ h => h) (Or.inl ⟨by rfl, ?_⟩) hHeld ?_
  rotate_left
  · intro ww hSw
    (try dsimp only at hSw)
    go_simp
    (try with_reducible rfl)
  simp only [Act.put, List.setIfInBounds_toArray, List.set_cons_zero, List.set_cons_succ]
  refine wpAnyH_take (i := 20) (oi := ⟨some 66, _, _, _, _, _⟩) (v := ?_) rfl (by kernel_rfl) (by kernel_rfl) (by kernel_rfl) (fun _ _ _ h => h) (Or.inl ⟨by rfl, ?_⟩) hHeld ?_
  rotate_left
  · intro ww hSw
    (try dsimp only at hSw)
    go_simp
    (try with_reducible rfl)
  simp only [Act.put, List.setIfInBounds_toArray, List.set_cons_zero, List.set_cons_succ]
  refine wpAnyH_take (i := 21) (oi := ⟨some 67, _, _, _, _, _⟩) (v := ?_) rfl (by kernel_rfl) (by kernel_rfl) (by kernel_rfl) (fun _ _ _ h => h) (Or.inl ⟨by rfl, ?_⟩) hHeld ?_
  rotate_left
  · intro ww hSw
    (try dsimp only at hSw)
    go_simp
    (try with_reducible rfl)
  simp only [Act.put, List.setIfInBounds_toArray, List.set_cons_zero, List.set_cons_succ]
  refine wpAnyH_take (i := 22) (oi := ⟨some 68, _, _, _, _, _⟩) (v := ?_) rfl (by kernel_rfl) (by kernel_rfl) (by kernel_rfl) (fun _ _ _ h => h) (Or.inl ⟨by rfl, ?_⟩) hHeld ?_
  rotate_left
  · intro ww hSw
    (try dsimp only at hSw)
    go_simp
    (try with_reducible rfl)
  simp only [Act.put, List.setIfInBounds_toArray, List.set_cons_zero, List.set_cons_succ]
  refine wpAnyH_take (i := 23) (oi := ⟨some 69, _, _, _, _, _⟩) (v := ?_) rfl (by kernel_rfl) (by kernel_rfl) (by kernel_rfl) (fun _ _ _ h => h) (Or.inl ⟨by rfl, ?_⟩) hHeld ?_
  rotate_left
  · intro ww hSw
    (try dsimp only at hSw)
    go_simp
    (try with_reducible rfl)
  simp only [Act.put, List.setIfInBounds_toArray, List.set_cons_zero, List.set_cons_succ]
  refine wpAnyH_take (i := 24) (oi := ⟨some 70, _, _, _, _, _⟩) (v := ?_) rfl (by kernel_rfl) (by kernel_rfl) (by kernel_rfl) (fun _ _ _ h => h) (Or.inl ⟨by rfl, ?_⟩) hHeld ?_
  rotate_left
  · intro ww hSw
    (try dsimp only at hSw)
    go_simp
    (try with_reducible rfl)
  simp only [Act.put, List.setIfInBounds_toArray, List.set_cons_zero, List.set_cons_succ]
  refine wpAnyH_take (i := 25) (oi := ⟨some 71, _, _, _, _, _⟩) (v := ?_) rfl (by kernel_rfl) (by kernel_rfl) (by kernel_rfl) (fun _ _ _ h => h) (Or.inl ⟨by rfl, ?_⟩) hHeld ?_
  rotate_left
  · intro ww hSw
    (try dsimp only at hSw)
    go_simp
    (try with_reducible rfl)
  simp only [Act.put, List.setIfInBounds_toArray, List.set_cons_zero, List.set_cons_succ]
  refine wpAnyH_take (i := 26) (oi := ⟨some 72, _, _, _, _, _⟩) (v := ?_) rfl (by kernel_rfl) (by kernel_rfl) (by kernel_rfl) (fun _ _ _ h => h) (Or.inl ⟨by rfl, ?_⟩) hHeld ?_
  rotate_left
  · intro ww hSw
    (try dsimp only at hSw)
    go_simp
    (try with_reducible rfl)
  simp only [Act.put, List.setIfInBounds_toArray, List.set_cons_zero, List.set_cons_succ]
  refine wpAnyH_take (i := 27) (oi := ⟨some 73, _, _, _, _, _⟩) (v := ?_) rfl (by kernel_rfl) (by kernel_rfl) (by kernel_rfl) (fun _ _ _ h => h) (Or.inl ⟨by rfl, ?_⟩) hHeld ?_
  rotate_left
  · intro ww hSw
    (try dsimp only at hSw)
    go_simp
    (try with_reducible rfl)
  simp only [Act.put, List.setIfInBounds_toArray, List.set_cons_zero, List.set_cons_succ]
  refine wpAnyH_take (i := 28) (oi := ⟨some 74, _, _, _, _, _⟩) (v := ?_) rfl (by kernel_rfl) (by kernel_rfl) (by kernel_rfl) (fun _ _ _ h => h) (Or.inl ⟨by rfl, ?_⟩) hHeld ?_
  rotate_left
  · intro ww hSw
    (try dsimp only at hSw)
    go_simp
    (try with_reducible rfl)
  simp only [Act.put, List.setIfInBounds_toArray, List.set_cons_zero, List.set_cons_succ]
  refine wpAnyH_take (i := 29) (oi := ⟨some 75, _, _, _, _, _⟩) (v := ?_) rfl (by kernel_rfl) (by kernel_rfl) (by kernel_rfl) (fun _ _ _ h => h) (Or.inl ⟨by rfl, ?_⟩) hHeld ?_
  rotate_left
  · intro ww hSw
    (try dsimp only at hSw)
    go_simp
    (try with_reducible rfl)
  simp only [Act.put, List.setIfInBounds_toArray, List.set_cons_zero, List.set_cons_succ]
  refine wpAnyH_take (i := 30) (oi := ⟨some 76, _, _, _, _, _⟩) (v := ?_) rfl (by kernel_rfl) (by kernel_rfl) (by kernel_rfl) (fun _ _ _ h => h) (Or.inl ⟨by rfl, ?_⟩) hHeld ?_
  rotate_left
  · intro ww hSw
    (try dsimp only at hSw)
    go_simp
    (try with_reducible rfl)
  simp only [Act.put, List.setIfInBounds_toArray, List.set_cons_zero, List.set_cons_succ]
  refine wpAnyH_take (i := 31) (oi := ⟨some 77, _, _, _, _, _⟩) (v := ?_) rfl (by kernel_rfl) (by kernel_rfl) (by kernel_rfl) (fun _ _ _ h => h) (Or.inl ⟨by rfl, ?_⟩) hHeld ?_
  rotate_left
  · intro ww hSw
    (try dsimp only at hSw)
    go_simp
    (try with_reducible rfl)
  simp only [Act.put, List.setIfInBounds_toArray, List.set_cons_zero, List.set_cons_succ]
  refine wpAnyH_take (i := 32) (oi := ⟨some 78, _, _, _, _, _⟩) (v := ?_) rfl (by kernel_rfl) (by kernel_rfl) (by kernel_rfl) (fun _ _ _ h => h) (Or.inl ⟨by rfl, ?_⟩) hHeld ?_
  rotate_left
  · intro ww hSw
    (try dsimp only at hSw)
    go_simp
    (try with_reducible rfl)
  simp only [Act.put, List.setIfInBounds_toArray, List.set_cons_zero, List.set_cons_succ]
  refine wpAnyH_take (i := 33) (oi := ⟨some 79, _, _, _, _, _⟩) (v := ?_) rfl (by kernel_rfl) (by kernel_rfl) (by kernel_rfl) (fun _ _ _ h => h) (Or.inl ⟨by rfl, ?_⟩) hHeld ?_
  rotate_left
  · intro ww hSw
    (try dsimp only at hSw)
    go_simp
    (try with_reducible rfl)
  simp only [Act.put, List.setIfInBounds_toArray, List.set_cons_zero, List.set_cons_succ]
  refine wpAnyH_take (i := 34) (oi := ⟨some 80, _, _, _, _, _⟩) (v := ?_) rfl (by kernel_rfl) (by kernel_rfl) (by kernel_rfl) (fun _ _ _ h => h) (Or.inl ⟨by rfl, ?_⟩) hHeld ?_
  rotate_left
  · intro ww hSw
    (try dsimp only at hSw)
    go_simp
    (try with_reducible rfl)
  simp only [Act.put, List.setIfInBounds_toArray, List.set_cons_zero, List.set_cons_succ]
  refine wpAnyH_take (i := 35) (oi := ⟨some 81, _, _, _, _, _⟩) (v := ?_) rfl (by kernel_rfl) (by kernel_rfl) (by kernel_rfl) (fun _ _ _ h => h) (Or.inl ⟨by rfl, ?_⟩) hHeld ?_
  rotate_left
  · intro ww hSw
    (try dsimp only at hSw)
    go_simp
    (try with_reducible rfl)
  simp only [Act.put, List.setIfInBounds_toArray, List.set_cons_zero, List.set_cons_succ]
  refine wpAnyH_take (i := 36) (oi := ⟨some 82, _, _, _, _, _⟩) (v := ?_) rfl (by kernel_rfl) (by kernel_rfl) (by kernel_rfl) (fun _ _ _ h => h) (Or.inl ⟨by rfl, ?_⟩) hHeld ?_
  rotate_left
  · intro ww hSw
    (try dsimp only at hSw)
    go_simp
    (try with_reducible rfl)
  simp only [Act.put, List.setIfInBounds_toArray, List.set_cons_zero, List.set_cons_succ]
  refine wpAnyH_take (i := 37) (oi := ⟨some 83, _, _, _, _, _⟩) (v := ?_) rfl (by kernel_rfl) (by kernel_rfl) (by kernel_rfl) (fun _ _ _ h => h) (Or.inl ⟨by rfl, ?_⟩) hHeld ?_
  rotate_left
  · intro ww hSw
    (try dsimp only at hSw)
    go_simp
    (try with_reducible rfl)
  simp only [Act.put, List.setIfInBounds_toArray, List.set_cons_zero, List.set_cons_succ]
  refine wpAnyH_take (i := 38) (oi := ⟨some 84, _, _, _, _, _⟩) (v := ?_) rfl (by kernel_rfl) (by kernel_rfl) (by kernel_rfl) (fun _ _ _ h => h) (Or.inl ⟨by rfl, ?_⟩) hHeld ?_
  rotate_left
  · intro ww hSw
    (try dsimp only at hSw)
    go_simp
    (try with_reducible rfl)
  simp only [Act.put, List.setIfInBounds_toArray, List.set_cons_zero, List.set_cons_succ]
  refine wpAnyH_take (i := 39) (oi := ⟨some 85, _, _, _, _, _⟩) (v := ?_) rfl (by kernel_rfl) (by kernel_rfl) (by kernel_rfl) (fun _ _ _ h => h) (Or.inl ⟨by rfl, ?_⟩) hHeld ?_
  rotate_left
  · intro ww hSw
    (try dsimp only at hSw)
    go_simp
    (try with_reducible rfl)
  simp only [Act.put, List.setIfInBounds_toArray, List.set_cons_zero, List.set_cons_succ]
  refine wpAnyH_take (i := 40) (oi := ⟨some 86, _, _, _, _, _⟩) (v := ?_) rfl (by kernel_rfl) (by kernel_rfl) (by kernel_rfl) (fun _ _ _ h => h) (Or.inl ⟨by rfl, ?_⟩) hHeld ?_
  rotate_left
  · intro ww hSw
    (try dsimp only at hSw)
    go_simp
    (try with_reducible rfl)
  simp only [Act.put, List.setIfInBounds_toArray, List.set_cons_zero, List.set_cons_succ]
  refine wpAnyH_take (i := 41) (oi := ⟨some 0, _, _, _, _, _⟩) (v := ?_) rfl (by kernel_rfl) (by kernel_rfl) (by kernel_rfl) (fun _ _ _ h => h) (Or.inl ⟨by rfl, ?_⟩) hHeld ?_
  rotate_left
  · intro ww hSw
    (try dsimp only at hSw)
    go_simp
    (try with_reducible rfl)
  simp only [Act.put, List.setIfInBounds_toArray, List.set_cons_zero, List.set_cons_succ]
  refine wpAnyH_done (by kernel_rfl) ?_ _
  refine NoPanic.normal ?_
  go_wp2
  go_ret
  exact ⟨rfl, below_drew hbz⟩
end Go.Proofs.Ytfjbpjojpjkfcaa
