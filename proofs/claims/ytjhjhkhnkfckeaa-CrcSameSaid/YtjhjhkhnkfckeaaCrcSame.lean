/-
  The walk of the law CrcSame: it answers true, and leaves what was there as it was.
-/
import Derived.Test.YtjhjhkhnkfckeaaCrcStr
import Derived.RegionTactic
namespace Go.Proofs.Ytjhjhkhnkfckeaa
open Go.RowKit
set_option linter.unusedVariables false

theorem crcSame_long (a0 : Option Addr) (len0 cap0 : Nat) (w : World) (h : 1000 < len0) :
    Calls Try.prog 5 #[.slice a0 len0 cap0] w fun e w' => e = .returned (.bool true) ∧ Below w.heap.size w w' := by
  have d0 : (1000 : Int) < (len0 : Int) := by omega
  go_enter Try.func5, Try.ntmps5
  go_wp2_with fail
  refine (awake4 _).mono ?_
  rintro e w1 ⟨rfl, hb1⟩
  go_wp2
  go_ret
  exact ⟨rfl, hb1⟩

set_option maxHeartbeats 1000000 in
theorem crcSame_short (a0 : Option Addr) (len0 cap0 : Nat) (l : List (BitVec 8)) (w : World) (s0 : Sl 1 w a0 len0 cap0 (bytesV l)) (h0 : l.length = len0) (h : len0 ≤ 1000) :
    Calls Try.prog 5 #[.slice a0 len0 cap0] w fun e w' => e = .returned (.bool true) ∧ Below w.heap.size w w' := by
  have d0 : (len0 : Int) ≤ 1000 := by omega
  have HL := Lib.hid h0
  have HB := Lib.hid (byts_of_sl s0)
  clear h0 s0
  go_enter Try.func5, Try.ntmps5
  go_wp2_with fail
  refine (awake4 _).mono ?_
  rintro e w1 ⟨rfl, hb1⟩
  go_wp2_with fail
  refine (crcsum_any _ 1 _ [l] _ (parts_one 22 (HB.out.below hb1) HL.out (by omega) rfl) rfl (by omega)).mono ?_
  rintro e w2 ⟨rfl, hb2⟩
  rw [flat_one]
  replace hb2 := bel_on (bel_alloc hb1 _) hb2
  clear hb1
  go_wp2_with fail
  refine (crcbytes_any (sumB l) _).mono ?_
  rintro e w3 ⟨rfl, hb3⟩
  replace hb3 := bel_on hb2 hb3
  clear hb2
  go_wp2_with (refine wpList_laid4 (sumB l) _ _ rfl rfl rfl rfl rfl ?_)
  have HH := laid4_has w3 (sumB l)
  have hb4 := laid4_below (sumB l) hb3
  generalize laid4 w3 (sumB l) = w4 at *
  generalize w3.heap.size = g at *
  clear hb3
  refine (crcsum_any _ 0 _ [] _ Parts.nil_ rfl (by omega)).mono ?_
  rintro e w5 ⟨rfl, hb5⟩
  rw [sum_nil]
  replace HH := HH.below hb5
  replace hb5 := bel_on hb4 hb5
  clear hb4
  go_wp2_with fail
  refine (crcbytes_any 0#32 _).mono ?_
  rintro e w6 ⟨rfl, hb6⟩
  replace HH := HH.below hb6
  replace hb6 := bel_on hb5 hb6
  clear hb5
  go_wp2_with (refine wpList_laid4 0#32 _ _ rfl rfl rfl rfl rfl ?_)
  have HG := laid4_has w6 0#32
  have hb7 := laid4_below 0#32 hb6
  replace HH := HH.below (laid4_below 0#32 (Below.refl w6.heap.size w6))
  generalize laid4 w6 0#32 = W at *
  generalize w6.heap.size = g' at *
  have HS := Lib.hid (HB.out.below hb7)
  have HY := Lib.hid (byts_of_has HH)
  have HZ := Lib.hid (byts_of_has HG)
  have hm0 : len0 ≤ 9223372036854775807 := by omega
  obtain ⟨c, hc⟩ : ∃ c, sumB (List.flatten [l, bytesB (sumB l)]) = c ∧ sumB (List.flatten [bytesB 0#32]) = c := ⟨_, same_doc l, rfl⟩
  have HC := Lib.hid hc
  clear hc
  have hm4 : 4 ≤ 9223372036854775807 := by omega
  clear hb6
  refine wp_region_noPanic ?_
  refine wp_region_held_drew (S := fun w' => Below W.heap.size W w') (by kernel_rfl) (below_drew (Below.refl _ _)) (fun hHeld => ?_)
  refine wpAnyH_take (i := 0) (oi := ⟨some 17, _, _, _, _, _⟩) (v := ?_) rfl (by kernel_rfl) (by kernel_rfl) (by kernel_rfl) (fun _ _ _ h => h) (Or.inl ⟨by rfl, ?_⟩) hHeld ?_
  rotate_left
  · intro ww hSw
    (try dsimp only at hSw)
    go_simp
    (try with_reducible rfl)
  simp only [Act.put, List.setIfInBounds_toArray, List.set_cons_zero, List.set_cons_succ]
  refine wpAnyH_take (i := 1) (oi := ⟨some 18, _, _, _, _, _⟩) (v := ?_) rfl (by kernel_rfl) (by kernel_rfl) (by kernel_rfl) (fun _ _ _ h => h) (Or.inl ⟨by rfl, ?_⟩) hHeld ?_
  rotate_left
  · intro ww hSw
    (try dsimp only at hSw)
    go_simp
    (try with_reducible rfl)
  simp only [Act.put, List.setIfInBounds_toArray, List.set_cons_zero, List.set_cons_succ]
  refine wpAnyH_take (i := 2) (oi := ⟨some 19, _, _, _, _, _⟩) (v := ?_) rfl (by kernel_rfl) (by kernel_rfl) (by kernel_rfl) (fun _ _ _ h => h) (Or.inl ⟨by rfl, ?_⟩) hHeld ?_
  rotate_left
  · intro ww hSw
    (try dsimp only at hSw)
    go_simp
    (try with_reducible rfl)
  simp only [Act.put, List.setIfInBounds_toArray, List.set_cons_zero, List.set_cons_succ]
  refine wpAnyH_take (i := 3) (oi := ⟨some 20, _, _, _, _, _⟩) (v := ?_) rfl (by kernel_rfl) (by kernel_rfl) (by kernel_rfl) (fun _ _ _ h => h) (Or.inl ⟨by rfl, ?_⟩) hHeld ?_
  rotate_left
  · intro ww hSw
    (try dsimp only at hSw)
    go_simp
    (try with_reducible rfl)
  simp only [Act.put, List.setIfInBounds_toArray, List.set_cons_zero, List.set_cons_succ]
  refine wpAnyH_take (i := 6) (oi := ⟨some 23, _, _, _, _, _⟩) (v := ?_) rfl (by kernel_rfl) (by kernel_rfl) (by kernel_rfl) (fun _ _ _ h => h) (Or.inl ⟨by rfl, ?_⟩) hHeld ?_
  rotate_left
  · intro ww hSw
    (try dsimp only at hSw)
    go_simp
    (try with_reducible rfl)
  simp only [Act.put, List.setIfInBounds_toArray, List.set_cons_zero, List.set_cons_succ]
  refine wpAnyH_lit (fuel' := 7) (l := #[true, true, true, true, false, false, true, false, false, false, false, false]) (by kernel_rfl) (by kernel_rfl) ?_
  refine wpAnyH_letters [21, 22, 24, 25, 26, 27, 2] [4, 5, 7, 8, 9, 10, 11] (fun vs bs w => ∃ (v4 v5 v7 v8 v9 v10 v11 : Value) (b4 b5 b7 b8 b9 b10 b11 : Bool), vs = [v4, v5, v7, v8, v9, v10, v11] ∧ bs = [b4, b5, b7, b8, b9, b10, b11] ∧ Below W.heap.size W w ∧ (b4 = true → PartsV v4 2 [l, bytesB (sumB l)] w) ∧ (b5 = true → Fix v5 (v32 c) w) ∧ (b7 = true → PartsV v7 1 [bytesB 0#32] w) ∧ (b8 = true → Fix v8 (v32 c) w) ∧ (b9 = true → Fix v9 (.bool true) w) ∧ (b10 = true → Fix v10 (.bool true) w) ∧ (b11 = true → Fix v11 (.bool true) w)) ?_ (by decide) [undef, undef, undef, undef, undef, undef, .bool false] [false, false, false, false, false, false, false] rfl (by simp only [putsA, Act.put, List.setIfInBounds_toArray, List.set_cons_zero, List.set_cons_succ]) ⟨undef, undef, undef, undef, undef, undef, .bool false, false, false, false, false, false, false, false, rfl, rfl, hHeld, (fun h => by cases h), (fun h => by cases h), (fun h => by cases h), (fun h => by cases h), (fun h => by cases h), (fun h => by cases h), (fun h => by cases h)⟩ ?_ ?_
  · rintro _ _ w ⟨_, _, _, _, _, _, _, _, _, _, _, _, _, _, rfl, rfl, hb, _⟩
    exact hb
  · clear hHeld
    refine StepsFrom.cons (k := 0) ?_ ?_
    · rintro _ _ wc ⟨_, _, rfl, rfl, v4, v5, v7, v8, v9, v10, v11, b4, b5, b7, b8, b9, b10, b11, rfl, rfl, hbw', h4, h5, h7, h8, h9, h10, h11⟩ hun
      simp [setsB] at hun
    refine StepsFrom.cons (k := 1) ?_ ?_
    · rintro _ _ wc ⟨_, _, rfl, rfl, v4, v5, v7, v8, v9, v10, v11, b4, b5, b7, b8, b9, b10, b11, rfl, rfl, hbw', h4, h5, h7, h8, h9, h10, h11⟩ hun
      simp [setsB] at hun
    refine StepsFrom.cons (k := 2) ?_ ?_
    · rintro _ _ wc ⟨_, _, rfl, rfl, v4, v5, v7, v8, v9, v10, v11, b4, b5, b7, b8, b9, b10, b11, rfl, rfl, hbw', h4, h5, h7, h8, h9, h10, h11⟩ hun
      simp [setsB] at hun
    refine StepsFrom.cons (k := 3) ?_ ?_
    · rintro _ _ wc ⟨_, _, rfl, rfl, v4, v5, v7, v8, v9, v10, v11, b4, b5, b7, b8, b9, b10, b11, rfl, rfl, hbw', h4, h5, h7, h8, h9, h10, h11⟩ hun
      simp [setsB] at hun
    refine StepsFrom.cons (k := 4) ?_ ?_
    · rintro _ _ wc ⟨_, _, rfl, rfl, v4, v5, v7, v8, v9, v10, v11, b4, b5, b7, b8, b9, b10, b11, rfl, rfl, hbw', h4, h5, h7, h8, h9, h10, h11⟩ hun hpre K hK
      simp only [setsB, List.setIfInBounds_toArray, List.set_cons_zero, List.set_cons_succ] at hpre
      clear hun hpre
      simp only [putsA, Act.put, List.setIfInBounds_toArray, List.set_cons_zero, List.set_cons_succ]
      go_simp
      have hbn := bel_alloc (Below.refl wc.heap.size wc) (Obj.cells #[.slice a0 len0 cap0, .slice (some ⟨g, 0, none⟩) 4 4] 22)
      have qI : PartsV (.slice (some ⟨wc.heap.size, 0, none⟩) 2 2) 2 [l, bytesB (sumB l)] (wc.alloc (Obj.cells #[.slice a0 len0 cap0, .slice (some ⟨g, 0, none⟩) 4 4] 22)) := PartsV.mk2 22 (HS.out.below hbw') HL.out hm0 (HY.out.below hbw') rfl hm4
      refine hK.out _ _ ⟨_, _, ?_, ?_, (.slice (some ⟨wc.heap.size, 0, none⟩) 2 2), v5, v7, v8, v9, v10, v11, true, b5, b7, b8, b9, b10, b11, rfl, rfl, bel_on hbw' hbn, (fun _ => qI), (fun e => (h5 e).below hbn), (fun e => (h7 e).below hbn), (fun e => (h8 e).below hbn), (fun e => (h9 e).below hbn), (fun e => (h10 e).below hbn), (fun e => (h11 e).below hbn)⟩
      · simp only [setsB, List.setIfInBounds_toArray, List.set_cons_zero, List.set_cons_succ]
      · simp only [putsA, Act.put, List.setIfInBounds_toArray, List.set_cons_zero, List.set_cons_succ]
    refine StepsFrom.cons (k := 5) ?_ ?_
    · rintro _ _ wc ⟨_, _, rfl, rfl, v4, v5, v7, v8, v9, v10, v11, b4, b5, b7, b8, b9, b10, b11, rfl, rfl, hbw', h4, h5, h7, h8, h9, h10, h11⟩ hun hpre K hK
      simp only [setsB, List.setIfInBounds_toArray, List.set_cons_zero, List.set_cons_succ] at hpre
      have p4 := hpre ⟨4, .data⟩ (by simp) rfl
      subst p4
      clear hun hpre
      have q4 := h4 rfl
      clear h4
      refine PartsV.elim q4 ?_
      intro A4 c4 z4 hp4
      subst z4
      simp only [putsA, Act.put, List.setIfInBounds_toArray, List.set_cons_zero, List.set_cons_succ]
      go_simp
      go_at_call 10
      refine (crcsum_at _ 2 _ [l, bytesB (sumB l)] c _ hp4 HC.out.1 rfl (by omega)).mono ?_
      rintro e_r wn ⟨rfl, hbn⟩
      go_wp2_with fail
      have qI : Fix (v32 c) (v32 c) wn := rfl
      refine hK.out _ _ ⟨_, _, ?_, ?_, (.slice A4 2 c4), (v32 c), v7, v8, v9, v10, v11, true, true, b7, b8, b9, b10, b11, rfl, rfl, bel_on hbw' hbn, (fun _ => q4.below hbn), (fun _ => qI), (fun e => (h7 e).below hbn), (fun e => (h8 e).below hbn), (fun e => (h9 e).below hbn), (fun e => (h10 e).below hbn), (fun e => (h11 e).below hbn)⟩
      · simp only [setsB, List.setIfInBounds_toArray, List.set_cons_zero, List.set_cons_succ]
      · simp only [putsA, Act.put, List.setIfInBounds_toArray, List.set_cons_zero, List.set_cons_succ]
    refine StepsFrom.cons (k := 6) ?_ ?_
    · rintro _ _ wc ⟨_, _, rfl, rfl, v4, v5, v7, v8, v9, v10, v11, b4, b5, b7, b8, b9, b10, b11, rfl, rfl, hbw', h4, h5, h7, h8, h9, h10, h11⟩ hun
      simp [setsB] at hun
    refine StepsFrom.cons (k := 7) ?_ ?_
    · rintro _ _ wc ⟨_, _, rfl, rfl, v4, v5, v7, v8, v9, v10, v11, b4, b5, b7, b8, b9, b10, b11, rfl, rfl, hbw', h4, h5, h7, h8, h9, h10, h11⟩ hun hpre K hK
      simp only [setsB, List.setIfInBounds_toArray, List.set_cons_zero, List.set_cons_succ] at hpre
      clear hun hpre
      simp only [putsA, Act.put, List.setIfInBounds_toArray, List.set_cons_zero, List.set_cons_succ]
      go_simp
      have hbn := bel_alloc (Below.refl wc.heap.size wc) (Obj.cells #[.slice (some ⟨g', 0, none⟩) 4 4] 22)
      have qI : PartsV (.slice (some ⟨wc.heap.size, 0, none⟩) 1 1) 1 [bytesB 0#32] (wc.alloc (Obj.cells #[.slice (some ⟨g', 0, none⟩) 4 4] 22)) := PartsV.mk1 22 (HZ.out.below hbw') rfl hm4
      refine hK.out _ _ ⟨_, _, ?_, ?_, v4, v5, (.slice (some ⟨wc.heap.size, 0, none⟩) 1 1), v8, v9, v10, v11, b4, b5, true, b8, b9, b10, b11, rfl, rfl, bel_on hbw' hbn, (fun e => (h4 e).below hbn), (fun e => (h5 e).below hbn), (fun _ => qI), (fun e => (h8 e).below hbn), (fun e => (h9 e).below hbn), (fun e => (h10 e).below hbn), (fun e => (h11 e).below hbn)⟩
      · simp only [setsB, List.setIfInBounds_toArray, List.set_cons_zero, List.set_cons_succ]
      · simp only [putsA, Act.put, List.setIfInBounds_toArray, List.set_cons_zero, List.set_cons_succ]
    refine StepsFrom.cons (k := 8) ?_ ?_
    · rintro _ _ wc ⟨_, _, rfl, rfl, v4, v5, v7, v8, v9, v10, v11, b4, b5, b7, b8, b9, b10, b11, rfl, rfl, hbw', h4, h5, h7, h8, h9, h10, h11⟩ hun hpre K hK
      simp only [setsB, List.setIfInBounds_toArray, List.set_cons_zero, List.set_cons_succ] at hpre
      have p7 := hpre ⟨7, .data⟩ (by simp) rfl
      subst p7
      have p5 := hpre ⟨5, .chain⟩ (by simp) rfl
      subst p5
      clear hun hpre
      have q5 := h5 rfl
      clear h5
      have q7 := h7 rfl
      clear h7
      have z5 : v5 = _ := q5
      subst z5
      refine PartsV.elim q7 ?_
      intro A7 c7 z7 hp7
      subst z7
      simp only [putsA, Act.put, List.setIfInBounds_toArray, List.set_cons_zero, List.set_cons_succ]
      go_simp
      go_at_call 10
      refine (crcsum_at _ 1 _ [bytesB 0#32] c _ hp7 HC.out.2 rfl (by omega)).mono ?_
      rintro e_r wn ⟨rfl, hbn⟩
      go_wp2_with fail
      have qI : Fix (v32 c) (v32 c) wn := rfl
      refine hK.out _ _ ⟨_, _, ?_, ?_, v4, (v32 c), (.slice A7 1 c7), (v32 c), v9, v10, v11, b4, true, true, true, b9, b10, b11, rfl, rfl, bel_on hbw' hbn, (fun e => (h4 e).below hbn), (fun _ => q5.below hbn), (fun _ => q7.below hbn), (fun _ => qI), (fun e => (h9 e).below hbn), (fun e => (h10 e).below hbn), (fun e => (h11 e).below hbn)⟩
      · simp only [setsB, List.setIfInBounds_toArray, List.set_cons_zero, List.set_cons_succ]
      · simp only [putsA, Act.put, List.setIfInBounds_toArray, List.set_cons_zero, List.set_cons_succ]
    refine StepsFrom.cons (k := 9) ?_ ?_
    · rintro _ _ wc ⟨_, _, rfl, rfl, v4, v5, v7, v8, v9, v10, v11, b4, b5, b7, b8, b9, b10, b11, rfl, rfl, hbw', h4, h5, h7, h8, h9, h10, h11⟩ hun hpre K hK
      simp only [setsB, List.setIfInBounds_toArray, List.set_cons_zero, List.set_cons_succ] at hpre
      have p5 := hpre ⟨5, .data⟩ (by simp) rfl
      subst p5
      have p8 := hpre ⟨8, .data⟩ (by simp) rfl
      subst p8
      clear hun hpre
      have q5 := h5 rfl
      clear h5
      have q8 := h8 rfl
      clear h8
      have z5 : v5 = _ := q5
      subst z5
      have z8 : v8 = _ := q8
      subst z8
      simp only [putsA, Act.put, List.setIfInBounds_toArray, List.set_cons_zero, List.set_cons_succ]
      go_simp
      refine hK.out _ _ ⟨_, _, ?_, ?_, v4, (v32 c), v7, (v32 c), (.bool true), v10, v11, b4, true, b7, true, true, b10, b11, rfl, rfl, hbw', h4, (fun _ => q5), h7, (fun _ => q8), (fun _ => rfl), h10, h11⟩
      · simp only [setsB, List.setIfInBounds_toArray, List.set_cons_zero, List.set_cons_succ]
      · simp only [putsA, Act.put, List.setIfInBounds_toArray, List.set_cons_zero, List.set_cons_succ]
    refine StepsFrom.cons (k := 10) ?_ ?_
    · rintro _ _ wc ⟨_, _, rfl, rfl, v4, v5, v7, v8, v9, v10, v11, b4, b5, b7, b8, b9, b10, b11, rfl, rfl, hbw', h4, h5, h7, h8, h9, h10, h11⟩ hun hpre K hK
      simp only [setsB, List.setIfInBounds_toArray, List.set_cons_zero, List.set_cons_succ] at hpre
      have p9 := hpre ⟨9, .data⟩ (by simp) rfl
      subst p9
      clear hun hpre
      have q9 := h9 rfl
      clear h9
      have z9 : v9 = _ := q9
      subst z9
      simp only [putsA, Act.put, List.setIfInBounds_toArray, List.set_cons_zero, List.set_cons_succ]
      go_simp
      refine hK.out _ _ ⟨_, _, ?_, ?_, v4, v5, v7, v8, (.bool true), (.bool true), v11, b4, b5, b7, b8, true, true, b11, rfl, rfl, hbw', h4, h5, h7, h8, (fun _ => q9), (fun _ => rfl), h11⟩
      · simp only [setsB, List.setIfInBounds_toArray, List.set_cons_zero, List.set_cons_succ]
      · simp only [putsA, Act.put, List.setIfInBounds_toArray, List.set_cons_zero, List.set_cons_succ]
    refine StepsFrom.cons (k := 11) ?_ ?_
    · rintro _ _ wc ⟨_, _, rfl, rfl, v4, v5, v7, v8, v9, v10, v11, b4, b5, b7, b8, b9, b10, b11, rfl, rfl, hbw', h4, h5, h7, h8, h9, h10, h11⟩ hun hpre K hK
      simp only [setsB, List.setIfInBounds_toArray, List.set_cons_zero, List.set_cons_succ] at hpre
      have p10 := hpre ⟨10, .data⟩ (by simp) rfl
      subst p10
      have p8 := hpre ⟨8, .chain⟩ (by simp) rfl
      subst p8
      have p4 := hpre ⟨4, .phase⟩ (by simp) rfl
      subst p4
      have p5 := hpre ⟨5, .phase⟩ (by simp) rfl
      subst p5
      have p7 := hpre ⟨7, .phase⟩ (by simp) rfl
      subst p7
      have p9 := hpre ⟨9, .phase⟩ (by simp) rfl
      subst p9
      clear hun hpre
      have q4 := h4 rfl
      clear h4
      have q5 := h5 rfl
      clear h5
      have q7 := h7 rfl
      clear h7
      have q8 := h8 rfl
      clear h8
      have q9 := h9 rfl
      clear h9
      have q10 := h10 rfl
      clear h10
      refine PartsV.elim q4 ?_
      intro A4 c4 z4 hp4
      subst z4
      have z5 : v5 = _ := q5
      subst z5
      refine PartsV.elim q7 ?_
      intro A7 c7 z7 hp7
      subst z7
      have z8 : v8 = _ := q8
      subst z8
      have z9 : v9 = _ := q9
      subst z9
      have z10 : v10 = _ := q10
      subst z10
      simp only [putsA, Act.put, List.setIfInBounds_toArray, List.set_cons_zero, List.set_cons_succ]
      go_simp
      refine hK.out _ _ ⟨_, _, ?_, ?_, (.slice A4 2 c4), (v32 c), (.slice A7 1 c7), (v32 c), (.bool true), (.bool true), (.bool true), true, true, true, true, true, true, true, rfl, rfl, hbw', (fun _ => q4), (fun _ => q5), (fun _ => q7), (fun _ => q8), (fun _ => q9), (fun _ => q10), (fun _ => rfl)⟩
      · simp only [setsB, List.setIfInBounds_toArray, List.set_cons_zero, List.set_cons_succ]
      · simp only [putsA, Act.put, List.setIfInBounds_toArray, List.set_cons_zero, List.set_cons_succ]
    exact StepsFrom.nil
  clear hHeld
  rintro _ _ wc ⟨_, _, rfl, rfl, v4, v5, v7, v8, v9, v10, v11, b4, b5, b7, b8, b9, b10, b11, rfl, rfl, hbw', h4, h5, h7, h8, h9, h10, h11⟩ hr
  simp only [setsB, List.setIfInBounds_toArray, List.set_cons_zero, List.set_cons_succ] at hr
  have u4 : b4 = true := all_up hr 4 rfl (by simp [Region.binds])
  subst u4
  have u5 : b5 = true := all_up hr 5 rfl (by simp [Region.binds])
  subst u5
  have u7 : b7 = true := all_up hr 7 rfl (by simp [Region.binds])
  subst u7
  have u8 : b8 = true := all_up hr 8 rfl (by simp [Region.binds])
  subst u8
  have u9 : b9 = true := all_up hr 9 rfl (by simp [Region.binds])
  subst u9
  have u10 : b10 = true := all_up hr 10 rfl (by simp [Region.binds])
  subst u10
  have u11 : b11 = true := all_up hr 11 rfl (by simp [Region.binds])
  subst u11
  have q4 := h4 rfl
  refine PartsV.elim q4 ?_
  intro A4 c4 z4 _
  subst z4
  have q5 := h5 rfl
  have z5 : v5 = _ := q5
  subst z5
  have q7 := h7 rfl
  refine PartsV.elim q7 ?_
  intro A7 c7 z7 _
  subst z7
  have q8 := h8 rfl
  have z8 : v8 = _ := q8
  subst z8
  have q9 := h9 rfl
  have z9 : v9 = _ := q9
  subst z9
  have q10 := h10 rfl
  have z10 : v10 = _ := q10
  subst z10
  have q11 := h11 rfl
  have z11 : v11 = _ := q11
  subst z11
  clear hr h4 h5 h7 h8 h9 h10 h11
  simp only [putsA, Act.put, List.setIfInBounds_toArray, List.set_cons_zero, List.set_cons_succ]
  refine NoPanic.normal ?_
  go_wp2
  go_ret
  exact ⟨rfl, bel_on hb7 hbw'⟩

theorem crcSame_walk (a0 : Option Addr) (len0 cap0 : Nat) (z0 : List Int) (w : World) (r0 : IsRow .u8 w a0 len0 cap0 z0) :
    Calls Try.prog 5 #[.slice a0 len0 cap0] w fun e w' => e = .returned (.bool true) ∧ Below w.heap.size w w' := by
  by_cases g : 1000 < len0
  · exact crcSame_long _ _ _ w g
  · obtain ⟨l, hl, s0, hm⟩ := bytes_of_row r0
    exact crcSame_short _ _ _ l w s0 hl (by omega)
end Go.Proofs.Ytjhjhkhnkfckeaa
