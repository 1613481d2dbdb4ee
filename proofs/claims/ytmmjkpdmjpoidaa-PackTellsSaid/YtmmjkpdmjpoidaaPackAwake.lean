/-
  The calls whose answers the document fixes, at the head of layer 5's laws.
-/
import Derived.Test.YtmmjkpdmjpoidaaPkF
import Derived.Lib.SlBytesConst
namespace Go.Proofs.Ytmmjkpdmjpoidaa
open Go.RowKit
set_option linter.unusedVariables false

theorem aw_put : putB [0, 258] = [0#8, 2#8, 1#8, 2#8] := by decide +kernel
theorem aw_take : takeB [2#8, 1#8, 2#8, 7#8] = some (258, [7#8]) := by decide +kernel
theorem aw_bad : takeB [1#8, 0#8] = none := by decide +kernel
theorem aw_text : textB [97#8, 98#8] = [1#8, 2#8, 97#8, 98#8] := by decide +kernel
theorem aw_taken : takeTextB [1#8, 2#8, 97#8, 98#8] = some ([97#8, 98#8], []) := by decide +kernel
theorem aw_size : (oneB 256).length = 3 := by decide +kernel
/-- A text of bytes that a block just laid holds, frozen behind. -/
theorem sl_const (w : World) (l : List (BitVec 8)) (t : TypeId) (fr : Nat × Nat) (n c : Nat) (hn : l.length = n) : Sl 1 (w.alloc (.cells (bytesV l).toArray t fr)) (some ⟨w.heap.size, 0, none⟩) n c (bytesV l) := by
  subst hn
  refine ⟨by rw [bytesV_len]; omega, .inr ⟨_, rfl, fun j u hu => ?_⟩⟩
  rw [by_add_none, Nat.zero_add, cell_of_row _ _ j _ t fr (heap_alloc_new w _)]
  simpa using hu
set_option maxHeartbeats 1000000 in
theorem awake5 (w : World) : Calls Try.prog 8 #[] w fun e w' => e = .returned (.bool true) ∧ Below w.heap.size w w' := by
  have kc := fun (w : World) (C : Array Value) (n c : Nat) => Lib.run_convert_bytes_const (P := Try.prog) w 22 5 C n c Try.underlying22 Try.underlying5
  go_enter Try.func8, Try.ntmps8
  go_wp2_with fail
  refine (put_ok _ 1 _ [9#8] _ 2 _ [0, 258] _ ((sl_new w 5 [9#8] rfl rfl).alloc _) (nums_new (w.alloc _) 3 [0, 258] (by simp)) rfl (by decide) (by omega) (by omega)).mono ?_
  rintro e w1 ⟨A1, c1, rfl, r1, b1⟩
  rw [aw_put]
  rw [aw_put] at r1
  replace r1 := Lib.hid r1.sl
  replace b1 := bel_on (bel_alloc (bel_alloc (Below.refl w.heap.size w) _) _) b1
  go_wp2_with fail
  refine (put_bad _ 0 _ _ 1 _ [-1] _ (nums_new w1 3 [-1] rfl) rfl (by decide) (by decide) (by omega) (by omega)).mono ?_
  rintro e w2 ⟨rfl, rfl⟩
  go_wp2_with fail
  refine (take_ok _ 4 _ [2#8, 1#8, 2#8, 7#8] [7#8] 258 _ (sl_new (w1.alloc _) 5 [2#8, 1#8, 2#8, 7#8] (by simp) rfl) (by omega) (by omega) aw_take).mono ?_
  rintro e w3 ⟨A3, c3, rfl, r3, b3⟩
  replace b3 := bel_on (bel_alloc (bel_alloc (Below.refl w1.heap.size w1) _) _) b3
  replace r1 := Lib.hid (r1.out.below b3)
  replace r3 := Lib.hid r3.sl
  replace b3 := bel_on b1 b3
  clear b1
  go_wp2_with fail
  refine (take_bad _ 2 _ [1#8, 0#8] _ (byts_of_sl (sl_new (c := 2) w3 5 [1#8, 0#8] rfl rfl)) rfl (by omega) aw_bad).mono ?_
  rintro e w4 ⟨rfl, hw4⟩
  have b4 : Below w3.heap.size w3 w4 := hw4 ▸ bel_alloc (Below.refl _ _) _
  clear hw4
  replace r1 := Lib.hid (r1.out.below b4)
  replace r3 := Lib.hid (r3.out.below b4)
  replace b4 := bel_on b3 b4
  clear b3
  go_wp2_with fail
  refine (text_any _ 0 _ [] _ 2 _ [97#8, 98#8] _ Sl.nil_ (sl_const w4 [97#8, 98#8] 5 _ 2 2 rfl) (by omega) (by omega)).mono ?_
  rintro e w5 ⟨A5, c5, rfl, r5, b5⟩
  rw [aw_text]
  rw [aw_text, List.nil_append] at r5
  replace b5 := bel_on (bel_alloc (Below.refl w4.heap.size w4) _) b5
  replace r1 := Lib.hid (r1.out.below b5)
  replace r3 := Lib.hid (r3.out.below b5)
  replace b5 := bel_on b4 b5
  have hc5 := r5.cap_le (n := 4) rfl
  replace r5 := Lib.hid r5.sl
  clear b4
  go_wp2_with fail
  refine (taketext_ok _ 4 _ [1#8, 2#8, 97#8, 98#8] [97#8, 98#8] [] _ r5.out (by omega) hc5 aw_taken).mono ?_
  rintro e w6 ⟨A6, c6, A7, c7, rfl, r6, r7, b6⟩
  replace r1 := Lib.hid (r1.out.below b6)
  replace r3 := Lib.hid (r3.out.below b6)
  replace r5 := Lib.hid (r5.out.below b6)
  replace r6 := Lib.hid r6.sl
  replace b6 := bel_on b5 b6
  clear b5 r7 kc
  have k1 : (convert 22 9 (.slice A1 5 c1)).run Try.prog w6 = .ok (.string ⟨#[9, 0, 2, 1, 2]⟩) w6 := conv_sl r1.out
  have k3 : (convert 22 9 (.slice A3 1 c3)).run Try.prog w6 = .ok (.string ⟨#[7]⟩) w6 := conv_sl r3.out
  have k5 : (convert 22 9 (.slice A5 4 c5)).run Try.prog w6 = .ok (.string ⟨#[1, 2, 97, 98]⟩) w6 := conv_sl r5.out
  have k6 : (convert 22 9 (.slice A6 2 c6)).run Try.prog w6 = .ok (.string ⟨#[97, 98]⟩) w6 := conv_sl r6.out
  go_wp2_with fail
  refine (size_at 256 _ (by omega)).mono ?_
  rintro e w7 ⟨rfl, rfl⟩
  rw [aw_size]
  go_wp2
  go_ret
  exact ⟨rfl, b6⟩
end Go.Proofs.Ytmmjkpdmjpoidaa
