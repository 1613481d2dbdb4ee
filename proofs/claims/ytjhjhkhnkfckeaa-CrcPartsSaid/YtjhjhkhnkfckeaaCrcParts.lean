/-
  The walk of the law CrcParts: it answers true, and leaves what was there as it was.
-/
import Derived.Test.YtjhjhkhnkfckeaaCrcStr
import Derived.Test.YtjhjhkhnkfckeaaByRow
namespace Go.Proofs.Ytjhjhkhnkfckeaa
open Go.RowKit
set_option linter.unusedVariables false

theorem crcParts_long (a0 : Option Addr) (len0 cap0 : Nat) (a1 : Option Addr) (len1 cap1 : Nat) (a2 : Option Addr) (len2 cap2 : Nat) (w : World) (h : 300 < len0 ∨ (len0 ≤ 300 ∧ 300 < len1) ∨ (len0 ≤ 300 ∧ len1 ≤ 300 ∧ 300 < len2)) :
    Calls Try.prog 4 #[.slice a0 len0 cap0, .slice a1 len1 cap1, .slice a2 len2 cap2] w fun e w' => e = .returned (.bool true) ∧ Below w.heap.size w w' := by
  rcases h with h | ⟨h0, h⟩ | ⟨h0, h1, h⟩
  · have d0 : (300 : Int) < (len0 : Int) := by omega
    go_enter Try.func4, Try.ntmps4
    go_wp2_with fail
    refine (awake4 _).mono ?_
    rintro e w1 ⟨rfl, hb1⟩
    go_wp2
    go_ret
    exact ⟨rfl, hb1⟩
  · have d0 : (len0 : Int) ≤ 300 := by omega
    have d1 : (300 : Int) < (len1 : Int) := by omega
    go_enter Try.func4, Try.ntmps4
    go_wp2_with fail
    refine (awake4 _).mono ?_
    rintro e w1 ⟨rfl, hb1⟩
    go_wp2
    go_ret
    exact ⟨rfl, hb1⟩
  · have d0 : (len0 : Int) ≤ 300 := by omega
    have d1 : (len1 : Int) ≤ 300 := by omega
    have d2 : (300 : Int) < (len2 : Int) := by omega
    go_enter Try.func4, Try.ntmps4
    go_wp2_with fail
    refine (awake4 _).mono ?_
    rintro e w1 ⟨rfl, hb1⟩
    go_wp2
    go_ret
    exact ⟨rfl, hb1⟩

set_option maxHeartbeats 1000000 in
theorem crcParts_short (a0 : Option Addr) (len0 cap0 : Nat) (xs : List (BitVec 8)) (a1 : Option Addr) (len1 cap1 : Nat) (ys : List (BitVec 8)) (a2 : Option Addr) (len2 cap2 : Nat) (zs : List (BitVec 8)) (w : World)
    (s0 : Sl 1 w a0 len0 cap0 (bytesV xs)) (s1 : Sl 1 w a1 len1 cap1 (bytesV ys)) (s2 : Sl 1 w a2 len2 cap2 (bytesV zs)) (l0 : xs.length = len0) (l1 : ys.length = len1) (l2 : zs.length = len2) (h0 : len0 ≤ 300) (h1 : len1 ≤ 300) (h2 : len2 ≤ 300) :
    Calls Try.prog 4 #[.slice a0 len0 cap0, .slice a1 len1 cap1, .slice a2 len2 cap2] w fun e w' => e = .returned (.bool true) ∧ Below w.heap.size w w' := by
  have d0 : (len0 : Int) ≤ 300 := by omega
  have d1 : (len1 : Int) ≤ 300 := by omega
  have d2 : (len2 : Int) ≤ 300 := by omega
  obtain ⟨c, hc⟩ : ∃ c, sumB (List.flatten [xs, ys, zs]) = c ∧ sumB (List.flatten [xs ++ ys ++ zs]) = c ∧ sumB (List.flatten [xs, ys ++ zs]) = c := ⟨_, rfl, by simp, by simp⟩
  have HC := Lib.hid hc
  have la : (xs ++ ys ++ zs).length = len0 + len1 + len2 := by rw [List.length_append, List.length_append, l0, l1, l2]
  have lq : (ys ++ zs).length = len1 + len2 := by rw [List.length_append, l1, l2]
  have HLA := Lib.hid la
  have HLQ := Lib.hid lq
  clear la lq
  have S0 := Lib.hid s0
  have S1 := Lib.hid s1
  have S2 := Lib.hid s2
  have L0 := Lib.hid l0
  have L1 := Lib.hid l1
  have L2 := Lib.hid l2
  clear s0 s1 s2 l0 l1 l2 hc
  go_enter Try.func4, Try.ntmps4
  go_wp2_with fail
  refine (awake4 _).mono ?_
  rintro e w2 ⟨rfl, hb2⟩
  have ho2 := own_new w2 5 1 0 #[] rfl (by decide)
  obtain ⟨A3, c3, w3, hr3, ho3, hg3, hl3⟩ := append_any (P := Try.prog) (w2.alloc (.cells #[] 5)) w2.heap.size 22 22 5 _ 1 1 Try.underlying22 u8_info rfl (by omega) ho2
    ((S0.out.below hb2).alloc _) (bytesV_one _) len0 (by omega) (bytesV xs) rfl (by omega) (by omega) (by simp)
  have hb3 := bel_grown ((hb2.alloc hb2.size _)) ho2 hb2.size hg3
  have hz3 : w2.heap.size ≤ w3.heap.size := by have := hg3.size; simp at this; omega
  obtain ⟨A4, c4, w4, hr4, ho4, hg4, hl4⟩ := append_any (P := Try.prog) w3 w2.heap.size 22 22 5 _ 1 1 Try.underlying22 u8_info rfl (by omega) ho3
    (S1.out.below hb3) (bytesV_one _) (len0 + len1) rfl (bytesV (xs ++ ys)) (by simp [bytesV]) (by omega) (by omega) hz3
  have hb4 := bel_grown hb3 ho3 hb2.size hg4
  have hz4 : w2.heap.size ≤ w4.heap.size := by have := hg4.size; omega
  obtain ⟨A5, c5, w5, hr5, ho5, hg5, hl5⟩ := append_any (P := Try.prog) w4 w2.heap.size 22 22 5 _ 1 1 Try.underlying22 u8_info rfl (by omega) ho4
    (S2.out.below hb4) (bytesV_one _) (len0 + len1 + len2) rfl (bytesV (xs ++ ys ++ zs)) (by simp [bytesV]) (by omega) (by omega) hz4
  have hb5 := bel_grown hb4 ho4 hb2.size hg5
  have HA := Lib.hid (byts_of_sl (Sl.of_own ho5))
  have HR3 := Lib.hid hr3
  have HR4 := Lib.hid hr4
  have HR5 := Lib.hid hr5
  clear ho2 ho3 ho4 ho5 hg3 hg4 hg5 hl3 hl4 hl5 hr3 hr4 hr5 hz3 hz4
  go_wp2_with (first | (at_builtin; refine wpList_append_run (o := ⟨some 26, _, _, _, _, _⟩) HR3.out rfl rfl rfl rfl ?_) | (at_builtin; refine wpList_append_run (o := ⟨some 28, _, _, _, _, _⟩) HR4.out rfl rfl rfl rfl ?_) | (at_builtin; refine wpList_append_run (o := ⟨some 30, _, _, _, _, _⟩) HR5.out rfl rfl rfl rfl ?_))
  have B0 := Lib.hid (byts_of_sl (S0.out.below hb5))
  have B1 := Lib.hid (byts_of_sl (S1.out.below hb5))
  have B2 := Lib.hid (byts_of_sl (S2.out.below hb5))
  clear hb2 hb3 hb4 HR3 HR4 HR5
  refine (crcsum_at _ 3 _ [xs, ys, zs] c _ (parts_three 22 B0.out L0.out (by omega) B1.out L1.out (by omega) B2.out L2.out (by omega) rfl) HC.out.1 rfl (by omega)).mono ?_
  rintro e w6 ⟨rfl, hb6⟩
  have hk6 := bel_on (bel_alloc (Below.refl w5.heap.size w5) _) hb6
  have HA6 := Lib.hid (HA.out.below hk6)
  have hb6' := bel_on hb5 hk6
  clear hb6
  go_wp2_with fail
  refine (crcsum_at _ 1 _ [xs ++ ys ++ zs] c _ (parts_one 22 HA6.out HLA.out (by omega) rfl) HC.out.2.1 rfl (by omega)).mono ?_
  rintro e w7 ⟨rfl, hb7⟩
  have hk7 := bel_on (bel_alloc (Below.refl w6.heap.size w6) _) hb7
  have HA7 := Lib.hid (HA6.out.below hk7)
  have hb7' := bel_on hb6' hk7
  clear hb7
  have ho8 := own_new w7 5 1 0 #[] rfl (by decide)
  obtain ⟨A8, c8, w8, hr8, ho8', hg8, hl8⟩ := append_any (P := Try.prog) (w7.alloc (.cells #[] 5)) w7.heap.size 22 22 5 _ 1 1 Try.underlying22 u8_info rfl (by omega) ho8
    ((S1.out.below hb7').alloc _) (bytesV_one _) len1 (by omega) (bytesV ys) rfl (by omega) (by omega) (by simp)
  have hb8 := bel_grown ((hb7'.alloc hb7'.size _)) ho8 hb7'.size hg8
  have hz8 : w7.heap.size ≤ w8.heap.size := by have := hg8.size; simp at this; omega
  obtain ⟨A9, c9, w9, hr9, ho9, hg9, hl9⟩ := append_any (P := Try.prog) w8 w7.heap.size 22 22 5 _ 1 1 Try.underlying22 u8_info rfl (by omega) ho8'
    (S2.out.below hb8) (bytesV_one _) (len1 + len2) rfl (bytesV (ys ++ zs)) (by simp [bytesV]) (by omega) (by omega) hz8
  have hb9 := bel_grown hb8 ho8' hb7'.size hg9
  have hq9 : Below w7.heap.size w7 w9 := bel_grown (bel_grown ((Below.refl _ _).alloc (Nat.le_refl _) _) ho8 (Nat.le_refl _) hg8) ho8' (Nat.le_refl _) hg9
  have HQ := Lib.hid (byts_of_sl (Sl.of_own ho9))
  have HR8 := Lib.hid hr8
  have HR9 := Lib.hid hr9
  have HA9 := Lib.hid (HA7.out.below hq9)
  have B9 := Lib.hid (byts_of_sl (S0.out.below hb9))
  clear ho8 ho8' ho9 hg8 hg9 hl8 hl9 hr8 hr9 hz8 hk6 hk7 hb6' hb5 hb7' hb8 hq9
  go_wp2_with (first | (at_builtin; refine wpList_append_run_on (o := ⟨some 47, _, _, _, _, _⟩) HR8.out rfl rfl rfl rfl ?_) | (at_builtin; refine wpList_append_run_on (o := ⟨some 49, _, _, _, _, _⟩) HR9.out rfl rfl rfl rfl ?_))
  clear HR8 HR9
  refine (crcsum_at _ 2 _ [xs, ys ++ zs] c _ (parts_two 22 B9.out L0.out (by omega) HQ.out HLQ.out (by omega) rfl) HC.out.2.2 rfl (by omega)).mono ?_
  rintro e w10 ⟨rfl, hb10⟩
  have hk10 := bel_on (bel_alloc (Below.refl w9.heap.size w9) _) hb10
  have HA10 := Lib.hid (HA9.out.below hk10)
  have hb10' := bel_on hb9 hk10
  clear hb10
  go_wp2_with fail
  refine (crcsum_at _ 1 _ [xs ++ ys ++ zs] c _ (parts_one 22 HA10.out HLA.out (by omega) rfl) HC.out.2.1 rfl (by omega)).mono ?_
  rintro e w11 ⟨rfl, hb11⟩
  have hb11' := bel_on (bel_alloc hb10' _) hb11
  clear hb11
  go_wp2
  go_ret
  exact ⟨rfl, hb11'⟩

theorem crcParts_walk (a0 : Option Addr) (len0 cap0 : Nat) (z0 : List Int) (a1 : Option Addr) (len1 cap1 : Nat) (z1 : List Int) (a2 : Option Addr) (len2 cap2 : Nat) (z2 : List Int) (w : World) (r0 : IsRow .u8 w a0 len0 cap0 z0) (r1 : IsRow .u8 w a1 len1 cap1 z1) (r2 : IsRow .u8 w a2 len2 cap2 z2) :
    Calls Try.prog 4 #[.slice a0 len0 cap0, .slice a1 len1 cap1, .slice a2 len2 cap2] w fun e w' => e = .returned (.bool true) ∧ Below w.heap.size w w' := by
  by_cases g : 300 < len0 ∨ (len0 ≤ 300 ∧ 300 < len1) ∨ (len0 ≤ 300 ∧ len1 ≤ 300 ∧ 300 < len2)
  · exact crcParts_long _ _ _ _ _ _ _ _ _ w g
  · obtain ⟨xs, l0, s0, _⟩ := bytes_of_row r0
    obtain ⟨ys, l1, s1, _⟩ := bytes_of_row r1
    obtain ⟨zs, l2, s2, _⟩ := bytes_of_row r2
    exact crcParts_short _ _ _ xs _ _ _ ys _ _ _ zs w s0 s1 s2 l0 l1 l2 (by omega) (by omega) (by omega)
end Go.Proofs.Ytjhjhkhnkfckeaa
