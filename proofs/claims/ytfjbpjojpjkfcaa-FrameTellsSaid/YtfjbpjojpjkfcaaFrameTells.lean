/-
  The walk of the law FrameTells: it answers true, and leaves what was there as it was.
-/
import Derived.Test.YtfjbpjojpjkfcaaFrAwake
import Derived.Test.YtfjbpjojpjkfcaaFrSame
import Derived.Test.YtfjbpjojpjkfcaaFrRefC
namespace Go.Proofs.Ytfjbpjojpjkfcaa
open Go.RowKit
set_option linter.unusedVariables false

theorem frameTells_out (A : Option Addr) (m c : Nat) (B : Option Addr) (n d : Nat) (w : World) (h : 3000 < m ∨ 3000 < n) :
    Calls Try.prog 3 #[.slice A m c, .slice B n d] w fun e w' => e = .returned (.bool true) ∧ Below w.heap.size w w' := by
  by_cases h1 : 3000 < m
  · have d0 : (3000 : Int) < (m : Int) := by omega
    go_enter Try.func3, Try.ntmps3
    go_wp2_with fail
    refine (awake6 _).mono ?_
    rintro e w1 ⟨rfl, hb1⟩
    go_wp2
    go_ret
    exact ⟨rfl, hb1⟩
  · have d0 : ¬ (3000 : Int) < (m : Int) := by omega
    have d1 : (3000 : Int) < (n : Int) := by omega
    go_enter Try.func3, Try.ntmps3
    go_wp2_with fail
    refine (awake6 _).mono ?_
    rintro e w1 ⟨rfl, hb1⟩
    go_wp2
    go_ret
    exact ⟨rfl, hb1⟩
set_option maxHeartbeats 2000000 in
set_option maxRecDepth 100000 in
theorem frameTells_none (A : Option Addr) (m c : Nat) (l : List (BitVec 8)) (B : Option Addr) (n d : Nat) (ts : List (BitVec 8)) (hf : takeF l = none) (w : World) (hx : Sl 1 w A m c (bytesV l)) (ht : Sl 1 w B n d (bytesV ts)) (hmc : m ≤ c) (hm : m ≤ 3000) (hn : n ≤ 3000) :
    Calls Try.prog 3 #[.slice A m c, .slice B n d] w fun e w' => e = .returned (.bool true) ∧ Below w.heap.size w w' := by
  have d0 : ¬ (3000 : Int) < (m : Int) := by omega
  have d1 : ¬ (3000 : Int) < (n : Int) := by omega
  have HX := Lib.hid hx
  have HT := Lib.hid ht
  obtain ⟨q, hq⟩ : ∃ q, m + (frameB ts).length = q := ⟨_, rfl⟩
  have hLq : (l ++ frameB ts).length = q := by rw [List.length_append, hx.blen, hq]
  have HP : Hid (∀ w, Sl 1 w A m c (bytesV l) → Sl 1 w B n d (bytesV ts) → Calls Try.prog 9 #[.slice A m c, .slice B n d] w fun e w' => ∃ A' c', e = .returned (.tuple #[.slice A' q c', .int .i64 0]) ∧ BRow w' w.heap.size A' c' (l ++ frameB ts) ∧ Below w.heap.size w w') := Lib.hid (fun w h h' => hq ▸ fput_ok A m c l B n d ts w h hmc h' (by omega) (by omega))
  have HRP : Hid (∀ w, Sl 1 w A m c (bytesV l) → Sl 1 w B n d (bytesV ts) → Calls Try.prog 10 #[.slice A m c, .slice B n d] w fun e w' => ∃ A' c', e = .returned (.tuple #[.slice A' q c', .int .i64 0]) ∧ BRow w' w.heap.size A' c' (l ++ frameB ts) ∧ Below w.heap.size w w') := Lib.hid (fun w h h' => hq ▸ rfput_any A m c l B n d ts w h h' (by omega) (by omega))
  have HLQ := Lib.hid hLq
  have H1 : Hid (∀ w, Sl 1 w A m c (bytesV l) → _) := Lib.hid (fun w h => ftake_none A m c l w h hmc (by omega) hf)
  have H2 : Hid (∀ w, Sl 1 w A m c (bytesV l) → _) := Lib.hid (fun w h => rftake_none A m c l w h (by omega) hmc hf)
  clear hf
  have HA : Hid (∀ w, Sl 1 w A m c (bytesV l) → _) := Lib.hid (fun w h => fall_any A m c l w h hmc (by omega))
  have HRA : Hid (∀ w, Sl 1 w A m c (bytesV l) → _) := Lib.hid (fun w h => rfall_any A m c l w h hmc (by omega))
  have hsq := (seq_len l.length l (Nat.le_refl _)).1
  have hsa := (seq_all l.length l (Nat.le_refl _)).1
  have hk2 : (allF l).1.length ≤ 3000 := by rw [← hsa, List.length_map]; have := hx.blen; omega
  generalize l ++ frameB ts = X at *
  generalize allF l = al at *
  obtain ⟨ps, sz⟩ := al
  simp only at HA HRA hk2
  clear hx ht hq hLq hsq hsa
  obtain ⟨pl, hpl⟩ : ∃ pl, ps.length = pl := ⟨_, rfl⟩
  rw [hpl] at HA HRA hk2
  have HPL := Lib.hid hpl
  clear hpl
  go_enter Try.func3, Try.ntmps3
  go_wp2_with fail
  refine (awake6 _).mono ?_
  rintro e w1 ⟨rfl, b1⟩
  go_wp2_with fail
  refine (HP.out _ (HX.out.below b1) (HT.out.below b1)).mono ?_
  rintro e w2 ⟨A2, c2, rfl, r2, b2⟩
  replace b2 := bel_on b1 b2
  replace r2 := Lib.hid (r2.slAt HLQ.out)
  clear b1
  go_wp2_with fail
  refine (HRP.out _ (HX.out.below b2) (HT.out.below b2)).mono ?_
  rintro e w3 ⟨A3, c3, rfl, r3, b3⟩
  replace r2 := Lib.hid (r2.out.below b3)
  replace r3 := Lib.hid (r3.slAt HLQ.out)
  replace b3 := bel_on b2 b3
  clear b2 HP HRP HT
  go_wp2_with fail
  refine (H1.out _ (HX.out.below b3)).mono ?_
  rintro e w4 ⟨rfl, b4⟩
  replace r2 := Lib.hid (r2.out.below b4)
  replace r3 := Lib.hid (r3.out.below b4)
  replace b4 := bel_on b3 b4
  clear b3
  go_wp2_with fail
  refine (H2.out _ (HX.out.below b4)).mono ?_
  rintro e w5 ⟨rfl, b5⟩
  replace r2 := Lib.hid (r2.out.below b5)
  replace r3 := Lib.hid (r3.out.below b5)
  replace b5 := bel_on b4 b5
  clear b4 H1 H2
  go_wp2_with fail
  refine (HA.out _ (HX.out.below b5)).mono ?_
  rintro e w6 ⟨D6, d6, rfl, r6, b6⟩
  have R6 := Lib.hid (r6.row.bssAt HPL.out)
  go_wp2_with fail
  refine (HRA.out _ ((HX.out.below b5).below b6)).mono ?_
  rintro e w7 ⟨D7, d7, rfl, r7, b7⟩
  have R7 := Lib.hid (r7.bssAt HPL.out)
  replace R6 := Lib.hid (R6.out.below b7)
  have b67 := bel_on b6 b7
  have hb7 := bel_on b5 b67
  clear HA HRA r6 r7 b6 b7
  have k2 := conv_sl (r2.out.below b67)
  have k3 := conv_sl (r3.out.below b67)
  have k0 := conv_sl (w := w7) (A := none) (n := 0) (c := 0) (l := []) Sl.nil_
  generalize txtB [] = t0 at *
  generalize txtB X = tX at *
  clear r2 r3
  go_wp2_with fail
  refine (same_any D6 pl d6 ps D7 pl d7 ps _ R6.out R7.out (by omega)).mono ?_
  rintro e w8 ⟨rfl, b8⟩
  have hb8 := bel_on hb7 b8
  rw [decide_eq_true rfl]
  go_wp2
  go_ret
  exact ⟨rfl, hb8⟩
set_option maxHeartbeats 2000000 in
set_option maxRecDepth 100000 in
theorem frameTells_some (A : Option Addr) (m c : Nat) (l : List (BitVec 8)) (B : Option Addr) (n d : Nat) (ts : List (BitVec 8)) (x z : List (BitVec 8)) (hf : takeF l = some (x, z)) (w : World) (hx : Sl 1 w A m c (bytesV l)) (ht : Sl 1 w B n d (bytesV ts)) (hmc : m ≤ c) (hm : m ≤ 3000) (hn : n ≤ 3000) :
    Calls Try.prog 3 #[.slice A m c, .slice B n d] w fun e w' => e = .returned (.bool true) ∧ Below w.heap.size w w' := by
  have d0 : ¬ (3000 : Int) < (m : Int) := by omega
  have d1 : ¬ (3000 : Int) < (n : Int) := by omega
  have HX := Lib.hid hx
  have HT := Lib.hid ht
  obtain ⟨q, hq⟩ : ∃ q, m + (frameB ts).length = q := ⟨_, rfl⟩
  have hLq : (l ++ frameB ts).length = q := by rw [List.length_append, hx.blen, hq]
  have HP : Hid (∀ w, Sl 1 w A m c (bytesV l) → Sl 1 w B n d (bytesV ts) → Calls Try.prog 9 #[.slice A m c, .slice B n d] w fun e w' => ∃ A' c', e = .returned (.tuple #[.slice A' q c', .int .i64 0]) ∧ BRow w' w.heap.size A' c' (l ++ frameB ts) ∧ Below w.heap.size w w') := Lib.hid (fun w h h' => hq ▸ fput_ok A m c l B n d ts w h hmc h' (by omega) (by omega))
  have HRP : Hid (∀ w, Sl 1 w A m c (bytesV l) → Sl 1 w B n d (bytesV ts) → Calls Try.prog 10 #[.slice A m c, .slice B n d] w fun e w' => ∃ A' c', e = .returned (.tuple #[.slice A' q c', .int .i64 0]) ∧ BRow w' w.heap.size A' c' (l ++ frameB ts) ∧ Below w.heap.size w w') := Lib.hid (fun w h h' => hq ▸ rfput_any A m c l B n d ts w h h' (by omega) (by omega))
  have HLQ := Lib.hid hLq
  have H1 : Hid (∀ w, Sl 1 w A m c (bytesV l) → _) := Lib.hid (fun w h => ftake_some A m c l x z w h hmc (by omega) hf)
  have H2 : Hid (∀ w, Sl 1 w A m c (bytesV l) → _) := Lib.hid (fun w h => rftake_some A m c l x z w h (by omega) hmc hf)
  clear hf
  have HA : Hid (∀ w, Sl 1 w A m c (bytesV l) → _) := Lib.hid (fun w h => fall_any A m c l w h hmc (by omega))
  have HRA : Hid (∀ w, Sl 1 w A m c (bytesV l) → _) := Lib.hid (fun w h => rfall_any A m c l w h hmc (by omega))
  have hsq := (seq_len l.length l (Nat.le_refl _)).1
  have hsa := (seq_all l.length l (Nat.le_refl _)).1
  have hk2 : (allF l).1.length ≤ 3000 := by rw [← hsa, List.length_map]; have := hx.blen; omega
  generalize l ++ frameB ts = X at *
  generalize allF l = al at *
  obtain ⟨ps, sz⟩ := al
  simp only at HA HRA hk2
  clear hx ht hq hLq hsq hsa
  obtain ⟨pl, hpl⟩ : ∃ pl, ps.length = pl := ⟨_, rfl⟩
  rw [hpl] at HA HRA hk2
  have HPL := Lib.hid hpl
  clear hpl
  go_enter Try.func3, Try.ntmps3
  go_wp2_with fail
  refine (awake6 _).mono ?_
  rintro e w1 ⟨rfl, b1⟩
  go_wp2_with fail
  refine (HP.out _ (HX.out.below b1) (HT.out.below b1)).mono ?_
  rintro e w2 ⟨A2, c2, rfl, r2, b2⟩
  replace b2 := bel_on b1 b2
  replace r2 := Lib.hid (r2.slAt HLQ.out)
  clear b1
  go_wp2_with fail
  refine (HRP.out _ (HX.out.below b2) (HT.out.below b2)).mono ?_
  rintro e w3 ⟨A3, c3, rfl, r3, b3⟩
  replace r2 := Lib.hid (r2.out.below b3)
  replace r3 := Lib.hid (r3.slAt HLQ.out)
  replace b3 := bel_on b2 b3
  clear b2 HP HRP HT
  go_wp2_with fail
  refine (H1.out _ (HX.out.below b3)).mono ?_
  rintro e w4 ⟨A4, c4, A5, c5, rfl, r4, r5, b4⟩
  replace r2 := Lib.hid (r2.out.below b4)
  replace r3 := Lib.hid (r3.out.below b4)
  replace r4 := Lib.hid r4.sl
  replace r5 := Lib.hid r5.sl
  replace b4 := bel_on b3 b4
  clear b3
  go_wp2_with fail
  refine (H2.out _ (HX.out.below b4)).mono ?_
  rintro e w5 ⟨A6, c6, A7, c7, rfl, r6, r7, _, _, b5⟩
  replace r2 := Lib.hid (r2.out.below b5)
  replace r3 := Lib.hid (r3.out.below b5)
  replace r4 := Lib.hid (r4.out.below b5)
  replace r5 := Lib.hid (r5.out.below b5)
  replace b5 := bel_on b4 b5
  have Q6 := Lib.hid (r6 w5 (HX.out.below b5))
  have Q7 := Lib.hid (r7 w5 (HX.out.below b5))
  clear b4 H1 H2 r6 r7
  go_wp2_with fail
  refine (HA.out _ (HX.out.below b5)).mono ?_
  rintro e w6 ⟨D6, d6, rfl, r6, b6⟩
  have R6 := Lib.hid (r6.row.bssAt HPL.out)
  go_wp2_with fail
  refine (HRA.out _ ((HX.out.below b5).below b6)).mono ?_
  rintro e w7 ⟨D7, d7, rfl, r7, b7⟩
  have R7 := Lib.hid (r7.bssAt HPL.out)
  replace R6 := Lib.hid (R6.out.below b7)
  have b67 := bel_on b6 b7
  have hb7 := bel_on b5 b67
  clear HA HRA r6 r7 b6 b7
  have k2 := conv_sl (r2.out.below b67)
  have k3 := conv_sl (r3.out.below b67)
  have k4 := conv_sl (r4.out.below b67)
  have k5 := conv_sl (r5.out.below b67)
  have k6 := conv_sl (Q6.out.below b67)
  have k7 := conv_sl (Q7.out.below b67)
  clear r4 r5 Q6 Q7
  generalize txtB x = t4 at *
  generalize txtB z = t5 at *
  generalize x.length = xl at *
  generalize z.length = zl at *
  generalize txtB X = tX at *
  clear r2 r3
  go_wp2_with fail
  refine (same_any D6 pl d6 ps D7 pl d7 ps _ R6.out R7.out (by omega)).mono ?_
  rintro e w8 ⟨rfl, b8⟩
  have hb8 := bel_on hb7 b8
  rw [decide_eq_true rfl]
  go_wp2
  go_ret
  exact ⟨rfl, hb8⟩
theorem frameTells_walk (a0 : Option Addr) (len0 cap0 : Nat) (z0 : List Int) (a1 : Option Addr) (len1 cap1 : Nat) (z1 : List Int) (w : World) (r0 : IsRow .u8 w a0 len0 cap0 z0) (r1 : IsRow .u8 w a1 len1 cap1 z1) :
    Calls Try.prog 3 #[.slice a0 len0 cap0, .slice a1 len1 cap1] w fun e w' => e = .returned (.bool true) ∧ Below w.heap.size w w' := by
  by_cases g : 3000 < len0 ∨ 3000 < len1
  · exact frameTells_out _ _ _ _ _ _ w g
  · obtain ⟨l, hl, s0, hm⟩ := bytes_of_row r0
    obtain ⟨ts, hl1, s1, hm1⟩ := bytes_of_row r1
    cases hf : takeF l with
    | none => exact frameTells_none _ _ _ l _ _ _ ts hf w s0 s1 (bytes_caps r0).1 (by omega) (by omega)
    | some y =>
      obtain ⟨x, z⟩ := y
      exact frameTells_some _ _ _ l _ _ _ ts x z hf w s0 s1 (bytes_caps r0).1 (by omega) (by omega)
end Go.Proofs.Ytfjbpjojpjkfcaa
