/-
  The walk of the law PackTells: it answers true, and leaves what was there as it was.
-/
import Derived.Test.YtmmjkpdmjpoidaaPkUn
import Derived.Test.YtmmjkpdmjpoidaaOrders
import Derived.RegionTactic
namespace Go.Proofs.Ytmmjkpdmjpoidaa
open Go.RowKit
set_option linter.unusedVariables false

theorem packTells_out (A : Option Addr) (k d : Nat) (B : Option Addr) (m c : Nat) (C : Option Addr) (n e : Nat) (w : World) (h : 1000 < k ∨ (k ≤ 1000 ∧ 1000 < m) ∨ (k ≤ 1000 ∧ m ≤ 1000 ∧ 1000 < n)) :
    Calls Try.prog 3 #[.slice A k d, .slice B m c, .slice C n e] w fun e w' => e = .returned (.bool true) ∧ Below w.heap.size w w' := by
  have h' : (1000 : Int) < (k : Int) ∨ ((k : Int) ≤ 1000 ∧ (1000 : Int) < (m : Int)) ∨ ((k : Int) ≤ 1000 ∧ (m : Int) ≤ 1000 ∧ (1000 : Int) < (n : Int)) := by omega
  clear h
  rcases h' with h | ⟨h, h'⟩ | ⟨h, h', h''⟩
  all_goals
    go_enter Try.func3, Try.ntmps3
    go_wp2_with fail
    refine (awake5 _).mono ?_
    rintro e w1 ⟨rfl, hb1⟩
    go_wp2
    go_ret
    exact ⟨rfl, hb1⟩
set_option maxRecDepth 100000 in
set_option maxHeartbeats 4000000 in
theorem packTells_none (A : Option Addr) (m c : Nat) (l : List (BitVec 8)) (B : Option Addr) (k d : Nat) (zs : List Int) (C : Option Addr) (n e : Nat) (ts : List (BitVec 8)) (w : World)
    (hs : Sl 1 w A m c (bytesV l)) (hmc : m ≤ c) (hm : m ≤ 1000) (hz : Nums w B zs) (hk : zs.length = k) (hzs : ∀ z ∈ zs, z ≤ 9223372036854775807) (hk1 : k ≤ 1000) (ht : Sl 1 w C n e (bytesV ts)) (hn : n ≤ 1000) (h0 : k = 0) :
    Calls Try.prog 3 #[.slice A m c, .slice B k d, .slice C n e] w fun e w' => e = .returned (.bool true) ∧ Below w.heap.size w w' := by
  have d0 : (m : Int) ≤ 1000 := by omega
  have d1 : (k : Int) ≤ 1000 := by omega
  have d2 : (n : Int) ≤ 1000 := by omega
  obtain ⟨X1, E1, h1⟩ : ∃ X E, putR l zs = (X, E) := ⟨_, _, rfl⟩
  obtain ⟨N2, X2, E2, h2⟩ : ∃ N X E, takeR l = (N, X, E) := ⟨_, _, _, rfl⟩
  obtain ⟨X3, Y3, E3, h3⟩ : ∃ X Y E, textR l = (X, Y, E) := ⟨_, _, _, rfl⟩
  obtain ⟨Z4, h4⟩ : ∃ Z, l ++ textB ts = Z := ⟨_, rfl⟩
  obtain ⟨n1, g1⟩ : ∃ n, X1.length = n := ⟨_, rfl⟩
  obtain ⟨n2, g2⟩ : ∃ n, X2.length = n := ⟨_, rfl⟩
  obtain ⟨n3, g3⟩ : ∃ n, X3.length = n := ⟨_, rfl⟩
  obtain ⟨o3, g3'⟩ : ∃ n, Y3.length = n := ⟨_, rfl⟩
  obtain ⟨n4, g4⟩ : ∃ n, Z4.length = n := ⟨_, rfl⟩
  have HP := Lib.hid (fun w hx hB => put_un A m c l B k d zs w X1 E1 n1 h1 g1 hx hB hk hzs hm hk1)
  have HQ := Lib.hid (fun w hx hB => rput_un A m c l B k d zs w X1 E1 n1 h1 g1 hx hB hk hzs hm hk1)
  have HT := Lib.hid (fun w hx => take_un A m c l w N2 X2 E2 n2 h2 g2 hx hmc hm)
  have HU := Lib.hid (fun w hx => rtake_un A m c l w N2 X2 E2 n2 h2 g2 hx hmc hm)
  have HX := Lib.hid (fun w hx => taketext_un A m c l w X3 Y3 E3 n3 o3 h3 g3 g3' hx hmc hm)
  have HY := Lib.hid (fun w hx => rtaketext_un A m c l w X3 Y3 E3 n3 o3 h3 g3 g3' hx hmc hm)
  have HV := Lib.hid (fun w hx hl => text_un C n e ts A m c w l Z4 n4 h4 g4 hx hl hn hm)
  have HW := Lib.hid (fun w hx hl => rtext_un C n e ts A m c w l Z4 n4 h4 g4 hx hl hn hm)
  have HC1 := Lib.hid (fun (w : World) (A : Option Addr) (c : Nat) (h : Sl 1 w A n1 c (bytesV X1)) => conv_sl h)
  have HC2 := Lib.hid (fun (w : World) (A : Option Addr) (c : Nat) (h : Sl 1 w A n2 c (bytesV X2)) => conv_sl h)
  have HC3 := Lib.hid (fun (w : World) (A : Option Addr) (c : Nat) (h : Sl 1 w A n3 c (bytesV X3)) => conv_sl h)
  have HC3' := Lib.hid (fun (w : World) (A : Option Addr) (c : Nat) (h : Sl 1 w A o3 c (bytesV Y3)) => conv_sl h)
  have HC4 := Lib.hid (fun (w : World) (A : Option Addr) (c : Nat) (h : Sl 1 w A n4 c (bytesV Z4)) => conv_sl h)
  generalize txtB X1 = s1 at *
  generalize txtB X2 = s2 at *
  generalize txtB X3 = s3 at *
  generalize txtB Y3 = s3' at *
  generalize txtB Z4 = s4 at *
  have HS := Lib.hid hs
  have HZ := Lib.hid hz
  have HE := Lib.hid ht
  subst h0
  clear hs hz ht hzs hk h1 h2 h3 h4 g1 g2 g3 g3' g4
  go_enter Try.func3, Try.ntmps3
  go_wp2_with fail
  refine (awake5 _).mono ?_
  rintro e w1 ⟨rfl, b1⟩
  go_wp2_with fail
  refine (HP.out _ (HS.out.below b1) (HZ.out.below b1)).mono ?_
  rintro e w2 ⟨P1, p1, rfl, S1, bb⟩
  replace S1 := Lib.hid S1
  replace b1 := bel_on b1 bb
  clear bb
  go_wp2_with fail
  refine (HQ.out _ (HS.out.below b1) (HZ.out.below b1)).mono ?_
  rintro e w3 ⟨P2, p2, rfl, S2, bb⟩
  replace S1 := Lib.hid (S1.out.below bb)
  replace S2 := Lib.hid S2
  replace b1 := bel_on b1 bb
  clear bb
  go_wp2_with fail
  refine (HT.out _ (HS.out.below b1)).mono ?_
  rintro e w4 ⟨P3, p3, rfl, S3, bb⟩
  replace S1 := Lib.hid (S1.out.below bb)
  replace S2 := Lib.hid (S2.out.below bb)
  replace S3 := Lib.hid S3
  replace b1 := bel_on b1 bb
  clear bb
  go_wp2_with fail
  refine (HU.out _ (HS.out.below b1)).mono ?_
  rintro e w5 ⟨P4, p4, rfl, S4, bb⟩
  replace S1 := Lib.hid (S1.out.below bb)
  replace S2 := Lib.hid (S2.out.below bb)
  replace S3 := Lib.hid (S3.out.below bb)
  replace S4 := Lib.hid S4
  replace b1 := bel_on b1 bb
  clear bb
  go_wp2_with fail
  refine (HX.out _ (HS.out.below b1)).mono ?_
  rintro e w6 ⟨P5, p5, P6, p6, rfl, S5, S6, bb⟩
  replace S1 := Lib.hid (S1.out.below bb)
  replace S2 := Lib.hid (S2.out.below bb)
  replace S3 := Lib.hid (S3.out.below bb)
  replace S4 := Lib.hid (S4.out.below bb)
  replace S5 := Lib.hid S5
  replace S6 := Lib.hid S6
  replace b1 := bel_on b1 bb
  clear bb
  go_wp2_with fail
  refine (HY.out _ (HS.out.below b1)).mono ?_
  rintro e w7 ⟨P7, p7, P8, p8, rfl, S7, S8, bb⟩
  replace S1 := Lib.hid (S1.out.below bb)
  replace S2 := Lib.hid (S2.out.below bb)
  replace S3 := Lib.hid (S3.out.below bb)
  replace S4 := Lib.hid (S4.out.below bb)
  replace S5 := Lib.hid (S5.out.below bb)
  replace S6 := Lib.hid (S6.out.below bb)
  replace S7 := Lib.hid S7
  replace S8 := Lib.hid S8
  replace b1 := bel_on b1 bb
  clear bb
  clear HP HQ HT HU HX HY
  go_wp2_with fail
  refine wp_region_noPanic ?_
  refine wp_region_held_drew (S := fun w' => Below w7.heap.size w7 w') (by kernel_rfl) (below_drew (Below.refl _ _)) (fun hHeld => ?_)
  refine wpAnyH_take (i := 0) (oi := ⟨some 76, _, _, _, _, _⟩) (v := ?_) rfl (by kernel_rfl) (by kernel_rfl) (by kernel_rfl) (fun _ _ _ h => h) (Or.inl ⟨by rfl, ?_⟩) hHeld ?_
  rotate_left
  · intro ww hSw
    (try dsimp only at hSw)
    go_simp
    (try with_reducible rfl)
  simp only [Act.put, List.setIfInBounds_toArray, List.set_cons_zero, List.set_cons_succ]
  refine wpAnyH_take (i := 1) (oi := ⟨some 77, _, _, _, _, _⟩) (v := ?_) rfl (by kernel_rfl) (by kernel_rfl) (by kernel_rfl) (fun _ _ _ h => h) (Or.inl ⟨by rfl, ?_⟩) hHeld ?_
  rotate_left
  · intro ww hSw
    (try dsimp only at hSw)
    go_simp
    (try with_reducible rfl)
  simp only [Act.put, List.setIfInBounds_toArray, List.set_cons_zero, List.set_cons_succ]
  refine wpAnyH_take (i := 2) (oi := ⟨some 78, _, _, _, _, _⟩) (v := ?_) rfl (by kernel_rfl) (by kernel_rfl) (by kernel_rfl) (fun _ _ _ h => h) (Or.inl ⟨by rfl, ?_⟩) hHeld ?_
  rotate_left
  · intro ww hSw
    (try dsimp only at hSw)
    go_simp
    (try with_reducible rfl)
  simp only [Act.put, List.setIfInBounds_toArray, List.set_cons_zero, List.set_cons_succ]
  refine wpAnyH_take (i := 3) (oi := ⟨some 79, _, _, _, _, _⟩) (v := ?_) rfl (by kernel_rfl) (by kernel_rfl) (by kernel_rfl) (fun _ _ _ h => h) (Or.inl ⟨by rfl, ?_⟩) hHeld ?_
  rotate_left
  · intro ww hSw
    (try dsimp only at hSw)
    go_simp
    (try with_reducible rfl)
  simp only [Act.put, List.setIfInBounds_toArray, List.set_cons_zero, List.set_cons_succ]
  refine wpAnyH_take (i := 4) (oi := ⟨some 80, _, _, _, _, _⟩) (v := undef) rfl (by kernel_rfl) (by kernel_rfl) (by kernel_rfl) (fun _ _ _ h => h) (Or.inr ⟨by rfl, rfl⟩) hHeld ?_
  simp only [Act.put, List.setIfInBounds_toArray, List.set_cons_zero, List.set_cons_succ]
  refine wpAnyH_take (i := 5) (oi := ⟨some 81, _, _, _, _, _⟩) (v := undef) rfl (by kernel_rfl) (by kernel_rfl) (by kernel_rfl) (fun _ _ _ h => h) (Or.inr ⟨by rfl, rfl⟩) hHeld ?_
  simp only [Act.put, List.setIfInBounds_toArray, List.set_cons_zero, List.set_cons_succ]
  refine wpAnyH_take (i := 6) (oi := ⟨some 82, _, _, _, _, _⟩) (v := undef) rfl (by kernel_rfl) (by kernel_rfl) (by kernel_rfl) (fun _ _ _ h => h) (Or.inr ⟨by rfl, rfl⟩) hHeld ?_
  simp only [Act.put, List.setIfInBounds_toArray, List.set_cons_zero, List.set_cons_succ]
  refine wpAnyH_take (i := 7) (oi := ⟨some 83, _, _, _, _, _⟩) (v := undef) rfl (by kernel_rfl) (by kernel_rfl) (by kernel_rfl) (fun _ _ _ h => h) (Or.inr ⟨by rfl, rfl⟩) hHeld ?_
  simp only [Act.put, List.setIfInBounds_toArray, List.set_cons_zero, List.set_cons_succ]
  refine wpAnyH_take (i := 8) (oi := ⟨some 84, _, _, _, _, _⟩) (v := undef) rfl (by kernel_rfl) (by kernel_rfl) (by kernel_rfl) (fun _ _ _ h => h) (Or.inr ⟨by rfl, rfl⟩) hHeld ?_
  simp only [Act.put, List.setIfInBounds_toArray, List.set_cons_zero, List.set_cons_succ]
  refine wpAnyH_take (i := 9) (oi := ⟨some 85, _, _, _, _, _⟩) (v := undef) rfl (by kernel_rfl) (by kernel_rfl) (by kernel_rfl) (fun _ _ _ h => h) (Or.inr ⟨by rfl, rfl⟩) hHeld ?_
  simp only [Act.put, List.setIfInBounds_toArray, List.set_cons_zero, List.set_cons_succ]
  refine wpAnyH_take (i := 10) (oi := ⟨some 86, _, _, _, _, _⟩) (v := undef) rfl (by kernel_rfl) (by kernel_rfl) (by kernel_rfl) (fun _ _ _ h => h) (Or.inr ⟨by rfl, rfl⟩) hHeld ?_
  simp only [Act.put, List.setIfInBounds_toArray, List.set_cons_zero, List.set_cons_succ]
  refine wpAnyH_take (i := 11) (oi := ⟨some 87, _, _, _, _, _⟩) (v := undef) rfl (by kernel_rfl) (by kernel_rfl) (by kernel_rfl) (fun _ _ _ h => h) (Or.inr ⟨by rfl, rfl⟩) hHeld ?_
  simp only [Act.put, List.setIfInBounds_toArray, List.set_cons_zero, List.set_cons_succ]
  refine wpAnyH_take (i := 12) (oi := ⟨some 88, _, _, _, _, _⟩) (v := undef) rfl (by kernel_rfl) (by kernel_rfl) (by kernel_rfl) (fun _ _ _ h => h) (Or.inr ⟨by rfl, rfl⟩) hHeld ?_
  simp only [Act.put, List.setIfInBounds_toArray, List.set_cons_zero, List.set_cons_succ]
  refine wpAnyH_take (i := 13) (oi := ⟨some 89, _, _, _, _, _⟩) (v := ?_) rfl (by kernel_rfl) (by kernel_rfl) (by kernel_rfl) (fun _ _ _ h => h) (Or.inl ⟨by rfl, ?_⟩) hHeld ?_
  rotate_left
  · intro ww hSw
    (try dsimp only at hSw)
    go_simp
    (try with_reducible rfl)
  simp only [Act.put, List.setIfInBounds_toArray, List.set_cons_zero, List.set_cons_succ]
  refine wpAnyH_take (i := 14) (oi := ⟨some 24, _, _, _, _, _⟩) (v := ?_) rfl (by kernel_rfl) (by kernel_rfl) (by kernel_rfl) (fun _ _ _ h => h) (Or.inl ⟨by rfl, ?_⟩) hHeld ?_
  rotate_left
  · intro ww hSw
    (try dsimp only at hSw)
    go_simp
    (try with_reducible rfl)
  simp only [Act.put, List.setIfInBounds_toArray, List.set_cons_zero, List.set_cons_succ]
  refine wpAnyH_done (by kernel_rfl) ?_ _
  refine NoPanic.normal ?_
  have b8 : Below w7.heap.size w7 w7.drew := below_drew (Below.refl _ _)
  generalize w7.drew = w8 at *
  replace S1 := Lib.hid (S1.out.below b8)
  replace S2 := Lib.hid (S2.out.below b8)
  replace S3 := Lib.hid (S3.out.below b8)
  replace S4 := Lib.hid (S4.out.below b8)
  replace S5 := Lib.hid (S5.out.below b8)
  replace S6 := Lib.hid (S6.out.below b8)
  replace S7 := Lib.hid (S7.out.below b8)
  replace S8 := Lib.hid (S8.out.below b8)
  replace b1 := bel_on b1 b8
  have HS' := Lib.hid (HS.out.below b1)
  have HE' := Lib.hid (HE.out.below b1)
  clear HS HZ HE
  go_wp2_with fail
  refine wp_region_noPanic ?_
  refine wp_region_held_drew (S := fun w' => Below w8.heap.size w8 w') (by kernel_rfl) (below_drew (Below.refl _ _)) (fun hHeld => ?_)
  refine wpAnyH_take (i := 0) (oi := ⟨some 90, _, _, _, _, _⟩) (v := ?_) rfl (by kernel_rfl) (by kernel_rfl) (by kernel_rfl) (fun _ _ _ h => h) (Or.inl ⟨by rfl, ?_⟩) hHeld ?_
  rotate_left
  · intro ww hSw
    (try dsimp only at hSw)
    go_simp
    (try with_reducible rfl)
  simp only [Act.put, List.setIfInBounds_toArray, List.set_cons_zero, List.set_cons_succ]
  refine wpAnyH_take (i := 1) (oi := ⟨some 91, _, _, _, _, _⟩) (v := ?_) rfl (by kernel_rfl) (by kernel_rfl) (by kernel_rfl) (fun _ _ _ h => h) (Or.inl ⟨by rfl, ?_⟩) hHeld ?_
  rotate_left
  · intro ww hSw
    (try dsimp only at hSw)
    go_simp
    (try with_reducible rfl)
  simp only [Act.put, List.setIfInBounds_toArray, List.set_cons_zero, List.set_cons_succ]
  refine wpAnyH_take (i := 2) (oi := ⟨some 92, _, _, _, _, _⟩) (v := ?_) rfl (by kernel_rfl) (by kernel_rfl) (by kernel_rfl) (fun _ _ _ h => h) (Or.inl ⟨by rfl, ?_⟩) hHeld ?_
  rotate_left
  · intro ww hSw
    (try dsimp only at hSw)
    go_simp
    (try with_reducible rfl)
  simp only [Act.put, List.setIfInBounds_toArray, List.set_cons_zero, List.set_cons_succ]
  refine wpAnyH_take (i := 3) (oi := ⟨some 93, _, _, _, _, _⟩) (v := ?_) rfl (by kernel_rfl) (by kernel_rfl) (by kernel_rfl) (fun _ _ _ h => h) (Or.inl ⟨by rfl, ?_⟩) hHeld ?_
  rotate_left
  · intro ww hSw
    (try dsimp only at hSw)
    go_simp
    (try with_reducible rfl)
  simp only [Act.put, List.setIfInBounds_toArray, List.set_cons_zero, List.set_cons_succ]
  refine wpAnyH_take (i := 4) (oi := ⟨some 94, _, _, _, _, _⟩) (v := ?_) rfl (by kernel_rfl) (by kernel_rfl) (by kernel_rfl) (fun _ _ _ h => h) (Or.inl ⟨by rfl, ?_⟩) hHeld ?_
  rotate_left
  · intro ww hSw
    (try dsimp only at hSw)
    go_simp
    (try with_reducible rfl)
  simp only [Act.put, List.setIfInBounds_toArray, List.set_cons_zero, List.set_cons_succ]
  refine wpAnyH_take (i := 5) (oi := ⟨some 95, _, _, _, _, _⟩) (v := ?_) rfl (by kernel_rfl) (by kernel_rfl) (by kernel_rfl) (fun _ _ _ h => h) (Or.inl ⟨by rfl, ?_⟩) hHeld ?_
  rotate_left
  · intro ww hSw
    (try dsimp only at hSw)
    go_simp
    (try with_reducible rfl)
  simp only [Act.put, List.setIfInBounds_toArray, List.set_cons_zero, List.set_cons_succ]
  refine wpAnyH_take (i := 6) (oi := ⟨some 96, _, _, _, _, _⟩) (v := .string s1) rfl (by kernel_rfl) (by kernel_rfl) (by kernel_rfl) (fun _ _ _ h => h) (Or.inl ⟨by rfl, ?_⟩) hHeld ?_
  · intro ww hSw
    (try dsimp only at hSw)
    have hcv := HC1.out ww P1 p1 (S1.out.below hSw)
    go_simp
  simp only [Act.put, List.setIfInBounds_toArray, List.set_cons_zero, List.set_cons_succ]
  refine wpAnyH_take (i := 7) (oi := ⟨some 97, _, _, _, _, _⟩) (v := ?_) rfl (by kernel_rfl) (by kernel_rfl) (by kernel_rfl) (fun _ _ _ h => h) (Or.inl ⟨by rfl, ?_⟩) hHeld ?_
  rotate_left
  · intro ww hSw
    (try dsimp only at hSw)
    go_simp
    (try with_reducible rfl)
  simp only [Act.put, List.setIfInBounds_toArray, List.set_cons_zero, List.set_cons_succ]
  refine wpAnyH_take (i := 8) (oi := ⟨some 98, _, _, _, _, _⟩) (v := .string s1) rfl (by kernel_rfl) (by kernel_rfl) (by kernel_rfl) (fun _ _ _ h => h) (Or.inl ⟨by rfl, ?_⟩) hHeld ?_
  · intro ww hSw
    (try dsimp only at hSw)
    have hcv := HC1.out ww P2 p2 (S2.out.below hSw)
    go_simp
  simp only [Act.put, List.setIfInBounds_toArray, List.set_cons_zero, List.set_cons_succ]
  refine wpAnyH_take (i := 9) (oi := ⟨some 99, _, _, _, _, _⟩) (v := ?_) rfl (by kernel_rfl) (by kernel_rfl) (by kernel_rfl) (fun _ _ _ h => h) (Or.inl ⟨by rfl, ?_⟩) hHeld ?_
  rotate_left
  · intro ww hSw
    (try dsimp only at hSw)
    go_simp
    (try with_reducible rfl)
  simp only [Act.put, List.setIfInBounds_toArray, List.set_cons_zero, List.set_cons_succ]
  refine wpAnyH_take (i := 10) (oi := ⟨some 100, _, _, _, _, _⟩) (v := ?_) rfl (by kernel_rfl) (by kernel_rfl) (by kernel_rfl) (fun _ _ _ h => h) (Or.inl ⟨by rfl, ?_⟩) hHeld ?_
  rotate_left
  · intro ww hSw
    (try dsimp only at hSw)
    go_simp
    (try with_reducible rfl)
  simp only [Act.put, List.setIfInBounds_toArray, List.set_cons_zero, List.set_cons_succ]
  refine wpAnyH_take (i := 11) (oi := ⟨some 101, _, _, _, _, _⟩) (v := ?_) rfl (by kernel_rfl) (by kernel_rfl) (by kernel_rfl) (fun _ _ _ h => h) (Or.inl ⟨by rfl, ?_⟩) hHeld ?_
  rotate_left
  · intro ww hSw
    (try dsimp only at hSw)
    go_simp
    (try with_reducible rfl)
  simp only [Act.put, List.setIfInBounds_toArray, List.set_cons_zero, List.set_cons_succ]
  refine wpAnyH_take (i := 12) (oi := ⟨some 102, _, _, _, _, _⟩) (v := ?_) rfl (by kernel_rfl) (by kernel_rfl) (by kernel_rfl) (fun _ _ _ h => h) (Or.inl ⟨by rfl, ?_⟩) hHeld ?_
  rotate_left
  · intro ww hSw
    (try dsimp only at hSw)
    go_simp
    (try with_reducible rfl)
  simp only [Act.put, List.setIfInBounds_toArray, List.set_cons_zero, List.set_cons_succ]
  refine wpAnyH_take (i := 13) (oi := ⟨some 103, _, _, _, _, _⟩) (v := ?_) rfl (by kernel_rfl) (by kernel_rfl) (by kernel_rfl) (fun _ _ _ h => h) (Or.inl ⟨by rfl, ?_⟩) hHeld ?_
  rotate_left
  · intro ww hSw
    (try dsimp only at hSw)
    go_simp
    (try with_reducible rfl)
  simp only [Act.put, List.setIfInBounds_toArray, List.set_cons_zero, List.set_cons_succ]
  refine wpAnyH_take (i := 14) (oi := ⟨some 104, _, _, _, _, _⟩) (v := ?_) rfl (by kernel_rfl) (by kernel_rfl) (by kernel_rfl) (fun _ _ _ h => h) (Or.inl ⟨by rfl, ?_⟩) hHeld ?_
  rotate_left
  · intro ww hSw
    (try dsimp only at hSw)
    go_simp
    (try with_reducible rfl)
  simp only [Act.put, List.setIfInBounds_toArray, List.set_cons_zero, List.set_cons_succ]
  refine wpAnyH_take (i := 15) (oi := ⟨some 105, _, _, _, _, _⟩) (v := ?_) rfl (by kernel_rfl) (by kernel_rfl) (by kernel_rfl) (fun _ _ _ h => h) (Or.inl ⟨by rfl, ?_⟩) hHeld ?_
  rotate_left
  · intro ww hSw
    (try dsimp only at hSw)
    go_simp
    (try with_reducible rfl)
  simp only [Act.put, List.setIfInBounds_toArray, List.set_cons_zero, List.set_cons_succ]
  refine wpAnyH_take (i := 16) (oi := ⟨some 106, _, _, _, _, _⟩) (v := ?_) rfl (by kernel_rfl) (by kernel_rfl) (by kernel_rfl) (fun _ _ _ h => h) (Or.inl ⟨by rfl, ?_⟩) hHeld ?_
  rotate_left
  · intro ww hSw
    (try dsimp only at hSw)
    go_simp
    (try with_reducible rfl)
  simp only [Act.put, List.setIfInBounds_toArray, List.set_cons_zero, List.set_cons_succ]
  refine wpAnyH_take (i := 17) (oi := ⟨some 107, _, _, _, _, _⟩) (v := ?_) rfl (by kernel_rfl) (by kernel_rfl) (by kernel_rfl) (fun _ _ _ h => h) (Or.inl ⟨by rfl, ?_⟩) hHeld ?_
  rotate_left
  · intro ww hSw
    (try dsimp only at hSw)
    go_simp
    (try with_reducible rfl)
  simp only [Act.put, List.setIfInBounds_toArray, List.set_cons_zero, List.set_cons_succ]
  refine wpAnyH_take (i := 18) (oi := ⟨some 108, _, _, _, _, _⟩) (v := ?_) rfl (by kernel_rfl) (by kernel_rfl) (by kernel_rfl) (fun _ _ _ h => h) (Or.inl ⟨by rfl, ?_⟩) hHeld ?_
  rotate_left
  · intro ww hSw
    (try dsimp only at hSw)
    go_simp
    (try with_reducible rfl)
  simp only [Act.put, List.setIfInBounds_toArray, List.set_cons_zero, List.set_cons_succ]
  refine wpAnyH_take (i := 19) (oi := ⟨some 109, _, _, _, _, _⟩) (v := ?_) rfl (by kernel_rfl) (by kernel_rfl) (by kernel_rfl) (fun _ _ _ h => h) (Or.inl ⟨by rfl, ?_⟩) hHeld ?_
  rotate_left
  · intro ww hSw
    (try dsimp only at hSw)
    go_simp
    (try with_reducible rfl)
  simp only [Act.put, List.setIfInBounds_toArray, List.set_cons_zero, List.set_cons_succ]
  refine wpAnyH_take (i := 20) (oi := ⟨some 110, _, _, _, _, _⟩) (v := ?_) rfl (by kernel_rfl) (by kernel_rfl) (by kernel_rfl) (fun _ _ _ h => h) (Or.inl ⟨by rfl, ?_⟩) hHeld ?_
  rotate_left
  · intro ww hSw
    (try dsimp only at hSw)
    go_simp
    (try with_reducible rfl)
  simp only [Act.put, List.setIfInBounds_toArray, List.set_cons_zero, List.set_cons_succ]
  refine wpAnyH_take (i := 21) (oi := ⟨some 111, _, _, _, _, _⟩) (v := ?_) rfl (by kernel_rfl) (by kernel_rfl) (by kernel_rfl) (fun _ _ _ h => h) (Or.inl ⟨by rfl, ?_⟩) hHeld ?_
  rotate_left
  · intro ww hSw
    (try dsimp only at hSw)
    go_simp
    (try with_reducible rfl)
  simp only [Act.put, List.setIfInBounds_toArray, List.set_cons_zero, List.set_cons_succ]
  refine wpAnyH_take (i := 22) (oi := ⟨some 112, _, _, _, _, _⟩) (v := ?_) rfl (by kernel_rfl) (by kernel_rfl) (by kernel_rfl) (fun _ _ _ h => h) (Or.inl ⟨by rfl, ?_⟩) hHeld ?_
  rotate_left
  · intro ww hSw
    (try dsimp only at hSw)
    go_simp
    (try with_reducible rfl)
  simp only [Act.put, List.setIfInBounds_toArray, List.set_cons_zero, List.set_cons_succ]
  refine wpAnyH_take (i := 23) (oi := ⟨some 113, _, _, _, _, _⟩) (v := .string s2) rfl (by kernel_rfl) (by kernel_rfl) (by kernel_rfl) (fun _ _ _ h => h) (Or.inl ⟨by rfl, ?_⟩) hHeld ?_
  · intro ww hSw
    (try dsimp only at hSw)
    have hcv := HC2.out ww P3 p3 (S3.out.below hSw)
    go_simp
  simp only [Act.put, List.setIfInBounds_toArray, List.set_cons_zero, List.set_cons_succ]
  refine wpAnyH_take (i := 24) (oi := ⟨some 114, _, _, _, _, _⟩) (v := ?_) rfl (by kernel_rfl) (by kernel_rfl) (by kernel_rfl) (fun _ _ _ h => h) (Or.inl ⟨by rfl, ?_⟩) hHeld ?_
  rotate_left
  · intro ww hSw
    (try dsimp only at hSw)
    go_simp
    (try with_reducible rfl)
  simp only [Act.put, List.setIfInBounds_toArray, List.set_cons_zero, List.set_cons_succ]
  refine wpAnyH_take (i := 25) (oi := ⟨some 115, _, _, _, _, _⟩) (v := .string s2) rfl (by kernel_rfl) (by kernel_rfl) (by kernel_rfl) (fun _ _ _ h => h) (Or.inl ⟨by rfl, ?_⟩) hHeld ?_
  · intro ww hSw
    (try dsimp only at hSw)
    have hcv := HC2.out ww P4 p4 (S4.out.below hSw)
    go_simp
  simp only [Act.put, List.setIfInBounds_toArray, List.set_cons_zero, List.set_cons_succ]
  refine wpAnyH_take (i := 26) (oi := ⟨some 116, _, _, _, _, _⟩) (v := ?_) rfl (by kernel_rfl) (by kernel_rfl) (by kernel_rfl) (fun _ _ _ h => h) (Or.inl ⟨by rfl, ?_⟩) hHeld ?_
  rotate_left
  · intro ww hSw
    (try dsimp only at hSw)
    go_simp
    (try with_reducible rfl)
  simp only [Act.put, List.setIfInBounds_toArray, List.set_cons_zero, List.set_cons_succ]
  refine wpAnyH_take (i := 27) (oi := ⟨some 117, _, _, _, _, _⟩) (v := ?_) rfl (by kernel_rfl) (by kernel_rfl) (by kernel_rfl) (fun _ _ _ h => h) (Or.inl ⟨by rfl, ?_⟩) hHeld ?_
  rotate_left
  · intro ww hSw
    (try dsimp only at hSw)
    go_simp
    (try with_reducible rfl)
  simp only [Act.put, List.setIfInBounds_toArray, List.set_cons_zero, List.set_cons_succ]
  refine wpAnyH_take (i := 28) (oi := ⟨some 118, _, _, _, _, _⟩) (v := ?_) rfl (by kernel_rfl) (by kernel_rfl) (by kernel_rfl) (fun _ _ _ h => h) (Or.inl ⟨by rfl, ?_⟩) hHeld ?_
  rotate_left
  · intro ww hSw
    (try dsimp only at hSw)
    go_simp
    (try with_reducible rfl)
  simp only [Act.put, List.setIfInBounds_toArray, List.set_cons_zero, List.set_cons_succ]
  refine wpAnyH_take (i := 29) (oi := ⟨some 119, _, _, _, _, _⟩) (v := ?_) rfl (by kernel_rfl) (by kernel_rfl) (by kernel_rfl) (fun _ _ _ h => h) (Or.inl ⟨by rfl, ?_⟩) hHeld ?_
  rotate_left
  · intro ww hSw
    (try dsimp only at hSw)
    go_simp
    (try with_reducible rfl)
  simp only [Act.put, List.setIfInBounds_toArray, List.set_cons_zero, List.set_cons_succ]
  refine wpAnyH_take (i := 30) (oi := ⟨some 120, _, _, _, _, _⟩) (v := ?_) rfl (by kernel_rfl) (by kernel_rfl) (by kernel_rfl) (fun _ _ _ h => h) (Or.inl ⟨by rfl, ?_⟩) hHeld ?_
  rotate_left
  · intro ww hSw
    (try dsimp only at hSw)
    go_simp
    (try with_reducible rfl)
  simp only [Act.put, List.setIfInBounds_toArray, List.set_cons_zero, List.set_cons_succ]
  refine wpAnyH_take (i := 31) (oi := ⟨some 121, _, _, _, _, _⟩) (v := ?_) rfl (by kernel_rfl) (by kernel_rfl) (by kernel_rfl) (fun _ _ _ h => h) (Or.inl ⟨by rfl, ?_⟩) hHeld ?_
  rotate_left
  · intro ww hSw
    (try dsimp only at hSw)
    go_simp
    (try with_reducible rfl)
  simp only [Act.put, List.setIfInBounds_toArray, List.set_cons_zero, List.set_cons_succ]
  refine wpAnyH_take (i := 32) (oi := ⟨some 122, _, _, _, _, _⟩) (v := ?_) rfl (by kernel_rfl) (by kernel_rfl) (by kernel_rfl) (fun _ _ _ h => h) (Or.inl ⟨by rfl, ?_⟩) hHeld ?_
  rotate_left
  · intro ww hSw
    (try dsimp only at hSw)
    go_simp
    (try with_reducible rfl)
  simp only [Act.put, List.setIfInBounds_toArray, List.set_cons_zero, List.set_cons_succ]
  refine wpAnyH_take (i := 33) (oi := ⟨some 123, _, _, _, _, _⟩) (v := ?_) rfl (by kernel_rfl) (by kernel_rfl) (by kernel_rfl) (fun _ _ _ h => h) (Or.inl ⟨by rfl, ?_⟩) hHeld ?_
  rotate_left
  · intro ww hSw
    (try dsimp only at hSw)
    go_simp
    (try with_reducible rfl)
  simp only [Act.put, List.setIfInBounds_toArray, List.set_cons_zero, List.set_cons_succ]
  refine wpAnyH_take (i := 34) (oi := ⟨some 124, _, _, _, _, _⟩) (v := ?_) rfl (by kernel_rfl) (by kernel_rfl) (by kernel_rfl) (fun _ _ _ h => h) (Or.inl ⟨by rfl, ?_⟩) hHeld ?_
  rotate_left
  · intro ww hSw
    (try dsimp only at hSw)
    go_simp
    (try with_reducible rfl)
  simp only [Act.put, List.setIfInBounds_toArray, List.set_cons_zero, List.set_cons_succ]
  refine wpAnyH_take (i := 35) (oi := ⟨some 125, _, _, _, _, _⟩) (v := .string s3) rfl (by kernel_rfl) (by kernel_rfl) (by kernel_rfl) (fun _ _ _ h => h) (Or.inl ⟨by rfl, ?_⟩) hHeld ?_
  · intro ww hSw
    (try dsimp only at hSw)
    have hcv := HC3.out ww P5 p5 (S5.out.below hSw)
    go_simp
  simp only [Act.put, List.setIfInBounds_toArray, List.set_cons_zero, List.set_cons_succ]
  refine wpAnyH_take (i := 36) (oi := ⟨some 126, _, _, _, _, _⟩) (v := ?_) rfl (by kernel_rfl) (by kernel_rfl) (by kernel_rfl) (fun _ _ _ h => h) (Or.inl ⟨by rfl, ?_⟩) hHeld ?_
  rotate_left
  · intro ww hSw
    (try dsimp only at hSw)
    go_simp
    (try with_reducible rfl)
  simp only [Act.put, List.setIfInBounds_toArray, List.set_cons_zero, List.set_cons_succ]
  refine wpAnyH_take (i := 37) (oi := ⟨some 127, _, _, _, _, _⟩) (v := .string s3) rfl (by kernel_rfl) (by kernel_rfl) (by kernel_rfl) (fun _ _ _ h => h) (Or.inl ⟨by rfl, ?_⟩) hHeld ?_
  · intro ww hSw
    (try dsimp only at hSw)
    have hcv := HC3.out ww P7 p7 (S7.out.below hSw)
    go_simp
  simp only [Act.put, List.setIfInBounds_toArray, List.set_cons_zero, List.set_cons_succ]
  refine wpAnyH_take (i := 38) (oi := ⟨some 128, _, _, _, _, _⟩) (v := ?_) rfl (by kernel_rfl) (by kernel_rfl) (by kernel_rfl) (fun _ _ _ h => h) (Or.inl ⟨by rfl, ?_⟩) hHeld ?_
  rotate_left
  · intro ww hSw
    (try dsimp only at hSw)
    go_simp
    (try with_reducible rfl)
  simp only [Act.put, List.setIfInBounds_toArray, List.set_cons_zero, List.set_cons_succ]
  refine wpAnyH_take (i := 39) (oi := ⟨some 129, _, _, _, _, _⟩) (v := ?_) rfl (by kernel_rfl) (by kernel_rfl) (by kernel_rfl) (fun _ _ _ h => h) (Or.inl ⟨by rfl, ?_⟩) hHeld ?_
  rotate_left
  · intro ww hSw
    (try dsimp only at hSw)
    go_simp
    (try with_reducible rfl)
  simp only [Act.put, List.setIfInBounds_toArray, List.set_cons_zero, List.set_cons_succ]
  refine wpAnyH_take (i := 40) (oi := ⟨some 130, _, _, _, _, _⟩) (v := ?_) rfl (by kernel_rfl) (by kernel_rfl) (by kernel_rfl) (fun _ _ _ h => h) (Or.inl ⟨by rfl, ?_⟩) hHeld ?_
  rotate_left
  · intro ww hSw
    (try dsimp only at hSw)
    go_simp
    (try with_reducible rfl)
  simp only [Act.put, List.setIfInBounds_toArray, List.set_cons_zero, List.set_cons_succ]
  refine wpAnyH_take (i := 41) (oi := ⟨some 131, _, _, _, _, _⟩) (v := ?_) rfl (by kernel_rfl) (by kernel_rfl) (by kernel_rfl) (fun _ _ _ h => h) (Or.inl ⟨by rfl, ?_⟩) hHeld ?_
  rotate_left
  · intro ww hSw
    (try dsimp only at hSw)
    go_simp
    (try with_reducible rfl)
  simp only [Act.put, List.setIfInBounds_toArray, List.set_cons_zero, List.set_cons_succ]
  refine wpAnyH_take (i := 42) (oi := ⟨some 132, _, _, _, _, _⟩) (v := .string s3') rfl (by kernel_rfl) (by kernel_rfl) (by kernel_rfl) (fun _ _ _ h => h) (Or.inl ⟨by rfl, ?_⟩) hHeld ?_
  · intro ww hSw
    (try dsimp only at hSw)
    have hcv := HC3'.out ww P6 p6 (S6.out.below hSw)
    go_simp
  simp only [Act.put, List.setIfInBounds_toArray, List.set_cons_zero, List.set_cons_succ]
  refine wpAnyH_take (i := 43) (oi := ⟨some 133, _, _, _, _, _⟩) (v := ?_) rfl (by kernel_rfl) (by kernel_rfl) (by kernel_rfl) (fun _ _ _ h => h) (Or.inl ⟨by rfl, ?_⟩) hHeld ?_
  rotate_left
  · intro ww hSw
    (try dsimp only at hSw)
    go_simp
    (try with_reducible rfl)
  simp only [Act.put, List.setIfInBounds_toArray, List.set_cons_zero, List.set_cons_succ]
  refine wpAnyH_take (i := 44) (oi := ⟨some 134, _, _, _, _, _⟩) (v := .string s3') rfl (by kernel_rfl) (by kernel_rfl) (by kernel_rfl) (fun _ _ _ h => h) (Or.inl ⟨by rfl, ?_⟩) hHeld ?_
  · intro ww hSw
    (try dsimp only at hSw)
    have hcv := HC3'.out ww P8 p8 (S8.out.below hSw)
    go_simp
  simp only [Act.put, List.setIfInBounds_toArray, List.set_cons_zero, List.set_cons_succ]
  refine wpAnyH_take (i := 45) (oi := ⟨some 135, _, _, _, _, _⟩) (v := ?_) rfl (by kernel_rfl) (by kernel_rfl) (by kernel_rfl) (fun _ _ _ h => h) (Or.inl ⟨by rfl, ?_⟩) hHeld ?_
  rotate_left
  · intro ww hSw
    (try dsimp only at hSw)
    go_simp
    (try with_reducible rfl)
  simp only [Act.put, List.setIfInBounds_toArray, List.set_cons_zero, List.set_cons_succ]
  refine wpAnyH_take (i := 46) (oi := ⟨some 136, _, _, _, _, _⟩) (v := ?_) rfl (by kernel_rfl) (by kernel_rfl) (by kernel_rfl) (fun _ _ _ h => h) (Or.inl ⟨by rfl, ?_⟩) hHeld ?_
  rotate_left
  · intro ww hSw
    (try dsimp only at hSw)
    go_simp
    (try with_reducible rfl)
  simp only [Act.put, List.setIfInBounds_toArray, List.set_cons_zero, List.set_cons_succ]
  refine wpAnyH_take (i := 47) (oi := ⟨some 137, _, _, _, _, _⟩) (v := ?_) rfl (by kernel_rfl) (by kernel_rfl) (by kernel_rfl) (fun _ _ _ h => h) (Or.inl ⟨by rfl, ?_⟩) hHeld ?_
  rotate_left
  · intro ww hSw
    (try dsimp only at hSw)
    go_simp
    (try with_reducible rfl)
  simp only [Act.put, List.setIfInBounds_toArray, List.set_cons_zero, List.set_cons_succ]
  refine wpAnyH_take (i := 48) (oi := ⟨some 138, _, _, _, _, _⟩) (v := ?_) rfl (by kernel_rfl) (by kernel_rfl) (by kernel_rfl) (fun _ _ _ h => h) (Or.inl ⟨by rfl, ?_⟩) hHeld ?_
  rotate_left
  · intro ww hSw
    (try dsimp only at hSw)
    go_simp
    (try with_reducible rfl)
  simp only [Act.put, List.setIfInBounds_toArray, List.set_cons_zero, List.set_cons_succ]
  refine wpAnyH_take (i := 49) (oi := ⟨some 139, _, _, _, _, _⟩) (v := ?_) rfl (by kernel_rfl) (by kernel_rfl) (by kernel_rfl) (fun _ _ _ h => h) (Or.inl ⟨by rfl, ?_⟩) hHeld ?_
  rotate_left
  · intro ww hSw
    (try dsimp only at hSw)
    go_simp
    (try with_reducible rfl)
  simp only [Act.put, List.setIfInBounds_toArray, List.set_cons_zero, List.set_cons_succ]
  refine wpAnyH_take (i := 50) (oi := ⟨some 140, _, _, _, _, _⟩) (v := ?_) rfl (by kernel_rfl) (by kernel_rfl) (by kernel_rfl) (fun _ _ _ h => h) (Or.inl ⟨by rfl, ?_⟩) hHeld ?_
  rotate_left
  · intro ww hSw
    (try dsimp only at hSw)
    go_simp
    (try with_reducible rfl)
  simp only [Act.put, List.setIfInBounds_toArray, List.set_cons_zero, List.set_cons_succ]
  refine wpAnyH_take (i := 51) (oi := ⟨some 141, _, _, _, _, _⟩) (v := ?_) rfl (by kernel_rfl) (by kernel_rfl) (by kernel_rfl) (fun _ _ _ h => h) (Or.inl ⟨by rfl, ?_⟩) hHeld ?_
  rotate_left
  · intro ww hSw
    (try dsimp only at hSw)
    go_simp
    (try with_reducible rfl)
  simp only [Act.put, List.setIfInBounds_toArray, List.set_cons_zero, List.set_cons_succ]
  refine wpAnyH_take (i := 52) (oi := ⟨some 142, _, _, _, _, _⟩) (v := ?_) rfl (by kernel_rfl) (by kernel_rfl) (by kernel_rfl) (fun _ _ _ h => h) (Or.inl ⟨by rfl, ?_⟩) hHeld ?_
  rotate_left
  · intro ww hSw
    (try dsimp only at hSw)
    go_simp
    (try with_reducible rfl)
  simp only [Act.put, List.setIfInBounds_toArray, List.set_cons_zero, List.set_cons_succ]
  refine wpAnyH_take (i := 53) (oi := ⟨some 143, _, _, _, _, _⟩) (v := ?_) rfl (by kernel_rfl) (by kernel_rfl) (by kernel_rfl) (fun _ _ _ h => h) (Or.inl ⟨by rfl, ?_⟩) hHeld ?_
  rotate_left
  · intro ww hSw
    (try dsimp only at hSw)
    go_simp
    (try with_reducible rfl)
  simp only [Act.put, List.setIfInBounds_toArray, List.set_cons_zero, List.set_cons_succ]
  refine wpAnyH_take (i := 54) (oi := ⟨some 144, _, _, _, _, _⟩) (v := ?_) rfl (by kernel_rfl) (by kernel_rfl) (by kernel_rfl) (fun _ _ _ h => h) (Or.inl ⟨by rfl, ?_⟩) hHeld ?_
  rotate_left
  · intro ww hSw
    (try dsimp only at hSw)
    go_simp
    (try with_reducible rfl)
  simp only [Act.put, List.setIfInBounds_toArray, List.set_cons_zero, List.set_cons_succ]
  refine wpAnyH_take (i := 57) (oi := ⟨some 147, _, _, _, _, _⟩) (v := ?_) rfl (by kernel_rfl) (by kernel_rfl) (by kernel_rfl) (fun _ _ _ h => h) (Or.inl ⟨by rfl, ?_⟩) hHeld ?_
  rotate_left
  · intro ww hSw
    (try dsimp only at hSw)
    go_simp
    (try with_reducible rfl)
  simp only [Act.put, List.setIfInBounds_toArray, List.set_cons_zero, List.set_cons_succ]
  refine wpAnyH_take (i := 58) (oi := ⟨some 148, _, _, _, _, _⟩) (v := ?_) rfl (by kernel_rfl) (by kernel_rfl) (by kernel_rfl) (fun _ _ _ h => h) (Or.inl ⟨by rfl, ?_⟩) hHeld ?_
  rotate_left
  · intro ww hSw
    (try dsimp only at hSw)
    go_simp
    (try with_reducible rfl)
  simp only [Act.put, List.setIfInBounds_toArray, List.set_cons_zero, List.set_cons_succ]
  refine wpAnyH_lit (fuel' := 7) (l := #[true, true, true, true, true, true, true, true, true, true, true, true, true, true, true, true, true, true, true, true, true, true, true, true, true, true, true, true, true, true, true, true, true, true, true, true, true, true, true, true, true, true, true, true, true, true, true, true, true, true, true, true, true, true, true, false, false, true, true, false, false, false, false, false]) (by kernel_rfl) (by kernel_rfl) ?_
  refine wpAnyH_letters [145, 146, 149, 150, 151, 152, 6] [55, 56, 59, 60, 61, 62, 63] (fun vs bs w => ∃ (v55 v56 v59 v60 v61 v62 v63 : Value) (b55 b56 b59 b60 b61 b62 b63 : Bool), vs = [v55, v56, v59, v60, v61, v62, v63] ∧ bs = [b55, b56, b59, b60, b61, b62, b63] ∧ Below w8.heap.size w8 w ∧ (b55 = true → BytV v55 n4 Z4 w) ∧ (b56 = true → Fix v56 (.string s4) w) ∧ (b59 = true → BytV v59 n4 Z4 w) ∧ (b60 = true → Fix v60 (.string s4) w) ∧ (b61 = true → Fix v61 (.bool true) w) ∧ (b62 = true → Fix v62 (.bool true) w) ∧ (b63 = true → Fix v63 (.bool true) w)) ?_ (by decide) [undef, undef, undef, undef, undef, undef, .bool false] [false, false, false, false, false, false, false] rfl (by simp only [putsA, Act.put, List.setIfInBounds_toArray, List.set_cons_zero, List.set_cons_succ]) ⟨undef, undef, undef, undef, undef, undef, .bool false, false, false, false, false, false, false, false, rfl, rfl, hHeld, (fun h => by cases h), (fun h => by cases h), (fun h => by cases h), (fun h => by cases h), (fun h => by cases h), (fun h => by cases h), (fun h => by cases h)⟩ ?_ ?_
  · rintro _ _ w ⟨_, _, _, _, _, _, _, _, _, _, _, _, _, _, rfl, rfl, hb, _⟩
    exact hb
  · clear hHeld
    refine StepsFrom.cons (k := 0) ?_ ?_
    · rintro _ _ wc ⟨_, _, rfl, rfl, v55, v56, v59, v60, v61, v62, v63, b55, b56, b59, b60, b61, b62, b63, rfl, rfl, hbw', h55, h56, h59, h60, h61, h62, h63⟩ hun
      simp [setsB] at hun
    refine StepsFrom.cons (k := 1) ?_ ?_
    · rintro _ _ wc ⟨_, _, rfl, rfl, v55, v56, v59, v60, v61, v62, v63, b55, b56, b59, b60, b61, b62, b63, rfl, rfl, hbw', h55, h56, h59, h60, h61, h62, h63⟩ hun
      simp [setsB] at hun
    refine StepsFrom.cons (k := 2) ?_ ?_
    · rintro _ _ wc ⟨_, _, rfl, rfl, v55, v56, v59, v60, v61, v62, v63, b55, b56, b59, b60, b61, b62, b63, rfl, rfl, hbw', h55, h56, h59, h60, h61, h62, h63⟩ hun
      simp [setsB] at hun
    refine StepsFrom.cons (k := 3) ?_ ?_
    · rintro _ _ wc ⟨_, _, rfl, rfl, v55, v56, v59, v60, v61, v62, v63, b55, b56, b59, b60, b61, b62, b63, rfl, rfl, hbw', h55, h56, h59, h60, h61, h62, h63⟩ hun
      simp [setsB] at hun
    refine StepsFrom.cons (k := 4) ?_ ?_
    · rintro _ _ wc ⟨_, _, rfl, rfl, v55, v56, v59, v60, v61, v62, v63, b55, b56, b59, b60, b61, b62, b63, rfl, rfl, hbw', h55, h56, h59, h60, h61, h62, h63⟩ hun
      simp [setsB] at hun
    refine StepsFrom.cons (k := 5) ?_ ?_
    · rintro _ _ wc ⟨_, _, rfl, rfl, v55, v56, v59, v60, v61, v62, v63, b55, b56, b59, b60, b61, b62, b63, rfl, rfl, hbw', h55, h56, h59, h60, h61, h62, h63⟩ hun
      simp [setsB] at hun
    refine StepsFrom.cons (k := 6) ?_ ?_
    · rintro _ _ wc ⟨_, _, rfl, rfl, v55, v56, v59, v60, v61, v62, v63, b55, b56, b59, b60, b61, b62, b63, rfl, rfl, hbw', h55, h56, h59, h60, h61, h62, h63⟩ hun
      simp [setsB] at hun
    refine StepsFrom.cons (k := 7) ?_ ?_
    · rintro _ _ wc ⟨_, _, rfl, rfl, v55, v56, v59, v60, v61, v62, v63, b55, b56, b59, b60, b61, b62, b63, rfl, rfl, hbw', h55, h56, h59, h60, h61, h62, h63⟩ hun
      simp [setsB] at hun
    refine StepsFrom.cons (k := 8) ?_ ?_
    · rintro _ _ wc ⟨_, _, rfl, rfl, v55, v56, v59, v60, v61, v62, v63, b55, b56, b59, b60, b61, b62, b63, rfl, rfl, hbw', h55, h56, h59, h60, h61, h62, h63⟩ hun
      simp [setsB] at hun
    refine StepsFrom.cons (k := 9) ?_ ?_
    · rintro _ _ wc ⟨_, _, rfl, rfl, v55, v56, v59, v60, v61, v62, v63, b55, b56, b59, b60, b61, b62, b63, rfl, rfl, hbw', h55, h56, h59, h60, h61, h62, h63⟩ hun
      simp [setsB] at hun
    refine StepsFrom.cons (k := 10) ?_ ?_
    · rintro _ _ wc ⟨_, _, rfl, rfl, v55, v56, v59, v60, v61, v62, v63, b55, b56, b59, b60, b61, b62, b63, rfl, rfl, hbw', h55, h56, h59, h60, h61, h62, h63⟩ hun
      simp [setsB] at hun
    refine StepsFrom.cons (k := 11) ?_ ?_
    · rintro _ _ wc ⟨_, _, rfl, rfl, v55, v56, v59, v60, v61, v62, v63, b55, b56, b59, b60, b61, b62, b63, rfl, rfl, hbw', h55, h56, h59, h60, h61, h62, h63⟩ hun
      simp [setsB] at hun
    refine StepsFrom.cons (k := 12) ?_ ?_
    · rintro _ _ wc ⟨_, _, rfl, rfl, v55, v56, v59, v60, v61, v62, v63, b55, b56, b59, b60, b61, b62, b63, rfl, rfl, hbw', h55, h56, h59, h60, h61, h62, h63⟩ hun
      simp [setsB] at hun
    refine StepsFrom.cons (k := 13) ?_ ?_
    · rintro _ _ wc ⟨_, _, rfl, rfl, v55, v56, v59, v60, v61, v62, v63, b55, b56, b59, b60, b61, b62, b63, rfl, rfl, hbw', h55, h56, h59, h60, h61, h62, h63⟩ hun
      simp [setsB] at hun
    refine StepsFrom.cons (k := 14) ?_ ?_
    · rintro _ _ wc ⟨_, _, rfl, rfl, v55, v56, v59, v60, v61, v62, v63, b55, b56, b59, b60, b61, b62, b63, rfl, rfl, hbw', h55, h56, h59, h60, h61, h62, h63⟩ hun
      simp [setsB] at hun
    refine StepsFrom.cons (k := 15) ?_ ?_
    · rintro _ _ wc ⟨_, _, rfl, rfl, v55, v56, v59, v60, v61, v62, v63, b55, b56, b59, b60, b61, b62, b63, rfl, rfl, hbw', h55, h56, h59, h60, h61, h62, h63⟩ hun
      simp [setsB] at hun
    refine StepsFrom.cons (k := 16) ?_ ?_
    · rintro _ _ wc ⟨_, _, rfl, rfl, v55, v56, v59, v60, v61, v62, v63, b55, b56, b59, b60, b61, b62, b63, rfl, rfl, hbw', h55, h56, h59, h60, h61, h62, h63⟩ hun
      simp [setsB] at hun
    refine StepsFrom.cons (k := 17) ?_ ?_
    · rintro _ _ wc ⟨_, _, rfl, rfl, v55, v56, v59, v60, v61, v62, v63, b55, b56, b59, b60, b61, b62, b63, rfl, rfl, hbw', h55, h56, h59, h60, h61, h62, h63⟩ hun
      simp [setsB] at hun
    refine StepsFrom.cons (k := 18) ?_ ?_
    · rintro _ _ wc ⟨_, _, rfl, rfl, v55, v56, v59, v60, v61, v62, v63, b55, b56, b59, b60, b61, b62, b63, rfl, rfl, hbw', h55, h56, h59, h60, h61, h62, h63⟩ hun
      simp [setsB] at hun
    refine StepsFrom.cons (k := 19) ?_ ?_
    · rintro _ _ wc ⟨_, _, rfl, rfl, v55, v56, v59, v60, v61, v62, v63, b55, b56, b59, b60, b61, b62, b63, rfl, rfl, hbw', h55, h56, h59, h60, h61, h62, h63⟩ hun
      simp [setsB] at hun
    refine StepsFrom.cons (k := 20) ?_ ?_
    · rintro _ _ wc ⟨_, _, rfl, rfl, v55, v56, v59, v60, v61, v62, v63, b55, b56, b59, b60, b61, b62, b63, rfl, rfl, hbw', h55, h56, h59, h60, h61, h62, h63⟩ hun
      simp [setsB] at hun
    refine StepsFrom.cons (k := 21) ?_ ?_
    · rintro _ _ wc ⟨_, _, rfl, rfl, v55, v56, v59, v60, v61, v62, v63, b55, b56, b59, b60, b61, b62, b63, rfl, rfl, hbw', h55, h56, h59, h60, h61, h62, h63⟩ hun
      simp [setsB] at hun
    refine StepsFrom.cons (k := 22) ?_ ?_
    · rintro _ _ wc ⟨_, _, rfl, rfl, v55, v56, v59, v60, v61, v62, v63, b55, b56, b59, b60, b61, b62, b63, rfl, rfl, hbw', h55, h56, h59, h60, h61, h62, h63⟩ hun
      simp [setsB] at hun
    refine StepsFrom.cons (k := 23) ?_ ?_
    · rintro _ _ wc ⟨_, _, rfl, rfl, v55, v56, v59, v60, v61, v62, v63, b55, b56, b59, b60, b61, b62, b63, rfl, rfl, hbw', h55, h56, h59, h60, h61, h62, h63⟩ hun
      simp [setsB] at hun
    refine StepsFrom.cons (k := 24) ?_ ?_
    · rintro _ _ wc ⟨_, _, rfl, rfl, v55, v56, v59, v60, v61, v62, v63, b55, b56, b59, b60, b61, b62, b63, rfl, rfl, hbw', h55, h56, h59, h60, h61, h62, h63⟩ hun
      simp [setsB] at hun
    refine StepsFrom.cons (k := 25) ?_ ?_
    · rintro _ _ wc ⟨_, _, rfl, rfl, v55, v56, v59, v60, v61, v62, v63, b55, b56, b59, b60, b61, b62, b63, rfl, rfl, hbw', h55, h56, h59, h60, h61, h62, h63⟩ hun
      simp [setsB] at hun
    refine StepsFrom.cons (k := 26) ?_ ?_
    · rintro _ _ wc ⟨_, _, rfl, rfl, v55, v56, v59, v60, v61, v62, v63, b55, b56, b59, b60, b61, b62, b63, rfl, rfl, hbw', h55, h56, h59, h60, h61, h62, h63⟩ hun
      simp [setsB] at hun
    refine StepsFrom.cons (k := 27) ?_ ?_
    · rintro _ _ wc ⟨_, _, rfl, rfl, v55, v56, v59, v60, v61, v62, v63, b55, b56, b59, b60, b61, b62, b63, rfl, rfl, hbw', h55, h56, h59, h60, h61, h62, h63⟩ hun
      simp [setsB] at hun
    refine StepsFrom.cons (k := 28) ?_ ?_
    · rintro _ _ wc ⟨_, _, rfl, rfl, v55, v56, v59, v60, v61, v62, v63, b55, b56, b59, b60, b61, b62, b63, rfl, rfl, hbw', h55, h56, h59, h60, h61, h62, h63⟩ hun
      simp [setsB] at hun
    refine StepsFrom.cons (k := 29) ?_ ?_
    · rintro _ _ wc ⟨_, _, rfl, rfl, v55, v56, v59, v60, v61, v62, v63, b55, b56, b59, b60, b61, b62, b63, rfl, rfl, hbw', h55, h56, h59, h60, h61, h62, h63⟩ hun
      simp [setsB] at hun
    refine StepsFrom.cons (k := 30) ?_ ?_
    · rintro _ _ wc ⟨_, _, rfl, rfl, v55, v56, v59, v60, v61, v62, v63, b55, b56, b59, b60, b61, b62, b63, rfl, rfl, hbw', h55, h56, h59, h60, h61, h62, h63⟩ hun
      simp [setsB] at hun
    refine StepsFrom.cons (k := 31) ?_ ?_
    · rintro _ _ wc ⟨_, _, rfl, rfl, v55, v56, v59, v60, v61, v62, v63, b55, b56, b59, b60, b61, b62, b63, rfl, rfl, hbw', h55, h56, h59, h60, h61, h62, h63⟩ hun
      simp [setsB] at hun
    refine StepsFrom.cons (k := 32) ?_ ?_
    · rintro _ _ wc ⟨_, _, rfl, rfl, v55, v56, v59, v60, v61, v62, v63, b55, b56, b59, b60, b61, b62, b63, rfl, rfl, hbw', h55, h56, h59, h60, h61, h62, h63⟩ hun
      simp [setsB] at hun
    refine StepsFrom.cons (k := 33) ?_ ?_
    · rintro _ _ wc ⟨_, _, rfl, rfl, v55, v56, v59, v60, v61, v62, v63, b55, b56, b59, b60, b61, b62, b63, rfl, rfl, hbw', h55, h56, h59, h60, h61, h62, h63⟩ hun
      simp [setsB] at hun
    refine StepsFrom.cons (k := 34) ?_ ?_
    · rintro _ _ wc ⟨_, _, rfl, rfl, v55, v56, v59, v60, v61, v62, v63, b55, b56, b59, b60, b61, b62, b63, rfl, rfl, hbw', h55, h56, h59, h60, h61, h62, h63⟩ hun
      simp [setsB] at hun
    refine StepsFrom.cons (k := 35) ?_ ?_
    · rintro _ _ wc ⟨_, _, rfl, rfl, v55, v56, v59, v60, v61, v62, v63, b55, b56, b59, b60, b61, b62, b63, rfl, rfl, hbw', h55, h56, h59, h60, h61, h62, h63⟩ hun
      simp [setsB] at hun
    refine StepsFrom.cons (k := 36) ?_ ?_
    · rintro _ _ wc ⟨_, _, rfl, rfl, v55, v56, v59, v60, v61, v62, v63, b55, b56, b59, b60, b61, b62, b63, rfl, rfl, hbw', h55, h56, h59, h60, h61, h62, h63⟩ hun
      simp [setsB] at hun
    refine StepsFrom.cons (k := 37) ?_ ?_
    · rintro _ _ wc ⟨_, _, rfl, rfl, v55, v56, v59, v60, v61, v62, v63, b55, b56, b59, b60, b61, b62, b63, rfl, rfl, hbw', h55, h56, h59, h60, h61, h62, h63⟩ hun
      simp [setsB] at hun
    refine StepsFrom.cons (k := 38) ?_ ?_
    · rintro _ _ wc ⟨_, _, rfl, rfl, v55, v56, v59, v60, v61, v62, v63, b55, b56, b59, b60, b61, b62, b63, rfl, rfl, hbw', h55, h56, h59, h60, h61, h62, h63⟩ hun
      simp [setsB] at hun
    refine StepsFrom.cons (k := 39) ?_ ?_
    · rintro _ _ wc ⟨_, _, rfl, rfl, v55, v56, v59, v60, v61, v62, v63, b55, b56, b59, b60, b61, b62, b63, rfl, rfl, hbw', h55, h56, h59, h60, h61, h62, h63⟩ hun
      simp [setsB] at hun
    refine StepsFrom.cons (k := 40) ?_ ?_
    · rintro _ _ wc ⟨_, _, rfl, rfl, v55, v56, v59, v60, v61, v62, v63, b55, b56, b59, b60, b61, b62, b63, rfl, rfl, hbw', h55, h56, h59, h60, h61, h62, h63⟩ hun
      simp [setsB] at hun
    refine StepsFrom.cons (k := 41) ?_ ?_
    · rintro _ _ wc ⟨_, _, rfl, rfl, v55, v56, v59, v60, v61, v62, v63, b55, b56, b59, b60, b61, b62, b63, rfl, rfl, hbw', h55, h56, h59, h60, h61, h62, h63⟩ hun
      simp [setsB] at hun
    refine StepsFrom.cons (k := 42) ?_ ?_
    · rintro _ _ wc ⟨_, _, rfl, rfl, v55, v56, v59, v60, v61, v62, v63, b55, b56, b59, b60, b61, b62, b63, rfl, rfl, hbw', h55, h56, h59, h60, h61, h62, h63⟩ hun
      simp [setsB] at hun
    refine StepsFrom.cons (k := 43) ?_ ?_
    · rintro _ _ wc ⟨_, _, rfl, rfl, v55, v56, v59, v60, v61, v62, v63, b55, b56, b59, b60, b61, b62, b63, rfl, rfl, hbw', h55, h56, h59, h60, h61, h62, h63⟩ hun
      simp [setsB] at hun
    refine StepsFrom.cons (k := 44) ?_ ?_
    · rintro _ _ wc ⟨_, _, rfl, rfl, v55, v56, v59, v60, v61, v62, v63, b55, b56, b59, b60, b61, b62, b63, rfl, rfl, hbw', h55, h56, h59, h60, h61, h62, h63⟩ hun
      simp [setsB] at hun
    refine StepsFrom.cons (k := 45) ?_ ?_
    · rintro _ _ wc ⟨_, _, rfl, rfl, v55, v56, v59, v60, v61, v62, v63, b55, b56, b59, b60, b61, b62, b63, rfl, rfl, hbw', h55, h56, h59, h60, h61, h62, h63⟩ hun
      simp [setsB] at hun
    refine StepsFrom.cons (k := 46) ?_ ?_
    · rintro _ _ wc ⟨_, _, rfl, rfl, v55, v56, v59, v60, v61, v62, v63, b55, b56, b59, b60, b61, b62, b63, rfl, rfl, hbw', h55, h56, h59, h60, h61, h62, h63⟩ hun
      simp [setsB] at hun
    refine StepsFrom.cons (k := 47) ?_ ?_
    · rintro _ _ wc ⟨_, _, rfl, rfl, v55, v56, v59, v60, v61, v62, v63, b55, b56, b59, b60, b61, b62, b63, rfl, rfl, hbw', h55, h56, h59, h60, h61, h62, h63⟩ hun
      simp [setsB] at hun
    refine StepsFrom.cons (k := 48) ?_ ?_
    · rintro _ _ wc ⟨_, _, rfl, rfl, v55, v56, v59, v60, v61, v62, v63, b55, b56, b59, b60, b61, b62, b63, rfl, rfl, hbw', h55, h56, h59, h60, h61, h62, h63⟩ hun
      simp [setsB] at hun
    refine StepsFrom.cons (k := 49) ?_ ?_
    · rintro _ _ wc ⟨_, _, rfl, rfl, v55, v56, v59, v60, v61, v62, v63, b55, b56, b59, b60, b61, b62, b63, rfl, rfl, hbw', h55, h56, h59, h60, h61, h62, h63⟩ hun
      simp [setsB] at hun
    refine StepsFrom.cons (k := 50) ?_ ?_
    · rintro _ _ wc ⟨_, _, rfl, rfl, v55, v56, v59, v60, v61, v62, v63, b55, b56, b59, b60, b61, b62, b63, rfl, rfl, hbw', h55, h56, h59, h60, h61, h62, h63⟩ hun
      simp [setsB] at hun
    refine StepsFrom.cons (k := 51) ?_ ?_
    · rintro _ _ wc ⟨_, _, rfl, rfl, v55, v56, v59, v60, v61, v62, v63, b55, b56, b59, b60, b61, b62, b63, rfl, rfl, hbw', h55, h56, h59, h60, h61, h62, h63⟩ hun
      simp [setsB] at hun
    refine StepsFrom.cons (k := 52) ?_ ?_
    · rintro _ _ wc ⟨_, _, rfl, rfl, v55, v56, v59, v60, v61, v62, v63, b55, b56, b59, b60, b61, b62, b63, rfl, rfl, hbw', h55, h56, h59, h60, h61, h62, h63⟩ hun
      simp [setsB] at hun
    refine StepsFrom.cons (k := 53) ?_ ?_
    · rintro _ _ wc ⟨_, _, rfl, rfl, v55, v56, v59, v60, v61, v62, v63, b55, b56, b59, b60, b61, b62, b63, rfl, rfl, hbw', h55, h56, h59, h60, h61, h62, h63⟩ hun
      simp [setsB] at hun
    refine StepsFrom.cons (k := 54) ?_ ?_
    · rintro _ _ wc ⟨_, _, rfl, rfl, v55, v56, v59, v60, v61, v62, v63, b55, b56, b59, b60, b61, b62, b63, rfl, rfl, hbw', h55, h56, h59, h60, h61, h62, h63⟩ hun
      simp [setsB] at hun
    refine StepsFrom.cons (k := 55) ?_ ?_
    · rintro _ _ wc ⟨_, _, rfl, rfl, v55, v56, v59, v60, v61, v62, v63, b55, b56, b59, b60, b61, b62, b63, rfl, rfl, hbw', h55, h56, h59, h60, h61, h62, h63⟩ hun hpre K hK
      simp only [setsB, List.setIfInBounds_toArray, List.set_cons_zero, List.set_cons_succ] at hpre
      clear hun hpre
      simp only [putsA, Act.put, List.setIfInBounds_toArray, List.set_cons_zero, List.set_cons_succ]
      go_simp
      go_at_call 17
      refine (HV.out _ (HS'.out.below hbw') (HE'.out.below hbw')).mono ?_
      rintro e_r wn ⟨An, cn, rfl, hsn, hbn⟩
      go_wp2_with fail
      have qI : BytV (.slice An n4 cn) n4 Z4 wn := ⟨An, cn, rfl, hsn⟩
      refine hK.out _ _ ⟨_, _, ?_, ?_, (.slice An n4 cn), v56, v59, v60, v61, v62, v63, true, b56, b59, b60, b61, b62, b63, rfl, rfl, bel_on hbw' hbn, (fun _ => qI), (fun e => (h56 e).below hbn), (fun e => (h59 e).below hbn), (fun e => (h60 e).below hbn), (fun e => (h61 e).below hbn), (fun e => (h62 e).below hbn), (fun e => (h63 e).below hbn)⟩
      · simp only [setsB, List.setIfInBounds_toArray, List.set_cons_zero, List.set_cons_succ]
      · simp only [putsA, Act.put, List.setIfInBounds_toArray, List.set_cons_zero, List.set_cons_succ]
    refine StepsFrom.cons (k := 56) ?_ ?_
    · rintro _ _ wc ⟨_, _, rfl, rfl, v55, v56, v59, v60, v61, v62, v63, b55, b56, b59, b60, b61, b62, b63, rfl, rfl, hbw', h55, h56, h59, h60, h61, h62, h63⟩ hun hpre K hK
      simp only [setsB, List.setIfInBounds_toArray, List.set_cons_zero, List.set_cons_succ] at hpre
      have p55 := hpre ⟨55, .data⟩ (by simp) rfl
      subst p55
      clear hun hpre
      have q55 := h55 rfl
      clear h55
      refine BytV.elim q55 ?_
      intro A55 c55 z55 hp55
      subst z55
      simp only [putsA, Act.put, List.setIfInBounds_toArray, List.set_cons_zero, List.set_cons_succ]
      have hcv := HC4.out wc A55 c55 hp55
      go_simp
      have hbn := Below.refl wc.heap.size wc
      have qI : Fix (.string s4) (.string s4) wc := rfl
      refine hK.out _ _ ⟨_, _, ?_, ?_, (.slice A55 n4 c55), (.string s4), v59, v60, v61, v62, v63, true, true, b59, b60, b61, b62, b63, rfl, rfl, bel_on hbw' hbn, (fun _ => q55.below hbn), (fun _ => qI), (fun e => (h59 e).below hbn), (fun e => (h60 e).below hbn), (fun e => (h61 e).below hbn), (fun e => (h62 e).below hbn), (fun e => (h63 e).below hbn)⟩
      · simp only [setsB, List.setIfInBounds_toArray, List.set_cons_zero, List.set_cons_succ]
      · simp only [putsA, Act.put, List.setIfInBounds_toArray, List.set_cons_zero, List.set_cons_succ]
    refine StepsFrom.cons (k := 57) ?_ ?_
    · rintro _ _ wc ⟨_, _, rfl, rfl, v55, v56, v59, v60, v61, v62, v63, b55, b56, b59, b60, b61, b62, b63, rfl, rfl, hbw', h55, h56, h59, h60, h61, h62, h63⟩ hun
      simp [setsB] at hun
    refine StepsFrom.cons (k := 58) ?_ ?_
    · rintro _ _ wc ⟨_, _, rfl, rfl, v55, v56, v59, v60, v61, v62, v63, b55, b56, b59, b60, b61, b62, b63, rfl, rfl, hbw', h55, h56, h59, h60, h61, h62, h63⟩ hun
      simp [setsB] at hun
    refine StepsFrom.cons (k := 59) ?_ ?_
    · rintro _ _ wc ⟨_, _, rfl, rfl, v55, v56, v59, v60, v61, v62, v63, b55, b56, b59, b60, b61, b62, b63, rfl, rfl, hbw', h55, h56, h59, h60, h61, h62, h63⟩ hun hpre K hK
      simp only [setsB, List.setIfInBounds_toArray, List.set_cons_zero, List.set_cons_succ] at hpre
      have p55 := hpre ⟨55, .chain⟩ (by simp) rfl
      subst p55
      clear hun hpre
      have q55 := h55 rfl
      clear h55
      refine BytV.elim q55 ?_
      intro A55 c55 z55 hp55
      subst z55
      simp only [putsA, Act.put, List.setIfInBounds_toArray, List.set_cons_zero, List.set_cons_succ]
      go_simp
      go_at_call 18
      refine (HW.out _ (HS'.out.below hbw') (HE'.out.below hbw')).mono ?_
      rintro e_r wn ⟨An, cn, rfl, hsn, hbn⟩
      go_wp2_with fail
      have qI : BytV (.slice An n4 cn) n4 Z4 wn := ⟨An, cn, rfl, hsn⟩
      refine hK.out _ _ ⟨_, _, ?_, ?_, (.slice A55 n4 c55), v56, (.slice An n4 cn), v60, v61, v62, v63, true, b56, true, b60, b61, b62, b63, rfl, rfl, bel_on hbw' hbn, (fun _ => q55.below hbn), (fun e => (h56 e).below hbn), (fun _ => qI), (fun e => (h60 e).below hbn), (fun e => (h61 e).below hbn), (fun e => (h62 e).below hbn), (fun e => (h63 e).below hbn)⟩
      · simp only [setsB, List.setIfInBounds_toArray, List.set_cons_zero, List.set_cons_succ]
      · simp only [putsA, Act.put, List.setIfInBounds_toArray, List.set_cons_zero, List.set_cons_succ]
    refine StepsFrom.cons (k := 60) ?_ ?_
    · rintro _ _ wc ⟨_, _, rfl, rfl, v55, v56, v59, v60, v61, v62, v63, b55, b56, b59, b60, b61, b62, b63, rfl, rfl, hbw', h55, h56, h59, h60, h61, h62, h63⟩ hun hpre K hK
      simp only [setsB, List.setIfInBounds_toArray, List.set_cons_zero, List.set_cons_succ] at hpre
      have p59 := hpre ⟨59, .data⟩ (by simp) rfl
      subst p59
      clear hun hpre
      have q59 := h59 rfl
      clear h59
      refine BytV.elim q59 ?_
      intro A59 c59 z59 hp59
      subst z59
      simp only [putsA, Act.put, List.setIfInBounds_toArray, List.set_cons_zero, List.set_cons_succ]
      have hcv := HC4.out wc A59 c59 hp59
      go_simp
      have hbn := Below.refl wc.heap.size wc
      have qI : Fix (.string s4) (.string s4) wc := rfl
      refine hK.out _ _ ⟨_, _, ?_, ?_, v55, v56, (.slice A59 n4 c59), (.string s4), v61, v62, v63, b55, b56, true, true, b61, b62, b63, rfl, rfl, bel_on hbw' hbn, (fun e => (h55 e).below hbn), (fun e => (h56 e).below hbn), (fun _ => q59.below hbn), (fun _ => qI), (fun e => (h61 e).below hbn), (fun e => (h62 e).below hbn), (fun e => (h63 e).below hbn)⟩
      · simp only [setsB, List.setIfInBounds_toArray, List.set_cons_zero, List.set_cons_succ]
      · simp only [putsA, Act.put, List.setIfInBounds_toArray, List.set_cons_zero, List.set_cons_succ]
    refine StepsFrom.cons (k := 61) ?_ ?_
    · rintro _ _ wc ⟨_, _, rfl, rfl, v55, v56, v59, v60, v61, v62, v63, b55, b56, b59, b60, b61, b62, b63, rfl, rfl, hbw', h55, h56, h59, h60, h61, h62, h63⟩ hun hpre K hK
      simp only [setsB, List.setIfInBounds_toArray, List.set_cons_zero, List.set_cons_succ] at hpre
      have p56 := hpre ⟨56, .data⟩ (by simp) rfl
      subst p56
      have p60 := hpre ⟨60, .data⟩ (by simp) rfl
      subst p60
      clear hun hpre
      have q56 := h56 rfl
      clear h56
      have q60 := h60 rfl
      clear h60
      have z56 : v56 = _ := q56
      subst z56
      have z60 : v60 = _ := q60
      subst z60
      simp only [putsA, Act.put, List.setIfInBounds_toArray, List.set_cons_zero, List.set_cons_succ]
      go_simp
      refine hK.out _ _ ⟨_, _, ?_, ?_, v55, (.string s4), v59, (.string s4), (.bool true), v62, v63, b55, true, b59, true, true, b62, b63, rfl, rfl, hbw', h55, (fun _ => q56), h59, (fun _ => q60), (fun _ => rfl), h62, h63⟩
      · simp only [setsB, List.setIfInBounds_toArray, List.set_cons_zero, List.set_cons_succ]
      · simp only [putsA, Act.put, List.setIfInBounds_toArray, List.set_cons_zero, List.set_cons_succ]
    refine StepsFrom.cons (k := 62) ?_ ?_
    · rintro _ _ wc ⟨_, _, rfl, rfl, v55, v56, v59, v60, v61, v62, v63, b55, b56, b59, b60, b61, b62, b63, rfl, rfl, hbw', h55, h56, h59, h60, h61, h62, h63⟩ hun hpre K hK
      simp only [setsB, List.setIfInBounds_toArray, List.set_cons_zero, List.set_cons_succ] at hpre
      have p61 := hpre ⟨61, .data⟩ (by simp) rfl
      subst p61
      clear hun hpre
      have q61 := h61 rfl
      clear h61
      have z61 : v61 = _ := q61
      subst z61
      simp only [putsA, Act.put, List.setIfInBounds_toArray, List.set_cons_zero, List.set_cons_succ]
      go_simp
      refine hK.out _ _ ⟨_, _, ?_, ?_, v55, v56, v59, v60, (.bool true), (.bool true), v63, b55, b56, b59, b60, true, true, b63, rfl, rfl, hbw', h55, h56, h59, h60, (fun _ => q61), (fun _ => rfl), h63⟩
      · simp only [setsB, List.setIfInBounds_toArray, List.set_cons_zero, List.set_cons_succ]
      · simp only [putsA, Act.put, List.setIfInBounds_toArray, List.set_cons_zero, List.set_cons_succ]
    refine StepsFrom.cons (k := 63) ?_ ?_
    · rintro _ _ wc ⟨_, _, rfl, rfl, v55, v56, v59, v60, v61, v62, v63, b55, b56, b59, b60, b61, b62, b63, rfl, rfl, hbw', h55, h56, h59, h60, h61, h62, h63⟩ hun hpre K hK
      simp only [setsB, List.setIfInBounds_toArray, List.set_cons_zero, List.set_cons_succ] at hpre
      have p62 := hpre ⟨62, .data⟩ (by simp) rfl
      subst p62
      have p59 := hpre ⟨59, .chain⟩ (by simp) rfl
      subst p59
      have p55 := hpre ⟨55, .phase⟩ (by simp) rfl
      subst p55
      have p56 := hpre ⟨56, .phase⟩ (by simp) rfl
      subst p56
      have p60 := hpre ⟨60, .phase⟩ (by simp) rfl
      subst p60
      have p61 := hpre ⟨61, .phase⟩ (by simp) rfl
      subst p61
      clear hun hpre
      have q55 := h55 rfl
      clear h55
      have q56 := h56 rfl
      clear h56
      have q59 := h59 rfl
      clear h59
      have q60 := h60 rfl
      clear h60
      have q61 := h61 rfl
      clear h61
      have q62 := h62 rfl
      clear h62
      refine BytV.elim q55 ?_
      intro A55 c55 z55 hp55
      subst z55
      have z56 : v56 = _ := q56
      subst z56
      refine BytV.elim q59 ?_
      intro A59 c59 z59 hp59
      subst z59
      have z60 : v60 = _ := q60
      subst z60
      have z61 : v61 = _ := q61
      subst z61
      have z62 : v62 = _ := q62
      subst z62
      simp only [putsA, Act.put, List.setIfInBounds_toArray, List.set_cons_zero, List.set_cons_succ]
      go_simp
      refine hK.out _ _ ⟨_, _, ?_, ?_, (.slice A55 n4 c55), (.string s4), (.slice A59 n4 c59), (.string s4), (.bool true), (.bool true), (.bool true), true, true, true, true, true, true, true, rfl, rfl, hbw', (fun _ => q55), (fun _ => q56), (fun _ => q59), (fun _ => q60), (fun _ => q61), (fun _ => q62), (fun _ => rfl)⟩
      · simp only [setsB, List.setIfInBounds_toArray, List.set_cons_zero, List.set_cons_succ]
      · simp only [putsA, Act.put, List.setIfInBounds_toArray, List.set_cons_zero, List.set_cons_succ]
    exact StepsFrom.nil
  clear hHeld
  rintro _ _ wc ⟨_, _, rfl, rfl, v55, v56, v59, v60, v61, v62, v63, b55, b56, b59, b60, b61, b62, b63, rfl, rfl, hbw', h55, h56, h59, h60, h61, h62, h63⟩ hr
  simp only [setsB, List.setIfInBounds_toArray, List.set_cons_zero, List.set_cons_succ] at hr
  have u55 : b55 = true := all_up hr 55 rfl (by simp [Region.binds])
  subst u55
  have u56 : b56 = true := all_up hr 56 rfl (by simp [Region.binds])
  subst u56
  have u59 : b59 = true := all_up hr 59 rfl (by simp [Region.binds])
  subst u59
  have u60 : b60 = true := all_up hr 60 rfl (by simp [Region.binds])
  subst u60
  have u61 : b61 = true := all_up hr 61 rfl (by simp [Region.binds])
  subst u61
  have u62 : b62 = true := all_up hr 62 rfl (by simp [Region.binds])
  subst u62
  have u63 : b63 = true := all_up hr 63 rfl (by simp [Region.binds])
  subst u63
  have q55 := h55 rfl
  refine BytV.elim q55 ?_
  intro A55 c55 z55 _
  subst z55
  have q56 := h56 rfl
  have z56 : v56 = _ := q56
  subst z56
  have q59 := h59 rfl
  refine BytV.elim q59 ?_
  intro A59 c59 z59 _
  subst z59
  have q60 := h60 rfl
  have z60 : v60 = _ := q60
  subst z60
  have q61 := h61 rfl
  have z61 : v61 = _ := q61
  subst z61
  have q62 := h62 rfl
  have z62 : v62 = _ := q62
  subst z62
  have q63 := h63 rfl
  have z63 : v63 = _ := q63
  subst z63
  clear hr h55 h56 h59 h60 h61 h62 h63
  simp only [putsA, Act.put, List.setIfInBounds_toArray, List.set_cons_zero, List.set_cons_succ]
  refine NoPanic.normal ?_
  go_wp2
  go_ret
  exact ⟨rfl, bel_on b1 hbw'⟩

set_option maxRecDepth 100000 in
set_option maxHeartbeats 4000000 in
theorem packTells_some (A : Option Addr) (m c : Nat) (l : List (BitVec 8)) (B : Option Addr) (k d : Nat) (zs : List Int) (C : Option Addr) (n e : Nat) (ts : List (BitVec 8)) (w : World)
    (hs : Sl 1 w A m c (bytesV l)) (hmc : m ≤ c) (hm : m ≤ 1000) (hz : Nums w B zs) (hk : zs.length = k) (hzs : ∀ z ∈ zs, z ≤ 9223372036854775807) (hk1 : k ≤ 1000) (ht : Sl 1 w C n e (bytesV ts)) (hn : n ≤ 1000) (h0 : 0 < k) :
    Calls Try.prog 3 #[.slice A m c, .slice B k d, .slice C n e] w fun e w' => e = .returned (.bool true) ∧ Below w.heap.size w w' := by
  have d0 : (m : Int) ≤ 1000 := by omega
  have d1 : (k : Int) ≤ 1000 := by omega
  have d2 : (n : Int) ≤ 1000 := by omega
  obtain ⟨X1, E1, h1⟩ : ∃ X E, putR l zs = (X, E) := ⟨_, _, rfl⟩
  obtain ⟨N2, X2, E2, h2⟩ : ∃ N X E, takeR l = (N, X, E) := ⟨_, _, _, rfl⟩
  obtain ⟨X3, Y3, E3, h3⟩ : ∃ X Y E, textR l = (X, Y, E) := ⟨_, _, _, rfl⟩
  obtain ⟨Z4, h4⟩ : ∃ Z, l ++ textB ts = Z := ⟨_, rfl⟩
  obtain ⟨n1, g1⟩ : ∃ n, X1.length = n := ⟨_, rfl⟩
  obtain ⟨n2, g2⟩ : ∃ n, X2.length = n := ⟨_, rfl⟩
  obtain ⟨n3, g3⟩ : ∃ n, X3.length = n := ⟨_, rfl⟩
  obtain ⟨o3, g3'⟩ : ∃ n, Y3.length = n := ⟨_, rfl⟩
  obtain ⟨n4, g4⟩ : ∃ n, Z4.length = n := ⟨_, rfl⟩
  have HP := Lib.hid (fun w hx hB => put_un A m c l B k d zs w X1 E1 n1 h1 g1 hx hB hk hzs hm hk1)
  have HQ := Lib.hid (fun w hx hB => rput_un A m c l B k d zs w X1 E1 n1 h1 g1 hx hB hk hzs hm hk1)
  have HT := Lib.hid (fun w hx => take_un A m c l w N2 X2 E2 n2 h2 g2 hx hmc hm)
  have HU := Lib.hid (fun w hx => rtake_un A m c l w N2 X2 E2 n2 h2 g2 hx hmc hm)
  have HX := Lib.hid (fun w hx => taketext_un A m c l w X3 Y3 E3 n3 o3 h3 g3 g3' hx hmc hm)
  have HY := Lib.hid (fun w hx => rtaketext_un A m c l w X3 Y3 E3 n3 o3 h3 g3 g3' hx hmc hm)
  have HV := Lib.hid (fun w hx hl => text_un C n e ts A m c w l Z4 n4 h4 g4 hx hl hn hm)
  have HW := Lib.hid (fun w hx hl => rtext_un C n e ts A m c w l Z4 n4 h4 g4 hx hl hn hm)
  have HC1 := Lib.hid (fun (w : World) (A : Option Addr) (c : Nat) (h : Sl 1 w A n1 c (bytesV X1)) => conv_sl h)
  have HC2 := Lib.hid (fun (w : World) (A : Option Addr) (c : Nat) (h : Sl 1 w A n2 c (bytesV X2)) => conv_sl h)
  have HC3 := Lib.hid (fun (w : World) (A : Option Addr) (c : Nat) (h : Sl 1 w A n3 c (bytesV X3)) => conv_sl h)
  have HC3' := Lib.hid (fun (w : World) (A : Option Addr) (c : Nat) (h : Sl 1 w A o3 c (bytesV Y3)) => conv_sl h)
  have HC4 := Lib.hid (fun (w : World) (A : Option Addr) (c : Nat) (h : Sl 1 w A n4 c (bytesV Z4)) => conv_sl h)
  generalize txtB X1 = s1 at *
  generalize txtB X2 = s2 at *
  generalize txtB X3 = s3 at *
  generalize txtB Y3 = s3' at *
  generalize txtB Z4 = s4 at *
  have HS := Lib.hid hs
  have HZ := Lib.hid hz
  have HE := Lib.hid ht
  have HSZ := Lib.hid (fun w => size_un w (zs.getD 0 0) _ rfl (hzs _ (by simp [List.getD, show 0 < zs.length by omega])))
  have HRZ := Lib.hid (fun w => rsize_un w (zs.getD 0 0) _ rfl (hzs _ (by simp [List.getD, show 0 < zs.length by omega])))
  obtain ⟨b, off, rfl, hc⟩ := hz 0 (by omega)
  rw [Nat.add_zero] at hc
  generalize sizeR (zs.getD 0 0) = sz at *
  generalize zs.getD 0 0 = z at *
  have HCELL := Lib.hid hc
  have k0 : ((k : Int) == 0) = false := by simp; omega
  have KP := Lib.hid h0
  clear hc h0
  clear hs hz ht hzs hk h1 h2 h3 h4 g1 g2 g3 g3' g4
  go_enter Try.func3, Try.ntmps3
  go_wp2_with fail
  refine (awake5 _).mono ?_
  rintro e w1 ⟨rfl, b1⟩
  go_wp2_with fail
  refine (HP.out _ (HS.out.below b1) (HZ.out.below b1)).mono ?_
  rintro e w2 ⟨P1, p1, rfl, S1, bb⟩
  replace S1 := Lib.hid S1
  replace b1 := bel_on b1 bb
  clear bb
  go_wp2_with fail
  refine (HQ.out _ (HS.out.below b1) (HZ.out.below b1)).mono ?_
  rintro e w3 ⟨P2, p2, rfl, S2, bb⟩
  replace S1 := Lib.hid (S1.out.below bb)
  replace S2 := Lib.hid S2
  replace b1 := bel_on b1 bb
  clear bb
  go_wp2_with fail
  refine (HT.out _ (HS.out.below b1)).mono ?_
  rintro e w4 ⟨P3, p3, rfl, S3, bb⟩
  replace S1 := Lib.hid (S1.out.below bb)
  replace S2 := Lib.hid (S2.out.below bb)
  replace S3 := Lib.hid S3
  replace b1 := bel_on b1 bb
  clear bb
  go_wp2_with fail
  refine (HU.out _ (HS.out.below b1)).mono ?_
  rintro e w5 ⟨P4, p4, rfl, S4, bb⟩
  replace S1 := Lib.hid (S1.out.below bb)
  replace S2 := Lib.hid (S2.out.below bb)
  replace S3 := Lib.hid (S3.out.below bb)
  replace S4 := Lib.hid S4
  replace b1 := bel_on b1 bb
  clear bb
  go_wp2_with fail
  refine (HX.out _ (HS.out.below b1)).mono ?_
  rintro e w6 ⟨P5, p5, P6, p6, rfl, S5, S6, bb⟩
  replace S1 := Lib.hid (S1.out.below bb)
  replace S2 := Lib.hid (S2.out.below bb)
  replace S3 := Lib.hid (S3.out.below bb)
  replace S4 := Lib.hid (S4.out.below bb)
  replace S5 := Lib.hid S5
  replace S6 := Lib.hid S6
  replace b1 := bel_on b1 bb
  clear bb
  go_wp2_with fail
  refine (HY.out _ (HS.out.below b1)).mono ?_
  rintro e w7 ⟨P7, p7, P8, p8, rfl, S7, S8, bb⟩
  replace S1 := Lib.hid (S1.out.below bb)
  replace S2 := Lib.hid (S2.out.below bb)
  replace S3 := Lib.hid (S3.out.below bb)
  replace S4 := Lib.hid (S4.out.below bb)
  replace S5 := Lib.hid (S5.out.below bb)
  replace S6 := Lib.hid (S6.out.below bb)
  replace S7 := Lib.hid S7
  replace S8 := Lib.hid S8
  replace b1 := bel_on b1 bb
  clear bb
  clear HP HQ HT HU HX HY
  go_wp2_with fail
  refine wp_region_noPanic ?_
  refine wp_region_held_drew (S := fun w' => Below w7.heap.size w7 w') (by kernel_rfl) (below_drew (Below.refl _ _)) (fun hHeld => ?_)
  refine wpAnyH_take (i := 0) (oi := ⟨some 76, _, _, _, _, _⟩) (v := ?_) rfl (by kernel_rfl) (by kernel_rfl) (by kernel_rfl) (fun _ _ _ h => h) (Or.inl ⟨by rfl, ?_⟩) hHeld ?_
  rotate_left
  · intro ww hSw
    (try dsimp only at hSw)
    go_simp
    (try with_reducible rfl)
  simp only [Act.put, List.setIfInBounds_toArray, List.set_cons_zero, List.set_cons_succ]
  refine wpAnyH_take (i := 1) (oi := ⟨some 77, _, _, _, _, _⟩) (v := ?_) rfl (by kernel_rfl) (by kernel_rfl) (by kernel_rfl) (fun _ _ _ h => h) (Or.inl ⟨by rfl, ?_⟩) hHeld ?_
  rotate_left
  · intro ww hSw
    (try dsimp only at hSw)
    go_simp
    (try with_reducible rfl)
  simp only [Act.put, List.setIfInBounds_toArray, List.set_cons_zero, List.set_cons_succ]
  refine wpAnyH_take (i := 2) (oi := ⟨some 78, _, _, _, _, _⟩) (v := ?_) rfl (by kernel_rfl) (by kernel_rfl) (by kernel_rfl) (fun _ _ _ h => h) (Or.inl ⟨by rfl, ?_⟩) hHeld ?_
  rotate_left
  · intro ww hSw
    (try dsimp only at hSw)
    go_simp
    (try with_reducible rfl)
  simp only [Act.put, List.setIfInBounds_toArray, List.set_cons_zero, List.set_cons_succ]
  refine wpAnyH_take (i := 3) (oi := ⟨some 79, _, _, _, _, _⟩) (v := ?_) rfl (by kernel_rfl) (by kernel_rfl) (by kernel_rfl) (fun _ _ _ h => h) (Or.inl ⟨by rfl, ?_⟩) hHeld ?_
  rotate_left
  · intro ww hSw
    (try dsimp only at hSw)
    go_simp
    (try with_reducible rfl)
  simp only [Act.put, List.setIfInBounds_toArray, List.set_cons_zero, List.set_cons_succ]
  refine wpAnyH_take (i := 4) (oi := ⟨some 80, _, _, _, _, _⟩) (v := ?_) rfl (by kernel_rfl) (by kernel_rfl) (by kernel_rfl) (fun _ _ _ h => h) (Or.inl ⟨by rfl, ?_⟩) hHeld ?_
  rotate_left
  · intro ww hSw
    (try dsimp only at hSw)
    go_simp
    (try with_reducible rfl)
  simp only [Act.put, List.setIfInBounds_toArray, List.set_cons_zero, List.set_cons_succ]
  refine wpAnyH_take (i := 5) (oi := ⟨some 81, _, _, _, _, _⟩) (v := .pointer (some ⟨b, off, none⟩)) rfl (by kernel_rfl) (by kernel_rfl) (by kernel_rfl) (fun _ _ _ h => h) (Or.inl ⟨by rfl, ?_⟩) hHeld ?_
  · intro ww hSw
    (try dsimp only at hSw)
    go_simp
    intro hk00
    exact absurd hk00 (by have := KP.out; omega)
  simp only [Act.put, List.setIfInBounds_toArray, List.set_cons_zero, List.set_cons_succ]
  refine wpAnyH_take (i := 6) (oi := ⟨some 82, _, _, _, _, _⟩) (v := .int .i64 z) rfl (by kernel_rfl) (by kernel_rfl) (by kernel_rfl) (fun _ _ _ h => h) (Or.inl ⟨by rfl, ?_⟩) hHeld ?_
  · intro ww hSw
    (try dsimp only at hSw)
    have hcc := (hSw.cell (p := ⟨b, off, none⟩) (Nat.lt_of_lt_of_le (cell_lt HCELL.out) b1.size)).trans ((b1.cell (p := ⟨b, off, none⟩) (cell_lt HCELL.out)).trans HCELL.out)
    go_simp
  simp only [Act.put, List.setIfInBounds_toArray, List.set_cons_zero, List.set_cons_succ]
  refine wpAnyH_take (i := 8) (oi := ⟨some 84, _, _, _, _, _⟩) (v := ?_) rfl (by kernel_rfl) (by kernel_rfl) (by kernel_rfl) (fun _ _ _ h => h) (Or.inl ⟨by rfl, ?_⟩) hHeld ?_
  rotate_left
  · intro ww hSw
    (try dsimp only at hSw)
    go_simp
    (try with_reducible rfl)
  simp only [Act.put, List.setIfInBounds_toArray, List.set_cons_zero, List.set_cons_succ]
  refine wpAnyH_take (i := 9) (oi := ⟨some 85, _, _, _, _, _⟩) (v := .pointer (some ⟨b, off, none⟩)) rfl (by kernel_rfl) (by kernel_rfl) (by kernel_rfl) (fun _ _ _ h => h) (Or.inl ⟨by rfl, ?_⟩) hHeld ?_
  · intro ww hSw
    (try dsimp only at hSw)
    go_simp
    intro hk00
    exact absurd hk00 (by have := KP.out; omega)
  simp only [Act.put, List.setIfInBounds_toArray, List.set_cons_zero, List.set_cons_succ]
  refine wpAnyH_take (i := 10) (oi := ⟨some 86, _, _, _, _, _⟩) (v := .int .i64 z) rfl (by kernel_rfl) (by kernel_rfl) (by kernel_rfl) (fun _ _ _ h => h) (Or.inl ⟨by rfl, ?_⟩) hHeld ?_
  · intro ww hSw
    (try dsimp only at hSw)
    have hcc := (hSw.cell (p := ⟨b, off, none⟩) (Nat.lt_of_lt_of_le (cell_lt HCELL.out) b1.size)).trans ((b1.cell (p := ⟨b, off, none⟩) (cell_lt HCELL.out)).trans HCELL.out)
    go_simp
  simp only [Act.put, List.setIfInBounds_toArray, List.set_cons_zero, List.set_cons_succ]
  refine wpAnyH_ready (rs := [7]) (by kernel_rfl) (by simp) ?_
  refine AllReadyH.cons (o := ⟨some 83, _, _, _, _, _⟩) rfl (fun K hK => ?_) AllReadyH.nil
  go_simp
  go_at_call 15
  refine (HSZ.out _).mono ?_
  rintro e_r x1 ⟨rfl, hbn⟩
  have hbx1 : Below w7.heap.size w7 x1 := bel_on (show Below w7.heap.size w7 _ by (repeat' (first | with_reducible exact Below.refl _ _ | with_reducible assumption | with_reducible refine bel_alloc ?_ _ | with_reducible refine bel_set ?_ ?_ _ | with_reducible refine below_drewN ?_ _ | with_reducible refine below_drew ?_ | (simp; done) | (simp; omega) | omega))) hbn
  clear hbn
  go_wp2_with fail
  refine hK.out _ _ ?_ (fun hHeld => ?_)
  · (try dsimp only)
    exact hbx1
  clear hK K
  (try simp only [Act.put, List.setIfInBounds_toArray, List.set_cons_zero, List.set_cons_succ])
  refine wpAnyH_ready (rs := [11]) (by kernel_rfl) (by simp) ?_
  refine AllReadyH.cons (o := ⟨some 87, _, _, _, _, _⟩) rfl (fun K hK => ?_) AllReadyH.nil
  go_simp
  go_at_call 16
  refine (HRZ.out _).mono ?_
  rintro e_r x2 ⟨rfl, hbn⟩
  have hbx2 : Below w7.heap.size w7 x2 := bel_on (show Below w7.heap.size w7 _ by (repeat' (first | with_reducible exact Below.refl _ _ | with_reducible assumption | with_reducible refine bel_alloc ?_ _ | with_reducible refine bel_set ?_ ?_ _ | with_reducible refine below_drewN ?_ _ | with_reducible refine below_drew ?_ | (simp; done) | (simp; omega) | omega))) hbn
  clear hbn
  go_wp2_with fail
  refine hK.out _ _ ?_ (fun hHeld => ?_)
  · (try dsimp only)
    exact hbx2
  clear hK K
  (try simp only [Act.put, List.setIfInBounds_toArray, List.set_cons_zero, List.set_cons_succ])
  refine wpAnyH_take (i := 12) (oi := ⟨some 88, _, _, _, _, _⟩) (v := ?_) rfl (by kernel_rfl) (by kernel_rfl) (by kernel_rfl) (fun _ _ _ h => h) (Or.inl ⟨by rfl, ?_⟩) hHeld ?_
  rotate_left
  · intro ww hSw
    (try dsimp only at hSw)
    go_simp
    (try with_reducible rfl)
  simp only [Act.put, List.setIfInBounds_toArray, List.set_cons_zero, List.set_cons_succ]
  refine wpAnyH_take (i := 13) (oi := ⟨some 89, _, _, _, _, _⟩) (v := ?_) rfl (by kernel_rfl) (by kernel_rfl) (by kernel_rfl) (fun _ _ _ h => h) (Or.inl ⟨by rfl, ?_⟩) hHeld ?_
  rotate_left
  · intro ww hSw
    (try dsimp only at hSw)
    go_simp
    (try with_reducible rfl)
  simp only [Act.put, List.setIfInBounds_toArray, List.set_cons_zero, List.set_cons_succ]
  refine wpAnyH_take (i := 14) (oi := ⟨some 24, _, _, _, _, _⟩) (v := ?_) rfl (by kernel_rfl) (by kernel_rfl) (by kernel_rfl) (fun _ _ _ h => h) (Or.inl ⟨by rfl, ?_⟩) hHeld ?_
  rotate_left
  · intro ww hSw
    (try dsimp only at hSw)
    go_simp
    (try with_reducible rfl)
  simp only [Act.put, List.setIfInBounds_toArray, List.set_cons_zero, List.set_cons_succ]
  refine wpAnyH_done (by kernel_rfl) ?_ _
  refine NoPanic.normal ?_
  replace S1 := Lib.hid (S1.out.below hbx2)
  replace S2 := Lib.hid (S2.out.below hbx2)
  replace S3 := Lib.hid (S3.out.below hbx2)
  replace S4 := Lib.hid (S4.out.below hbx2)
  replace S5 := Lib.hid (S5.out.below hbx2)
  replace S6 := Lib.hid (S6.out.below hbx2)
  replace S7 := Lib.hid (S7.out.below hbx2)
  replace S8 := Lib.hid (S8.out.below hbx2)
  replace b1 := bel_on b1 hbx2
  have HS' := Lib.hid (HS.out.below b1)
  have HE' := Lib.hid (HE.out.below b1)
  clear HS HZ HE HSZ HRZ HCELL KP
  go_wp2_with fail
  refine wp_region_noPanic ?_
  refine wp_region_held_drew (S := fun w' => Below x2.heap.size x2 w') (by kernel_rfl) (below_drew (Below.refl _ _)) (fun hHeld => ?_)
  refine wpAnyH_take (i := 0) (oi := ⟨some 90, _, _, _, _, _⟩) (v := ?_) rfl (by kernel_rfl) (by kernel_rfl) (by kernel_rfl) (fun _ _ _ h => h) (Or.inl ⟨by rfl, ?_⟩) hHeld ?_
  rotate_left
  · intro ww hSw
    (try dsimp only at hSw)
    go_simp
    (try with_reducible rfl)
  simp only [Act.put, List.setIfInBounds_toArray, List.set_cons_zero, List.set_cons_succ]
  refine wpAnyH_take (i := 1) (oi := ⟨some 91, _, _, _, _, _⟩) (v := ?_) rfl (by kernel_rfl) (by kernel_rfl) (by kernel_rfl) (fun _ _ _ h => h) (Or.inl ⟨by rfl, ?_⟩) hHeld ?_
  rotate_left
  · intro ww hSw
    (try dsimp only at hSw)
    go_simp
    (try with_reducible rfl)
  simp only [Act.put, List.setIfInBounds_toArray, List.set_cons_zero, List.set_cons_succ]
  refine wpAnyH_take (i := 2) (oi := ⟨some 92, _, _, _, _, _⟩) (v := ?_) rfl (by kernel_rfl) (by kernel_rfl) (by kernel_rfl) (fun _ _ _ h => h) (Or.inl ⟨by rfl, ?_⟩) hHeld ?_
  rotate_left
  · intro ww hSw
    (try dsimp only at hSw)
    go_simp
    (try with_reducible rfl)
  simp only [Act.put, List.setIfInBounds_toArray, List.set_cons_zero, List.set_cons_succ]
  refine wpAnyH_take (i := 3) (oi := ⟨some 93, _, _, _, _, _⟩) (v := ?_) rfl (by kernel_rfl) (by kernel_rfl) (by kernel_rfl) (fun _ _ _ h => h) (Or.inl ⟨by rfl, ?_⟩) hHeld ?_
  rotate_left
  · intro ww hSw
    (try dsimp only at hSw)
    go_simp
    (try with_reducible rfl)
  simp only [Act.put, List.setIfInBounds_toArray, List.set_cons_zero, List.set_cons_succ]
  refine wpAnyH_take (i := 4) (oi := ⟨some 94, _, _, _, _, _⟩) (v := ?_) rfl (by kernel_rfl) (by kernel_rfl) (by kernel_rfl) (fun _ _ _ h => h) (Or.inl ⟨by rfl, ?_⟩) hHeld ?_
  rotate_left
  · intro ww hSw
    (try dsimp only at hSw)
    go_simp
    (try with_reducible rfl)
  simp only [Act.put, List.setIfInBounds_toArray, List.set_cons_zero, List.set_cons_succ]
  refine wpAnyH_take (i := 5) (oi := ⟨some 95, _, _, _, _, _⟩) (v := ?_) rfl (by kernel_rfl) (by kernel_rfl) (by kernel_rfl) (fun _ _ _ h => h) (Or.inl ⟨by rfl, ?_⟩) hHeld ?_
  rotate_left
  · intro ww hSw
    (try dsimp only at hSw)
    go_simp
    (try with_reducible rfl)
  simp only [Act.put, List.setIfInBounds_toArray, List.set_cons_zero, List.set_cons_succ]
  refine wpAnyH_take (i := 6) (oi := ⟨some 96, _, _, _, _, _⟩) (v := .string s1) rfl (by kernel_rfl) (by kernel_rfl) (by kernel_rfl) (fun _ _ _ h => h) (Or.inl ⟨by rfl, ?_⟩) hHeld ?_
  · intro ww hSw
    (try dsimp only at hSw)
    have hcv := HC1.out ww P1 p1 (S1.out.below hSw)
    go_simp
  simp only [Act.put, List.setIfInBounds_toArray, List.set_cons_zero, List.set_cons_succ]
  refine wpAnyH_take (i := 7) (oi := ⟨some 97, _, _, _, _, _⟩) (v := ?_) rfl (by kernel_rfl) (by kernel_rfl) (by kernel_rfl) (fun _ _ _ h => h) (Or.inl ⟨by rfl, ?_⟩) hHeld ?_
  rotate_left
  · intro ww hSw
    (try dsimp only at hSw)
    go_simp
    (try with_reducible rfl)
  simp only [Act.put, List.setIfInBounds_toArray, List.set_cons_zero, List.set_cons_succ]
  refine wpAnyH_take (i := 8) (oi := ⟨some 98, _, _, _, _, _⟩) (v := .string s1) rfl (by kernel_rfl) (by kernel_rfl) (by kernel_rfl) (fun _ _ _ h => h) (Or.inl ⟨by rfl, ?_⟩) hHeld ?_
  · intro ww hSw
    (try dsimp only at hSw)
    have hcv := HC1.out ww P2 p2 (S2.out.below hSw)
    go_simp
  simp only [Act.put, List.setIfInBounds_toArray, List.set_cons_zero, List.set_cons_succ]
  refine wpAnyH_take (i := 9) (oi := ⟨some 99, _, _, _, _, _⟩) (v := ?_) rfl (by kernel_rfl) (by kernel_rfl) (by kernel_rfl) (fun _ _ _ h => h) (Or.inl ⟨by rfl, ?_⟩) hHeld ?_
  rotate_left
  · intro ww hSw
    (try dsimp only at hSw)
    go_simp
    (try with_reducible rfl)
  simp only [Act.put, List.setIfInBounds_toArray, List.set_cons_zero, List.set_cons_succ]
  refine wpAnyH_take (i := 10) (oi := ⟨some 100, _, _, _, _, _⟩) (v := ?_) rfl (by kernel_rfl) (by kernel_rfl) (by kernel_rfl) (fun _ _ _ h => h) (Or.inl ⟨by rfl, ?_⟩) hHeld ?_
  rotate_left
  · intro ww hSw
    (try dsimp only at hSw)
    go_simp
    (try with_reducible rfl)
  simp only [Act.put, List.setIfInBounds_toArray, List.set_cons_zero, List.set_cons_succ]
  refine wpAnyH_take (i := 11) (oi := ⟨some 101, _, _, _, _, _⟩) (v := ?_) rfl (by kernel_rfl) (by kernel_rfl) (by kernel_rfl) (fun _ _ _ h => h) (Or.inl ⟨by rfl, ?_⟩) hHeld ?_
  rotate_left
  · intro ww hSw
    (try dsimp only at hSw)
    go_simp
    (try with_reducible rfl)
  simp only [Act.put, List.setIfInBounds_toArray, List.set_cons_zero, List.set_cons_succ]
  refine wpAnyH_take (i := 12) (oi := ⟨some 102, _, _, _, _, _⟩) (v := ?_) rfl (by kernel_rfl) (by kernel_rfl) (by kernel_rfl) (fun _ _ _ h => h) (Or.inl ⟨by rfl, ?_⟩) hHeld ?_
  rotate_left
  · intro ww hSw
    (try dsimp only at hSw)
    go_simp
    (try with_reducible rfl)
  simp only [Act.put, List.setIfInBounds_toArray, List.set_cons_zero, List.set_cons_succ]
  refine wpAnyH_take (i := 13) (oi := ⟨some 103, _, _, _, _, _⟩) (v := ?_) rfl (by kernel_rfl) (by kernel_rfl) (by kernel_rfl) (fun _ _ _ h => h) (Or.inl ⟨by rfl, ?_⟩) hHeld ?_
  rotate_left
  · intro ww hSw
    (try dsimp only at hSw)
    go_simp
    (try with_reducible rfl)
  simp only [Act.put, List.setIfInBounds_toArray, List.set_cons_zero, List.set_cons_succ]
  refine wpAnyH_take (i := 14) (oi := ⟨some 104, _, _, _, _, _⟩) (v := ?_) rfl (by kernel_rfl) (by kernel_rfl) (by kernel_rfl) (fun _ _ _ h => h) (Or.inl ⟨by rfl, ?_⟩) hHeld ?_
  rotate_left
  · intro ww hSw
    (try dsimp only at hSw)
    go_simp
    (try with_reducible rfl)
  simp only [Act.put, List.setIfInBounds_toArray, List.set_cons_zero, List.set_cons_succ]
  refine wpAnyH_take (i := 15) (oi := ⟨some 105, _, _, _, _, _⟩) (v := ?_) rfl (by kernel_rfl) (by kernel_rfl) (by kernel_rfl) (fun _ _ _ h => h) (Or.inl ⟨by rfl, ?_⟩) hHeld ?_
  rotate_left
  · intro ww hSw
    (try dsimp only at hSw)
    go_simp
    (try with_reducible rfl)
  simp only [Act.put, List.setIfInBounds_toArray, List.set_cons_zero, List.set_cons_succ]
  refine wpAnyH_take (i := 16) (oi := ⟨some 106, _, _, _, _, _⟩) (v := ?_) rfl (by kernel_rfl) (by kernel_rfl) (by kernel_rfl) (fun _ _ _ h => h) (Or.inl ⟨by rfl, ?_⟩) hHeld ?_
  rotate_left
  · intro ww hSw
    (try dsimp only at hSw)
    go_simp
    (try with_reducible rfl)
  simp only [Act.put, List.setIfInBounds_toArray, List.set_cons_zero, List.set_cons_succ]
  refine wpAnyH_take (i := 17) (oi := ⟨some 107, _, _, _, _, _⟩) (v := ?_) rfl (by kernel_rfl) (by kernel_rfl) (by kernel_rfl) (fun _ _ _ h => h) (Or.inl ⟨by rfl, ?_⟩) hHeld ?_
  rotate_left
  · intro ww hSw
    (try dsimp only at hSw)
    go_simp
    (try with_reducible rfl)
  simp only [Act.put, List.setIfInBounds_toArray, List.set_cons_zero, List.set_cons_succ]
  refine wpAnyH_take (i := 18) (oi := ⟨some 108, _, _, _, _, _⟩) (v := ?_) rfl (by kernel_rfl) (by kernel_rfl) (by kernel_rfl) (fun _ _ _ h => h) (Or.inl ⟨by rfl, ?_⟩) hHeld ?_
  rotate_left
  · intro ww hSw
    (try dsimp only at hSw)
    go_simp
    (try with_reducible rfl)
  simp only [Act.put, List.setIfInBounds_toArray, List.set_cons_zero, List.set_cons_succ]
  refine wpAnyH_take (i := 19) (oi := ⟨some 109, _, _, _, _, _⟩) (v := ?_) rfl (by kernel_rfl) (by kernel_rfl) (by kernel_rfl) (fun _ _ _ h => h) (Or.inl ⟨by rfl, ?_⟩) hHeld ?_
  rotate_left
  · intro ww hSw
    (try dsimp only at hSw)
    go_simp
    (try with_reducible rfl)
  simp only [Act.put, List.setIfInBounds_toArray, List.set_cons_zero, List.set_cons_succ]
  refine wpAnyH_take (i := 20) (oi := ⟨some 110, _, _, _, _, _⟩) (v := ?_) rfl (by kernel_rfl) (by kernel_rfl) (by kernel_rfl) (fun _ _ _ h => h) (Or.inl ⟨by rfl, ?_⟩) hHeld ?_
  rotate_left
  · intro ww hSw
    (try dsimp only at hSw)
    go_simp
    (try with_reducible rfl)
  simp only [Act.put, List.setIfInBounds_toArray, List.set_cons_zero, List.set_cons_succ]
  refine wpAnyH_take (i := 21) (oi := ⟨some 111, _, _, _, _, _⟩) (v := ?_) rfl (by kernel_rfl) (by kernel_rfl) (by kernel_rfl) (fun _ _ _ h => h) (Or.inl ⟨by rfl, ?_⟩) hHeld ?_
  rotate_left
  · intro ww hSw
    (try dsimp only at hSw)
    go_simp
    (try with_reducible rfl)
  simp only [Act.put, List.setIfInBounds_toArray, List.set_cons_zero, List.set_cons_succ]
  refine wpAnyH_take (i := 22) (oi := ⟨some 112, _, _, _, _, _⟩) (v := ?_) rfl (by kernel_rfl) (by kernel_rfl) (by kernel_rfl) (fun _ _ _ h => h) (Or.inl ⟨by rfl, ?_⟩) hHeld ?_
  rotate_left
  · intro ww hSw
    (try dsimp only at hSw)
    go_simp
    (try with_reducible rfl)
  simp only [Act.put, List.setIfInBounds_toArray, List.set_cons_zero, List.set_cons_succ]
  refine wpAnyH_take (i := 23) (oi := ⟨some 113, _, _, _, _, _⟩) (v := .string s2) rfl (by kernel_rfl) (by kernel_rfl) (by kernel_rfl) (fun _ _ _ h => h) (Or.inl ⟨by rfl, ?_⟩) hHeld ?_
  · intro ww hSw
    (try dsimp only at hSw)
    have hcv := HC2.out ww P3 p3 (S3.out.below hSw)
    go_simp
  simp only [Act.put, List.setIfInBounds_toArray, List.set_cons_zero, List.set_cons_succ]
  refine wpAnyH_take (i := 24) (oi := ⟨some 114, _, _, _, _, _⟩) (v := ?_) rfl (by kernel_rfl) (by kernel_rfl) (by kernel_rfl) (fun _ _ _ h => h) (Or.inl ⟨by rfl, ?_⟩) hHeld ?_
  rotate_left
  · intro ww hSw
    (try dsimp only at hSw)
    go_simp
    (try with_reducible rfl)
  simp only [Act.put, List.setIfInBounds_toArray, List.set_cons_zero, List.set_cons_succ]
  refine wpAnyH_take (i := 25) (oi := ⟨some 115, _, _, _, _, _⟩) (v := .string s2) rfl (by kernel_rfl) (by kernel_rfl) (by kernel_rfl) (fun _ _ _ h => h) (Or.inl ⟨by rfl, ?_⟩) hHeld ?_
  · intro ww hSw
    (try dsimp only at hSw)
    have hcv := HC2.out ww P4 p4 (S4.out.below hSw)
    go_simp
  simp only [Act.put, List.setIfInBounds_toArray, List.set_cons_zero, List.set_cons_succ]
  refine wpAnyH_take (i := 26) (oi := ⟨some 116, _, _, _, _, _⟩) (v := ?_) rfl (by kernel_rfl) (by kernel_rfl) (by kernel_rfl) (fun _ _ _ h => h) (Or.inl ⟨by rfl, ?_⟩) hHeld ?_
  rotate_left
  · intro ww hSw
    (try dsimp only at hSw)
    go_simp
    (try with_reducible rfl)
  simp only [Act.put, List.setIfInBounds_toArray, List.set_cons_zero, List.set_cons_succ]
  refine wpAnyH_take (i := 27) (oi := ⟨some 117, _, _, _, _, _⟩) (v := ?_) rfl (by kernel_rfl) (by kernel_rfl) (by kernel_rfl) (fun _ _ _ h => h) (Or.inl ⟨by rfl, ?_⟩) hHeld ?_
  rotate_left
  · intro ww hSw
    (try dsimp only at hSw)
    go_simp
    (try with_reducible rfl)
  simp only [Act.put, List.setIfInBounds_toArray, List.set_cons_zero, List.set_cons_succ]
  refine wpAnyH_take (i := 28) (oi := ⟨some 118, _, _, _, _, _⟩) (v := ?_) rfl (by kernel_rfl) (by kernel_rfl) (by kernel_rfl) (fun _ _ _ h => h) (Or.inl ⟨by rfl, ?_⟩) hHeld ?_
  rotate_left
  · intro ww hSw
    (try dsimp only at hSw)
    go_simp
    (try with_reducible rfl)
  simp only [Act.put, List.setIfInBounds_toArray, List.set_cons_zero, List.set_cons_succ]
  refine wpAnyH_take (i := 29) (oi := ⟨some 119, _, _, _, _, _⟩) (v := ?_) rfl (by kernel_rfl) (by kernel_rfl) (by kernel_rfl) (fun _ _ _ h => h) (Or.inl ⟨by rfl, ?_⟩) hHeld ?_
  rotate_left
  · intro ww hSw
    (try dsimp only at hSw)
    go_simp
    (try with_reducible rfl)
  simp only [Act.put, List.setIfInBounds_toArray, List.set_cons_zero, List.set_cons_succ]
  refine wpAnyH_take (i := 30) (oi := ⟨some 120, _, _, _, _, _⟩) (v := ?_) rfl (by kernel_rfl) (by kernel_rfl) (by kernel_rfl) (fun _ _ _ h => h) (Or.inl ⟨by rfl, ?_⟩) hHeld ?_
  rotate_left
  · intro ww hSw
    (try dsimp only at hSw)
    go_simp
    (try with_reducible rfl)
  simp only [Act.put, List.setIfInBounds_toArray, List.set_cons_zero, List.set_cons_succ]
  refine wpAnyH_take (i := 31) (oi := ⟨some 121, _, _, _, _, _⟩) (v := ?_) rfl (by kernel_rfl) (by kernel_rfl) (by kernel_rfl) (fun _ _ _ h => h) (Or.inl ⟨by rfl, ?_⟩) hHeld ?_
  rotate_left
  · intro ww hSw
    (try dsimp only at hSw)
    go_simp
    (try with_reducible rfl)
  simp only [Act.put, List.setIfInBounds_toArray, List.set_cons_zero, List.set_cons_succ]
  refine wpAnyH_take (i := 32) (oi := ⟨some 122, _, _, _, _, _⟩) (v := ?_) rfl (by kernel_rfl) (by kernel_rfl) (by kernel_rfl) (fun _ _ _ h => h) (Or.inl ⟨by rfl, ?_⟩) hHeld ?_
  rotate_left
  · intro ww hSw
    (try dsimp only at hSw)
    go_simp
    (try with_reducible rfl)
  simp only [Act.put, List.setIfInBounds_toArray, List.set_cons_zero, List.set_cons_succ]
  refine wpAnyH_take (i := 33) (oi := ⟨some 123, _, _, _, _, _⟩) (v := ?_) rfl (by kernel_rfl) (by kernel_rfl) (by kernel_rfl) (fun _ _ _ h => h) (Or.inl ⟨by rfl, ?_⟩) hHeld ?_
  rotate_left
  · intro ww hSw
    (try dsimp only at hSw)
    go_simp
    (try with_reducible rfl)
  simp only [Act.put, List.setIfInBounds_toArray, List.set_cons_zero, List.set_cons_succ]
  refine wpAnyH_take (i := 34) (oi := ⟨some 124, _, _, _, _, _⟩) (v := ?_) rfl (by kernel_rfl) (by kernel_rfl) (by kernel_rfl) (fun _ _ _ h => h) (Or.inl ⟨by rfl, ?_⟩) hHeld ?_
  rotate_left
  · intro ww hSw
    (try dsimp only at hSw)
    go_simp
    (try with_reducible rfl)
  simp only [Act.put, List.setIfInBounds_toArray, List.set_cons_zero, List.set_cons_succ]
  refine wpAnyH_take (i := 35) (oi := ⟨some 125, _, _, _, _, _⟩) (v := .string s3) rfl (by kernel_rfl) (by kernel_rfl) (by kernel_rfl) (fun _ _ _ h => h) (Or.inl ⟨by rfl, ?_⟩) hHeld ?_
  · intro ww hSw
    (try dsimp only at hSw)
    have hcv := HC3.out ww P5 p5 (S5.out.below hSw)
    go_simp
  simp only [Act.put, List.setIfInBounds_toArray, List.set_cons_zero, List.set_cons_succ]
  refine wpAnyH_take (i := 36) (oi := ⟨some 126, _, _, _, _, _⟩) (v := ?_) rfl (by kernel_rfl) (by kernel_rfl) (by kernel_rfl) (fun _ _ _ h => h) (Or.inl ⟨by rfl, ?_⟩) hHeld ?_
  rotate_left
  · intro ww hSw
    (try dsimp only at hSw)
    go_simp
    (try with_reducible rfl)
  simp only [Act.put, List.setIfInBounds_toArray, List.set_cons_zero, List.set_cons_succ]
  refine wpAnyH_take (i := 37) (oi := ⟨some 127, _, _, _, _, _⟩) (v := .string s3) rfl (by kernel_rfl) (by kernel_rfl) (by kernel_rfl) (fun _ _ _ h => h) (Or.inl ⟨by rfl, ?_⟩) hHeld ?_
  · intro ww hSw
    (try dsimp only at hSw)
    have hcv := HC3.out ww P7 p7 (S7.out.below hSw)
    go_simp
  simp only [Act.put, List.setIfInBounds_toArray, List.set_cons_zero, List.set_cons_succ]
  refine wpAnyH_take (i := 38) (oi := ⟨some 128, _, _, _, _, _⟩) (v := ?_) rfl (by kernel_rfl) (by kernel_rfl) (by kernel_rfl) (fun _ _ _ h => h) (Or.inl ⟨by rfl, ?_⟩) hHeld ?_
  rotate_left
  · intro ww hSw
    (try dsimp only at hSw)
    go_simp
    (try with_reducible rfl)
  simp only [Act.put, List.setIfInBounds_toArray, List.set_cons_zero, List.set_cons_succ]
  refine wpAnyH_take (i := 39) (oi := ⟨some 129, _, _, _, _, _⟩) (v := ?_) rfl (by kernel_rfl) (by kernel_rfl) (by kernel_rfl) (fun _ _ _ h => h) (Or.inl ⟨by rfl, ?_⟩) hHeld ?_
  rotate_left
  · intro ww hSw
    (try dsimp only at hSw)
    go_simp
    (try with_reducible rfl)
  simp only [Act.put, List.setIfInBounds_toArray, List.set_cons_zero, List.set_cons_succ]
  refine wpAnyH_take (i := 40) (oi := ⟨some 130, _, _, _, _, _⟩) (v := ?_) rfl (by kernel_rfl) (by kernel_rfl) (by kernel_rfl) (fun _ _ _ h => h) (Or.inl ⟨by rfl, ?_⟩) hHeld ?_
  rotate_left
  · intro ww hSw
    (try dsimp only at hSw)
    go_simp
    (try with_reducible rfl)
  simp only [Act.put, List.setIfInBounds_toArray, List.set_cons_zero, List.set_cons_succ]
  refine wpAnyH_take (i := 41) (oi := ⟨some 131, _, _, _, _, _⟩) (v := ?_) rfl (by kernel_rfl) (by kernel_rfl) (by kernel_rfl) (fun _ _ _ h => h) (Or.inl ⟨by rfl, ?_⟩) hHeld ?_
  rotate_left
  · intro ww hSw
    (try dsimp only at hSw)
    go_simp
    (try with_reducible rfl)
  simp only [Act.put, List.setIfInBounds_toArray, List.set_cons_zero, List.set_cons_succ]
  refine wpAnyH_take (i := 42) (oi := ⟨some 132, _, _, _, _, _⟩) (v := .string s3') rfl (by kernel_rfl) (by kernel_rfl) (by kernel_rfl) (fun _ _ _ h => h) (Or.inl ⟨by rfl, ?_⟩) hHeld ?_
  · intro ww hSw
    (try dsimp only at hSw)
    have hcv := HC3'.out ww P6 p6 (S6.out.below hSw)
    go_simp
  simp only [Act.put, List.setIfInBounds_toArray, List.set_cons_zero, List.set_cons_succ]
  refine wpAnyH_take (i := 43) (oi := ⟨some 133, _, _, _, _, _⟩) (v := ?_) rfl (by kernel_rfl) (by kernel_rfl) (by kernel_rfl) (fun _ _ _ h => h) (Or.inl ⟨by rfl, ?_⟩) hHeld ?_
  rotate_left
  · intro ww hSw
    (try dsimp only at hSw)
    go_simp
    (try with_reducible rfl)
  simp only [Act.put, List.setIfInBounds_toArray, List.set_cons_zero, List.set_cons_succ]
  refine wpAnyH_take (i := 44) (oi := ⟨some 134, _, _, _, _, _⟩) (v := .string s3') rfl (by kernel_rfl) (by kernel_rfl) (by kernel_rfl) (fun _ _ _ h => h) (Or.inl ⟨by rfl, ?_⟩) hHeld ?_
  · intro ww hSw
    (try dsimp only at hSw)
    have hcv := HC3'.out ww P8 p8 (S8.out.below hSw)
    go_simp
  simp only [Act.put, List.setIfInBounds_toArray, List.set_cons_zero, List.set_cons_succ]
  refine wpAnyH_take (i := 45) (oi := ⟨some 135, _, _, _, _, _⟩) (v := ?_) rfl (by kernel_rfl) (by kernel_rfl) (by kernel_rfl) (fun _ _ _ h => h) (Or.inl ⟨by rfl, ?_⟩) hHeld ?_
  rotate_left
  · intro ww hSw
    (try dsimp only at hSw)
    go_simp
    (try with_reducible rfl)
  simp only [Act.put, List.setIfInBounds_toArray, List.set_cons_zero, List.set_cons_succ]
  refine wpAnyH_take (i := 46) (oi := ⟨some 136, _, _, _, _, _⟩) (v := ?_) rfl (by kernel_rfl) (by kernel_rfl) (by kernel_rfl) (fun _ _ _ h => h) (Or.inl ⟨by rfl, ?_⟩) hHeld ?_
  rotate_left
  · intro ww hSw
    (try dsimp only at hSw)
    go_simp
    (try with_reducible rfl)
  simp only [Act.put, List.setIfInBounds_toArray, List.set_cons_zero, List.set_cons_succ]
  refine wpAnyH_take (i := 47) (oi := ⟨some 137, _, _, _, _, _⟩) (v := ?_) rfl (by kernel_rfl) (by kernel_rfl) (by kernel_rfl) (fun _ _ _ h => h) (Or.inl ⟨by rfl, ?_⟩) hHeld ?_
  rotate_left
  · intro ww hSw
    (try dsimp only at hSw)
    go_simp
    (try with_reducible rfl)
  simp only [Act.put, List.setIfInBounds_toArray, List.set_cons_zero, List.set_cons_succ]
  refine wpAnyH_take (i := 48) (oi := ⟨some 138, _, _, _, _, _⟩) (v := ?_) rfl (by kernel_rfl) (by kernel_rfl) (by kernel_rfl) (fun _ _ _ h => h) (Or.inl ⟨by rfl, ?_⟩) hHeld ?_
  rotate_left
  · intro ww hSw
    (try dsimp only at hSw)
    go_simp
    (try with_reducible rfl)
  simp only [Act.put, List.setIfInBounds_toArray, List.set_cons_zero, List.set_cons_succ]
  refine wpAnyH_take (i := 49) (oi := ⟨some 139, _, _, _, _, _⟩) (v := ?_) rfl (by kernel_rfl) (by kernel_rfl) (by kernel_rfl) (fun _ _ _ h => h) (Or.inl ⟨by rfl, ?_⟩) hHeld ?_
  rotate_left
  · intro ww hSw
    (try dsimp only at hSw)
    go_simp
    (try with_reducible rfl)
  simp only [Act.put, List.setIfInBounds_toArray, List.set_cons_zero, List.set_cons_succ]
  refine wpAnyH_take (i := 50) (oi := ⟨some 140, _, _, _, _, _⟩) (v := ?_) rfl (by kernel_rfl) (by kernel_rfl) (by kernel_rfl) (fun _ _ _ h => h) (Or.inl ⟨by rfl, ?_⟩) hHeld ?_
  rotate_left
  · intro ww hSw
    (try dsimp only at hSw)
    go_simp
    (try with_reducible rfl)
  simp only [Act.put, List.setIfInBounds_toArray, List.set_cons_zero, List.set_cons_succ]
  refine wpAnyH_take (i := 51) (oi := ⟨some 141, _, _, _, _, _⟩) (v := ?_) rfl (by kernel_rfl) (by kernel_rfl) (by kernel_rfl) (fun _ _ _ h => h) (Or.inl ⟨by rfl, ?_⟩) hHeld ?_
  rotate_left
  · intro ww hSw
    (try dsimp only at hSw)
    go_simp
    (try with_reducible rfl)
  simp only [Act.put, List.setIfInBounds_toArray, List.set_cons_zero, List.set_cons_succ]
  refine wpAnyH_take (i := 52) (oi := ⟨some 142, _, _, _, _, _⟩) (v := ?_) rfl (by kernel_rfl) (by kernel_rfl) (by kernel_rfl) (fun _ _ _ h => h) (Or.inl ⟨by rfl, ?_⟩) hHeld ?_
  rotate_left
  · intro ww hSw
    (try dsimp only at hSw)
    go_simp
    (try with_reducible rfl)
  simp only [Act.put, List.setIfInBounds_toArray, List.set_cons_zero, List.set_cons_succ]
  refine wpAnyH_take (i := 53) (oi := ⟨some 143, _, _, _, _, _⟩) (v := ?_) rfl (by kernel_rfl) (by kernel_rfl) (by kernel_rfl) (fun _ _ _ h => h) (Or.inl ⟨by rfl, ?_⟩) hHeld ?_
  rotate_left
  · intro ww hSw
    (try dsimp only at hSw)
    go_simp
    (try with_reducible rfl)
  simp only [Act.put, List.setIfInBounds_toArray, List.set_cons_zero, List.set_cons_succ]
  refine wpAnyH_take (i := 54) (oi := ⟨some 144, _, _, _, _, _⟩) (v := ?_) rfl (by kernel_rfl) (by kernel_rfl) (by kernel_rfl) (fun _ _ _ h => h) (Or.inl ⟨by rfl, ?_⟩) hHeld ?_
  rotate_left
  · intro ww hSw
    (try dsimp only at hSw)
    go_simp
    (try with_reducible rfl)
  simp only [Act.put, List.setIfInBounds_toArray, List.set_cons_zero, List.set_cons_succ]
  refine wpAnyH_take (i := 57) (oi := ⟨some 147, _, _, _, _, _⟩) (v := ?_) rfl (by kernel_rfl) (by kernel_rfl) (by kernel_rfl) (fun _ _ _ h => h) (Or.inl ⟨by rfl, ?_⟩) hHeld ?_
  rotate_left
  · intro ww hSw
    (try dsimp only at hSw)
    go_simp
    (try with_reducible rfl)
  simp only [Act.put, List.setIfInBounds_toArray, List.set_cons_zero, List.set_cons_succ]
  refine wpAnyH_take (i := 58) (oi := ⟨some 148, _, _, _, _, _⟩) (v := ?_) rfl (by kernel_rfl) (by kernel_rfl) (by kernel_rfl) (fun _ _ _ h => h) (Or.inl ⟨by rfl, ?_⟩) hHeld ?_
  rotate_left
  · intro ww hSw
    (try dsimp only at hSw)
    go_simp
    (try with_reducible rfl)
  simp only [Act.put, List.setIfInBounds_toArray, List.set_cons_zero, List.set_cons_succ]
  refine wpAnyH_lit (fuel' := 7) (l := #[true, true, true, true, true, true, true, true, true, true, true, true, true, true, true, true, true, true, true, true, true, true, true, true, true, true, true, true, true, true, true, true, true, true, true, true, true, true, true, true, true, true, true, true, true, true, true, true, true, true, true, true, true, true, true, false, false, true, true, false, false, false, false, false]) (by kernel_rfl) (by kernel_rfl) ?_
  refine wpAnyH_letters [145, 146, 149, 150, 151, 152, 6] [55, 56, 59, 60, 61, 62, 63] (fun vs bs w => ∃ (v55 v56 v59 v60 v61 v62 v63 : Value) (b55 b56 b59 b60 b61 b62 b63 : Bool), vs = [v55, v56, v59, v60, v61, v62, v63] ∧ bs = [b55, b56, b59, b60, b61, b62, b63] ∧ Below x2.heap.size x2 w ∧ (b55 = true → BytV v55 n4 Z4 w) ∧ (b56 = true → Fix v56 (.string s4) w) ∧ (b59 = true → BytV v59 n4 Z4 w) ∧ (b60 = true → Fix v60 (.string s4) w) ∧ (b61 = true → Fix v61 (.bool true) w) ∧ (b62 = true → Fix v62 (.bool true) w) ∧ (b63 = true → Fix v63 (.bool true) w)) ?_ (by decide) [undef, undef, undef, undef, undef, undef, .bool false] [false, false, false, false, false, false, false] rfl (by simp only [putsA, Act.put, List.setIfInBounds_toArray, List.set_cons_zero, List.set_cons_succ]) ⟨undef, undef, undef, undef, undef, undef, .bool false, false, false, false, false, false, false, false, rfl, rfl, hHeld, (fun h => by cases h), (fun h => by cases h), (fun h => by cases h), (fun h => by cases h), (fun h => by cases h), (fun h => by cases h), (fun h => by cases h)⟩ ?_ ?_
  · rintro _ _ w ⟨_, _, _, _, _, _, _, _, _, _, _, _, _, _, rfl, rfl, hb, _⟩
    exact hb
  · clear hHeld
    refine StepsFrom.cons (k := 0) ?_ ?_
    · rintro _ _ wc ⟨_, _, rfl, rfl, v55, v56, v59, v60, v61, v62, v63, b55, b56, b59, b60, b61, b62, b63, rfl, rfl, hbw', h55, h56, h59, h60, h61, h62, h63⟩ hun
      simp [setsB] at hun
    refine StepsFrom.cons (k := 1) ?_ ?_
    · rintro _ _ wc ⟨_, _, rfl, rfl, v55, v56, v59, v60, v61, v62, v63, b55, b56, b59, b60, b61, b62, b63, rfl, rfl, hbw', h55, h56, h59, h60, h61, h62, h63⟩ hun
      simp [setsB] at hun
    refine StepsFrom.cons (k := 2) ?_ ?_
    · rintro _ _ wc ⟨_, _, rfl, rfl, v55, v56, v59, v60, v61, v62, v63, b55, b56, b59, b60, b61, b62, b63, rfl, rfl, hbw', h55, h56, h59, h60, h61, h62, h63⟩ hun
      simp [setsB] at hun
    refine StepsFrom.cons (k := 3) ?_ ?_
    · rintro _ _ wc ⟨_, _, rfl, rfl, v55, v56, v59, v60, v61, v62, v63, b55, b56, b59, b60, b61, b62, b63, rfl, rfl, hbw', h55, h56, h59, h60, h61, h62, h63⟩ hun
      simp [setsB] at hun
    refine StepsFrom.cons (k := 4) ?_ ?_
    · rintro _ _ wc ⟨_, _, rfl, rfl, v55, v56, v59, v60, v61, v62, v63, b55, b56, b59, b60, b61, b62, b63, rfl, rfl, hbw', h55, h56, h59, h60, h61, h62, h63⟩ hun
      simp [setsB] at hun
    refine StepsFrom.cons (k := 5) ?_ ?_
    · rintro _ _ wc ⟨_, _, rfl, rfl, v55, v56, v59, v60, v61, v62, v63, b55, b56, b59, b60, b61, b62, b63, rfl, rfl, hbw', h55, h56, h59, h60, h61, h62, h63⟩ hun
      simp [setsB] at hun
    refine StepsFrom.cons (k := 6) ?_ ?_
    · rintro _ _ wc ⟨_, _, rfl, rfl, v55, v56, v59, v60, v61, v62, v63, b55, b56, b59, b60, b61, b62, b63, rfl, rfl, hbw', h55, h56, h59, h60, h61, h62, h63⟩ hun
      simp [setsB] at hun
    refine StepsFrom.cons (k := 7) ?_ ?_
    · rintro _ _ wc ⟨_, _, rfl, rfl, v55, v56, v59, v60, v61, v62, v63, b55, b56, b59, b60, b61, b62, b63, rfl, rfl, hbw', h55, h56, h59, h60, h61, h62, h63⟩ hun
      simp [setsB] at hun
    refine StepsFrom.cons (k := 8) ?_ ?_
    · rintro _ _ wc ⟨_, _, rfl, rfl, v55, v56, v59, v60, v61, v62, v63, b55, b56, b59, b60, b61, b62, b63, rfl, rfl, hbw', h55, h56, h59, h60, h61, h62, h63⟩ hun
      simp [setsB] at hun
    refine StepsFrom.cons (k := 9) ?_ ?_
    · rintro _ _ wc ⟨_, _, rfl, rfl, v55, v56, v59, v60, v61, v62, v63, b55, b56, b59, b60, b61, b62, b63, rfl, rfl, hbw', h55, h56, h59, h60, h61, h62, h63⟩ hun
      simp [setsB] at hun
    refine StepsFrom.cons (k := 10) ?_ ?_
    · rintro _ _ wc ⟨_, _, rfl, rfl, v55, v56, v59, v60, v61, v62, v63, b55, b56, b59, b60, b61, b62, b63, rfl, rfl, hbw', h55, h56, h59, h60, h61, h62, h63⟩ hun
      simp [setsB] at hun
    refine StepsFrom.cons (k := 11) ?_ ?_
    · rintro _ _ wc ⟨_, _, rfl, rfl, v55, v56, v59, v60, v61, v62, v63, b55, b56, b59, b60, b61, b62, b63, rfl, rfl, hbw', h55, h56, h59, h60, h61, h62, h63⟩ hun
      simp [setsB] at hun
    refine StepsFrom.cons (k := 12) ?_ ?_
    · rintro _ _ wc ⟨_, _, rfl, rfl, v55, v56, v59, v60, v61, v62, v63, b55, b56, b59, b60, b61, b62, b63, rfl, rfl, hbw', h55, h56, h59, h60, h61, h62, h63⟩ hun
      simp [setsB] at hun
    refine StepsFrom.cons (k := 13) ?_ ?_
    · rintro _ _ wc ⟨_, _, rfl, rfl, v55, v56, v59, v60, v61, v62, v63, b55, b56, b59, b60, b61, b62, b63, rfl, rfl, hbw', h55, h56, h59, h60, h61, h62, h63⟩ hun
      simp [setsB] at hun
    refine StepsFrom.cons (k := 14) ?_ ?_
    · rintro _ _ wc ⟨_, _, rfl, rfl, v55, v56, v59, v60, v61, v62, v63, b55, b56, b59, b60, b61, b62, b63, rfl, rfl, hbw', h55, h56, h59, h60, h61, h62, h63⟩ hun
      simp [setsB] at hun
    refine StepsFrom.cons (k := 15) ?_ ?_
    · rintro _ _ wc ⟨_, _, rfl, rfl, v55, v56, v59, v60, v61, v62, v63, b55, b56, b59, b60, b61, b62, b63, rfl, rfl, hbw', h55, h56, h59, h60, h61, h62, h63⟩ hun
      simp [setsB] at hun
    refine StepsFrom.cons (k := 16) ?_ ?_
    · rintro _ _ wc ⟨_, _, rfl, rfl, v55, v56, v59, v60, v61, v62, v63, b55, b56, b59, b60, b61, b62, b63, rfl, rfl, hbw', h55, h56, h59, h60, h61, h62, h63⟩ hun
      simp [setsB] at hun
    refine StepsFrom.cons (k := 17) ?_ ?_
    · rintro _ _ wc ⟨_, _, rfl, rfl, v55, v56, v59, v60, v61, v62, v63, b55, b56, b59, b60, b61, b62, b63, rfl, rfl, hbw', h55, h56, h59, h60, h61, h62, h63⟩ hun
      simp [setsB] at hun
    refine StepsFrom.cons (k := 18) ?_ ?_
    · rintro _ _ wc ⟨_, _, rfl, rfl, v55, v56, v59, v60, v61, v62, v63, b55, b56, b59, b60, b61, b62, b63, rfl, rfl, hbw', h55, h56, h59, h60, h61, h62, h63⟩ hun
      simp [setsB] at hun
    refine StepsFrom.cons (k := 19) ?_ ?_
    · rintro _ _ wc ⟨_, _, rfl, rfl, v55, v56, v59, v60, v61, v62, v63, b55, b56, b59, b60, b61, b62, b63, rfl, rfl, hbw', h55, h56, h59, h60, h61, h62, h63⟩ hun
      simp [setsB] at hun
    refine StepsFrom.cons (k := 20) ?_ ?_
    · rintro _ _ wc ⟨_, _, rfl, rfl, v55, v56, v59, v60, v61, v62, v63, b55, b56, b59, b60, b61, b62, b63, rfl, rfl, hbw', h55, h56, h59, h60, h61, h62, h63⟩ hun
      simp [setsB] at hun
    refine StepsFrom.cons (k := 21) ?_ ?_
    · rintro _ _ wc ⟨_, _, rfl, rfl, v55, v56, v59, v60, v61, v62, v63, b55, b56, b59, b60, b61, b62, b63, rfl, rfl, hbw', h55, h56, h59, h60, h61, h62, h63⟩ hun
      simp [setsB] at hun
    refine StepsFrom.cons (k := 22) ?_ ?_
    · rintro _ _ wc ⟨_, _, rfl, rfl, v55, v56, v59, v60, v61, v62, v63, b55, b56, b59, b60, b61, b62, b63, rfl, rfl, hbw', h55, h56, h59, h60, h61, h62, h63⟩ hun
      simp [setsB] at hun
    refine StepsFrom.cons (k := 23) ?_ ?_
    · rintro _ _ wc ⟨_, _, rfl, rfl, v55, v56, v59, v60, v61, v62, v63, b55, b56, b59, b60, b61, b62, b63, rfl, rfl, hbw', h55, h56, h59, h60, h61, h62, h63⟩ hun
      simp [setsB] at hun
    refine StepsFrom.cons (k := 24) ?_ ?_
    · rintro _ _ wc ⟨_, _, rfl, rfl, v55, v56, v59, v60, v61, v62, v63, b55, b56, b59, b60, b61, b62, b63, rfl, rfl, hbw', h55, h56, h59, h60, h61, h62, h63⟩ hun
      simp [setsB] at hun
    refine StepsFrom.cons (k := 25) ?_ ?_
    · rintro _ _ wc ⟨_, _, rfl, rfl, v55, v56, v59, v60, v61, v62, v63, b55, b56, b59, b60, b61, b62, b63, rfl, rfl, hbw', h55, h56, h59, h60, h61, h62, h63⟩ hun
      simp [setsB] at hun
    refine StepsFrom.cons (k := 26) ?_ ?_
    · rintro _ _ wc ⟨_, _, rfl, rfl, v55, v56, v59, v60, v61, v62, v63, b55, b56, b59, b60, b61, b62, b63, rfl, rfl, hbw', h55, h56, h59, h60, h61, h62, h63⟩ hun
      simp [setsB] at hun
    refine StepsFrom.cons (k := 27) ?_ ?_
    · rintro _ _ wc ⟨_, _, rfl, rfl, v55, v56, v59, v60, v61, v62, v63, b55, b56, b59, b60, b61, b62, b63, rfl, rfl, hbw', h55, h56, h59, h60, h61, h62, h63⟩ hun
      simp [setsB] at hun
    refine StepsFrom.cons (k := 28) ?_ ?_
    · rintro _ _ wc ⟨_, _, rfl, rfl, v55, v56, v59, v60, v61, v62, v63, b55, b56, b59, b60, b61, b62, b63, rfl, rfl, hbw', h55, h56, h59, h60, h61, h62, h63⟩ hun
      simp [setsB] at hun
    refine StepsFrom.cons (k := 29) ?_ ?_
    · rintro _ _ wc ⟨_, _, rfl, rfl, v55, v56, v59, v60, v61, v62, v63, b55, b56, b59, b60, b61, b62, b63, rfl, rfl, hbw', h55, h56, h59, h60, h61, h62, h63⟩ hun
      simp [setsB] at hun
    refine StepsFrom.cons (k := 30) ?_ ?_
    · rintro _ _ wc ⟨_, _, rfl, rfl, v55, v56, v59, v60, v61, v62, v63, b55, b56, b59, b60, b61, b62, b63, rfl, rfl, hbw', h55, h56, h59, h60, h61, h62, h63⟩ hun
      simp [setsB] at hun
    refine StepsFrom.cons (k := 31) ?_ ?_
    · rintro _ _ wc ⟨_, _, rfl, rfl, v55, v56, v59, v60, v61, v62, v63, b55, b56, b59, b60, b61, b62, b63, rfl, rfl, hbw', h55, h56, h59, h60, h61, h62, h63⟩ hun
      simp [setsB] at hun
    refine StepsFrom.cons (k := 32) ?_ ?_
    · rintro _ _ wc ⟨_, _, rfl, rfl, v55, v56, v59, v60, v61, v62, v63, b55, b56, b59, b60, b61, b62, b63, rfl, rfl, hbw', h55, h56, h59, h60, h61, h62, h63⟩ hun
      simp [setsB] at hun
    refine StepsFrom.cons (k := 33) ?_ ?_
    · rintro _ _ wc ⟨_, _, rfl, rfl, v55, v56, v59, v60, v61, v62, v63, b55, b56, b59, b60, b61, b62, b63, rfl, rfl, hbw', h55, h56, h59, h60, h61, h62, h63⟩ hun
      simp [setsB] at hun
    refine StepsFrom.cons (k := 34) ?_ ?_
    · rintro _ _ wc ⟨_, _, rfl, rfl, v55, v56, v59, v60, v61, v62, v63, b55, b56, b59, b60, b61, b62, b63, rfl, rfl, hbw', h55, h56, h59, h60, h61, h62, h63⟩ hun
      simp [setsB] at hun
    refine StepsFrom.cons (k := 35) ?_ ?_
    · rintro _ _ wc ⟨_, _, rfl, rfl, v55, v56, v59, v60, v61, v62, v63, b55, b56, b59, b60, b61, b62, b63, rfl, rfl, hbw', h55, h56, h59, h60, h61, h62, h63⟩ hun
      simp [setsB] at hun
    refine StepsFrom.cons (k := 36) ?_ ?_
    · rintro _ _ wc ⟨_, _, rfl, rfl, v55, v56, v59, v60, v61, v62, v63, b55, b56, b59, b60, b61, b62, b63, rfl, rfl, hbw', h55, h56, h59, h60, h61, h62, h63⟩ hun
      simp [setsB] at hun
    refine StepsFrom.cons (k := 37) ?_ ?_
    · rintro _ _ wc ⟨_, _, rfl, rfl, v55, v56, v59, v60, v61, v62, v63, b55, b56, b59, b60, b61, b62, b63, rfl, rfl, hbw', h55, h56, h59, h60, h61, h62, h63⟩ hun
      simp [setsB] at hun
    refine StepsFrom.cons (k := 38) ?_ ?_
    · rintro _ _ wc ⟨_, _, rfl, rfl, v55, v56, v59, v60, v61, v62, v63, b55, b56, b59, b60, b61, b62, b63, rfl, rfl, hbw', h55, h56, h59, h60, h61, h62, h63⟩ hun
      simp [setsB] at hun
    refine StepsFrom.cons (k := 39) ?_ ?_
    · rintro _ _ wc ⟨_, _, rfl, rfl, v55, v56, v59, v60, v61, v62, v63, b55, b56, b59, b60, b61, b62, b63, rfl, rfl, hbw', h55, h56, h59, h60, h61, h62, h63⟩ hun
      simp [setsB] at hun
    refine StepsFrom.cons (k := 40) ?_ ?_
    · rintro _ _ wc ⟨_, _, rfl, rfl, v55, v56, v59, v60, v61, v62, v63, b55, b56, b59, b60, b61, b62, b63, rfl, rfl, hbw', h55, h56, h59, h60, h61, h62, h63⟩ hun
      simp [setsB] at hun
    refine StepsFrom.cons (k := 41) ?_ ?_
    · rintro _ _ wc ⟨_, _, rfl, rfl, v55, v56, v59, v60, v61, v62, v63, b55, b56, b59, b60, b61, b62, b63, rfl, rfl, hbw', h55, h56, h59, h60, h61, h62, h63⟩ hun
      simp [setsB] at hun
    refine StepsFrom.cons (k := 42) ?_ ?_
    · rintro _ _ wc ⟨_, _, rfl, rfl, v55, v56, v59, v60, v61, v62, v63, b55, b56, b59, b60, b61, b62, b63, rfl, rfl, hbw', h55, h56, h59, h60, h61, h62, h63⟩ hun
      simp [setsB] at hun
    refine StepsFrom.cons (k := 43) ?_ ?_
    · rintro _ _ wc ⟨_, _, rfl, rfl, v55, v56, v59, v60, v61, v62, v63, b55, b56, b59, b60, b61, b62, b63, rfl, rfl, hbw', h55, h56, h59, h60, h61, h62, h63⟩ hun
      simp [setsB] at hun
    refine StepsFrom.cons (k := 44) ?_ ?_
    · rintro _ _ wc ⟨_, _, rfl, rfl, v55, v56, v59, v60, v61, v62, v63, b55, b56, b59, b60, b61, b62, b63, rfl, rfl, hbw', h55, h56, h59, h60, h61, h62, h63⟩ hun
      simp [setsB] at hun
    refine StepsFrom.cons (k := 45) ?_ ?_
    · rintro _ _ wc ⟨_, _, rfl, rfl, v55, v56, v59, v60, v61, v62, v63, b55, b56, b59, b60, b61, b62, b63, rfl, rfl, hbw', h55, h56, h59, h60, h61, h62, h63⟩ hun
      simp [setsB] at hun
    refine StepsFrom.cons (k := 46) ?_ ?_
    · rintro _ _ wc ⟨_, _, rfl, rfl, v55, v56, v59, v60, v61, v62, v63, b55, b56, b59, b60, b61, b62, b63, rfl, rfl, hbw', h55, h56, h59, h60, h61, h62, h63⟩ hun
      simp [setsB] at hun
    refine StepsFrom.cons (k := 47) ?_ ?_
    · rintro _ _ wc ⟨_, _, rfl, rfl, v55, v56, v59, v60, v61, v62, v63, b55, b56, b59, b60, b61, b62, b63, rfl, rfl, hbw', h55, h56, h59, h60, h61, h62, h63⟩ hun
      simp [setsB] at hun
    refine StepsFrom.cons (k := 48) ?_ ?_
    · rintro _ _ wc ⟨_, _, rfl, rfl, v55, v56, v59, v60, v61, v62, v63, b55, b56, b59, b60, b61, b62, b63, rfl, rfl, hbw', h55, h56, h59, h60, h61, h62, h63⟩ hun
      simp [setsB] at hun
    refine StepsFrom.cons (k := 49) ?_ ?_
    · rintro _ _ wc ⟨_, _, rfl, rfl, v55, v56, v59, v60, v61, v62, v63, b55, b56, b59, b60, b61, b62, b63, rfl, rfl, hbw', h55, h56, h59, h60, h61, h62, h63⟩ hun
      simp [setsB] at hun
    refine StepsFrom.cons (k := 50) ?_ ?_
    · rintro _ _ wc ⟨_, _, rfl, rfl, v55, v56, v59, v60, v61, v62, v63, b55, b56, b59, b60, b61, b62, b63, rfl, rfl, hbw', h55, h56, h59, h60, h61, h62, h63⟩ hun
      simp [setsB] at hun
    refine StepsFrom.cons (k := 51) ?_ ?_
    · rintro _ _ wc ⟨_, _, rfl, rfl, v55, v56, v59, v60, v61, v62, v63, b55, b56, b59, b60, b61, b62, b63, rfl, rfl, hbw', h55, h56, h59, h60, h61, h62, h63⟩ hun
      simp [setsB] at hun
    refine StepsFrom.cons (k := 52) ?_ ?_
    · rintro _ _ wc ⟨_, _, rfl, rfl, v55, v56, v59, v60, v61, v62, v63, b55, b56, b59, b60, b61, b62, b63, rfl, rfl, hbw', h55, h56, h59, h60, h61, h62, h63⟩ hun
      simp [setsB] at hun
    refine StepsFrom.cons (k := 53) ?_ ?_
    · rintro _ _ wc ⟨_, _, rfl, rfl, v55, v56, v59, v60, v61, v62, v63, b55, b56, b59, b60, b61, b62, b63, rfl, rfl, hbw', h55, h56, h59, h60, h61, h62, h63⟩ hun
      simp [setsB] at hun
    refine StepsFrom.cons (k := 54) ?_ ?_
    · rintro _ _ wc ⟨_, _, rfl, rfl, v55, v56, v59, v60, v61, v62, v63, b55, b56, b59, b60, b61, b62, b63, rfl, rfl, hbw', h55, h56, h59, h60, h61, h62, h63⟩ hun
      simp [setsB] at hun
    refine StepsFrom.cons (k := 55) ?_ ?_
    · rintro _ _ wc ⟨_, _, rfl, rfl, v55, v56, v59, v60, v61, v62, v63, b55, b56, b59, b60, b61, b62, b63, rfl, rfl, hbw', h55, h56, h59, h60, h61, h62, h63⟩ hun hpre K hK
      simp only [setsB, List.setIfInBounds_toArray, List.set_cons_zero, List.set_cons_succ] at hpre
      clear hun hpre
      simp only [putsA, Act.put, List.setIfInBounds_toArray, List.set_cons_zero, List.set_cons_succ]
      go_simp
      go_at_call 17
      refine (HV.out _ (HS'.out.below hbw') (HE'.out.below hbw')).mono ?_
      rintro e_r wn ⟨An, cn, rfl, hsn, hbn⟩
      go_wp2_with fail
      have qI : BytV (.slice An n4 cn) n4 Z4 wn := ⟨An, cn, rfl, hsn⟩
      refine hK.out _ _ ⟨_, _, ?_, ?_, (.slice An n4 cn), v56, v59, v60, v61, v62, v63, true, b56, b59, b60, b61, b62, b63, rfl, rfl, bel_on hbw' hbn, (fun _ => qI), (fun e => (h56 e).below hbn), (fun e => (h59 e).below hbn), (fun e => (h60 e).below hbn), (fun e => (h61 e).below hbn), (fun e => (h62 e).below hbn), (fun e => (h63 e).below hbn)⟩
      · simp only [setsB, List.setIfInBounds_toArray, List.set_cons_zero, List.set_cons_succ]
      · simp only [putsA, Act.put, List.setIfInBounds_toArray, List.set_cons_zero, List.set_cons_succ]
    refine StepsFrom.cons (k := 56) ?_ ?_
    · rintro _ _ wc ⟨_, _, rfl, rfl, v55, v56, v59, v60, v61, v62, v63, b55, b56, b59, b60, b61, b62, b63, rfl, rfl, hbw', h55, h56, h59, h60, h61, h62, h63⟩ hun hpre K hK
      simp only [setsB, List.setIfInBounds_toArray, List.set_cons_zero, List.set_cons_succ] at hpre
      have p55 := hpre ⟨55, .data⟩ (by simp) rfl
      subst p55
      clear hun hpre
      have q55 := h55 rfl
      clear h55
      refine BytV.elim q55 ?_
      intro A55 c55 z55 hp55
      subst z55
      simp only [putsA, Act.put, List.setIfInBounds_toArray, List.set_cons_zero, List.set_cons_succ]
      have hcv := HC4.out wc A55 c55 hp55
      go_simp
      have hbn := Below.refl wc.heap.size wc
      have qI : Fix (.string s4) (.string s4) wc := rfl
      refine hK.out _ _ ⟨_, _, ?_, ?_, (.slice A55 n4 c55), (.string s4), v59, v60, v61, v62, v63, true, true, b59, b60, b61, b62, b63, rfl, rfl, bel_on hbw' hbn, (fun _ => q55.below hbn), (fun _ => qI), (fun e => (h59 e).below hbn), (fun e => (h60 e).below hbn), (fun e => (h61 e).below hbn), (fun e => (h62 e).below hbn), (fun e => (h63 e).below hbn)⟩
      · simp only [setsB, List.setIfInBounds_toArray, List.set_cons_zero, List.set_cons_succ]
      · simp only [putsA, Act.put, List.setIfInBounds_toArray, List.set_cons_zero, List.set_cons_succ]
    refine StepsFrom.cons (k := 57) ?_ ?_
    · rintro _ _ wc ⟨_, _, rfl, rfl, v55, v56, v59, v60, v61, v62, v63, b55, b56, b59, b60, b61, b62, b63, rfl, rfl, hbw', h55, h56, h59, h60, h61, h62, h63⟩ hun
      simp [setsB] at hun
    refine StepsFrom.cons (k := 58) ?_ ?_
    · rintro _ _ wc ⟨_, _, rfl, rfl, v55, v56, v59, v60, v61, v62, v63, b55, b56, b59, b60, b61, b62, b63, rfl, rfl, hbw', h55, h56, h59, h60, h61, h62, h63⟩ hun
      simp [setsB] at hun
    refine StepsFrom.cons (k := 59) ?_ ?_
    · rintro _ _ wc ⟨_, _, rfl, rfl, v55, v56, v59, v60, v61, v62, v63, b55, b56, b59, b60, b61, b62, b63, rfl, rfl, hbw', h55, h56, h59, h60, h61, h62, h63⟩ hun hpre K hK
      simp only [setsB, List.setIfInBounds_toArray, List.set_cons_zero, List.set_cons_succ] at hpre
      have p55 := hpre ⟨55, .chain⟩ (by simp) rfl
      subst p55
      clear hun hpre
      have q55 := h55 rfl
      clear h55
      refine BytV.elim q55 ?_
      intro A55 c55 z55 hp55
      subst z55
      simp only [putsA, Act.put, List.setIfInBounds_toArray, List.set_cons_zero, List.set_cons_succ]
      go_simp
      go_at_call 18
      refine (HW.out _ (HS'.out.below hbw') (HE'.out.below hbw')).mono ?_
      rintro e_r wn ⟨An, cn, rfl, hsn, hbn⟩
      go_wp2_with fail
      have qI : BytV (.slice An n4 cn) n4 Z4 wn := ⟨An, cn, rfl, hsn⟩
      refine hK.out _ _ ⟨_, _, ?_, ?_, (.slice A55 n4 c55), v56, (.slice An n4 cn), v60, v61, v62, v63, true, b56, true, b60, b61, b62, b63, rfl, rfl, bel_on hbw' hbn, (fun _ => q55.below hbn), (fun e => (h56 e).below hbn), (fun _ => qI), (fun e => (h60 e).below hbn), (fun e => (h61 e).below hbn), (fun e => (h62 e).below hbn), (fun e => (h63 e).below hbn)⟩
      · simp only [setsB, List.setIfInBounds_toArray, List.set_cons_zero, List.set_cons_succ]
      · simp only [putsA, Act.put, List.setIfInBounds_toArray, List.set_cons_zero, List.set_cons_succ]
    refine StepsFrom.cons (k := 60) ?_ ?_
    · rintro _ _ wc ⟨_, _, rfl, rfl, v55, v56, v59, v60, v61, v62, v63, b55, b56, b59, b60, b61, b62, b63, rfl, rfl, hbw', h55, h56, h59, h60, h61, h62, h63⟩ hun hpre K hK
      simp only [setsB, List.setIfInBounds_toArray, List.set_cons_zero, List.set_cons_succ] at hpre
      have p59 := hpre ⟨59, .data⟩ (by simp) rfl
      subst p59
      clear hun hpre
      have q59 := h59 rfl
      clear h59
      refine BytV.elim q59 ?_
      intro A59 c59 z59 hp59
      subst z59
      simp only [putsA, Act.put, List.setIfInBounds_toArray, List.set_cons_zero, List.set_cons_succ]
      have hcv := HC4.out wc A59 c59 hp59
      go_simp
      have hbn := Below.refl wc.heap.size wc
      have qI : Fix (.string s4) (.string s4) wc := rfl
      refine hK.out _ _ ⟨_, _, ?_, ?_, v55, v56, (.slice A59 n4 c59), (.string s4), v61, v62, v63, b55, b56, true, true, b61, b62, b63, rfl, rfl, bel_on hbw' hbn, (fun e => (h55 e).below hbn), (fun e => (h56 e).below hbn), (fun _ => q59.below hbn), (fun _ => qI), (fun e => (h61 e).below hbn), (fun e => (h62 e).below hbn), (fun e => (h63 e).below hbn)⟩
      · simp only [setsB, List.setIfInBounds_toArray, List.set_cons_zero, List.set_cons_succ]
      · simp only [putsA, Act.put, List.setIfInBounds_toArray, List.set_cons_zero, List.set_cons_succ]
    refine StepsFrom.cons (k := 61) ?_ ?_
    · rintro _ _ wc ⟨_, _, rfl, rfl, v55, v56, v59, v60, v61, v62, v63, b55, b56, b59, b60, b61, b62, b63, rfl, rfl, hbw', h55, h56, h59, h60, h61, h62, h63⟩ hun hpre K hK
      simp only [setsB, List.setIfInBounds_toArray, List.set_cons_zero, List.set_cons_succ] at hpre
      have p56 := hpre ⟨56, .data⟩ (by simp) rfl
      subst p56
      have p60 := hpre ⟨60, .data⟩ (by simp) rfl
      subst p60
      clear hun hpre
      have q56 := h56 rfl
      clear h56
      have q60 := h60 rfl
      clear h60
      have z56 : v56 = _ := q56
      subst z56
      have z60 : v60 = _ := q60
      subst z60
      simp only [putsA, Act.put, List.setIfInBounds_toArray, List.set_cons_zero, List.set_cons_succ]
      go_simp
      refine hK.out _ _ ⟨_, _, ?_, ?_, v55, (.string s4), v59, (.string s4), (.bool true), v62, v63, b55, true, b59, true, true, b62, b63, rfl, rfl, hbw', h55, (fun _ => q56), h59, (fun _ => q60), (fun _ => rfl), h62, h63⟩
      · simp only [setsB, List.setIfInBounds_toArray, List.set_cons_zero, List.set_cons_succ]
      · simp only [putsA, Act.put, List.setIfInBounds_toArray, List.set_cons_zero, List.set_cons_succ]
    refine StepsFrom.cons (k := 62) ?_ ?_
    · rintro _ _ wc ⟨_, _, rfl, rfl, v55, v56, v59, v60, v61, v62, v63, b55, b56, b59, b60, b61, b62, b63, rfl, rfl, hbw', h55, h56, h59, h60, h61, h62, h63⟩ hun hpre K hK
      simp only [setsB, List.setIfInBounds_toArray, List.set_cons_zero, List.set_cons_succ] at hpre
      have p61 := hpre ⟨61, .data⟩ (by simp) rfl
      subst p61
      clear hun hpre
      have q61 := h61 rfl
      clear h61
      have z61 : v61 = _ := q61
      subst z61
      simp only [putsA, Act.put, List.setIfInBounds_toArray, List.set_cons_zero, List.set_cons_succ]
      go_simp
      refine hK.out _ _ ⟨_, _, ?_, ?_, v55, v56, v59, v60, (.bool true), (.bool true), v63, b55, b56, b59, b60, true, true, b63, rfl, rfl, hbw', h55, h56, h59, h60, (fun _ => q61), (fun _ => rfl), h63⟩
      · simp only [setsB, List.setIfInBounds_toArray, List.set_cons_zero, List.set_cons_succ]
      · simp only [putsA, Act.put, List.setIfInBounds_toArray, List.set_cons_zero, List.set_cons_succ]
    refine StepsFrom.cons (k := 63) ?_ ?_
    · rintro _ _ wc ⟨_, _, rfl, rfl, v55, v56, v59, v60, v61, v62, v63, b55, b56, b59, b60, b61, b62, b63, rfl, rfl, hbw', h55, h56, h59, h60, h61, h62, h63⟩ hun hpre K hK
      simp only [setsB, List.setIfInBounds_toArray, List.set_cons_zero, List.set_cons_succ] at hpre
      have p62 := hpre ⟨62, .data⟩ (by simp) rfl
      subst p62
      have p59 := hpre ⟨59, .chain⟩ (by simp) rfl
      subst p59
      have p55 := hpre ⟨55, .phase⟩ (by simp) rfl
      subst p55
      have p56 := hpre ⟨56, .phase⟩ (by simp) rfl
      subst p56
      have p60 := hpre ⟨60, .phase⟩ (by simp) rfl
      subst p60
      have p61 := hpre ⟨61, .phase⟩ (by simp) rfl
      subst p61
      clear hun hpre
      have q55 := h55 rfl
      clear h55
      have q56 := h56 rfl
      clear h56
      have q59 := h59 rfl
      clear h59
      have q60 := h60 rfl
      clear h60
      have q61 := h61 rfl
      clear h61
      have q62 := h62 rfl
      clear h62
      refine BytV.elim q55 ?_
      intro A55 c55 z55 hp55
      subst z55
      have z56 : v56 = _ := q56
      subst z56
      refine BytV.elim q59 ?_
      intro A59 c59 z59 hp59
      subst z59
      have z60 : v60 = _ := q60
      subst z60
      have z61 : v61 = _ := q61
      subst z61
      have z62 : v62 = _ := q62
      subst z62
      simp only [putsA, Act.put, List.setIfInBounds_toArray, List.set_cons_zero, List.set_cons_succ]
      go_simp
      refine hK.out _ _ ⟨_, _, ?_, ?_, (.slice A55 n4 c55), (.string s4), (.slice A59 n4 c59), (.string s4), (.bool true), (.bool true), (.bool true), true, true, true, true, true, true, true, rfl, rfl, hbw', (fun _ => q55), (fun _ => q56), (fun _ => q59), (fun _ => q60), (fun _ => q61), (fun _ => q62), (fun _ => rfl)⟩
      · simp only [setsB, List.setIfInBounds_toArray, List.set_cons_zero, List.set_cons_succ]
      · simp only [putsA, Act.put, List.setIfInBounds_toArray, List.set_cons_zero, List.set_cons_succ]
    exact StepsFrom.nil
  clear hHeld
  rintro _ _ wc ⟨_, _, rfl, rfl, v55, v56, v59, v60, v61, v62, v63, b55, b56, b59, b60, b61, b62, b63, rfl, rfl, hbw', h55, h56, h59, h60, h61, h62, h63⟩ hr
  simp only [setsB, List.setIfInBounds_toArray, List.set_cons_zero, List.set_cons_succ] at hr
  have u55 : b55 = true := all_up hr 55 rfl (by simp [Region.binds])
  subst u55
  have u56 : b56 = true := all_up hr 56 rfl (by simp [Region.binds])
  subst u56
  have u59 : b59 = true := all_up hr 59 rfl (by simp [Region.binds])
  subst u59
  have u60 : b60 = true := all_up hr 60 rfl (by simp [Region.binds])
  subst u60
  have u61 : b61 = true := all_up hr 61 rfl (by simp [Region.binds])
  subst u61
  have u62 : b62 = true := all_up hr 62 rfl (by simp [Region.binds])
  subst u62
  have u63 : b63 = true := all_up hr 63 rfl (by simp [Region.binds])
  subst u63
  have q55 := h55 rfl
  refine BytV.elim q55 ?_
  intro A55 c55 z55 _
  subst z55
  have q56 := h56 rfl
  have z56 : v56 = _ := q56
  subst z56
  have q59 := h59 rfl
  refine BytV.elim q59 ?_
  intro A59 c59 z59 _
  subst z59
  have q60 := h60 rfl
  have z60 : v60 = _ := q60
  subst z60
  have q61 := h61 rfl
  have z61 : v61 = _ := q61
  subst z61
  have q62 := h62 rfl
  have z62 : v62 = _ := q62
  subst z62
  have q63 := h63 rfl
  have z63 : v63 = _ := q63
  subst z63
  clear hr h55 h56 h59 h60 h61 h62 h63
  simp only [putsA, Act.put, List.setIfInBounds_toArray, List.set_cons_zero, List.set_cons_succ]
  refine NoPanic.normal ?_
  go_wp2
  go_ret
  exact ⟨rfl, bel_on b1 hbw'⟩

theorem packTells_walk (a0 : Option Addr) (len0 cap0 : Nat) (z0 : List Int) (a1 : Option Addr) (len1 cap1 : Nat) (z1 : List Int) (a2 : Option Addr) (len2 cap2 : Nat) (z2 : List Int) (w : World) (r0 : IsRow .u8 w a0 len0 cap0 z0) (r1 : IsRow .i64 w a1 len1 cap1 z1) (r2 : IsRow .u8 w a2 len2 cap2 z2) :
    Calls Try.prog 3 #[.slice a0 len0 cap0, .slice a1 len1 cap1, .slice a2 len2 cap2] w fun e w' => e = .returned (.bool true) ∧ Below w.heap.size w w' := by
  by_cases g : 1000 < len0 ∨ (len0 ≤ 1000 ∧ 1000 < len1) ∨ (len0 ≤ 1000 ∧ len1 ≤ 1000 ∧ 1000 < len2)
  · exact packTells_out _ _ _ _ _ _ _ _ _ w g
  · obtain ⟨bs, l0, s0, _⟩ := bytes_of_row r0
    obtain ⟨zs, l1, s1, _, hz⟩ := nums_of_row r1
    obtain ⟨ts, l2, s2, _⟩ := bytes_of_row r2
    have hc := bytes_caps r0
    rcases Nat.eq_zero_or_pos len1 with h | h
    · exact packTells_none _ _ _ bs _ _ _ zs _ _ _ ts w s0 hc.1 (by omega) s1 l1 (fun z hz' => (hz z hz').2) (by omega) s2 (by omega) h
    · exact packTells_some _ _ _ bs _ _ _ zs _ _ _ ts w s0 hc.1 (by omega) s1 l1 (fun z hz' => (hz z hz').2) (by omega) s2 (by omega) h
end Go.Proofs.Ytmmjkpdmjpoidaa
