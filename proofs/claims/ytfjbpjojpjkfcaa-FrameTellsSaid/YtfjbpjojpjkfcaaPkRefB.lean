/-
  The document's own answers of layer 5 (lumperref05): numbers, and texts, taken; numbers put.
-/
import Derived.Test.YtfjbpjojpjkfcaaPkRef
import Derived.RegionTactic
namespace Go.Proofs.Ytfjbpjojpjkfcaa
open Go.RowKit
set_option linter.unusedVariables false

theorem wrapi_id {a : Int} (h0 : -9223372036854775808 ≤ a) (h1 : a < 9223372036854775808) : IntKind.i64.wrap a = a := by
  simp [IntKind.wrap, IntKind.bits, IntKind.signed]
  split <;> omega
theorem rtake_nil (A : Option Addr) (c : Nat) (w : World) :
    Calls Try.prog 34 #[.slice A 0 c] w fun e w' => e = .returned (.tuple #[.int .i64 0, .slice none 0 0, .int .i64 50]) ∧ w = w' := by
  go_enter Try.func34, Try.ntmps34
  go_wp2
  go_ret3
  exact ⟨rfl, rfl⟩
theorem rtake_out (b off m c x : Nat) (w : World) (hm : 0 < m) (c0 : w.cell? ⟨b, off, none⟩ = some (.int .u8 x)) (hx : x < 256) (h : 8 < x ∨ (x ≤ 8 ∧ m ≤ x)) :
    Calls Try.prog 34 #[.slice (some ⟨b, off, none⟩) m c] w fun e w' => e = .returned (.tuple #[.int .i64 0, .slice none 0 0, .int .i64 50]) ∧ w = w' := by
  have m0 : ((m : Int) == 0) = false := by simp; omega
  have h' : (8 : Int) < (x : Int) ∨ (¬ (8 : Int) < (x : Int) ∧ (m : Int) ≤ (x : Int)) := by omega
  clear h
  rcases h' with h | ⟨h, h'⟩
  all_goals
    go_enter Try.func34, Try.ntmps34
    go_wp2
    go_ret3
    exact ⟨rfl, rfl⟩
theorem rtake_few (b off m c x y : Nat) (w : World) (c0 : w.cell? ⟨b, off, none⟩ = some (.int .u8 x)) (c1 : w.cell? ⟨b, off + 1, none⟩ = some (.int .u8 y)) (hx : x ≤ 8) (hy : y < 256) (hm : x < m) (h : (x = 8 ∧ 128 ≤ y) ∨ (0 < x ∧ y = 0)) :
    Calls Try.prog 34 #[.slice (some ⟨b, off, none⟩) m c] w fun e w' => e = .returned (.tuple #[.int .i64 0, .slice none 0 0, .int .i64 50]) ∧ w = w' := by
  have m0 : ((m : Int) == 0) = false := by simp; omega
  have g1 : ¬ (8 : Int) < (x : Int) := by omega
  have g2 : ¬ (m : Int) ≤ (x : Int) := by omega
  have g3 : (1 : Int) < (m : Int) := by omega
  rcases Nat.lt_or_ge x 8 with q | q
  · have h' : 0 < x ∧ y = 0 := by omega
    obtain ⟨h1, rfl⟩ := h'
    have e1 : ((x : Int) == 8) = false := by simp; omega
    have e2 : (0 : Int) < (x : Int) := by omega
    clear h
    go_enter Try.func34, Try.ntmps34
    go_wp2
    go_ret3
    exact ⟨rfl, rfl⟩
  · obtain rfl : x = 8 := by omega
    have h' : (128 : Int) ≤ (y : Int) ∨ (¬ (128 : Int) ≤ (y : Int) ∧ (y : Int) = 0) := by omega
    clear h
    rcases h' with h | ⟨h, h'⟩
    · go_enter Try.func34, Try.ntmps34
      go_wp2
      go_ret3
      exact ⟨rfl, rfl⟩
    · obtain rfl : y = 0 := by omega
      clear h h'
      go_enter Try.func34, Try.ntmps34
      go_wp2
      go_ret3
      exact ⟨rfl, rfl⟩
theorem rtake_bad (A : Option Addr) (m c : Nat) (l : List (BitVec 8)) (w : World) (hx : Byts w A l) (hm : l.length = m) (ht : takeB l = none) :
    Calls Try.prog 34 #[.slice A m c] w fun e w' => e = .returned (.tuple #[.int .i64 0, .slice none 0 0, .int .i64 50]) ∧ w = w' := by
  subst hm
  cases l with
  | nil => exact rtake_nil A c w
  | cons x r =>
    obtain ⟨b, off, rfl, c0⟩ := hx 0 (by simp)
    have c0' : w.cell? ⟨b, off, none⟩ = some (.int .u8 x.toNat) := c0
    have hx8 := x.isLt
    rw [takeB] at ht
    by_cases h1 : 8 < x.toNat ∨ r.length < x.toNat
    · exact rtake_out b off _ c x.toNat w (by simp) c0' (by omega) (by rw [List.length_cons]; omega)
    · rw [if_neg h1] at ht
      by_cases h2 : (x.toNat = 8 ∧ 128 ≤ (r.getD 0 0#8).toNat) ∨ (0 < x.toNat ∧ (r.getD 0 0#8).toNat = 0)
      · obtain ⟨b', off', e, c1⟩ := hx 1 (by rw [List.length_cons]; omega)
        injection e with e
        injection e with e1 e2 _
        subst e1 e2
        have c1' : w.cell? ⟨b, off + 1, none⟩ = some (.int .u8 (r.getD 0 0#8).toNat) := c1
        have hy8 := (r.getD 0 0#8).isLt
        exact rtake_few b off _ c x.toNat _ w c0' c1' (by omega) (by omega) (by rw [List.length_cons]; omega) h2
      · rw [if_neg h2] at ht
        cases ht
theorem val_take_le (l : List Nat) : ∀ k j, j ≤ k → valN (l.take j) ≤ valN (l.take k) := by
  intro k
  induction k with
  | zero =>
    intro j hj
    obtain rfl : j = 0 := by omega
    exact Nat.le_refl _
  | succ k ih =>
    intro j hj
    rcases Nat.lt_or_ge j (k + 1) with q | q
    · refine Nat.le_trans (ih j (by omega)) ?_
      rcases Nat.lt_or_ge k l.length with p | p
      · rw [List.take_succ_eq_append_getElem p, valN_snoc]
        omega
      · rw [List.take_of_length_le p, List.take_of_length_le (by omega)]
        exact Nat.le_refl _
    · obtain rfl : j = k + 1 := by omega
      exact Nat.le_refl _
theorem val_take_snoc (r : List (BitVec 8)) (j : Nat) (h : j < r.length) : valN (natsB (r.take (j + 1))) = valN (natsB (r.take j)) * 256 + (r.getD j 0#8).toNat := by
  rw [List.take_succ_eq_append_getElem h, natsB, List.map_append]
  simp only [List.map_cons, List.map_nil]
  rw [valN_snoc]
  simp [natsB, List.getD, h]
set_option maxHeartbeats 1000000 in
theorem rtake_all (A : Option Addr) (m c : Nat) (l t : List (BitVec 8)) (n q : Nat) (w : World) (hx : Sl 1 w A m c (bytesV l)) (hml : m ≤ 1000000000000) (hmc : m ≤ c) (ht : takeB l = some (n, t)) (hq : t.length = q) :
    Calls Try.prog 34 #[.slice A m c] w fun e w' => ∃ A' c', e = .returned (.tuple #[.int .i64 n, .slice A' q c', .int .i64 0]) ∧ (∀ w0, Sl 1 w0 A m c (bytesV l) → Sl 1 w0 A' q c' (bytesV t)) ∧ q ≤ c' ∧ Below w.heap.size w w' := by
  have hm := hx.blen
  cases l with
  | nil => simp [takeB] at ht
  | cons x r =>
    have hby := byts_of_sl hx
    obtain ⟨b, off, rfl, c0⟩ := hby 0 (by simp)
    obtain ⟨hx8, hxr, hv, hn, hd⟩ := take_fits ht
    obtain ⟨hl, _, hdr⟩ := take_lens ht
    rw [one_len, hd] at hl hdr
    have hml2 : m = r.length + 1 := by rw [← hm]; simp
    obtain ⟨A2, hcut, hs2⟩ := cut_from_all hx hmc (x.toNat + 1) (by omega)
    have hq1 : m - (x.toNat + 1) = q := by omega
    have hq2 : q ≤ c - (x.toNat + 1) := by omega
    rw [hdr, hq1] at hs2
    rw [hq1] at hcut
    generalize c - (x.toNat + 1) = c2 at *
    -- the two tests
    have hmy : ∃ (y : Nat), y < 256 ∧ (0 < x.toNat → w.cell? ⟨b, off + 1, none⟩ = some (.int .u8 y)) ∧ (0 < x.toNat → y ≠ 0) ∧ (x.toNat = 8 → y < 128) := by
      refine ⟨(r.getD 0 0#8).toNat, (r.getD 0 0#8).isLt, fun h => ?_, ?_, ?_⟩
      · obtain ⟨b', off', e, c1⟩ := hby 1 (by rw [List.length_cons]; omega)
        injection e with e
        injection e with e1 e2 _
        subst e1 e2
        exact c1
      all_goals
        intro h
        rw [takeB, if_neg (by omega)] at ht
        by_cases h2 : (x.toNat = 8 ∧ 128 ≤ (r.getD 0 0#8).toNat) ∨ (0 < x.toNat ∧ (r.getD 0 0#8).toNat = 0)
        · rw [if_pos h2] at ht; cases ht
        · omega
    obtain ⟨y, hy, c1, hy0, hy8⟩ := hmy
    have HCL : Hid (∀ j, j < x.toNat → w.cell? ⟨b, off + (j + 1), none⟩ = some (v8 (r.getD j 0#8))) := Lib.hid (fun j hj => by
      obtain ⟨b', off', e, cj⟩ := hby (j + 1) (by rw [List.length_cons]; omega)
      injection e with e
      injection e with e1 e2 _
      subst e1 e2
      exact cj)
    have HV := Lib.hid (val_take_snoc r)
    have HLE : Hid (∀ j, j ≤ x.toNat → valN (natsB (r.take j)) ≤ n) := Lib.hid (fun j hj => by
      rw [← hv, natsB, natsB, List.map_take, List.map_take]
      exact val_take_le _ _ _ hj)
    have HF := Lib.hid hv
    have c0' : w.cell? ⟨b, off, none⟩ = some (.int .u8 x.toNat) := c0
    have HXR := Lib.hid hxr
    have g0 : ((m : Int) == 0) = false := by simp; omega
    have hkm : x.toNat < m := by omega
    generalize x.toNat = k at *
    have HC : Hid (∀ w', (Instr.sliceAt 22 (.slice (some ⟨b, off, none⟩) m c) (some (.int .i64 ((k : Int) + 1))) none none).run Try.prog w' = .ok (.slice A2 q c2) w') := Lib.hid hcut
    have HS2 := Lib.hid hs2
    have g1 : ¬ (8 : Int) < (k : Int) := by omega
    have g2 : ¬ (m : Int) ≤ (k : Int) := by omega
    clear hby hx hm hxr hv hd hl hdr hml2 hcut hs2 hq1 ht hq c0 hml
    -- behind the tests
    have main : (P : Prop) → True := fun _ => trivial
    clear main
    rcases Nat.eq_zero_or_pos k with hk0 | hk0
    · have e1 : ((k : Int) == 8) = false := by simp; omega
      have e2 : ¬ (0 : Int) < (k : Int) := by omega
      clear hk0 c1 hy0 hy8
      go_enter Try.func34, Try.ntmps34
      go_wp2
      go_loop [6, 7] (fun a i => ∃ j u : Nat, j ≤ k ∧ i = .int .i64 ((j : Int) + 1) ∧ a = .int .i64 u ∧ u ≤ n ∧ Hid (u = valN (natsB (r.take j)))) (fun _ i => k + 1 - (intOf i).toNat)
      case atStart => exact ⟨0, 0, by omega, rfl, rfl, by omega, Lib.hid rfl⟩
      case round =>
        obtain ⟨j, u, hj, rfl, rfl, hun, hu⟩ := hrel
        by_cases hlt : j < k
        · have hcj := HCL.out j hlt
          have hle := HLE.out (j + 1) hlt
          have hsn := HV.out j (Nat.lt_of_lt_of_le hlt HXR.out)
          rw [← hu.out] at hsn
          rw [hsn] at hle
          have HSN := Lib.hid hsn
          have hz8 := (r.getD j 0#8).isLt
          generalize r.getD j 0#8 = z at *
          have hcj' : w.cell? ⟨b, off + (j + 1), none⟩ = some (.int .u8 z.toNat) := hcj
          clear hcj hsn
          have f1 : (j : Int) + 1 ≤ (k : Int) := by omega
          have f2 : (j : Int) + 1 < (m : Int) := by omega
          have f3 : ((j : Int) + 1).toNat = j + 1 := by omega
          go_wp2
          go_round
          case rel => exact ⟨j + 1, u * 256 + z.toNat, by omega, by go_num, by go_num, by omega, Lib.hid HSN.out.symm⟩
          case measure => simp [intOf]; omega
        · obtain rfl : k = j := by omega
          obtain rfl : u = n := by rw [hu.out]; exact HF.out
          have f1 : ¬ (k : Int) + 1 ≤ (k : Int) := by omega
          go_wp2
          refine wp_region_noPanic ?_
          refine wp_region_held_drew (S := fun w' => Below w.heap.size w w') (by kernel_rfl) (below_drew (Below.refl _ _)) (fun hHeld => ?_)
          refine wpAnyH_take (i := 0) (oi := ⟨some 61, _, _, _, _, _⟩) (v := ?_) rfl (by kernel_rfl) (by kernel_rfl) (by kernel_rfl) (fun _ _ _ h => h) (Or.inl ⟨by rfl, ?_⟩) hHeld ?_
          rotate_left
          · intro ww hSw
            (try dsimp only at hSw)
            go_simp
            (try with_reducible rfl)
          simp only [Act.put, List.setIfInBounds_toArray, List.set_cons_zero, List.set_cons_succ]
          refine wpAnyH_take (i := 1) (oi := ⟨some 62, _, _, _, _, _⟩) (v := ?_) rfl (by kernel_rfl) (by kernel_rfl) (by kernel_rfl) (fun _ _ _ h => h) (Or.inl ⟨by rfl, ?_⟩) hHeld ?_
          rotate_left
          · intro ww hSw
            (try dsimp only at hSw)
            go_simp
            (try with_reducible rfl)
          simp only [Act.put, List.setIfInBounds_toArray, List.set_cons_zero, List.set_cons_succ]
          refine wpAnyH_take (i := 2) (oi := ⟨some 63, _, _, _, _, _⟩) (v := ?_) rfl (by kernel_rfl) (by kernel_rfl) (by kernel_rfl) (fun _ _ _ h => h) (Or.inl ⟨by rfl, ?_⟩) hHeld ?_
          rotate_left
          · intro ww hSw
            (try dsimp only at hSw)
            go_simp
            (try with_reducible rfl)
          simp only [Act.put, List.setIfInBounds_toArray, List.set_cons_zero, List.set_cons_succ]
          refine wpAnyH_take (i := 3) (oi := ⟨some 64, _, _, _, _, _⟩) (v := .int .i64 ((k : Int) + 1)) rfl (by kernel_rfl) (by kernel_rfl) (by kernel_rfl) (fun _ _ _ h => h) (Or.inl ⟨by rfl, ?_⟩) hHeld ?_
          · intro ww hSw
            (try dsimp only at hSw)
            go_simp
            exact wrapi_id (by omega) (by omega)
          simp only [Act.put, List.setIfInBounds_toArray, List.set_cons_zero, List.set_cons_succ]
          refine wpAnyH_take (i := 4) (oi := ⟨some 65, _, _, _, _, _⟩) (v := .slice A2 q c2) rfl (by kernel_rfl) (by kernel_rfl) (by kernel_rfl) (fun _ _ _ h => h) (Or.inl ⟨by rfl, ?_⟩) hHeld ?_
          · intro ww hSw
            (try dsimp only at hSw)
            exact exec_slice_run HC.out rfl rfl rfl rfl rfl
          simp only [Act.put, List.setIfInBounds_toArray, List.set_cons_zero, List.set_cons_succ]
          refine wpAnyH_take (i := 5) (oi := ⟨some 2, _, _, _, _, _⟩) (v := ?_) rfl (by kernel_rfl) (by kernel_rfl) (by kernel_rfl) (fun _ _ _ h => h) (Or.inl ⟨by rfl, ?_⟩) hHeld ?_
          rotate_left
          · intro ww hSw
            (try dsimp only at hSw)
            go_simp
            (try with_reducible rfl)
          simp only [Act.put, List.setIfInBounds_toArray, List.set_cons_zero, List.set_cons_succ]
          refine wpAnyH_take (i := 6) (oi := ⟨some 3, _, _, _, _, _⟩) (v := ?_) rfl (by kernel_rfl) (by kernel_rfl) (by kernel_rfl) (fun _ _ _ h => h) (Or.inl ⟨by rfl, ?_⟩) hHeld ?_
          rotate_left
          · intro ww hSw
            (try dsimp only at hSw)
            go_simp
            (try with_reducible rfl)
          simp only [Act.put, List.setIfInBounds_toArray, List.set_cons_zero, List.set_cons_succ]
          refine wpAnyH_take (i := 7) (oi := ⟨some 4, _, _, _, _, _⟩) (v := ?_) rfl (by kernel_rfl) (by kernel_rfl) (by kernel_rfl) (fun _ _ _ h => h) (Or.inl ⟨by rfl, ?_⟩) hHeld ?_
          rotate_left
          · intro ww hSw
            (try dsimp only at hSw)
            go_simp
            (try with_reducible rfl)
          simp only [Act.put, List.setIfInBounds_toArray, List.set_cons_zero, List.set_cons_succ]
          refine wpAnyH_done (by kernel_rfl) ?_ _
          refine NoPanic.normal ?_
          go_wp2
          go_ret3
          exact ⟨A2, c2, rfl, HS2.out, hq2, below_drew (Below.refl _ _)⟩
    · have c1' := c1 hk0
      have hy0' : ((y : Int) == 0) = false := by have := hy0 hk0; simp; omega
      have e2 : (0 : Int) < (k : Int) := by omega
      have e3 : (1 : Int) < (m : Int) := by omega
      by_cases hk8 : k = 8
      · have hy8' : ¬ (128 : Int) ≤ (y : Int) := by have := hy8 hk8; omega
        have e1 : ((k : Int) == 8) = true := by simp; omega
        clear hk8 hk0 c1 hy0 hy8
        go_enter Try.func34, Try.ntmps34
        go_wp2
        go_loop [6, 7] (fun a i => ∃ j u : Nat, j ≤ k ∧ i = .int .i64 ((j : Int) + 1) ∧ a = .int .i64 u ∧ u ≤ n ∧ Hid (u = valN (natsB (r.take j)))) (fun _ i => k + 1 - (intOf i).toNat)
        case atStart => exact ⟨0, 0, by omega, rfl, rfl, by omega, Lib.hid rfl⟩
        case round =>
          obtain ⟨j, u, hj, rfl, rfl, hun, hu⟩ := hrel
          by_cases hlt : j < k
          · have hcj := HCL.out j hlt
            have hle := HLE.out (j + 1) hlt
            have hsn := HV.out j (Nat.lt_of_lt_of_le hlt HXR.out)
            rw [← hu.out] at hsn
            rw [hsn] at hle
            have HSN := Lib.hid hsn
            have hz8 := (r.getD j 0#8).isLt
            generalize r.getD j 0#8 = z at *
            have hcj' : w.cell? ⟨b, off + (j + 1), none⟩ = some (.int .u8 z.toNat) := hcj
            clear hcj hsn
            have f1 : (j : Int) + 1 ≤ (k : Int) := by omega
            have f2 : (j : Int) + 1 < (m : Int) := by omega
            have f3 : ((j : Int) + 1).toNat = j + 1 := by omega
            go_wp2
            go_round
            case rel => exact ⟨j + 1, u * 256 + z.toNat, by omega, by go_num, by go_num, by omega, Lib.hid HSN.out.symm⟩
            case measure => simp [intOf]; omega
          · obtain rfl : k = j := by omega
            obtain rfl : u = n := by rw [hu.out]; exact HF.out
            have f1 : ¬ (k : Int) + 1 ≤ (k : Int) := by omega
            go_wp2
            refine wp_region_noPanic ?_
            refine wp_region_held_drew (S := fun w' => Below w.heap.size w w') (by kernel_rfl) (below_drew (Below.refl _ _)) (fun hHeld => ?_)
            refine wpAnyH_take (i := 0) (oi := ⟨some 61, _, _, _, _, _⟩) (v := ?_) rfl (by kernel_rfl) (by kernel_rfl) (by kernel_rfl) (fun _ _ _ h => h) (Or.inl ⟨by rfl, ?_⟩) hHeld ?_
            rotate_left
            · intro ww hSw
              (try dsimp only at hSw)
              go_simp
              (try with_reducible rfl)
            simp only [Act.put, List.setIfInBounds_toArray, List.set_cons_zero, List.set_cons_succ]
            refine wpAnyH_take (i := 1) (oi := ⟨some 62, _, _, _, _, _⟩) (v := ?_) rfl (by kernel_rfl) (by kernel_rfl) (by kernel_rfl) (fun _ _ _ h => h) (Or.inl ⟨by rfl, ?_⟩) hHeld ?_
            rotate_left
            · intro ww hSw
              (try dsimp only at hSw)
              go_simp
              (try with_reducible rfl)
            simp only [Act.put, List.setIfInBounds_toArray, List.set_cons_zero, List.set_cons_succ]
            refine wpAnyH_take (i := 2) (oi := ⟨some 63, _, _, _, _, _⟩) (v := ?_) rfl (by kernel_rfl) (by kernel_rfl) (by kernel_rfl) (fun _ _ _ h => h) (Or.inl ⟨by rfl, ?_⟩) hHeld ?_
            rotate_left
            · intro ww hSw
              (try dsimp only at hSw)
              go_simp
              (try with_reducible rfl)
            simp only [Act.put, List.setIfInBounds_toArray, List.set_cons_zero, List.set_cons_succ]
            refine wpAnyH_take (i := 3) (oi := ⟨some 64, _, _, _, _, _⟩) (v := .int .i64 ((k : Int) + 1)) rfl (by kernel_rfl) (by kernel_rfl) (by kernel_rfl) (fun _ _ _ h => h) (Or.inl ⟨by rfl, ?_⟩) hHeld ?_
            · intro ww hSw
              (try dsimp only at hSw)
              go_simp
              exact wrapi_id (by omega) (by omega)
            simp only [Act.put, List.setIfInBounds_toArray, List.set_cons_zero, List.set_cons_succ]
            refine wpAnyH_take (i := 4) (oi := ⟨some 65, _, _, _, _, _⟩) (v := .slice A2 q c2) rfl (by kernel_rfl) (by kernel_rfl) (by kernel_rfl) (fun _ _ _ h => h) (Or.inl ⟨by rfl, ?_⟩) hHeld ?_
            · intro ww hSw
              (try dsimp only at hSw)
              exact exec_slice_run HC.out rfl rfl rfl rfl rfl
            simp only [Act.put, List.setIfInBounds_toArray, List.set_cons_zero, List.set_cons_succ]
            refine wpAnyH_take (i := 5) (oi := ⟨some 2, _, _, _, _, _⟩) (v := ?_) rfl (by kernel_rfl) (by kernel_rfl) (by kernel_rfl) (fun _ _ _ h => h) (Or.inl ⟨by rfl, ?_⟩) hHeld ?_
            rotate_left
            · intro ww hSw
              (try dsimp only at hSw)
              go_simp
              (try with_reducible rfl)
            simp only [Act.put, List.setIfInBounds_toArray, List.set_cons_zero, List.set_cons_succ]
            refine wpAnyH_take (i := 6) (oi := ⟨some 3, _, _, _, _, _⟩) (v := ?_) rfl (by kernel_rfl) (by kernel_rfl) (by kernel_rfl) (fun _ _ _ h => h) (Or.inl ⟨by rfl, ?_⟩) hHeld ?_
            rotate_left
            · intro ww hSw
              (try dsimp only at hSw)
              go_simp
              (try with_reducible rfl)
            simp only [Act.put, List.setIfInBounds_toArray, List.set_cons_zero, List.set_cons_succ]
            refine wpAnyH_take (i := 7) (oi := ⟨some 4, _, _, _, _, _⟩) (v := ?_) rfl (by kernel_rfl) (by kernel_rfl) (by kernel_rfl) (fun _ _ _ h => h) (Or.inl ⟨by rfl, ?_⟩) hHeld ?_
            rotate_left
            · intro ww hSw
              (try dsimp only at hSw)
              go_simp
              (try with_reducible rfl)
            simp only [Act.put, List.setIfInBounds_toArray, List.set_cons_zero, List.set_cons_succ]
            refine wpAnyH_done (by kernel_rfl) ?_ _
            refine NoPanic.normal ?_
            go_wp2
            go_ret3
            exact ⟨A2, c2, rfl, HS2.out, hq2, below_drew (Below.refl _ _)⟩
      · have e1 : ((k : Int) == 8) = false := by simp; omega
        clear hk8 hk0 c1 hy0 hy8
        go_enter Try.func34, Try.ntmps34
        go_wp2
        go_loop [6, 7] (fun a i => ∃ j u : Nat, j ≤ k ∧ i = .int .i64 ((j : Int) + 1) ∧ a = .int .i64 u ∧ u ≤ n ∧ Hid (u = valN (natsB (r.take j)))) (fun _ i => k + 1 - (intOf i).toNat)
        case atStart => exact ⟨0, 0, by omega, rfl, rfl, by omega, Lib.hid rfl⟩
        case round =>
          obtain ⟨j, u, hj, rfl, rfl, hun, hu⟩ := hrel
          by_cases hlt : j < k
          · have hcj := HCL.out j hlt
            have hle := HLE.out (j + 1) hlt
            have hsn := HV.out j (Nat.lt_of_lt_of_le hlt HXR.out)
            rw [← hu.out] at hsn
            rw [hsn] at hle
            have HSN := Lib.hid hsn
            have hz8 := (r.getD j 0#8).isLt
            generalize r.getD j 0#8 = z at *
            have hcj' : w.cell? ⟨b, off + (j + 1), none⟩ = some (.int .u8 z.toNat) := hcj
            clear hcj hsn
            have f1 : (j : Int) + 1 ≤ (k : Int) := by omega
            have f2 : (j : Int) + 1 < (m : Int) := by omega
            have f3 : ((j : Int) + 1).toNat = j + 1 := by omega
            go_wp2
            go_round
            case rel => exact ⟨j + 1, u * 256 + z.toNat, by omega, by go_num, by go_num, by omega, Lib.hid HSN.out.symm⟩
            case measure => simp [intOf]; omega
          · obtain rfl : k = j := by omega
            obtain rfl : u = n := by rw [hu.out]; exact HF.out
            have f1 : ¬ (k : Int) + 1 ≤ (k : Int) := by omega
            go_wp2
            refine wp_region_noPanic ?_
            refine wp_region_held_drew (S := fun w' => Below w.heap.size w w') (by kernel_rfl) (below_drew (Below.refl _ _)) (fun hHeld => ?_)
            refine wpAnyH_take (i := 0) (oi := ⟨some 61, _, _, _, _, _⟩) (v := ?_) rfl (by kernel_rfl) (by kernel_rfl) (by kernel_rfl) (fun _ _ _ h => h) (Or.inl ⟨by rfl, ?_⟩) hHeld ?_
            rotate_left
            · intro ww hSw
              (try dsimp only at hSw)
              go_simp
              (try with_reducible rfl)
            simp only [Act.put, List.setIfInBounds_toArray, List.set_cons_zero, List.set_cons_succ]
            refine wpAnyH_take (i := 1) (oi := ⟨some 62, _, _, _, _, _⟩) (v := ?_) rfl (by kernel_rfl) (by kernel_rfl) (by kernel_rfl) (fun _ _ _ h => h) (Or.inl ⟨by rfl, ?_⟩) hHeld ?_
            rotate_left
            · intro ww hSw
              (try dsimp only at hSw)
              go_simp
              (try with_reducible rfl)
            simp only [Act.put, List.setIfInBounds_toArray, List.set_cons_zero, List.set_cons_succ]
            refine wpAnyH_take (i := 2) (oi := ⟨some 63, _, _, _, _, _⟩) (v := ?_) rfl (by kernel_rfl) (by kernel_rfl) (by kernel_rfl) (fun _ _ _ h => h) (Or.inl ⟨by rfl, ?_⟩) hHeld ?_
            rotate_left
            · intro ww hSw
              (try dsimp only at hSw)
              go_simp
              (try with_reducible rfl)
            simp only [Act.put, List.setIfInBounds_toArray, List.set_cons_zero, List.set_cons_succ]
            refine wpAnyH_take (i := 3) (oi := ⟨some 64, _, _, _, _, _⟩) (v := .int .i64 ((k : Int) + 1)) rfl (by kernel_rfl) (by kernel_rfl) (by kernel_rfl) (fun _ _ _ h => h) (Or.inl ⟨by rfl, ?_⟩) hHeld ?_
            · intro ww hSw
              (try dsimp only at hSw)
              go_simp
              exact wrapi_id (by omega) (by omega)
            simp only [Act.put, List.setIfInBounds_toArray, List.set_cons_zero, List.set_cons_succ]
            refine wpAnyH_take (i := 4) (oi := ⟨some 65, _, _, _, _, _⟩) (v := .slice A2 q c2) rfl (by kernel_rfl) (by kernel_rfl) (by kernel_rfl) (fun _ _ _ h => h) (Or.inl ⟨by rfl, ?_⟩) hHeld ?_
            · intro ww hSw
              (try dsimp only at hSw)
              exact exec_slice_run HC.out rfl rfl rfl rfl rfl
            simp only [Act.put, List.setIfInBounds_toArray, List.set_cons_zero, List.set_cons_succ]
            refine wpAnyH_take (i := 5) (oi := ⟨some 2, _, _, _, _, _⟩) (v := ?_) rfl (by kernel_rfl) (by kernel_rfl) (by kernel_rfl) (fun _ _ _ h => h) (Or.inl ⟨by rfl, ?_⟩) hHeld ?_
            rotate_left
            · intro ww hSw
              (try dsimp only at hSw)
              go_simp
              (try with_reducible rfl)
            simp only [Act.put, List.setIfInBounds_toArray, List.set_cons_zero, List.set_cons_succ]
            refine wpAnyH_take (i := 6) (oi := ⟨some 3, _, _, _, _, _⟩) (v := ?_) rfl (by kernel_rfl) (by kernel_rfl) (by kernel_rfl) (fun _ _ _ h => h) (Or.inl ⟨by rfl, ?_⟩) hHeld ?_
            rotate_left
            · intro ww hSw
              (try dsimp only at hSw)
              go_simp
              (try with_reducible rfl)
            simp only [Act.put, List.setIfInBounds_toArray, List.set_cons_zero, List.set_cons_succ]
            refine wpAnyH_take (i := 7) (oi := ⟨some 4, _, _, _, _, _⟩) (v := ?_) rfl (by kernel_rfl) (by kernel_rfl) (by kernel_rfl) (fun _ _ _ h => h) (Or.inl ⟨by rfl, ?_⟩) hHeld ?_
            rotate_left
            · intro ww hSw
              (try dsimp only at hSw)
              go_simp
              (try with_reducible rfl)
            simp only [Act.put, List.setIfInBounds_toArray, List.set_cons_zero, List.set_cons_succ]
            refine wpAnyH_done (by kernel_rfl) ?_ _
            refine NoPanic.normal ?_
            go_wp2
            go_ret3
            exact ⟨A2, c2, rfl, HS2.out, hq2, below_drew (Below.refl _ _)⟩
theorem rtake_ok (A : Option Addr) (m c : Nat) (l t : List (BitVec 8)) (n q : Nat) (w : World) (hx : Sl 1 w A m c (bytesV l)) (hml : m ≤ 1000000000000) (hmc : m ≤ c) (ht : takeB l = some (n, t)) (hq : t.length = q) :
    Calls Try.prog 34 #[.slice A m c] w fun e w' => ∃ A' c', e = .returned (.tuple #[.int .i64 n, .slice A' q c', .int .i64 0]) ∧ Sl 1 w' A' q c' (bytesV t) ∧ q ≤ c' ∧ Below w.heap.size w w' := by
  refine (rtake_all A m c l t n q w hx hml hmc ht hq).mono ?_
  rintro e w' ⟨A', c', rfl, h, hc, hb⟩
  exact ⟨A', c', rfl, h w' (hx.below hb), hc, hb⟩
theorem rtaketext_bad (A : Option Addr) (m c : Nat) (l : List (BitVec 8)) (w : World) (hx : Sl 1 w A m c (bytesV l)) (hml : m ≤ 1000000000000) (hmc : m ≤ c) (ht : takeTextB l = none) :
    Calls Try.prog 25 #[.slice A m c] w fun e w' => e = .returned (.tuple #[.slice none 0 0, .slice none 0 0, .int .i64 50]) ∧ Below w.heap.size w w' := by
  cases hk : takeB l with
  | none =>
    have HF := Lib.hid (rtake_bad A m c l w (byts_of_sl hx) hx.blen hk)
    clear hx ht hk
    go_enter Try.func25, Try.ntmps25
    go_wp2_with fail
    refine HF.out.mono ?_
    rintro e w' ⟨rfl, rfl⟩
    go_wp2
    go_ret3
    exact ⟨rfl, Below.refl _ _⟩
  | some p =>
    obtain ⟨n, t⟩ := p
    have HF := Lib.hid (rtake_ok A m c l t n _ w hx hml hmc hk rfl)
    have hlt : t.length < n := by
      rcases Nat.lt_or_ge t.length n with q | q
      · exact q
      · simp only [takeTextB, hk] at ht
        rw [if_neg (by omega)] at ht
        cases ht
    generalize t.length = q at *
    clear hx ht hk
    have ht2 : (q : Int) < (n : Int) := by omega
    go_enter Try.func25, Try.ntmps25
    go_wp2_with fail
    refine HF.out.mono ?_
    rintro e w1 ⟨A2, c2, rfl, s2, hc2, b1⟩
    go_wp2
    go_ret3
    exact ⟨rfl, b1⟩
set_option maxHeartbeats 1000000 in
theorem rtaketext_all (A : Option Addr) (m c : Nat) (l x y : List (BitVec 8)) (w : World) (hx : Sl 1 w A m c (bytesV l)) (hml : m ≤ 1000000000000) (hmc : m ≤ c) (ht : takeTextB l = some (x, y)) :
    Calls Try.prog 25 #[.slice A m c] w fun e w' => ∃ A1 c1 A2 c2, e = .returned (.tuple #[.slice A1 x.length c1, .slice A2 y.length c2, .int .i64 0]) ∧ (∀ w0, Sl 1 w0 A m c (bytesV l) → Sl 1 w0 A1 x.length c1 (bytesV x)) ∧ (∀ w0, Sl 1 w0 A m c (bytesV l) → Sl 1 w0 A2 y.length c2 (bytesV y)) ∧ x.length ≤ c1 ∧ y.length ≤ c2 ∧ Below w.heap.size w w' := by
  obtain ⟨n, t, hk, hnt, rfl, rfl⟩ : ∃ n t, takeB l = some (n, t) ∧ n ≤ t.length ∧ t.take n = x ∧ t.drop n = y := by
    cases hk : takeB l with
    | none => simp only [takeTextB, hk] at ht; cases ht
    | some p =>
      obtain ⟨n, t⟩ := p
      simp only [takeTextB, hk] at ht
      rcases Nat.lt_or_ge t.length n with q | q
      · rw [if_pos q] at ht; cases ht
      · rw [if_neg (by omega)] at ht
        simp only [Option.some.injEq, Prod.mk.injEq] at ht
        exact ⟨n, t, rfl, q, ht.1, ht.2⟩
  have HF := Lib.hid (rtake_all A m c l t n _ w hx hml hmc hk rfl)
  have HX := Lib.hid hx
  have ht1 : (t.take n).length = n := by rw [List.length_take]; omega
  have ht2 : (t.drop n).length = t.length - n := by rw [List.length_drop]
  rw [ht1, ht2]
  generalize t.length = q at *
  clear hx ht hk ht1 ht2
  have h2' : ¬ (q : Int) < (n : Int) := by omega
  go_enter Try.func25, Try.ntmps25
  go_wp2_with fail
  refine HF.out.mono ?_
  rintro e w1 ⟨A2, c2, rfl, s2, hc2, b1⟩
  obtain ⟨A3, hcut3, hs3⟩ := cut_to_all (s2 w1 (HX.out.below b1)) hc2 n hnt
  obtain ⟨A4, hcut4, hs4⟩ := cut_from_all (s2 w1 (HX.out.below b1)) hc2 n hnt
  have HC3 := Lib.hid hcut3
  have HC4 := Lib.hid hcut4
  have HS3 := Lib.hid (fun w0 h0 => hs3 w0 (s2 w0 h0))
  have HS4 := Lib.hid (fun w0 h0 => hs4 w0 (s2 w0 h0))
  clear hcut3 hcut4 hs3 hs4 s2 HF
  go_wp2
  refine wp_region_noPanic ?_
  refine wp_region_held_drew (S := fun w' => Below w1.heap.size w1 w') (by kernel_rfl) (below_drew (Below.refl _ _)) (fun hHeld => ?_)
  refine wpAnyH_take (i := 0) (oi := ⟨some 22, _, _, _, _, _⟩) (v := ?_) rfl (by kernel_rfl) (by kernel_rfl) (by kernel_rfl) (fun _ _ _ h => h) (Or.inl ⟨by rfl, ?_⟩) hHeld ?_
  rotate_left
  · intro ww hSw
    (try dsimp only at hSw)
    go_simp
    (try with_reducible rfl)
  simp only [Act.put, List.setIfInBounds_toArray, List.set_cons_zero, List.set_cons_succ]
  refine wpAnyH_take (i := 1) (oi := ⟨some 23, _, _, _, _, _⟩) (v := ?_) rfl (by kernel_rfl) (by kernel_rfl) (by kernel_rfl) (fun _ _ _ h => h) (Or.inl ⟨by rfl, ?_⟩) hHeld ?_
  rotate_left
  · intro ww hSw
    (try dsimp only at hSw)
    go_simp
    (try with_reducible rfl)
  simp only [Act.put, List.setIfInBounds_toArray, List.set_cons_zero, List.set_cons_succ]
  refine wpAnyH_take (i := 2) (oi := ⟨some 24, _, _, _, _, _⟩) (v := .slice A3 n c2) rfl (by kernel_rfl) (by kernel_rfl) (by kernel_rfl) (fun _ _ _ h => h) (Or.inl ⟨by rfl, ?_⟩) hHeld ?_
  · intro ww hSw
    (try dsimp only at hSw)
    exact exec_slice_run HC3.out rfl rfl rfl rfl rfl
  simp only [Act.put, List.setIfInBounds_toArray, List.set_cons_zero, List.set_cons_succ]
  refine wpAnyH_take (i := 3) (oi := ⟨some 25, _, _, _, _, _⟩) (v := ?_) rfl (by kernel_rfl) (by kernel_rfl) (by kernel_rfl) (fun _ _ _ h => h) (Or.inl ⟨by rfl, ?_⟩) hHeld ?_
  rotate_left
  · intro ww hSw
    (try dsimp only at hSw)
    go_simp
    (try with_reducible rfl)
  simp only [Act.put, List.setIfInBounds_toArray, List.set_cons_zero, List.set_cons_succ]
  refine wpAnyH_take (i := 4) (oi := ⟨some 26, _, _, _, _, _⟩) (v := ?_) rfl (by kernel_rfl) (by kernel_rfl) (by kernel_rfl) (fun _ _ _ h => h) (Or.inl ⟨by rfl, ?_⟩) hHeld ?_
  rotate_left
  · intro ww hSw
    (try dsimp only at hSw)
    go_simp
    (try with_reducible rfl)
  simp only [Act.put, List.setIfInBounds_toArray, List.set_cons_zero, List.set_cons_succ]
  refine wpAnyH_take (i := 5) (oi := ⟨some 27, _, _, _, _, _⟩) (v := .slice A4 (q - n) (c2 - n)) rfl (by kernel_rfl) (by kernel_rfl) (by kernel_rfl) (fun _ _ _ h => h) (Or.inl ⟨by rfl, ?_⟩) hHeld ?_
  · intro ww hSw
    (try dsimp only at hSw)
    exact exec_slice_run HC4.out rfl rfl rfl rfl rfl
  simp only [Act.put, List.setIfInBounds_toArray, List.set_cons_zero, List.set_cons_succ]
  refine wpAnyH_take (i := 6) (oi := ⟨some 2, _, _, _, _, _⟩) (v := ?_) rfl (by kernel_rfl) (by kernel_rfl) (by kernel_rfl) (fun _ _ _ h => h) (Or.inl ⟨by rfl, ?_⟩) hHeld ?_
  rotate_left
  · intro ww hSw
    (try dsimp only at hSw)
    go_simp
    (try with_reducible rfl)
  simp only [Act.put, List.setIfInBounds_toArray, List.set_cons_zero, List.set_cons_succ]
  refine wpAnyH_take (i := 7) (oi := ⟨some 3, _, _, _, _, _⟩) (v := ?_) rfl (by kernel_rfl) (by kernel_rfl) (by kernel_rfl) (fun _ _ _ h => h) (Or.inl ⟨by rfl, ?_⟩) hHeld ?_
  rotate_left
  · intro ww hSw
    (try dsimp only at hSw)
    go_simp
    (try with_reducible rfl)
  simp only [Act.put, List.setIfInBounds_toArray, List.set_cons_zero, List.set_cons_succ]
  refine wpAnyH_take (i := 8) (oi := ⟨some 4, _, _, _, _, _⟩) (v := ?_) rfl (by kernel_rfl) (by kernel_rfl) (by kernel_rfl) (fun _ _ _ h => h) (Or.inl ⟨by rfl, ?_⟩) hHeld ?_
  rotate_left
  · intro ww hSw
    (try dsimp only at hSw)
    go_simp
    (try with_reducible rfl)
  simp only [Act.put, List.setIfInBounds_toArray, List.set_cons_zero, List.set_cons_succ]
  refine wpAnyH_done (by kernel_rfl) ?_ _
  refine NoPanic.normal ?_
  go_wp2
  go_ret3
  exact ⟨A3, _, A4, _, rfl, HS3.out, HS4.out, by omega, by omega, below_drew b1⟩

theorem rtaketext_ok (A : Option Addr) (m c : Nat) (l x y : List (BitVec 8)) (w : World) (hx : Sl 1 w A m c (bytesV l)) (hml : m ≤ 1000000000000) (hmc : m ≤ c) (ht : takeTextB l = some (x, y)) :
    Calls Try.prog 25 #[.slice A m c] w fun e w' => ∃ A1 c1 A2 c2, e = .returned (.tuple #[.slice A1 x.length c1, .slice A2 y.length c2, .int .i64 0]) ∧ Sl 1 w' A1 x.length c1 (bytesV x) ∧ Sl 1 w' A2 y.length c2 (bytesV y) ∧ Below w.heap.size w w' := by
  refine (rtaketext_all A m c l x y w hx hml hmc ht).mono ?_
  rintro e w' ⟨A1, c1, A2, c2, rfl, h1, h2, _, _, hb⟩
  exact ⟨A1, c1, A2, c2, rfl, h1 w' (hx.below hb), h2 w' (hx.below hb), hb⟩
end Go.Proofs.Ytfjbpjojpjkfcaa
