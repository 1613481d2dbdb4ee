/-
  The document's own answers of layer 5 (lumperref05): numbers, and texts, taken; numbers put.
  lumperref07: at, many, part, all.
  Slices of structs of numbers of the call's own: append of one.
-/
import Derived.Test.YtgfomfioagblfaaZal
import Derived.RegionTactic
import Derived.Test.YtgfomfioagblfaaZak
import Derived.Test.YtgfomfioagblfaaZad
import Derived.Deep.DeepCutAuto
import Derived.Laws.EntriesVeiled
import Derived.WideLaws
import Derived.Test.YtgfomfioagblfaaZac
import Derived.Test.YtgfomfioagblfaaZaa
namespace Go.Proofs.Ytgfomfioagblfaa
open Go.RowKit
set_option linter.unusedVariables false
set_option maxRecDepth 20000

theorem wrapi_id {a : Int} (h0 : -9223372036854775808 ≤ a) (h1 : a < 9223372036854775808) : IntKind.i64.wrap a = a := by
  simp [IntKind.wrap, IntKind.bits, IntKind.signed]
  split <;> omega
theorem rtake_nil (A : Option Addr) (c : Nat) (w : World) :
    Calls Try.prog 36 #[.slice A 0 c] w fun e w' => e = .returned (.tuple #[.int .i64 0, .slice none 0 0, .int .i64 50]) ∧ w = w' := by
  go_enter Try.func36, Try.ntmps36
  go_wp2
  go_ret3
  exact ⟨rfl, rfl⟩
theorem rtake_out (b off m c x : Nat) (w : World) (hm : 0 < m) (c0 : w.cell? ⟨b, off, none⟩ = some (.int .u8 x)) (hx : x < 256) (h : 8 < x ∨ (x ≤ 8 ∧ m ≤ x)) :
    Calls Try.prog 36 #[.slice (some ⟨b, off, none⟩) m c] w fun e w' => e = .returned (.tuple #[.int .i64 0, .slice none 0 0, .int .i64 50]) ∧ w = w' := by
  have m0 : ((m : Int) == 0) = false := by simp; omega
  have h' : (8 : Int) < (x : Int) ∨ (¬ (8 : Int) < (x : Int) ∧ (m : Int) ≤ (x : Int)) := by omega
  clear h
  rcases h' with h | ⟨h, h'⟩
  all_goals
    go_enter Try.func36, Try.ntmps36
    go_wp2
    go_ret3
    exact ⟨rfl, rfl⟩
theorem rtake_few (b off m c x y : Nat) (w : World) (c0 : w.cell? ⟨b, off, none⟩ = some (.int .u8 x)) (c1 : w.cell? ⟨b, off + 1, none⟩ = some (.int .u8 y)) (hx : x ≤ 8) (hy : y < 256) (hm : x < m) (h : (x = 8 ∧ 128 ≤ y) ∨ (0 < x ∧ y = 0)) :
    Calls Try.prog 36 #[.slice (some ⟨b, off, none⟩) m c] w fun e w' => e = .returned (.tuple #[.int .i64 0, .slice none 0 0, .int .i64 50]) ∧ w = w' := by
  have m0 : ((m : Int) == 0) = false := by simp; omega
  have g1 : ¬ (8 : Int) < (x : Int) := by omega
  have g2 : ¬ (m : Int) ≤ (x : Int) := by omega
  have g3 : (1 : Int) < (m : Int) := by omega
  rcases Nat.lt_or_ge x 8 with q | q
  · have h' : 0 < x ∧ y = 0 := by omega
    obtain ⟨h1, rfl⟩ := h'
    have e1 : ((x : Int) == 8) = false := by simp; omega
    have e2 : (0 : Int) < (x : Int) := by omega
    clear h
    go_enter Try.func36, Try.ntmps36
    go_wp2
    go_ret3
    exact ⟨rfl, rfl⟩
  · obtain rfl : x = 8 := by omega
    have h' : (128 : Int) ≤ (y : Int) ∨ (¬ (128 : Int) ≤ (y : Int) ∧ (y : Int) = 0) := by omega
    clear h
    rcases h' with h | ⟨h, h'⟩
    · go_enter Try.func36, Try.ntmps36
      go_wp2
      go_ret3
      exact ⟨rfl, rfl⟩
    · obtain rfl : y = 0 := by omega
      clear h h'
      go_enter Try.func36, Try.ntmps36
      go_wp2
      go_ret3
      exact ⟨rfl, rfl⟩
theorem rtake_bad (A : Option Addr) (m c : Nat) (l : List (BitVec 8)) (w : World) (hx : Byts w A l) (hm : l.length = m) (ht : takeB l = none) :
    Calls Try.prog 36 #[.slice A m c] w fun e w' => e = .returned (.tuple #[.int .i64 0, .slice none 0 0, .int .i64 50]) ∧ w = w' := by
  subst hm
  cases l with
  | nil => exact rtake_nil A c w
  | cons x r =>
    obtain ⟨b, off, rfl, c0⟩ := hx 0 (by simp)
    have c0' : w.cell? ⟨b, off, none⟩ = some (.int .u8 x.toNat) := c0
    have hx8 := x.isLt
    rw [takeB] at ht
    by_cases h1 : 8 < x.toNat ∨ r.length < x.toNat
    · exact rtake_out b off _ c x.toNat w (by simp) c0' (by omega) (by rw [List.length_cons]; omega)
    · rw [if_neg h1] at ht
      by_cases h2 : (x.toNat = 8 ∧ 128 ≤ (r.getD 0 0#8).toNat) ∨ (0 < x.toNat ∧ (r.getD 0 0#8).toNat = 0)
      · obtain ⟨b', off', e, c1⟩ := hx 1 (by rw [List.length_cons]; omega)
        injection e with e
        injection e with e1 e2 _
        subst e1 e2
        have c1' : w.cell? ⟨b, off + 1, none⟩ = some (.int .u8 (r.getD 0 0#8).toNat) := c1
        have hy8 := (r.getD 0 0#8).isLt
        exact rtake_few b off _ c x.toNat _ w c0' c1' (by omega) (by omega) (by rw [List.length_cons]; omega) h2
      · rw [if_neg h2] at ht
        cases ht
theorem val_take_le (l : List Nat) : ∀ k j, j ≤ k → valN (l.take j) ≤ valN (l.take k) := by
  intro k
  induction k with
  | zero =>
    intro j hj
    obtain rfl : j = 0 := by omega
    exact Nat.le_refl _
  | succ k ih =>
    intro j hj
    rcases Nat.lt_or_ge j (k + 1) with q | q
    · refine Nat.le_trans (ih j (by omega)) ?_
      rcases Nat.lt_or_ge k l.length with p | p
      · rw [List.take_succ_eq_append_getElem p, valN_snoc]
        omega
      · rw [List.take_of_length_le p, List.take_of_length_le (by omega)]
        exact Nat.le_refl _
    · obtain rfl : j = k + 1 := by omega
      exact Nat.le_refl _
theorem val_take_snoc (r : List (BitVec 8)) (j : Nat) (h : j < r.length) : valN (natsB (r.take (j + 1))) = valN (natsB (r.take j)) * 256 + (r.getD j 0#8).toNat := by
  rw [List.take_succ_eq_append_getElem h, natsB, List.map_append]
  simp only [List.map_cons, List.map_nil]
  rw [valN_snoc]
  simp [natsB, List.getD, h]
set_option maxHeartbeats 1000000 in
theorem rtake_all (A : Option Addr) (m c : Nat) (l t : List (BitVec 8)) (n q : Nat) (w : World) (hx : Sl 1 w A m c (bytesV l)) (hml : m ≤ 1000000000000) (hmc : m ≤ c) (ht : takeB l = some (n, t)) (hq : t.length = q) :
    Calls Try.prog 36 #[.slice A m c] w fun e w' => ∃ A' c', e = .returned (.tuple #[.int .i64 n, .slice A' q c', .int .i64 0]) ∧ (∀ w0, Sl 1 w0 A m c (bytesV l) → Sl 1 w0 A' q c' (bytesV t)) ∧ q ≤ c' ∧ Below w.heap.size w w' := by
  have hm := hx.blen
  cases l with
  | nil => simp [takeB] at ht
  | cons x r =>
    have hby := byts_of_sl hx
    obtain ⟨b, off, rfl, c0⟩ := hby 0 (by simp)
    obtain ⟨hx8, hxr, hv, hn, hd⟩ := take_fits ht
    obtain ⟨hl, _, hdr⟩ := take_lens ht
    rw [one_len, hd] at hl hdr
    have hml2 : m = r.length + 1 := by rw [← hm]; simp
    obtain ⟨A2, hcut, hs2⟩ := cut_from_all hx hmc (x.toNat + 1) (by omega)
    have hq1 : m - (x.toNat + 1) = q := by omega
    have hq2 : q ≤ c - (x.toNat + 1) := by omega
    rw [hdr, hq1] at hs2
    rw [hq1] at hcut
    generalize c - (x.toNat + 1) = c2 at *
    -- the two tests
    have hmy : ∃ (y : Nat), y < 256 ∧ (0 < x.toNat → w.cell? ⟨b, off + 1, none⟩ = some (.int .u8 y)) ∧ (0 < x.toNat → y ≠ 0) ∧ (x.toNat = 8 → y < 128) := by
      refine ⟨(r.getD 0 0#8).toNat, (r.getD 0 0#8).isLt, fun h => ?_, ?_, ?_⟩
      · obtain ⟨b', off', e, c1⟩ := hby 1 (by rw [List.length_cons]; omega)
        injection e with e
        injection e with e1 e2 _
        subst e1 e2
        exact c1
      all_goals
        intro h
        rw [takeB, if_neg (by omega)] at ht
        by_cases h2 : (x.toNat = 8 ∧ 128 ≤ (r.getD 0 0#8).toNat) ∨ (0 < x.toNat ∧ (r.getD 0 0#8).toNat = 0)
        · rw [if_pos h2] at ht; cases ht
        · omega
    obtain ⟨y, hy, c1, hy0, hy8⟩ := hmy
    have HCL : Hid (∀ j, j < x.toNat → w.cell? ⟨b, off + (j + 1), none⟩ = some (v8 (r.getD j 0#8))) := Lib.hid (fun j hj => by
      obtain ⟨b', off', e, cj⟩ := hby (j + 1) (by rw [List.length_cons]; omega)
      injection e with e
      injection e with e1 e2 _
      subst e1 e2
      exact cj)
    have HV := Lib.hid (val_take_snoc r)
    have HLE : Hid (∀ j, j ≤ x.toNat → valN (natsB (r.take j)) ≤ n) := Lib.hid (fun j hj => by
      rw [← hv, natsB, natsB, List.map_take, List.map_take]
      exact val_take_le _ _ _ hj)
    have HF := Lib.hid hv
    have c0' : w.cell? ⟨b, off, none⟩ = some (.int .u8 x.toNat) := c0
    have HXR := Lib.hid hxr
    have g0 : ((m : Int) == 0) = false := by simp; omega
    have hkm : x.toNat < m := by omega
    generalize x.toNat = k at *
    have HC : Hid (∀ w', (Instr.sliceAt 34 (.slice (some ⟨b, off, none⟩) m c) (some (.int .i64 ((k : Int) + 1))) none none).run Try.prog w' = .ok (.slice A2 q c2) w') := Lib.hid hcut
    have HS2 := Lib.hid hs2
    have g1 : ¬ (8 : Int) < (k : Int) := by omega
    have g2 : ¬ (m : Int) ≤ (k : Int) := by omega
    clear hby hx hm hxr hv hd hl hdr hml2 hcut hs2 hq1 ht hq c0 hml
    -- behind the tests
    have main : (P : Prop) → True := fun _ => trivial
    clear main
    rcases Nat.eq_zero_or_pos k with hk0 | hk0
    · have e1 : ((k : Int) == 8) = false := by simp; omega
      have e2 : ¬ (0 : Int) < (k : Int) := by omega
      clear hk0 c1 hy0 hy8
      go_enter Try.func36, Try.ntmps36
      go_wp2
      go_loop [6, 7] (fun a i => ∃ j u : Nat, j ≤ k ∧ i = .int .i64 ((j : Int) + 1) ∧ a = .int .i64 u ∧ u ≤ n ∧ Hid (u = valN (natsB (r.take j)))) (fun _ i => k + 1 - (intOf i).toNat)
      case atStart => exact ⟨0, 0, by omega, rfl, rfl, by omega, Lib.hid rfl⟩
      case round =>
        obtain ⟨j, u, hj, rfl, rfl, hun, hu⟩ := hrel
        by_cases hlt : j < k
        · have hcj := HCL.out j hlt
          have hle := HLE.out (j + 1) hlt
          have hsn := HV.out j (Nat.lt_of_lt_of_le hlt HXR.out)
          rw [← hu.out] at hsn
          rw [hsn] at hle
          have HSN := Lib.hid hsn
          have hz8 := (r.getD j 0#8).isLt
          generalize r.getD j 0#8 = z at *
          have hcj' : w.cell? ⟨b, off + (j + 1), none⟩ = some (.int .u8 z.toNat) := hcj
          clear hcj hsn
          have f1 : (j : Int) + 1 ≤ (k : Int) := by omega
          have f2 : (j : Int) + 1 < (m : Int) := by omega
          have f3 : ((j : Int) + 1).toNat = j + 1 := by omega
          go_wp2
          go_round
          case rel => exact ⟨j + 1, u * 256 + z.toNat, by omega, by go_num, by go_num, by omega, Lib.hid HSN.out.symm⟩
          case measure => simp [intOf]; omega
        · obtain rfl : k = j := by omega
          obtain rfl : u = n := by rw [hu.out]; exact HF.out
          have f1 : ¬ (k : Int) + 1 ≤ (k : Int) := by omega
          go_wp2
          refine wp_region_noPanic ?_
          refine wp_region_held_drew (S := fun w' => Below w.heap.size w w') (by kernel_rfl) (below_drew (Below.refl _ _)) (fun hHeld => ?_)
          refine wpAnyH_take (i := 0) (oi := ⟨some 61, _, _, _, _, _⟩) (v := ?_) rfl (by kernel_rfl) (by kernel_rfl) (by kernel_rfl) (fun _ _ _ h => h) (Or.inl ⟨by rfl, ?_⟩) hHeld ?_
          rotate_left
          · intro ww hSw
            (try dsimp only at hSw)
            go_simp
            (try with_reducible rfl)
          simp only [Act.put, List.setIfInBounds_toArray, List.set_cons_zero, List.set_cons_succ]
          refine wpAnyH_take (i := 1) (oi := ⟨some 62, _, _, _, _, _⟩) (v := ?_) rfl (by kernel_rfl) (by kernel_rfl) (by kernel_rfl) (fun _ _ _ h => h) (Or.inl ⟨by rfl, ?_⟩) hHeld ?_
          rotate_left
          · intro ww hSw
            (try dsimp only at hSw)
            go_simp
            (try with_reducible rfl)
          simp only [Act.put, List.setIfInBounds_toArray, List.set_cons_zero, List.set_cons_succ]
          refine wpAnyH_take (i := 2) (oi := ⟨some 63, _, _, _, _, _⟩) (v := ?_) rfl (by kernel_rfl) (by kernel_rfl) (by kernel_rfl) (fun _ _ _ h => h) (Or.inl ⟨by rfl, ?_⟩) hHeld ?_
          rotate_left
          · intro ww hSw
            (try dsimp only at hSw)
            go_simp
            (try with_reducible rfl)
          simp only [Act.put, List.setIfInBounds_toArray, List.set_cons_zero, List.set_cons_succ]
          refine wpAnyH_take (i := 3) (oi := ⟨some 64, _, _, _, _, _⟩) (v := .int .i64 ((k : Int) + 1)) rfl (by kernel_rfl) (by kernel_rfl) (by kernel_rfl) (fun _ _ _ h => h) (Or.inl ⟨by rfl, ?_⟩) hHeld ?_
          · intro ww hSw
            (try dsimp only at hSw)
            go_simp
            exact wrapi_id (by omega) (by omega)
          simp only [Act.put, List.setIfInBounds_toArray, List.set_cons_zero, List.set_cons_succ]
          refine wpAnyH_take (i := 4) (oi := ⟨some 65, _, _, _, _, _⟩) (v := .slice A2 q c2) rfl (by kernel_rfl) (by kernel_rfl) (by kernel_rfl) (fun _ _ _ h => h) (Or.inl ⟨by rfl, ?_⟩) hHeld ?_
          · intro ww hSw
            (try dsimp only at hSw)
            exact exec_slice_run HC.out rfl rfl rfl rfl rfl
          simp only [Act.put, List.setIfInBounds_toArray, List.set_cons_zero, List.set_cons_succ]
          refine wpAnyH_take (i := 5) (oi := ⟨some 2, _, _, _, _, _⟩) (v := ?_) rfl (by kernel_rfl) (by kernel_rfl) (by kernel_rfl) (fun _ _ _ h => h) (Or.inl ⟨by rfl, ?_⟩) hHeld ?_
          rotate_left
          · intro ww hSw
            (try dsimp only at hSw)
            go_simp
            (try with_reducible rfl)
          simp only [Act.put, List.setIfInBounds_toArray, List.set_cons_zero, List.set_cons_succ]
          refine wpAnyH_take (i := 6) (oi := ⟨some 3, _, _, _, _, _⟩) (v := ?_) rfl (by kernel_rfl) (by kernel_rfl) (by kernel_rfl) (fun _ _ _ h => h) (Or.inl ⟨by rfl, ?_⟩) hHeld ?_
          rotate_left
          · intro ww hSw
            (try dsimp only at hSw)
            go_simp
            (try with_reducible rfl)
          simp only [Act.put, List.setIfInBounds_toArray, List.set_cons_zero, List.set_cons_succ]
          refine wpAnyH_take (i := 7) (oi := ⟨some 4, _, _, _, _, _⟩) (v := ?_) rfl (by kernel_rfl) (by kernel_rfl) (by kernel_rfl) (fun _ _ _ h => h) (Or.inl ⟨by rfl, ?_⟩) hHeld ?_
          rotate_left
          · intro ww hSw
            (try dsimp only at hSw)
            go_simp
            (try with_reducible rfl)
          simp only [Act.put, List.setIfInBounds_toArray, List.set_cons_zero, List.set_cons_succ]
          refine wpAnyH_done (by kernel_rfl) ?_ _
          refine NoPanic.normal ?_
          go_wp2
          go_ret3
          exact ⟨A2, c2, rfl, HS2.out, hq2, below_drew (Below.refl _ _)⟩
    · have c1' := c1 hk0
      have hy0' : ((y : Int) == 0) = false := by have := hy0 hk0; simp; omega
      have e2 : (0 : Int) < (k : Int) := by omega
      have e3 : (1 : Int) < (m : Int) := by omega
      by_cases hk8 : k = 8
      · have hy8' : ¬ (128 : Int) ≤ (y : Int) := by have := hy8 hk8; omega
        have e1 : ((k : Int) == 8) = true := by simp; omega
        clear hk8 hk0 c1 hy0 hy8
        go_enter Try.func36, Try.ntmps36
        go_wp2
        go_loop [6, 7] (fun a i => ∃ j u : Nat, j ≤ k ∧ i = .int .i64 ((j : Int) + 1) ∧ a = .int .i64 u ∧ u ≤ n ∧ Hid (u = valN (natsB (r.take j)))) (fun _ i => k + 1 - (intOf i).toNat)
        case atStart => exact ⟨0, 0, by omega, rfl, rfl, by omega, Lib.hid rfl⟩
        case round =>
          obtain ⟨j, u, hj, rfl, rfl, hun, hu⟩ := hrel
          by_cases hlt : j < k
          · have hcj := HCL.out j hlt
            have hle := HLE.out (j + 1) hlt
            have hsn := HV.out j (Nat.lt_of_lt_of_le hlt HXR.out)
            rw [← hu.out] at hsn
            rw [hsn] at hle
            have HSN := Lib.hid hsn
            have hz8 := (r.getD j 0#8).isLt
            generalize r.getD j 0#8 = z at *
            have hcj' : w.cell? ⟨b, off + (j + 1), none⟩ = some (.int .u8 z.toNat) := hcj
            clear hcj hsn
            have f1 : (j : Int) + 1 ≤ (k : Int) := by omega
            have f2 : (j : Int) + 1 < (m : Int) := by omega
            have f3 : ((j : Int) + 1).toNat = j + 1 := by omega
            go_wp2
            go_round
            case rel => exact ⟨j + 1, u * 256 + z.toNat, by omega, by go_num, by go_num, by omega, Lib.hid HSN.out.symm⟩
            case measure => simp [intOf]; omega
          · obtain rfl : k = j := by omega
            obtain rfl : u = n := by rw [hu.out]; exact HF.out
            have f1 : ¬ (k : Int) + 1 ≤ (k : Int) := by omega
            go_wp2
            refine wp_region_noPanic ?_
            refine wp_region_held_drew (S := fun w' => Below w.heap.size w w') (by kernel_rfl) (below_drew (Below.refl _ _)) (fun hHeld => ?_)
            refine wpAnyH_take (i := 0) (oi := ⟨some 61, _, _, _, _, _⟩) (v := ?_) rfl (by kernel_rfl) (by kernel_rfl) (by kernel_rfl) (fun _ _ _ h => h) (Or.inl ⟨by rfl, ?_⟩) hHeld ?_
            rotate_left
            · intro ww hSw
              (try dsimp only at hSw)
              go_simp
              (try with_reducible rfl)
            simp only [Act.put, List.setIfInBounds_toArray, List.set_cons_zero, List.set_cons_succ]
            refine wpAnyH_take (i := 1) (oi := ⟨some 62, _, _, _, _, _⟩) (v := ?_) rfl (by kernel_rfl) (by kernel_rfl) (by kernel_rfl) (fun _ _ _ h => h) (Or.inl ⟨by rfl, ?_⟩) hHeld ?_
            rotate_left
            · intro ww hSw
              (try dsimp only at hSw)
              go_simp
              (try with_reducible rfl)
            simp only [Act.put, List.setIfInBounds_toArray, List.set_cons_zero, List.set_cons_succ]
            refine wpAnyH_take (i := 2) (oi := ⟨some 63, _, _, _, _, _⟩) (v := ?_) rfl (by kernel_rfl) (by kernel_rfl) (by kernel_rfl) (fun _ _ _ h => h) (Or.inl ⟨by rfl, ?_⟩) hHeld ?_
            rotate_left
            · intro ww hSw
              (try dsimp only at hSw)
              go_simp
              (try with_reducible rfl)
            simp only [Act.put, List.setIfInBounds_toArray, List.set_cons_zero, List.set_cons_succ]
            refine wpAnyH_take (i := 3) (oi := ⟨some 64, _, _, _, _, _⟩) (v := .int .i64 ((k : Int) + 1)) rfl (by kernel_rfl) (by kernel_rfl) (by kernel_rfl) (fun _ _ _ h => h) (Or.inl ⟨by rfl, ?_⟩) hHeld ?_
            · intro ww hSw
              (try dsimp only at hSw)
              go_simp
              exact wrapi_id (by omega) (by omega)
            simp only [Act.put, List.setIfInBounds_toArray, List.set_cons_zero, List.set_cons_succ]
            refine wpAnyH_take (i := 4) (oi := ⟨some 65, _, _, _, _, _⟩) (v := .slice A2 q c2) rfl (by kernel_rfl) (by kernel_rfl) (by kernel_rfl) (fun _ _ _ h => h) (Or.inl ⟨by rfl, ?_⟩) hHeld ?_
            · intro ww hSw
              (try dsimp only at hSw)
              exact exec_slice_run HC.out rfl rfl rfl rfl rfl
            simp only [Act.put, List.setIfInBounds_toArray, List.set_cons_zero, List.set_cons_succ]
            refine wpAnyH_take (i := 5) (oi := ⟨some 2, _, _, _, _, _⟩) (v := ?_) rfl (by kernel_rfl) (by kernel_rfl) (by kernel_rfl) (fun _ _ _ h => h) (Or.inl ⟨by rfl, ?_⟩) hHeld ?_
            rotate_left
            · intro ww hSw
              (try dsimp only at hSw)
              go_simp
              (try with_reducible rfl)
            simp only [Act.put, List.setIfInBounds_toArray, List.set_cons_zero, List.set_cons_succ]
            refine wpAnyH_take (i := 6) (oi := ⟨some 3, _, _, _, _, _⟩) (v := ?_) rfl (by kernel_rfl) (by kernel_rfl) (by kernel_rfl) (fun _ _ _ h => h) (Or.inl ⟨by rfl, ?_⟩) hHeld ?_
            rotate_left
            · intro ww hSw
              (try dsimp only at hSw)
              go_simp
              (try with_reducible rfl)
            simp only [Act.put, List.setIfInBounds_toArray, List.set_cons_zero, List.set_cons_succ]
            refine wpAnyH_take (i := 7) (oi := ⟨some 4, _, _, _, _, _⟩) (v := ?_) rfl (by kernel_rfl) (by kernel_rfl) (by kernel_rfl) (fun _ _ _ h => h) (Or.inl ⟨by rfl, ?_⟩) hHeld ?_
            rotate_left
            · intro ww hSw
              (try dsimp only at hSw)
              go_simp
              (try with_reducible rfl)
            simp only [Act.put, List.setIfInBounds_toArray, List.set_cons_zero, List.set_cons_succ]
            refine wpAnyH_done (by kernel_rfl) ?_ _
            refine NoPanic.normal ?_
            go_wp2
            go_ret3
            exact ⟨A2, c2, rfl, HS2.out, hq2, below_drew (Below.refl _ _)⟩
      · have e1 : ((k : Int) == 8) = false := by simp; omega
        clear hk8 hk0 c1 hy0 hy8
        go_enter Try.func36, Try.ntmps36
        go_wp2
        go_loop [6, 7] (fun a i => ∃ j u : Nat, j ≤ k ∧ i = .int .i64 ((j : Int) + 1) ∧ a = .int .i64 u ∧ u ≤ n ∧ Hid (u = valN (natsB (r.take j)))) (fun _ i => k + 1 - (intOf i).toNat)
        case atStart => exact ⟨0, 0, by omega, rfl, rfl, by omega, Lib.hid rfl⟩
        case round =>
          obtain ⟨j, u, hj, rfl, rfl, hun, hu⟩ := hrel
          by_cases hlt : j < k
          · have hcj := HCL.out j hlt
            have hle := HLE.out (j + 1) hlt
            have hsn := HV.out j (Nat.lt_of_lt_of_le hlt HXR.out)
            rw [← hu.out] at hsn
            rw [hsn] at hle
            have HSN := Lib.hid hsn
            have hz8 := (r.getD j 0#8).isLt
            generalize r.getD j 0#8 = z at *
            have hcj' : w.cell? ⟨b, off + (j + 1), none⟩ = some (.int .u8 z.toNat) := hcj
            clear hcj hsn
            have f1 : (j : Int) + 1 ≤ (k : Int) := by omega
            have f2 : (j : Int) + 1 < (m : Int) := by omega
            have f3 : ((j : Int) + 1).toNat = j + 1 := by omega
            go_wp2
            go_round
            case rel => exact ⟨j + 1, u * 256 + z.toNat, by omega, by go_num, by go_num, by omega, Lib.hid HSN.out.symm⟩
            case measure => simp [intOf]; omega
          · obtain rfl : k = j := by omega
            obtain rfl : u = n := by rw [hu.out]; exact HF.out
            have f1 : ¬ (k : Int) + 1 ≤ (k : Int) := by omega
            go_wp2
            refine wp_region_noPanic ?_
            refine wp_region_held_drew (S := fun w' => Below w.heap.size w w') (by kernel_rfl) (below_drew (Below.refl _ _)) (fun hHeld => ?_)
            refine wpAnyH_take (i := 0) (oi := ⟨some 61, _, _, _, _, _⟩) (v := ?_) rfl (by kernel_rfl) (by kernel_rfl) (by kernel_rfl) (fun _ _ _ h => h) (Or.inl ⟨by rfl, ?_⟩) hHeld ?_
            rotate_left
            · intro ww hSw
              (try dsimp only at hSw)
              go_simp
              (try with_reducible rfl)
            simp only [Act.put, List.setIfInBounds_toArray, List.set_cons_zero, List.set_cons_succ]
            refine wpAnyH_take (i := 1) (oi := ⟨some 62, _, _, _, _, _⟩) (v := ?_) rfl (by kernel_rfl) (by kernel_rfl) (by kernel_rfl) (fun _ _ _ h => h) (Or.inl ⟨by rfl, ?_⟩) hHeld ?_
            rotate_left
            · intro ww hSw
              (try dsimp only at hSw)
              go_simp
              (try with_reducible rfl)
            simp only [Act.put, List.setIfInBounds_toArray, List.set_cons_zero, List.set_cons_succ]
            refine wpAnyH_take (i := 2) (oi := ⟨some 63, _, _, _, _, _⟩) (v := ?_) rfl (by kernel_rfl) (by kernel_rfl) (by kernel_rfl) (fun _ _ _ h => h) (Or.inl ⟨by rfl, ?_⟩) hHeld ?_
            rotate_left
            · intro ww hSw
              (try dsimp only at hSw)
              go_simp
              (try with_reducible rfl)
            simp only [Act.put, List.setIfInBounds_toArray, List.set_cons_zero, List.set_cons_succ]
            refine wpAnyH_take (i := 3) (oi := ⟨some 64, _, _, _, _, _⟩) (v := .int .i64 ((k : Int) + 1)) rfl (by kernel_rfl) (by kernel_rfl) (by kernel_rfl) (fun _ _ _ h => h) (Or.inl ⟨by rfl, ?_⟩) hHeld ?_
            · intro ww hSw
              (try dsimp only at hSw)
              go_simp
              exact wrapi_id (by omega) (by omega)
            simp only [Act.put, List.setIfInBounds_toArray, List.set_cons_zero, List.set_cons_succ]
            refine wpAnyH_take (i := 4) (oi := ⟨some 65, _, _, _, _, _⟩) (v := .slice A2 q c2) rfl (by kernel_rfl) (by kernel_rfl) (by kernel_rfl) (fun _ _ _ h => h) (Or.inl ⟨by rfl, ?_⟩) hHeld ?_
            · intro ww hSw
              (try dsimp only at hSw)
              exact exec_slice_run HC.out rfl rfl rfl rfl rfl
            simp only [Act.put, List.setIfInBounds_toArray, List.set_cons_zero, List.set_cons_succ]
            refine wpAnyH_take (i := 5) (oi := ⟨some 2, _, _, _, _, _⟩) (v := ?_) rfl (by kernel_rfl) (by kernel_rfl) (by kernel_rfl) (fun _ _ _ h => h) (Or.inl ⟨by rfl, ?_⟩) hHeld ?_
            rotate_left
            · intro ww hSw
              (try dsimp only at hSw)
              go_simp
              (try with_reducible rfl)
            simp only [Act.put, List.setIfInBounds_toArray, List.set_cons_zero, List.set_cons_succ]
            refine wpAnyH_take (i := 6) (oi := ⟨some 3, _, _, _, _, _⟩) (v := ?_) rfl (by kernel_rfl) (by kernel_rfl) (by kernel_rfl) (fun _ _ _ h => h) (Or.inl ⟨by rfl, ?_⟩) hHeld ?_
            rotate_left
            · intro ww hSw
              (try dsimp only at hSw)
              go_simp
              (try with_reducible rfl)
            simp only [Act.put, List.setIfInBounds_toArray, List.set_cons_zero, List.set_cons_succ]
            refine wpAnyH_take (i := 7) (oi := ⟨some 4, _, _, _, _, _⟩) (v := ?_) rfl (by kernel_rfl) (by kernel_rfl) (by kernel_rfl) (fun _ _ _ h => h) (Or.inl ⟨by rfl, ?_⟩) hHeld ?_
            rotate_left
            · intro ww hSw
              (try dsimp only at hSw)
              go_simp
              (try with_reducible rfl)
            simp only [Act.put, List.setIfInBounds_toArray, List.set_cons_zero, List.set_cons_succ]
            refine wpAnyH_done (by kernel_rfl) ?_ _
            refine NoPanic.normal ?_
            go_wp2
            go_ret3
            exact ⟨A2, c2, rfl, HS2.out, hq2, below_drew (Below.refl _ _)⟩
set_option maxHeartbeats 400000 in
theorem rput_ok (A : Option Addr) (m c : Nat) (xs : List (BitVec 8)) (B : Option Addr) (k d : Nat) (ns : List Nat) (w : World) (hx : Sl 1 w A m c (bytesV xs)) (hB : Nums w B (ns.map fun n : Nat => (n : Int))) (hk : ns.length = k)
    (hns : ∀ n ∈ ns, n < 9223372036854775808) (hm : m ≤ 1000000000000) (hkl : k ≤ 1000000000000) :
    Calls Try.prog 22 #[.slice A m c, .slice B k d] w fun e w' => ∃ A' c', e = .returned (.tuple #[.slice A' (m + (putB ns).length) c', .int .i64 0]) ∧ BRow w' w.heap.size A' c' (xs ++ putB ns) ∧ Below w.heap.size w w' := by
  subst hk
  have hxl := hx.blen
  have HB := Lib.hid hB
  have HN := Lib.hid hns
  have HM := Lib.hid hxl
  have HPL : Hid (∀ j, (putB (ns.take j)).length ≤ 9 * ns.length) := Lib.hid (fun j => by
    have := put_len_le (ns.take j) (fun n hn => hns n (List.mem_of_mem_take hn))
    rw [List.length_take] at this
    omega)
  have HSN := Lib.hid (put_snoc ns)
  obtain ⟨A1, c1, w1, hr1, r1, b1, hz1⟩ := brow_copy w hx (by omega)
  have HR1 := Lib.hid hr1
  have HW := Lib.hid r1
  clear hB hx hns hxl hr1 r1
  go_enter Try.func22, Try.ntmps22
  go_wp2_with (at_builtin; refine wpList_append_run (o := ⟨some 10, _, _, _, _, _⟩) HR1.out rfl rfl rfl rfl ?_)
  clear HR1
  go_loopw [6, 7] (fun b i wr => ∃ (j : Nat) (A : Option Addr) (c : Nat) (D : List (BitVec 8)) (L : Nat), j ≤ ns.length ∧ i = .int .i64 j ∧ b = .slice A L c ∧ D.length = L ∧ L ≤ m + 9 * ns.length ∧ Hid (D = xs ++ putB (ns.take j)) ∧ BRow wr w.heap.size A c D ∧ Below w.heap.size w wr) (fun _ i _ => ns.length - (intOf i).toNat)
  case atStart => exact ⟨0, A1, c1, xs, m, by omega, rfl, rfl, HM.out, by omega, by simp [putB]; trivial, HW.out, b1⟩
  case round =>
    clear HW b1
    obtain ⟨j, A3, c3, D, L, hj, rfl, rfl, hDl, hL, hD, hrow, hb⟩ := hrel
    by_cases hlt : j < ns.length
    · obtain ⟨b, off, rfl, hc⟩ := (HB.out.below hb) j (by simpa using hlt)
      rw [getD_ints] at hc
      have hs := HSN.out j hlt
      have hl' := HPL.out (j + 1)
      have hn : ns.getD j 0 < 9223372036854775808 := HN.out _ (by simp [List.getD, hlt])
      have hD' : D ++ oneB (ns.getD j 0) = xs ++ putB (ns.take (j + 1)) := by rw [hs, hD.out, List.append_assoc]
      have hDl' : (D ++ oneB (ns.getD j 0)).length = L + (oneB (ns.getD j 0)).length := by rw [List.length_append, hDl]
      have hL' : L + (oneB (ns.getD j 0)).length ≤ m + 9 * ns.length := by rw [← hDl', hD', List.length_append, HM.out]; omega
      have HD' := Lib.hid hD'
      have HL' := Lib.hid hDl'
      clear hs hl' hD' hDl'
      generalize ns.getD j 0 = n at *
      have HI := Lib.hid (rone_any n _ wr hn rfl)
      generalize ho : (oneB n).length = o at *
      have HO := Lib.hid ho
      clear ho
      go_wp2_with fail
      refine HI.out.mono ?_
      rintro e w4 ⟨A4, c4, rfl, r4, b4⟩
      obtain ⟨A5, c5, w5, hr5, r5, hbel5, _⟩ := brow_append (hrow.below b4) (r4.slAt rfl) (by rw [hDl, HO.out]; omega) (Nat.le_trans hb.size b4.size)
      rw [hDl, HO.out] at hr5
      have HR5 := Lib.hid hr5
      clear hr5
      have b5 := hbel5 w (Nat.le_refl _) (bel_on hb b4)
      go_wp2_with (at_builtin; refine wpList_append_run (o := ⟨some 28, _, _, _, _, _⟩) HR5.out rfl rfl rfl rfl ?_)
      go_roundw
      case rel => exact ⟨j + 1, A5, c5, D ++ oneB n, L + o, by omega, by go_num, rfl, HL'.out, hL', HD', r5, b5⟩
      case measure => simp [intOf]; omega
    · obtain rfl : j = ns.length := by omega
      have hDe := hD.out
      rw [List.take_length] at hDe
      subst hDe
      rw [List.length_append, HM.out] at hDl
      subst hDl
      go_wp2
      go_ret2
      exact ⟨A3, c3, rfl, hrow, hb⟩
set_option maxHeartbeats 400000 in
theorem rput_bad (A : Option Addr) (m c : Nat) (xs : List (BitVec 8)) (B : Option Addr) (k d : Nat) (zs : List Int) (w : World) (hx : Sl 1 w A m c (bytesV xs)) (hB : Nums w B zs) (hk : zs.length = k)
    (hzs : ∀ z ∈ zs, z ≤ 9223372036854775807) (hneg : ¬ ∀ z ∈ zs, 0 ≤ z) (hm : m ≤ 1000000000000) (hkl : k ≤ 1000000000000) :
    Calls Try.prog 22 #[.slice A m c, .slice B k d] w fun e w' => e = .returned (.tuple #[.slice none 0 0, .int .i64 50]) ∧ Below w.heap.size w w' := by
  subst hk
  have hxl := hx.blen
  have HB := Lib.hid hB
  have HN := Lib.hid hzs
  have HG := Lib.hid hneg
  have HM := Lib.hid hxl
  obtain ⟨A1, c1, w1, hr1, r1, b1, hz1⟩ := brow_copy w hx (by omega)
  have HR1 := Lib.hid hr1
  have HW := Lib.hid r1
  clear hB hzs hneg hx hxl hr1 r1
  go_enter Try.func22, Try.ntmps22
  go_wp2_with (at_builtin; refine wpList_append_run (o := ⟨some 10, _, _, _, _, _⟩) HR1.out rfl rfl rfl rfl ?_)
  clear HR1
  go_loopw [6, 7] (fun b i wr => ∃ (j : Nat) (A : Option Addr) (c : Nat) (D : List (BitVec 8)) (L : Nat), j ≤ zs.length ∧ i = .int .i64 j ∧ b = .slice A L c ∧ D.length = L ∧ L ≤ m + 9 * j ∧ Hid (∀ z ∈ zs.take j, 0 ≤ z) ∧ BRow wr w.heap.size A c D ∧ Below w.heap.size w wr) (fun _ i _ => zs.length - (intOf i).toNat)
  case atStart => exact ⟨0, A1, c1, xs, m, by omega, rfl, rfl, HM.out, by omega, Lib.hid (fun z hz => by simp at hz), HW.out, b1⟩
  case round =>
    clear HW b1
    obtain ⟨j, A3, c3, D, L, hj, rfl, rfl, hDl, hL, hpos, hrow, hb⟩ := hrel
    by_cases hlt : j < zs.length
    · obtain ⟨b, off, rfl, hc⟩ := (HB.out.below hb) j hlt
      have hn : zs.getD j 0 ≤ 9223372036854775807 := HN.out _ (by simp [List.getD, hlt])
      by_cases h0 : zs.getD j 0 < 0
      · generalize zs.getD j 0 = z at *
        go_wp2
        go_ret2
        exact ⟨rfl, hb⟩
      · have hp : ∀ z ∈ zs.take (j + 1), 0 ≤ z := by
          intro z hz
          rw [List.take_succ_eq_append_getElem hlt, List.mem_append] at hz
          rcases hz with hz | hz
          · exact hpos.out z hz
          · simp at hz
            simp [List.getD, hlt] at h0
            omega
        have HP := Lib.hid hp
        clear hp
        obtain ⟨n, hne⟩ : ∃ n : Nat, zs.getD j 0 = (n : Int) := ⟨(zs.getD j 0).toNat, by omega⟩
        rw [hne] at hc hn h0
        clear hne
        have hn' : n < 9223372036854775808 := by omega
        have h9 : (oneB n).length ≤ 9 := by rw [one_len]; have := digs_eight hn'; omega
        have hDl' : (D ++ oneB n).length = L + (oneB n).length := by rw [List.length_append, hDl]
        have HL' := Lib.hid hDl'
        have HI := Lib.hid (rone_any n _ wr hn' rfl)
        generalize ho : (oneB n).length = o at *
        have HO := Lib.hid ho
        clear ho hDl'
        go_wp2_with fail
        refine HI.out.mono ?_
        rintro e w4 ⟨A4, c4, rfl, r4, b4⟩
        obtain ⟨A5, c5, w5, hr5, r5, hbel5, _⟩ := brow_append (hrow.below b4) (r4.slAt rfl) (by rw [hDl, HO.out]; omega) (Nat.le_trans hb.size b4.size)
        rw [hDl, HO.out] at hr5
        have HR5 := Lib.hid hr5
        clear hr5
        have b5 := hbel5 w (Nat.le_refl _) (bel_on hb b4)
        go_wp2_with (at_builtin; refine wpList_append_run (o := ⟨some 28, _, _, _, _, _⟩) HR5.out rfl rfl rfl rfl ?_)
        go_roundw
        case rel => exact ⟨j + 1, A5, c5, D ++ oneB n, L + o, by omega, by go_num, rfl, HL'.out, by omega, HP, r5, b5⟩
        case measure => simp [intOf]; omega
    · obtain rfl : j = zs.length := by omega
      have := hpos.out
      rw [List.take_length] at this
      exact absurd this HG.out
end Go.Proofs.Ytgfomfioagblfaa

namespace Go.Proofs.Ytgfomfioagblfaa
open Go.RowKit
set_option linter.unusedVariables false
set_option linter.unusedSimpArgs false
set_option maxRecDepth 20000

theorem atL_out {l : List Int} {i : Nat} (h : l.length ≤ i) : atL l i = 0 := by simp [atL, List.getD, List.getElem?_eq_none h]
/-! ### all -/
theorem take_shorter {b r : List (BitVec 8)} {n : Nat} (h : takeB b = some (n, r)) : r.length < b.length := by
  obtain ⟨rfl, _⟩ := take_own h
  have := @one_len n
  rw [List.length_append]
  omega
end Go.Proofs.Ytgfomfioagblfaa

namespace Go.Proofs.Ytgfomfioagblfaa
open Go.RowKit
set_option linter.unusedVariables false
set_option linter.unusedSimpArgs false

/-- A slice of n structs of k numbers, of the call's own, that lies at 'base' or behind. -/
def TRow (e : TypeId) (k : Nat) (w : World) (base : Nat) (A : Option Addr) (n c : Nat) (rows : Rows2) : Prop :=
  w.ownsRow base e k (.slice A n c) n (ints .i64 rows.flatten)
section
variable {e : TypeId} {k : Nat} {w w' : World} {base n c : Nat} {A : Option Addr} {rows : Rows2}
theorem TRow.nil (w : World) (base : Nat) : TRow e k w base none 0 0 [] := World.ownsRow_nil w base _ _
theorem TRow.keep (h : TRow e k w base A n c rows) (hk : ∀ g, A = some g → w'.heap[g.block]? = w.heap[g.block]?) : TRow e k w' base A n c rows := by
  obtain ⟨hl, hn | ⟨g, cap, cur, hv, hg, hh, rest⟩⟩ := h
  · exact ⟨hl, .inl hn⟩
  · injection hv with e1 e2 e3
    subst e1
    exact ⟨hl, .inr ⟨g, cap, cur, by rw [e3], hg, (hk _ rfl).trans hh, rest⟩⟩
theorem TRow.lt (h : TRow e k w base A n c rows) : ∀ g, A = some g → base ≤ g.block ∧ g.block < w.heap.size := by
  rintro g rfl
  exact World.ownsRow.lt h _ rfl
theorem TRow.below (h : TRow e k w base A n c rows) (hb : Below w.heap.size w w') : TRow e k w' base A n c rows :=
  h.keep fun g hg => hb.block _ (h.lt g hg).2
theorem TRow.alloc (h : TRow e k w base A n c rows) (o : Obj) : TRow e k (w.alloc o) base A n c rows := World.ownsRow.alloc h o
theorem TRow.drew (h : TRow e k w base A n c rows) : TRow e k w.drew base A n c rows := h
theorem TRow.set (h : TRow e k w base A n c rows) {p : Addr} (hp : p.block < base) (v : Value) : TRow e k (w.setCell p v) base A n c rows :=
  h.keep fun g hg => Below.heap_setCell w p v g.block (by have := (h.lt g hg).1; omega)
end
end Go.Proofs.Ytgfomfioagblfaa
