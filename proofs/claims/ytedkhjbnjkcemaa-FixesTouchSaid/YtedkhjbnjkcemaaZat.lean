/-
  lumperref08.Sort.
-/
import Derived.Test.YtedkhjbnjkcemaaZaq
import Derived.Test.YtedkhjbnjkcemaaZas
import Derived.Test.YtedkhjbnjkcemaaZaa
namespace Go.Proofs.Ytedkhjbnjkcemaa
open Go.RowKit Go.Sort
set_option linter.unusedVariables false
set_option linter.unusedSimpArgs false
set_option maxRecDepth 20000

set_option maxHeartbeats 16000000 in
theorem rsort_any (A : Option Addr) (n c : Nat) (l : List EvP) (W : World) (h : Evs W A n c l) (hm : n ≤ 1000) :
    Calls Try.prog 27 #[.slice A n c] W fun e w' => ∃ A' c', e = .returned (.slice A' n c') ∧ Below W.heap.size W w' ∧ Evs w' A' n c' (sortE l) := by
  have hl := h.2
  have HA := Lib.hid h
  clear h
  go_enter Try.func27, Try.ntmps27
  go_wp2
  go_loopg [3, 4, 5, 6] n (fun kx s3 s4 s5 s6 wr => ∃ (i : Nat) (D : Option Addr) (cD : Nat), s3 = .slice D i cD ∧ s4 = .int .i64 i ∧ i + kx = n ∧ i ≤ cD ∧ Hid (Evs wr D i cD (sortE (l.take i))) ∧ Hid (Below W.heap.size W wr))
  case atStart => exact ⟨0, none, 0, rfl, rfl, by omega, by omega, Lib.hid ⟨⟨by simp [sortE, ints], .inl ⟨rfl, rfl, rfl⟩⟩, by simp [sortE]⟩, Lib.hid (Below.refl _ _)⟩
  case round =>
    obtain ⟨i, DA, cD, rfl, rfl, hi, hcD, HD, HW⟩ := hrel
    by_cases hlt : i < n
    · have hlt2 : (i : Int) < (n : Int) := by omega
      have hi0 : (0 : Int) ≤ (i : Int) := by omega
      have hi1 : ((i : Int)).toNat = i := by omega
      have HL := Lib.hid (HA.out.below HW.out)
      obtain ⟨ba, oa, rfl⟩ := HL.out.form (by omega)
      obtain ⟨x, hx⟩ : ∃ x, l.getD i EvP.none = x := ⟨_, rfl⟩
      obtain ⟨D, hDD⟩ : ∃ D, sortE (l.take i) = D := ⟨_, rfl⟩
      have HDD := Lib.hid hDD
      have hDl : D.length = i := by rw [← hDD, sortE_length, List.length_take]; omega
      have HRis : Hid (Risen D) := Lib.hid (by rw [← hDD]; exact ev_sort_risen _)
      rw [hDD] at HD
      clear hDD
      go_wp2
      go_loopw [5] (fun s5 w2 => ∃ k : Nat, s5 = .int .i64 k ∧ k ≤ i ∧ Hid (∀ j, k ≤ j → j < i → lessE x (D.getD j EvP.none) = true) ∧ Hid (Below wr.heap.size wr w2)) (fun s5 _ => match s5 with | .int _ z => z.toNat | _ => 0)
      case atStart => exact ⟨i, rfl, Nat.le_refl _, Lib.hid (fun j h1 h2 => by omega), Lib.hid (Below.refl _ _)⟩
      case round =>
        obtain ⟨k, rfl, hki, HALL, HW2⟩ := hrel
        have HL2 := Lib.hid (HL.out.below HW2.out)
        have HD2 := Lib.hid (HD.out.below HW2.out)
        by_cases hk0 : 0 < k
        · have hk0' : (0 : Int) < (k : Int) := by omega
          obtain ⟨bs, os, rfl⟩ := HD2.out.form (by omega)
          obtain ⟨y, hy⟩ : ∃ y, D.getD (k - 1) EvP.none = y := ⟨_, rfl⟩
          have hm0 : (k : Int) - 1 = ((k - 1 : Nat) : Int) := by omega
          have hm1 : (0 : Int) ≤ ((k - 1 : Nat) : Int) := by omega
          have hm2 : (((k - 1 : Nat) : Int)).toNat = k - 1 := by omega
          have hm3 : ((k - 1 : Nat) : Int) < (i : Int) := by omega
          have hm4 : IntKind.i64.wrap ((k - 1 : Nat) : Int) = ((k - 1 : Nat) : Int) := by rw [IntKind.wrap_i64]; omega
          cases hxy : lessE x y with
          | true =>
            have hless : ∀ ww, Calls Try.prog 48 #[.agg (evC x), .agg (evC y)] ww fun e w' => e = .returned (.bool true) ∧ Below ww.heap.size ww w' := fun ww => by have := rless8 x y ww; rw [hxy] at this; exact this
            have HXY := Lib.hid hxy
            clear hxy
            go_wp2_with fail
            refine wp_region_noPanic ?_
            refine wp_region_held_drew (S := fun w' => Below wr.heap.size wr w') (by kernel_rfl) (below_drew (Below.refl _ _)) (fun hHeld => ?_)
            refine wpAnyH_take (i := 0) (oi := ⟨some 15, _, _, _, _, _⟩) (v := ?_) rfl (by kernel_rfl) (by kernel_rfl) (by kernel_rfl) (fun _ _ _ h => h) (Or.inl ⟨by rfl, ?_⟩) hHeld ?_
            rotate_left
            · intro ww hSw
              (try dsimp only at hSw)
              go_simp
              (try with_reducible rfl)
            simp only [Act.put, List.setIfInBounds_toArray, List.set_cons_zero, List.set_cons_succ]
            refine wpAnyH_take (i := 1) (oi := ⟨some 16, _, _, _, _, _⟩) (v := .bool true) rfl (by kernel_rfl) (by kernel_rfl) (by kernel_rfl) (fun _ _ _ h => h) (Or.inl ⟨by rfl, ?_⟩) hHeld ?_
            · intro ww hSw
              (try dsimp only at hSw)
              go_simp
            simp only [Act.put, List.setIfInBounds_toArray, List.set_cons_zero, List.set_cons_succ]
            refine wpAnyH_take (i := 2) (oi := ⟨some 17, _, _, _, _, _⟩) (v := .bool true) rfl (by kernel_rfl) (by kernel_rfl) (by kernel_rfl) (fun _ _ _ h => h) (Or.inl ⟨by rfl, ?_⟩) hHeld ?_
            · intro ww hSw
              (try dsimp only at hSw)
              go_simp
            simp only [Act.put, List.setIfInBounds_toArray, List.set_cons_zero, List.set_cons_succ]
            refine wpAnyH_take (i := 3) (oi := ⟨some 18, _, _, _, _, _⟩) (v := ?_) rfl (by kernel_rfl) (by kernel_rfl) (by kernel_rfl) (fun _ _ _ h => h) (Or.inl ⟨by rfl, ?_⟩) hHeld ?_
            rotate_left
            · intro ww hSw
              (try dsimp only at hSw)
              go_simp
              (try with_reducible rfl)
            simp only [Act.put, List.setIfInBounds_toArray, List.set_cons_zero, List.set_cons_succ]
            refine wpAnyH_take (i := 4) (oi := ⟨some 19, _, _, _, _, _⟩) (v := ?_) rfl (by kernel_rfl) (by kernel_rfl) (by kernel_rfl) (fun _ _ _ h => h) (Or.inl ⟨by rfl, ?_⟩) hHeld ?_
            rotate_left
            · intro ww hSw
              (try dsimp only at hSw)
              go_simp
              (try with_reducible rfl)
            simp only [Act.put, List.setIfInBounds_toArray, List.set_cons_zero, List.set_cons_succ]
            refine wpAnyH_take (i := 5) (oi := ⟨some 20, _, _, _, _, _⟩) (v := .pointer (some ⟨ba, oa + i * 11, none⟩)) rfl (by kernel_rfl) (by kernel_rfl) (by kernel_rfl) (fun _ _ _ h => h) (Or.inl ⟨by rfl, ?_⟩) hHeld ?_
            · intro ww hSw
              (try dsimp only at hSw)
              go_simp
            simp only [Act.put, List.setIfInBounds_toArray, List.set_cons_zero, List.set_cons_succ]
            refine wpAnyH_take (i := 6) (oi := ⟨some 21, _, _, _, _, _⟩) (v := .agg (evC x)) rfl (by kernel_rfl) (by kernel_rfl) (by kernel_rfl) (fun _ _ _ h => h) (Or.inl ⟨by rfl, ?_⟩) hHeld ?_
            · intro ww hSw
              (try dsimp only at hSw)
              rw [← hx]
              exact exec_load_at _ rfl rfl (evs_load (HL2.out.below hSw) (by omega))
            simp only [Act.put, List.setIfInBounds_toArray, List.set_cons_zero, List.set_cons_succ]
            refine wpAnyH_take (i := 7) (oi := ⟨some 22, _, _, _, _, _⟩) (v := ?_) rfl (by kernel_rfl) (by kernel_rfl) (by kernel_rfl) (fun _ _ _ h => h) (Or.inl ⟨by rfl, ?_⟩) hHeld ?_
            rotate_left
            · intro ww hSw
              (try dsimp only at hSw)
              go_simp
              (try with_reducible rfl)
            simp only [Act.put, List.setIfInBounds_toArray, List.set_cons_zero, List.set_cons_succ]
            refine wpAnyH_take (i := 8) (oi := ⟨some 23, _, _, _, _, _⟩) (v := ?_) rfl (by kernel_rfl) (by kernel_rfl) (by kernel_rfl) (fun _ _ _ h => h) (Or.inl ⟨by rfl, ?_⟩) hHeld ?_
            rotate_left
            · intro ww hSw
              (try dsimp only at hSw)
              go_simp
              (try with_reducible rfl)
            simp only [Act.put, List.setIfInBounds_toArray, List.set_cons_zero, List.set_cons_succ]
            refine wpAnyH_take (i := 9) (oi := ⟨some 24, _, _, _, _, _⟩) (v := .int .i64 ((k - 1 : Nat) : Int)) rfl (by kernel_rfl) (by kernel_rfl) (by kernel_rfl) (fun _ _ _ h => h) (Or.inl ⟨by rfl, ?_⟩) hHeld ?_
            · intro ww hSw
              (try dsimp only at hSw)
              go_simp
            simp only [Act.put, List.setIfInBounds_toArray, List.set_cons_zero, List.set_cons_succ]
            refine wpAnyH_take (i := 10) (oi := ⟨some 25, _, _, _, _, _⟩) (v := .pointer (some ⟨bs, os + (k - 1) * 11, none⟩)) rfl (by kernel_rfl) (by kernel_rfl) (by kernel_rfl) (fun _ _ _ h => h) (Or.inl ⟨by rfl, ?_⟩) hHeld ?_
            · intro ww hSw
              (try dsimp only at hSw)
              go_simp
            simp only [Act.put, List.setIfInBounds_toArray, List.set_cons_zero, List.set_cons_succ]
            refine wpAnyH_take (i := 11) (oi := ⟨some 26, _, _, _, _, _⟩) (v := .agg (evC y)) rfl (by kernel_rfl) (by kernel_rfl) (by kernel_rfl) (fun _ _ _ h => h) (Or.inl ⟨by rfl, ?_⟩) hHeld ?_
            · intro ww hSw
              (try dsimp only at hSw)
              rw [← hy]
              exact exec_load_at _ rfl rfl (evs_load (HD2.out.below hSw) (by omega))
            simp only [Act.put, List.setIfInBounds_toArray, List.set_cons_zero, List.set_cons_succ]
            refine wpAnyH_ready (rs := [12]) (by kernel_rfl) (by simp) ?_
            refine AllReadyH.cons (o := ⟨some 27, _, _, _, _, _⟩) rfl (fun K hK => ?_) AllReadyH.nil
            go_simp
            go_at_call 48
            refine (hless _).mono ?_
            rintro e_r w3 ⟨rfl, hbn⟩
            have hbw3 : Below wr.heap.size wr w3 := bel_on (show Below wr.heap.size wr _ by (repeat' (first | with_reducible exact Below.refl _ _ | with_reducible assumption | with_reducible refine bel_alloc ?_ _ | with_reducible refine bel_set ?_ ?_ _ | with_reducible refine below_drewN ?_ _ | with_reducible refine below_drew ?_ | (simp; done) | (simp; omega) | omega))) hbn
            clear hbn
            go_wp2_with fail
            refine hK.out _ _ ?_ (fun hHeld => ?_)
            · (try dsimp only)
              exact hbw3
            clear hK K
            (try simp only [Act.put, List.setIfInBounds_toArray, List.set_cons_zero, List.set_cons_succ])
            refine wpAnyH_take (i := 13) (oi := ⟨some 28, _, _, _, _, _⟩) (v := .bool true) rfl (by kernel_rfl) (by kernel_rfl) (by kernel_rfl) (fun _ _ _ h => h) (Or.inl ⟨by rfl, ?_⟩) hHeld ?_
            · intro ww hSw
              (try dsimp only at hSw)
              go_simp
            simp only [Act.put, List.setIfInBounds_toArray, List.set_cons_zero, List.set_cons_succ]
            refine wpAnyH_done (by kernel_rfl) ?_ _
            refine NoPanic.normal ?_
            clear hless
            go_wp2
            go_roundw
            case rel => exact ⟨k - 1, by simp [hm0], by omega, Lib.hid (fun j h1 h2 => by
              by_cases e : j = k - 1
              · rw [e, hy]; exact HXY.out
              · exact HALL.out j (by omega) h2), Lib.hid (bel_on HW2.out hbw3)⟩
            case measure => simp; omega
          | false =>
            have hless : ∀ ww, Calls Try.prog 48 #[.agg (evC x), .agg (evC y)] ww fun e w' => e = .returned (.bool false) ∧ Below ww.heap.size ww w' := fun ww => by have := rless8 x y ww; rw [hxy] at this; exact this
            have HINS : Hid (insE D x = D.take k ++ (x :: D.drop k)) := Lib.hid (ins_place HRis.out x k (by omega) (fun j h1 h2 => HALL.out j h1 (by omega)) (.inr (by rw [hy]; exact hxy)))
            clear hxy
            go_wp2_with fail
            refine wp_region_noPanic ?_
            refine wp_region_held_drew (S := fun w' => Below wr.heap.size wr w') (by kernel_rfl) (below_drew (Below.refl _ _)) (fun hHeld => ?_)
            refine wpAnyH_take (i := 0) (oi := ⟨some 15, _, _, _, _, _⟩) (v := ?_) rfl (by kernel_rfl) (by kernel_rfl) (by kernel_rfl) (fun _ _ _ h => h) (Or.inl ⟨by rfl, ?_⟩) hHeld ?_
            rotate_left
            · intro ww hSw
              (try dsimp only at hSw)
              go_simp
              (try with_reducible rfl)
            simp only [Act.put, List.setIfInBounds_toArray, List.set_cons_zero, List.set_cons_succ]
            refine wpAnyH_take (i := 1) (oi := ⟨some 16, _, _, _, _, _⟩) (v := .bool true) rfl (by kernel_rfl) (by kernel_rfl) (by kernel_rfl) (fun _ _ _ h => h) (Or.inl ⟨by rfl, ?_⟩) hHeld ?_
            · intro ww hSw
              (try dsimp only at hSw)
              go_simp
            simp only [Act.put, List.setIfInBounds_toArray, List.set_cons_zero, List.set_cons_succ]
            refine wpAnyH_take (i := 2) (oi := ⟨some 17, _, _, _, _, _⟩) (v := .bool true) rfl (by kernel_rfl) (by kernel_rfl) (by kernel_rfl) (fun _ _ _ h => h) (Or.inl ⟨by rfl, ?_⟩) hHeld ?_
            · intro ww hSw
              (try dsimp only at hSw)
              go_simp
            simp only [Act.put, List.setIfInBounds_toArray, List.set_cons_zero, List.set_cons_succ]
            refine wpAnyH_take (i := 3) (oi := ⟨some 18, _, _, _, _, _⟩) (v := ?_) rfl (by kernel_rfl) (by kernel_rfl) (by kernel_rfl) (fun _ _ _ h => h) (Or.inl ⟨by rfl, ?_⟩) hHeld ?_
            rotate_left
            · intro ww hSw
              (try dsimp only at hSw)
              go_simp
              (try with_reducible rfl)
            simp only [Act.put, List.setIfInBounds_toArray, List.set_cons_zero, List.set_cons_succ]
            refine wpAnyH_take (i := 4) (oi := ⟨some 19, _, _, _, _, _⟩) (v := ?_) rfl (by kernel_rfl) (by kernel_rfl) (by kernel_rfl) (fun _ _ _ h => h) (Or.inl ⟨by rfl, ?_⟩) hHeld ?_
            rotate_left
            · intro ww hSw
              (try dsimp only at hSw)
              go_simp
              (try with_reducible rfl)
            simp only [Act.put, List.setIfInBounds_toArray, List.set_cons_zero, List.set_cons_succ]
            refine wpAnyH_take (i := 5) (oi := ⟨some 20, _, _, _, _, _⟩) (v := .pointer (some ⟨ba, oa + i * 11, none⟩)) rfl (by kernel_rfl) (by kernel_rfl) (by kernel_rfl) (fun _ _ _ h => h) (Or.inl ⟨by rfl, ?_⟩) hHeld ?_
            · intro ww hSw
              (try dsimp only at hSw)
              go_simp
            simp only [Act.put, List.setIfInBounds_toArray, List.set_cons_zero, List.set_cons_succ]
            refine wpAnyH_take (i := 6) (oi := ⟨some 21, _, _, _, _, _⟩) (v := .agg (evC x)) rfl (by kernel_rfl) (by kernel_rfl) (by kernel_rfl) (fun _ _ _ h => h) (Or.inl ⟨by rfl, ?_⟩) hHeld ?_
            · intro ww hSw
              (try dsimp only at hSw)
              rw [← hx]
              exact exec_load_at _ rfl rfl (evs_load (HL2.out.below hSw) (by omega))
            simp only [Act.put, List.setIfInBounds_toArray, List.set_cons_zero, List.set_cons_succ]
            refine wpAnyH_take (i := 7) (oi := ⟨some 22, _, _, _, _, _⟩) (v := ?_) rfl (by kernel_rfl) (by kernel_rfl) (by kernel_rfl) (fun _ _ _ h => h) (Or.inl ⟨by rfl, ?_⟩) hHeld ?_
            rotate_left
            · intro ww hSw
              (try dsimp only at hSw)
              go_simp
              (try with_reducible rfl)
            simp only [Act.put, List.setIfInBounds_toArray, List.set_cons_zero, List.set_cons_succ]
            refine wpAnyH_take (i := 8) (oi := ⟨some 23, _, _, _, _, _⟩) (v := ?_) rfl (by kernel_rfl) (by kernel_rfl) (by kernel_rfl) (fun _ _ _ h => h) (Or.inl ⟨by rfl, ?_⟩) hHeld ?_
            rotate_left
            · intro ww hSw
              (try dsimp only at hSw)
              go_simp
              (try with_reducible rfl)
            simp only [Act.put, List.setIfInBounds_toArray, List.set_cons_zero, List.set_cons_succ]
            refine wpAnyH_take (i := 9) (oi := ⟨some 24, _, _, _, _, _⟩) (v := .int .i64 ((k - 1 : Nat) : Int)) rfl (by kernel_rfl) (by kernel_rfl) (by kernel_rfl) (fun _ _ _ h => h) (Or.inl ⟨by rfl, ?_⟩) hHeld ?_
            · intro ww hSw
              (try dsimp only at hSw)
              go_simp
            simp only [Act.put, List.setIfInBounds_toArray, List.set_cons_zero, List.set_cons_succ]
            refine wpAnyH_take (i := 10) (oi := ⟨some 25, _, _, _, _, _⟩) (v := .pointer (some ⟨bs, os + (k - 1) * 11, none⟩)) rfl (by kernel_rfl) (by kernel_rfl) (by kernel_rfl) (fun _ _ _ h => h) (Or.inl ⟨by rfl, ?_⟩) hHeld ?_
            · intro ww hSw
              (try dsimp only at hSw)
              go_simp
            simp only [Act.put, List.setIfInBounds_toArray, List.set_cons_zero, List.set_cons_succ]
            refine wpAnyH_take (i := 11) (oi := ⟨some 26, _, _, _, _, _⟩) (v := .agg (evC y)) rfl (by kernel_rfl) (by kernel_rfl) (by kernel_rfl) (fun _ _ _ h => h) (Or.inl ⟨by rfl, ?_⟩) hHeld ?_
            · intro ww hSw
              (try dsimp only at hSw)
              rw [← hy]
              exact exec_load_at _ rfl rfl (evs_load (HD2.out.below hSw) (by omega))
            simp only [Act.put, List.setIfInBounds_toArray, List.set_cons_zero, List.set_cons_succ]
            refine wpAnyH_ready (rs := [12]) (by kernel_rfl) (by simp) ?_
            refine AllReadyH.cons (o := ⟨some 27, _, _, _, _, _⟩) rfl (fun K hK => ?_) AllReadyH.nil
            go_simp
            go_at_call 48
            refine (hless _).mono ?_
            rintro e_r w3 ⟨rfl, hbn⟩
            have hbw3 : Below wr.heap.size wr w3 := bel_on (show Below wr.heap.size wr _ by (repeat' (first | with_reducible exact Below.refl _ _ | with_reducible assumption | with_reducible refine bel_alloc ?_ _ | with_reducible refine bel_set ?_ ?_ _ | with_reducible refine below_drewN ?_ _ | with_reducible refine below_drew ?_ | (simp; done) | (simp; omega) | omega))) hbn
            clear hbn
            go_wp2_with fail
            refine hK.out _ _ ?_ (fun hHeld => ?_)
            · (try dsimp only)
              exact hbw3
            clear hK K
            (try simp only [Act.put, List.setIfInBounds_toArray, List.set_cons_zero, List.set_cons_succ])
            refine wpAnyH_take (i := 13) (oi := ⟨some 28, _, _, _, _, _⟩) (v := .bool false) rfl (by kernel_rfl) (by kernel_rfl) (by kernel_rfl) (fun _ _ _ h => h) (Or.inl ⟨by rfl, ?_⟩) hHeld ?_
            · intro ww hSw
              (try dsimp only at hSw)
              go_simp
            simp only [Act.put, List.setIfInBounds_toArray, List.set_cons_zero, List.set_cons_succ]
            refine wpAnyH_done (by kernel_rfl) ?_ _
            refine NoPanic.normal ?_
            clear hless hm0 hm1 hm2 hm3 hm4 hk0 hk0' hy
            replace HW2 := Lib.hid (bel_on HW2.out hbw3)
            clear hbw3 HL2 HD2
            have HL7 := Lib.hid (HL.out.below HW2.out)
            have HD7 := Lib.hid (HD.out.below HW2.out)
            obtain ⟨A8, hc8, hs8⟩ := evcut_from HD7.out hcD k (by omega)
            have HC8 := Lib.hid hc8
            have HS8 := Lib.hid hs8
            clear hc8 hs8
            obtain ⟨A6, c6, w6, hr6, row6, bel6, keep6⟩ := erow_append (erow_empty w3) (HS8.out.below (bel_alloc (Below.refl _ _) (.cells #[] 33))) (show 0 + (i - k) ≤ 100000 by omega) (by simp) (k := i - k) (by omega)
            rw [List.nil_append] at row6
            have HR6 : Hid ((Builtin.append_ #[31, 31] 31 #[.slice (some ⟨w3.heap.size, 0, none⟩) 0 0, .slice A8 (i - k) (cD - k)]).run Try.prog (w3.alloc (.cells #[] 33)) = .ok (.slice A6 (i - k) c6) w6) := hr6
            have b6 := bel6 w3 (Nat.le_refl _) (bel_alloc (Below.refl _ _) _)
            have HS6 := Lib.hid (row6.evs (n := i - k) (by rw [List.length_drop]; omega))
            have HB6 := Lib.hid (bel_on HW2.out b6)
            have H6x : Hid (∀ ww, Below w6.heap.size w6 ww → Evs ww A6 (i - k) c6 (D.drop k)) := Lib.hid (fun ww h => HS6.out.below h)
            clear hr6 row6 bel6 keep6 b6 HW2 HL7 HD7
            go_wp2_with (first | (at_builtin; refine wpList_append_run (o := ⟨some 35, _, _, _, _, _⟩) HR6.out rfl rfl rfl rfl ?_) | refine wpList_slice_run HC8.out rfl rfl rfl rfl rfl rfl ?_)
            clear HR6 HC8 HS8
            have HL3 := Lib.hid (HL.out.below HB6.out)
            have HD3 := Lib.hid (HD.out.below HB6.out)
            have HW3 := Lib.hid (bel_on HW.out HB6.out)
            obtain ⟨A39, hc39, hs39⟩ := evcut_to HD3.out hcD k (by omega)
            have HC39 := Lib.hid hc39
            have HS39 := Lib.hid hs39
            clear hc39 hs39 HD3 HB6 HS6
            refine wp_region_noPanic ?_
            refine wp_region_held_drew (S := fun w' => Below w6.heap.size w6 w') (by kernel_rfl) (below_drew (Below.refl _ _)) (fun hHeld => ?_)
            refine wpAnyH_take (i := 1) (oi := ⟨some 37, _, _, _, _, _⟩) (v := ?_) rfl (by kernel_rfl) (by kernel_rfl) (by kernel_rfl) (fun _ _ _ h => h) (Or.inl ⟨by rfl, ?_⟩) hHeld ?_
            rotate_left
            · intro ww hSw
              (try dsimp only at hSw)
              go_simp
              (try with_reducible rfl)
            simp only [Act.put, List.setIfInBounds_toArray, List.set_cons_zero, List.set_cons_succ]
            refine wpAnyH_take (i := 2) (oi := ⟨some 38, _, _, _, _, _⟩) (v := ?_) rfl (by kernel_rfl) (by kernel_rfl) (by kernel_rfl) (fun _ _ _ h => h) (Or.inl ⟨by rfl, ?_⟩) hHeld ?_
            rotate_left
            · intro ww hSw
              (try dsimp only at hSw)
              go_simp
              (try with_reducible rfl)
            simp only [Act.put, List.setIfInBounds_toArray, List.set_cons_zero, List.set_cons_succ]
            refine wpAnyH_take (i := 3) (oi := ⟨some 39, _, _, _, _, _⟩) (v := .slice A39 k cD) rfl (by kernel_rfl) (by kernel_rfl) (by kernel_rfl) (fun _ _ _ h => h) (Or.inl ⟨by rfl, ?_⟩) hHeld ?_
            · intro ww hSw
              (try dsimp only at hSw)
              exact exec_slice_run HC39.out rfl rfl rfl rfl rfl
            simp only [Act.put, List.setIfInBounds_toArray, List.set_cons_zero, List.set_cons_succ]
            refine wpAnyH_take (i := 5) (oi := ⟨some 41, _, _, _, _, _⟩) (v := ?_) rfl (by kernel_rfl) (by kernel_rfl) (by kernel_rfl) (fun _ _ _ h => h) (Or.inl ⟨by rfl, ?_⟩) hHeld ?_
            rotate_left
            · intro ww hSw
              (try dsimp only at hSw)
              go_simp
              (try with_reducible rfl)
            simp only [Act.put, List.setIfInBounds_toArray, List.set_cons_zero, List.set_cons_succ]
            refine wpAnyH_take (i := 6) (oi := ⟨some 42, _, _, _, _, _⟩) (v := ?_) rfl (by kernel_rfl) (by kernel_rfl) (by kernel_rfl) (fun _ _ _ h => h) (Or.inl ⟨by rfl, ?_⟩) hHeld ?_
            rotate_left
            · intro ww hSw
              (try dsimp only at hSw)
              go_simp
              (try with_reducible rfl)
            simp only [Act.put, List.setIfInBounds_toArray, List.set_cons_zero, List.set_cons_succ]
            refine wpAnyH_take (i := 7) (oi := ⟨some 43, _, _, _, _, _⟩) (v := .pointer (some ⟨ba, oa + i * 11, none⟩)) rfl (by kernel_rfl) (by kernel_rfl) (by kernel_rfl) (fun _ _ _ h => h) (Or.inl ⟨by rfl, ?_⟩) hHeld ?_
            · intro ww hSw
              (try dsimp only at hSw)
              go_simp
            simp only [Act.put, List.setIfInBounds_toArray, List.set_cons_zero, List.set_cons_succ]
            refine wpAnyH_take (i := 8) (oi := ⟨some 44, _, _, _, _, _⟩) (v := .agg (evC x)) rfl (by kernel_rfl) (by kernel_rfl) (by kernel_rfl) (fun _ _ _ h => h) (Or.inl ⟨by rfl, ?_⟩) hHeld ?_
            · intro ww hSw
              (try dsimp only at hSw)
              rw [← hx]
              exact exec_load_at _ rfl rfl (evs_load (HL3.out.below hSw) (by omega))
            simp only [Act.put, List.setIfInBounds_toArray, List.set_cons_zero, List.set_cons_succ]
            refine wpAnyH_take (i := 11) (oi := ⟨some 47, _, _, _, _, _⟩) (v := ?_) rfl (by kernel_rfl) (by kernel_rfl) (by kernel_rfl) (fun _ _ _ h => h) (Or.inl ⟨by rfl, ?_⟩) hHeld ?_
            rotate_left
            · intro ww hSw
              (try dsimp only at hSw)
              go_simp
              (try with_reducible rfl)
            simp only [Act.put, List.setIfInBounds_toArray, List.set_cons_zero, List.set_cons_succ]
            obtain ⟨wd, hwd⟩ : ∃ wd, w6.drew = wd := ⟨_, rfl⟩
            have B3d : Hid (Below w6.heap.size w6 wd) := by rw [← hwd]; exact below_drew (Below.refl _ _)
            have H39d : Hid (Evs wd A39 k cD (D.take k)) := by rw [← hwd]; exact HS39.out
            have HSZ : Hid (wd.heap.size = w6.heap.size) := Lib.hid (by rw [← hwd]; rfl)
            rw [hwd]
            clear hwd
            refine wpAnyH_ready (rs := [0, 9]) (by kernel_rfl) (by simp) ?_
            refine AllReadyH.cons (o := ⟨some 36, _, _, _, _, _⟩) rfl (fun K hK => ?_) (AllReadyH.cons (o := ⟨some 45, _, _, _, _, _⟩) rfl (fun K hK => ?_) AllReadyH.nil)
            · skip
              go_simp
              refine hK.out _ _ ?_ (fun hHeld => ?_)
              · (try dsimp only)
                exact bel_alloc B3d.out _
              clear hK K
              (try simp only [Act.put, List.setIfInBounds_toArray, List.set_cons_zero, List.set_cons_succ])
              have R36 := Lib.hid (erow_empty wd)
              have B36 := Lib.hid (bel_alloc B3d.out (.cells #[] 33))
              have H36 := Lib.hid (H39d.out.below (bel_alloc (Below.refl _ _) (.cells #[] 33)))
              refine wpAnyH_ready (rs := [4, 9]) (by kernel_rfl) (by simp) ?_
              refine AllReadyH.cons (o := ⟨some 40, _, _, _, _, _⟩) rfl (fun K hK => ?_) (AllReadyH.cons (o := ⟨some 45, _, _, _, _, _⟩) rfl (fun K hK => ?_) AllReadyH.nil)
              · skip
                obtain ⟨A40, c40, w40, hr40, row40, bel40, keep40⟩ := erow_append (erow_mono R36.out (Nat.le_of_eq HSZ.out.symm)) H36.out (show 0 + k ≤ 100000 by omega) B36.out.size (k := k) (by omega)
                have HR40 : Hid ((Builtin.append_ #[31, 31] 31 #[.slice (some ⟨wd.heap.size, 0, none⟩) 0 0, .slice A39 k cD]).run Try.prog (wd.alloc (.cells #[] 33)) = .ok (.slice A40 k c40) w40) := hr40
                have b40 := bel40 w6 (Nat.le_refl _) B36.out
                rw [List.nil_append] at row40
                have B40 := Lib.hid b40
                rw [if_pos (by rfl)]
                refine wp_append_run8 HR40.out rfl rfl rfl ?_
                refine hK.out _ _ ?_ (fun hHeld => ?_)
                · (try dsimp only)
                  exact B40.out
                clear hK K
                (try simp only [Act.put, List.setIfInBounds_toArray, List.set_cons_zero, List.set_cons_succ])
                refine wpAnyH_ready (rs := [9]) (by kernel_rfl) (by simp) ?_
                refine AllReadyH.cons (o := ⟨some 45, _, _, _, _, _⟩) rfl (fun K hK => ?_) AllReadyH.nil
                rw [if_pos (by rfl)]
                refine wp_build_e x rfl rfl ?_
                refine hK.out _ _ ?_ (fun hHeld => ?_)
                · (try dsimp only)
                  exact bel_alloc B40.out _
                clear hK K
                (try simp only [Act.put, List.setIfInBounds_toArray, List.set_cons_zero, List.set_cons_succ])
                have R40 := Lib.hid (row40.alloc (.cells (evC x) 33))
                have X45 := Lib.hid (evs_one w40 x)
                have B0 := Lib.hid (bel_alloc B40.out (.cells (evC x) 33))
                obtain ⟨g45, hg45⟩ : ∃ g, w40.heap.size = g := ⟨_, rfl⟩
                rw [hg45] at X45
                rw [hg45]
                obtain ⟨wz, hwz⟩ : ∃ wz, w40.alloc (.cells (evC x) 33) = wz := ⟨_, rfl⟩
                rw [hwz] at R40 X45 B0
                rw [hwz]
                clear hwz hg45 HR40 hr40 row40 bel40 keep40 b40 B40 R36 B36 H36 B3d H39d HSZ
                obtain ⟨A46, c46, w46, hr46, row46, bel46, keep46⟩ := erow_append R40.out X45.out (show k + 1 ≤ 100000 by omega) B0.out.size (k := k + 1) rfl
                have HR46 : Hid ((Builtin.append_ #[31, 31] 31 #[.slice A40 k c40, .slice (some ⟨g45, 0, none⟩) 1 1]).run Try.prog wz = .ok (.slice A46 (k + 1) c46) w46) := hr46
                have b46 := bel46 w6 (Nat.le_refl _) B0.out
                have L6 := H6x.out w46 b46
                obtain ⟨A48, c48, w48, hr48, row48, bel48, keep48⟩ := erow_append row46 L6 (show k + 1 + (i - k) ≤ 100000 by omega) b46.size (k := i + 1) (by omega)
                have HR48 : Hid ((Builtin.append_ #[31, 31] 31 #[.slice A46 (k + 1) c46, .slice A6 (i - k) c6]).run Try.prog w46 = .ok (.slice A48 (i + 1) c48) w48) := hr48
                have b48 := bel48 w6 (Nat.le_refl _) b46
                have E48 := Lib.hid (row48.evs (n := i + 1) (by rw [List.length_append, List.length_append, List.length_take, List.length_drop]; simp; omega))
                have hc48 := (erow_caps row48).1
                have B46 := Lib.hid b46
                have B48 := Lib.hid b48
                clear hr46 hr48 bel46 bel48 keep46 keep48 row46 row48 b46 b48 L6 R40 X45 B0
                refine wpAnyH_ready (rs := [10]) (by kernel_rfl) (by simp) ?_
                refine AllReadyH.cons (o := ⟨some 46, _, _, _, _, _⟩) rfl (fun K hK => ?_) AllReadyH.nil
                rw [if_pos (by rfl)]
                refine wp_append_run8 HR46.out rfl rfl rfl ?_
                refine hK.out _ _ ?_ (fun hHeld => ?_)
                · (try dsimp only)
                  exact B46.out
                clear hK K
                (try simp only [Act.put, List.setIfInBounds_toArray, List.set_cons_zero, List.set_cons_succ])
                refine wpAnyH_ready (rs := [12]) (by kernel_rfl) (by simp) ?_
                refine AllReadyH.cons (o := ⟨some 48, _, _, _, _, _⟩) rfl (fun K hK => ?_) AllReadyH.nil
                rw [if_pos (by rfl)]
                refine wp_append_run8 HR48.out rfl rfl rfl ?_
                refine hK.out _ _ ?_ (fun hHeld => ?_)
                · (try dsimp only)
                  exact B48.out
                clear hK K
                (try simp only [Act.put, List.setIfInBounds_toArray, List.set_cons_zero, List.set_cons_succ])
                refine wpAnyH_take (i := 13) (oi := ⟨some 3, _, _, _, _, _⟩) (v := ?_) rfl (by kernel_rfl) (by kernel_rfl) (by kernel_rfl) (fun _ _ _ h => h) (Or.inl ⟨by rfl, ?_⟩) hHeld ?_
                rotate_left
                · intro ww hSw
                  (try dsimp only at hSw)
                  go_simp
                  (try with_reducible rfl)
                simp only [Act.put, List.setIfInBounds_toArray, List.set_cons_zero, List.set_cons_succ]
                refine wpAnyH_done (by kernel_rfl) ?_ _
                refine NoPanic.normal ?_
                clear HR46 HR48
                go_wp2
                go_roundg (n - (i + 1))
                case measure => omega
                case rel => exact ⟨i + 1, A48, c48, rfl, by simp, by omega, hc48, Lib.hid (by rw [take_snoc_e (by omega), sortE_snoc, HDD.out, hx, HINS.out, List.append_cons]; exact E48.out), Lib.hid (bel_on HW3.out B48.out)⟩
              · skip
                rw [if_pos (by rfl)]
                refine wp_build_e x rfl rfl ?_
                refine hK.out _ _ ?_ (fun hHeld => ?_)
                · (try dsimp only)
                  exact bel_alloc B36.out _
                clear hK K
                (try simp only [Act.put, List.setIfInBounds_toArray, List.set_cons_zero, List.set_cons_succ])
                have R36b := Lib.hid ((erow_mono R36.out (Nat.le_of_eq HSZ.out.symm)).alloc (.cells (evC x) 33))
                have X45a := Lib.hid (evs_one (wd.alloc (.cells #[] 33)) x)
                have B45 := Lib.hid (bel_alloc B36.out (.cells (evC x) 33))
                have H39b := Lib.hid (H36.out.below (bel_alloc (Below.refl _ _) (.cells (evC x) 33)))
                have hs45 : (wd.alloc (.cells #[] 33)).heap.size = wd.heap.size + 1 := by simp
                rw [hs45] at X45a
                (try rw [hs45])
                have hne : ¬ wd.heap.size + 1 = wd.heap.size := by omega
                have hlt45 : wd.heap.size + 1 < ((wd.alloc (.cells #[] 33)).alloc (.cells (evC x) 33)).heap.size := by simp
                generalize hg45 : wd.heap.size + 1 = g45 at *
                generalize hg36 : wd.heap.size = g36 at *
                generalize hwy : (wd.alloc (.cells #[] 33)).alloc (.cells (evC x) 33) = wy at *
                obtain ⟨A40, c40, w40, hr40, row40, bel40, keep40⟩ := erow_append R36b.out H39b.out (show 0 + k ≤ 100000 by omega) B45.out.size (k := k) (by omega)
                have HR40 : Hid ((Builtin.append_ #[31, 31] 31 #[.slice (some ⟨g36, 0, none⟩) 0 0, .slice A39 k cD]).run Try.prog wy = .ok (.slice A40 k c40) w40) := hr40
                have b40 := bel40 w6 (Nat.le_refl _) B45.out
                rw [List.nil_append] at row40
                have B0 := Lib.hid b40
                have R40 := Lib.hid row40
                have X45 := Lib.hid (X45a.out.keep (w' := w40) (fun g hg => keep40 _ (by injection hg with hg; subst hg; exact hlt45) (fun g' hg' => by injection hg' with hg'; injection hg with hg; subst hg' hg; exact hne)))
                clear hr40 row40 bel40 keep40 b40 R36b X45a B45 H39b hne hlt45 hg45 hg36 hwy R36 B36 H36 B3d H39d HSZ hs45
                refine wpAnyH_ready (rs := [4]) (by kernel_rfl) (by simp) ?_
                refine AllReadyH.cons (o := ⟨some 40, _, _, _, _, _⟩) rfl (fun K hK => ?_) AllReadyH.nil
                rw [if_pos (by rfl)]
                refine wp_append_run8 HR40.out rfl rfl rfl ?_
                refine hK.out _ _ ?_ (fun hHeld => ?_)
                · (try dsimp only)
                  exact B0.out
                clear hK K
                (try simp only [Act.put, List.setIfInBounds_toArray, List.set_cons_zero, List.set_cons_succ])
                clear HR40
                obtain ⟨A46, c46, w46, hr46, row46, bel46, keep46⟩ := erow_append R40.out X45.out (show k + 1 ≤ 100000 by omega) B0.out.size (k := k + 1) rfl
                have HR46 : Hid ((Builtin.append_ #[31, 31] 31 #[.slice A40 k c40, .slice (some ⟨g45, 0, none⟩) 1 1]).run Try.prog w40 = .ok (.slice A46 (k + 1) c46) w46) := hr46
                have b46 := bel46 w6 (Nat.le_refl _) B0.out
                have L6 := H6x.out w46 b46
                obtain ⟨A48, c48, w48, hr48, row48, bel48, keep48⟩ := erow_append row46 L6 (show k + 1 + (i - k) ≤ 100000 by omega) b46.size (k := i + 1) (by omega)
                have HR48 : Hid ((Builtin.append_ #[31, 31] 31 #[.slice A46 (k + 1) c46, .slice A6 (i - k) c6]).run Try.prog w46 = .ok (.slice A48 (i + 1) c48) w48) := hr48
                have b48 := bel48 w6 (Nat.le_refl _) b46
                have E48 := Lib.hid (row48.evs (n := i + 1) (by rw [List.length_append, List.length_append, List.length_take, List.length_drop]; simp; omega))
                have hc48 := (erow_caps row48).1
                have B46 := Lib.hid b46
                have B48 := Lib.hid b48
                clear hr46 hr48 bel46 bel48 keep46 keep48 row46 row48 b46 b48 L6 R40 X45 B0
                refine wpAnyH_ready (rs := [10]) (by kernel_rfl) (by simp) ?_
                refine AllReadyH.cons (o := ⟨some 46, _, _, _, _, _⟩) rfl (fun K hK => ?_) AllReadyH.nil
                rw [if_pos (by rfl)]
                refine wp_append_run8 HR46.out rfl rfl rfl ?_
                refine hK.out _ _ ?_ (fun hHeld => ?_)
                · (try dsimp only)
                  exact B46.out
                clear hK K
                (try simp only [Act.put, List.setIfInBounds_toArray, List.set_cons_zero, List.set_cons_succ])
                refine wpAnyH_ready (rs := [12]) (by kernel_rfl) (by simp) ?_
                refine AllReadyH.cons (o := ⟨some 48, _, _, _, _, _⟩) rfl (fun K hK => ?_) AllReadyH.nil
                rw [if_pos (by rfl)]
                refine wp_append_run8 HR48.out rfl rfl rfl ?_
                refine hK.out _ _ ?_ (fun hHeld => ?_)
                · (try dsimp only)
                  exact B48.out
                clear hK K
                (try simp only [Act.put, List.setIfInBounds_toArray, List.set_cons_zero, List.set_cons_succ])
                refine wpAnyH_take (i := 13) (oi := ⟨some 3, _, _, _, _, _⟩) (v := ?_) rfl (by kernel_rfl) (by kernel_rfl) (by kernel_rfl) (fun _ _ _ h => h) (Or.inl ⟨by rfl, ?_⟩) hHeld ?_
                rotate_left
                · intro ww hSw
                  (try dsimp only at hSw)
                  go_simp
                  (try with_reducible rfl)
                simp only [Act.put, List.setIfInBounds_toArray, List.set_cons_zero, List.set_cons_succ]
                refine wpAnyH_done (by kernel_rfl) ?_ _
                refine NoPanic.normal ?_
                clear HR46 HR48
                go_wp2
                go_roundg (n - (i + 1))
                case measure => omega
                case rel => exact ⟨i + 1, A48, c48, rfl, by simp, by omega, hc48, Lib.hid (by rw [take_snoc_e (by omega), sortE_snoc, HDD.out, hx, HINS.out, List.append_cons]; exact E48.out), Lib.hid (bel_on HW3.out B48.out)⟩
            · skip
              rw [if_pos (by rfl)]
              refine wp_build_e x rfl rfl ?_
              refine hK.out _ _ ?_ (fun hHeld => ?_)
              · (try dsimp only)
                exact bel_alloc B3d.out _
              clear hK K
              (try simp only [Act.put, List.setIfInBounds_toArray, List.set_cons_zero, List.set_cons_succ])
              refine wpAnyH_ready (rs := [0]) (by kernel_rfl) (by simp) ?_
              refine AllReadyH.cons (o := ⟨some 36, _, _, _, _, _⟩) rfl (fun K hK => ?_) AllReadyH.nil
              go_simp
              refine hK.out _ _ ?_ (fun hHeld => ?_)
              · (try dsimp only)
                exact bel_alloc (bel_alloc B3d.out _) _
              clear hK K
              (try simp only [Act.put, List.setIfInBounds_toArray, List.set_cons_zero, List.set_cons_succ])
              have R36b := Lib.hid (erow_mono (erow_empty (wd.alloc (.cells (evC x) 33))) (by have := HSZ.out; simp; omega : w6.heap.size ≤ _))
              have X45a := Lib.hid ((evs_one wd x).below (bel_alloc (Below.refl _ _) (.cells #[] 33)))
              have B45 := Lib.hid (bel_alloc (bel_alloc B3d.out (.cells (evC x) 33)) (.cells #[] 33))
              have H39b := Lib.hid (H39d.out.below (bel_alloc (bel_alloc (Below.refl _ _) (.cells (evC x) 33)) (.cells #[] 33)))
              have hs45 : (wd.alloc (.cells (evC x) 33)).heap.size = wd.heap.size + 1 := by simp
              rw [hs45] at R36b
              (try rw [hs45])
              have hne : ¬ wd.heap.size = wd.heap.size + 1 := by omega
              have hlt45 : wd.heap.size < ((wd.alloc (.cells (evC x) 33)).alloc (.cells #[] 33)).heap.size := by simp; omega
              generalize hg36 : wd.heap.size + 1 = g36 at *
              generalize hg45 : wd.heap.size = g45 at *
              generalize hwy : (wd.alloc (.cells (evC x) 33)).alloc (.cells #[] 33) = wy at *
              obtain ⟨A40, c40, w40, hr40, row40, bel40, keep40⟩ := erow_append R36b.out H39b.out (show 0 + k ≤ 100000 by omega) B45.out.size (k := k) (by omega)
              have HR40 : Hid ((Builtin.append_ #[31, 31] 31 #[.slice (some ⟨g36, 0, none⟩) 0 0, .slice A39 k cD]).run Try.prog wy = .ok (.slice A40 k c40) w40) := hr40
              have b40 := bel40 w6 (Nat.le_refl _) B45.out
              rw [List.nil_append] at row40
              have B0 := Lib.hid b40
              have R40 := Lib.hid row40
              have X45 := Lib.hid (X45a.out.keep (w' := w40) (fun g hg => keep40 _ (by injection hg with hg; subst hg; exact hlt45) (fun g' hg' => by injection hg' with hg'; injection hg with hg; subst hg' hg; exact hne)))
              clear hr40 row40 bel40 keep40 b40 R36b X45a B45 H39b hne hlt45 hg45 hg36 hwy B3d H39d HSZ hs45
              refine wpAnyH_ready (rs := [4]) (by kernel_rfl) (by simp) ?_
              refine AllReadyH.cons (o := ⟨some 40, _, _, _, _, _⟩) rfl (fun K hK => ?_) AllReadyH.nil
              rw [if_pos (by rfl)]
              refine wp_append_run8 HR40.out rfl rfl rfl ?_
              refine hK.out _ _ ?_ (fun hHeld => ?_)
              · (try dsimp only)
                exact B0.out
              clear hK K
              (try simp only [Act.put, List.setIfInBounds_toArray, List.set_cons_zero, List.set_cons_succ])
              clear HR40
              obtain ⟨A46, c46, w46, hr46, row46, bel46, keep46⟩ := erow_append R40.out X45.out (show k + 1 ≤ 100000 by omega) B0.out.size (k := k + 1) rfl
              have HR46 : Hid ((Builtin.append_ #[31, 31] 31 #[.slice A40 k c40, .slice (some ⟨g45, 0, none⟩) 1 1]).run Try.prog w40 = .ok (.slice A46 (k + 1) c46) w46) := hr46
              have b46 := bel46 w6 (Nat.le_refl _) B0.out
              have L6 := H6x.out w46 b46
              obtain ⟨A48, c48, w48, hr48, row48, bel48, keep48⟩ := erow_append row46 L6 (show k + 1 + (i - k) ≤ 100000 by omega) b46.size (k := i + 1) (by omega)
              have HR48 : Hid ((Builtin.append_ #[31, 31] 31 #[.slice A46 (k + 1) c46, .slice A6 (i - k) c6]).run Try.prog w46 = .ok (.slice A48 (i + 1) c48) w48) := hr48
              have b48 := bel48 w6 (Nat.le_refl _) b46
              have E48 := Lib.hid (row48.evs (n := i + 1) (by rw [List.length_append, List.length_append, List.length_take, List.length_drop]; simp; omega))
              have hc48 := (erow_caps row48).1
              have B46 := Lib.hid b46
              have B48 := Lib.hid b48
              clear hr46 hr48 bel46 bel48 keep46 keep48 row46 row48 b46 b48 L6 R40 X45 B0
              refine wpAnyH_ready (rs := [10]) (by kernel_rfl) (by simp) ?_
              refine AllReadyH.cons (o := ⟨some 46, _, _, _, _, _⟩) rfl (fun K hK => ?_) AllReadyH.nil
              rw [if_pos (by rfl)]
              refine wp_append_run8 HR46.out rfl rfl rfl ?_
              refine hK.out _ _ ?_ (fun hHeld => ?_)
              · (try dsimp only)
                exact B46.out
              clear hK K
              (try simp only [Act.put, List.setIfInBounds_toArray, List.set_cons_zero, List.set_cons_succ])
              refine wpAnyH_ready (rs := [12]) (by kernel_rfl) (by simp) ?_
              refine AllReadyH.cons (o := ⟨some 48, _, _, _, _, _⟩) rfl (fun K hK => ?_) AllReadyH.nil
              rw [if_pos (by rfl)]
              refine wp_append_run8 HR48.out rfl rfl rfl ?_
              refine hK.out _ _ ?_ (fun hHeld => ?_)
              · (try dsimp only)
                exact B48.out
              clear hK K
              (try simp only [Act.put, List.setIfInBounds_toArray, List.set_cons_zero, List.set_cons_succ])
              refine wpAnyH_take (i := 13) (oi := ⟨some 3, _, _, _, _, _⟩) (v := ?_) rfl (by kernel_rfl) (by kernel_rfl) (by kernel_rfl) (fun _ _ _ h => h) (Or.inl ⟨by rfl, ?_⟩) hHeld ?_
              rotate_left
              · intro ww hSw
                (try dsimp only at hSw)
                go_simp
                (try with_reducible rfl)
              simp only [Act.put, List.setIfInBounds_toArray, List.set_cons_zero, List.set_cons_succ]
              refine wpAnyH_done (by kernel_rfl) ?_ _
              refine NoPanic.normal ?_
              clear HR46 HR48
              go_wp2
              go_roundg (n - (i + 1))
              case measure => omega
              case rel => exact ⟨i + 1, A48, c48, rfl, by simp, by omega, hc48, Lib.hid (by rw [take_snoc_e (by omega), sortE_snoc, HDD.out, hx, HINS.out, List.append_cons]; exact E48.out), Lib.hid (bel_on HW3.out B48.out)⟩
        · have hk0' : ¬ (0 : Int) < (k : Int) := by omega
          have HINS : Hid (insE D x = D.take k ++ (x :: D.drop k)) := Lib.hid (ins_place HRis.out x k (by omega) (fun j h1 h2 => HALL.out j h1 (by omega)) (.inl (by omega)))
          go_wp2_with fail
          refine wp_region_noPanic ?_
          refine wp_region_held_drew (S := fun w' => Below wr.heap.size wr w') (by kernel_rfl) (below_drew (Below.refl _ _)) (fun hHeld => ?_)
          refine wpAnyH_take (i := 0) (oi := ⟨some 15, _, _, _, _, _⟩) (v := ?_) rfl (by kernel_rfl) (by kernel_rfl) (by kernel_rfl) (fun _ _ _ h => h) (Or.inl ⟨by rfl, ?_⟩) hHeld ?_
          rotate_left
          · intro ww hSw
            (try dsimp only at hSw)
            go_simp
            (try with_reducible rfl)
          simp only [Act.put, List.setIfInBounds_toArray, List.set_cons_zero, List.set_cons_succ]
          refine wpAnyH_take (i := 1) (oi := ⟨some 16, _, _, _, _, _⟩) (v := .bool false) rfl (by kernel_rfl) (by kernel_rfl) (by kernel_rfl) (fun _ _ _ h => h) (Or.inl ⟨by rfl, ?_⟩) hHeld ?_
          · intro ww hSw
            (try dsimp only at hSw)
            go_simp
          simp only [Act.put, List.setIfInBounds_toArray, List.set_cons_zero, List.set_cons_succ]
          refine wpAnyH_take (i := 2) (oi := ⟨some 17, _, _, _, _, _⟩) (v := .bool false) rfl (by kernel_rfl) (by kernel_rfl) (by kernel_rfl) (fun _ _ _ h => h) (Or.inl ⟨by rfl, ?_⟩) hHeld ?_
          · intro ww hSw
            (try dsimp only at hSw)
            go_simp
          simp only [Act.put, List.setIfInBounds_toArray, List.set_cons_zero, List.set_cons_succ]
          refine wpAnyH_take (i := 3) (oi := ⟨some 18, _, _, _, _, _⟩) (v := undef) rfl (by kernel_rfl) (by kernel_rfl) (by kernel_rfl) (fun _ _ _ h => h) (Or.inr ⟨by rfl, rfl⟩) hHeld ?_
          simp only [Act.put, List.setIfInBounds_toArray, List.set_cons_zero, List.set_cons_succ]
          refine wpAnyH_take (i := 4) (oi := ⟨some 19, _, _, _, _, _⟩) (v := undef) rfl (by kernel_rfl) (by kernel_rfl) (by kernel_rfl) (fun _ _ _ h => h) (Or.inr ⟨by rfl, rfl⟩) hHeld ?_
          simp only [Act.put, List.setIfInBounds_toArray, List.set_cons_zero, List.set_cons_succ]
          refine wpAnyH_take (i := 5) (oi := ⟨some 20, _, _, _, _, _⟩) (v := undef) rfl (by kernel_rfl) (by kernel_rfl) (by kernel_rfl) (fun _ _ _ h => h) (Or.inr ⟨by rfl, rfl⟩) hHeld ?_
          simp only [Act.put, List.setIfInBounds_toArray, List.set_cons_zero, List.set_cons_succ]
          refine wpAnyH_take (i := 6) (oi := ⟨some 21, _, _, _, _, _⟩) (v := undef) rfl (by kernel_rfl) (by kernel_rfl) (by kernel_rfl) (fun _ _ _ h => h) (Or.inr ⟨by rfl, rfl⟩) hHeld ?_
          simp only [Act.put, List.setIfInBounds_toArray, List.set_cons_zero, List.set_cons_succ]
          refine wpAnyH_take (i := 7) (oi := ⟨some 22, _, _, _, _, _⟩) (v := undef) rfl (by kernel_rfl) (by kernel_rfl) (by kernel_rfl) (fun _ _ _ h => h) (Or.inr ⟨by rfl, rfl⟩) hHeld ?_
          simp only [Act.put, List.setIfInBounds_toArray, List.set_cons_zero, List.set_cons_succ]
          refine wpAnyH_take (i := 8) (oi := ⟨some 23, _, _, _, _, _⟩) (v := undef) rfl (by kernel_rfl) (by kernel_rfl) (by kernel_rfl) (fun _ _ _ h => h) (Or.inr ⟨by rfl, rfl⟩) hHeld ?_
          simp only [Act.put, List.setIfInBounds_toArray, List.set_cons_zero, List.set_cons_succ]
          refine wpAnyH_take (i := 9) (oi := ⟨some 24, _, _, _, _, _⟩) (v := undef) rfl (by kernel_rfl) (by kernel_rfl) (by kernel_rfl) (fun _ _ _ h => h) (Or.inr ⟨by rfl, rfl⟩) hHeld ?_
          simp only [Act.put, List.setIfInBounds_toArray, List.set_cons_zero, List.set_cons_succ]
          refine wpAnyH_take (i := 10) (oi := ⟨some 25, _, _, _, _, _⟩) (v := undef) rfl (by kernel_rfl) (by kernel_rfl) (by kernel_rfl) (fun _ _ _ h => h) (Or.inr ⟨by rfl, rfl⟩) hHeld ?_
          simp only [Act.put, List.setIfInBounds_toArray, List.set_cons_zero, List.set_cons_succ]
          refine wpAnyH_take (i := 11) (oi := ⟨some 26, _, _, _, _, _⟩) (v := undef) rfl (by kernel_rfl) (by kernel_rfl) (by kernel_rfl) (fun _ _ _ h => h) (Or.inr ⟨by rfl, rfl⟩) hHeld ?_
          simp only [Act.put, List.setIfInBounds_toArray, List.set_cons_zero, List.set_cons_succ]
          refine wpAnyH_take (i := 12) (oi := ⟨some 27, _, _, _, _, _⟩) (v := undef) rfl (by kernel_rfl) (by kernel_rfl) (by kernel_rfl) (fun _ _ _ h => h) (Or.inr ⟨by rfl, rfl⟩) hHeld ?_
          simp only [Act.put, List.setIfInBounds_toArray, List.set_cons_zero, List.set_cons_succ]
          refine wpAnyH_take (i := 13) (oi := ⟨some 28, _, _, _, _, _⟩) (v := .bool false) rfl (by kernel_rfl) (by kernel_rfl) (by kernel_rfl) (fun _ _ _ h => h) (Or.inl ⟨by rfl, ?_⟩) hHeld ?_
          · intro ww hSw
            (try dsimp only at hSw)
            go_simp
          simp only [Act.put, List.setIfInBounds_toArray, List.set_cons_zero, List.set_cons_succ]
          refine wpAnyH_done (by kernel_rfl) ?_ _
          refine NoPanic.normal ?_
          obtain ⟨wq, hwq⟩ : ∃ wq, wr.drew = wq := ⟨_, rfl⟩
          replace HW2 := Lib.hid (bel_on HW2.out (show Below wr.heap.size wr wq by rw [← hwq]; exact below_drew (Below.refl _ _)))
          rw [hwq]
          clear hwq HL2 HD2 hk0 hk0'
          have HL7 := Lib.hid (HL.out.below HW2.out)
          have HD7 := Lib.hid (HD.out.below HW2.out)
          obtain ⟨A8, hc8, hs8⟩ := evcut_from HD7.out hcD k (by omega)
          have HC8 := Lib.hid hc8
          have HS8 := Lib.hid hs8
          clear hc8 hs8
          obtain ⟨A6, c6, w6, hr6, row6, bel6, keep6⟩ := erow_append (erow_empty wq) (HS8.out.below (bel_alloc (Below.refl _ _) (.cells #[] 33))) (show 0 + (i - k) ≤ 100000 by omega) (by simp) (k := i - k) (by omega)
          rw [List.nil_append] at row6
          have HR6 : Hid ((Builtin.append_ #[31, 31] 31 #[.slice (some ⟨wq.heap.size, 0, none⟩) 0 0, .slice A8 (i - k) (cD - k)]).run Try.prog (wq.alloc (.cells #[] 33)) = .ok (.slice A6 (i - k) c6) w6) := hr6
          have b6 := bel6 wq (Nat.le_refl _) (bel_alloc (Below.refl _ _) _)
          have HS6 := Lib.hid (row6.evs (n := i - k) (by rw [List.length_drop]; omega))
          have HB6 := Lib.hid (bel_on HW2.out b6)
          have H6x : Hid (∀ ww, Below w6.heap.size w6 ww → Evs ww A6 (i - k) c6 (D.drop k)) := Lib.hid (fun ww h => HS6.out.below h)
          clear hr6 row6 bel6 keep6 b6 HW2 HL7 HD7
          go_wp2_with (first | (at_builtin; refine wpList_append_run (o := ⟨some 35, _, _, _, _, _⟩) HR6.out rfl rfl rfl rfl ?_) | refine wpList_slice_run HC8.out rfl rfl rfl rfl rfl rfl ?_)
          clear HR6 HC8 HS8
          have HL3 := Lib.hid (HL.out.below HB6.out)
          have HD3 := Lib.hid (HD.out.below HB6.out)
          have HW3 := Lib.hid (bel_on HW.out HB6.out)
          obtain ⟨A39, hc39, hs39⟩ := evcut_to HD3.out hcD k (by omega)
          have HC39 := Lib.hid hc39
          have HS39 := Lib.hid hs39
          clear hc39 hs39 HD3 HB6 HS6
          refine wp_region_noPanic ?_
          refine wp_region_held_drew (S := fun w' => Below w6.heap.size w6 w') (by kernel_rfl) (below_drew (Below.refl _ _)) (fun hHeld => ?_)
          refine wpAnyH_take (i := 1) (oi := ⟨some 37, _, _, _, _, _⟩) (v := ?_) rfl (by kernel_rfl) (by kernel_rfl) (by kernel_rfl) (fun _ _ _ h => h) (Or.inl ⟨by rfl, ?_⟩) hHeld ?_
          rotate_left
          · intro ww hSw
            (try dsimp only at hSw)
            go_simp
            (try with_reducible rfl)
          simp only [Act.put, List.setIfInBounds_toArray, List.set_cons_zero, List.set_cons_succ]
          refine wpAnyH_take (i := 2) (oi := ⟨some 38, _, _, _, _, _⟩) (v := ?_) rfl (by kernel_rfl) (by kernel_rfl) (by kernel_rfl) (fun _ _ _ h => h) (Or.inl ⟨by rfl, ?_⟩) hHeld ?_
          rotate_left
          · intro ww hSw
            (try dsimp only at hSw)
            go_simp
            (try with_reducible rfl)
          simp only [Act.put, List.setIfInBounds_toArray, List.set_cons_zero, List.set_cons_succ]
          refine wpAnyH_take (i := 3) (oi := ⟨some 39, _, _, _, _, _⟩) (v := .slice A39 k cD) rfl (by kernel_rfl) (by kernel_rfl) (by kernel_rfl) (fun _ _ _ h => h) (Or.inl ⟨by rfl, ?_⟩) hHeld ?_
          · intro ww hSw
            (try dsimp only at hSw)
            exact exec_slice_run HC39.out rfl rfl rfl rfl rfl
          simp only [Act.put, List.setIfInBounds_toArray, List.set_cons_zero, List.set_cons_succ]
          refine wpAnyH_take (i := 5) (oi := ⟨some 41, _, _, _, _, _⟩) (v := ?_) rfl (by kernel_rfl) (by kernel_rfl) (by kernel_rfl) (fun _ _ _ h => h) (Or.inl ⟨by rfl, ?_⟩) hHeld ?_
          rotate_left
          · intro ww hSw
            (try dsimp only at hSw)
            go_simp
            (try with_reducible rfl)
          simp only [Act.put, List.setIfInBounds_toArray, List.set_cons_zero, List.set_cons_succ]
          refine wpAnyH_take (i := 6) (oi := ⟨some 42, _, _, _, _, _⟩) (v := ?_) rfl (by kernel_rfl) (by kernel_rfl) (by kernel_rfl) (fun _ _ _ h => h) (Or.inl ⟨by rfl, ?_⟩) hHeld ?_
          rotate_left
          · intro ww hSw
            (try dsimp only at hSw)
            go_simp
            (try with_reducible rfl)
          simp only [Act.put, List.setIfInBounds_toArray, List.set_cons_zero, List.set_cons_succ]
          refine wpAnyH_take (i := 7) (oi := ⟨some 43, _, _, _, _, _⟩) (v := .pointer (some ⟨ba, oa + i * 11, none⟩)) rfl (by kernel_rfl) (by kernel_rfl) (by kernel_rfl) (fun _ _ _ h => h) (Or.inl ⟨by rfl, ?_⟩) hHeld ?_
          · intro ww hSw
            (try dsimp only at hSw)
            go_simp
          simp only [Act.put, List.setIfInBounds_toArray, List.set_cons_zero, List.set_cons_succ]
          refine wpAnyH_take (i := 8) (oi := ⟨some 44, _, _, _, _, _⟩) (v := .agg (evC x)) rfl (by kernel_rfl) (by kernel_rfl) (by kernel_rfl) (fun _ _ _ h => h) (Or.inl ⟨by rfl, ?_⟩) hHeld ?_
          · intro ww hSw
            (try dsimp only at hSw)
            rw [← hx]
            exact exec_load_at _ rfl rfl (evs_load (HL3.out.below hSw) (by omega))
          simp only [Act.put, List.setIfInBounds_toArray, List.set_cons_zero, List.set_cons_succ]
          refine wpAnyH_take (i := 11) (oi := ⟨some 47, _, _, _, _, _⟩) (v := ?_) rfl (by kernel_rfl) (by kernel_rfl) (by kernel_rfl) (fun _ _ _ h => h) (Or.inl ⟨by rfl, ?_⟩) hHeld ?_
          rotate_left
          · intro ww hSw
            (try dsimp only at hSw)
            go_simp
            (try with_reducible rfl)
          simp only [Act.put, List.setIfInBounds_toArray, List.set_cons_zero, List.set_cons_succ]
          obtain ⟨wd, hwd⟩ : ∃ wd, w6.drew = wd := ⟨_, rfl⟩
          have B3d : Hid (Below w6.heap.size w6 wd) := by rw [← hwd]; exact below_drew (Below.refl _ _)
          have H39d : Hid (Evs wd A39 k cD (D.take k)) := by rw [← hwd]; exact HS39.out
          have HSZ : Hid (wd.heap.size = w6.heap.size) := Lib.hid (by rw [← hwd]; rfl)
          rw [hwd]
          clear hwd
          refine wpAnyH_ready (rs := [0, 9]) (by kernel_rfl) (by simp) ?_
          refine AllReadyH.cons (o := ⟨some 36, _, _, _, _, _⟩) rfl (fun K hK => ?_) (AllReadyH.cons (o := ⟨some 45, _, _, _, _, _⟩) rfl (fun K hK => ?_) AllReadyH.nil)
          · skip
            go_simp
            refine hK.out _ _ ?_ (fun hHeld => ?_)
            · (try dsimp only)
              exact bel_alloc B3d.out _
            clear hK K
            (try simp only [Act.put, List.setIfInBounds_toArray, List.set_cons_zero, List.set_cons_succ])
            have R36 := Lib.hid (erow_empty wd)
            have B36 := Lib.hid (bel_alloc B3d.out (.cells #[] 33))
            have H36 := Lib.hid (H39d.out.below (bel_alloc (Below.refl _ _) (.cells #[] 33)))
            refine wpAnyH_ready (rs := [4, 9]) (by kernel_rfl) (by simp) ?_
            refine AllReadyH.cons (o := ⟨some 40, _, _, _, _, _⟩) rfl (fun K hK => ?_) (AllReadyH.cons (o := ⟨some 45, _, _, _, _, _⟩) rfl (fun K hK => ?_) AllReadyH.nil)
            · skip
              obtain ⟨A40, c40, w40, hr40, row40, bel40, keep40⟩ := erow_append (erow_mono R36.out (Nat.le_of_eq HSZ.out.symm)) H36.out (show 0 + k ≤ 100000 by omega) B36.out.size (k := k) (by omega)
              have HR40 : Hid ((Builtin.append_ #[31, 31] 31 #[.slice (some ⟨wd.heap.size, 0, none⟩) 0 0, .slice A39 k cD]).run Try.prog (wd.alloc (.cells #[] 33)) = .ok (.slice A40 k c40) w40) := hr40
              have b40 := bel40 w6 (Nat.le_refl _) B36.out
              rw [List.nil_append] at row40
              have B40 := Lib.hid b40
              rw [if_pos (by rfl)]
              refine wp_append_run8 HR40.out rfl rfl rfl ?_
              refine hK.out _ _ ?_ (fun hHeld => ?_)
              · (try dsimp only)
                exact B40.out
              clear hK K
              (try simp only [Act.put, List.setIfInBounds_toArray, List.set_cons_zero, List.set_cons_succ])
              refine wpAnyH_ready (rs := [9]) (by kernel_rfl) (by simp) ?_
              refine AllReadyH.cons (o := ⟨some 45, _, _, _, _, _⟩) rfl (fun K hK => ?_) AllReadyH.nil
              rw [if_pos (by rfl)]
              refine wp_build_e x rfl rfl ?_
              refine hK.out _ _ ?_ (fun hHeld => ?_)
              · (try dsimp only)
                exact bel_alloc B40.out _
              clear hK K
              (try simp only [Act.put, List.setIfInBounds_toArray, List.set_cons_zero, List.set_cons_succ])
              have R40 := Lib.hid (row40.alloc (.cells (evC x) 33))
              have X45 := Lib.hid (evs_one w40 x)
              have B0 := Lib.hid (bel_alloc B40.out (.cells (evC x) 33))
              obtain ⟨g45, hg45⟩ : ∃ g, w40.heap.size = g := ⟨_, rfl⟩
              rw [hg45] at X45
              rw [hg45]
              obtain ⟨wz, hwz⟩ : ∃ wz, w40.alloc (.cells (evC x) 33) = wz := ⟨_, rfl⟩
              rw [hwz] at R40 X45 B0
              rw [hwz]
              clear hwz hg45 HR40 hr40 row40 bel40 keep40 b40 B40 R36 B36 H36 B3d H39d HSZ
              obtain ⟨A46, c46, w46, hr46, row46, bel46, keep46⟩ := erow_append R40.out X45.out (show k + 1 ≤ 100000 by omega) B0.out.size (k := k + 1) rfl
              have HR46 : Hid ((Builtin.append_ #[31, 31] 31 #[.slice A40 k c40, .slice (some ⟨g45, 0, none⟩) 1 1]).run Try.prog wz = .ok (.slice A46 (k + 1) c46) w46) := hr46
              have b46 := bel46 w6 (Nat.le_refl _) B0.out
              have L6 := H6x.out w46 b46
              obtain ⟨A48, c48, w48, hr48, row48, bel48, keep48⟩ := erow_append row46 L6 (show k + 1 + (i - k) ≤ 100000 by omega) b46.size (k := i + 1) (by omega)
              have HR48 : Hid ((Builtin.append_ #[31, 31] 31 #[.slice A46 (k + 1) c46, .slice A6 (i - k) c6]).run Try.prog w46 = .ok (.slice A48 (i + 1) c48) w48) := hr48
              have b48 := bel48 w6 (Nat.le_refl _) b46
              have E48 := Lib.hid (row48.evs (n := i + 1) (by rw [List.length_append, List.length_append, List.length_take, List.length_drop]; simp; omega))
              have hc48 := (erow_caps row48).1
              have B46 := Lib.hid b46
              have B48 := Lib.hid b48
              clear hr46 hr48 bel46 bel48 keep46 keep48 row46 row48 b46 b48 L6 R40 X45 B0
              refine wpAnyH_ready (rs := [10]) (by kernel_rfl) (by simp) ?_
              refine AllReadyH.cons (o := ⟨some 46, _, _, _, _, _⟩) rfl (fun K hK => ?_) AllReadyH.nil
              rw [if_pos (by rfl)]
              refine wp_append_run8 HR46.out rfl rfl rfl ?_
              refine hK.out _ _ ?_ (fun hHeld => ?_)
              · (try dsimp only)
                exact B46.out
              clear hK K
              (try simp only [Act.put, List.setIfInBounds_toArray, List.set_cons_zero, List.set_cons_succ])
              refine wpAnyH_ready (rs := [12]) (by kernel_rfl) (by simp) ?_
              refine AllReadyH.cons (o := ⟨some 48, _, _, _, _, _⟩) rfl (fun K hK => ?_) AllReadyH.nil
              rw [if_pos (by rfl)]
              refine wp_append_run8 HR48.out rfl rfl rfl ?_
              refine hK.out _ _ ?_ (fun hHeld => ?_)
              · (try dsimp only)
                exact B48.out
              clear hK K
              (try simp only [Act.put, List.setIfInBounds_toArray, List.set_cons_zero, List.set_cons_succ])
              refine wpAnyH_take (i := 13) (oi := ⟨some 3, _, _, _, _, _⟩) (v := ?_) rfl (by kernel_rfl) (by kernel_rfl) (by kernel_rfl) (fun _ _ _ h => h) (Or.inl ⟨by rfl, ?_⟩) hHeld ?_
              rotate_left
              · intro ww hSw
                (try dsimp only at hSw)
                go_simp
                (try with_reducible rfl)
              simp only [Act.put, List.setIfInBounds_toArray, List.set_cons_zero, List.set_cons_succ]
              refine wpAnyH_done (by kernel_rfl) ?_ _
              refine NoPanic.normal ?_
              clear HR46 HR48
              go_wp2
              go_roundg (n - (i + 1))
              case measure => omega
              case rel => exact ⟨i + 1, A48, c48, rfl, by simp, by omega, hc48, Lib.hid (by rw [take_snoc_e (by omega), sortE_snoc, HDD.out, hx, HINS.out, List.append_cons]; exact E48.out), Lib.hid (bel_on HW3.out B48.out)⟩
            · skip
              rw [if_pos (by rfl)]
              refine wp_build_e x rfl rfl ?_
              refine hK.out _ _ ?_ (fun hHeld => ?_)
              · (try dsimp only)
                exact bel_alloc B36.out _
              clear hK K
              (try simp only [Act.put, List.setIfInBounds_toArray, List.set_cons_zero, List.set_cons_succ])
              have R36b := Lib.hid ((erow_mono R36.out (Nat.le_of_eq HSZ.out.symm)).alloc (.cells (evC x) 33))
              have X45a := Lib.hid (evs_one (wd.alloc (.cells #[] 33)) x)
              have B45 := Lib.hid (bel_alloc B36.out (.cells (evC x) 33))
              have H39b := Lib.hid (H36.out.below (bel_alloc (Below.refl _ _) (.cells (evC x) 33)))
              have hs45 : (wd.alloc (.cells #[] 33)).heap.size = wd.heap.size + 1 := by simp
              rw [hs45] at X45a
              (try rw [hs45])
              have hne : ¬ wd.heap.size + 1 = wd.heap.size := by omega
              have hlt45 : wd.heap.size + 1 < ((wd.alloc (.cells #[] 33)).alloc (.cells (evC x) 33)).heap.size := by simp
              generalize hg45 : wd.heap.size + 1 = g45 at *
              generalize hg36 : wd.heap.size = g36 at *
              generalize hwy : (wd.alloc (.cells #[] 33)).alloc (.cells (evC x) 33) = wy at *
              obtain ⟨A40, c40, w40, hr40, row40, bel40, keep40⟩ := erow_append R36b.out H39b.out (show 0 + k ≤ 100000 by omega) B45.out.size (k := k) (by omega)
              have HR40 : Hid ((Builtin.append_ #[31, 31] 31 #[.slice (some ⟨g36, 0, none⟩) 0 0, .slice A39 k cD]).run Try.prog wy = .ok (.slice A40 k c40) w40) := hr40
              have b40 := bel40 w6 (Nat.le_refl _) B45.out
              rw [List.nil_append] at row40
              have B0 := Lib.hid b40
              have R40 := Lib.hid row40
              have X45 := Lib.hid (X45a.out.keep (w' := w40) (fun g hg => keep40 _ (by injection hg with hg; subst hg; exact hlt45) (fun g' hg' => by injection hg' with hg'; injection hg with hg; subst hg' hg; exact hne)))
              clear hr40 row40 bel40 keep40 b40 R36b X45a B45 H39b hne hlt45 hg45 hg36 hwy R36 B36 H36 B3d H39d HSZ hs45
              refine wpAnyH_ready (rs := [4]) (by kernel_rfl) (by simp) ?_
              refine AllReadyH.cons (o := ⟨some 40, _, _, _, _, _⟩) rfl (fun K hK => ?_) AllReadyH.nil
              rw [if_pos (by rfl)]
              refine wp_append_run8 HR40.out rfl rfl rfl ?_
              refine hK.out _ _ ?_ (fun hHeld => ?_)
              · (try dsimp only)
                exact B0.out
              clear hK K
              (try simp only [Act.put, List.setIfInBounds_toArray, List.set_cons_zero, List.set_cons_succ])
              clear HR40
              obtain ⟨A46, c46, w46, hr46, row46, bel46, keep46⟩ := erow_append R40.out X45.out (show k + 1 ≤ 100000 by omega) B0.out.size (k := k + 1) rfl
              have HR46 : Hid ((Builtin.append_ #[31, 31] 31 #[.slice A40 k c40, .slice (some ⟨g45, 0, none⟩) 1 1]).run Try.prog w40 = .ok (.slice A46 (k + 1) c46) w46) := hr46
              have b46 := bel46 w6 (Nat.le_refl _) B0.out
              have L6 := H6x.out w46 b46
              obtain ⟨A48, c48, w48, hr48, row48, bel48, keep48⟩ := erow_append row46 L6 (show k + 1 + (i - k) ≤ 100000 by omega) b46.size (k := i + 1) (by omega)
              have HR48 : Hid ((Builtin.append_ #[31, 31] 31 #[.slice A46 (k + 1) c46, .slice A6 (i - k) c6]).run Try.prog w46 = .ok (.slice A48 (i + 1) c48) w48) := hr48
              have b48 := bel48 w6 (Nat.le_refl _) b46
              have E48 := Lib.hid (row48.evs (n := i + 1) (by rw [List.length_append, List.length_append, List.length_take, List.length_drop]; simp; omega))
              have hc48 := (erow_caps row48).1
              have B46 := Lib.hid b46
              have B48 := Lib.hid b48
              clear hr46 hr48 bel46 bel48 keep46 keep48 row46 row48 b46 b48 L6 R40 X45 B0
              refine wpAnyH_ready (rs := [10]) (by kernel_rfl) (by simp) ?_
              refine AllReadyH.cons (o := ⟨some 46, _, _, _, _, _⟩) rfl (fun K hK => ?_) AllReadyH.nil
              rw [if_pos (by rfl)]
              refine wp_append_run8 HR46.out rfl rfl rfl ?_
              refine hK.out _ _ ?_ (fun hHeld => ?_)
              · (try dsimp only)
                exact B46.out
              clear hK K
              (try simp only [Act.put, List.setIfInBounds_toArray, List.set_cons_zero, List.set_cons_succ])
              refine wpAnyH_ready (rs := [12]) (by kernel_rfl) (by simp) ?_
              refine AllReadyH.cons (o := ⟨some 48, _, _, _, _, _⟩) rfl (fun K hK => ?_) AllReadyH.nil
              rw [if_pos (by rfl)]
              refine wp_append_run8 HR48.out rfl rfl rfl ?_
              refine hK.out _ _ ?_ (fun hHeld => ?_)
              · (try dsimp only)
                exact B48.out
              clear hK K
              (try simp only [Act.put, List.setIfInBounds_toArray, List.set_cons_zero, List.set_cons_succ])
              refine wpAnyH_take (i := 13) (oi := ⟨some 3, _, _, _, _, _⟩) (v := ?_) rfl (by kernel_rfl) (by kernel_rfl) (by kernel_rfl) (fun _ _ _ h => h) (Or.inl ⟨by rfl, ?_⟩) hHeld ?_
              rotate_left
              · intro ww hSw
                (try dsimp only at hSw)
                go_simp
                (try with_reducible rfl)
              simp only [Act.put, List.setIfInBounds_toArray, List.set_cons_zero, List.set_cons_succ]
              refine wpAnyH_done (by kernel_rfl) ?_ _
              refine NoPanic.normal ?_
              clear HR46 HR48
              go_wp2
              go_roundg (n - (i + 1))
              case measure => omega
              case rel => exact ⟨i + 1, A48, c48, rfl, by simp, by omega, hc48, Lib.hid (by rw [take_snoc_e (by omega), sortE_snoc, HDD.out, hx, HINS.out, List.append_cons]; exact E48.out), Lib.hid (bel_on HW3.out B48.out)⟩
          · skip
            rw [if_pos (by rfl)]
            refine wp_build_e x rfl rfl ?_
            refine hK.out _ _ ?_ (fun hHeld => ?_)
            · (try dsimp only)
              exact bel_alloc B3d.out _
            clear hK K
            (try simp only [Act.put, List.setIfInBounds_toArray, List.set_cons_zero, List.set_cons_succ])
            refine wpAnyH_ready (rs := [0]) (by kernel_rfl) (by simp) ?_
            refine AllReadyH.cons (o := ⟨some 36, _, _, _, _, _⟩) rfl (fun K hK => ?_) AllReadyH.nil
            go_simp
            refine hK.out _ _ ?_ (fun hHeld => ?_)
            · (try dsimp only)
              exact bel_alloc (bel_alloc B3d.out _) _
            clear hK K
            (try simp only [Act.put, List.setIfInBounds_toArray, List.set_cons_zero, List.set_cons_succ])
            have R36b := Lib.hid (erow_mono (erow_empty (wd.alloc (.cells (evC x) 33))) (by have := HSZ.out; simp; omega : w6.heap.size ≤ _))
            have X45a := Lib.hid ((evs_one wd x).below (bel_alloc (Below.refl _ _) (.cells #[] 33)))
            have B45 := Lib.hid (bel_alloc (bel_alloc B3d.out (.cells (evC x) 33)) (.cells #[] 33))
            have H39b := Lib.hid (H39d.out.below (bel_alloc (bel_alloc (Below.refl _ _) (.cells (evC x) 33)) (.cells #[] 33)))
            have hs45 : (wd.alloc (.cells (evC x) 33)).heap.size = wd.heap.size + 1 := by simp
            rw [hs45] at R36b
            (try rw [hs45])
            have hne : ¬ wd.heap.size = wd.heap.size + 1 := by omega
            have hlt45 : wd.heap.size < ((wd.alloc (.cells (evC x) 33)).alloc (.cells #[] 33)).heap.size := by simp; omega
            generalize hg36 : wd.heap.size + 1 = g36 at *
            generalize hg45 : wd.heap.size = g45 at *
            generalize hwy : (wd.alloc (.cells (evC x) 33)).alloc (.cells #[] 33) = wy at *
            obtain ⟨A40, c40, w40, hr40, row40, bel40, keep40⟩ := erow_append R36b.out H39b.out (show 0 + k ≤ 100000 by omega) B45.out.size (k := k) (by omega)
            have HR40 : Hid ((Builtin.append_ #[31, 31] 31 #[.slice (some ⟨g36, 0, none⟩) 0 0, .slice A39 k cD]).run Try.prog wy = .ok (.slice A40 k c40) w40) := hr40
            have b40 := bel40 w6 (Nat.le_refl _) B45.out
            rw [List.nil_append] at row40
            have B0 := Lib.hid b40
            have R40 := Lib.hid row40
            have X45 := Lib.hid (X45a.out.keep (w' := w40) (fun g hg => keep40 _ (by injection hg with hg; subst hg; exact hlt45) (fun g' hg' => by injection hg' with hg'; injection hg with hg; subst hg' hg; exact hne)))
            clear hr40 row40 bel40 keep40 b40 R36b X45a B45 H39b hne hlt45 hg45 hg36 hwy B3d H39d HSZ hs45
            refine wpAnyH_ready (rs := [4]) (by kernel_rfl) (by simp) ?_
            refine AllReadyH.cons (o := ⟨some 40, _, _, _, _, _⟩) rfl (fun K hK => ?_) AllReadyH.nil
            rw [if_pos (by rfl)]
            refine wp_append_run8 HR40.out rfl rfl rfl ?_
            refine hK.out _ _ ?_ (fun hHeld => ?_)
            · (try dsimp only)
              exact B0.out
            clear hK K
            (try simp only [Act.put, List.setIfInBounds_toArray, List.set_cons_zero, List.set_cons_succ])
            clear HR40
            obtain ⟨A46, c46, w46, hr46, row46, bel46, keep46⟩ := erow_append R40.out X45.out (show k + 1 ≤ 100000 by omega) B0.out.size (k := k + 1) rfl
            have HR46 : Hid ((Builtin.append_ #[31, 31] 31 #[.slice A40 k c40, .slice (some ⟨g45, 0, none⟩) 1 1]).run Try.prog w40 = .ok (.slice A46 (k + 1) c46) w46) := hr46
            have b46 := bel46 w6 (Nat.le_refl _) B0.out
            have L6 := H6x.out w46 b46
            obtain ⟨A48, c48, w48, hr48, row48, bel48, keep48⟩ := erow_append row46 L6 (show k + 1 + (i - k) ≤ 100000 by omega) b46.size (k := i + 1) (by omega)
            have HR48 : Hid ((Builtin.append_ #[31, 31] 31 #[.slice A46 (k + 1) c46, .slice A6 (i - k) c6]).run Try.prog w46 = .ok (.slice A48 (i + 1) c48) w48) := hr48
            have b48 := bel48 w6 (Nat.le_refl _) b46
            have E48 := Lib.hid (row48.evs (n := i + 1) (by rw [List.length_append, List.length_append, List.length_take, List.length_drop]; simp; omega))
            have hc48 := (erow_caps row48).1
            have B46 := Lib.hid b46
            have B48 := Lib.hid b48
            clear hr46 hr48 bel46 bel48 keep46 keep48 row46 row48 b46 b48 L6 R40 X45 B0
            refine wpAnyH_ready (rs := [10]) (by kernel_rfl) (by simp) ?_
            refine AllReadyH.cons (o := ⟨some 46, _, _, _, _, _⟩) rfl (fun K hK => ?_) AllReadyH.nil
            rw [if_pos (by rfl)]
            refine wp_append_run8 HR46.out rfl rfl rfl ?_
            refine hK.out _ _ ?_ (fun hHeld => ?_)
            · (try dsimp only)
              exact B46.out
            clear hK K
            (try simp only [Act.put, List.setIfInBounds_toArray, List.set_cons_zero, List.set_cons_succ])
            refine wpAnyH_ready (rs := [12]) (by kernel_rfl) (by simp) ?_
            refine AllReadyH.cons (o := ⟨some 48, _, _, _, _, _⟩) rfl (fun K hK => ?_) AllReadyH.nil
            rw [if_pos (by rfl)]
            refine wp_append_run8 HR48.out rfl rfl rfl ?_
            refine hK.out _ _ ?_ (fun hHeld => ?_)
            · (try dsimp only)
              exact B48.out
            clear hK K
            (try simp only [Act.put, List.setIfInBounds_toArray, List.set_cons_zero, List.set_cons_succ])
            refine wpAnyH_take (i := 13) (oi := ⟨some 3, _, _, _, _, _⟩) (v := ?_) rfl (by kernel_rfl) (by kernel_rfl) (by kernel_rfl) (fun _ _ _ h => h) (Or.inl ⟨by rfl, ?_⟩) hHeld ?_
            rotate_left
            · intro ww hSw
              (try dsimp only at hSw)
              go_simp
              (try with_reducible rfl)
            simp only [Act.put, List.setIfInBounds_toArray, List.set_cons_zero, List.set_cons_succ]
            refine wpAnyH_done (by kernel_rfl) ?_ _
            refine NoPanic.normal ?_
            clear HR46 HR48
            go_wp2
            go_roundg (n - (i + 1))
            case measure => omega
            case rel => exact ⟨i + 1, A48, c48, rfl, by simp, by omega, hc48, Lib.hid (by rw [take_snoc_e (by omega), sortE_snoc, HDD.out, hx, HINS.out, List.append_cons]; exact E48.out), Lib.hid (bel_on HW3.out B48.out)⟩
    · have hlt2 : ¬ (i : Int) < (n : Int) := by omega
      obtain rfl : i = n := by omega
      have e : l.take i = l := List.take_of_length_le (by omega)
      rw [e] at HD
      clear e
      go_wp2
      go_ret
      exact ⟨DA, cD, rfl, HW.out, HD.out⟩
end Go.Proofs.Ytedkhjbnjkcemaa
