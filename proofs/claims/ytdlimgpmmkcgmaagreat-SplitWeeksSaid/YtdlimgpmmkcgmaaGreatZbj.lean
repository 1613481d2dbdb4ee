/-
  The document's own answer of layer 17: the spans of a category put in.
-/
import Derived.Test.YtdlimgpmmkcgmaaGreatZbi
import Derived.Test.YtdlimgpmmkcgmaaGreatZaf
namespace Go.Proofs.YtdlimgpmmkcgmaaGreat
open Go.RowKit
set_option linter.unusedVariables false
set_option linter.unusedSimpArgs false
set_option maxRecDepth 20000

theorem spans_at {w : World} {b off : Nat} {xs : List (Int × Int)} (h : Spans w (some ⟨b, off, none⟩) xs) {i : Nat} (hi : i < xs.length) (x : Int × Int) (hx : xs.getD i (0, 0) = x) :
    w.cell? ⟨b, off + i * 2, none⟩ = some (.int .i64 x.1) ∧ w.cell? ⟨b, off + i * 2 + 1, none⟩ = some (.int .i64 x.2) := by
  obtain ⟨b', off', e, _, h1, h2⟩ := h.2 i hi
  injection e with e
  injection e with e1 e2
  subst e1 e2
  rw [hx] at h1 h2
  exact ⟨h1, h2⟩
theorem addP_take {out : List PartP} {l : List (Int × Int)} {i : Nat} (c : Int) (h : i < l.length) : addP out (l.take (i + 1)) c = insP ((l.getD i (0, 0)).1, (l.getD i (0, 0)).2, c) (addP out (l.take i) c) := by
  rw [List.take_succ_eq_append_getElem h, addP_snoc]
  simp [List.getD, h]
set_option maxHeartbeats 16000000 in
theorem radd_c (A : Option Addr) (n c : Nat) (out : List PartP) (B : Option Addr) (m d : Nat) (ls : List (Int × Int)) (cat : Int) (W : World) (ha : Prts W A n c out) (hnc : n ≤ c) (hc : c ≤ 9223372036854775807) (hb : Spans W B ls) (hls : ls.length = m) (hm : n + m ≤ 999999999) :
    Calls Tryz.prog 36 #[.slice A n c, .slice B m d, .int .i64 cat] W fun e w' => ∃ A' c', e = .returned (.slice A' (n + m) c') ∧ Below W.heap.size W w' ∧ Prts w' A' (n + m) c' (addP out ls cat) ∧ n + m ≤ c' ∧ c' ≤ 9223372036854775807 := by
  have hol := ha.2
  have HA := Lib.hid ha
  have HB := Lib.hid hb
  clear ha hb
  go_enter Tryz.func36, Tryz.ntmps36
  go_wp2
  go_loopg [0, 7, 8, 9] m (fun kx s0 s7 s8 s9 wr => ∃ (i q : Nat) (D : Option Addr) (cD : Nat), s0 = .slice D q cD ∧ s7 = .int .i64 i ∧ i + kx = m ∧ q = n + i ∧ q ≤ cD ∧ cD ≤ 9223372036854775807 ∧ Hid (Prts wr D q cD (addP out (ls.take i) cat)) ∧ Hid (Below W.heap.size W wr))
  case atStart => exact ⟨0, n, A, c, rfl, rfl, by omega, by omega, hnc, hc, Lib.hid (by rw [List.take_zero]; exact HA.out), Lib.hid (Below.refl _ _)⟩
  case round =>
    obtain ⟨i, q, DA, cD, rfl, rfl, hi, hqi, hcD, hcm, HD, HW⟩ := hrel
    by_cases hlt : i < m
    · have hlt2 : (i : Int) < (m : Int) := by omega
      have hi0 : (0 : Int) ≤ (i : Int) := by omega
      have hi1 : ((i : Int)).toNat = i := by omega
      have HL := Lib.hid (HB.out.below HW.out)
      obtain ⟨bb, ob, rfl⟩ : ∃ bb ob, B = some ⟨bb, ob, none⟩ := by
        obtain ⟨b, off, e, _⟩ := HB.out.2 i (by omega)
        exact ⟨b, off, e⟩
      obtain ⟨x, hx⟩ : ∃ x, ls.getD i (0, 0) = x := ⟨_, rfl⟩
      have HX := Lib.hid hx
      have HSTEP := Lib.hid (addP_take (out := out) (l := ls) (i := i) cat (by omega))
      rw [hx] at HSTEP
      clear hx
      obtain ⟨D, hDD⟩ : ∃ D, addP out (ls.take i) cat = D := ⟨_, rfl⟩
      have hDl : D.length = q := by rw [← hDD, addP_len, List.length_take]; omega
      rw [hDD] at HD HSTEP
      have hq2 : q < 999999999 := by omega
      have hqi2 := Lib.hid hqi
      clear hDD hqi
      go_wp2
      go_loopw [8] (fun s8 w2 => ∃ k : Nat, s8 = .int .i64 k ∧ k ≤ q ∧ Hid (∀ j, j < k → (D.getD j (0, 0, 0)).1 < x.1) ∧ Hid (Below wr.heap.size wr w2)) (fun s8 _ => match s8 with | .int _ z => q - z.toNat | _ => 0)
      case atStart => exact ⟨0, rfl, Nat.zero_le _, Lib.hid (fun j h => by omega), Lib.hid (Below.refl _ _)⟩
      case round =>
        obtain ⟨k, rfl, hkq, HALL, HW2⟩ := hrel
        have HB2 := Lib.hid (HL.out.below HW2.out)
        have HD2 := Lib.hid (HD.out.below HW2.out)
        have k0 : (0 : Int) ≤ (k : Int) := by omega
        by_cases hk0 : k < q
        · have hk0' : (k : Int) < (q : Int) := by omega
          obtain ⟨bs, os, rfl⟩ := HD2.out.form (by omega)
          obtain ⟨y, hy⟩ : ∃ y, D.getD k PartP.nil = y := ⟨_, rfl⟩
          by_cases hxy : y.1 < x.1
          · skip
            go_wp2_with fail
            refine wp_region_noPanic ?_
            refine wp_region_held_drew (S := fun w' => Below wr.heap.size wr w') (by kernel_rfl) (below_drew (Below.refl _ _)) (fun hHeld => ?_)
            refine wpAnyH_take (i := 0) (oi := ⟨some 16, _, _, _, _, _⟩) (v := ?_) rfl (by kernel_rfl) (by kernel_rfl) (by kernel_rfl) (fun _ _ _ h => h) (Or.inl ⟨by rfl, ?_⟩) hHeld ?_
            rotate_left
            · intro ww hSw
              (try dsimp only at hSw)
              go_simp
              (try with_reducible rfl)
            simp only [Act.put, List.setIfInBounds_toArray, List.set_cons_zero, List.set_cons_succ]
            refine wpAnyH_take (i := 1) (oi := ⟨some 17, _, _, _, _, _⟩) (v := ?_) rfl (by kernel_rfl) (by kernel_rfl) (by kernel_rfl) (fun _ _ _ h => h) (Or.inl ⟨by rfl, ?_⟩) hHeld ?_
            rotate_left
            · intro ww hSw
              (try dsimp only at hSw)
              go_simp
              (try with_reducible rfl)
            simp only [Act.put, List.setIfInBounds_toArray, List.set_cons_zero, List.set_cons_succ]
            refine wpAnyH_take (i := 2) (oi := ⟨some 18, _, _, _, _, _⟩) (v := ?_) rfl (by kernel_rfl) (by kernel_rfl) (by kernel_rfl) (fun _ _ _ h => h) (Or.inl ⟨by rfl, ?_⟩) hHeld ?_
            rotate_left
            · intro ww hSw
              (try dsimp only at hSw)
              go_simp
              (try with_reducible rfl)
            simp only [Act.put, List.setIfInBounds_toArray, List.set_cons_zero, List.set_cons_succ]
            refine wpAnyH_take (i := 3) (oi := ⟨some 19, _, _, _, _, _⟩) (v := .bool true) rfl (by kernel_rfl) (by kernel_rfl) (by kernel_rfl) (fun _ _ _ h => h) (Or.inl ⟨by rfl, ?_⟩) hHeld ?_
            · intro ww hSw
              (try dsimp only at hSw)
              go_simp
            simp only [Act.put, List.setIfInBounds_toArray, List.set_cons_zero, List.set_cons_succ]
            refine wpAnyH_take (i := 4) (oi := ⟨some 20, _, _, _, _, _⟩) (v := .bool true) rfl (by kernel_rfl) (by kernel_rfl) (by kernel_rfl) (fun _ _ _ h => h) (Or.inl ⟨by rfl, ?_⟩) hHeld ?_
            · intro ww hSw
              (try dsimp only at hSw)
              go_simp
            simp only [Act.put, List.setIfInBounds_toArray, List.set_cons_zero, List.set_cons_succ]
            refine wpAnyH_take (i := 5) (oi := ⟨some 21, _, _, _, _, _⟩) (v := ?_) rfl (by kernel_rfl) (by kernel_rfl) (by kernel_rfl) (fun _ _ _ h => h) (Or.inl ⟨by rfl, ?_⟩) hHeld ?_
            rotate_left
            · intro ww hSw
              (try dsimp only at hSw)
              go_simp
              (try with_reducible rfl)
            simp only [Act.put, List.setIfInBounds_toArray, List.set_cons_zero, List.set_cons_succ]
            refine wpAnyH_take (i := 6) (oi := ⟨some 22, _, _, _, _, _⟩) (v := ?_) rfl (by kernel_rfl) (by kernel_rfl) (by kernel_rfl) (fun _ _ _ h => h) (Or.inl ⟨by rfl, ?_⟩) hHeld ?_
            rotate_left
            · intro ww hSw
              (try dsimp only at hSw)
              go_simp
              (try with_reducible rfl)
            simp only [Act.put, List.setIfInBounds_toArray, List.set_cons_zero, List.set_cons_succ]
            refine wpAnyH_take (i := 7) (oi := ⟨some 23, _, _, _, _, _⟩) (v := .pointer (some ⟨bs, os + k * 3, none⟩)) rfl (by kernel_rfl) (by kernel_rfl) (by kernel_rfl) (fun _ _ _ h => h) (Or.inl ⟨by rfl, ?_⟩) hHeld ?_
            · intro ww hSw
              (try dsimp only at hSw)
              go_simp
            simp only [Act.put, List.setIfInBounds_toArray, List.set_cons_zero, List.set_cons_succ]
            refine wpAnyH_take (i := 8) (oi := ⟨some 24, _, _, _, _, _⟩) (v := ?_) rfl (by kernel_rfl) (by kernel_rfl) (by kernel_rfl) (fun _ _ _ h => h) (Or.inl ⟨by rfl, ?_⟩) hHeld ?_
            rotate_left
            · intro ww hSw
              (try dsimp only at hSw)
              go_simp
              (try with_reducible rfl)
            simp only [Act.put, List.setIfInBounds_toArray, List.set_cons_zero, List.set_cons_succ]
            refine wpAnyH_take (i := 9) (oi := ⟨some 25, _, _, _, _, _⟩) (v := .int .i64 y.1) rfl (by kernel_rfl) (by kernel_rfl) (by kernel_rfl) (fun _ _ _ h => h) (Or.inl ⟨by rfl, ?_⟩) hHeld ?_
            · intro ww hSw
              (try dsimp only at hSw)
              have zc := (prts_num (HD2.out.below hSw) (by omega) y hy).1
              have zl := cell_lt zc
              go_simp
            simp only [Act.put, List.setIfInBounds_toArray, List.set_cons_zero, List.set_cons_succ]
            refine wpAnyH_take (i := 10) (oi := ⟨some 26, _, _, _, _, _⟩) (v := ?_) rfl (by kernel_rfl) (by kernel_rfl) (by kernel_rfl) (fun _ _ _ h => h) (Or.inl ⟨by rfl, ?_⟩) hHeld ?_
            rotate_left
            · intro ww hSw
              (try dsimp only at hSw)
              go_simp
              (try with_reducible rfl)
            simp only [Act.put, List.setIfInBounds_toArray, List.set_cons_zero, List.set_cons_succ]
            refine wpAnyH_take (i := 11) (oi := ⟨some 27, _, _, _, _, _⟩) (v := ?_) rfl (by kernel_rfl) (by kernel_rfl) (by kernel_rfl) (fun _ _ _ h => h) (Or.inl ⟨by rfl, ?_⟩) hHeld ?_
            rotate_left
            · intro ww hSw
              (try dsimp only at hSw)
              go_simp
              (try with_reducible rfl)
            simp only [Act.put, List.setIfInBounds_toArray, List.set_cons_zero, List.set_cons_succ]
            refine wpAnyH_take (i := 12) (oi := ⟨some 28, _, _, _, _, _⟩) (v := .pointer (some ⟨bb, ob + i * 2, none⟩)) rfl (by kernel_rfl) (by kernel_rfl) (by kernel_rfl) (fun _ _ _ h => h) (Or.inl ⟨by rfl, ?_⟩) hHeld ?_
            · intro ww hSw
              (try dsimp only at hSw)
              go_simp
            simp only [Act.put, List.setIfInBounds_toArray, List.set_cons_zero, List.set_cons_succ]
            refine wpAnyH_take (i := 13) (oi := ⟨some 29, _, _, _, _, _⟩) (v := ?_) rfl (by kernel_rfl) (by kernel_rfl) (by kernel_rfl) (fun _ _ _ h => h) (Or.inl ⟨by rfl, ?_⟩) hHeld ?_
            rotate_left
            · intro ww hSw
              (try dsimp only at hSw)
              go_simp
              (try with_reducible rfl)
            simp only [Act.put, List.setIfInBounds_toArray, List.set_cons_zero, List.set_cons_succ]
            refine wpAnyH_take (i := 14) (oi := ⟨some 30, _, _, _, _, _⟩) (v := .int .i64 x.1) rfl (by kernel_rfl) (by kernel_rfl) (by kernel_rfl) (fun _ _ _ h => h) (Or.inl ⟨by rfl, ?_⟩) hHeld ?_
            · intro ww hSw
              (try dsimp only at hSw)
              have zc := (spans_at (HB2.out.below hSw) (by omega) x HX.out).1
              have zl := cell_lt zc
              go_simp
            simp only [Act.put, List.setIfInBounds_toArray, List.set_cons_zero, List.set_cons_succ]
            refine wpAnyH_take (i := 15) (oi := ⟨some 31, _, _, _, _, _⟩) (v := .bool true) rfl (by kernel_rfl) (by kernel_rfl) (by kernel_rfl) (fun _ _ _ h => h) (Or.inl ⟨by rfl, ?_⟩) hHeld ?_
            · intro ww hSw
              (try dsimp only at hSw)
              go_simp
            simp only [Act.put, List.setIfInBounds_toArray, List.set_cons_zero, List.set_cons_succ]
            refine wpAnyH_take (i := 16) (oi := ⟨some 32, _, _, _, _, _⟩) (v := .bool true) rfl (by kernel_rfl) (by kernel_rfl) (by kernel_rfl) (fun _ _ _ h => h) (Or.inl ⟨by rfl, ?_⟩) hHeld ?_
            · intro ww hSw
              (try dsimp only at hSw)
              go_simp
            simp only [Act.put, List.setIfInBounds_toArray, List.set_cons_zero, List.set_cons_succ]
            refine wpAnyH_done (by kernel_rfl) ?_ _
            refine NoPanic.normal ?_
            go_wp2
            go_roundw
            case rel => exact ⟨k + 1, by go_num, by omega, Lib.hid (fun j h => by
              by_cases e : j = k
              · rw [e]; exact hy ▸ hxy
              · exact HALL.out j (by omega)), Lib.hid (bel_on HW2.out (below_drew (Below.refl _ _)))⟩
            case measure => simp; omega
          · have HINS : Hid (insP (x.1, x.2, cat) D = D.take k ++ ((x.1, x.2, cat) :: D.drop k)) := Lib.hid (insP_at (by omega) (fun j h => HALL.out j h) (fun _ => by show ¬ (D.getD k PartP.nil).1 < x.1; rw [hy]; exact hxy))
            go_wp2_with fail
            refine wp_region_noPanic ?_
            refine wp_region_held_drew (S := fun w' => Below wr.heap.size wr w') (by kernel_rfl) (below_drew (Below.refl _ _)) (fun hHeld => ?_)
            refine wpAnyH_take (i := 0) (oi := ⟨some 16, _, _, _, _, _⟩) (v := ?_) rfl (by kernel_rfl) (by kernel_rfl) (by kernel_rfl) (fun _ _ _ h => h) (Or.inl ⟨by rfl, ?_⟩) hHeld ?_
            rotate_left
            · intro ww hSw
              (try dsimp only at hSw)
              go_simp
              (try with_reducible rfl)
            simp only [Act.put, List.setIfInBounds_toArray, List.set_cons_zero, List.set_cons_succ]
            refine wpAnyH_take (i := 1) (oi := ⟨some 17, _, _, _, _, _⟩) (v := ?_) rfl (by kernel_rfl) (by kernel_rfl) (by kernel_rfl) (fun _ _ _ h => h) (Or.inl ⟨by rfl, ?_⟩) hHeld ?_
            rotate_left
            · intro ww hSw
              (try dsimp only at hSw)
              go_simp
              (try with_reducible rfl)
            simp only [Act.put, List.setIfInBounds_toArray, List.set_cons_zero, List.set_cons_succ]
            refine wpAnyH_take (i := 2) (oi := ⟨some 18, _, _, _, _, _⟩) (v := ?_) rfl (by kernel_rfl) (by kernel_rfl) (by kernel_rfl) (fun _ _ _ h => h) (Or.inl ⟨by rfl, ?_⟩) hHeld ?_
            rotate_left
            · intro ww hSw
              (try dsimp only at hSw)
              go_simp
              (try with_reducible rfl)
            simp only [Act.put, List.setIfInBounds_toArray, List.set_cons_zero, List.set_cons_succ]
            refine wpAnyH_take (i := 3) (oi := ⟨some 19, _, _, _, _, _⟩) (v := .bool true) rfl (by kernel_rfl) (by kernel_rfl) (by kernel_rfl) (fun _ _ _ h => h) (Or.inl ⟨by rfl, ?_⟩) hHeld ?_
            · intro ww hSw
              (try dsimp only at hSw)
              go_simp
            simp only [Act.put, List.setIfInBounds_toArray, List.set_cons_zero, List.set_cons_succ]
            refine wpAnyH_take (i := 4) (oi := ⟨some 20, _, _, _, _, _⟩) (v := .bool true) rfl (by kernel_rfl) (by kernel_rfl) (by kernel_rfl) (fun _ _ _ h => h) (Or.inl ⟨by rfl, ?_⟩) hHeld ?_
            · intro ww hSw
              (try dsimp only at hSw)
              go_simp
            simp only [Act.put, List.setIfInBounds_toArray, List.set_cons_zero, List.set_cons_succ]
            refine wpAnyH_take (i := 5) (oi := ⟨some 21, _, _, _, _, _⟩) (v := ?_) rfl (by kernel_rfl) (by kernel_rfl) (by kernel_rfl) (fun _ _ _ h => h) (Or.inl ⟨by rfl, ?_⟩) hHeld ?_
            rotate_left
            · intro ww hSw
              (try dsimp only at hSw)
              go_simp
              (try with_reducible rfl)
            simp only [Act.put, List.setIfInBounds_toArray, List.set_cons_zero, List.set_cons_succ]
            refine wpAnyH_take (i := 6) (oi := ⟨some 22, _, _, _, _, _⟩) (v := ?_) rfl (by kernel_rfl) (by kernel_rfl) (by kernel_rfl) (fun _ _ _ h => h) (Or.inl ⟨by rfl, ?_⟩) hHeld ?_
            rotate_left
            · intro ww hSw
              (try dsimp only at hSw)
              go_simp
              (try with_reducible rfl)
            simp only [Act.put, List.setIfInBounds_toArray, List.set_cons_zero, List.set_cons_succ]
            refine wpAnyH_take (i := 7) (oi := ⟨some 23, _, _, _, _, _⟩) (v := .pointer (some ⟨bs, os + k * 3, none⟩)) rfl (by kernel_rfl) (by kernel_rfl) (by kernel_rfl) (fun _ _ _ h => h) (Or.inl ⟨by rfl, ?_⟩) hHeld ?_
            · intro ww hSw
              (try dsimp only at hSw)
              go_simp
            simp only [Act.put, List.setIfInBounds_toArray, List.set_cons_zero, List.set_cons_succ]
            refine wpAnyH_take (i := 8) (oi := ⟨some 24, _, _, _, _, _⟩) (v := ?_) rfl (by kernel_rfl) (by kernel_rfl) (by kernel_rfl) (fun _ _ _ h => h) (Or.inl ⟨by rfl, ?_⟩) hHeld ?_
            rotate_left
            · intro ww hSw
              (try dsimp only at hSw)
              go_simp
              (try with_reducible rfl)
            simp only [Act.put, List.setIfInBounds_toArray, List.set_cons_zero, List.set_cons_succ]
            refine wpAnyH_take (i := 9) (oi := ⟨some 25, _, _, _, _, _⟩) (v := .int .i64 y.1) rfl (by kernel_rfl) (by kernel_rfl) (by kernel_rfl) (fun _ _ _ h => h) (Or.inl ⟨by rfl, ?_⟩) hHeld ?_
            · intro ww hSw
              (try dsimp only at hSw)
              have zc := (prts_num (HD2.out.below hSw) (by omega) y hy).1
              have zl := cell_lt zc
              go_simp
            simp only [Act.put, List.setIfInBounds_toArray, List.set_cons_zero, List.set_cons_succ]
            refine wpAnyH_take (i := 10) (oi := ⟨some 26, _, _, _, _, _⟩) (v := ?_) rfl (by kernel_rfl) (by kernel_rfl) (by kernel_rfl) (fun _ _ _ h => h) (Or.inl ⟨by rfl, ?_⟩) hHeld ?_
            rotate_left
            · intro ww hSw
              (try dsimp only at hSw)
              go_simp
              (try with_reducible rfl)
            simp only [Act.put, List.setIfInBounds_toArray, List.set_cons_zero, List.set_cons_succ]
            refine wpAnyH_take (i := 11) (oi := ⟨some 27, _, _, _, _, _⟩) (v := ?_) rfl (by kernel_rfl) (by kernel_rfl) (by kernel_rfl) (fun _ _ _ h => h) (Or.inl ⟨by rfl, ?_⟩) hHeld ?_
            rotate_left
            · intro ww hSw
              (try dsimp only at hSw)
              go_simp
              (try with_reducible rfl)
            simp only [Act.put, List.setIfInBounds_toArray, List.set_cons_zero, List.set_cons_succ]
            refine wpAnyH_take (i := 12) (oi := ⟨some 28, _, _, _, _, _⟩) (v := .pointer (some ⟨bb, ob + i * 2, none⟩)) rfl (by kernel_rfl) (by kernel_rfl) (by kernel_rfl) (fun _ _ _ h => h) (Or.inl ⟨by rfl, ?_⟩) hHeld ?_
            · intro ww hSw
              (try dsimp only at hSw)
              go_simp
            simp only [Act.put, List.setIfInBounds_toArray, List.set_cons_zero, List.set_cons_succ]
            refine wpAnyH_take (i := 13) (oi := ⟨some 29, _, _, _, _, _⟩) (v := ?_) rfl (by kernel_rfl) (by kernel_rfl) (by kernel_rfl) (fun _ _ _ h => h) (Or.inl ⟨by rfl, ?_⟩) hHeld ?_
            rotate_left
            · intro ww hSw
              (try dsimp only at hSw)
              go_simp
              (try with_reducible rfl)
            simp only [Act.put, List.setIfInBounds_toArray, List.set_cons_zero, List.set_cons_succ]
            refine wpAnyH_take (i := 14) (oi := ⟨some 30, _, _, _, _, _⟩) (v := .int .i64 x.1) rfl (by kernel_rfl) (by kernel_rfl) (by kernel_rfl) (fun _ _ _ h => h) (Or.inl ⟨by rfl, ?_⟩) hHeld ?_
            · intro ww hSw
              (try dsimp only at hSw)
              have zc := (spans_at (HB2.out.below hSw) (by omega) x HX.out).1
              have zl := cell_lt zc
              go_simp
            simp only [Act.put, List.setIfInBounds_toArray, List.set_cons_zero, List.set_cons_succ]
            refine wpAnyH_take (i := 15) (oi := ⟨some 31, _, _, _, _, _⟩) (v := .bool false) rfl (by kernel_rfl) (by kernel_rfl) (by kernel_rfl) (fun _ _ _ h => h) (Or.inl ⟨by rfl, ?_⟩) hHeld ?_
            · intro ww hSw
              (try dsimp only at hSw)
              go_simp
            simp only [Act.put, List.setIfInBounds_toArray, List.set_cons_zero, List.set_cons_succ]
            refine wpAnyH_take (i := 16) (oi := ⟨some 32, _, _, _, _, _⟩) (v := .bool false) rfl (by kernel_rfl) (by kernel_rfl) (by kernel_rfl) (fun _ _ _ h => h) (Or.inl ⟨by rfl, ?_⟩) hHeld ?_
            · intro ww hSw
              (try dsimp only at hSw)
              go_simp
            simp only [Act.put, List.setIfInBounds_toArray, List.set_cons_zero, List.set_cons_succ]
            refine wpAnyH_done (by kernel_rfl) ?_ _
            refine NoPanic.normal ?_
            obtain ⟨wq, hwq⟩ : ∃ wq, wr.drew = wq := ⟨_, rfl⟩
            replace HW2 := Lib.hid (bel_on HW2.out (show Below wr.heap.size wr wq by rw [← hwq]; exact below_drew (Below.refl _ _)))
            rw [hwq]
            clear hwq HB2 HD2 hk0 hk0' hy hxy
            have HL7 := Lib.hid (HL.out.below HW2.out)
            have HD7 := Lib.hid (HD.out.below HW2.out)
            obtain ⟨A8, hc8, hs8⟩ := pcut_from HD7.out hcD k (by omega)
            have HC8 := Lib.hid hc8
            have HS8 := Lib.hid hs8
            clear hc8 hs8
            obtain ⟨A6, c6, w6, hr6, row6, bel6, keep6⟩ := qrow_append (qrow_empty wq) (HS8.out.below (bel_alloc (Below.refl _ _) (.cells #[] 42))) (show 0 + (q - k) ≤ 1000000000 by omega) (by simp) (k := q - k) (by omega)
            rw [List.nil_append] at row6
            have HR6 : Hid ((Builtin.append_ #[32, 32] 32 #[.slice (some ⟨wq.heap.size, 0, none⟩) 0 0, .slice A8 (q - k) (cD - k)]).run Tryz.prog (wq.alloc (.cells #[] 42)) = .ok (.slice A6 (q - k) c6) w6) := hr6
            have b6 := bel6 wq (Nat.le_refl _) (bel_alloc (Below.refl _ _) _)
            have HS6 := Lib.hid (row6.prts (n := q - k) (by rw [List.length_drop]; omega))
            have HB6 := Lib.hid (bel_on HW2.out b6)
            have H6x : Hid (∀ ww, Below w6.heap.size w6 ww → Prts ww A6 (q - k) c6 (D.drop k)) := Lib.hid (fun ww h => HS6.out.below h)
            clear hr6 row6 bel6 keep6 b6 HW2 HL7 HD7
            go_wp2_with (first | (at_builtin; refine wpList_append_run (o := ⟨some 39, _, _, _, _, _⟩) HR6.out rfl rfl rfl rfl ?_) | refine wpList_slice_run HC8.out rfl rfl rfl rfl rfl rfl ?_)
            clear HR6 HC8 HS8
            have HL3 := Lib.hid (HL.out.below HB6.out)
            have HD3 := Lib.hid (HD.out.below HB6.out)
            have HW3 := Lib.hid (bel_on HW.out HB6.out)
            obtain ⟨A39, hc39, hs39⟩ := pcut_to HD3.out hcD k (by omega)
            have HC39 := Lib.hid hc39
            have HS39 := Lib.hid hs39
            clear hc39 hs39 HD3 HB6 HS6
            refine wp_region_noPanic ?_
            refine wp_region_held_drew (S := fun w' => Below w6.heap.size w6 w') (by kernel_rfl) (below_drew (Below.refl _ _)) (fun hHeld => ?_)
            refine wpAnyH_take (i := 1) (oi := ⟨some 41, _, _, _, _, _⟩) (v := ?_) rfl (by kernel_rfl) (by kernel_rfl) (by kernel_rfl) (fun _ _ _ h => h) (Or.inl ⟨by rfl, ?_⟩) hHeld ?_
            rotate_left
            · intro ww hSw
              (try dsimp only at hSw)
              go_simp
              (try with_reducible rfl)
            simp only [Act.put, List.setIfInBounds_toArray, List.set_cons_zero, List.set_cons_succ]
            refine wpAnyH_take (i := 2) (oi := ⟨some 42, _, _, _, _, _⟩) (v := ?_) rfl (by kernel_rfl) (by kernel_rfl) (by kernel_rfl) (fun _ _ _ h => h) (Or.inl ⟨by rfl, ?_⟩) hHeld ?_
            rotate_left
            · intro ww hSw
              (try dsimp only at hSw)
              go_simp
              (try with_reducible rfl)
            simp only [Act.put, List.setIfInBounds_toArray, List.set_cons_zero, List.set_cons_succ]
            refine wpAnyH_take (i := 3) (oi := ⟨some 43, _, _, _, _, _⟩) (v := .slice A39 k cD) rfl (by kernel_rfl) (by kernel_rfl) (by kernel_rfl) (fun _ _ _ h => h) (Or.inl ⟨by rfl, ?_⟩) hHeld ?_
            · intro ww hSw
              (try dsimp only at hSw)
              exact exec_slice_run HC39.out rfl rfl rfl rfl rfl
            simp only [Act.put, List.setIfInBounds_toArray, List.set_cons_zero, List.set_cons_succ]
            refine wpAnyH_take (i := 5) (oi := ⟨some 45, _, _, _, _, _⟩) (v := ?_) rfl (by kernel_rfl) (by kernel_rfl) (by kernel_rfl) (fun _ _ _ h => h) (Or.inl ⟨by rfl, ?_⟩) hHeld ?_
            rotate_left
            · intro ww hSw
              (try dsimp only at hSw)
              go_simp
              (try with_reducible rfl)
            simp only [Act.put, List.setIfInBounds_toArray, List.set_cons_zero, List.set_cons_succ]
            refine wpAnyH_take (i := 6) (oi := ⟨some 46, _, _, _, _, _⟩) (v := ?_) rfl (by kernel_rfl) (by kernel_rfl) (by kernel_rfl) (fun _ _ _ h => h) (Or.inl ⟨by rfl, ?_⟩) hHeld ?_
            rotate_left
            · intro ww hSw
              (try dsimp only at hSw)
              go_simp
              (try with_reducible rfl)
            simp only [Act.put, List.setIfInBounds_toArray, List.set_cons_zero, List.set_cons_succ]
            refine wpAnyH_take (i := 7) (oi := ⟨some 47, _, _, _, _, _⟩) (v := .pointer (some ⟨bb, ob + i * 2, none⟩)) rfl (by kernel_rfl) (by kernel_rfl) (by kernel_rfl) (fun _ _ _ h => h) (Or.inl ⟨by rfl, ?_⟩) hHeld ?_
            · intro ww hSw
              (try dsimp only at hSw)
              go_simp
            simp only [Act.put, List.setIfInBounds_toArray, List.set_cons_zero, List.set_cons_succ]
            refine wpAnyH_take (i := 8) (oi := ⟨some 48, _, _, _, _, _⟩) (v := ?_) rfl (by kernel_rfl) (by kernel_rfl) (by kernel_rfl) (fun _ _ _ h => h) (Or.inl ⟨by rfl, ?_⟩) hHeld ?_
            rotate_left
            · intro ww hSw
              (try dsimp only at hSw)
              go_simp
              (try with_reducible rfl)
            simp only [Act.put, List.setIfInBounds_toArray, List.set_cons_zero, List.set_cons_succ]
            refine wpAnyH_take (i := 9) (oi := ⟨some 49, _, _, _, _, _⟩) (v := .int .i64 x.1) rfl (by kernel_rfl) (by kernel_rfl) (by kernel_rfl) (fun _ _ _ h => h) (Or.inl ⟨by rfl, ?_⟩) hHeld ?_
            · intro ww hSw
              (try dsimp only at hSw)
              have zc := (spans_at (HL3.out.below hSw) (by omega) x HX.out).1
              have zl := cell_lt zc
              go_simp
            simp only [Act.put, List.setIfInBounds_toArray, List.set_cons_zero, List.set_cons_succ]
            refine wpAnyH_take (i := 10) (oi := ⟨some 50, _, _, _, _, _⟩) (v := ?_) rfl (by kernel_rfl) (by kernel_rfl) (by kernel_rfl) (fun _ _ _ h => h) (Or.inl ⟨by rfl, ?_⟩) hHeld ?_
            rotate_left
            · intro ww hSw
              (try dsimp only at hSw)
              go_simp
              (try with_reducible rfl)
            simp only [Act.put, List.setIfInBounds_toArray, List.set_cons_zero, List.set_cons_succ]
            refine wpAnyH_take (i := 11) (oi := ⟨some 51, _, _, _, _, _⟩) (v := ?_) rfl (by kernel_rfl) (by kernel_rfl) (by kernel_rfl) (fun _ _ _ h => h) (Or.inl ⟨by rfl, ?_⟩) hHeld ?_
            rotate_left
            · intro ww hSw
              (try dsimp only at hSw)
              go_simp
              (try with_reducible rfl)
            simp only [Act.put, List.setIfInBounds_toArray, List.set_cons_zero, List.set_cons_succ]
            refine wpAnyH_take (i := 12) (oi := ⟨some 52, _, _, _, _, _⟩) (v := .pointer (some ⟨bb, ob + i * 2, none⟩)) rfl (by kernel_rfl) (by kernel_rfl) (by kernel_rfl) (fun _ _ _ h => h) (Or.inl ⟨by rfl, ?_⟩) hHeld ?_
            · intro ww hSw
              (try dsimp only at hSw)
              go_simp
            simp only [Act.put, List.setIfInBounds_toArray, List.set_cons_zero, List.set_cons_succ]
            refine wpAnyH_take (i := 13) (oi := ⟨some 53, _, _, _, _, _⟩) (v := ?_) rfl (by kernel_rfl) (by kernel_rfl) (by kernel_rfl) (fun _ _ _ h => h) (Or.inl ⟨by rfl, ?_⟩) hHeld ?_
            rotate_left
            · intro ww hSw
              (try dsimp only at hSw)
              go_simp
              (try with_reducible rfl)
            simp only [Act.put, List.setIfInBounds_toArray, List.set_cons_zero, List.set_cons_succ]
            refine wpAnyH_take (i := 14) (oi := ⟨some 54, _, _, _, _, _⟩) (v := .int .i64 x.2) rfl (by kernel_rfl) (by kernel_rfl) (by kernel_rfl) (fun _ _ _ h => h) (Or.inl ⟨by rfl, ?_⟩) hHeld ?_
            · intro ww hSw
              (try dsimp only at hSw)
              have zc := (spans_at (HL3.out.below hSw) (by omega) x HX.out).2
              have zl := cell_lt zc
              go_simp
            simp only [Act.put, List.setIfInBounds_toArray, List.set_cons_zero, List.set_cons_succ]
            refine wpAnyH_take (i := 15) (oi := ⟨some 55, _, _, _, _, _⟩) (v := ?_) rfl (by kernel_rfl) (by kernel_rfl) (by kernel_rfl) (fun _ _ _ h => h) (Or.inl ⟨by rfl, ?_⟩) hHeld ?_
            rotate_left
            · intro ww hSw
              (try dsimp only at hSw)
              go_simp
              (try with_reducible rfl)
            simp only [Act.put, List.setIfInBounds_toArray, List.set_cons_zero, List.set_cons_succ]
            refine wpAnyH_take (i := 16) (oi := ⟨some 56, _, _, _, _, _⟩) (v := .agg (pC (x.1, x.2, cat))) rfl (by kernel_rfl) (by kernel_rfl) (by kernel_rfl) (fun _ _ _ h => h) (Or.inl ⟨by rfl, ?_⟩) hHeld ?_
            · intro ww hSw
              (try dsimp only at hSw)
              go_simp
              (try with_reducible rfl)
              (try rfl)
            simp only [Act.put, List.setIfInBounds_toArray, List.set_cons_zero, List.set_cons_succ]
            refine wpAnyH_take (i := 19) (oi := ⟨some 59, _, _, _, _, _⟩) (v := ?_) rfl (by kernel_rfl) (by kernel_rfl) (by kernel_rfl) (fun _ _ _ h => h) (Or.inl ⟨by rfl, ?_⟩) hHeld ?_
            rotate_left
            · intro ww hSw
              (try dsimp only at hSw)
              go_simp
              (try with_reducible rfl)
            simp only [Act.put, List.setIfInBounds_toArray, List.set_cons_zero, List.set_cons_succ]
            obtain ⟨wd, hwd⟩ : ∃ wd, w6.drew = wd := ⟨_, rfl⟩
            have B3d : Hid (Below w6.heap.size w6 wd) := by rw [← hwd]; exact below_drew (Below.refl _ _)
            have H39d : Hid (Prts wd A39 k cD (D.take k)) := by rw [← hwd]; exact HS39.out
            have HSZ : Hid (wd.heap.size = w6.heap.size) := Lib.hid (by rw [← hwd]; rfl)
            rw [hwd]
            clear hwd
            refine wpAnyH_ready (rs := [0, 17]) (by kernel_rfl) (by simp) ?_
            refine AllReadyH.cons (o := ⟨some 40, _, _, _, _, _⟩) rfl (fun K hK => ?_) (AllReadyH.cons (o := ⟨some 57, _, _, _, _, _⟩) rfl (fun K hK => ?_) AllReadyH.nil)
            · skip
              go_simp
              refine hK.out _ _ ?_ (fun hHeld => ?_)
              · (try dsimp only)
                exact bel_alloc B3d.out _
              clear hK K
              (try simp only [Act.put, List.setIfInBounds_toArray, List.set_cons_zero, List.set_cons_succ])
              have R36 := Lib.hid (qrow_empty wd)
              have B36 := Lib.hid (bel_alloc B3d.out (.cells #[] 42))
              have H36 := Lib.hid (H39d.out.below (bel_alloc (Below.refl _ _) (.cells #[] 42)))
              refine wpAnyH_ready (rs := [4, 17]) (by kernel_rfl) (by simp) ?_
              refine AllReadyH.cons (o := ⟨some 44, _, _, _, _, _⟩) rfl (fun K hK => ?_) (AllReadyH.cons (o := ⟨some 57, _, _, _, _, _⟩) rfl (fun K hK => ?_) AllReadyH.nil)
              · skip
                obtain ⟨A40, c40, w40, hr40, row40, bel40, keep40⟩ := qrow_append (qrow_mono R36.out (Nat.le_of_eq HSZ.out.symm)) H36.out (show 0 + k ≤ 1000000000 by omega) B36.out.size (k := k) (by omega)
                have HR40 : Hid ((Builtin.append_ #[32, 32] 32 #[.slice (some ⟨wd.heap.size, 0, none⟩) 0 0, .slice A39 k cD]).run Tryz.prog (wd.alloc (.cells #[] 42)) = .ok (.slice A40 k c40) w40) := hr40
                have b40 := bel40 w6 (Nat.le_refl _) B36.out
                rw [List.nil_append] at row40
                have B40 := Lib.hid b40
                rw [if_pos (by rfl)]
                refine qwp_append_run HR40.out rfl rfl rfl ?_
                refine hK.out _ _ ?_ (fun hHeld => ?_)
                · (try dsimp only)
                  exact B40.out
                clear hK K
                (try simp only [Act.put, List.setIfInBounds_toArray, List.set_cons_zero, List.set_cons_succ])
                refine wpAnyH_ready (rs := [17]) (by kernel_rfl) (by simp) ?_
                refine AllReadyH.cons (o := ⟨some 57, _, _, _, _, _⟩) rfl (fun K hK => ?_) AllReadyH.nil
                rw [if_pos (by rfl)]
                refine wp_build_p (x.1, x.2, cat) rfl rfl ?_
                refine hK.out _ _ ?_ (fun hHeld => ?_)
                · (try dsimp only)
                  exact bel_alloc B40.out _
                clear hK K
                (try simp only [Act.put, List.setIfInBounds_toArray, List.set_cons_zero, List.set_cons_succ])
                have R40 := Lib.hid (row40.alloc (.cells (pC (x.1, x.2, cat)) 42))
                have X45 := Lib.hid (qprts_one w40 (x.1, x.2, cat))
                have B0 := Lib.hid (bel_alloc B40.out (.cells (pC (x.1, x.2, cat)) 42))
                obtain ⟨g45, hg45⟩ : ∃ g, w40.heap.size = g := ⟨_, rfl⟩
                rw [hg45] at X45
                rw [hg45]
                obtain ⟨wz, hwz⟩ : ∃ wz, w40.alloc (.cells (pC (x.1, x.2, cat)) 42) = wz := ⟨_, rfl⟩
                rw [hwz] at R40 X45 B0
                rw [hwz]
                clear hwz hg45 HR40 hr40 row40 bel40 keep40 b40 B40 R36 B36 H36 B3d H39d HSZ
                obtain ⟨A46, c46, w46, hr46, row46, bel46, keep46⟩ := qrow_append R40.out X45.out (show k + 1 ≤ 1000000000 by omega) B0.out.size (k := k + 1) rfl
                have HR46 : Hid ((Builtin.append_ #[32, 32] 32 #[.slice A40 k c40, .slice (some ⟨g45, 0, none⟩) 1 1]).run Tryz.prog wz = .ok (.slice A46 (k + 1) c46) w46) := hr46
                have b46 := bel46 w6 (Nat.le_refl _) B0.out
                have L6 := H6x.out w46 b46
                obtain ⟨A48, c48, w48, hr48, row48, bel48, keep48⟩ := qrow_append row46 L6 (show k + 1 + (q - k) ≤ 1000000000 by omega) b46.size (k := q + 1) (by omega)
                have HR48 : Hid ((Builtin.append_ #[32, 32] 32 #[.slice A46 (k + 1) c46, .slice A6 (q - k) c6]).run Tryz.prog w46 = .ok (.slice A48 (q + 1) c48) w48) := hr48
                have b48 := bel48 w6 (Nat.le_refl _) b46
                have E48 := Lib.hid (row48.prts (n := q + 1) (by rw [List.length_append, List.length_append, List.length_take, List.length_drop]; simp; omega))
                have hc48 := qrow_caps row48
                have B46 := Lib.hid b46
                have B48 := Lib.hid b48
                clear hr46 hr48 bel46 bel48 keep46 keep48 row46 row48 b46 b48 L6 R40 X45 B0
                refine wpAnyH_ready (rs := [18]) (by kernel_rfl) (by simp) ?_
                refine AllReadyH.cons (o := ⟨some 58, _, _, _, _, _⟩) rfl (fun K hK => ?_) AllReadyH.nil
                rw [if_pos (by rfl)]
                refine qwp_append_run HR46.out rfl rfl rfl ?_
                refine hK.out _ _ ?_ (fun hHeld => ?_)
                · (try dsimp only)
                  exact B46.out
                clear hK K
                (try simp only [Act.put, List.setIfInBounds_toArray, List.set_cons_zero, List.set_cons_succ])
                refine wpAnyH_ready (rs := [20]) (by kernel_rfl) (by simp) ?_
                refine AllReadyH.cons (o := ⟨some 60, _, _, _, _, _⟩) rfl (fun K hK => ?_) AllReadyH.nil
                rw [if_pos (by rfl)]
                refine qwp_append_run HR48.out rfl rfl rfl ?_
                refine hK.out _ _ ?_ (fun hHeld => ?_)
                · (try dsimp only)
                  exact B48.out
                clear hK K
                (try simp only [Act.put, List.setIfInBounds_toArray, List.set_cons_zero, List.set_cons_succ])
                refine wpAnyH_take (i := 21) (oi := ⟨some 0, _, _, _, _, _⟩) (v := ?_) rfl (by kernel_rfl) (by kernel_rfl) (by kernel_rfl) (fun _ _ _ h => h) (Or.inl ⟨by rfl, ?_⟩) hHeld ?_
                rotate_left
                · intro ww hSw
                  (try dsimp only at hSw)
                  go_simp
                  (try with_reducible rfl)
                simp only [Act.put, List.setIfInBounds_toArray, List.set_cons_zero, List.set_cons_succ]
                refine wpAnyH_done (by kernel_rfl) ?_ _
                refine NoPanic.normal ?_
                clear HR46 HR48
                go_wp2
                go_roundg (m - (i + 1))
                case measure => omega
                case rel => exact ⟨i + 1, q + 1, A48, c48, rfl, by simp, by omega, by have := hqi2.out; omega, hc48.1, hc48.2, Lib.hid (by rw [HSTEP.out, HINS.out, List.append_cons]; exact E48.out), Lib.hid (bel_on HW3.out B48.out)⟩
              · skip
                rw [if_pos (by rfl)]
                refine wp_build_p (x.1, x.2, cat) rfl rfl ?_
                refine hK.out _ _ ?_ (fun hHeld => ?_)
                · (try dsimp only)
                  exact bel_alloc B36.out _
                clear hK K
                (try simp only [Act.put, List.setIfInBounds_toArray, List.set_cons_zero, List.set_cons_succ])
                have R36b := Lib.hid ((qrow_mono R36.out (Nat.le_of_eq HSZ.out.symm)).alloc (.cells (pC (x.1, x.2, cat)) 42))
                have X45a := Lib.hid (qprts_one (wd.alloc (.cells #[] 42)) (x.1, x.2, cat))
                have B45 := Lib.hid (bel_alloc B36.out (.cells (pC (x.1, x.2, cat)) 42))
                have H39b := Lib.hid (H36.out.below (bel_alloc (Below.refl _ _) (.cells (pC (x.1, x.2, cat)) 42)))
                have hs45 : (wd.alloc (.cells #[] 42)).heap.size = wd.heap.size + 1 := by simp
                rw [hs45] at X45a
                (try rw [hs45])
                have hne : ¬ wd.heap.size + 1 = wd.heap.size := by omega
                have hlt45 : wd.heap.size + 1 < ((wd.alloc (.cells #[] 42)).alloc (.cells (pC (x.1, x.2, cat)) 42)).heap.size := by simp
                generalize hg45 : wd.heap.size + 1 = g45 at *
                generalize hg36 : wd.heap.size = g36 at *
                generalize hwy : (wd.alloc (.cells #[] 42)).alloc (.cells (pC (x.1, x.2, cat)) 42) = wy at *
                obtain ⟨A40, c40, w40, hr40, row40, bel40, keep40⟩ := qrow_append R36b.out H39b.out (show 0 + k ≤ 1000000000 by omega) B45.out.size (k := k) (by omega)
                have HR40 : Hid ((Builtin.append_ #[32, 32] 32 #[.slice (some ⟨g36, 0, none⟩) 0 0, .slice A39 k cD]).run Tryz.prog wy = .ok (.slice A40 k c40) w40) := hr40
                have b40 := bel40 w6 (Nat.le_refl _) B45.out
                rw [List.nil_append] at row40
                have B0 := Lib.hid b40
                have R40 := Lib.hid row40
                have X45 := Lib.hid (X45a.out.keep (w' := w40) (fun g hg => keep40 _ (by injection hg with hg; subst hg; exact hlt45) (fun g' hg' => by injection hg' with hg'; injection hg with hg; subst hg' hg; exact hne)))
                clear hr40 row40 bel40 keep40 b40 R36b X45a B45 H39b hne hlt45 hg45 hg36 hwy R36 B36 H36 B3d H39d HSZ hs45
                refine wpAnyH_ready (rs := [4]) (by kernel_rfl) (by simp) ?_
                refine AllReadyH.cons (o := ⟨some 44, _, _, _, _, _⟩) rfl (fun K hK => ?_) AllReadyH.nil
                rw [if_pos (by rfl)]
                refine qwp_append_run HR40.out rfl rfl rfl ?_
                refine hK.out _ _ ?_ (fun hHeld => ?_)
                · (try dsimp only)
                  exact B0.out
                clear hK K
                (try simp only [Act.put, List.setIfInBounds_toArray, List.set_cons_zero, List.set_cons_succ])
                clear HR40
                obtain ⟨A46, c46, w46, hr46, row46, bel46, keep46⟩ := qrow_append R40.out X45.out (show k + 1 ≤ 1000000000 by omega) B0.out.size (k := k + 1) rfl
                have HR46 : Hid ((Builtin.append_ #[32, 32] 32 #[.slice A40 k c40, .slice (some ⟨g45, 0, none⟩) 1 1]).run Tryz.prog w40 = .ok (.slice A46 (k + 1) c46) w46) := hr46
                have b46 := bel46 w6 (Nat.le_refl _) B0.out
                have L6 := H6x.out w46 b46
                obtain ⟨A48, c48, w48, hr48, row48, bel48, keep48⟩ := qrow_append row46 L6 (show k + 1 + (q - k) ≤ 1000000000 by omega) b46.size (k := q + 1) (by omega)
                have HR48 : Hid ((Builtin.append_ #[32, 32] 32 #[.slice A46 (k + 1) c46, .slice A6 (q - k) c6]).run Tryz.prog w46 = .ok (.slice A48 (q + 1) c48) w48) := hr48
                have b48 := bel48 w6 (Nat.le_refl _) b46
                have E48 := Lib.hid (row48.prts (n := q + 1) (by rw [List.length_append, List.length_append, List.length_take, List.length_drop]; simp; omega))
                have hc48 := qrow_caps row48
                have B46 := Lib.hid b46
                have B48 := Lib.hid b48
                clear hr46 hr48 bel46 bel48 keep46 keep48 row46 row48 b46 b48 L6 R40 X45 B0
                refine wpAnyH_ready (rs := [18]) (by kernel_rfl) (by simp) ?_
                refine AllReadyH.cons (o := ⟨some 58, _, _, _, _, _⟩) rfl (fun K hK => ?_) AllReadyH.nil
                rw [if_pos (by rfl)]
                refine qwp_append_run HR46.out rfl rfl rfl ?_
                refine hK.out _ _ ?_ (fun hHeld => ?_)
                · (try dsimp only)
                  exact B46.out
                clear hK K
                (try simp only [Act.put, List.setIfInBounds_toArray, List.set_cons_zero, List.set_cons_succ])
                refine wpAnyH_ready (rs := [20]) (by kernel_rfl) (by simp) ?_
                refine AllReadyH.cons (o := ⟨some 60, _, _, _, _, _⟩) rfl (fun K hK => ?_) AllReadyH.nil
                rw [if_pos (by rfl)]
                refine qwp_append_run HR48.out rfl rfl rfl ?_
                refine hK.out _ _ ?_ (fun hHeld => ?_)
                · (try dsimp only)
                  exact B48.out
                clear hK K
                (try simp only [Act.put, List.setIfInBounds_toArray, List.set_cons_zero, List.set_cons_succ])
                refine wpAnyH_take (i := 21) (oi := ⟨some 0, _, _, _, _, _⟩) (v := ?_) rfl (by kernel_rfl) (by kernel_rfl) (by kernel_rfl) (fun _ _ _ h => h) (Or.inl ⟨by rfl, ?_⟩) hHeld ?_
                rotate_left
                · intro ww hSw
                  (try dsimp only at hSw)
                  go_simp
                  (try with_reducible rfl)
                simp only [Act.put, List.setIfInBounds_toArray, List.set_cons_zero, List.set_cons_succ]
                refine wpAnyH_done (by kernel_rfl) ?_ _
                refine NoPanic.normal ?_
                clear HR46 HR48
                go_wp2
                go_roundg (m - (i + 1))
                case measure => omega
                case rel => exact ⟨i + 1, q + 1, A48, c48, rfl, by simp, by omega, by have := hqi2.out; omega, hc48.1, hc48.2, Lib.hid (by rw [HSTEP.out, HINS.out, List.append_cons]; exact E48.out), Lib.hid (bel_on HW3.out B48.out)⟩
            · skip
              rw [if_pos (by rfl)]
              refine wp_build_p (x.1, x.2, cat) rfl rfl ?_
              refine hK.out _ _ ?_ (fun hHeld => ?_)
              · (try dsimp only)
                exact bel_alloc B3d.out _
              clear hK K
              (try simp only [Act.put, List.setIfInBounds_toArray, List.set_cons_zero, List.set_cons_succ])
              refine wpAnyH_ready (rs := [0]) (by kernel_rfl) (by simp) ?_
              refine AllReadyH.cons (o := ⟨some 40, _, _, _, _, _⟩) rfl (fun K hK => ?_) AllReadyH.nil
              go_simp
              refine hK.out _ _ ?_ (fun hHeld => ?_)
              · (try dsimp only)
                exact bel_alloc (bel_alloc B3d.out _) _
              clear hK K
              (try simp only [Act.put, List.setIfInBounds_toArray, List.set_cons_zero, List.set_cons_succ])
              have R36b := Lib.hid (qrow_mono (qrow_empty (wd.alloc (.cells (pC (x.1, x.2, cat)) 42))) (by have := HSZ.out; simp; omega : w6.heap.size ≤ _))
              have X45a := Lib.hid ((qprts_one wd (x.1, x.2, cat)).below (bel_alloc (Below.refl _ _) (.cells #[] 42)))
              have B45 := Lib.hid (bel_alloc (bel_alloc B3d.out (.cells (pC (x.1, x.2, cat)) 42)) (.cells #[] 42))
              have H39b := Lib.hid (H39d.out.below (bel_alloc (bel_alloc (Below.refl _ _) (.cells (pC (x.1, x.2, cat)) 42)) (.cells #[] 42)))
              have hs45 : (wd.alloc (.cells (pC (x.1, x.2, cat)) 42)).heap.size = wd.heap.size + 1 := by simp
              rw [hs45] at R36b
              (try rw [hs45])
              have hne : ¬ wd.heap.size = wd.heap.size + 1 := by omega
              have hlt45 : wd.heap.size < ((wd.alloc (.cells (pC (x.1, x.2, cat)) 42)).alloc (.cells #[] 42)).heap.size := by simp; omega
              generalize hg36 : wd.heap.size + 1 = g36 at *
              generalize hg45 : wd.heap.size = g45 at *
              generalize hwy : (wd.alloc (.cells (pC (x.1, x.2, cat)) 42)).alloc (.cells #[] 42) = wy at *
              obtain ⟨A40, c40, w40, hr40, row40, bel40, keep40⟩ := qrow_append R36b.out H39b.out (show 0 + k ≤ 1000000000 by omega) B45.out.size (k := k) (by omega)
              have HR40 : Hid ((Builtin.append_ #[32, 32] 32 #[.slice (some ⟨g36, 0, none⟩) 0 0, .slice A39 k cD]).run Tryz.prog wy = .ok (.slice A40 k c40) w40) := hr40
              have b40 := bel40 w6 (Nat.le_refl _) B45.out
              rw [List.nil_append] at row40
              have B0 := Lib.hid b40
              have R40 := Lib.hid row40
              have X45 := Lib.hid (X45a.out.keep (w' := w40) (fun g hg => keep40 _ (by injection hg with hg; subst hg; exact hlt45) (fun g' hg' => by injection hg' with hg'; injection hg with hg; subst hg' hg; exact hne)))
              clear hr40 row40 bel40 keep40 b40 R36b X45a B45 H39b hne hlt45 hg45 hg36 hwy B3d H39d HSZ hs45
              refine wpAnyH_ready (rs := [4]) (by kernel_rfl) (by simp) ?_
              refine AllReadyH.cons (o := ⟨some 44, _, _, _, _, _⟩) rfl (fun K hK => ?_) AllReadyH.nil
              rw [if_pos (by rfl)]
              refine qwp_append_run HR40.out rfl rfl rfl ?_
              refine hK.out _ _ ?_ (fun hHeld => ?_)
              · (try dsimp only)
                exact B0.out
              clear hK K
              (try simp only [Act.put, List.setIfInBounds_toArray, List.set_cons_zero, List.set_cons_succ])
              clear HR40
              obtain ⟨A46, c46, w46, hr46, row46, bel46, keep46⟩ := qrow_append R40.out X45.out (show k + 1 ≤ 1000000000 by omega) B0.out.size (k := k + 1) rfl
              have HR46 : Hid ((Builtin.append_ #[32, 32] 32 #[.slice A40 k c40, .slice (some ⟨g45, 0, none⟩) 1 1]).run Tryz.prog w40 = .ok (.slice A46 (k + 1) c46) w46) := hr46
              have b46 := bel46 w6 (Nat.le_refl _) B0.out
              have L6 := H6x.out w46 b46
              obtain ⟨A48, c48, w48, hr48, row48, bel48, keep48⟩ := qrow_append row46 L6 (show k + 1 + (q - k) ≤ 1000000000 by omega) b46.size (k := q + 1) (by omega)
              have HR48 : Hid ((Builtin.append_ #[32, 32] 32 #[.slice A46 (k + 1) c46, .slice A6 (q - k) c6]).run Tryz.prog w46 = .ok (.slice A48 (q + 1) c48) w48) := hr48
              have b48 := bel48 w6 (Nat.le_refl _) b46
              have E48 := Lib.hid (row48.prts (n := q + 1) (by rw [List.length_append, List.length_append, List.length_take, List.length_drop]; simp; omega))
              have hc48 := qrow_caps row48
              have B46 := Lib.hid b46
              have B48 := Lib.hid b48
              clear hr46 hr48 bel46 bel48 keep46 keep48 row46 row48 b46 b48 L6 R40 X45 B0
              refine wpAnyH_ready (rs := [18]) (by kernel_rfl) (by simp) ?_
              refine AllReadyH.cons (o := ⟨some 58, _, _, _, _, _⟩) rfl (fun K hK => ?_) AllReadyH.nil
              rw [if_pos (by rfl)]
              refine qwp_append_run HR46.out rfl rfl rfl ?_
              refine hK.out _ _ ?_ (fun hHeld => ?_)
              · (try dsimp only)
                exact B46.out
              clear hK K
              (try simp only [Act.put, List.setIfInBounds_toArray, List.set_cons_zero, List.set_cons_succ])
              refine wpAnyH_ready (rs := [20]) (by kernel_rfl) (by simp) ?_
              refine AllReadyH.cons (o := ⟨some 60, _, _, _, _, _⟩) rfl (fun K hK => ?_) AllReadyH.nil
              rw [if_pos (by rfl)]
              refine qwp_append_run HR48.out rfl rfl rfl ?_
              refine hK.out _ _ ?_ (fun hHeld => ?_)
              · (try dsimp only)
                exact B48.out
              clear hK K
              (try simp only [Act.put, List.setIfInBounds_toArray, List.set_cons_zero, List.set_cons_succ])
              refine wpAnyH_take (i := 21) (oi := ⟨some 0, _, _, _, _, _⟩) (v := ?_) rfl (by kernel_rfl) (by kernel_rfl) (by kernel_rfl) (fun _ _ _ h => h) (Or.inl ⟨by rfl, ?_⟩) hHeld ?_
              rotate_left
              · intro ww hSw
                (try dsimp only at hSw)
                go_simp
                (try with_reducible rfl)
              simp only [Act.put, List.setIfInBounds_toArray, List.set_cons_zero, List.set_cons_succ]
              refine wpAnyH_done (by kernel_rfl) ?_ _
              refine NoPanic.normal ?_
              clear HR46 HR48
              go_wp2
              go_roundg (m - (i + 1))
              case measure => omega
              case rel => exact ⟨i + 1, q + 1, A48, c48, rfl, by simp, by omega, by have := hqi2.out; omega, hc48.1, hc48.2, Lib.hid (by rw [HSTEP.out, HINS.out, List.append_cons]; exact E48.out), Lib.hid (bel_on HW3.out B48.out)⟩
        · have hk0' : ¬ (k : Int) < (q : Int) := by omega
          have HINS : Hid (insP (x.1, x.2, cat) D = D.take k ++ ((x.1, x.2, cat) :: D.drop k)) := Lib.hid (insP_at (by omega) (fun j h => HALL.out j h) (fun h => absurd h (by omega)))
          go_wp2_with fail
          refine wp_region_noPanic ?_
          refine wp_region_held_drew (S := fun w' => Below wr.heap.size wr w') (by kernel_rfl) (below_drew (Below.refl _ _)) (fun hHeld => ?_)
          refine wpAnyH_take (i := 0) (oi := ⟨some 16, _, _, _, _, _⟩) (v := ?_) rfl (by kernel_rfl) (by kernel_rfl) (by kernel_rfl) (fun _ _ _ h => h) (Or.inl ⟨by rfl, ?_⟩) hHeld ?_
          rotate_left
          · intro ww hSw
            (try dsimp only at hSw)
            go_simp
            (try with_reducible rfl)
          simp only [Act.put, List.setIfInBounds_toArray, List.set_cons_zero, List.set_cons_succ]
          refine wpAnyH_take (i := 1) (oi := ⟨some 17, _, _, _, _, _⟩) (v := ?_) rfl (by kernel_rfl) (by kernel_rfl) (by kernel_rfl) (fun _ _ _ h => h) (Or.inl ⟨by rfl, ?_⟩) hHeld ?_
          rotate_left
          · intro ww hSw
            (try dsimp only at hSw)
            go_simp
            (try with_reducible rfl)
          simp only [Act.put, List.setIfInBounds_toArray, List.set_cons_zero, List.set_cons_succ]
          refine wpAnyH_take (i := 2) (oi := ⟨some 18, _, _, _, _, _⟩) (v := ?_) rfl (by kernel_rfl) (by kernel_rfl) (by kernel_rfl) (fun _ _ _ h => h) (Or.inl ⟨by rfl, ?_⟩) hHeld ?_
          rotate_left
          · intro ww hSw
            (try dsimp only at hSw)
            go_simp
            (try with_reducible rfl)
          simp only [Act.put, List.setIfInBounds_toArray, List.set_cons_zero, List.set_cons_succ]
          refine wpAnyH_take (i := 3) (oi := ⟨some 19, _, _, _, _, _⟩) (v := .bool false) rfl (by kernel_rfl) (by kernel_rfl) (by kernel_rfl) (fun _ _ _ h => h) (Or.inl ⟨by rfl, ?_⟩) hHeld ?_
          · intro ww hSw
            (try dsimp only at hSw)
            go_simp
          simp only [Act.put, List.setIfInBounds_toArray, List.set_cons_zero, List.set_cons_succ]
          refine wpAnyH_take (i := 4) (oi := ⟨some 20, _, _, _, _, _⟩) (v := .bool false) rfl (by kernel_rfl) (by kernel_rfl) (by kernel_rfl) (fun _ _ _ h => h) (Or.inl ⟨by rfl, ?_⟩) hHeld ?_
          · intro ww hSw
            (try dsimp only at hSw)
            go_simp
          simp only [Act.put, List.setIfInBounds_toArray, List.set_cons_zero, List.set_cons_succ]
          refine wpAnyH_take (i := 5) (oi := ⟨some 21, _, _, _, _, _⟩) (v := undef) rfl (by kernel_rfl) (by kernel_rfl) (by kernel_rfl) (fun _ _ _ h => h) (Or.inr ⟨by rfl, rfl⟩) hHeld ?_
          simp only [Act.put, List.setIfInBounds_toArray, List.set_cons_zero, List.set_cons_succ]
          refine wpAnyH_take (i := 6) (oi := ⟨some 22, _, _, _, _, _⟩) (v := undef) rfl (by kernel_rfl) (by kernel_rfl) (by kernel_rfl) (fun _ _ _ h => h) (Or.inr ⟨by rfl, rfl⟩) hHeld ?_
          simp only [Act.put, List.setIfInBounds_toArray, List.set_cons_zero, List.set_cons_succ]
          refine wpAnyH_take (i := 7) (oi := ⟨some 23, _, _, _, _, _⟩) (v := undef) rfl (by kernel_rfl) (by kernel_rfl) (by kernel_rfl) (fun _ _ _ h => h) (Or.inr ⟨by rfl, rfl⟩) hHeld ?_
          simp only [Act.put, List.setIfInBounds_toArray, List.set_cons_zero, List.set_cons_succ]
          refine wpAnyH_take (i := 8) (oi := ⟨some 24, _, _, _, _, _⟩) (v := undef) rfl (by kernel_rfl) (by kernel_rfl) (by kernel_rfl) (fun _ _ _ h => h) (Or.inr ⟨by rfl, rfl⟩) hHeld ?_
          simp only [Act.put, List.setIfInBounds_toArray, List.set_cons_zero, List.set_cons_succ]
          refine wpAnyH_take (i := 9) (oi := ⟨some 25, _, _, _, _, _⟩) (v := undef) rfl (by kernel_rfl) (by kernel_rfl) (by kernel_rfl) (fun _ _ _ h => h) (Or.inr ⟨by rfl, rfl⟩) hHeld ?_
          simp only [Act.put, List.setIfInBounds_toArray, List.set_cons_zero, List.set_cons_succ]
          refine wpAnyH_take (i := 10) (oi := ⟨some 26, _, _, _, _, _⟩) (v := undef) rfl (by kernel_rfl) (by kernel_rfl) (by kernel_rfl) (fun _ _ _ h => h) (Or.inr ⟨by rfl, rfl⟩) hHeld ?_
          simp only [Act.put, List.setIfInBounds_toArray, List.set_cons_zero, List.set_cons_succ]
          refine wpAnyH_take (i := 11) (oi := ⟨some 27, _, _, _, _, _⟩) (v := undef) rfl (by kernel_rfl) (by kernel_rfl) (by kernel_rfl) (fun _ _ _ h => h) (Or.inr ⟨by rfl, rfl⟩) hHeld ?_
          simp only [Act.put, List.setIfInBounds_toArray, List.set_cons_zero, List.set_cons_succ]
          refine wpAnyH_take (i := 12) (oi := ⟨some 28, _, _, _, _, _⟩) (v := undef) rfl (by kernel_rfl) (by kernel_rfl) (by kernel_rfl) (fun _ _ _ h => h) (Or.inr ⟨by rfl, rfl⟩) hHeld ?_
          simp only [Act.put, List.setIfInBounds_toArray, List.set_cons_zero, List.set_cons_succ]
          refine wpAnyH_take (i := 13) (oi := ⟨some 29, _, _, _, _, _⟩) (v := undef) rfl (by kernel_rfl) (by kernel_rfl) (by kernel_rfl) (fun _ _ _ h => h) (Or.inr ⟨by rfl, rfl⟩) hHeld ?_
          simp only [Act.put, List.setIfInBounds_toArray, List.set_cons_zero, List.set_cons_succ]
          refine wpAnyH_take (i := 14) (oi := ⟨some 30, _, _, _, _, _⟩) (v := undef) rfl (by kernel_rfl) (by kernel_rfl) (by kernel_rfl) (fun _ _ _ h => h) (Or.inr ⟨by rfl, rfl⟩) hHeld ?_
          simp only [Act.put, List.setIfInBounds_toArray, List.set_cons_zero, List.set_cons_succ]
          refine wpAnyH_take (i := 15) (oi := ⟨some 31, _, _, _, _, _⟩) (v := undef) rfl (by kernel_rfl) (by kernel_rfl) (by kernel_rfl) (fun _ _ _ h => h) (Or.inr ⟨by rfl, rfl⟩) hHeld ?_
          simp only [Act.put, List.setIfInBounds_toArray, List.set_cons_zero, List.set_cons_succ]
          refine wpAnyH_take (i := 16) (oi := ⟨some 32, _, _, _, _, _⟩) (v := .bool false) rfl (by kernel_rfl) (by kernel_rfl) (by kernel_rfl) (fun _ _ _ h => h) (Or.inl ⟨by rfl, ?_⟩) hHeld ?_
          · intro ww hSw
            (try dsimp only at hSw)
            go_simp
          simp only [Act.put, List.setIfInBounds_toArray, List.set_cons_zero, List.set_cons_succ]
          refine wpAnyH_done (by kernel_rfl) ?_ _
          refine NoPanic.normal ?_
          obtain ⟨wq, hwq⟩ : ∃ wq, wr.drew = wq := ⟨_, rfl⟩
          replace HW2 := Lib.hid (bel_on HW2.out (show Below wr.heap.size wr wq by rw [← hwq]; exact below_drew (Below.refl _ _)))
          rw [hwq]
          clear hwq HB2 HD2 hk0 hk0'
          have HL7 := Lib.hid (HL.out.below HW2.out)
          have HD7 := Lib.hid (HD.out.below HW2.out)
          obtain ⟨A8, hc8, hs8⟩ := pcut_from HD7.out hcD k (by omega)
          have HC8 := Lib.hid hc8
          have HS8 := Lib.hid hs8
          clear hc8 hs8
          obtain ⟨A6, c6, w6, hr6, row6, bel6, keep6⟩ := qrow_append (qrow_empty wq) (HS8.out.below (bel_alloc (Below.refl _ _) (.cells #[] 42))) (show 0 + (q - k) ≤ 1000000000 by omega) (by simp) (k := q - k) (by omega)
          rw [List.nil_append] at row6
          have HR6 : Hid ((Builtin.append_ #[32, 32] 32 #[.slice (some ⟨wq.heap.size, 0, none⟩) 0 0, .slice A8 (q - k) (cD - k)]).run Tryz.prog (wq.alloc (.cells #[] 42)) = .ok (.slice A6 (q - k) c6) w6) := hr6
          have b6 := bel6 wq (Nat.le_refl _) (bel_alloc (Below.refl _ _) _)
          have HS6 := Lib.hid (row6.prts (n := q - k) (by rw [List.length_drop]; omega))
          have HB6 := Lib.hid (bel_on HW2.out b6)
          have H6x : Hid (∀ ww, Below w6.heap.size w6 ww → Prts ww A6 (q - k) c6 (D.drop k)) := Lib.hid (fun ww h => HS6.out.below h)
          clear hr6 row6 bel6 keep6 b6 HW2 HL7 HD7
          go_wp2_with (first | (at_builtin; refine wpList_append_run (o := ⟨some 39, _, _, _, _, _⟩) HR6.out rfl rfl rfl rfl ?_) | refine wpList_slice_run HC8.out rfl rfl rfl rfl rfl rfl ?_)
          clear HR6 HC8 HS8
          have HL3 := Lib.hid (HL.out.below HB6.out)
          have HD3 := Lib.hid (HD.out.below HB6.out)
          have HW3 := Lib.hid (bel_on HW.out HB6.out)
          obtain ⟨A39, hc39, hs39⟩ := pcut_to HD3.out hcD k (by omega)
          have HC39 := Lib.hid hc39
          have HS39 := Lib.hid hs39
          clear hc39 hs39 HD3 HB6 HS6
          refine wp_region_noPanic ?_
          refine wp_region_held_drew (S := fun w' => Below w6.heap.size w6 w') (by kernel_rfl) (below_drew (Below.refl _ _)) (fun hHeld => ?_)
          refine wpAnyH_take (i := 1) (oi := ⟨some 41, _, _, _, _, _⟩) (v := ?_) rfl (by kernel_rfl) (by kernel_rfl) (by kernel_rfl) (fun _ _ _ h => h) (Or.inl ⟨by rfl, ?_⟩) hHeld ?_
          rotate_left
          · intro ww hSw
            (try dsimp only at hSw)
            go_simp
            (try with_reducible rfl)
          simp only [Act.put, List.setIfInBounds_toArray, List.set_cons_zero, List.set_cons_succ]
          refine wpAnyH_take (i := 2) (oi := ⟨some 42, _, _, _, _, _⟩) (v := ?_) rfl (by kernel_rfl) (by kernel_rfl) (by kernel_rfl) (fun _ _ _ h => h) (Or.inl ⟨by rfl, ?_⟩) hHeld ?_
          rotate_left
          · intro ww hSw
            (try dsimp only at hSw)
            go_simp
            (try with_reducible rfl)
          simp only [Act.put, List.setIfInBounds_toArray, List.set_cons_zero, List.set_cons_succ]
          refine wpAnyH_take (i := 3) (oi := ⟨some 43, _, _, _, _, _⟩) (v := .slice A39 k cD) rfl (by kernel_rfl) (by kernel_rfl) (by kernel_rfl) (fun _ _ _ h => h) (Or.inl ⟨by rfl, ?_⟩) hHeld ?_
          · intro ww hSw
            (try dsimp only at hSw)
            exact exec_slice_run HC39.out rfl rfl rfl rfl rfl
          simp only [Act.put, List.setIfInBounds_toArray, List.set_cons_zero, List.set_cons_succ]
          refine wpAnyH_take (i := 5) (oi := ⟨some 45, _, _, _, _, _⟩) (v := ?_) rfl (by kernel_rfl) (by kernel_rfl) (by kernel_rfl) (fun _ _ _ h => h) (Or.inl ⟨by rfl, ?_⟩) hHeld ?_
          rotate_left
          · intro ww hSw
            (try dsimp only at hSw)
            go_simp
            (try with_reducible rfl)
          simp only [Act.put, List.setIfInBounds_toArray, List.set_cons_zero, List.set_cons_succ]
          refine wpAnyH_take (i := 6) (oi := ⟨some 46, _, _, _, _, _⟩) (v := ?_) rfl (by kernel_rfl) (by kernel_rfl) (by kernel_rfl) (fun _ _ _ h => h) (Or.inl ⟨by rfl, ?_⟩) hHeld ?_
          rotate_left
          · intro ww hSw
            (try dsimp only at hSw)
            go_simp
            (try with_reducible rfl)
          simp only [Act.put, List.setIfInBounds_toArray, List.set_cons_zero, List.set_cons_succ]
          refine wpAnyH_take (i := 7) (oi := ⟨some 47, _, _, _, _, _⟩) (v := .pointer (some ⟨bb, ob + i * 2, none⟩)) rfl (by kernel_rfl) (by kernel_rfl) (by kernel_rfl) (fun _ _ _ h => h) (Or.inl ⟨by rfl, ?_⟩) hHeld ?_
          · intro ww hSw
            (try dsimp only at hSw)
            go_simp
          simp only [Act.put, List.setIfInBounds_toArray, List.set_cons_zero, List.set_cons_succ]
          refine wpAnyH_take (i := 8) (oi := ⟨some 48, _, _, _, _, _⟩) (v := ?_) rfl (by kernel_rfl) (by kernel_rfl) (by kernel_rfl) (fun _ _ _ h => h) (Or.inl ⟨by rfl, ?_⟩) hHeld ?_
          rotate_left
          · intro ww hSw
            (try dsimp only at hSw)
            go_simp
            (try with_reducible rfl)
          simp only [Act.put, List.setIfInBounds_toArray, List.set_cons_zero, List.set_cons_succ]
          refine wpAnyH_take (i := 9) (oi := ⟨some 49, _, _, _, _, _⟩) (v := .int .i64 x.1) rfl (by kernel_rfl) (by kernel_rfl) (by kernel_rfl) (fun _ _ _ h => h) (Or.inl ⟨by rfl, ?_⟩) hHeld ?_
          · intro ww hSw
            (try dsimp only at hSw)
            have zc := (spans_at (HL3.out.below hSw) (by omega) x HX.out).1
            have zl := cell_lt zc
            go_simp
          simp only [Act.put, List.setIfInBounds_toArray, List.set_cons_zero, List.set_cons_succ]
          refine wpAnyH_take (i := 10) (oi := ⟨some 50, _, _, _, _, _⟩) (v := ?_) rfl (by kernel_rfl) (by kernel_rfl) (by kernel_rfl) (fun _ _ _ h => h) (Or.inl ⟨by rfl, ?_⟩) hHeld ?_
          rotate_left
          · intro ww hSw
            (try dsimp only at hSw)
            go_simp
            (try with_reducible rfl)
          simp only [Act.put, List.setIfInBounds_toArray, List.set_cons_zero, List.set_cons_succ]
          refine wpAnyH_take (i := 11) (oi := ⟨some 51, _, _, _, _, _⟩) (v := ?_) rfl (by kernel_rfl) (by kernel_rfl) (by kernel_rfl) (fun _ _ _ h => h) (Or.inl ⟨by rfl, ?_⟩) hHeld ?_
          rotate_left
          · intro ww hSw
            (try dsimp only at hSw)
            go_simp
            (try with_reducible rfl)
          simp only [Act.put, List.setIfInBounds_toArray, List.set_cons_zero, List.set_cons_succ]
          refine wpAnyH_take (i := 12) (oi := ⟨some 52, _, _, _, _, _⟩) (v := .pointer (some ⟨bb, ob + i * 2, none⟩)) rfl (by kernel_rfl) (by kernel_rfl) (by kernel_rfl) (fun _ _ _ h => h) (Or.inl ⟨by rfl, ?_⟩) hHeld ?_
          · intro ww hSw
            (try dsimp only at hSw)
            go_simp
          simp only [Act.put, List.setIfInBounds_toArray, List.set_cons_zero, List.set_cons_succ]
          refine wpAnyH_take (i := 13) (oi := ⟨some 53, _, _, _, _, _⟩) (v := ?_) rfl (by kernel_rfl) (by kernel_rfl) (by kernel_rfl) (fun _ _ _ h => h) (Or.inl ⟨by rfl, ?_⟩) hHeld ?_
          rotate_left
          · intro ww hSw
            (try dsimp only at hSw)
            go_simp
            (try with_reducible rfl)
          simp only [Act.put, List.setIfInBounds_toArray, List.set_cons_zero, List.set_cons_succ]
          refine wpAnyH_take (i := 14) (oi := ⟨some 54, _, _, _, _, _⟩) (v := .int .i64 x.2) rfl (by kernel_rfl) (by kernel_rfl) (by kernel_rfl) (fun _ _ _ h => h) (Or.inl ⟨by rfl, ?_⟩) hHeld ?_
          · intro ww hSw
            (try dsimp only at hSw)
            have zc := (spans_at (HL3.out.below hSw) (by omega) x HX.out).2
            have zl := cell_lt zc
            go_simp
          simp only [Act.put, List.setIfInBounds_toArray, List.set_cons_zero, List.set_cons_succ]
          refine wpAnyH_take (i := 15) (oi := ⟨some 55, _, _, _, _, _⟩) (v := ?_) rfl (by kernel_rfl) (by kernel_rfl) (by kernel_rfl) (fun _ _ _ h => h) (Or.inl ⟨by rfl, ?_⟩) hHeld ?_
          rotate_left
          · intro ww hSw
            (try dsimp only at hSw)
            go_simp
            (try with_reducible rfl)
          simp only [Act.put, List.setIfInBounds_toArray, List.set_cons_zero, List.set_cons_succ]
          refine wpAnyH_take (i := 16) (oi := ⟨some 56, _, _, _, _, _⟩) (v := .agg (pC (x.1, x.2, cat))) rfl (by kernel_rfl) (by kernel_rfl) (by kernel_rfl) (fun _ _ _ h => h) (Or.inl ⟨by rfl, ?_⟩) hHeld ?_
          · intro ww hSw
            (try dsimp only at hSw)
            go_simp
            (try with_reducible rfl)
            (try rfl)
          simp only [Act.put, List.setIfInBounds_toArray, List.set_cons_zero, List.set_cons_succ]
          refine wpAnyH_take (i := 19) (oi := ⟨some 59, _, _, _, _, _⟩) (v := ?_) rfl (by kernel_rfl) (by kernel_rfl) (by kernel_rfl) (fun _ _ _ h => h) (Or.inl ⟨by rfl, ?_⟩) hHeld ?_
          rotate_left
          · intro ww hSw
            (try dsimp only at hSw)
            go_simp
            (try with_reducible rfl)
          simp only [Act.put, List.setIfInBounds_toArray, List.set_cons_zero, List.set_cons_succ]
          obtain ⟨wd, hwd⟩ : ∃ wd, w6.drew = wd := ⟨_, rfl⟩
          have B3d : Hid (Below w6.heap.size w6 wd) := by rw [← hwd]; exact below_drew (Below.refl _ _)
          have H39d : Hid (Prts wd A39 k cD (D.take k)) := by rw [← hwd]; exact HS39.out
          have HSZ : Hid (wd.heap.size = w6.heap.size) := Lib.hid (by rw [← hwd]; rfl)
          rw [hwd]
          clear hwd
          refine wpAnyH_ready (rs := [0, 17]) (by kernel_rfl) (by simp) ?_
          refine AllReadyH.cons (o := ⟨some 40, _, _, _, _, _⟩) rfl (fun K hK => ?_) (AllReadyH.cons (o := ⟨some 57, _, _, _, _, _⟩) rfl (fun K hK => ?_) AllReadyH.nil)
          · skip
            go_simp
            refine hK.out _ _ ?_ (fun hHeld => ?_)
            · (try dsimp only)
              exact bel_alloc B3d.out _
            clear hK K
            (try simp only [Act.put, List.setIfInBounds_toArray, List.set_cons_zero, List.set_cons_succ])
            have R36 := Lib.hid (qrow_empty wd)
            have B36 := Lib.hid (bel_alloc B3d.out (.cells #[] 42))
            have H36 := Lib.hid (H39d.out.below (bel_alloc (Below.refl _ _) (.cells #[] 42)))
            refine wpAnyH_ready (rs := [4, 17]) (by kernel_rfl) (by simp) ?_
            refine AllReadyH.cons (o := ⟨some 44, _, _, _, _, _⟩) rfl (fun K hK => ?_) (AllReadyH.cons (o := ⟨some 57, _, _, _, _, _⟩) rfl (fun K hK => ?_) AllReadyH.nil)
            · skip
              obtain ⟨A40, c40, w40, hr40, row40, bel40, keep40⟩ := qrow_append (qrow_mono R36.out (Nat.le_of_eq HSZ.out.symm)) H36.out (show 0 + k ≤ 1000000000 by omega) B36.out.size (k := k) (by omega)
              have HR40 : Hid ((Builtin.append_ #[32, 32] 32 #[.slice (some ⟨wd.heap.size, 0, none⟩) 0 0, .slice A39 k cD]).run Tryz.prog (wd.alloc (.cells #[] 42)) = .ok (.slice A40 k c40) w40) := hr40
              have b40 := bel40 w6 (Nat.le_refl _) B36.out
              rw [List.nil_append] at row40
              have B40 := Lib.hid b40
              rw [if_pos (by rfl)]
              refine qwp_append_run HR40.out rfl rfl rfl ?_
              refine hK.out _ _ ?_ (fun hHeld => ?_)
              · (try dsimp only)
                exact B40.out
              clear hK K
              (try simp only [Act.put, List.setIfInBounds_toArray, List.set_cons_zero, List.set_cons_succ])
              refine wpAnyH_ready (rs := [17]) (by kernel_rfl) (by simp) ?_
              refine AllReadyH.cons (o := ⟨some 57, _, _, _, _, _⟩) rfl (fun K hK => ?_) AllReadyH.nil
              rw [if_pos (by rfl)]
              refine wp_build_p (x.1, x.2, cat) rfl rfl ?_
              refine hK.out _ _ ?_ (fun hHeld => ?_)
              · (try dsimp only)
                exact bel_alloc B40.out _
              clear hK K
              (try simp only [Act.put, List.setIfInBounds_toArray, List.set_cons_zero, List.set_cons_succ])
              have R40 := Lib.hid (row40.alloc (.cells (pC (x.1, x.2, cat)) 42))
              have X45 := Lib.hid (qprts_one w40 (x.1, x.2, cat))
              have B0 := Lib.hid (bel_alloc B40.out (.cells (pC (x.1, x.2, cat)) 42))
              obtain ⟨g45, hg45⟩ : ∃ g, w40.heap.size = g := ⟨_, rfl⟩
              rw [hg45] at X45
              rw [hg45]
              obtain ⟨wz, hwz⟩ : ∃ wz, w40.alloc (.cells (pC (x.1, x.2, cat)) 42) = wz := ⟨_, rfl⟩
              rw [hwz] at R40 X45 B0
              rw [hwz]
              clear hwz hg45 HR40 hr40 row40 bel40 keep40 b40 B40 R36 B36 H36 B3d H39d HSZ
              obtain ⟨A46, c46, w46, hr46, row46, bel46, keep46⟩ := qrow_append R40.out X45.out (show k + 1 ≤ 1000000000 by omega) B0.out.size (k := k + 1) rfl
              have HR46 : Hid ((Builtin.append_ #[32, 32] 32 #[.slice A40 k c40, .slice (some ⟨g45, 0, none⟩) 1 1]).run Tryz.prog wz = .ok (.slice A46 (k + 1) c46) w46) := hr46
              have b46 := bel46 w6 (Nat.le_refl _) B0.out
              have L6 := H6x.out w46 b46
              obtain ⟨A48, c48, w48, hr48, row48, bel48, keep48⟩ := qrow_append row46 L6 (show k + 1 + (q - k) ≤ 1000000000 by omega) b46.size (k := q + 1) (by omega)
              have HR48 : Hid ((Builtin.append_ #[32, 32] 32 #[.slice A46 (k + 1) c46, .slice A6 (q - k) c6]).run Tryz.prog w46 = .ok (.slice A48 (q + 1) c48) w48) := hr48
              have b48 := bel48 w6 (Nat.le_refl _) b46
              have E48 := Lib.hid (row48.prts (n := q + 1) (by rw [List.length_append, List.length_append, List.length_take, List.length_drop]; simp; omega))
              have hc48 := qrow_caps row48
              have B46 := Lib.hid b46
              have B48 := Lib.hid b48
              clear hr46 hr48 bel46 bel48 keep46 keep48 row46 row48 b46 b48 L6 R40 X45 B0
              refine wpAnyH_ready (rs := [18]) (by kernel_rfl) (by simp) ?_
              refine AllReadyH.cons (o := ⟨some 58, _, _, _, _, _⟩) rfl (fun K hK => ?_) AllReadyH.nil
              rw [if_pos (by rfl)]
              refine qwp_append_run HR46.out rfl rfl rfl ?_
              refine hK.out _ _ ?_ (fun hHeld => ?_)
              · (try dsimp only)
                exact B46.out
              clear hK K
              (try simp only [Act.put, List.setIfInBounds_toArray, List.set_cons_zero, List.set_cons_succ])
              refine wpAnyH_ready (rs := [20]) (by kernel_rfl) (by simp) ?_
              refine AllReadyH.cons (o := ⟨some 60, _, _, _, _, _⟩) rfl (fun K hK => ?_) AllReadyH.nil
              rw [if_pos (by rfl)]
              refine qwp_append_run HR48.out rfl rfl rfl ?_
              refine hK.out _ _ ?_ (fun hHeld => ?_)
              · (try dsimp only)
                exact B48.out
              clear hK K
              (try simp only [Act.put, List.setIfInBounds_toArray, List.set_cons_zero, List.set_cons_succ])
              refine wpAnyH_take (i := 21) (oi := ⟨some 0, _, _, _, _, _⟩) (v := ?_) rfl (by kernel_rfl) (by kernel_rfl) (by kernel_rfl) (fun _ _ _ h => h) (Or.inl ⟨by rfl, ?_⟩) hHeld ?_
              rotate_left
              · intro ww hSw
                (try dsimp only at hSw)
                go_simp
                (try with_reducible rfl)
              simp only [Act.put, List.setIfInBounds_toArray, List.set_cons_zero, List.set_cons_succ]
              refine wpAnyH_done (by kernel_rfl) ?_ _
              refine NoPanic.normal ?_
              clear HR46 HR48
              go_wp2
              go_roundg (m - (i + 1))
              case measure => omega
              case rel => exact ⟨i + 1, q + 1, A48, c48, rfl, by simp, by omega, by have := hqi2.out; omega, hc48.1, hc48.2, Lib.hid (by rw [HSTEP.out, HINS.out, List.append_cons]; exact E48.out), Lib.hid (bel_on HW3.out B48.out)⟩
            · skip
              rw [if_pos (by rfl)]
              refine wp_build_p (x.1, x.2, cat) rfl rfl ?_
              refine hK.out _ _ ?_ (fun hHeld => ?_)
              · (try dsimp only)
                exact bel_alloc B36.out _
              clear hK K
              (try simp only [Act.put, List.setIfInBounds_toArray, List.set_cons_zero, List.set_cons_succ])
              have R36b := Lib.hid ((qrow_mono R36.out (Nat.le_of_eq HSZ.out.symm)).alloc (.cells (pC (x.1, x.2, cat)) 42))
              have X45a := Lib.hid (qprts_one (wd.alloc (.cells #[] 42)) (x.1, x.2, cat))
              have B45 := Lib.hid (bel_alloc B36.out (.cells (pC (x.1, x.2, cat)) 42))
              have H39b := Lib.hid (H36.out.below (bel_alloc (Below.refl _ _) (.cells (pC (x.1, x.2, cat)) 42)))
              have hs45 : (wd.alloc (.cells #[] 42)).heap.size = wd.heap.size + 1 := by simp
              rw [hs45] at X45a
              (try rw [hs45])
              have hne : ¬ wd.heap.size + 1 = wd.heap.size := by omega
              have hlt45 : wd.heap.size + 1 < ((wd.alloc (.cells #[] 42)).alloc (.cells (pC (x.1, x.2, cat)) 42)).heap.size := by simp
              generalize hg45 : wd.heap.size + 1 = g45 at *
              generalize hg36 : wd.heap.size = g36 at *
              generalize hwy : (wd.alloc (.cells #[] 42)).alloc (.cells (pC (x.1, x.2, cat)) 42) = wy at *
              obtain ⟨A40, c40, w40, hr40, row40, bel40, keep40⟩ := qrow_append R36b.out H39b.out (show 0 + k ≤ 1000000000 by omega) B45.out.size (k := k) (by omega)
              have HR40 : Hid ((Builtin.append_ #[32, 32] 32 #[.slice (some ⟨g36, 0, none⟩) 0 0, .slice A39 k cD]).run Tryz.prog wy = .ok (.slice A40 k c40) w40) := hr40
              have b40 := bel40 w6 (Nat.le_refl _) B45.out
              rw [List.nil_append] at row40
              have B0 := Lib.hid b40
              have R40 := Lib.hid row40
              have X45 := Lib.hid (X45a.out.keep (w' := w40) (fun g hg => keep40 _ (by injection hg with hg; subst hg; exact hlt45) (fun g' hg' => by injection hg' with hg'; injection hg with hg; subst hg' hg; exact hne)))
              clear hr40 row40 bel40 keep40 b40 R36b X45a B45 H39b hne hlt45 hg45 hg36 hwy R36 B36 H36 B3d H39d HSZ hs45
              refine wpAnyH_ready (rs := [4]) (by kernel_rfl) (by simp) ?_
              refine AllReadyH.cons (o := ⟨some 44, _, _, _, _, _⟩) rfl (fun K hK => ?_) AllReadyH.nil
              rw [if_pos (by rfl)]
              refine qwp_append_run HR40.out rfl rfl rfl ?_
              refine hK.out _ _ ?_ (fun hHeld => ?_)
              · (try dsimp only)
                exact B0.out
              clear hK K
              (try simp only [Act.put, List.setIfInBounds_toArray, List.set_cons_zero, List.set_cons_succ])
              clear HR40
              obtain ⟨A46, c46, w46, hr46, row46, bel46, keep46⟩ := qrow_append R40.out X45.out (show k + 1 ≤ 1000000000 by omega) B0.out.size (k := k + 1) rfl
              have HR46 : Hid ((Builtin.append_ #[32, 32] 32 #[.slice A40 k c40, .slice (some ⟨g45, 0, none⟩) 1 1]).run Tryz.prog w40 = .ok (.slice A46 (k + 1) c46) w46) := hr46
              have b46 := bel46 w6 (Nat.le_refl _) B0.out
              have L6 := H6x.out w46 b46
              obtain ⟨A48, c48, w48, hr48, row48, bel48, keep48⟩ := qrow_append row46 L6 (show k + 1 + (q - k) ≤ 1000000000 by omega) b46.size (k := q + 1) (by omega)
              have HR48 : Hid ((Builtin.append_ #[32, 32] 32 #[.slice A46 (k + 1) c46, .slice A6 (q - k) c6]).run Tryz.prog w46 = .ok (.slice A48 (q + 1) c48) w48) := hr48
              have b48 := bel48 w6 (Nat.le_refl _) b46
              have E48 := Lib.hid (row48.prts (n := q + 1) (by rw [List.length_append, List.length_append, List.length_take, List.length_drop]; simp; omega))
              have hc48 := qrow_caps row48
              have B46 := Lib.hid b46
              have B48 := Lib.hid b48
              clear hr46 hr48 bel46 bel48 keep46 keep48 row46 row48 b46 b48 L6 R40 X45 B0
              refine wpAnyH_ready (rs := [18]) (by kernel_rfl) (by simp) ?_
              refine AllReadyH.cons (o := ⟨some 58, _, _, _, _, _⟩) rfl (fun K hK => ?_) AllReadyH.nil
              rw [if_pos (by rfl)]
              refine qwp_append_run HR46.out rfl rfl rfl ?_
              refine hK.out _ _ ?_ (fun hHeld => ?_)
              · (try dsimp only)
                exact B46.out
              clear hK K
              (try simp only [Act.put, List.setIfInBounds_toArray, List.set_cons_zero, List.set_cons_succ])
              refine wpAnyH_ready (rs := [20]) (by kernel_rfl) (by simp) ?_
              refine AllReadyH.cons (o := ⟨some 60, _, _, _, _, _⟩) rfl (fun K hK => ?_) AllReadyH.nil
              rw [if_pos (by rfl)]
              refine qwp_append_run HR48.out rfl rfl rfl ?_
              refine hK.out _ _ ?_ (fun hHeld => ?_)
              · (try dsimp only)
                exact B48.out
              clear hK K
              (try simp only [Act.put, List.setIfInBounds_toArray, List.set_cons_zero, List.set_cons_succ])
              refine wpAnyH_take (i := 21) (oi := ⟨some 0, _, _, _, _, _⟩) (v := ?_) rfl (by kernel_rfl) (by kernel_rfl) (by kernel_rfl) (fun _ _ _ h => h) (Or.inl ⟨by rfl, ?_⟩) hHeld ?_
              rotate_left
              · intro ww hSw
                (try dsimp only at hSw)
                go_simp
                (try with_reducible rfl)
              simp only [Act.put, List.setIfInBounds_toArray, List.set_cons_zero, List.set_cons_succ]
              refine wpAnyH_done (by kernel_rfl) ?_ _
              refine NoPanic.normal ?_
              clear HR46 HR48
              go_wp2
              go_roundg (m - (i + 1))
              case measure => omega
              case rel => exact ⟨i + 1, q + 1, A48, c48, rfl, by simp, by omega, by have := hqi2.out; omega, hc48.1, hc48.2, Lib.hid (by rw [HSTEP.out, HINS.out, List.append_cons]; exact E48.out), Lib.hid (bel_on HW3.out B48.out)⟩
          · skip
            rw [if_pos (by rfl)]
            refine wp_build_p (x.1, x.2, cat) rfl rfl ?_
            refine hK.out _ _ ?_ (fun hHeld => ?_)
            · (try dsimp only)
              exact bel_alloc B3d.out _
            clear hK K
            (try simp only [Act.put, List.setIfInBounds_toArray, List.set_cons_zero, List.set_cons_succ])
            refine wpAnyH_ready (rs := [0]) (by kernel_rfl) (by simp) ?_
            refine AllReadyH.cons (o := ⟨some 40, _, _, _, _, _⟩) rfl (fun K hK => ?_) AllReadyH.nil
            go_simp
            refine hK.out _ _ ?_ (fun hHeld => ?_)
            · (try dsimp only)
              exact bel_alloc (bel_alloc B3d.out _) _
            clear hK K
            (try simp only [Act.put, List.setIfInBounds_toArray, List.set_cons_zero, List.set_cons_succ])
            have R36b := Lib.hid (qrow_mono (qrow_empty (wd.alloc (.cells (pC (x.1, x.2, cat)) 42))) (by have := HSZ.out; simp; omega : w6.heap.size ≤ _))
            have X45a := Lib.hid ((qprts_one wd (x.1, x.2, cat)).below (bel_alloc (Below.refl _ _) (.cells #[] 42)))
            have B45 := Lib.hid (bel_alloc (bel_alloc B3d.out (.cells (pC (x.1, x.2, cat)) 42)) (.cells #[] 42))
            have H39b := Lib.hid (H39d.out.below (bel_alloc (bel_alloc (Below.refl _ _) (.cells (pC (x.1, x.2, cat)) 42)) (.cells #[] 42)))
            have hs45 : (wd.alloc (.cells (pC (x.1, x.2, cat)) 42)).heap.size = wd.heap.size + 1 := by simp
            rw [hs45] at R36b
            (try rw [hs45])
            have hne : ¬ wd.heap.size = wd.heap.size + 1 := by omega
            have hlt45 : wd.heap.size < ((wd.alloc (.cells (pC (x.1, x.2, cat)) 42)).alloc (.cells #[] 42)).heap.size := by simp; omega
            generalize hg36 : wd.heap.size + 1 = g36 at *
            generalize hg45 : wd.heap.size = g45 at *
            generalize hwy : (wd.alloc (.cells (pC (x.1, x.2, cat)) 42)).alloc (.cells #[] 42) = wy at *
            obtain ⟨A40, c40, w40, hr40, row40, bel40, keep40⟩ := qrow_append R36b.out H39b.out (show 0 + k ≤ 1000000000 by omega) B45.out.size (k := k) (by omega)
            have HR40 : Hid ((Builtin.append_ #[32, 32] 32 #[.slice (some ⟨g36, 0, none⟩) 0 0, .slice A39 k cD]).run Tryz.prog wy = .ok (.slice A40 k c40) w40) := hr40
            have b40 := bel40 w6 (Nat.le_refl _) B45.out
            rw [List.nil_append] at row40
            have B0 := Lib.hid b40
            have R40 := Lib.hid row40
            have X45 := Lib.hid (X45a.out.keep (w' := w40) (fun g hg => keep40 _ (by injection hg with hg; subst hg; exact hlt45) (fun g' hg' => by injection hg' with hg'; injection hg with hg; subst hg' hg; exact hne)))
            clear hr40 row40 bel40 keep40 b40 R36b X45a B45 H39b hne hlt45 hg45 hg36 hwy B3d H39d HSZ hs45
            refine wpAnyH_ready (rs := [4]) (by kernel_rfl) (by simp) ?_
            refine AllReadyH.cons (o := ⟨some 44, _, _, _, _, _⟩) rfl (fun K hK => ?_) AllReadyH.nil
            rw [if_pos (by rfl)]
            refine qwp_append_run HR40.out rfl rfl rfl ?_
            refine hK.out _ _ ?_ (fun hHeld => ?_)
            · (try dsimp only)
              exact B0.out
            clear hK K
            (try simp only [Act.put, List.setIfInBounds_toArray, List.set_cons_zero, List.set_cons_succ])
            clear HR40
            obtain ⟨A46, c46, w46, hr46, row46, bel46, keep46⟩ := qrow_append R40.out X45.out (show k + 1 ≤ 1000000000 by omega) B0.out.size (k := k + 1) rfl
            have HR46 : Hid ((Builtin.append_ #[32, 32] 32 #[.slice A40 k c40, .slice (some ⟨g45, 0, none⟩) 1 1]).run Tryz.prog w40 = .ok (.slice A46 (k + 1) c46) w46) := hr46
            have b46 := bel46 w6 (Nat.le_refl _) B0.out
            have L6 := H6x.out w46 b46
            obtain ⟨A48, c48, w48, hr48, row48, bel48, keep48⟩ := qrow_append row46 L6 (show k + 1 + (q - k) ≤ 1000000000 by omega) b46.size (k := q + 1) (by omega)
            have HR48 : Hid ((Builtin.append_ #[32, 32] 32 #[.slice A46 (k + 1) c46, .slice A6 (q - k) c6]).run Tryz.prog w46 = .ok (.slice A48 (q + 1) c48) w48) := hr48
            have b48 := bel48 w6 (Nat.le_refl _) b46
            have E48 := Lib.hid (row48.prts (n := q + 1) (by rw [List.length_append, List.length_append, List.length_take, List.length_drop]; simp; omega))
            have hc48 := qrow_caps row48
            have B46 := Lib.hid b46
            have B48 := Lib.hid b48
            clear hr46 hr48 bel46 bel48 keep46 keep48 row46 row48 b46 b48 L6 R40 X45 B0
            refine wpAnyH_ready (rs := [18]) (by kernel_rfl) (by simp) ?_
            refine AllReadyH.cons (o := ⟨some 58, _, _, _, _, _⟩) rfl (fun K hK => ?_) AllReadyH.nil
            rw [if_pos (by rfl)]
            refine qwp_append_run HR46.out rfl rfl rfl ?_
            refine hK.out _ _ ?_ (fun hHeld => ?_)
            · (try dsimp only)
              exact B46.out
            clear hK K
            (try simp only [Act.put, List.setIfInBounds_toArray, List.set_cons_zero, List.set_cons_succ])
            refine wpAnyH_ready (rs := [20]) (by kernel_rfl) (by simp) ?_
            refine AllReadyH.cons (o := ⟨some 60, _, _, _, _, _⟩) rfl (fun K hK => ?_) AllReadyH.nil
            rw [if_pos (by rfl)]
            refine qwp_append_run HR48.out rfl rfl rfl ?_
            refine hK.out _ _ ?_ (fun hHeld => ?_)
            · (try dsimp only)
              exact B48.out
            clear hK K
            (try simp only [Act.put, List.setIfInBounds_toArray, List.set_cons_zero, List.set_cons_succ])
            refine wpAnyH_take (i := 21) (oi := ⟨some 0, _, _, _, _, _⟩) (v := ?_) rfl (by kernel_rfl) (by kernel_rfl) (by kernel_rfl) (fun _ _ _ h => h) (Or.inl ⟨by rfl, ?_⟩) hHeld ?_
            rotate_left
            · intro ww hSw
              (try dsimp only at hSw)
              go_simp
              (try with_reducible rfl)
            simp only [Act.put, List.setIfInBounds_toArray, List.set_cons_zero, List.set_cons_succ]
            refine wpAnyH_done (by kernel_rfl) ?_ _
            refine NoPanic.normal ?_
            clear HR46 HR48
            go_wp2
            go_roundg (m - (i + 1))
            case measure => omega
            case rel => exact ⟨i + 1, q + 1, A48, c48, rfl, by simp, by omega, by have := hqi2.out; omega, hc48.1, hc48.2, Lib.hid (by rw [HSTEP.out, HINS.out, List.append_cons]; exact E48.out), Lib.hid (bel_on HW3.out B48.out)⟩
    · have hlt2 : ¬ (i : Int) < (m : Int) := by omega
      obtain rfl : i = m := by omega
      have e : ls.take i = ls := List.take_of_length_le (by omega)
      rw [e] at HD
      subst hqi
      clear e
      go_wp2
      go_ret
      exact ⟨DA, cD, rfl, HW.out, HD.out, hcD, hcm⟩
end Go.Proofs.YtdlimgpmmkcgmaaGreat
