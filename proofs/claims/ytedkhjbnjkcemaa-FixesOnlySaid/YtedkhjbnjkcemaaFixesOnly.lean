/-
  FixesOnly: a correction changes no other events, and there is one more, one less, or as many; they are in order.
-/
import Derived.Test.YtedkhjbnjkcemaaFixPq
namespace Go.Proofs.Ytedkhjbnjkcemaa
open Go.RowKit
set_option linter.unusedVariables false
set_option linter.unusedSimpArgs false
set_option maxRecDepth 100000

theorem wrapw9 {a : Int} (h0 : -9223372036854775808 ≤ a) (h1 : a < 9223372036854775808) : IntKind.i64.wrap a = a := by
  simp [IntKind.wrap, IntKind.bits, IntKind.signed]
  split <;> omega
set_option maxHeartbeats 16000000 in
theorem fixesOnly_main (s : SetP) (cs : Array Value) (w : World) (hW : SetF w s cs) (A : Option Addr) (n c : Nat) (l : List EvP) (h1 : Evs w A n c l) (hl : ∀ e ∈ l, e.In) (hnc : n ≤ c ∧ c ≤ 9223372036854775807) (k : Int) (x : EvP) (hx : x.In) (b : Bool) (hb : decide (s.Few ∧ n ≤ 100) = b) :
    Calls Try.prog 7 #[.agg cs, .slice A n c, .agg (fixC k x)] w fun e w' => e = .returned (.bool true) ∧ Below w.heap.size w w' := by
  have mixed : Try.prog.follows Departure.mixedOrders = true := by kernel_rfl
  have HZ := Lib.hid hW.size
  have HC0 := Lib.hid (cx_start (fx := fixC k x) h1 hW 30 35)
  have HNC := Lib.hid hnc
  have HI := Lib.hid hx
  obtain ⟨fx, hfx⟩ : ∃ fx, fixC k x = fx := ⟨_, rfl⟩
  have HZF : Hid (fx.size = 12) := Lib.hid (by rw [← hfx]; rfl)
  have HF0 : Hid (fx[0]? = some (.int .i64 k)) := Lib.hid (by rw [← hfx]; rfl)
  have HF1 : Hid (fx[1]? = some (.int .i64 x.id)) := Lib.hid (by rw [← hfx]; rfl)
  rw [hfx] at HC0 ⊢
  have HFX := Lib.hid hfx
  have HBB := Lib.hid hb
  have HL := Lib.hid h1.2
  clear hW h1 hnc hx hl hfx hb
  go_enter Try.func7, Try.ntmps7
  go_wp2_with fail
  obtain ⟨w0, hw0⟩ : ∃ w0, (w.alloc (.cells cs 30)).alloc (.cells fx 35) = w0 := ⟨_, rfl⟩
  rw [hw0] at HC0 ⊢
  clear hw0
  refine (awake13 _).mono ?_
  rintro e w1 ⟨rfl, hb1⟩
  have HC1 := Lib.hid (HC0.out.below hb1)
  clear HC0 hb1
  go_wp2_with (refine wpList_exec (o := ⟨some 20, _, _, _, _, _⟩) (by rfl) (exec_load_st _ rfl rfl HC1.out.sc HZ.out) ?_)
  refine (few13 s cs _ HC1.out.st A n c b HBB.out).mono ?_
  rintro e w2 ⟨rfl, hb2⟩
  have HC2 := Lib.hid (HC1.out.below hb2)
  clear HC1 hb2
  cases b with
  | false =>
    have HE := Lib.hid HC2.out.b
    clear HC2 HBB
    go_wp2
    go_ret
    exact ⟨rfl, HE.out⟩
  | true =>
    obtain ⟨hfew, hn⟩ := of_decide_eq_true HBB.out
    clear hfew HBB
    have hn' : (n : Int) < 9223372036854775807 := by omega
    have HP := Lib.hid (apply_any HC2.out.st.q A n c l k x w2 HC2.out.ev HNC.out (by omega) HI.out (mayS s x) rfl)
    rw [HFX.out] at HP
    obtain ⟨R, hR⟩ : ∃ R, applyE (mayS s x) l k x = R := ⟨_, rfl⟩
    rw [hR] at HP
    have HR := Lib.hid hR
    have hlen := applyE_len (mayS s x) l k x
    rw [hR, HL.out] at hlen
    clear hR
    go_wp2_with (first | refine wpList_exec (o := ⟨some 26, _, _, _, _, _⟩) (by rfl) (exec_load_st _ rfl rfl HC2.out.sc HZ.out) ?_ | refine wpList_exec (o := ⟨some 28, _, _, _, _, _⟩) (by rfl) (exec_load_fx _ rfl rfl HC2.out.fc HZF.out) ?_ | fail)
    refine HP.out.mono ?_
    rintro e w3 ⟨A1, n1, c1, rfl, he1, hc1, hd1, hb3⟩
    have HA3 := Lib.hid he1
    have HN1 := Lib.hid he1.2
    have HC3 := Lib.hid (HC2.out.below hb3)
    have hn1 : n1 ≤ 101 := by have := he1.2; omega
    clear HP he1 HC2 hb3 hc1 hd1 hlen
    obtain ⟨r, hr⟩ : ∃ r, Hid (R.2 = r) := ⟨_, rfl⟩
    rw [hr.out]
    by_cases g1 : r = 0
    · subst g1
      obtain ⟨xi, HXI⟩ : ∃ xi, Hid (x.id = xi) := ⟨_, rfl⟩
      go_wp2
      go_loopg [10] n (fun kx s10 wr => ∃ (p : Nat), s10 = .int .i64 p ∧ p + kx = n ∧ Hid (Below w3.heap.size w3 wr))
      case atStart => exact ⟨0, rfl, by omega, Lib.hid (Below.refl _ _)⟩
      case round =>
        obtain ⟨p, rfl, hp, HW⟩ := hrel
        by_cases hlt : p < n
        · have HCr := Lib.hid (HC3.out.below HW.out)
          obtain ⟨ba, oa, rfl⟩ := HCr.out.ev.form (by omega)
          have hp0 : (0 : Int) ≤ (p : Int) := by omega
          have hp1 : (p : Int) < (n : Int) := by omega
          have hp2 : ((p : Int)).toNat = p := by omega
          obtain ⟨y, hy⟩ : ∃ y, l.getD p EvP.none = y := ⟨_, rfl⟩
          have HY := Lib.hid hy
          clear hy
          obtain ⟨yi, HYI⟩ : ∃ yi, Hid (y.id = yi) := ⟨_, rfl⟩
          go_wp2_with fail
          by_cases hxy : yi = xi
          · have hxy' : (yi == xi) = true := by simpa using hxy
            clear hxy
            refine wp_region_noPanic ?_
            refine wp_region_held_drew (S := fun w' => Below wr.heap.size wr w') (by kernel_rfl) (below_drew (Below.refl _ _)) (fun hHeld => ?_)
            refine wpAnyH_take (i := 0) (oi := ⟨some 46, _, _, _, _, _⟩) (v := ?_) rfl (by kernel_rfl) (by kernel_rfl) (by kernel_rfl) (fun _ _ _ h => h) (Or.inl ⟨by rfl, ?_⟩) hHeld ?_
            rotate_left
            · intro ww hSw
              (try dsimp only at hSw)
              go_simp
              (try with_reducible rfl)
            simp only [Act.put, List.setIfInBounds_toArray, List.set_cons_zero, List.set_cons_succ]
            refine wpAnyH_take (i := 1) (oi := ⟨some 47, _, _, _, _, _⟩) (v := ?_) rfl (by kernel_rfl) (by kernel_rfl) (by kernel_rfl) (fun _ _ _ h => h) (Or.inl ⟨by rfl, ?_⟩) hHeld ?_
            rotate_left
            · intro ww hSw
              (try dsimp only at hSw)
              go_simp
              (try with_reducible rfl)
            simp only [Act.put, List.setIfInBounds_toArray, List.set_cons_zero, List.set_cons_succ]
            refine wpAnyH_take (i := 2) (oi := ⟨some 48, _, _, _, _, _⟩) (v := .pointer (some ⟨ba, oa + p * 11, none⟩)) rfl (by kernel_rfl) (by kernel_rfl) (by kernel_rfl) (fun _ _ _ h => h) (Or.inl ⟨by rfl, ?_⟩) hHeld ?_
            · intro ww hSw
              (try dsimp only at hSw)
              go_simp
            simp only [Act.put, List.setIfInBounds_toArray, List.set_cons_zero, List.set_cons_succ]
            refine wpAnyH_take (i := 3) (oi := ⟨some 49, _, _, _, _, _⟩) (v := ?_) rfl (by kernel_rfl) (by kernel_rfl) (by kernel_rfl) (fun _ _ _ h => h) (Or.inl ⟨by rfl, ?_⟩) hHeld ?_
            rotate_left
            · intro ww hSw
              (try dsimp only at hSw)
              go_simp
              (try with_reducible rfl)
            simp only [Act.put, List.setIfInBounds_toArray, List.set_cons_zero, List.set_cons_succ]
            refine wpAnyH_take (i := 4) (oi := ⟨some 50, _, _, _, _, _⟩) (v := .int .i64 yi) rfl (by kernel_rfl) (by kernel_rfl) (by kernel_rfl) (fun _ _ _ h => h) (Or.inl ⟨by rfl, ?_⟩) hHeld ?_
            · intro ww hSw
              (try dsimp only at hSw)
              have q0 := (evs_num (HCr.out.ev.below hSw) hlt y HY.out).1
              rw [HYI.out] at q0
              have q0z := cell_lt q0
              go_simp
            simp only [Act.put, List.setIfInBounds_toArray, List.set_cons_zero, List.set_cons_succ]
            refine wpAnyH_take (i := 5) (oi := ⟨some 51, _, _, _, _, _⟩) (v := ?_) rfl (by kernel_rfl) (by kernel_rfl) (by kernel_rfl) (fun _ _ _ h => h) (Or.inl ⟨by rfl, ?_⟩) hHeld ?_
            rotate_left
            · intro ww hSw
              (try dsimp only at hSw)
              go_simp
              (try with_reducible rfl)
            simp only [Act.put, List.setIfInBounds_toArray, List.set_cons_zero, List.set_cons_succ]
            refine wpAnyH_take (i := 6) (oi := ⟨some 52, _, _, _, _, _⟩) (v := ?_) rfl (by kernel_rfl) (by kernel_rfl) (by kernel_rfl) (fun _ _ _ h => h) (Or.inl ⟨by rfl, ?_⟩) hHeld ?_
            rotate_left
            · intro ww hSw
              (try dsimp only at hSw)
              go_simp
              (try with_reducible rfl)
            simp only [Act.put, List.setIfInBounds_toArray, List.set_cons_zero, List.set_cons_succ]
            refine wpAnyH_take (i := 7) (oi := ⟨some 53, _, _, _, _, _⟩) (v := .int .i64 xi) rfl (by kernel_rfl) (by kernel_rfl) (by kernel_rfl) (fun _ _ _ h => h) (Or.inl ⟨by rfl, ?_⟩) hHeld ?_
            · intro ww hSw
              (try dsimp only at hSw)
              have q1 := (HCr.out.fc.below hSw).cell 1 HF1.out
              rw [HXI.out] at q1
              have q1z := cell_lt q1
              go_simp
            simp only [Act.put, List.setIfInBounds_toArray, List.set_cons_zero, List.set_cons_succ]
            refine wpAnyH_take (i := 8) (oi := ⟨some 54, _, _, _, _, _⟩) (v := .bool true) rfl (by kernel_rfl) (by kernel_rfl) (by kernel_rfl) (fun _ _ _ h => h) (Or.inl ⟨by rfl, ?_⟩) hHeld ?_
            · intro ww hSw
              (try dsimp only at hSw)
              go_simp
            simp only [Act.put, List.setIfInBounds_toArray, List.set_cons_zero, List.set_cons_succ]
            refine wpAnyH_done (by kernel_rfl) ?_ _
            refine NoPanic.normal ?_
            go_wp2
            go_roundg (n - (p + 1))
            case measure => omega
            case rel => exact ⟨p + 1, by go_num, by omega, Lib.hid (below_drew HW.out)⟩
          · have hxy' : (yi == xi) = false := beq_eq_false_iff_ne.2 hxy
            have HNE : Hid (y.id ≠ x.id) := by show _ ≠ _; rw [HXI.out, HYI.out]; exact hxy
            clear hxy
            refine wp_region_noPanic ?_
            refine wp_region_held_drew (S := fun w' => Below wr.heap.size wr w') (by kernel_rfl) (below_drew (Below.refl _ _)) (fun hHeld => ?_)
            refine wpAnyH_take (i := 0) (oi := ⟨some 46, _, _, _, _, _⟩) (v := ?_) rfl (by kernel_rfl) (by kernel_rfl) (by kernel_rfl) (fun _ _ _ h => h) (Or.inl ⟨by rfl, ?_⟩) hHeld ?_
            rotate_left
            · intro ww hSw
              (try dsimp only at hSw)
              go_simp
              (try with_reducible rfl)
            simp only [Act.put, List.setIfInBounds_toArray, List.set_cons_zero, List.set_cons_succ]
            refine wpAnyH_take (i := 1) (oi := ⟨some 47, _, _, _, _, _⟩) (v := ?_) rfl (by kernel_rfl) (by kernel_rfl) (by kernel_rfl) (fun _ _ _ h => h) (Or.inl ⟨by rfl, ?_⟩) hHeld ?_
            rotate_left
            · intro ww hSw
              (try dsimp only at hSw)
              go_simp
              (try with_reducible rfl)
            simp only [Act.put, List.setIfInBounds_toArray, List.set_cons_zero, List.set_cons_succ]
            refine wpAnyH_take (i := 2) (oi := ⟨some 48, _, _, _, _, _⟩) (v := .pointer (some ⟨ba, oa + p * 11, none⟩)) rfl (by kernel_rfl) (by kernel_rfl) (by kernel_rfl) (fun _ _ _ h => h) (Or.inl ⟨by rfl, ?_⟩) hHeld ?_
            · intro ww hSw
              (try dsimp only at hSw)
              go_simp
            simp only [Act.put, List.setIfInBounds_toArray, List.set_cons_zero, List.set_cons_succ]
            refine wpAnyH_take (i := 3) (oi := ⟨some 49, _, _, _, _, _⟩) (v := ?_) rfl (by kernel_rfl) (by kernel_rfl) (by kernel_rfl) (fun _ _ _ h => h) (Or.inl ⟨by rfl, ?_⟩) hHeld ?_
            rotate_left
            · intro ww hSw
              (try dsimp only at hSw)
              go_simp
              (try with_reducible rfl)
            simp only [Act.put, List.setIfInBounds_toArray, List.set_cons_zero, List.set_cons_succ]
            refine wpAnyH_take (i := 4) (oi := ⟨some 50, _, _, _, _, _⟩) (v := .int .i64 yi) rfl (by kernel_rfl) (by kernel_rfl) (by kernel_rfl) (fun _ _ _ h => h) (Or.inl ⟨by rfl, ?_⟩) hHeld ?_
            · intro ww hSw
              (try dsimp only at hSw)
              have q0 := (evs_num (HCr.out.ev.below hSw) hlt y HY.out).1
              rw [HYI.out] at q0
              have q0z := cell_lt q0
              go_simp
            simp only [Act.put, List.setIfInBounds_toArray, List.set_cons_zero, List.set_cons_succ]
            refine wpAnyH_take (i := 5) (oi := ⟨some 51, _, _, _, _, _⟩) (v := ?_) rfl (by kernel_rfl) (by kernel_rfl) (by kernel_rfl) (fun _ _ _ h => h) (Or.inl ⟨by rfl, ?_⟩) hHeld ?_
            rotate_left
            · intro ww hSw
              (try dsimp only at hSw)
              go_simp
              (try with_reducible rfl)
            simp only [Act.put, List.setIfInBounds_toArray, List.set_cons_zero, List.set_cons_succ]
            refine wpAnyH_take (i := 6) (oi := ⟨some 52, _, _, _, _, _⟩) (v := ?_) rfl (by kernel_rfl) (by kernel_rfl) (by kernel_rfl) (fun _ _ _ h => h) (Or.inl ⟨by rfl, ?_⟩) hHeld ?_
            rotate_left
            · intro ww hSw
              (try dsimp only at hSw)
              go_simp
              (try with_reducible rfl)
            simp only [Act.put, List.setIfInBounds_toArray, List.set_cons_zero, List.set_cons_succ]
            refine wpAnyH_take (i := 7) (oi := ⟨some 53, _, _, _, _, _⟩) (v := .int .i64 xi) rfl (by kernel_rfl) (by kernel_rfl) (by kernel_rfl) (fun _ _ _ h => h) (Or.inl ⟨by rfl, ?_⟩) hHeld ?_
            · intro ww hSw
              (try dsimp only at hSw)
              have q1 := (HCr.out.fc.below hSw).cell 1 HF1.out
              rw [HXI.out] at q1
              have q1z := cell_lt q1
              go_simp
            simp only [Act.put, List.setIfInBounds_toArray, List.set_cons_zero, List.set_cons_succ]
            refine wpAnyH_take (i := 8) (oi := ⟨some 54, _, _, _, _, _⟩) (v := .bool false) rfl (by kernel_rfl) (by kernel_rfl) (by kernel_rfl) (fun _ _ _ h => h) (Or.inl ⟨by rfl, ?_⟩) hHeld ?_
            · intro ww hSw
              (try dsimp only at hSw)
              go_simp
            simp only [Act.put, List.setIfInBounds_toArray, List.set_cons_zero, List.set_cons_succ]
            refine wpAnyH_done (by kernel_rfl) ?_ _
            refine NoPanic.normal ?_
            clear hxy'
            replace HW := Lib.hid (below_drew HW.out)
            clear HCr hHeld
            generalize wr.drew = wo at *
            clear wr
            go_wp2
            go_loopg [11, 13] n (fun kx s11 s13 wr => ∃ (q c : Nat), s11 = .int .i64 c ∧ s13 = .int .i64 q ∧ q + kx = n ∧ c ≤ q ∧ Hid ((l.take q).count y = c) ∧ Hid (Below w3.heap.size w3 wr))
            case atStart => exact ⟨0, 0, rfl, rfl, by omega, by omega, Lib.hid (by simp), HW⟩
            case round =>
              obtain ⟨q, c, rfl, rfl, hq, hcq, HCT, HW2⟩ := hrel
              by_cases hlt2 : q < n
              · have hq0 : (0 : Int) ≤ (q : Int) := by omega
                have hq1 : (q : Int) < (n : Int) := by omega
                have hq2 : ((q : Int)).toNat = q := by omega
                obtain ⟨z, hz⟩ : ∃ z, l.getD q EvP.none = z := ⟨_, rfl⟩
                have HZZ := Lib.hid hz
                have HTK : Hid (l.take (q + 1) = l.take q ++ [z]) := by show _ = _; rw [← hz]; exact take_snoc_e (by rw [HL.out]; exact hlt2)
                clear hz
                go_wp2_with fail
                by_cases hzy : z = y
                · have HEQ : Hid (decide (z = y) = true) := Lib.hid (decide_eq_true hzy)
                  have HC9 : Hid ((l.take (q + 1)).count y = c + 1) := by show _ = _; rw [HTK.out, List.count_append, HCT.out, hzy]; simp
                  clear hzy
                  refine wp_region_noPanic ?_
                  refine wp_region_held_drew (S := fun w' => Below wr.heap.size wr w') (by kernel_rfl) (below_drew (Below.refl _ _)) (fun hHeld => ?_)
                  refine wpAnyH_take (i := 0) (oi := ⟨some 61, _, _, _, _, _⟩) (v := ?_) rfl (by kernel_rfl) (by kernel_rfl) (by kernel_rfl) (fun _ _ _ h => h) (Or.inl ⟨by rfl, ?_⟩) hHeld ?_
                  rotate_left
                  · intro ww hSw
                    (try dsimp only at hSw)
                    go_simp
                    (try with_reducible rfl)
                  simp only [Act.put, List.setIfInBounds_toArray, List.set_cons_zero, List.set_cons_succ]
                  refine wpAnyH_take (i := 1) (oi := ⟨some 62, _, _, _, _, _⟩) (v := ?_) rfl (by kernel_rfl) (by kernel_rfl) (by kernel_rfl) (fun _ _ _ h => h) (Or.inl ⟨by rfl, ?_⟩) hHeld ?_
                  rotate_left
                  · intro ww hSw
                    (try dsimp only at hSw)
                    go_simp
                    (try with_reducible rfl)
                  simp only [Act.put, List.setIfInBounds_toArray, List.set_cons_zero, List.set_cons_succ]
                  refine wpAnyH_take (i := 2) (oi := ⟨some 63, _, _, _, _, _⟩) (v := .pointer (some ⟨ba, oa + q * 11, none⟩)) rfl (by kernel_rfl) (by kernel_rfl) (by kernel_rfl) (fun _ _ _ h => h) (Or.inl ⟨by rfl, ?_⟩) hHeld ?_
                  · intro ww hSw
                    (try dsimp only at hSw)
                    go_simp
                  simp only [Act.put, List.setIfInBounds_toArray, List.set_cons_zero, List.set_cons_succ]
                  refine wpAnyH_take (i := 3) (oi := ⟨some 64, _, _, _, _, _⟩) (v := .agg (evC z)) rfl (by kernel_rfl) (by kernel_rfl) (by kernel_rfl) (fun _ _ _ h => h) (Or.inl ⟨by rfl, ?_⟩) hHeld ?_
                  · intro ww hSw
                    (try dsimp only at hSw)
                    rw [← HZZ.out]
                    exact exec_load_at _ rfl rfl (evs_load ((HC3.out.ev.below HW2.out).below hSw) hlt2)
                  simp only [Act.put, List.setIfInBounds_toArray, List.set_cons_zero, List.set_cons_succ]
                  refine wpAnyH_take (i := 4) (oi := ⟨some 65, _, _, _, _, _⟩) (v := ?_) rfl (by kernel_rfl) (by kernel_rfl) (by kernel_rfl) (fun _ _ _ h => h) (Or.inl ⟨by rfl, ?_⟩) hHeld ?_
                  rotate_left
                  · intro ww hSw
                    (try dsimp only at hSw)
                    go_simp
                    (try with_reducible rfl)
                  simp only [Act.put, List.setIfInBounds_toArray, List.set_cons_zero, List.set_cons_succ]
                  refine wpAnyH_take (i := 5) (oi := ⟨some 66, _, _, _, _, _⟩) (v := ?_) rfl (by kernel_rfl) (by kernel_rfl) (by kernel_rfl) (fun _ _ _ h => h) (Or.inl ⟨by rfl, ?_⟩) hHeld ?_
                  rotate_left
                  · intro ww hSw
                    (try dsimp only at hSw)
                    go_simp
                    (try with_reducible rfl)
                  simp only [Act.put, List.setIfInBounds_toArray, List.set_cons_zero, List.set_cons_succ]
                  refine wpAnyH_take (i := 6) (oi := ⟨some 67, _, _, _, _, _⟩) (v := .pointer (some ⟨ba, oa + p * 11, none⟩)) rfl (by kernel_rfl) (by kernel_rfl) (by kernel_rfl) (fun _ _ _ h => h) (Or.inl ⟨by rfl, ?_⟩) hHeld ?_
                  · intro ww hSw
                    (try dsimp only at hSw)
                    go_simp
                  simp only [Act.put, List.setIfInBounds_toArray, List.set_cons_zero, List.set_cons_succ]
                  refine wpAnyH_take (i := 7) (oi := ⟨some 68, _, _, _, _, _⟩) (v := .agg (evC y)) rfl (by kernel_rfl) (by kernel_rfl) (by kernel_rfl) (fun _ _ _ h => h) (Or.inl ⟨by rfl, ?_⟩) hHeld ?_
                  · intro ww hSw
                    (try dsimp only at hSw)
                    rw [← HY.out]
                    exact exec_load_at _ rfl rfl (evs_load ((HC3.out.ev.below HW2.out).below hSw) hlt)
                  simp only [Act.put, List.setIfInBounds_toArray, List.set_cons_zero, List.set_cons_succ]
                  refine wpAnyH_take (i := 8) (oi := ⟨some 69, _, _, _, _, _⟩) (v := .bool true) rfl (by kernel_rfl) (by kernel_rfl) (by kernel_rfl) (fun _ _ _ h => h) (Or.inl ⟨by rfl, ?_⟩) hHeld ?_
                  · intro ww hSw
                    (try dsimp only at hSw)
                    exact exec_eql_e rfl rfl rfl (by rw [run_ev_eql, HEQ.out])
                  simp only [Act.put, List.setIfInBounds_toArray, List.set_cons_zero, List.set_cons_succ]
                  refine wpAnyH_done (by kernel_rfl) ?_ _
                  refine NoPanic.normal ?_
                  go_wp2
                  go_roundg (n - (q + 1))
                  case measure => omega
                  case rel => exact ⟨q + 1, c + 1, by go_num, by go_num, by omega, by omega, HC9, Lib.hid (below_drew HW2.out)⟩
                · have HEQ : Hid (decide (z = y) = false) := Lib.hid (decide_eq_false hzy)
                  have HC9 : Hid ((l.take (q + 1)).count y = c) := by
                    show _ = _
                    rw [HTK.out, List.count_append, HCT.out]
                    have : [z].count y = 0 := by
                      rw [List.count_eq_zero]
                      intro hm
                      exact hzy (List.mem_singleton.1 hm).symm
                    omega
                  clear hzy
                  refine wp_region_noPanic ?_
                  refine wp_region_held_drew (S := fun w' => Below wr.heap.size wr w') (by kernel_rfl) (below_drew (Below.refl _ _)) (fun hHeld => ?_)
                  refine wpAnyH_take (i := 0) (oi := ⟨some 61, _, _, _, _, _⟩) (v := ?_) rfl (by kernel_rfl) (by kernel_rfl) (by kernel_rfl) (fun _ _ _ h => h) (Or.inl ⟨by rfl, ?_⟩) hHeld ?_
                  rotate_left
                  · intro ww hSw
                    (try dsimp only at hSw)
                    go_simp
                    (try with_reducible rfl)
                  simp only [Act.put, List.setIfInBounds_toArray, List.set_cons_zero, List.set_cons_succ]
                  refine wpAnyH_take (i := 1) (oi := ⟨some 62, _, _, _, _, _⟩) (v := ?_) rfl (by kernel_rfl) (by kernel_rfl) (by kernel_rfl) (fun _ _ _ h => h) (Or.inl ⟨by rfl, ?_⟩) hHeld ?_
                  rotate_left
                  · intro ww hSw
                    (try dsimp only at hSw)
                    go_simp
                    (try with_reducible rfl)
                  simp only [Act.put, List.setIfInBounds_toArray, List.set_cons_zero, List.set_cons_succ]
                  refine wpAnyH_take (i := 2) (oi := ⟨some 63, _, _, _, _, _⟩) (v := .pointer (some ⟨ba, oa + q * 11, none⟩)) rfl (by kernel_rfl) (by kernel_rfl) (by kernel_rfl) (fun _ _ _ h => h) (Or.inl ⟨by rfl, ?_⟩) hHeld ?_
                  · intro ww hSw
                    (try dsimp only at hSw)
                    go_simp
                  simp only [Act.put, List.setIfInBounds_toArray, List.set_cons_zero, List.set_cons_succ]
                  refine wpAnyH_take (i := 3) (oi := ⟨some 64, _, _, _, _, _⟩) (v := .agg (evC z)) rfl (by kernel_rfl) (by kernel_rfl) (by kernel_rfl) (fun _ _ _ h => h) (Or.inl ⟨by rfl, ?_⟩) hHeld ?_
                  · intro ww hSw
                    (try dsimp only at hSw)
                    rw [← HZZ.out]
                    exact exec_load_at _ rfl rfl (evs_load ((HC3.out.ev.below HW2.out).below hSw) hlt2)
                  simp only [Act.put, List.setIfInBounds_toArray, List.set_cons_zero, List.set_cons_succ]
                  refine wpAnyH_take (i := 4) (oi := ⟨some 65, _, _, _, _, _⟩) (v := ?_) rfl (by kernel_rfl) (by kernel_rfl) (by kernel_rfl) (fun _ _ _ h => h) (Or.inl ⟨by rfl, ?_⟩) hHeld ?_
                  rotate_left
                  · intro ww hSw
                    (try dsimp only at hSw)
                    go_simp
                    (try with_reducible rfl)
                  simp only [Act.put, List.setIfInBounds_toArray, List.set_cons_zero, List.set_cons_succ]
                  refine wpAnyH_take (i := 5) (oi := ⟨some 66, _, _, _, _, _⟩) (v := ?_) rfl (by kernel_rfl) (by kernel_rfl) (by kernel_rfl) (fun _ _ _ h => h) (Or.inl ⟨by rfl, ?_⟩) hHeld ?_
                  rotate_left
                  · intro ww hSw
                    (try dsimp only at hSw)
                    go_simp
                    (try with_reducible rfl)
                  simp only [Act.put, List.setIfInBounds_toArray, List.set_cons_zero, List.set_cons_succ]
                  refine wpAnyH_take (i := 6) (oi := ⟨some 67, _, _, _, _, _⟩) (v := .pointer (some ⟨ba, oa + p * 11, none⟩)) rfl (by kernel_rfl) (by kernel_rfl) (by kernel_rfl) (fun _ _ _ h => h) (Or.inl ⟨by rfl, ?_⟩) hHeld ?_
                  · intro ww hSw
                    (try dsimp only at hSw)
                    go_simp
                  simp only [Act.put, List.setIfInBounds_toArray, List.set_cons_zero, List.set_cons_succ]
                  refine wpAnyH_take (i := 7) (oi := ⟨some 68, _, _, _, _, _⟩) (v := .agg (evC y)) rfl (by kernel_rfl) (by kernel_rfl) (by kernel_rfl) (fun _ _ _ h => h) (Or.inl ⟨by rfl, ?_⟩) hHeld ?_
                  · intro ww hSw
                    (try dsimp only at hSw)
                    rw [← HY.out]
                    exact exec_load_at _ rfl rfl (evs_load ((HC3.out.ev.below HW2.out).below hSw) hlt)
                  simp only [Act.put, List.setIfInBounds_toArray, List.set_cons_zero, List.set_cons_succ]
                  refine wpAnyH_take (i := 8) (oi := ⟨some 69, _, _, _, _, _⟩) (v := .bool false) rfl (by kernel_rfl) (by kernel_rfl) (by kernel_rfl) (fun _ _ _ h => h) (Or.inl ⟨by rfl, ?_⟩) hHeld ?_
                  · intro ww hSw
                    (try dsimp only at hSw)
                    exact exec_eql_e rfl rfl rfl (by rw [run_ev_eql, HEQ.out])
                  simp only [Act.put, List.setIfInBounds_toArray, List.set_cons_zero, List.set_cons_succ]
                  refine wpAnyH_done (by kernel_rfl) ?_ _
                  refine NoPanic.normal ?_
                  go_wp2
                  go_roundg (n - (q + 1))
                  case measure => omega
                  case rel => exact ⟨q + 1, c, by go_num, by go_num, by omega, by omega, HC9, Lib.hid (below_drew HW2.out)⟩
              · have hqn : n = q := by omega
                subst hqn
                have eT : l.take n = l := by rw [← HL.out]; exact List.take_length
                rw [eT] at HCT
                clear eT HW
                replace HW := HW2
                clear HW2
                generalize wr = wo at *
                go_wp2
                have HC9 := HCT
                clear HCT
                obtain ⟨c9, hc9⟩ : ∃ c9, c = c9 := ⟨_, rfl⟩
                rw [hc9] at HC9 ⊢
                have HCC := Lib.hid hc9
                clear hc9
                go_loopg [12, 14] n1 (fun kx s11 s13 wr => ∃ (q c : Nat), s11 = .int .i64 c ∧ s13 = .int .i64 q ∧ q + kx = n1 ∧ c ≤ q ∧ Hid ((R.1.take q).count y = c) ∧ Hid (Below w3.heap.size w3 wr))
                case atStart => exact ⟨0, 0, rfl, rfl, by omega, by omega, Lib.hid (by simp), HW⟩
                case round =>
                  obtain ⟨q, c, rfl, rfl, hq, hcq, HCT, HW2⟩ := hrel
                  by_cases hlt2 : q < n1
                  · have hq0 : (0 : Int) ≤ (q : Int) := by omega
                    have hq1 : (q : Int) < (n1 : Int) := by omega
                    have hq2 : ((q : Int)).toNat = q := by omega
                    obtain ⟨b1, o1, rfl⟩ := HA3.out.form (by omega)
                    obtain ⟨z, hz⟩ : ∃ z, R.1.getD q EvP.none = z := ⟨_, rfl⟩
                    have HZZ := Lib.hid hz
                    have HTK : Hid (R.1.take (q + 1) = R.1.take q ++ [z]) := by show _ = _; rw [← hz]; exact take_snoc_e (by rw [HN1.out]; exact hlt2)
                    clear hz
                    go_wp2_with fail
                    by_cases hzy : z = y
                    · have HEQ : Hid (decide (z = y) = true) := Lib.hid (decide_eq_true hzy)
                      have HC9 : Hid ((R.1.take (q + 1)).count y = c + 1) := by show _ = _; rw [HTK.out, List.count_append, HCT.out, hzy]; simp
                      clear hzy
                      refine wp_region_noPanic ?_
                      refine wp_region_held_drew (S := fun w' => Below wr.heap.size wr w') (by kernel_rfl) (below_drew (Below.refl _ _)) (fun hHeld => ?_)
                      refine wpAnyH_take (i := 0) (oi := ⟨some 78, _, _, _, _, _⟩) (v := ?_) rfl (by kernel_rfl) (by kernel_rfl) (by kernel_rfl) (fun _ _ _ h => h) (Or.inl ⟨by rfl, ?_⟩) hHeld ?_
                      rotate_left
                      · intro ww hSw
                        (try dsimp only at hSw)
                        go_simp
                        (try with_reducible rfl)
                      simp only [Act.put, List.setIfInBounds_toArray, List.set_cons_zero, List.set_cons_succ]
                      refine wpAnyH_take (i := 1) (oi := ⟨some 79, _, _, _, _, _⟩) (v := ?_) rfl (by kernel_rfl) (by kernel_rfl) (by kernel_rfl) (fun _ _ _ h => h) (Or.inl ⟨by rfl, ?_⟩) hHeld ?_
                      rotate_left
                      · intro ww hSw
                        (try dsimp only at hSw)
                        go_simp
                        (try with_reducible rfl)
                      simp only [Act.put, List.setIfInBounds_toArray, List.set_cons_zero, List.set_cons_succ]
                      refine wpAnyH_take (i := 2) (oi := ⟨some 80, _, _, _, _, _⟩) (v := .pointer (some ⟨b1, o1 + q * 11, none⟩)) rfl (by kernel_rfl) (by kernel_rfl) (by kernel_rfl) (fun _ _ _ h => h) (Or.inl ⟨by rfl, ?_⟩) hHeld ?_
                      · intro ww hSw
                        (try dsimp only at hSw)
                        go_simp
                      simp only [Act.put, List.setIfInBounds_toArray, List.set_cons_zero, List.set_cons_succ]
                      refine wpAnyH_take (i := 3) (oi := ⟨some 81, _, _, _, _, _⟩) (v := .agg (evC z)) rfl (by kernel_rfl) (by kernel_rfl) (by kernel_rfl) (fun _ _ _ h => h) (Or.inl ⟨by rfl, ?_⟩) hHeld ?_
                      · intro ww hSw
                        (try dsimp only at hSw)
                        rw [← HZZ.out]
                        exact exec_load_at _ rfl rfl (evs_load ((HA3.out.below HW2.out).below hSw) hlt2)
                      simp only [Act.put, List.setIfInBounds_toArray, List.set_cons_zero, List.set_cons_succ]
                      refine wpAnyH_take (i := 4) (oi := ⟨some 82, _, _, _, _, _⟩) (v := ?_) rfl (by kernel_rfl) (by kernel_rfl) (by kernel_rfl) (fun _ _ _ h => h) (Or.inl ⟨by rfl, ?_⟩) hHeld ?_
                      rotate_left
                      · intro ww hSw
                        (try dsimp only at hSw)
                        go_simp
                        (try with_reducible rfl)
                      simp only [Act.put, List.setIfInBounds_toArray, List.set_cons_zero, List.set_cons_succ]
                      refine wpAnyH_take (i := 5) (oi := ⟨some 83, _, _, _, _, _⟩) (v := ?_) rfl (by kernel_rfl) (by kernel_rfl) (by kernel_rfl) (fun _ _ _ h => h) (Or.inl ⟨by rfl, ?_⟩) hHeld ?_
                      rotate_left
                      · intro ww hSw
                        (try dsimp only at hSw)
                        go_simp
                        (try with_reducible rfl)
                      simp only [Act.put, List.setIfInBounds_toArray, List.set_cons_zero, List.set_cons_succ]
                      refine wpAnyH_take (i := 6) (oi := ⟨some 84, _, _, _, _, _⟩) (v := .pointer (some ⟨ba, oa + p * 11, none⟩)) rfl (by kernel_rfl) (by kernel_rfl) (by kernel_rfl) (fun _ _ _ h => h) (Or.inl ⟨by rfl, ?_⟩) hHeld ?_
                      · intro ww hSw
                        (try dsimp only at hSw)
                        go_simp
                      simp only [Act.put, List.setIfInBounds_toArray, List.set_cons_zero, List.set_cons_succ]
                      refine wpAnyH_take (i := 7) (oi := ⟨some 85, _, _, _, _, _⟩) (v := .agg (evC y)) rfl (by kernel_rfl) (by kernel_rfl) (by kernel_rfl) (fun _ _ _ h => h) (Or.inl ⟨by rfl, ?_⟩) hHeld ?_
                      · intro ww hSw
                        (try dsimp only at hSw)
                        rw [← HY.out]
                        exact exec_load_at _ rfl rfl (evs_load ((HC3.out.ev.below HW2.out).below hSw) hlt)
                      simp only [Act.put, List.setIfInBounds_toArray, List.set_cons_zero, List.set_cons_succ]
                      refine wpAnyH_take (i := 8) (oi := ⟨some 86, _, _, _, _, _⟩) (v := .bool true) rfl (by kernel_rfl) (by kernel_rfl) (by kernel_rfl) (fun _ _ _ h => h) (Or.inl ⟨by rfl, ?_⟩) hHeld ?_
                      · intro ww hSw
                        (try dsimp only at hSw)
                        exact exec_eql_e rfl rfl rfl (by rw [run_ev_eql, HEQ.out])
                      simp only [Act.put, List.setIfInBounds_toArray, List.set_cons_zero, List.set_cons_succ]
                      refine wpAnyH_done (by kernel_rfl) ?_ _
                      refine NoPanic.normal ?_
                      go_wp2
                      go_roundg (n1 - (q + 1))
                      case measure => omega
                      case rel => exact ⟨q + 1, c + 1, by go_num, by go_num, by omega, by omega, HC9, Lib.hid (below_drew HW2.out)⟩
                    · have HEQ : Hid (decide (z = y) = false) := Lib.hid (decide_eq_false hzy)
                      have HC9 : Hid ((R.1.take (q + 1)).count y = c) := by
                        show _ = _
                        rw [HTK.out, List.count_append, HCT.out]
                        have : [z].count y = 0 := by
                          rw [List.count_eq_zero]
                          intro hm
                          exact hzy (List.mem_singleton.1 hm).symm
                        omega
                      clear hzy
                      refine wp_region_noPanic ?_
                      refine wp_region_held_drew (S := fun w' => Below wr.heap.size wr w') (by kernel_rfl) (below_drew (Below.refl _ _)) (fun hHeld => ?_)
                      refine wpAnyH_take (i := 0) (oi := ⟨some 78, _, _, _, _, _⟩) (v := ?_) rfl (by kernel_rfl) (by kernel_rfl) (by kernel_rfl) (fun _ _ _ h => h) (Or.inl ⟨by rfl, ?_⟩) hHeld ?_
                      rotate_left
                      · intro ww hSw
                        (try dsimp only at hSw)
                        go_simp
                        (try with_reducible rfl)
                      simp only [Act.put, List.setIfInBounds_toArray, List.set_cons_zero, List.set_cons_succ]
                      refine wpAnyH_take (i := 1) (oi := ⟨some 79, _, _, _, _, _⟩) (v := ?_) rfl (by kernel_rfl) (by kernel_rfl) (by kernel_rfl) (fun _ _ _ h => h) (Or.inl ⟨by rfl, ?_⟩) hHeld ?_
                      rotate_left
                      · intro ww hSw
                        (try dsimp only at hSw)
                        go_simp
                        (try with_reducible rfl)
                      simp only [Act.put, List.setIfInBounds_toArray, List.set_cons_zero, List.set_cons_succ]
                      refine wpAnyH_take (i := 2) (oi := ⟨some 80, _, _, _, _, _⟩) (v := .pointer (some ⟨b1, o1 + q * 11, none⟩)) rfl (by kernel_rfl) (by kernel_rfl) (by kernel_rfl) (fun _ _ _ h => h) (Or.inl ⟨by rfl, ?_⟩) hHeld ?_
                      · intro ww hSw
                        (try dsimp only at hSw)
                        go_simp
                      simp only [Act.put, List.setIfInBounds_toArray, List.set_cons_zero, List.set_cons_succ]
                      refine wpAnyH_take (i := 3) (oi := ⟨some 81, _, _, _, _, _⟩) (v := .agg (evC z)) rfl (by kernel_rfl) (by kernel_rfl) (by kernel_rfl) (fun _ _ _ h => h) (Or.inl ⟨by rfl, ?_⟩) hHeld ?_
                      · intro ww hSw
                        (try dsimp only at hSw)
                        rw [← HZZ.out]
                        exact exec_load_at _ rfl rfl (evs_load ((HA3.out.below HW2.out).below hSw) hlt2)
                      simp only [Act.put, List.setIfInBounds_toArray, List.set_cons_zero, List.set_cons_succ]
                      refine wpAnyH_take (i := 4) (oi := ⟨some 82, _, _, _, _, _⟩) (v := ?_) rfl (by kernel_rfl) (by kernel_rfl) (by kernel_rfl) (fun _ _ _ h => h) (Or.inl ⟨by rfl, ?_⟩) hHeld ?_
                      rotate_left
                      · intro ww hSw
                        (try dsimp only at hSw)
                        go_simp
                        (try with_reducible rfl)
                      simp only [Act.put, List.setIfInBounds_toArray, List.set_cons_zero, List.set_cons_succ]
                      refine wpAnyH_take (i := 5) (oi := ⟨some 83, _, _, _, _, _⟩) (v := ?_) rfl (by kernel_rfl) (by kernel_rfl) (by kernel_rfl) (fun _ _ _ h => h) (Or.inl ⟨by rfl, ?_⟩) hHeld ?_
                      rotate_left
                      · intro ww hSw
                        (try dsimp only at hSw)
                        go_simp
                        (try with_reducible rfl)
                      simp only [Act.put, List.setIfInBounds_toArray, List.set_cons_zero, List.set_cons_succ]
                      refine wpAnyH_take (i := 6) (oi := ⟨some 84, _, _, _, _, _⟩) (v := .pointer (some ⟨ba, oa + p * 11, none⟩)) rfl (by kernel_rfl) (by kernel_rfl) (by kernel_rfl) (fun _ _ _ h => h) (Or.inl ⟨by rfl, ?_⟩) hHeld ?_
                      · intro ww hSw
                        (try dsimp only at hSw)
                        go_simp
                      simp only [Act.put, List.setIfInBounds_toArray, List.set_cons_zero, List.set_cons_succ]
                      refine wpAnyH_take (i := 7) (oi := ⟨some 85, _, _, _, _, _⟩) (v := .agg (evC y)) rfl (by kernel_rfl) (by kernel_rfl) (by kernel_rfl) (fun _ _ _ h => h) (Or.inl ⟨by rfl, ?_⟩) hHeld ?_
                      · intro ww hSw
                        (try dsimp only at hSw)
                        rw [← HY.out]
                        exact exec_load_at _ rfl rfl (evs_load ((HC3.out.ev.below HW2.out).below hSw) hlt)
                      simp only [Act.put, List.setIfInBounds_toArray, List.set_cons_zero, List.set_cons_succ]
                      refine wpAnyH_take (i := 8) (oi := ⟨some 86, _, _, _, _, _⟩) (v := .bool false) rfl (by kernel_rfl) (by kernel_rfl) (by kernel_rfl) (fun _ _ _ h => h) (Or.inl ⟨by rfl, ?_⟩) hHeld ?_
                      · intro ww hSw
                        (try dsimp only at hSw)
                        exact exec_eql_e rfl rfl rfl (by rw [run_ev_eql, HEQ.out])
                      simp only [Act.put, List.setIfInBounds_toArray, List.set_cons_zero, List.set_cons_succ]
                      refine wpAnyH_done (by kernel_rfl) ?_ _
                      refine NoPanic.normal ?_
                      go_wp2
                      go_roundg (n1 - (q + 1))
                      case measure => omega
                      case rel => exact ⟨q + 1, c, by go_num, by go_num, by omega, by omega, HC9, Lib.hid (below_drew HW2.out)⟩
                  · have hqn : n1 = q := by omega
                    subst hqn
                    have eT : R.1.take n1 = R.1 := by rw [← HN1.out]; exact List.take_length
                    rw [eT] at HCT
                    obtain rfl : c = c9 := by rw [← HCT.out, ← HC9.out]; exact (only_count HR.out hr.out HNE.out).symm
                    go_wp2
                    go_roundg (n - (p + 1))
                    case measure => omega
                    case rel => exact ⟨p + 1, by go_num, by omega, HW2⟩
        · have hpn : n = p := by omega
          clear hp hlt
          subst hpn
          have HC4 := Lib.hid (HC3.out.below HW.out)
          have HA4 := Lib.hid (HA3.out.below HW.out)
          clear HC3 HA3 HW
          have q1 := HC4.out.fc.cell 1 HF1.out
          rw [HXI.out] at q1
          have q1z := cell_lt q1
          have HP := Lib.hid (find_any A1 n1 c1 R.1 xi wr HA4.out (by omega))
          go_wp2_with fail
          refine HP.out.mono ?_
          rintro e w5 ⟨rfl, hb5⟩
          clear HP q1 q1z
          obtain ⟨fe, hfe⟩ : ∃ fe, findE R.1 xi = fe := ⟨_, rfl⟩
          obtain ⟨fb, hfb⟩ : ∃ fb, (ixE R.1 xi).isSome = fb := ⟨_, rfl⟩
          rw [hfe, hfb]
          have HFE := Lib.hid hfe
          have HFB := Lib.hid hfb
          clear hfe hfb
          have hb5' := bel_on hb5 (bel_alloc (Below.refl w5.heap.size w5) (.cells (evC fe) 33))
          have HX6 := Lib.hid (Has.new w5 33 (evC fe) rfl)
          have HC6 := Lib.hid (HC4.out.below hb5')
          have HA6 := Lib.hid (HA4.out.below hb5')
          clear HC4 HA4 hb5 hb5'
          obtain ⟨w6, hw6⟩ : ∃ w6, w5.alloc (.cells (evC fe) 33) = w6 := ⟨_, rfl⟩
          rw [hw6] at HX6 HC6 HA6
          have q0 := HC6.out.fc.cell 0 HF0.out
          have q0z := cell_lt q0
          rcases only_len HR.out hr.out with ⟨hk, hln⟩ | ⟨hk, hln⟩ | ⟨hk, hln⟩
          · subst hk
            obtain ⟨f1, f2⟩ := only_find HR.out hr.out
            rw [HXI.out] at f1 f2
            have hfx2 : x = fe := by rw [← HFE.out, f1]
            subst hfx2
            obtain rfl : fb = true := by rw [← HFB.out, f2]
            have hmi : ((n : Int) + 1) = (n1 : Int) := by have := HN1.out; have := HL.out; omega
            clear f1 f2
            go_wp2_with (first | refine wpList_laid_e (evC x) 15 _ _ rfl rfl rfl rfl rfl rfl rfl rfl rfl (evC_one _) ?_ | fail)
            obtain ⟨M, hM⟩ : ∃ M, max n1 1 = M := ⟨_, rfl⟩
            have hM1 : 1 ≤ M := by omega
            have hM2 : n1 ≤ M := by omega
            have hM3 : M ≤ 101 := by omega
            have HMM := Lib.hid hM
            clear hM
            go_loopg [18] (M - 1) (fun kx s18 wr => ∃ (q : Nat), s18 = .int .i64 q ∧ 1 ≤ q ∧ q + kx = M ∧ Hid (Below w6.heap.size w6 wr))
            case atStart => exact ⟨1, rfl, by omega, by omega, Lib.hid (Below.refl _ _)⟩
            case round =>
              obtain ⟨q, rfl, hq, hqM, HW⟩ := hrel
              by_cases hlt : q < n1
              · have HAr := Lib.hid (HA6.out.below HW.out)
                obtain ⟨b1, o1, rfl⟩ := HAr.out.form (by omega)
                have hq0 : (0 : Int) ≤ (q : Int) := by omega
                have hq1 : (q : Int) < (n1 : Int) := by omega
                have hq2 : ((q : Int)).toNat = q := by omega
                have hq3 : (q : Int) - 1 = ((q - 1 : Nat) : Int) := by omega
                have hq4 : (0 : Int) ≤ ((q - 1 : Nat) : Int) := by omega
                have hq5 : ((q - 1 : Nat) : Int) < (n1 : Int) := by omega
                have hq6 : (((q - 1 : Nat) : Int)).toNat = q - 1 := by omega
                obtain ⟨u, hu⟩ : ∃ u, R.1.getD q EvP.none = u := ⟨_, rfl⟩
                obtain ⟨v, hv⟩ : ∃ v, R.1.getD (q - 1) EvP.none = v := ⟨_, rfl⟩
                have HRN : Hid (lessE u v = false) := by show _ = _; rw [← hu, ← hv]; exact ris_next (only_ris HR.out hr.out) hq (by rw [HN1.out]; exact hlt)
                have HU := Lib.hid hu
                have HV := Lib.hid hv
                clear hu hv
                go_wp2_with fail
                refine wp_region_noPanic ?_
                refine wp_region_held_drew (S := fun w' => Below wr.heap.size wr w') (by kernel_rfl) (below_drew (Below.refl _ _)) (fun hHeld => ?_)
                refine wpAnyH_take (i := 0) (oi := ⟨some 118, _, _, _, _, _⟩) (v := ?_) rfl (by kernel_rfl) (by kernel_rfl) (by kernel_rfl) (fun _ _ _ h => h) (Or.inl ⟨by rfl, ?_⟩) hHeld ?_
                rotate_left
                · intro ww hSw
                  (try dsimp only at hSw)
                  go_simp
                  (try with_reducible rfl)
                simp only [Act.put, List.setIfInBounds_toArray, List.set_cons_zero, List.set_cons_succ]
                refine wpAnyH_take (i := 1) (oi := ⟨some 119, _, _, _, _, _⟩) (v := ?_) rfl (by kernel_rfl) (by kernel_rfl) (by kernel_rfl) (fun _ _ _ h => h) (Or.inl ⟨by rfl, ?_⟩) hHeld ?_
                rotate_left
                · intro ww hSw
                  (try dsimp only at hSw)
                  go_simp
                  (try with_reducible rfl)
                simp only [Act.put, List.setIfInBounds_toArray, List.set_cons_zero, List.set_cons_succ]
                refine wpAnyH_take (i := 2) (oi := ⟨some 120, _, _, _, _, _⟩) (v := .pointer (some ⟨b1, o1 + q * 11, none⟩)) rfl (by kernel_rfl) (by kernel_rfl) (by kernel_rfl) (fun _ _ _ h => h) (Or.inl ⟨by rfl, ?_⟩) hHeld ?_
                · intro ww hSw
                  (try dsimp only at hSw)
                  go_simp
                simp only [Act.put, List.setIfInBounds_toArray, List.set_cons_zero, List.set_cons_succ]
                refine wpAnyH_take (i := 3) (oi := ⟨some 121, _, _, _, _, _⟩) (v := .agg (evC u)) rfl (by kernel_rfl) (by kernel_rfl) (by kernel_rfl) (fun _ _ _ h => h) (Or.inl ⟨by rfl, ?_⟩) hHeld ?_
                · intro ww hSw
                  (try dsimp only at hSw)
                  rw [← HU.out]
                  exact exec_load_at _ rfl rfl (evs_load (HAr.out.below hSw) hlt)
                simp only [Act.put, List.setIfInBounds_toArray, List.set_cons_zero, List.set_cons_succ]
                refine wpAnyH_take (i := 4) (oi := ⟨some 122, _, _, _, _, _⟩) (v := ?_) rfl (by kernel_rfl) (by kernel_rfl) (by kernel_rfl) (fun _ _ _ h => h) (Or.inl ⟨by rfl, ?_⟩) hHeld ?_
                rotate_left
                · intro ww hSw
                  (try dsimp only at hSw)
                  go_simp
                  (try with_reducible rfl)
                simp only [Act.put, List.setIfInBounds_toArray, List.set_cons_zero, List.set_cons_succ]
                refine wpAnyH_take (i := 5) (oi := ⟨some 123, _, _, _, _, _⟩) (v := ?_) rfl (by kernel_rfl) (by kernel_rfl) (by kernel_rfl) (fun _ _ _ h => h) (Or.inl ⟨by rfl, ?_⟩) hHeld ?_
                rotate_left
                · intro ww hSw
                  (try dsimp only at hSw)
                  go_simp
                  (try with_reducible rfl)
                simp only [Act.put, List.setIfInBounds_toArray, List.set_cons_zero, List.set_cons_succ]
                refine wpAnyH_take (i := 6) (oi := ⟨some 124, _, _, _, _, _⟩) (v := .int .i64 (q - 1 : Nat)) rfl (by kernel_rfl) (by kernel_rfl) (by kernel_rfl) (fun _ _ _ h => h) (Or.inl ⟨by rfl, ?_⟩) hHeld ?_
                · intro ww hSw
                  (try dsimp only at hSw)
                  go_simp
                  exact wrapw9 (by omega) (by omega)
                simp only [Act.put, List.setIfInBounds_toArray, List.set_cons_zero, List.set_cons_succ]
                refine wpAnyH_take (i := 7) (oi := ⟨some 125, _, _, _, _, _⟩) (v := .pointer (some ⟨b1, o1 + (q - 1) * 11, none⟩)) rfl (by kernel_rfl) (by kernel_rfl) (by kernel_rfl) (fun _ _ _ h => h) (Or.inl ⟨by rfl, ?_⟩) hHeld ?_
                · intro ww hSw
                  (try dsimp only at hSw)
                  go_simp
                simp only [Act.put, List.setIfInBounds_toArray, List.set_cons_zero, List.set_cons_succ]
                refine wpAnyH_take (i := 8) (oi := ⟨some 126, _, _, _, _, _⟩) (v := .agg (evC v)) rfl (by kernel_rfl) (by kernel_rfl) (by kernel_rfl) (fun _ _ _ h => h) (Or.inl ⟨by rfl, ?_⟩) hHeld ?_
                · intro ww hSw
                  (try dsimp only at hSw)
                  rw [← HV.out]
                  exact exec_load_at _ rfl rfl (evs_load (HAr.out.below hSw) (by omega))
                simp only [Act.put, List.setIfInBounds_toArray, List.set_cons_zero, List.set_cons_succ]
                refine wpAnyH_ready (rs := [9]) (by kernel_rfl) (by simp) ?_
                refine AllReadyH.cons (o := ⟨some 127, _, _, _, _, _⟩) rfl (fun K hK => ?_) AllReadyH.nil
                go_simp
                go_at_call 22
                refine (less_any u v _).mono ?_
                rintro e_r wn ⟨rfl, hbn⟩
                rw [HRN.out]
                have hbwn : Below wr.heap.size wr wn := bel_on (show Below wr.heap.size wr _ by (repeat' (first | with_reducible exact Below.refl _ _ | with_reducible assumption | with_reducible refine bel_alloc ?_ _ | with_reducible refine bel_set ?_ ?_ _ | with_reducible refine below_drewN ?_ _ | with_reducible refine below_drew ?_ | (simp; done) | (simp; omega) | omega))) hbn
                clear hbn
                go_wp2_with fail
                refine hK.out _ _ ?_ (fun hHeld => ?_)
                · (try dsimp only)
                  exact hbwn
                clear hK K
                (try simp only [Act.put, List.setIfInBounds_toArray, List.set_cons_zero, List.set_cons_succ])
                refine wpAnyH_done (by kernel_rfl) ?_ _
                refine NoPanic.normal ?_
                go_wp2
                go_roundg (M - (q + 1))
                case measure => omega
                case rel => exact ⟨q + 1, by go_num, by omega, by omega, Lib.hid (bel_on HW.out hbwn)⟩
              · have HC7 := Lib.hid (HC6.out.below HW.out)
                have HX7 := Lib.hid (HX6.out.below HW.out)
                have q0 := HC7.out.fc.cell 0 HF0.out
                have q0z := cell_lt q0
                have HE := Lib.hid HC7.out.b
                have HF7 : Hid (Has wr (w.heap.size + 1) (fixC 1 x)) := Lib.hid (by rw [HFX.out]; exact HC7.out.fc)
                go_wp2_with (first | refine wpList_exec (o := ⟨some 142, _, _, _, _, _⟩) (by rfl) (exec_load_at _ rfl rfl (has_load_e HX7.out)) ?_ | refine wpList_exec (o := ⟨some 144, _, _, _, _, _⟩) (by rfl) (exec_load_at _ rfl rfl (fix_loadE HF7.out)) ?_ | refine wpList_exec (o := ⟨some 145, _, _, _, _, _⟩) (by rfl) (exec_eql_e (v := .bool true) rfl rfl rfl (by rw [run_ev_eql]; simp)) ?_ | fail)
                go_ret
                exact ⟨rfl, HE.out⟩
          · subst hk
            have hmi : ((n : Int) - 1) = (n1 : Int) := by have := HN1.out; have := HL.out; omega
            go_wp2_with (first | refine wpList_laid_e (evC fe) 15 _ _ rfl rfl rfl rfl rfl rfl rfl rfl rfl (evC_one _) ?_ | fail)
            obtain ⟨M, hM⟩ : ∃ M, max n1 1 = M := ⟨_, rfl⟩
            have hM1 : 1 ≤ M := by omega
            have hM2 : n1 ≤ M := by omega
            have hM3 : M ≤ 101 := by omega
            have HMM := Lib.hid hM
            clear hM
            go_loopg [18] (M - 1) (fun kx s18 wr => ∃ (q : Nat), s18 = .int .i64 q ∧ 1 ≤ q ∧ q + kx = M ∧ Hid (Below w6.heap.size w6 wr))
            case atStart => exact ⟨1, rfl, by omega, by omega, Lib.hid (Below.refl _ _)⟩
            case round =>
              obtain ⟨q, rfl, hq, hqM, HW⟩ := hrel
              by_cases hlt : q < n1
              · have HAr := Lib.hid (HA6.out.below HW.out)
                obtain ⟨b1, o1, rfl⟩ := HAr.out.form (by omega)
                have hq0 : (0 : Int) ≤ (q : Int) := by omega
                have hq1 : (q : Int) < (n1 : Int) := by omega
                have hq2 : ((q : Int)).toNat = q := by omega
                have hq3 : (q : Int) - 1 = ((q - 1 : Nat) : Int) := by omega
                have hq4 : (0 : Int) ≤ ((q - 1 : Nat) : Int) := by omega
                have hq5 : ((q - 1 : Nat) : Int) < (n1 : Int) := by omega
                have hq6 : (((q - 1 : Nat) : Int)).toNat = q - 1 := by omega
                obtain ⟨u, hu⟩ : ∃ u, R.1.getD q EvP.none = u := ⟨_, rfl⟩
                obtain ⟨v, hv⟩ : ∃ v, R.1.getD (q - 1) EvP.none = v := ⟨_, rfl⟩
                have HRN : Hid (lessE u v = false) := by show _ = _; rw [← hu, ← hv]; exact ris_next (only_ris HR.out hr.out) hq (by rw [HN1.out]; exact hlt)
                have HU := Lib.hid hu
                have HV := Lib.hid hv
                clear hu hv
                go_wp2_with fail
                refine wp_region_noPanic ?_
                refine wp_region_held_drew (S := fun w' => Below wr.heap.size wr w') (by kernel_rfl) (below_drew (Below.refl _ _)) (fun hHeld => ?_)
                refine wpAnyH_take (i := 0) (oi := ⟨some 118, _, _, _, _, _⟩) (v := ?_) rfl (by kernel_rfl) (by kernel_rfl) (by kernel_rfl) (fun _ _ _ h => h) (Or.inl ⟨by rfl, ?_⟩) hHeld ?_
                rotate_left
                · intro ww hSw
                  (try dsimp only at hSw)
                  go_simp
                  (try with_reducible rfl)
                simp only [Act.put, List.setIfInBounds_toArray, List.set_cons_zero, List.set_cons_succ]
                refine wpAnyH_take (i := 1) (oi := ⟨some 119, _, _, _, _, _⟩) (v := ?_) rfl (by kernel_rfl) (by kernel_rfl) (by kernel_rfl) (fun _ _ _ h => h) (Or.inl ⟨by rfl, ?_⟩) hHeld ?_
                rotate_left
                · intro ww hSw
                  (try dsimp only at hSw)
                  go_simp
                  (try with_reducible rfl)
                simp only [Act.put, List.setIfInBounds_toArray, List.set_cons_zero, List.set_cons_succ]
                refine wpAnyH_take (i := 2) (oi := ⟨some 120, _, _, _, _, _⟩) (v := .pointer (some ⟨b1, o1 + q * 11, none⟩)) rfl (by kernel_rfl) (by kernel_rfl) (by kernel_rfl) (fun _ _ _ h => h) (Or.inl ⟨by rfl, ?_⟩) hHeld ?_
                · intro ww hSw
                  (try dsimp only at hSw)
                  go_simp
                simp only [Act.put, List.setIfInBounds_toArray, List.set_cons_zero, List.set_cons_succ]
                refine wpAnyH_take (i := 3) (oi := ⟨some 121, _, _, _, _, _⟩) (v := .agg (evC u)) rfl (by kernel_rfl) (by kernel_rfl) (by kernel_rfl) (fun _ _ _ h => h) (Or.inl ⟨by rfl, ?_⟩) hHeld ?_
                · intro ww hSw
                  (try dsimp only at hSw)
                  rw [← HU.out]
                  exact exec_load_at _ rfl rfl (evs_load (HAr.out.below hSw) hlt)
                simp only [Act.put, List.setIfInBounds_toArray, List.set_cons_zero, List.set_cons_succ]
                refine wpAnyH_take (i := 4) (oi := ⟨some 122, _, _, _, _, _⟩) (v := ?_) rfl (by kernel_rfl) (by kernel_rfl) (by kernel_rfl) (fun _ _ _ h => h) (Or.inl ⟨by rfl, ?_⟩) hHeld ?_
                rotate_left
                · intro ww hSw
                  (try dsimp only at hSw)
                  go_simp
                  (try with_reducible rfl)
                simp only [Act.put, List.setIfInBounds_toArray, List.set_cons_zero, List.set_cons_succ]
                refine wpAnyH_take (i := 5) (oi := ⟨some 123, _, _, _, _, _⟩) (v := ?_) rfl (by kernel_rfl) (by kernel_rfl) (by kernel_rfl) (fun _ _ _ h => h) (Or.inl ⟨by rfl, ?_⟩) hHeld ?_
                rotate_left
                · intro ww hSw
                  (try dsimp only at hSw)
                  go_simp
                  (try with_reducible rfl)
                simp only [Act.put, List.setIfInBounds_toArray, List.set_cons_zero, List.set_cons_succ]
                refine wpAnyH_take (i := 6) (oi := ⟨some 124, _, _, _, _, _⟩) (v := .int .i64 (q - 1 : Nat)) rfl (by kernel_rfl) (by kernel_rfl) (by kernel_rfl) (fun _ _ _ h => h) (Or.inl ⟨by rfl, ?_⟩) hHeld ?_
                · intro ww hSw
                  (try dsimp only at hSw)
                  go_simp
                  exact wrapw9 (by omega) (by omega)
                simp only [Act.put, List.setIfInBounds_toArray, List.set_cons_zero, List.set_cons_succ]
                refine wpAnyH_take (i := 7) (oi := ⟨some 125, _, _, _, _, _⟩) (v := .pointer (some ⟨b1, o1 + (q - 1) * 11, none⟩)) rfl (by kernel_rfl) (by kernel_rfl) (by kernel_rfl) (fun _ _ _ h => h) (Or.inl ⟨by rfl, ?_⟩) hHeld ?_
                · intro ww hSw
                  (try dsimp only at hSw)
                  go_simp
                simp only [Act.put, List.setIfInBounds_toArray, List.set_cons_zero, List.set_cons_succ]
                refine wpAnyH_take (i := 8) (oi := ⟨some 126, _, _, _, _, _⟩) (v := .agg (evC v)) rfl (by kernel_rfl) (by kernel_rfl) (by kernel_rfl) (fun _ _ _ h => h) (Or.inl ⟨by rfl, ?_⟩) hHeld ?_
                · intro ww hSw
                  (try dsimp only at hSw)
                  rw [← HV.out]
                  exact exec_load_at _ rfl rfl (evs_load (HAr.out.below hSw) (by omega))
                simp only [Act.put, List.setIfInBounds_toArray, List.set_cons_zero, List.set_cons_succ]
                refine wpAnyH_ready (rs := [9]) (by kernel_rfl) (by simp) ?_
                refine AllReadyH.cons (o := ⟨some 127, _, _, _, _, _⟩) rfl (fun K hK => ?_) AllReadyH.nil
                go_simp
                go_at_call 22
                refine (less_any u v _).mono ?_
                rintro e_r wn ⟨rfl, hbn⟩
                rw [HRN.out]
                have hbwn : Below wr.heap.size wr wn := bel_on (show Below wr.heap.size wr _ by (repeat' (first | with_reducible exact Below.refl _ _ | with_reducible assumption | with_reducible refine bel_alloc ?_ _ | with_reducible refine bel_set ?_ ?_ _ | with_reducible refine below_drewN ?_ _ | with_reducible refine below_drew ?_ | (simp; done) | (simp; omega) | omega))) hbn
                clear hbn
                go_wp2_with fail
                refine hK.out _ _ ?_ (fun hHeld => ?_)
                · (try dsimp only)
                  exact hbwn
                clear hK K
                (try simp only [Act.put, List.setIfInBounds_toArray, List.set_cons_zero, List.set_cons_succ])
                refine wpAnyH_done (by kernel_rfl) ?_ _
                refine NoPanic.normal ?_
                go_wp2
                go_roundg (M - (q + 1))
                case measure => omega
                case rel => exact ⟨q + 1, by go_num, by omega, by omega, Lib.hid (bel_on HW.out hbwn)⟩
              · have HC7 := Lib.hid (HC6.out.below HW.out)
                have HX7 := Lib.hid (HX6.out.below HW.out)
                have q0 := HC7.out.fc.cell 0 HF0.out
                have q0z := cell_lt q0
                have HE := Lib.hid HC7.out.b
                go_wp2
                go_ret
                exact ⟨rfl, HE.out⟩
          · subst hk
            have hmi : (n : Int) = (n1 : Int) := by have := HN1.out; have := HL.out; omega
            go_wp2_with (first | refine wpList_laid_e (evC fe) 15 _ _ rfl rfl rfl rfl rfl rfl rfl rfl rfl (evC_one _) ?_ | fail)
            obtain ⟨M, hM⟩ : ∃ M, max n1 1 = M := ⟨_, rfl⟩
            have hM1 : 1 ≤ M := by omega
            have hM2 : n1 ≤ M := by omega
            have hM3 : M ≤ 101 := by omega
            have HMM := Lib.hid hM
            clear hM
            go_loopg [18] (M - 1) (fun kx s18 wr => ∃ (q : Nat), s18 = .int .i64 q ∧ 1 ≤ q ∧ q + kx = M ∧ Hid (Below w6.heap.size w6 wr))
            case atStart => exact ⟨1, rfl, by omega, by omega, Lib.hid (Below.refl _ _)⟩
            case round =>
              obtain ⟨q, rfl, hq, hqM, HW⟩ := hrel
              by_cases hlt : q < n1
              · have HAr := Lib.hid (HA6.out.below HW.out)
                obtain ⟨b1, o1, rfl⟩ := HAr.out.form (by omega)
                have hq0 : (0 : Int) ≤ (q : Int) := by omega
                have hq1 : (q : Int) < (n1 : Int) := by omega
                have hq2 : ((q : Int)).toNat = q := by omega
                have hq3 : (q : Int) - 1 = ((q - 1 : Nat) : Int) := by omega
                have hq4 : (0 : Int) ≤ ((q - 1 : Nat) : Int) := by omega
                have hq5 : ((q - 1 : Nat) : Int) < (n1 : Int) := by omega
                have hq6 : (((q - 1 : Nat) : Int)).toNat = q - 1 := by omega
                obtain ⟨u, hu⟩ : ∃ u, R.1.getD q EvP.none = u := ⟨_, rfl⟩
                obtain ⟨v, hv⟩ : ∃ v, R.1.getD (q - 1) EvP.none = v := ⟨_, rfl⟩
                have HRN : Hid (lessE u v = false) := by show _ = _; rw [← hu, ← hv]; exact ris_next (only_ris HR.out hr.out) hq (by rw [HN1.out]; exact hlt)
                have HU := Lib.hid hu
                have HV := Lib.hid hv
                clear hu hv
                go_wp2_with fail
                refine wp_region_noPanic ?_
                refine wp_region_held_drew (S := fun w' => Below wr.heap.size wr w') (by kernel_rfl) (below_drew (Below.refl _ _)) (fun hHeld => ?_)
                refine wpAnyH_take (i := 0) (oi := ⟨some 118, _, _, _, _, _⟩) (v := ?_) rfl (by kernel_rfl) (by kernel_rfl) (by kernel_rfl) (fun _ _ _ h => h) (Or.inl ⟨by rfl, ?_⟩) hHeld ?_
                rotate_left
                · intro ww hSw
                  (try dsimp only at hSw)
                  go_simp
                  (try with_reducible rfl)
                simp only [Act.put, List.setIfInBounds_toArray, List.set_cons_zero, List.set_cons_succ]
                refine wpAnyH_take (i := 1) (oi := ⟨some 119, _, _, _, _, _⟩) (v := ?_) rfl (by kernel_rfl) (by kernel_rfl) (by kernel_rfl) (fun _ _ _ h => h) (Or.inl ⟨by rfl, ?_⟩) hHeld ?_
                rotate_left
                · intro ww hSw
                  (try dsimp only at hSw)
                  go_simp
                  (try with_reducible rfl)
                simp only [Act.put, List.setIfInBounds_toArray, List.set_cons_zero, List.set_cons_succ]
                refine wpAnyH_take (i := 2) (oi := ⟨some 120, _, _, _, _, _⟩) (v := .pointer (some ⟨b1, o1 + q * 11, none⟩)) rfl (by kernel_rfl) (by kernel_rfl) (by kernel_rfl) (fun _ _ _ h => h) (Or.inl ⟨by rfl, ?_⟩) hHeld ?_
                · intro ww hSw
                  (try dsimp only at hSw)
                  go_simp
                simp only [Act.put, List.setIfInBounds_toArray, List.set_cons_zero, List.set_cons_succ]
                refine wpAnyH_take (i := 3) (oi := ⟨some 121, _, _, _, _, _⟩) (v := .agg (evC u)) rfl (by kernel_rfl) (by kernel_rfl) (by kernel_rfl) (fun _ _ _ h => h) (Or.inl ⟨by rfl, ?_⟩) hHeld ?_
                · intro ww hSw
                  (try dsimp only at hSw)
                  rw [← HU.out]
                  exact exec_load_at _ rfl rfl (evs_load (HAr.out.below hSw) hlt)
                simp only [Act.put, List.setIfInBounds_toArray, List.set_cons_zero, List.set_cons_succ]
                refine wpAnyH_take (i := 4) (oi := ⟨some 122, _, _, _, _, _⟩) (v := ?_) rfl (by kernel_rfl) (by kernel_rfl) (by kernel_rfl) (fun _ _ _ h => h) (Or.inl ⟨by rfl, ?_⟩) hHeld ?_
                rotate_left
                · intro ww hSw
                  (try dsimp only at hSw)
                  go_simp
                  (try with_reducible rfl)
                simp only [Act.put, List.setIfInBounds_toArray, List.set_cons_zero, List.set_cons_succ]
                refine wpAnyH_take (i := 5) (oi := ⟨some 123, _, _, _, _, _⟩) (v := ?_) rfl (by kernel_rfl) (by kernel_rfl) (by kernel_rfl) (fun _ _ _ h => h) (Or.inl ⟨by rfl, ?_⟩) hHeld ?_
                rotate_left
                · intro ww hSw
                  (try dsimp only at hSw)
                  go_simp
                  (try with_reducible rfl)
                simp only [Act.put, List.setIfInBounds_toArray, List.set_cons_zero, List.set_cons_succ]
                refine wpAnyH_take (i := 6) (oi := ⟨some 124, _, _, _, _, _⟩) (v := .int .i64 (q - 1 : Nat)) rfl (by kernel_rfl) (by kernel_rfl) (by kernel_rfl) (fun _ _ _ h => h) (Or.inl ⟨by rfl, ?_⟩) hHeld ?_
                · intro ww hSw
                  (try dsimp only at hSw)
                  go_simp
                  exact wrapw9 (by omega) (by omega)
                simp only [Act.put, List.setIfInBounds_toArray, List.set_cons_zero, List.set_cons_succ]
                refine wpAnyH_take (i := 7) (oi := ⟨some 125, _, _, _, _, _⟩) (v := .pointer (some ⟨b1, o1 + (q - 1) * 11, none⟩)) rfl (by kernel_rfl) (by kernel_rfl) (by kernel_rfl) (fun _ _ _ h => h) (Or.inl ⟨by rfl, ?_⟩) hHeld ?_
                · intro ww hSw
                  (try dsimp only at hSw)
                  go_simp
                simp only [Act.put, List.setIfInBounds_toArray, List.set_cons_zero, List.set_cons_succ]
                refine wpAnyH_take (i := 8) (oi := ⟨some 126, _, _, _, _, _⟩) (v := .agg (evC v)) rfl (by kernel_rfl) (by kernel_rfl) (by kernel_rfl) (fun _ _ _ h => h) (Or.inl ⟨by rfl, ?_⟩) hHeld ?_
                · intro ww hSw
                  (try dsimp only at hSw)
                  rw [← HV.out]
                  exact exec_load_at _ rfl rfl (evs_load (HAr.out.below hSw) (by omega))
                simp only [Act.put, List.setIfInBounds_toArray, List.set_cons_zero, List.set_cons_succ]
                refine wpAnyH_ready (rs := [9]) (by kernel_rfl) (by simp) ?_
                refine AllReadyH.cons (o := ⟨some 127, _, _, _, _, _⟩) rfl (fun K hK => ?_) AllReadyH.nil
                go_simp
                go_at_call 22
                refine (less_any u v _).mono ?_
                rintro e_r wn ⟨rfl, hbn⟩
                rw [HRN.out]
                have hbwn : Below wr.heap.size wr wn := bel_on (show Below wr.heap.size wr _ by (repeat' (first | with_reducible exact Below.refl _ _ | with_reducible assumption | with_reducible refine bel_alloc ?_ _ | with_reducible refine bel_set ?_ ?_ _ | with_reducible refine below_drewN ?_ _ | with_reducible refine below_drew ?_ | (simp; done) | (simp; omega) | omega))) hbn
                clear hbn
                go_wp2_with fail
                refine hK.out _ _ ?_ (fun hHeld => ?_)
                · (try dsimp only)
                  exact hbwn
                clear hK K
                (try simp only [Act.put, List.setIfInBounds_toArray, List.set_cons_zero, List.set_cons_succ])
                refine wpAnyH_done (by kernel_rfl) ?_ _
                refine NoPanic.normal ?_
                go_wp2
                go_roundg (M - (q + 1))
                case measure => omega
                case rel => exact ⟨q + 1, by go_num, by omega, by omega, Lib.hid (bel_on HW.out hbwn)⟩
              · have HC7 := Lib.hid (HC6.out.below HW.out)
                have HX7 := Lib.hid (HX6.out.below HW.out)
                have q0 := HC7.out.fc.cell 0 HF0.out
                have q0z := cell_lt q0
                have HE := Lib.hid HC7.out.b
                go_wp2
                go_ret
                exact ⟨rfl, HE.out⟩
    · have g1' : (r == 0) = false := beq_eq_false_iff_ne.2 g1
      have g1'' : (r != 0) = true := by simpa using g1
      have hn2 : n1 = 0 := by rw [← HN1.out, apply_bad HR.out (by rw [hr.out]; exact g1)]; rfl
      subst hn2
      have HE := Lib.hid HC3.out.b
      clear HC3 HA3 g1 HN1 HR
      go_wp2
      go_ret
      exact ⟨rfl, HE.out⟩
theorem fixesOnly_walk (s : SetP) (A1 A2 A3 A4 A5 A6 : Option Addr) (c1 c2 c3 c4 c5 c6 : Nat) (a1 : Option Addr) (len1 cap1 : Nat) (z1 : List EvP) (k : Int) (x : EvP) (w : World) (hs : SetAt w s A1 A2 A3 A4 A5 A6 c1 c2 c3 c4 c5 c6) (hf : s.Fit)
    (s1 : Evs w a1 len1 cap1 z1) (i1 : ∀ e ∈ z1, e.In) (l1 : len1 ≤ cap1) (l1' : cap1 ≤ 9223372036854775807) (hk : -9223372036854775808 ≤ k ∧ k ≤ 9223372036854775807) (hx : x.In) :
    Calls Try.prog 7 #[setV s A1 A2 A3 A4 A5 A6 c1 c2 c3 c4 c5 c6, .slice a1 len1 cap1, .agg (fixC k x)] w fun e w' => e = .returned (.bool true) ∧ Below w.heap.size w w' := by
  obtain ⟨cs, hcs⟩ : ∃ cs, setV s A1 A2 A3 A4 A5 A6 c1 c2 c3 c4 c5 c6 = .agg cs := ⟨_, rfl⟩
  have hW := setF_of hcs hs hf
  rw [hcs]
  exact fixesOnly_main s cs w hW a1 len1 cap1 z1 s1 i1 ⟨l1, l1'⟩ k x hx _ rfl
end Go.Proofs.Ytedkhjbnjkcemaa
