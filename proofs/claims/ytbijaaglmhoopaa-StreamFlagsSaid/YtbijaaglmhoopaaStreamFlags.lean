/-
  The law StreamFlags, walked.
-/
import Derived.Test.YtbijaaglmhoopaaZbd
import Derived.Test.YtbijaaglmhoopaaStrPn
namespace Go.Proofs.Ytbijaaglmhoopaa
open Go.RowKit
set_option linter.unusedVariables false
set_option linter.unusedSimpArgs false
set_option maxRecDepth 20000

theorem streamFlags_no (s : SetP) (cs : Array Value) (w : World) (hW : SetW w s cs) (A : Option Addr) (n c : Nat) (l : List EvP) (h : Evs w A n c l) (hIn : ∀ e ∈ l, e.In) (wk : Int) (hF : decide (s.Few ∧ n ≤ 100) = false) :
    Calls Try.prog 5 #[.agg cs, .slice A n c, .int .i64 wk] w fun e w' => e = .returned (.bool true) ∧ Below w.heap.size w w' := by
  have HF := Lib.hid hF
  clear hF
  have HZ := Lib.hid hW.size
  have hb0 := bel_alloc (Below.refl w.heap.size w) (.cells cs 30)
  have HB := Lib.hid (Has.new w 30 cs rfl)
  have HS := Lib.hid (hW.below hb0)
  have HE := Lib.hid (h.below hb0)
  have HW := Lib.hid hb0
  have HIN := Lib.hid hIn
  clear hW h hb0 hIn
  go_enter Try.func5, Try.ntmps5
  go_wp2_with fail
  refine (awake12 _).mono ?_
  rintro e w1 ⟨rfl, b1⟩
  replace HB := Lib.hid (HB.out.below b1)
  replace HS := Lib.hid (HS.out.below b1)
  replace HE := Lib.hid (HE.out.below b1)
  replace HW := Lib.hid (bel_on HW.out b1)
  clear b1
  go_wp2_with (refine wpList_exec (o := ⟨some 20, _, _, _, _, _⟩) (by rfl) (exec_load_st _ rfl rfl HB.out HZ.out) ?_)
  refine (few12 s cs _ HS.out A n c _ HF.out).mono ?_
  rintro e w2 ⟨rfl, b2⟩
  replace HB := Lib.hid (HB.out.below b2)
  replace HS := Lib.hid (HS.out.below b2)
  replace HE := Lib.hid (HE.out.below b2)
  replace HW := Lib.hid (bel_on HW.out b2)
  clear b2
  go_wp2
  go_ret
  exact ⟨rfl, HW.out⟩
theorem streamFlags_nock (s : SetP) (cs : Array Value) (w : World) (hW : SetW w s cs) (A : Option Addr) (n c : Nat) (l : List EvP) (h : Evs w A n c l) (hIn : ∀ e ∈ l, e.In) (wk : Int) (hF : decide (s.Few ∧ n ≤ 100) = true) (hck : checkB s = false) :
    Calls Try.prog 5 #[.agg cs, .slice A n c, .int .i64 wk] w fun e w' => e = .returned (.bool true) ∧ Below w.heap.size w w' := by
  have HF := Lib.hid hF
  have HCK := Lib.hid hck
  have HFT := Lib.hid hW.f
  clear hF hck
  have HZ := Lib.hid hW.size
  have hb0 := bel_alloc (Below.refl w.heap.size w) (.cells cs 30)
  have HB := Lib.hid (Has.new w 30 cs rfl)
  have HS := Lib.hid (hW.below hb0)
  have HE := Lib.hid (h.below hb0)
  have HW := Lib.hid hb0
  have HIN := Lib.hid hIn
  clear hW h hb0 hIn
  go_enter Try.func5, Try.ntmps5
  go_wp2_with fail
  refine (awake12 _).mono ?_
  rintro e w1 ⟨rfl, b1⟩
  replace HB := Lib.hid (HB.out.below b1)
  replace HS := Lib.hid (HS.out.below b1)
  replace HE := Lib.hid (HE.out.below b1)
  replace HW := Lib.hid (bel_on HW.out b1)
  clear b1
  go_wp2_with (refine wpList_exec (o := ⟨some 20, _, _, _, _, _⟩) (by rfl) (exec_load_st _ rfl rfl HB.out HZ.out) ?_)
  refine (few12 s cs _ HS.out A n c _ HF.out).mono ?_
  rintro e w2 ⟨rfl, b2⟩
  replace HB := Lib.hid (HB.out.below b2)
  replace HS := Lib.hid (HS.out.below b2)
  replace HE := Lib.hid (HE.out.below b2)
  replace HW := Lib.hid (bel_on HW.out b2)
  clear b2
  go_wp2_with (refine wpList_exec (o := ⟨some 25, _, _, _, _, _⟩) (by rfl) (exec_load_st _ rfl rfl HB.out HZ.out) ?_)
  refine (scheck_c HS.out.c HFT.out _ HCK.out).mono ?_
  rintro e w3 ⟨rfl, b3⟩
  replace HB := Lib.hid (HB.out.below b3)
  replace HS := Lib.hid (HS.out.below b3)
  replace HE := Lib.hid (HE.out.below b3)
  replace HW := Lib.hid (bel_on HW.out b3)
  clear b3
  go_wp2
  go_ret
  exact ⟨rfl, HW.out⟩
set_option maxHeartbeats 64000000 in
theorem streamFlags_main (s : SetP) (cs : Array Value) (w : World) (hW : SetW w s cs) (A : Option Addr) (n c : Nat) (l : List EvP) (h : Evs w A n c l) (hIn : ∀ e ∈ l, e.In) (wk : Int) (hF : decide (s.Few ∧ n ≤ 100) = true) (hck : checkB s = true) :
    Calls Try.prog 5 #[.agg cs, .slice A n c, .int .i64 wk] w fun e w' => e = .returned (.bool true) ∧ Below w.heap.size w w' := by
  have hn : n ≤ 100 := (of_decide_eq_true hF).2
  have mixed : Try.prog.follows Departure.mixedOrders = true := by kernel_rfl
  have hM := check_iff.1 hck
  have HM := Lib.hid hM
  have HF := Lib.hid hF
  have HCK := Lib.hid hck
  have HFT := Lib.hid hW.f
  have HQS := Lib.hid hW.q
  have HLE := Lib.hid (flagsOf_len s wk l)
  have HSUM := Lib.hid (fun hd => flags_sum (wk := wk) (l := l) hM hd)
  have HCKE : Hid (∀ (x : EvP), x.In → ∀ (b : Bool), mayE s.places s.elements.length s.classes.length s.gears.length s.rates.length x = b → ∀ W, Calls Try.prog 18 #[.agg cs, .agg (evC x)] W fun r w' => r = .returned (.bool b) ∧ Below W.heap.size W w') := fun x hi b hb W => echeck_any cs _ _ _ _ _ HQS.out x hi W b hb
  generalize mayE s.places s.elements.length s.classes.length s.gears.length s.rates.length = may at *
  clear hF hck hM
  have HZ := Lib.hid hW.size
  have hb0 := bel_alloc (Below.refl w.heap.size w) (.cells cs 30)
  have HB := Lib.hid (Has.new w 30 cs rfl)
  have HS := Lib.hid (hW.below hb0)
  have HE := Lib.hid (h.below hb0)
  have HW := Lib.hid hb0
  have HIN := Lib.hid hIn
  clear hW h hb0 hIn
  go_enter Try.func5, Try.ntmps5
  go_wp2_with fail
  refine (awake12 _).mono ?_
  rintro e w1 ⟨rfl, b1⟩
  replace HB := Lib.hid (HB.out.below b1)
  replace HS := Lib.hid (HS.out.below b1)
  replace HE := Lib.hid (HE.out.below b1)
  replace HW := Lib.hid (bel_on HW.out b1)
  clear b1
  go_wp2_with (refine wpList_exec (o := ⟨some 20, _, _, _, _, _⟩) (by rfl) (exec_load_st _ rfl rfl HB.out HZ.out) ?_)
  refine (few12 s cs _ HS.out A n c _ HF.out).mono ?_
  rintro e w2 ⟨rfl, b2⟩
  replace HB := Lib.hid (HB.out.below b2)
  replace HS := Lib.hid (HS.out.below b2)
  replace HE := Lib.hid (HE.out.below b2)
  replace HW := Lib.hid (bel_on HW.out b2)
  clear b2
  go_wp2_with (refine wpList_exec (o := ⟨some 25, _, _, _, _, _⟩) (by rfl) (exec_load_st _ rfl rfl HB.out HZ.out) ?_)
  refine (scheck_c HS.out.c HFT.out _ HCK.out).mono ?_
  rintro e w3 ⟨rfl, b3⟩
  replace HB := Lib.hid (HB.out.below b3)
  replace HS := Lib.hid (HS.out.below b3)
  replace HE := Lib.hid (HE.out.below b3)
  replace HW := Lib.hid (bel_on HW.out b3)
  clear b3
  have HLN := Lib.hid HE.out.2
  go_wp2
  go_loopg [8, 9, 10] n (fun kx s8 s9 s10 wr => ∃ (i a b : Nat), s8 = .int .i64 a ∧ s9 = .int .i64 b ∧ s10 = .int .i64 i ∧ i + kx = n ∧ a ≤ i ∧ b ≤ i ∧ Hid (cntW may wk 1 (l.take i) = a) ∧ Hid (cntW may wk 2 (l.take i) = b) ∧ Hid (∀ a b, a < i → b < a → (l.getD b EvP.none).id ≠ (l.getD a EvP.none).id) ∧ Hid (Below w3.heap.size w3 wr))
  case atStart => exact ⟨0, 0, 0, rfl, rfl, rfl, by omega, by omega, by omega, Lib.hid (by rw [List.take_zero]; rfl), Lib.hid (by rw [List.take_zero]; rfl), Lib.hid (fun a b h => by omega), Lib.hid (Below.refl _ _)⟩
  case round =>
    obtain ⟨i, a, b, rfl, rfl, rfl, hi, ha, hb, HC1, HC2, HID, HW4⟩ := hrel
    by_cases hlt : i < n
    · have HE4 := Lib.hid (HE.out.below HW4.out)
      obtain ⟨be, oe, rfl⟩ := HE4.out.form (by omega)
      obtain ⟨x, hx⟩ : ∃ x, l.getD i EvP.none = x := ⟨_, rfl⟩
      have HXX := Lib.hid hx
      have hxm : x ∈ l := by
        rw [← hx, List.getD_eq_getElem?_getD, List.getElem?_eq_getElem (by rw [HLN.out]; exact hlt), Option.getD_some]
        exact List.getElem_mem _
      have HXI := Lib.hid (HIN.out x hxm)
      have i0 : (0 : Int) ≤ (i : Int) := by omega
      have i1 : (i : Int) < (n : Int) := by omega
      clear hx hxm
      generalize wr = w4 at *
      go_wp2
      go_loopg [11] i (fun kx s11 wr => ∃ j : Nat, s11 = .int .i64 j ∧ j + kx = i ∧ Hid (∀ b, b < j → (l.getD b EvP.none).id ≠ x.id) ∧ Hid (Below w4.heap.size w4 wr))
      case atStart => exact ⟨0, rfl, by omega, Lib.hid (fun b h => by omega), Lib.hid (Below.refl _ _)⟩
      case round =>
        obtain ⟨j, rfl, hj, HNE, HW5⟩ := hrel
        have HEr := Lib.hid (HE4.out.below HW5.out)
        by_cases hji : j < i
        · obtain ⟨z, hz⟩ : ∃ z, l.getD j EvP.none = z := ⟨_, rfl⟩
          obtain ⟨z0, -, -, -, -⟩ := evs_num HEr.out (i := j) (by omega) z hz
          obtain ⟨y0, -, -, -, -⟩ := evs_num HEr.out (i := i) hlt x HXX.out
          have zl := cell_lt z0
          have j0 : (0 : Int) ≤ (j : Int) := by omega
          have j1 : (j : Int) < (n : Int) := by omega
          obtain ⟨zi, hzi⟩ : ∃ zi, Hid (z.id = zi) := ⟨_, rfl⟩
          obtain ⟨yi, hyi⟩ : ∃ yi, Hid (x.id = yi) := ⟨_, rfl⟩
          rw [hzi.out] at z0
          rw [hyi.out] at y0
          have hb4 := HW5.out
          have HZN : Hid (zi ≠ yi → ∀ b, b < j + 1 → (l.getD b EvP.none).id ≠ x.id) := fun hne b hb => by
            by_cases q : b = j
            · subst q; rw [hz, hzi.out, hyi.out]; exact hne
            · exact HNE.out b (by omega)
          clear hz
          by_cases hq : zi = yi
          · have hq' : (zi == yi) = true := by simpa using hq
            have hend := Lib.hid (bel_on (bel_on HW.out HW4.out) hb4)
            clear hq HZN
            go_wp2
            go_quiet (fail)
            go_wp2
            go_ret
            exact ⟨rfl, below_drewN hend.out _⟩
          · have hq' : (zi == yi) = false := beq_eq_false_iff_ne.2 hq
            have HNE2 := Lib.hid (HZN.out hq)
            clear hq HZN
            go_wp2
            go_quiet (fail)
            go_wp2
            go_roundg (i - (j + 1))
            case measure => omega
            case rel => exact ⟨j + 1, by go_num, by omega, HNE2, Lib.hid (below_drewN hb4 _)⟩
        · obtain rfl : j = i := by omega
          have hbz := bel_on HW4.out HW5.out
          have HBr := Lib.hid (HB.out.below hbz)
          have HID2 : Hid (∀ a b, a < j + 1 → b < a → (l.getD b EvP.none).id ≠ (l.getD a EvP.none).id) := fun p r hp hr => by
            by_cases q : p = j
            · rw [q, HXX.out]; exact HNE.out r (by omega)
            · exact HID.out p r (by omega) hr
          obtain ⟨xk, hxk⟩ : ∃ xk, Hid (x.kd = xk) := ⟨_, rfl⟩
          obtain ⟨xw, hxw⟩ : ∃ xw, Hid (x.wk = xw) := ⟨_, rfl⟩
          have HC : Hid (∀ u, Below wr.heap.size wr u → True ∧ u.cell? ⟨be, oe + j * 11 + 1, none⟩ = some (.int .i64 xw) ∧ u.cell? ⟨be, oe + j * 11 + 3, none⟩ = some (.int .i64 xk) ∧ be < u.heap.size) := fun u hu => by
            obtain ⟨-, q1, -, q3, -⟩ := evs_num (HEr.out.below hu) hlt x HXX.out
            rw [← hxk.out, ← hxw.out]
            exact ⟨trivial, q1, q3, cell_lt q1⟩
          obtain ⟨z0, z1, z3, zl⟩ := HC.out wr (Below.refl _ _)
          clear HW5 HNE
          by_cases g1 : xw = wk
          · have g1' : (xw == wk) = true := by simpa using g1
            by_cases g2 : xk = 1
            · have g2' : (xk == 1) = true := by simpa using g2
              have g3' : (xk == 2) = false := by simp [g2]
              cases hmay : may x with
              | true =>
                have HCK2 := Lib.hid (HCKE.out x HXI.out true hmay)
                have HMY := Lib.hid hmay
                clear hmay
                have HCW := Lib.hid (Below.refl wr.heap.size wr)
                go_wp2_with fail
                refine wp_region_noPanic ?_
                refine wp_region_held_drew (S := fun w' => Below wr.heap.size wr w') (by kernel_rfl) (below_drew (Below.refl _ _)) (fun hHeld => ?_)
                refine wpAnyH_take (i := 0) (oi := ⟨some 53, _, _, _, _, _⟩) (v := ?_) rfl (by kernel_rfl) (by kernel_rfl) (by kernel_rfl) (fun _ _ _ h => h) (Or.inl ⟨by rfl, ?_⟩) hHeld ?_
                rotate_left
                · intro ww hSw
                  (try dsimp only at hSw)
                  go_simp
                  (try with_reducible rfl)
                simp only [Act.put, List.setIfInBounds_toArray, List.set_cons_zero, List.set_cons_succ]
                refine wpAnyH_take (i := 1) (oi := ⟨some 54, _, _, _, _, _⟩) (v := ?_) rfl (by kernel_rfl) (by kernel_rfl) (by kernel_rfl) (fun _ _ _ h => h) (Or.inl ⟨by rfl, ?_⟩) hHeld ?_
                rotate_left
                · intro ww hSw
                  (try dsimp only at hSw)
                  go_simp
                  (try with_reducible rfl)
                simp only [Act.put, List.setIfInBounds_toArray, List.set_cons_zero, List.set_cons_succ]
                refine wpAnyH_take (i := 2) (oi := ⟨some 55, _, _, _, _, _⟩) (v := .pointer (some ⟨be, oe + j * 11, none⟩)) rfl (by kernel_rfl) (by kernel_rfl) (by kernel_rfl) (fun _ _ _ h => h) (Or.inl ⟨by rfl, ?_⟩) hHeld ?_
                · intro ww hSw
                  (try dsimp only at hSw)
                  go_simp
                simp only [Act.put, List.setIfInBounds_toArray, List.set_cons_zero, List.set_cons_succ]
                refine wpAnyH_take (i := 3) (oi := ⟨some 56, _, _, _, _, _⟩) (v := ?_) rfl (by kernel_rfl) (by kernel_rfl) (by kernel_rfl) (fun _ _ _ h => h) (Or.inl ⟨by rfl, ?_⟩) hHeld ?_
                rotate_left
                · intro ww hSw
                  (try dsimp only at hSw)
                  go_simp
                  (try with_reducible rfl)
                simp only [Act.put, List.setIfInBounds_toArray, List.set_cons_zero, List.set_cons_succ]
                refine wpAnyH_take (i := 4) (oi := ⟨some 57, _, _, _, _, _⟩) (v := .int .i64 xw) rfl (by kernel_rfl) (by kernel_rfl) (by kernel_rfl) (fun _ _ _ h => h) (Or.inl ⟨by rfl, ?_⟩) hHeld ?_
                · intro ww hSw
                  (try dsimp only at hSw)
                  obtain ⟨-, q1, q3, ql⟩ := HC.out ww (bel_on HCW.out hSw)
                  go_simp
                simp only [Act.put, List.setIfInBounds_toArray, List.set_cons_zero, List.set_cons_succ]
                refine wpAnyH_take (i := 5) (oi := ⟨some 58, _, _, _, _, _⟩) (v := ?_) rfl (by kernel_rfl) (by kernel_rfl) (by kernel_rfl) (fun _ _ _ h => h) (Or.inl ⟨by rfl, ?_⟩) hHeld ?_
                rotate_left
                · intro ww hSw
                  (try dsimp only at hSw)
                  go_simp
                  (try with_reducible rfl)
                simp only [Act.put, List.setIfInBounds_toArray, List.set_cons_zero, List.set_cons_succ]
                refine wpAnyH_take (i := 6) (oi := ⟨some 59, _, _, _, _, _⟩) (v := .bool true) rfl (by kernel_rfl) (by kernel_rfl) (by kernel_rfl) (fun _ _ _ h => h) (Or.inl ⟨by rfl, ?_⟩) hHeld ?_
                · intro ww hSw
                  (try dsimp only at hSw)
                  go_simp
                simp only [Act.put, List.setIfInBounds_toArray, List.set_cons_zero, List.set_cons_succ]
                refine wpAnyH_take (i := 7) (oi := ⟨some 60, _, _, _, _, _⟩) (v := ?_) rfl (by kernel_rfl) (by kernel_rfl) (by kernel_rfl) (fun _ _ _ h => h) (Or.inl ⟨by rfl, ?_⟩) hHeld ?_
                rotate_left
                · intro ww hSw
                  (try dsimp only at hSw)
                  go_simp
                  (try with_reducible rfl)
                simp only [Act.put, List.setIfInBounds_toArray, List.set_cons_zero, List.set_cons_succ]
                refine wpAnyH_take (i := 8) (oi := ⟨some 61, _, _, _, _, _⟩) (v := ?_) rfl (by kernel_rfl) (by kernel_rfl) (by kernel_rfl) (fun _ _ _ h => h) (Or.inl ⟨by rfl, ?_⟩) hHeld ?_
                rotate_left
                · intro ww hSw
                  (try dsimp only at hSw)
                  go_simp
                  (try with_reducible rfl)
                simp only [Act.put, List.setIfInBounds_toArray, List.set_cons_zero, List.set_cons_succ]
                refine wpAnyH_take (i := 9) (oi := ⟨some 62, _, _, _, _, _⟩) (v := ?_) rfl (by kernel_rfl) (by kernel_rfl) (by kernel_rfl) (fun _ _ _ h => h) (Or.inl ⟨by rfl, ?_⟩) hHeld ?_
                rotate_left
                · intro ww hSw
                  (try dsimp only at hSw)
                  go_simp
                  (try with_reducible rfl)
                simp only [Act.put, List.setIfInBounds_toArray, List.set_cons_zero, List.set_cons_succ]
                refine wpAnyH_take (i := 10) (oi := ⟨some 63, _, _, _, _, _⟩) (v := .pointer (some ⟨be, oe + j * 11, none⟩)) rfl (by kernel_rfl) (by kernel_rfl) (by kernel_rfl) (fun _ _ _ h => h) (Or.inl ⟨by rfl, ?_⟩) hHeld ?_
                · intro ww hSw
                  (try dsimp only at hSw)
                  go_simp
                simp only [Act.put, List.setIfInBounds_toArray, List.set_cons_zero, List.set_cons_succ]
                refine wpAnyH_take (i := 11) (oi := ⟨some 64, _, _, _, _, _⟩) (v := ?_) rfl (by kernel_rfl) (by kernel_rfl) (by kernel_rfl) (fun _ _ _ h => h) (Or.inl ⟨by rfl, ?_⟩) hHeld ?_
                rotate_left
                · intro ww hSw
                  (try dsimp only at hSw)
                  go_simp
                  (try with_reducible rfl)
                simp only [Act.put, List.setIfInBounds_toArray, List.set_cons_zero, List.set_cons_succ]
                refine wpAnyH_take (i := 12) (oi := ⟨some 65, _, _, _, _, _⟩) (v := .int .i64 xk) rfl (by kernel_rfl) (by kernel_rfl) (by kernel_rfl) (fun _ _ _ h => h) (Or.inl ⟨by rfl, ?_⟩) hHeld ?_
                · intro ww hSw
                  (try dsimp only at hSw)
                  obtain ⟨-, q1, q3, ql⟩ := HC.out ww (bel_on HCW.out hSw)
                  go_simp
                simp only [Act.put, List.setIfInBounds_toArray, List.set_cons_zero, List.set_cons_succ]
                refine wpAnyH_take (i := 13) (oi := ⟨some 66, _, _, _, _, _⟩) (v := .bool true) rfl (by kernel_rfl) (by kernel_rfl) (by kernel_rfl) (fun _ _ _ h => h) (Or.inl ⟨by rfl, ?_⟩) hHeld ?_
                · intro ww hSw
                  (try dsimp only at hSw)
                  go_simp
                simp only [Act.put, List.setIfInBounds_toArray, List.set_cons_zero, List.set_cons_succ]
                refine wpAnyH_take (i := 14) (oi := ⟨some 67, _, _, _, _, _⟩) (v := ?_) rfl (by kernel_rfl) (by kernel_rfl) (by kernel_rfl) (fun _ _ _ h => h) (Or.inl ⟨by rfl, ?_⟩) hHeld ?_
                rotate_left
                · intro ww hSw
                  (try dsimp only at hSw)
                  go_simp
                  (try with_reducible rfl)
                simp only [Act.put, List.setIfInBounds_toArray, List.set_cons_zero, List.set_cons_succ]
                refine wpAnyH_take (i := 15) (oi := ⟨some 68, _, _, _, _, _⟩) (v := ?_) rfl (by kernel_rfl) (by kernel_rfl) (by kernel_rfl) (fun _ _ _ h => h) (Or.inl ⟨by rfl, ?_⟩) hHeld ?_
                rotate_left
                · intro ww hSw
                  (try dsimp only at hSw)
                  go_simp
                  (try with_reducible rfl)
                simp only [Act.put, List.setIfInBounds_toArray, List.set_cons_zero, List.set_cons_succ]
                refine wpAnyH_take (i := 16) (oi := ⟨some 69, _, _, _, _, _⟩) (v := .agg cs) rfl (by kernel_rfl) (by kernel_rfl) (by kernel_rfl) (fun _ _ _ h => h) (Or.inl ⟨by rfl, ?_⟩) hHeld ?_
                · intro ww hSw
                  (try dsimp only at hSw)
                  exact exec_load_st _ rfl rfl (HBr.out.below (bel_on HCW.out hSw)) HZ.out
                simp only [Act.put, List.setIfInBounds_toArray, List.set_cons_zero, List.set_cons_succ]
                refine wpAnyH_take (i := 17) (oi := ⟨some 70, _, _, _, _, _⟩) (v := ?_) rfl (by kernel_rfl) (by kernel_rfl) (by kernel_rfl) (fun _ _ _ h => h) (Or.inl ⟨by rfl, ?_⟩) hHeld ?_
                rotate_left
                · intro ww hSw
                  (try dsimp only at hSw)
                  go_simp
                  (try with_reducible rfl)
                simp only [Act.put, List.setIfInBounds_toArray, List.set_cons_zero, List.set_cons_succ]
                refine wpAnyH_take (i := 18) (oi := ⟨some 71, _, _, _, _, _⟩) (v := ?_) rfl (by kernel_rfl) (by kernel_rfl) (by kernel_rfl) (fun _ _ _ h => h) (Or.inl ⟨by rfl, ?_⟩) hHeld ?_
                rotate_left
                · intro ww hSw
                  (try dsimp only at hSw)
                  go_simp
                  (try with_reducible rfl)
                simp only [Act.put, List.setIfInBounds_toArray, List.set_cons_zero, List.set_cons_succ]
                refine wpAnyH_take (i := 19) (oi := ⟨some 72, _, _, _, _, _⟩) (v := .pointer (some ⟨be, oe + j * 11, none⟩)) rfl (by kernel_rfl) (by kernel_rfl) (by kernel_rfl) (fun _ _ _ h => h) (Or.inl ⟨by rfl, ?_⟩) hHeld ?_
                · intro ww hSw
                  (try dsimp only at hSw)
                  go_simp
                simp only [Act.put, List.setIfInBounds_toArray, List.set_cons_zero, List.set_cons_succ]
                refine wpAnyH_take (i := 20) (oi := ⟨some 73, _, _, _, _, _⟩) (v := .agg (evC x)) rfl (by kernel_rfl) (by kernel_rfl) (by kernel_rfl) (fun _ _ _ h => h) (Or.inl ⟨by rfl, ?_⟩) hHeld ?_
                · intro ww hSw
                  (try dsimp only at hSw)
                  have hq := evs_load (HEr.out.below (bel_on HCW.out hSw)) (i := j) hlt
                  rw [HXX.out] at hq
                  exact exec_load_at _ rfl rfl hq
                simp only [Act.put, List.setIfInBounds_toArray, List.set_cons_zero, List.set_cons_succ]
                refine wpAnyH_ready (rs := [21]) (by kernel_rfl) (by simp) ?_
                refine AllReadyH.cons (o := ⟨some 74, _, _, _, _, _⟩) rfl (fun K hK => ?_) AllReadyH.nil
                go_simp
                go_at_call 18
                refine (HCK2.out _).mono ?_
                rintro e_r v5 ⟨rfl, hbn⟩
                have hbv5 : Below wr.heap.size wr v5 := bel_on (show Below wr.heap.size wr _ by (repeat' (first | with_reducible exact Below.refl _ _ | with_reducible assumption | with_reducible refine bel_alloc ?_ _ | with_reducible refine bel_set ?_ ?_ _ | with_reducible refine below_drewN ?_ _ | with_reducible refine below_drew ?_ | (simp; done) | (simp; omega) | omega))) hbn
                clear hbn
                go_wp2_with fail
                refine hK.out _ _ ?_ (fun hHeld => ?_)
                · (try dsimp only)
                  exact hbv5
                clear hK K
                (try simp only [Act.put, List.setIfInBounds_toArray, List.set_cons_zero, List.set_cons_succ])
                refine wpAnyH_take (i := 22) (oi := ⟨some 75, _, _, _, _, _⟩) (v := ?_) rfl (by kernel_rfl) (by kernel_rfl) (by kernel_rfl) (fun _ _ _ h => h) (Or.inl ⟨by rfl, ?_⟩) hHeld ?_
                rotate_left
                · intro ww hSw
                  (try dsimp only at hSw)
                  go_simp
                  (try with_reducible rfl)
                simp only [Act.put, List.setIfInBounds_toArray, List.set_cons_zero, List.set_cons_succ]
                refine wpAnyH_done (by kernel_rfl) ?_ _
                refine NoPanic.normal ?_
                have hmay := HMY.out
                obtain ⟨z0, z1, z3, zl⟩ := HC.out v5 hbv5
                go_wp2
                go_quiet (fail)
                go_wp2
                go_roundg (n - (j + 1))
                case measure => omega
                case rel => exact ⟨j + 1, a + 1, b, rfl, rfl, by go_num, by omega, by omega, by omega, Lib.hid (by rw [cntW_snoc _ _ _ _ _ (by rw [HLN.out]; exact hlt) x HXX.out, HC1.out, if_pos (by simp [hxk.out, hxw.out, hmay, g1, g2])]), Lib.hid (by rw [cntW_snoc _ _ _ _ _ (by rw [HLN.out]; exact hlt) x HXX.out, HC2.out, if_neg (by simp [hxk.out, hxw.out, g2]), Nat.add_zero]), HID2, Lib.hid (below_drewN (bel_on hbz hbv5) _)⟩
              | false =>
                have HCK2 := Lib.hid (HCKE.out x HXI.out false hmay)
                have HMY := Lib.hid hmay
                clear hmay
                have HCW := Lib.hid (Below.refl wr.heap.size wr)
                go_wp2_with fail
                refine wp_region_noPanic ?_
                refine wp_region_held_drew (S := fun w' => Below wr.heap.size wr w') (by kernel_rfl) (below_drew (Below.refl _ _)) (fun hHeld => ?_)
                refine wpAnyH_take (i := 0) (oi := ⟨some 53, _, _, _, _, _⟩) (v := ?_) rfl (by kernel_rfl) (by kernel_rfl) (by kernel_rfl) (fun _ _ _ h => h) (Or.inl ⟨by rfl, ?_⟩) hHeld ?_
                rotate_left
                · intro ww hSw
                  (try dsimp only at hSw)
                  go_simp
                  (try with_reducible rfl)
                simp only [Act.put, List.setIfInBounds_toArray, List.set_cons_zero, List.set_cons_succ]
                refine wpAnyH_take (i := 1) (oi := ⟨some 54, _, _, _, _, _⟩) (v := ?_) rfl (by kernel_rfl) (by kernel_rfl) (by kernel_rfl) (fun _ _ _ h => h) (Or.inl ⟨by rfl, ?_⟩) hHeld ?_
                rotate_left
                · intro ww hSw
                  (try dsimp only at hSw)
                  go_simp
                  (try with_reducible rfl)
                simp only [Act.put, List.setIfInBounds_toArray, List.set_cons_zero, List.set_cons_succ]
                refine wpAnyH_take (i := 2) (oi := ⟨some 55, _, _, _, _, _⟩) (v := .pointer (some ⟨be, oe + j * 11, none⟩)) rfl (by kernel_rfl) (by kernel_rfl) (by kernel_rfl) (fun _ _ _ h => h) (Or.inl ⟨by rfl, ?_⟩) hHeld ?_
                · intro ww hSw
                  (try dsimp only at hSw)
                  go_simp
                simp only [Act.put, List.setIfInBounds_toArray, List.set_cons_zero, List.set_cons_succ]
                refine wpAnyH_take (i := 3) (oi := ⟨some 56, _, _, _, _, _⟩) (v := ?_) rfl (by kernel_rfl) (by kernel_rfl) (by kernel_rfl) (fun _ _ _ h => h) (Or.inl ⟨by rfl, ?_⟩) hHeld ?_
                rotate_left
                · intro ww hSw
                  (try dsimp only at hSw)
                  go_simp
                  (try with_reducible rfl)
                simp only [Act.put, List.setIfInBounds_toArray, List.set_cons_zero, List.set_cons_succ]
                refine wpAnyH_take (i := 4) (oi := ⟨some 57, _, _, _, _, _⟩) (v := .int .i64 xw) rfl (by kernel_rfl) (by kernel_rfl) (by kernel_rfl) (fun _ _ _ h => h) (Or.inl ⟨by rfl, ?_⟩) hHeld ?_
                · intro ww hSw
                  (try dsimp only at hSw)
                  obtain ⟨-, q1, q3, ql⟩ := HC.out ww (bel_on HCW.out hSw)
                  go_simp
                simp only [Act.put, List.setIfInBounds_toArray, List.set_cons_zero, List.set_cons_succ]
                refine wpAnyH_take (i := 5) (oi := ⟨some 58, _, _, _, _, _⟩) (v := ?_) rfl (by kernel_rfl) (by kernel_rfl) (by kernel_rfl) (fun _ _ _ h => h) (Or.inl ⟨by rfl, ?_⟩) hHeld ?_
                rotate_left
                · intro ww hSw
                  (try dsimp only at hSw)
                  go_simp
                  (try with_reducible rfl)
                simp only [Act.put, List.setIfInBounds_toArray, List.set_cons_zero, List.set_cons_succ]
                refine wpAnyH_take (i := 6) (oi := ⟨some 59, _, _, _, _, _⟩) (v := .bool true) rfl (by kernel_rfl) (by kernel_rfl) (by kernel_rfl) (fun _ _ _ h => h) (Or.inl ⟨by rfl, ?_⟩) hHeld ?_
                · intro ww hSw
                  (try dsimp only at hSw)
                  go_simp
                simp only [Act.put, List.setIfInBounds_toArray, List.set_cons_zero, List.set_cons_succ]
                refine wpAnyH_take (i := 7) (oi := ⟨some 60, _, _, _, _, _⟩) (v := ?_) rfl (by kernel_rfl) (by kernel_rfl) (by kernel_rfl) (fun _ _ _ h => h) (Or.inl ⟨by rfl, ?_⟩) hHeld ?_
                rotate_left
                · intro ww hSw
                  (try dsimp only at hSw)
                  go_simp
                  (try with_reducible rfl)
                simp only [Act.put, List.setIfInBounds_toArray, List.set_cons_zero, List.set_cons_succ]
                refine wpAnyH_take (i := 8) (oi := ⟨some 61, _, _, _, _, _⟩) (v := ?_) rfl (by kernel_rfl) (by kernel_rfl) (by kernel_rfl) (fun _ _ _ h => h) (Or.inl ⟨by rfl, ?_⟩) hHeld ?_
                rotate_left
                · intro ww hSw
                  (try dsimp only at hSw)
                  go_simp
                  (try with_reducible rfl)
                simp only [Act.put, List.setIfInBounds_toArray, List.set_cons_zero, List.set_cons_succ]
                refine wpAnyH_take (i := 9) (oi := ⟨some 62, _, _, _, _, _⟩) (v := ?_) rfl (by kernel_rfl) (by kernel_rfl) (by kernel_rfl) (fun _ _ _ h => h) (Or.inl ⟨by rfl, ?_⟩) hHeld ?_
                rotate_left
                · intro ww hSw
                  (try dsimp only at hSw)
                  go_simp
                  (try with_reducible rfl)
                simp only [Act.put, List.setIfInBounds_toArray, List.set_cons_zero, List.set_cons_succ]
                refine wpAnyH_take (i := 10) (oi := ⟨some 63, _, _, _, _, _⟩) (v := .pointer (some ⟨be, oe + j * 11, none⟩)) rfl (by kernel_rfl) (by kernel_rfl) (by kernel_rfl) (fun _ _ _ h => h) (Or.inl ⟨by rfl, ?_⟩) hHeld ?_
                · intro ww hSw
                  (try dsimp only at hSw)
                  go_simp
                simp only [Act.put, List.setIfInBounds_toArray, List.set_cons_zero, List.set_cons_succ]
                refine wpAnyH_take (i := 11) (oi := ⟨some 64, _, _, _, _, _⟩) (v := ?_) rfl (by kernel_rfl) (by kernel_rfl) (by kernel_rfl) (fun _ _ _ h => h) (Or.inl ⟨by rfl, ?_⟩) hHeld ?_
                rotate_left
                · intro ww hSw
                  (try dsimp only at hSw)
                  go_simp
                  (try with_reducible rfl)
                simp only [Act.put, List.setIfInBounds_toArray, List.set_cons_zero, List.set_cons_succ]
                refine wpAnyH_take (i := 12) (oi := ⟨some 65, _, _, _, _, _⟩) (v := .int .i64 xk) rfl (by kernel_rfl) (by kernel_rfl) (by kernel_rfl) (fun _ _ _ h => h) (Or.inl ⟨by rfl, ?_⟩) hHeld ?_
                · intro ww hSw
                  (try dsimp only at hSw)
                  obtain ⟨-, q1, q3, ql⟩ := HC.out ww (bel_on HCW.out hSw)
                  go_simp
                simp only [Act.put, List.setIfInBounds_toArray, List.set_cons_zero, List.set_cons_succ]
                refine wpAnyH_take (i := 13) (oi := ⟨some 66, _, _, _, _, _⟩) (v := .bool true) rfl (by kernel_rfl) (by kernel_rfl) (by kernel_rfl) (fun _ _ _ h => h) (Or.inl ⟨by rfl, ?_⟩) hHeld ?_
                · intro ww hSw
                  (try dsimp only at hSw)
                  go_simp
                simp only [Act.put, List.setIfInBounds_toArray, List.set_cons_zero, List.set_cons_succ]
                refine wpAnyH_take (i := 14) (oi := ⟨some 67, _, _, _, _, _⟩) (v := ?_) rfl (by kernel_rfl) (by kernel_rfl) (by kernel_rfl) (fun _ _ _ h => h) (Or.inl ⟨by rfl, ?_⟩) hHeld ?_
                rotate_left
                · intro ww hSw
                  (try dsimp only at hSw)
                  go_simp
                  (try with_reducible rfl)
                simp only [Act.put, List.setIfInBounds_toArray, List.set_cons_zero, List.set_cons_succ]
                refine wpAnyH_take (i := 15) (oi := ⟨some 68, _, _, _, _, _⟩) (v := ?_) rfl (by kernel_rfl) (by kernel_rfl) (by kernel_rfl) (fun _ _ _ h => h) (Or.inl ⟨by rfl, ?_⟩) hHeld ?_
                rotate_left
                · intro ww hSw
                  (try dsimp only at hSw)
                  go_simp
                  (try with_reducible rfl)
                simp only [Act.put, List.setIfInBounds_toArray, List.set_cons_zero, List.set_cons_succ]
                refine wpAnyH_take (i := 16) (oi := ⟨some 69, _, _, _, _, _⟩) (v := .agg cs) rfl (by kernel_rfl) (by kernel_rfl) (by kernel_rfl) (fun _ _ _ h => h) (Or.inl ⟨by rfl, ?_⟩) hHeld ?_
                · intro ww hSw
                  (try dsimp only at hSw)
                  exact exec_load_st _ rfl rfl (HBr.out.below (bel_on HCW.out hSw)) HZ.out
                simp only [Act.put, List.setIfInBounds_toArray, List.set_cons_zero, List.set_cons_succ]
                refine wpAnyH_take (i := 17) (oi := ⟨some 70, _, _, _, _, _⟩) (v := ?_) rfl (by kernel_rfl) (by kernel_rfl) (by kernel_rfl) (fun _ _ _ h => h) (Or.inl ⟨by rfl, ?_⟩) hHeld ?_
                rotate_left
                · intro ww hSw
                  (try dsimp only at hSw)
                  go_simp
                  (try with_reducible rfl)
                simp only [Act.put, List.setIfInBounds_toArray, List.set_cons_zero, List.set_cons_succ]
                refine wpAnyH_take (i := 18) (oi := ⟨some 71, _, _, _, _, _⟩) (v := ?_) rfl (by kernel_rfl) (by kernel_rfl) (by kernel_rfl) (fun _ _ _ h => h) (Or.inl ⟨by rfl, ?_⟩) hHeld ?_
                rotate_left
                · intro ww hSw
                  (try dsimp only at hSw)
                  go_simp
                  (try with_reducible rfl)
                simp only [Act.put, List.setIfInBounds_toArray, List.set_cons_zero, List.set_cons_succ]
                refine wpAnyH_take (i := 19) (oi := ⟨some 72, _, _, _, _, _⟩) (v := .pointer (some ⟨be, oe + j * 11, none⟩)) rfl (by kernel_rfl) (by kernel_rfl) (by kernel_rfl) (fun _ _ _ h => h) (Or.inl ⟨by rfl, ?_⟩) hHeld ?_
                · intro ww hSw
                  (try dsimp only at hSw)
                  go_simp
                simp only [Act.put, List.setIfInBounds_toArray, List.set_cons_zero, List.set_cons_succ]
                refine wpAnyH_take (i := 20) (oi := ⟨some 73, _, _, _, _, _⟩) (v := .agg (evC x)) rfl (by kernel_rfl) (by kernel_rfl) (by kernel_rfl) (fun _ _ _ h => h) (Or.inl ⟨by rfl, ?_⟩) hHeld ?_
                · intro ww hSw
                  (try dsimp only at hSw)
                  have hq := evs_load (HEr.out.below (bel_on HCW.out hSw)) (i := j) hlt
                  rw [HXX.out] at hq
                  exact exec_load_at _ rfl rfl hq
                simp only [Act.put, List.setIfInBounds_toArray, List.set_cons_zero, List.set_cons_succ]
                refine wpAnyH_ready (rs := [21]) (by kernel_rfl) (by simp) ?_
                refine AllReadyH.cons (o := ⟨some 74, _, _, _, _, _⟩) rfl (fun K hK => ?_) AllReadyH.nil
                go_simp
                go_at_call 18
                refine (HCK2.out _).mono ?_
                rintro e_r v5 ⟨rfl, hbn⟩
                have hbv5 : Below wr.heap.size wr v5 := bel_on (show Below wr.heap.size wr _ by (repeat' (first | with_reducible exact Below.refl _ _ | with_reducible assumption | with_reducible refine bel_alloc ?_ _ | with_reducible refine bel_set ?_ ?_ _ | with_reducible refine below_drewN ?_ _ | with_reducible refine below_drew ?_ | (simp; done) | (simp; omega) | omega))) hbn
                clear hbn
                go_wp2_with fail
                refine hK.out _ _ ?_ (fun hHeld => ?_)
                · (try dsimp only)
                  exact hbv5
                clear hK K
                (try simp only [Act.put, List.setIfInBounds_toArray, List.set_cons_zero, List.set_cons_succ])
                refine wpAnyH_take (i := 22) (oi := ⟨some 75, _, _, _, _, _⟩) (v := ?_) rfl (by kernel_rfl) (by kernel_rfl) (by kernel_rfl) (fun _ _ _ h => h) (Or.inl ⟨by rfl, ?_⟩) hHeld ?_
                rotate_left
                · intro ww hSw
                  (try dsimp only at hSw)
                  go_simp
                  (try with_reducible rfl)
                simp only [Act.put, List.setIfInBounds_toArray, List.set_cons_zero, List.set_cons_succ]
                refine wpAnyH_done (by kernel_rfl) ?_ _
                refine NoPanic.normal ?_
                have hmay := HMY.out
                obtain ⟨z0, z1, z3, zl⟩ := HC.out v5 hbv5
                go_wp2
                go_quiet (fail)
                go_wp2
                go_roundg (n - (j + 1))
                case measure => omega
                case rel => exact ⟨j + 1, a, b, rfl, rfl, by go_num, by omega, by omega, by omega, Lib.hid (by rw [cntW_snoc _ _ _ _ _ (by rw [HLN.out]; exact hlt) x HXX.out, HC1.out, if_neg (by simp [hmay]), Nat.add_zero]), Lib.hid (by rw [cntW_snoc _ _ _ _ _ (by rw [HLN.out]; exact hlt) x HXX.out, HC2.out, if_neg (by simp [hxk.out, hxw.out, g2]), Nat.add_zero]), HID2, Lib.hid (below_drewN (bel_on hbz hbv5) _)⟩
            · have g2' : (xk == 1) = false := beq_eq_false_iff_ne.2 g2
              by_cases g3 : xk = 2
              · have g3' : (xk == 2) = true := by simpa using g3
                cases hmay : may x with
                | true =>
                  have HCK2 := Lib.hid (HCKE.out x HXI.out true hmay)
                  have HMY := Lib.hid hmay
                  clear hmay
                  go_wp2
                  go_quiet (fail)
                  have HCW := Lib.hid (below_drewN (Below.refl wr.heap.size wr) nq)
                  generalize wr.drewN nq = v4 at *
                  go_wp2_with fail
                  refine wp_region_noPanic ?_
                  refine wp_region_held_drew (S := fun w' => Below v4.heap.size v4 w') (by kernel_rfl) (below_drew (Below.refl _ _)) (fun hHeld => ?_)
                  refine wpAnyH_take (i := 0) (oi := ⟨some 78, _, _, _, _, _⟩) (v := ?_) rfl (by kernel_rfl) (by kernel_rfl) (by kernel_rfl) (fun _ _ _ h => h) (Or.inl ⟨by rfl, ?_⟩) hHeld ?_
                  rotate_left
                  · intro ww hSw
                    (try dsimp only at hSw)
                    go_simp
                    (try with_reducible rfl)
                  simp only [Act.put, List.setIfInBounds_toArray, List.set_cons_zero, List.set_cons_succ]
                  refine wpAnyH_take (i := 1) (oi := ⟨some 79, _, _, _, _, _⟩) (v := ?_) rfl (by kernel_rfl) (by kernel_rfl) (by kernel_rfl) (fun _ _ _ h => h) (Or.inl ⟨by rfl, ?_⟩) hHeld ?_
                  rotate_left
                  · intro ww hSw
                    (try dsimp only at hSw)
                    go_simp
                    (try with_reducible rfl)
                  simp only [Act.put, List.setIfInBounds_toArray, List.set_cons_zero, List.set_cons_succ]
                  refine wpAnyH_take (i := 2) (oi := ⟨some 80, _, _, _, _, _⟩) (v := .pointer (some ⟨be, oe + j * 11, none⟩)) rfl (by kernel_rfl) (by kernel_rfl) (by kernel_rfl) (fun _ _ _ h => h) (Or.inl ⟨by rfl, ?_⟩) hHeld ?_
                  · intro ww hSw
                    (try dsimp only at hSw)
                    go_simp
                  simp only [Act.put, List.setIfInBounds_toArray, List.set_cons_zero, List.set_cons_succ]
                  refine wpAnyH_take (i := 3) (oi := ⟨some 81, _, _, _, _, _⟩) (v := ?_) rfl (by kernel_rfl) (by kernel_rfl) (by kernel_rfl) (fun _ _ _ h => h) (Or.inl ⟨by rfl, ?_⟩) hHeld ?_
                  rotate_left
                  · intro ww hSw
                    (try dsimp only at hSw)
                    go_simp
                    (try with_reducible rfl)
                  simp only [Act.put, List.setIfInBounds_toArray, List.set_cons_zero, List.set_cons_succ]
                  refine wpAnyH_take (i := 4) (oi := ⟨some 82, _, _, _, _, _⟩) (v := .int .i64 xw) rfl (by kernel_rfl) (by kernel_rfl) (by kernel_rfl) (fun _ _ _ h => h) (Or.inl ⟨by rfl, ?_⟩) hHeld ?_
                  · intro ww hSw
                    (try dsimp only at hSw)
                    obtain ⟨-, q1, q3, ql⟩ := HC.out ww (bel_on HCW.out hSw)
                    go_simp
                  simp only [Act.put, List.setIfInBounds_toArray, List.set_cons_zero, List.set_cons_succ]
                  refine wpAnyH_take (i := 5) (oi := ⟨some 83, _, _, _, _, _⟩) (v := ?_) rfl (by kernel_rfl) (by kernel_rfl) (by kernel_rfl) (fun _ _ _ h => h) (Or.inl ⟨by rfl, ?_⟩) hHeld ?_
                  rotate_left
                  · intro ww hSw
                    (try dsimp only at hSw)
                    go_simp
                    (try with_reducible rfl)
                  simp only [Act.put, List.setIfInBounds_toArray, List.set_cons_zero, List.set_cons_succ]
                  refine wpAnyH_take (i := 6) (oi := ⟨some 84, _, _, _, _, _⟩) (v := .bool true) rfl (by kernel_rfl) (by kernel_rfl) (by kernel_rfl) (fun _ _ _ h => h) (Or.inl ⟨by rfl, ?_⟩) hHeld ?_
                  · intro ww hSw
                    (try dsimp only at hSw)
                    go_simp
                  simp only [Act.put, List.setIfInBounds_toArray, List.set_cons_zero, List.set_cons_succ]
                  refine wpAnyH_take (i := 7) (oi := ⟨some 85, _, _, _, _, _⟩) (v := ?_) rfl (by kernel_rfl) (by kernel_rfl) (by kernel_rfl) (fun _ _ _ h => h) (Or.inl ⟨by rfl, ?_⟩) hHeld ?_
                  rotate_left
                  · intro ww hSw
                    (try dsimp only at hSw)
                    go_simp
                    (try with_reducible rfl)
                  simp only [Act.put, List.setIfInBounds_toArray, List.set_cons_zero, List.set_cons_succ]
                  refine wpAnyH_take (i := 8) (oi := ⟨some 86, _, _, _, _, _⟩) (v := ?_) rfl (by kernel_rfl) (by kernel_rfl) (by kernel_rfl) (fun _ _ _ h => h) (Or.inl ⟨by rfl, ?_⟩) hHeld ?_
                  rotate_left
                  · intro ww hSw
                    (try dsimp only at hSw)
                    go_simp
                    (try with_reducible rfl)
                  simp only [Act.put, List.setIfInBounds_toArray, List.set_cons_zero, List.set_cons_succ]
                  refine wpAnyH_take (i := 9) (oi := ⟨some 87, _, _, _, _, _⟩) (v := ?_) rfl (by kernel_rfl) (by kernel_rfl) (by kernel_rfl) (fun _ _ _ h => h) (Or.inl ⟨by rfl, ?_⟩) hHeld ?_
                  rotate_left
                  · intro ww hSw
                    (try dsimp only at hSw)
                    go_simp
                    (try with_reducible rfl)
                  simp only [Act.put, List.setIfInBounds_toArray, List.set_cons_zero, List.set_cons_succ]
                  refine wpAnyH_take (i := 10) (oi := ⟨some 88, _, _, _, _, _⟩) (v := .pointer (some ⟨be, oe + j * 11, none⟩)) rfl (by kernel_rfl) (by kernel_rfl) (by kernel_rfl) (fun _ _ _ h => h) (Or.inl ⟨by rfl, ?_⟩) hHeld ?_
                  · intro ww hSw
                    (try dsimp only at hSw)
                    go_simp
                  simp only [Act.put, List.setIfInBounds_toArray, List.set_cons_zero, List.set_cons_succ]
                  refine wpAnyH_take (i := 11) (oi := ⟨some 89, _, _, _, _, _⟩) (v := ?_) rfl (by kernel_rfl) (by kernel_rfl) (by kernel_rfl) (fun _ _ _ h => h) (Or.inl ⟨by rfl, ?_⟩) hHeld ?_
                  rotate_left
                  · intro ww hSw
                    (try dsimp only at hSw)
                    go_simp
                    (try with_reducible rfl)
                  simp only [Act.put, List.setIfInBounds_toArray, List.set_cons_zero, List.set_cons_succ]
                  refine wpAnyH_take (i := 12) (oi := ⟨some 90, _, _, _, _, _⟩) (v := .int .i64 xk) rfl (by kernel_rfl) (by kernel_rfl) (by kernel_rfl) (fun _ _ _ h => h) (Or.inl ⟨by rfl, ?_⟩) hHeld ?_
                  · intro ww hSw
                    (try dsimp only at hSw)
                    obtain ⟨-, q1, q3, ql⟩ := HC.out ww (bel_on HCW.out hSw)
                    go_simp
                  simp only [Act.put, List.setIfInBounds_toArray, List.set_cons_zero, List.set_cons_succ]
                  refine wpAnyH_take (i := 13) (oi := ⟨some 91, _, _, _, _, _⟩) (v := .bool true) rfl (by kernel_rfl) (by kernel_rfl) (by kernel_rfl) (fun _ _ _ h => h) (Or.inl ⟨by rfl, ?_⟩) hHeld ?_
                  · intro ww hSw
                    (try dsimp only at hSw)
                    go_simp
                  simp only [Act.put, List.setIfInBounds_toArray, List.set_cons_zero, List.set_cons_succ]
                  refine wpAnyH_take (i := 14) (oi := ⟨some 92, _, _, _, _, _⟩) (v := ?_) rfl (by kernel_rfl) (by kernel_rfl) (by kernel_rfl) (fun _ _ _ h => h) (Or.inl ⟨by rfl, ?_⟩) hHeld ?_
                  rotate_left
                  · intro ww hSw
                    (try dsimp only at hSw)
                    go_simp
                    (try with_reducible rfl)
                  simp only [Act.put, List.setIfInBounds_toArray, List.set_cons_zero, List.set_cons_succ]
                  refine wpAnyH_take (i := 15) (oi := ⟨some 93, _, _, _, _, _⟩) (v := ?_) rfl (by kernel_rfl) (by kernel_rfl) (by kernel_rfl) (fun _ _ _ h => h) (Or.inl ⟨by rfl, ?_⟩) hHeld ?_
                  rotate_left
                  · intro ww hSw
                    (try dsimp only at hSw)
                    go_simp
                    (try with_reducible rfl)
                  simp only [Act.put, List.setIfInBounds_toArray, List.set_cons_zero, List.set_cons_succ]
                  refine wpAnyH_take (i := 16) (oi := ⟨some 94, _, _, _, _, _⟩) (v := .agg cs) rfl (by kernel_rfl) (by kernel_rfl) (by kernel_rfl) (fun _ _ _ h => h) (Or.inl ⟨by rfl, ?_⟩) hHeld ?_
                  · intro ww hSw
                    (try dsimp only at hSw)
                    exact exec_load_st _ rfl rfl (HBr.out.below (bel_on HCW.out hSw)) HZ.out
                  simp only [Act.put, List.setIfInBounds_toArray, List.set_cons_zero, List.set_cons_succ]
                  refine wpAnyH_take (i := 17) (oi := ⟨some 95, _, _, _, _, _⟩) (v := ?_) rfl (by kernel_rfl) (by kernel_rfl) (by kernel_rfl) (fun _ _ _ h => h) (Or.inl ⟨by rfl, ?_⟩) hHeld ?_
                  rotate_left
                  · intro ww hSw
                    (try dsimp only at hSw)
                    go_simp
                    (try with_reducible rfl)
                  simp only [Act.put, List.setIfInBounds_toArray, List.set_cons_zero, List.set_cons_succ]
                  refine wpAnyH_take (i := 18) (oi := ⟨some 96, _, _, _, _, _⟩) (v := ?_) rfl (by kernel_rfl) (by kernel_rfl) (by kernel_rfl) (fun _ _ _ h => h) (Or.inl ⟨by rfl, ?_⟩) hHeld ?_
                  rotate_left
                  · intro ww hSw
                    (try dsimp only at hSw)
                    go_simp
                    (try with_reducible rfl)
                  simp only [Act.put, List.setIfInBounds_toArray, List.set_cons_zero, List.set_cons_succ]
                  refine wpAnyH_take (i := 19) (oi := ⟨some 97, _, _, _, _, _⟩) (v := .pointer (some ⟨be, oe + j * 11, none⟩)) rfl (by kernel_rfl) (by kernel_rfl) (by kernel_rfl) (fun _ _ _ h => h) (Or.inl ⟨by rfl, ?_⟩) hHeld ?_
                  · intro ww hSw
                    (try dsimp only at hSw)
                    go_simp
                  simp only [Act.put, List.setIfInBounds_toArray, List.set_cons_zero, List.set_cons_succ]
                  refine wpAnyH_take (i := 20) (oi := ⟨some 98, _, _, _, _, _⟩) (v := .agg (evC x)) rfl (by kernel_rfl) (by kernel_rfl) (by kernel_rfl) (fun _ _ _ h => h) (Or.inl ⟨by rfl, ?_⟩) hHeld ?_
                  · intro ww hSw
                    (try dsimp only at hSw)
                    have hq := evs_load (HEr.out.below (bel_on HCW.out hSw)) (i := j) hlt
                    rw [HXX.out] at hq
                    exact exec_load_at _ rfl rfl hq
                  simp only [Act.put, List.setIfInBounds_toArray, List.set_cons_zero, List.set_cons_succ]
                  refine wpAnyH_ready (rs := [21]) (by kernel_rfl) (by simp) ?_
                  refine AllReadyH.cons (o := ⟨some 99, _, _, _, _, _⟩) rfl (fun K hK => ?_) AllReadyH.nil
                  go_simp
                  go_at_call 18
                  refine (HCK2.out _).mono ?_
                  rintro e_r v5 ⟨rfl, hbn⟩
                  have hbv5 : Below v4.heap.size v4 v5 := bel_on (show Below v4.heap.size v4 _ by (repeat' (first | with_reducible exact Below.refl _ _ | with_reducible assumption | with_reducible refine bel_alloc ?_ _ | with_reducible refine bel_set ?_ ?_ _ | with_reducible refine below_drewN ?_ _ | with_reducible refine below_drew ?_ | (simp; done) | (simp; omega) | omega))) hbn
                  clear hbn
                  go_wp2_with fail
                  refine hK.out _ _ ?_ (fun hHeld => ?_)
                  · (try dsimp only)
                    exact hbv5
                  clear hK K
                  (try simp only [Act.put, List.setIfInBounds_toArray, List.set_cons_zero, List.set_cons_succ])
                  refine wpAnyH_take (i := 22) (oi := ⟨some 100, _, _, _, _, _⟩) (v := ?_) rfl (by kernel_rfl) (by kernel_rfl) (by kernel_rfl) (fun _ _ _ h => h) (Or.inl ⟨by rfl, ?_⟩) hHeld ?_
                  rotate_left
                  · intro ww hSw
                    (try dsimp only at hSw)
                    go_simp
                    (try with_reducible rfl)
                  simp only [Act.put, List.setIfInBounds_toArray, List.set_cons_zero, List.set_cons_succ]
                  refine wpAnyH_done (by kernel_rfl) ?_ _
                  refine NoPanic.normal ?_
                  have hmay := HMY.out
                  go_wp2
                  go_roundg (n - (j + 1))
                  case measure => omega
                  case rel => exact ⟨j + 1, a, b + 1, rfl, rfl, by go_num, by omega, by omega, by omega, Lib.hid (by rw [cntW_snoc _ _ _ _ _ (by rw [HLN.out]; exact hlt) x HXX.out, HC1.out, if_neg (by simp [hxk.out, hxw.out, g3]), Nat.add_zero]), Lib.hid (by rw [cntW_snoc _ _ _ _ _ (by rw [HLN.out]; exact hlt) x HXX.out, HC2.out, if_pos (by simp [hxk.out, hxw.out, hmay, g1, g3])]), HID2, Lib.hid (bel_on hbz (bel_on HCW.out hbv5))⟩
                | false =>
                  have HCK2 := Lib.hid (HCKE.out x HXI.out false hmay)
                  have HMY := Lib.hid hmay
                  clear hmay
                  go_wp2
                  go_quiet (fail)
                  have HCW := Lib.hid (below_drewN (Below.refl wr.heap.size wr) nq)
                  generalize wr.drewN nq = v4 at *
                  go_wp2_with fail
                  refine wp_region_noPanic ?_
                  refine wp_region_held_drew (S := fun w' => Below v4.heap.size v4 w') (by kernel_rfl) (below_drew (Below.refl _ _)) (fun hHeld => ?_)
                  refine wpAnyH_take (i := 0) (oi := ⟨some 78, _, _, _, _, _⟩) (v := ?_) rfl (by kernel_rfl) (by kernel_rfl) (by kernel_rfl) (fun _ _ _ h => h) (Or.inl ⟨by rfl, ?_⟩) hHeld ?_
                  rotate_left
                  · intro ww hSw
                    (try dsimp only at hSw)
                    go_simp
                    (try with_reducible rfl)
                  simp only [Act.put, List.setIfInBounds_toArray, List.set_cons_zero, List.set_cons_succ]
                  refine wpAnyH_take (i := 1) (oi := ⟨some 79, _, _, _, _, _⟩) (v := ?_) rfl (by kernel_rfl) (by kernel_rfl) (by kernel_rfl) (fun _ _ _ h => h) (Or.inl ⟨by rfl, ?_⟩) hHeld ?_
                  rotate_left
                  · intro ww hSw
                    (try dsimp only at hSw)
                    go_simp
                    (try with_reducible rfl)
                  simp only [Act.put, List.setIfInBounds_toArray, List.set_cons_zero, List.set_cons_succ]
                  refine wpAnyH_take (i := 2) (oi := ⟨some 80, _, _, _, _, _⟩) (v := .pointer (some ⟨be, oe + j * 11, none⟩)) rfl (by kernel_rfl) (by kernel_rfl) (by kernel_rfl) (fun _ _ _ h => h) (Or.inl ⟨by rfl, ?_⟩) hHeld ?_
                  · intro ww hSw
                    (try dsimp only at hSw)
                    go_simp
                  simp only [Act.put, List.setIfInBounds_toArray, List.set_cons_zero, List.set_cons_succ]
                  refine wpAnyH_take (i := 3) (oi := ⟨some 81, _, _, _, _, _⟩) (v := ?_) rfl (by kernel_rfl) (by kernel_rfl) (by kernel_rfl) (fun _ _ _ h => h) (Or.inl ⟨by rfl, ?_⟩) hHeld ?_
                  rotate_left
                  · intro ww hSw
                    (try dsimp only at hSw)
                    go_simp
                    (try with_reducible rfl)
                  simp only [Act.put, List.setIfInBounds_toArray, List.set_cons_zero, List.set_cons_succ]
                  refine wpAnyH_take (i := 4) (oi := ⟨some 82, _, _, _, _, _⟩) (v := .int .i64 xw) rfl (by kernel_rfl) (by kernel_rfl) (by kernel_rfl) (fun _ _ _ h => h) (Or.inl ⟨by rfl, ?_⟩) hHeld ?_
                  · intro ww hSw
                    (try dsimp only at hSw)
                    obtain ⟨-, q1, q3, ql⟩ := HC.out ww (bel_on HCW.out hSw)
                    go_simp
                  simp only [Act.put, List.setIfInBounds_toArray, List.set_cons_zero, List.set_cons_succ]
                  refine wpAnyH_take (i := 5) (oi := ⟨some 83, _, _, _, _, _⟩) (v := ?_) rfl (by kernel_rfl) (by kernel_rfl) (by kernel_rfl) (fun _ _ _ h => h) (Or.inl ⟨by rfl, ?_⟩) hHeld ?_
                  rotate_left
                  · intro ww hSw
                    (try dsimp only at hSw)
                    go_simp
                    (try with_reducible rfl)
                  simp only [Act.put, List.setIfInBounds_toArray, List.set_cons_zero, List.set_cons_succ]
                  refine wpAnyH_take (i := 6) (oi := ⟨some 84, _, _, _, _, _⟩) (v := .bool true) rfl (by kernel_rfl) (by kernel_rfl) (by kernel_rfl) (fun _ _ _ h => h) (Or.inl ⟨by rfl, ?_⟩) hHeld ?_
                  · intro ww hSw
                    (try dsimp only at hSw)
                    go_simp
                  simp only [Act.put, List.setIfInBounds_toArray, List.set_cons_zero, List.set_cons_succ]
                  refine wpAnyH_take (i := 7) (oi := ⟨some 85, _, _, _, _, _⟩) (v := ?_) rfl (by kernel_rfl) (by kernel_rfl) (by kernel_rfl) (fun _ _ _ h => h) (Or.inl ⟨by rfl, ?_⟩) hHeld ?_
                  rotate_left
                  · intro ww hSw
                    (try dsimp only at hSw)
                    go_simp
                    (try with_reducible rfl)
                  simp only [Act.put, List.setIfInBounds_toArray, List.set_cons_zero, List.set_cons_succ]
                  refine wpAnyH_take (i := 8) (oi := ⟨some 86, _, _, _, _, _⟩) (v := ?_) rfl (by kernel_rfl) (by kernel_rfl) (by kernel_rfl) (fun _ _ _ h => h) (Or.inl ⟨by rfl, ?_⟩) hHeld ?_
                  rotate_left
                  · intro ww hSw
                    (try dsimp only at hSw)
                    go_simp
                    (try with_reducible rfl)
                  simp only [Act.put, List.setIfInBounds_toArray, List.set_cons_zero, List.set_cons_succ]
                  refine wpAnyH_take (i := 9) (oi := ⟨some 87, _, _, _, _, _⟩) (v := ?_) rfl (by kernel_rfl) (by kernel_rfl) (by kernel_rfl) (fun _ _ _ h => h) (Or.inl ⟨by rfl, ?_⟩) hHeld ?_
                  rotate_left
                  · intro ww hSw
                    (try dsimp only at hSw)
                    go_simp
                    (try with_reducible rfl)
                  simp only [Act.put, List.setIfInBounds_toArray, List.set_cons_zero, List.set_cons_succ]
                  refine wpAnyH_take (i := 10) (oi := ⟨some 88, _, _, _, _, _⟩) (v := .pointer (some ⟨be, oe + j * 11, none⟩)) rfl (by kernel_rfl) (by kernel_rfl) (by kernel_rfl) (fun _ _ _ h => h) (Or.inl ⟨by rfl, ?_⟩) hHeld ?_
                  · intro ww hSw
                    (try dsimp only at hSw)
                    go_simp
                  simp only [Act.put, List.setIfInBounds_toArray, List.set_cons_zero, List.set_cons_succ]
                  refine wpAnyH_take (i := 11) (oi := ⟨some 89, _, _, _, _, _⟩) (v := ?_) rfl (by kernel_rfl) (by kernel_rfl) (by kernel_rfl) (fun _ _ _ h => h) (Or.inl ⟨by rfl, ?_⟩) hHeld ?_
                  rotate_left
                  · intro ww hSw
                    (try dsimp only at hSw)
                    go_simp
                    (try with_reducible rfl)
                  simp only [Act.put, List.setIfInBounds_toArray, List.set_cons_zero, List.set_cons_succ]
                  refine wpAnyH_take (i := 12) (oi := ⟨some 90, _, _, _, _, _⟩) (v := .int .i64 xk) rfl (by kernel_rfl) (by kernel_rfl) (by kernel_rfl) (fun _ _ _ h => h) (Or.inl ⟨by rfl, ?_⟩) hHeld ?_
                  · intro ww hSw
                    (try dsimp only at hSw)
                    obtain ⟨-, q1, q3, ql⟩ := HC.out ww (bel_on HCW.out hSw)
                    go_simp
                  simp only [Act.put, List.setIfInBounds_toArray, List.set_cons_zero, List.set_cons_succ]
                  refine wpAnyH_take (i := 13) (oi := ⟨some 91, _, _, _, _, _⟩) (v := .bool true) rfl (by kernel_rfl) (by kernel_rfl) (by kernel_rfl) (fun _ _ _ h => h) (Or.inl ⟨by rfl, ?_⟩) hHeld ?_
                  · intro ww hSw
                    (try dsimp only at hSw)
                    go_simp
                  simp only [Act.put, List.setIfInBounds_toArray, List.set_cons_zero, List.set_cons_succ]
                  refine wpAnyH_take (i := 14) (oi := ⟨some 92, _, _, _, _, _⟩) (v := ?_) rfl (by kernel_rfl) (by kernel_rfl) (by kernel_rfl) (fun _ _ _ h => h) (Or.inl ⟨by rfl, ?_⟩) hHeld ?_
                  rotate_left
                  · intro ww hSw
                    (try dsimp only at hSw)
                    go_simp
                    (try with_reducible rfl)
                  simp only [Act.put, List.setIfInBounds_toArray, List.set_cons_zero, List.set_cons_succ]
                  refine wpAnyH_take (i := 15) (oi := ⟨some 93, _, _, _, _, _⟩) (v := ?_) rfl (by kernel_rfl) (by kernel_rfl) (by kernel_rfl) (fun _ _ _ h => h) (Or.inl ⟨by rfl, ?_⟩) hHeld ?_
                  rotate_left
                  · intro ww hSw
                    (try dsimp only at hSw)
                    go_simp
                    (try with_reducible rfl)
                  simp only [Act.put, List.setIfInBounds_toArray, List.set_cons_zero, List.set_cons_succ]
                  refine wpAnyH_take (i := 16) (oi := ⟨some 94, _, _, _, _, _⟩) (v := .agg cs) rfl (by kernel_rfl) (by kernel_rfl) (by kernel_rfl) (fun _ _ _ h => h) (Or.inl ⟨by rfl, ?_⟩) hHeld ?_
                  · intro ww hSw
                    (try dsimp only at hSw)
                    exact exec_load_st _ rfl rfl (HBr.out.below (bel_on HCW.out hSw)) HZ.out
                  simp only [Act.put, List.setIfInBounds_toArray, List.set_cons_zero, List.set_cons_succ]
                  refine wpAnyH_take (i := 17) (oi := ⟨some 95, _, _, _, _, _⟩) (v := ?_) rfl (by kernel_rfl) (by kernel_rfl) (by kernel_rfl) (fun _ _ _ h => h) (Or.inl ⟨by rfl, ?_⟩) hHeld ?_
                  rotate_left
                  · intro ww hSw
                    (try dsimp only at hSw)
                    go_simp
                    (try with_reducible rfl)
                  simp only [Act.put, List.setIfInBounds_toArray, List.set_cons_zero, List.set_cons_succ]
                  refine wpAnyH_take (i := 18) (oi := ⟨some 96, _, _, _, _, _⟩) (v := ?_) rfl (by kernel_rfl) (by kernel_rfl) (by kernel_rfl) (fun _ _ _ h => h) (Or.inl ⟨by rfl, ?_⟩) hHeld ?_
                  rotate_left
                  · intro ww hSw
                    (try dsimp only at hSw)
                    go_simp
                    (try with_reducible rfl)
                  simp only [Act.put, List.setIfInBounds_toArray, List.set_cons_zero, List.set_cons_succ]
                  refine wpAnyH_take (i := 19) (oi := ⟨some 97, _, _, _, _, _⟩) (v := .pointer (some ⟨be, oe + j * 11, none⟩)) rfl (by kernel_rfl) (by kernel_rfl) (by kernel_rfl) (fun _ _ _ h => h) (Or.inl ⟨by rfl, ?_⟩) hHeld ?_
                  · intro ww hSw
                    (try dsimp only at hSw)
                    go_simp
                  simp only [Act.put, List.setIfInBounds_toArray, List.set_cons_zero, List.set_cons_succ]
                  refine wpAnyH_take (i := 20) (oi := ⟨some 98, _, _, _, _, _⟩) (v := .agg (evC x)) rfl (by kernel_rfl) (by kernel_rfl) (by kernel_rfl) (fun _ _ _ h => h) (Or.inl ⟨by rfl, ?_⟩) hHeld ?_
                  · intro ww hSw
                    (try dsimp only at hSw)
                    have hq := evs_load (HEr.out.below (bel_on HCW.out hSw)) (i := j) hlt
                    rw [HXX.out] at hq
                    exact exec_load_at _ rfl rfl hq
                  simp only [Act.put, List.setIfInBounds_toArray, List.set_cons_zero, List.set_cons_succ]
                  refine wpAnyH_ready (rs := [21]) (by kernel_rfl) (by simp) ?_
                  refine AllReadyH.cons (o := ⟨some 99, _, _, _, _, _⟩) rfl (fun K hK => ?_) AllReadyH.nil
                  go_simp
                  go_at_call 18
                  refine (HCK2.out _).mono ?_
                  rintro e_r v5 ⟨rfl, hbn⟩
                  have hbv5 : Below v4.heap.size v4 v5 := bel_on (show Below v4.heap.size v4 _ by (repeat' (first | with_reducible exact Below.refl _ _ | with_reducible assumption | with_reducible refine bel_alloc ?_ _ | with_reducible refine bel_set ?_ ?_ _ | with_reducible refine below_drewN ?_ _ | with_reducible refine below_drew ?_ | (simp; done) | (simp; omega) | omega))) hbn
                  clear hbn
                  go_wp2_with fail
                  refine hK.out _ _ ?_ (fun hHeld => ?_)
                  · (try dsimp only)
                    exact hbv5
                  clear hK K
                  (try simp only [Act.put, List.setIfInBounds_toArray, List.set_cons_zero, List.set_cons_succ])
                  refine wpAnyH_take (i := 22) (oi := ⟨some 100, _, _, _, _, _⟩) (v := ?_) rfl (by kernel_rfl) (by kernel_rfl) (by kernel_rfl) (fun _ _ _ h => h) (Or.inl ⟨by rfl, ?_⟩) hHeld ?_
                  rotate_left
                  · intro ww hSw
                    (try dsimp only at hSw)
                    go_simp
                    (try with_reducible rfl)
                  simp only [Act.put, List.setIfInBounds_toArray, List.set_cons_zero, List.set_cons_succ]
                  refine wpAnyH_done (by kernel_rfl) ?_ _
                  refine NoPanic.normal ?_
                  have hmay := HMY.out
                  go_wp2
                  go_roundg (n - (j + 1))
                  case measure => omega
                  case rel => exact ⟨j + 1, a, b, rfl, rfl, by go_num, by omega, by omega, by omega, Lib.hid (by rw [cntW_snoc _ _ _ _ _ (by rw [HLN.out]; exact hlt) x HXX.out, HC1.out, if_neg (by simp [hxk.out, hxw.out, g3]), Nat.add_zero]), Lib.hid (by rw [cntW_snoc _ _ _ _ _ (by rw [HLN.out]; exact hlt) x HXX.out, HC2.out, if_neg (by simp [hmay]), Nat.add_zero]), HID2, Lib.hid (bel_on hbz (bel_on HCW.out hbv5))⟩
              · have g3' : (xk == 2) = false := beq_eq_false_iff_ne.2 g3
                go_wp2
                go_quiet (fail)
                have HCQ := Lib.hid (below_drewN (Below.refl wr.heap.size wr) nq)
                obtain ⟨z0, z1, z3, zl⟩ := HC.out _ HCQ.out
                generalize wr.drewN nq = v4 at *
                go_wp2
                go_quiet (fail)
                go_wp2
                go_roundg (n - (j + 1))
                case measure => omega
                case rel => exact ⟨j + 1, a, b, rfl, rfl, by go_num, by omega, by omega, by omega, Lib.hid (by rw [cntW_snoc _ _ _ _ _ (by rw [HLN.out]; exact hlt) x HXX.out, HC1.out, if_neg (by simp [hxk.out, hxw.out, g2]), Nat.add_zero]), Lib.hid (by rw [cntW_snoc _ _ _ _ _ (by rw [HLN.out]; exact hlt) x HXX.out, HC2.out, if_neg (by simp [hxk.out, hxw.out, g3]), Nat.add_zero]), HID2, Lib.hid (below_drewN (bel_on hbz HCQ.out) _)⟩
          · have g1' : (xw == wk) = false := beq_eq_false_iff_ne.2 g1
            go_wp2
            go_quiet (fail)
            have HCQ := Lib.hid (below_drewN (Below.refl wr.heap.size wr) nq)
            obtain ⟨z0, z1, z3, zl⟩ := HC.out _ HCQ.out
            generalize wr.drewN nq = v4 at *
            go_wp2
            go_quiet (fail)
            go_wp2
            go_roundg (n - (j + 1))
            case measure => omega
            case rel => exact ⟨j + 1, a, b, rfl, rfl, by go_num, by omega, by omega, by omega, Lib.hid (by rw [cntW_snoc _ _ _ _ _ (by rw [HLN.out]; exact hlt) x HXX.out, HC1.out, if_neg (by simp [hxk.out, hxw.out, g1]), Nat.add_zero]), Lib.hid (by rw [cntW_snoc _ _ _ _ _ (by rw [HLN.out]; exact hlt) x HXX.out, HC2.out, if_neg (by simp [hxk.out, hxw.out, g1]), Nat.add_zero]), HID2, Lib.hid (below_drewN (bel_on hbz HCQ.out) _)⟩
    · obtain rfl : i = n := by omega
      have eT : l.take i = l := by rw [← HLN.out]; exact List.take_length
      rw [eT] at HC1 HC2
      have hap := apart_of HLN.out HID.out
      have HAP := Lib.hid (flags_apart (wk := wk) HM.out hap)
      have HKI := Lib.hid (flags_kind (wk := wk) HM.out hap)
      have hsum := HSUM.out hap
      rw [HC1.out, HC2.out] at hsum
      have HSM := Lib.hid hsum
      have hb4 := HW4.out
      replace HB := Lib.hid (HB.out.below hb4)
      replace HS := Lib.hid (HS.out.below hb4)
      replace HE := Lib.hid (HE.out.below hb4)
      replace HW := Lib.hid (bel_on HW.out hb4)
      clear hb4
      clear HID hap hsum eT HW4 HCKE HQS HSUM
      go_wp2_with (refine wpList_exec (o := ⟨some 104, _, _, _, _, _⟩) (by rfl) (exec_load_st _ rfl rfl HB.out HZ.out) ?_)
      refine (stream_any s cs _ HS.out A i c l HE.out (by omega) HIN.out wk).mono ?_
      intro e w6 hg
      obtain ⟨A5, c5, B5, d5, rfl, hs2, hf2, hb2⟩ := hg.two
      have HA := Lib.hid hs2
      have HFA := Lib.hid hf2
      clear hg hs2 hf2
      replace HE := Lib.hid (HE.out.below hb2)
      replace HW := Lib.hid (bel_on HW.out hb2)
      clear hb2
      have hl1 := HLE.out
      have hla := HLN.out
      obtain ⟨FA, hFA⟩ : ∃ FA, Hid (flagsOf s wk l = FA) := ⟨_, rfl⟩
      rw [hFA.out] at HFA HAP HKI HSM hl1
      rw [hFA.out]
      obtain ⟨mf, hmf⟩ : ∃ mf, FA.length = mf := ⟨_, rfl⟩
      have hmf' : mf ≤ 100 := by omega
      rw [hmf] at HFA ⊢
      clear hl1 hla HLE HA hFA HB HS HF HCK HFT HM
      go_wp2
      go_loopg [14, 15, 16] mf (fun kx s14 s15 s16 wr => ∃ (p u v : Nat), s14 = .int .i64 u ∧ s15 = .int .i64 v ∧ s16 = .int .i64 p ∧ p + kx = mf ∧ u ≤ 100 * p ∧ v ≤ 100 * p ∧ Hid (cntF 1 l (FA.take p) = u) ∧ Hid (cntF 2 l (FA.take p) = v) ∧ Hid (Below w6.heap.size w6 wr))
      case atStart => exact ⟨0, 0, 0, rfl, rfl, rfl, by omega, by omega, by omega, Lib.hid (by rw [List.take_zero]; rfl), Lib.hid (by rw [List.take_zero]; rfl), Lib.hid (Below.refl _ _)⟩
      case round =>
        obtain ⟨p, u, v, rfl, rfl, rfl, hp, hu, hv, HU, HV, HW7⟩ := hrel
        by_cases hlt : p < mf
        · have HF7 := Lib.hid (HFA.out.below HW7.out)
          have HE7 := Lib.hid (HE.out.below HW7.out)
          obtain ⟨bf, of, rfl⟩ := HF7.out.form (by omega)
          obtain ⟨x, hx⟩ : ∃ x, FA.getD p FlagP.none = x := ⟨_, rfl⟩
          have HXX := Lib.hid hx
          have HXM : Hid (x ∈ FA) := by
            show _ ∈ _
            rw [← hx, List.getD_eq_getElem?_getD, List.getElem?_eq_getElem (by omega), Option.getD_some]
            exact List.getElem_mem _
          have p0 : (0 : Int) ≤ (p : Int) := by omega
          have p1 : (p : Int) < (mf : Int) := by omega
          obtain ⟨xi, hxi⟩ : ∃ z, Hid (x.id = z) := ⟨_, rfl⟩
          obtain ⟨xk, hxk⟩ : ∃ z, Hid (x.kd = z) := ⟨_, rfl⟩
          clear hx
          generalize wr = w7 at *
          go_wp2
          go_loopg [17] p (fun kx s17 wr => ∃ j : Nat, s17 = .int .i64 j ∧ j + kx = p ∧ Hid (Below w7.heap.size w7 wr))
          case atStart => exact ⟨0, rfl, by omega, Lib.hid (Below.refl _ _)⟩
          case round =>
            obtain ⟨j, rfl, hj, HW8⟩ := hrel
            have HF8 := Lib.hid (HF7.out.below HW8.out)
            by_cases hjp : j < p
            · obtain ⟨z, hz⟩ : ∃ z, FA.getD j FlagP.none = z := ⟨_, rfl⟩
              obtain ⟨z0, -⟩ := flgs_num HF8.out (i := j) (by omega) z hz
              obtain ⟨y0, -⟩ := flgs_num HF8.out (i := p) hlt x HXX.out
              have zl := cell_lt z0
              have hne := flag_ids HAP.out (i := p) (j := j) (by omega) hjp
              rw [hz, HXX.out] at hne
              have hq' : (z.id == x.id) = false := beq_eq_false_iff_ne.2 hne
              have j0 : (0 : Int) ≤ (j : Int) := by omega
              have j1 : (j : Int) < (mf : Int) := by omega
              have hb8 := HW8.out
              clear hne hz
              go_wp2
              go_quiet (fail)
              go_wp2
              go_roundg (p - (j + 1))
              case measure => omega
              case rel => exact ⟨j + 1, by go_num, by omega, Lib.hid (below_drewN hb8 _)⟩
            · obtain rfl : j = p := by omega
              have HE8 := Lib.hid (HE7.out.below HW8.out)
              have HW9 := Lib.hid (bel_on HW7.out HW8.out)
              clear HW8 HF7 HE7 HW7
              generalize wr = w8 at *
              go_wp2
              go_loopg [14, 15, 18] i (fun kx s14 s15 s18 wr => ∃ (k u' v' : Nat), s14 = .int .i64 u' ∧ s15 = .int .i64 v' ∧ s18 = .int .i64 k ∧ k + kx = i ∧ u' ≤ u + k ∧ v' ≤ v + k ∧ Hid (u + (l.take k).countP (hasId xi 1) = u') ∧ Hid (v + (l.take k).countP (hasId xi 2) = v') ∧ Hid (Below w8.heap.size w8 wr))
              case atStart => exact ⟨0, u, v, rfl, rfl, rfl, by omega, by omega, by omega, Lib.hid (by rw [List.take_zero]; rfl), Lib.hid (by rw [List.take_zero]; rfl), Lib.hid (Below.refl _ _)⟩
              case round =>
                obtain ⟨k, u', v', rfl, rfl, rfl, hk, hu', hv', HU', HV', HWA⟩ := hrel
                by_cases hki : k < i
                · have HEA := Lib.hid (HE8.out.below HWA.out)
                  have HFX := Lib.hid (HF8.out.below HWA.out)
                  obtain ⟨be, oe, rfl⟩ := HEA.out.form (by omega)
                  obtain ⟨e, he⟩ : ∃ e, l.getD k EvP.none = e := ⟨_, rfl⟩
                  have HEE := Lib.hid he
                  have hem : e ∈ l := by
                    rw [← he, List.getD_eq_getElem?_getD, List.getElem?_eq_getElem (by rw [HLN.out]; exact hki), Option.getD_some]
                    exact List.getElem_mem _
                  have hkind := HKI.out x HXM.out e hem
                  obtain ⟨ei, hei⟩ : ∃ z, Hid (e.id = z) := ⟨_, rfl⟩
                  obtain ⟨ek, hek⟩ : ∃ z, Hid (e.kd = z) := ⟨_, rfl⟩
                  rw [hei.out, hxi.out, hek.out, hxk.out] at hkind
                  have HKK := Lib.hid hkind
                  have HC : Hid (∀ w', Below wr.heap.size wr w' → w'.cell? ⟨be, oe + k * 11, none⟩ = some (.int .i64 ei) ∧ w'.cell? ⟨be, oe + k * 11 + 3, none⟩ = some (.int .i64 ek) ∧ be < w'.heap.size ∧ w'.cell? ⟨bf, of + j * 2, none⟩ = some (.int .i64 xi) ∧ w'.cell? ⟨bf, of + j * 2 + 1, none⟩ = some (.int .i64 xk) ∧ bf < w'.heap.size) := fun w' hw' => by
                    obtain ⟨q0, -, -, q3, -⟩ := evs_num (HEA.out.below hw') hki e HEE.out
                    obtain ⟨r0, r1⟩ := flgs_num (HFX.out.below hw') (i := j) hlt x HXX.out
                    rw [← hei.out, ← hek.out, ← hxi.out, ← hxk.out]
                    exact ⟨q0, q3, cell_lt q0, r0, r1, cell_lt r0⟩
                  obtain ⟨q0, q3, ql, r0, r1, rl⟩ := HC.out wr (Below.refl _ _)
                  have H1 : Hid ((l.take (k + 1)).countP (hasId xi 1) = (l.take k).countP (hasId xi 1) + (if hasId xi 1 e = true then 1 else 0)) := hasId_snoc xi 1 l k (by rw [HLN.out]; exact hki) e HEE.out
                  have H2 : Hid ((l.take (k + 1)).countP (hasId xi 2) = (l.take k).countP (hasId xi 2) + (if hasId xi 2 e = true then 1 else 0)) := hasId_snoc xi 2 l k (by rw [HLN.out]; exact hki) e HEE.out
                  have k0 : (0 : Int) ≤ (k : Int) := by omega
                  have k1 : (k : Int) < (i : Int) := by omega
                  have hbA := HWA.out
                  clear he hem hkind
                  by_cases g0 : ei = xi
                  · have g0' : (ei != xi) = false := by simp [g0]
                    have hkk := HKK.out g0
                    by_cases g1 : ek = 1
                    · have g1' : (ek == 1) = true := by simpa using g1
                      have g2' : (ek == 2) = false := by simp [g1]
                      have hr1 : (if hasId xi 1 e = true then 1 else 0) = 1 := if_pos (by simp [hasId, hei.out, hek.out, g0, g1])
                      have hr2 : (if hasId xi 2 e = true then 1 else 0) = 0 := if_neg (by simp [hasId, hei.out, hek.out, g0, g1])
                      have HN1 : Hid (u + (l.take (k + 1)).countP (hasId xi 1) = u' + 1) := by show _ = _; rw [H1.out, hr1, ← HU'.out, Nat.add_assoc]
                      have HN2 : Hid (v + (l.take (k + 1)).countP (hasId xi 2) = v') := by show _ = _; rw [H2.out, hr2, ← HV'.out, Nat.add_zero]
                      have hx12 := hkk.1 g1
                      clear hr1 hr2 hkk
                      by_cases f1 : xk = 1
                      · have f1' : (xk == 1) = true := by simpa using f1
                        have tt : (true != true) = false := rfl
                        clear hx12 g0 g1 f1
                        go_wp2
                        go_quiet (fail)
                        have HCQ := Lib.hid (below_drewN (Below.refl wr.heap.size wr) nq)
                        obtain ⟨q0, q3, ql, r0, r1, rl⟩ := HC.out _ HCQ.out
                        generalize wr.drewN nq = v4 at *
                        go_wp2
                        go_quiet (fail)
                        obtain ⟨q0, q3, ql, r0, r1, rl⟩ := HC.out _ (below_drewN HCQ.out nq)
                        go_wp2
                        go_roundg (i - (k + 1))
                        case measure => omega
                        case rel => exact ⟨k + 1, u' + 1, v', by go_num, rfl, by go_num, by omega, by omega, by omega, HN1, HN2, Lib.hid (below_drewN (bel_on hbA HCQ.out) _)⟩
                      · have f1' : (xk == 1) = false := beq_eq_false_iff_ne.2 f1
                        have f2 : xk = 2 := by omega
                        have f2' : (xk == 2) = true := by simpa using f2
                        clear f2
                        have tt : (true != true) = false := rfl
                        clear hx12 g0 g1 f1
                        go_wp2
                        go_quiet (fail)
                        have HCQ := Lib.hid (below_drewN (Below.refl wr.heap.size wr) nq)
                        obtain ⟨q0, q3, ql, r0, r1, rl⟩ := HC.out _ HCQ.out
                        generalize wr.drewN nq = v4 at *
                        go_wp2
                        go_quiet (fail)
                        obtain ⟨q0, q3, ql, r0, r1, rl⟩ := HC.out _ (below_drewN HCQ.out nq)
                        go_wp2
                        go_roundg (i - (k + 1))
                        case measure => omega
                        case rel => exact ⟨k + 1, u' + 1, v', by go_num, rfl, by go_num, by omega, by omega, by omega, HN1, HN2, Lib.hid (below_drewN (bel_on hbA HCQ.out) _)⟩
                    · have g1' : (ek == 1) = false := beq_eq_false_iff_ne.2 g1
                      have f1 : ¬ xk = 1 := fun h => g1 (hkk.2 (.inl h))
                      have f2 : ¬ xk = 2 := fun h => g1 (hkk.2 (.inr h))
                      have f1' : (xk == 1) = false := beq_eq_false_iff_ne.2 f1
                      have f2' : (xk == 2) = false := beq_eq_false_iff_ne.2 f2
                      have hr1 : (if hasId xi 1 e = true then 1 else 0) = 0 := if_neg (by simp [hasId, hei.out, hek.out, g1])
                      have HN1 : Hid (u + (l.take (k + 1)).countP (hasId xi 1) = u') := by show _ = _; rw [H1.out, hr1, ← HU'.out, Nat.add_zero]
                      have tt : (false != false) = false := rfl
                      by_cases g2 : ek = 2
                      · have g2' : (ek == 2) = true := by simpa using g2
                        have hr2 : (if hasId xi 2 e = true then 1 else 0) = 1 := if_pos (by simp [hasId, hei.out, hek.out, g0, g2])
                        have HN2 : Hid (v + (l.take (k + 1)).countP (hasId xi 2) = v' + 1) := by show _ = _; rw [H2.out, hr2, ← HV'.out, Nat.add_assoc]
                        clear hr1 hr2 hkk g0 g1 f1 f2 g2
                        go_wp2
                        go_quiet (fail)
                        have HCQ := Lib.hid (below_drewN (Below.refl wr.heap.size wr) nq)
                        obtain ⟨q0, q3, ql, r0, r1, rl⟩ := HC.out _ HCQ.out
                        generalize wr.drewN nq = v4 at *
                        go_wp2
                        go_quiet (fail)
                        obtain ⟨q0, q3, ql, r0, r1, rl⟩ := HC.out _ (below_drewN HCQ.out nq)
                        go_wp2
                        go_roundg (i - (k + 1))
                        case measure => omega
                        case rel => exact ⟨k + 1, u', v' + 1, rfl, by go_num, by go_num, by omega, by omega, by omega, HN1, HN2, Lib.hid (below_drewN (bel_on hbA HCQ.out) _)⟩
                      · have g2' : (ek == 2) = false := beq_eq_false_iff_ne.2 g2
                        have hr2 : (if hasId xi 2 e = true then 1 else 0) = 0 := if_neg (by simp [hasId, hei.out, hek.out, g2])
                        have HN2 : Hid (v + (l.take (k + 1)).countP (hasId xi 2) = v') := by show _ = _; rw [H2.out, hr2, ← HV'.out, Nat.add_zero]
                        clear hr1 hr2 hkk g0 g1 f1 f2 g2
                        go_wp2
                        go_quiet (fail)
                        have HCQ := Lib.hid (below_drewN (Below.refl wr.heap.size wr) nq)
                        obtain ⟨q0, q3, ql, r0, r1, rl⟩ := HC.out _ HCQ.out
                        generalize wr.drewN nq = v4 at *
                        go_wp2
                        go_quiet (fail)
                        obtain ⟨q0, q3, ql, r0, r1, rl⟩ := HC.out _ (below_drewN HCQ.out nq)
                        go_wp2
                        go_roundg (i - (k + 1))
                        case measure => omega
                        case rel => exact ⟨k + 1, u', v', rfl, rfl, by go_num, by omega, by omega, by omega, HN1, HN2, Lib.hid (below_drewN (bel_on hbA HCQ.out) _)⟩
                  · have g0' : (ei != xi) = true := by simpa using g0
                    have hr1 : (if hasId xi 1 e = true then 1 else 0) = 0 := if_neg (by simp [hasId, hei.out, g0])
                    have hr2 : (if hasId xi 2 e = true then 1 else 0) = 0 := if_neg (by simp [hasId, hei.out, g0])
                    have HN1 : Hid (u + (l.take (k + 1)).countP (hasId xi 1) = u') := by show _ = _; rw [H1.out, hr1, ← HU'.out, Nat.add_zero]
                    have HN2 : Hid (v + (l.take (k + 1)).countP (hasId xi 2) = v') := by show _ = _; rw [H2.out, hr2, ← HV'.out, Nat.add_zero]
                    clear hr1 hr2 g0
                    go_wp2
                    go_quiet (fail)
                    go_wp2
                    go_roundg (i - (k + 1))
                    case measure => omega
                    case rel => exact ⟨k + 1, u', v', rfl, rfl, by go_num, by omega, by omega, by omega, HN1, HN2, Lib.hid (below_drewN hbA _)⟩
                · obtain rfl : k = i := by omega
                  have eT2 : l.take k = l := by rw [← HLN.out]; exact List.take_length
                  have h1 := HU'.out
                  have h2 := HV'.out
                  rw [eT2, ← hxi.out] at h1 h2
                  have HN1 : Hid (cntF 1 l (FA.take (j + 1)) = u') := by show _ = _; rw [cntF_snoc 1 l FA j (by omega) x HXX.out, HU.out]; exact h1
                  have HN2 : Hid (cntF 2 l (FA.take (j + 1)) = v') := by show _ = _; rw [cntF_snoc 2 l FA j (by omega) x HXX.out, HV.out]; exact h2
                  have hbB := bel_on HW9.out HWA.out
                  clear eT2 h1 h2
                  go_wp2
                  go_roundg (mf - (j + 1))
                  case measure => omega
                  case rel => exact ⟨j + 1, u', v', rfl, rfl, by go_num, by omega, by omega, by omega, HN1, HN2, Lib.hid hbB⟩
        · obtain rfl : p = mf := by omega
          have eT3 : FA.take p = FA := by rw [← hmf]; exact List.take_length
          have h1 := HU.out
          have h2 := HV.out
          have h3 := HSM.out
          rw [eT3] at h1 h2
          rw [h1, h2] at h3
          obtain ⟨dd, hdd⟩ : ∃ dd, (a : Int) - (u : Int) = dd := ⟨_, rfl⟩
          have e1 : IntKind.i64.wrap ((a : Int) - (u : Int)) = dd := by rw [hdd]; exact wrapw_id (by omega) (by omega)
          have e2 : IntKind.i64.wrap ((b : Int) - (v : Int)) = dd := by rw [← h3, hdd]; exact wrapw_id (by omega) (by omega)
          have hend := Lib.hid (bel_on HW.out HW7.out)
          clear eT3 h1 h2 h3 hdd
          go_wp2
          go_ret
          exact ⟨by first | rfl | simp, hend.out⟩
theorem streamFlags_walk (s : SetP) (A1 A2 A3 A4 A5 A6 : Option Addr) (c1 c2 c3 c4 c5 c6 : Nat) (a1 : Option Addr) (len1 cap1 : Nat) (z1 : List EvP) (wk : Int) (w : World) (hs : SetAt w s A1 A2 A3 A4 A5 A6 c1 c2 c3 c4 c5 c6) (hf : s.Fit)
    (s1 : Evs w a1 len1 cap1 z1) (i1 : ∀ e ∈ z1, e.In) (l1 : len1 ≤ cap1) (l1' : cap1 ≤ 9223372036854775807) (b1 : -9223372036854775808 ≤ wk) (b2 : wk ≤ 9223372036854775807) :
    Calls Try.prog 5 #[setV s A1 A2 A3 A4 A5 A6 c1 c2 c3 c4 c5 c6, .slice a1 len1 cap1, .int .i64 wk] w fun e w' => e = .returned (.bool true) ∧ Below w.heap.size w w' := by
  obtain ⟨cs, hcs⟩ : ∃ cs, setV s A1 A2 A3 A4 A5 A6 c1 c2 c3 c4 c5 c6 = .agg cs := ⟨_, rfl⟩
  have hW := setW_of hcs hs hf
  rw [hcs]
  cases hF : decide (s.Few ∧ len1 ≤ 100) with
  | false => exact streamFlags_no s cs w hW a1 len1 cap1 z1 s1 i1 wk hF
  | true =>
    cases hck : checkB s with
    | false => exact streamFlags_nock s cs w hW a1 len1 cap1 z1 s1 i1 wk hF hck
    | true => exact streamFlags_main s cs w hW a1 len1 cap1 z1 s1 i1 wk hF hck
end Go.Proofs.Ytbijaaglmhoopaa
