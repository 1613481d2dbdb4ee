/-
  An element of a slice of events is read; lumperref08.Same.
-/
import Derived.Test.YtdhkfhgggkndoaaEvStable
import Derived.Test.YtdhkfhgggkndoaaEvFew
import Derived.Test.YtdhkfhgggkndoaaOrders
import Derived.StillTailTactics
namespace Go.Proofs.Ytdhkfhgggkndoaa
open Go.RowKit Go.Sort
set_option linter.unusedVariables false
set_option linter.unusedSimpArgs false
set_option maxRecDepth 20000

theorem ite_n18 {p : Prop} [Decidable p] {w : World} : (if p then Result.ok (Value.bool false) w else Result.ok (Value.bool true) w) = Result.ok (Value.bool (!decide p)) w := by by_cases h : p <;> simp [h]
theorem ite_n28 {p : Prop} [Decidable p] {c : Bool} {w : World} : (if p then Result.ok (Value.bool c) w else Result.ok (Value.bool true) w) = Result.ok (Value.bool (!decide p || c)) w := by by_cases h : p <;> simp [h]
theorem run_ev_neq8 (x y : EvP) (w : World) : (binOp .neq 43 (.agg (evC x)) (.agg (evC y))).run Try.prog w = .ok (.bool (!decide (x = y))) w := by
  have u3 := Try.underlying3
  have a3 := Try.isAgg3
  have z3 := Try.sizeOf3
  have hS : Try.prog.underlying 43 = some (.struct (Try.prog.fieldsOf 43)) := by kernel_rfl
  have hp : Try.prog.stoodInHeld 43 = false := by kernel_rfl
  obtain ⟨a1, a2, a3', a4, a5, a6, a7, a8, a9, a10, a11⟩ := x
  obtain ⟨b1, b2, b3, b4, b5, b6, b7, b8, b9, b10, b11⟩ := y
  simp only [evC]
  rw [run_neq_struct, show (10000 : Nat) = 9999 + 1 from rfl, run_equalIn_agg w 9999 43 _ _ hS hp]
  simp only [Program.fieldsOf, Try.underlying43]
  go_simp
  simp only [ite_n18]
  simp only [ite_n28]
theorem evC_getD (e : EvP) {j : Nat} (h : j < 11) : (evC e)[j]? = some ((encE e).getD j undef) := by
  have hs : j < (evC e).size := h
  simp [encE, List.getD, hs]
theorem run_loadVar_at {w : World} {b off : Nat} {e : EvP} (hc : ∀ j, j < 11 → w.cell? ⟨b, off + j, none⟩ = (evC e)[j]?) : (loadVar 43 ⟨b, off, none⟩).run Try.prog w = .ok (.agg (evC e)) w := by
  have h := run_loadCells_list (P := Try.prog) (w := w) ⟨b, off, none⟩ (encE e) (fun j v hv => by
    have hj : j < 11 := by
      have := (List.getElem?_eq_some_iff.1 hv).1
      rwa [encE_len] at this
    rw [tab_add, hc j hj, evC_getD e hj, ← hv]
    simp [List.getD, show j < (encE e).length from hj])
  rw [encE_len, encE_arr] at h
  unfold loadVar
  simp only [Sem.run_bind, Sem.run_pure, Try.isAgg43, Try.sizeOf43, Result.andThen_ok, if_true, h]
theorem evs_load {w : World} {b off n c : Nat} {l : List EvP} (h : Evs w (some ⟨b, off, none⟩) n c l) {i : Nat} (hi : i < n) : (loadVar 43 ⟨b, off + i * 11, none⟩).run Try.prog w = .ok (.agg (evC (l.getD i EvP.none))) w :=
  run_loadVar_at fun j hj => by rw [h.cell hi hj, evC_getD _ hj]
theorem exec_load_at {o : Oper} {ρ : Operand → Value} {ww : World} (x : Operand) (ho : o.op = .load 43 x) {b off : Nat} (hx : ρ x = .pointer (some ⟨b, off, none⟩)) {v : Value} (hl : (loadVar 43 ⟨b, off, none⟩).run Try.prog ww = .ok v ww) : (execOp ρ o).run Try.prog ww = .ok (.value v) ww := by
  unfold execOp
  simp only [ho, hx, Instr.loadAt, Instr.sureAddr, Sem.run_bind, Sem.run_pure, Result.andThen_ok, hl]
theorem take_snoc_e {l : List EvP} {i : Nat} (h : i < l.length) : l.take (i + 1) = l.take i ++ [l.getD i EvP.none] := by
  rw [List.take_add_one, List.getElem?_eq_getElem h, List.getD_eq_getElem?_getD, List.getElem?_eq_getElem h]
  rfl
set_option maxHeartbeats 8000000 in
theorem rsame_any (A B : Option Addr) (n m c d : Nat) (l l' : List EvP) (w : World) (h : Evs w A n c l) (h' : Evs w B m d l') (hn : n ≤ 1000000) (hm : m ≤ 1000000) (b : Bool) (hb : decide (l = l') = b) :
    Calls Try.prog 25 #[.slice A n c, .slice B m d] w fun e w' => e = .returned (.bool b) ∧ Below w.heap.size w w' := by
  have hl := h.2
  have hl' := h'.2
  have HA := Lib.hid h
  have HB := Lib.hid h'
  have HBB := Lib.hid hb
  clear h h' hb
  by_cases hnm : n = m
  · subst hnm
    go_enter Try.func25, Try.ntmps25
    go_wp2
    go_loopg [5] n (fun kx s5 wr => ∃ i : Nat, s5 = .int .i64 i ∧ i + kx = n ∧ Hid (l.take i = l'.take i) ∧ Hid (Below w.heap.size w wr))
    case atStart => exact ⟨0, rfl, by omega, rfl, Lib.hid (Below.refl _ _)⟩
    case round =>
      obtain ⟨i, rfl, hi, HT, HW⟩ := hrel
      have HA2 := Lib.hid (HA.out.below HW.out)
      have HB2 := Lib.hid (HB.out.below HW.out)
      by_cases hlt : i < n
      · have hlt2 : (i : Int) < (n : Int) := by omega
        have hi0 : (0 : Int) ≤ (i : Int) := by omega
        have hi1 : ((i : Int)).toNat = i := by omega
        obtain ⟨ba, oa, rfl⟩ := HA2.out.form (by omega)
        obtain ⟨bb, ob, rfl⟩ := HB2.out.form (by omega)
        obtain ⟨x, hx⟩ : ∃ x, l.getD i EvP.none = x := ⟨_, rfl⟩
        obtain ⟨y, hy⟩ : ∃ y, l'.getD i EvP.none = y := ⟨_, rfl⟩
        go_wp2_with fail
        by_cases hxy : x = y
        · have hq : ∀ ww, (binOp .neq 43 (.agg (evC x)) (.agg (evC y))).run Try.prog ww = .ok (.bool false) ww := fun ww => by rw [run_ev_neq8, hxy]; simp
          have HXY := Lib.hid hxy
          clear hxy
          have hq2 := hq
          refine wp_region_noPanic ?_
          refine wp_region_held_drew (S := fun w' => Below wr.heap.size wr w') (by kernel_rfl) (below_drew (Below.refl _ _)) (fun hHeld => ?_)
          refine wpAnyH_take (i := 0) (oi := ⟨some 17, _, _, _, _, _⟩) (v := ?_) rfl (by kernel_rfl) (by kernel_rfl) (by kernel_rfl) (fun _ _ _ h => h) (Or.inl ⟨by rfl, ?_⟩) hHeld ?_
          rotate_left
          · intro ww hSw
            (try dsimp only at hSw)
            go_simp
            (try with_reducible rfl)
          simp only [Act.put, List.setIfInBounds_toArray, List.set_cons_zero, List.set_cons_succ]
          refine wpAnyH_take (i := 1) (oi := ⟨some 18, _, _, _, _, _⟩) (v := ?_) rfl (by kernel_rfl) (by kernel_rfl) (by kernel_rfl) (fun _ _ _ h => h) (Or.inl ⟨by rfl, ?_⟩) hHeld ?_
          rotate_left
          · intro ww hSw
            (try dsimp only at hSw)
            go_simp
            (try with_reducible rfl)
          simp only [Act.put, List.setIfInBounds_toArray, List.set_cons_zero, List.set_cons_succ]
          refine wpAnyH_take (i := 2) (oi := ⟨some 19, _, _, _, _, _⟩) (v := .pointer (some ⟨ba, oa + i * 11, none⟩)) rfl (by kernel_rfl) (by kernel_rfl) (by kernel_rfl) (fun _ _ _ h => h) (Or.inl ⟨by rfl, ?_⟩) hHeld ?_
          · intro ww hSw
            (try dsimp only at hSw)
            go_simp
          simp only [Act.put, List.setIfInBounds_toArray, List.set_cons_zero, List.set_cons_succ]
          refine wpAnyH_take (i := 3) (oi := ⟨some 20, _, _, _, _, _⟩) (v := .agg (evC x)) rfl (by kernel_rfl) (by kernel_rfl) (by kernel_rfl) (fun _ _ _ h => h) (Or.inl ⟨by rfl, ?_⟩) hHeld ?_
          · intro ww hSw
            (try dsimp only at hSw)
            rw [← hx]
            exact exec_load_at _ rfl rfl (evs_load (HA2.out.below hSw) (by omega))
          simp only [Act.put, List.setIfInBounds_toArray, List.set_cons_zero, List.set_cons_succ]
          refine wpAnyH_take (i := 4) (oi := ⟨some 21, _, _, _, _, _⟩) (v := ?_) rfl (by kernel_rfl) (by kernel_rfl) (by kernel_rfl) (fun _ _ _ h => h) (Or.inl ⟨by rfl, ?_⟩) hHeld ?_
          rotate_left
          · intro ww hSw
            (try dsimp only at hSw)
            go_simp
            (try with_reducible rfl)
          simp only [Act.put, List.setIfInBounds_toArray, List.set_cons_zero, List.set_cons_succ]
          refine wpAnyH_take (i := 5) (oi := ⟨some 22, _, _, _, _, _⟩) (v := ?_) rfl (by kernel_rfl) (by kernel_rfl) (by kernel_rfl) (fun _ _ _ h => h) (Or.inl ⟨by rfl, ?_⟩) hHeld ?_
          rotate_left
          · intro ww hSw
            (try dsimp only at hSw)
            go_simp
            (try with_reducible rfl)
          simp only [Act.put, List.setIfInBounds_toArray, List.set_cons_zero, List.set_cons_succ]
          refine wpAnyH_take (i := 6) (oi := ⟨some 23, _, _, _, _, _⟩) (v := .pointer (some ⟨bb, ob + i * 11, none⟩)) rfl (by kernel_rfl) (by kernel_rfl) (by kernel_rfl) (fun _ _ _ h => h) (Or.inl ⟨by rfl, ?_⟩) hHeld ?_
          · intro ww hSw
            (try dsimp only at hSw)
            go_simp
          simp only [Act.put, List.setIfInBounds_toArray, List.set_cons_zero, List.set_cons_succ]
          refine wpAnyH_take (i := 7) (oi := ⟨some 24, _, _, _, _, _⟩) (v := .agg (evC y)) rfl (by kernel_rfl) (by kernel_rfl) (by kernel_rfl) (fun _ _ _ h => h) (Or.inl ⟨by rfl, ?_⟩) hHeld ?_
          · intro ww hSw
            (try dsimp only at hSw)
            rw [← hy]
            exact exec_load_at _ rfl rfl (evs_load (HB2.out.below hSw) (by omega))
          simp only [Act.put, List.setIfInBounds_toArray, List.set_cons_zero, List.set_cons_succ]
          refine wpAnyH_take (i := 8) (oi := ⟨some 25, _, _, _, _, _⟩) (v := .bool false) rfl (by kernel_rfl) (by kernel_rfl) (by kernel_rfl) (fun _ _ _ h => h) (Or.inl ⟨by rfl, ?_⟩) hHeld ?_
          · intro ww hSw
            (try dsimp only at hSw)
            have hq1 := hq ww
            go_simp
          simp only [Act.put, List.setIfInBounds_toArray, List.set_cons_zero, List.set_cons_succ]
          refine wpAnyH_done (by kernel_rfl) ?_ _
          refine NoPanic.normal ?_
          go_wp2
          go_roundg (n - (i + 1))
          case measure => omega
          case rel => exact ⟨i + 1, by simp, by omega, Lib.hid (by rw [take_snoc_e (by omega), take_snoc_e (by omega), HT.out, hx, hy, HXY.out]), Lib.hid (below_drew HW.out)⟩
        · have hq : ∀ ww, (binOp .neq 43 (.agg (evC x)) (.agg (evC y))).run Try.prog ww = .ok (.bool true) ww := fun ww => by rw [run_ev_neq8]; simp [hxy]
          obtain rfl : b = false := by
            rw [← HBB.out]
            refine decide_eq_false (fun e => hxy ?_)
            rw [← hx, ← hy, e]
          have hq2 := hq
          refine wp_region_noPanic ?_
          refine wp_region_held_drew (S := fun w' => Below wr.heap.size wr w') (by kernel_rfl) (below_drew (Below.refl _ _)) (fun hHeld => ?_)
          refine wpAnyH_take (i := 0) (oi := ⟨some 17, _, _, _, _, _⟩) (v := ?_) rfl (by kernel_rfl) (by kernel_rfl) (by kernel_rfl) (fun _ _ _ h => h) (Or.inl ⟨by rfl, ?_⟩) hHeld ?_
          rotate_left
          · intro ww hSw
            (try dsimp only at hSw)
            go_simp
            (try with_reducible rfl)
          simp only [Act.put, List.setIfInBounds_toArray, List.set_cons_zero, List.set_cons_succ]
          refine wpAnyH_take (i := 1) (oi := ⟨some 18, _, _, _, _, _⟩) (v := ?_) rfl (by kernel_rfl) (by kernel_rfl) (by kernel_rfl) (fun _ _ _ h => h) (Or.inl ⟨by rfl, ?_⟩) hHeld ?_
          rotate_left
          · intro ww hSw
            (try dsimp only at hSw)
            go_simp
            (try with_reducible rfl)
          simp only [Act.put, List.setIfInBounds_toArray, List.set_cons_zero, List.set_cons_succ]
          refine wpAnyH_take (i := 2) (oi := ⟨some 19, _, _, _, _, _⟩) (v := .pointer (some ⟨ba, oa + i * 11, none⟩)) rfl (by kernel_rfl) (by kernel_rfl) (by kernel_rfl) (fun _ _ _ h => h) (Or.inl ⟨by rfl, ?_⟩) hHeld ?_
          · intro ww hSw
            (try dsimp only at hSw)
            go_simp
          simp only [Act.put, List.setIfInBounds_toArray, List.set_cons_zero, List.set_cons_succ]
          refine wpAnyH_take (i := 3) (oi := ⟨some 20, _, _, _, _, _⟩) (v := .agg (evC x)) rfl (by kernel_rfl) (by kernel_rfl) (by kernel_rfl) (fun _ _ _ h => h) (Or.inl ⟨by rfl, ?_⟩) hHeld ?_
          · intro ww hSw
            (try dsimp only at hSw)
            rw [← hx]
            exact exec_load_at _ rfl rfl (evs_load (HA2.out.below hSw) (by omega))
          simp only [Act.put, List.setIfInBounds_toArray, List.set_cons_zero, List.set_cons_succ]
          refine wpAnyH_take (i := 4) (oi := ⟨some 21, _, _, _, _, _⟩) (v := ?_) rfl (by kernel_rfl) (by kernel_rfl) (by kernel_rfl) (fun _ _ _ h => h) (Or.inl ⟨by rfl, ?_⟩) hHeld ?_
          rotate_left
          · intro ww hSw
            (try dsimp only at hSw)
            go_simp
            (try with_reducible rfl)
          simp only [Act.put, List.setIfInBounds_toArray, List.set_cons_zero, List.set_cons_succ]
          refine wpAnyH_take (i := 5) (oi := ⟨some 22, _, _, _, _, _⟩) (v := ?_) rfl (by kernel_rfl) (by kernel_rfl) (by kernel_rfl) (fun _ _ _ h => h) (Or.inl ⟨by rfl, ?_⟩) hHeld ?_
          rotate_left
          · intro ww hSw
            (try dsimp only at hSw)
            go_simp
            (try with_reducible rfl)
          simp only [Act.put, List.setIfInBounds_toArray, List.set_cons_zero, List.set_cons_succ]
          refine wpAnyH_take (i := 6) (oi := ⟨some 23, _, _, _, _, _⟩) (v := .pointer (some ⟨bb, ob + i * 11, none⟩)) rfl (by kernel_rfl) (by kernel_rfl) (by kernel_rfl) (fun _ _ _ h => h) (Or.inl ⟨by rfl, ?_⟩) hHeld ?_
          · intro ww hSw
            (try dsimp only at hSw)
            go_simp
          simp only [Act.put, List.setIfInBounds_toArray, List.set_cons_zero, List.set_cons_succ]
          refine wpAnyH_take (i := 7) (oi := ⟨some 24, _, _, _, _, _⟩) (v := .agg (evC y)) rfl (by kernel_rfl) (by kernel_rfl) (by kernel_rfl) (fun _ _ _ h => h) (Or.inl ⟨by rfl, ?_⟩) hHeld ?_
          · intro ww hSw
            (try dsimp only at hSw)
            rw [← hy]
            exact exec_load_at _ rfl rfl (evs_load (HB2.out.below hSw) (by omega))
          simp only [Act.put, List.setIfInBounds_toArray, List.set_cons_zero, List.set_cons_succ]
          refine wpAnyH_take (i := 8) (oi := ⟨some 25, _, _, _, _, _⟩) (v := .bool true) rfl (by kernel_rfl) (by kernel_rfl) (by kernel_rfl) (fun _ _ _ h => h) (Or.inl ⟨by rfl, ?_⟩) hHeld ?_
          · intro ww hSw
            (try dsimp only at hSw)
            have hq1 := hq ww
            go_simp
          simp only [Act.put, List.setIfInBounds_toArray, List.set_cons_zero, List.set_cons_succ]
          refine wpAnyH_done (by kernel_rfl) ?_ _
          refine NoPanic.normal ?_
          go_wp2
          go_ret
          exact ⟨rfl, below_drew HW.out⟩
      · have hlt2 : ¬ (i : Int) < (n : Int) := by omega
        obtain rfl : b = true := by
          rw [← HBB.out]
          have e := HT.out
          rw [List.take_of_length_le (by omega), List.take_of_length_le (by omega)] at e
          exact decide_eq_true e
        go_wp2
        go_ret
        exact ⟨rfl, HW.out⟩
  · have hne : ¬ (n : Int) = (m : Int) := by omega
    obtain rfl : b = false := by
      rw [← HBB.out]
      refine decide_eq_false (fun e => hnm ?_)
      rw [← hl, ← hl', e]
    go_enter Try.func25, Try.ntmps25
    go_wp2
    go_ret
    exact ⟨rfl, Below.refl _ _⟩
end Go.Proofs.Ytdhkfhgggkndoaa
