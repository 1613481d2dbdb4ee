/-
  event.order and event.Less: which event stands ahead.
-/
import Derived.Test.YtdhkfhgggkndoaaEvKit
import Derived.Test.YtdhkfhgggkndoaaNums
import Derived.Test.YtdhkfhgggkndoaaOrders
import Derived.RegionTactic
import Derived.Sort.Grow
import Derived.Lib.Hide
namespace Go.Proofs.Ytdhkfhgggkndoaa
open Go.RowKit
set_option linter.unusedVariables false
set_option linter.unusedSimpArgs false
set_option maxRecDepth 20000

def cmpI (x y : Int) : Int := if x < y then -1 else if y < x then 1 else 0
/-- What order tells. -/
def cfE (a b : EvP) : Int := if cmpI a.tm b.tm = 0 then cmpI a.id b.id else cmpI a.tm b.tm
theorem cf_less (a b : EvP) : decide (cfE a b < 0) = lessE a b := by
  unfold lessE
  rw [decide_eq_decide]
  unfold cfE cmpI
  split <;> split <;> (try split) <;> (try split) <;> omega
theorem cfE_small (a b : EvP) : -1 ≤ cfE a b ∧ cfE a b ≤ 1 := by
  unfold cfE cmpI
  split <;> split <;> (try split) <;> omega
theorem isnan_any (x : Int) (w : World) : Calls Try.prog 107 #[.int .i64 x] w fun e w' => e = .returned (.bool false) ∧ w = w' := by
  go_enter Try.func107, Try.ntmps107
  go_wp2
  go_ret
  exact ⟨by simp, rfl⟩
theorem compare_any (x y : Int) (w : World) : Calls Try.prog 92 #[.int .i64 x, .int .i64 y] w fun e w' => e = .returned (.int .i64 (cmpI x y)) ∧ w = w' := by
  have H : Hid (cmpI x y = if x < y then -1 else if y < x then 1 else 0) := Lib.hid rfl
  have c : x < y ∨ y < x ∨ x = y := by omega
  rcases c with h | h | h
  · have e : cmpI x y = -1 := by unfold cmpI; rw [if_pos h]
    have E := Lib.hid e
    clear e
    go_enter Try.func92, Try.ntmps92
    go_wp2_with fail
    refine (isnan_any _ _).mono ?_
    rintro r w1 ⟨rfl, rfl⟩
    go_wp2_with fail
    refine (isnan_any _ _).mono ?_
    rintro r w1 ⟨rfl, rfl⟩
    go_wp2
    go_ret
    exact ⟨ret_one E.out.symm, rfl⟩
  · have e : cmpI x y = 1 := by unfold cmpI; rw [if_neg (by omega), if_pos h]
    have h' : ¬ x < y := by omega
    have E := Lib.hid e
    clear e
    go_enter Try.func92, Try.ntmps92
    go_wp2_with fail
    refine (isnan_any _ _).mono ?_
    rintro r w1 ⟨rfl, rfl⟩
    go_wp2_with fail
    refine (isnan_any _ _).mono ?_
    rintro r w1 ⟨rfl, rfl⟩
    go_wp2
    go_ret
    exact ⟨ret_one E.out.symm, rfl⟩
  · subst h
    have e : cmpI x x = 0 := by unfold cmpI; rw [if_neg (by omega), if_neg (by omega)]
    have h' : ¬ x < x := by omega
    have E := Lib.hid e
    clear e
    go_enter Try.func92, Try.ntmps92
    go_wp2_with fail
    refine (isnan_any _ _).mono ?_
    rintro r w1 ⟨rfl, rfl⟩
    go_wp2_with fail
    refine (isnan_any _ _).mono ?_
    rintro r w1 ⟨rfl, rfl⟩
    go_wp2
    go_ret
    exact ⟨ret_one E.out.symm, rfl⟩
def orI (x y : Int) : Int := if x = 0 then y else x
theorem or_any (g : Nat) (x y : Int) (w : World) (h : Has w g #[.int .i64 x, .int .i64 y]) : Calls Try.prog 91 #[.slice (some ⟨g, 0, none⟩) 2 2] w fun e w' => e = .returned (.int .i64 (orI x y)) ∧ w = w' := by
  obtain ⟨h0, h1, _, _⟩ := h.two
  by_cases hx : x = 0
  · subst hx
    have E : Hid (orI 0 y = y) := Lib.hid (by simp [orI])
    by_cases hy : y = 0
    · subst hy
      go_enter Try.func91, Try.ntmps91
      go_wp2_with fail
      refine wp_loop_rounds 3 ?_
      rw [rounds_succ]
      go_wp2
      rw [rounds_succ]
      go_wp2
      rw [rounds_succ]
      go_wp2
      go_ret
      exact ⟨ret_one E.out.symm, rfl⟩
    · have hy' : (y == 0) = false := by simpa using hy
      go_enter Try.func91, Try.ntmps91
      go_wp2_with fail
      refine wp_loop_rounds 2 ?_
      rw [rounds_succ]
      go_wp2
      rw [rounds_succ]
      go_wp2
      go_ret
      exact ⟨ret_one E.out.symm, rfl⟩
  · have E : Hid (orI x y = x) := Lib.hid (by simp [orI, hx])
    have hx' : (x == 0) = false := by simpa using hx
    go_enter Try.func91, Try.ntmps91
    go_wp2_with fail
    refine wp_loop_rounds 1 ?_
    simp only [rounds_succ]
    go_wp2
    go_ret
    exact ⟨ret_one E.out.symm, rfl⟩
theorem below_growE {a w : World} {B : Nat} (h : Below B a w) (hB : B ≤ w.heap.size) (os : Array Obj) : Below B a (Go.Sort.grow w os) :=
  ⟨h.os, h.tape, h.output, by rw [Go.Sort.size_grow]; have := h.size; omega, fun k hk => by
    rw [← h.block k hk]
    show (w.heap ++ os)[k]? = _
    rw [Array.getElem?_append_left (by omega)]⟩
theorem cf_or (a b : EvP) : orI (cmpI a.tm b.tm) (cmpI a.id b.id) = cfE a b := rfl
open Go.Sort in
set_option maxHeartbeats 1000000 in
theorem order_any (a b : EvP) (W : World) : Calls Try.prog 58 #[.agg (evC a), .agg (evC b)] W fun e w' => e = .returned (.int .i64 (cfE a b)) ∧ ∃ q os, w' = grow (W.drewN q) os := by
  have a0 : (evC a)[0]? = some (.int .i64 a.id) := rfl
  have a2 : (evC a)[2]? = some (.int .i64 a.tm) := rfl
  have b0 : (evC b)[0]? = some (.int .i64 b.id) := rfl
  have b2 : (evC b)[2]? = some (.int .i64 b.tm) := rfl
  have HF := Lib.hid (cf_or a b)
  generalize evC a = ca at *
  generalize evC b = cb at *
  generalize cfE a b = cf at *
  generalize a.tm = ta at *
  generalize b.tm = tb at *
  generalize a.id = ia at *
  generalize b.id = ib at *
  go_enter Try.func58, Try.ntmps58
  go_wp2_with fail
  obtain ⟨w0, hw0⟩ : ∃ w0, w0 = (W.alloc (.cells ca 43)).alloc (.cells cb 43) := ⟨_, rfl⟩
  rw [← hw0]
  have HA : Hid (Has w0 W.heap.size ca) := by rw [hw0]; exact (Has.new W _ ca rfl).alloc _
  have HB : Hid (Has w0 (W.heap.size + 1) cb) := by rw [hw0]; exact Has.new _ _ _ (by simp)
  have HW0 := Lib.hid hw0
  clear hw0
  obtain ⟨ga, hga⟩ : ∃ ga, W.heap.size = ga := ⟨_, rfl⟩
  rw [hga] at HA HB ⊢
  clear hga
  obtain ⟨gb, hgb⟩ : ∃ gb, ga + 1 = gb := ⟨_, rfl⟩
  rw [hgb] at HB ⊢
  clear hgb
  refine wp_region_noPanic ?_
  refine wp_region_held_drew (S := fun w' => Below w0.heap.size w0 w') (by kernel_rfl) (below_drew (Below.refl _ _)) (fun hHeld => ?_)
  refine wpAnyH_take (i := 0) (oi := ⟨some 5, _, _, _, _, _⟩) (v := ?_) rfl (by kernel_rfl) (by kernel_rfl) (by kernel_rfl) (fun _ _ _ h => h) (Or.inl ⟨by rfl, ?_⟩) hHeld ?_
  rotate_left
  · intro ww hSw
    (try dsimp only at hSw)
    go_simp
    (try with_reducible rfl)
  simp only [Act.put, List.setIfInBounds_toArray, List.set_cons_zero, List.set_cons_succ]
  refine wpAnyH_take (i := 1) (oi := ⟨some 6, _, _, _, _, _⟩) (v := .int .i64 ta) rfl (by kernel_rfl) (by kernel_rfl) (by kernel_rfl) (fun _ _ _ h => h) (Or.inl ⟨by rfl, ?_⟩) hHeld ?_
  · intro ww hSw
    (try dsimp only at hSw)
    have hcc := (hSw.cell (p := ⟨ga, 2, none⟩) HA.out.size).trans (HA.out.cell 2 a2)
    have hcs := cell_lt hcc
    go_simp
  simp only [Act.put, List.setIfInBounds_toArray, List.set_cons_zero, List.set_cons_succ]
  refine wpAnyH_take (i := 2) (oi := ⟨some 7, _, _, _, _, _⟩) (v := ?_) rfl (by kernel_rfl) (by kernel_rfl) (by kernel_rfl) (fun _ _ _ h => h) (Or.inl ⟨by rfl, ?_⟩) hHeld ?_
  rotate_left
  · intro ww hSw
    (try dsimp only at hSw)
    go_simp
    (try with_reducible rfl)
  simp only [Act.put, List.setIfInBounds_toArray, List.set_cons_zero, List.set_cons_succ]
  refine wpAnyH_take (i := 3) (oi := ⟨some 8, _, _, _, _, _⟩) (v := .int .i64 tb) rfl (by kernel_rfl) (by kernel_rfl) (by kernel_rfl) (fun _ _ _ h => h) (Or.inl ⟨by rfl, ?_⟩) hHeld ?_
  · intro ww hSw
    (try dsimp only at hSw)
    have hcc := (hSw.cell (p := ⟨gb, 2, none⟩) HB.out.size).trans (HB.out.cell 2 b2)
    have hcs := cell_lt hcc
    go_simp
  simp only [Act.put, List.setIfInBounds_toArray, List.set_cons_zero, List.set_cons_succ]
  refine wpAnyH_take (i := 5) (oi := ⟨some 10, _, _, _, _, _⟩) (v := ?_) rfl (by kernel_rfl) (by kernel_rfl) (by kernel_rfl) (fun _ _ _ h => h) (Or.inl ⟨by rfl, ?_⟩) hHeld ?_
  rotate_left
  · intro ww hSw
    (try dsimp only at hSw)
    go_simp
    (try with_reducible rfl)
  simp only [Act.put, List.setIfInBounds_toArray, List.set_cons_zero, List.set_cons_succ]
  refine wpAnyH_take (i := 6) (oi := ⟨some 11, _, _, _, _, _⟩) (v := .int .i64 ia) rfl (by kernel_rfl) (by kernel_rfl) (by kernel_rfl) (fun _ _ _ h => h) (Or.inl ⟨by rfl, ?_⟩) hHeld ?_
  · intro ww hSw
    (try dsimp only at hSw)
    have hcc := (hSw.cell (p := ⟨ga, 0, none⟩) HA.out.size).trans (HA.out.cell 0 a0)
    have hcs := cell_lt hcc
    go_simp
  simp only [Act.put, List.setIfInBounds_toArray, List.set_cons_zero, List.set_cons_succ]
  refine wpAnyH_take (i := 7) (oi := ⟨some 12, _, _, _, _, _⟩) (v := ?_) rfl (by kernel_rfl) (by kernel_rfl) (by kernel_rfl) (fun _ _ _ h => h) (Or.inl ⟨by rfl, ?_⟩) hHeld ?_
  rotate_left
  · intro ww hSw
    (try dsimp only at hSw)
    go_simp
    (try with_reducible rfl)
  simp only [Act.put, List.setIfInBounds_toArray, List.set_cons_zero, List.set_cons_succ]
  refine wpAnyH_take (i := 8) (oi := ⟨some 13, _, _, _, _, _⟩) (v := .int .i64 ib) rfl (by kernel_rfl) (by kernel_rfl) (by kernel_rfl) (fun _ _ _ h => h) (Or.inl ⟨by rfl, ?_⟩) hHeld ?_
  · intro ww hSw
    (try dsimp only at hSw)
    have hcc := (hSw.cell (p := ⟨gb, 0, none⟩) HB.out.size).trans (HB.out.cell 0 b0)
    have hcs := cell_lt hcc
    go_simp
  simp only [Act.put, List.setIfInBounds_toArray, List.set_cons_zero, List.set_cons_succ]
  refine wpAnyH_ready (rs := [4]) (by kernel_rfl) (by simp) ?_
  refine AllReadyH.cons (o := ⟨some 9, _, _, _, _, _⟩) rfl (fun K hK => ?_) AllReadyH.nil
  go_simp
  go_at_call 92
  refine (compare_any _ _ _).mono ?_
  rintro e_r _ ⟨rfl, rfl⟩
  go_wp2_with fail
  refine hK.out _ _ ?_ (fun hHeld => ?_)
  · (try dsimp only)
    (repeat' (first | with_reducible exact Below.refl _ _ | with_reducible assumption | with_reducible refine bel_alloc ?_ _ | with_reducible refine bel_set ?_ ?_ _ | with_reducible refine below_drewN ?_ _ | with_reducible refine below_drew ?_ | (simp; done) | (simp; omega) | omega))
  clear hK K
  (try simp only [Act.put, List.setIfInBounds_toArray, List.set_cons_zero, List.set_cons_succ])
  refine wpAnyH_ready (rs := [9]) (by kernel_rfl) (by simp) ?_
  refine AllReadyH.cons (o := ⟨some 14, _, _, _, _, _⟩) rfl (fun K hK => ?_) AllReadyH.nil
  go_simp
  go_at_call 92
  refine (compare_any _ _ _).mono ?_
  rintro e_r _ ⟨rfl, rfl⟩
  go_wp2_with fail
  refine hK.out _ _ ?_ (fun hHeld => ?_)
  · (try dsimp only)
    (repeat' (first | with_reducible exact Below.refl _ _ | with_reducible assumption | with_reducible refine bel_alloc ?_ _ | with_reducible refine bel_set ?_ ?_ _ | with_reducible refine below_drewN ?_ _ | with_reducible refine below_drew ?_ | (simp; done) | (simp; omega) | omega))
  clear hK K
  (try simp only [Act.put, List.setIfInBounds_toArray, List.set_cons_zero, List.set_cons_succ])
  refine wpAnyH_ready (rs := [10]) (by kernel_rfl) (by simp) ?_
  refine AllReadyH.cons (o := ⟨some 15, _, _, _, _, _⟩) rfl (fun K hK => ?_) AllReadyH.nil
  go_simp
  refine hK.out _ _ ?_ (fun hHeld => ?_)
  · (try dsimp only)
    (repeat' (first | with_reducible exact Below.refl _ _ | with_reducible assumption | with_reducible refine bel_alloc ?_ _ | with_reducible refine bel_set ?_ ?_ _ | with_reducible refine below_drewN ?_ _ | with_reducible refine below_drew ?_ | (simp; done) | (simp; omega) | omega))
  clear hK K
  (try simp only [Act.put, List.setIfInBounds_toArray, List.set_cons_zero, List.set_cons_succ])
  refine wpAnyH_ready (rs := [11]) (by kernel_rfl) (by simp) ?_
  refine AllReadyH.cons (o := ⟨some 16, _, _, _, _, _⟩) rfl (fun K hK => ?_) AllReadyH.nil
  go_simp
  go_at_call 91
  refine (or_any w0.heap.size _ _ _ (Has.new w0 _ _ rfl).drew).mono ?_
  rintro e_r _ ⟨rfl, rfl⟩
  go_wp2_with fail
  refine hK.out _ _ ?_ (fun hHeld => ?_)
  · (try dsimp only)
    (repeat' (first | with_reducible exact Below.refl _ _ | with_reducible assumption | with_reducible refine bel_alloc ?_ _ | with_reducible refine bel_set ?_ ?_ _ | with_reducible refine below_drewN ?_ _ | with_reducible refine below_drew ?_ | (simp; done) | (simp; omega) | omega))
  clear hK K
  (try simp only [Act.put, List.setIfInBounds_toArray, List.set_cons_zero, List.set_cons_succ])
  refine wpAnyH_take (i := 12) (oi := ⟨some 4, _, _, _, _, _⟩) (v := ?_) rfl (by kernel_rfl) (by kernel_rfl) (by kernel_rfl) (fun _ _ _ h => h) (Or.inl ⟨by rfl, ?_⟩) hHeld ?_
  rotate_left
  · intro ww hSw
    (try dsimp only at hSw)
    go_simp
    (try with_reducible rfl)
  simp only [Act.put, List.setIfInBounds_toArray, List.set_cons_zero, List.set_cons_succ]
  refine wpAnyH_done (by kernel_rfl) ?_ _
  refine NoPanic.normal ?_
  go_wp2
  go_ret
  refine ⟨ret_one HF.out, 1, #[.cells ca 43, .cells cb 43, .cells #[.int .i64 (cmpI ta tb), .int .i64 (cmpI ia ib)] 3], ?_⟩
  rw [HW0.out, alloc_eq_grow, alloc_eq_grow, alloc_eq_grow, grow_grow, grow_grow, drew_grow]
  rfl
theorem order_at (a b : EvP) (W : World) : Calls Try.prog 58 #[.agg (evC a), .agg (evC b)] W fun e w' => e = .returned (.int .i64 (cfE a b)) ∧ Below W.heap.size W w' :=
  (order_any a b W).mono fun e w' ⟨h, q, os, hw⟩ => ⟨h, by subst hw; exact below_growE (below_drewN (Below.refl _ _) q) (Nat.le_refl _) os⟩
theorem less_any (a b : EvP) (W : World) : Calls Try.prog 23 #[.agg (evC a), .agg (evC b)] W fun e w' => e = .returned (.bool (lessE a b)) ∧ Below W.heap.size W w' := by
  have HO := Lib.hid (order_at a b)
  have HL := Lib.hid (cf_less a b)
  have z1 := evC_size a
  have z2 := evC_size b
  generalize evC a = ca at *
  generalize evC b = cb at *
  generalize cfE a b = cf at *
  have Z1 := Lib.hid z1
  have Z2 := Lib.hid z2
  clear z1 z2
  go_enter Try.func23, Try.ntmps23
  go_wp2_with (first | (refine wpList_load_e (o := ⟨some 5, _, _, _, _, _⟩) (by rfl) _ rfl W.heap.size rfl ca ((Has.new W _ ca rfl).alloc _) Z1.out ?_) | (refine wpList_load_e (o := ⟨some 6, _, _, _, _, _⟩) (by rfl) _ rfl (W.heap.size + 1) rfl cb (Has.new _ _ cb (by simp)) Z2.out ?_))
  refine (HO.out _).mono ?_
  rintro e w1 ⟨rfl, hb⟩
  go_wp2
  go_ret
  exact ⟨ret_bool HL.out, bel_on (bel_alloc (bel_alloc (Below.refl _ _) _) _) hb⟩
end Go.Proofs.Ytdhkfhgggkndoaa
