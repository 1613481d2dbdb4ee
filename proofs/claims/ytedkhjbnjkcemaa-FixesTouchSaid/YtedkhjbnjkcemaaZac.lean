/-
  event.order and event.Less: which event stands ahead.
  Slices of numbers of the call's own: append.
  Corrections, plain: the event of a number, events behind a correction, and the weeks that it touches; no program here.
-/
import Derived.Test.YtedkhjbnjkcemaaZab
import Derived.Test.YtedkhjbnjkcemaaZaa
import Derived.RegionTactic
import Derived.Sort.Grow
import Derived.Lib.Hide
import Derived.Test.YtedkhjbnjkcemaaProg
namespace Go.Proofs.Ytedkhjbnjkcemaa
open Go.RowKit
set_option linter.unusedVariables false
set_option linter.unusedSimpArgs false
set_option maxRecDepth 20000

def cmpI (x y : Int) : Int := if x < y then -1 else if y < x then 1 else 0
/-- What order tells. -/
def cfE (a b : EvP) : Int := if cmpI a.tm b.tm = 0 then cmpI a.id b.id else cmpI a.tm b.tm
theorem cf_less (a b : EvP) : decide (cfE a b < 0) = lessE a b := by
  unfold lessE
  rw [decide_eq_decide]
  unfold cfE cmpI
  split <;> split <;> (try split) <;> (try split) <;> omega
theorem cfE_small (a b : EvP) : -1 ≤ cfE a b ∧ cfE a b ≤ 1 := by
  unfold cfE cmpI
  split <;> split <;> (try split) <;> omega
theorem isnan_any (x : Int) (w : World) : Calls Try.prog 76 #[.int .i64 x] w fun e w' => e = .returned (.bool false) ∧ w = w' := by
  go_enter Try.func76, Try.ntmps76
  go_wp2
  go_ret
  exact ⟨by simp, rfl⟩
theorem compare_any (x y : Int) (w : World) : Calls Try.prog 54 #[.int .i64 x, .int .i64 y] w fun e w' => e = .returned (.int .i64 (cmpI x y)) ∧ w = w' := by
  have H : Hid (cmpI x y = if x < y then -1 else if y < x then 1 else 0) := Lib.hid rfl
  have c : x < y ∨ y < x ∨ x = y := by omega
  rcases c with h | h | h
  · have e : cmpI x y = -1 := by unfold cmpI; rw [if_pos h]
    have E := Lib.hid e
    clear e
    go_enter Try.func54, Try.ntmps54
    go_wp2_with fail
    refine (isnan_any _ _).mono ?_
    rintro r w1 ⟨rfl, rfl⟩
    go_wp2_with fail
    refine (isnan_any _ _).mono ?_
    rintro r w1 ⟨rfl, rfl⟩
    go_wp2
    go_ret
    exact ⟨ret_one E.out.symm, rfl⟩
  · have e : cmpI x y = 1 := by unfold cmpI; rw [if_neg (by omega), if_pos h]
    have h' : ¬ x < y := by omega
    have E := Lib.hid e
    clear e
    go_enter Try.func54, Try.ntmps54
    go_wp2_with fail
    refine (isnan_any _ _).mono ?_
    rintro r w1 ⟨rfl, rfl⟩
    go_wp2_with fail
    refine (isnan_any _ _).mono ?_
    rintro r w1 ⟨rfl, rfl⟩
    go_wp2
    go_ret
    exact ⟨ret_one E.out.symm, rfl⟩
  · subst h
    have e : cmpI x x = 0 := by unfold cmpI; rw [if_neg (by omega), if_neg (by omega)]
    have h' : ¬ x < x := by omega
    have E := Lib.hid e
    clear e
    go_enter Try.func54, Try.ntmps54
    go_wp2_with fail
    refine (isnan_any _ _).mono ?_
    rintro r w1 ⟨rfl, rfl⟩
    go_wp2_with fail
    refine (isnan_any _ _).mono ?_
    rintro r w1 ⟨rfl, rfl⟩
    go_wp2
    go_ret
    exact ⟨ret_one E.out.symm, rfl⟩
def orI (x y : Int) : Int := if x = 0 then y else x
theorem or_any (g : Nat) (x y : Int) (w : World) (h : Has w g #[.int .i64 x, .int .i64 y]) : Calls Try.prog 53 #[.slice (some ⟨g, 0, none⟩) 2 2] w fun e w' => e = .returned (.int .i64 (orI x y)) ∧ w = w' := by
  obtain ⟨h0, h1, _, _⟩ := h.two
  by_cases hx : x = 0
  · subst hx
    have E : Hid (orI 0 y = y) := Lib.hid (by simp [orI])
    by_cases hy : y = 0
    · subst hy
      go_enter Try.func53, Try.ntmps53
      go_wp2_with fail
      refine wp_loop_rounds 3 ?_
      rw [rounds_succ]
      go_wp2
      rw [rounds_succ]
      go_wp2
      rw [rounds_succ]
      go_wp2
      go_ret
      exact ⟨ret_one E.out.symm, rfl⟩
    · have hy' : (y == 0) = false := by simpa using hy
      go_enter Try.func53, Try.ntmps53
      go_wp2_with fail
      refine wp_loop_rounds 2 ?_
      rw [rounds_succ]
      go_wp2
      rw [rounds_succ]
      go_wp2
      go_ret
      exact ⟨ret_one E.out.symm, rfl⟩
  · have E : Hid (orI x y = x) := Lib.hid (by simp [orI, hx])
    have hx' : (x == 0) = false := by simpa using hx
    go_enter Try.func53, Try.ntmps53
    go_wp2_with fail
    refine wp_loop_rounds 1 ?_
    simp only [rounds_succ]
    go_wp2
    go_ret
    exact ⟨ret_one E.out.symm, rfl⟩
theorem below_growE {a w : World} {B : Nat} (h : Below B a w) (hB : B ≤ w.heap.size) (os : Array Obj) : Below B a (Go.Sort.grow w os) :=
  ⟨h.os, h.tape, h.output, by rw [Go.Sort.size_grow]; have := h.size; omega, fun k hk => by
    rw [← h.block k hk]
    show (w.heap ++ os)[k]? = _
    rw [Array.getElem?_append_left (by omega)]⟩
theorem cf_or (a b : EvP) : orI (cmpI a.tm b.tm) (cmpI a.id b.id) = cfE a b := rfl
open Go.Sort in
set_option maxHeartbeats 1000000 in
theorem order_any (a b : EvP) (W : World) : Calls Try.prog 34 #[.agg (evC a), .agg (evC b)] W fun e w' => e = .returned (.int .i64 (cfE a b)) ∧ ∃ q os, w' = grow (W.drewN q) os := by
  have a0 : (evC a)[0]? = some (.int .i64 a.id) := rfl
  have a2 : (evC a)[2]? = some (.int .i64 a.tm) := rfl
  have b0 : (evC b)[0]? = some (.int .i64 b.id) := rfl
  have b2 : (evC b)[2]? = some (.int .i64 b.tm) := rfl
  have HF := Lib.hid (cf_or a b)
  generalize evC a = ca at *
  generalize evC b = cb at *
  generalize cfE a b = cf at *
  generalize a.tm = ta at *
  generalize b.tm = tb at *
  generalize a.id = ia at *
  generalize b.id = ib at *
  go_enter Try.func34, Try.ntmps34
  go_wp2_with fail
  obtain ⟨w0, hw0⟩ : ∃ w0, w0 = (W.alloc (.cells ca 33)).alloc (.cells cb 33) := ⟨_, rfl⟩
  rw [← hw0]
  have HA : Hid (Has w0 W.heap.size ca) := by rw [hw0]; exact (Has.new W _ ca rfl).alloc _
  have HB : Hid (Has w0 (W.heap.size + 1) cb) := by rw [hw0]; exact Has.new _ _ _ (by simp)
  have HW0 := Lib.hid hw0
  clear hw0
  obtain ⟨ga, hga⟩ : ∃ ga, W.heap.size = ga := ⟨_, rfl⟩
  rw [hga] at HA HB ⊢
  clear hga
  obtain ⟨gb, hgb⟩ : ∃ gb, ga + 1 = gb := ⟨_, rfl⟩
  rw [hgb] at HB ⊢
  clear hgb
  refine wp_region_noPanic ?_
  refine wp_region_held_drew (S := fun w' => Below w0.heap.size w0 w') (by kernel_rfl) (below_drew (Below.refl _ _)) (fun hHeld => ?_)
  refine wpAnyH_take (i := 0) (oi := ⟨some 5, _, _, _, _, _⟩) (v := ?_) rfl (by kernel_rfl) (by kernel_rfl) (by kernel_rfl) (fun _ _ _ h => h) (Or.inl ⟨by rfl, ?_⟩) hHeld ?_
  rotate_left
  · intro ww hSw
    (try dsimp only at hSw)
    go_simp
    (try with_reducible rfl)
  simp only [Act.put, List.setIfInBounds_toArray, List.set_cons_zero, List.set_cons_succ]
  refine wpAnyH_take (i := 1) (oi := ⟨some 6, _, _, _, _, _⟩) (v := .int .i64 ta) rfl (by kernel_rfl) (by kernel_rfl) (by kernel_rfl) (fun _ _ _ h => h) (Or.inl ⟨by rfl, ?_⟩) hHeld ?_
  · intro ww hSw
    (try dsimp only at hSw)
    have hcc := (hSw.cell (p := ⟨ga, 2, none⟩) HA.out.size).trans (HA.out.cell 2 a2)
    have hcs := cell_lt hcc
    go_simp
  simp only [Act.put, List.setIfInBounds_toArray, List.set_cons_zero, List.set_cons_succ]
  refine wpAnyH_take (i := 2) (oi := ⟨some 7, _, _, _, _, _⟩) (v := ?_) rfl (by kernel_rfl) (by kernel_rfl) (by kernel_rfl) (fun _ _ _ h => h) (Or.inl ⟨by rfl, ?_⟩) hHeld ?_
  rotate_left
  · intro ww hSw
    (try dsimp only at hSw)
    go_simp
    (try with_reducible rfl)
  simp only [Act.put, List.setIfInBounds_toArray, List.set_cons_zero, List.set_cons_succ]
  refine wpAnyH_take (i := 3) (oi := ⟨some 8, _, _, _, _, _⟩) (v := .int .i64 tb) rfl (by kernel_rfl) (by kernel_rfl) (by kernel_rfl) (fun _ _ _ h => h) (Or.inl ⟨by rfl, ?_⟩) hHeld ?_
  · intro ww hSw
    (try dsimp only at hSw)
    have hcc := (hSw.cell (p := ⟨gb, 2, none⟩) HB.out.size).trans (HB.out.cell 2 b2)
    have hcs := cell_lt hcc
    go_simp
  simp only [Act.put, List.setIfInBounds_toArray, List.set_cons_zero, List.set_cons_succ]
  refine wpAnyH_take (i := 5) (oi := ⟨some 10, _, _, _, _, _⟩) (v := ?_) rfl (by kernel_rfl) (by kernel_rfl) (by kernel_rfl) (fun _ _ _ h => h) (Or.inl ⟨by rfl, ?_⟩) hHeld ?_
  rotate_left
  · intro ww hSw
    (try dsimp only at hSw)
    go_simp
    (try with_reducible rfl)
  simp only [Act.put, List.setIfInBounds_toArray, List.set_cons_zero, List.set_cons_succ]
  refine wpAnyH_take (i := 6) (oi := ⟨some 11, _, _, _, _, _⟩) (v := .int .i64 ia) rfl (by kernel_rfl) (by kernel_rfl) (by kernel_rfl) (fun _ _ _ h => h) (Or.inl ⟨by rfl, ?_⟩) hHeld ?_
  · intro ww hSw
    (try dsimp only at hSw)
    have hcc := (hSw.cell (p := ⟨ga, 0, none⟩) HA.out.size).trans (HA.out.cell 0 a0)
    have hcs := cell_lt hcc
    go_simp
  simp only [Act.put, List.setIfInBounds_toArray, List.set_cons_zero, List.set_cons_succ]
  refine wpAnyH_take (i := 7) (oi := ⟨some 12, _, _, _, _, _⟩) (v := ?_) rfl (by kernel_rfl) (by kernel_rfl) (by kernel_rfl) (fun _ _ _ h => h) (Or.inl ⟨by rfl, ?_⟩) hHeld ?_
  rotate_left
  · intro ww hSw
    (try dsimp only at hSw)
    go_simp
    (try with_reducible rfl)
  simp only [Act.put, List.setIfInBounds_toArray, List.set_cons_zero, List.set_cons_succ]
  refine wpAnyH_take (i := 8) (oi := ⟨some 13, _, _, _, _, _⟩) (v := .int .i64 ib) rfl (by kernel_rfl) (by kernel_rfl) (by kernel_rfl) (fun _ _ _ h => h) (Or.inl ⟨by rfl, ?_⟩) hHeld ?_
  · intro ww hSw
    (try dsimp only at hSw)
    have hcc := (hSw.cell (p := ⟨gb, 0, none⟩) HB.out.size).trans (HB.out.cell 0 b0)
    have hcs := cell_lt hcc
    go_simp
  simp only [Act.put, List.setIfInBounds_toArray, List.set_cons_zero, List.set_cons_succ]
  refine wpAnyH_ready (rs := [4]) (by kernel_rfl) (by simp) ?_
  refine AllReadyH.cons (o := ⟨some 9, _, _, _, _, _⟩) rfl (fun K hK => ?_) AllReadyH.nil
  go_simp
  go_at_call 54
  refine (compare_any _ _ _).mono ?_
  rintro e_r _ ⟨rfl, rfl⟩
  go_wp2_with fail
  refine hK.out _ _ ?_ (fun hHeld => ?_)
  · (try dsimp only)
    (repeat' (first | with_reducible exact Below.refl _ _ | with_reducible assumption | with_reducible refine bel_alloc ?_ _ | with_reducible refine bel_set ?_ ?_ _ | with_reducible refine below_drewN ?_ _ | with_reducible refine below_drew ?_ | (simp; done) | (simp; omega) | omega))
  clear hK K
  (try simp only [Act.put, List.setIfInBounds_toArray, List.set_cons_zero, List.set_cons_succ])
  refine wpAnyH_ready (rs := [9]) (by kernel_rfl) (by simp) ?_
  refine AllReadyH.cons (o := ⟨some 14, _, _, _, _, _⟩) rfl (fun K hK => ?_) AllReadyH.nil
  go_simp
  go_at_call 54
  refine (compare_any _ _ _).mono ?_
  rintro e_r _ ⟨rfl, rfl⟩
  go_wp2_with fail
  refine hK.out _ _ ?_ (fun hHeld => ?_)
  · (try dsimp only)
    (repeat' (first | with_reducible exact Below.refl _ _ | with_reducible assumption | with_reducible refine bel_alloc ?_ _ | with_reducible refine bel_set ?_ ?_ _ | with_reducible refine below_drewN ?_ _ | with_reducible refine below_drew ?_ | (simp; done) | (simp; omega) | omega))
  clear hK K
  (try simp only [Act.put, List.setIfInBounds_toArray, List.set_cons_zero, List.set_cons_succ])
  refine wpAnyH_ready (rs := [10]) (by kernel_rfl) (by simp) ?_
  refine AllReadyH.cons (o := ⟨some 15, _, _, _, _, _⟩) rfl (fun K hK => ?_) AllReadyH.nil
  go_simp
  refine hK.out _ _ ?_ (fun hHeld => ?_)
  · (try dsimp only)
    (repeat' (first | with_reducible exact Below.refl _ _ | with_reducible assumption | with_reducible refine bel_alloc ?_ _ | with_reducible refine bel_set ?_ ?_ _ | with_reducible refine below_drewN ?_ _ | with_reducible refine below_drew ?_ | (simp; done) | (simp; omega) | omega))
  clear hK K
  (try simp only [Act.put, List.setIfInBounds_toArray, List.set_cons_zero, List.set_cons_succ])
  refine wpAnyH_ready (rs := [11]) (by kernel_rfl) (by simp) ?_
  refine AllReadyH.cons (o := ⟨some 16, _, _, _, _, _⟩) rfl (fun K hK => ?_) AllReadyH.nil
  go_simp
  go_at_call 53
  refine (or_any w0.heap.size _ _ _ (Has.new w0 _ _ rfl).drew).mono ?_
  rintro e_r _ ⟨rfl, rfl⟩
  go_wp2_with fail
  refine hK.out _ _ ?_ (fun hHeld => ?_)
  · (try dsimp only)
    (repeat' (first | with_reducible exact Below.refl _ _ | with_reducible assumption | with_reducible refine bel_alloc ?_ _ | with_reducible refine bel_set ?_ ?_ _ | with_reducible refine below_drewN ?_ _ | with_reducible refine below_drew ?_ | (simp; done) | (simp; omega) | omega))
  clear hK K
  (try simp only [Act.put, List.setIfInBounds_toArray, List.set_cons_zero, List.set_cons_succ])
  refine wpAnyH_take (i := 12) (oi := ⟨some 4, _, _, _, _, _⟩) (v := ?_) rfl (by kernel_rfl) (by kernel_rfl) (by kernel_rfl) (fun _ _ _ h => h) (Or.inl ⟨by rfl, ?_⟩) hHeld ?_
  rotate_left
  · intro ww hSw
    (try dsimp only at hSw)
    go_simp
    (try with_reducible rfl)
  simp only [Act.put, List.setIfInBounds_toArray, List.set_cons_zero, List.set_cons_succ]
  refine wpAnyH_done (by kernel_rfl) ?_ _
  refine NoPanic.normal ?_
  go_wp2
  go_ret
  refine ⟨ret_one HF.out, 1, #[.cells ca 33, .cells cb 33, .cells #[.int .i64 (cmpI ta tb), .int .i64 (cmpI ia ib)] 3], ?_⟩
  rw [HW0.out, alloc_eq_grow, alloc_eq_grow, alloc_eq_grow, grow_grow, grow_grow, drew_grow]
  rfl
theorem order_at (a b : EvP) (W : World) : Calls Try.prog 34 #[.agg (evC a), .agg (evC b)] W fun e w' => e = .returned (.int .i64 (cfE a b)) ∧ Below W.heap.size W w' :=
  (order_any a b W).mono fun e w' ⟨h, q, os, hw⟩ => ⟨h, by subst hw; exact below_growE (below_drewN (Below.refl _ _) q) (Nat.le_refl _) os⟩
theorem less_any (a b : EvP) (W : World) : Calls Try.prog 22 #[.agg (evC a), .agg (evC b)] W fun e w' => e = .returned (.bool (lessE a b)) ∧ Below W.heap.size W w' := by
  have HO := Lib.hid (order_at a b)
  have HL := Lib.hid (cf_less a b)
  have z1 := evC_size a
  have z2 := evC_size b
  generalize evC a = ca at *
  generalize evC b = cb at *
  generalize cfE a b = cf at *
  have Z1 := Lib.hid z1
  have Z2 := Lib.hid z2
  clear z1 z2
  go_enter Try.func22, Try.ntmps22
  go_wp2_with (first | (refine wpList_load_e (o := ⟨some 5, _, _, _, _, _⟩) (by rfl) _ rfl W.heap.size rfl ca ((Has.new W _ ca rfl).alloc _) Z1.out ?_) | (refine wpList_load_e (o := ⟨some 6, _, _, _, _, _⟩) (by rfl) _ rfl (W.heap.size + 1) rfl cb (Has.new _ _ cb (by simp)) Z2.out ?_))
  refine (HO.out _).mono ?_
  rintro e w1 ⟨rfl, hb⟩
  go_wp2
  go_ret
  exact ⟨ret_bool HL.out, bel_on (bel_alloc (bel_alloc (Below.refl _ _) _) _) hb⟩
end Go.Proofs.Ytedkhjbnjkcemaa

namespace Go.Proofs.Ytedkhjbnjkcemaa
open Go.RowKit
set_option linter.unusedVariables false

/-- A slice of the call's own, that lies at 'base' or behind, and holds the numbers xs. -/
def NRow (w : World) (base : Nat) (A : Option Addr) (c : Nat) (xs : List Int) : Prop :=
  w.ownsRow base 3 1 (.slice A xs.length c) xs.length (ints .i64 xs)
section
variable {w w' : World} {base c : Nat} {A : Option Addr} {xs : List Int}
theorem NRow.nil (w : World) (base : Nat) : NRow w base none 0 [] := World.ownsRow_nil w base _ _
theorem NRow.keep (h : NRow w base A c xs) (hk : ∀ g, A = some g → w'.heap[g.block]? = w.heap[g.block]?) : NRow w' base A c xs := by
  obtain ⟨hl, hn | ⟨g, cap, cur, hv, hg, hh, rest⟩⟩ := h
  · exact ⟨hl, .inl hn⟩
  · injection hv with e1 e2 e3
    subst e1
    exact ⟨hl, .inr ⟨g, cap, cur, by rw [e3], hg, (hk _ rfl).trans hh, rest⟩⟩
theorem NRow.lt (h : NRow w base A c xs) : ∀ g, A = some g → base ≤ g.block ∧ g.block < w.heap.size := by
  rintro g rfl
  exact World.ownsRow.lt h _ rfl
theorem NRow.below (h : NRow w base A c xs) (hb : Below w.heap.size w w') : NRow w' base A c xs :=
  h.keep fun g hg => hb.block _ (h.lt g hg).2
theorem NRow.alloc (h : NRow w base A c xs) (o : Obj) : NRow (w.alloc o) base A c xs := World.ownsRow.alloc h o
theorem NRow.drew (h : NRow w base A c xs) : NRow w.drew base A c xs := h
theorem NRow.mono (h : NRow w base A c xs) {b : Nat} (hb : b ≤ base) : NRow w b A c xs := by
  obtain ⟨hl, hn | ⟨g, cap, cur, hv, hg, rest⟩⟩ := h
  · exact ⟨hl, .inl hn⟩
  · exact ⟨hl, .inr ⟨g, cap, cur, hv, by omega, rest⟩⟩
end
end Go.Proofs.Ytedkhjbnjkcemaa

namespace Go.Proofs.Ytedkhjbnjkcemaa
set_option linter.unusedVariables false
set_option linter.unusedSimpArgs false

/-! ### The event of a number -/
def ixE (l : List EvP) (id : Int) : Option Nat := l.findIdx? (fun e => decide (e.id = id))
def ixZ (l : List EvP) (id : Int) : Int := match ixE l id with | some i => (i : Int) | none => -1
def rmE (l : List EvP) (i : Nat) : List EvP := l.take i ++ l.drop (i + 1)
theorem ixE_some {l : List EvP} {id : Int} {i : Nat} (h : ixE l id = some i) : i < l.length ∧ (l.getD i EvP.none).id = id ∧ ∀ j, j < i → (l.getD j EvP.none).id ≠ id := by
  obtain ⟨h1, h2, h3⟩ := List.findIdx?_eq_some_iff_getElem.1 h
  refine ⟨h1, ?_, fun j hj => ?_⟩
  · rw [List.getD_eq_getElem?_getD, List.getElem?_eq_getElem h1, Option.getD_some]
    simpa using h2
  · have hj' : j < l.length := by omega
    rw [List.getD_eq_getElem?_getD, List.getElem?_eq_getElem hj', Option.getD_some]
    have := h3 j hj
    simpa using this
theorem ixE_none {l : List EvP} {id : Int} : ixE l id = none ↔ ∀ e ∈ l, e.id ≠ id := by
  unfold ixE
  rw [List.findIdx?_eq_none_iff]
  simp
theorem ixE_of {l : List EvP} {id : Int} {i : Nat} (h1 : i < l.length) (h2 : (l.getD i EvP.none).id = id) (h3 : ∀ j, j < i → (l.getD j EvP.none).id ≠ id) : ixE l id = some i := by
  refine List.findIdx?_eq_some_iff_getElem.2 ⟨h1, ?_, fun j hj => ?_⟩
  · rw [List.getD_eq_getElem?_getD, List.getElem?_eq_getElem h1, Option.getD_some] at h2
    simpa using h2
  · have hj' : j < l.length := by omega
    have := h3 j hj
    rw [List.getD_eq_getElem?_getD, List.getElem?_eq_getElem hj', Option.getD_some] at this
    simpa using this
theorem ixE_none_of {l : List EvP} {id : Int} (h : ∀ j, j < l.length → (l.getD j EvP.none).id ≠ id) : ixE l id = none := by
  refine ixE_none.2 fun e he => ?_
  obtain ⟨j, hj, rfl⟩ := List.getElem_of_mem he
  have := h j hj
  rwa [List.getD_eq_getElem?_getD, List.getElem?_eq_getElem hj, Option.getD_some] at this
theorem rmE_length {l : List EvP} {i : Nat} (h : i < l.length) : (rmE l i).length = l.length - 1 := by
  simp [rmE]; omega
theorem rmE_perm {l : List EvP} {i : Nat} (h : i < l.length) : l.Perm (l.getD i EvP.none :: rmE l i) := by
  have e : l = l.take i ++ l.getD i EvP.none :: l.drop (i + 1) := by
    conv => lhs; rw [← List.take_append_drop i l, List.drop_eq_getElem_cons h]
    rw [List.getD_eq_getElem?_getD, List.getElem?_eq_getElem h, Option.getD_some]
  conv => lhs; rw [e]
  exact List.perm_middle

/-! ### Steps -/
/-- Events behind a correction of kind k, with event x (whether x may be: may); or its error. -/
def applyE (may : Bool) (l : List EvP) (k : Int) (x : EvP) : List EvP × Int :=
  if k = 1 then (if may = true then (match ixE l x.id with | some _ => ([], 130) | none => (sortE (l ++ [x]), 0)) else ([], 80))
  else if k = 2 then (match ixE l x.id with | some i => (sortE (rmE l i), 0) | none => ([], 131))
  else if k = 3 then (if may = true then (match ixE l x.id with | some i => (sortE (rmE l i ++ [x]), 0) | none => ([], 131)) else ([], 80))
  else ([], 80)
/-- The events that a correction moves. -/
def movedE (l : List EvP) (k : Int) (x : EvP) : List EvP :=
  (if k = 2 ∨ k = 3 then (match ixE l x.id with | some i => [l.getD i EvP.none] | none => []) else []) ++ (if k = 1 ∨ k = 3 then [x] else [])

/-! ### Keys that rise -/
structure KeyP where
  k : Int
  n : Int
deriving DecidableEq
def kyL (q : KeyP) : List Int := [q.k, q.n]
def KeyP.none : KeyP := ⟨0, 0⟩
def KeyP.In (q : KeyP) : Prop := (-9223372036854775808 ≤ q.k ∧ q.k ≤ 9223372036854775807) ∧ (-9223372036854775808 ≤ q.n ∧ q.n ≤ 9223372036854775807)
def ltK (a b : KeyP) : Bool := decide (a.k < b.k ∨ (a.k = b.k ∧ a.n < b.n))
def RisK (l : List KeyP) : Prop := l.Pairwise (fun a b => ltK a b = true)
theorem ltK_iff {a b : KeyP} : ltK a b = true ↔ a.k < b.k ∨ (a.k = b.k ∧ a.n < b.n) := by simp [ltK]
theorem ltK_irr (a : KeyP) : ltK a a = false := by simp [ltK]
theorem ltK_trans {a b c : KeyP} (h1 : ltK a b = true) (h2 : ltK b c = true) : ltK a c = true := by
  rw [ltK_iff] at *; omega
theorem ltK_total {a b : KeyP} (h : a ≠ b) : ltK a b = true ∨ ltK b a = true := by
  rw [ltK_iff, ltK_iff]
  obtain ⟨a1, a2⟩ := a
  obtain ⟨b1, b2⟩ := b
  have : ¬ (a1 = b1 ∧ a2 = b2) := fun ⟨x, y⟩ => h (by rw [x, y])
  simp only
  omega
theorem risK_unique : ∀ (a b : List KeyP), RisK a → RisK b → (∀ x, x ∈ a ↔ x ∈ b) → a = b
  | [], [], _, _, _ => rfl
  | [], y :: b, _, _, h => by have := (h y).2 (by simp); simp at this
  | x :: a, [], _, _, h => by have := (h x).1 (by simp); simp at this
  | x :: a, y :: b, ha, hb, h => by
    rw [RisK, List.pairwise_cons] at ha hb
    have h1 : x = y := by
      rcases List.mem_cons.1 ((h x).1 (by simp)) with p1 | p1
      · exact p1
      · rcases List.mem_cons.1 ((h y).2 (by simp)) with p2 | p2
        · exact p2.symm
        · have q := ltK_trans (hb.1 x p1) (ha.1 y p2)
          rw [ltK_irr] at q; cases q
    subst h1
    congr 1
    refine risK_unique a b ha.2 hb.2 fun z => ?_
    have hz := h z
    simp only [List.mem_cons] at hz
    constructor
    · intro q
      rcases hz.1 (.inr q) with rfl | r
      · have := ha.1 z q; rw [ltK_irr] at this; cases this
      · exact r
    · intro q
      rcases hz.2 (.inr q) with rfl | r
      · have := hb.1 z q; rw [ltK_irr] at this; cases this
      · exact r
/-- One key more, where it belongs. -/
def putK : List KeyP → KeyP → List KeyP
  | [], k => [k]
  | a :: l, k => if ltK a k = true then a :: putK l k else if a = k then a :: l else k :: a :: l
theorem mem_putK {q k : KeyP} : ∀ (l : List KeyP), q ∈ putK l k ↔ q = k ∨ q ∈ l
  | [] => by simp [putK]
  | a :: l => by
    unfold putK
    split
    · simp only [List.mem_cons, mem_putK l]
      constructor
      · rintro (h | h | h)
        · exact .inr (.inl h)
        · exact .inl h
        · exact .inr (.inr h)
      · rintro (h | h | h)
        · exact .inr (.inl h)
        · exact .inl h
        · exact .inr (.inr h)
    · split
      · rename_i e
        subst e
        simp
      · simp
theorem ris_putK {k : KeyP} : ∀ (l : List KeyP), RisK l → RisK (putK l k)
  | [], _ => by simp [putK, RisK]
  | a :: l, h => by
    rw [RisK, List.pairwise_cons] at h
    unfold putK
    split
    · rename_i e
      rw [RisK, List.pairwise_cons]
      refine ⟨fun q hq => ?_, ris_putK l h.2⟩
      rcases (mem_putK l).1 hq with rfl | hq
      · exact e
      · exact h.1 q hq
    · rename_i e
      split
      · rw [RisK, List.pairwise_cons]; exact h
      · rename_i e2
        have e3 : ltK k a = true := (ltK_total e2).resolve_left e
        rw [RisK, List.pairwise_cons, List.pairwise_cons]
        refine ⟨fun q hq => ?_, h⟩
        rcases List.mem_cons.1 hq with rfl | hq
        · exact e3
        · exact ltK_trans e3 (h.1 q hq)
/-- The document's own way of it: i is the first place that is not ahead. -/
theorem putK_at {k : KeyP} : ∀ (l : List KeyP) (i : Nat), i ≤ l.length → (∀ j, j < i → ltK (l.getD j KeyP.none) k = true) → (i < l.length → ltK (l.getD i KeyP.none) k = false) →
    putK l k = if i < l.length ∧ l.getD i KeyP.none = k then l else l.take i ++ k :: l.drop i
  | [], i, h, _, _ => by
    obtain rfl : i = 0 := by simpa using h
    simp [putK]
  | a :: l, 0, _, _, h3 => by
    have h3' : ltK a k = false := h3 (by simp)
    unfold putK
    rw [if_neg (by rw [h3']; simp)]
    simp
  | a :: l, i + 1, h1, h2, h3 => by
    have h0 : ltK a k = true := h2 0 (by omega)
    unfold putK
    rw [if_pos h0, putK_at l i (by simpa using h1) (fun j hj => by have := h2 (j + 1) (by omega); simpa using this) (fun hi => by have := h3 (by simpa using hi); simpa using this)]
    simp only [List.length_cons, Nat.add_lt_add_iff_right, List.getD_cons_succ, List.take_succ_cons, List.drop_succ_cons]
    split <;> rfl
theorem putK_length {k : KeyP} : ∀ (l : List KeyP), (putK l k).length ≤ l.length + 1
  | [] => by simp [putK]
  | a :: l => by
    unfold putK
    split
    · have := putK_length (k := k) l
      simp; omega
    · split <;> simp
/-- Weeks from a to b of a worker. -/
def weeksK (l : List KeyP) (x a : Int) : Nat → List KeyP
  | 0 => l
  | n + 1 => putK (weeksK l x a n) ⟨x, a + n⟩
theorem mem_weeksK {l : List KeyP} {x a : Int} {q : KeyP} : ∀ (n : Nat), q ∈ weeksK l x a n ↔ q ∈ l ∨ (q.k = x ∧ a ≤ q.n ∧ q.n < a + n)
  | 0 => by simp only [weeksK]; constructor; exact .inl; rintro (h | h); exact h; omega
  | n + 1 => by
    rw [weeksK, mem_putK, mem_weeksK n]
    obtain ⟨q1, q2⟩ := q
    simp only [KeyP.mk.injEq]
    constructor
    · rintro (⟨rfl, rfl⟩ | h | h)
      · refine .inr ⟨rfl, ?_, ?_⟩ <;> omega
      · exact .inl h
      · refine .inr ⟨h.1, ?_, ?_⟩ <;> omega
    · rintro (h | ⟨h1, h2, h3⟩)
      · exact .inr (.inl h)
      · by_cases e : q2 = a + n
        · exact .inl ⟨h1, e⟩
        · refine .inr (.inr ⟨h1, h2, ?_⟩); omega
theorem ris_weeksK {l : List KeyP} {x a : Int} (h : RisK l) : ∀ (n : Nat), RisK (weeksK l x a n)
  | 0 => h
  | n + 1 => ris_putK _ (ris_weeksK h n)
theorem weeksK_length {l : List KeyP} {x a : Int} : ∀ (n : Nat), (weeksK l x a n).length ≤ l.length + n
  | 0 => by simp [weeksK]
  | n + 1 => by
    have h1 := putK_length (k := ⟨x, a + n⟩) (weeksK l x a n)
    have h2 := weeksK_length (l := l) (x := x) (a := a) n
    rw [weeksK]; omega
/-- How many weeks an event touches. -/
def manyW (u c : Int) (e : EvP) : Nat := ((touchP u c e.tm).2 + 1 - (touchP u c e.tm).1).toNat
theorem touch_bd (u c t : Int) : 0 ≤ (touchP u c t).1 ∧ (touchP u c t).1 ≤ (touchP u c t).2 ∧ (touchP u c t).2 ≤ 52 ∧ (touchP u c t).2 - (touchP u c t).1 ≤ 5 := by
  have h := sec_bd t
  have ha : 0 ≤ aboutP u c ∧ aboutP u c ≤ 1209600 := by unfold aboutP; omega
  unfold touchP weekP
  generalize aboutP u c = b at *
  generalize secP t = n at *
  have e : secP (n + b) - secP (n - b) ≤ 2419200 ∧ secP (n - b) ≤ secP (n + b) := by unfold secP timeP; omega
  have b1 := sec_bd (n - b)
  have b2 := sec_bd (n + b)
  simp only
  omega
theorem many_bd (u c : Int) (e : EvP) : manyW u c e ≤ 6 := by
  have := touch_bd u c e.tm
  unfold manyW; omega
def touchK (u c : Int) (l : List KeyP) (e : EvP) : List KeyP := weeksK l e.wk (touchP u c e.tm).1 (manyW u c e)
def touchedK (u c : Int) (mv : List EvP) : List KeyP := mv.foldl (touchK u c) []
/-- Does an event touch a worker's week? -/
def InK (u c : Int) (e : EvP) (q : KeyP) : Prop := q.k = e.wk ∧ (touchP u c e.tm).1 ≤ q.n ∧ q.n ≤ (touchP u c e.tm).2
theorem mem_touchK {u c : Int} {l : List KeyP} {e : EvP} {q : KeyP} : q ∈ touchK u c l e ↔ q ∈ l ∨ InK u c e q := by
  have := touch_bd u c e.tm
  rw [touchK, mem_weeksK, InK, manyW]
  constructor
  · rintro (h | h)
    · exact .inl h
    · refine .inr ⟨h.1, h.2.1, ?_⟩; omega
  · rintro (h | h)
    · exact .inl h
    · refine .inr ⟨h.1, h.2.1, ?_⟩; omega
theorem ris_touchK {u c : Int} {l : List KeyP} {e : EvP} (h : RisK l) : RisK (touchK u c l e) := ris_weeksK h _
theorem mem_touched_aux {u c : Int} {q : KeyP} : ∀ (mv : List EvP) (l : List KeyP), q ∈ mv.foldl (touchK u c) l ↔ q ∈ l ∨ ∃ e ∈ mv, InK u c e q
  | [], l => by simp
  | e :: mv, l => by
    rw [List.foldl_cons, mem_touched_aux mv, mem_touchK]
    simp only [List.mem_cons, exists_eq_or_imp, or_assoc]
theorem ris_touched_aux {u c : Int} : ∀ (mv : List EvP) (l : List KeyP), RisK l → RisK (mv.foldl (touchK u c) l)
  | [], l, h => h
  | e :: mv, l, h => ris_touched_aux mv _ (ris_touchK h)
theorem mem_touchedK {u c : Int} {q : KeyP} {mv : List EvP} : q ∈ touchedK u c mv ↔ ∃ e ∈ mv, InK u c e q := by
  rw [touchedK, mem_touched_aux]; simp
theorem ris_touchedK (u c : Int) (mv : List EvP) : RisK (touchedK u c mv) := ris_touched_aux mv [] List.Pairwise.nil
theorem touchK_length {u c : Int} {l : List KeyP} {e : EvP} : (touchK u c l e).length ≤ l.length + manyW u c e := weeksK_length _
theorem touched_length_aux {u c : Int} : ∀ (mv : List EvP) (l : List KeyP), (mv.foldl (touchK u c) l).length ≤ l.length + (mv.map (manyW u c)).sum
  | [], l => by simp
  | e :: mv, l => by
    have h1 := touched_length_aux (u := u) (c := c) mv (touchK u c l e)
    have h2 := touchK_length (u := u) (c := c) (l := l) (e := e)
    simp only [List.foldl_cons, List.map_cons, List.sum_cons]
    omega
theorem touched_length (u c : Int) (mv : List EvP) : (touchedK u c mv).length ≤ (mv.map (manyW u c)).sum := by
  have := touched_length_aux (u := u) (c := c) mv []
  simpa [touchedK] using this
theorem moved_length (l : List EvP) (k : Int) (x : EvP) : (movedE l k x).length ≤ 2 := by
  unfold movedE
  rw [List.length_append]
  have h1 : (if k = 2 ∨ k = 3 then (match ixE l x.id with | some i => [l.getD i EvP.none] | none => []) else []).length ≤ 1 := by
    split
    · split <;> simp
    · simp
  have h2 : (if k = 1 ∨ k = 3 then [x] else []).length ≤ 1 := by split <;> simp
  omega
/-- What has just these keys, and rises, is it. -/
theorem touched_is {u c : Int} {mv : List EvP} {l : List KeyP} (hr : RisK l) (h : ∀ q, q ∈ l ↔ ∃ e ∈ mv, InK u c e q) : l = touchedK u c mv :=
  risK_unique _ _ hr (ris_touchedK u c mv) fun q => (h q).trans mem_touchedK.symm
theorem touched_perm {u c : Int} {mv mv' : List EvP} (h : ∀ e, e ∈ mv ↔ e ∈ mv') : touchedK u c mv = touchedK u c mv' :=
  touched_is (ris_touchedK u c mv) fun q => by
    rw [mem_touchedK]
    constructor
    · rintro ⟨e, he, hq⟩; exact ⟨e, (h e).1 he, hq⟩
    · rintro ⟨e, he, hq⟩; exact ⟨e, (h e).2 he, hq⟩
end Go.Proofs.Ytedkhjbnjkcemaa
