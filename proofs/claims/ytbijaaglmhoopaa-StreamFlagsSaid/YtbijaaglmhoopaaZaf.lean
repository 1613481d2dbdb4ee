/-
  event.order and event.Less: which event stands ahead.
  Slices of spans in memory: one that is read ('Spans'), one of the call's own ('Row'); what an append, and a store, make of it.
-/
import Derived.Test.YtbijaaglmhoopaaZac
import Derived.Test.YtbijaaglmhoopaaZaa
import Derived.RegionTactic
import Derived.Sort.Grow
import Derived.Lib.Hide
import Derived.Test.YtbijaaglmhoopaaZad
import Derived.Test.YtbijaaglmhoopaaProg
namespace Go.Proofs.Ytbijaaglmhoopaa
open Go.RowKit
set_option linter.unusedVariables false
set_option linter.unusedSimpArgs false
set_option maxRecDepth 20000

def cmpI (x y : Int) : Int := if x < y then -1 else if y < x then 1 else 0
/-- What order tells. -/
def cfE (a b : EvP) : Int := if cmpI a.tm b.tm = 0 then cmpI a.id b.id else cmpI a.tm b.tm
theorem cf_less (a b : EvP) : decide (cfE a b < 0) = lessE a b := by
  unfold lessE
  rw [decide_eq_decide]
  unfold cfE cmpI
  split <;> split <;> (try split) <;> (try split) <;> omega
theorem isnan_any (x : Int) (w : World) : Calls Try.prog 81 #[.int .i64 x] w fun e w' => e = .returned (.bool false) ∧ w = w' := by
  go_enter Try.func81, Try.ntmps81
  go_wp2
  go_ret
  exact ⟨by simp, rfl⟩
theorem compare_any (x y : Int) (w : World) : Calls Try.prog 65 #[.int .i64 x, .int .i64 y] w fun e w' => e = .returned (.int .i64 (cmpI x y)) ∧ w = w' := by
  have H : Hid (cmpI x y = if x < y then -1 else if y < x then 1 else 0) := Lib.hid rfl
  have c : x < y ∨ y < x ∨ x = y := by omega
  rcases c with h | h | h
  · have e : cmpI x y = -1 := by unfold cmpI; rw [if_pos h]
    have E := Lib.hid e
    clear e
    go_enter Try.func65, Try.ntmps65
    go_wp2_with fail
    refine (isnan_any _ _).mono ?_
    rintro r w1 ⟨rfl, rfl⟩
    go_wp2_with fail
    refine (isnan_any _ _).mono ?_
    rintro r w1 ⟨rfl, rfl⟩
    go_wp2
    go_ret
    exact ⟨ret_one E.out.symm, rfl⟩
  · have e : cmpI x y = 1 := by unfold cmpI; rw [if_neg (by omega), if_pos h]
    have h' : ¬ x < y := by omega
    have E := Lib.hid e
    clear e
    go_enter Try.func65, Try.ntmps65
    go_wp2_with fail
    refine (isnan_any _ _).mono ?_
    rintro r w1 ⟨rfl, rfl⟩
    go_wp2_with fail
    refine (isnan_any _ _).mono ?_
    rintro r w1 ⟨rfl, rfl⟩
    go_wp2
    go_ret
    exact ⟨ret_one E.out.symm, rfl⟩
  · subst h
    have e : cmpI x x = 0 := by unfold cmpI; rw [if_neg (by omega), if_neg (by omega)]
    have h' : ¬ x < x := by omega
    have E := Lib.hid e
    clear e
    go_enter Try.func65, Try.ntmps65
    go_wp2_with fail
    refine (isnan_any _ _).mono ?_
    rintro r w1 ⟨rfl, rfl⟩
    go_wp2_with fail
    refine (isnan_any _ _).mono ?_
    rintro r w1 ⟨rfl, rfl⟩
    go_wp2
    go_ret
    exact ⟨ret_one E.out.symm, rfl⟩
def orI (x y : Int) : Int := if x = 0 then y else x
theorem or_any (g : Nat) (x y : Int) (w : World) (h : Has w g #[.int .i64 x, .int .i64 y]) : Calls Try.prog 78 #[.slice (some ⟨g, 0, none⟩) 2 2] w fun e w' => e = .returned (.int .i64 (orI x y)) ∧ w = w' := by
  obtain ⟨h0, h1, _, _⟩ := h.two
  by_cases hx : x = 0
  · subst hx
    have E : Hid (orI 0 y = y) := Lib.hid (by simp [orI])
    by_cases hy : y = 0
    · subst hy
      go_enter Try.func78, Try.ntmps78
      go_wp2_with fail
      refine wp_loop_rounds 3 ?_
      rw [rounds_succ]
      go_wp2
      rw [rounds_succ]
      go_wp2
      rw [rounds_succ]
      go_wp2
      go_ret
      exact ⟨ret_one E.out.symm, rfl⟩
    · have hy' : (y == 0) = false := by simpa using hy
      go_enter Try.func78, Try.ntmps78
      go_wp2_with fail
      refine wp_loop_rounds 2 ?_
      rw [rounds_succ]
      go_wp2
      rw [rounds_succ]
      go_wp2
      go_ret
      exact ⟨ret_one E.out.symm, rfl⟩
  · have E : Hid (orI x y = x) := Lib.hid (by simp [orI, hx])
    have hx' : (x == 0) = false := by simpa using hx
    go_enter Try.func78, Try.ntmps78
    go_wp2_with fail
    refine wp_loop_rounds 1 ?_
    simp only [rounds_succ]
    go_wp2
    go_ret
    exact ⟨ret_one E.out.symm, rfl⟩
theorem cf_or (a b : EvP) : orI (cmpI a.tm b.tm) (cmpI a.id b.id) = cfE a b := rfl
open Go.Sort in
set_option maxHeartbeats 1000000 in
theorem order_any (a b : EvP) (W : World) : Calls Try.prog 58 #[.agg (evC a), .agg (evC b)] W fun e w' => e = .returned (.int .i64 (cfE a b)) ∧ ∃ q os, w' = grow (W.drewN q) os := by
  have a0 : (evC a)[0]? = some (.int .i64 a.id) := rfl
  have a2 : (evC a)[2]? = some (.int .i64 a.tm) := rfl
  have b0 : (evC b)[0]? = some (.int .i64 b.id) := rfl
  have b2 : (evC b)[2]? = some (.int .i64 b.tm) := rfl
  have HF := Lib.hid (cf_or a b)
  generalize evC a = ca at *
  generalize evC b = cb at *
  generalize cfE a b = cf at *
  generalize a.tm = ta at *
  generalize b.tm = tb at *
  generalize a.id = ia at *
  generalize b.id = ib at *
  go_enter Try.func58, Try.ntmps58
  go_wp2_with fail
  obtain ⟨w0, hw0⟩ : ∃ w0, w0 = (W.alloc (.cells ca 39)).alloc (.cells cb 39) := ⟨_, rfl⟩
  rw [← hw0]
  have HA : Hid (Has w0 W.heap.size ca) := by rw [hw0]; exact (Has.new W _ ca rfl).alloc _
  have HB : Hid (Has w0 (W.heap.size + 1) cb) := by rw [hw0]; exact Has.new _ _ _ (by simp)
  have HW0 := Lib.hid hw0
  clear hw0
  obtain ⟨ga, hga⟩ : ∃ ga, W.heap.size = ga := ⟨_, rfl⟩
  rw [hga] at HA HB ⊢
  clear hga
  obtain ⟨gb, hgb⟩ : ∃ gb, ga + 1 = gb := ⟨_, rfl⟩
  rw [hgb] at HB ⊢
  clear hgb
  refine wp_region_noPanic ?_
  refine wp_region_held_drew (S := fun w' => Below w0.heap.size w0 w') (by kernel_rfl) (below_drew (Below.refl _ _)) (fun hHeld => ?_)
  refine wpAnyH_take (i := 0) (oi := ⟨some 5, _, _, _, _, _⟩) (v := ?_) rfl (by kernel_rfl) (by kernel_rfl) (by kernel_rfl) (fun _ _ _ h => h) (Or.inl ⟨by rfl, ?_⟩) hHeld ?_
  rotate_left
  · intro ww hSw
    (try dsimp only at hSw)
    go_simp
    (try with_reducible rfl)
  simp only [Act.put, List.setIfInBounds_toArray, List.set_cons_zero, List.set_cons_succ]
  refine wpAnyH_take (i := 1) (oi := ⟨some 6, _, _, _, _, _⟩) (v := .int .i64 ta) rfl (by kernel_rfl) (by kernel_rfl) (by kernel_rfl) (fun _ _ _ h => h) (Or.inl ⟨by rfl, ?_⟩) hHeld ?_
  · intro ww hSw
    (try dsimp only at hSw)
    have hcc := (hSw.cell (p := ⟨ga, 2, none⟩) HA.out.size).trans (HA.out.cell 2 a2)
    have hcs := cell_lt hcc
    go_simp
  simp only [Act.put, List.setIfInBounds_toArray, List.set_cons_zero, List.set_cons_succ]
  refine wpAnyH_take (i := 2) (oi := ⟨some 7, _, _, _, _, _⟩) (v := ?_) rfl (by kernel_rfl) (by kernel_rfl) (by kernel_rfl) (fun _ _ _ h => h) (Or.inl ⟨by rfl, ?_⟩) hHeld ?_
  rotate_left
  · intro ww hSw
    (try dsimp only at hSw)
    go_simp
    (try with_reducible rfl)
  simp only [Act.put, List.setIfInBounds_toArray, List.set_cons_zero, List.set_cons_succ]
  refine wpAnyH_take (i := 3) (oi := ⟨some 8, _, _, _, _, _⟩) (v := .int .i64 tb) rfl (by kernel_rfl) (by kernel_rfl) (by kernel_rfl) (fun _ _ _ h => h) (Or.inl ⟨by rfl, ?_⟩) hHeld ?_
  · intro ww hSw
    (try dsimp only at hSw)
    have hcc := (hSw.cell (p := ⟨gb, 2, none⟩) HB.out.size).trans (HB.out.cell 2 b2)
    have hcs := cell_lt hcc
    go_simp
  simp only [Act.put, List.setIfInBounds_toArray, List.set_cons_zero, List.set_cons_succ]
  refine wpAnyH_take (i := 5) (oi := ⟨some 10, _, _, _, _, _⟩) (v := ?_) rfl (by kernel_rfl) (by kernel_rfl) (by kernel_rfl) (fun _ _ _ h => h) (Or.inl ⟨by rfl, ?_⟩) hHeld ?_
  rotate_left
  · intro ww hSw
    (try dsimp only at hSw)
    go_simp
    (try with_reducible rfl)
  simp only [Act.put, List.setIfInBounds_toArray, List.set_cons_zero, List.set_cons_succ]
  refine wpAnyH_take (i := 6) (oi := ⟨some 11, _, _, _, _, _⟩) (v := .int .i64 ia) rfl (by kernel_rfl) (by kernel_rfl) (by kernel_rfl) (fun _ _ _ h => h) (Or.inl ⟨by rfl, ?_⟩) hHeld ?_
  · intro ww hSw
    (try dsimp only at hSw)
    have hcc := (hSw.cell (p := ⟨ga, 0, none⟩) HA.out.size).trans (HA.out.cell 0 a0)
    have hcs := cell_lt hcc
    go_simp
  simp only [Act.put, List.setIfInBounds_toArray, List.set_cons_zero, List.set_cons_succ]
  refine wpAnyH_take (i := 7) (oi := ⟨some 12, _, _, _, _, _⟩) (v := ?_) rfl (by kernel_rfl) (by kernel_rfl) (by kernel_rfl) (fun _ _ _ h => h) (Or.inl ⟨by rfl, ?_⟩) hHeld ?_
  rotate_left
  · intro ww hSw
    (try dsimp only at hSw)
    go_simp
    (try with_reducible rfl)
  simp only [Act.put, List.setIfInBounds_toArray, List.set_cons_zero, List.set_cons_succ]
  refine wpAnyH_take (i := 8) (oi := ⟨some 13, _, _, _, _, _⟩) (v := .int .i64 ib) rfl (by kernel_rfl) (by kernel_rfl) (by kernel_rfl) (fun _ _ _ h => h) (Or.inl ⟨by rfl, ?_⟩) hHeld ?_
  · intro ww hSw
    (try dsimp only at hSw)
    have hcc := (hSw.cell (p := ⟨gb, 0, none⟩) HB.out.size).trans (HB.out.cell 0 b0)
    have hcs := cell_lt hcc
    go_simp
  simp only [Act.put, List.setIfInBounds_toArray, List.set_cons_zero, List.set_cons_succ]
  refine wpAnyH_ready (rs := [4]) (by kernel_rfl) (by simp) ?_
  refine AllReadyH.cons (o := ⟨some 9, _, _, _, _, _⟩) rfl (fun K hK => ?_) AllReadyH.nil
  go_simp
  go_at_call 65
  refine (compare_any _ _ _).mono ?_
  rintro e_r _ ⟨rfl, rfl⟩
  go_wp2_with fail
  refine hK.out _ _ ?_ (fun hHeld => ?_)
  · (try dsimp only)
    (repeat' (first | with_reducible exact Below.refl _ _ | with_reducible assumption | with_reducible refine bel_alloc ?_ _ | with_reducible refine bel_set ?_ ?_ _ | with_reducible refine below_drewN ?_ _ | with_reducible refine below_drew ?_ | (simp; done) | (simp; omega) | omega))
  clear hK K
  (try simp only [Act.put, List.setIfInBounds_toArray, List.set_cons_zero, List.set_cons_succ])
  refine wpAnyH_ready (rs := [9]) (by kernel_rfl) (by simp) ?_
  refine AllReadyH.cons (o := ⟨some 14, _, _, _, _, _⟩) rfl (fun K hK => ?_) AllReadyH.nil
  go_simp
  go_at_call 65
  refine (compare_any _ _ _).mono ?_
  rintro e_r _ ⟨rfl, rfl⟩
  go_wp2_with fail
  refine hK.out _ _ ?_ (fun hHeld => ?_)
  · (try dsimp only)
    (repeat' (first | with_reducible exact Below.refl _ _ | with_reducible assumption | with_reducible refine bel_alloc ?_ _ | with_reducible refine bel_set ?_ ?_ _ | with_reducible refine below_drewN ?_ _ | with_reducible refine below_drew ?_ | (simp; done) | (simp; omega) | omega))
  clear hK K
  (try simp only [Act.put, List.setIfInBounds_toArray, List.set_cons_zero, List.set_cons_succ])
  refine wpAnyH_ready (rs := [10]) (by kernel_rfl) (by simp) ?_
  refine AllReadyH.cons (o := ⟨some 15, _, _, _, _, _⟩) rfl (fun K hK => ?_) AllReadyH.nil
  go_simp
  refine hK.out _ _ ?_ (fun hHeld => ?_)
  · (try dsimp only)
    (repeat' (first | with_reducible exact Below.refl _ _ | with_reducible assumption | with_reducible refine bel_alloc ?_ _ | with_reducible refine bel_set ?_ ?_ _ | with_reducible refine below_drewN ?_ _ | with_reducible refine below_drew ?_ | (simp; done) | (simp; omega) | omega))
  clear hK K
  (try simp only [Act.put, List.setIfInBounds_toArray, List.set_cons_zero, List.set_cons_succ])
  refine wpAnyH_ready (rs := [11]) (by kernel_rfl) (by simp) ?_
  refine AllReadyH.cons (o := ⟨some 16, _, _, _, _, _⟩) rfl (fun K hK => ?_) AllReadyH.nil
  go_simp
  go_at_call 78
  refine (or_any w0.heap.size _ _ _ (Has.new w0 _ _ rfl).drew).mono ?_
  rintro e_r _ ⟨rfl, rfl⟩
  go_wp2_with fail
  refine hK.out _ _ ?_ (fun hHeld => ?_)
  · (try dsimp only)
    (repeat' (first | with_reducible exact Below.refl _ _ | with_reducible assumption | with_reducible refine bel_alloc ?_ _ | with_reducible refine bel_set ?_ ?_ _ | with_reducible refine below_drewN ?_ _ | with_reducible refine below_drew ?_ | (simp; done) | (simp; omega) | omega))
  clear hK K
  (try simp only [Act.put, List.setIfInBounds_toArray, List.set_cons_zero, List.set_cons_succ])
  refine wpAnyH_take (i := 12) (oi := ⟨some 4, _, _, _, _, _⟩) (v := ?_) rfl (by kernel_rfl) (by kernel_rfl) (by kernel_rfl) (fun _ _ _ h => h) (Or.inl ⟨by rfl, ?_⟩) hHeld ?_
  rotate_left
  · intro ww hSw
    (try dsimp only at hSw)
    go_simp
    (try with_reducible rfl)
  simp only [Act.put, List.setIfInBounds_toArray, List.set_cons_zero, List.set_cons_succ]
  refine wpAnyH_done (by kernel_rfl) ?_ _
  refine NoPanic.normal ?_
  go_wp2
  go_ret
  refine ⟨ret_one HF.out, 1, #[.cells ca 39, .cells cb 39, .cells #[.int .i64 (cmpI ta tb), .int .i64 (cmpI ia ib)] 3], ?_⟩
  rw [HW0.out, alloc_eq_grow, alloc_eq_grow, alloc_eq_grow, grow_grow, grow_grow, drew_grow]
  rfl
end Go.Proofs.Ytbijaaglmhoopaa

namespace Go.Proofs.Ytbijaaglmhoopaa
open Go.RowKit
set_option linter.unusedVariables false

def cells2 (xs : List (Int × Int)) : List Value := xs.flatMap fun x => [.int .i64 x.1, .int .i64 x.2]
theorem cells2_len : ∀ xs : List (Int × Int), (cells2 xs).length = xs.length * 2
  | [] => rfl
  | x :: xs => by
    have := cells2_len xs
    simp only [cells2, List.flatMap_cons, List.length_append, List.length_cons, List.length_nil] at this ⊢
    omega
theorem cells2_append (xs ys : List (Int × Int)) : cells2 (xs ++ ys) = cells2 xs ++ cells2 ys := by simp [cells2]
theorem cells2_cons (x : Int × Int) (xs : List (Int × Int)) : cells2 (x :: xs) = .int .i64 x.1 :: .int .i64 x.2 :: cells2 xs := rfl
theorem cells2_get : ∀ (xs : List (Int × Int)) (k : Nat), k < xs.length → (cells2 xs)[k * 2]? = some (.int .i64 (xs.getD k (0, 0)).1) ∧ (cells2 xs)[k * 2 + 1]? = some (.int .i64 (xs.getD k (0, 0)).2)
  | [], k, h => by simp at h
  | x :: xs, 0, h => ⟨rfl, rfl⟩
  | x :: xs, k + 1, h => by
    have := cells2_get xs k (by simpa using h)
    rw [show (k + 1) * 2 = k * 2 + 1 + 1 by omega, cells2_cons]
    simp only [List.getElem?_cons_succ, List.getD_cons_succ]
    exact this
theorem cells2_one (xs : List (Int × Int)) : ∀ u ∈ cells2 xs, u.oneCell' = true := by
  intro u hu
  simp only [cells2, List.mem_flatMap] at hu
  obtain ⟨x, _, hx⟩ := hu
  rcases List.mem_cons.1 hx with rfl | hx
  · rfl
  · rw [List.mem_singleton.1 hx]; rfl
theorem cells2_set : ∀ (xs : List (Int × Int)) (k : Nat) (v : Int), k < xs.length → (cells2 xs).set (k * 2 + 1) (.int .i64 v) = cells2 (xs.set k ((xs.getD k (0, 0)).1, v))
  | [], k, v, h => by simp at h
  | x :: xs, 0, v, h => rfl
  | x :: xs, k + 1, v, h => by
    have := cells2_set xs k v (by simpa using h)
    rw [show (k + 1) * 2 + 1 = (k * 2 + 1) + 1 + 1 by omega, cells2_cons, List.set_cons_succ, List.set_cons_succ, this]
    rfl

/-- A number of 64 bits. -/
def Fit (n : Int) : Prop := -9223372036854775808 ≤ n ∧ n ≤ 9223372036854775807
def Fits (xs : List (Int × Int)) : Prop := ∀ x ∈ xs, Fit x.1 ∧ Fit x.2
theorem Fits.of_plain {xs : List (Int × Int)} (h : PlainFrom 0 xs) : Fits xs := fun x hx => by
  have := (plain_pairs.1 h).1 x hx
  exact ⟨⟨by omega, by omega⟩, ⟨by omega, by omega⟩⟩
theorem Fits.canon (p : Int → Prop) : Fits (canon p) := .of_plain (canon_plain p)
theorem Fits.at {xs : List (Int × Int)} (h : Fits xs) {k : Nat} (hk : k < xs.length) : Fit (xs.getD k (0, 0)).1 ∧ Fit (xs.getD k (0, 0)).2 := h _ (by simp [List.getD, hk])
theorem Fits.nil : Fits [] := fun x hx => by cases hx

/-- A slice value over A reads as the spans xs. -/
def Spans (w : World) (A : Option Addr) (xs : List (Int × Int)) : Prop :=
  Fits xs ∧ ∀ k, k < xs.length → ∃ b off, A = some ⟨b, off, none⟩ ∧ b < w.heap.size ∧ w.cell? ⟨b, off + k * 2, none⟩ = some (.int .i64 (xs.getD k (0, 0)).1) ∧ w.cell? ⟨b, off + k * 2 + 1, none⟩ = some (.int .i64 (xs.getD k (0, 0)).2)
theorem Spans.below {w w' : World} {A : Option Addr} {xs : List (Int × Int)} (h : Spans w A xs) (hb : Below w.heap.size w w') : Spans w' A xs := by
  refine ⟨h.1, fun k hk => ?_⟩
  obtain ⟨b, off, e, h0, h1, h2⟩ := h.2 k hk
  exact ⟨b, off, e, Nat.lt_of_lt_of_le h0 hb.size, (hb.cell h0).trans h1, (hb.cell h0).trans h2⟩
theorem Spans.alloc {w : World} {A : Option Addr} {xs : List (Int × Int)} (h : Spans w A xs) (o : Obj) : Spans (w.alloc o) A xs := h.below ((Below.refl _ _).alloc (Nat.le_refl _) o)
theorem Spans.drewN {w : World} {A : Option Addr} {xs : List (Int × Int)} (h : Spans w A xs) (n : Nat) : Spans (w.drewN n) A xs := h.below (below_drewN (Below.refl _ _) n)
theorem Spans.drew {w : World} {A : Option Addr} {xs : List (Int × Int)} (h : Spans w A xs) : Spans w.drew A xs := h.below (below_drew (Below.refl _ _))
theorem Spans.nil (w : World) (A : Option Addr) : Spans w A [] := ⟨Fits.nil, fun k hk => by simp at hk⟩
theorem add_none {b off n : Nat} : (⟨b, off, none⟩ : Addr).add n = ⟨b, off + n, none⟩ := by unfold Addr.add; split <;> simp_all
/-- A slice of the call's own, that lies at 'base' or behind, and holds the spans xs. -/
def Row (w : World) (base : Nat) (A : Option Addr) (c : Nat) (xs : List (Int × Int)) : Prop :=
  w.ownsRow base 61 2 (.slice A xs.length c) xs.length (cells2 xs)
section
variable {w w' : World} {base c : Nat} {A : Option Addr} {xs : List (Int × Int)}
theorem Row.nil (w : World) (base : Nat) : Row w base none 0 [] := World.ownsRow_nil w base _ _
theorem Row.keep (h : Row w base A c xs) (hk : ∀ g, A = some g → w'.heap[g.block]? = w.heap[g.block]?) : Row w' base A c xs := by
  obtain ⟨hl, hn | ⟨g, cap, cur, hv, hg, hh, rest⟩⟩ := h
  · exact ⟨hl, .inl hn⟩
  · injection hv with e1 e2 e3
    subst e1
    exact ⟨hl, .inr ⟨g, cap, cur, by rw [e3], hg, (hk _ rfl).trans hh, rest⟩⟩
theorem Row.lt (h : Row w base A c xs) : ∀ g, A = some g → base ≤ g.block ∧ g.block < w.heap.size := by
  rintro g rfl
  exact World.ownsRow.lt h _ rfl
theorem Row.below (h : Row w base A c xs) (hb : Below w.heap.size w w') : Row w' base A c xs :=
  h.keep fun g hg => hb.block _ (h.lt g hg).2
theorem Row.alloc (h : Row w base A c xs) (o : Obj) : Row (w.alloc o) base A c xs := World.ownsRow.alloc h o
theorem Row.drewN (h : Row w base A c xs) (n : Nat) : Row (w.drewN n) base A c xs := h
theorem Row.drew (h : Row w base A c xs) : Row w.drew base A c xs := h
theorem Row.mono (h : Row w base A c xs) {b : Nat} (hb : b ≤ base) : Row w b A c xs := by
  obtain ⟨hl, hn | ⟨g, cap, cur, hv, hg, rest⟩⟩ := h
  · exact ⟨hl, .inl hn⟩
  · exact ⟨hl, .inr ⟨g, cap, cur, hv, by omega, rest⟩⟩
theorem Row.far (h : Row w base A c xs) {p : Addr} (hp : ∀ g, A = some g → g.block ≠ p.block) (u : Value) : Row (w.setCell p u) base A c xs :=
  h.keep fun g hg => Below.heap_setCell w p u _ (hp g hg)
theorem Row.form (h : Row w base A c xs) (hn : xs ≠ []) : ∃ g, A = some ⟨g, 0, none⟩ := by
  obtain ⟨hl, ⟨hv, hz⟩ | ⟨g, cap, cur, hv, _⟩⟩ := h
  · exact absurd (List.eq_nil_of_length_eq_zero hz) hn
  · injection hv with e1; exact ⟨g, e1⟩
theorem Row.forms (h : Row w base A c xs) : (A = none ∧ xs = [] ∧ c = 0) ∨ ∃ g, A = some ⟨g, 0, none⟩ ∧ base ≤ g ∧ g < w.heap.size ∧ xs.length ≤ c ∧ c ≤ maxLen := by
  have hlt := h.lt
  obtain ⟨hl, ⟨hv, hz⟩ | ⟨g, cap, cur, hv, hb, hh, hc, hm, _⟩⟩ := h
  · injection hv with e1 e2 e3
    exact .inl ⟨e1, List.eq_nil_of_length_eq_zero hz, e3⟩
  · injection hv with e1 e2 e3
    subst e1 e3
    exact .inr ⟨g, rfl, hb, (hlt _ rfl).2, hc, hm⟩
theorem Row.cellAt {g : Nat} (h : Row w base (some ⟨g, 0, none⟩) c xs) {k : Nat} (hk : k < xs.length) : w.cell? ⟨g, k * 2, none⟩ = some (.int .i64 (xs.getD k (0, 0)).1) ∧ w.cell? ⟨g, k * 2 + 1, none⟩ = some (.int .i64 (xs.getD k (0, 0)).2) := by
  obtain ⟨g1, g2⟩ := cells2_get xs k hk
  exact ⟨(World.ownsRow.cellAt h (k * 2) (by omega)).trans g1, (World.ownsRow.cellAt h (k * 2 + 1) (by omega)).trans g2⟩
theorem Row.frozenAt {g : Nat} (h : Row w base (some ⟨g, 0, none⟩) c xs) (j : Nat) : w.frozen? ⟨g, j, none⟩ = false := World.ownsRow.frozenAt h j
theorem Row.spans (h : Row w base A c xs) (hf : Fits xs) : Spans w A xs := by
  refine ⟨hf, fun k hk => ?_⟩
  rcases h.forms with ⟨_, rfl, _⟩ | ⟨g, rfl, _, hlt, _⟩
  · simp at hk
  · obtain ⟨h1, h2⟩ := h.cellAt hk
    exact ⟨g, 0, rfl, hlt, by simpa using h1, by simpa using h2⟩
theorem Row.set {g : Nat} (h : Row w base (some ⟨g, 0, none⟩) c xs) {k : Nat} (hk : k < xs.length) (v : Int) : Row (w.setCell ⟨g, k * 2 + 1, none⟩ (.int .i64 v)) base (some ⟨g, 0, none⟩) c (xs.set k ((xs.getD k (0, 0)).1, v)) := by
  have := (World.ownsRow.stored h (k * 2 + 1) (.int .i64 v)).1
  rw [cells2_set xs k v hk] at this
  unfold Row
  rw [List.length_set]
  exact this
/-- The first m of them. -/
theorem Row.take {g : Nat} (h : Row w base (some ⟨g, 0, none⟩) c xs) {m : Nat} (hm : m ≤ xs.length) : Row w base (some ⟨g, 0, none⟩) c (xs.take m) := by
  obtain ⟨hl, ⟨hv, hz⟩ | ⟨g', cap, cur, hv, hb, hh, hc, hx, hs, ht⟩⟩ := h
  · cases hv
  · injection hv with e1 e2 e3
    simp only [Option.some.injEq, Addr.mk.injEq, and_true] at e1
    subst e1 e3
    have e : (xs.take m).length = m := by rw [List.length_take]; omega
    refine ⟨cells2_len _, .inr ⟨g, c, cur, rfl, hb, hh, by omega, hx, hs, ?_⟩⟩
    rw [e]
    have e2 : cells2 (xs.take m) = (cells2 xs).take (m * 2) := by
      have e4 : cells2 xs = cells2 (xs.take m) ++ cells2 (xs.drop m) := by rw [← cells2_append, List.take_append_drop]
      rw [e4, List.take_append_of_le_length (by rw [cells2_len, e]; omega)]
      exact (List.take_of_length_le (by rw [cells2_len, e]; omega)).symm
    rw [e2, ← ht, List.take_take]
    congr 1
    omega
end

theorem span_info : (Try.prog.info? 61).map (fun i => (i.zero, i.size, i.bytes)) = some (some (.agg #[.int .i64 0, .int .i64 0]), 2, 16) := by kernel_rfl

/-- An append of what a slice holds. -/
theorem row_append {w : World} {base c : Nat} {A : Option Addr} {xs : List (Int × Int)} (h : Row w base A c xs) {B : Option Addr} {d : Nat} {ys : List (Int × Int)} (hs : Sl 2 w B ys.length d (cells2 ys)) (hn : xs.length + ys.length ≤ 1000000000) (hbase : base ≤ w.heap.size) :
    ∃ A' c' w', (Builtin.append_ #[43, 43] 43 #[.slice A xs.length c, .slice B ys.length d]).run Try.prog w = .ok (.slice A' (xs.length + ys.length) c') w' ∧ Row w' base A' c' (xs ++ ys) ∧
      (∀ a : World, a.heap.size ≤ base → Below a.heap.size a w → Below a.heap.size a w') ∧ w.grownBy w' (Value.slice A xs.length c).ownBlock ∧ ((Value.slice A' (xs.length + ys.length) c').ownBlock = (Value.slice A xs.length c).ownBlock ∨ (Value.slice A' (xs.length + ys.length) c').ownBlock = some w.heap.size) := by
  obtain ⟨A', c', w', hr, ho, hg, hl⟩ := append_any (P := Try.prog) w base 43 43 61 _ 2 16 Try.underlying43 span_info rfl (by omega) h hs (cells2_one ys) (xs.length + ys.length) rfl (cells2 (xs ++ ys)) (cells2_append xs ys).symm (by omega) (by omega) hbase
  refine ⟨A', c', w', hr, ?_, fun a ha hb => bel_grown hb h ha hg, hg, hl⟩
  unfold Row
  rw [List.length_append]
  exact ho

/-- A new slice of one span, made for an append. -/
theorem sl_one (w : World) (t : TypeId) (x : Int × Int) {s : Nat} (hs : w.heap.size = s) : Sl 2 (w.alloc (.cells #[.int .i64 x.1, .int .i64 x.2] t)) (some ⟨s, 0, none⟩) [x].length 1 (cells2 [x]) := by
  subst hs
  refine ⟨rfl, .inr ⟨_, rfl, fun j u hu => ?_⟩⟩
  rw [add_none, Nat.zero_add, cell_of_row _ _ _ _ t (0, 0) (heap_alloc_new w _)]
  simpa [cells2] using hu
theorem row_push {w : World} {base c : Nat} {A : Option Addr} {xs : List (Int × Int)} (h : Row w base A c xs) (a b : Int) (hn : xs.length < 1000000000) (hbase : base ≤ w.heap.size) {s : Nat} (hs : w.heap.size = s) :
    ∃ A' c' w', (Builtin.append_ #[43, 43] 43 #[.slice A xs.length c, .slice (some ⟨s, 0, none⟩) 1 1]).run Try.prog (w.alloc (.cells #[.int .i64 a, .int .i64 b] 61)) = .ok (.slice A' (xs.length + 1) c') w' ∧ Row w' base A' c' (xs ++ [(a, b)]) ∧
      (∀ v : World, v.heap.size ≤ base → Below v.heap.size v w → Below v.heap.size v w') ∧ w.heap.size ≤ w'.heap.size ∧ (w.alloc (.cells #[.int .i64 a, .int .i64 b] 61)).grownBy w' (Value.slice A xs.length c).ownBlock ∧ ((Value.slice A' (xs.length + 1) c').ownBlock = (Value.slice A xs.length c).ownBlock ∨ (Value.slice A' (xs.length + 1) c').ownBlock = some (w.heap.size + 1)) := by
  obtain ⟨A', c', w', h1, h2, h3, h4, h5⟩ := row_append (h.alloc (.cells #[.int .i64 a, .int .i64 b] 61)) (ys := [(a, b)]) (sl_one w 61 (a, b) hs) (by simp; omega) (by simp; omega)
  exact ⟨A', c', w', h1, h2, fun v hv hb => h3 v hv (hb.alloc hb.size _), by have := h4.size; simp at this; omega, h4, by simpa using h5⟩

/-- What a call that tells spans answers: a slice of its own. -/
def Gives (w : World) (xs : List (Int × Int)) (e : Ending) (w' : World) : Prop := ∃ A c, e = .returned (.slice A xs.length c) ∧ Row w' w.heap.size A c xs ∧ Below w.heap.size w w'
theorem gives_of {w w' : World} {xs ys : List (Int × Int)} {A : Option Addr} {c n : Nat} (h : Row w' w.heap.size A c ys) (e : ys = xs) (hn : n = ys.length) (hb : Below w.heap.size w w') : Gives w xs (.returned (.slice A n c)) w' := by
  subst e; subst hn; exact ⟨A, c, rfl, h, hb⟩

/-- A literal slice of spans. -/
theorem spans_new (w : World) (xs : List (Int × Int)) (t : TypeId) (cs : Array Value) (hcs : cs = (cells2 xs).toArray) (hf : Fits xs) {s : Nat} (hs : w.heap.size = s) : Spans (w.alloc (.cells cs t)) (some ⟨s, 0, none⟩) xs := by
  subst hs
  refine ⟨hf, fun k hk => ?_⟩
  have e : ∀ j, (w.alloc (.cells cs t)).cell? ⟨w.heap.size, j, none⟩ = cs[j]? := fun j => cell_of_row _ _ _ _ t (0, 0) (heap_alloc_new w _)
  obtain ⟨g1, g2⟩ := cells2_get xs k hk
  refine ⟨_, _, rfl, by simp, ?_, ?_⟩
  · rw [Nat.zero_add, e, hcs]; simpa using g1
  · rw [Nat.zero_add, e, hcs]; simpa using g2
end Go.Proofs.Ytbijaaglmhoopaa
