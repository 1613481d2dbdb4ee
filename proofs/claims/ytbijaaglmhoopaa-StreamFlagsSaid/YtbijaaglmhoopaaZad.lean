/-
  What event.own tells of a kind: pointers to that kind's own numbers.
  event.fair: whether an event is fair.
  Slices of numbers of the call's own: append.
  Sets of seconds, continued: what two plain lists have in common, gone through once; what is between plain spans; how many there are; the first ones. No program here.
  Times rounded, days and weeks: no program here.
-/
import Derived.Test.YtbijaaglmhoopaaZab
import Derived.Test.YtbijaaglmhoopaaZac
import Derived.IntWalk
import Derived.Test.YtbijaaglmhoopaaZaa
import Derived.RegionTactic
import Derived.Test.YtbijaaglmhoopaaProg
namespace Go.Proofs.Ytbijaaglmhoopaa
open Go.RowKit
set_option linter.unusedVariables false
set_option linter.unusedSimpArgs false

/-- Where a kind's own numbers stand. -/
def ownL (k : Int) : List Nat := if k = 3 then [4, 5, 6, 7, 8, 9] else if k = 4 then [10] else []
def knownK (k : Int) : Bool := decide (1 ≤ k ∧ k ≤ 7)
/-- A slice value over A reads as pointers into block g, at the places L. -/
def EPtrs (w : World) (A : Option Addr) (g : Nat) (L : List Nat) : Prop := ∀ k, k < L.length → ∃ b off, A = some ⟨b, off, none⟩ ∧ w.cell? ⟨b, off + k, none⟩ = some (ptrV g (L.getD k 0))
section
variable {w w' : World} {A : Option Addr} {g : Nat} {L : List Nat}
theorem EPtrs.keep (h : EPtrs w A g L) (hk : ∀ p : Addr, p.block < w.heap.size → w'.cell? p = w.cell? p) : EPtrs w' A g L := by
  intro k hl
  obtain ⟨b, off, e, hc⟩ := h k hl
  exact ⟨b, off, e, (hk _ (cell_lt hc)).trans hc⟩
theorem EPtrs.below (h : EPtrs w A g L) (hb : Below w.heap.size w w') : EPtrs w' A g L := h.keep fun _ hp => hb.cell hp
theorem EPtrs.alloc (h : EPtrs w A g L) (o : Obj) : EPtrs (w.alloc o) A g L := h.keep fun p hp => World.cell?_alloc_lt w o p hp
theorem EPtrs.drew (h : EPtrs w A g L) : EPtrs w.drew A g L := h
/-- .. and lies at B or behind. -/
def EPtrsN (B : Nat) (w : World) (A : Option Addr) (g : Nat) (L : List Nat) : Prop := ∀ k, k < L.length → ∃ b off, A = some ⟨b, off, none⟩ ∧ B ≤ b ∧ b < w.heap.size ∧ w.cell? ⟨b, off + k, none⟩ = some (ptrV g (L.getD k 0))
theorem EPtrsN.keep {B : Nat} (h : EPtrsN B w A g L) (hs : w.heap.size ≤ w'.heap.size) (hk : ∀ p : Addr, B ≤ p.block → p.block < w.heap.size → w'.cell? p = w.cell? p) : EPtrsN B w' A g L := by
  intro k hl
  obtain ⟨b, off, e, hB, hlt, hc⟩ := h k hl
  exact ⟨b, off, e, hB, by omega, (hk _ hB hlt).trans hc⟩
theorem EPtrsN.below {B : Nat} (h : EPtrsN B w A g L) (hb : Below w.heap.size w w') : EPtrsN B w' A g L := h.keep hb.size fun _ _ hp => hb.cell hp
theorem EPtrsN.drew {B : Nat} (h : EPtrsN B w A g L) : EPtrsN B w.drew A g L := h
end
theorem ptrs_of_has {w : World} {B p g : Nat} {L : List Nat} (h : Has w p ((L.map (ptrV g)).toArray)) (hp : B ≤ p) : EPtrsN B w (some ⟨p, 0, none⟩) g L := by
  intro k hk
  refine ⟨p, 0, rfl, hp, h.size, ?_⟩
  rw [Nat.zero_add]
  exact h.cell k (by simp [List.getD, hk])
theorem ptrs_nil (B : Nat) (w : World) (A : Option Addr) (g : Nat) : EPtrsN B w A g [] := fun k hk => by simp at hk
/-- What 'own(&e)[k]' reads. -/
def OwnAt (W : World) (g : Nat) (e : Ending) (w : World) : Prop :=
  ∃ m, e = .returned (.map (some m)) ∧ Below W.heap.size W w ∧ ∀ k : Int, (-9223372036854775808 ≤ k ∧ k ≤ 9223372036854775807) → ∃ A n c, (ownL k).length = n ∧ n ≤ 6 ∧ n ≤ c ∧ c ≤ 6 ∧ EPtrsN W.heap.size w A g (ownL k) ∧
    (Instr.lookup 98 (.map (some m)) (.int .i64 k) true).run Try.prog w = .ok (.tuple #[.slice A n c, .bool (knownK k)]) w ∧ (Instr.lookup 98 (.map (some m)) (.int .i64 k) false).run Try.prog w = .ok (.slice A n c) w
theorem own_at {W : World} {g : Nat} {e : Ending} {w : World} (h : OwnMap W g e w) : OwnAt W g e w := by
  obtain ⟨m, n, p, q, rfl, hb, hm, hp, hq, hP, hQ, hM⟩ := h
  refine ⟨m, rfl, hb, fun k hk => ?_⟩
  obtain ⟨h1, h2⟩ := hM.look (e := 96) Try.underlying98 (Try.zeroValue96 w) hk
  by_cases k3 : k = 3
  · subst k3
    exact ⟨_, 6, 6, rfl, by omega, by omega, by omega, ptrs_of_has (by exact hP) hp, h1, h2⟩
  · by_cases k4 : k = 4
    · subst k4
      exact ⟨_, 1, 1, rfl, by omega, by omega, by omega, ptrs_of_has (by exact hQ) hq, h1, h2⟩
    · have e0 : ownL k = [] := by simp [ownL, k3, k4]
      refine ⟨none, 0, 0, by rw [e0]; rfl, by omega, by omega, by omega, by rw [e0]; exact ptrs_nil _ _ _ _, ?_, ?_⟩
      · rw [h1]
        by_cases hkn : 1 ≤ k ∧ k ≤ 7
        · have hc : k = 1 ∨ k = 2 ∨ k = 5 ∨ k = 6 ∨ k = 7 := by omega
          rcases hc with rfl | rfl | rfl | rfl | rfl <;> rfl
        · have n1 : k ≠ 1 := by omega
          have n2 : k ≠ 2 := by omega
          have n5 : k ≠ 5 := by omega
          have n6 : k ≠ 6 := by omega
          have n7 : k ≠ 7 := by omega
          simp [mapF, n1, n2, n5, n6, n7, k3, k4, toldV, knownK, hkn]
      · rw [h2]
        by_cases hkn : 1 ≤ k ∧ k ≤ 7
        · have hc : k = 1 ∨ k = 2 ∨ k = 5 ∨ k = 6 ∨ k = 7 := by omega
          rcases hc with rfl | rfl | rfl | rfl | rfl <;> rfl
        · have n1 : k ≠ 1 := by omega
          have n2 : k ≠ 2 := by omega
          have n5 : k ≠ 5 := by omega
          have n6 : k ≠ 6 := by omega
          have n7 : k ≠ 7 := by omega
          simp [mapF, n1, n2, n5, n6, n7, k3, k4, toldV]
theorem own_c (g : Nat) (W : World) : Calls Try.prog 54 #[.pointer (some ⟨g, 0, none⟩)] W (OwnAt W g) := (own_any g W).mono fun _ _ h => own_at h

/-! ### an event's numbers as a list -/
def evL (e : EvP) : List Int := [e.id, e.wk, e.tm, e.kd, e.fr, e.to, e.el, e.un, e.cl, e.ge, e.cd]
theorem evC_L (e : EvP) : evC e = (ints .i64 (evL e)).toArray := rfl
def evOf (l : List Int) : EvP := ⟨l.getD 0 0, l.getD 1 0, l.getD 2 0, l.getD 3 0, l.getD 4 0, l.getD 5 0, l.getD 6 0, l.getD 7 0, l.getD 8 0, l.getD 9 0, l.getD 10 0⟩
theorem evL_Of {l : List Int} (h : l.length = 11) : evL (evOf l) = l := by
  match l, h with
  | [a, b, c, d, e, f, g, i, j, k, m], _ => rfl
theorem ownL_lt {k : Int} {o : Nat} (h : o ∈ ownL k) : 4 ≤ o ∧ o < 11 := by
  unfold ownL at h
  split at h
  · simp at h; omega
  · split at h
    · simp at h; omega
    · simp at h
theorem ownL_nodup (k : Int) : (ownL k).Nodup := by
  unfold ownL
  split
  · decide
  · split <;> decide
end Go.Proofs.Ytbijaaglmhoopaa

namespace Go.Proofs.Ytbijaaglmhoopaa
open Go.RowKit
set_option linter.unusedVariables false
set_option linter.unusedSimpArgs false

theorem fair_iff0 (e : EvP) : e.Fair ↔ ((0 ≤ e.id ∧ e.id ≤ 100000) ∧ (0 ≤ e.wk ∧ e.wk ≤ 9223372036854775807) ∧ (0 ≤ e.tm ∧ e.tm ≤ 31449599) ∧ (1 ≤ e.kd ∧ e.kd ≤ 7) ∧ (0 ≤ e.fr ∧ e.fr ≤ 9223372036854775807) ∧ (0 ≤ e.to ∧ e.to ≤ 9223372036854775807) ∧ (0 ≤ e.el ∧ e.el ≤ 9223372036854775807) ∧
    (0 ≤ e.un ∧ e.un ≤ 9223372036854775807) ∧ (0 ≤ e.cl ∧ e.cl ≤ 9223372036854775807) ∧ (0 ≤ e.ge ∧ e.ge ≤ 9223372036854775807) ∧ (0 ≤ e.cd ∧ e.cd ≤ 9223372036854775807) ∧ (e.kd = 3 ∨ (e.fr = 0 ∧ e.to = 0 ∧ e.el = 0 ∧ e.un = 0 ∧ e.cl = 0 ∧ e.ge = 0)) ∧ (e.kd = 4 ∨ e.cd = 0)) :=
  ⟨fun h => ⟨h.id, h.wk, h.tm, h.kd, h.fr, h.to, h.el, h.un, h.cl, h.ge, h.cd, h.task, h.code⟩, fun ⟨a, b, c, d, e, f, g, i, j, k, l, m, n⟩ => ⟨a, b, c, d, e, f, g, i, j, k, l, m, n⟩⟩
instance (e : EvP) : Decidable e.Fair := decidable_of_iff' _ (fair_iff0 e)
/-- What every event has, is as it must be. -/
def EvP.Base (e : EvP) : Prop := 0 ≤ e.id ∧ e.id ≤ 100000 ∧ 0 ≤ e.wk ∧ 0 ≤ e.tm ∧ e.tm ≤ 31449599
instance (e : EvP) : Decidable e.Base := by unfold EvP.Base; infer_instance
/-- Some numbers struck. -/
def zeroL (zs : List Int) (L : List Nat) : List Int := L.foldl (fun z o => z.set o 0) zs
theorem zeroL_snoc (zs : List Int) (L : List Nat) (k : Nat) (h : k < L.length) : zeroL zs (L.take (k + 1)) = (zeroL zs (L.take k)).set (L.getD k 0) 0 := by
  rw [List.take_succ_eq_append_getElem h, zeroL, List.foldl_append]
  simp [zeroL, List.getD, h]
theorem zeroL_len : ∀ (L : List Nat) (zs : List Int), (zeroL zs L).length = zs.length
  | [], zs => rfl
  | o :: L, zs => by
    show (zeroL (zs.set o 0) L).length = _
    rw [zeroL_len L]
    simp
theorem zeroL_far : ∀ (L : List Nat) (zs : List Int) (o : Nat), o ∉ L → (zeroL zs L)[o]? = zs[o]?
  | [], zs, o, _ => rfl
  | p :: L, zs, o, h => by
    show (zeroL (zs.set p 0) L)[o]? = _
    rw [zeroL_far L _ o (fun e => h (by simp [e])), List.getElem?_set_ne (fun e => h (by simp [e]))]
/-- An event without the numbers that all have. -/
def left0 (e : EvP) : List Int := [0, 0, 0, 0, e.fr, e.to, e.el, e.un, e.cl, e.ge, e.cd]
theorem left0_at (e : EvP) {o : Nat} (h : 4 ≤ o ∧ o < 11) : (left0 e)[o]? = some ((evL e).getD o 0) := by
  obtain ⟨h1, h2⟩ := h
  match o, h1, h2 with
  | 4, _, _ | 5, _, _ | 6, _, _ | 7, _, _ | 8, _, _ | 9, _, _ | 10, _, _ => rfl
def zeros11 : List Int := [0, 0, 0, 0, 0, 0, 0, 0, 0, 0, 0]
theorem fair_iff {e : EvP} (h : e.In) : e.Fair ↔ e.Base ∧ (∀ o ∈ ownL e.kd, 0 ≤ (evL e).getD o 0) ∧ knownK e.kd = true ∧ zeroL (left0 e) (ownL e.kd) = zeros11 := by
  obtain ⟨h1, h2, h3, h4, h5, h6, h7, h8, h9, h10, h11⟩ := h
  rw [fair_iff0]
  obtain ⟨i, w, t, k, a, b, c, d, g, j, m⟩ := e
  simp only [EvP.Base, knownK, decide_eq_true_eq] at *
  by_cases k3 : k = 3
  · subst k3
    simp [ownL, evL, left0, zeroL, zeros11]
    omega
  · by_cases k4 : k = 4
    · subst k4
      simp [ownL, evL, left0, zeroL, zeros11]
      omega
    · simp [ownL, evL, left0, zeroL, zeros11, k3, k4]
      omega
theorem fair_bad (e : EvP) (w : World) (hi : e.In) (h : ¬ e.Base) :
    Calls Try.prog 34 #[.agg (evC e)] w fun r w' => r = .returned (.bool false) ∧ Below w.heap.size w w' := by
  have c : e.id < 0 ∨ (0 ≤ e.id ∧ 100000 < e.id) ∨ ((0 ≤ e.id ∧ e.id ≤ 100000) ∧ e.wk < 0) ∨ ((0 ≤ e.id ∧ e.id ≤ 100000) ∧ 0 ≤ e.wk ∧ e.tm < 0) ∨ ((0 ≤ e.id ∧ e.id ≤ 100000) ∧ 0 ≤ e.wk ∧ 0 ≤ e.tm ∧ 31449599 < e.tm) := by
    unfold EvP.Base at h
    omega
  clear hi h
  obtain ⟨i, w, t, k, a, b, c, d, g, j, m⟩ := e
  simp only at c
  simp only [evC]
  rcases c with h | ⟨h1, h⟩ | ⟨⟨h1, h2⟩, h⟩ | ⟨⟨h1, h2⟩, h3, h⟩ | ⟨⟨h1, h2⟩, h3, h4, h⟩
  all_goals
    go_enter Try.func34, Try.ntmps34
    go_wp2
    go_ret
    exact ⟨rfl, by (repeat' (first | with_reducible exact Below.refl _ _ | with_reducible assumption | with_reducible refine bel_alloc ?_ _ | with_reducible refine bel_set ?_ ?_ _ | with_reducible refine below_drewN ?_ _ | with_reducible refine below_drew ?_ | (simp; done) | (simp; omega) | omega))⟩
theorem zero_get {L : List Nat} (zs : List Int) {k : Nat} (h : k < L.length) (hn : L.Nodup) : (zeroL zs (L.take k))[L.getD k 0]? = zs[L.getD k 0]? := by
  refine zeroL_far _ _ _ (fun hm => ?_)
  have e : L.getD k 0 = L[k] := by simp [List.getD, h]
  rw [e] at hm
  obtain ⟨j, hj, hje⟩ := List.getElem_of_mem hm
  rw [List.length_take] at hj
  rw [List.getElem_take] at hje
  have := (List.getElem_inj hn).1 hje
  omega
set_option maxRecDepth 20000 in
set_option maxHeartbeats 1000000 in
theorem fair_on (e : EvP) (W : World) (hi : e.In) (h : e.Base) :
    Calls Try.prog 34 #[.agg (evC e)] W fun r w' => r = .returned (.bool (decide e.Fair)) ∧ Below W.heap.size W w' := by
  obtain ⟨h1, h2, h3, h4, h5⟩ := id h
  have HF : Hid (decide e.Fair = (decide (∀ o ∈ ownL e.kd, 0 ≤ (evL e).getD o 0) && (knownK e.kd && decide (zeroL (left0 e) (ownL e.kd) = zeros11)))) := by
    show _ = _
    rw [Bool.eq_iff_iff]
    simp only [decide_eq_true_eq, Bool.and_eq_true, fair_iff hi]
    exact ⟨fun ⟨_, a, b, c⟩ => ⟨a, b, c⟩, fun ⟨a, b, c⟩ => ⟨h, a, b, c⟩⟩
  have HK := Lib.hid hi.kd
  have HI := Lib.hid hi
  have hC1 := evC_size e
  have HC := Lib.hid (evC_one e)
  clear h hi
  generalize hcs : evC e = cs at *
  have HCS := Lib.hid hcs
  clear hcs
  have c0 : cs[0]? = some (.int .i64 e.id) := by rw [← HCS.out]; rfl
  have c1 : cs[1]? = some (.int .i64 e.wk) := by rw [← HCS.out]; rfl
  have c2 : cs[2]? = some (.int .i64 e.tm) := by rw [← HCS.out]; rfl
  have c3 : cs[3]? = some (.int .i64 e.kd) := by rw [← HCS.out]; rfl
  have HZ := Lib.hid hC1
  clear hC1
  go_enter Try.func34, Try.ntmps34
  go_wp2_with (first | (refine wpList_load_e (by rfl) _ rfl W.heap.size rfl cs (Has.new W _ cs rfl) HZ.out ?_) | (refine wpList_laid_e cs 3 _ _ rfl rfl rfl rfl rfl rfl rfl rfl HZ.out HC.out ?_))
  obtain ⟨w1, hw1⟩ : ∃ w1, w1 = (W.alloc (.cells cs 39)).alloc (.cells ((((cs.setIfInBounds 0 (.int .i64 0)).setIfInBounds 1 (.int .i64 0)).setIfInBounds 2 (.int .i64 0)).setIfInBounds 3 (.int .i64 0)) 39) := ⟨_, rfl⟩
  rw [← hw1]
  have HB : Hid (Has w1 W.heap.size cs) := by rw [hw1]; exact (Has.new W _ cs rfl).alloc _
  have HG : Hid (Has w1 (W.heap.size + 1) (ints .i64 (left0 e)).toArray) := by
    rw [hw1]
    have : (ints .i64 (left0 e)).toArray = ((((cs.setIfInBounds 0 (.int .i64 0)).setIfInBounds 1 (.int .i64 0)).setIfInBounds 2 (.int .i64 0)).setIfInBounds 3 (.int .i64 0)) := by rw [← HCS.out]; rfl
    rw [this]
    exact Has.new _ _ _ (by simp)
  have HW : Hid (Below W.heap.size W w1) := by rw [hw1]; exact bel_alloc (bel_alloc (Below.refl _ _) _) _
  clear hw1
  refine wp_region_noPanic ?_
  refine wp_region_held_drew (S := fun w' => Below w1.heap.size w1 w') (by kernel_rfl) (below_drew (Below.refl _ _)) (fun hHeld => ?_)
  refine wpAnyH_take (i := 1) (oi := ⟨some 38, _, _, _, _, _⟩) (v := ?_) rfl (by kernel_rfl) (by kernel_rfl) (by kernel_rfl) (fun _ _ _ h => h) (Or.inl ⟨by rfl, ?_⟩) hHeld ?_
  rotate_left
  · intro ww hSw
    (try dsimp only at hSw)
    go_simp
    (try with_reducible rfl)
  simp only [Act.put, List.setIfInBounds_toArray, List.set_cons_zero, List.set_cons_succ]
  refine wpAnyH_take (i := 2) (oi := ⟨some 39, _, _, _, _, _⟩) (v := .int .i64 e.kd) rfl (by kernel_rfl) (by kernel_rfl) (by kernel_rfl) (fun _ _ _ h => h) (Or.inl ⟨by rfl, ?_⟩) hHeld ?_
  · intro ww hSw
    (try dsimp only at hSw)
    have hc := (hSw.cell (p := ⟨W.heap.size, 3, none⟩) HB.out.size).trans (HB.out.cell 3 c3)
    go_simp
  simp only [Act.put, List.setIfInBounds_toArray, List.set_cons_zero, List.set_cons_succ]
  refine wpAnyH_ready (rs := [0]) (by kernel_rfl) (by simp) ?_
  refine AllReadyH.cons (o := ⟨some 37, _, _, _, _, _⟩) rfl (fun K hK => ?_) AllReadyH.nil
  go_simp
  go_at_call 54
  refine (own_c _ _).mono ?_
  rintro e_r w2 ⟨m, rfl, hbn, hL⟩
  have hbw2 : Below w1.heap.size w1 w2 := bel_on (show Below w1.heap.size w1 _ by (repeat' (first | with_reducible exact Below.refl _ _ | with_reducible assumption | with_reducible refine bel_alloc ?_ _ | with_reducible refine bel_set ?_ ?_ _ | with_reducible refine below_drewN ?_ _ | with_reducible refine below_drew ?_ | (simp; done) | (simp; omega) | omega))) hbn
  clear hbn
  go_wp2_with fail
  refine hK.out _ _ ?_ (fun hHeld => ?_)
  · (try dsimp only)
    exact hbw2
  clear hK K
  (try simp only [Act.put, List.setIfInBounds_toArray, List.set_cons_zero, List.set_cons_succ])
  obtain ⟨A, n, c, hn, hn6, hnc, hc6, hP, hq1, hq2⟩ := hL e.kd HK.out
  clear hL hq2
  refine wpAnyH_ready (rs := [3]) (by kernel_rfl) (by simp) ?_
  refine AllReadyH.cons (o := ⟨some 40, _, _, _, _, _⟩) rfl (fun K hK => ?_) AllReadyH.nil
  go_simp
  refine hK.out _ _ ?_ (fun hHeld => ?_)
  · (try dsimp only)
    exact hbw2
  clear hK K
  (try simp only [Act.put, List.setIfInBounds_toArray, List.set_cons_zero, List.set_cons_succ])
  refine wpAnyH_take (i := 4) (oi := ⟨some 36, _, _, _, _, _⟩) (v := ?_) rfl (by kernel_rfl) (by kernel_rfl) (by kernel_rfl) (fun _ _ _ h => h) (Or.inl ⟨by rfl, ?_⟩) hHeld ?_
  rotate_left
  · intro ww hSw
    (try dsimp only at hSw)
    go_simp
    (try with_reducible rfl)
  simp only [Act.put, List.setIfInBounds_toArray, List.set_cons_zero, List.set_cons_succ]
  refine wpAnyH_take (i := 5) (oi := ⟨some 41, _, _, _, _, _⟩) (v := ?_) rfl (by kernel_rfl) (by kernel_rfl) (by kernel_rfl) (fun _ _ _ h => h) (Or.inl ⟨by rfl, ?_⟩) hHeld ?_
  rotate_left
  · intro ww hSw
    (try dsimp only at hSw)
    go_simp
    (try with_reducible rfl)
  simp only [Act.put, List.setIfInBounds_toArray, List.set_cons_zero, List.set_cons_succ]
  refine wpAnyH_take (i := 6) (oi := ⟨some 42, _, _, _, _, _⟩) (v := ?_) rfl (by kernel_rfl) (by kernel_rfl) (by kernel_rfl) (fun _ _ _ h => h) (Or.inl ⟨by rfl, ?_⟩) hHeld ?_
  rotate_left
  · intro ww hSw
    (try dsimp only at hSw)
    go_simp
    (try with_reducible rfl)
  simp only [Act.put, List.setIfInBounds_toArray, List.set_cons_zero, List.set_cons_succ]
  refine wpAnyH_take (i := 7) (oi := ⟨some 4, _, _, _, _, _⟩) (v := ?_) rfl (by kernel_rfl) (by kernel_rfl) (by kernel_rfl) (fun _ _ _ h => h) (Or.inl ⟨by rfl, ?_⟩) hHeld ?_
  rotate_left
  · intro ww hSw
    (try dsimp only at hSw)
    go_simp
    (try with_reducible rfl)
  simp only [Act.put, List.setIfInBounds_toArray, List.set_cons_zero, List.set_cons_succ]
  refine wpAnyH_take (i := 8) (oi := ⟨some 5, _, _, _, _, _⟩) (v := ?_) rfl (by kernel_rfl) (by kernel_rfl) (by kernel_rfl) (fun _ _ _ h => h) (Or.inl ⟨by rfl, ?_⟩) hHeld ?_
  rotate_left
  · intro ww hSw
    (try dsimp only at hSw)
    go_simp
    (try with_reducible rfl)
  simp only [Act.put, List.setIfInBounds_toArray, List.set_cons_zero, List.set_cons_succ]
  refine wpAnyH_done (by kernel_rfl) ?_ _
  refine NoPanic.normal ?_
  have hG := HG.out.below hbw2
  have hbW := bel_on HW.out hbw2
  have hgB : W.heap.size + 1 < w1.drew.heap.size := HG.out.size
  generalize w1.drew.heap.size = B at *
  clear HB HG HW hHeld hbw2 hq1 c0 c1 c2 c3 HC
  generalize hg : W.heap.size + 1 = g at *
  have hWg : W.heap.size ≤ g := by omega
  clear hg
  have HL := Lib.hid hn
  have HKN : Hid (∀ o ∈ ownL e.kd, 4 ≤ o ∧ o < 11) := Lib.hid (fun o ho => ownL_lt ho)
  have HND := Lib.hid (ownL_nodup e.kd)
  have HPP := Lib.hid hP
  have HGG := Lib.hid hG
  clear hn hP hG h1 h2 h3 h4 h5
  generalize knownK e.kd = kn at *
  generalize ownL e.kd = L at *
  go_wp2_with fail
  go_loopw [45] (fun i wr => ∃ k : Nat, k ≤ n ∧ i = .int .i64 k ∧ Hid (Has wr g (ints .i64 (zeroL (left0 e) (L.take k))).toArray) ∧ Hid (EPtrsN B wr A g L) ∧ Below W.heap.size W wr ∧ Hid (∀ o ∈ L.take k, 0 ≤ (evL e).getD o 0)) (fun i _ => n - (intOf i).toNat)
  case atStart => exact ⟨0, by omega, rfl, HGG, HPP, hbW, Lib.hid (fun o ho => by simp at ho)⟩
  case round =>
    clear HGG HPP hbW
    obtain ⟨k, hk, rfl, hG, hP, hb, hpos⟩ := hrel
    by_cases hlt : k < n
    · have hkL : k < L.length := by rw [HL.out]; exact hlt
      obtain ⟨b, off, rfl, hBb, hbs, hc⟩ := hP.out k hkL
      have hLk : L.getD k 0 ∈ L := by simp [List.getD, hkL]
      have hget := zero_get (left0 e) hkL HND.out
      rw [left0_at e (HKN.out _ hLk)] at hget
      have hsn := zeroL_snoc (left0 e) L k hkL
      have htk : L.take (k + 1) = L.take k ++ [L.getD k 0] := by rw [List.take_succ_eq_append_getElem hkL]; simp [List.getD, hkL]
      have HSN := Lib.hid hsn
      have HTK := Lib.hid htk
      have HLK := Lib.hid hLk
      clear hsn htk hLk
      generalize L.getD k 0 = o at *
      have hcell := hG.out.cell o (v := .int .i64 ((evL e).getD o 0)) (by simp [ints, hget])
      have hfro := hG.out.frozen o
      clear hget
      unfold ptrV at hc
      have hgb : g ≠ b := by omega
      obtain ⟨z, hze⟩ : ∃ z, (evL e).getD o 0 = z := ⟨_, rfl⟩
      rw [hze] at hcell
      have HZE := Lib.hid hze
      clear hze
      by_cases hz : z < 0
      · have hf : decide e.Fair = false := by
          rw [HF.out, Bool.and_eq_false_iff]
          exact .inl (decide_eq_false (fun h => by have := h o HLK.out; rw [HZE.out] at this; omega))
        have HFF := Lib.hid hf
        clear hf
        go_wp2
        go_ret
        exact ⟨ret_bool HFF.out.symm, hb⟩
      · go_wp2
        go_roundw
        case rel =>
          refine ⟨k + 1, by omega, by go_num, ?_, ?_, ?_, ?_⟩
          · rw [HSN.out]
            have := hG.out.set o (.int .i64 0)
            refine Lib.hid ?_
            have e1 : (ints .i64 ((zeroL (left0 e) (L.take k)).set o 0)).toArray = (ints .i64 (zeroL (left0 e) (L.take k))).toArray.setIfInBounds o (.int .i64 0) := by simp [ints, List.map_set]
            rw [e1]
            exact this
          · exact Lib.hid (hP.out.keep (by simp) (fun p hp _ => World.cell?_setCell_far _ _ _ _ (by show g ≠ p.block; omega)))
          · exact bel_set hb hWg _
          · refine Lib.hid (fun q hq => ?_)
            rw [HTK.out, List.mem_append] at hq
            rcases hq with hq | hq
            · exact hpos.out q hq
            · simp at hq; subst hq; rw [HZE.out]; omega
        case measure => simp [intOf]; omega
    · obtain rfl : k = n := by omega
      have hpos' := hpos.out
      have hG' := hG.out
      rw [show k = L.length from HL.out.symm, List.take_length] at hpos' hG'
      have hfin : decide e.Fair = (kn && decide (zeroL (left0 e) L = zeros11)) := by rw [HF.out, decide_eq_true hpos', Bool.true_and]
      have HFF := Lib.hid hfin
      have hlen : (zeroL (left0 e) L).length = 11 := zeroL_len _ _
      clear hfin hpos' hpos hG hP HKN HND HF HL
      generalize zeroL (left0 e) L = zs at *
      have hx := evL_Of hlen
      have hcs2 : (ints .i64 zs).toArray = evC (evOf zs) := by rw [evC_L, hx]
      rw [hcs2] at hG'
      have hq := fun w => run_ev_eql (evOf zs) EvP.none w
      have hd : decide (evOf zs = EvP.none) = decide (zs = zeros11) := by
        apply decide_eq_decide.2
        constructor
        · intro h; rw [← hx, h]; rfl
        · intro h; rw [h]; rfl
      rw [hd] at hq
      have HQ : Hid (∀ w, (binOp .eql 39 (.agg (evC (evOf zs))) (.agg (evC EvP.none))).run Try.prog w = .ok (.bool (decide (zs = zeros11))) w) := hq
      clear hq hd hx hcs2
      generalize decide (zs = zeros11) = eqb at *
      have HG2 := Lib.hid hG'
      have hz2 := evC_size (evOf zs)
      generalize evC (evOf zs) = cs2 at *
      clear hG'
      have HZ2 := Lib.hid hz2
      clear hz2 hlen
      cases kn
      · go_wp2
        go_ret
        exact ⟨ret_bool (by rw [HFF.out]; rfl), hb⟩
      · have hq := HQ.out
        simp only [evC, EvP.none] at hq
        go_wp2_with (first | (refine wpList_load_e (by rfl) _ rfl g rfl cs2 HG2.out HZ2.out ?_))
        go_ret
        exact ⟨ret_bool (by rw [HFF.out]; rfl), hb⟩
theorem fair_any (e : EvP) (W : World) (hi : e.In) :
    Calls Try.prog 34 #[.agg (evC e)] W fun r w' => r = .returned (.bool (decide e.Fair)) ∧ Below W.heap.size W w' := by
  by_cases h : e.Base
  · exact fair_on e W hi h
  · rw [decide_eq_false (fun hf => h ((fair_iff hi).1 hf).1)]
    exact fair_bad e W hi h
end Go.Proofs.Ytbijaaglmhoopaa

namespace Go.Proofs.Ytbijaaglmhoopaa
open Go.RowKit
set_option linter.unusedVariables false

/-- A slice of the call's own, that lies at 'base' or behind, and holds the numbers xs. -/
def NRow (w : World) (base : Nat) (A : Option Addr) (c : Nat) (xs : List Int) : Prop :=
  w.ownsRow base 3 1 (.slice A xs.length c) xs.length (ints .i64 xs)
section
variable {w w' : World} {base c : Nat} {A : Option Addr} {xs : List Int}
theorem NRow.nil (w : World) (base : Nat) : NRow w base none 0 [] := World.ownsRow_nil w base _ _
theorem NRow.keep (h : NRow w base A c xs) (hk : ∀ g, A = some g → w'.heap[g.block]? = w.heap[g.block]?) : NRow w' base A c xs := by
  obtain ⟨hl, hn | ⟨g, cap, cur, hv, hg, hh, rest⟩⟩ := h
  · exact ⟨hl, .inl hn⟩
  · injection hv with e1 e2 e3
    subst e1
    exact ⟨hl, .inr ⟨g, cap, cur, by rw [e3], hg, (hk _ rfl).trans hh, rest⟩⟩
theorem NRow.lt (h : NRow w base A c xs) : ∀ g, A = some g → base ≤ g.block ∧ g.block < w.heap.size := by
  rintro g rfl
  exact World.ownsRow.lt h _ rfl
theorem NRow.below (h : NRow w base A c xs) (hb : Below w.heap.size w w') : NRow w' base A c xs :=
  h.keep fun g hg => hb.block _ (h.lt g hg).2
theorem NRow.alloc (h : NRow w base A c xs) (o : Obj) : NRow (w.alloc o) base A c xs := World.ownsRow.alloc h o
theorem NRow.drew (h : NRow w base A c xs) : NRow w.drew base A c xs := h
theorem NRow.mono (h : NRow w base A c xs) {b : Nat} (hb : b ≤ base) : NRow w b A c xs := by
  obtain ⟨hl, hn | ⟨g, cap, cur, hv, hg, rest⟩⟩ := h
  · exact ⟨hl, .inl hn⟩
  · exact ⟨hl, .inr ⟨g, cap, cur, hv, by omega, rest⟩⟩
end
end Go.Proofs.Ytbijaaglmhoopaa

namespace Go.Proofs.Ytbijaaglmhoopaa
set_option linter.unusedVariables false

/-- How many numbers below n are p's. -/
noncomputable def cnt (p : Int → Prop) : Nat → Int
  | 0 => 0
  | n + 1 => cnt p n + (open Classical in if p n then 1 else 0)
theorem cnt_succ (p : Int → Prop) (n : Nat) : cnt p (n + 1) = cnt p n + (open Classical in if p n then 1 else 0) := rfl
theorem cnt_yes {p : Int → Prop} {n : Nat} (h : p n) : cnt p (n + 1) = cnt p n + 1 := by rw [cnt_succ, if_pos h]
theorem cnt_no {p : Int → Prop} {n : Nat} (h : ¬ p n) : cnt p (n + 1) = cnt p n := by rw [cnt_succ, if_neg h]; omega
theorem cnt_congr {p q : Int → Prop} : ∀ {n : Nat}, (∀ t : Int, 0 ≤ t → t < n → (p t ↔ q t)) → cnt p n = cnt q n
  | 0, _ => rfl
  | n + 1, h => by
    have ih := cnt_congr (p := p) (q := q) (n := n) (fun t a b => h t a (by omega))
    by_cases hp : p n
    · rw [cnt_yes hp, cnt_yes ((h n (by omega) (by omega)).1 hp), ih]
    · rw [cnt_no hp, cnt_no (fun hq => hp ((h n (by omega) (by omega)).2 hq)), ih]
theorem cnt_all {p : Int → Prop} {n : Nat} : ∀ k : Nat, (∀ t : Int, n ≤ t → t < n + k → p t) → cnt p (n + k) = cnt p n + k
  | 0, _ => by simp
  | k + 1, h => by
    rw [← Nat.add_assoc, cnt_yes (h _ (by omega) (by omega)), cnt_all k (fun t a b => h t a (by omega))]; omega
theorem cnt_gap {p : Int → Prop} {n : Nat} : ∀ k : Nat, (∀ t : Int, n ≤ t → t < n + k → ¬ p t) → cnt p (n + k) = cnt p n
  | 0, _ => by simp
  | k + 1, h => by
    rw [← Nat.add_assoc, cnt_no (h _ (by omega) (by omega)), cnt_gap k (fun t a b => h t a (by omega))]
theorem cnt_or {p q r : Int → Prop} : ∀ {n : Nat}, (∀ t : Int, 0 ≤ t → t < n → (r t ↔ p t ∨ q t) ∧ ¬ (p t ∧ q t)) → cnt r n = cnt p n + cnt q n
  | 0, _ => rfl
  | n + 1, h => by
    have ih := cnt_or (p := p) (q := q) (r := r) (n := n) (fun t a b => h t a (by omega))
    obtain ⟨h1, h2⟩ := h n (by omega) (by omega)
    by_cases hp : p n
    · rw [cnt_yes (h1.2 (.inl hp)), cnt_yes hp, cnt_no (fun hq => h2 ⟨hp, hq⟩)]; omega
    · by_cases hq : q n
      · rw [cnt_yes (h1.2 (.inr hq)), cnt_yes hq, cnt_no hp]; omega
      · rw [cnt_no (fun hr => (h1.1 hr).elim hp hq), cnt_no hp, cnt_no hq]; omega

/-- How many numbers of plain spans are below h. -/
def below (l : List (Int × Int)) (h : Int) : Int := (l.map fun s => max 0 (min s.2 h - s.1)).sum
/-- How many numbers plain spans have. -/
def szL (l : List (Int × Int)) : Int := (l.map fun s => s.2 - s.1).sum
theorem below_cons (s : Int × Int) (l : List (Int × Int)) (h : Int) : below (s :: l) h = max 0 (min s.2 h - s.1) + below l h := by simp [below]
theorem szL_cons (s : Int × Int) (l : List (Int × Int)) : szL (s :: l) = (s.2 - s.1) + szL l := by simp [szL]
theorem below_zero : ∀ {l : List (Int × Int)} {a h : Int}, PlainFrom a l → h ≤ a → below l h = 0
  | [], _, _, _, _ => rfl
  | s :: l, a, h, ⟨h1, h2, h3, h4⟩, hh => by rw [below_cons, below_zero h4 (by omega)]; omega
theorem below_top : ∀ {l : List (Int × Int)} {a h : Int}, PlainFrom a l → 32054400 ≤ h → below l h = szL l
  | [], _, _, _, _ => rfl
  | s :: l, a, h, ⟨h1, h2, h3, h4⟩, hh => by rw [below_cons, szL_cons, below_top h4 hh]; omega
theorem below_cnt : ∀ {l : List (Int × Int)} {a : Int} (h : Nat) (p : Int → Prop), PlainFrom a l → 0 ≤ a → a ≤ h → h ≤ 32054400 → (∀ t, a ≤ t → t < h → (p t ↔ In l t)) → cnt p h = cnt p a.toNat + below l h
  | [], a, h, p, _, h0, ha, hm, hp => by
    have := cnt_gap (p := p) (n := a.toNat) (h - a.toNat) (fun t q1 q2 => by rw [hp t (by omega) (by omega)]; exact in_nil _)
    rw [show a.toNat + (h - a.toNat) = h by omega] at this
    rw [this]; simp [below]
  | s :: l, a, h, p, ⟨h1, h2, h3, h4⟩, h0, ha, hm, hp => by
    have low : ∀ t, In l t → s.2 < t := fun t ht => by have := h4.bound ht; omega
    have n1 : ∀ t, a ≤ t → t < h → t < s.1 → ¬ p t := fun t q1 q2 q3 => by
      rw [hp t q1 q2, in_cons]
      rintro (q | q)
      · omega
      · have := low t q; omega
    rcases Int.lt_or_le h s.1 with c | c
    · have := cnt_gap (p := p) (n := a.toNat) (h - a.toNat) (fun t q1 q2 => n1 t (by omega) (by omega) (by omega))
      rw [show a.toNat + (h - a.toNat) = h by omega] at this
      rw [this, below_cons, below_zero h4 (by omega)]; omega
    · have e1 := cnt_gap (p := p) (n := a.toNat) (s.1.toNat - a.toNat) (fun t q1 q2 => n1 t (by omega) (by omega) (by omega))
      rw [show a.toNat + (s.1.toNat - a.toNat) = s.1.toNat by omega] at e1
      rcases Int.lt_or_le h s.2 with d | d
      · have e2 := cnt_all (p := p) (n := s.1.toNat) (h - s.1.toNat) (fun t q1 q2 => by rw [hp t (by omega) (by omega), in_cons]; exact .inl ⟨by omega, by omega⟩)
        rw [show s.1.toNat + (h - s.1.toNat) = h by omega] at e2
        rw [e2, e1, below_cons, below_zero h4 (by omega)]; omega
      · have e2 := cnt_all (p := p) (n := s.1.toNat) (s.2.toNat - s.1.toNat) (fun t q1 q2 => by rw [hp t (by omega) (by omega), in_cons]; exact .inl ⟨by omega, by omega⟩)
        rw [show s.1.toNat + (s.2.toNat - s.1.toNat) = s.2.toNat by omega] at e2
        have e3 := below_cnt (l := l) (a := s.2) h p (h4.mono (by omega)) (by omega) d hm (fun t q1 q2 => by
          rw [hp t (by omega) q2, in_cons]
          constructor
          · rintro (q | q)
            · omega
            · exact q
          · exact .inr)
        rw [e3, e2, e1, below_cons]; omega
theorem below_canon (p : Int → Prop) (h : Nat) (hh : h ≤ 32054400) : below (canon p) h = cnt p h := by
  have := below_cnt (l := canon p) (a := 0) h p (canon_plain p) (by omega) (by omega) hh (fun t a b => by rw [canon_in]; exact ⟨fun q => ⟨by omega, by omega, q⟩, fun q => q.2.2⟩)
  rw [this]; simp [cnt]
/-- How many seconds a set has. -/
noncomputable def sz (p : Int → Prop) : Int := cnt p 32054400
theorem szL_canon (p : Int → Prop) : szL (canon p) = sz p := by
  rw [← below_top (h := ((32054400 : Nat) : Int)) (canon_plain p) (by omega), below_canon p _ (Nat.le_refl _)]; rfl
theorem sz_congr {p q : Int → Prop} (h : ∀ t, 0 ≤ t → t < 32054400 → (p t ↔ q t)) : sz p = sz q := cnt_congr (fun t a b => h t a (by omega))
theorem sz_or {p q r : Int → Prop} (h : ∀ t, 0 ≤ t → t < 32054400 → (r t ↔ p t ∨ q t) ∧ ¬ (p t ∧ q t)) : sz r = sz p + sz q := cnt_or (fun t a b => h t a (by omega))

theorem plain_len : ∀ {l : List (Int × Int)} {a : Int}, PlainFrom a l → a ≤ 32054401 → (l.length : Int) ≤ 32054401 - a
  | [], a, _, h => by simp; omega
  | s :: l, a, ⟨h1, h2, h3, h4⟩, h => by
    have := plain_len h4 (by omega)
    simp; omega
theorem canon_len (p : Int → Prop) : (canon p).length ≤ 32054401 := by have := plain_len (canon_plain p) (by omega); omega
end Go.Proofs.Ytbijaaglmhoopaa

namespace Go.Proofs.Ytbijaaglmhoopaa
set_option linter.unusedVariables false
set_option linter.unusedSimpArgs false

def timeP (t : Int) : Int := min (max t 0) 32054400
theorem time_bd (t : Int) : 0 ≤ timeP t ∧ timeP t ≤ 32054400 := by unfold timeP; omega
def roundP (t u : Int) : Int :=
  if u < 1 then timeP t else if u - timeP t % u ≤ timeP t % u then min (timeP t - timeP t % u + min u 100000000) 32054400 else timeP t - timeP t % u
/-! ### Rounding -/
theorem round_div {n u : Int} (h : 1 ≤ u) : n % u = n - u * (n / u) ∧ 0 ≤ n % u ∧ n % u < u := by
  have h1 := Int.emod_def n u
  have h2 := Int.emod_nonneg n (show u ≠ 0 by omega)
  have h3 := Int.emod_lt_of_pos n (show 0 < u by omega)
  exact ⟨h1, h2, h3⟩
/-! ### Days -/
/-! ### Rising lists -/
end Go.Proofs.Ytbijaaglmhoopaa
