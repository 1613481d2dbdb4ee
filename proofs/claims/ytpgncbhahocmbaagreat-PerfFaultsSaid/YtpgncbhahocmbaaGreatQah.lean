/-
  What event.own tells of a kind: pointers to that kind's own numbers.
  event.fair: whether an event is fair.
  event.Check: whether an event may be in a setup.
-/
import Derived.Test.YtpgncbhahocmbaaGreatQag
import Derived.Test.YtpgncbhahocmbaaGreatQaa
import Derived.Laws.Cover1
import Derived.OpenShut
import Derived.IntWalk
import Derived.Test.YtpgncbhahocmbaaGreatQab
import Derived.RegionTactic
namespace Go.Proofs.YtpgncbhahocmbaaGreat
open Go.RowKit
set_option linter.unusedVariables false
set_option linter.unusedSimpArgs false

/-- Where a kind's own numbers stand. -/
def ownL (k : Int) : List Nat := if k = 3 then [4, 5, 6, 7, 8, 9] else if k = 4 then [10] else []
def knownK (k : Int) : Bool := decide (1 ≤ k ∧ k ≤ 7)
section
variable {w w' : World} {A : Option Addr} {g : Nat} {L : List Nat}
/-- .. and lies at B or behind. -/
def EPtrsN (B : Nat) (w : World) (A : Option Addr) (g : Nat) (L : List Nat) : Prop := ∀ k, k < L.length → ∃ b off, A = some ⟨b, off, none⟩ ∧ B ≤ b ∧ b < w.heap.size ∧ w.cell? ⟨b, off + k, none⟩ = some (ptrV g (L.getD k 0))
theorem EPtrsN.keep {B : Nat} (h : EPtrsN B w A g L) (hs : w.heap.size ≤ w'.heap.size) (hk : ∀ p : Addr, B ≤ p.block → p.block < w.heap.size → w'.cell? p = w.cell? p) : EPtrsN B w' A g L := by
  intro k hl
  obtain ⟨b, off, e, hB, hlt, hc⟩ := h k hl
  exact ⟨b, off, e, hB, by omega, (hk _ hB hlt).trans hc⟩
theorem EPtrsN.below {B : Nat} (h : EPtrsN B w A g L) (hb : Below w.heap.size w w') : EPtrsN B w' A g L := h.keep hb.size fun _ _ hp => hb.cell hp
theorem EPtrsN.drew {B : Nat} (h : EPtrsN B w A g L) : EPtrsN B w.drew A g L := h
end
theorem ptrs_of_has {w : World} {B p g : Nat} {L : List Nat} (h : Has w p ((L.map (ptrV g)).toArray)) (hp : B ≤ p) : EPtrsN B w (some ⟨p, 0, none⟩) g L := by
  intro k hk
  refine ⟨p, 0, rfl, hp, h.size, ?_⟩
  rw [Nat.zero_add]
  exact h.cell k (by simp [List.getD, hk])
theorem ptrs_nil (B : Nat) (w : World) (A : Option Addr) (g : Nat) : EPtrsN B w A g [] := fun k hk => by simp at hk
/-- What 'own(&e)[k]' reads. -/
def OwnAt (W : World) (g : Nat) (e : Ending) (w : World) : Prop :=
  ∃ m, e = .returned (.map (some m)) ∧ Below W.heap.size W w ∧ ∀ k : Int, (-9223372036854775808 ≤ k ∧ k ≤ 9223372036854775807) → ∃ A n c, (ownL k).length = n ∧ n ≤ 6 ∧ n ≤ c ∧ c ≤ 6 ∧ EPtrsN W.heap.size w A g (ownL k) ∧
    (Instr.lookup 117 (.map (some m)) (.int .i64 k) true).run Tryz.prog w = .ok (.tuple #[.slice A n c, .bool (knownK k)]) w ∧ (Instr.lookup 117 (.map (some m)) (.int .i64 k) false).run Tryz.prog w = .ok (.slice A n c) w
theorem own_at {W : World} {g : Nat} {e : Ending} {w : World} (h : OwnMap W g e w) : OwnAt W g e w := by
  obtain ⟨m, n, p, q, rfl, hb, hm, hp, hq, hP, hQ, hM⟩ := h
  refine ⟨m, rfl, hb, fun k hk => ?_⟩
  obtain ⟨h1, h2⟩ := hM.look (e := 115) Tryz.underlying117 (Tryz.zeroValue115 w) hk
  by_cases k3 : k = 3
  · subst k3
    exact ⟨_, 6, 6, rfl, by omega, by omega, by omega, ptrs_of_has (by exact hP) hp, h1, h2⟩
  · by_cases k4 : k = 4
    · subst k4
      exact ⟨_, 1, 1, rfl, by omega, by omega, by omega, ptrs_of_has (by exact hQ) hq, h1, h2⟩
    · have e0 : ownL k = [] := by simp [ownL, k3, k4]
      refine ⟨none, 0, 0, by rw [e0]; rfl, by omega, by omega, by omega, by rw [e0]; exact ptrs_nil _ _ _ _, ?_, ?_⟩
      · rw [h1]
        by_cases hkn : 1 ≤ k ∧ k ≤ 7
        · have hc : k = 1 ∨ k = 2 ∨ k = 5 ∨ k = 6 ∨ k = 7 := by omega
          rcases hc with rfl | rfl | rfl | rfl | rfl <;> rfl
        · have n1 : k ≠ 1 := by omega
          have n2 : k ≠ 2 := by omega
          have n5 : k ≠ 5 := by omega
          have n6 : k ≠ 6 := by omega
          have n7 : k ≠ 7 := by omega
          simp [mapF, n1, n2, n5, n6, n7, k3, k4, toldV, knownK, hkn]
      · rw [h2]
        by_cases hkn : 1 ≤ k ∧ k ≤ 7
        · have hc : k = 1 ∨ k = 2 ∨ k = 5 ∨ k = 6 ∨ k = 7 := by omega
          rcases hc with rfl | rfl | rfl | rfl | rfl <;> rfl
        · have n1 : k ≠ 1 := by omega
          have n2 : k ≠ 2 := by omega
          have n5 : k ≠ 5 := by omega
          have n6 : k ≠ 6 := by omega
          have n7 : k ≠ 7 := by omega
          simp [mapF, n1, n2, n5, n6, n7, k3, k4, toldV]
theorem own_c (g : Nat) (W : World) : Calls Tryz.prog 86 #[.pointer (some ⟨g, 0, none⟩)] W (OwnAt W g) := (own_any g W).mono fun _ _ h => own_at h

/-! ### an event's numbers as a list -/
def evL (e : EvP) : List Int := [e.id, e.wk, e.tm, e.kd, e.fr, e.to, e.el, e.un, e.cl, e.ge, e.cd]
theorem evC_L (e : EvP) : evC e = (ints .i64 (evL e)).toArray := rfl
def evOf (l : List Int) : EvP := ⟨l.getD 0 0, l.getD 1 0, l.getD 2 0, l.getD 3 0, l.getD 4 0, l.getD 5 0, l.getD 6 0, l.getD 7 0, l.getD 8 0, l.getD 9 0, l.getD 10 0⟩
theorem evL_Of {l : List Int} (h : l.length = 11) : evL (evOf l) = l := by
  match l, h with
  | [a, b, c, d, e, f, g, i, j, k, m], _ => rfl
theorem ownL_lt {k : Int} {o : Nat} (h : o ∈ ownL k) : 4 ≤ o ∧ o < 11 := by
  unfold ownL at h
  split at h
  · simp at h; omega
  · split at h
    · simp at h; omega
    · simp at h
theorem ownL_nodup (k : Int) : (ownL k).Nodup := by
  unfold ownL
  split
  · decide
  · split <;> decide
end Go.Proofs.YtpgncbhahocmbaaGreat

namespace Go.Proofs.YtpgncbhahocmbaaGreat
open Go.RowKit
set_option linter.unusedVariables false
set_option linter.unusedSimpArgs false

theorem fair_iff0 (e : EvP) : e.Fair ↔ ((0 ≤ e.id ∧ e.id ≤ 100000) ∧ (0 ≤ e.wk ∧ e.wk ≤ 9223372036854775807) ∧ (0 ≤ e.tm ∧ e.tm ≤ 31449599) ∧ (1 ≤ e.kd ∧ e.kd ≤ 7) ∧ (0 ≤ e.fr ∧ e.fr ≤ 9223372036854775807) ∧ (0 ≤ e.to ∧ e.to ≤ 9223372036854775807) ∧ (0 ≤ e.el ∧ e.el ≤ 9223372036854775807) ∧
    (0 ≤ e.un ∧ e.un ≤ 9223372036854775807) ∧ (0 ≤ e.cl ∧ e.cl ≤ 9223372036854775807) ∧ (0 ≤ e.ge ∧ e.ge ≤ 9223372036854775807) ∧ (0 ≤ e.cd ∧ e.cd ≤ 9223372036854775807) ∧ (e.kd = 3 ∨ (e.fr = 0 ∧ e.to = 0 ∧ e.el = 0 ∧ e.un = 0 ∧ e.cl = 0 ∧ e.ge = 0)) ∧ (e.kd = 4 ∨ e.cd = 0)) :=
  ⟨fun h => ⟨h.id, h.wk, h.tm, h.kd, h.fr, h.to, h.el, h.un, h.cl, h.ge, h.cd, h.task, h.code⟩, fun ⟨a, b, c, d, e, f, g, i, j, k, l, m, n⟩ => ⟨a, b, c, d, e, f, g, i, j, k, l, m, n⟩⟩
instance (e : EvP) : Decidable e.Fair := decidable_of_iff' _ (fair_iff0 e)
/-- What every event has, is as it must be. -/
def EvP.Base (e : EvP) : Prop := 0 ≤ e.id ∧ e.id ≤ 100000 ∧ 0 ≤ e.wk ∧ 0 ≤ e.tm ∧ e.tm ≤ 31449599
instance (e : EvP) : Decidable e.Base := by unfold EvP.Base; infer_instance
/-- Some numbers struck. -/
def zeroL (zs : List Int) (L : List Nat) : List Int := L.foldl (fun z o => z.set o 0) zs
theorem zeroL_snoc (zs : List Int) (L : List Nat) (k : Nat) (h : k < L.length) : zeroL zs (L.take (k + 1)) = (zeroL zs (L.take k)).set (L.getD k 0) 0 := by
  rw [List.take_succ_eq_append_getElem h, zeroL, List.foldl_append]
  simp [zeroL, List.getD, h]
theorem zeroL_len : ∀ (L : List Nat) (zs : List Int), (zeroL zs L).length = zs.length
  | [], zs => rfl
  | o :: L, zs => by
    show (zeroL (zs.set o 0) L).length = _
    rw [zeroL_len L]
    simp
theorem zeroL_far : ∀ (L : List Nat) (zs : List Int) (o : Nat), o ∉ L → (zeroL zs L)[o]? = zs[o]?
  | [], zs, o, _ => rfl
  | p :: L, zs, o, h => by
    show (zeroL (zs.set p 0) L)[o]? = _
    rw [zeroL_far L _ o (fun e => h (by simp [e])), List.getElem?_set_ne (fun e => h (by simp [e]))]
/-- An event without the numbers that all have. -/
def left0 (e : EvP) : List Int := [0, 0, 0, 0, e.fr, e.to, e.el, e.un, e.cl, e.ge, e.cd]
theorem left0_at (e : EvP) {o : Nat} (h : 4 ≤ o ∧ o < 11) : (left0 e)[o]? = some ((evL e).getD o 0) := by
  obtain ⟨h1, h2⟩ := h
  match o, h1, h2 with
  | 4, _, _ | 5, _, _ | 6, _, _ | 7, _, _ | 8, _, _ | 9, _, _ | 10, _, _ => rfl
def zeros11 : List Int := [0, 0, 0, 0, 0, 0, 0, 0, 0, 0, 0]
theorem fair_iff {e : EvP} (h : e.In) : e.Fair ↔ e.Base ∧ (∀ o ∈ ownL e.kd, 0 ≤ (evL e).getD o 0) ∧ knownK e.kd = true ∧ zeroL (left0 e) (ownL e.kd) = zeros11 := by
  obtain ⟨h1, h2, h3, h4, h5, h6, h7, h8, h9, h10, h11⟩ := h
  rw [fair_iff0]
  obtain ⟨i, w, t, k, a, b, c, d, g, j, m⟩ := e
  simp only [EvP.Base, knownK, decide_eq_true_eq] at *
  by_cases k3 : k = 3
  · subst k3
    simp [ownL, evL, left0, zeroL, zeros11]
    omega
  · by_cases k4 : k = 4
    · subst k4
      simp [ownL, evL, left0, zeroL, zeros11]
      omega
    · simp [ownL, evL, left0, zeroL, zeros11, k3, k4]
      omega
theorem fair_bad (e : EvP) (w : World) (hi : e.In) (h : ¬ e.Base) :
    Calls Tryz.prog 45 #[.agg (evC e)] w fun r w' => r = .returned (.bool false) ∧ Below w.heap.size w w' := by
  have c : e.id < 0 ∨ (0 ≤ e.id ∧ 100000 < e.id) ∨ ((0 ≤ e.id ∧ e.id ≤ 100000) ∧ e.wk < 0) ∨ ((0 ≤ e.id ∧ e.id ≤ 100000) ∧ 0 ≤ e.wk ∧ e.tm < 0) ∨ ((0 ≤ e.id ∧ e.id ≤ 100000) ∧ 0 ≤ e.wk ∧ 0 ≤ e.tm ∧ 31449599 < e.tm) := by
    unfold EvP.Base at h
    omega
  clear hi h
  obtain ⟨i, w, t, k, a, b, c, d, g, j, m⟩ := e
  simp only at c
  simp only [evC]
  rcases c with h | ⟨h1, h⟩ | ⟨⟨h1, h2⟩, h⟩ | ⟨⟨h1, h2⟩, h3, h⟩ | ⟨⟨h1, h2⟩, h3, h4, h⟩
  all_goals
    go_enter Tryz.func45, Tryz.ntmps45
    go_wp2
    go_ret
    exact ⟨rfl, by (repeat' (first | with_reducible exact Below.refl _ _ | with_reducible assumption | with_reducible refine bel_alloc ?_ _ | with_reducible refine bel_set ?_ ?_ _ | with_reducible refine below_drewN ?_ _ | with_reducible refine below_drew ?_ | (simp; done) | (simp; omega) | omega))⟩
theorem zero_get {L : List Nat} (zs : List Int) {k : Nat} (h : k < L.length) (hn : L.Nodup) : (zeroL zs (L.take k))[L.getD k 0]? = zs[L.getD k 0]? := by
  refine zeroL_far _ _ _ (fun hm => ?_)
  have e : L.getD k 0 = L[k] := by simp [List.getD, h]
  rw [e] at hm
  obtain ⟨j, hj, hje⟩ := List.getElem_of_mem hm
  rw [List.length_take] at hj
  rw [List.getElem_take] at hje
  have := (List.getElem_inj hn).1 hje
  omega
set_option maxRecDepth 20000 in
set_option maxHeartbeats 1000000 in
theorem fair_on (e : EvP) (W : World) (hi : e.In) (h : e.Base) :
    Calls Tryz.prog 45 #[.agg (evC e)] W fun r w' => r = .returned (.bool (decide e.Fair)) ∧ Below W.heap.size W w' := by
  obtain ⟨h1, h2, h3, h4, h5⟩ := id h
  have HF : Hid (decide e.Fair = (decide (∀ o ∈ ownL e.kd, 0 ≤ (evL e).getD o 0) && (knownK e.kd && decide (zeroL (left0 e) (ownL e.kd) = zeros11)))) := by
    show _ = _
    rw [Bool.eq_iff_iff]
    simp only [decide_eq_true_eq, Bool.and_eq_true, fair_iff hi]
    exact ⟨fun ⟨_, a, b, c⟩ => ⟨a, b, c⟩, fun ⟨a, b, c⟩ => ⟨h, a, b, c⟩⟩
  have HK := Lib.hid hi.kd
  have HI := Lib.hid hi
  have hC1 := evC_size e
  have HC := Lib.hid (evC_one e)
  clear h hi
  generalize hcs : evC e = cs at *
  have HCS := Lib.hid hcs
  clear hcs
  have c0 : cs[0]? = some (.int .i64 e.id) := by rw [← HCS.out]; rfl
  have c1 : cs[1]? = some (.int .i64 e.wk) := by rw [← HCS.out]; rfl
  have c2 : cs[2]? = some (.int .i64 e.tm) := by rw [← HCS.out]; rfl
  have c3 : cs[3]? = some (.int .i64 e.kd) := by rw [← HCS.out]; rfl
  have HZ := Lib.hid hC1
  clear hC1
  go_enter Tryz.func45, Tryz.ntmps45
  go_wp2_with (first | (refine wpList_load_e (by rfl) _ rfl W.heap.size rfl cs (Has.new W _ cs rfl) HZ.out ?_) | (refine wpList_laid_e cs 3 _ _ rfl rfl rfl rfl rfl rfl rfl rfl HZ.out HC.out ?_))
  obtain ⟨w1, hw1⟩ : ∃ w1, w1 = (W.alloc (.cells cs 43)).alloc (.cells ((((cs.setIfInBounds 0 (.int .i64 0)).setIfInBounds 1 (.int .i64 0)).setIfInBounds 2 (.int .i64 0)).setIfInBounds 3 (.int .i64 0)) 43) := ⟨_, rfl⟩
  rw [← hw1]
  have HB : Hid (Has w1 W.heap.size cs) := by rw [hw1]; exact (Has.new W _ cs rfl).alloc _
  have HG : Hid (Has w1 (W.heap.size + 1) (ints .i64 (left0 e)).toArray) := by
    rw [hw1]
    have : (ints .i64 (left0 e)).toArray = ((((cs.setIfInBounds 0 (.int .i64 0)).setIfInBounds 1 (.int .i64 0)).setIfInBounds 2 (.int .i64 0)).setIfInBounds 3 (.int .i64 0)) := by rw [← HCS.out]; rfl
    rw [this]
    exact Has.new _ _ _ (by simp)
  have HW : Hid (Below W.heap.size W w1) := by rw [hw1]; exact bel_alloc (bel_alloc (Below.refl _ _) _) _
  clear hw1
  refine wp_region_noPanic ?_
  refine wp_region_held_drew (S := fun w' => Below w1.heap.size w1 w') (by kernel_rfl) (below_drew (Below.refl _ _)) (fun hHeld => ?_)
  refine wpAnyH_take (i := 1) (oi := ⟨some 38, _, _, _, _, _⟩) (v := ?_) rfl (by kernel_rfl) (by kernel_rfl) (by kernel_rfl) (fun _ _ _ h => h) (Or.inl ⟨by rfl, ?_⟩) hHeld ?_
  rotate_left
  · intro ww hSw
    (try dsimp only at hSw)
    go_simp
    (try with_reducible rfl)
  simp only [Act.put, List.setIfInBounds_toArray, List.set_cons_zero, List.set_cons_succ]
  refine wpAnyH_take (i := 2) (oi := ⟨some 39, _, _, _, _, _⟩) (v := .int .i64 e.kd) rfl (by kernel_rfl) (by kernel_rfl) (by kernel_rfl) (fun _ _ _ h => h) (Or.inl ⟨by rfl, ?_⟩) hHeld ?_
  · intro ww hSw
    (try dsimp only at hSw)
    have hc := (hSw.cell (p := ⟨W.heap.size, 3, none⟩) HB.out.size).trans (HB.out.cell 3 c3)
    go_simp
  simp only [Act.put, List.setIfInBounds_toArray, List.set_cons_zero, List.set_cons_succ]
  refine wpAnyH_ready (rs := [0]) (by kernel_rfl) (by simp) ?_
  refine AllReadyH.cons (o := ⟨some 37, _, _, _, _, _⟩) rfl (fun K hK => ?_) AllReadyH.nil
  go_simp
  go_at_call 86
  refine (own_c _ _).mono ?_
  rintro e_r w2 ⟨m, rfl, hbn, hL⟩
  have hbw2 : Below w1.heap.size w1 w2 := bel_on (show Below w1.heap.size w1 _ by (repeat' (first | with_reducible exact Below.refl _ _ | with_reducible assumption | with_reducible refine bel_alloc ?_ _ | with_reducible refine bel_set ?_ ?_ _ | with_reducible refine below_drewN ?_ _ | with_reducible refine below_drew ?_ | (simp; done) | (simp; omega) | omega))) hbn
  clear hbn
  go_wp2_with fail
  refine hK.out _ _ ?_ (fun hHeld => ?_)
  · (try dsimp only)
    exact hbw2
  clear hK K
  (try simp only [Act.put, List.setIfInBounds_toArray, List.set_cons_zero, List.set_cons_succ])
  obtain ⟨A, n, c, hn, hn6, hnc, hc6, hP, hq1, hq2⟩ := hL e.kd HK.out
  clear hL hq2
  refine wpAnyH_ready (rs := [3]) (by kernel_rfl) (by simp) ?_
  refine AllReadyH.cons (o := ⟨some 40, _, _, _, _, _⟩) rfl (fun K hK => ?_) AllReadyH.nil
  go_simp
  refine hK.out _ _ ?_ (fun hHeld => ?_)
  · (try dsimp only)
    exact hbw2
  clear hK K
  (try simp only [Act.put, List.setIfInBounds_toArray, List.set_cons_zero, List.set_cons_succ])
  refine wpAnyH_take (i := 4) (oi := ⟨some 36, _, _, _, _, _⟩) (v := ?_) rfl (by kernel_rfl) (by kernel_rfl) (by kernel_rfl) (fun _ _ _ h => h) (Or.inl ⟨by rfl, ?_⟩) hHeld ?_
  rotate_left
  · intro ww hSw
    (try dsimp only at hSw)
    go_simp
    (try with_reducible rfl)
  simp only [Act.put, List.setIfInBounds_toArray, List.set_cons_zero, List.set_cons_succ]
  refine wpAnyH_take (i := 5) (oi := ⟨some 41, _, _, _, _, _⟩) (v := ?_) rfl (by kernel_rfl) (by kernel_rfl) (by kernel_rfl) (fun _ _ _ h => h) (Or.inl ⟨by rfl, ?_⟩) hHeld ?_
  rotate_left
  · intro ww hSw
    (try dsimp only at hSw)
    go_simp
    (try with_reducible rfl)
  simp only [Act.put, List.setIfInBounds_toArray, List.set_cons_zero, List.set_cons_succ]
  refine wpAnyH_take (i := 6) (oi := ⟨some 42, _, _, _, _, _⟩) (v := ?_) rfl (by kernel_rfl) (by kernel_rfl) (by kernel_rfl) (fun _ _ _ h => h) (Or.inl ⟨by rfl, ?_⟩) hHeld ?_
  rotate_left
  · intro ww hSw
    (try dsimp only at hSw)
    go_simp
    (try with_reducible rfl)
  simp only [Act.put, List.setIfInBounds_toArray, List.set_cons_zero, List.set_cons_succ]
  refine wpAnyH_take (i := 7) (oi := ⟨some 4, _, _, _, _, _⟩) (v := ?_) rfl (by kernel_rfl) (by kernel_rfl) (by kernel_rfl) (fun _ _ _ h => h) (Or.inl ⟨by rfl, ?_⟩) hHeld ?_
  rotate_left
  · intro ww hSw
    (try dsimp only at hSw)
    go_simp
    (try with_reducible rfl)
  simp only [Act.put, List.setIfInBounds_toArray, List.set_cons_zero, List.set_cons_succ]
  refine wpAnyH_take (i := 8) (oi := ⟨some 5, _, _, _, _, _⟩) (v := ?_) rfl (by kernel_rfl) (by kernel_rfl) (by kernel_rfl) (fun _ _ _ h => h) (Or.inl ⟨by rfl, ?_⟩) hHeld ?_
  rotate_left
  · intro ww hSw
    (try dsimp only at hSw)
    go_simp
    (try with_reducible rfl)
  simp only [Act.put, List.setIfInBounds_toArray, List.set_cons_zero, List.set_cons_succ]
  refine wpAnyH_done (by kernel_rfl) ?_ _
  refine NoPanic.normal ?_
  have hG := HG.out.below hbw2
  have hbW := bel_on HW.out hbw2
  have hgB : W.heap.size + 1 < w1.drew.heap.size := HG.out.size
  generalize w1.drew.heap.size = B at *
  clear HB HG HW hHeld hbw2 hq1 c0 c1 c2 c3 HC
  generalize hg : W.heap.size + 1 = g at *
  have hWg : W.heap.size ≤ g := by omega
  clear hg
  have HL := Lib.hid hn
  have HKN : Hid (∀ o ∈ ownL e.kd, 4 ≤ o ∧ o < 11) := Lib.hid (fun o ho => ownL_lt ho)
  have HND := Lib.hid (ownL_nodup e.kd)
  have HPP := Lib.hid hP
  have HGG := Lib.hid hG
  clear hn hP hG h1 h2 h3 h4 h5
  generalize knownK e.kd = kn at *
  generalize ownL e.kd = L at *
  go_wp2_with fail
  go_loopw [45] (fun i wr => ∃ k : Nat, k ≤ n ∧ i = .int .i64 k ∧ Hid (Has wr g (ints .i64 (zeroL (left0 e) (L.take k))).toArray) ∧ Hid (EPtrsN B wr A g L) ∧ Below W.heap.size W wr ∧ Hid (∀ o ∈ L.take k, 0 ≤ (evL e).getD o 0)) (fun i _ => n - (intOf i).toNat)
  case atStart => exact ⟨0, by omega, rfl, HGG, HPP, hbW, Lib.hid (fun o ho => by simp at ho)⟩
  case round =>
    clear HGG HPP hbW
    obtain ⟨k, hk, rfl, hG, hP, hb, hpos⟩ := hrel
    by_cases hlt : k < n
    · have hkL : k < L.length := by rw [HL.out]; exact hlt
      obtain ⟨b, off, rfl, hBb, hbs, hc⟩ := hP.out k hkL
      have hLk : L.getD k 0 ∈ L := by simp [List.getD, hkL]
      have hget := zero_get (left0 e) hkL HND.out
      rw [left0_at e (HKN.out _ hLk)] at hget
      have hsn := zeroL_snoc (left0 e) L k hkL
      have htk : L.take (k + 1) = L.take k ++ [L.getD k 0] := by rw [List.take_succ_eq_append_getElem hkL]; simp [List.getD, hkL]
      have HSN := Lib.hid hsn
      have HTK := Lib.hid htk
      have HLK := Lib.hid hLk
      clear hsn htk hLk
      generalize L.getD k 0 = o at *
      have hcell := hG.out.cell o (v := .int .i64 ((evL e).getD o 0)) (by simp [ints, hget])
      have hfro := hG.out.frozen o
      clear hget
      unfold ptrV at hc
      have hgb : g ≠ b := by omega
      obtain ⟨z, hze⟩ : ∃ z, (evL e).getD o 0 = z := ⟨_, rfl⟩
      rw [hze] at hcell
      have HZE := Lib.hid hze
      clear hze
      by_cases hz : z < 0
      · have hf : decide e.Fair = false := by
          rw [HF.out, Bool.and_eq_false_iff]
          exact .inl (decide_eq_false (fun h => by have := h o HLK.out; rw [HZE.out] at this; omega))
        have HFF := Lib.hid hf
        clear hf
        go_wp2
        go_ret
        exact ⟨ret_bool HFF.out.symm, hb⟩
      · go_wp2
        go_roundw
        case rel =>
          refine ⟨k + 1, by omega, by go_num, ?_, ?_, ?_, ?_⟩
          · rw [HSN.out]
            have := hG.out.set o (.int .i64 0)
            refine Lib.hid ?_
            have e1 : (ints .i64 ((zeroL (left0 e) (L.take k)).set o 0)).toArray = (ints .i64 (zeroL (left0 e) (L.take k))).toArray.setIfInBounds o (.int .i64 0) := by simp [ints, List.map_set]
            rw [e1]
            exact this
          · exact Lib.hid (hP.out.keep (by simp) (fun p hp _ => World.cell?_setCell_far _ _ _ _ (by show g ≠ p.block; omega)))
          · exact bel_set hb hWg _
          · refine Lib.hid (fun q hq => ?_)
            rw [HTK.out, List.mem_append] at hq
            rcases hq with hq | hq
            · exact hpos.out q hq
            · simp at hq; subst hq; rw [HZE.out]; omega
        case measure => simp [intOf]; omega
    · obtain rfl : k = n := by omega
      have hpos' := hpos.out
      have hG' := hG.out
      rw [show k = L.length from HL.out.symm, List.take_length] at hpos' hG'
      have hfin : decide e.Fair = (kn && decide (zeroL (left0 e) L = zeros11)) := by rw [HF.out, decide_eq_true hpos', Bool.true_and]
      have HFF := Lib.hid hfin
      have hlen : (zeroL (left0 e) L).length = 11 := zeroL_len _ _
      clear hfin hpos' hpos hG hP HKN HND HF HL
      generalize zeroL (left0 e) L = zs at *
      have hx := evL_Of hlen
      have hcs2 : (ints .i64 zs).toArray = evC (evOf zs) := by rw [evC_L, hx]
      rw [hcs2] at hG'
      have hq := fun w => run_ev_eql (evOf zs) EvP.none w
      have hd : decide (evOf zs = EvP.none) = decide (zs = zeros11) := by
        apply decide_eq_decide.2
        constructor
        · intro h; rw [← hx, h]; rfl
        · intro h; rw [h]; rfl
      rw [hd] at hq
      have HQ : Hid (∀ w, (binOp .eql 43 (.agg (evC (evOf zs))) (.agg (evC EvP.none))).run Tryz.prog w = .ok (.bool (decide (zs = zeros11))) w) := hq
      clear hq hd hx hcs2
      generalize decide (zs = zeros11) = eqb at *
      have HG2 := Lib.hid hG'
      have hz2 := evC_size (evOf zs)
      generalize evC (evOf zs) = cs2 at *
      clear hG'
      have HZ2 := Lib.hid hz2
      clear hz2 hlen
      cases kn
      · go_wp2
        go_ret
        exact ⟨ret_bool (by rw [HFF.out]; rfl), hb⟩
      · have hq := HQ.out
        simp only [evC, EvP.none] at hq
        go_wp2_with (first | (refine wpList_load_e (by rfl) _ rfl g rfl cs2 HG2.out HZ2.out ?_))
        go_ret
        exact ⟨ret_bool (by rw [HFF.out]; rfl), hb⟩
theorem fair_any (e : EvP) (W : World) (hi : e.In) :
    Calls Tryz.prog 45 #[.agg (evC e)] W fun r w' => r = .returned (.bool (decide e.Fair)) ∧ Below W.heap.size W w' := by
  by_cases h : e.Base
  · exact fair_on e W hi h
  · rw [decide_eq_false (fun hf => h ((fair_iff hi).1 hf).1)]
    exact fair_bad e W hi h
end Go.Proofs.YtpgncbhahocmbaaGreat

namespace Go.Proofs.YtpgncbhahocmbaaGreat
open Go.RowKit
set_option linter.unusedVariables false
set_option linter.unusedSimpArgs false
set_option maxRecDepth 20000

/-- What Check asks of a setup's cells. -/
structure SetS (cs : Array Value) (pl : Int) (nE nC nG nR : Nat) : Prop where
  size : cs.size = 23
  one : cs.all (·.oneCell') = true
  c0 : cs[0]? = some (.int .i64 pl)
  c4 : ∃ A c, cs[4]? = some (.slice A nE c)
  c5 : ∃ A c, cs[5]? = some (.slice A nC c)
  c6 : ∃ A c, cs[6]? = some (.slice A nG c)
  c18 : ∃ A c, cs[18]? = some (.slice A nR c)
/-- An event may be in a setup with so many of each. -/
def EvP.May (e : EvP) (pl : Int) (nE nC nG nR : Nat) : Prop :=
  e.Fair ∧ e.wk < nR ∧ (e.kd = 3 → e.fr < pl ∧ e.to < pl ∧ e.el < nE ∧ e.cl < nC ∧ e.ge < nG ∧ e.un ≤ 10000) ∧ (e.kd = 4 → e.cd ≤ 99)
instance (e : EvP) (pl : Int) (nE nC nG nR : Nat) : Decidable (e.May pl nE nC nG nR) := by unfold EvP.May; infer_instance
set_option maxHeartbeats 4000000 in
theorem echeck_any (cs : Array Value) (pl : Int) (nE nC nG nR : Nat) (hs : SetS cs pl nE nC nG nR) (e : EvP) (hi : e.In) (W : World) (b : Bool) (hb : decide (e.May pl nE nC nG nR) = b) :
    Calls Tryz.prog 15 #[.agg cs, .agg (evC e)] W fun r w' => r = .returned (.bool b) ∧ Below W.heap.size W w' := by
  obtain ⟨h23, hone, c0, ⟨A4, k4, c4⟩, ⟨A5, k5, c5⟩, ⟨A6, k6, c6⟩, ⟨A18, k18, c18⟩⟩ := hs
  have HF : Hid (∀ w, Calls Tryz.prog 45 #[.agg (evC e)] w fun r w' => r = .returned (.bool (decide e.Fair)) ∧ Below w.heap.size w w') := Lib.hid (fun w => fair_any e w hi)
  have hB : Hid (e.May pl nE nC nG nR ↔ b = true) := Lib.hid (by rw [← hb]; simp)
  obtain ⟨i, w, t, k, a, b1, c, d, g, j, m⟩ := e
  unfold EvP.May at hB
  simp only at hB
  have d1 : (evC ⟨i, w, t, k, a, b1, c, d, g, j, m⟩)[1]? = some (.int .i64 w) := rfl
  have d3 : (evC ⟨i, w, t, k, a, b1, c, d, g, j, m⟩)[3]? = some (.int .i64 k) := rfl
  have d4 : (evC ⟨i, w, t, k, a, b1, c, d, g, j, m⟩)[4]? = some (.int .i64 a) := rfl
  have d5 : (evC ⟨i, w, t, k, a, b1, c, d, g, j, m⟩)[5]? = some (.int .i64 b1) := rfl
  have d6 : (evC ⟨i, w, t, k, a, b1, c, d, g, j, m⟩)[6]? = some (.int .i64 c) := rfl
  have d7 : (evC ⟨i, w, t, k, a, b1, c, d, g, j, m⟩)[7]? = some (.int .i64 d) := rfl
  have d8 : (evC ⟨i, w, t, k, a, b1, c, d, g, j, m⟩)[8]? = some (.int .i64 g) := rfl
  have d9 : (evC ⟨i, w, t, k, a, b1, c, d, g, j, m⟩)[9]? = some (.int .i64 j) := rfl
  have d10 : (evC ⟨i, w, t, k, a, b1, c, d, g, j, m⟩)[10]? = some (.int .i64 m) := rfl
  have hz := evC_size ⟨i, w, t, k, a, b1, c, d, g, j, m⟩
  have ways : Hid (¬ (⟨i, w, t, k, a, b1, c, d, g, j, m⟩ : EvP).Fair ∨ (⟨i, w, t, k, a, b1, c, d, g, j, m⟩ : EvP).Fair) := Lib.hid (by by_cases h : (⟨i, w, t, k, a, b1, c, d, g, j, m⟩ : EvP).Fair; exact .inr h; exact .inl h)
  clear hi hb
  generalize hes : evC ⟨i, w, t, k, a, b1, c, d, g, j, m⟩ = es at *
  clear hes
  have HZ := Lib.hid hz
  have H23 := Lib.hid h23
  have HO := Lib.hid hone
  clear hz h23 hone
  have cell : ∀ (w1 : World), Below (W.heap.size + 1 + 1) ((W.alloc (.cells cs 30)).alloc (.cells es 43)) w1 → Has w1 W.heap.size cs ∧ Has w1 (W.heap.size + 1) es ∧ Below W.heap.size W w1 := fun w1 h => by
    have h' : Below ((W.alloc (.cells cs 30)).alloc (.cells es 43)).heap.size ((W.alloc (.cells cs 30)).alloc (.cells es 43)) w1 := by simpa using h
    exact ⟨((Has.new W _ cs rfl).alloc _).below h', (Has.new _ _ es (by simp)).below h', bel_on (bel_alloc (bel_alloc (Below.refl _ _) _) _) h'⟩
  have CELL := Lib.hid cell
  clear cell
  rcases ways.out with hf | hf
  · rw [decide_eq_false hf] at HF
    have hb : b = false := by
      have := hB.out
      cases b
      · rfl
      · exact absurd (this.2 rfl).1 hf
    subst hb
    clear hB ways hf
    go_enter Tryz.func15, Tryz.ntmps15
    go_wp2_with (refine wpList_load_e (by rfl) _ rfl (W.heap.size + 1) rfl es (Has.new _ _ es (by simp)) HZ.out ?_)
    refine (HF.out _).mono ?_
    rintro r w1 ⟨rfl, b1⟩
    go_wp2
    go_ret
    exact ⟨rfl, (CELL.out w1 (by simpa using b1)).2.2⟩
  · rw [decide_eq_true hf] at HF
    have ways2 : (nR : Int) ≤ w ∨ (w < nR ∧ k ≠ 3 ∧ k ≠ 4) ∨ (w < nR ∧ k = 4 ∧ m ≤ 99) ∨ (w < nR ∧ k = 4 ∧ 99 < m) ∨ (w < nR ∧ k = 3 ∧ pl ≤ a) ∨ (w < nR ∧ k = 3 ∧ a < pl ∧ pl ≤ b1) ∨ (w < nR ∧ k = 3 ∧ a < pl ∧ b1 < pl ∧ nE ≤ c) ∨
      (w < nR ∧ k = 3 ∧ a < pl ∧ b1 < pl ∧ c < nE ∧ nC ≤ g) ∨ (w < nR ∧ k = 3 ∧ a < pl ∧ b1 < pl ∧ c < nE ∧ g < nC ∧ nG ≤ j) ∨ (w < nR ∧ k = 3 ∧ a < pl ∧ b1 < pl ∧ c < nE ∧ g < nC ∧ j < nG ∧ 10000 < d) ∨ (w < nR ∧ k = 3 ∧ a < pl ∧ b1 < pl ∧ c < nE ∧ g < nC ∧ j < nG ∧ d ≤ 10000) := by
      by_cases q1 : (nR : Int) ≤ w
      · exact .inl q1
      have q1' : w < nR := by omega
      by_cases q2 : k = 3
      · by_cases q3 : a < pl
        · by_cases q4 : b1 < pl
          · by_cases q5 : c < nE
            · by_cases q6 : g < nC
              · by_cases q7 : j < nG
                · by_cases q8 : d ≤ 10000
                  · exact .inr (.inr (.inr (.inr (.inr (.inr (.inr (.inr (.inr (.inr ⟨q1', q2, q3, q4, q5, q6, q7, q8⟩)))))))))
                  · exact .inr (.inr (.inr (.inr (.inr (.inr (.inr (.inr (.inr (.inl ⟨q1', q2, q3, q4, q5, q6, q7, by omega⟩)))))))))
                · exact .inr (.inr (.inr (.inr (.inr (.inr (.inr (.inr (.inl ⟨q1', q2, q3, q4, q5, q6, by omega⟩))))))))
              · exact .inr (.inr (.inr (.inr (.inr (.inr (.inr (.inl ⟨q1', q2, q3, q4, q5, by omega⟩)))))))
            · exact .inr (.inr (.inr (.inr (.inr (.inr (.inl ⟨q1', q2, q3, q4, by omega⟩))))))
          · exact .inr (.inr (.inr (.inr (.inr (.inl ⟨q1', q2, q3, by omega⟩)))))
        · exact .inr (.inr (.inr (.inr (.inl ⟨q1', q2, by omega⟩))))
      · by_cases q3 : k = 4
        · by_cases q4 : m ≤ 99
          · exact .inr (.inr (.inl ⟨q1', q3, q4⟩))
          · exact .inr (.inr (.inr (.inl ⟨q1', q3, by omega⟩)))
        · exact .inr (.inl ⟨q1', q2, q3⟩)
    have H9 : Hid (((w < nR ∧ (k = 3 → a < pl ∧ b1 < pl ∧ c < nE ∧ g < nC ∧ j < nG ∧ d ≤ 10000)) ∧ (k = 4 → m ≤ 99)) ↔ b = true) := Lib.hid ⟨fun h => hB.out.1 ⟨hf, h.1.1, h.1.2, h.2⟩, fun h => ⟨⟨(hB.out.2 h).2.1, (hB.out.2 h).2.2.1⟩, (hB.out.2 h).2.2.2⟩⟩
    clear hB hf ways
    rcases ways2 with h1 | ⟨h1, h2, h3⟩ | ⟨h1, rfl, h3⟩ | ⟨h1, rfl, h3⟩ | ⟨h1, rfl, h3⟩ | ⟨h1, rfl, h3, h4⟩ | ⟨h1, rfl, h3, h4, h5⟩ | ⟨h1, rfl, h3, h4, h5, h6⟩ | ⟨h1, rfl, h3, h4, h5, h6, h7⟩ | ⟨h1, rfl, h3, h4, h5, h6, h7, h8⟩ | ⟨h1, rfl, h3, h4, h5, h6, h7, h8⟩
    · skip
      obtain rfl : b = false := by
        have this := H9.out
        cases b
        · rfl
        · exfalso
          have h := this.2 rfl
          have := h.1.1
          omega
      clear H9
      go_enter Tryz.func15, Tryz.ntmps15
      go_wp2_with (refine wpList_load_e (by rfl) _ rfl (W.heap.size + 1) rfl es (Has.new _ _ es (by simp)) HZ.out ?_)
      refine (HF.out _).mono ?_
      rintro r w1 ⟨rfl, hb1⟩
      obtain ⟨HS, HE, hbF⟩ := CELL.out w1 (by simpa using hb1)
      have s0 := HS.cell 0 c0
      have s4 := HS.cell 4 c4
      have s5 := HS.cell 5 c5
      have s6 := HS.cell 6 c6
      have s18 := HS.cell 18 c18
      have e1 := HE.cell 1 d1
      have e3 := HE.cell 3 d3
      have e4 := HE.cell 4 d4
      have e5 := HE.cell 5 d5
      have e6 := HE.cell 6 d6
      have e7 := HE.cell 7 d7
      have e8 := HE.cell 8 d8
      have e9 := HE.cell 9 d9
      have e10 := HE.cell 10 d10
      have z1 := HS.size
      have z2 := HE.size
      have HBF := Lib.hid hbF
      clear HS HE hb1 hbF c0 c4 c5 c6 c18 d1 d3 d4 d5 d6 d7 d8 d9 d10 HF CELL HZ H23 HO
      go_wp2
      go_ret
      refine ⟨?_, HBF.out⟩
      first
      | rfl
      | exact ret_bool (decide_eq_false (by omega))
      | exact ret_bool (decide_eq_true (by omega))
    · skip
      obtain rfl : b = true := H9.out.1 (⟨⟨h1, fun e => absurd e h2⟩, fun e => absurd e h3⟩)
      clear H9
      go_enter Tryz.func15, Tryz.ntmps15
      go_wp2_with (refine wpList_load_e (by rfl) _ rfl (W.heap.size + 1) rfl es (Has.new _ _ es (by simp)) HZ.out ?_)
      refine (HF.out _).mono ?_
      rintro r w1 ⟨rfl, hb1⟩
      obtain ⟨HS, HE, hbF⟩ := CELL.out w1 (by simpa using hb1)
      have s0 := HS.cell 0 c0
      have s4 := HS.cell 4 c4
      have s5 := HS.cell 5 c5
      have s6 := HS.cell 6 c6
      have s18 := HS.cell 18 c18
      have e1 := HE.cell 1 d1
      have e3 := HE.cell 3 d3
      have e4 := HE.cell 4 d4
      have e5 := HE.cell 5 d5
      have e6 := HE.cell 6 d6
      have e7 := HE.cell 7 d7
      have e8 := HE.cell 8 d8
      have e9 := HE.cell 9 d9
      have e10 := HE.cell 10 d10
      have z1 := HS.size
      have z2 := HE.size
      have HBF := Lib.hid hbF
      clear HS HE hb1 hbF c0 c4 c5 c6 c18 d1 d3 d4 d5 d6 d7 d8 d9 d10 HF CELL HZ H23 HO
      go_wp2
      go_ret
      refine ⟨?_, HBF.out⟩
      first
      | rfl
      | exact ret_bool (decide_eq_false (by omega))
      | exact ret_bool (decide_eq_true (by omega))
    · skip
      obtain rfl : b = true := H9.out.1 (⟨⟨h1, fun e => by omega⟩, fun _ => h3⟩)
      clear H9
      go_enter Tryz.func15, Tryz.ntmps15
      go_wp2_with (refine wpList_load_e (by rfl) _ rfl (W.heap.size + 1) rfl es (Has.new _ _ es (by simp)) HZ.out ?_)
      refine (HF.out _).mono ?_
      rintro r w1 ⟨rfl, hb1⟩
      obtain ⟨HS, HE, hbF⟩ := CELL.out w1 (by simpa using hb1)
      have s0 := HS.cell 0 c0
      have s4 := HS.cell 4 c4
      have s5 := HS.cell 5 c5
      have s6 := HS.cell 6 c6
      have s18 := HS.cell 18 c18
      have e1 := HE.cell 1 d1
      have e3 := HE.cell 3 d3
      have e4 := HE.cell 4 d4
      have e5 := HE.cell 5 d5
      have e6 := HE.cell 6 d6
      have e7 := HE.cell 7 d7
      have e8 := HE.cell 8 d8
      have e9 := HE.cell 9 d9
      have e10 := HE.cell 10 d10
      have z1 := HS.size
      have z2 := HE.size
      have HBF := Lib.hid hbF
      clear HS HE hb1 hbF c0 c4 c5 c6 c18 d1 d3 d4 d5 d6 d7 d8 d9 d10 HF CELL HZ H23 HO
      go_wp2
      go_ret
      refine ⟨?_, HBF.out⟩
      first
      | rfl
      | exact ret_bool (decide_eq_false (by omega))
      | exact ret_bool (decide_eq_true (by omega))
    · skip
      obtain rfl : b = false := by
        have this := H9.out
        cases b
        · rfl
        · exfalso
          have h := this.2 rfl
          have := h.2 rfl
          omega
      clear H9
      go_enter Tryz.func15, Tryz.ntmps15
      go_wp2_with (refine wpList_load_e (by rfl) _ rfl (W.heap.size + 1) rfl es (Has.new _ _ es (by simp)) HZ.out ?_)
      refine (HF.out _).mono ?_
      rintro r w1 ⟨rfl, hb1⟩
      obtain ⟨HS, HE, hbF⟩ := CELL.out w1 (by simpa using hb1)
      have s0 := HS.cell 0 c0
      have s4 := HS.cell 4 c4
      have s5 := HS.cell 5 c5
      have s6 := HS.cell 6 c6
      have s18 := HS.cell 18 c18
      have e1 := HE.cell 1 d1
      have e3 := HE.cell 3 d3
      have e4 := HE.cell 4 d4
      have e5 := HE.cell 5 d5
      have e6 := HE.cell 6 d6
      have e7 := HE.cell 7 d7
      have e8 := HE.cell 8 d8
      have e9 := HE.cell 9 d9
      have e10 := HE.cell 10 d10
      have z1 := HS.size
      have z2 := HE.size
      have HBF := Lib.hid hbF
      clear HS HE hb1 hbF c0 c4 c5 c6 c18 d1 d3 d4 d5 d6 d7 d8 d9 d10 HF CELL HZ H23 HO
      go_wp2
      go_ret
      refine ⟨?_, HBF.out⟩
      first
      | rfl
      | exact ret_bool (decide_eq_false (by omega))
      | exact ret_bool (decide_eq_true (by omega))
    · skip
      obtain rfl : b = false := by
        have this := H9.out
        cases b
        · rfl
        · exfalso
          have h := this.2 rfl
          obtain ⟨g1, g2, g3, g4, g5, g6⟩ := h.1.2 rfl
          omega
      clear H9
      go_enter Tryz.func15, Tryz.ntmps15
      go_wp2_with (refine wpList_load_e (by rfl) _ rfl (W.heap.size + 1) rfl es (Has.new _ _ es (by simp)) HZ.out ?_)
      refine (HF.out _).mono ?_
      rintro r w1 ⟨rfl, hb1⟩
      obtain ⟨HS, HE, hbF⟩ := CELL.out w1 (by simpa using hb1)
      have s0 := HS.cell 0 c0
      have s4 := HS.cell 4 c4
      have s5 := HS.cell 5 c5
      have s6 := HS.cell 6 c6
      have s18 := HS.cell 18 c18
      have e1 := HE.cell 1 d1
      have e3 := HE.cell 3 d3
      have e4 := HE.cell 4 d4
      have e5 := HE.cell 5 d5
      have e6 := HE.cell 6 d6
      have e7 := HE.cell 7 d7
      have e8 := HE.cell 8 d8
      have e9 := HE.cell 9 d9
      have e10 := HE.cell 10 d10
      have z1 := HS.size
      have z2 := HE.size
      have HBF := Lib.hid hbF
      clear HS HE hb1 hbF c0 c4 c5 c6 c18 d1 d3 d4 d5 d6 d7 d8 d9 d10 HF CELL HZ H23 HO
      go_wp2
      go_ret
      refine ⟨?_, HBF.out⟩
      first
      | rfl
      | exact ret_bool (decide_eq_false (by omega))
      | exact ret_bool (decide_eq_true (by omega))
    · skip
      obtain rfl : b = false := by
        have this := H9.out
        cases b
        · rfl
        · exfalso
          have h := this.2 rfl
          obtain ⟨g1, g2, g3, g4, g5, g6⟩ := h.1.2 rfl
          omega
      clear H9
      go_enter Tryz.func15, Tryz.ntmps15
      go_wp2_with (refine wpList_load_e (by rfl) _ rfl (W.heap.size + 1) rfl es (Has.new _ _ es (by simp)) HZ.out ?_)
      refine (HF.out _).mono ?_
      rintro r w1 ⟨rfl, hb1⟩
      obtain ⟨HS, HE, hbF⟩ := CELL.out w1 (by simpa using hb1)
      have s0 := HS.cell 0 c0
      have s4 := HS.cell 4 c4
      have s5 := HS.cell 5 c5
      have s6 := HS.cell 6 c6
      have s18 := HS.cell 18 c18
      have e1 := HE.cell 1 d1
      have e3 := HE.cell 3 d3
      have e4 := HE.cell 4 d4
      have e5 := HE.cell 5 d5
      have e6 := HE.cell 6 d6
      have e7 := HE.cell 7 d7
      have e8 := HE.cell 8 d8
      have e9 := HE.cell 9 d9
      have e10 := HE.cell 10 d10
      have z1 := HS.size
      have z2 := HE.size
      have HBF := Lib.hid hbF
      clear HS HE hb1 hbF c0 c4 c5 c6 c18 d1 d3 d4 d5 d6 d7 d8 d9 d10 HF CELL HZ H23 HO
      go_wp2
      go_ret
      refine ⟨?_, HBF.out⟩
      first
      | rfl
      | exact ret_bool (decide_eq_false (by omega))
      | exact ret_bool (decide_eq_true (by omega))
    · skip
      obtain rfl : b = false := by
        have this := H9.out
        cases b
        · rfl
        · exfalso
          have h := this.2 rfl
          obtain ⟨g1, g2, g3, g4, g5, g6⟩ := h.1.2 rfl
          omega
      clear H9
      go_enter Tryz.func15, Tryz.ntmps15
      go_wp2_with (refine wpList_load_e (by rfl) _ rfl (W.heap.size + 1) rfl es (Has.new _ _ es (by simp)) HZ.out ?_)
      refine (HF.out _).mono ?_
      rintro r w1 ⟨rfl, hb1⟩
      obtain ⟨HS, HE, hbF⟩ := CELL.out w1 (by simpa using hb1)
      have s0 := HS.cell 0 c0
      have s4 := HS.cell 4 c4
      have s5 := HS.cell 5 c5
      have s6 := HS.cell 6 c6
      have s18 := HS.cell 18 c18
      have e1 := HE.cell 1 d1
      have e3 := HE.cell 3 d3
      have e4 := HE.cell 4 d4
      have e5 := HE.cell 5 d5
      have e6 := HE.cell 6 d6
      have e7 := HE.cell 7 d7
      have e8 := HE.cell 8 d8
      have e9 := HE.cell 9 d9
      have e10 := HE.cell 10 d10
      have z1 := HS.size
      have z2 := HE.size
      have HBF := Lib.hid hbF
      clear HS HE hb1 hbF c0 c4 c5 c6 c18 d1 d3 d4 d5 d6 d7 d8 d9 d10 HF CELL HZ H23 HO
      go_wp2
      go_ret
      refine ⟨?_, HBF.out⟩
      first
      | rfl
      | exact ret_bool (decide_eq_false (by omega))
      | exact ret_bool (decide_eq_true (by omega))
    · skip
      obtain rfl : b = false := by
        have this := H9.out
        cases b
        · rfl
        · exfalso
          have h := this.2 rfl
          obtain ⟨g1, g2, g3, g4, g5, g6⟩ := h.1.2 rfl
          omega
      clear H9
      go_enter Tryz.func15, Tryz.ntmps15
      go_wp2_with (refine wpList_load_e (by rfl) _ rfl (W.heap.size + 1) rfl es (Has.new _ _ es (by simp)) HZ.out ?_)
      refine (HF.out _).mono ?_
      rintro r w1 ⟨rfl, hb1⟩
      obtain ⟨HS, HE, hbF⟩ := CELL.out w1 (by simpa using hb1)
      have s0 := HS.cell 0 c0
      have s4 := HS.cell 4 c4
      have s5 := HS.cell 5 c5
      have s6 := HS.cell 6 c6
      have s18 := HS.cell 18 c18
      have e1 := HE.cell 1 d1
      have e3 := HE.cell 3 d3
      have e4 := HE.cell 4 d4
      have e5 := HE.cell 5 d5
      have e6 := HE.cell 6 d6
      have e7 := HE.cell 7 d7
      have e8 := HE.cell 8 d8
      have e9 := HE.cell 9 d9
      have e10 := HE.cell 10 d10
      have z1 := HS.size
      have z2 := HE.size
      have HBF := Lib.hid hbF
      clear HS HE hb1 hbF c0 c4 c5 c6 c18 d1 d3 d4 d5 d6 d7 d8 d9 d10 HF CELL HZ H23 HO
      go_wp2
      go_ret
      refine ⟨?_, HBF.out⟩
      first
      | rfl
      | exact ret_bool (decide_eq_false (by omega))
      | exact ret_bool (decide_eq_true (by omega))
    · skip
      obtain rfl : b = false := by
        have this := H9.out
        cases b
        · rfl
        · exfalso
          have h := this.2 rfl
          obtain ⟨g1, g2, g3, g4, g5, g6⟩ := h.1.2 rfl
          omega
      clear H9
      go_enter Tryz.func15, Tryz.ntmps15
      go_wp2_with (refine wpList_load_e (by rfl) _ rfl (W.heap.size + 1) rfl es (Has.new _ _ es (by simp)) HZ.out ?_)
      refine (HF.out _).mono ?_
      rintro r w1 ⟨rfl, hb1⟩
      obtain ⟨HS, HE, hbF⟩ := CELL.out w1 (by simpa using hb1)
      have s0 := HS.cell 0 c0
      have s4 := HS.cell 4 c4
      have s5 := HS.cell 5 c5
      have s6 := HS.cell 6 c6
      have s18 := HS.cell 18 c18
      have e1 := HE.cell 1 d1
      have e3 := HE.cell 3 d3
      have e4 := HE.cell 4 d4
      have e5 := HE.cell 5 d5
      have e6 := HE.cell 6 d6
      have e7 := HE.cell 7 d7
      have e8 := HE.cell 8 d8
      have e9 := HE.cell 9 d9
      have e10 := HE.cell 10 d10
      have z1 := HS.size
      have z2 := HE.size
      have HBF := Lib.hid hbF
      clear HS HE hb1 hbF c0 c4 c5 c6 c18 d1 d3 d4 d5 d6 d7 d8 d9 d10 HF CELL HZ H23 HO
      go_wp2
      go_ret
      refine ⟨?_, HBF.out⟩
      first
      | rfl
      | exact ret_bool (decide_eq_false (by omega))
      | exact ret_bool (decide_eq_true (by omega))
    · skip
      obtain rfl : b = false := by
        have this := H9.out
        cases b
        · rfl
        · exfalso
          have h := this.2 rfl
          obtain ⟨g1, g2, g3, g4, g5, g6⟩ := h.1.2 rfl
          omega
      clear H9
      go_enter Tryz.func15, Tryz.ntmps15
      go_wp2_with (refine wpList_load_e (by rfl) _ rfl (W.heap.size + 1) rfl es (Has.new _ _ es (by simp)) HZ.out ?_)
      refine (HF.out _).mono ?_
      rintro r w1 ⟨rfl, hb1⟩
      obtain ⟨HS, HE, hbF⟩ := CELL.out w1 (by simpa using hb1)
      have s0 := HS.cell 0 c0
      have s4 := HS.cell 4 c4
      have s5 := HS.cell 5 c5
      have s6 := HS.cell 6 c6
      have s18 := HS.cell 18 c18
      have e1 := HE.cell 1 d1
      have e3 := HE.cell 3 d3
      have e4 := HE.cell 4 d4
      have e5 := HE.cell 5 d5
      have e6 := HE.cell 6 d6
      have e7 := HE.cell 7 d7
      have e8 := HE.cell 8 d8
      have e9 := HE.cell 9 d9
      have e10 := HE.cell 10 d10
      have z1 := HS.size
      have z2 := HE.size
      have HBF := Lib.hid hbF
      clear HS HE hb1 hbF c0 c4 c5 c6 c18 d1 d3 d4 d5 d6 d7 d8 d9 d10 HF CELL HZ H23 HO
      go_wp2
      go_ret
      refine ⟨?_, HBF.out⟩
      first
      | rfl
      | exact ret_bool (decide_eq_false (by omega))
      | exact ret_bool (decide_eq_true (by omega))
    · skip
      obtain rfl : b = true := H9.out.1 (⟨⟨h1, fun _ => ⟨h3, h4, h5, h6, h7, h8⟩⟩, fun e => by omega⟩)
      clear H9
      go_enter Tryz.func15, Tryz.ntmps15
      go_wp2_with (refine wpList_load_e (by rfl) _ rfl (W.heap.size + 1) rfl es (Has.new _ _ es (by simp)) HZ.out ?_)
      refine (HF.out _).mono ?_
      rintro r w1 ⟨rfl, hb1⟩
      obtain ⟨HS, HE, hbF⟩ := CELL.out w1 (by simpa using hb1)
      have s0 := HS.cell 0 c0
      have s4 := HS.cell 4 c4
      have s5 := HS.cell 5 c5
      have s6 := HS.cell 6 c6
      have s18 := HS.cell 18 c18
      have e1 := HE.cell 1 d1
      have e3 := HE.cell 3 d3
      have e4 := HE.cell 4 d4
      have e5 := HE.cell 5 d5
      have e6 := HE.cell 6 d6
      have e7 := HE.cell 7 d7
      have e8 := HE.cell 8 d8
      have e9 := HE.cell 9 d9
      have e10 := HE.cell 10 d10
      have z1 := HS.size
      have z2 := HE.size
      have HBF := Lib.hid hbF
      clear HS HE hb1 hbF c0 c4 c5 c6 c18 d1 d3 d4 d5 d6 d7 d8 d9 d10 HF CELL HZ H23 HO
      go_wp2
      go_ret
      refine ⟨?_, HBF.out⟩
      first
      | rfl
      | exact ret_bool (decide_eq_false (by omega))
      | exact ret_bool (decide_eq_true (by omega))
end Go.Proofs.YtpgncbhahocmbaaGreat
