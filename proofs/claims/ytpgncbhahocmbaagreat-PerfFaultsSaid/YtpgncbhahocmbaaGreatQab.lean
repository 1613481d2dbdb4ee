/-
  A region that draws its order, by one word that holds whatever has come up: each operation keeps it, and where all have come up it gives what is asked. Over any program.
  event.order and event.Less: which event stands ahead.
  Slices of numbers of the call's own: append.
  Sets of seconds, continued: what two plain lists have in common, gone through once; what is between plain spans; how many there are; the first ones. No program here.
  Times rounded, days and weeks: no program here.
  Slices of spans in memory: one that is read ('Spans'), one of the call's own ('Row'); what an append, and a store, make of it.
  Sessions: what a worker's events, gone through one by one, are made of: items, parts, flags. No program here.
  What follows of sessions: near an event, clocks, flags, rounding, the order of events. No program here.
-/
import Derived.Deep.RegionHeld3
import Derived.Test.YtpgncbhahocmbaaGreatQaa
import Derived.Laws.Cover1
import Derived.OpenShut
import Derived.RegionTactic
import Derived.Sort.Grow
import Derived.Lib.Hide
import Derived.Test.YtpgncbhahocmbaaGreatProg
namespace Go.Proofs.YtpgncbhahocmbaaGreat
open Go.RowKit
set_option linter.unusedVariables false
/-- How many have not come up. -/
def unlB : List Bool → Nat
  | [] => 0
  | b :: l => unlB l + (if b then 0 else 1)
theorem unlB_set : ∀ (l : List Bool) (i : Nat), l.getD i true = false → unlB (l.set i true) + 1 = unlB l
  | [], i, h => by simp at h
  | b :: l, 0, h => by simp at h; subst h; simp [unlB]
  | b :: l, i + 1, h => by
    have := unlB_set l i (by simpa using h)
    simp only [List.set_cons_succ, unlB]
    omega
theorem unlB_zero : ∀ (l : List Bool) (i : Nat), unlB l = 0 → l.getD i true = true
  | [], i, h => by simp
  | b :: l, 0, h => by
    simp only [unlB] at h
    cases b
    · simp at h
    · rfl
  | b :: l, i + 1, h => by
    simp only [unlB] at h
    have := unlB_zero l i (by omega)
    simpa using this

section
variable {P : Program} {ops : Array Oper} {Q : Exit → Act → World → Prop} {md : Region.Mode} {S : World → Prop}

/-- What the word I asks of one operation. -/
def StepAt (P : Program) (md : Region.Mode) (ops : Array Oper) (Q : Exit → Act → World → Prop) (I : Array Bool → Act → World → Prop) (i : Nat) (o : Oper) : Prop :=
  ∀ listed a w, I listed a w → listed.getD i true = false → (∀ e ∈ o.after.toList, Region.binds md e = true → listed.getD e.on false = true) →
    ∀ K' : Act → World → Prop, Shut (∀ a w, I (listed.setIfInBounds i true) a w → K' a w) → if Region.wanted o (yielded ops a.tmps) = true then Oper.wp P o a w K' Q else K' (a.put o.dst undef) w
def StepsFrom (P : Program) (md : Region.Mode) (ops : Array Oper) (Q : Exit → Act → World → Prop) (I : Array Bool → Act → World → Prop) (k : Nat) (os : List Oper) : Prop :=
  ∀ j o, os[j]? = some o → StepAt P md ops Q I (k + j) o
theorem StepsFrom.nil {I : Array Bool → Act → World → Prop} {k : Nat} : StepsFrom P md ops Q I k [] := fun j o h => by simp at h
theorem StepsFrom.cons {I : Array Bool → Act → World → Prop} {k : Nat} {o : Oper} {os : List Oper} (h : StepAt P md ops Q I k o) (hs : StepsFrom P md ops Q I (k + 1) os) : StepsFrom P md ops Q I k (o :: os) := fun j p hp => by
  rcases j with _ | j
  · simp at hp; subst hp; exact h
  · have := hs j p (by simpa using hp)
    rwa [Nat.add_right_comm] at this

theorem wpAnyH_inv (I : Array Bool → Act → World → Prop) (hS : ∀ listed a w, I listed a w → S w) (steps : StepsFrom P md ops Q I 0 ops.toList)
    (fin : ∀ listed a w, I listed a w → Region.ready md ops listed = [] → Q .normal a w) :
    ∀ (fuel : Nat) (listed : Array Bool) (a : Act) (w : World), unlB listed.toList ≤ fuel → I listed a w → wpAnyH P md ops Q S fuel listed a w := by
  intro fuel
  induction fuel with
  | zero =>
    intro listed a w hu hI
    have hr : Region.ready md ops listed = [] := by
      apply List.eq_nil_iff_forall_not_mem.2
      intro j hj
      have h1 := (mem_ready.1 hj).1
      have h2 := unlB_zero listed.toList j (by omega)
      have e : listed.getD j true = listed.toList.getD j true := by
        rw [Array.getD_eq_getD_getElem?, List.getD_eq_getElem?_getD, Array.getElem?_toList]
      rw [e, h2] at h1
      cases h1
    exact ⟨hr, fin _ _ _ hI hr⟩
  | succ fuel ih =>
    intro listed a w hu hI
    refine ⟨fin _ _ _ hI, fun i hi => ?_⟩
    obtain ⟨h0, o, ho, hall⟩ := mem_ready.1 hi
    have hst := steps i o (by rw [Array.getElem?_toList]; exact ho) listed a w hI (by rw [Nat.zero_add]; exact h0) (fun e he hb => hall e (by simpa using he) hb)
    rw [Nat.zero_add] at hst
    refine wpOp_step ho (fun K' hK => hst K' (fun a' w' hI' => hK a' w' ⟨hS _ _ _ hI', ih _ _ _ ?_ hI'⟩))
    have e : listed.getD i true = listed.toList.getD i true := by
      rw [Array.getD_eq_getD_getElem?, List.getD_eq_getElem?_getD, Array.getElem?_toList]
    have := unlB_set listed.toList i (by rw [← e]; exact h0)
    rw [Array.toList_setIfInBounds]
    omega
/-- Where nothing can come up: an operation all of whose forerunners have come up has come up. -/
theorem all_up {listed : Array Bool} (hr : Region.ready md ops listed = []) (i : Nat) {o : Oper} (ho : ops[i]? = some o) (hp : ∀ e ∈ o.after.toList, Region.binds md e = true → listed.getD e.on false = true) : listed.getD i true = true := by
  cases h : listed.getD i true with
  | true => rfl
  | false =>
    have : i ∈ Region.ready md ops listed := mem_ready.2 ⟨h, o, ho, fun e he hb => hp e (by simpa using he) hb⟩
    rw [hr] at this
    cases this
/-- Some slots of a frame, some marks of a list, by letters. -/
def putsA : Act → List Tmp → List Value → Act
  | a, d :: ds, v :: vs => putsA (a.put (some d) v) ds vs
  | a, _, _ => a
def setsB : Array Bool → List Nat → List Bool → Array Bool
  | l, i :: is, b :: bs => setsB (l.setIfInBounds i b) is bs
  | l, _, _ => l
theorem wpAnyH_lit {fuel fuel' : Nat} {listed l : Array Bool} {a : Act} {w : World} (hf : fuel = fuel') (h : listed = l) (k : wpAnyH P md ops Q S fuel' l a w) : wpAnyH P md ops Q S fuel listed a w := by
  subst hf h; exact k
/-- The word, by letters for what the operations that are left write. -/
def LetI (l0 : Array Bool) (a0 : Act) (slots : List Tmp) (idx : List Nat) (F : List Value → List Bool → World → Prop) (listed : Array Bool) (a : Act) (w : World) : Prop :=
  ∃ vs bs, listed = setsB l0 idx bs ∧ a = putsA a0 slots vs ∧ F vs bs w
theorem wpAnyH_letters (slots : List Tmp) (idx : List Nat) (F : List Value → List Bool → World → Prop) {fuel : Nat} {l0 : Array Bool} {a0 : Act} {w0 : World}
    (hS : ∀ vs bs w, F vs bs w → S w) (hu : unlB l0.toList ≤ fuel) (vs0 : List Value) (bs0 : List Bool) (h1 : l0 = setsB l0 idx bs0) (h2 : a0 = putsA a0 slots vs0) (hF : F vs0 bs0 w0)
    (steps : StepsFrom P md ops Q (LetI l0 a0 slots idx F) 0 ops.toList)
    (fin : ∀ listed a w, LetI l0 a0 slots idx F listed a w → Region.ready md ops listed = [] → Q .normal a w) : wpAnyH P md ops Q S fuel l0 a0 w0 :=
  wpAnyH_inv (LetI l0 a0 slots idx F) (fun _ _ _ ⟨_, _, _, _, h⟩ => hS _ _ _ h) steps fin fuel l0 a0 w0 hu ⟨vs0, bs0, h1, h2, hF⟩
end
end Go.Proofs.YtpgncbhahocmbaaGreat

namespace Go.Proofs.YtpgncbhahocmbaaGreat
open Go.RowKit
set_option linter.unusedVariables false
set_option linter.unusedSimpArgs false
set_option maxRecDepth 20000

def cmpI (x y : Int) : Int := if x < y then -1 else if y < x then 1 else 0
/-- What order tells. -/
def cfE (a b : EvP) : Int := if cmpI a.tm b.tm = 0 then cmpI a.id b.id else cmpI a.tm b.tm
theorem cf_less (a b : EvP) : decide (cfE a b < 0) = lessE a b := by
  unfold lessE
  rw [decide_eq_decide]
  unfold cfE cmpI
  split <;> split <;> (try split) <;> (try split) <;> omega
theorem isnan_any (x : Int) (w : World) : Calls Tryz.prog 153 #[.int .i64 x] w fun e w' => e = .returned (.bool false) ∧ w = w' := by
  go_enter Tryz.func153, Tryz.ntmps153
  go_wp2
  go_ret
  exact ⟨by simp, rfl⟩
theorem compare_any (x y : Int) (w : World) : Calls Tryz.prog 136 #[.int .i64 x, .int .i64 y] w fun e w' => e = .returned (.int .i64 (cmpI x y)) ∧ w = w' := by
  have H : Hid (cmpI x y = if x < y then -1 else if y < x then 1 else 0) := Lib.hid rfl
  have c : x < y ∨ y < x ∨ x = y := by omega
  rcases c with h | h | h
  · have e : cmpI x y = -1 := by unfold cmpI; rw [if_pos h]
    have E := Lib.hid e
    clear e
    go_enter Tryz.func136, Tryz.ntmps136
    go_wp2_with fail
    refine (isnan_any _ _).mono ?_
    rintro r w1 ⟨rfl, rfl⟩
    go_wp2_with fail
    refine (isnan_any _ _).mono ?_
    rintro r w1 ⟨rfl, rfl⟩
    go_wp2
    go_ret
    exact ⟨ret_one E.out.symm, rfl⟩
  · have e : cmpI x y = 1 := by unfold cmpI; rw [if_neg (by omega), if_pos h]
    have h' : ¬ x < y := by omega
    have E := Lib.hid e
    clear e
    go_enter Tryz.func136, Tryz.ntmps136
    go_wp2_with fail
    refine (isnan_any _ _).mono ?_
    rintro r w1 ⟨rfl, rfl⟩
    go_wp2_with fail
    refine (isnan_any _ _).mono ?_
    rintro r w1 ⟨rfl, rfl⟩
    go_wp2
    go_ret
    exact ⟨ret_one E.out.symm, rfl⟩
  · subst h
    have e : cmpI x x = 0 := by unfold cmpI; rw [if_neg (by omega), if_neg (by omega)]
    have h' : ¬ x < x := by omega
    have E := Lib.hid e
    clear e
    go_enter Tryz.func136, Tryz.ntmps136
    go_wp2_with fail
    refine (isnan_any _ _).mono ?_
    rintro r w1 ⟨rfl, rfl⟩
    go_wp2_with fail
    refine (isnan_any _ _).mono ?_
    rintro r w1 ⟨rfl, rfl⟩
    go_wp2
    go_ret
    exact ⟨ret_one E.out.symm, rfl⟩
def orI (x y : Int) : Int := if x = 0 then y else x
theorem or_any (g : Nat) (x y : Int) (w : World) (h : Has w g #[.int .i64 x, .int .i64 y]) : Calls Tryz.prog 140 #[.slice (some ⟨g, 0, none⟩) 2 2] w fun e w' => e = .returned (.int .i64 (orI x y)) ∧ w = w' := by
  obtain ⟨h0, h1, _, _⟩ := h.two
  by_cases hx : x = 0
  · subst hx
    have E : Hid (orI 0 y = y) := Lib.hid (by simp [orI])
    by_cases hy : y = 0
    · subst hy
      go_enter Tryz.func140, Tryz.ntmps140
      go_wp2_with fail
      refine wp_loop_rounds 3 ?_
      rw [rounds_succ]
      go_wp2
      rw [rounds_succ]
      go_wp2
      rw [rounds_succ]
      go_wp2
      go_ret
      exact ⟨ret_one E.out.symm, rfl⟩
    · have hy' : (y == 0) = false := by simpa using hy
      go_enter Tryz.func140, Tryz.ntmps140
      go_wp2_with fail
      refine wp_loop_rounds 2 ?_
      rw [rounds_succ]
      go_wp2
      rw [rounds_succ]
      go_wp2
      go_ret
      exact ⟨ret_one E.out.symm, rfl⟩
  · have E : Hid (orI x y = x) := Lib.hid (by simp [orI, hx])
    have hx' : (x == 0) = false := by simpa using hx
    go_enter Tryz.func140, Tryz.ntmps140
    go_wp2_with fail
    refine wp_loop_rounds 1 ?_
    simp only [rounds_succ]
    go_wp2
    go_ret
    exact ⟨ret_one E.out.symm, rfl⟩
theorem cf_or (a b : EvP) : orI (cmpI a.tm b.tm) (cmpI a.id b.id) = cfE a b := rfl
open Go.Sort in
set_option maxHeartbeats 1000000 in
theorem order_any (a b : EvP) (W : World) : Calls Tryz.prog 109 #[.agg (evC a), .agg (evC b)] W fun e w' => e = .returned (.int .i64 (cfE a b)) ∧ ∃ q os, w' = grow (W.drewN q) os := by
  have a0 : (evC a)[0]? = some (.int .i64 a.id) := rfl
  have a2 : (evC a)[2]? = some (.int .i64 a.tm) := rfl
  have b0 : (evC b)[0]? = some (.int .i64 b.id) := rfl
  have b2 : (evC b)[2]? = some (.int .i64 b.tm) := rfl
  have HF := Lib.hid (cf_or a b)
  generalize evC a = ca at *
  generalize evC b = cb at *
  generalize cfE a b = cf at *
  generalize a.tm = ta at *
  generalize b.tm = tb at *
  generalize a.id = ia at *
  generalize b.id = ib at *
  go_enter Tryz.func109, Tryz.ntmps109
  go_wp2_with fail
  obtain ⟨w0, hw0⟩ : ∃ w0, w0 = (W.alloc (.cells ca 43)).alloc (.cells cb 43) := ⟨_, rfl⟩
  rw [← hw0]
  have HA : Hid (Has w0 W.heap.size ca) := by rw [hw0]; exact (Has.new W _ ca rfl).alloc _
  have HB : Hid (Has w0 (W.heap.size + 1) cb) := by rw [hw0]; exact Has.new _ _ _ (by simp)
  have HW0 := Lib.hid hw0
  clear hw0
  obtain ⟨ga, hga⟩ : ∃ ga, W.heap.size = ga := ⟨_, rfl⟩
  rw [hga] at HA HB ⊢
  clear hga
  obtain ⟨gb, hgb⟩ : ∃ gb, ga + 1 = gb := ⟨_, rfl⟩
  rw [hgb] at HB ⊢
  clear hgb
  refine wp_region_noPanic ?_
  refine wp_region_held_drew (S := fun w' => Below w0.heap.size w0 w') (by kernel_rfl) (below_drew (Below.refl _ _)) (fun hHeld => ?_)
  refine wpAnyH_take (i := 0) (oi := ⟨some 5, _, _, _, _, _⟩) (v := ?_) rfl (by kernel_rfl) (by kernel_rfl) (by kernel_rfl) (fun _ _ _ h => h) (Or.inl ⟨by rfl, ?_⟩) hHeld ?_
  rotate_left
  · intro ww hSw
    (try dsimp only at hSw)
    go_simp
    (try with_reducible rfl)
  simp only [Act.put, List.setIfInBounds_toArray, List.set_cons_zero, List.set_cons_succ]
  refine wpAnyH_take (i := 1) (oi := ⟨some 6, _, _, _, _, _⟩) (v := .int .i64 ta) rfl (by kernel_rfl) (by kernel_rfl) (by kernel_rfl) (fun _ _ _ h => h) (Or.inl ⟨by rfl, ?_⟩) hHeld ?_
  · intro ww hSw
    (try dsimp only at hSw)
    have hcc := (hSw.cell (p := ⟨ga, 2, none⟩) HA.out.size).trans (HA.out.cell 2 a2)
    have hcs := cell_lt hcc
    go_simp
  simp only [Act.put, List.setIfInBounds_toArray, List.set_cons_zero, List.set_cons_succ]
  refine wpAnyH_take (i := 2) (oi := ⟨some 7, _, _, _, _, _⟩) (v := ?_) rfl (by kernel_rfl) (by kernel_rfl) (by kernel_rfl) (fun _ _ _ h => h) (Or.inl ⟨by rfl, ?_⟩) hHeld ?_
  rotate_left
  · intro ww hSw
    (try dsimp only at hSw)
    go_simp
    (try with_reducible rfl)
  simp only [Act.put, List.setIfInBounds_toArray, List.set_cons_zero, List.set_cons_succ]
  refine wpAnyH_take (i := 3) (oi := ⟨some 8, _, _, _, _, _⟩) (v := .int .i64 tb) rfl (by kernel_rfl) (by kernel_rfl) (by kernel_rfl) (fun _ _ _ h => h) (Or.inl ⟨by rfl, ?_⟩) hHeld ?_
  · intro ww hSw
    (try dsimp only at hSw)
    have hcc := (hSw.cell (p := ⟨gb, 2, none⟩) HB.out.size).trans (HB.out.cell 2 b2)
    have hcs := cell_lt hcc
    go_simp
  simp only [Act.put, List.setIfInBounds_toArray, List.set_cons_zero, List.set_cons_succ]
  refine wpAnyH_take (i := 5) (oi := ⟨some 10, _, _, _, _, _⟩) (v := ?_) rfl (by kernel_rfl) (by kernel_rfl) (by kernel_rfl) (fun _ _ _ h => h) (Or.inl ⟨by rfl, ?_⟩) hHeld ?_
  rotate_left
  · intro ww hSw
    (try dsimp only at hSw)
    go_simp
    (try with_reducible rfl)
  simp only [Act.put, List.setIfInBounds_toArray, List.set_cons_zero, List.set_cons_succ]
  refine wpAnyH_take (i := 6) (oi := ⟨some 11, _, _, _, _, _⟩) (v := .int .i64 ia) rfl (by kernel_rfl) (by kernel_rfl) (by kernel_rfl) (fun _ _ _ h => h) (Or.inl ⟨by rfl, ?_⟩) hHeld ?_
  · intro ww hSw
    (try dsimp only at hSw)
    have hcc := (hSw.cell (p := ⟨ga, 0, none⟩) HA.out.size).trans (HA.out.cell 0 a0)
    have hcs := cell_lt hcc
    go_simp
  simp only [Act.put, List.setIfInBounds_toArray, List.set_cons_zero, List.set_cons_succ]
  refine wpAnyH_take (i := 7) (oi := ⟨some 12, _, _, _, _, _⟩) (v := ?_) rfl (by kernel_rfl) (by kernel_rfl) (by kernel_rfl) (fun _ _ _ h => h) (Or.inl ⟨by rfl, ?_⟩) hHeld ?_
  rotate_left
  · intro ww hSw
    (try dsimp only at hSw)
    go_simp
    (try with_reducible rfl)
  simp only [Act.put, List.setIfInBounds_toArray, List.set_cons_zero, List.set_cons_succ]
  refine wpAnyH_take (i := 8) (oi := ⟨some 13, _, _, _, _, _⟩) (v := .int .i64 ib) rfl (by kernel_rfl) (by kernel_rfl) (by kernel_rfl) (fun _ _ _ h => h) (Or.inl ⟨by rfl, ?_⟩) hHeld ?_
  · intro ww hSw
    (try dsimp only at hSw)
    have hcc := (hSw.cell (p := ⟨gb, 0, none⟩) HB.out.size).trans (HB.out.cell 0 b0)
    have hcs := cell_lt hcc
    go_simp
  simp only [Act.put, List.setIfInBounds_toArray, List.set_cons_zero, List.set_cons_succ]
  refine wpAnyH_ready (rs := [4]) (by kernel_rfl) (by simp) ?_
  refine AllReadyH.cons (o := ⟨some 9, _, _, _, _, _⟩) rfl (fun K hK => ?_) AllReadyH.nil
  go_simp
  go_at_call 136
  refine (compare_any _ _ _).mono ?_
  rintro e_r _ ⟨rfl, rfl⟩
  go_wp2_with fail
  refine hK.out _ _ ?_ (fun hHeld => ?_)
  · (try dsimp only)
    (repeat' (first | with_reducible exact Below.refl _ _ | with_reducible assumption | with_reducible refine bel_alloc ?_ _ | with_reducible refine bel_set ?_ ?_ _ | with_reducible refine below_drewN ?_ _ | with_reducible refine below_drew ?_ | (simp; done) | (simp; omega) | omega))
  clear hK K
  (try simp only [Act.put, List.setIfInBounds_toArray, List.set_cons_zero, List.set_cons_succ])
  refine wpAnyH_ready (rs := [9]) (by kernel_rfl) (by simp) ?_
  refine AllReadyH.cons (o := ⟨some 14, _, _, _, _, _⟩) rfl (fun K hK => ?_) AllReadyH.nil
  go_simp
  go_at_call 136
  refine (compare_any _ _ _).mono ?_
  rintro e_r _ ⟨rfl, rfl⟩
  go_wp2_with fail
  refine hK.out _ _ ?_ (fun hHeld => ?_)
  · (try dsimp only)
    (repeat' (first | with_reducible exact Below.refl _ _ | with_reducible assumption | with_reducible refine bel_alloc ?_ _ | with_reducible refine bel_set ?_ ?_ _ | with_reducible refine below_drewN ?_ _ | with_reducible refine below_drew ?_ | (simp; done) | (simp; omega) | omega))
  clear hK K
  (try simp only [Act.put, List.setIfInBounds_toArray, List.set_cons_zero, List.set_cons_succ])
  refine wpAnyH_ready (rs := [10]) (by kernel_rfl) (by simp) ?_
  refine AllReadyH.cons (o := ⟨some 15, _, _, _, _, _⟩) rfl (fun K hK => ?_) AllReadyH.nil
  go_simp
  refine hK.out _ _ ?_ (fun hHeld => ?_)
  · (try dsimp only)
    (repeat' (first | with_reducible exact Below.refl _ _ | with_reducible assumption | with_reducible refine bel_alloc ?_ _ | with_reducible refine bel_set ?_ ?_ _ | with_reducible refine below_drewN ?_ _ | with_reducible refine below_drew ?_ | (simp; done) | (simp; omega) | omega))
  clear hK K
  (try simp only [Act.put, List.setIfInBounds_toArray, List.set_cons_zero, List.set_cons_succ])
  refine wpAnyH_ready (rs := [11]) (by kernel_rfl) (by simp) ?_
  refine AllReadyH.cons (o := ⟨some 16, _, _, _, _, _⟩) rfl (fun K hK => ?_) AllReadyH.nil
  go_simp
  go_at_call 140
  refine (or_any w0.heap.size _ _ _ (Has.new w0 _ _ rfl).drew).mono ?_
  rintro e_r _ ⟨rfl, rfl⟩
  go_wp2_with fail
  refine hK.out _ _ ?_ (fun hHeld => ?_)
  · (try dsimp only)
    (repeat' (first | with_reducible exact Below.refl _ _ | with_reducible assumption | with_reducible refine bel_alloc ?_ _ | with_reducible refine bel_set ?_ ?_ _ | with_reducible refine below_drewN ?_ _ | with_reducible refine below_drew ?_ | (simp; done) | (simp; omega) | omega))
  clear hK K
  (try simp only [Act.put, List.setIfInBounds_toArray, List.set_cons_zero, List.set_cons_succ])
  refine wpAnyH_take (i := 12) (oi := ⟨some 4, _, _, _, _, _⟩) (v := ?_) rfl (by kernel_rfl) (by kernel_rfl) (by kernel_rfl) (fun _ _ _ h => h) (Or.inl ⟨by rfl, ?_⟩) hHeld ?_
  rotate_left
  · intro ww hSw
    (try dsimp only at hSw)
    go_simp
    (try with_reducible rfl)
  simp only [Act.put, List.setIfInBounds_toArray, List.set_cons_zero, List.set_cons_succ]
  refine wpAnyH_done (by kernel_rfl) ?_ _
  refine NoPanic.normal ?_
  go_wp2
  go_ret
  refine ⟨ret_one HF.out, 1, #[.cells ca 43, .cells cb 43, .cells #[.int .i64 (cmpI ta tb), .int .i64 (cmpI ia ib)] 3], ?_⟩
  rw [HW0.out, alloc_eq_grow, alloc_eq_grow, alloc_eq_grow, grow_grow, grow_grow, drew_grow]
  rfl
end Go.Proofs.YtpgncbhahocmbaaGreat

namespace Go.Proofs.YtpgncbhahocmbaaGreat
open Go.RowKit
set_option linter.unusedVariables false

theorem int_info : (Tryz.prog.info? 3).map (fun i => (i.zero, i.size, i.bytes)) = some (some (.int .i64 0), 1, 8) := by kernel_rfl
end Go.Proofs.YtpgncbhahocmbaaGreat

namespace Go.Proofs.YtpgncbhahocmbaaGreat
set_option linter.unusedVariables false

/-- How many numbers below n are p's. -/
noncomputable def cnt (p : Int → Prop) : Nat → Int
  | 0 => 0
  | n + 1 => cnt p n + (open Classical in if p n then 1 else 0)
theorem cnt_succ (p : Int → Prop) (n : Nat) : cnt p (n + 1) = cnt p n + (open Classical in if p n then 1 else 0) := rfl
theorem cnt_yes {p : Int → Prop} {n : Nat} (h : p n) : cnt p (n + 1) = cnt p n + 1 := by rw [cnt_succ, if_pos h]
theorem cnt_no {p : Int → Prop} {n : Nat} (h : ¬ p n) : cnt p (n + 1) = cnt p n := by rw [cnt_succ, if_neg h]; omega
theorem cnt_step (p : Int → Prop) (n : Nat) : cnt p n ≤ cnt p (n + 1) ∧ cnt p (n + 1) ≤ cnt p n + 1 := by
  by_cases h : p n
  · rw [cnt_yes h]; omega
  · rw [cnt_no h]; omega
theorem cnt_mono (p : Int → Prop) (n : Nat) : ∀ k, cnt p n ≤ cnt p (n + k) ∧ cnt p (n + k) ≤ cnt p n + k
  | 0 => by simp
  | k + 1 => by have := cnt_mono p n k; have := cnt_step p (n + k); rw [← Nat.add_assoc]; omega
theorem cnt_bound (p : Int → Prop) (n : Nat) : 0 ≤ cnt p n ∧ cnt p n ≤ n := by
  have := cnt_mono p 0 n
  simp only [Nat.zero_add] at this
  have e : cnt p 0 = 0 := rfl
  omega
theorem cnt_congr {p q : Int → Prop} : ∀ {n : Nat}, (∀ t : Int, 0 ≤ t → t < n → (p t ↔ q t)) → cnt p n = cnt q n
  | 0, _ => rfl
  | n + 1, h => by
    have ih := cnt_congr (p := p) (q := q) (n := n) (fun t a b => h t a (by omega))
    by_cases hp : p n
    · rw [cnt_yes hp, cnt_yes ((h n (by omega) (by omega)).1 hp), ih]
    · rw [cnt_no hp, cnt_no (fun hq => hp ((h n (by omega) (by omega)).2 hq)), ih]
theorem cnt_all {p : Int → Prop} {n : Nat} : ∀ k : Nat, (∀ t : Int, n ≤ t → t < n + k → p t) → cnt p (n + k) = cnt p n + k
  | 0, _ => by simp
  | k + 1, h => by
    rw [← Nat.add_assoc, cnt_yes (h _ (by omega) (by omega)), cnt_all k (fun t a b => h t a (by omega))]; omega
theorem cnt_gap {p : Int → Prop} {n : Nat} : ∀ k : Nat, (∀ t : Int, n ≤ t → t < n + k → ¬ p t) → cnt p (n + k) = cnt p n
  | 0, _ => by simp
  | k + 1, h => by
    rw [← Nat.add_assoc, cnt_no (h _ (by omega) (by omega)), cnt_gap k (fun t a b => h t a (by omega))]
theorem cnt_or {p q r : Int → Prop} : ∀ {n : Nat}, (∀ t : Int, 0 ≤ t → t < n → (r t ↔ p t ∨ q t) ∧ ¬ (p t ∧ q t)) → cnt r n = cnt p n + cnt q n
  | 0, _ => rfl
  | n + 1, h => by
    have ih := cnt_or (p := p) (q := q) (r := r) (n := n) (fun t a b => h t a (by omega))
    obtain ⟨h1, h2⟩ := h n (by omega) (by omega)
    by_cases hp : p n
    · rw [cnt_yes (h1.2 (.inl hp)), cnt_yes hp, cnt_no (fun hq => h2 ⟨hp, hq⟩)]; omega
    · by_cases hq : q n
      · rw [cnt_yes (h1.2 (.inr hq)), cnt_yes hq, cnt_no hp]; omega
      · rw [cnt_no (fun hr => (h1.1 hr).elim hp hq), cnt_no hp, cnt_no hq]; omega

/-- How many numbers of plain spans are below h. -/
def below (l : List (Int × Int)) (h : Int) : Int := (l.map fun s => max 0 (min s.2 h - s.1)).sum
/-- How many numbers plain spans have. -/
def szL (l : List (Int × Int)) : Int := (l.map fun s => s.2 - s.1).sum
theorem below_cons (s : Int × Int) (l : List (Int × Int)) (h : Int) : below (s :: l) h = max 0 (min s.2 h - s.1) + below l h := by simp [below]
theorem szL_cons (s : Int × Int) (l : List (Int × Int)) : szL (s :: l) = (s.2 - s.1) + szL l := by simp [szL]
theorem below_zero : ∀ {l : List (Int × Int)} {a h : Int}, PlainFrom a l → h ≤ a → below l h = 0
  | [], _, _, _, _ => rfl
  | s :: l, a, h, ⟨h1, h2, h3, h4⟩, hh => by rw [below_cons, below_zero h4 (by omega)]; omega
theorem below_top : ∀ {l : List (Int × Int)} {a h : Int}, PlainFrom a l → 32054400 ≤ h → below l h = szL l
  | [], _, _, _, _ => rfl
  | s :: l, a, h, ⟨h1, h2, h3, h4⟩, hh => by rw [below_cons, szL_cons, below_top h4 hh]; omega
theorem below_cnt : ∀ {l : List (Int × Int)} {a : Int} (h : Nat) (p : Int → Prop), PlainFrom a l → 0 ≤ a → a ≤ h → h ≤ 32054400 → (∀ t, a ≤ t → t < h → (p t ↔ In l t)) → cnt p h = cnt p a.toNat + below l h
  | [], a, h, p, _, h0, ha, hm, hp => by
    have := cnt_gap (p := p) (n := a.toNat) (h - a.toNat) (fun t q1 q2 => by rw [hp t (by omega) (by omega)]; exact in_nil _)
    rw [show a.toNat + (h - a.toNat) = h by omega] at this
    rw [this]; simp [below]
  | s :: l, a, h, p, ⟨h1, h2, h3, h4⟩, h0, ha, hm, hp => by
    have low : ∀ t, In l t → s.2 < t := fun t ht => by have := h4.bound ht; omega
    have n1 : ∀ t, a ≤ t → t < h → t < s.1 → ¬ p t := fun t q1 q2 q3 => by
      rw [hp t q1 q2, in_cons]
      rintro (q | q)
      · omega
      · have := low t q; omega
    rcases Int.lt_or_le h s.1 with c | c
    · have := cnt_gap (p := p) (n := a.toNat) (h - a.toNat) (fun t q1 q2 => n1 t (by omega) (by omega) (by omega))
      rw [show a.toNat + (h - a.toNat) = h by omega] at this
      rw [this, below_cons, below_zero h4 (by omega)]; omega
    · have e1 := cnt_gap (p := p) (n := a.toNat) (s.1.toNat - a.toNat) (fun t q1 q2 => n1 t (by omega) (by omega) (by omega))
      rw [show a.toNat + (s.1.toNat - a.toNat) = s.1.toNat by omega] at e1
      rcases Int.lt_or_le h s.2 with d | d
      · have e2 := cnt_all (p := p) (n := s.1.toNat) (h - s.1.toNat) (fun t q1 q2 => by rw [hp t (by omega) (by omega), in_cons]; exact .inl ⟨by omega, by omega⟩)
        rw [show s.1.toNat + (h - s.1.toNat) = h by omega] at e2
        rw [e2, e1, below_cons, below_zero h4 (by omega)]; omega
      · have e2 := cnt_all (p := p) (n := s.1.toNat) (s.2.toNat - s.1.toNat) (fun t q1 q2 => by rw [hp t (by omega) (by omega), in_cons]; exact .inl ⟨by omega, by omega⟩)
        rw [show s.1.toNat + (s.2.toNat - s.1.toNat) = s.2.toNat by omega] at e2
        have e3 := below_cnt (l := l) (a := s.2) h p (h4.mono (by omega)) (by omega) d hm (fun t q1 q2 => by
          rw [hp t (by omega) q2, in_cons]
          constructor
          · rintro (q | q)
            · omega
            · exact q
          · exact .inr)
        rw [e3, e2, e1, below_cons]; omega
theorem below_canon (p : Int → Prop) (h : Nat) (hh : h ≤ 32054400) : below (canon p) h = cnt p h := by
  have := below_cnt (l := canon p) (a := 0) h p (canon_plain p) (by omega) (by omega) hh (fun t a b => by rw [canon_in]; exact ⟨fun q => ⟨by omega, by omega, q⟩, fun q => q.2.2⟩)
  rw [this]; simp [cnt]
/-- How many seconds a set has. -/
noncomputable def sz (p : Int → Prop) : Int := cnt p 32054400
theorem szL_canon (p : Int → Prop) : szL (canon p) = sz p := by
  rw [← below_top (h := ((32054400 : Nat) : Int)) (canon_plain p) (by omega), below_canon p _ (Nat.le_refl _)]; rfl
theorem sz_bound (p : Int → Prop) : 0 ≤ sz p ∧ sz p ≤ 32054400 := by have := cnt_bound p 32054400; unfold sz; omega
theorem sz_congr {p q : Int → Prop} (h : ∀ t, 0 ≤ t → t < 32054400 → (p t ↔ q t)) : sz p = sz q := cnt_congr (fun t a b => h t a (by omega))
theorem sz_or {p q r : Int → Prop} (h : ∀ t, 0 ≤ t → t < 32054400 → (r t ↔ p t ∨ q t) ∧ ¬ (p t ∧ q t)) : sz r = sz p + sz q := cnt_or (fun t a b => h t a (by omega))

theorem plain_len : ∀ {l : List (Int × Int)} {a : Int}, PlainFrom a l → a ≤ 32054401 → (l.length : Int) ≤ 32054401 - a
  | [], a, _, h => by simp; omega
  | s :: l, a, ⟨h1, h2, h3, h4⟩, h => by
    have := plain_len h4 (by omega)
    simp; omega
theorem canon_len (p : Int → Prop) : (canon p).length ≤ 32054401 := by have := plain_len (canon_plain p) (by omega); omega
end Go.Proofs.YtpgncbhahocmbaaGreat

namespace Go.Proofs.YtpgncbhahocmbaaGreat
set_option linter.unusedVariables false
set_option linter.unusedSimpArgs false

def timeP (t : Int) : Int := min (max t 0) 32054400
def secP (t : Int) : Int := min (timeP t) 32054399
theorem time_bd (t : Int) : 0 ≤ timeP t ∧ timeP t ≤ 32054400 := by unfold timeP; omega
theorem sec_bd (t : Int) : 0 ≤ secP t ∧ secP t ≤ 32054399 := by unfold secP timeP; omega
def roundP (t u : Int) : Int :=
  if u < 1 then timeP t else if u - timeP t % u ≤ timeP t % u then min (timeP t - timeP t % u + min u 100000000) 32054400 else timeP t - timeP t % u
def weekP (t : Int) : Int := secP t / 604800
/-! ### Rounding -/
theorem round_div {n u : Int} (h : 1 ≤ u) : n % u = n - u * (n / u) ∧ 0 ≤ n % u ∧ n % u < u := by
  have h1 := Int.emod_def n u
  have h2 := Int.emod_nonneg n (show u ≠ 0 by omega)
  have h3 := Int.emod_lt_of_pos n (show 0 < u by omega)
  exact ⟨h1, h2, h3⟩
/-! ### Days -/
/-! ### Rising lists -/
end Go.Proofs.YtpgncbhahocmbaaGreat

namespace Go.Proofs.YtpgncbhahocmbaaGreat
open Go.RowKit
set_option linter.unusedVariables false

def cells2 (xs : List (Int × Int)) : List Value := xs.flatMap fun x => [.int .i64 x.1, .int .i64 x.2]
theorem cells2_len : ∀ xs : List (Int × Int), (cells2 xs).length = xs.length * 2
  | [] => rfl
  | x :: xs => by
    have := cells2_len xs
    simp only [cells2, List.flatMap_cons, List.length_append, List.length_cons, List.length_nil] at this ⊢
    omega
theorem cells2_append (xs ys : List (Int × Int)) : cells2 (xs ++ ys) = cells2 xs ++ cells2 ys := by simp [cells2]
theorem cells2_cons (x : Int × Int) (xs : List (Int × Int)) : cells2 (x :: xs) = .int .i64 x.1 :: .int .i64 x.2 :: cells2 xs := rfl
theorem cells2_get : ∀ (xs : List (Int × Int)) (k : Nat), k < xs.length → (cells2 xs)[k * 2]? = some (.int .i64 (xs.getD k (0, 0)).1) ∧ (cells2 xs)[k * 2 + 1]? = some (.int .i64 (xs.getD k (0, 0)).2)
  | [], k, h => by simp at h
  | x :: xs, 0, h => ⟨rfl, rfl⟩
  | x :: xs, k + 1, h => by
    have := cells2_get xs k (by simpa using h)
    rw [show (k + 1) * 2 = k * 2 + 1 + 1 by omega, cells2_cons]
    simp only [List.getElem?_cons_succ, List.getD_cons_succ]
    exact this
theorem cells2_one (xs : List (Int × Int)) : ∀ u ∈ cells2 xs, u.oneCell' = true := by
  intro u hu
  simp only [cells2, List.mem_flatMap] at hu
  obtain ⟨x, _, hx⟩ := hu
  rcases List.mem_cons.1 hx with rfl | hx
  · rfl
  · rw [List.mem_singleton.1 hx]; rfl
theorem cells2_set : ∀ (xs : List (Int × Int)) (k : Nat) (v : Int), k < xs.length → (cells2 xs).set (k * 2 + 1) (.int .i64 v) = cells2 (xs.set k ((xs.getD k (0, 0)).1, v))
  | [], k, v, h => by simp at h
  | x :: xs, 0, v, h => rfl
  | x :: xs, k + 1, v, h => by
    have := cells2_set xs k v (by simpa using h)
    rw [show (k + 1) * 2 + 1 = (k * 2 + 1) + 1 + 1 by omega, cells2_cons, List.set_cons_succ, List.set_cons_succ, this]
    rfl

/-- A number of 64 bits. -/
def Fit (n : Int) : Prop := -9223372036854775808 ≤ n ∧ n ≤ 9223372036854775807
def Fits (xs : List (Int × Int)) : Prop := ∀ x ∈ xs, Fit x.1 ∧ Fit x.2
theorem Fits.of_plain {xs : List (Int × Int)} (h : PlainFrom 0 xs) : Fits xs := fun x hx => by
  have := (plain_pairs.1 h).1 x hx
  exact ⟨⟨by omega, by omega⟩, ⟨by omega, by omega⟩⟩
theorem Fits.at {xs : List (Int × Int)} (h : Fits xs) {k : Nat} (hk : k < xs.length) : Fit (xs.getD k (0, 0)).1 ∧ Fit (xs.getD k (0, 0)).2 := h _ (by simp [List.getD, hk])
theorem Fits.nil : Fits [] := fun x hx => by cases hx

/-- A slice value over A reads as the spans xs. -/
def Spans (w : World) (A : Option Addr) (xs : List (Int × Int)) : Prop :=
  Fits xs ∧ ∀ k, k < xs.length → ∃ b off, A = some ⟨b, off, none⟩ ∧ b < w.heap.size ∧ w.cell? ⟨b, off + k * 2, none⟩ = some (.int .i64 (xs.getD k (0, 0)).1) ∧ w.cell? ⟨b, off + k * 2 + 1, none⟩ = some (.int .i64 (xs.getD k (0, 0)).2)
theorem Spans.below {w w' : World} {A : Option Addr} {xs : List (Int × Int)} (h : Spans w A xs) (hb : Below w.heap.size w w') : Spans w' A xs := by
  refine ⟨h.1, fun k hk => ?_⟩
  obtain ⟨b, off, e, h0, h1, h2⟩ := h.2 k hk
  exact ⟨b, off, e, Nat.lt_of_lt_of_le h0 hb.size, (hb.cell h0).trans h1, (hb.cell h0).trans h2⟩
theorem Spans.alloc {w : World} {A : Option Addr} {xs : List (Int × Int)} (h : Spans w A xs) (o : Obj) : Spans (w.alloc o) A xs := h.below ((Below.refl _ _).alloc (Nat.le_refl _) o)
theorem Spans.drewN {w : World} {A : Option Addr} {xs : List (Int × Int)} (h : Spans w A xs) (n : Nat) : Spans (w.drewN n) A xs := h.below (below_drewN (Below.refl _ _) n)
theorem Spans.drew {w : World} {A : Option Addr} {xs : List (Int × Int)} (h : Spans w A xs) : Spans w.drew A xs := h.below (below_drew (Below.refl _ _))
theorem Spans.nil (w : World) (A : Option Addr) : Spans w A [] := ⟨Fits.nil, fun k hk => by simp at hk⟩
theorem add_none {b off n : Nat} : (⟨b, off, none⟩ : Addr).add n = ⟨b, off + n, none⟩ := by unfold Addr.add; split <;> simp_all
theorem Spans.sl {w : World} {A : Option Addr} {xs : List (Int × Int)} {c : Nat} (h : Spans w A xs) (hc : A = none → c = 0) : Sl 2 w A xs.length c (cells2 xs) := by
  by_cases hne : xs = []
  · subst hne
    cases A with
    | none => exact ⟨rfl, .inl ⟨rfl, rfl, hc rfl⟩⟩
    | some ad => exact ⟨rfl, .inr ⟨ad, rfl, fun j u hu => by simp [cells2] at hu⟩⟩
  have hl : 0 < xs.length := List.length_pos_iff.2 hne
  obtain ⟨b, off, rfl, _⟩ := h.2 0 hl
  refine ⟨cells2_len xs, .inr ⟨_, rfl, fun j u hu => ?_⟩⟩
  have hj : j < xs.length * 2 := by
    rcases Nat.lt_or_ge j (xs.length * 2) with q | q
    · exact q
    · rw [List.getElem?_eq_none (by rw [cells2_len]; exact q)] at hu; cases hu
  obtain ⟨b', off', e, _, h1, h2⟩ := h.2 (j / 2) (by omega)
  obtain ⟨g1, g2⟩ := cells2_get xs (j / 2) (by omega)
  simp only [Option.some.injEq, Addr.mk.injEq, and_true] at e
  obtain ⟨rfl, rfl⟩ := e
  rw [add_none]
  rcases Nat.mod_two_eq_zero_or_one j with m | m
  · rw [show j / 2 * 2 = j by omega] at g1 h1
    rw [h1, ← hu, g1]
  · rw [show j / 2 * 2 + 1 = j by omega] at g2
    rw [Nat.add_assoc, show j / 2 * 2 + 1 = j by omega] at h2
    rw [h2, ← hu, g2]

/-- A slice of the call's own, that lies at 'base' or behind, and holds the spans xs. -/
def Row (w : World) (base : Nat) (A : Option Addr) (c : Nat) (xs : List (Int × Int)) : Prop :=
  w.ownsRow base 95 2 (.slice A xs.length c) xs.length (cells2 xs)
section
variable {w w' : World} {base c : Nat} {A : Option Addr} {xs : List (Int × Int)}
theorem Row.nil (w : World) (base : Nat) : Row w base none 0 [] := World.ownsRow_nil w base _ _
theorem Row.keep (h : Row w base A c xs) (hk : ∀ g, A = some g → w'.heap[g.block]? = w.heap[g.block]?) : Row w' base A c xs := by
  obtain ⟨hl, hn | ⟨g, cap, cur, hv, hg, hh, rest⟩⟩ := h
  · exact ⟨hl, .inl hn⟩
  · injection hv with e1 e2 e3
    subst e1
    exact ⟨hl, .inr ⟨g, cap, cur, by rw [e3], hg, (hk _ rfl).trans hh, rest⟩⟩
theorem Row.lt (h : Row w base A c xs) : ∀ g, A = some g → base ≤ g.block ∧ g.block < w.heap.size := by
  rintro g rfl
  exact World.ownsRow.lt h _ rfl
theorem Row.below (h : Row w base A c xs) (hb : Below w.heap.size w w') : Row w' base A c xs :=
  h.keep fun g hg => hb.block _ (h.lt g hg).2
theorem Row.alloc (h : Row w base A c xs) (o : Obj) : Row (w.alloc o) base A c xs := World.ownsRow.alloc h o
theorem Row.drewN (h : Row w base A c xs) (n : Nat) : Row (w.drewN n) base A c xs := h
theorem Row.drew (h : Row w base A c xs) : Row w.drew base A c xs := h
theorem Row.mono (h : Row w base A c xs) {b : Nat} (hb : b ≤ base) : Row w b A c xs := by
  obtain ⟨hl, hn | ⟨g, cap, cur, hv, hg, rest⟩⟩ := h
  · exact ⟨hl, .inl hn⟩
  · exact ⟨hl, .inr ⟨g, cap, cur, hv, by omega, rest⟩⟩
theorem Row.far (h : Row w base A c xs) {p : Addr} (hp : ∀ g, A = some g → g.block ≠ p.block) (u : Value) : Row (w.setCell p u) base A c xs :=
  h.keep fun g hg => Below.heap_setCell w p u _ (hp g hg)
theorem Row.form (h : Row w base A c xs) (hn : xs ≠ []) : ∃ g, A = some ⟨g, 0, none⟩ := by
  obtain ⟨hl, ⟨hv, hz⟩ | ⟨g, cap, cur, hv, _⟩⟩ := h
  · exact absurd (List.eq_nil_of_length_eq_zero hz) hn
  · injection hv with e1; exact ⟨g, e1⟩
theorem Row.forms (h : Row w base A c xs) : (A = none ∧ xs = [] ∧ c = 0) ∨ ∃ g, A = some ⟨g, 0, none⟩ ∧ base ≤ g ∧ g < w.heap.size ∧ xs.length ≤ c ∧ c ≤ maxLen := by
  have hlt := h.lt
  obtain ⟨hl, ⟨hv, hz⟩ | ⟨g, cap, cur, hv, hb, hh, hc, hm, _⟩⟩ := h
  · injection hv with e1 e2 e3
    exact .inl ⟨e1, List.eq_nil_of_length_eq_zero hz, e3⟩
  · injection hv with e1 e2 e3
    subst e1 e3
    exact .inr ⟨g, rfl, hb, (hlt _ rfl).2, hc, hm⟩
theorem Row.cellAt {g : Nat} (h : Row w base (some ⟨g, 0, none⟩) c xs) {k : Nat} (hk : k < xs.length) : w.cell? ⟨g, k * 2, none⟩ = some (.int .i64 (xs.getD k (0, 0)).1) ∧ w.cell? ⟨g, k * 2 + 1, none⟩ = some (.int .i64 (xs.getD k (0, 0)).2) := by
  obtain ⟨g1, g2⟩ := cells2_get xs k hk
  exact ⟨(World.ownsRow.cellAt h (k * 2) (by omega)).trans g1, (World.ownsRow.cellAt h (k * 2 + 1) (by omega)).trans g2⟩
theorem Row.frozenAt {g : Nat} (h : Row w base (some ⟨g, 0, none⟩) c xs) (j : Nat) : w.frozen? ⟨g, j, none⟩ = false := World.ownsRow.frozenAt h j
theorem Row.spans (h : Row w base A c xs) (hf : Fits xs) : Spans w A xs := by
  refine ⟨hf, fun k hk => ?_⟩
  rcases h.forms with ⟨_, rfl, _⟩ | ⟨g, rfl, _, hlt, _⟩
  · simp at hk
  · obtain ⟨h1, h2⟩ := h.cellAt hk
    exact ⟨g, 0, rfl, hlt, by simpa using h1, by simpa using h2⟩
theorem Row.set {g : Nat} (h : Row w base (some ⟨g, 0, none⟩) c xs) {k : Nat} (hk : k < xs.length) (v : Int) : Row (w.setCell ⟨g, k * 2 + 1, none⟩ (.int .i64 v)) base (some ⟨g, 0, none⟩) c (xs.set k ((xs.getD k (0, 0)).1, v)) := by
  have := (World.ownsRow.stored h (k * 2 + 1) (.int .i64 v)).1
  rw [cells2_set xs k v hk] at this
  unfold Row
  rw [List.length_set]
  exact this
/-- The first m of them. -/
theorem Row.take {g : Nat} (h : Row w base (some ⟨g, 0, none⟩) c xs) {m : Nat} (hm : m ≤ xs.length) : Row w base (some ⟨g, 0, none⟩) c (xs.take m) := by
  obtain ⟨hl, ⟨hv, hz⟩ | ⟨g', cap, cur, hv, hb, hh, hc, hx, hs, ht⟩⟩ := h
  · cases hv
  · injection hv with e1 e2 e3
    simp only [Option.some.injEq, Addr.mk.injEq, and_true] at e1
    subst e1 e3
    have e : (xs.take m).length = m := by rw [List.length_take]; omega
    refine ⟨cells2_len _, .inr ⟨g, c, cur, rfl, hb, hh, by omega, hx, hs, ?_⟩⟩
    rw [e]
    have e2 : cells2 (xs.take m) = (cells2 xs).take (m * 2) := by
      have e4 : cells2 xs = cells2 (xs.take m) ++ cells2 (xs.drop m) := by rw [← cells2_append, List.take_append_drop]
      rw [e4, List.take_append_of_le_length (by rw [cells2_len, e]; omega)]
      exact (List.take_of_length_le (by rw [cells2_len, e]; omega)).symm
    rw [e2, ← ht, List.take_take]
    congr 1
    omega
end

theorem span_info : (Tryz.prog.info? 95).map (fun i => (i.zero, i.size, i.bytes)) = some (some (.agg #[.int .i64 0, .int .i64 0]), 2, 16) := by kernel_rfl

/-- An append of what a slice holds. -/
theorem row_append {w : World} {base c : Nat} {A : Option Addr} {xs : List (Int × Int)} (h : Row w base A c xs) {B : Option Addr} {d : Nat} {ys : List (Int × Int)} (hs : Sl 2 w B ys.length d (cells2 ys)) (hn : xs.length + ys.length ≤ 1000000000) (hbase : base ≤ w.heap.size) :
    ∃ A' c' w', (Builtin.append_ #[51, 51] 51 #[.slice A xs.length c, .slice B ys.length d]).run Tryz.prog w = .ok (.slice A' (xs.length + ys.length) c') w' ∧ Row w' base A' c' (xs ++ ys) ∧
      (∀ a : World, a.heap.size ≤ base → Below a.heap.size a w → Below a.heap.size a w') ∧ w.grownBy w' (Value.slice A xs.length c).ownBlock ∧ ((Value.slice A' (xs.length + ys.length) c').ownBlock = (Value.slice A xs.length c).ownBlock ∨ (Value.slice A' (xs.length + ys.length) c').ownBlock = some w.heap.size) := by
  obtain ⟨A', c', w', hr, ho, hg, hl⟩ := append_any (P := Tryz.prog) w base 51 51 95 _ 2 16 Tryz.underlying51 span_info rfl (by omega) h hs (cells2_one ys) (xs.length + ys.length) rfl (cells2 (xs ++ ys)) (cells2_append xs ys).symm (by omega) (by omega) hbase
  refine ⟨A', c', w', hr, ?_, fun a ha hb => bel_grown hb h ha hg, hg, hl⟩
  unfold Row
  rw [List.length_append]
  exact ho

/-- A new slice of one span, made for an append. -/
theorem sl_one (w : World) (t : TypeId) (x : Int × Int) {s : Nat} (hs : w.heap.size = s) : Sl 2 (w.alloc (.cells #[.int .i64 x.1, .int .i64 x.2] t)) (some ⟨s, 0, none⟩) [x].length 1 (cells2 [x]) := by
  subst hs
  refine ⟨rfl, .inr ⟨_, rfl, fun j u hu => ?_⟩⟩
  rw [add_none, Nat.zero_add, cell_of_row _ _ _ _ t (0, 0) (heap_alloc_new w _)]
  simpa [cells2] using hu
theorem row_push {w : World} {base c : Nat} {A : Option Addr} {xs : List (Int × Int)} (h : Row w base A c xs) (a b : Int) (hn : xs.length < 1000000000) (hbase : base ≤ w.heap.size) {s : Nat} (hs : w.heap.size = s) :
    ∃ A' c' w', (Builtin.append_ #[51, 51] 51 #[.slice A xs.length c, .slice (some ⟨s, 0, none⟩) 1 1]).run Tryz.prog (w.alloc (.cells #[.int .i64 a, .int .i64 b] 95)) = .ok (.slice A' (xs.length + 1) c') w' ∧ Row w' base A' c' (xs ++ [(a, b)]) ∧
      (∀ v : World, v.heap.size ≤ base → Below v.heap.size v w → Below v.heap.size v w') ∧ w.heap.size ≤ w'.heap.size ∧ (w.alloc (.cells #[.int .i64 a, .int .i64 b] 95)).grownBy w' (Value.slice A xs.length c).ownBlock ∧ ((Value.slice A' (xs.length + 1) c').ownBlock = (Value.slice A xs.length c).ownBlock ∨ (Value.slice A' (xs.length + 1) c').ownBlock = some (w.heap.size + 1)) := by
  obtain ⟨A', c', w', h1, h2, h3, h4, h5⟩ := row_append (h.alloc (.cells #[.int .i64 a, .int .i64 b] 95)) (ys := [(a, b)]) (sl_one w 95 (a, b) hs) (by simp; omega) (by simp; omega)
  exact ⟨A', c', w', h1, h2, fun v hv hb => h3 v hv (hb.alloc hb.size _), by have := h4.size; simp at this; omega, h4, by simpa using h5⟩

/-- What a call that tells spans answers: a slice of its own. -/
def Gives (w : World) (xs : List (Int × Int)) (e : Ending) (w' : World) : Prop := ∃ A c, e = .returned (.slice A xs.length c) ∧ Row w' w.heap.size A c xs ∧ Below w.heap.size w w'
theorem gives_of {w w' : World} {xs ys : List (Int × Int)} {A : Option Addr} {c n : Nat} (h : Row w' w.heap.size A c ys) (e : ys = xs) (hn : n = ys.length) (hb : Below w.heap.size w w') : Gives w xs (.returned (.slice A n c)) w' := by
  subst e; subst hn; exact ⟨A, c, rfl, h, hb⟩

end Go.Proofs.YtpgncbhahocmbaaGreat

namespace Go.Proofs.YtpgncbhahocmbaaGreat
set_option linter.unusedVariables false
set_option linter.unusedSimpArgs false

structure SegP where
  fr : Int
  to : Int
  kd : Int
  id : Int
  cd : Int
  deriving DecidableEq
structure FlagP where
  id : Int
  kd : Int
  deriving DecidableEq
/-- What comes up, in order: an event outside, and a session, with the time at which it ends, and its flag (0: none). -/
inductive ItemP
  | out (e : EvP)
  | sess (e : EvP) (ins : List EvP) (to fl : Int)
/-- Outside, or in a session: the event that began it, and those of it. -/
abbrev StP := Option (EvP × List EvP)
def stepS (cap : Int) : StP → EvP → List ItemP × StP
  | none, b => if b.kd = 1 then ([], some (b, [])) else ([.out b], none)
  | some (e, ins), b =>
    if e.tm + cap < b.tm then (if b.kd = 1 then ([.sess e ins (e.tm + cap) 1], some (b, [])) else ([.sess e ins (e.tm + cap) 1, .out b], none))
    else if b.kd = 1 then ([.sess e ins b.tm 2], some (b, []))
    else if b.kd = 2 then ([.sess e ins b.tm 0], none)
    else ([], some (e, ins ++ [b]))
def closeS (cap : Int) : StP → List ItemP
  | none => []
  | some (e, ins) => [.sess e ins (e.tm + cap) 1]
def itemsS (cap : Int) : StP → List EvP → List ItemP
  | st, [] => closeS cap st
  | st, b :: l => (stepS cap st b).1 ++ itemsS cap (stepS cap st b).2 l
/-- What has come up behind some events, and where one stands then. -/
def runE (cap : Int) : StP → List EvP → List ItemP
  | _, [] => []
  | st, b :: l => (stepS cap st b).1 ++ runE cap (stepS cap st b).2 l
def runT (cap : Int) : StP → List EvP → StP
  | st, [] => st
  | st, b :: l => runT cap (stepS cap st b).2 l
/-- A session whose cap is behind it at all events that come. -/
theorem items_stale (cap : Int) (e : EvP) (ins : List EvP) (X : List EvP) (h : ∀ b ∈ X, e.tm + cap < b.tm) : itemsS cap (some (e, ins)) X = .sess e ins (e.tm + cap) 1 :: itemsS cap none X := by
  cases X with
  | nil => rfl
  | cons b l =>
    have hb := h b (by simp)
    by_cases k : b.kd = 1
    · simp [itemsS, stepS, hb, k]
    · simp [itemsS, stepS, hb, k]

/-! ### Sessions rise -/
def ItemsUp (cap : Int) : Int → List ItemP → Prop
  | _, [] => True
  | lo, .out e :: r => e.kd ≠ 1 ∧ ItemsUp cap lo r
  | lo, .sess e ins to fl :: r => (lo ≤ e.tm ∧ e.tm ≤ to ∧ to ≤ e.tm + cap) ∧ e.kd = 1 ∧ (∀ x ∈ ins, e.tm ≤ x.tm ∧ x.tm ≤ to ∧ x.kd ≠ 1 ∧ x.kd ≠ 2) ∧ ins.Pairwise (fun a b => a.tm ≤ b.tm) ∧ (fl = 0 ∨ fl = 1 ∨ fl = 2) ∧ ItemsUp cap to r
def StUp (cap lo t : Int) : StP → Prop
  | none => lo ≤ t
  | some (e, ins) => lo ≤ e.tm ∧ e.kd = 1 ∧ e.tm ≤ t ∧ (∀ x ∈ ins, e.tm ≤ x.tm ∧ x.tm ≤ t ∧ x.tm ≤ e.tm + cap ∧ x.kd ≠ 1 ∧ x.kd ≠ 2) ∧ ins.Pairwise (fun a b => a.tm ≤ b.tm)
theorem items_up {cap : Int} (hc : 0 ≤ cap) : ∀ (L : List EvP) (st : StP) (lo t : Int), StUp cap lo t st → (∀ b ∈ L, t ≤ b.tm) → L.Pairwise (fun a b => a.tm ≤ b.tm) → ItemsUp cap lo (itemsS cap st L)
  | [], none, lo, t, _, _, _ => trivial
  | [], some (e, ins), lo, t, ⟨h1, h2, h3, h4, h5⟩, _, _ => by
    show ItemsUp cap lo [.sess e ins (e.tm + cap) 1]
    exact ⟨⟨h1, by omega, by omega⟩, h2, fun x hx => by have := h4 x hx; omega, h5, by omega, trivial⟩
  | b :: L, st, lo, t, hst, hL, hs => by
    have hb := hL b (by simp)
    rw [List.pairwise_cons] at hs
    have ih := fun st lo h => items_up hc L st lo b.tm h hs.1 hs.2
    have hnone : ∀ lo, lo ≤ b.tm → ItemsUp cap lo (itemsS cap none (b :: L)) := by
      intro lo hlo
      by_cases k : b.kd = 1
      · simp only [itemsS, stepS, if_pos k, List.nil_append]
        exact ih _ _ ⟨hlo, k, Int.le_refl _, by simp, by simp⟩
      · simp only [itemsS, stepS, if_neg k, List.cons_append, List.nil_append]
        exact ⟨k, ih none lo hlo⟩
    match st, hst with
    | none, hst => exact hnone lo (by have : lo ≤ t := hst; omega)
    | some (e, ins), ⟨h1, h2, h3, h4, h5⟩ =>
      by_cases q : e.tm + cap < b.tm
      · have e1 : itemsS cap (some (e, ins)) (b :: L) = .sess e ins (e.tm + cap) 1 :: itemsS cap none (b :: L) :=
          items_stale cap e ins (b :: L) fun c hc' => by
            rcases List.mem_cons.1 hc' with rfl | hc'
            · exact q
            · have := hs.1 c hc'; omega
        rw [e1]
        exact ⟨⟨h1, by omega, by omega⟩, h2, fun x hx => by have := h4 x hx; omega, h5, by omega, hnone _ (by omega)⟩
      · by_cases k : b.kd = 1
        · simp only [itemsS, stepS, if_neg q, if_pos k, List.cons_append, List.nil_append]
          exact ⟨⟨h1, by omega, by omega⟩, h2, fun x hx => by have := h4 x hx; omega, h5, by omega, ih _ _ ⟨Int.le_refl _, k, Int.le_refl _, by simp, by simp⟩⟩
        · by_cases k2 : b.kd = 2
          · simp only [itemsS, stepS, if_neg q, if_neg k, if_pos k2, List.cons_append, List.nil_append]
            exact ⟨⟨h1, by omega, by omega⟩, h2, fun x hx => by have := h4 x hx; omega, h5, by omega, ih none b.tm (Int.le_refl b.tm)⟩
          · simp only [itemsS, stepS, if_neg q, if_neg k, if_neg k2, List.nil_append]
            refine ih _ _ ⟨h1, h2, by omega, fun x hx => ?_, ?_⟩
            · rcases List.mem_append.1 hx with hx | hx
              · have := h4 x hx; omega
              · rw [List.mem_singleton.1 hx]; exact ⟨by omega, by omega, by omega, k, k2⟩
            · rw [List.pairwise_append]
              refine ⟨h5, by simp, fun x hx y hy => ?_⟩
              rw [List.mem_singleton.1 hy]
              have := h4 x hx
              omega

/-! ### Parts -/
def kindP (k : Int) : Int := if k = 3 then 1 else if k = 4 then 2 else if k = 5 then 3 else 0
def placeP (first last : Int) (e : EvP) : Int := max first (min e.tm last)
def segI (a b : Int) (e : EvP) : List SegP := if a < b then [⟨a, b, kindP e.kd, e.id, e.cd⟩] else []
def partsG (first last : Int) : Int → EvP → List EvP → List SegP
  | a, e, [] => segI a last e
  | a, e, f :: l => segI a (placeP first last f) e ++ partsG first last (placeP first last f) f l
def segsI (R : Int → Int) : ItemP → List SegP
  | .out _ => []
  | .sess e ins to _ => partsG (R e.tm) (R to) (R e.tm) e ins
def flagsI : ItemP → List FlagP
  | .out e => [⟨e.id, 3⟩]
  | .sess e _ _ fl => if fl = 0 then [] else [⟨e.id, fl⟩]
def segsS (R : Int → Int) (l : List ItemP) : List SegP := l.flatMap (segsI R)
def flagsS (l : List ItemP) : List FlagP := l.flatMap flagsI
theorem segsS_append (R : Int → Int) (l m : List ItemP) : segsS R (l ++ m) = segsS R l ++ segsS R m := by simp [segsS]
theorem segsS_cons (R : Int → Int) (x : ItemP) (m : List ItemP) : segsS R (x :: m) = segsI R x ++ segsS R m := by simp [segsS]
theorem flagsS_append (l m : List ItemP) : flagsS (l ++ m) = flagsS l ++ flagsS m := by simp [flagsS]
theorem segI_mem {a b : Int} {e : EvP} {s : SegP} (h : s ∈ segI a b e) : s = ⟨a, b, kindP e.kd, e.id, e.cd⟩ ∧ a < b := by
  unfold segI at h
  split at h
  · exact ⟨List.mem_singleton.1 h, by assumption⟩
  · cases h
/-- Parts lie within what is told. -/
theorem parts_win {first last : Int} : ∀ (ins : List EvP) (a : Int) (e : EvP), first ≤ a → ∀ s ∈ partsG first last a e ins, first ≤ s.fr ∧ s.fr < s.to ∧ s.to ≤ last
  | [], a, e, h, s, hs => by
    obtain ⟨rfl, q⟩ := segI_mem hs
    exact ⟨h, q, Int.le_refl _⟩
  | f :: l, a, e, h, s, hs => by
    rcases List.mem_append.1 hs with hs | hs
    · obtain ⟨rfl, q⟩ := segI_mem hs
      refine ⟨h, q, ?_⟩
      unfold placeP at q ⊢
      simp only
      omega
    · exact parts_win l _ f (by unfold placeP; omega) s hs
/-- Each part is of an event of the session. -/
theorem parts_of {first last : Int} : ∀ (ins : List EvP) (a : Int) (e : EvP), ∀ s ∈ partsG first last a e ins, ∃ x, (x = e ∨ x ∈ ins) ∧ s.id = x.id ∧ s.kd = kindP x.kd ∧ s.cd = x.cd
  | [], a, e, s, hs => by
    obtain ⟨rfl, _⟩ := segI_mem hs
    exact ⟨e, .inl rfl, rfl, rfl, rfl⟩
  | f :: l, a, e, s, hs => by
    rcases List.mem_append.1 hs with hs | hs
    · obtain ⟨rfl, _⟩ := segI_mem hs
      exact ⟨e, .inl rfl, rfl, rfl, rfl⟩
    · obtain ⟨x, hx, h⟩ := parts_of l _ f s hs
      refine ⟨x, .inr ?_, h⟩
      rcases hx with rfl | hx
      · simp
      · simp [hx]
def SegsUp : Int → List SegP → Prop
  | _, [] => True
  | lo, s :: r => lo ≤ s.fr ∧ s.fr < s.to ∧ SegsUp s.to r
theorem segsUp_less : ∀ {l : List SegP} {a b : Int}, SegsUp b l → a ≤ b → SegsUp a l
  | [], _, _, _, _ => trivial
  | s :: r, a, b, ⟨h1, h2, h3⟩, h => ⟨by omega, h2, h3⟩
theorem segsUp_append : ∀ {l r : List SegP} {lo m : Int}, SegsUp lo l → (∀ s ∈ l, s.to ≤ m) → lo ≤ m → SegsUp m r → SegsUp lo (l ++ r)
  | [], r, lo, m, _, _, h, hr => segsUp_less hr h
  | s :: l, r, lo, m, ⟨h1, h2, h3⟩, hm, h, hr => ⟨h1, h2, segsUp_append h3 (fun x hx => hm x (by simp [hx])) (hm s (by simp)) hr⟩
theorem place_mono {first last : Int} {a b : EvP} (h : a.tm ≤ b.tm) : placeP first last a ≤ placeP first last b := by unfold placeP; omega
theorem place_bd {first last : Int} (h : first ≤ last) (e : EvP) : first ≤ placeP first last e ∧ placeP first last e ≤ last := by unfold placeP; omega
theorem segI_up (a b : Int) (e : EvP) : SegsUp a (segI a b e) ∧ ∀ s ∈ segI a b e, s.to = b := by
  unfold segI
  split
  · exact ⟨⟨Int.le_refl _, by assumption, trivial⟩, fun s hs => by rw [List.mem_singleton.1 hs]⟩
  · exact ⟨trivial, fun s hs => by cases hs⟩
theorem parts_up {first last : Int} (hfl : first ≤ last) : ∀ (ins : List EvP) (a : Int) (e : EvP), first ≤ a → a ≤ last → (∀ x ∈ ins, a ≤ placeP first last x) → ins.Pairwise (fun a b => a.tm ≤ b.tm) → SegsUp a (partsG first last a e ins)
  | [], a, e, _, _, _, _ => (segI_up a last e).1
  | f :: l, a, e, h1, h2, h3, h4 => by
    rw [List.pairwise_cons] at h4
    obtain ⟨b1, b2⟩ := place_bd hfl f
    have ih := parts_up hfl l (placeP first last f) f b1 b2 (fun x hx => place_mono (h4.1 x hx)) h4.2
    exact segsUp_append (segI_up a _ e).1 (fun s hs => by rw [(segI_up a _ e).2 s hs]; exact Int.le_refl _) (h3 f (by simp)) ih
/-- The seconds of parts. -/
def InS (l : List SegP) (t : Int) : Prop := ∃ s, s ∈ l ∧ s.fr ≤ t ∧ t < s.to
theorem inS_append (l m : List SegP) (t : Int) : InS (l ++ m) t ↔ InS l t ∨ InS m t := by
  constructor
  · rintro ⟨s, hs, h⟩
    rcases List.mem_append.1 hs with hs | hs
    · exact .inl ⟨s, hs, h⟩
    · exact .inr ⟨s, hs, h⟩
  · rintro (⟨s, hs, h⟩ | ⟨s, hs, h⟩)
    · exact ⟨s, List.mem_append.2 (.inl hs), h⟩
    · exact ⟨s, List.mem_append.2 (.inr hs), h⟩
theorem inS_segI (a b : Int) (e : EvP) (t : Int) : InS (segI a b e) t ↔ a ≤ t ∧ t < b := by
  unfold segI
  split
  · constructor
    · rintro ⟨s, hs, h⟩
      rw [List.mem_singleton.1 hs] at h
      exact h
    · intro h
      exact ⟨_, List.mem_singleton.2 rfl, h⟩
  · constructor
    · rintro ⟨s, hs, h⟩; cases hs
    · intro h; omega
theorem parts_in {first last : Int} (hfl : first ≤ last) : ∀ (ins : List EvP) (a : Int) (e : EvP) (t : Int), first ≤ a → a ≤ last → (∀ x ∈ ins, a ≤ placeP first last x) → ins.Pairwise (fun a b => a.tm ≤ b.tm) → (InS (partsG first last a e ins) t ↔ a ≤ t ∧ t < last)
  | [], a, e, t, _, _, _, _ => inS_segI a last e t
  | f :: l, a, e, t, h1, h2, h3, h4 => by
    rw [List.pairwise_cons] at h4
    obtain ⟨b1, b2⟩ := place_bd hfl f
    have h5 := h3 f (by simp)
    show InS (segI a (placeP first last f) e ++ partsG first last (placeP first last f) f l) t ↔ _
    rw [inS_append, inS_segI, parts_in hfl l (placeP first last f) f t b1 b2 (fun x hx => place_mono (h4.1 x hx)) h4.2]
    omega
theorem sess_up {cap lo : Int} {R : Int → Int} (hR : ∀ a b, a ≤ b → R a ≤ R b) {e : EvP} {ins : List EvP} {to fl : Int} {r : List ItemP} (h : ItemsUp cap lo (.sess e ins to fl :: r)) :
    SegsUp (R e.tm) (segsI R (.sess e ins to fl)) ∧ (∀ s ∈ segsI R (.sess e ins to fl), R e.tm ≤ s.fr ∧ s.fr < s.to ∧ s.to ≤ R to) ∧ ∀ t, InS (segsI R (.sess e ins to fl)) t ↔ R e.tm ≤ t ∧ t < R to := by
  obtain ⟨⟨h1, h2, h3⟩, h4, h5, h6, _, _⟩ := h
  have hfl := hR _ _ h2
  exact ⟨parts_up hfl ins _ e (Int.le_refl _) hfl (fun x hx => (place_bd hfl x).1) h6, fun s hs => parts_win ins _ e (Int.le_refl _) s hs, fun t => parts_in hfl ins _ e t (Int.le_refl _) hfl (fun x hx => (place_bd hfl x).1) h6⟩
theorem segs_up {cap : Int} {R : Int → Int} (hR : ∀ a b, a ≤ b → R a ≤ R b) : ∀ (l : List ItemP) (lo : Int), ItemsUp cap lo l → SegsUp (R lo) (segsS R l)
  | [], _, _ => trivial
  | .out e :: r, lo, h => by
    rw [segsS_cons]
    exact segs_up hR r lo h.2
  | .sess e ins to fl :: r, lo, h => by
    rw [segsS_cons]
    obtain ⟨u1, u2, _⟩ := sess_up hR h
    obtain ⟨⟨h1, h2, h3⟩, _, _, _, _, h7⟩ := h
    have a1 := hR _ _ h1
    have a2 := hR _ _ h2
    exact segsUp_append (segsUp_less u1 a1) (fun s hs => (u2 s hs).2.2) (by omega) (segs_up hR r to h7)
end Go.Proofs.YtpgncbhahocmbaaGreat

namespace Go.Proofs.YtpgncbhahocmbaaGreat
set_option linter.unusedVariables false
set_option linter.unusedSimpArgs false

/-! ### Rounding, everywhere -/
theorem roundP_up {t u : Int} (hu : 1 ≤ u) (hu' : u ≤ 100000000) : roundP t u = min (u * (timeP t / u) + (if u - timeP t % u ≤ timeP t % u then u else 0)) 32054400 := by
  obtain ⟨e, e1, e2⟩ := round_div (n := timeP t) hu
  have hb := time_bd t
  unfold roundP
  rw [if_neg (show ¬ u < 1 by omega)]
  split
  · omega
  · omega
theorem roundP_mono {u : Int} (hu : 1 ≤ u) (hu' : u ≤ 100000000) : ∀ a b : Int, a ≤ b → roundP a u ≤ roundP b u := by
  intro a b hab
  obtain ⟨e, e1, e2⟩ := round_div (n := timeP a) hu
  obtain ⟨f, f1, f2⟩ := round_div (n := timeP b) hu
  have ht : timeP a ≤ timeP b := by unfold timeP; omega
  rw [roundP_up hu hu', roundP_up hu hu']
  generalize timeP a = x at *
  generalize timeP b = y at *
  have hq : x / u ≤ y / u := Int.ediv_le_ediv (by omega) ht
  rcases Int.lt_or_le (x / u) (y / u) with q | q
  · have : u * (x / u) + u ≤ u * (y / u) := by
      have := Int.mul_le_mul_of_nonneg_left (show x / u + 1 ≤ y / u by omega) (show 0 ≤ u by omega)
      rw [Int.mul_add, Int.mul_one] at this
      exact this
    split <;> split <;> omega
  · have : x / u = y / u := by omega
    rw [this] at e ⊢
    split <;> split <;> omega
theorem roundP_near {t u : Int} (h0 : 0 ≤ t) (h1 : t ≤ 32054400) (hu : 1 ≤ u) (hu' : u ≤ 100000000) : 2 * (roundP t u - t) ≤ u ∧ 2 * (t - roundP t u) < u ∧ 0 ≤ roundP t u ∧ roundP t u ≤ 32054400 := by
  obtain ⟨e, e1, e2⟩ := round_div (n := timeP t) hu
  have ht : timeP t = t := by unfold timeP; omega
  rw [roundP_up hu hu']
  rw [ht] at e e1 e2 ⊢
  have : 0 ≤ u * (t / u) := Int.mul_nonneg (by omega) (Int.ediv_nonneg h0 (by omega))
  split <;> omega
/-! ### Near -/
/-! ### Clocks: punches alone -/
/-! ### Flags -/
def openN : StP → Nat
  | none => 0
  | some _ => 1
/-! ### Rounding -/
/-! ### The order of events -/
/-- A worker's events: those that may be, of that worker, and no faults. -/
def ofW (may : EvP → Bool) (wk : Int) (e : EvP) : Bool := may e && decide (e.wk = wk) && decide (e.kd ≠ 7)
def wevs (may : EvP → Bool) (wk : Int) (l : List EvP) : List EvP := (sortE l).filter (ofW may wk)
theorem wevs_risen (may : EvP → Bool) (wk : Int) (l : List EvP) : Risen (wevs may wk l) := risen_filter _ _ (ev_sort_risen l)
theorem wevs_mem (may : EvP → Bool) (wk : Int) (l : List EvP) (e : EvP) : e ∈ wevs may wk l ↔ e ∈ l ∧ ofW may wk e = true := by
  unfold wevs
  rw [List.mem_filter, (ev_sort_perm l).mem_iff]
theorem risen_times : ∀ {l : List EvP}, Risen l → l.Pairwise (fun a b => a.tm ≤ b.tm)
  | [], _ => List.Pairwise.nil
  | a :: l, ⟨h1, h2⟩ => List.pairwise_cons.2 ⟨fun b hb => by
    have := h1 b hb
    simp only [lessE, decide_eq_false_iff_not] at this
    omega, risen_times h2⟩
end Go.Proofs.YtpgncbhahocmbaaGreat
