/-
  A region that draws its order, by one word that holds whatever has come up: each operation keeps it, and where all have come up it gives what is asked. Over any program.
-/
import Derived.Deep.RegionHeld3
import Derived.Test.YtdhkfhgggkndoaaBase
namespace Go.Proofs.Ytdhkfhgggkndoaa
open Go.RowKit
set_option linter.unusedVariables false
/-- A slot that holds a value known. -/
def Fix (v x : Value) (w : World) : Prop := v = x
theorem Fix.below {v x : Value} {w w' : World} (h : Fix v x w) (_ : Below w.heap.size w w') : Fix v x w' := h

/-- How many have not come up. -/
def unlB : List Bool → Nat
  | [] => 0
  | b :: l => unlB l + (if b then 0 else 1)
theorem unlB_set : ∀ (l : List Bool) (i : Nat), l.getD i true = false → unlB (l.set i true) + 1 = unlB l
  | [], i, h => by simp at h
  | b :: l, 0, h => by simp at h; subst h; simp [unlB]
  | b :: l, i + 1, h => by
    have := unlB_set l i (by simpa using h)
    simp only [List.set_cons_succ, unlB]
    omega
theorem unlB_zero : ∀ (l : List Bool) (i : Nat), unlB l = 0 → l.getD i true = true
  | [], i, h => by simp
  | b :: l, 0, h => by
    simp only [unlB] at h
    cases b
    · simp at h
    · rfl
  | b :: l, i + 1, h => by
    simp only [unlB] at h
    have := unlB_zero l i (by omega)
    simpa using this

section
variable {P : Program} {ops : Array Oper} {Q : Exit → Act → World → Prop} {md : Region.Mode} {S : World → Prop}

/-- What the word I asks of one operation. -/
def StepAt (P : Program) (md : Region.Mode) (ops : Array Oper) (Q : Exit → Act → World → Prop) (I : Array Bool → Act → World → Prop) (i : Nat) (o : Oper) : Prop :=
  ∀ listed a w, I listed a w → listed.getD i true = false → (∀ e ∈ o.after.toList, Region.binds md e = true → listed.getD e.on false = true) →
    ∀ K' : Act → World → Prop, Shut (∀ a w, I (listed.setIfInBounds i true) a w → K' a w) → if Region.wanted o (yielded ops a.tmps) = true then Oper.wp P o a w K' Q else K' (a.put o.dst undef) w
def StepsFrom (P : Program) (md : Region.Mode) (ops : Array Oper) (Q : Exit → Act → World → Prop) (I : Array Bool → Act → World → Prop) (k : Nat) (os : List Oper) : Prop :=
  ∀ j o, os[j]? = some o → StepAt P md ops Q I (k + j) o
theorem StepsFrom.nil {I : Array Bool → Act → World → Prop} {k : Nat} : StepsFrom P md ops Q I k [] := fun j o h => by simp at h
theorem StepsFrom.cons {I : Array Bool → Act → World → Prop} {k : Nat} {o : Oper} {os : List Oper} (h : StepAt P md ops Q I k o) (hs : StepsFrom P md ops Q I (k + 1) os) : StepsFrom P md ops Q I k (o :: os) := fun j p hp => by
  rcases j with _ | j
  · simp at hp; subst hp; exact h
  · have := hs j p (by simpa using hp)
    rwa [Nat.add_right_comm] at this

theorem wpAnyH_inv (I : Array Bool → Act → World → Prop) (hS : ∀ listed a w, I listed a w → S w) (steps : StepsFrom P md ops Q I 0 ops.toList)
    (fin : ∀ listed a w, I listed a w → Region.ready md ops listed = [] → Q .normal a w) :
    ∀ (fuel : Nat) (listed : Array Bool) (a : Act) (w : World), unlB listed.toList ≤ fuel → I listed a w → wpAnyH P md ops Q S fuel listed a w := by
  intro fuel
  induction fuel with
  | zero =>
    intro listed a w hu hI
    have hr : Region.ready md ops listed = [] := by
      apply List.eq_nil_iff_forall_not_mem.2
      intro j hj
      have h1 := (mem_ready.1 hj).1
      have h2 := unlB_zero listed.toList j (by omega)
      have e : listed.getD j true = listed.toList.getD j true := by
        rw [Array.getD_eq_getD_getElem?, List.getD_eq_getElem?_getD, Array.getElem?_toList]
      rw [e, h2] at h1
      cases h1
    exact ⟨hr, fin _ _ _ hI hr⟩
  | succ fuel ih =>
    intro listed a w hu hI
    refine ⟨fin _ _ _ hI, fun i hi => ?_⟩
    obtain ⟨h0, o, ho, hall⟩ := mem_ready.1 hi
    have hst := steps i o (by rw [Array.getElem?_toList]; exact ho) listed a w hI (by rw [Nat.zero_add]; exact h0) (fun e he hb => hall e (by simpa using he) hb)
    rw [Nat.zero_add] at hst
    refine wpOp_step ho (fun K' hK => hst K' (fun a' w' hI' => hK a' w' ⟨hS _ _ _ hI', ih _ _ _ ?_ hI'⟩))
    have e : listed.getD i true = listed.toList.getD i true := by
      rw [Array.getD_eq_getD_getElem?, List.getD_eq_getElem?_getD, Array.getElem?_toList]
    have := unlB_set listed.toList i (by rw [← e]; exact h0)
    rw [Array.toList_setIfInBounds]
    omega
/-- Where nothing can come up: an operation all of whose forerunners have come up has come up. -/
theorem all_up {listed : Array Bool} (hr : Region.ready md ops listed = []) (i : Nat) {o : Oper} (ho : ops[i]? = some o) (hp : ∀ e ∈ o.after.toList, Region.binds md e = true → listed.getD e.on false = true) : listed.getD i true = true := by
  cases h : listed.getD i true with
  | true => rfl
  | false =>
    have : i ∈ Region.ready md ops listed := mem_ready.2 ⟨h, o, ho, fun e he hb => hp e (by simpa using he) hb⟩
    rw [hr] at this
    cases this
/-- Some slots of a frame, some marks of a list, by letters. -/
def putsA : Act → List Tmp → List Value → Act
  | a, d :: ds, v :: vs => putsA (a.put (some d) v) ds vs
  | a, _, _ => a
def setsB : Array Bool → List Nat → List Bool → Array Bool
  | l, i :: is, b :: bs => setsB (l.setIfInBounds i b) is bs
  | l, _, _ => l
theorem wpAnyH_lit {fuel fuel' : Nat} {listed l : Array Bool} {a : Act} {w : World} (hf : fuel = fuel') (h : listed = l) (k : wpAnyH P md ops Q S fuel' l a w) : wpAnyH P md ops Q S fuel listed a w := by
  subst hf h; exact k
/-- The word, by letters for what the operations that are left write. -/
def LetI (l0 : Array Bool) (a0 : Act) (slots : List Tmp) (idx : List Nat) (F : List Value → List Bool → World → Prop) (listed : Array Bool) (a : Act) (w : World) : Prop :=
  ∃ vs bs, listed = setsB l0 idx bs ∧ a = putsA a0 slots vs ∧ F vs bs w
theorem wpAnyH_letters (slots : List Tmp) (idx : List Nat) (F : List Value → List Bool → World → Prop) {fuel : Nat} {l0 : Array Bool} {a0 : Act} {w0 : World}
    (hS : ∀ vs bs w, F vs bs w → S w) (hu : unlB l0.toList ≤ fuel) (vs0 : List Value) (bs0 : List Bool) (h1 : l0 = setsB l0 idx bs0) (h2 : a0 = putsA a0 slots vs0) (hF : F vs0 bs0 w0)
    (steps : StepsFrom P md ops Q (LetI l0 a0 slots idx F) 0 ops.toList)
    (fin : ∀ listed a w, LetI l0 a0 slots idx F listed a w → Region.ready md ops listed = [] → Q .normal a w) : wpAnyH P md ops Q S fuel l0 a0 w0 :=
  wpAnyH_inv (LetI l0 a0 slots idx F) (fun _ _ _ ⟨_, _, _, _, h⟩ => hS _ _ _ h) steps fin fuel l0 a0 w0 hu ⟨vs0, bs0, h1, h2, hF⟩
end
end Go.Proofs.Ytdhkfhgggkndoaa
