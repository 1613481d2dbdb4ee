/-
  What event.own tells of a kind: pointers to that kind's own numbers.
-/
import Derived.Test.YtdhkfhgggkndoaaEvOwn
import Derived.Test.YtdhkfhgggkndoaaEvKit
import Derived.Test.YtdhkfhgggkndoaaNums
namespace Go.Proofs.Ytdhkfhgggkndoaa
open Go.RowKit
set_option linter.unusedVariables false
set_option linter.unusedSimpArgs false

/-- Where a kind's own numbers stand. -/
def ownL (k : Int) : List Nat := if k = 3 then [4, 5, 6, 7, 8, 9] else if k = 4 then [10] else []
def knownK (k : Int) : Bool := decide (1 ≤ k ∧ k ≤ 7)
/-- A slice value over A reads as pointers into block g, at the places L. -/
def EPtrs (w : World) (A : Option Addr) (g : Nat) (L : List Nat) : Prop := ∀ k, k < L.length → ∃ b off, A = some ⟨b, off, none⟩ ∧ w.cell? ⟨b, off + k, none⟩ = some (ptrV g (L.getD k 0))
section
variable {w w' : World} {A : Option Addr} {g : Nat} {L : List Nat}
theorem EPtrs.keep (h : EPtrs w A g L) (hk : ∀ p : Addr, p.block < w.heap.size → w'.cell? p = w.cell? p) : EPtrs w' A g L := by
  intro k hl
  obtain ⟨b, off, e, hc⟩ := h k hl
  exact ⟨b, off, e, (hk _ (cell_lt hc)).trans hc⟩
theorem EPtrs.below (h : EPtrs w A g L) (hb : Below w.heap.size w w') : EPtrs w' A g L := h.keep fun _ hp => hb.cell hp
theorem EPtrs.alloc (h : EPtrs w A g L) (o : Obj) : EPtrs (w.alloc o) A g L := h.keep fun p hp => World.cell?_alloc_lt w o p hp
theorem EPtrs.drew (h : EPtrs w A g L) : EPtrs w.drew A g L := h
/-- .. and lies at B or behind. -/
def EPtrsN (B : Nat) (w : World) (A : Option Addr) (g : Nat) (L : List Nat) : Prop := ∀ k, k < L.length → ∃ b off, A = some ⟨b, off, none⟩ ∧ B ≤ b ∧ b < w.heap.size ∧ w.cell? ⟨b, off + k, none⟩ = some (ptrV g (L.getD k 0))
theorem EPtrsN.keep {B : Nat} (h : EPtrsN B w A g L) (hs : w.heap.size ≤ w'.heap.size) (hk : ∀ p : Addr, B ≤ p.block → p.block < w.heap.size → w'.cell? p = w.cell? p) : EPtrsN B w' A g L := by
  intro k hl
  obtain ⟨b, off, e, hB, hlt, hc⟩ := h k hl
  exact ⟨b, off, e, hB, by omega, (hk _ hB hlt).trans hc⟩
theorem EPtrsN.below {B : Nat} (h : EPtrsN B w A g L) (hb : Below w.heap.size w w') : EPtrsN B w' A g L := h.keep hb.size fun _ _ hp => hb.cell hp
theorem EPtrsN.drew {B : Nat} (h : EPtrsN B w A g L) : EPtrsN B w.drew A g L := h
end
theorem ptrs_of_has {w : World} {B p g : Nat} {L : List Nat} (h : Has w p ((L.map (ptrV g)).toArray)) (hp : B ≤ p) : EPtrsN B w (some ⟨p, 0, none⟩) g L := by
  intro k hk
  refine ⟨p, 0, rfl, hp, h.size, ?_⟩
  rw [Nat.zero_add]
  exact h.cell k (by simp [List.getD, hk])
theorem ptrs_nil (B : Nat) (w : World) (A : Option Addr) (g : Nat) : EPtrsN B w A g [] := fun k hk => by simp at hk
/-- What 'own(&e)[k]' reads. -/
def OwnAt (W : World) (g : Nat) (e : Ending) (w : World) : Prop :=
  ∃ m, e = .returned (.map (some m)) ∧ Below W.heap.size W w ∧ ∀ k : Int, (-9223372036854775808 ≤ k ∧ k ≤ 9223372036854775807) → ∃ A n c, (ownL k).length = n ∧ n ≤ 6 ∧ n ≤ c ∧ c ≤ 6 ∧ EPtrsN W.heap.size w A g (ownL k) ∧
    (Instr.lookup 80 (.map (some m)) (.int .i64 k) true).run Try.prog w = .ok (.tuple #[.slice A n c, .bool (knownK k)]) w ∧ (Instr.lookup 80 (.map (some m)) (.int .i64 k) false).run Try.prog w = .ok (.slice A n c) w
theorem own_at {W : World} {g : Nat} {e : Ending} {w : World} (h : OwnMap W g e w) : OwnAt W g e w := by
  obtain ⟨m, n, p, q, rfl, hb, hm, hp, hq, hP, hQ, hM⟩ := h
  refine ⟨m, rfl, hb, fun k hk => ?_⟩
  obtain ⟨h1, h2⟩ := hM.look (e := 79) Try.underlying80 (Try.zeroValue79 w) hk
  by_cases k3 : k = 3
  · subst k3
    exact ⟨_, 6, 6, rfl, by omega, by omega, by omega, ptrs_of_has (by exact hP) hp, h1, h2⟩
  · by_cases k4 : k = 4
    · subst k4
      exact ⟨_, 1, 1, rfl, by omega, by omega, by omega, ptrs_of_has (by exact hQ) hq, h1, h2⟩
    · have e0 : ownL k = [] := by simp [ownL, k3, k4]
      refine ⟨none, 0, 0, by rw [e0]; rfl, by omega, by omega, by omega, by rw [e0]; exact ptrs_nil _ _ _ _, ?_, ?_⟩
      · rw [h1]
        by_cases hkn : 1 ≤ k ∧ k ≤ 7
        · have hc : k = 1 ∨ k = 2 ∨ k = 5 ∨ k = 6 ∨ k = 7 := by omega
          rcases hc with rfl | rfl | rfl | rfl | rfl <;> rfl
        · have n1 : k ≠ 1 := by omega
          have n2 : k ≠ 2 := by omega
          have n5 : k ≠ 5 := by omega
          have n6 : k ≠ 6 := by omega
          have n7 : k ≠ 7 := by omega
          simp [mapF, n1, n2, n5, n6, n7, k3, k4, toldV, knownK, hkn]
      · rw [h2]
        by_cases hkn : 1 ≤ k ∧ k ≤ 7
        · have hc : k = 1 ∨ k = 2 ∨ k = 5 ∨ k = 6 ∨ k = 7 := by omega
          rcases hc with rfl | rfl | rfl | rfl | rfl <;> rfl
        · have n1 : k ≠ 1 := by omega
          have n2 : k ≠ 2 := by omega
          have n5 : k ≠ 5 := by omega
          have n6 : k ≠ 6 := by omega
          have n7 : k ≠ 7 := by omega
          simp [mapF, n1, n2, n5, n6, n7, k3, k4, toldV]
theorem own_c (g : Nat) (W : World) : Calls Try.prog 48 #[.pointer (some ⟨g, 0, none⟩)] W (OwnAt W g) := (own_any g W).mono fun _ _ h => own_at h

/-! ### an event's numbers as a list -/
def evL (e : EvP) : List Int := [e.id, e.wk, e.tm, e.kd, e.fr, e.to, e.el, e.un, e.cl, e.ge, e.cd]
theorem evC_L (e : EvP) : evC e = (ints .i64 (evL e)).toArray := rfl
def evOf (l : List Int) : EvP := ⟨l.getD 0 0, l.getD 1 0, l.getD 2 0, l.getD 3 0, l.getD 4 0, l.getD 5 0, l.getD 6 0, l.getD 7 0, l.getD 8 0, l.getD 9 0, l.getD 10 0⟩
theorem evL_Of {l : List Int} (h : l.length = 11) : evL (evOf l) = l := by
  match l, h with
  | [a, b, c, d, e, f, g, i, j, k, m], _ => rfl
theorem ev_nums (e : EvP) : e.nums = [e.id, e.wk, e.tm, e.kd] ++ (ownL e.kd).map (fun o => (evL e).getD o 0) := by
  unfold EvP.nums ownL
  by_cases h3 : e.kd = 3
  · have h4 : e.kd ≠ 4 := by omega
    simp [h3, evL]
  · by_cases h4 : e.kd = 4 <;> simp [h3, h4, evL]
theorem ownL_lt {k : Int} {o : Nat} (h : o ∈ ownL k) : 4 ≤ o ∧ o < 11 := by
  unfold ownL at h
  split at h
  · simp at h; omega
  · split at h
    · simp at h; omega
    · simp at h
theorem ownL_nodup (k : Int) : (ownL k).Nodup := by
  unfold ownL
  split
  · decide
  · split <;> decide
end Go.Proofs.Ytdhkfhgggkndoaa
