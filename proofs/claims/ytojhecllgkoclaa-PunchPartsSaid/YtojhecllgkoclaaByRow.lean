/-
  Slices of bytes of the call's own: append, store, cut.
-/
import Derived.Test.YtojhecllgkoclaaProg
import Derived.Test.YtojhecllgkoclaaByts
import Derived.Test.YtojhecllgkoclaaOrders
namespace Go.Proofs.Ytojhecllgkoclaa
open Go.RowKit
set_option linter.unusedVariables false

/-- A slice of the call's own, that lies at 'base' or behind, and holds the bytes xs. -/
def BRow (w : World) (base : Nat) (A : Option Addr) (c : Nat) (xs : List (BitVec 8)) : Prop :=
  w.ownsRow base 5 1 (.slice A xs.length c) xs.length (bytesV xs)
section
variable {w w' : World} {base c : Nat} {A : Option Addr} {xs : List (BitVec 8)}
theorem BRow.nil (w : World) (base : Nat) : BRow w base none 0 [] := World.ownsRow_nil w base _ _
theorem BRow.keep (h : BRow w base A c xs) (hk : ∀ g, A = some g → w'.heap[g.block]? = w.heap[g.block]?) : BRow w' base A c xs := by
  obtain ⟨hl, hn | ⟨g, cap, cur, hv, hg, hh, rest⟩⟩ := h
  · exact ⟨hl, .inl hn⟩
  · injection hv with e1 e2 e3
    subst e1
    exact ⟨hl, .inr ⟨g, cap, cur, by rw [e3], hg, (hk _ rfl).trans hh, rest⟩⟩
theorem BRow.lt (h : BRow w base A c xs) : ∀ g, A = some g → base ≤ g.block ∧ g.block < w.heap.size := by
  rintro g rfl
  exact World.ownsRow.lt h _ rfl
theorem BRow.below (h : BRow w base A c xs) (hb : Below w.heap.size w w') : BRow w' base A c xs :=
  h.keep fun g hg => hb.block _ (h.lt g hg).2
theorem BRow.alloc (h : BRow w base A c xs) (o : Obj) : BRow (w.alloc o) base A c xs := World.ownsRow.alloc h o
theorem BRow.drew (h : BRow w base A c xs) : BRow w.drew base A c xs := h
theorem BRow.mono (h : BRow w base A c xs) {b : Nat} (hb : b ≤ base) : BRow w b A c xs := by
  obtain ⟨hl, hn | ⟨g, cap, cur, hv, hg, rest⟩⟩ := h
  · exact ⟨hl, .inl hn⟩
  · exact ⟨hl, .inr ⟨g, cap, cur, hv, by omega, rest⟩⟩
theorem BRow.forms (h : BRow w base A c xs) : (A = none ∧ xs = [] ∧ c = 0) ∨ ∃ g, A = some ⟨g, 0, none⟩ ∧ base ≤ g ∧ g < w.heap.size ∧ xs.length ≤ c ∧ c ≤ maxLen := by
  have hlt := h.lt
  obtain ⟨hl, ⟨hv, hz⟩ | ⟨g, cap, cur, hv, hb, hh, hc, hm, _⟩⟩ := h
  · injection hv with e1 e2 e3
    exact .inl ⟨e1, List.eq_nil_of_length_eq_zero hz, e3⟩
  · injection hv with e1 e2 e3
    subst e1 e3
    exact .inr ⟨g, rfl, hb, (hlt _ rfl).2, hc, hm⟩
theorem BRow.sl (h : BRow w base A c xs) : Sl 1 w A xs.length c (bytesV xs) := Sl.of_own h
end

theorem BRow.cap_le {w : World} {base c : Nat} {A : Option Addr} {xs : List (BitVec 8)} (h : BRow w base A c xs) {n : Nat} (hn : xs.length = n) : n ≤ c := by
  subst hn
  rcases h.forms with ⟨_, rfl, _⟩ | ⟨g, _, _, _, h, _⟩
  · simp
  · exact h
theorem BRow.slAt {w : World} {base c : Nat} {A : Option Addr} {xs : List (BitVec 8)} (h : BRow w base A c xs) {n : Nat} (hn : xs.length = n) : Sl 1 w A n c (bytesV xs) := by
  subst hn
  exact h.sl
end Go.Proofs.Ytojhecllgkoclaa
