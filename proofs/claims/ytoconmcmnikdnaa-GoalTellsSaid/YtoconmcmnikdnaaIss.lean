/-
  Slices of slices of numbers: read, of the call's own, appended to.
-/
import Derived.Test.YtoconmcmnikdnaaProg
import Derived.Test.YtoconmcmnikdnaaMLow
import Derived.Test.YtoconmcmnikdnaaMTab
namespace Go.Proofs.Ytoconmcmnikdnaa
open Go.RowKit
set_option linter.unusedVariables false

/-- A value that is a slice of the numbers p. -/
def IVal (w : World) (v : Value) (p : List Int) : Prop := ∃ B d, v = .slice B p.length d ∧ Sl 1 w B p.length d (ints .i64 p) ∧ p.length ≤ d
/-- It lies, if it holds anything, in another block than A. -/
def IOff (v : Value) (A : Option Addr) : Prop := ∀ g, A = some g → ∀ B n d, v = .slice (some B) n d → 0 < n → B.block ≠ g.block
/-- Values that are slices of the numbers ps, one by one. -/
def IVals (w : World) (us : List Value) (ps : List (List Int)) : Prop := us.length = ps.length ∧ ∀ k, k < ps.length → IVal w (us.getD k undef) (ps.getD k [])
/-- A slice value reads as the slices of numbers ps. -/
def Iss (w : World) (A : Option Addr) (n c : Nat) (ps : List (List Int)) : Prop := ∃ us, Sl 1 w A n c us ∧ IVals w us ps
/-- A slice of the call's own that holds the slices of numbers ps, as the values us. -/
def IssU (w : World) (base : Nat) (A : Option Addr) (c : Nat) (ps : List (List Int)) (us : List Value) : Prop :=
  w.ownsRow base 27 1 (.slice A ps.length c) ps.length us ∧ IVals w us ps ∧ ∀ u ∈ us, IOff u A
/-- A slice of the call's own that holds the slices of numbers ps. -/
def IssRow (w : World) (base : Nat) (A : Option Addr) (c : Nat) (ps : List (List Int)) : Prop := ∃ us, IssU w base A c ps us

section
variable {w w' : World}
theorem IVal.keep {v : Value} {p : List Int} (h : IVal w v p) (hk : ∀ q : Addr, q.block < w.heap.size → w'.cell? q = w.cell? q) : IVal w' v p := by
  obtain ⟨B, d, e, hs, hd⟩ := h
  exact ⟨B, d, e, hs.keep hk, hd⟩
theorem IVal.below {v : Value} {p : List Int} (h : IVal w v p) (hb : Below w.heap.size w w') : IVal w' v p := h.keep fun _ hp => hb.cell hp
theorem IVals.keep {us : List Value} {ps : List (List Int)} (h : IVals w us ps) (hk : ∀ q : Addr, q.block < w.heap.size → w'.cell? q = w.cell? q) : IVals w' us ps := ⟨h.1, fun k hkl => (h.2 k hkl).keep hk⟩
theorem IVals.below {us : List Value} {ps : List (List Int)} (h : IVals w us ps) (hb : Below w.heap.size w w') : IVals w' us ps := h.keep fun _ hp => hb.cell hp
theorem IVals.nil : IVals w [] [] := ⟨rfl, fun k h => by simp at h⟩
theorem Iss.below {A : Option Addr} {n c : Nat} {ps : List (List Int)} (h : Iss w A n c ps) (hb : Below w.heap.size w w') : Iss w' A n c ps := by
  obtain ⟨us, h1, h2⟩ := h
  exact ⟨us, h1.below hb, h2.below hb⟩
theorem Iss.len {A : Option Addr} {n c : Nat} {ps : List (List Int)} (h : Iss w A n c ps) : ps.length = n := by
  obtain ⟨us, h1, h2⟩ := h
  have := h1.1
  rw [h2.1] at this
  omega
theorem Iss.take {A : Option Addr} {n c : Nat} {ps : List (List Int)} (h : Iss w A n c ps) {m : Nat} (hm : m ≤ n) : Iss w A m c (ps.take m) := by
  have hn := h.len
  obtain ⟨us, ⟨hl, h0⟩, h2⟩ := h
  refine ⟨us.take m, ⟨by rw [List.length_take, hl]; omega, ?_⟩, by rw [List.length_take, List.length_take, h2.1], fun k hk => ?_⟩
  · rcases h0 with ⟨rfl, h0, h1⟩ | ⟨ad, rfl, hc⟩
    · exact .inl ⟨rfl, by omega, h1⟩
    · refine .inr ⟨ad, rfl, fun j u hu => hc j u ?_⟩
      rw [List.getElem?_take] at hu
      split at hu
      · exact hu
      · cases hu
  · rw [List.length_take] at hk
    have := h2.2 k (by omega)
    rw [List.getD_eq_getElem?_getD, List.getD_eq_getElem?_getD, List.getElem?_take, List.getElem?_take, if_pos (by omega), if_pos (by omega), ← List.getD_eq_getElem?_getD, ← List.getD_eq_getElem?_getD]
    exact this
end
section
variable {w w' : World} {base c : Nat} {A : Option Addr} {ps : List (List Int)}
theorem IssRow.nil (w : World) (base : Nat) : IssRow w base none 0 [] := ⟨[], World.ownsRow_nil w base _ _, IVals.nil, fun u hu => by simp at hu⟩
theorem iown_keep {e : TypeId} {n : Nat} {us : List Value} (h : w.ownsRow base e 1 (.slice A n c) n us) (hk : ∀ g, A = some g → w'.heap[g.block]? = w.heap[g.block]?) : w'.ownsRow base e 1 (.slice A n c) n us := by
  obtain ⟨hl, hn | ⟨g, cap, cur, hv, hg, hh, rest⟩⟩ := h
  · exact ⟨hl, .inl hn⟩
  · injection hv with e1 e2 e3
    subst e1
    exact ⟨hl, .inr ⟨g, cap, cur, by rw [e3], hg, (hk _ rfl).trans hh, rest⟩⟩
theorem IssU.below {us : List Value} (h : IssU w base A c ps us) (hb : Below w.heap.size w w') : IssU w' base A c ps us := by
  obtain ⟨h1, h2, h3⟩ := h
  refine ⟨iown_keep h1 fun g hg => ?_, h2.below hb, h3⟩
  subst hg
  exact hb.block _ (World.ownsRow.lt h1 _ rfl).2
theorem IssRow.below (h : IssRow w base A c ps) (hb : Below w.heap.size w w') : IssRow w' base A c ps := by
  obtain ⟨us, h⟩ := h
  exact ⟨us, h.below hb⟩
theorem IssRow.drew (h : IssRow w base A c ps) : IssRow w.drew base A c ps := h
theorem IssRow.mono (h : IssRow w base A c ps) {b : Nat} (hb : b ≤ base) : IssRow w b A c ps := by
  obtain ⟨us, ⟨hl, hn | ⟨g, cap, cur, hv, hg, rest⟩⟩, h2, h3⟩ := h
  · exact ⟨us, ⟨hl, .inl hn⟩, h2, h3⟩
  · exact ⟨us, ⟨hl, .inr ⟨g, cap, cur, hv, by omega, rest⟩⟩, h2, h3⟩
theorem IssRow.lt (h : IssRow w base A c ps) : ∀ g, A = some g → base ≤ g.block ∧ g.block < w.heap.size := by
  obtain ⟨us, h1, _⟩ := h
  rintro g rfl
  exact World.ownsRow.lt h1 _ rfl
end
end Go.Proofs.Ytoconmcmnikdnaa
