/-
  Slices of bytes as lists of words of 8 bits; slices of such slices. Over any program.
-/
import Derived.Test.YtojhecllgkoclaaHas
import Derived.Test.YtojhecllgkoclaaCrcBits
namespace Go.Proofs.Ytojhecllgkoclaa
open Go.RowKit
set_option linter.unusedVariables false

/-- A slice value over A reads as the bytes l. -/
def Byts (w : World) (A : Option Addr) (l : List (BitVec 8)) : Prop :=
  ∀ k, k < l.length → ∃ b off, A = some ⟨b, off, none⟩ ∧ w.cell? ⟨b, off + k, none⟩ = some (v8 (l.getD k 0#8))
/-- A slice value over A reads as the slices of bytes ps. -/
def Parts (w : World) (A : Option Addr) (ps : List (List (BitVec 8))) : Prop :=
  ∀ k, k < ps.length → ∃ g B c, A = some ⟨g, 0, none⟩ ∧ w.cell? ⟨g, k, none⟩ = some (.slice B (ps.getD k []).length c) ∧ Byts w B (ps.getD k []) ∧ (ps.getD k []).length ≤ 9223372036854775807

section
variable {w w' : World} {A : Option Addr} {l : List (BitVec 8)} {ps : List (List (BitVec 8))}
theorem Byts.keep (h : Byts w A l) (hk : ∀ p : Addr, p.block < w.heap.size → w'.cell? p = w.cell? p) : Byts w' A l := by
  intro k hl
  obtain ⟨b, off, e, hc⟩ := h k hl
  exact ⟨b, off, e, (hk _ (cell_lt hc)).trans hc⟩
theorem Byts.below (h : Byts w A l) (hb : Below w.heap.size w w') : Byts w' A l := h.keep fun _ hp => hb.cell hp
theorem Byts.alloc (h : Byts w A l) (o : Obj) : Byts (w.alloc o) A l := h.keep fun p hp => World.cell?_alloc_lt w o p hp
theorem Byts.drew (h : Byts w A l) : Byts w.drew A l := h
theorem Parts.keep (h : Parts w A ps) (hk : ∀ p : Addr, p.block < w.heap.size → w'.cell? p = w.cell? p) : Parts w' A ps := by
  intro k hl
  obtain ⟨g, B, c, e, hc, hB, hm⟩ := h k hl
  exact ⟨g, B, c, e, (hk _ (cell_lt hc)).trans hc, hB.keep hk, hm⟩
theorem Parts.below (h : Parts w A ps) (hb : Below w.heap.size w w') : Parts w' A ps := h.keep fun _ hp => hb.cell hp
theorem Parts.alloc (h : Parts w A ps) (o : Obj) : Parts (w.alloc o) A ps := h.keep fun p hp => World.cell?_alloc_lt w o p hp
theorem Parts.drew (h : Parts w A ps) : Parts w.drew A ps := h
end

/-- A slot that holds a slice of slices of bytes. -/
def PartsV (v : Value) (n : Nat) (ps : List (List (BitVec 8))) (w : World) : Prop := ∃ A c, v = .slice A n c ∧ Parts w A ps
theorem PartsV.below {v : Value} {n : Nat} {ps : List (List (BitVec 8))} {w w' : World} (h : PartsV v n ps w) (hb : Below w.heap.size w w') : PartsV v n ps w' := by
  obtain ⟨A, c, e, hp⟩ := h
  exact ⟨A, c, e, hp.below hb⟩
end Go.Proofs.Ytojhecllgkoclaa
