/-
  Arguments of bytes opened; slices of bytes from a place on.
-/
import Derived.Test.YtdhkfhgggkndoaaByts
import Derived.OpenShut
import Derived.Laws.Cover1
namespace Go.Proofs.Ytdhkfhgggkndoaa
open Go.RowKit
set_option linter.unusedVariables false

/-- What came in as a slice of bytes. -/
theorem bytes_of_row {w : World} {a : Option Addr} {len cap : Nat} {zs : List Int} (h : IsRow .u8 w a len cap zs) : ∃ l : List (BitVec 8), l.length = len ∧ Sl 1 w a len cap (bytesV l) ∧ len ≤ 9223372036854775807 := by
  obtain ⟨s, hl, hm, hw⟩ := sl_of_row h
  refine ⟨(zs.take len).map fun z => BitVec.ofInt 8 z, by simpa using hl, ?_, hm⟩
  have e : bytesV ((zs.take len).map fun z => BitVec.ofInt 8 z) = ints .u8 (zs.take len) := by
    unfold bytesV ints
    rw [List.map_map]
    apply List.map_congr_left
    intro z hz
    have := bounds_u8 (hw z hz)
    simp only [Function.comp, v8, BitVec.toNat_ofInt]
    congr 1
    omega
  rw [e]
  exact s
theorem bytes_caps {w : World} {a : Option Addr} {len cap : Nat} {zs : List Int} (h : IsRow .u8 w a len cap zs) : len ≤ cap ∧ cap ≤ 9223372036854775807 := by
  rcases h with ⟨_, rfl, rfl, _⟩ | ⟨x, _, hl, hm, _⟩
  · omega
  · unfold maxLen at hm; omega
theorem byts_drop {w : World} {b off : Nat} {l : List (BitVec 8)} (h : Byts w (some ⟨b, off, none⟩) l) (n : Nat) : Byts w (some ⟨b, off + n, none⟩) (l.drop n) := by
  intro k hk
  rw [List.length_drop] at hk
  obtain ⟨b', off', e, hc⟩ := h (n + k) (by omega)
  injection e with e
  injection e with e1 e2 _
  subst e1 e2
  refine ⟨b, off + n, rfl, ?_⟩
  rw [Nat.add_assoc, hc, List.getD_eq_getElem?_getD, List.getD_eq_getElem?_getD, List.getElem?_drop]
/-- The slice 'b[n:]'. -/
theorem sl_drop {w : World} {b off m c : Nat} {l : List (BitVec 8)} (h : Sl 1 w (some ⟨b, off, none⟩) m c (bytesV l)) {n d : Nat} (hn : n ≤ m) {k : Nat} (hk : m - n = k) : Sl 1 w (some ⟨b, off + n, none⟩) k d (bytesV (l.drop n)) := by
  obtain ⟨hl, ⟨h0, _⟩ | ⟨ad, e, hc⟩⟩ := h
  · cases h0
  · injection e with e
    subst e
    rw [bytesV_len] at hl
    refine ⟨by rw [bytesV_len, List.length_drop]; omega, .inr ⟨_, rfl, fun j u hu => ?_⟩⟩
    have e1 : ∀ j, (⟨b, off, none⟩ : Addr).add j = ⟨b, off + j, none⟩ := fun j => by unfold Addr.add; split <;> simp_all
    have e2 : (⟨b, off + n, none⟩ : Addr).add j = ⟨b, off + n + j, none⟩ := by unfold Addr.add; split <;> simp_all
    have := hc (n + j) u (by
      rw [bytesV, List.getElem?_map] at hu ⊢
      rw [List.getElem?_drop] at hu
      exact hu)
    rw [e1] at this
    rw [e2, Nat.add_assoc]
    exact this
/-- What is no empty slice has a place. -/
theorem sl_form {w : World} {A : Option Addr} {m c : Nat} {l : List (BitVec 8)} (h : Sl 1 w A m c (bytesV l)) (hm : 0 < m) : ∃ b off, A = some ⟨b, off, none⟩ := by
  have hl : l.length = m := by have := h.1; rw [bytesV_len] at this; omega
  obtain ⟨b, off, e, _⟩ := byts_of_sl h 0 (by omega)
  exact ⟨b, off, e⟩
theorem Sl.blen {w : World} {A : Option Addr} {m c : Nat} {l : List (BitVec 8)} (h : Sl 1 w A m c (bytesV l)) : l.length = m := by have := h.1; rw [bytesV_len] at this; omega
/-- A new block of bytes, read as a slice. -/
theorem sl_new (w : World) (t : TypeId) (l : List (BitVec 8)) {s n c : Nat} (hs : w.heap.size = s) (hn : l.length = n) : Sl 1 (w.alloc (.cells (bytesV l).toArray t)) (some ⟨s, 0, none⟩) n c (bytesV l) := by
  subst hn
  exact sl_of_has (Has.new w t _ hs)
end Go.Proofs.Ytdhkfhgggkndoaa
