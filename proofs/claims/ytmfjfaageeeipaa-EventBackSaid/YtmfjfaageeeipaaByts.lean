/-
  Slices of bytes as lists of words of 8 bits; slices of such slices. Over any program.
-/
import Derived.Test.YtmfjfaageeeipaaHas
import Derived.Test.YtmfjfaageeeipaaCrcBits
namespace Go.Proofs.Ytmfjfaageeeipaa
open Go.RowKit
set_option linter.unusedVariables false

/-- A slice value over A reads as the bytes l. -/
def Byts (w : World) (A : Option Addr) (l : List (BitVec 8)) : Prop :=
  ∀ k, k < l.length → ∃ b off, A = some ⟨b, off, none⟩ ∧ w.cell? ⟨b, off + k, none⟩ = some (v8 (l.getD k 0#8))
/-- A slice value over A reads as the slices of bytes ps. -/
def Parts (w : World) (A : Option Addr) (ps : List (List (BitVec 8))) : Prop :=
  ∀ k, k < ps.length → ∃ g B c, A = some ⟨g, 0, none⟩ ∧ w.cell? ⟨g, k, none⟩ = some (.slice B (ps.getD k []).length c) ∧ Byts w B (ps.getD k []) ∧ (ps.getD k []).length ≤ 9223372036854775807

section
variable {w w' : World} {A : Option Addr} {l : List (BitVec 8)} {ps : List (List (BitVec 8))}
theorem Byts.keep (h : Byts w A l) (hk : ∀ p : Addr, p.block < w.heap.size → w'.cell? p = w.cell? p) : Byts w' A l := by
  intro k hl
  obtain ⟨b, off, e, hc⟩ := h k hl
  exact ⟨b, off, e, (hk _ (cell_lt hc)).trans hc⟩
theorem Byts.below (h : Byts w A l) (hb : Below w.heap.size w w') : Byts w' A l := h.keep fun _ hp => hb.cell hp
theorem Byts.alloc (h : Byts w A l) (o : Obj) : Byts (w.alloc o) A l := h.keep fun p hp => World.cell?_alloc_lt w o p hp
theorem Byts.drew (h : Byts w A l) : Byts w.drew A l := h
theorem Byts.drewN (h : Byts w A l) (n : Nat) : Byts (w.drewN n) A l := h
theorem Byts.nil_ : Byts w A [] := fun k h => by simp at h
theorem Byts.take (h : Byts w A l) (n : Nat) : Byts w A (l.take n) := by
  intro k hk
  rw [List.length_take] at hk
  obtain ⟨b, off, e, hc⟩ := h k (by omega)
  refine ⟨b, off, e, ?_⟩
  rw [hc, List.getD_eq_getElem?_getD, List.getD_eq_getElem?_getD, List.getElem?_take, if_pos (by omega)]
theorem Parts.keep (h : Parts w A ps) (hk : ∀ p : Addr, p.block < w.heap.size → w'.cell? p = w.cell? p) : Parts w' A ps := by
  intro k hl
  obtain ⟨g, B, c, e, hc, hB, hm⟩ := h k hl
  exact ⟨g, B, c, e, (hk _ (cell_lt hc)).trans hc, hB.keep hk, hm⟩
theorem Parts.below (h : Parts w A ps) (hb : Below w.heap.size w w') : Parts w' A ps := h.keep fun _ hp => hb.cell hp
theorem Parts.alloc (h : Parts w A ps) (o : Obj) : Parts (w.alloc o) A ps := h.keep fun p hp => World.cell?_alloc_lt w o p hp
theorem Parts.drew (h : Parts w A ps) : Parts w.drew A ps := h
theorem Parts.nil_ : Parts w A [] := fun k h => by simp at h
end

theorem byts_of_sl {w : World} {A : Option Addr} {n c : Nat} {l : List (BitVec 8)} (h : Sl 1 w A n c (bytesV l)) : Byts w A l := by
  intro k hk
  obtain ⟨hl, ⟨_, rfl, _⟩ | ⟨ad, rfl, hc⟩⟩ := h
  · simp [bytesV] at hl
    subst hl
    simp at hk
  · have hk' := hc k (v8 (l.getD k 0#8)) (by simp [bytesV, List.getD, hk])
    obtain ⟨b, off, sp⟩ := ad
    have h0 := hc 0 (v8 (l.getD 0 0#8)) (by simp [bytesV, List.getD, show 0 < l.length by omega])
    have hsp : sp = none := by simpa [Addr.add] using World.cell?_spot h0
    subst hsp
    refine ⟨b, off, rfl, ?_⟩
    have e : (⟨b, off, none⟩ : Addr).add k = ⟨b, off + k, none⟩ := by unfold Addr.add; split <;> simp_all
    rw [← e]
    exact hk'
theorem byts_of_has {w : World} {g : Nat} {l : List (BitVec 8)} (h : Has w g (bytesV l).toArray) : Byts w (some ⟨g, 0, none⟩) l := by
  intro k hk
  refine ⟨g, 0, rfl, ?_⟩
  rw [Nat.zero_add]
  exact h.cell k (by simp [bytesV, List.getD, hk])
theorem sl_of_has {w : World} {g c : Nat} {l : List (BitVec 8)} (h : Has w g (bytesV l).toArray) : Sl 1 w (some ⟨g, 0, none⟩) l.length c (bytesV l) :=
  ⟨by simp [bytesV], .inr ⟨_, rfl, fun j u hu => by
    have e : (⟨g, 0, none⟩ : Addr).add j = ⟨g, j, none⟩ := by unfold Addr.add; split <;> simp_all
    rw [e]
    exact h.cell j (by simpa using hu)⟩⟩

/-- A new slice of one, two, three slices of bytes. -/
theorem parts_one {w : World} {B : Option Addr} {n c : Nat} {l : List (BitVec 8)} (t : TypeId) {s : Nat} (h : Byts w B l) (hl : l.length = n) (hm : n ≤ 9223372036854775807) (hs : w.heap.size = s) :
    Parts (w.alloc (.cells #[.slice B n c] t)) (some ⟨s, 0, none⟩) [l] := by
  subst hl hs
  intro k hk
  obtain rfl : k = 0 := by simp at hk; omega
  exact ⟨_, B, c, rfl, (Has.new w t _ rfl).cell 0 rfl, h.alloc _, hm⟩
theorem parts_two {w : World} {B C : Option Addr} {n c m d : Nat} {l r : List (BitVec 8)} (t : TypeId) {s : Nat} (h : Byts w B l) (hl : l.length = n) (hm : n ≤ 9223372036854775807) (h' : Byts w C r) (hl' : r.length = m) (hm' : m ≤ 9223372036854775807) (hs : w.heap.size = s) :
    Parts (w.alloc (.cells #[.slice B n c, .slice C m d] t)) (some ⟨s, 0, none⟩) [l, r] := by
  subst hl hl' hs
  intro k hk
  rcases k with _ | _ | k
  · exact ⟨_, B, c, rfl, (Has.new w t _ rfl).cell 0 rfl, h.alloc _, hm⟩
  · exact ⟨_, C, d, rfl, (Has.new w t _ rfl).cell 1 rfl, h'.alloc _, hm'⟩
  · simp at hk; omega
theorem parts_three {w : World} {B C D : Option Addr} {n c m d o e : Nat} {l r q : List (BitVec 8)} (t : TypeId) {s : Nat} (h : Byts w B l) (hl : l.length = n) (hm : n ≤ 9223372036854775807) (h' : Byts w C r) (hl' : r.length = m) (hm' : m ≤ 9223372036854775807)
    (h'' : Byts w D q) (hl'' : q.length = o) (hm'' : o ≤ 9223372036854775807) (hs : w.heap.size = s) :
    Parts (w.alloc (.cells #[.slice B n c, .slice C m d, .slice D o e] t)) (some ⟨s, 0, none⟩) [l, r, q] := by
  subst hl hl' hl'' hs
  intro k hk
  rcases k with _ | _ | _ | k
  · exact ⟨_, B, c, rfl, (Has.new w t _ rfl).cell 0 rfl, h.alloc _, hm⟩
  · exact ⟨_, C, d, rfl, (Has.new w t _ rfl).cell 1 rfl, h'.alloc _, hm'⟩
  · exact ⟨_, D, e, rfl, (Has.new w t _ rfl).cell 2 rfl, h''.alloc _, hm''⟩
  · simp at hk; omega
theorem flat_one (l : List (BitVec 8)) : List.flatten [l] = l := by simp
theorem flat_two (l r : List (BitVec 8)) : List.flatten [l, r] = l ++ r := by simp
theorem flat_three (l r q : List (BitVec 8)) : List.flatten [l, r, q] = l ++ r ++ q := by simp
theorem run_snoc (n : BitVec 32) (l : List (BitVec 8)) (k : Nat) (h : k < l.length) : runB n (l.take (k + 1)) = eatB (runB n (l.take k)) (l.getD k 0#8) := by
  rw [List.take_succ_eq_append_getElem h, run_append]
  simp [runB, List.getD, h]
theorem run_parts (n : BitVec 32) (ps : List (List (BitVec 8))) (k : Nat) (h : k < ps.length) : runB n (ps.take (k + 1)).flatten = runB (runB n (ps.take k).flatten) (ps.getD k []) := by
  rw [List.take_succ_eq_append_getElem h, List.flatten_append, run_append]
  simp [List.getD, h]
/-- A slot that holds a slice of slices of bytes. -/
def PartsV (v : Value) (n : Nat) (ps : List (List (BitVec 8))) (w : World) : Prop := ∃ A c, v = .slice A n c ∧ Parts w A ps
theorem PartsV.below {v : Value} {n : Nat} {ps : List (List (BitVec 8))} {w w' : World} (h : PartsV v n ps w) (hb : Below w.heap.size w w') : PartsV v n ps w' := by
  obtain ⟨A, c, e, hp⟩ := h
  exact ⟨A, c, e, hp.below hb⟩
theorem PartsV.elim {v : Value} {n : Nat} {ps : List (List (BitVec 8))} {w : World} (h : PartsV v n ps w) {G : Prop} (k : ∀ A c, v = .slice A n c → Parts w A ps → G) : G := by
  obtain ⟨A, c, e, hp⟩ := h
  exact k A c e hp
theorem PartsV.mk1 {w : World} {B : Option Addr} {n c : Nat} {l : List (BitVec 8)} (t : TypeId) (h : Byts w B l) (hl : l.length = n) (hm : n ≤ 9223372036854775807) :
    PartsV (.slice (some ⟨w.heap.size, 0, none⟩) 1 1) 1 [l] (w.alloc (.cells #[.slice B n c] t)) := ⟨_, _, rfl, parts_one t h hl hm rfl⟩
theorem PartsV.mk2 {w : World} {B C : Option Addr} {n c m d : Nat} {l r : List (BitVec 8)} (t : TypeId) (h : Byts w B l) (hl : l.length = n) (hm : n ≤ 9223372036854775807) (h' : Byts w C r) (hl' : r.length = m) (hm' : m ≤ 9223372036854775807) :
    PartsV (.slice (some ⟨w.heap.size, 0, none⟩) 2 2) 2 [l, r] (w.alloc (.cells #[.slice B n c, .slice C m d] t)) := ⟨_, _, rfl, parts_two t h hl hm h' hl' hm' rfl⟩
end Go.Proofs.Ytmfjfaageeeipaa
