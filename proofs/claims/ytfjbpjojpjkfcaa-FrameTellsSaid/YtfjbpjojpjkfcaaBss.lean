/-
  Slices of slices of bytes: read, of the call's own, appended to; arguments opened.
-/
import Derived.Test.YtfjbpjojpjkfcaaProg
import Derived.Test.YtfjbpjojpjkfcaaByRow
import Derived.Test.YtfjbpjojpjkfcaaByOpen
import Derived.Deep.Matrix
namespace Go.Proofs.Ytfjbpjojpjkfcaa
open Go.RowKit
set_option linter.unusedVariables false

/-- A value that is a slice of the bytes p. -/
def PVal (w : World) (v : Value) (p : List (BitVec 8)) : Prop := ∃ B d, v = .slice B p.length d ∧ Sl 1 w B p.length d (bytesV p) ∧ p.length ≤ d
/-- It lies, if it holds anything, in another block than A. -/
def Off (v : Value) (A : Option Addr) : Prop := ∀ g, A = some g → ∀ B n d, v = .slice (some B) n d → 0 < n → B.block ≠ g.block
/-- Values that are slices of the bytes ps, one by one. -/
def PVals (w : World) (us : List Value) (ps : List (List (BitVec 8))) : Prop := us.length = ps.length ∧ ∀ k, k < ps.length → PVal w (us.getD k undef) (ps.getD k [])
/-- A slice value reads as the slices of bytes ps. -/
def Bss (w : World) (A : Option Addr) (n c : Nat) (ps : List (List (BitVec 8))) : Prop := ∃ us, Sl 1 w A n c us ∧ PVals w us ps
/-- A slice of the call's own that holds the slices of bytes ps, as the values us. -/
def BssU (w : World) (base : Nat) (A : Option Addr) (c : Nat) (ps : List (List (BitVec 8))) (us : List Value) : Prop :=
  w.ownsRow base 22 1 (.slice A ps.length c) ps.length us ∧ PVals w us ps ∧ ∀ u ∈ us, Off u A
/-- A slice of the call's own that holds the slices of bytes ps. -/
def BssRow (w : World) (base : Nat) (A : Option Addr) (c : Nat) (ps : List (List (BitVec 8))) : Prop := ∃ us, BssU w base A c ps us

section
variable {w w' : World}
theorem Sl.blk {A : Option Addr} {m c : Nat} {us : List Value} (h : Sl 1 w A m c us) (hk : ∀ ad, A = some ad → 0 < m → w'.heap[ad.block]? = w.heap[ad.block]?) : Sl 1 w' A m c us := by
  obtain ⟨hl, h | ⟨ad, rfl, hc⟩⟩ := h
  · exact ⟨hl, .inl h⟩
  · refine ⟨hl, .inr ⟨ad, rfl, fun j u hu => ?_⟩⟩
    have hj : j < m := by
      rcases Nat.lt_or_ge j us.length with q | q
      · omega
      · rw [List.getElem?_eq_none q] at hu; cases hu
    have e := hk ad rfl (by omega)
    rw [← hc j u hu]
    exact World.cell?_of_block (w := w) (by rw [add_block]; exact e)
theorem Sl.first_lt {ad : Addr} {m c : Nat} {us : List Value} (h : Sl 1 w (some ad) m c us) (hm : 0 < m) : ad.block < w.heap.size := by
  obtain ⟨hl, ⟨h0, _⟩ | ⟨ad', e, hc⟩⟩ := h
  · cases h0
  · injection e with e
    subst e
    have := cell_lt (hc 0 (us[0]'(by omega)) (by simp))
    rwa [add_block] at this
theorem PVal.keep {v : Value} {p : List (BitVec 8)} (h : PVal w v p) (hk : ∀ q : Addr, q.block < w.heap.size → w'.cell? q = w.cell? q) : PVal w' v p := by
  obtain ⟨B, d, e, hs, hd⟩ := h
  exact ⟨B, d, e, hs.keep hk, hd⟩
theorem PVal.below {v : Value} {p : List (BitVec 8)} (h : PVal w v p) (hb : Below w.heap.size w w') : PVal w' v p := h.keep fun _ hp => hb.cell hp
theorem PVal.grown {v : Value} {p : List (BitVec 8)} (h : PVal w v p) {row : Option Nat} (hg : w.grownBy w' row) (hne : ∀ B n d, v = .slice (some B) n d → 0 < n → row ≠ some B.block) : PVal w' v p := by
  obtain ⟨B, d, e, hs, hd⟩ := h
  refine ⟨B, d, e, hs.blk fun ad hA hm => ?_, hd⟩
  subst hA
  exact hg.block _ (hs.first_lt hm) (fun h => hne ad _ d e hm h.symm)
theorem PVals.keep {us : List Value} {ps : List (List (BitVec 8))} (h : PVals w us ps) (hk : ∀ q : Addr, q.block < w.heap.size → w'.cell? q = w.cell? q) : PVals w' us ps := ⟨h.1, fun k hkl => (h.2 k hkl).keep hk⟩
theorem PVals.below {us : List Value} {ps : List (List (BitVec 8))} (h : PVals w us ps) (hb : Below w.heap.size w w') : PVals w' us ps := h.keep fun _ hp => hb.cell hp
theorem PVals.one {us : List Value} {ps : List (List (BitVec 8))} (h : PVals w us ps) : ∀ u ∈ us, u.oneCell' = true := by
  intro u hu
  obtain ⟨k, hk, rfl⟩ := List.getElem_of_mem hu
  obtain ⟨B, d, e, _⟩ := h.2 k (by rw [← h.1]; exact hk)
  rw [List.getD_eq_getElem?_getD, List.getElem?_eq_getElem hk] at e
  simp at e
  rw [e]
  rfl
theorem PVals.append {us vs : List Value} {ps qs : List (List (BitVec 8))} (h : PVals w us ps) (h' : PVals w vs qs) : PVals w (us ++ vs) (ps ++ qs) := by
  refine ⟨by rw [List.length_append, List.length_append, h.1, h'.1], fun k hk => ?_⟩
  rw [List.length_append] at hk
  rcases Nat.lt_or_ge k ps.length with q | q
  · have := h.2 k q
    rwa [List.getD_eq_getElem?_getD, List.getD_eq_getElem?_getD, ← List.getElem?_append_left (l₂ := vs) (by rw [h.1]; exact q), ← List.getElem?_append_left (l₂ := qs) q, ← List.getD_eq_getElem?_getD, ← List.getD_eq_getElem?_getD] at this
  · have := h'.2 (k - ps.length) (by omega)
    rw [List.getD_eq_getElem?_getD, List.getD_eq_getElem?_getD, List.getElem?_append_right (by rw [h.1]; exact q), List.getElem?_append_right q, h.1, ← List.getD_eq_getElem?_getD, ← List.getD_eq_getElem?_getD]
    exact this
theorem PVals.nil : PVals w [] [] := ⟨rfl, fun k h => by simp at h⟩
theorem PVals.single {v : Value} {p : List (BitVec 8)} (h : PVal w v p) : PVals w [v] [p] := ⟨rfl, fun k hk => by
  obtain rfl : k = 0 := by simp at hk; omega
  exact h⟩
theorem Bss.below {A : Option Addr} {n c : Nat} {ps : List (List (BitVec 8))} (h : Bss w A n c ps) (hb : Below w.heap.size w w') : Bss w' A n c ps := by
  obtain ⟨us, h1, h2⟩ := h
  exact ⟨us, h1.below hb, h2.below hb⟩
theorem Bss.len {A : Option Addr} {n c : Nat} {ps : List (List (BitVec 8))} (h : Bss w A n c ps) : ps.length = n := by
  obtain ⟨us, h1, h2⟩ := h
  have := h1.1
  rw [h2.1] at this
  omega
theorem Bss.nil_ : Bss w none 0 0 [] := ⟨[], Sl.nil_, PVals.nil⟩
/-- An element, as a walk reads it. -/
theorem Bss.at {A : Option Addr} {n c : Nat} {ps : List (List (BitVec 8))} (h : Bss w A n c ps) {k : Nat} (hk : k < ps.length) :
    ∃ b off B d, A = some ⟨b, off, none⟩ ∧ w.cell? ⟨b, off + k, none⟩ = some (.slice B (ps.getD k []).length d) ∧ Sl 1 w B (ps.getD k []).length d (bytesV (ps.getD k [])) ∧ (ps.getD k []).length ≤ d := by
  have hn := h.len
  obtain ⟨us, ⟨hl, ⟨_, h0, _⟩ | ⟨ad, rfl, hc⟩⟩, h2⟩ := h
  · omega
  · obtain ⟨B, d, e, hs, hd⟩ := h2.2 k hk
    have hku : k < us.length := by rw [h2.1]; exact hk
    have hck := hc k _ (List.getElem?_eq_getElem hku)
    have e' : us[k] = .slice B (ps.getD k []).length d := by
      rw [List.getD_eq_getElem?_getD, List.getElem?_eq_getElem hku] at e
      simpa using e
    rw [e'] at hck
    obtain ⟨b, off, sp⟩ := ad
    have h0 := hc 0 _ (List.getElem?_eq_getElem (show 0 < us.length by omega))
    have hsp : sp = none := by simpa [Addr.add] using World.cell?_spot h0
    subst hsp
    rw [by_add_none] at hck
    exact ⟨b, off, B, d, rfl, hck, hs, hd⟩
theorem Bss.take {A : Option Addr} {n c : Nat} {ps : List (List (BitVec 8))} (h : Bss w A n c ps) {m : Nat} (hm : m ≤ n) : Bss w A m c (ps.take m) := by
  have hn := h.len
  obtain ⟨us, ⟨hl, h0⟩, h2⟩ := h
  refine ⟨us.take m, ⟨by rw [List.length_take, hl]; omega, ?_⟩, by rw [List.length_take, List.length_take, h2.1], fun k hk => ?_⟩
  · rcases h0 with ⟨rfl, h0, h1⟩ | ⟨ad, rfl, hc⟩
    · exact .inl ⟨rfl, by omega, h1⟩
    · refine .inr ⟨ad, rfl, fun j u hu => hc j u ?_⟩
      rw [List.getElem?_take] at hu
      split at hu
      · exact hu
      · cases hu
  · rw [List.length_take] at hk
    have := h2.2 k (by omega)
    rw [List.getD_eq_getElem?_getD, List.getD_eq_getElem?_getD, List.getElem?_take, List.getElem?_take, if_pos (by omega), if_pos (by omega), ← List.getD_eq_getElem?_getD, ← List.getD_eq_getElem?_getD]
    exact this
end
section
variable {w w' : World} {base c : Nat} {A : Option Addr} {ps : List (List (BitVec 8))}
theorem BssRow.nil (w : World) (base : Nat) : BssRow w base none 0 [] := ⟨[], World.ownsRow_nil w base _ _, PVals.nil, fun u hu => by simp at hu⟩
/-- An empty one that was laid ('[][]byte{}'). -/
theorem BssRow.laid (w : World) : BssRow (w.alloc (.cells #[] 22)) w.heap.size (some ⟨w.heap.size, 0, none⟩) 0 [] :=
  ⟨[], own_new w 22 1 0 #[] rfl (by decide), PVals.nil, fun u hu => by simp at hu⟩
theorem BssRow.bss (h : BssRow w base A c ps) : Bss w A ps.length c ps := by
  obtain ⟨us, h1, h2, _⟩ := h
  exact ⟨us, Sl.of_own h1, h2⟩
theorem BssRow.bssAt (h : BssRow w base A c ps) {n : Nat} (hn : ps.length = n) : Bss w A n c ps := by
  subst hn
  exact h.bss
theorem own_keep {e : TypeId} {n : Nat} {us : List Value} (h : w.ownsRow base e 1 (.slice A n c) n us) (hk : ∀ g, A = some g → w'.heap[g.block]? = w.heap[g.block]?) : w'.ownsRow base e 1 (.slice A n c) n us := by
  obtain ⟨hl, hn | ⟨g, cap, cur, hv, hg, hh, rest⟩⟩ := h
  · exact ⟨hl, .inl hn⟩
  · injection hv with e1 e2 e3
    subst e1
    exact ⟨hl, .inr ⟨g, cap, cur, by rw [e3], hg, (hk _ rfl).trans hh, rest⟩⟩
theorem BssU.below {us : List Value} (h : BssU w base A c ps us) (hb : Below w.heap.size w w') : BssU w' base A c ps us := by
  obtain ⟨h1, h2, h3⟩ := h
  refine ⟨own_keep h1 fun g hg => ?_, h2.below hb, h3⟩
  subst hg
  exact hb.block _ (World.ownsRow.lt h1 _ rfl).2
theorem BssRow.below (h : BssRow w base A c ps) (hb : Below w.heap.size w w') : BssRow w' base A c ps := by
  obtain ⟨us, h⟩ := h
  exact ⟨us, h.below hb⟩
theorem BssRow.drew (h : BssRow w base A c ps) : BssRow w.drew base A c ps := h
theorem BssRow.mono (h : BssRow w base A c ps) {b : Nat} (hb : b ≤ base) : BssRow w b A c ps := by
  obtain ⟨us, ⟨hl, hn | ⟨g, cap, cur, hv, hg, rest⟩⟩, h2, h3⟩ := h
  · exact ⟨us, ⟨hl, .inl hn⟩, h2, h3⟩
  · exact ⟨us, ⟨hl, .inr ⟨g, cap, cur, hv, by omega, rest⟩⟩, h2, h3⟩
theorem BssRow.lt (h : BssRow w base A c ps) : ∀ g, A = some g → base ≤ g.block ∧ g.block < w.heap.size := by
  obtain ⟨us, h1, _⟩ := h
  rintro g rfl
  exact World.ownsRow.lt h1 _ rfl
end
theorem bs_info : (Try.prog.info? 22).map (fun i => (i.zero, i.size, i.bytes)) = some (some (.slice none 0 0), 1, 24) := by kernel_rfl
/-- An append of what a slice of slices holds, whose elements do not lie in the row itself. -/
theorem bss_append_u {w : World} {base c : Nat} {A : Option Addr} {ps : List (List (BitVec 8))} {us : List Value} (h : BssU w base A c ps us) {B : Option Addr} {d : Nat} {qs : List (List (BitVec 8))} {vs : List Value} (hs : Sl 1 w B qs.length d vs) (hv : PVals w vs qs) (hoff : ∀ u ∈ vs, Off u A)
    (hn : ps.length + qs.length ≤ 1000000000000) (hbase : base ≤ w.heap.size) :
    ∃ A' c' w', (Builtin.append_ #[29, 29] 29 #[.slice A ps.length c, .slice B qs.length d]).run Try.prog w = .ok (.slice A' (ps.length + qs.length) c') w' ∧ BssU w' base A' c' (ps ++ qs) (us ++ vs) ∧
      (∀ a : World, a.heap.size ≤ base → Below a.heap.size a w → Below a.heap.size a w') ∧ w.grownBy w' (Value.slice A ps.length c).ownBlock := by
  obtain ⟨h1, h2, h3⟩ := h
  obtain ⟨A', c', w', hr, ho, hg, hl⟩ := append_any (P := Try.prog) w base 29 29 22 _ 1 24 Try.underlying29 bs_info rfl (by omega) h1 hs hv.one (ps.length + qs.length) rfl (us ++ vs) rfl (by omega) (by omega) hbase
  have hoff' : ∀ u ∈ us ++ vs, Off u A := fun u hu => by
    rcases List.mem_append.1 hu with q | q
    · exact h3 u q
    · exact hoff u q
  have hall := h2.append hv
  have hrow : ∀ u ∈ us ++ vs, ∀ X n e, u = .slice (some X) n e → 0 < n → (Value.slice A ps.length c).ownBlock ≠ some X.block := by
    intro u hu X n e hue hn0 heq
    cases A with
    | none => simp [Value.ownBlock] at heq
    | some g =>
      simp only [Value.ownBlock, Option.some.injEq] at heq
      exact hoff' u hu g rfl X n e hue hn0 heq.symm
  have hmem : ∀ k, k < (ps ++ qs).length → (us ++ vs).getD k undef ∈ us ++ vs := fun k hk => by
    rw [← hall.1] at hk
    rw [List.getD_eq_getElem?_getD, List.getElem?_eq_getElem hk, Option.getD_some]
    exact List.getElem_mem hk
  refine ⟨A', c', w', hr, ⟨by rw [List.length_append]; exact ho, ⟨hall.1, fun k hk => (hall.2 k hk).grown hg (hrow _ (hmem k hk))⟩, ?_⟩, fun a ha hb => bel_grown hb h1 ha hg, hg⟩
  intro u hu g' hA' X n e hue hn0 heq
  subst hA'
  rcases hl with hl | hl
  · cases A with
    | none => simp [Value.ownBlock] at hl
    | some g =>
      simp only [Value.ownBlock, Option.some.injEq] at hl
      exact hoff' u hu g rfl X n e hue hn0 (by rw [heq, hl])
  · simp only [Value.ownBlock, Option.some.injEq] at hl
    obtain ⟨k, hk, rfl⟩ := List.getElem_of_mem hu
    obtain ⟨Y, d', e', hsl, _⟩ := hall.2 k (by rw [← hall.1]; exact hk)
    rw [List.getD_eq_getElem?_getD, List.getElem?_eq_getElem hk, Option.getD_some] at e'
    rw [e'] at hue
    injection hue with e1 e2 e3
    subst e1
    have := hsl.first_lt (by rw [e2]; exact hn0)
    omega
theorem bss_append {w : World} {base c : Nat} {A : Option Addr} {ps : List (List (BitVec 8))} (h : BssRow w base A c ps) {B : Option Addr} {d : Nat} {qs : List (List (BitVec 8))} {vs : List Value} (hs : Sl 1 w B qs.length d vs) (hv : PVals w vs qs) (hoff : ∀ u ∈ vs, Off u A)
    (hn : ps.length + qs.length ≤ 1000000000000) (hbase : base ≤ w.heap.size) :
    ∃ A' c' w', (Builtin.append_ #[29, 29] 29 #[.slice A ps.length c, .slice B qs.length d]).run Try.prog w = .ok (.slice A' (ps.length + qs.length) c') w' ∧ BssRow w' base A' c' (ps ++ qs) ∧
      (∀ a : World, a.heap.size ≤ base → Below a.heap.size a w → Below a.heap.size a w') ∧ w.grownBy w' (Value.slice A ps.length c).ownBlock := by
  obtain ⟨us, h⟩ := h
  obtain ⟨A', c', w', h1, h2, h3, h4⟩ := bss_append_u h hs hv hoff hn hbase
  exact ⟨A', c', w', h1, ⟨_, h2⟩, h3, h4⟩
/-- An append of one slice of bytes. -/
theorem bss_push_u {w : World} {base c : Nat} {A : Option Addr} {ps : List (List (BitVec 8))} {us : List Value} (h : BssU w base A c ps us) {v : Value} {p : List (BitVec 8)} (hv : PVal w v p) (hoff : Off v A) (hn : ps.length < 1000000000000) (hbase : base ≤ w.heap.size) {s : Nat} (hs : w.heap.size = s) :
    ∃ A' c' w', (Builtin.append_ #[29, 29] 29 #[.slice A ps.length c, .slice (some ⟨s, 0, none⟩) 1 1]).run Try.prog (w.alloc (.cells #[v] 22)) = .ok (.slice A' (ps.length + 1) c') w' ∧ BssU w' base A' c' (ps ++ [p]) (us ++ [v]) ∧
      (∀ a : World, a.heap.size ≤ base → Below a.heap.size a w → Below a.heap.size a w') ∧ (w.alloc (.cells #[v] 22)).grownBy w' (Value.slice A ps.length c).ownBlock := by
  subst hs
  have hb1 : Below w.heap.size w (w.alloc (.cells #[v] 22)) := (Below.refl _ _).alloc (Nat.le_refl _) _
  have hsl : Sl 1 (w.alloc (.cells #[v] 22)) (some ⟨w.heap.size, 0, none⟩) [p].length 1 [v] := by
    refine ⟨rfl, .inr ⟨_, rfl, fun j u hu => ?_⟩⟩
    rw [by_add_none, Nat.zero_add, cell_of_row _ _ _ _ 22 (0, 0) (heap_alloc_new w _)]
    simpa using hu
  obtain ⟨A', c', w', h1, h2, h3, h4⟩ := bss_append_u (h.below hb1) hsl (PVals.single (hv.below hb1)) (fun u hu => by
    obtain rfl : u = v := by simpa using hu
    exact hoff) (by simp; omega) (by simp; omega)
  exact ⟨A', c', w', h1, h2, fun a ha hb => h3 a ha (hb.alloc hb.size _), h4⟩
theorem bss_push {w : World} {base c : Nat} {A : Option Addr} {ps : List (List (BitVec 8))} (h : BssRow w base A c ps) {v : Value} {p : List (BitVec 8)} (hv : PVal w v p) (hoff : Off v A) (hn : ps.length < 1000000000000) (hbase : base ≤ w.heap.size) {s : Nat} (hs : w.heap.size = s) :
    ∃ A' c' w', (Builtin.append_ #[29, 29] 29 #[.slice A ps.length c, .slice (some ⟨s, 0, none⟩) 1 1]).run Try.prog (w.alloc (.cells #[v] 22)) = .ok (.slice A' (ps.length + 1) c') w' ∧ BssRow w' base A' c' (ps ++ [p]) ∧
      (∀ a : World, a.heap.size ≤ base → Below a.heap.size a w → Below a.heap.size a w') ∧ w.heap.size ≤ w'.heap.size := by
  obtain ⟨us, h⟩ := h
  obtain ⟨A', c', w', h1, h2, h3, h4⟩ := bss_push_u h hv hoff hn hbase hs
  exact ⟨A', c', w', h1, ⟨_, h2⟩, h3, by have := h4.size; simp at this; omega⟩
/-- What lies below the row's base lies off it. -/
theorem off_below {w : World} {base c : Nat} {A : Option Addr} {ps : List (List (BitVec 8))} (h : BssRow w base A c ps) {a : World} (ha : a.heap.size ≤ base) {v : Value} {p : List (BitVec 8)} (hv : PVal a v p) : Off v A := by
  intro g hA B n d hvB hn heq
  obtain ⟨B', d', e, hs, _⟩ := hv
  rw [hvB] at e
  injection e with e1 e2 e3
  subst e1
  have h1 := hs.first_lt (by omega)
  have h2 := (h.lt g hA).1
  omega
/-- What is newer than the row lies off it. -/
theorem off_above {w : World} {base c : Nat} {A : Option Addr} {ps : List (List (BitVec 8))} (h : BssRow w base A c ps) {w' : World} {b' c' : Nat} {A' : Option Addr} {p : List (BitVec 8)} (hb' : w.heap.size ≤ b') (hr : BRow w' b' A' c' p) : Off (.slice A' p.length c') A := by
  intro g hA B n d hvB hn heq
  injection hvB with e1 e2 e3
  subst e1
  have h1 := (hr.lt B rfl).1
  have h2 := (h.lt g hA).2
  omega
theorem pval_row {w : World} {base c : Nat} {A : Option Addr} {p : List (BitVec 8)} (h : BRow w base A c p) : PVal w (.slice A p.length c) p := by
  refine ⟨A, c, rfl, h.sl, ?_⟩
  rcases h.forms with ⟨_, rfl, _⟩ | ⟨g, _, _, _, h, _⟩
  · simp
  · exact h
/-- An argument. -/
theorem open_bss {H : Type} {enc : TypeId × Value → H} {P : Program} {w : World} {base : Nat} {held : Bool} {t e q : TypeId} {fuel : Nat} {A : Option Addr} {len cap : Nat} {x : DataW H × List MemPlace}
    (ht : P.underlying t = some (.slice e)) (he : P.underlying e = some (.slice q)) (hq : P.underlying q = some (.int .u8)) (ce : P.cellsOf e = 1) (cq : P.cellsOf q = 1)
    (h : DataW.trod enc P w base (fun _ => true) held fuel t [.slice A len cap] = some x) : ∃ ps, Bss w A len cap ps ∧ len ≤ cap ∧ cap ≤ 9223372036854775807 := by
  rcases Go.Deep.open_int_rows ht he hq ce cq h with ⟨hcs, _⟩ | ⟨a, len', cap', Ar, L, C, Z, hcs, _, hl, hm, _, hx⟩
  · simp at hcs
    obtain ⟨rfl, rfl, rfl⟩ := hcs
    exact ⟨[], Bss.nil_, by omega, by omega⟩
  · simp at hcs
    obtain ⟨rfl, rfl, rfl⟩ := hcs
    have each : ∀ r, r < cap → ∃ p : List (BitVec 8), p.length = L r ∧ Sl 1 w (Ar r) (L r) (C r) (bytesV p) := by
      intro r hr
      obtain ⟨_, h2, h3, h4, h5, h6, h7⟩ := hx r hr
      have hrow : IsRow .u8 w (Ar r) (L r) (C r) (Z r) := by
        cases hA : Ar r with
        | none =>
          have hc0 := h6 hA
          refine .inl ⟨rfl, by omega, hc0, List.eq_nil_of_length_eq_zero (by omega)⟩
        | some a' =>
          obtain ⟨_, hc⟩ := h7 a' hA
          exact .inr ⟨a', rfl, h2, h3, h4, fun i hi => hc i (by omega), h5⟩
      obtain ⟨p, hp, hs, _⟩ := bytes_of_row hrow
      exact ⟨p, hp, hs⟩
    obtain ⟨f, hf⟩ := Go.Deep.choose_lt each
    refine ⟨(List.range len).map f, ⟨(List.range len).map fun r => .slice (Ar r) (L r) (C r), ⟨by simp, .inr ⟨a, rfl, fun j u hu => ?_⟩⟩, by simp, fun k hk => ?_⟩, hl, by simp only [maxLen] at hm; omega⟩
    · rw [List.getElem?_map] at hu
      have hj : j < len := by
        rcases Nat.lt_or_ge j len with p | p
        · exact p
        · rw [List.getElem?_eq_none (by simpa using p)] at hu; cases hu
      rw [List.getElem?_range hj] at hu
      simp at hu
      rw [(hx j (by omega)).1, hu]
    · simp at hk
      have e1 : ((List.range len).map fun r => Value.slice (Ar r) (L r) (C r)).getD k undef = .slice (Ar k) (L k) (C k) := by simp [List.getD, hk]
      have e2 : ((List.range len).map f).getD k [] = f k := by simp [List.getD, hk]
      rw [e1, e2]
      obtain ⟨hp, hs⟩ := hf k (by omega)
      exact ⟨Ar k, C k, by rw [hp], by rw [hp]; exact hs, by rw [hp]; exact (hx k (by omega)).2.1⟩
end Go.Proofs.Ytfjbpjojpjkfcaa
