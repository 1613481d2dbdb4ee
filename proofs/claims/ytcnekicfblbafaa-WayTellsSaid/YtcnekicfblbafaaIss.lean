/-
  Slices of slices of numbers: read, of the call's own, appended to.
-/
import Derived.Test.YtcnekicfblbafaaProg
import Derived.Test.YtcnekicfblbafaaNRow
import Derived.Test.YtcnekicfblbafaaTab
namespace Go.Proofs.Ytcnekicfblbafaa
open Go.RowKit
set_option linter.unusedVariables false

/-- A value that is a slice of the numbers p. -/
def IVal (w : World) (v : Value) (p : List Int) : Prop := ∃ B d, v = .slice B p.length d ∧ Sl 1 w B p.length d (ints .i64 p) ∧ p.length ≤ d
/-- It lies, if it holds anything, in another block than A. -/
def IOff (v : Value) (A : Option Addr) : Prop := ∀ g, A = some g → ∀ B n d, v = .slice (some B) n d → 0 < n → B.block ≠ g.block
/-- Values that are slices of the numbers ps, one by one. -/
def IVals (w : World) (us : List Value) (ps : List (List Int)) : Prop := us.length = ps.length ∧ ∀ k, k < ps.length → IVal w (us.getD k undef) (ps.getD k [])
/-- A slice value reads as the slices of numbers ps. -/
def Iss (w : World) (A : Option Addr) (n c : Nat) (ps : List (List Int)) : Prop := ∃ us, Sl 1 w A n c us ∧ IVals w us ps
/-- A slice of the call's own that holds the slices of numbers ps, as the values us. -/
def IssU (w : World) (base : Nat) (A : Option Addr) (c : Nat) (ps : List (List Int)) (us : List Value) : Prop :=
  w.ownsRow base 27 1 (.slice A ps.length c) ps.length us ∧ IVals w us ps ∧ ∀ u ∈ us, IOff u A
/-- A slice of the call's own that holds the slices of numbers ps. -/
def IssRow (w : World) (base : Nat) (A : Option Addr) (c : Nat) (ps : List (List Int)) : Prop := ∃ us, IssU w base A c ps us

section
variable {w w' : World}
theorem Sl.iblk {A : Option Addr} {m c : Nat} {us : List Value} (h : Sl 1 w A m c us) (hk : ∀ ad, A = some ad → 0 < m → w'.heap[ad.block]? = w.heap[ad.block]?) : Sl 1 w' A m c us := by
  obtain ⟨hl, h | ⟨ad, rfl, hc⟩⟩ := h
  · exact ⟨hl, .inl h⟩
  · refine ⟨hl, .inr ⟨ad, rfl, fun j u hu => ?_⟩⟩
    have hj : j < m := by
      rcases Nat.lt_or_ge j us.length with q | q
      · omega
      · rw [List.getElem?_eq_none q] at hu; cases hu
    have e := hk ad rfl (by omega)
    rw [← hc j u hu]
    exact World.cell?_of_block (w := w) (by rw [add_block]; exact e)
theorem Sl.ifirst_lt {ad : Addr} {m c : Nat} {us : List Value} (h : Sl 1 w (some ad) m c us) (hm : 0 < m) : ad.block < w.heap.size := by
  obtain ⟨hl, ⟨h0, _⟩ | ⟨ad', e, hc⟩⟩ := h
  · cases h0
  · injection e with e
    subst e
    have := cell_lt (hc 0 (us[0]'(by omega)) (by simp))
    rwa [add_block] at this
theorem IVal.keep {v : Value} {p : List Int} (h : IVal w v p) (hk : ∀ q : Addr, q.block < w.heap.size → w'.cell? q = w.cell? q) : IVal w' v p := by
  obtain ⟨B, d, e, hs, hd⟩ := h
  exact ⟨B, d, e, hs.keep hk, hd⟩
theorem IVal.below {v : Value} {p : List Int} (h : IVal w v p) (hb : Below w.heap.size w w') : IVal w' v p := h.keep fun _ hp => hb.cell hp
theorem IVal.grown {v : Value} {p : List Int} (h : IVal w v p) {row : Option Nat} (hg : w.grownBy w' row) (hne : ∀ B n d, v = .slice (some B) n d → 0 < n → row ≠ some B.block) : IVal w' v p := by
  obtain ⟨B, d, e, hs, hd⟩ := h
  refine ⟨B, d, e, hs.iblk fun ad hA hm => ?_, hd⟩
  subst hA
  exact hg.block _ (hs.ifirst_lt hm) (fun h => hne ad _ d e hm h.symm)
theorem IVals.keep {us : List Value} {ps : List (List Int)} (h : IVals w us ps) (hk : ∀ q : Addr, q.block < w.heap.size → w'.cell? q = w.cell? q) : IVals w' us ps := ⟨h.1, fun k hkl => (h.2 k hkl).keep hk⟩
theorem IVals.below {us : List Value} {ps : List (List Int)} (h : IVals w us ps) (hb : Below w.heap.size w w') : IVals w' us ps := h.keep fun _ hp => hb.cell hp
theorem IVals.one {us : List Value} {ps : List (List Int)} (h : IVals w us ps) : ∀ u ∈ us, u.oneCell' = true := by
  intro u hu
  obtain ⟨k, hk, rfl⟩ := List.getElem_of_mem hu
  obtain ⟨B, d, e, _⟩ := h.2 k (by rw [← h.1]; exact hk)
  rw [List.getD_eq_getElem?_getD, List.getElem?_eq_getElem hk] at e
  simp at e
  rw [e]
  rfl
theorem IVals.append {us vs : List Value} {ps qs : List (List Int)} (h : IVals w us ps) (h' : IVals w vs qs) : IVals w (us ++ vs) (ps ++ qs) := by
  refine ⟨by rw [List.length_append, List.length_append, h.1, h'.1], fun k hk => ?_⟩
  rw [List.length_append] at hk
  rcases Nat.lt_or_ge k ps.length with q | q
  · have := h.2 k q
    rwa [List.getD_eq_getElem?_getD, List.getD_eq_getElem?_getD, ← List.getElem?_append_left (l₂ := vs) (by rw [h.1]; exact q), ← List.getElem?_append_left (l₂ := qs) q, ← List.getD_eq_getElem?_getD, ← List.getD_eq_getElem?_getD] at this
  · have := h'.2 (k - ps.length) (by omega)
    rw [List.getD_eq_getElem?_getD, List.getD_eq_getElem?_getD, List.getElem?_append_right (by rw [h.1]; exact q), List.getElem?_append_right q, h.1, ← List.getD_eq_getElem?_getD, ← List.getD_eq_getElem?_getD]
    exact this
theorem IVals.nil : IVals w [] [] := ⟨rfl, fun k h => by simp at h⟩
theorem IVals.single {v : Value} {p : List Int} (h : IVal w v p) : IVals w [v] [p] := ⟨rfl, fun k hk => by
  obtain rfl : k = 0 := by simp at hk; omega
  exact h⟩
theorem Iss.below {A : Option Addr} {n c : Nat} {ps : List (List Int)} (h : Iss w A n c ps) (hb : Below w.heap.size w w') : Iss w' A n c ps := by
  obtain ⟨us, h1, h2⟩ := h
  exact ⟨us, h1.below hb, h2.below hb⟩
theorem Iss.len {A : Option Addr} {n c : Nat} {ps : List (List Int)} (h : Iss w A n c ps) : ps.length = n := by
  obtain ⟨us, h1, h2⟩ := h
  have := h1.1
  rw [h2.1] at this
  omega
theorem Iss.nil_ : Iss w none 0 0 [] := ⟨[], Sl.nil_, IVals.nil⟩
/-- An element, as a walk reads it. -/
theorem Iss.at {A : Option Addr} {n c : Nat} {ps : List (List Int)} (h : Iss w A n c ps) {k : Nat} (hk : k < ps.length) :
    ∃ b off B d, A = some ⟨b, off, none⟩ ∧ w.cell? ⟨b, off + k, none⟩ = some (.slice B (ps.getD k []).length d) ∧ Sl 1 w B (ps.getD k []).length d (ints .i64 (ps.getD k [])) ∧ (ps.getD k []).length ≤ d := by
  have hn := h.len
  obtain ⟨us, ⟨hl, ⟨_, h0, _⟩ | ⟨ad, rfl, hc⟩⟩, h2⟩ := h
  · omega
  · obtain ⟨B, d, e, hs, hd⟩ := h2.2 k hk
    have hku : k < us.length := by rw [h2.1]; exact hk
    have hck := hc k _ (List.getElem?_eq_getElem hku)
    have e' : us[k] = .slice B (ps.getD k []).length d := by
      rw [List.getD_eq_getElem?_getD, List.getElem?_eq_getElem hku] at e
      simpa using e
    rw [e'] at hck
    obtain ⟨b, off, sp⟩ := ad
    have h0 := hc 0 _ (List.getElem?_eq_getElem (show 0 < us.length by omega))
    have hsp : sp = none := by simpa [Addr.add] using World.cell?_spot h0
    subst hsp
    rw [tab_add] at hck
    exact ⟨b, off, B, d, rfl, hck, hs, hd⟩
theorem Iss.take {A : Option Addr} {n c : Nat} {ps : List (List Int)} (h : Iss w A n c ps) {m : Nat} (hm : m ≤ n) : Iss w A m c (ps.take m) := by
  have hn := h.len
  obtain ⟨us, ⟨hl, h0⟩, h2⟩ := h
  refine ⟨us.take m, ⟨by rw [List.length_take, hl]; omega, ?_⟩, by rw [List.length_take, List.length_take, h2.1], fun k hk => ?_⟩
  · rcases h0 with ⟨rfl, h0, h1⟩ | ⟨ad, rfl, hc⟩
    · exact .inl ⟨rfl, by omega, h1⟩
    · refine .inr ⟨ad, rfl, fun j u hu => hc j u ?_⟩
      rw [List.getElem?_take] at hu
      split at hu
      · exact hu
      · cases hu
  · rw [List.length_take] at hk
    have := h2.2 k (by omega)
    rw [List.getD_eq_getElem?_getD, List.getD_eq_getElem?_getD, List.getElem?_take, List.getElem?_take, if_pos (by omega), if_pos (by omega), ← List.getD_eq_getElem?_getD, ← List.getD_eq_getElem?_getD]
    exact this
end
section
variable {w w' : World} {base c : Nat} {A : Option Addr} {ps : List (List Int)}
theorem IssRow.nil (w : World) (base : Nat) : IssRow w base none 0 [] := ⟨[], World.ownsRow_nil w base _ _, IVals.nil, fun u hu => by simp at hu⟩
/-- An empty one that was laid ('[][]byte{}'). -/
theorem IssRow.laid (w : World) : IssRow (w.alloc (.cells #[] 27)) w.heap.size (some ⟨w.heap.size, 0, none⟩) 0 [] :=
  ⟨[], own_new w 27 1 0 #[] rfl (by decide), IVals.nil, fun u hu => by simp at hu⟩
theorem IssRow.bss (h : IssRow w base A c ps) : Iss w A ps.length c ps := by
  obtain ⟨us, h1, h2, _⟩ := h
  exact ⟨us, Sl.of_own h1, h2⟩
theorem IssRow.bssAt (h : IssRow w base A c ps) {n : Nat} (hn : ps.length = n) : Iss w A n c ps := by
  subst hn
  exact h.bss
theorem iown_keep {e : TypeId} {n : Nat} {us : List Value} (h : w.ownsRow base e 1 (.slice A n c) n us) (hk : ∀ g, A = some g → w'.heap[g.block]? = w.heap[g.block]?) : w'.ownsRow base e 1 (.slice A n c) n us := by
  obtain ⟨hl, hn | ⟨g, cap, cur, hv, hg, hh, rest⟩⟩ := h
  · exact ⟨hl, .inl hn⟩
  · injection hv with e1 e2 e3
    subst e1
    exact ⟨hl, .inr ⟨g, cap, cur, by rw [e3], hg, (hk _ rfl).trans hh, rest⟩⟩
theorem IssU.below {us : List Value} (h : IssU w base A c ps us) (hb : Below w.heap.size w w') : IssU w' base A c ps us := by
  obtain ⟨h1, h2, h3⟩ := h
  refine ⟨iown_keep h1 fun g hg => ?_, h2.below hb, h3⟩
  subst hg
  exact hb.block _ (World.ownsRow.lt h1 _ rfl).2
theorem IssRow.below (h : IssRow w base A c ps) (hb : Below w.heap.size w w') : IssRow w' base A c ps := by
  obtain ⟨us, h⟩ := h
  exact ⟨us, h.below hb⟩
theorem IssRow.drew (h : IssRow w base A c ps) : IssRow w.drew base A c ps := h
theorem IssRow.mono (h : IssRow w base A c ps) {b : Nat} (hb : b ≤ base) : IssRow w b A c ps := by
  obtain ⟨us, ⟨hl, hn | ⟨g, cap, cur, hv, hg, rest⟩⟩, h2, h3⟩ := h
  · exact ⟨us, ⟨hl, .inl hn⟩, h2, h3⟩
  · exact ⟨us, ⟨hl, .inr ⟨g, cap, cur, hv, by omega, rest⟩⟩, h2, h3⟩
theorem IssRow.lt (h : IssRow w base A c ps) : ∀ g, A = some g → base ≤ g.block ∧ g.block < w.heap.size := by
  obtain ⟨us, h1, _⟩ := h
  rintro g rfl
  exact World.ownsRow.lt h1 _ rfl
end
theorem is_info : (Try.prog.info? 27).map (fun i => (i.zero, i.size, i.bytes)) = some (some (.slice none 0 0), 1, 24) := by kernel_rfl
/-- An append of what a slice of slices holds, whose elements do not lie in the row itself. -/
theorem iss_append_u {w : World} {base c : Nat} {A : Option Addr} {ps : List (List Int)} {us : List Value} (h : IssU w base A c ps us) {B : Option Addr} {d : Nat} {qs : List (List Int)} {vs : List Value} (hs : Sl 1 w B qs.length d vs) (hv : IVals w vs qs) (hoff : ∀ u ∈ vs, IOff u A)
    (hn : ps.length + qs.length ≤ 1000000000000) (hbase : base ≤ w.heap.size) :
    ∃ A' c' w', (Builtin.append_ #[34, 34] 34 #[.slice A ps.length c, .slice B qs.length d]).run Try.prog w = .ok (.slice A' (ps.length + qs.length) c') w' ∧ IssU w' base A' c' (ps ++ qs) (us ++ vs) ∧
      (∀ a : World, a.heap.size ≤ base → Below a.heap.size a w → Below a.heap.size a w') ∧ w.grownBy w' (Value.slice A ps.length c).ownBlock := by
  obtain ⟨h1, h2, h3⟩ := h
  obtain ⟨A', c', w', hr, ho, hg, hl⟩ := append_any (P := Try.prog) w base 34 34 27 _ 1 24 Try.underlying34 is_info rfl (by omega) h1 hs hv.one (ps.length + qs.length) rfl (us ++ vs) rfl (by omega) (by omega) hbase
  have hoff' : ∀ u ∈ us ++ vs, IOff u A := fun u hu => by
    rcases List.mem_append.1 hu with q | q
    · exact h3 u q
    · exact hoff u q
  have hall := h2.append hv
  have hrow : ∀ u ∈ us ++ vs, ∀ X n e, u = .slice (some X) n e → 0 < n → (Value.slice A ps.length c).ownBlock ≠ some X.block := by
    intro u hu X n e hue hn0 heq
    cases A with
    | none => simp [Value.ownBlock] at heq
    | some g =>
      simp only [Value.ownBlock, Option.some.injEq] at heq
      exact hoff' u hu g rfl X n e hue hn0 heq.symm
  have hmem : ∀ k, k < (ps ++ qs).length → (us ++ vs).getD k undef ∈ us ++ vs := fun k hk => by
    rw [← hall.1] at hk
    rw [List.getD_eq_getElem?_getD, List.getElem?_eq_getElem hk, Option.getD_some]
    exact List.getElem_mem hk
  refine ⟨A', c', w', hr, ⟨by rw [List.length_append]; exact ho, ⟨hall.1, fun k hk => (hall.2 k hk).grown hg (hrow _ (hmem k hk))⟩, ?_⟩, fun a ha hb => bel_grown hb h1 ha hg, hg⟩
  intro u hu g' hA' X n e hue hn0 heq
  subst hA'
  rcases hl with hl | hl
  · cases A with
    | none => simp [Value.ownBlock] at hl
    | some g =>
      simp only [Value.ownBlock, Option.some.injEq] at hl
      exact hoff' u hu g rfl X n e hue hn0 (by rw [heq, hl])
  · simp only [Value.ownBlock, Option.some.injEq] at hl
    obtain ⟨k, hk, rfl⟩ := List.getElem_of_mem hu
    obtain ⟨Y, d', e', hsl, _⟩ := hall.2 k (by rw [← hall.1]; exact hk)
    rw [List.getD_eq_getElem?_getD, List.getElem?_eq_getElem hk, Option.getD_some] at e'
    rw [e'] at hue
    injection hue with e1 e2 e3
    subst e1
    have := hsl.ifirst_lt (by rw [e2]; exact hn0)
    omega
theorem iss_append {w : World} {base c : Nat} {A : Option Addr} {ps : List (List Int)} (h : IssRow w base A c ps) {B : Option Addr} {d : Nat} {qs : List (List Int)} {vs : List Value} (hs : Sl 1 w B qs.length d vs) (hv : IVals w vs qs) (hoff : ∀ u ∈ vs, IOff u A)
    (hn : ps.length + qs.length ≤ 1000000000000) (hbase : base ≤ w.heap.size) :
    ∃ A' c' w', (Builtin.append_ #[34, 34] 34 #[.slice A ps.length c, .slice B qs.length d]).run Try.prog w = .ok (.slice A' (ps.length + qs.length) c') w' ∧ IssRow w' base A' c' (ps ++ qs) ∧
      (∀ a : World, a.heap.size ≤ base → Below a.heap.size a w → Below a.heap.size a w') ∧ w.grownBy w' (Value.slice A ps.length c).ownBlock := by
  obtain ⟨us, h⟩ := h
  obtain ⟨A', c', w', h1, h2, h3, h4⟩ := iss_append_u h hs hv hoff hn hbase
  exact ⟨A', c', w', h1, ⟨_, h2⟩, h3, h4⟩
/-- An append of one slice of bytes. -/
theorem iss_push_u {w : World} {base c : Nat} {A : Option Addr} {ps : List (List Int)} {us : List Value} (h : IssU w base A c ps us) {v : Value} {p : List Int} (hv : IVal w v p) (hoff : IOff v A) (hn : ps.length < 1000000000000) (hbase : base ≤ w.heap.size) {s : Nat} (hs : w.heap.size = s) :
    ∃ A' c' w', (Builtin.append_ #[34, 34] 34 #[.slice A ps.length c, .slice (some ⟨s, 0, none⟩) 1 1]).run Try.prog (w.alloc (.cells #[v] 27)) = .ok (.slice A' (ps.length + 1) c') w' ∧ IssU w' base A' c' (ps ++ [p]) (us ++ [v]) ∧
      (∀ a : World, a.heap.size ≤ base → Below a.heap.size a w → Below a.heap.size a w') ∧ (w.alloc (.cells #[v] 27)).grownBy w' (Value.slice A ps.length c).ownBlock := by
  subst hs
  have hb1 : Below w.heap.size w (w.alloc (.cells #[v] 27)) := (Below.refl _ _).alloc (Nat.le_refl _) _
  have hsl : Sl 1 (w.alloc (.cells #[v] 27)) (some ⟨w.heap.size, 0, none⟩) [p].length 1 [v] := by
    refine ⟨rfl, .inr ⟨_, rfl, fun j u hu => ?_⟩⟩
    rw [tab_add, Nat.zero_add, cell_of_row _ _ _ _ 27 (0, 0) (heap_alloc_new w _)]
    simpa using hu
  obtain ⟨A', c', w', h1, h2, h3, h4⟩ := iss_append_u (h.below hb1) hsl (IVals.single (hv.below hb1)) (fun u hu => by
    obtain rfl : u = v := by simpa using hu
    exact hoff) (by simp; omega) (by simp; omega)
  exact ⟨A', c', w', h1, h2, fun a ha hb => h3 a ha (hb.alloc hb.size _), h4⟩
theorem iss_push {w : World} {base c : Nat} {A : Option Addr} {ps : List (List Int)} (h : IssRow w base A c ps) {v : Value} {p : List Int} (hv : IVal w v p) (hoff : IOff v A) (hn : ps.length < 1000000000000) (hbase : base ≤ w.heap.size) {s : Nat} (hs : w.heap.size = s) :
    ∃ A' c' w', (Builtin.append_ #[34, 34] 34 #[.slice A ps.length c, .slice (some ⟨s, 0, none⟩) 1 1]).run Try.prog (w.alloc (.cells #[v] 27)) = .ok (.slice A' (ps.length + 1) c') w' ∧ IssRow w' base A' c' (ps ++ [p]) ∧
      (∀ a : World, a.heap.size ≤ base → Below a.heap.size a w → Below a.heap.size a w') ∧ w.heap.size ≤ w'.heap.size := by
  obtain ⟨us, h⟩ := h
  obtain ⟨A', c', w', h1, h2, h3, h4⟩ := iss_push_u h hv hoff hn hbase hs
  exact ⟨A', c', w', h1, ⟨_, h2⟩, h3, by have := h4.size; simp at this; omega⟩
/-- What lies below the row's base lies off it. -/
theorem ioff_below {w : World} {base c : Nat} {A : Option Addr} {ps : List (List Int)} (h : IssRow w base A c ps) {a : World} (ha : a.heap.size ≤ base) {v : Value} {p : List Int} (hv : IVal a v p) : IOff v A := by
  intro g hA B n d hvB hn heq
  obtain ⟨B', d', e, hs, _⟩ := hv
  rw [hvB] at e
  injection e with e1 e2 e3
  subst e1
  have h1 := hs.ifirst_lt (by omega)
  have h2 := (h.lt g hA).1
  omega
/-- What is newer than the row lies off it. -/
theorem ioff_above {w : World} {base c : Nat} {A : Option Addr} {ps : List (List Int)} (h : IssRow w base A c ps) {w' : World} {b' c' : Nat} {A' : Option Addr} {p : List Int} (hb' : w.heap.size ≤ b') (hr : NRow w' b' A' c' p) : IOff (.slice A' p.length c') A := by
  intro g hA B n d hvB hn heq
  injection hvB with e1 e2 e3
  subst e1
  have h1 := (hr.lt B rfl).1
  have h2 := (h.lt g hA).2
  omega
theorem ival_row {w : World} {base c : Nat} {A : Option Addr} {p : List Int} (h : NRow w base A c p) : IVal w (.slice A p.length c) p := ⟨A, c, rfl, h.sl, h.cap_le rfl⟩
end Go.Proofs.Ytcnekicfblbafaa
