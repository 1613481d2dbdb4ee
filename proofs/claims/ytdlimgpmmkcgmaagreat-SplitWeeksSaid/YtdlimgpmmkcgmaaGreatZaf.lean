/-
  Slices of structs that are numbers alone, as rows of numbers; arguments that hold them opened. Over any program.
  What a call may change: blocks that are kept, and blocks that may change. Over any program.
  Slices of bytes of the call's own: append, store, cut.
  Bytes turned into texts, whatever their number; texts held against each other.
  Slices cut out of slices of bytes: 'b[n:]', 'b[:n]'; whatever the capacity.
  Slices of numbers of the call's own: append.
  The document's own answers of layer 5 (lumperref05): numbers, and texts, taken; numbers put.
  Events as values: their cells, loads, stores, and whether two are the same.
  An argument of type api.Event, opened.
  Package pack, and the document's own answers, each in one form: whatever is answered.
-/
import Derived.Test.YtdlimgpmmkcgmaaGreatZac
import Derived.Test.YtdlimgpmmkcgmaaGreatZab
import Derived.Deep.Slices
import Derived.Lib.SmallJoins
import Derived.OpenShut
import Derived.Laws.Cover1
import Derived.Test.YtdlimgpmmkcgmaaGreatProg
import Derived.Test.YtdlimgpmmkcgmaaGreatZaa
import Derived.Laws.BytesArg
import Derived.Laws.Slices
import Derived.Test.YtdlimgpmmkcgmaaGreatZae
import Derived.WalkKit
import Derived.WalkLawsBesides
import Derived.Lib.Hide
import Derived.IntWalk
import Derived.Lib.SliceRun
import Derived.WalkMore
import Derived.ScopeJumps
import Derived.RegionTactic
import Derived.Test.YtdlimgpmmkcgmaaGreatZad
import Derived.Laws.StructEq
import Derived.Deep.WholeRow
import Derived.KernelRfl
import Derived.Lib.SlBytesConst
namespace Go.Proofs.YtdlimgpmmkcgmaaGreat
open Go.RowKit Go.Deep Go.WideShapes
set_option linter.unusedVariables false
set_option linter.unusedSimpArgs false

theorem getD_in {l : List Int} {j : Nat} (h : j < l.length) : l.getD j 0 ∈ l := by
  rw [List.getD_eq_getElem?_getD, List.getElem?_eq_getElem h, Option.getD_some]
  exact List.getElem_mem _
def In64 (z : Int) : Prop := -9223372036854775808 ≤ z ∧ z ≤ 9223372036854775807
/-- The slice value '.slice A n c' reads as the rows t, of k numbers each. -/
structure Tab (k : Nat) (w : World) (A : Option Addr) (n c : Nat) (t : Rows2) : Prop where
  sl : Sl k w A n c (ints .i64 t.flatten)
  len : t.length = n
  wide : ∀ r ∈ t, r.length = k
  small : ∀ r ∈ t, ∀ z ∈ r, In64 z
  cap : n ≤ c
  max : c ≤ 9223372036854775807
theorem tab_add {b off n : Nat} : (⟨b, off, none⟩ : Addr).add n = ⟨b, off + n, none⟩ := by unfold Addr.add; split <;> simp_all
section
variable {k : Nat} {w w' : World} {A : Option Addr} {n c : Nat} {t : Rows2}
theorem Tab.below (h : Tab k w A n c t) (hb : Below w.heap.size w w') : Tab k w' A n c t := ⟨h.sl.below hb, h.len, h.wide, h.small, h.cap, h.max⟩
theorem Tab.nil_ : Tab k w none 0 0 [] := ⟨⟨by simp [ints], .inl ⟨rfl, rfl, rfl⟩⟩, rfl, by simp, by simp, by omega, by omega⟩
theorem Tab.form (h : Tab k w A n c t) (hk : 0 < k) (hn : 0 < n) : ∃ b off, A = some ⟨b, off, none⟩ := by
  obtain ⟨hl, ⟨_, h0, _⟩ | ⟨ad, rfl, hc⟩⟩ := h.sl
  · omega
  · have hp : 0 < n * k := Nat.mul_pos hn hk
    obtain ⟨u, hu⟩ : ∃ u, (ints .i64 t.flatten)[0]? = some u := ⟨_, List.getElem?_eq_getElem (by omega)⟩
    have h0 := hc 0 u hu
    obtain ⟨b, off, sp⟩ := ad
    have hsp : sp = none := by simpa [Addr.add] using World.cell?_spot h0
    subst hsp
    exact ⟨b, off, rfl⟩
/-- One number of one row. -/
theorem Tab.cell {b off : Nat} (h : Tab k w (some ⟨b, off, none⟩) n c t) {i j : Nat} (hi : i < n) (hj : j < k) : w.cell? ⟨b, off + i * k + j, none⟩ = some (.int .i64 ((t.getD i []).getD j 0)) := by
  have hti : i < t.length := by rw [h.len]; exact hi
  obtain ⟨hl, ⟨h0, _, _⟩ | ⟨ad, e, hc⟩⟩ := h.sl
  · cases h0
  · injection e with e
    subst e
    have hg := rows_get t h.wide i j hti hj []
    rw [List.append_nil] at hg
    have hlt : k * i + j < t.flatten.length := by
      rw [rows_len t h.wide]
      have : k * i + k ≤ k * t.length := by rw [← Nat.mul_succ]; exact Nat.mul_le_mul_left k hti
      omega
    have hu : (ints .i64 t.flatten)[k * i + j]? = some (.int .i64 ((t.getD i []).getD j 0)) := by
      rw [ints, List.getElem?_map, List.getElem?_eq_getElem hlt, Option.map_some, ← hg, List.getD_eq_getElem?_getD, List.getElem?_eq_getElem hlt, Option.getD_some]
    have := hc _ _ hu
    rw [tab_add, ← Nat.add_assoc, Nat.mul_comm] at this
    exact this
theorem Tab.at_small (h : Tab k w A n c t) {i j : Nat} (hi : i < n) (hj : j < k) : In64 ((t.getD i []).getD j 0) := by
  have hti : i < t.length := by rw [h.len]; exact hi
  have hr : t.getD i [] ∈ t := by simp [List.getD, hti]
  have hw := h.wide _ hr
  exact h.small _ hr _ (getD_in (by omega))
end
/-! ### Arguments -/
/-- What is read at type t is k numbers. -/
def NumsT (P : Program) (t : TypeId) (k : Nat) : Prop := ∀ (H : Type) (enc : TypeId × Value → H) (w : World) (base : Nat) (spare : Nat → Bool) (held : Bool) (fuel : Nat) (cs : List Value) (x : DataW H × List MemPlace),
  DataW.trod enc P w base spare held fuel t cs = some x → ∃ zs : List Int, zs.length = k ∧ cs = ints .i64 zs ∧ ∀ z ∈ zs, In64 z
theorem alli_int {P : Program} {t : TypeId} (h : P.underlying t = some (.int .i64)) : NumsT P t 1 := by
  intro H enc w base spare held fuel cs x hx
  obtain ⟨z, e, _, hz⟩ := DataW.trod_int h hx
  exact ⟨[z], rfl, e, fun y hy => by obtain rfl : y = z := by simpa using hy
                                     exact bounds_i64 hz⟩
/-- Fields one behind the other, each of numbers alone. -/
def ChainI (P : Program) : List Field → Nat → Nat → Prop
  | [], o, n => o = n
  | f :: fs, o, n => f.offset = o ∧ NumsT P f.type (P.cellsOf f.type) ∧ ChainI P fs (o + P.cellsOf f.type) n
theorem chain_ints {H : Type} {enc : TypeId × Value → H} {P : Program} {w : World} {base : Nat} {spare : Nat → Bool} {held : Bool} {n : Nat} {cs : List Value} (hl : cs.length = n) :
    ∀ (fs : List Field) (o : Nat), ChainI P fs o n → (∀ f ∈ fs, ∃ m x, DataW.trod enc P w base spare held m f.type ((cs.drop f.offset).take (P.cellsOf f.type)) = some x) → ∃ zs : List Int, cs.drop o = ints .i64 zs ∧ ∀ z ∈ zs, In64 z
  | [], o, hc, _ => by
    have : o = n := hc
    exact ⟨[], by rw [List.drop_of_length_le (by omega)]; rfl, by simp⟩
  | f :: fs, o, ⟨ho, ha, hc⟩, hx => by
    obtain ⟨m, x, h1⟩ := hx f (by simp)
    obtain ⟨zs, hz, e, hb⟩ := ha _ _ _ _ _ _ _ _ _ h1
    obtain ⟨ys, e2, hb2⟩ := chain_ints hl fs _ hc (fun g hg => hx g (by simp [hg]))
    refine ⟨zs ++ ys, ?_, fun z h => ?_⟩
    · rw [← List.take_append_drop (P.cellsOf f.type) (cs.drop o), List.drop_drop, e2, ← ho, e]
      simp [ints]
    · rcases List.mem_append.1 h with h | h
      · exact hb z h
      · exact hb2 z h
theorem alli_struct {P : Program} {t : TypeId} {fs : Array Field} {n : Nat} (hs : P.underlying t = some (.struct fs)) (hn : P.cellsOf t = n) (hc : ChainI P fs.toList 0 n) : NumsT P t n := by
  intro H enc w base spare held fuel cs x hx
  obtain ⟨xs, m, _, _, hl, hxl, hf⟩ := DataW.trod_struct hs hx
  obtain ⟨zs, e, hb⟩ := chain_ints (cs := cs) (hl.trans hn) fs.toList 0 hc (fun f hf' => by
    obtain ⟨i, hi, rfl⟩ := List.getElem_of_mem hf'
    have hi' : i < fs.size := by simpa using hi
    have h1 := hf i (fs[i]) (by simp [hi'])
    refine ⟨m, xs[i]'(by omega), ?_⟩
    have e : fs.toList[i] = fs[i] := by simp
    rw [e, h1]
    exact List.getElem?_eq_getElem (by omega))
  rw [List.drop_zero] at e
  refine ⟨zs, ?_, e, hb⟩
  have := congrArg List.length e
  simp [ints] at this
  omega
theorem open_tab {H : Type} {enc : TypeId × Value → H} {P : Program} {w : World} {base : Nat} {held : Bool} {t e : TypeId} {k fuel : Nat} {cs : List Value} {x : DataW H × List MemPlace}
    (ht : P.underlying t = some (.slice e)) (he : NumsT P e k) (hk : P.cellsOf e = k) (hk0 : 0 < k) (h : DataW.trod enc P w base (fun _ => true) held fuel t cs = some x) :
    ∃ A n c rows, cs = [.slice A n c] ∧ Tab k w A n c rows := by
  rcases open_slice ht h with ⟨hcs, _⟩ | ⟨a, len, cap, m, f, D, Pl, hcs, hb, hl, hm, hmm, hx, hi⟩
  · exact ⟨none, 0, 0, [], hcs, Tab.nil_⟩
  · have hlm : len ≤ m := by rw [hmm]; split <;> omega
    have each : ∀ i, i < m → ∃ zs : List Int, zs.length = k ∧ (∀ z ∈ zs, In64 z) ∧ ∀ j, j < k → w.cell? (a.add (i * k + j)) = some (.int .i64 (zs.getD j 0)) := by
      intro i him
      obtain ⟨cs', h1, h2⟩ := hi i him
      rw [hk] at h1
      obtain ⟨_, hlen, hcell⟩ := World.cells?_some h1
      obtain ⟨zs, hz, e1, hb⟩ := he _ _ _ _ _ _ _ _ _ h2
      refine ⟨zs, hz, hb, fun j hj => ?_⟩
      have := hcell j hj
      rw [add_add] at this
      rw [this, e1, ints, List.getElem?_map, List.getElem?_eq_getElem (by omega)]
      simp [List.getD, show j < zs.length by omega]
    obtain ⟨Z, hZ⟩ := choose_lt each
    have hwide : ∀ r ∈ (List.range len).map Z, r.length = k := by
      intro r hr
      simp only [List.mem_map, List.mem_range] at hr
      obtain ⟨i, hi', rfl⟩ := hr
      exact (hZ i (by omega)).1
    refine ⟨some a, len, cap, (List.range len).map Z, hcs, ⟨⟨?_, .inr ⟨a, rfl, fun j u hu => ?_⟩⟩, by simp, hwide, ?_, hl, by unfold maxLen at hm; omega⟩⟩
    · simp only [ints, List.length_map]
      rw [rows_len _ hwide]
      simp [Nat.mul_comm]
    · have hjl : j < len * k := by
        rcases Nat.lt_or_ge j (len * k) with q | q
        · exact q
        · rw [List.getElem?_eq_none (by simp only [ints, List.length_map]; rw [rows_len _ hwide]; simp [Nat.mul_comm]; rw [Nat.mul_comm]; omega)] at hu
          cases hu
      have hi' : j / k < len := (Nat.div_lt_iff_lt_mul hk0).2 hjl
      have hr' : j % k < k := Nat.mod_lt _ hk0
      have hc := (hZ (j / k) (by omega)).2.2 (j % k) hr'
      have hj : j / k * k + j % k = j := by rw [Nat.mul_comm]; exact Nat.div_add_mod j k
      rw [hj] at hc
      rw [hc, ← hu]
      have hg := rows_get ((List.range len).map Z) hwide (j / k) (j % k) (by simpa using hi') hr' []
      rw [List.append_nil, show k * (j / k) + j % k = j from Nat.div_add_mod j k] at hg
      have hlt : j < ((List.range len).map Z).flatten.length := by rw [rows_len _ hwide]; simp; rw [Nat.mul_comm]; exact hjl
      rw [ints, List.getElem?_map, List.getElem?_eq_getElem hlt, Option.map_some]
      congr 2
      have e3 : ((List.range len).map Z).getD (j / k) [] = Z (j / k) := by simp [List.getD, hi']
      rw [e3] at hg
      rw [← hg, List.getD_eq_getElem?_getD, List.getElem?_eq_getElem hlt, Option.getD_some]
    · intro r hr z hz
      simp only [List.mem_map, List.mem_range] at hr
      obtain ⟨i, hi', rfl⟩ := hr
      exact (hZ i (by omega)).2.1 z hz
/-! ### A setup -/
/-- The value of a setup: its cells. -/
def setV (s : SetP) (A1 A2 A3 A4 A5 A6 : Option Addr) (c1 c2 c3 c4 c5 c6 : Nat) : Value :=
  .agg #[.int .i64 s.places, .slice A1 s.ways.length c1, .int .i64 s.pn, .int .i64 s.pd, .slice A2 s.elements.length c2, .slice A3 s.classes.length c3, .slice A4 s.gears.length c4,
    .int .i64 s.allow, .int .i64 s.unit, .int .i64 s.cap, .int .i64 s.paid, .int .i64 s.aft, .int .i64 s.brk, .int .i64 s.reg, .int .i64 s.over, .int .i64 s.week, .int .i64 s.nfrom, .int .i64 s.nto,
    .slice A5 s.rates.length c5, .int .i64 s.diff, .int .i64 s.least, .int .i64 s.fault, .slice A6 s.tiers.length c6]
/-- Its lists lie there. -/
structure SetAt (w : World) (s : SetP) (A1 A2 A3 A4 A5 A6 : Option Addr) (c1 c2 c3 c4 c5 c6 : Nat) : Prop where
  ways : Tab 3 w A1 s.ways.length c1 s.ways
  elements : Tab 4 w A2 s.elements.length c2 s.elements
  classes : Tab 2 w A3 s.classes.length c3 s.classes
  gears : Tab 2 w A4 s.gears.length c4 s.gears
  rates : Tab 1 w A5 s.rates.length c5 (s.rates.map fun n => [n])
  tiers : Tab 2 w A6 s.tiers.length c6 s.tiers
theorem SetAt.below {w w' : World} {s : SetP} {A1 A2 A3 A4 A5 A6 : Option Addr} {c1 c2 c3 c4 c5 c6 : Nat} (h : SetAt w s A1 A2 A3 A4 A5 A6 c1 c2 c3 c4 c5 c6) (hb : Below w.heap.size w w') : SetAt w' s A1 A2 A3 A4 A5 A6 c1 c2 c3 c4 c5 c6 :=
  ⟨h.ways.below hb, h.elements.below hb, h.classes.below hb, h.gears.below hb, h.rates.below hb, h.tiers.below hb⟩
theorem SetAt.wide {w : World} {s : SetP} {A1 A2 A3 A4 A5 A6 : Option Addr} {c1 c2 c3 c4 c5 c6 : Nat} (h : SetAt w s A1 A2 A3 A4 A5 A6 c1 c2 c3 c4 c5 c6) : s.Wide := ⟨h.ways.wide, h.elements.wide, h.classes.wide, h.gears.wide, h.tiers.wide⟩
/-- Its own numbers fit. -/
structure SetP.Fit (s : SetP) : Prop where
  places : In64 s.places
  pn : In64 s.pn
  pd : In64 s.pd
  allow : In64 s.allow
  unit : In64 s.unit
  cap : In64 s.cap
  paid : In64 s.paid
  aft : In64 s.aft
  brk : In64 s.brk
  reg : In64 s.reg
  over : In64 s.over
  week : In64 s.week
  nfrom : In64 s.nfrom
  nto : In64 s.nto
  diff : In64 s.diff
  least : In64 s.least
  fault : In64 s.fault
theorem list23 {α : Type} {l : List α} (h : l.length = 23) : ∃ c0 c1 c2 c3 c4 c5 c6 c7 c8 c9 c10 c11 c12 c13 c14 c15 c16 c17 c18 c19 c20 c21 c22, l = [c0, c1, c2, c3, c4, c5, c6, c7, c8, c9, c10, c11, c12, c13, c14, c15, c16, c17, c18, c19, c20, c21, c22] := by
  match l, h with
  | [c0, c1, c2, c3, c4, c5, c6, c7, c8, c9, c10, c11, c12, c13, c14, c15, c16, c17, c18, c19, c20, c21, c22], _ => exact ⟨c0, c1, c2, c3, c4, c5, c6, c7, c8, c9, c10, c11, c12, c13, c14, c15, c16, c17, c18, c19, c20, c21, c22, rfl⟩
theorem one_int {P : Program} {H : Type} {enc : TypeId × Value → H} {w : World} {base : Nat} {spare : Nat → Bool} {held : Bool} {i : TypeId} {m : Nat} {v : Value} {x : DataW H × List MemPlace} (hi : P.underlying i = some (.int .i64)) (h : DataW.trod enc P w base spare held m i [v] = some x) : ∃ z, v = .int .i64 z ∧ In64 z := by
  obtain ⟨z, e, _, hz⟩ := DataW.trod_int hi h
  simp only [List.cons.injEq, and_true] at e
  exact ⟨z, e, bounds_i64 hz⟩
theorem one_tab {P : Program} {H : Type} {enc : TypeId × Value → H} {w : World} {base : Nat} {held : Bool} {t e : TypeId} {k m : Nat} {v : Value} {x : DataW H × List MemPlace}
    (ht : P.underlying t = some (.slice e)) (he : NumsT P e k) (hk : P.cellsOf e = k) (hk0 : 0 < k) (h : DataW.trod enc P w base (fun _ => true) held m t [v] = some x) : ∃ A c rows, v = .slice A rows.length c ∧ Tab k w A rows.length c rows := by
  obtain ⟨A, n, c, rows, e1, hT⟩ := open_tab ht he hk hk0 h
  simp only [List.cons.injEq, and_true] at e1
  have := hT.len
  subst this
  exact ⟨A, c, rows, e1, hT⟩
theorem rows_ones : ∀ (t : Rows2), (∀ r ∈ t, r.length = 1) → t = t.flatten.map fun n => [n]
  | [], _ => rfl
  | r :: t, h => by
    have h1 := h r (by simp)
    obtain ⟨n, rfl⟩ : ∃ n, r = [n] := by
      match r, h1 with
      | [n], _ => exact ⟨n, rfl⟩
    have := rows_ones t (fun q hq => h q (by simp [hq]))
    conv => lhs; rw [this]
    simp
/-- An argument that is a setup. -/
theorem open_setup {H : Type} {enc : TypeId × Value → H} {P : Program} {w : World} {r : Reach} {b0 base : Nat} {held : Bool} {t i tw ew tr te ee tq eq tn tt et : TypeId} {fs : Array Field} {v : Value} {d : DataW H} {p : List MemPlace}
    (hs : P.underlying t = some (.struct fs)) (hC : P.cellsOf t = 23)
    (hf : (fs.toList.map fun f => (f.type, f.offset, P.cellsOf f.type)) = [(i, 0, 1), (tw, 1, 1), (tr, 2, 2), (te, 4, 1), (tq, 5, 1), (tq, 6, 1), (i, 7, 1), (i, 8, 1), (i, 9, 1), (i, 10, 1), (i, 11, 1), (i, 12, 1), (i, 13, 1), (i, 14, 1), (i, 15, 1), (i, 16, 1), (i, 17, 1), (tn, 18, 1), (i, 19, 1), (i, 20, 1), (i, 21, 1), (tt, 22, 1)])
    (hi : P.underlying i = some (.int .i64)) (hi1 : P.cellsOf i = 1) (hw : P.underlying tw = some (.slice ew)) (aw : NumsT P ew 3) (cw : P.cellsOf ew = 3) (ar : NumsT P tr 2)
    (he : P.underlying te = some (.slice ee)) (ae : NumsT P ee 4) (ce : P.cellsOf ee = 4) (hq : P.underlying tq = some (.slice eq)) (aq : NumsT P eq 2) (cq : P.cellsOf eq = 2)
    (hn : P.underlying tn = some (.slice i)) (ht : P.underlying tt = some (.slice et)) (at_ : NumsT P et 2) (ct : P.cellsOf et = 2)
    (hv : Value.okWide P w r b0 t v) (h : DataW.Trod enc P w base (fun _ => true) held t v d p) :
    ∃ (s : SetP) (A1 A2 A3 A4 A5 A6 : Option Addr) (c1 c2 c3 c4 c5 c6 : Nat), v = setV s A1 A2 A3 A4 A5 A6 c1 c2 c3 c4 c5 c6 ∧ SetAt w s A1 A2 A3 A4 A5 A6 c1 c2 c3 c4 c5 c6 ∧ s.Fit := by
  obtain ⟨cs, rfl, hsz⟩ := okWide_struct hs hv
  obtain ⟨fuel, hfu⟩ := h
  obtain ⟨xs, m, _, _, hl, hxl, hx⟩ := DataW.trod_struct hs hfu
  have hsz2 : fs.size = 22 := by
    have := congrArg List.length hf
    simpa using this
  have get : ∀ (j : Nat) (T : TypeId) (o c : Nat), (fs.toList.map fun f => (f.type, f.offset, P.cellsOf f.type))[j]? = some (T, o, c) → ∃ y, DataW.trod enc P w base (fun _ => true) held m T (((Value.agg cs).cells.toList.drop o).take c) = some y := by
    intro j T o c hj
    rw [List.getElem?_map, Option.map_eq_some_iff] at hj
    obtain ⟨f, h1, h2⟩ := hj
    simp only [Prod.mk.injEq] at h2
    obtain ⟨rfl, rfl, rfl⟩ := h2
    rw [Array.getElem?_toList] at h1
    have h3 := hx j f h1
    have hj' : j < fs.size := (Array.getElem?_eq_some_iff.1 h1).1
    rw [List.getElem?_eq_getElem (show j < xs.length by omega)] at h3
    exact ⟨_, h3⟩
  rw [hf] at get
  have hcl : cs.toList.length = 23 := by rw [Array.length_toList, hsz, hC]
  obtain ⟨c0, c1, c2, c3, c4, c5, c6, c7, c8, c9, c10, c11, c12, c13, c14, c15, c16, c17, c18, c19, c20, c21, c22, hcs⟩ := list23 hcl
  have hce : (Value.agg cs).cells.toList = [c0, c1, c2, c3, c4, c5, c6, c7, c8, c9, c10, c11, c12, c13, c14, c15, c16, c17, c18, c19, c20, c21, c22] := hcs
  have hcs' : cs = #[c0, c1, c2, c3, c4, c5, c6, c7, c8, c9, c10, c11, c12, c13, c14, c15, c16, c17, c18, c19, c20, c21, c22] := by
    apply Array.toList_inj.1
    exact hcs
  rw [hce] at get
  clear hx hfu hl hcl hce hsz
  obtain ⟨_, g0⟩ := get 0 i 0 1 rfl
  obtain ⟨_, g1⟩ := get 1 tw 1 1 rfl
  obtain ⟨_, g2⟩ := get 2 tr 2 2 rfl
  obtain ⟨_, g3⟩ := get 3 te 4 1 rfl
  obtain ⟨_, g4⟩ := get 4 tq 5 1 rfl
  obtain ⟨_, g5⟩ := get 5 tq 6 1 rfl
  obtain ⟨_, g6⟩ := get 6 i 7 1 rfl
  obtain ⟨_, g7⟩ := get 7 i 8 1 rfl
  obtain ⟨_, g8⟩ := get 8 i 9 1 rfl
  obtain ⟨_, g9⟩ := get 9 i 10 1 rfl
  obtain ⟨_, g10⟩ := get 10 i 11 1 rfl
  obtain ⟨_, g11⟩ := get 11 i 12 1 rfl
  obtain ⟨_, g12⟩ := get 12 i 13 1 rfl
  obtain ⟨_, g13⟩ := get 13 i 14 1 rfl
  obtain ⟨_, g14⟩ := get 14 i 15 1 rfl
  obtain ⟨_, g15⟩ := get 15 i 16 1 rfl
  obtain ⟨_, g16⟩ := get 16 i 17 1 rfl
  obtain ⟨_, g17⟩ := get 17 tn 18 1 rfl
  obtain ⟨_, g18⟩ := get 18 i 19 1 rfl
  obtain ⟨_, g19⟩ := get 19 i 20 1 rfl
  obtain ⟨_, g20⟩ := get 20 i 21 1 rfl
  obtain ⟨_, g21⟩ := get 21 tt 22 1 rfl
  clear get
  obtain ⟨z0, rfl, b0'⟩ := one_int hi g0
  obtain ⟨z6, rfl, b6⟩ := one_int hi g6
  obtain ⟨z7, rfl, b7⟩ := one_int hi g7
  obtain ⟨z8, rfl, b8⟩ := one_int hi g8
  obtain ⟨z9, rfl, b9⟩ := one_int hi g9
  obtain ⟨z10, rfl, b10⟩ := one_int hi g10
  obtain ⟨z11, rfl, b11⟩ := one_int hi g11
  obtain ⟨z12, rfl, b12⟩ := one_int hi g12
  obtain ⟨z13, rfl, b13⟩ := one_int hi g13
  obtain ⟨z14, rfl, b14⟩ := one_int hi g14
  obtain ⟨z15, rfl, b15⟩ := one_int hi g15
  obtain ⟨z16, rfl, b16⟩ := one_int hi g16
  obtain ⟨z18, rfl, b18⟩ := one_int hi g18
  obtain ⟨z19, rfl, b19⟩ := one_int hi g19
  obtain ⟨z20, rfl, b20⟩ := one_int hi g20
  obtain ⟨A1, k1, t1, rfl, T1⟩ := one_tab hw aw cw (by omega) g1
  obtain ⟨A2, k2, t2, rfl, T2⟩ := one_tab he ae ce (by omega) g3
  obtain ⟨A3, k3, t3, rfl, T3⟩ := one_tab hq aq cq (by omega) g4
  obtain ⟨A4, k4, t4, rfl, T4⟩ := one_tab hq aq cq (by omega) g5
  obtain ⟨A5, k5, t5, rfl, T5⟩ := one_tab hn (alli_int hi) hi1 (by omega) g17
  obtain ⟨A6, k6, t6, rfl, T6⟩ := one_tab ht at_ ct (by omega) g21
  obtain ⟨zs, hz, e2, hb2⟩ := ar _ _ _ _ _ _ _ _ _ g2
  obtain ⟨pn, pd, rfl⟩ : ∃ a b, zs = [a, b] := by
    match zs, hz with
    | [a, b], _ => exact ⟨a, b, rfl⟩
  simp only [ints, List.map_cons, List.map_nil, List.drop_succ_cons, List.drop_zero, List.take_succ_cons, List.take_zero, List.cons.injEq, and_true] at e2
  obtain ⟨rfl, rfl⟩ := e2
  have h5 := rows_ones t5 T5.wide
  have hl5 : t5.length = t5.flatten.length := by
    conv => lhs; rw [h5]
    rw [List.length_map]
  refine ⟨⟨z0, t1, pn, pd, t2, t3, t4, z6, z7, z8, z9, z10, z11, z12, z13, z14, z15, z16, t5.flatten, z18, z19, z20, t6⟩, A1, A2, A3, A4, A5, A6, k1, k2, k3, k4, k5, k6, ?_, ⟨T1, T2, T3, T4, ?_, T6⟩,
    ⟨b0', hb2 pn (by simp), hb2 pd (by simp), b6, b7, b8, b9, b10, b11, b12, b13, b14, b15, b16, b18, b19, b20⟩⟩
  · rw [hcs', setV, hl5]
  · rw [← hl5, ← h5]
    exact T5
end Go.Proofs.YtdlimgpmmkcgmaaGreat

namespace Go.Proofs.YtdlimgpmmkcgmaaGreat
open Go.RowKit
set_option linter.unusedVariables false
set_option linter.unusedSimpArgs false

/-- What stood at the blocks F is as it was. -/
structure Kept (F : Nat → Prop) (w w' : World) : Prop where
  os : w'.os = w.os
  tape : w'.tape = w.tape
  output : w'.output = w.output
  size : w.heap.size ≤ w'.heap.size
  block : ∀ b, F b → w'.heap[b]? = w.heap[b]?
theorem Kept.refl (F : Nat → Prop) (w : World) : Kept F w w := ⟨rfl, rfl, rfl, Nat.le_refl _, fun _ _ => rfl⟩
section
variable {F G : Nat → Prop} {a b c w w' : World}
theorem Kept.on (h : Kept F a b) (k : Kept F b c) : Kept F a c :=
  ⟨k.os.trans h.os, k.tape.trans h.tape, k.output.trans h.output, Nat.le_trans h.size k.size, fun i hi => (k.block i hi).trans (h.block i hi)⟩
theorem Kept.less (h : Kept F a b) (hF : ∀ i, G i → F i) : Kept G a b := ⟨h.os, h.tape, h.output, h.size, fun i hi => h.block i (hF i hi)⟩
theorem Kept.of_below (h : Below w.heap.size w w') (hF : ∀ i, F i → i < w.heap.size) : Kept F w w' := ⟨h.os, h.tape, h.output, h.size, fun i hi => h.block i (hF i hi)⟩
theorem Kept.below {B : Nat} (h : Kept F a b) (hF : ∀ i, i < B → F i) : Below B a b := ⟨h.os, h.tape, h.output, h.size, fun i hi => h.block i (hF i hi)⟩
end
/-- All that stood is as it was, but for the blocks M. -/
def Chg (M : Nat → Prop) (w w' : World) : Prop := Kept (fun b => b < w.heap.size ∧ ¬ M b) w w'
section
variable {M : Nat → Prop} {a w w' : World}
theorem Chg.refl (M : Nat → Prop) (w : World) : Chg M w w := Kept.refl _ _
theorem Chg.size (h : Chg M w w') : w.heap.size ≤ w'.heap.size := Kept.size h
theorem Chg.on (h : Chg M a w) (k : Chg M w w') : Chg M a w' :=
  Kept.on h (Kept.less k fun i hi => ⟨Nat.lt_of_lt_of_le hi.1 (Kept.size h), hi.2⟩)
theorem Chg.of_below (h : Below w.heap.size w w') : Chg M w w' := Kept.of_below h fun _ hi => hi.1
theorem Chg.onB (h : Chg M a w) (k : Below w.heap.size w w') : Chg M a w' := h.on (.of_below k)
theorem Chg.alloc (h : Chg M a w) (o : Obj) : Chg M a (w.alloc o) := h.onB (bel_alloc (Below.refl _ _) _)
theorem Chg.none (h : Chg (fun _ => False) a w) : Below a.heap.size a w := Kept.below h fun _ hi => ⟨hi, fun x => x⟩
theorem Chg.below {B : Nat} (h : Chg M a w) (hB : B ≤ a.heap.size) (hM : ∀ i, M i → B ≤ i) : Below B a w := Kept.below h fun i hi => ⟨by omega, fun x => by have := hM i x; omega⟩
theorem Chg.set (h : Chg M a w) {p : Addr} (hp : a.heap.size ≤ p.block ∨ M p.block) (v : Value) : Chg M a (w.setCell p v) := by
  refine ⟨h.os, h.tape, h.output, ?_, fun b hb => ?_⟩
  · have := Kept.size h
    simp [World.setCell]
    exact this
  · rw [Below.heap_setCell w p v b (by rintro rfl; rcases hp with hp | hp; omega; exact hb.2 hp)]
    exact Kept.block h b hb
theorem Has.chg {g : Nat} {cs : Array Value} (h : Has w g cs) (hM : ¬ M g) (k : Chg M w w') : Has w' g cs := by
  have hl := h.size
  obtain ⟨t, h⟩ := h
  exact ⟨t, (Kept.block k g ⟨hl, hM⟩).trans h⟩
theorem Has.kept {F : Nat → Prop} {g : Nat} {cs : Array Value} (h : Has w g cs) (hF : F g) (k : Kept F w w') : Has w' g cs := by
  obtain ⟨t, h⟩ := h
  exact ⟨t, (k.block g hF).trans h⟩
theorem sl_blocks {size m c : Nat} {A : Option Addr} {us : List Value} (h : Sl size w A m c us) (hk : ∀ ad, A = some ad → w'.heap[ad.block]? = w.heap[ad.block]?) : Sl size w' A m c us := by
  obtain ⟨hl, h | ⟨ad, rfl, hc⟩⟩ := h
  · exact ⟨hl, .inl h⟩
  · refine ⟨hl, .inr ⟨ad, rfl, fun j u hu => ?_⟩⟩
    rw [← hc j u hu]
    exact World.cell?_of_block (by rw [add_block]; exact hk ad rfl)
theorem Tab.blocks {k n c : Nat} {A : Option Addr} {t : Rows2} (h : Tab k w A n c t) (hk : ∀ ad, A = some ad → w'.heap[ad.block]? = w.heap[ad.block]?) : Tab k w' A n c t := ⟨sl_blocks h.sl hk, h.len, h.wide, h.small, h.cap, h.max⟩
end
/-- All below n. -/
def allP (p : Nat → Bool) (n : Nat) : Bool := (List.range n).all p
theorem allP_succ (p : Nat → Bool) (n : Nat) : allP p (n + 1) = (allP p n && p n) := by simp [allP, List.range_succ]
theorem allP_bad {p : Nat → Bool} {n i : Nat} (h : i < n) (hp : p i = false) : allP p n = false := by
  unfold allP
  rw [List.all_eq_false]
  exact ⟨i, List.mem_range.2 h, by rw [hp]; simp⟩
theorem allP_iff {p : Nat → Bool} {n : Nat} : allP p n = true ↔ ∀ i, i < n → p i = true := by simp [allP]
end Go.Proofs.YtdlimgpmmkcgmaaGreat

namespace Go.Proofs.YtdlimgpmmkcgmaaGreat
open Go.RowKit
set_option linter.unusedVariables false

/-- A slice of the call's own, that lies at 'base' or behind, and holds the bytes xs. -/
def BRow (w : World) (base : Nat) (A : Option Addr) (c : Nat) (xs : List (BitVec 8)) : Prop :=
  w.ownsRow base 5 1 (.slice A xs.length c) xs.length (bytesV xs)
section
variable {w w' : World} {base c : Nat} {A : Option Addr} {xs : List (BitVec 8)}
theorem BRow.nil (w : World) (base : Nat) : BRow w base none 0 [] := World.ownsRow_nil w base _ _
theorem BRow.keep (h : BRow w base A c xs) (hk : ∀ g, A = some g → w'.heap[g.block]? = w.heap[g.block]?) : BRow w' base A c xs := by
  obtain ⟨hl, hn | ⟨g, cap, cur, hv, hg, hh, rest⟩⟩ := h
  · exact ⟨hl, .inl hn⟩
  · injection hv with e1 e2 e3
    subst e1
    exact ⟨hl, .inr ⟨g, cap, cur, by rw [e3], hg, (hk _ rfl).trans hh, rest⟩⟩
theorem BRow.lt (h : BRow w base A c xs) : ∀ g, A = some g → base ≤ g.block ∧ g.block < w.heap.size := by
  rintro g rfl
  exact World.ownsRow.lt h _ rfl
theorem BRow.below (h : BRow w base A c xs) (hb : Below w.heap.size w w') : BRow w' base A c xs :=
  h.keep fun g hg => hb.block _ (h.lt g hg).2
theorem BRow.alloc (h : BRow w base A c xs) (o : Obj) : BRow (w.alloc o) base A c xs := World.ownsRow.alloc h o
theorem BRow.drewN (h : BRow w base A c xs) (n : Nat) : BRow (w.drewN n) base A c xs := h
theorem BRow.drew (h : BRow w base A c xs) : BRow w.drew base A c xs := h
theorem BRow.mono (h : BRow w base A c xs) {b : Nat} (hb : b ≤ base) : BRow w b A c xs := by
  obtain ⟨hl, hn | ⟨g, cap, cur, hv, hg, rest⟩⟩ := h
  · exact ⟨hl, .inl hn⟩
  · exact ⟨hl, .inr ⟨g, cap, cur, hv, by omega, rest⟩⟩
theorem BRow.forms (h : BRow w base A c xs) : (A = none ∧ xs = [] ∧ c = 0) ∨ ∃ g, A = some ⟨g, 0, none⟩ ∧ base ≤ g ∧ g < w.heap.size ∧ xs.length ≤ c ∧ c ≤ maxLen := by
  have hlt := h.lt
  obtain ⟨hl, ⟨hv, hz⟩ | ⟨g, cap, cur, hv, hb, hh, hc, hm, _⟩⟩ := h
  · injection hv with e1 e2 e3
    exact .inl ⟨e1, List.eq_nil_of_length_eq_zero hz, e3⟩
  · injection hv with e1 e2 e3
    subst e1 e3
    exact .inr ⟨g, rfl, hb, (hlt _ rfl).2, hc, hm⟩
theorem BRow.form (h : BRow w base A c xs) (hn : xs ≠ []) : ∃ g, A = some ⟨g, 0, none⟩ := by
  rcases h.forms with ⟨_, e, _⟩ | ⟨g, e, _⟩
  · exact absurd e hn
  · exact ⟨g, e⟩
theorem BRow.sl (h : BRow w base A c xs) : Sl 1 w A xs.length c (bytesV xs) := Sl.of_own h
theorem BRow.cellAt {g : Nat} (h : BRow w base (some ⟨g, 0, none⟩) c xs) {k : Nat} (hk : k < xs.length) : w.cell? ⟨g, k, none⟩ = some (v8 (xs.getD k 0#8)) := by
  rw [World.ownsRow.cellAt h k (by omega)]
  simp [bytesV, List.getD, hk]
theorem BRow.frozenAt {g : Nat} (h : BRow w base (some ⟨g, 0, none⟩) c xs) (j : Nat) : w.frozen? ⟨g, j, none⟩ = false := World.ownsRow.frozenAt h j
theorem BRow.set {g : Nat} (h : BRow w base (some ⟨g, 0, none⟩) c xs) {k : Nat} (hk : k < xs.length) (x : BitVec 8) : BRow (w.setCell ⟨g, k, none⟩ (v8 x)) base (some ⟨g, 0, none⟩) c (xs.set k x) := by
  have := (World.ownsRow.stored h k (v8 x)).1
  unfold BRow
  rw [List.length_set]
  have e : bytesV (xs.set k x) = (bytesV xs).set k (v8 x) := by simp [bytesV, List.map_set]
  rw [e]
  exact this
end

theorem BRow.cap_le {w : World} {base c : Nat} {A : Option Addr} {xs : List (BitVec 8)} (h : BRow w base A c xs) {n : Nat} (hn : xs.length = n) : n ≤ c := by
  subst hn
  rcases h.forms with ⟨_, rfl, _⟩ | ⟨g, _, _, _, h, _⟩
  · simp
  · exact h
theorem BRow.slAt {w : World} {base c : Nat} {A : Option Addr} {xs : List (BitVec 8)} (h : BRow w base A c xs) {n : Nat} (hn : xs.length = n) : Sl 1 w A n c (bytesV xs) := by
  subst hn
  exact h.sl
end Go.Proofs.YtdlimgpmmkcgmaaGreat

namespace Go.Proofs.YtdlimgpmmkcgmaaGreat
open Go.RowKit
set_option linter.unusedVariables false

/-- What a call that tells bytes answers: a slice of its own. -/
def TellsB (w : World) (xs : List (BitVec 8)) (v : Value) (w' : World) : Prop := ∃ A c, v = .slice A xs.length c ∧ BRow w' w.heap.size A c xs
theorem TellsB.below {w w' w'' : World} {xs : List (BitVec 8)} {v : Value} (h : TellsB w xs v w') (hb : Below w'.heap.size w' w'') : TellsB w xs v w'' := by
  obtain ⟨A, c, e, hr⟩ := h
  exact ⟨A, c, e, hr.below hb⟩
end Go.Proofs.YtdlimgpmmkcgmaaGreat

namespace Go.Proofs.YtdlimgpmmkcgmaaGreat
open Go.RowKit
set_option linter.unusedVariables false
set_option maxRecDepth 20000

/-- In a walk: a slice whose run is known. -/
theorem wpList_slice_run {P : Program} {ops : Array Oper} {rest : List Oper} {o : Oper} {a : Act} {w : World} {Q : Exit → Act → World → Prop} {x : Operand} {l h m : Option Operand} {t : TypeId} {v v' : Value} {lo hi mx : Option Value}
    (hr : ∀ w', (Instr.sliceAt t v lo hi mx).run P w' = .ok v' w') (hgd : o.guard = none)
    (ho : o.op = .slice t x l h m) (hx : a.eval x = v) (h1 : l.map a.eval = lo) (h2 : h.map a.eval = hi) (h3 : m.map a.eval = mx)
    (hk : wpList P ops Q rest (a.put o.dst v') w) : wpList P ops Q (o :: rest) a w := by
  refine wpList_plain hgd fun K hK => ?_
  unfold Oper.wp
  simp [execOp, ho, hx, h1, h2, h3, hr, Result.andThen]
  exact hK _ _ hk
/-- In a drawn region: the same. -/
theorem exec_slice_run {P : Program} {o : Oper} {ρ : Operand → Value} {ww : World} {x : Operand} {l h m : Option Operand} {t : TypeId} {v v' : Value} {lo hi mx : Option Value}
    (hr : ∀ w', (Instr.sliceAt t v lo hi mx).run P w' = .ok v' w') (ho : o.op = .slice t x l h m) (hx : ρ x = v) (h1 : l.map ρ = lo) (h2 : h.map ρ = hi) (h3 : m.map ρ = mx) :
    (execOp ρ o).run P ww = .ok (.value v') ww := by
  simp [execOp, ho, hx, h1, h2, h3, hr, Result.andThen]
end Go.Proofs.YtdlimgpmmkcgmaaGreat

namespace Go.Proofs.YtdlimgpmmkcgmaaGreat
open Go.RowKit
set_option linter.unusedVariables false

/-- A slice of the call's own, that lies at 'base' or behind, and holds the numbers xs. -/
def NRow (w : World) (base : Nat) (A : Option Addr) (c : Nat) (xs : List Int) : Prop :=
  w.ownsRow base 3 1 (.slice A xs.length c) xs.length (ints .i64 xs)
section
variable {w w' : World} {base c : Nat} {A : Option Addr} {xs : List Int}
theorem NRow.nil (w : World) (base : Nat) : NRow w base none 0 [] := World.ownsRow_nil w base _ _
theorem NRow.keep (h : NRow w base A c xs) (hk : ∀ g, A = some g → w'.heap[g.block]? = w.heap[g.block]?) : NRow w' base A c xs := by
  obtain ⟨hl, hn | ⟨g, cap, cur, hv, hg, hh, rest⟩⟩ := h
  · exact ⟨hl, .inl hn⟩
  · injection hv with e1 e2 e3
    subst e1
    exact ⟨hl, .inr ⟨g, cap, cur, by rw [e3], hg, (hk _ rfl).trans hh, rest⟩⟩
theorem NRow.lt (h : NRow w base A c xs) : ∀ g, A = some g → base ≤ g.block ∧ g.block < w.heap.size := by
  rintro g rfl
  exact World.ownsRow.lt h _ rfl
theorem NRow.below (h : NRow w base A c xs) (hb : Below w.heap.size w w') : NRow w' base A c xs :=
  h.keep fun g hg => hb.block _ (h.lt g hg).2
theorem NRow.alloc (h : NRow w base A c xs) (o : Obj) : NRow (w.alloc o) base A c xs := World.ownsRow.alloc h o
theorem NRow.drew (h : NRow w base A c xs) : NRow w.drew base A c xs := h
theorem NRow.mono (h : NRow w base A c xs) {b : Nat} (hb : b ≤ base) : NRow w b A c xs := by
  obtain ⟨hl, hn | ⟨g, cap, cur, hv, hg, rest⟩⟩ := h
  · exact ⟨hl, .inl hn⟩
  · exact ⟨hl, .inr ⟨g, cap, cur, hv, by omega, rest⟩⟩
theorem NRow.sl (h : NRow w base A c xs) : Sl 1 w A xs.length c (ints .i64 xs) := Sl.of_own h
theorem NRow.nums (h : NRow w base A c xs) : Nums w A xs := nums_of_sl h.sl
theorem NRow.cap_le (h : NRow w base A c xs) {n : Nat} (hn : xs.length = n) : n ≤ c := by
  subst hn
  obtain ⟨hl, ⟨hv, hz⟩ | ⟨g, cap, cur, hv, hb, hh, hc, hm, _⟩⟩ := h
  · omega
  · injection hv with e1 e2 e3
    omega
theorem NRow.slAt (h : NRow w base A c xs) {n : Nat} (hn : xs.length = n) : Sl 1 w A n c (ints .i64 xs) := by
  subst hn
  exact h.sl
end
theorem int_info : (Tryz.prog.info? 3).map (fun i => (i.zero, i.size, i.bytes)) = some (some (.int .i64 0), 1, 8) := by kernel_rfl
theorem nrow_new (w : World) (ys : List Int) {k : Nat} (hk : ys.length = k) (hm : k ≤ 1000000) : NRow (w.alloc (.cells (ints .i64 ys).toArray 3)) w.heap.size (some ⟨w.heap.size, 0, none⟩) k ys := by
  subst hk
  exact own_new w 3 1 ys.length (ints .i64 ys).toArray (by simp [ints]) (by simp only [maxLen]; omega)
/-- An append of what a slice holds. -/
theorem nrow_append {w : World} {base c : Nat} {A : Option Addr} {xs : List Int} (h : NRow w base A c xs) {n : Nat} (hn : xs.length = n) {B : Option Addr} {d k : Nat} {ys : List Int} (hs : Sl 1 w B k d (ints .i64 ys)) (hk : ys.length = k) (hm : n + k ≤ 1000000000) (hbase : base ≤ w.heap.size) :
    ∃ A' c' w', (Builtin.append_ #[27, 27] 27 #[.slice A n c, .slice B k d]).run Tryz.prog w = .ok (.slice A' (n + k) c') w' ∧ NRow w' base A' c' (xs ++ ys) ∧
      (∀ a : World, a.heap.size ≤ base → Below a.heap.size a w → Below a.heap.size a w') := by
  subst hn hk
  obtain ⟨A', c', w', hr, ho, hg, hl⟩ := append_any (P := Tryz.prog) w base 27 27 3 _ 1 8 Tryz.underlying27 int_info rfl (by omega) h hs (ints_one .i64 ys) (xs.length + ys.length) rfl (ints .i64 (xs ++ ys)) (by simp [ints]) (by omega) (by omega) hbase
  refine ⟨A', c', w', hr, ?_, fun a ha hb => bel_grown hb h ha hg⟩
  unfold NRow
  rw [List.length_append]
  exact ho
/-- An append of numbers that are laid for it. -/
theorem nrow_lay {w : World} {base c : Nat} {A : Option Addr} {xs ys : List Int} (h : NRow w base A c xs) {n : Nat} (hn : xs.length = n) {k : Nat} (hk : ys.length = k) (hm : n + k ≤ 1000000000) (hbase : base ≤ w.heap.size) {s : Nat} (hs : w.heap.size = s) :
    ∃ A' c' w', (Builtin.append_ #[27, 27] 27 #[.slice A n c, .slice (some ⟨s, 0, none⟩) k k]).run Tryz.prog (w.alloc (.cells (ints .i64 ys).toArray 3)) = .ok (.slice A' (n + k) c') w' ∧ NRow w' base A' c' (xs ++ ys) ∧
      (∀ a : World, a.heap.size ≤ base → Below a.heap.size a w → Below a.heap.size a w') := by
  subst hk hs
  obtain ⟨A', c', w', h1, h2, h3⟩ := nrow_append (h.alloc (.cells (ints .i64 ys).toArray 3)) hn (Sl.of_own (own_new w 3 1 ys.length (ints .i64 ys).toArray (by simp [ints]) (by simp only [maxLen]; omega))) rfl hm (by simp; omega)
  exact ⟨A', c', w', h1, h2, fun a ha hb => h3 a ha (hb.alloc hb.size _)⟩
end Go.Proofs.YtdlimgpmmkcgmaaGreat

namespace Go.Proofs.YtdlimgpmmkcgmaaGreat
open Go.RowKit
set_option linter.unusedVariables false
set_option maxRecDepth 20000

theorem wrapi_id {a : Int} (h0 : -9223372036854775808 ≤ a) (h1 : a < 9223372036854775808) : IntKind.i64.wrap a = a := by
  simp [IntKind.wrap, IntKind.bits, IntKind.signed]
  split <;> omega
end Go.Proofs.YtdlimgpmmkcgmaaGreat

namespace Go.Proofs.YtdlimgpmmkcgmaaGreat
open Go.RowKit
set_option linter.unusedVariables false
set_option linter.unusedSimpArgs false

/-- An event's cells. -/
def evC (e : EvP) : Array Value := #[.int .i64 e.id, .int .i64 e.wk, .int .i64 e.tm, .int .i64 e.kd, .int .i64 e.fr, .int .i64 e.to, .int .i64 e.el, .int .i64 e.un, .int .i64 e.cl, .int .i64 e.ge, .int .i64 e.cd]
end Go.Proofs.YtdlimgpmmkcgmaaGreat

namespace Go.Proofs.YtdlimgpmmkcgmaaGreat
open Go.RowKit Go.Deep Go.WideShapes
set_option linter.unusedVariables false
set_option maxRecDepth 20000

theorem nums_at_e {P : Program} {t : TypeId} {k : Nat} (h : NumsT P t k) (hk : P.cellsOf t = k) : NumsT P t (P.cellsOf t) := by rw [hk]; exact h
theorem numsT_int_e : NumsT Tryz.prog 3 1 := alli_int Tryz.underlying3
/-- An event's numbers. -/
def evLs (e : EvP) : List Int := [e.id, e.wk, e.tm, e.kd, e.fr, e.to, e.el, e.un, e.cl, e.ge, e.cd]
end Go.Proofs.YtdlimgpmmkcgmaaGreat

namespace Go.Proofs.YtdlimgpmmkcgmaaGreat
open Go.RowKit
set_option linter.unusedVariables false
/-- What a slot that holds a slice of bytes is. -/
def BytV (v : Value) (n : Nat) (l : List (BitVec 8)) (w : World) : Prop := ∃ A c, v = .slice A n c ∧ Sl 1 w A n c (bytesV l)
theorem BytV.below {v : Value} {n : Nat} {l : List (BitVec 8)} {w w' : World} (h : BytV v n l w) (hb : Below w.heap.size w w') : BytV v n l w' := by
  obtain ⟨A, c, e, hp⟩ := h
  exact ⟨A, c, e, hp.below hb⟩
theorem BytV.elim {v : Value} {n : Nat} {l : List (BitVec 8)} {w : World} (h : BytV v n l w) {G : Prop} (k : ∀ A c, v = .slice A n c → Sl 1 w A n c (bytesV l) → G) : G := by
  obtain ⟨A, c, e, hp⟩ := h
  exact k A c e hp

end Go.Proofs.YtdlimgpmmkcgmaaGreat
