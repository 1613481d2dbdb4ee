/-
  Slices of structs that are numbers alone, as rows of numbers; arguments that hold them opened. Over any program.
  What a call may change: blocks that are kept, and blocks that may change. Over any program.
  Sets of seconds as lists of spans: no program here. A list is plain if its spans have seconds, lie within all time, and do not touch; each set has one plain list ('canon').
  An argument of type api.Setup, opened: its cells, its lists.
-/
import Derived.Test.YtcefjnjlcpkanaaZaa
import Derived.Deep.Slices
import Derived.Lib.SmallJoins
import Derived.OpenShut
import Derived.Laws.Cover1
import Derived.Test.YtcefjnjlcpkanaaProg
namespace Go.Proofs.Ytcefjnjlcpkanaa
open Go.RowKit Go.Deep Go.WideShapes
set_option linter.unusedVariables false
set_option linter.unusedSimpArgs false

theorem getD_in {l : List Int} {j : Nat} (h : j < l.length) : l.getD j 0 ∈ l := by
  rw [List.getD_eq_getElem?_getD, List.getElem?_eq_getElem h, Option.getD_some]
  exact List.getElem_mem _
def In64 (z : Int) : Prop := -9223372036854775808 ≤ z ∧ z ≤ 9223372036854775807
/-- The slice value '.slice A n c' reads as the rows t, of k numbers each. -/
structure Tab (k : Nat) (w : World) (A : Option Addr) (n c : Nat) (t : Rows2) : Prop where
  sl : Sl k w A n c (ints .i64 t.flatten)
  len : t.length = n
  wide : ∀ r ∈ t, r.length = k
  small : ∀ r ∈ t, ∀ z ∈ r, In64 z
  cap : n ≤ c
  max : c ≤ 9223372036854775807
theorem tab_add {b off n : Nat} : (⟨b, off, none⟩ : Addr).add n = ⟨b, off + n, none⟩ := by unfold Addr.add; split <;> simp_all
section
variable {k : Nat} {w w' : World} {A : Option Addr} {n c : Nat} {t : Rows2}
theorem Tab.below (h : Tab k w A n c t) (hb : Below w.heap.size w w') : Tab k w' A n c t := ⟨h.sl.below hb, h.len, h.wide, h.small, h.cap, h.max⟩
theorem Tab.nil_ : Tab k w none 0 0 [] := ⟨⟨by simp [ints], .inl ⟨rfl, rfl, rfl⟩⟩, rfl, by simp, by simp, by omega, by omega⟩
theorem Tab.form (h : Tab k w A n c t) (hk : 0 < k) (hn : 0 < n) : ∃ b off, A = some ⟨b, off, none⟩ := by
  obtain ⟨hl, ⟨_, h0, _⟩ | ⟨ad, rfl, hc⟩⟩ := h.sl
  · omega
  · have hp : 0 < n * k := Nat.mul_pos hn hk
    obtain ⟨u, hu⟩ : ∃ u, (ints .i64 t.flatten)[0]? = some u := ⟨_, List.getElem?_eq_getElem (by omega)⟩
    have h0 := hc 0 u hu
    obtain ⟨b, off, sp⟩ := ad
    have hsp : sp = none := by simpa [Addr.add] using World.cell?_spot h0
    subst hsp
    exact ⟨b, off, rfl⟩
/-- One number of one row. -/
theorem Tab.cell {b off : Nat} (h : Tab k w (some ⟨b, off, none⟩) n c t) {i j : Nat} (hi : i < n) (hj : j < k) : w.cell? ⟨b, off + i * k + j, none⟩ = some (.int .i64 ((t.getD i []).getD j 0)) := by
  have hti : i < t.length := by rw [h.len]; exact hi
  obtain ⟨hl, ⟨h0, _, _⟩ | ⟨ad, e, hc⟩⟩ := h.sl
  · cases h0
  · injection e with e
    subst e
    have hg := rows_get t h.wide i j hti hj []
    rw [List.append_nil] at hg
    have hlt : k * i + j < t.flatten.length := by
      rw [rows_len t h.wide]
      have : k * i + k ≤ k * t.length := by rw [← Nat.mul_succ]; exact Nat.mul_le_mul_left k hti
      omega
    have hu : (ints .i64 t.flatten)[k * i + j]? = some (.int .i64 ((t.getD i []).getD j 0)) := by
      rw [ints, List.getElem?_map, List.getElem?_eq_getElem hlt, Option.map_some, ← hg, List.getD_eq_getElem?_getD, List.getElem?_eq_getElem hlt, Option.getD_some]
    have := hc _ _ hu
    rw [tab_add, ← Nat.add_assoc, Nat.mul_comm] at this
    exact this
theorem Tab.at_small (h : Tab k w A n c t) {i j : Nat} (hi : i < n) (hj : j < k) : In64 ((t.getD i []).getD j 0) := by
  have hti : i < t.length := by rw [h.len]; exact hi
  have hr : t.getD i [] ∈ t := by simp [List.getD, hti]
  have hw := h.wide _ hr
  exact h.small _ hr _ (getD_in (by omega))
end
/-! ### Arguments -/
/-- What is read at type t is k numbers. -/
def NumsT (P : Program) (t : TypeId) (k : Nat) : Prop := ∀ (H : Type) (enc : TypeId × Value → H) (w : World) (base : Nat) (spare : Nat → Bool) (held : Bool) (fuel : Nat) (cs : List Value) (x : DataW H × List MemPlace),
  DataW.trod enc P w base spare held fuel t cs = some x → ∃ zs : List Int, zs.length = k ∧ cs = ints .i64 zs ∧ ∀ z ∈ zs, In64 z
theorem alli_int {P : Program} {t : TypeId} (h : P.underlying t = some (.int .i64)) : NumsT P t 1 := by
  intro H enc w base spare held fuel cs x hx
  obtain ⟨z, e, _, hz⟩ := DataW.trod_int h hx
  exact ⟨[z], rfl, e, fun y hy => by obtain rfl : y = z := by simpa using hy
                                     exact bounds_i64 hz⟩
/-- Fields one behind the other, each of numbers alone. -/
def ChainI (P : Program) : List Field → Nat → Nat → Prop
  | [], o, n => o = n
  | f :: fs, o, n => f.offset = o ∧ NumsT P f.type (P.cellsOf f.type) ∧ ChainI P fs (o + P.cellsOf f.type) n
theorem chain_ints {H : Type} {enc : TypeId × Value → H} {P : Program} {w : World} {base : Nat} {spare : Nat → Bool} {held : Bool} {n : Nat} {cs : List Value} (hl : cs.length = n) :
    ∀ (fs : List Field) (o : Nat), ChainI P fs o n → (∀ f ∈ fs, ∃ m x, DataW.trod enc P w base spare held m f.type ((cs.drop f.offset).take (P.cellsOf f.type)) = some x) → ∃ zs : List Int, cs.drop o = ints .i64 zs ∧ ∀ z ∈ zs, In64 z
  | [], o, hc, _ => by
    have : o = n := hc
    exact ⟨[], by rw [List.drop_of_length_le (by omega)]; rfl, by simp⟩
  | f :: fs, o, ⟨ho, ha, hc⟩, hx => by
    obtain ⟨m, x, h1⟩ := hx f (by simp)
    obtain ⟨zs, hz, e, hb⟩ := ha _ _ _ _ _ _ _ _ _ h1
    obtain ⟨ys, e2, hb2⟩ := chain_ints hl fs _ hc (fun g hg => hx g (by simp [hg]))
    refine ⟨zs ++ ys, ?_, fun z h => ?_⟩
    · rw [← List.take_append_drop (P.cellsOf f.type) (cs.drop o), List.drop_drop, e2, ← ho, e]
      simp [ints]
    · rcases List.mem_append.1 h with h | h
      · exact hb z h
      · exact hb2 z h
theorem alli_struct {P : Program} {t : TypeId} {fs : Array Field} {n : Nat} (hs : P.underlying t = some (.struct fs)) (hn : P.cellsOf t = n) (hc : ChainI P fs.toList 0 n) : NumsT P t n := by
  intro H enc w base spare held fuel cs x hx
  obtain ⟨xs, m, _, _, hl, hxl, hf⟩ := DataW.trod_struct hs hx
  obtain ⟨zs, e, hb⟩ := chain_ints (cs := cs) (hl.trans hn) fs.toList 0 hc (fun f hf' => by
    obtain ⟨i, hi, rfl⟩ := List.getElem_of_mem hf'
    have hi' : i < fs.size := by simpa using hi
    have h1 := hf i (fs[i]) (by simp [hi'])
    refine ⟨m, xs[i]'(by omega), ?_⟩
    have e : fs.toList[i] = fs[i] := by simp
    rw [e, h1]
    exact List.getElem?_eq_getElem (by omega))
  rw [List.drop_zero] at e
  refine ⟨zs, ?_, e, hb⟩
  have := congrArg List.length e
  simp [ints] at this
  omega
theorem open_tab {H : Type} {enc : TypeId × Value → H} {P : Program} {w : World} {base : Nat} {held : Bool} {t e : TypeId} {k fuel : Nat} {cs : List Value} {x : DataW H × List MemPlace}
    (ht : P.underlying t = some (.slice e)) (he : NumsT P e k) (hk : P.cellsOf e = k) (hk0 : 0 < k) (h : DataW.trod enc P w base (fun _ => true) held fuel t cs = some x) :
    ∃ A n c rows, cs = [.slice A n c] ∧ Tab k w A n c rows := by
  rcases open_slice ht h with ⟨hcs, _⟩ | ⟨a, len, cap, m, f, D, Pl, hcs, hb, hl, hm, hmm, hx, hi⟩
  · exact ⟨none, 0, 0, [], hcs, Tab.nil_⟩
  · have hlm : len ≤ m := by rw [hmm]; split <;> omega
    have each : ∀ i, i < m → ∃ zs : List Int, zs.length = k ∧ (∀ z ∈ zs, In64 z) ∧ ∀ j, j < k → w.cell? (a.add (i * k + j)) = some (.int .i64 (zs.getD j 0)) := by
      intro i him
      obtain ⟨cs', h1, h2⟩ := hi i him
      rw [hk] at h1
      obtain ⟨_, hlen, hcell⟩ := World.cells?_some h1
      obtain ⟨zs, hz, e1, hb⟩ := he _ _ _ _ _ _ _ _ _ h2
      refine ⟨zs, hz, hb, fun j hj => ?_⟩
      have := hcell j hj
      rw [add_add] at this
      rw [this, e1, ints, List.getElem?_map, List.getElem?_eq_getElem (by omega)]
      simp [List.getD, show j < zs.length by omega]
    obtain ⟨Z, hZ⟩ := choose_lt each
    have hwide : ∀ r ∈ (List.range len).map Z, r.length = k := by
      intro r hr
      simp only [List.mem_map, List.mem_range] at hr
      obtain ⟨i, hi', rfl⟩ := hr
      exact (hZ i (by omega)).1
    refine ⟨some a, len, cap, (List.range len).map Z, hcs, ⟨⟨?_, .inr ⟨a, rfl, fun j u hu => ?_⟩⟩, by simp, hwide, ?_, hl, by unfold maxLen at hm; omega⟩⟩
    · simp only [ints, List.length_map]
      rw [rows_len _ hwide]
      simp [Nat.mul_comm]
    · have hjl : j < len * k := by
        rcases Nat.lt_or_ge j (len * k) with q | q
        · exact q
        · rw [List.getElem?_eq_none (by simp only [ints, List.length_map]; rw [rows_len _ hwide]; simp [Nat.mul_comm]; rw [Nat.mul_comm]; omega)] at hu
          cases hu
      have hi' : j / k < len := (Nat.div_lt_iff_lt_mul hk0).2 hjl
      have hr' : j % k < k := Nat.mod_lt _ hk0
      have hc := (hZ (j / k) (by omega)).2.2 (j % k) hr'
      have hj : j / k * k + j % k = j := by rw [Nat.mul_comm]; exact Nat.div_add_mod j k
      rw [hj] at hc
      rw [hc, ← hu]
      have hg := rows_get ((List.range len).map Z) hwide (j / k) (j % k) (by simpa using hi') hr' []
      rw [List.append_nil, show k * (j / k) + j % k = j from Nat.div_add_mod j k] at hg
      have hlt : j < ((List.range len).map Z).flatten.length := by rw [rows_len _ hwide]; simp; rw [Nat.mul_comm]; exact hjl
      rw [ints, List.getElem?_map, List.getElem?_eq_getElem hlt, Option.map_some]
      congr 2
      have e3 : ((List.range len).map Z).getD (j / k) [] = Z (j / k) := by simp [List.getD, hi']
      rw [e3] at hg
      rw [← hg, List.getD_eq_getElem?_getD, List.getElem?_eq_getElem hlt, Option.getD_some]
    · intro r hr z hz
      simp only [List.mem_map, List.mem_range] at hr
      obtain ⟨i, hi', rfl⟩ := hr
      exact (hZ i (by omega)).2.1 z hz
/-! ### A setup -/
/-- The value of a setup: its cells. -/
def setV (s : SetP) (A1 A2 A3 A4 A5 A6 : Option Addr) (c1 c2 c3 c4 c5 c6 : Nat) : Value :=
  .agg #[.int .i64 s.places, .slice A1 s.ways.length c1, .int .i64 s.pn, .int .i64 s.pd, .slice A2 s.elements.length c2, .slice A3 s.classes.length c3, .slice A4 s.gears.length c4,
    .int .i64 s.allow, .int .i64 s.unit, .int .i64 s.cap, .int .i64 s.paid, .int .i64 s.aft, .int .i64 s.brk, .int .i64 s.reg, .int .i64 s.over, .int .i64 s.week, .int .i64 s.nfrom, .int .i64 s.nto,
    .slice A5 s.rates.length c5, .int .i64 s.diff, .int .i64 s.least, .int .i64 s.fault, .slice A6 s.tiers.length c6]
/-- Its lists lie there. -/
structure SetAt (w : World) (s : SetP) (A1 A2 A3 A4 A5 A6 : Option Addr) (c1 c2 c3 c4 c5 c6 : Nat) : Prop where
  ways : Tab 3 w A1 s.ways.length c1 s.ways
  elements : Tab 4 w A2 s.elements.length c2 s.elements
  classes : Tab 2 w A3 s.classes.length c3 s.classes
  gears : Tab 2 w A4 s.gears.length c4 s.gears
  rates : Tab 1 w A5 s.rates.length c5 (s.rates.map fun n => [n])
  tiers : Tab 2 w A6 s.tiers.length c6 s.tiers
theorem SetAt.below {w w' : World} {s : SetP} {A1 A2 A3 A4 A5 A6 : Option Addr} {c1 c2 c3 c4 c5 c6 : Nat} (h : SetAt w s A1 A2 A3 A4 A5 A6 c1 c2 c3 c4 c5 c6) (hb : Below w.heap.size w w') : SetAt w' s A1 A2 A3 A4 A5 A6 c1 c2 c3 c4 c5 c6 :=
  ⟨h.ways.below hb, h.elements.below hb, h.classes.below hb, h.gears.below hb, h.rates.below hb, h.tiers.below hb⟩
theorem SetAt.wide {w : World} {s : SetP} {A1 A2 A3 A4 A5 A6 : Option Addr} {c1 c2 c3 c4 c5 c6 : Nat} (h : SetAt w s A1 A2 A3 A4 A5 A6 c1 c2 c3 c4 c5 c6) : s.Wide := ⟨h.ways.wide, h.elements.wide, h.classes.wide, h.gears.wide, h.tiers.wide⟩
/-- Its own numbers fit. -/
structure SetP.Fit (s : SetP) : Prop where
  places : In64 s.places
  pn : In64 s.pn
  pd : In64 s.pd
  allow : In64 s.allow
  unit : In64 s.unit
  cap : In64 s.cap
  paid : In64 s.paid
  aft : In64 s.aft
  brk : In64 s.brk
  reg : In64 s.reg
  over : In64 s.over
  week : In64 s.week
  nfrom : In64 s.nfrom
  nto : In64 s.nto
  diff : In64 s.diff
  least : In64 s.least
  fault : In64 s.fault
theorem list23 {α : Type} {l : List α} (h : l.length = 23) : ∃ c0 c1 c2 c3 c4 c5 c6 c7 c8 c9 c10 c11 c12 c13 c14 c15 c16 c17 c18 c19 c20 c21 c22, l = [c0, c1, c2, c3, c4, c5, c6, c7, c8, c9, c10, c11, c12, c13, c14, c15, c16, c17, c18, c19, c20, c21, c22] := by
  match l, h with
  | [c0, c1, c2, c3, c4, c5, c6, c7, c8, c9, c10, c11, c12, c13, c14, c15, c16, c17, c18, c19, c20, c21, c22], _ => exact ⟨c0, c1, c2, c3, c4, c5, c6, c7, c8, c9, c10, c11, c12, c13, c14, c15, c16, c17, c18, c19, c20, c21, c22, rfl⟩
theorem one_int {P : Program} {H : Type} {enc : TypeId × Value → H} {w : World} {base : Nat} {spare : Nat → Bool} {held : Bool} {i : TypeId} {m : Nat} {v : Value} {x : DataW H × List MemPlace} (hi : P.underlying i = some (.int .i64)) (h : DataW.trod enc P w base spare held m i [v] = some x) : ∃ z, v = .int .i64 z ∧ In64 z := by
  obtain ⟨z, e, _, hz⟩ := DataW.trod_int hi h
  simp only [List.cons.injEq, and_true] at e
  exact ⟨z, e, bounds_i64 hz⟩
theorem one_tab {P : Program} {H : Type} {enc : TypeId × Value → H} {w : World} {base : Nat} {held : Bool} {t e : TypeId} {k m : Nat} {v : Value} {x : DataW H × List MemPlace}
    (ht : P.underlying t = some (.slice e)) (he : NumsT P e k) (hk : P.cellsOf e = k) (hk0 : 0 < k) (h : DataW.trod enc P w base (fun _ => true) held m t [v] = some x) : ∃ A c rows, v = .slice A rows.length c ∧ Tab k w A rows.length c rows := by
  obtain ⟨A, n, c, rows, e1, hT⟩ := open_tab ht he hk hk0 h
  simp only [List.cons.injEq, and_true] at e1
  have := hT.len
  subst this
  exact ⟨A, c, rows, e1, hT⟩
theorem rows_ones : ∀ (t : Rows2), (∀ r ∈ t, r.length = 1) → t = t.flatten.map fun n => [n]
  | [], _ => rfl
  | r :: t, h => by
    have h1 := h r (by simp)
    obtain ⟨n, rfl⟩ : ∃ n, r = [n] := by
      match r, h1 with
      | [n], _ => exact ⟨n, rfl⟩
    have := rows_ones t (fun q hq => h q (by simp [hq]))
    conv => lhs; rw [this]
    simp
/-- An argument that is a setup. -/
theorem open_setup {H : Type} {enc : TypeId × Value → H} {P : Program} {w : World} {r : Reach} {b0 base : Nat} {held : Bool} {t i tw ew tr te ee tq eq tn tt et : TypeId} {fs : Array Field} {v : Value} {d : DataW H} {p : List MemPlace}
    (hs : P.underlying t = some (.struct fs)) (hC : P.cellsOf t = 23)
    (hf : (fs.toList.map fun f => (f.type, f.offset, P.cellsOf f.type)) = [(i, 0, 1), (tw, 1, 1), (tr, 2, 2), (te, 4, 1), (tq, 5, 1), (tq, 6, 1), (i, 7, 1), (i, 8, 1), (i, 9, 1), (i, 10, 1), (i, 11, 1), (i, 12, 1), (i, 13, 1), (i, 14, 1), (i, 15, 1), (i, 16, 1), (i, 17, 1), (tn, 18, 1), (i, 19, 1), (i, 20, 1), (i, 21, 1), (tt, 22, 1)])
    (hi : P.underlying i = some (.int .i64)) (hi1 : P.cellsOf i = 1) (hw : P.underlying tw = some (.slice ew)) (aw : NumsT P ew 3) (cw : P.cellsOf ew = 3) (ar : NumsT P tr 2)
    (he : P.underlying te = some (.slice ee)) (ae : NumsT P ee 4) (ce : P.cellsOf ee = 4) (hq : P.underlying tq = some (.slice eq)) (aq : NumsT P eq 2) (cq : P.cellsOf eq = 2)
    (hn : P.underlying tn = some (.slice i)) (ht : P.underlying tt = some (.slice et)) (at_ : NumsT P et 2) (ct : P.cellsOf et = 2)
    (hv : Value.okWide P w r b0 t v) (h : DataW.Trod enc P w base (fun _ => true) held t v d p) :
    ∃ (s : SetP) (A1 A2 A3 A4 A5 A6 : Option Addr) (c1 c2 c3 c4 c5 c6 : Nat), v = setV s A1 A2 A3 A4 A5 A6 c1 c2 c3 c4 c5 c6 ∧ SetAt w s A1 A2 A3 A4 A5 A6 c1 c2 c3 c4 c5 c6 ∧ s.Fit := by
  obtain ⟨cs, rfl, hsz⟩ := okWide_struct hs hv
  obtain ⟨fuel, hfu⟩ := h
  obtain ⟨xs, m, _, _, hl, hxl, hx⟩ := DataW.trod_struct hs hfu
  have hsz2 : fs.size = 22 := by
    have := congrArg List.length hf
    simpa using this
  have get : ∀ (j : Nat) (T : TypeId) (o c : Nat), (fs.toList.map fun f => (f.type, f.offset, P.cellsOf f.type))[j]? = some (T, o, c) → ∃ y, DataW.trod enc P w base (fun _ => true) held m T (((Value.agg cs).cells.toList.drop o).take c) = some y := by
    intro j T o c hj
    rw [List.getElem?_map, Option.map_eq_some_iff] at hj
    obtain ⟨f, h1, h2⟩ := hj
    simp only [Prod.mk.injEq] at h2
    obtain ⟨rfl, rfl, rfl⟩ := h2
    rw [Array.getElem?_toList] at h1
    have h3 := hx j f h1
    have hj' : j < fs.size := (Array.getElem?_eq_some_iff.1 h1).1
    rw [List.getElem?_eq_getElem (show j < xs.length by omega)] at h3
    exact ⟨_, h3⟩
  rw [hf] at get
  have hcl : cs.toList.length = 23 := by rw [Array.length_toList, hsz, hC]
  obtain ⟨c0, c1, c2, c3, c4, c5, c6, c7, c8, c9, c10, c11, c12, c13, c14, c15, c16, c17, c18, c19, c20, c21, c22, hcs⟩ := list23 hcl
  have hce : (Value.agg cs).cells.toList = [c0, c1, c2, c3, c4, c5, c6, c7, c8, c9, c10, c11, c12, c13, c14, c15, c16, c17, c18, c19, c20, c21, c22] := hcs
  have hcs' : cs = #[c0, c1, c2, c3, c4, c5, c6, c7, c8, c9, c10, c11, c12, c13, c14, c15, c16, c17, c18, c19, c20, c21, c22] := by
    apply Array.toList_inj.1
    exact hcs
  rw [hce] at get
  clear hx hfu hl hcl hce hsz
  obtain ⟨_, g0⟩ := get 0 i 0 1 rfl
  obtain ⟨_, g1⟩ := get 1 tw 1 1 rfl
  obtain ⟨_, g2⟩ := get 2 tr 2 2 rfl
  obtain ⟨_, g3⟩ := get 3 te 4 1 rfl
  obtain ⟨_, g4⟩ := get 4 tq 5 1 rfl
  obtain ⟨_, g5⟩ := get 5 tq 6 1 rfl
  obtain ⟨_, g6⟩ := get 6 i 7 1 rfl
  obtain ⟨_, g7⟩ := get 7 i 8 1 rfl
  obtain ⟨_, g8⟩ := get 8 i 9 1 rfl
  obtain ⟨_, g9⟩ := get 9 i 10 1 rfl
  obtain ⟨_, g10⟩ := get 10 i 11 1 rfl
  obtain ⟨_, g11⟩ := get 11 i 12 1 rfl
  obtain ⟨_, g12⟩ := get 12 i 13 1 rfl
  obtain ⟨_, g13⟩ := get 13 i 14 1 rfl
  obtain ⟨_, g14⟩ := get 14 i 15 1 rfl
  obtain ⟨_, g15⟩ := get 15 i 16 1 rfl
  obtain ⟨_, g16⟩ := get 16 i 17 1 rfl
  obtain ⟨_, g17⟩ := get 17 tn 18 1 rfl
  obtain ⟨_, g18⟩ := get 18 i 19 1 rfl
  obtain ⟨_, g19⟩ := get 19 i 20 1 rfl
  obtain ⟨_, g20⟩ := get 20 i 21 1 rfl
  obtain ⟨_, g21⟩ := get 21 tt 22 1 rfl
  clear get
  obtain ⟨z0, rfl, b0'⟩ := one_int hi g0
  obtain ⟨z6, rfl, b6⟩ := one_int hi g6
  obtain ⟨z7, rfl, b7⟩ := one_int hi g7
  obtain ⟨z8, rfl, b8⟩ := one_int hi g8
  obtain ⟨z9, rfl, b9⟩ := one_int hi g9
  obtain ⟨z10, rfl, b10⟩ := one_int hi g10
  obtain ⟨z11, rfl, b11⟩ := one_int hi g11
  obtain ⟨z12, rfl, b12⟩ := one_int hi g12
  obtain ⟨z13, rfl, b13⟩ := one_int hi g13
  obtain ⟨z14, rfl, b14⟩ := one_int hi g14
  obtain ⟨z15, rfl, b15⟩ := one_int hi g15
  obtain ⟨z16, rfl, b16⟩ := one_int hi g16
  obtain ⟨z18, rfl, b18⟩ := one_int hi g18
  obtain ⟨z19, rfl, b19⟩ := one_int hi g19
  obtain ⟨z20, rfl, b20⟩ := one_int hi g20
  obtain ⟨A1, k1, t1, rfl, T1⟩ := one_tab hw aw cw (by omega) g1
  obtain ⟨A2, k2, t2, rfl, T2⟩ := one_tab he ae ce (by omega) g3
  obtain ⟨A3, k3, t3, rfl, T3⟩ := one_tab hq aq cq (by omega) g4
  obtain ⟨A4, k4, t4, rfl, T4⟩ := one_tab hq aq cq (by omega) g5
  obtain ⟨A5, k5, t5, rfl, T5⟩ := one_tab hn (alli_int hi) hi1 (by omega) g17
  obtain ⟨A6, k6, t6, rfl, T6⟩ := one_tab ht at_ ct (by omega) g21
  obtain ⟨zs, hz, e2, hb2⟩ := ar _ _ _ _ _ _ _ _ _ g2
  obtain ⟨pn, pd, rfl⟩ : ∃ a b, zs = [a, b] := by
    match zs, hz with
    | [a, b], _ => exact ⟨a, b, rfl⟩
  simp only [ints, List.map_cons, List.map_nil, List.drop_succ_cons, List.drop_zero, List.take_succ_cons, List.take_zero, List.cons.injEq, and_true] at e2
  obtain ⟨rfl, rfl⟩ := e2
  have h5 := rows_ones t5 T5.wide
  have hl5 : t5.length = t5.flatten.length := by
    conv => lhs; rw [h5]
    rw [List.length_map]
  refine ⟨⟨z0, t1, pn, pd, t2, t3, t4, z6, z7, z8, z9, z10, z11, z12, z13, z14, z15, z16, t5.flatten, z18, z19, z20, t6⟩, A1, A2, A3, A4, A5, A6, k1, k2, k3, k4, k5, k6, ?_, ⟨T1, T2, T3, T4, ?_, T6⟩,
    ⟨b0', hb2 pn (by simp), hb2 pd (by simp), b6, b7, b8, b9, b10, b11, b12, b13, b14, b15, b16, b18, b19, b20⟩⟩
  · rw [hcs', setV, hl5]
  · rw [← hl5, ← h5]
    exact T5
end Go.Proofs.Ytcefjnjlcpkanaa

namespace Go.Proofs.Ytcefjnjlcpkanaa
open Go.RowKit
set_option linter.unusedVariables false
set_option linter.unusedSimpArgs false

/-- What stood at the blocks F is as it was. -/
structure Kept (F : Nat → Prop) (w w' : World) : Prop where
  os : w'.os = w.os
  tape : w'.tape = w.tape
  output : w'.output = w.output
  size : w.heap.size ≤ w'.heap.size
  block : ∀ b, F b → w'.heap[b]? = w.heap[b]?
theorem Kept.refl (F : Nat → Prop) (w : World) : Kept F w w := ⟨rfl, rfl, rfl, Nat.le_refl _, fun _ _ => rfl⟩
section
variable {F G : Nat → Prop} {a b c w w' : World}
theorem Kept.on (h : Kept F a b) (k : Kept F b c) : Kept F a c :=
  ⟨k.os.trans h.os, k.tape.trans h.tape, k.output.trans h.output, Nat.le_trans h.size k.size, fun i hi => (k.block i hi).trans (h.block i hi)⟩
theorem Kept.less (h : Kept F a b) (hF : ∀ i, G i → F i) : Kept G a b := ⟨h.os, h.tape, h.output, h.size, fun i hi => h.block i (hF i hi)⟩
theorem Kept.of_below (h : Below w.heap.size w w') (hF : ∀ i, F i → i < w.heap.size) : Kept F w w' := ⟨h.os, h.tape, h.output, h.size, fun i hi => h.block i (hF i hi)⟩
theorem Kept.below {B : Nat} (h : Kept F a b) (hF : ∀ i, i < B → F i) : Below B a b := ⟨h.os, h.tape, h.output, h.size, fun i hi => h.block i (hF i hi)⟩
end
/-- All that stood is as it was, but for the blocks M. -/
def Chg (M : Nat → Prop) (w w' : World) : Prop := Kept (fun b => b < w.heap.size ∧ ¬ M b) w w'
section
variable {M : Nat → Prop} {a w w' : World}
theorem Chg.refl (M : Nat → Prop) (w : World) : Chg M w w := Kept.refl _ _
theorem Chg.size (h : Chg M w w') : w.heap.size ≤ w'.heap.size := Kept.size h
theorem Chg.on (h : Chg M a w) (k : Chg M w w') : Chg M a w' :=
  Kept.on h (Kept.less k fun i hi => ⟨Nat.lt_of_lt_of_le hi.1 (Kept.size h), hi.2⟩)
theorem Chg.of_below (h : Below w.heap.size w w') : Chg M w w' := Kept.of_below h fun _ hi => hi.1
theorem Chg.onB (h : Chg M a w) (k : Below w.heap.size w w') : Chg M a w' := h.on (.of_below k)
theorem Chg.alloc (h : Chg M a w) (o : Obj) : Chg M a (w.alloc o) := h.onB (bel_alloc (Below.refl _ _) _)
theorem Chg.none (h : Chg (fun _ => False) a w) : Below a.heap.size a w := Kept.below h fun _ hi => ⟨hi, fun x => x⟩
theorem Chg.below {B : Nat} (h : Chg M a w) (hB : B ≤ a.heap.size) (hM : ∀ i, M i → B ≤ i) : Below B a w := Kept.below h fun i hi => ⟨by omega, fun x => by have := hM i x; omega⟩
theorem Chg.set (h : Chg M a w) {p : Addr} (hp : a.heap.size ≤ p.block ∨ M p.block) (v : Value) : Chg M a (w.setCell p v) := by
  refine ⟨h.os, h.tape, h.output, ?_, fun b hb => ?_⟩
  · have := Kept.size h
    simp [World.setCell]
    exact this
  · rw [Below.heap_setCell w p v b (by rintro rfl; rcases hp with hp | hp; omega; exact hb.2 hp)]
    exact Kept.block h b hb
theorem Has.chg {g : Nat} {cs : Array Value} (h : Has w g cs) (hM : ¬ M g) (k : Chg M w w') : Has w' g cs := by
  have hl := h.size
  obtain ⟨t, h⟩ := h
  exact ⟨t, (Kept.block k g ⟨hl, hM⟩).trans h⟩
theorem Has.kept {F : Nat → Prop} {g : Nat} {cs : Array Value} (h : Has w g cs) (hF : F g) (k : Kept F w w') : Has w' g cs := by
  obtain ⟨t, h⟩ := h
  exact ⟨t, (k.block g hF).trans h⟩
end
/-- All below n. -/
def allP (p : Nat → Bool) (n : Nat) : Bool := (List.range n).all p
theorem allP_succ (p : Nat → Bool) (n : Nat) : allP p (n + 1) = (allP p n && p n) := by simp [allP, List.range_succ]
theorem allP_bad {p : Nat → Bool} {n i : Nat} (h : i < n) (hp : p i = false) : allP p n = false := by
  unfold allP
  rw [List.all_eq_false]
  exact ⟨i, List.mem_range.2 h, by rw [hp]; simp⟩
theorem allP_iff {p : Nat → Bool} {n : Nat} : allP p n = true ↔ ∀ i, i < n → p i = true := by simp [allP]
end Go.Proofs.Ytcefjnjlcpkanaa

namespace Go.Proofs.Ytcefjnjlcpkanaa
set_option linter.unusedVariables false

/-- t is one of the spans' numbers. -/
def In (l : List (Int × Int)) (t : Int) : Prop := ∃ s, s ∈ l ∧ s.1 ≤ t ∧ t < s.2

def PlainFrom : Int → List (Int × Int) → Prop
  | _, [] => True
  | lo, s :: l => lo ≤ s.1 ∧ s.1 < s.2 ∧ s.2 ≤ 32054400 ∧ PlainFrom (s.2 + 1) l

theorem in_nil (t : Int) : ¬ In [] t := by rintro ⟨s, h, _⟩; cases h
theorem in_cons (s : Int × Int) (l : List (Int × Int)) (t : Int) : In (s :: l) t ↔ (s.1 ≤ t ∧ t < s.2) ∨ In l t := by
  unfold In
  constructor
  · rintro ⟨x, hx, h⟩
    rcases List.mem_cons.1 hx with rfl | hx
    · exact .inl h
    · exact .inr ⟨x, hx, h⟩
  · rintro (h | ⟨x, hx, h⟩)
    · exact ⟨s, List.mem_cons_self, h⟩
    · exact ⟨x, List.mem_cons_of_mem _ hx, h⟩
theorem in_append (l m : List (Int × Int)) (t : Int) : In (l ++ m) t ↔ In l t ∨ In m t := by
  induction l with
  | nil => simp [in_nil]
  | cons s l ih => rw [List.cons_append, in_cons, in_cons, ih, or_assoc]
theorem in_one (s : Int × Int) (t : Int) : In [s] t ↔ s.1 ≤ t ∧ t < s.2 := by rw [in_cons]; simp [in_nil]

theorem PlainFrom.mono : ∀ {l : List (Int × Int)} {a b : Int}, b ≤ a → PlainFrom a l → PlainFrom b l
  | [], _, _, _, _ => trivial
  | _ :: _, _, _, h, hp => ⟨by have := hp.1; omega, hp.2⟩
theorem PlainFrom.bound : ∀ {l : List (Int × Int)} {a t : Int}, PlainFrom a l → In l t → a ≤ t ∧ t < 32054400
  | [], _, _, _, h => absurd h (in_nil _)
  | s :: l, a, t, hp, h => by
    obtain ⟨h1, h2, h3, h4⟩ := hp
    rcases (in_cons s l t).1 h with h | h
    · omega
    · have := PlainFrom.bound h4 h; omega

/-- Two plain lists of one set are the same. -/
theorem plain_one : ∀ {l m : List (Int × Int)} {a : Int}, PlainFrom a l → PlainFrom a m → (∀ t, In l t ↔ In m t) → l = m
  | [], [], _, _, _, _ => rfl
  | [], s :: m, a, _, hm, h => absurd ((h s.1).2 ((in_cons _ _ _).2 (.inl ⟨Int.le_refl _, hm.2.1⟩))) (in_nil _)
  | s :: l, [], a, hl, _, h => absurd ((h s.1).1 ((in_cons _ _ _).2 (.inl ⟨Int.le_refl _, hl.2.1⟩))) (in_nil _)
  | s :: l, r :: m, a, hl, hm, h => by
    obtain ⟨l1, l2, l3, l4⟩ := hl
    obtain ⟨m1, m2, m3, m4⟩ := hm
    have kl : ∀ t, In (s :: l) t → s.1 ≤ t := fun t ht => by
      rcases (in_cons _ _ _).1 ht with ht | ht
      · exact ht.1
      · have := PlainFrom.bound l4 ht; omega
    have km : ∀ t, In (r :: m) t → r.1 ≤ t := fun t ht => by
      rcases (in_cons _ _ _).1 ht with ht | ht
      · exact ht.1
      · have := PlainFrom.bound m4 ht; omega
    have e1 : s.1 = r.1 := by
      have h1 := km _ ((h s.1).1 ((in_cons _ _ _).2 (.inl ⟨Int.le_refl _, l2⟩)))
      have h2 := kl _ ((h r.1).2 ((in_cons _ _ _).2 (.inl ⟨Int.le_refl _, m2⟩)))
      omega
    have nl : ¬ In (s :: l) s.2 := fun ht => by
      rcases (in_cons _ _ _).1 ht with ht | ht
      · omega
      · have := PlainFrom.bound l4 ht; omega
    have nm : ¬ In (r :: m) r.2 := fun ht => by
      rcases (in_cons _ _ _).1 ht with ht | ht
      · omega
      · have := PlainFrom.bound m4 ht; omega
    have e2 : s.2 = r.2 := by
      rcases Int.lt_trichotomy s.2 r.2 with hlt | he | hgt
      · exact absurd ((h s.2).2 ((in_cons _ _ _).2 (.inl ⟨by omega, hlt⟩))) nl
      · exact he
      · exact absurd ((h r.2).1 ((in_cons _ _ _).2 (.inl ⟨by omega, hgt⟩))) nm
    have e : s = r := Prod.ext e1 e2
    subst e
    have : l = m := plain_one l4 m4 (fun t => by
      have ht := h t
      rw [in_cons, in_cons] at ht
      constructor
      · intro hi
        have := PlainFrom.bound l4 hi
        rcases ht.1 (.inr hi) with q | q
        · omega
        · exact q
      · intro hi
        have := PlainFrom.bound m4 hi
        rcases ht.2 (.inr hi) with q | q
        · omega
        · exact q)
    rw [this]

theorem exists_canon (p : Int → Prop) : ∀ (n : Nat) (lo : Int), lo + n = 32054400 → ∃ l, PlainFrom lo l ∧ ∀ t, In l t ↔ lo ≤ t ∧ t < 32054400 ∧ p t
  | 0, lo, h => ⟨[], trivial, fun t => by simp [in_nil]; omega⟩
  | n + 1, lo, h => by
    obtain ⟨l, hp, hi⟩ := exists_canon p n (lo + 1) (by omega)
    by_cases hlo : p lo
    · match l, hp, hi with
      | [], hp, hi =>
        refine ⟨[(lo, lo + 1)], ⟨Int.le_refl _, by simp; omega, by simp; omega, trivial⟩, fun t => ?_⟩
        rw [in_one]
        have := hi t
        simp only [in_nil, false_iff] at this
        constructor
        · intro ht
          obtain rfl : t = lo := by simp at ht; omega
          exact ⟨by omega, by omega, hlo⟩
        · intro ⟨h1, h2, h3⟩
          by_cases e : t = lo
          · subst e; exact ⟨by simp, by simp; omega⟩
          · exact absurd ⟨by omega, h2, h3⟩ this
      | s :: l, ⟨h1, h2, h3, h4⟩, hi =>
        by_cases hs : s.1 = lo + 1
        · refine ⟨(lo, s.2) :: l, ⟨Int.le_refl _, by simp; omega, h3, h4⟩, fun t => ?_⟩
          have := hi t
          rw [in_cons] at this ⊢
          by_cases e : t = lo
          · subst e
            exact ⟨fun _ => ⟨by omega, by omega, hlo⟩, fun _ => .inl ⟨by simp, by simp; omega⟩⟩
          · constructor
            · intro q
              have := this.1 (q.elim (fun q => .inl ⟨by simp at q; omega, by simp at q; omega⟩) .inr)
              exact ⟨by omega, this.2⟩
            · intro ⟨q1, q2⟩
              exact (this.2 ⟨by omega, q2⟩).elim (fun q => .inl ⟨by simp; omega, by simp; omega⟩) .inr
        · refine ⟨(lo, lo + 1) :: s :: l, ⟨Int.le_refl _, by simp; omega, by simp; omega, by simp; omega, h2, h3, h4⟩, fun t => ?_⟩
          have := hi t
          rw [in_cons]
          by_cases e : t = lo
          · subst e
            exact ⟨fun _ => ⟨by omega, by omega, hlo⟩, fun _ => .inl ⟨by simp, by simp; omega⟩⟩
          · constructor
            · intro q
              have := this.1 (q.elim (fun q => by simp at q; omega) id)
              exact ⟨by omega, this.2⟩
            · intro ⟨q1, q2⟩
              exact .inr (this.2 ⟨by omega, q2⟩)
    · refine ⟨l, hp.mono (by omega), fun t => ?_⟩
      rw [hi t]
      constructor
      · rintro ⟨h1, h2⟩; exact ⟨by omega, h2⟩
      · rintro ⟨h1, h2, h3⟩
        refine ⟨?_, h2, h3⟩
        by_cases e : t = lo
        · subst e; exact absurd h3 hlo
        · omega

/-- The plain spans of the numbers from 0 on, below all time's end, of which p holds. -/
noncomputable def canon (p : Int → Prop) : List (Int × Int) := Classical.choose (exists_canon p 32054400 0 (by omega))
theorem canon_plain (p : Int → Prop) : PlainFrom 0 (canon p) := (Classical.choose_spec (exists_canon p 32054400 0 (by omega))).1
theorem canon_in (p : Int → Prop) (t : Int) : In (canon p) t ↔ 0 ≤ t ∧ t < 32054400 ∧ p t := (Classical.choose_spec (exists_canon p 32054400 0 (by omega))).2 t
theorem canon_eq {p : Int → Prop} {l : List (Int × Int)} (hl : PlainFrom 0 l) (h : ∀ t, In l t ↔ 0 ≤ t ∧ t < 32054400 ∧ p t) : l = canon p :=
  plain_one hl (canon_plain p) (fun t => by rw [h, canon_in])
theorem canon_congr {p q : Int → Prop} (h : ∀ t, 0 ≤ t → t < 32054400 → (p t ↔ q t)) : canon p = canon q :=
  canon_eq (canon_plain p) (fun t => by
    rw [canon_in]
    constructor
    · rintro ⟨a, b, c⟩; exact ⟨a, b, (h t a b).1 c⟩
    · rintro ⟨a, b, c⟩; exact ⟨a, b, (h t a b).2 c⟩)
theorem canon_self {l : List (Int × Int)} (hl : PlainFrom 0 l) : canon (In l) = l :=
  (canon_eq hl (fun t => ⟨fun h => ⟨(hl.bound h).1, (hl.bound h).2, h⟩, fun h => h.2.2⟩)).symm
theorem canon_none {p : Int → Prop} (h : ∀ t, 0 ≤ t → t < 32054400 → ¬ p t) : canon p = [] :=
  (canon_eq (l := []) trivial (fun t => ⟨fun h => absurd h (in_nil _), fun ⟨a, b, c⟩ => absurd c (h t a b)⟩)).symm

/-- Plain, as of pairs: for lists that grow at their end. -/
theorem plain_pairs : ∀ {l : List (Int × Int)} {a : Int}, PlainFrom a l ↔ (∀ s ∈ l, a ≤ s.1 ∧ s.1 < s.2 ∧ s.2 ≤ 32054400) ∧ l.Pairwise (fun x y => x.2 < y.1)
  | [], a => by simp [PlainFrom]
  | s :: l, a => by
    simp only [PlainFrom, List.pairwise_cons, List.mem_cons, forall_eq_or_imp]
    rw [plain_pairs (l := l)]
    constructor
    · rintro ⟨h1, h2, h3, h4, h5⟩
      exact ⟨⟨⟨h1, h2, h3⟩, fun x hx => by have := h4 x hx; omega⟩, fun x hx => by have := h4 x hx; omega, h5⟩
    · rintro ⟨⟨⟨h1, h2, h3⟩, h4⟩, h5, h6⟩
      exact ⟨h1, h2, h3, fun x hx => by have := h4 x hx; have := h5 x hx; omega, h6⟩
theorem plain_snoc {l : List (Int × Int)} {a : Int} {s : Int × Int} (hl : PlainFrom a l) (h : ∀ x ∈ l, x.2 < s.1) (h1 : a ≤ s.1) (h2 : s.1 < s.2) (h3 : s.2 ≤ 32054400) : PlainFrom a (l ++ [s]) := by
  rw [plain_pairs] at hl ⊢
  refine ⟨fun x hx => ?_, List.pairwise_append.2 ⟨hl.2, by simp, fun x hx y hy => ?_⟩⟩
  · rcases List.mem_append.1 hx with hx | hx
    · exact hl.1 x hx
    · rw [List.mem_singleton.1 hx]; exact ⟨h1, h2, h3⟩
  · rw [List.mem_singleton.1 hy]; exact h x hx
theorem plain_unsnoc {l : List (Int × Int)} {a : Int} {s : Int × Int} (hl : PlainFrom a (l ++ [s])) : PlainFrom a l ∧ (∀ x ∈ l, x.2 < s.1) ∧ a ≤ s.1 ∧ s.1 < s.2 ∧ s.2 ≤ 32054400 := by
  rw [plain_pairs] at hl
  rw [plain_pairs]
  obtain ⟨h1, h2⟩ := hl
  obtain ⟨h3, _, h4⟩ := List.pairwise_append.1 h2
  exact ⟨⟨fun x hx => h1 x (by simp [hx]), h3⟩, fun x hx => h4 x hx s (by simp), h1 s (by simp)⟩

/-- A list whose numbers are those of p below t, plain. -/
def Upto (p : Int → Prop) (t : Int) (l : List (Int × Int)) : Prop := PlainFrom 0 l ∧ (∀ x ∈ l, x.2 ≤ t) ∧ ∀ u, In l u ↔ 0 ≤ u ∧ u < t ∧ p u

theorem upto_skip {p : Int → Prop} {t v : Int} {l : List (Int × Int)} (h : Upto p t l) (htv : t ≤ v) (hn : ∀ u, t ≤ u → u < v → ¬ p u) : Upto p v l :=
  ⟨h.1, fun x hx => by have := h.2.1 x hx; omega, fun u => by
    rw [h.2.2]
    constructor
    · rintro ⟨a, b, c⟩; exact ⟨a, by omega, c⟩
    · rintro ⟨a, b, c⟩
      refine ⟨a, ?_, c⟩
      rcases Int.lt_or_le u t with q | q
      · exact q
      · exact absurd c (hn u q b)⟩
theorem upto_snoc {p : Int → Prop} {t v : Int} {l : List (Int × Int)} (h : Upto p t l) (h0 : 0 ≤ t) (htv : t < v) (hv : v ≤ 32054400) (hn : ∀ u, t ≤ u → u < v → p u) (hlast : ∀ x ∈ l, x.2 ≠ t) : Upto p v (l ++ [(t, v)]) :=
  ⟨plain_snoc h.1 (fun x hx => by have := h.2.1 x hx; have := hlast x hx; simp; omega) h0 htv hv,
   fun x hx => by
    rcases List.mem_append.1 hx with hx | hx
    · have := h.2.1 x hx; omega
    · rw [List.mem_singleton.1 hx]; exact Int.le_refl _,
   fun u => by
    rw [in_append, in_one, h.2.2]
    constructor
    · rintro (⟨a, b, c⟩ | ⟨a, b⟩)
      · exact ⟨a, by omega, c⟩
      · exact ⟨by simp at a; omega, b, hn u a b⟩
    · rintro ⟨a, b, c⟩
      rcases Int.lt_or_le u t with q | q
      · exact .inl ⟨a, q, c⟩
      · exact .inr ⟨q, b⟩⟩
theorem upto_last {p : Int → Prop} {t v : Int} {l : List (Int × Int)} {s : Int × Int} (h : Upto p t (l ++ [s])) (hs : s.2 = t) (htv : t < v) (hv : v ≤ 32054400) (hn : ∀ u, t ≤ u → u < v → p u) : Upto p v (l ++ [(s.1, v)]) := by
  obtain ⟨h1, h2, h3⟩ := h
  obtain ⟨k1, k2, k3, k4, k5⟩ := plain_unsnoc h1
  refine ⟨plain_snoc k1 k2 k3 (by simp; omega) hv, fun x hx => ?_, fun u => ?_⟩
  · rcases List.mem_append.1 hx with hx | hx
    · have := k2 x hx; omega
    · rw [List.mem_singleton.1 hx]; exact Int.le_refl _
  · have := h3 u
    rw [in_append, in_one] at this ⊢
    constructor
    · rintro (q | ⟨a, b⟩)
      · have := this.1 (.inl q); exact ⟨this.1, by omega, this.2.2⟩
      · simp at a b
        rcases Int.lt_or_le u t with q | q
        · have := this.1 (.inr ⟨a, by omega⟩); exact ⟨this.1, by omega, this.2.2⟩
        · exact ⟨by omega, b, hn u q b⟩
    · rintro ⟨a, b, c⟩
      rcases Int.lt_or_le u t with q | q
      · rcases this.2 ⟨a, q, c⟩ with q | q
        · exact .inl q
        · exact .inr ⟨q.1, by simp; omega⟩
      · exact .inr ⟨by simp; omega, b⟩

/-- What Norm makes of spans that rise: the list so far, plain, of the union; no From above lim. -/
def Grown (p : Int → Prop) (lim : Int) (l : List (Int × Int)) : Prop := PlainFrom 0 l ∧ (∀ x ∈ l, x.1 ≤ lim) ∧ ∀ u, In l u ↔ p u
theorem grown_snoc {p q : Int → Prop} {a : Int} {l : List (Int × Int)} {s : Int × Int} (h : Grown p a l) (has : a ≤ s.1) (h0 : 0 ≤ s.1) (h1 : s.1 < s.2) (h2 : s.2 ≤ 32054400) (hl : ∀ x ∈ l, x.2 < s.1)
    (hq : ∀ u, q u ↔ p u ∨ (s.1 ≤ u ∧ u < s.2)) : Grown q s.1 (l ++ [s]) :=
  ⟨plain_snoc h.1 hl h0 h1 h2, fun x hx => by
    rcases List.mem_append.1 hx with hx | hx
    · have := h.2.1 x hx; omega
    · rw [List.mem_singleton.1 hx]; exact Int.le_refl _, fun u => by rw [in_append, in_one, h.2.2, hq]⟩
theorem grown_last {p q : Int → Prop} {a : Int} {l : List (Int × Int)} {r s : Int × Int} (h : Grown p a (l ++ [r])) (has : a ≤ s.1) (h1 : s.1 < s.2) (h2 : s.2 ≤ 32054400) (hr : s.1 ≤ r.2)
    (hq : ∀ u, q u ↔ p u ∨ (s.1 ≤ u ∧ u < s.2)) : Grown q s.1 (l ++ [(r.1, max r.2 s.2)]) := by
  obtain ⟨g1, g2, g3⟩ := h
  obtain ⟨k1, k2, k3, k4, k5⟩ := plain_unsnoc g1
  have hr1 := g2 r (by simp)
  refine ⟨plain_snoc k1 k2 k3 (by simp; omega) (by simp; omega), fun x hx => ?_, fun u => ?_⟩
  · rcases List.mem_append.1 hx with hx | hx
    · have := k2 x hx; have := (plain_pairs.1 k1).1 x hx; omega
    · rw [List.mem_singleton.1 hx]; simp; omega
  · have := g3 u
    rw [hq, ← this, in_append, in_append, in_one, in_one, or_assoc]
    have e : (r.1 ≤ u ∧ u < max r.2 s.2) ↔ ((r.1 ≤ u ∧ u < r.2) ∨ (s.1 ≤ u ∧ u < s.2)) := by omega
    simp only []
    rw [e]
end Go.Proofs.Ytcefjnjlcpkanaa

namespace Go.Proofs.Ytcefjnjlcpkanaa
open Go.RowKit Go.Deep Go.WideShapes
set_option linter.unusedVariables false
set_option maxRecDepth 20000

theorem nums_at {P : Program} {t : TypeId} {k : Nat} (h : NumsT P t k) (hk : P.cellsOf t = k) : NumsT P t (P.cellsOf t) := by rw [hk]; exact h
theorem numsT_int : NumsT Try.prog 3 1 := alli_int Try.underlying3
theorem numsT_ratio : NumsT Try.prog 24 2 := alli_struct Try.underlying24 (by kernel_rfl)
  ⟨rfl, nums_at numsT_int (by kernel_rfl), by kernel_rfl, nums_at numsT_int (by kernel_rfl), by change _ = _; kernel_rfl⟩
theorem numsT_way : NumsT Try.prog 70 3 := alli_struct Try.underlying70 (by kernel_rfl)
  ⟨rfl, nums_at numsT_int (by kernel_rfl), by kernel_rfl, nums_at numsT_int (by kernel_rfl), by kernel_rfl, nums_at numsT_int (by kernel_rfl), by change _ = _; kernel_rfl⟩
theorem numsT_tier : NumsT Try.prog 80 2 := alli_struct Try.underlying80 (by kernel_rfl)
  ⟨rfl, nums_at numsT_int (by kernel_rfl), by kernel_rfl, nums_at numsT_int (by kernel_rfl), by change _ = _; kernel_rfl⟩
theorem numsT_element : NumsT Try.prog 74 4 := alli_struct Try.underlying74 (by kernel_rfl)
  ⟨rfl, nums_at numsT_ratio (by kernel_rfl), by kernel_rfl, nums_at numsT_ratio (by kernel_rfl), by change _ = _; kernel_rfl⟩
theorem setup_open {H : Type} {enc : TypeId × Value → H} {w : World} {r : Reach} {b0 base : Nat} {held : Bool} {v : Value} {d : DataW H} {p : List MemPlace}
    (hv : Value.okWide Try.prog w r b0 30 v) (h : DataW.Trod enc Try.prog w base (fun _ => true) held 30 v d p) :
    ∃ (s : SetP) (A1 A2 A3 A4 A5 A6 : Option Addr) (c1 c2 c3 c4 c5 c6 : Nat), v = setV s A1 A2 A3 A4 A5 A6 c1 c2 c3 c4 c5 c6 ∧ SetAt w s A1 A2 A3 A4 A5 A6 c1 c2 c3 c4 c5 c6 ∧ s.Fit :=
  open_setup Try.underlying30 (by kernel_rfl) (by kernel_rfl) Try.underlying3 (by kernel_rfl) Try.underlying22 numsT_way (by kernel_rfl) numsT_ratio
    Try.underlying25 numsT_element (by kernel_rfl) Try.underlying26 numsT_ratio (by kernel_rfl) Try.underlying27 Try.underlying28 numsT_tier (by kernel_rfl) hv h
end Go.Proofs.Ytcefjnjlcpkanaa
