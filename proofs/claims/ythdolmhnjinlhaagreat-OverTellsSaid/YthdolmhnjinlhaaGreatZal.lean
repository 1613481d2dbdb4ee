/-
  Slices of structs that are numbers alone, as rows of numbers; arguments that hold them opened. Over any program.
  What a call may change: blocks that are kept, and blocks that may change. Over any program.
  The days that have some: how they are put, one by one.
  An argument of type api.Setup, opened: its cells, its lists.
-/
import Derived.Test.YthdolmhnjinlhaaGreatZac
import Derived.Test.YthdolmhnjinlhaaGreatZab
import Derived.Deep.Slices
import Derived.Lib.SmallJoins
import Derived.OpenShut
import Derived.Laws.Cover1
import Derived.Test.YthdolmhnjinlhaaGreatZak
import Derived.Test.YthdolmhnjinlhaaGreatProg
namespace Go.Proofs.YthdolmhnjinlhaaGreat
open Go.RowKit Go.Deep Go.WideShapes
set_option linter.unusedVariables false
set_option linter.unusedSimpArgs false

theorem getD_in {l : List Int} {j : Nat} (h : j < l.length) : l.getD j 0 ∈ l := by
  rw [List.getD_eq_getElem?_getD, List.getElem?_eq_getElem h, Option.getD_some]
  exact List.getElem_mem _
def In64 (z : Int) : Prop := -9223372036854775808 ≤ z ∧ z ≤ 9223372036854775807
/-- The slice value '.slice A n c' reads as the rows t, of k numbers each. -/
structure Tab (k : Nat) (w : World) (A : Option Addr) (n c : Nat) (t : Rows2) : Prop where
  sl : Sl k w A n c (ints .i64 t.flatten)
  len : t.length = n
  wide : ∀ r ∈ t, r.length = k
  small : ∀ r ∈ t, ∀ z ∈ r, In64 z
  cap : n ≤ c
  max : c ≤ 9223372036854775807
theorem tab_add {b off n : Nat} : (⟨b, off, none⟩ : Addr).add n = ⟨b, off + n, none⟩ := by unfold Addr.add; split <;> simp_all
section
variable {k : Nat} {w w' : World} {A : Option Addr} {n c : Nat} {t : Rows2}
theorem Tab.below (h : Tab k w A n c t) (hb : Below w.heap.size w w') : Tab k w' A n c t := ⟨h.sl.below hb, h.len, h.wide, h.small, h.cap, h.max⟩
theorem Tab.nil_ : Tab k w none 0 0 [] := ⟨⟨by simp [ints], .inl ⟨rfl, rfl, rfl⟩⟩, rfl, by simp, by simp, by omega, by omega⟩
theorem Tab.form (h : Tab k w A n c t) (hk : 0 < k) (hn : 0 < n) : ∃ b off, A = some ⟨b, off, none⟩ := by
  obtain ⟨hl, ⟨_, h0, _⟩ | ⟨ad, rfl, hc⟩⟩ := h.sl
  · omega
  · have hp : 0 < n * k := Nat.mul_pos hn hk
    obtain ⟨u, hu⟩ : ∃ u, (ints .i64 t.flatten)[0]? = some u := ⟨_, List.getElem?_eq_getElem (by omega)⟩
    have h0 := hc 0 u hu
    obtain ⟨b, off, sp⟩ := ad
    have hsp : sp = none := by simpa [Addr.add] using World.cell?_spot h0
    subst hsp
    exact ⟨b, off, rfl⟩
/-- One number of one row. -/
theorem Tab.cell {b off : Nat} (h : Tab k w (some ⟨b, off, none⟩) n c t) {i j : Nat} (hi : i < n) (hj : j < k) : w.cell? ⟨b, off + i * k + j, none⟩ = some (.int .i64 ((t.getD i []).getD j 0)) := by
  have hti : i < t.length := by rw [h.len]; exact hi
  obtain ⟨hl, ⟨h0, _, _⟩ | ⟨ad, e, hc⟩⟩ := h.sl
  · cases h0
  · injection e with e
    subst e
    have hg := rows_get t h.wide i j hti hj []
    rw [List.append_nil] at hg
    have hlt : k * i + j < t.flatten.length := by
      rw [rows_len t h.wide]
      have : k * i + k ≤ k * t.length := by rw [← Nat.mul_succ]; exact Nat.mul_le_mul_left k hti
      omega
    have hu : (ints .i64 t.flatten)[k * i + j]? = some (.int .i64 ((t.getD i []).getD j 0)) := by
      rw [ints, List.getElem?_map, List.getElem?_eq_getElem hlt, Option.map_some, ← hg, List.getD_eq_getElem?_getD, List.getElem?_eq_getElem hlt, Option.getD_some]
    have := hc _ _ hu
    rw [tab_add, ← Nat.add_assoc, Nat.mul_comm] at this
    exact this
theorem Tab.at_small (h : Tab k w A n c t) {i j : Nat} (hi : i < n) (hj : j < k) : In64 ((t.getD i []).getD j 0) := by
  have hti : i < t.length := by rw [h.len]; exact hi
  have hr : t.getD i [] ∈ t := by simp [List.getD, hti]
  have hw := h.wide _ hr
  exact h.small _ hr _ (getD_in (by omega))
end
/-! ### Arguments -/
/-- What is read at type t is k numbers. -/
def NumsT (P : Program) (t : TypeId) (k : Nat) : Prop := ∀ (H : Type) (enc : TypeId × Value → H) (w : World) (base : Nat) (spare : Nat → Bool) (held : Bool) (fuel : Nat) (cs : List Value) (x : DataW H × List MemPlace),
  DataW.trod enc P w base spare held fuel t cs = some x → ∃ zs : List Int, zs.length = k ∧ cs = ints .i64 zs ∧ ∀ z ∈ zs, In64 z
theorem alli_int {P : Program} {t : TypeId} (h : P.underlying t = some (.int .i64)) : NumsT P t 1 := by
  intro H enc w base spare held fuel cs x hx
  obtain ⟨z, e, _, hz⟩ := DataW.trod_int h hx
  exact ⟨[z], rfl, e, fun y hy => by obtain rfl : y = z := by simpa using hy
                                     exact bounds_i64 hz⟩
/-- Fields one behind the other, each of numbers alone. -/
def ChainI (P : Program) : List Field → Nat → Nat → Prop
  | [], o, n => o = n
  | f :: fs, o, n => f.offset = o ∧ NumsT P f.type (P.cellsOf f.type) ∧ ChainI P fs (o + P.cellsOf f.type) n
theorem chain_ints {H : Type} {enc : TypeId × Value → H} {P : Program} {w : World} {base : Nat} {spare : Nat → Bool} {held : Bool} {n : Nat} {cs : List Value} (hl : cs.length = n) :
    ∀ (fs : List Field) (o : Nat), ChainI P fs o n → (∀ f ∈ fs, ∃ m x, DataW.trod enc P w base spare held m f.type ((cs.drop f.offset).take (P.cellsOf f.type)) = some x) → ∃ zs : List Int, cs.drop o = ints .i64 zs ∧ ∀ z ∈ zs, In64 z
  | [], o, hc, _ => by
    have : o = n := hc
    exact ⟨[], by rw [List.drop_of_length_le (by omega)]; rfl, by simp⟩
  | f :: fs, o, ⟨ho, ha, hc⟩, hx => by
    obtain ⟨m, x, h1⟩ := hx f (by simp)
    obtain ⟨zs, hz, e, hb⟩ := ha _ _ _ _ _ _ _ _ _ h1
    obtain ⟨ys, e2, hb2⟩ := chain_ints hl fs _ hc (fun g hg => hx g (by simp [hg]))
    refine ⟨zs ++ ys, ?_, fun z h => ?_⟩
    · rw [← List.take_append_drop (P.cellsOf f.type) (cs.drop o), List.drop_drop, e2, ← ho, e]
      simp [ints]
    · rcases List.mem_append.1 h with h | h
      · exact hb z h
      · exact hb2 z h
theorem alli_struct {P : Program} {t : TypeId} {fs : Array Field} {n : Nat} (hs : P.underlying t = some (.struct fs)) (hn : P.cellsOf t = n) (hc : ChainI P fs.toList 0 n) : NumsT P t n := by
  intro H enc w base spare held fuel cs x hx
  obtain ⟨xs, m, _, _, hl, hxl, hf⟩ := DataW.trod_struct hs hx
  obtain ⟨zs, e, hb⟩ := chain_ints (cs := cs) (hl.trans hn) fs.toList 0 hc (fun f hf' => by
    obtain ⟨i, hi, rfl⟩ := List.getElem_of_mem hf'
    have hi' : i < fs.size := by simpa using hi
    have h1 := hf i (fs[i]) (by simp [hi'])
    refine ⟨m, xs[i]'(by omega), ?_⟩
    have e : fs.toList[i] = fs[i] := by simp
    rw [e, h1]
    exact List.getElem?_eq_getElem (by omega))
  rw [List.drop_zero] at e
  refine ⟨zs, ?_, e, hb⟩
  have := congrArg List.length e
  simp [ints] at this
  omega
theorem open_tab {H : Type} {enc : TypeId × Value → H} {P : Program} {w : World} {base : Nat} {held : Bool} {t e : TypeId} {k fuel : Nat} {cs : List Value} {x : DataW H × List MemPlace}
    (ht : P.underlying t = some (.slice e)) (he : NumsT P e k) (hk : P.cellsOf e = k) (hk0 : 0 < k) (h : DataW.trod enc P w base (fun _ => true) held fuel t cs = some x) :
    ∃ A n c rows, cs = [.slice A n c] ∧ Tab k w A n c rows := by
  rcases open_slice ht h with ⟨hcs, _⟩ | ⟨a, len, cap, m, f, D, Pl, hcs, hb, hl, hm, hmm, hx, hi⟩
  · exact ⟨none, 0, 0, [], hcs, Tab.nil_⟩
  · have hlm : len ≤ m := by rw [hmm]; split <;> omega
    have each : ∀ i, i < m → ∃ zs : List Int, zs.length = k ∧ (∀ z ∈ zs, In64 z) ∧ ∀ j, j < k → w.cell? (a.add (i * k + j)) = some (.int .i64 (zs.getD j 0)) := by
      intro i him
      obtain ⟨cs', h1, h2⟩ := hi i him
      rw [hk] at h1
      obtain ⟨_, hlen, hcell⟩ := World.cells?_some h1
      obtain ⟨zs, hz, e1, hb⟩ := he _ _ _ _ _ _ _ _ _ h2
      refine ⟨zs, hz, hb, fun j hj => ?_⟩
      have := hcell j hj
      rw [add_add] at this
      rw [this, e1, ints, List.getElem?_map, List.getElem?_eq_getElem (by omega)]
      simp [List.getD, show j < zs.length by omega]
    obtain ⟨Z, hZ⟩ := choose_lt each
    have hwide : ∀ r ∈ (List.range len).map Z, r.length = k := by
      intro r hr
      simp only [List.mem_map, List.mem_range] at hr
      obtain ⟨i, hi', rfl⟩ := hr
      exact (hZ i (by omega)).1
    refine ⟨some a, len, cap, (List.range len).map Z, hcs, ⟨⟨?_, .inr ⟨a, rfl, fun j u hu => ?_⟩⟩, by simp, hwide, ?_, hl, by unfold maxLen at hm; omega⟩⟩
    · simp only [ints, List.length_map]
      rw [rows_len _ hwide]
      simp [Nat.mul_comm]
    · have hjl : j < len * k := by
        rcases Nat.lt_or_ge j (len * k) with q | q
        · exact q
        · rw [List.getElem?_eq_none (by simp only [ints, List.length_map]; rw [rows_len _ hwide]; simp [Nat.mul_comm]; rw [Nat.mul_comm]; omega)] at hu
          cases hu
      have hi' : j / k < len := (Nat.div_lt_iff_lt_mul hk0).2 hjl
      have hr' : j % k < k := Nat.mod_lt _ hk0
      have hc := (hZ (j / k) (by omega)).2.2 (j % k) hr'
      have hj : j / k * k + j % k = j := by rw [Nat.mul_comm]; exact Nat.div_add_mod j k
      rw [hj] at hc
      rw [hc, ← hu]
      have hg := rows_get ((List.range len).map Z) hwide (j / k) (j % k) (by simpa using hi') hr' []
      rw [List.append_nil, show k * (j / k) + j % k = j from Nat.div_add_mod j k] at hg
      have hlt : j < ((List.range len).map Z).flatten.length := by rw [rows_len _ hwide]; simp; rw [Nat.mul_comm]; exact hjl
      rw [ints, List.getElem?_map, List.getElem?_eq_getElem hlt, Option.map_some]
      congr 2
      have e3 : ((List.range len).map Z).getD (j / k) [] = Z (j / k) := by simp [List.getD, hi']
      rw [e3] at hg
      rw [← hg, List.getD_eq_getElem?_getD, List.getElem?_eq_getElem hlt, Option.getD_some]
    · intro r hr z hz
      simp only [List.mem_map, List.mem_range] at hr
      obtain ⟨i, hi', rfl⟩ := hr
      exact (hZ i (by omega)).2.1 z hz
/-! ### A setup -/
/-- The value of a setup: its cells. -/
def setV (s : SetP) (A1 A2 A3 A4 A5 A6 : Option Addr) (c1 c2 c3 c4 c5 c6 : Nat) : Value :=
  .agg #[.int .i64 s.places, .slice A1 s.ways.length c1, .int .i64 s.pn, .int .i64 s.pd, .slice A2 s.elements.length c2, .slice A3 s.classes.length c3, .slice A4 s.gears.length c4,
    .int .i64 s.allow, .int .i64 s.unit, .int .i64 s.cap, .int .i64 s.paid, .int .i64 s.aft, .int .i64 s.brk, .int .i64 s.reg, .int .i64 s.over, .int .i64 s.week, .int .i64 s.nfrom, .int .i64 s.nto,
    .slice A5 s.rates.length c5, .int .i64 s.diff, .int .i64 s.least, .int .i64 s.fault, .slice A6 s.tiers.length c6]
/-- Its lists lie there. -/
structure SetAt (w : World) (s : SetP) (A1 A2 A3 A4 A5 A6 : Option Addr) (c1 c2 c3 c4 c5 c6 : Nat) : Prop where
  ways : Tab 3 w A1 s.ways.length c1 s.ways
  elements : Tab 4 w A2 s.elements.length c2 s.elements
  classes : Tab 2 w A3 s.classes.length c3 s.classes
  gears : Tab 2 w A4 s.gears.length c4 s.gears
  rates : Tab 1 w A5 s.rates.length c5 (s.rates.map fun n => [n])
  tiers : Tab 2 w A6 s.tiers.length c6 s.tiers
theorem SetAt.below {w w' : World} {s : SetP} {A1 A2 A3 A4 A5 A6 : Option Addr} {c1 c2 c3 c4 c5 c6 : Nat} (h : SetAt w s A1 A2 A3 A4 A5 A6 c1 c2 c3 c4 c5 c6) (hb : Below w.heap.size w w') : SetAt w' s A1 A2 A3 A4 A5 A6 c1 c2 c3 c4 c5 c6 :=
  ⟨h.ways.below hb, h.elements.below hb, h.classes.below hb, h.gears.below hb, h.rates.below hb, h.tiers.below hb⟩
theorem SetAt.wide {w : World} {s : SetP} {A1 A2 A3 A4 A5 A6 : Option Addr} {c1 c2 c3 c4 c5 c6 : Nat} (h : SetAt w s A1 A2 A3 A4 A5 A6 c1 c2 c3 c4 c5 c6) : s.Wide := ⟨h.ways.wide, h.elements.wide, h.classes.wide, h.gears.wide, h.tiers.wide⟩
/-- Its own numbers fit. -/
structure SetP.Fit (s : SetP) : Prop where
  places : In64 s.places
  pn : In64 s.pn
  pd : In64 s.pd
  allow : In64 s.allow
  unit : In64 s.unit
  cap : In64 s.cap
  paid : In64 s.paid
  aft : In64 s.aft
  brk : In64 s.brk
  reg : In64 s.reg
  over : In64 s.over
  week : In64 s.week
  nfrom : In64 s.nfrom
  nto : In64 s.nto
  diff : In64 s.diff
  least : In64 s.least
  fault : In64 s.fault
theorem list23 {α : Type} {l : List α} (h : l.length = 23) : ∃ c0 c1 c2 c3 c4 c5 c6 c7 c8 c9 c10 c11 c12 c13 c14 c15 c16 c17 c18 c19 c20 c21 c22, l = [c0, c1, c2, c3, c4, c5, c6, c7, c8, c9, c10, c11, c12, c13, c14, c15, c16, c17, c18, c19, c20, c21, c22] := by
  match l, h with
  | [c0, c1, c2, c3, c4, c5, c6, c7, c8, c9, c10, c11, c12, c13, c14, c15, c16, c17, c18, c19, c20, c21, c22], _ => exact ⟨c0, c1, c2, c3, c4, c5, c6, c7, c8, c9, c10, c11, c12, c13, c14, c15, c16, c17, c18, c19, c20, c21, c22, rfl⟩
theorem one_int {P : Program} {H : Type} {enc : TypeId × Value → H} {w : World} {base : Nat} {spare : Nat → Bool} {held : Bool} {i : TypeId} {m : Nat} {v : Value} {x : DataW H × List MemPlace} (hi : P.underlying i = some (.int .i64)) (h : DataW.trod enc P w base spare held m i [v] = some x) : ∃ z, v = .int .i64 z ∧ In64 z := by
  obtain ⟨z, e, _, hz⟩ := DataW.trod_int hi h
  simp only [List.cons.injEq, and_true] at e
  exact ⟨z, e, bounds_i64 hz⟩
theorem one_tab {P : Program} {H : Type} {enc : TypeId × Value → H} {w : World} {base : Nat} {held : Bool} {t e : TypeId} {k m : Nat} {v : Value} {x : DataW H × List MemPlace}
    (ht : P.underlying t = some (.slice e)) (he : NumsT P e k) (hk : P.cellsOf e = k) (hk0 : 0 < k) (h : DataW.trod enc P w base (fun _ => true) held m t [v] = some x) : ∃ A c rows, v = .slice A rows.length c ∧ Tab k w A rows.length c rows := by
  obtain ⟨A, n, c, rows, e1, hT⟩ := open_tab ht he hk hk0 h
  simp only [List.cons.injEq, and_true] at e1
  have := hT.len
  subst this
  exact ⟨A, c, rows, e1, hT⟩
theorem rows_ones : ∀ (t : Rows2), (∀ r ∈ t, r.length = 1) → t = t.flatten.map fun n => [n]
  | [], _ => rfl
  | r :: t, h => by
    have h1 := h r (by simp)
    obtain ⟨n, rfl⟩ : ∃ n, r = [n] := by
      match r, h1 with
      | [n], _ => exact ⟨n, rfl⟩
    have := rows_ones t (fun q hq => h q (by simp [hq]))
    conv => lhs; rw [this]
    simp
/-- An argument that is a setup. -/
theorem open_setup {H : Type} {enc : TypeId × Value → H} {P : Program} {w : World} {r : Reach} {b0 base : Nat} {held : Bool} {t i tw ew tr te ee tq eq tn tt et : TypeId} {fs : Array Field} {v : Value} {d : DataW H} {p : List MemPlace}
    (hs : P.underlying t = some (.struct fs)) (hC : P.cellsOf t = 23)
    (hf : (fs.toList.map fun f => (f.type, f.offset, P.cellsOf f.type)) = [(i, 0, 1), (tw, 1, 1), (tr, 2, 2), (te, 4, 1), (tq, 5, 1), (tq, 6, 1), (i, 7, 1), (i, 8, 1), (i, 9, 1), (i, 10, 1), (i, 11, 1), (i, 12, 1), (i, 13, 1), (i, 14, 1), (i, 15, 1), (i, 16, 1), (i, 17, 1), (tn, 18, 1), (i, 19, 1), (i, 20, 1), (i, 21, 1), (tt, 22, 1)])
    (hi : P.underlying i = some (.int .i64)) (hi1 : P.cellsOf i = 1) (hw : P.underlying tw = some (.slice ew)) (aw : NumsT P ew 3) (cw : P.cellsOf ew = 3) (ar : NumsT P tr 2)
    (he : P.underlying te = some (.slice ee)) (ae : NumsT P ee 4) (ce : P.cellsOf ee = 4) (hq : P.underlying tq = some (.slice eq)) (aq : NumsT P eq 2) (cq : P.cellsOf eq = 2)
    (hn : P.underlying tn = some (.slice i)) (ht : P.underlying tt = some (.slice et)) (at_ : NumsT P et 2) (ct : P.cellsOf et = 2)
    (hv : Value.okWide P w r b0 t v) (h : DataW.Trod enc P w base (fun _ => true) held t v d p) :
    ∃ (s : SetP) (A1 A2 A3 A4 A5 A6 : Option Addr) (c1 c2 c3 c4 c5 c6 : Nat), v = setV s A1 A2 A3 A4 A5 A6 c1 c2 c3 c4 c5 c6 ∧ SetAt w s A1 A2 A3 A4 A5 A6 c1 c2 c3 c4 c5 c6 ∧ s.Fit := by
  obtain ⟨cs, rfl, hsz⟩ := okWide_struct hs hv
  obtain ⟨fuel, hfu⟩ := h
  obtain ⟨xs, m, _, _, hl, hxl, hx⟩ := DataW.trod_struct hs hfu
  have hsz2 : fs.size = 22 := by
    have := congrArg List.length hf
    simpa using this
  have get : ∀ (j : Nat) (T : TypeId) (o c : Nat), (fs.toList.map fun f => (f.type, f.offset, P.cellsOf f.type))[j]? = some (T, o, c) → ∃ y, DataW.trod enc P w base (fun _ => true) held m T (((Value.agg cs).cells.toList.drop o).take c) = some y := by
    intro j T o c hj
    rw [List.getElem?_map, Option.map_eq_some_iff] at hj
    obtain ⟨f, h1, h2⟩ := hj
    simp only [Prod.mk.injEq] at h2
    obtain ⟨rfl, rfl, rfl⟩ := h2
    rw [Array.getElem?_toList] at h1
    have h3 := hx j f h1
    have hj' : j < fs.size := (Array.getElem?_eq_some_iff.1 h1).1
    rw [List.getElem?_eq_getElem (show j < xs.length by omega)] at h3
    exact ⟨_, h3⟩
  rw [hf] at get
  have hcl : cs.toList.length = 23 := by rw [Array.length_toList, hsz, hC]
  obtain ⟨c0, c1, c2, c3, c4, c5, c6, c7, c8, c9, c10, c11, c12, c13, c14, c15, c16, c17, c18, c19, c20, c21, c22, hcs⟩ := list23 hcl
  have hce : (Value.agg cs).cells.toList = [c0, c1, c2, c3, c4, c5, c6, c7, c8, c9, c10, c11, c12, c13, c14, c15, c16, c17, c18, c19, c20, c21, c22] := hcs
  have hcs' : cs = #[c0, c1, c2, c3, c4, c5, c6, c7, c8, c9, c10, c11, c12, c13, c14, c15, c16, c17, c18, c19, c20, c21, c22] := by
    apply Array.toList_inj.1
    exact hcs
  rw [hce] at get
  clear hx hfu hl hcl hce hsz
  obtain ⟨_, g0⟩ := get 0 i 0 1 rfl
  obtain ⟨_, g1⟩ := get 1 tw 1 1 rfl
  obtain ⟨_, g2⟩ := get 2 tr 2 2 rfl
  obtain ⟨_, g3⟩ := get 3 te 4 1 rfl
  obtain ⟨_, g4⟩ := get 4 tq 5 1 rfl
  obtain ⟨_, g5⟩ := get 5 tq 6 1 rfl
  obtain ⟨_, g6⟩ := get 6 i 7 1 rfl
  obtain ⟨_, g7⟩ := get 7 i 8 1 rfl
  obtain ⟨_, g8⟩ := get 8 i 9 1 rfl
  obtain ⟨_, g9⟩ := get 9 i 10 1 rfl
  obtain ⟨_, g10⟩ := get 10 i 11 1 rfl
  obtain ⟨_, g11⟩ := get 11 i 12 1 rfl
  obtain ⟨_, g12⟩ := get 12 i 13 1 rfl
  obtain ⟨_, g13⟩ := get 13 i 14 1 rfl
  obtain ⟨_, g14⟩ := get 14 i 15 1 rfl
  obtain ⟨_, g15⟩ := get 15 i 16 1 rfl
  obtain ⟨_, g16⟩ := get 16 i 17 1 rfl
  obtain ⟨_, g17⟩ := get 17 tn 18 1 rfl
  obtain ⟨_, g18⟩ := get 18 i 19 1 rfl
  obtain ⟨_, g19⟩ := get 19 i 20 1 rfl
  obtain ⟨_, g20⟩ := get 20 i 21 1 rfl
  obtain ⟨_, g21⟩ := get 21 tt 22 1 rfl
  clear get
  obtain ⟨z0, rfl, b0'⟩ := one_int hi g0
  obtain ⟨z6, rfl, b6⟩ := one_int hi g6
  obtain ⟨z7, rfl, b7⟩ := one_int hi g7
  obtain ⟨z8, rfl, b8⟩ := one_int hi g8
  obtain ⟨z9, rfl, b9⟩ := one_int hi g9
  obtain ⟨z10, rfl, b10⟩ := one_int hi g10
  obtain ⟨z11, rfl, b11⟩ := one_int hi g11
  obtain ⟨z12, rfl, b12⟩ := one_int hi g12
  obtain ⟨z13, rfl, b13⟩ := one_int hi g13
  obtain ⟨z14, rfl, b14⟩ := one_int hi g14
  obtain ⟨z15, rfl, b15⟩ := one_int hi g15
  obtain ⟨z16, rfl, b16⟩ := one_int hi g16
  obtain ⟨z18, rfl, b18⟩ := one_int hi g18
  obtain ⟨z19, rfl, b19⟩ := one_int hi g19
  obtain ⟨z20, rfl, b20⟩ := one_int hi g20
  obtain ⟨A1, k1, t1, rfl, T1⟩ := one_tab hw aw cw (by omega) g1
  obtain ⟨A2, k2, t2, rfl, T2⟩ := one_tab he ae ce (by omega) g3
  obtain ⟨A3, k3, t3, rfl, T3⟩ := one_tab hq aq cq (by omega) g4
  obtain ⟨A4, k4, t4, rfl, T4⟩ := one_tab hq aq cq (by omega) g5
  obtain ⟨A5, k5, t5, rfl, T5⟩ := one_tab hn (alli_int hi) hi1 (by omega) g17
  obtain ⟨A6, k6, t6, rfl, T6⟩ := one_tab ht at_ ct (by omega) g21
  obtain ⟨zs, hz, e2, hb2⟩ := ar _ _ _ _ _ _ _ _ _ g2
  obtain ⟨pn, pd, rfl⟩ : ∃ a b, zs = [a, b] := by
    match zs, hz with
    | [a, b], _ => exact ⟨a, b, rfl⟩
  simp only [ints, List.map_cons, List.map_nil, List.drop_succ_cons, List.drop_zero, List.take_succ_cons, List.take_zero, List.cons.injEq, and_true] at e2
  obtain ⟨rfl, rfl⟩ := e2
  have h5 := rows_ones t5 T5.wide
  have hl5 : t5.length = t5.flatten.length := by
    conv => lhs; rw [h5]
    rw [List.length_map]
  refine ⟨⟨z0, t1, pn, pd, t2, t3, t4, z6, z7, z8, z9, z10, z11, z12, z13, z14, z15, z16, t5.flatten, z18, z19, z20, t6⟩, A1, A2, A3, A4, A5, A6, k1, k2, k3, k4, k5, k6, ?_, ⟨T1, T2, T3, T4, ?_, T6⟩,
    ⟨b0', hb2 pn (by simp), hb2 pd (by simp), b6, b7, b8, b9, b10, b11, b12, b13, b14, b15, b16, b18, b19, b20⟩⟩
  · rw [hcs', setV, hl5]
  · rw [← hl5, ← h5]
    exact T5
end Go.Proofs.YthdolmhnjinlhaaGreat

namespace Go.Proofs.YthdolmhnjinlhaaGreat
open Go.RowKit
set_option linter.unusedVariables false
set_option linter.unusedSimpArgs false

/-- What stood at the blocks F is as it was. -/
structure Kept (F : Nat → Prop) (w w' : World) : Prop where
  os : w'.os = w.os
  tape : w'.tape = w.tape
  output : w'.output = w.output
  size : w.heap.size ≤ w'.heap.size
  block : ∀ b, F b → w'.heap[b]? = w.heap[b]?
theorem Kept.refl (F : Nat → Prop) (w : World) : Kept F w w := ⟨rfl, rfl, rfl, Nat.le_refl _, fun _ _ => rfl⟩
section
variable {F G : Nat → Prop} {a b c w w' : World}
theorem Kept.on (h : Kept F a b) (k : Kept F b c) : Kept F a c :=
  ⟨k.os.trans h.os, k.tape.trans h.tape, k.output.trans h.output, Nat.le_trans h.size k.size, fun i hi => (k.block i hi).trans (h.block i hi)⟩
theorem Kept.less (h : Kept F a b) (hF : ∀ i, G i → F i) : Kept G a b := ⟨h.os, h.tape, h.output, h.size, fun i hi => h.block i (hF i hi)⟩
theorem Kept.of_below (h : Below w.heap.size w w') (hF : ∀ i, F i → i < w.heap.size) : Kept F w w' := ⟨h.os, h.tape, h.output, h.size, fun i hi => h.block i (hF i hi)⟩
theorem Kept.below {B : Nat} (h : Kept F a b) (hF : ∀ i, i < B → F i) : Below B a b := ⟨h.os, h.tape, h.output, h.size, fun i hi => h.block i (hF i hi)⟩
end
/-- All that stood is as it was, but for the blocks M. -/
def Chg (M : Nat → Prop) (w w' : World) : Prop := Kept (fun b => b < w.heap.size ∧ ¬ M b) w w'
section
variable {M : Nat → Prop} {a w w' : World}
theorem Chg.refl (M : Nat → Prop) (w : World) : Chg M w w := Kept.refl _ _
theorem Chg.size (h : Chg M w w') : w.heap.size ≤ w'.heap.size := Kept.size h
theorem Chg.on (h : Chg M a w) (k : Chg M w w') : Chg M a w' :=
  Kept.on h (Kept.less k fun i hi => ⟨Nat.lt_of_lt_of_le hi.1 (Kept.size h), hi.2⟩)
theorem Chg.of_below (h : Below w.heap.size w w') : Chg M w w' := Kept.of_below h fun _ hi => hi.1
theorem Chg.onB (h : Chg M a w) (k : Below w.heap.size w w') : Chg M a w' := h.on (.of_below k)
theorem Chg.alloc (h : Chg M a w) (o : Obj) : Chg M a (w.alloc o) := h.onB (bel_alloc (Below.refl _ _) _)
theorem Chg.none (h : Chg (fun _ => False) a w) : Below a.heap.size a w := Kept.below h fun _ hi => ⟨hi, fun x => x⟩
theorem Chg.below {B : Nat} (h : Chg M a w) (hB : B ≤ a.heap.size) (hM : ∀ i, M i → B ≤ i) : Below B a w := Kept.below h fun i hi => ⟨by omega, fun x => by have := hM i x; omega⟩
theorem Chg.set (h : Chg M a w) {p : Addr} (hp : a.heap.size ≤ p.block ∨ M p.block) (v : Value) : Chg M a (w.setCell p v) := by
  refine ⟨h.os, h.tape, h.output, ?_, fun b hb => ?_⟩
  · have := Kept.size h
    simp [World.setCell]
    exact this
  · rw [Below.heap_setCell w p v b (by rintro rfl; rcases hp with hp | hp; omega; exact hb.2 hp)]
    exact Kept.block h b hb
theorem Has.chg {g : Nat} {cs : Array Value} (h : Has w g cs) (hM : ¬ M g) (k : Chg M w w') : Has w' g cs := by
  have hl := h.size
  obtain ⟨t, h⟩ := h
  exact ⟨t, (Kept.block k g ⟨hl, hM⟩).trans h⟩
theorem Has.kept {F : Nat → Prop} {g : Nat} {cs : Array Value} (h : Has w g cs) (hF : F g) (k : Kept F w w') : Has w' g cs := by
  obtain ⟨t, h⟩ := h
  exact ⟨t, (k.block g hF).trans h⟩
theorem sl_blocks {size m c : Nat} {A : Option Addr} {us : List Value} (h : Sl size w A m c us) (hk : ∀ ad, A = some ad → w'.heap[ad.block]? = w.heap[ad.block]?) : Sl size w' A m c us := by
  obtain ⟨hl, h | ⟨ad, rfl, hc⟩⟩ := h
  · exact ⟨hl, .inl h⟩
  · refine ⟨hl, .inr ⟨ad, rfl, fun j u hu => ?_⟩⟩
    rw [← hc j u hu]
    exact World.cell?_of_block (by rw [add_block]; exact hk ad rfl)
theorem Tab.blocks {k n c : Nat} {A : Option Addr} {t : Rows2} (h : Tab k w A n c t) (hk : ∀ ad, A = some ad → w'.heap[ad.block]? = w.heap[ad.block]?) : Tab k w' A n c t := ⟨sl_blocks h.sl hk, h.len, h.wide, h.small, h.cap, h.max⟩
end
/-- All below n. -/
def allP (p : Nat → Bool) (n : Nat) : Bool := (List.range n).all p
theorem allP_succ (p : Nat → Bool) (n : Nat) : allP p (n + 1) = (allP p n && p n) := by simp [allP, List.range_succ]
theorem allP_bad {p : Nat → Bool} {n i : Nat} (h : i < n) (hp : p i = false) : allP p n = false := by
  unfold allP
  rw [List.all_eq_false]
  exact ⟨i, List.mem_range.2 h, by rw [hp]; simp⟩
theorem allP_iff {p : Nat → Bool} {n : Nat} : allP p n = true ↔ ∀ i, i < n → p i = true := by simp [allP]
end Go.Proofs.YthdolmhnjinlhaaGreat

namespace Go.Proofs.YthdolmhnjinlhaaGreat
open Go.RowKit
set_option linter.unusedVariables false
set_option linter.unusedSimpArgs false
set_option maxRecDepth 20000

/-- A day is put behind those that there are, unless it is the last one. -/
def pushD (D : List Int) (d : Int) : List Int := if D.length = 0 ∨ D.getD (D.length - 1) 0 < d then D ++ [d] else D
theorem last_mem {D : List Int} (h : 0 < D.length) : D.getD (D.length - 1) 0 ∈ D := by
  have e : D.getD (D.length - 1) 0 = D[D.length - 1]'(by omega) := by simp [List.getD, List.getElem?_eq_getElem (show D.length - 1 < D.length by omega)]
  rw [e]
  exact List.getElem_mem _
theorem last_most {D : List Int} (hD : D.Pairwise (· < ·)) {x : Int} (hx : x ∈ D) : x ≤ D.getD (D.length - 1) 0 := by
  obtain ⟨i, hi, rfl⟩ := List.mem_iff_getElem.1 hx
  have e : D.getD (D.length - 1) 0 = D[D.length - 1]'(by omega) := by simp [List.getD, List.getElem?_eq_getElem (show D.length - 1 < D.length by omega)]
  rw [e]
  rcases Nat.lt_or_ge i (D.length - 1) with q | q
  · exact Int.le_of_lt (List.pairwise_iff_getElem.1 hD i (D.length - 1) hi (by omega) q)
  · have : i = D.length - 1 := by omega
    subst this
    exact Int.le_refl _
theorem push_rise {D : List Int} {d : Int} (hD : D.Pairwise (· < ·)) : (pushD D d).Pairwise (· < ·) := by
  unfold pushD
  split
  · next h =>
    rw [List.pairwise_append]
    refine ⟨hD, by simp, fun a ha b hb => ?_⟩
    rw [List.mem_singleton.1 hb]
    rcases h with h | h
    · rw [List.eq_nil_of_length_eq_zero h] at ha; cases ha
    · have := last_most hD ha
      omega
  · exact hD
theorem push_mem {D : List Int} {d : Int} (hd : ∀ x ∈ D, x ≤ d) (x : Int) : x ∈ pushD D d ↔ x ∈ D ∨ x = d := by
  unfold pushD
  split
  · simp
  · next h =>
    constructor
    · exact .inl
    · rintro (q | q)
      · exact q
      · have h0 : 0 < D.length := by omega
        have h1 := hd _ (last_mem h0)
        have h2 : D.getD (D.length - 1) 0 = d := by omega
        rw [q, ← h2]
        exact last_mem h0
/-- Seconds of one day more. -/
theorem days_push {p q : Int → Prop} {T T' d : Int} (h0 : 0 ≤ T) (hT : T < T') (hT' : T' ≤ 32054400) (hp : ∀ t, p t → t < T) (hq : ∀ t, 0 ≤ t → t < 32054400 → (q t ↔ p t ∨ (T ≤ t ∧ t < T'))) (hd : T / 86400 = d) (hd' : (T' - 1) / 86400 = d) :
    pushD (daysP p) d = daysP q := by
  have hle : ∀ x ∈ daysP p, x ≤ d := fun x hx => by
    obtain ⟨t, t0, t1, ht, rfl⟩ := (days_mem p x).1 hx
    have := hp t ht
    omega
  refine days_eq (push_rise (days_rise p)) fun x => ?_
  rw [push_mem hle, days_mem]
  constructor
  · rintro (⟨t, t0, t1, ht, rfl⟩ | rfl)
    · exact ⟨t, t0, t1, (hq t t0 t1).2 (.inl ht), rfl⟩
    · exact ⟨T, h0, by omega, (hq T h0 (by omega)).2 (.inr ⟨by omega, hT⟩), hd⟩
  · rintro ⟨t, t0, t1, ht, rfl⟩
    rcases (hq t t0 t1).1 ht with q | q
    · exact .inl ⟨t, t0, t1, q, rfl⟩
    · exact .inr (by omega)
/-- What the other loop asks: whether the last one is another day. -/
theorem push_ne {D : List Int} {d : Int} (hd : ∀ x ∈ D, x ≤ d) : pushD D d = if D.length = 0 ∨ D.getD (D.length - 1) 0 ≠ d then D ++ [d] else D := by
  unfold pushD
  by_cases h0 : D.length = 0
  · rw [if_pos (.inl h0), if_pos (.inl h0)]
  · have := hd _ (last_mem (by omega))
    by_cases h1 : D.getD (D.length - 1) 0 < d
    · rw [if_pos (.inr h1), if_pos (.inr (by omega))]
    · rw [if_neg (by omega), if_neg (by omega)]
theorem daysP_len (p : Int → Prop) : (daysP p).length ≤ 371 := by
  unfold daysP
  rw [List.length_map]
  exact Nat.le_trans (List.length_filter_le _ _) (by simp)
theorem daysP_congr {p q : Int → Prop} (h : ∀ t, 0 ≤ t → t < 32054400 → (p t ↔ q t)) : daysP p = daysP q :=
  days_eq (days_rise p) fun d => by
    rw [days_mem]
    exact ⟨fun ⟨t, a, b, c, e⟩ => ⟨t, a, b, (h t a b).1 c, e⟩, fun ⟨t, a, b, c, e⟩ => ⟨t, a, b, (h t a b).2 c, e⟩⟩
theorem daysP_nil {p : Int → Prop} (h : ∀ t, 0 ≤ t → t < 32054400 → ¬ p t) : daysP p = [] := by
  rcases hd : daysP p with _ | ⟨x, l⟩
  · rfl
  · obtain ⟨t, a, b, c, e⟩ := (days_mem p x).1 (by rw [hd]; simp)
    exact absurd c (h t a b)
/-- The days of the first k spans, and of the next one's seconds below T. -/
def upP (L : List (Int × Int)) (k : Nat) (T t : Int) : Prop := In (L.take k) t ∨ ((L.getD k (0, 0)).1 ≤ t ∧ t < (L.getD k (0, 0)).2 ∧ t < T)
theorem plain_lt {L : List (Int × Int)} (h : PlainFrom 0 L) {k : Nat} (hk : k < L.length) {t : Int} (ht : In (L.take k) t) : t < (L.getD k (0, 0)).1 := by
  obtain ⟨s, hs, h1, h2⟩ := ht
  obtain ⟨i, hi, rfl⟩ := List.mem_iff_getElem.1 hs
  rw [List.length_take] at hi
  have e := List.pairwise_iff_getElem.1 (plain_pairs.1 h).2 i k (by omega) hk (by omega)
  rw [List.getElem_take] at h2
  have e2 : L.getD k (0, 0) = L[k] := by simp [List.getD, hk]
  rw [e2]
  omega
theorem upP_first {L : List (Int × Int)} {k : Nat} {T : Int} (hT : T ≤ (L.getD k (0, 0)).1) : daysP (In (L.take k)) = daysP (upP L k T) :=
  daysP_congr fun t a b => by
    unfold upP
    constructor
    · exact .inl
    · rintro (q | q)
      · exact q
      · omega
theorem upP_last {L : List (Int × Int)} {k : Nat} (hk : k < L.length) {T : Int} (hT : (L.getD k (0, 0)).2 ≤ T) : daysP (upP L k T) = daysP (In (L.take (k + 1))) :=
  daysP_congr fun t a b => by
    rw [in_take L k hk]
    unfold upP
    constructor
    · rintro (q | q)
      · exact .inl q
      · exact .inr ⟨q.1, q.2.1⟩
    · rintro (q | q)
      · exact .inl q
      · exact .inr ⟨q.1, q.2, by omega⟩
theorem upP_step {L : List (Int × Int)} (h : PlainFrom 0 L) {k : Nat} (hk : k < L.length) {f n : Int} (hf : (L.getD k (0, 0)).1 / 86400 = f) (hn : 0 ≤ n) (hl : f + n ≤ ((L.getD k (0, 0)).2 - 1) / 86400) :
    pushD (daysP (upP L k ((f + n) * 86400))) (f + n) = daysP (upP L k ((f + n + 1) * 86400)) ∧ ∀ x ∈ daysP (upP L k ((f + n) * 86400)), x ≤ f + n := by
  obtain ⟨b1, b2, b3⟩ := (plain_pairs.1 h).1 (L.getD k (0, 0)) (by simp [List.getD, hk])
  have hlt := fun t => plain_lt h hk (t := t)
  unfold upP at *
  generalize (L.getD k (0, 0)).1 = a at *
  generalize (L.getD k (0, 0)).2 = b at *
  generalize In (L.take k) = P at *
  refine ⟨days_push (T := max a ((f + n) * 86400)) (T' := min b ((f + n + 1) * 86400)) (by omega) (by omega) (by omega) ?_ ?_ (by omega) (by omega), ?_⟩
  · rintro t (q | q)
    · have := hlt t q; omega
    · omega
  · intro t t0 t1
    constructor
    · rintro (q | q)
      · exact .inl (.inl q)
      · by_cases h : t < (f + n) * 86400
        · exact .inl (.inr ⟨q.1, q.2.1, h⟩)
        · exact .inr (by omega)
    · rintro ((q | q) | q)
      · exact .inl q
      · exact .inr (by omega)
      · exact .inr (by omega)
  · intro x hx
    obtain ⟨t, t0, t1, ht, rfl⟩ := (days_mem _ x).1 hx
    rcases ht with q | q
    · have := hlt t q; omega
    · omega

/-! ### A number more -/
theorem nrow_at {w : World} {base c : Nat} {A : Option Addr} {xs : List Int} (h : NRow w base A c xs) {k : Nat} (hk : k < xs.length) : ∃ b off, A = some ⟨b, off, none⟩ ∧ w.cell? ⟨b, off + k, none⟩ = some (.int .i64 (xs.getD k 0)) := h.nums k hk
theorem nrow_one {w : World} {base c : Nat} {A : Option Addr} {xs : List Int} (h : NRow w base A c xs) {n : Nat} (hn : xs.length = n) (y : Int) (hm : n ≤ 1000000) (hbase : base ≤ w.heap.size) {s : Nat} (hs : w.heap.size = s) :
    ∃ A' c' w', (Builtin.append_ #[27, 27] 27 #[.slice A n c, .slice (some ⟨s, 0, none⟩) 1 1]).run Tryz.prog (w.alloc (.cells #[.int .i64 y] 3)) = .ok (.slice A' (n + 1) c') w' ∧ NRow w' base A' c' (xs ++ [y]) ∧ Kept (fun b => b < base) w w' := by
  subst hn hs
  obtain ⟨A', c', w', hr, ho, hg, hl⟩ := append_any (P := Tryz.prog) (w.alloc (.cells #[.int .i64 y] 3)) base 27 27 3 _ 1 8 Tryz.underlying27 int_info rfl (by omega) (World.ownsRow.alloc h _)
    (Sl.of_own (own_new w 3 1 1 (ints .i64 [y]).toArray (by simp [ints]) (by simp only [maxLen]; omega))) (ints_one .i64 [y]) (xs.length + 1) rfl (ints .i64 (xs ++ [y])) (by simp [ints]) (by omega) (by omega) (by simp; omega)
  have hsz := hg.size
  simp at hsz
  refine ⟨A', c', w', hr, ?_, ⟨hg.os, hg.tape, hg.output, by omega, fun b hb => ?_⟩⟩
  · unfold NRow
    rw [List.length_append]
    exact ho
  · rw [hg.block b (by simp; omega) ?_]
    · exact Below.heap_alloc w _ b (by omega)
    · intro e
      cases A with
      | none => simp [Value.ownBlock] at e
      | some a0 =>
        simp [Value.ownBlock] at e
        have := (h.lt a0 rfl).1
        omega
theorem Kept.setc {F : Nat → Prop} {a w : World} (h : Kept F a w) {p : Addr} (hp : ¬ F p.block) (v : Value) : Kept F a (w.setCell p v) := by
  refine ⟨h.os, h.tape, h.output, ?_, fun b hb => ?_⟩
  · have := Kept.size h
    simp [World.setCell]
    exact this
  · rw [Below.heap_setCell w p v b (by rintro rfl; exact hp hb)]
    exact h.block b hb
theorem NRow.far {w : World} {base c : Nat} {A : Option Addr} {xs : List Int} (h : NRow w base A c xs) {p : Addr} (hp : ∀ g, A = some g → g.block ≠ p.block) (u : Value) : NRow (w.setCell p u) base A c xs :=
  h.keep fun g hg => Below.heap_setCell w p u _ (hp g hg)

set_option maxHeartbeats 1000000 in
theorem put_any (d : Int) (g : Nat) (A : Option Addr) (c : Nat) (D : List Int) (k base : Nat) (w : World) (hK : Has w g #[.slice A k c]) (hD : D.length = k) (hk : k ≤ 1000) (hR : NRow w base A c D) (hgb : g < base) (hbs : base ≤ w.heap.size) :
    Calls Tryz.prog 59 #[.int .i64 d, .pointer (some ⟨g, 0, none⟩)] w fun e w' => e = .returned (.tuple #[]) ∧ ∃ A' c', Has w' g #[.slice A' (pushD D d).length c'] ∧ NRow w' base A' c' (pushD D d) ∧ Kept (fun b => b < base ∧ b ≠ g) w w' := by
  have hs := hK.size
  have k0 := hK.cell 0 rfl
  have kf := hK.frozen 0
  have HK := Lib.hid hK
  obtain ⟨A5, c5, w5, hr5, hrow5, hkp5⟩ := nrow_one hR hD d (by omega) hbs (s := w.heap.size) rfl
  have HR5 := Lib.hid hr5
  have hK5 : Has w5 g #[.slice A k c] := hK.kept (F := fun b => b < base) hgb hkp5
  have k5 := hK5.cell 0 rfl
  have k5f := hK5.frozen 0
  have hs5 := hK5.size
  have HEND : Hid (Has (w5.setCell ⟨g, 0, none⟩ (.slice A5 (k + 1) c5)) g #[.slice A5 (k + 1) c5] ∧ NRow (w5.setCell ⟨g, 0, none⟩ (.slice A5 (k + 1) c5)) base A5 c5 (D ++ [d]) ∧ Kept (fun b => b < base ∧ b ≠ g) w (w5.setCell ⟨g, 0, none⟩ (.slice A5 (k + 1) c5))) :=
    ⟨hK5.set 0 _, hrow5.far (fun a ha => by have := (hrow5.lt a ha).1; show a.block ≠ g; omega) _, (hkp5.less (G := fun b => b < base ∧ b ≠ g) fun i hi => hi.1).setc (p := ⟨g, 0, none⟩) (fun h => h.2 rfl) _⟩
  have HP : Hid (pushD D d = if k = 0 ∨ D.getD (k - 1) 0 < d then D ++ [d] else D) := by show _ = _; rw [← hD]; rfl
  have HL : Hid ((D ++ [d]).length = k + 1) := by show _ = _; rw [List.length_append, hD]; rfl
  have HRow := Lib.hid hR
  have HD := Lib.hid hD
  clear hK hr5 hrow5 hkp5 hK5 hD
  by_cases h0 : k = 0
  · subst h0
    have HE : Hid (pushD D d = D ++ [d]) := by show _ = _; rw [HP.out, if_pos (.inl rfl)]
    rw [HE.out, HL.out]
    clear HP hR
    go_enter Tryz.func59, Tryz.ntmps59
    go_wp2_with (at_builtin; refine wpList_append_run (o := ⟨some 20, _, _, _, _, _⟩) HR5.out rfl rfl rfl rfl ?_)
    go_end0
    exact ⟨rfl, A5, c5, HEND.out⟩
  · obtain ⟨j, rfl⟩ : ∃ j, k = j + 1 := ⟨k - 1, by omega⟩
    obtain ⟨b, off, rfl, hc⟩ := nrow_at hR (k := j) (by rw [HD.out]; omega)
    have hcl := cell_lt hc
    rw [show j + 1 - 1 = j by omega] at HP
    generalize D.getD j 0 = y at *
    clear hR
    by_cases h1 : y < d
    · have HE : Hid (pushD D d = D ++ [d]) := by show _ = _; rw [HP.out, if_pos (.inr h1)]
      rw [HE.out, HL.out]
      clear HP
      go_enter Tryz.func59, Tryz.ntmps59
      go_wp2_with (at_builtin; refine wpList_append_run (o := ⟨some 20, _, _, _, _, _⟩) HR5.out rfl rfl rfl rfl ?_)
      go_end0
      exact ⟨rfl, A5, c5, HEND.out⟩
    · have HE : Hid (pushD D d = D) := by show _ = _; rw [HP.out, if_neg (by omega)]
      rw [HE.out, HD.out]
      clear HP HEND HR5
      go_enter Tryz.func59, Tryz.ntmps59
      go_wp2
      go_end0
      exact ⟨rfl, _, c, HK.out, HRow.out, Kept.refl _ _⟩
end Go.Proofs.YthdolmhnjinlhaaGreat

namespace Go.Proofs.YthdolmhnjinlhaaGreat
open Go.RowKit Go.Deep Go.WideShapes
set_option linter.unusedVariables false
set_option maxRecDepth 20000

theorem nums_at {P : Program} {t : TypeId} {k : Nat} (h : NumsT P t k) (hk : P.cellsOf t = k) : NumsT P t (P.cellsOf t) := by rw [hk]; exact h
theorem numsT_int : NumsT Tryz.prog 3 1 := alli_int Tryz.underlying3
theorem numsT_ratio : NumsT Tryz.prog 24 2 := alli_struct Tryz.underlying24 (by kernel_rfl)
  ⟨rfl, nums_at numsT_int (by kernel_rfl), by kernel_rfl, nums_at numsT_int (by kernel_rfl), by change _ = _; kernel_rfl⟩
theorem numsT_way : NumsT Tryz.prog 70 3 := alli_struct Tryz.underlying70 (by kernel_rfl)
  ⟨rfl, nums_at numsT_int (by kernel_rfl), by kernel_rfl, nums_at numsT_int (by kernel_rfl), by kernel_rfl, nums_at numsT_int (by kernel_rfl), by change _ = _; kernel_rfl⟩
theorem numsT_tier : NumsT Tryz.prog 80 2 := alli_struct Tryz.underlying80 (by kernel_rfl)
  ⟨rfl, nums_at numsT_int (by kernel_rfl), by kernel_rfl, nums_at numsT_int (by kernel_rfl), by change _ = _; kernel_rfl⟩
theorem numsT_element : NumsT Tryz.prog 74 4 := alli_struct Tryz.underlying74 (by kernel_rfl)
  ⟨rfl, nums_at numsT_ratio (by kernel_rfl), by kernel_rfl, nums_at numsT_ratio (by kernel_rfl), by change _ = _; kernel_rfl⟩
theorem setup_open {H : Type} {enc : TypeId × Value → H} {w : World} {r : Reach} {b0 base : Nat} {held : Bool} {v : Value} {d : DataW H} {p : List MemPlace}
    (hv : Value.okWide Tryz.prog w r b0 30 v) (h : DataW.Trod enc Tryz.prog w base (fun _ => true) held 30 v d p) :
    ∃ (s : SetP) (A1 A2 A3 A4 A5 A6 : Option Addr) (c1 c2 c3 c4 c5 c6 : Nat), v = setV s A1 A2 A3 A4 A5 A6 c1 c2 c3 c4 c5 c6 ∧ SetAt w s A1 A2 A3 A4 A5 A6 c1 c2 c3 c4 c5 c6 ∧ s.Fit :=
  open_setup Tryz.underlying30 (by kernel_rfl) (by kernel_rfl) Tryz.underlying3 (by kernel_rfl) Tryz.underlying22 numsT_way (by kernel_rfl) numsT_ratio
    Tryz.underlying25 numsT_element (by kernel_rfl) Tryz.underlying26 numsT_ratio (by kernel_rfl) Tryz.underlying27 Tryz.underlying28 numsT_tier (by kernel_rfl) hv h
end Go.Proofs.YthdolmhnjinlhaaGreat
