/-
  Slices of structs that are numbers alone, as rows of numbers; arguments that hold them opened. Over any program.
-/
import Derived.Test.YtojhecllgkoclaaSetRead
import Derived.Test.YtojhecllgkoclaaHas
import Derived.Deep.Slices
import Derived.Lib.SmallJoins
import Derived.OpenShut
import Derived.Laws.Cover1
namespace Go.Proofs.Ytojhecllgkoclaa
open Go.RowKit Go.Deep Go.WideShapes
set_option linter.unusedVariables false
set_option linter.unusedSimpArgs false

def In64 (z : Int) : Prop := -9223372036854775808 ≤ z ∧ z ≤ 9223372036854775807
/-- The slice value '.slice A n c' reads as the rows t, of k numbers each. -/
structure Tab (k : Nat) (w : World) (A : Option Addr) (n c : Nat) (t : Rows2) : Prop where
  sl : Sl k w A n c (ints .i64 t.flatten)
  len : t.length = n
  wide : ∀ r ∈ t, r.length = k
  small : ∀ r ∈ t, ∀ z ∈ r, In64 z
  cap : n ≤ c
  max : c ≤ 9223372036854775807
section
variable {k : Nat} {w w' : World} {A : Option Addr} {n c : Nat} {t : Rows2}
theorem Tab.nil_ : Tab k w none 0 0 [] := ⟨⟨by simp [ints], .inl ⟨rfl, rfl, rfl⟩⟩, rfl, by simp, by simp, by omega, by omega⟩
end
/-! ### Arguments -/
/-- What is read at type t is k numbers. -/
def NumsT (P : Program) (t : TypeId) (k : Nat) : Prop := ∀ (H : Type) (enc : TypeId × Value → H) (w : World) (base : Nat) (spare : Nat → Bool) (held : Bool) (fuel : Nat) (cs : List Value) (x : DataW H × List MemPlace),
  DataW.trod enc P w base spare held fuel t cs = some x → ∃ zs : List Int, zs.length = k ∧ cs = ints .i64 zs ∧ ∀ z ∈ zs, In64 z
theorem alli_int {P : Program} {t : TypeId} (h : P.underlying t = some (.int .i64)) : NumsT P t 1 := by
  intro H enc w base spare held fuel cs x hx
  obtain ⟨z, e, _, hz⟩ := DataW.trod_int h hx
  exact ⟨[z], rfl, e, fun y hy => by obtain rfl : y = z := by simpa using hy
                                     exact bounds_i64 hz⟩
/-- Fields one behind the other, each of numbers alone. -/
def ChainI (P : Program) : List Field → Nat → Nat → Prop
  | [], o, n => o = n
  | f :: fs, o, n => f.offset = o ∧ NumsT P f.type (P.cellsOf f.type) ∧ ChainI P fs (o + P.cellsOf f.type) n
theorem chain_ints {H : Type} {enc : TypeId × Value → H} {P : Program} {w : World} {base : Nat} {spare : Nat → Bool} {held : Bool} {n : Nat} {cs : List Value} (hl : cs.length = n) :
    ∀ (fs : List Field) (o : Nat), ChainI P fs o n → (∀ f ∈ fs, ∃ m x, DataW.trod enc P w base spare held m f.type ((cs.drop f.offset).take (P.cellsOf f.type)) = some x) → ∃ zs : List Int, cs.drop o = ints .i64 zs ∧ ∀ z ∈ zs, In64 z
  | [], o, hc, _ => by
    have : o = n := hc
    exact ⟨[], by rw [List.drop_of_length_le (by omega)]; rfl, by simp⟩
  | f :: fs, o, ⟨ho, ha, hc⟩, hx => by
    obtain ⟨m, x, h1⟩ := hx f (by simp)
    obtain ⟨zs, hz, e, hb⟩ := ha _ _ _ _ _ _ _ _ _ h1
    obtain ⟨ys, e2, hb2⟩ := chain_ints hl fs _ hc (fun g hg => hx g (by simp [hg]))
    refine ⟨zs ++ ys, ?_, fun z h => ?_⟩
    · rw [← List.take_append_drop (P.cellsOf f.type) (cs.drop o), List.drop_drop, e2, ← ho, e]
      simp [ints]
    · rcases List.mem_append.1 h with h | h
      · exact hb z h
      · exact hb2 z h
theorem alli_struct {P : Program} {t : TypeId} {fs : Array Field} {n : Nat} (hs : P.underlying t = some (.struct fs)) (hn : P.cellsOf t = n) (hc : ChainI P fs.toList 0 n) : NumsT P t n := by
  intro H enc w base spare held fuel cs x hx
  obtain ⟨xs, m, _, _, hl, hxl, hf⟩ := DataW.trod_struct hs hx
  obtain ⟨zs, e, hb⟩ := chain_ints (cs := cs) (hl.trans hn) fs.toList 0 hc (fun f hf' => by
    obtain ⟨i, hi, rfl⟩ := List.getElem_of_mem hf'
    have hi' : i < fs.size := by simpa using hi
    have h1 := hf i (fs[i]) (by simp [hi'])
    refine ⟨m, xs[i]'(by omega), ?_⟩
    have e : fs.toList[i] = fs[i] := by simp
    rw [e, h1]
    exact List.getElem?_eq_getElem (by omega))
  rw [List.drop_zero] at e
  refine ⟨zs, ?_, e, hb⟩
  have := congrArg List.length e
  simp [ints] at this
  omega
theorem open_tab {H : Type} {enc : TypeId × Value → H} {P : Program} {w : World} {base : Nat} {held : Bool} {t e : TypeId} {k fuel : Nat} {cs : List Value} {x : DataW H × List MemPlace}
    (ht : P.underlying t = some (.slice e)) (he : NumsT P e k) (hk : P.cellsOf e = k) (hk0 : 0 < k) (h : DataW.trod enc P w base (fun _ => true) held fuel t cs = some x) :
    ∃ A n c rows, cs = [.slice A n c] ∧ Tab k w A n c rows := by
  rcases open_slice ht h with ⟨hcs, _⟩ | ⟨a, len, cap, m, f, D, Pl, hcs, hb, hl, hm, hmm, hx, hi⟩
  · exact ⟨none, 0, 0, [], hcs, Tab.nil_⟩
  · have hlm : len ≤ m := by rw [hmm]; split <;> omega
    have each : ∀ i, i < m → ∃ zs : List Int, zs.length = k ∧ (∀ z ∈ zs, In64 z) ∧ ∀ j, j < k → w.cell? (a.add (i * k + j)) = some (.int .i64 (zs.getD j 0)) := by
      intro i him
      obtain ⟨cs', h1, h2⟩ := hi i him
      rw [hk] at h1
      obtain ⟨_, hlen, hcell⟩ := World.cells?_some h1
      obtain ⟨zs, hz, e1, hb⟩ := he _ _ _ _ _ _ _ _ _ h2
      refine ⟨zs, hz, hb, fun j hj => ?_⟩
      have := hcell j hj
      rw [add_add] at this
      rw [this, e1, ints, List.getElem?_map, List.getElem?_eq_getElem (by omega)]
      simp [List.getD, show j < zs.length by omega]
    obtain ⟨Z, hZ⟩ := choose_lt each
    have hwide : ∀ r ∈ (List.range len).map Z, r.length = k := by
      intro r hr
      simp only [List.mem_map, List.mem_range] at hr
      obtain ⟨i, hi', rfl⟩ := hr
      exact (hZ i (by omega)).1
    refine ⟨some a, len, cap, (List.range len).map Z, hcs, ⟨⟨?_, .inr ⟨a, rfl, fun j u hu => ?_⟩⟩, by simp, hwide, ?_, hl, by unfold maxLen at hm; omega⟩⟩
    · simp only [ints, List.length_map]
      rw [rows_len _ hwide]
      simp [Nat.mul_comm]
    · have hjl : j < len * k := by
        rcases Nat.lt_or_ge j (len * k) with q | q
        · exact q
        · rw [List.getElem?_eq_none (by simp only [ints, List.length_map]; rw [rows_len _ hwide]; simp [Nat.mul_comm]; rw [Nat.mul_comm]; omega)] at hu
          cases hu
      have hi' : j / k < len := (Nat.div_lt_iff_lt_mul hk0).2 hjl
      have hr' : j % k < k := Nat.mod_lt _ hk0
      have hc := (hZ (j / k) (by omega)).2.2 (j % k) hr'
      have hj : j / k * k + j % k = j := by rw [Nat.mul_comm]; exact Nat.div_add_mod j k
      rw [hj] at hc
      rw [hc, ← hu]
      have hg := rows_get ((List.range len).map Z) hwide (j / k) (j % k) (by simpa using hi') hr' []
      rw [List.append_nil, show k * (j / k) + j % k = j from Nat.div_add_mod j k] at hg
      have hlt : j < ((List.range len).map Z).flatten.length := by rw [rows_len _ hwide]; simp; rw [Nat.mul_comm]; exact hjl
      rw [ints, List.getElem?_map, List.getElem?_eq_getElem hlt, Option.map_some]
      congr 2
      have e3 : ((List.range len).map Z).getD (j / k) [] = Z (j / k) := by simp [List.getD, hi']
      rw [e3] at hg
      rw [← hg, List.getD_eq_getElem?_getD, List.getElem?_eq_getElem hlt, Option.getD_some]
    · intro r hr z hz
      simp only [List.mem_map, List.mem_range] at hr
      obtain ⟨i, hi', rfl⟩ := hr
      exact (hZ i (by omega)).2.1 z hz
/-! ### A setup -/
/-- The value of a setup: its cells. -/
def setV (s : SetP) (A1 A2 A3 A4 A5 A6 : Option Addr) (c1 c2 c3 c4 c5 c6 : Nat) : Value :=
  .agg #[.int .i64 s.places, .slice A1 s.ways.length c1, .int .i64 s.pn, .int .i64 s.pd, .slice A2 s.elements.length c2, .slice A3 s.classes.length c3, .slice A4 s.gears.length c4,
    .int .i64 s.allow, .int .i64 s.unit, .int .i64 s.cap, .int .i64 s.paid, .int .i64 s.aft, .int .i64 s.brk, .int .i64 s.reg, .int .i64 s.over, .int .i64 s.week, .int .i64 s.nfrom, .int .i64 s.nto,
    .slice A5 s.rates.length c5, .int .i64 s.diff, .int .i64 s.least, .int .i64 s.fault, .slice A6 s.tiers.length c6]
/-- Its lists lie there. -/
structure SetAt (w : World) (s : SetP) (A1 A2 A3 A4 A5 A6 : Option Addr) (c1 c2 c3 c4 c5 c6 : Nat) : Prop where
  ways : Tab 3 w A1 s.ways.length c1 s.ways
  elements : Tab 4 w A2 s.elements.length c2 s.elements
  classes : Tab 2 w A3 s.classes.length c3 s.classes
  gears : Tab 2 w A4 s.gears.length c4 s.gears
  rates : Tab 1 w A5 s.rates.length c5 (s.rates.map fun n => [n])
  tiers : Tab 2 w A6 s.tiers.length c6 s.tiers
theorem SetAt.wide {w : World} {s : SetP} {A1 A2 A3 A4 A5 A6 : Option Addr} {c1 c2 c3 c4 c5 c6 : Nat} (h : SetAt w s A1 A2 A3 A4 A5 A6 c1 c2 c3 c4 c5 c6) : s.Wide := ⟨h.ways.wide, h.elements.wide, h.classes.wide, h.gears.wide, h.tiers.wide⟩
/-- Its own numbers fit. -/
structure SetP.Fit (s : SetP) : Prop where
  places : In64 s.places
  pn : In64 s.pn
  pd : In64 s.pd
  allow : In64 s.allow
  unit : In64 s.unit
  cap : In64 s.cap
  paid : In64 s.paid
  aft : In64 s.aft
  brk : In64 s.brk
  reg : In64 s.reg
  over : In64 s.over
  week : In64 s.week
  nfrom : In64 s.nfrom
  nto : In64 s.nto
  diff : In64 s.diff
  least : In64 s.least
  fault : In64 s.fault
theorem list23 {α : Type} {l : List α} (h : l.length = 23) : ∃ c0 c1 c2 c3 c4 c5 c6 c7 c8 c9 c10 c11 c12 c13 c14 c15 c16 c17 c18 c19 c20 c21 c22, l = [c0, c1, c2, c3, c4, c5, c6, c7, c8, c9, c10, c11, c12, c13, c14, c15, c16, c17, c18, c19, c20, c21, c22] := by
  match l, h with
  | [c0, c1, c2, c3, c4, c5, c6, c7, c8, c9, c10, c11, c12, c13, c14, c15, c16, c17, c18, c19, c20, c21, c22], _ => exact ⟨c0, c1, c2, c3, c4, c5, c6, c7, c8, c9, c10, c11, c12, c13, c14, c15, c16, c17, c18, c19, c20, c21, c22, rfl⟩
theorem one_int {P : Program} {H : Type} {enc : TypeId × Value → H} {w : World} {base : Nat} {spare : Nat → Bool} {held : Bool} {i : TypeId} {m : Nat} {v : Value} {x : DataW H × List MemPlace} (hi : P.underlying i = some (.int .i64)) (h : DataW.trod enc P w base spare held m i [v] = some x) : ∃ z, v = .int .i64 z ∧ In64 z := by
  obtain ⟨z, e, _, hz⟩ := DataW.trod_int hi h
  simp only [List.cons.injEq, and_true] at e
  exact ⟨z, e, bounds_i64 hz⟩
theorem one_tab {P : Program} {H : Type} {enc : TypeId × Value → H} {w : World} {base : Nat} {held : Bool} {t e : TypeId} {k m : Nat} {v : Value} {x : DataW H × List MemPlace}
    (ht : P.underlying t = some (.slice e)) (he : NumsT P e k) (hk : P.cellsOf e = k) (hk0 : 0 < k) (h : DataW.trod enc P w base (fun _ => true) held m t [v] = some x) : ∃ A c rows, v = .slice A rows.length c ∧ Tab k w A rows.length c rows := by
  obtain ⟨A, n, c, rows, e1, hT⟩ := open_tab ht he hk hk0 h
  simp only [List.cons.injEq, and_true] at e1
  have := hT.len
  subst this
  exact ⟨A, c, rows, e1, hT⟩
theorem rows_ones : ∀ (t : Rows2), (∀ r ∈ t, r.length = 1) → t = t.flatten.map fun n => [n]
  | [], _ => rfl
  | r :: t, h => by
    have h1 := h r (by simp)
    obtain ⟨n, rfl⟩ : ∃ n, r = [n] := by
      match r, h1 with
      | [n], _ => exact ⟨n, rfl⟩
    have := rows_ones t (fun q hq => h q (by simp [hq]))
    conv => lhs; rw [this]
    simp
/-- An argument that is a setup. -/
theorem open_setup {H : Type} {enc : TypeId × Value → H} {P : Program} {w : World} {r : Reach} {b0 base : Nat} {held : Bool} {t i tw ew tr te ee tq eq tn tt et : TypeId} {fs : Array Field} {v : Value} {d : DataW H} {p : List MemPlace}
    (hs : P.underlying t = some (.struct fs)) (hC : P.cellsOf t = 23)
    (hf : (fs.toList.map fun f => (f.type, f.offset, P.cellsOf f.type)) = [(i, 0, 1), (tw, 1, 1), (tr, 2, 2), (te, 4, 1), (tq, 5, 1), (tq, 6, 1), (i, 7, 1), (i, 8, 1), (i, 9, 1), (i, 10, 1), (i, 11, 1), (i, 12, 1), (i, 13, 1), (i, 14, 1), (i, 15, 1), (i, 16, 1), (i, 17, 1), (tn, 18, 1), (i, 19, 1), (i, 20, 1), (i, 21, 1), (tt, 22, 1)])
    (hi : P.underlying i = some (.int .i64)) (hi1 : P.cellsOf i = 1) (hw : P.underlying tw = some (.slice ew)) (aw : NumsT P ew 3) (cw : P.cellsOf ew = 3) (ar : NumsT P tr 2)
    (he : P.underlying te = some (.slice ee)) (ae : NumsT P ee 4) (ce : P.cellsOf ee = 4) (hq : P.underlying tq = some (.slice eq)) (aq : NumsT P eq 2) (cq : P.cellsOf eq = 2)
    (hn : P.underlying tn = some (.slice i)) (ht : P.underlying tt = some (.slice et)) (at_ : NumsT P et 2) (ct : P.cellsOf et = 2)
    (hv : Value.okWide P w r b0 t v) (h : DataW.Trod enc P w base (fun _ => true) held t v d p) :
    ∃ (s : SetP) (A1 A2 A3 A4 A5 A6 : Option Addr) (c1 c2 c3 c4 c5 c6 : Nat), v = setV s A1 A2 A3 A4 A5 A6 c1 c2 c3 c4 c5 c6 ∧ SetAt w s A1 A2 A3 A4 A5 A6 c1 c2 c3 c4 c5 c6 ∧ s.Fit := by
  obtain ⟨cs, rfl, hsz⟩ := okWide_struct hs hv
  obtain ⟨fuel, hfu⟩ := h
  obtain ⟨xs, m, _, _, hl, hxl, hx⟩ := DataW.trod_struct hs hfu
  have hsz2 : fs.size = 22 := by
    have := congrArg List.length hf
    simpa using this
  have get : ∀ (j : Nat) (T : TypeId) (o c : Nat), (fs.toList.map fun f => (f.type, f.offset, P.cellsOf f.type))[j]? = some (T, o, c) → ∃ y, DataW.trod enc P w base (fun _ => true) held m T (((Value.agg cs).cells.toList.drop o).take c) = some y := by
    intro j T o c hj
    rw [List.getElem?_map, Option.map_eq_some_iff] at hj
    obtain ⟨f, h1, h2⟩ := hj
    simp only [Prod.mk.injEq] at h2
    obtain ⟨rfl, rfl, rfl⟩ := h2
    rw [Array.getElem?_toList] at h1
    have h3 := hx j f h1
    have hj' : j < fs.size := (Array.getElem?_eq_some_iff.1 h1).1
    rw [List.getElem?_eq_getElem (show j < xs.length by omega)] at h3
    exact ⟨_, h3⟩
  rw [hf] at get
  have hcl : cs.toList.length = 23 := by rw [Array.length_toList, hsz, hC]
  obtain ⟨c0, c1, c2, c3, c4, c5, c6, c7, c8, c9, c10, c11, c12, c13, c14, c15, c16, c17, c18, c19, c20, c21, c22, hcs⟩ := list23 hcl
  have hce : (Value.agg cs).cells.toList = [c0, c1, c2, c3, c4, c5, c6, c7, c8, c9, c10, c11, c12, c13, c14, c15, c16, c17, c18, c19, c20, c21, c22] := hcs
  have hcs' : cs = #[c0, c1, c2, c3, c4, c5, c6, c7, c8, c9, c10, c11, c12, c13, c14, c15, c16, c17, c18, c19, c20, c21, c22] := by
    apply Array.toList_inj.1
    exact hcs
  rw [hce] at get
  clear hx hfu hl hcl hce hsz
  obtain ⟨_, g0⟩ := get 0 i 0 1 rfl
  obtain ⟨_, g1⟩ := get 1 tw 1 1 rfl
  obtain ⟨_, g2⟩ := get 2 tr 2 2 rfl
  obtain ⟨_, g3⟩ := get 3 te 4 1 rfl
  obtain ⟨_, g4⟩ := get 4 tq 5 1 rfl
  obtain ⟨_, g5⟩ := get 5 tq 6 1 rfl
  obtain ⟨_, g6⟩ := get 6 i 7 1 rfl
  obtain ⟨_, g7⟩ := get 7 i 8 1 rfl
  obtain ⟨_, g8⟩ := get 8 i 9 1 rfl
  obtain ⟨_, g9⟩ := get 9 i 10 1 rfl
  obtain ⟨_, g10⟩ := get 10 i 11 1 rfl
  obtain ⟨_, g11⟩ := get 11 i 12 1 rfl
  obtain ⟨_, g12⟩ := get 12 i 13 1 rfl
  obtain ⟨_, g13⟩ := get 13 i 14 1 rfl
  obtain ⟨_, g14⟩ := get 14 i 15 1 rfl
  obtain ⟨_, g15⟩ := get 15 i 16 1 rfl
  obtain ⟨_, g16⟩ := get 16 i 17 1 rfl
  obtain ⟨_, g17⟩ := get 17 tn 18 1 rfl
  obtain ⟨_, g18⟩ := get 18 i 19 1 rfl
  obtain ⟨_, g19⟩ := get 19 i 20 1 rfl
  obtain ⟨_, g20⟩ := get 20 i 21 1 rfl
  obtain ⟨_, g21⟩ := get 21 tt 22 1 rfl
  clear get
  obtain ⟨z0, rfl, b0'⟩ := one_int hi g0
  obtain ⟨z6, rfl, b6⟩ := one_int hi g6
  obtain ⟨z7, rfl, b7⟩ := one_int hi g7
  obtain ⟨z8, rfl, b8⟩ := one_int hi g8
  obtain ⟨z9, rfl, b9⟩ := one_int hi g9
  obtain ⟨z10, rfl, b10⟩ := one_int hi g10
  obtain ⟨z11, rfl, b11⟩ := one_int hi g11
  obtain ⟨z12, rfl, b12⟩ := one_int hi g12
  obtain ⟨z13, rfl, b13⟩ := one_int hi g13
  obtain ⟨z14, rfl, b14⟩ := one_int hi g14
  obtain ⟨z15, rfl, b15⟩ := one_int hi g15
  obtain ⟨z16, rfl, b16⟩ := one_int hi g16
  obtain ⟨z18, rfl, b18⟩ := one_int hi g18
  obtain ⟨z19, rfl, b19⟩ := one_int hi g19
  obtain ⟨z20, rfl, b20⟩ := one_int hi g20
  obtain ⟨A1, k1, t1, rfl, T1⟩ := one_tab hw aw cw (by omega) g1
  obtain ⟨A2, k2, t2, rfl, T2⟩ := one_tab he ae ce (by omega) g3
  obtain ⟨A3, k3, t3, rfl, T3⟩ := one_tab hq aq cq (by omega) g4
  obtain ⟨A4, k4, t4, rfl, T4⟩ := one_tab hq aq cq (by omega) g5
  obtain ⟨A5, k5, t5, rfl, T5⟩ := one_tab hn (alli_int hi) hi1 (by omega) g17
  obtain ⟨A6, k6, t6, rfl, T6⟩ := one_tab ht at_ ct (by omega) g21
  obtain ⟨zs, hz, e2, hb2⟩ := ar _ _ _ _ _ _ _ _ _ g2
  obtain ⟨pn, pd, rfl⟩ : ∃ a b, zs = [a, b] := by
    match zs, hz with
    | [a, b], _ => exact ⟨a, b, rfl⟩
  simp only [ints, List.map_cons, List.map_nil, List.drop_succ_cons, List.drop_zero, List.take_succ_cons, List.take_zero, List.cons.injEq, and_true] at e2
  obtain ⟨rfl, rfl⟩ := e2
  have h5 := rows_ones t5 T5.wide
  have hl5 : t5.length = t5.flatten.length := by
    conv => lhs; rw [h5]
    rw [List.length_map]
  refine ⟨⟨z0, t1, pn, pd, t2, t3, t4, z6, z7, z8, z9, z10, z11, z12, z13, z14, z15, z16, t5.flatten, z18, z19, z20, t6⟩, A1, A2, A3, A4, A5, A6, k1, k2, k3, k4, k5, k6, ?_, ⟨T1, T2, T3, T4, ?_, T6⟩,
    ⟨b0', hb2 pn (by simp), hb2 pd (by simp), b6, b7, b8, b9, b10, b11, b12, b13, b14, b15, b16, b18, b19, b20⟩⟩
  · rw [hcs', setV, hl5]
  · rw [← hl5, ← h5]
    exact T5
end Go.Proofs.Ytojhecllgkoclaa
