/-
  Sorts that keep alike ones in their order: what each exchange keeps. No program here.
  Slices of structs that are numbers alone, as rows of numbers; arguments that hold them opened. Over any program.
  An argument of type api.Event, opened.
  Rows of events: a copy, and the library's insertion sort.
  A map from numbers that the call has made: what it tells of a number, whatever order it was filled in.
  An argument of type []api.Event, opened.
-/
import Derived.Test.YtedkhjbnjkcemaaZab
import Derived.Sort.LotA
import Derived.Test.YtedkhjbnjkcemaaZaa
import Derived.Deep.Slices
import Derived.Lib.SmallJoins
import Derived.OpenShut
import Derived.Laws.Cover1
import Derived.Test.YtedkhjbnjkcemaaProg
import Derived.Test.YtedkhjbnjkcemaaZac
import Derived.Test.YtedkhjbnjkcemaaEvLay
import Derived.Shelf.Abstract
import Derived.Lib.SliceRun
import Derived.Maps.OwnSet
import Derived.WalkKit
import Derived.KernelRfl
namespace Go.Proofs.Ytedkhjbnjkcemaa
open Go.Sort
set_option linter.unusedVariables false
set_option linter.unusedSimpArgs false

instance inhEv : Inhabited EvP := ⟨EvP.none⟩
theorem swoE : SWO lessE := ⟨ev_less_irr, fun _ _ _ => ev_less_trans, fun _ _ _ => ev_less_not⟩
/-- Alike ones stand in the same order. -/
def Stab (d d' : Array EvP) : Prop := ∀ k, d'.toList.filter (alikeE k) = d.toList.filter (alikeE k)
theorem Stab.rfl' (d : Array EvP) : Stab d d := fun _ => rfl
theorem Stab.trans {d d' d'' : Array EvP} (h : Stab d d') (h' : Stab d' d'') : Stab d d'' := fun k => (h' k).trans (h k)
theorem list_two {α : Type} (l : List α) (j : Nat) (h : j + 1 < l.length) : ∃ A x y B, l = A ++ x :: y :: B ∧ A.length = j ∧ l[j] = x ∧ l[j + 1] = y := by
  refine ⟨l.take j, l[j], l[j + 1], l.drop (j + 2), ?_, by rw [List.length_take]; omega, rfl, rfl⟩
  conv => lhs; rw [← List.take_append_drop j l]
  rw [List.drop_eq_getElem_cons (by omega), List.drop_eq_getElem_cons (by omega)]
theorem swap_list {α : Type} (A B : List α) (x y : α) (j : Nat) (h : A.length = j) : ((A ++ x :: y :: B).set (j + 1) x).set j y = A ++ y :: x :: B := by
  subst h
  rw [List.set_append_right _ _ (by omega), List.set_append_right _ _ (by omega)]
  simp
theorem swp_adj {d : Array EvP} {j : Nat} (h : j + 1 < d.size) : ∃ A x y B, d.toList = A ++ x :: y :: B ∧ A.length = j ∧ d[j]! = x ∧ d[j + 1]! = y ∧ (swp d (j + 1) j).toList = A ++ y :: x :: B ∧ (swp d j (j + 1)).toList = A ++ y :: x :: B := by
  obtain ⟨A, x, y, B, h1, h2, h3, h4⟩ := list_two d.toList j (by simpa using h)
  have e1 : d[j]! = x := by rw [getElem!_pos d j (by omega), ← h3]; simp
  have e2 : d[j + 1]! = y := by rw [getElem!_pos d (j + 1) h, ← h4]; simp
  refine ⟨A, x, y, B, h1, h2, e1, e2, ?_, ?_⟩
  · unfold swp
    rw [e1, e2, Array.toList_setIfInBounds, Array.toList_setIfInBounds, h1]
    exact swap_list A B x y j h2
  · unfold swp
    rw [e1, e2, Array.toList_setIfInBounds, Array.toList_setIfInBounds, h1, List.set_comm _ _ (by omega)]
    exact swap_list A B x y j h2
theorem alike_not_less {k x y : EvP} (h1 : alikeE k x = true) (h2 : alikeE k y = true) : lessE x y = false ∧ lessE y x = false := by
  simp only [alikeE, decide_eq_true_eq] at h1 h2
  simp only [lessE, decide_eq_false_iff_not]
  omega
theorem stab_pair {A B : List EvP} {x y : EvP} (h : lessE x y = true ∨ lessE y x = true) (k : EvP) : (A ++ y :: x :: B).filter (alikeE k) = (A ++ x :: y :: B).filter (alikeE k) := by
  rw [List.filter_append, List.filter_append]
  congr 1
  cases hx : alikeE k x with
  | false => simp [List.filter_cons, hx]
  | true =>
    cases hy : alikeE k y with
    | false => simp [List.filter_cons, hy]
    | true =>
      obtain ⟨h1, h2⟩ := alike_not_less hx hy
      rw [h1, h2] at h
      simp at h
theorem stab_swp {d : Array EvP} {j : Nat} (h : j + 1 < d.size) (hl : lessE d[j + 1]! d[j]! = true ∨ lessE d[j]! d[j + 1]! = true) : Stab d (swp d (j + 1) j) ∧ Stab d (swp d j (j + 1)) := by
  obtain ⟨A, x, y, B, h1, h2, h3, h4, h5, h6⟩ := swp_adj h
  rw [h3, h4] at hl
  exact ⟨fun k => by rw [h5, h1]; exact stab_pair hl.symm k, fun k => by rw [h6, h1]; exact stab_pair hl.symm k⟩
theorem stab_inner (a : Nat) : ∀ (j : Nat) (d : Array EvP), j < d.size → Stab d (insInner lessE a j d)
  | 0, d, _ => Stab.rfl' d
  | j + 1, d, h => by
    rw [insInner]
    split
    · rename_i hc
      simp only [Bool.and_eq_true, decide_eq_true_eq] at hc
      exact (stab_swp h (.inl hc.2)).1.trans (stab_inner a j _ (by rw [size_swp]; omega))
    · exact Stab.rfl' d
theorem inner_size (a : Nat) : ∀ (j : Nat) (d : Array EvP), (insInner lessE a j d).size = d.size
  | 0, d => rfl
  | j + 1, d => by
    rw [insInner]
    split
    · rw [inner_size a j, size_swp]
    · rfl
theorem stab_outer (a b : Nat) : ∀ (k i : Nat) (d : Array EvP), b - i = k → b ≤ d.size → Stab d (insOuter lessE a b i d) ∧ (insOuter lessE a b i d).size = d.size
  | 0, i, d, hk, hb => by
    rw [insOuter, if_neg (by omega)]
    exact ⟨Stab.rfl' d, rfl⟩
  | k + 1, i, d, hk, hb => by
    rw [insOuter, if_pos (by omega)]
    have hs := inner_size a i d
    obtain ⟨h1, h2⟩ := stab_outer a b k (i + 1) (insInner lessE a i d) (by omega) (by omega)
    exact ⟨(stab_inner a i d (by omega)).trans h1, by rw [h2, hs]⟩
/-- What a stable sort of a part makes. -/
def Mrg (a b : Nat) (d d' : Array EvP) : Prop := PermIn a b d d' ∧ SortedIn lessE a b d' ∧ Stab d d'
theorem ins_mrg (d : Array EvP) (a b : Nat) (hab : a ≤ b) (hb : b ≤ d.size) : Mrg a b d (insertionSort lessE d a b) := by
  obtain ⟨h1, h2⟩ := insertionSort_holds (lt := lessE) swoE d a b hab hb
  exact ⟨h1, h2, (stab_outer a b _ (a + 1) d rfl hb).1⟩
theorem risen_of_sorted : ∀ (l : List EvP), (∀ i j (hj : j < l.length) (hi : i < j), lessE l[j] (l[i]'(by omega)) = false) → Risen l
  | [], _ => trivial
  | x :: l, h => by
    refine ⟨fun y hy => ?_, risen_of_sorted l (fun i j hj hi => h (i + 1) (j + 1) (by simpa using hj) (by omega))⟩
    obtain ⟨j, hj, rfl⟩ := List.getElem_of_mem hy
    exact h 0 (j + 1) (by simpa using hj) (by omega)
theorem sorted_is {d d' : Array EvP} (hs : SortedIn lessE 0 d'.size d') (h : Stab d d') : d'.toList = sortE d.toList := by
  refine ev_sort_of (risen_of_sorted _ (fun i j hj hi => ?_)) h
  have hj' : j < d'.size := by simpa using hj
  have := hs i j (Nat.zero_le _) hi hj'
  rw [getElem!_pos d' j hj', getElem!_pos d' i (by omega)] at this
  simpa using this
end Go.Proofs.Ytedkhjbnjkcemaa

namespace Go.Proofs.Ytedkhjbnjkcemaa
open Go.RowKit Go.Deep Go.WideShapes
set_option linter.unusedVariables false
set_option linter.unusedSimpArgs false

theorem getD_in {l : List Int} {j : Nat} (h : j < l.length) : l.getD j 0 ∈ l := by
  rw [List.getD_eq_getElem?_getD, List.getElem?_eq_getElem h, Option.getD_some]
  exact List.getElem_mem _
def In64 (z : Int) : Prop := -9223372036854775808 ≤ z ∧ z ≤ 9223372036854775807
/-- The slice value '.slice A n c' reads as the rows t, of k numbers each. -/
structure Tab (k : Nat) (w : World) (A : Option Addr) (n c : Nat) (t : Rows2) : Prop where
  sl : Sl k w A n c (ints .i64 t.flatten)
  len : t.length = n
  wide : ∀ r ∈ t, r.length = k
  small : ∀ r ∈ t, ∀ z ∈ r, In64 z
  cap : n ≤ c
  max : c ≤ 9223372036854775807
theorem tab_add {b off n : Nat} : (⟨b, off, none⟩ : Addr).add n = ⟨b, off + n, none⟩ := by unfold Addr.add; split <;> simp_all
section
variable {k : Nat} {w w' : World} {A : Option Addr} {n c : Nat} {t : Rows2}
theorem Tab.below (h : Tab k w A n c t) (hb : Below w.heap.size w w') : Tab k w' A n c t := ⟨h.sl.below hb, h.len, h.wide, h.small, h.cap, h.max⟩
theorem Tab.nil_ : Tab k w none 0 0 [] := ⟨⟨by simp [ints], .inl ⟨rfl, rfl, rfl⟩⟩, rfl, by simp, by simp, by omega, by omega⟩
theorem Tab.form (h : Tab k w A n c t) (hk : 0 < k) (hn : 0 < n) : ∃ b off, A = some ⟨b, off, none⟩ := by
  obtain ⟨hl, ⟨_, h0, _⟩ | ⟨ad, rfl, hc⟩⟩ := h.sl
  · omega
  · have hp : 0 < n * k := Nat.mul_pos hn hk
    obtain ⟨u, hu⟩ : ∃ u, (ints .i64 t.flatten)[0]? = some u := ⟨_, List.getElem?_eq_getElem (by omega)⟩
    have h0 := hc 0 u hu
    obtain ⟨b, off, sp⟩ := ad
    have hsp : sp = none := by simpa [Addr.add] using World.cell?_spot h0
    subst hsp
    exact ⟨b, off, rfl⟩
/-- One number of one row. -/
theorem Tab.cell {b off : Nat} (h : Tab k w (some ⟨b, off, none⟩) n c t) {i j : Nat} (hi : i < n) (hj : j < k) : w.cell? ⟨b, off + i * k + j, none⟩ = some (.int .i64 ((t.getD i []).getD j 0)) := by
  have hti : i < t.length := by rw [h.len]; exact hi
  obtain ⟨hl, ⟨h0, _, _⟩ | ⟨ad, e, hc⟩⟩ := h.sl
  · cases h0
  · injection e with e
    subst e
    have hg := rows_get t h.wide i j hti hj []
    rw [List.append_nil] at hg
    have hlt : k * i + j < t.flatten.length := by
      rw [rows_len t h.wide]
      have : k * i + k ≤ k * t.length := by rw [← Nat.mul_succ]; exact Nat.mul_le_mul_left k hti
      omega
    have hu : (ints .i64 t.flatten)[k * i + j]? = some (.int .i64 ((t.getD i []).getD j 0)) := by
      rw [ints, List.getElem?_map, List.getElem?_eq_getElem hlt, Option.map_some, ← hg, List.getD_eq_getElem?_getD, List.getElem?_eq_getElem hlt, Option.getD_some]
    have := hc _ _ hu
    rw [tab_add, ← Nat.add_assoc, Nat.mul_comm] at this
    exact this
theorem Tab.at_small (h : Tab k w A n c t) {i j : Nat} (hi : i < n) (hj : j < k) : In64 ((t.getD i []).getD j 0) := by
  have hti : i < t.length := by rw [h.len]; exact hi
  have hr : t.getD i [] ∈ t := by simp [List.getD, hti]
  have hw := h.wide _ hr
  exact h.small _ hr _ (getD_in (by omega))
end
/-! ### Arguments -/
/-- What is read at type t is k numbers. -/
def NumsT (P : Program) (t : TypeId) (k : Nat) : Prop := ∀ (H : Type) (enc : TypeId × Value → H) (w : World) (base : Nat) (spare : Nat → Bool) (held : Bool) (fuel : Nat) (cs : List Value) (x : DataW H × List MemPlace),
  DataW.trod enc P w base spare held fuel t cs = some x → ∃ zs : List Int, zs.length = k ∧ cs = ints .i64 zs ∧ ∀ z ∈ zs, In64 z
theorem alli_int {P : Program} {t : TypeId} (h : P.underlying t = some (.int .i64)) : NumsT P t 1 := by
  intro H enc w base spare held fuel cs x hx
  obtain ⟨z, e, _, hz⟩ := DataW.trod_int h hx
  exact ⟨[z], rfl, e, fun y hy => by obtain rfl : y = z := by simpa using hy
                                     exact bounds_i64 hz⟩
/-- Fields one behind the other, each of numbers alone. -/
def ChainI (P : Program) : List Field → Nat → Nat → Prop
  | [], o, n => o = n
  | f :: fs, o, n => f.offset = o ∧ NumsT P f.type (P.cellsOf f.type) ∧ ChainI P fs (o + P.cellsOf f.type) n
theorem chain_ints {H : Type} {enc : TypeId × Value → H} {P : Program} {w : World} {base : Nat} {spare : Nat → Bool} {held : Bool} {n : Nat} {cs : List Value} (hl : cs.length = n) :
    ∀ (fs : List Field) (o : Nat), ChainI P fs o n → (∀ f ∈ fs, ∃ m x, DataW.trod enc P w base spare held m f.type ((cs.drop f.offset).take (P.cellsOf f.type)) = some x) → ∃ zs : List Int, cs.drop o = ints .i64 zs ∧ ∀ z ∈ zs, In64 z
  | [], o, hc, _ => by
    have : o = n := hc
    exact ⟨[], by rw [List.drop_of_length_le (by omega)]; rfl, by simp⟩
  | f :: fs, o, ⟨ho, ha, hc⟩, hx => by
    obtain ⟨m, x, h1⟩ := hx f (by simp)
    obtain ⟨zs, hz, e, hb⟩ := ha _ _ _ _ _ _ _ _ _ h1
    obtain ⟨ys, e2, hb2⟩ := chain_ints hl fs _ hc (fun g hg => hx g (by simp [hg]))
    refine ⟨zs ++ ys, ?_, fun z h => ?_⟩
    · rw [← List.take_append_drop (P.cellsOf f.type) (cs.drop o), List.drop_drop, e2, ← ho, e]
      simp [ints]
    · rcases List.mem_append.1 h with h | h
      · exact hb z h
      · exact hb2 z h
theorem alli_struct {P : Program} {t : TypeId} {fs : Array Field} {n : Nat} (hs : P.underlying t = some (.struct fs)) (hn : P.cellsOf t = n) (hc : ChainI P fs.toList 0 n) : NumsT P t n := by
  intro H enc w base spare held fuel cs x hx
  obtain ⟨xs, m, _, _, hl, hxl, hf⟩ := DataW.trod_struct hs hx
  obtain ⟨zs, e, hb⟩ := chain_ints (cs := cs) (hl.trans hn) fs.toList 0 hc (fun f hf' => by
    obtain ⟨i, hi, rfl⟩ := List.getElem_of_mem hf'
    have hi' : i < fs.size := by simpa using hi
    have h1 := hf i (fs[i]) (by simp [hi'])
    refine ⟨m, xs[i]'(by omega), ?_⟩
    have e : fs.toList[i] = fs[i] := by simp
    rw [e, h1]
    exact List.getElem?_eq_getElem (by omega))
  rw [List.drop_zero] at e
  refine ⟨zs, ?_, e, hb⟩
  have := congrArg List.length e
  simp [ints] at this
  omega
theorem open_tab {H : Type} {enc : TypeId × Value → H} {P : Program} {w : World} {base : Nat} {held : Bool} {t e : TypeId} {k fuel : Nat} {cs : List Value} {x : DataW H × List MemPlace}
    (ht : P.underlying t = some (.slice e)) (he : NumsT P e k) (hk : P.cellsOf e = k) (hk0 : 0 < k) (h : DataW.trod enc P w base (fun _ => true) held fuel t cs = some x) :
    ∃ A n c rows, cs = [.slice A n c] ∧ Tab k w A n c rows := by
  rcases open_slice ht h with ⟨hcs, _⟩ | ⟨a, len, cap, m, f, D, Pl, hcs, hb, hl, hm, hmm, hx, hi⟩
  · exact ⟨none, 0, 0, [], hcs, Tab.nil_⟩
  · have hlm : len ≤ m := by rw [hmm]; split <;> omega
    have each : ∀ i, i < m → ∃ zs : List Int, zs.length = k ∧ (∀ z ∈ zs, In64 z) ∧ ∀ j, j < k → w.cell? (a.add (i * k + j)) = some (.int .i64 (zs.getD j 0)) := by
      intro i him
      obtain ⟨cs', h1, h2⟩ := hi i him
      rw [hk] at h1
      obtain ⟨_, hlen, hcell⟩ := World.cells?_some h1
      obtain ⟨zs, hz, e1, hb⟩ := he _ _ _ _ _ _ _ _ _ h2
      refine ⟨zs, hz, hb, fun j hj => ?_⟩
      have := hcell j hj
      rw [add_add] at this
      rw [this, e1, ints, List.getElem?_map, List.getElem?_eq_getElem (by omega)]
      simp [List.getD, show j < zs.length by omega]
    obtain ⟨Z, hZ⟩ := choose_lt each
    have hwide : ∀ r ∈ (List.range len).map Z, r.length = k := by
      intro r hr
      simp only [List.mem_map, List.mem_range] at hr
      obtain ⟨i, hi', rfl⟩ := hr
      exact (hZ i (by omega)).1
    refine ⟨some a, len, cap, (List.range len).map Z, hcs, ⟨⟨?_, .inr ⟨a, rfl, fun j u hu => ?_⟩⟩, by simp, hwide, ?_, hl, by unfold maxLen at hm; omega⟩⟩
    · simp only [ints, List.length_map]
      rw [rows_len _ hwide]
      simp [Nat.mul_comm]
    · have hjl : j < len * k := by
        rcases Nat.lt_or_ge j (len * k) with q | q
        · exact q
        · rw [List.getElem?_eq_none (by simp only [ints, List.length_map]; rw [rows_len _ hwide]; simp [Nat.mul_comm]; rw [Nat.mul_comm]; omega)] at hu
          cases hu
      have hi' : j / k < len := (Nat.div_lt_iff_lt_mul hk0).2 hjl
      have hr' : j % k < k := Nat.mod_lt _ hk0
      have hc := (hZ (j / k) (by omega)).2.2 (j % k) hr'
      have hj : j / k * k + j % k = j := by rw [Nat.mul_comm]; exact Nat.div_add_mod j k
      rw [hj] at hc
      rw [hc, ← hu]
      have hg := rows_get ((List.range len).map Z) hwide (j / k) (j % k) (by simpa using hi') hr' []
      rw [List.append_nil, show k * (j / k) + j % k = j from Nat.div_add_mod j k] at hg
      have hlt : j < ((List.range len).map Z).flatten.length := by rw [rows_len _ hwide]; simp; rw [Nat.mul_comm]; exact hjl
      rw [ints, List.getElem?_map, List.getElem?_eq_getElem hlt, Option.map_some]
      congr 2
      have e3 : ((List.range len).map Z).getD (j / k) [] = Z (j / k) := by simp [List.getD, hi']
      rw [e3] at hg
      rw [← hg, List.getD_eq_getElem?_getD, List.getElem?_eq_getElem hlt, Option.getD_some]
    · intro r hr z hz
      simp only [List.mem_map, List.mem_range] at hr
      obtain ⟨i, hi', rfl⟩ := hr
      exact (hZ i (by omega)).2.1 z hz
/-! ### A setup -/
/-- The value of a setup: its cells. -/
def setV (s : SetP) (A1 A2 A3 A4 A5 A6 : Option Addr) (c1 c2 c3 c4 c5 c6 : Nat) : Value :=
  .agg #[.int .i64 s.places, .slice A1 s.ways.length c1, .int .i64 s.pn, .int .i64 s.pd, .slice A2 s.elements.length c2, .slice A3 s.classes.length c3, .slice A4 s.gears.length c4,
    .int .i64 s.allow, .int .i64 s.unit, .int .i64 s.cap, .int .i64 s.paid, .int .i64 s.aft, .int .i64 s.brk, .int .i64 s.reg, .int .i64 s.over, .int .i64 s.week, .int .i64 s.nfrom, .int .i64 s.nto,
    .slice A5 s.rates.length c5, .int .i64 s.diff, .int .i64 s.least, .int .i64 s.fault, .slice A6 s.tiers.length c6]
/-- Its lists lie there. -/
structure SetAt (w : World) (s : SetP) (A1 A2 A3 A4 A5 A6 : Option Addr) (c1 c2 c3 c4 c5 c6 : Nat) : Prop where
  ways : Tab 3 w A1 s.ways.length c1 s.ways
  elements : Tab 4 w A2 s.elements.length c2 s.elements
  classes : Tab 2 w A3 s.classes.length c3 s.classes
  gears : Tab 2 w A4 s.gears.length c4 s.gears
  rates : Tab 1 w A5 s.rates.length c5 (s.rates.map fun n => [n])
  tiers : Tab 2 w A6 s.tiers.length c6 s.tiers
theorem SetAt.below {w w' : World} {s : SetP} {A1 A2 A3 A4 A5 A6 : Option Addr} {c1 c2 c3 c4 c5 c6 : Nat} (h : SetAt w s A1 A2 A3 A4 A5 A6 c1 c2 c3 c4 c5 c6) (hb : Below w.heap.size w w') : SetAt w' s A1 A2 A3 A4 A5 A6 c1 c2 c3 c4 c5 c6 :=
  ⟨h.ways.below hb, h.elements.below hb, h.classes.below hb, h.gears.below hb, h.rates.below hb, h.tiers.below hb⟩
theorem SetAt.wide {w : World} {s : SetP} {A1 A2 A3 A4 A5 A6 : Option Addr} {c1 c2 c3 c4 c5 c6 : Nat} (h : SetAt w s A1 A2 A3 A4 A5 A6 c1 c2 c3 c4 c5 c6) : s.Wide := ⟨h.ways.wide, h.elements.wide, h.classes.wide, h.gears.wide, h.tiers.wide⟩
/-- Its own numbers fit. -/
structure SetP.Fit (s : SetP) : Prop where
  places : In64 s.places
  pn : In64 s.pn
  pd : In64 s.pd
  allow : In64 s.allow
  unit : In64 s.unit
  cap : In64 s.cap
  paid : In64 s.paid
  aft : In64 s.aft
  brk : In64 s.brk
  reg : In64 s.reg
  over : In64 s.over
  week : In64 s.week
  nfrom : In64 s.nfrom
  nto : In64 s.nto
  diff : In64 s.diff
  least : In64 s.least
  fault : In64 s.fault
theorem list23 {α : Type} {l : List α} (h : l.length = 23) : ∃ c0 c1 c2 c3 c4 c5 c6 c7 c8 c9 c10 c11 c12 c13 c14 c15 c16 c17 c18 c19 c20 c21 c22, l = [c0, c1, c2, c3, c4, c5, c6, c7, c8, c9, c10, c11, c12, c13, c14, c15, c16, c17, c18, c19, c20, c21, c22] := by
  match l, h with
  | [c0, c1, c2, c3, c4, c5, c6, c7, c8, c9, c10, c11, c12, c13, c14, c15, c16, c17, c18, c19, c20, c21, c22], _ => exact ⟨c0, c1, c2, c3, c4, c5, c6, c7, c8, c9, c10, c11, c12, c13, c14, c15, c16, c17, c18, c19, c20, c21, c22, rfl⟩
theorem one_int {P : Program} {H : Type} {enc : TypeId × Value → H} {w : World} {base : Nat} {spare : Nat → Bool} {held : Bool} {i : TypeId} {m : Nat} {v : Value} {x : DataW H × List MemPlace} (hi : P.underlying i = some (.int .i64)) (h : DataW.trod enc P w base spare held m i [v] = some x) : ∃ z, v = .int .i64 z ∧ In64 z := by
  obtain ⟨z, e, _, hz⟩ := DataW.trod_int hi h
  simp only [List.cons.injEq, and_true] at e
  exact ⟨z, e, bounds_i64 hz⟩
theorem one_tab {P : Program} {H : Type} {enc : TypeId × Value → H} {w : World} {base : Nat} {held : Bool} {t e : TypeId} {k m : Nat} {v : Value} {x : DataW H × List MemPlace}
    (ht : P.underlying t = some (.slice e)) (he : NumsT P e k) (hk : P.cellsOf e = k) (hk0 : 0 < k) (h : DataW.trod enc P w base (fun _ => true) held m t [v] = some x) : ∃ A c rows, v = .slice A rows.length c ∧ Tab k w A rows.length c rows := by
  obtain ⟨A, n, c, rows, e1, hT⟩ := open_tab ht he hk hk0 h
  simp only [List.cons.injEq, and_true] at e1
  have := hT.len
  subst this
  exact ⟨A, c, rows, e1, hT⟩
theorem rows_ones : ∀ (t : Rows2), (∀ r ∈ t, r.length = 1) → t = t.flatten.map fun n => [n]
  | [], _ => rfl
  | r :: t, h => by
    have h1 := h r (by simp)
    obtain ⟨n, rfl⟩ : ∃ n, r = [n] := by
      match r, h1 with
      | [n], _ => exact ⟨n, rfl⟩
    have := rows_ones t (fun q hq => h q (by simp [hq]))
    conv => lhs; rw [this]
    simp
/-- An argument that is a setup. -/
theorem open_setup {H : Type} {enc : TypeId × Value → H} {P : Program} {w : World} {r : Reach} {b0 base : Nat} {held : Bool} {t i tw ew tr te ee tq eq tn tt et : TypeId} {fs : Array Field} {v : Value} {d : DataW H} {p : List MemPlace}
    (hs : P.underlying t = some (.struct fs)) (hC : P.cellsOf t = 23)
    (hf : (fs.toList.map fun f => (f.type, f.offset, P.cellsOf f.type)) = [(i, 0, 1), (tw, 1, 1), (tr, 2, 2), (te, 4, 1), (tq, 5, 1), (tq, 6, 1), (i, 7, 1), (i, 8, 1), (i, 9, 1), (i, 10, 1), (i, 11, 1), (i, 12, 1), (i, 13, 1), (i, 14, 1), (i, 15, 1), (i, 16, 1), (i, 17, 1), (tn, 18, 1), (i, 19, 1), (i, 20, 1), (i, 21, 1), (tt, 22, 1)])
    (hi : P.underlying i = some (.int .i64)) (hi1 : P.cellsOf i = 1) (hw : P.underlying tw = some (.slice ew)) (aw : NumsT P ew 3) (cw : P.cellsOf ew = 3) (ar : NumsT P tr 2)
    (he : P.underlying te = some (.slice ee)) (ae : NumsT P ee 4) (ce : P.cellsOf ee = 4) (hq : P.underlying tq = some (.slice eq)) (aq : NumsT P eq 2) (cq : P.cellsOf eq = 2)
    (hn : P.underlying tn = some (.slice i)) (ht : P.underlying tt = some (.slice et)) (at_ : NumsT P et 2) (ct : P.cellsOf et = 2)
    (hv : Value.okWide P w r b0 t v) (h : DataW.Trod enc P w base (fun _ => true) held t v d p) :
    ∃ (s : SetP) (A1 A2 A3 A4 A5 A6 : Option Addr) (c1 c2 c3 c4 c5 c6 : Nat), v = setV s A1 A2 A3 A4 A5 A6 c1 c2 c3 c4 c5 c6 ∧ SetAt w s A1 A2 A3 A4 A5 A6 c1 c2 c3 c4 c5 c6 ∧ s.Fit := by
  obtain ⟨cs, rfl, hsz⟩ := okWide_struct hs hv
  obtain ⟨fuel, hfu⟩ := h
  obtain ⟨xs, m, _, _, hl, hxl, hx⟩ := DataW.trod_struct hs hfu
  have hsz2 : fs.size = 22 := by
    have := congrArg List.length hf
    simpa using this
  have get : ∀ (j : Nat) (T : TypeId) (o c : Nat), (fs.toList.map fun f => (f.type, f.offset, P.cellsOf f.type))[j]? = some (T, o, c) → ∃ y, DataW.trod enc P w base (fun _ => true) held m T (((Value.agg cs).cells.toList.drop o).take c) = some y := by
    intro j T o c hj
    rw [List.getElem?_map, Option.map_eq_some_iff] at hj
    obtain ⟨f, h1, h2⟩ := hj
    simp only [Prod.mk.injEq] at h2
    obtain ⟨rfl, rfl, rfl⟩ := h2
    rw [Array.getElem?_toList] at h1
    have h3 := hx j f h1
    have hj' : j < fs.size := (Array.getElem?_eq_some_iff.1 h1).1
    rw [List.getElem?_eq_getElem (show j < xs.length by omega)] at h3
    exact ⟨_, h3⟩
  rw [hf] at get
  have hcl : cs.toList.length = 23 := by rw [Array.length_toList, hsz, hC]
  obtain ⟨c0, c1, c2, c3, c4, c5, c6, c7, c8, c9, c10, c11, c12, c13, c14, c15, c16, c17, c18, c19, c20, c21, c22, hcs⟩ := list23 hcl
  have hce : (Value.agg cs).cells.toList = [c0, c1, c2, c3, c4, c5, c6, c7, c8, c9, c10, c11, c12, c13, c14, c15, c16, c17, c18, c19, c20, c21, c22] := hcs
  have hcs' : cs = #[c0, c1, c2, c3, c4, c5, c6, c7, c8, c9, c10, c11, c12, c13, c14, c15, c16, c17, c18, c19, c20, c21, c22] := by
    apply Array.toList_inj.1
    exact hcs
  rw [hce] at get
  clear hx hfu hl hcl hce hsz
  obtain ⟨_, g0⟩ := get 0 i 0 1 rfl
  obtain ⟨_, g1⟩ := get 1 tw 1 1 rfl
  obtain ⟨_, g2⟩ := get 2 tr 2 2 rfl
  obtain ⟨_, g3⟩ := get 3 te 4 1 rfl
  obtain ⟨_, g4⟩ := get 4 tq 5 1 rfl
  obtain ⟨_, g5⟩ := get 5 tq 6 1 rfl
  obtain ⟨_, g6⟩ := get 6 i 7 1 rfl
  obtain ⟨_, g7⟩ := get 7 i 8 1 rfl
  obtain ⟨_, g8⟩ := get 8 i 9 1 rfl
  obtain ⟨_, g9⟩ := get 9 i 10 1 rfl
  obtain ⟨_, g10⟩ := get 10 i 11 1 rfl
  obtain ⟨_, g11⟩ := get 11 i 12 1 rfl
  obtain ⟨_, g12⟩ := get 12 i 13 1 rfl
  obtain ⟨_, g13⟩ := get 13 i 14 1 rfl
  obtain ⟨_, g14⟩ := get 14 i 15 1 rfl
  obtain ⟨_, g15⟩ := get 15 i 16 1 rfl
  obtain ⟨_, g16⟩ := get 16 i 17 1 rfl
  obtain ⟨_, g17⟩ := get 17 tn 18 1 rfl
  obtain ⟨_, g18⟩ := get 18 i 19 1 rfl
  obtain ⟨_, g19⟩ := get 19 i 20 1 rfl
  obtain ⟨_, g20⟩ := get 20 i 21 1 rfl
  obtain ⟨_, g21⟩ := get 21 tt 22 1 rfl
  clear get
  obtain ⟨z0, rfl, b0'⟩ := one_int hi g0
  obtain ⟨z6, rfl, b6⟩ := one_int hi g6
  obtain ⟨z7, rfl, b7⟩ := one_int hi g7
  obtain ⟨z8, rfl, b8⟩ := one_int hi g8
  obtain ⟨z9, rfl, b9⟩ := one_int hi g9
  obtain ⟨z10, rfl, b10⟩ := one_int hi g10
  obtain ⟨z11, rfl, b11⟩ := one_int hi g11
  obtain ⟨z12, rfl, b12⟩ := one_int hi g12
  obtain ⟨z13, rfl, b13⟩ := one_int hi g13
  obtain ⟨z14, rfl, b14⟩ := one_int hi g14
  obtain ⟨z15, rfl, b15⟩ := one_int hi g15
  obtain ⟨z16, rfl, b16⟩ := one_int hi g16
  obtain ⟨z18, rfl, b18⟩ := one_int hi g18
  obtain ⟨z19, rfl, b19⟩ := one_int hi g19
  obtain ⟨z20, rfl, b20⟩ := one_int hi g20
  obtain ⟨A1, k1, t1, rfl, T1⟩ := one_tab hw aw cw (by omega) g1
  obtain ⟨A2, k2, t2, rfl, T2⟩ := one_tab he ae ce (by omega) g3
  obtain ⟨A3, k3, t3, rfl, T3⟩ := one_tab hq aq cq (by omega) g4
  obtain ⟨A4, k4, t4, rfl, T4⟩ := one_tab hq aq cq (by omega) g5
  obtain ⟨A5, k5, t5, rfl, T5⟩ := one_tab hn (alli_int hi) hi1 (by omega) g17
  obtain ⟨A6, k6, t6, rfl, T6⟩ := one_tab ht at_ ct (by omega) g21
  obtain ⟨zs, hz, e2, hb2⟩ := ar _ _ _ _ _ _ _ _ _ g2
  obtain ⟨pn, pd, rfl⟩ : ∃ a b, zs = [a, b] := by
    match zs, hz with
    | [a, b], _ => exact ⟨a, b, rfl⟩
  simp only [ints, List.map_cons, List.map_nil, List.drop_succ_cons, List.drop_zero, List.take_succ_cons, List.take_zero, List.cons.injEq, and_true] at e2
  obtain ⟨rfl, rfl⟩ := e2
  have h5 := rows_ones t5 T5.wide
  have hl5 : t5.length = t5.flatten.length := by
    conv => lhs; rw [h5]
    rw [List.length_map]
  refine ⟨⟨z0, t1, pn, pd, t2, t3, t4, z6, z7, z8, z9, z10, z11, z12, z13, z14, z15, z16, t5.flatten, z18, z19, z20, t6⟩, A1, A2, A3, A4, A5, A6, k1, k2, k3, k4, k5, k6, ?_, ⟨T1, T2, T3, T4, ?_, T6⟩,
    ⟨b0', hb2 pn (by simp), hb2 pd (by simp), b6, b7, b8, b9, b10, b11, b12, b13, b14, b15, b16, b18, b19, b20⟩⟩
  · rw [hcs', setV, hl5]
  · rw [← hl5, ← h5]
    exact T5
end Go.Proofs.Ytedkhjbnjkcemaa

namespace Go.Proofs.Ytedkhjbnjkcemaa
open Go.RowKit Go.Deep Go.WideShapes
set_option linter.unusedVariables false
set_option maxRecDepth 20000

theorem nums_at_e {P : Program} {t : TypeId} {k : Nat} (h : NumsT P t k) (hk : P.cellsOf t = k) : NumsT P t (P.cellsOf t) := by rw [hk]; exact h
theorem numsT_int_e : NumsT Try.prog 3 1 := alli_int Try.underlying3
theorem numsT_event : NumsT Try.prog 33 11 := alli_struct Try.underlying33 (by kernel_rfl)
  ⟨rfl, nums_at_e numsT_int_e (by kernel_rfl), by kernel_rfl, nums_at_e numsT_int_e (by kernel_rfl), by kernel_rfl, nums_at_e numsT_int_e (by kernel_rfl), by kernel_rfl, nums_at_e numsT_int_e (by kernel_rfl), by kernel_rfl, nums_at_e numsT_int_e (by kernel_rfl), by kernel_rfl, nums_at_e numsT_int_e (by kernel_rfl),
    by kernel_rfl, nums_at_e numsT_int_e (by kernel_rfl), by kernel_rfl, nums_at_e numsT_int_e (by kernel_rfl), by kernel_rfl, nums_at_e numsT_int_e (by kernel_rfl), by kernel_rfl, nums_at_e numsT_int_e (by kernel_rfl), by kernel_rfl, nums_at_e numsT_int_e (by kernel_rfl), by change _ = _; kernel_rfl⟩
/-- An event's numbers. -/
def evLs (e : EvP) : List Int := [e.id, e.wk, e.tm, e.kd, e.fr, e.to, e.el, e.un, e.cl, e.ge, e.cd]
theorem ev_of_list {zs : List Int} (h : zs.length = 11) (hb : ∀ z ∈ zs, In64 z) : ∃ e : EvP, evLs e = zs ∧ e.In := by
  match zs, h with
  | [a, b, c, d, e, f, g, i, j, k, l], _ =>
    refine ⟨⟨a, b, c, d, e, f, g, i, j, k, l⟩, rfl, ?_⟩
    have h1 := hb a (by simp); have h2 := hb b (by simp); have h3 := hb c (by simp); have h4 := hb d (by simp); have h5 := hb e (by simp); have h6 := hb f (by simp)
    have h7 := hb g (by simp); have h8 := hb i (by simp); have h9 := hb j (by simp); have h10 := hb k (by simp); have h11 := hb l (by simp)
    exact ⟨h1, h2, h3, h4, h5, h6, h7, h8, h9, h10, h11⟩
theorem event_open {H : Type} {enc : TypeId × Value → H} {w : World} {r : Reach} {b0 base : Nat} {held : Bool} {v : Value} {d : DataW H} {p : List MemPlace}
    (hv : Value.okWide Try.prog w r b0 33 v) (h : DataW.Trod enc Try.prog w base (fun _ => true) held 33 v d p) : ∃ e : EvP, v = .agg (evC e) ∧ e.In := by
  obtain ⟨cs, rfl, hsz⟩ := okWide_struct Try.underlying33 hv
  obtain ⟨fuel, hfu⟩ := h
  obtain ⟨zs, hl, hcs, hb⟩ := numsT_event H enc w base _ held fuel _ _ hfu
  obtain ⟨e, he, hin⟩ := ev_of_list hl hb
  refine ⟨e, ?_, hin⟩
  have e1 : cs.toList = ints .i64 (evLs e) := by rw [he]; exact hcs
  have e2 : cs = evC e := by
    apply Array.toList_inj.1
    rw [e1]
    rfl
  rw [e2]
end Go.Proofs.Ytedkhjbnjkcemaa

namespace Go.Proofs.Ytedkhjbnjkcemaa
open Go.RowKit Go.Sort
set_option linter.unusedVariables false
set_option linter.unusedSimpArgs false
set_option maxRecDepth 20000


def encE (e : EvP) : List Value := (evC e).toList
theorem encE_len (e : EvP) : (encE e).length = 11 := rfl
theorem encE_one (e : EvP) : ∀ v ∈ encE e, v.oneCell' = true := by
  intro v hv
  simp only [encE, evC, List.mem_cons, List.not_mem_nil, or_false] at hv
  rcases hv with rfl | rfl | rfl | rfl | rfl | rfl | rfl | rfl | rfl | rfl | rfl <;> rfl
theorem encE_arr (e : EvP) : (encE e).toArray = evC e := rfl
/-- An event's numbers, as a list. -/
theorem encE_L (e : EvP) : encE e = ints .i64 (evLs e) := rfl
/-- Block g holds the events d from its beginning on. -/
def HoldE (w : World) (g : Nat) (d : Array EvP) : Prop := HoldsK encE 11 w g 0 d
/-- The slice value reads as the events l. -/
def Evs (w : World) (A : Option Addr) (n c : Nat) (l : List EvP) : Prop := Sl 11 w A n c (ints .i64 (l.map evLs).flatten) ∧ l.length = n
theorem evs_wide (l : List EvP) : ∀ r ∈ l.map evLs, r.length = 11 := by
  intro r hr
  obtain ⟨e, _, rfl⟩ := List.mem_map.1 hr
  rfl
theorem evs_cell (l : List EvP) {t : Nat} (ht : t < l.length * 11) : (ints .i64 (l.map evLs).flatten)[t]? = some ((encE (l.getD (t / 11) EvP.none)).getD (t % 11) undef) := by
  have hi : t / 11 < l.length := by omega
  have hj : t % 11 < 11 := Nat.mod_lt _ (by omega)
  have h1 := rows_get (l.map evLs) (evs_wide l) (t / 11) (t % 11) (by simpa using hi) hj []
  rw [List.append_nil, Nat.div_add_mod] at h1
  have hlen := rows_len (l.map evLs) (evs_wide l)
  rw [List.length_map] at hlen
  have hlt : t < (l.map evLs).flatten.length := by omega
  rw [ints, List.getElem?_map, List.getElem?_eq_getElem hlt, Option.map_some]
  rw [List.getD_eq_getElem?_getD, List.getElem?_eq_getElem hlt, Option.getD_some] at h1
  rw [h1, encE_L]
  have e1 : (l.map evLs).getD (t / 11) [] = evLs (l.getD (t / 11) EvP.none) := by simp [List.getD, hi]
  rw [e1]
  generalize l.getD (t / 11) EvP.none = x
  have hj2 : t % 11 < (evLs x).length := hj
  simp [ints, List.getD, hj2]
theorem holdE_cell {w : World} {g : Nat} {l : List EvP} (hc : ∀ t, t < l.length * 11 → w.cell? ⟨g, t, none⟩ = (ints .i64 (l.map evLs).flatten)[t]?) (hf : ∀ t, w.frozen? ⟨g, t, none⟩ = false) : HoldE w g l.toArray := by
  intro t ht
  rw [size_flatK] at ht
  rw [get_flatK _ _ _ _ ht, Nat.zero_add]
  have ht' : t < l.length * 11 := by simpa using ht
  refine ⟨?_, hf t⟩
  rw [hc t ht', evs_cell l ht']
  have hi : t / 11 < l.length := by omega
  have hj : t % 11 < 11 := Nat.mod_lt _ (by omega)
  simp only [id, List.getElem!_toArray]
  rw [getElem!_pos l (t / 11) hi, getElem!_pos (encE l[t / 11]) (t % 11) (by rw [encE_len]; exact hj)]
  have e1 : l.getD (t / 11) EvP.none = l[t / 11] := by simp [List.getD, hi]
  rw [e1]
  simp [List.getD, show t % 11 < (encE l[t / 11]).length by rw [encE_len]; exact hj]
theorem evs_of_holdE {w : World} {g c : Nat} {d : Array EvP} (h : HoldE w g d) : Evs w (some ⟨g, 0, none⟩) d.size c d.toList := by
  refine ⟨⟨?_, .inr ⟨_, rfl, fun j u hu => ?_⟩⟩, by simp⟩
  · have := rows_len (d.toList.map evLs) (evs_wide _)
    rw [ints, List.length_map, this, List.length_map]
    simp; omega
  · have hj : j < d.size * 11 := by
      have := rows_len (d.toList.map evLs) (evs_wide _)
      have h2 := (List.getElem?_eq_some_iff.1 hu).1
      rw [ints, List.length_map, this, List.length_map] at h2
      simp at h2; omega
    have h1 := (h j (by rw [size_flatK]; exact hj)).1
    rw [get_flatK _ _ _ _ hj, Nat.zero_add] at h1
    have hi : j / 11 < d.size := by omega
    have hm : j % 11 < 11 := Nat.mod_lt _ (by omega)
    rw [show (⟨g, 0, none⟩ : Addr).add j = ⟨g, j, none⟩ by unfold Addr.add; split <;> simp_all, h1, ← hu, evs_cell d.toList (by simpa using hj)]
    simp only [id]
    rw [getElem!_pos d (j / 11) hi, getElem!_pos (encE d[j / 11]) (j % 11) (by rw [encE_len]; exact hm)]
    have e1 : d.toList.getD (j / 11) EvP.none = d[j / 11] := by simp [List.getD, hi]
    rw [e1]
    simp [List.getD, show j % 11 < (encE d[j / 11]).length by rw [encE_len]; exact hm]
theorem Evs.below {w w' : World} {A : Option Addr} {n c : Nat} {l : List EvP} (h : Evs w A n c l) (hb : Below w.heap.size w w') : Evs w' A n c l := ⟨h.1.below hb, h.2⟩
theorem Evs.cell {w : World} {b off n c : Nat} {l : List EvP} (h : Evs w (some ⟨b, off, none⟩) n c l) {i j : Nat} (hi : i < n) (hj : j < 11) : w.cell? ⟨b, off + i * 11 + j, none⟩ = some ((encE (l.getD i EvP.none)).getD j undef) := by
  obtain ⟨⟨hl, ⟨h0, _, _⟩ | ⟨ad, e, hc⟩⟩, hn⟩ := h
  · cases h0
  · injection e with e
    subst e hn
    have ht : i * 11 + j < l.length * 11 := by omega
    have := hc (i * 11 + j) _ (evs_cell l ht)
    rw [show (⟨b, off, none⟩ : Addr).add (i * 11 + j) = ⟨b, off + (i * 11 + j), none⟩ by unfold Addr.add; split <;> simp_all, ← Nat.add_assoc] at this
    rw [this, show (i * 11 + j) / 11 = i by omega, show (i * 11 + j) % 11 = j by omega]
theorem Evs.form {w : World} {A : Option Addr} {n c : Nat} {l : List EvP} (h : Evs w A n c l) (hn : 0 < n) : ∃ b off, A = some ⟨b, off, none⟩ := by
  obtain ⟨⟨hl, ⟨_, h0, _⟩ | ⟨ad, rfl, hc⟩⟩, hln⟩ := h
  · omega
  · have h0 := hc 0 _ (evs_cell l (by omega))
    obtain ⟨b, off, sp⟩ := ad
    have hsp : sp = none := by simpa [Addr.add] using World.cell?_spot h0
    subst hsp
    exact ⟨b, off, rfl⟩
theorem ev_info : (Try.prog.info? 33).map (fun i => (i.zero, i.size, i.bytes)) = some (some (.agg (evC EvP.none)), 11, 88) := by kernel_rfl
/-- 'slices.Clone' of events. -/
theorem evclone_any (A : Option Addr) (n c : Nat) (l : List EvP) (W : World) (h : Evs W A n c l) (hm : n ≤ 1000000) :
    Calls Try.prog 32 #[.slice A n c] W fun e w' => ∃ A' c', e = .returned (.slice A' n c') ∧ Below W.heap.size W w' ∧ (0 < n → ∃ g, A' = some ⟨g, 0, none⟩ ∧ W.heap.size ≤ g ∧ g < w'.heap.size ∧ HoldE w' g l.toArray) ∧ (l = [] → Evs w' A' n c' []) := by
  have qT : ∀ (w : World) (a : Option Addr) (n c n' c' : Nat), (binOp .eql 31 (.slice a n c) (.slice none n' c')).run Try.prog w = .ok (.bool a.isNone) w := fun w a n c n' c' => Lib.run_eql_slice_nil w _ _ a n c n' c' Try.underlying31
  cases A with
  | none =>
    have hn0 : n = 0 := by
      rcases Nat.eq_zero_or_pos n with h0 | h0
      · exact h0
      · obtain ⟨b, off, e⟩ := h.form h0; cases e
    subst hn0
    go_enter Try.func32, Try.ntmps32
    go_wp2
    go_ret
    exact ⟨none, 0, rfl, Below.refl _ _, fun h => absurd h (by omega), fun _ => ⟨⟨by simp [ints], .inl ⟨rfl, rfl, rfl⟩⟩, rfl⟩⟩
  | some ad =>
    obtain ⟨hsl, hln⟩ := h
    have ho := own_new W 33 11 0 #[] rfl (by decide)
    obtain ⟨A', c', w', hr, hown, hg, hl⟩ := append_any (P := Try.prog) (W.alloc (.cells #[] 33)) W.heap.size 31 31 33 _ 11 88 Try.underlying31 ev_info rfl (by omega) ho (hsl.alloc _) (ints_one .i64 _) n (by omega) (ints .i64 (l.map evLs).flatten) (by simp) (by omega) (by omega) (by simp)
    have HR := Lib.hid hr
    have hb : Below W.heap.size W w' := bel_grown (bel_alloc (Below.refl _ _) _) ho (Nat.le_refl _) hg
    have hown0 := hown
    have hfin : 0 < n → ∃ g, A' = some ⟨g, 0, none⟩ ∧ W.heap.size ≤ g ∧ g < w'.heap.size ∧ HoldE w' g l.toArray := by
      intro h0
      have hlt := World.ownsRow.lt hown
      have hown' := hown
      obtain ⟨hl', ⟨hv, hz⟩ | ⟨g, cap, cur, hv, hbg, hh, _⟩⟩ := hown
      · omega
      · injection hv with e1 e2 e3
        subst e1
        have := hlt _ rfl
        refine ⟨g, rfl, hbg, this.2, holdE_cell (fun t ht => ?_) (fun t => World.ownsRow.frozenAt hown' t)⟩
        rw [hln] at ht
        exact World.ownsRow.cellAt hown' t ht
    have hfin2 : l = [] → Evs w' A' n c' [] := by
      rintro rfl
      have hs := Sl.of_own hown0
      exact ⟨by simpa using hs, hln⟩
    have HF := Lib.hid hfin
    have HF2 := Lib.hid hfin2
    clear hr hown hown0 hg hl ho hsl hfin hfin2
    go_enter Try.func32, Try.ntmps32
    go_wp2_with (at_builtin; refine wpList_append_run HR.out rfl rfl rfl rfl ?_)
    go_ret
    exact ⟨A', c', rfl, hb, HF.out, HF2.out⟩
end Go.Proofs.Ytedkhjbnjkcemaa

namespace Go.Proofs.Ytedkhjbnjkcemaa
open Go.RowKit
set_option linter.unusedVariables false

def RVal (v : Value) : Option (DataW Value × List MemPlace) := some (.held v, [])
def updF (f : Int → Option Value) (k : Int) (v : Value) : Int → Option Value := fun i => if i = k then some v else f i
theorem int_keyed3 : Maps.Keyed Try.prog 3 := Maps.int_keyed Try.underlying3
theorem int_key3 {i : Int} (h : -9223372036854775808 ≤ i ∧ i ≤ 9223372036854775807) : keyOf Try.prog 3 (.int .i64 i) = some (.int .i64 i) :=
  Maps.keyOf_int_mk Try.underlying3 (by simp [Lit.wf, IntKind.min, IntKind.max, IntKind.bits, IntKind.signed]; omega)
/-- Block b is a map from numbers to slices, of at most n entries; f tells what it has. -/
def MapI (w : World) (b n : Nat) (f : Int → Option Value) : Prop :=
  ∃ D : DataW Value, w.ownsMap Try.prog 3 RVal b n D ∧ Maps.IsMap D ∧ ∀ i : Int, (-9223372036854775808 ≤ i ∧ i ≤ 9223372036854775807) → Maps.has D (.int .i64 i) = (f i).isSome ∧ ∀ v, f i = some v → ∀ z, D.atKey (.int .i64 i) z = .held v

section
variable {w w' : World} {b n : Nat} {f : Int → Option Value}
theorem MapI.lt (h : MapI w b n f) : b < w.heap.size := by
  obtain ⟨D, h, _⟩ := h
  exact h.lt
theorem MapI.new (w : World) {s : Nat} (hs : w.heap.size = s) : MapI (w.alloc (.map #[] 0)) s 0 (fun _ => none) := by
  subst hs
  exact ⟨.map [], World.ownsMap_made w _ _ _, Maps.isMap_empty, fun i _ => ⟨rfl, fun v h => by cases h⟩⟩
theorem MapI.kept {row : Option Nat} (h : MapI w b n f) (hg : w.grownBy w' row) (hne : some b ≠ row) : MapI w' b n f := by
  obtain ⟨D, h, r⟩ := h
  exact ⟨D, h.kept hg hne, r⟩
theorem MapI.alloc (h : MapI w b n f) (o : Obj) : MapI (w.alloc o) b n f := by
  obtain ⟨D, h, r⟩ := h
  exact ⟨D, h.alloc o, r⟩
theorem MapI.below (h : MapI w b n f) (hb : Below w.heap.size w w') : MapI w' b n f := by
  have hl := h.lt
  obtain ⟨D, ⟨es, clock, hh, F, hs, hD⟩, r⟩ := h
  exact ⟨D, ⟨es, clock, (hb.block b hl).trans hh, F, hs, hD⟩, r⟩
theorem MapI.far (h : MapI w b n f) {p : Addr} (hp : b ≠ p.block) (u : Value) : MapI (w.setCell p u) b n f := by
  obtain ⟨D, h, r⟩ := h
  exact ⟨D, h.setCell hp u, r⟩
theorem MapI.eqv {g : Int → Option Value} (h : MapI w b n f) (e : f = g) : MapI w b n g := by subst e; exact h
theorem lit_int_ne {i k : Int} (h : i ≠ k) : Lit.int .i64 i ≠ Lit.int .i64 k := fun e => h (by injection e)
/-- What 'm[k] = v' does. -/
theorem MapI.put (h : MapI w b n f) (hn : n < 1000) {t : TypeId} {e : TypeId} (ht : Try.prog.underlying t = some (.map 3 e)) {k : Int} (hk : -9223372036854775808 ≤ k ∧ k ≤ 9223372036854775807) (v : Value) :
    ∃ w', (Instr.mapUpdate t (.map (some b)) (.int .i64 k) v).run Try.prog w = .ok () w' ∧ MapI w' b (n + 1) (updF f k v) ∧ w.grownBy w' (some b) := by
  obtain ⟨D, h, hm, hf⟩ := h
  obtain ⟨w', hr, h2, hg⟩ := h.update int_keyed3 ht (by unfold maxLen; omega) (int_key3 hk) (d := .held v) (ps := []) rfl
  refine ⟨w', hr, ⟨D.put (.int .i64 k) (.held v), h2, hm.put _ _, fun i hi => ?_⟩, hg⟩
  obtain ⟨h3, h4⟩ := hf i hi
  unfold updF
  by_cases e : i = k
  · subst e
    rw [if_pos rfl]
    refine ⟨by rw [Maps.has_put_same hm (by trivial)]; rfl, fun u hu z => ?_⟩
    cases hu
    exact Maps.atKey_put_same hm (by trivial) _ _
  · rw [if_neg e]
    exact ⟨by rw [Maps.has_put_other (lit_int_ne e)]; exact h3, fun u hu z => by rw [Maps.atKey_put_other (lit_int_ne e)]; exact h4 u hu z⟩
/-- What a number is told. -/
def toldV (o : Option Value) (z : Value) : Value := match o with | some v => v | none => z
theorem MapI.look (h : MapI w b n f) {t e : TypeId} (ht : Try.prog.underlying t = some (.map 3 e)) {z : Value} (hz : (zeroValue e).run Try.prog w = .ok z w) {k : Int} (hk : -9223372036854775808 ≤ k ∧ k ≤ 9223372036854775807) :
    (Instr.lookup t (.map (some b)) (.int .i64 k) true).run Try.prog w = .ok (.tuple #[toldV (f k) z, .bool (f k).isSome]) w ∧ (Instr.lookup t (.map (some b)) (.int .i64 k) false).run Try.prog w = .ok (toldV (f k) z) w := by
  obtain ⟨D, h, hm, hf⟩ := h
  obtain ⟨h3, h4⟩ := hf k hk
  obtain ⟨v, ps, hr, hv⟩ := h.look_ok int_keyed3 ht hz (zd := .held z) (zp := []) rfl (int_key3 hk)
  obtain ⟨v', ps', hr', hv'⟩ := h.lookup int_keyed3 ht hz (zd := .held z) (zp := []) rfl (int_key3 hk)
  rw [h3] at hr
  have key : ∀ u qs, RVal u = some (D.atKey (.int .i64 k) (.held z), qs) → u = toldV (f k) z := by
    intro u qs hu
    unfold RVal at hu
    simp only [Option.some.injEq, Prod.mk.injEq] at hu
    cases hfk : f k with
    | none =>
      rw [hfk] at h3
      rw [Maps.atKey_of_not_has h3] at hu
      injection hu.1
    | some y =>
      rw [h4 y hfk] at hu
      injection hu.1
  rw [key v ps hv] at hr
  rw [key v' ps' hv'] at hr'
  exact ⟨hr, hr'⟩
end
/-- In a drawn region: an insert into a map. -/
theorem wp_insert_map {o : Oper} {a : Act} {w : World} {K : Act → World → Prop} {Q : Exit → Act → World → Prop} {m x v : Operand} {t e : TypeId} {b n : Nat} {f : Int → Option Value} {k : Int} {val : Value}
    (h : MapI w b n f) (ho : o.op = .insert t m x v) (ht : Try.prog.underlying t = some (.map 3 e)) (hm : a.eval m = .map (some b)) (hx : a.eval x = .int .i64 k) (hv : a.eval v = val) (hn : n < 1000) (hk : -9223372036854775808 ≤ k ∧ k ≤ 9223372036854775807)
    (hK : ∀ w', MapI w' b (n + 1) (updF f k val) → w.grownBy w' (some b) → K (a.put o.dst undef) w') : o.wp Try.prog a w K Q := by
  obtain ⟨w', hr, h2, hg⟩ := h.put hn ht hk val
  unfold Oper.wp
  simp [execOp, ho, hm, hx, hv, hr, Result.andThen]
  exact hK w' h2 hg
theorem Has.grown {w w' : World} {g : Nat} {cs : Array Value} {row : Option Nat} (h : Has w g cs) (hg : w.grownBy w' row) (hne : some g ≠ row) : Has w' g cs := by
  have hl := h.size
  obtain ⟨t, h⟩ := h
  exact ⟨t, (hg.block g hl hne).trans h⟩
end Go.Proofs.Ytedkhjbnjkcemaa

namespace Go.Proofs.Ytedkhjbnjkcemaa
open Go.RowKit Go.Deep Go.WideShapes
set_option linter.unusedVariables false
set_option maxRecDepth 20000

/-- Rows of eleven numbers are events. -/
theorem evs_of_rows : ∀ (t : Rows2), (∀ r ∈ t, r.length = 11) → (∀ r ∈ t, ∀ z ∈ r, In64 z) → ∃ l : List EvP, l.map evLs = t ∧ ∀ e ∈ l, e.In
  | [], _, _ => ⟨[], rfl, fun e h => by simp at h⟩
  | r :: t, h1, h2 => by
    obtain ⟨l, hl, hi⟩ := evs_of_rows t (fun q hq => h1 q (by simp [hq])) (fun q hq => h2 q (by simp [hq]))
    obtain ⟨e, he, hin⟩ := ev_of_list (h1 r (by simp)) (h2 r (by simp))
    exact ⟨e :: l, by simp [he, hl], fun x hx => by
      rcases List.mem_cons.1 hx with rfl | hx
      · exact hin
      · exact hi x hx⟩
theorem events_open {H : Type} {enc : TypeId × Value → H} {w : World} {base : Nat} {held : Bool} {fuel : Nat} {cs : List Value} {x : DataW H × List MemPlace}
    (h : DataW.trod enc Try.prog w base (fun _ => true) held fuel 31 cs = some x) : ∃ A n c l, cs = [.slice A n c] ∧ Evs w A n c l ∧ (∀ e ∈ l, e.In) ∧ n ≤ c ∧ c ≤ 9223372036854775807 := by
  obtain ⟨A, n, c, rows, hcs, T⟩ := open_tab Try.underlying31 numsT_event (by kernel_rfl) (by omega) h
  obtain ⟨l, hl, hi⟩ := evs_of_rows rows T.wide T.small
  refine ⟨A, n, c, l, hcs, ⟨by rw [hl]; exact T.sl, ?_⟩, hi, T.cap, T.max⟩
  rw [← T.len, ← hl, List.length_map]
end Go.Proofs.Ytedkhjbnjkcemaa
