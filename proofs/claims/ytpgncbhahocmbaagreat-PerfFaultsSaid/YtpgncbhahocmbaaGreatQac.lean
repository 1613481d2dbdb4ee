/-
  Sorts that keep alike ones in their order: what each exchange keeps. No program here.
  Slices of structs that are numbers alone, as rows of numbers; arguments that hold them opened. Over any program.
  An argument of type api.Event, opened.
  Rows of events: a copy, and the library's insertion sort.
  The library's merge in place: what rotating, and merging of two parts in order, make. No program here.
  The library's merge in place: exchanges, as lists. No program here.
  The library's stable sort: blocks that are in order, each twice as long as the ones before. No program here.
  An argument of type []api.Event, opened.
-/
import Derived.Test.YtpgncbhahocmbaaGreatQaa
import Derived.Sort.LotA
import Derived.Deep.Slices
import Derived.Lib.SmallJoins
import Derived.OpenShut
import Derived.Laws.Cover1
import Derived.Test.YtpgncbhahocmbaaGreatProg
import Derived.Test.YtpgncbhahocmbaaGreatQab
import Derived.Test.YtpgncbhahocmbaaGreatEvLay
import Derived.Shelf.Abstract
import Derived.Lib.SliceRun
namespace Go.Proofs.YtpgncbhahocmbaaGreat
open Go.Sort
set_option linter.unusedVariables false
set_option linter.unusedSimpArgs false

instance inhEv : Inhabited EvP := ⟨EvP.none⟩
theorem swoE : SWO lessE := ⟨ev_less_irr, fun _ _ _ => ev_less_trans, fun _ _ _ => ev_less_not⟩
/-- Alike ones stand in the same order. -/
def Stab (d d' : Array EvP) : Prop := ∀ k, d'.toList.filter (alikeE k) = d.toList.filter (alikeE k)
theorem Stab.rfl' (d : Array EvP) : Stab d d := fun _ => rfl
theorem Stab.trans {d d' d'' : Array EvP} (h : Stab d d') (h' : Stab d' d'') : Stab d d'' := fun k => (h' k).trans (h k)
theorem list_two {α : Type} (l : List α) (j : Nat) (h : j + 1 < l.length) : ∃ A x y B, l = A ++ x :: y :: B ∧ A.length = j ∧ l[j] = x ∧ l[j + 1] = y := by
  refine ⟨l.take j, l[j], l[j + 1], l.drop (j + 2), ?_, by rw [List.length_take]; omega, rfl, rfl⟩
  conv => lhs; rw [← List.take_append_drop j l]
  rw [List.drop_eq_getElem_cons (by omega), List.drop_eq_getElem_cons (by omega)]
theorem swap_list {α : Type} (A B : List α) (x y : α) (j : Nat) (h : A.length = j) : ((A ++ x :: y :: B).set (j + 1) x).set j y = A ++ y :: x :: B := by
  subst h
  rw [List.set_append_right _ _ (by omega), List.set_append_right _ _ (by omega)]
  simp
theorem swp_adj {d : Array EvP} {j : Nat} (h : j + 1 < d.size) : ∃ A x y B, d.toList = A ++ x :: y :: B ∧ A.length = j ∧ d[j]! = x ∧ d[j + 1]! = y ∧ (swp d (j + 1) j).toList = A ++ y :: x :: B ∧ (swp d j (j + 1)).toList = A ++ y :: x :: B := by
  obtain ⟨A, x, y, B, h1, h2, h3, h4⟩ := list_two d.toList j (by simpa using h)
  have e1 : d[j]! = x := by rw [getElem!_pos d j (by omega), ← h3]; simp
  have e2 : d[j + 1]! = y := by rw [getElem!_pos d (j + 1) h, ← h4]; simp
  refine ⟨A, x, y, B, h1, h2, e1, e2, ?_, ?_⟩
  · unfold swp
    rw [e1, e2, Array.toList_setIfInBounds, Array.toList_setIfInBounds, h1]
    exact swap_list A B x y j h2
  · unfold swp
    rw [e1, e2, Array.toList_setIfInBounds, Array.toList_setIfInBounds, h1, List.set_comm _ _ (by omega)]
    exact swap_list A B x y j h2
theorem alike_not_less {k x y : EvP} (h1 : alikeE k x = true) (h2 : alikeE k y = true) : lessE x y = false ∧ lessE y x = false := by
  simp only [alikeE, decide_eq_true_eq] at h1 h2
  simp only [lessE, decide_eq_false_iff_not]
  omega
theorem stab_pair {A B : List EvP} {x y : EvP} (h : lessE x y = true ∨ lessE y x = true) (k : EvP) : (A ++ y :: x :: B).filter (alikeE k) = (A ++ x :: y :: B).filter (alikeE k) := by
  rw [List.filter_append, List.filter_append]
  congr 1
  cases hx : alikeE k x with
  | false => simp [List.filter_cons, hx]
  | true =>
    cases hy : alikeE k y with
    | false => simp [List.filter_cons, hy]
    | true =>
      obtain ⟨h1, h2⟩ := alike_not_less hx hy
      rw [h1, h2] at h
      simp at h
theorem stab_swp {d : Array EvP} {j : Nat} (h : j + 1 < d.size) (hl : lessE d[j + 1]! d[j]! = true ∨ lessE d[j]! d[j + 1]! = true) : Stab d (swp d (j + 1) j) ∧ Stab d (swp d j (j + 1)) := by
  obtain ⟨A, x, y, B, h1, h2, h3, h4, h5, h6⟩ := swp_adj h
  rw [h3, h4] at hl
  exact ⟨fun k => by rw [h5, h1]; exact stab_pair hl.symm k, fun k => by rw [h6, h1]; exact stab_pair hl.symm k⟩
theorem stab_inner (a : Nat) : ∀ (j : Nat) (d : Array EvP), j < d.size → Stab d (insInner lessE a j d)
  | 0, d, _ => Stab.rfl' d
  | j + 1, d, h => by
    rw [insInner]
    split
    · rename_i hc
      simp only [Bool.and_eq_true, decide_eq_true_eq] at hc
      exact (stab_swp h (.inl hc.2)).1.trans (stab_inner a j _ (by rw [size_swp]; omega))
    · exact Stab.rfl' d
theorem inner_size (a : Nat) : ∀ (j : Nat) (d : Array EvP), (insInner lessE a j d).size = d.size
  | 0, d => rfl
  | j + 1, d => by
    rw [insInner]
    split
    · rw [inner_size a j, size_swp]
    · rfl
theorem stab_outer (a b : Nat) : ∀ (k i : Nat) (d : Array EvP), b - i = k → b ≤ d.size → Stab d (insOuter lessE a b i d) ∧ (insOuter lessE a b i d).size = d.size
  | 0, i, d, hk, hb => by
    rw [insOuter, if_neg (by omega)]
    exact ⟨Stab.rfl' d, rfl⟩
  | k + 1, i, d, hk, hb => by
    rw [insOuter, if_pos (by omega)]
    have hs := inner_size a i d
    obtain ⟨h1, h2⟩ := stab_outer a b k (i + 1) (insInner lessE a i d) (by omega) (by omega)
    exact ⟨(stab_inner a i d (by omega)).trans h1, by rw [h2, hs]⟩
/-- What a stable sort of a part makes. -/
def Mrg (a b : Nat) (d d' : Array EvP) : Prop := PermIn a b d d' ∧ SortedIn lessE a b d' ∧ Stab d d'
theorem ins_mrg (d : Array EvP) (a b : Nat) (hab : a ≤ b) (hb : b ≤ d.size) : Mrg a b d (insertionSort lessE d a b) := by
  obtain ⟨h1, h2⟩ := insertionSort_holds (lt := lessE) swoE d a b hab hb
  exact ⟨h1, h2, (stab_outer a b _ (a + 1) d rfl hb).1⟩
theorem risen_of_sorted : ∀ (l : List EvP), (∀ i j (hj : j < l.length) (hi : i < j), lessE l[j] (l[i]'(by omega)) = false) → Risen l
  | [], _ => trivial
  | x :: l, h => by
    refine ⟨fun y hy => ?_, risen_of_sorted l (fun i j hj hi => h (i + 1) (j + 1) (by simpa using hj) (by omega))⟩
    obtain ⟨j, hj, rfl⟩ := List.getElem_of_mem hy
    exact h 0 (j + 1) (by simpa using hj) (by omega)
theorem sorted_is {d d' : Array EvP} (hs : SortedIn lessE 0 d'.size d') (h : Stab d d') : d'.toList = sortE d.toList := by
  refine ev_sort_of (risen_of_sorted _ (fun i j hj hi => ?_)) h
  have hj' : j < d'.size := by simpa using hj
  have := hs i j (Nat.zero_le _) hi hj'
  rw [getElem!_pos d' j hj', getElem!_pos d' i (by omega)] at this
  simpa using this
end Go.Proofs.YtpgncbhahocmbaaGreat

namespace Go.Proofs.YtpgncbhahocmbaaGreat
open Go.RowKit Go.Deep Go.WideShapes
set_option linter.unusedVariables false
set_option linter.unusedSimpArgs false

theorem getD_in {l : List Int} {j : Nat} (h : j < l.length) : l.getD j 0 ∈ l := by
  rw [List.getD_eq_getElem?_getD, List.getElem?_eq_getElem h, Option.getD_some]
  exact List.getElem_mem _
def In64 (z : Int) : Prop := -9223372036854775808 ≤ z ∧ z ≤ 9223372036854775807
/-- The slice value '.slice A n c' reads as the rows t, of k numbers each. -/
structure Tab (k : Nat) (w : World) (A : Option Addr) (n c : Nat) (t : Rows2) : Prop where
  sl : Sl k w A n c (ints .i64 t.flatten)
  len : t.length = n
  wide : ∀ r ∈ t, r.length = k
  small : ∀ r ∈ t, ∀ z ∈ r, In64 z
  cap : n ≤ c
  max : c ≤ 9223372036854775807
theorem tab_add {b off n : Nat} : (⟨b, off, none⟩ : Addr).add n = ⟨b, off + n, none⟩ := by unfold Addr.add; split <;> simp_all
section
variable {k : Nat} {w w' : World} {A : Option Addr} {n c : Nat} {t : Rows2}
theorem Tab.below (h : Tab k w A n c t) (hb : Below w.heap.size w w') : Tab k w' A n c t := ⟨h.sl.below hb, h.len, h.wide, h.small, h.cap, h.max⟩
theorem Tab.nil_ : Tab k w none 0 0 [] := ⟨⟨by simp [ints], .inl ⟨rfl, rfl, rfl⟩⟩, rfl, by simp, by simp, by omega, by omega⟩
theorem Tab.form (h : Tab k w A n c t) (hk : 0 < k) (hn : 0 < n) : ∃ b off, A = some ⟨b, off, none⟩ := by
  obtain ⟨hl, ⟨_, h0, _⟩ | ⟨ad, rfl, hc⟩⟩ := h.sl
  · omega
  · have hp : 0 < n * k := Nat.mul_pos hn hk
    obtain ⟨u, hu⟩ : ∃ u, (ints .i64 t.flatten)[0]? = some u := ⟨_, List.getElem?_eq_getElem (by omega)⟩
    have h0 := hc 0 u hu
    obtain ⟨b, off, sp⟩ := ad
    have hsp : sp = none := by simpa [Addr.add] using World.cell?_spot h0
    subst hsp
    exact ⟨b, off, rfl⟩
/-- One number of one row. -/
theorem Tab.cell {b off : Nat} (h : Tab k w (some ⟨b, off, none⟩) n c t) {i j : Nat} (hi : i < n) (hj : j < k) : w.cell? ⟨b, off + i * k + j, none⟩ = some (.int .i64 ((t.getD i []).getD j 0)) := by
  have hti : i < t.length := by rw [h.len]; exact hi
  obtain ⟨hl, ⟨h0, _, _⟩ | ⟨ad, e, hc⟩⟩ := h.sl
  · cases h0
  · injection e with e
    subst e
    have hg := rows_get t h.wide i j hti hj []
    rw [List.append_nil] at hg
    have hlt : k * i + j < t.flatten.length := by
      rw [rows_len t h.wide]
      have : k * i + k ≤ k * t.length := by rw [← Nat.mul_succ]; exact Nat.mul_le_mul_left k hti
      omega
    have hu : (ints .i64 t.flatten)[k * i + j]? = some (.int .i64 ((t.getD i []).getD j 0)) := by
      rw [ints, List.getElem?_map, List.getElem?_eq_getElem hlt, Option.map_some, ← hg, List.getD_eq_getElem?_getD, List.getElem?_eq_getElem hlt, Option.getD_some]
    have := hc _ _ hu
    rw [tab_add, ← Nat.add_assoc, Nat.mul_comm] at this
    exact this
theorem Tab.at_small (h : Tab k w A n c t) {i j : Nat} (hi : i < n) (hj : j < k) : In64 ((t.getD i []).getD j 0) := by
  have hti : i < t.length := by rw [h.len]; exact hi
  have hr : t.getD i [] ∈ t := by simp [List.getD, hti]
  have hw := h.wide _ hr
  exact h.small _ hr _ (getD_in (by omega))
end
/-! ### Arguments -/
/-- What is read at type t is k numbers. -/
def NumsT (P : Program) (t : TypeId) (k : Nat) : Prop := ∀ (H : Type) (enc : TypeId × Value → H) (w : World) (base : Nat) (spare : Nat → Bool) (held : Bool) (fuel : Nat) (cs : List Value) (x : DataW H × List MemPlace),
  DataW.trod enc P w base spare held fuel t cs = some x → ∃ zs : List Int, zs.length = k ∧ cs = ints .i64 zs ∧ ∀ z ∈ zs, In64 z
theorem alli_int {P : Program} {t : TypeId} (h : P.underlying t = some (.int .i64)) : NumsT P t 1 := by
  intro H enc w base spare held fuel cs x hx
  obtain ⟨z, e, _, hz⟩ := DataW.trod_int h hx
  exact ⟨[z], rfl, e, fun y hy => by obtain rfl : y = z := by simpa using hy
                                     exact bounds_i64 hz⟩
/-- Fields one behind the other, each of numbers alone. -/
def ChainI (P : Program) : List Field → Nat → Nat → Prop
  | [], o, n => o = n
  | f :: fs, o, n => f.offset = o ∧ NumsT P f.type (P.cellsOf f.type) ∧ ChainI P fs (o + P.cellsOf f.type) n
theorem chain_ints {H : Type} {enc : TypeId × Value → H} {P : Program} {w : World} {base : Nat} {spare : Nat → Bool} {held : Bool} {n : Nat} {cs : List Value} (hl : cs.length = n) :
    ∀ (fs : List Field) (o : Nat), ChainI P fs o n → (∀ f ∈ fs, ∃ m x, DataW.trod enc P w base spare held m f.type ((cs.drop f.offset).take (P.cellsOf f.type)) = some x) → ∃ zs : List Int, cs.drop o = ints .i64 zs ∧ ∀ z ∈ zs, In64 z
  | [], o, hc, _ => by
    have : o = n := hc
    exact ⟨[], by rw [List.drop_of_length_le (by omega)]; rfl, by simp⟩
  | f :: fs, o, ⟨ho, ha, hc⟩, hx => by
    obtain ⟨m, x, h1⟩ := hx f (by simp)
    obtain ⟨zs, hz, e, hb⟩ := ha _ _ _ _ _ _ _ _ _ h1
    obtain ⟨ys, e2, hb2⟩ := chain_ints hl fs _ hc (fun g hg => hx g (by simp [hg]))
    refine ⟨zs ++ ys, ?_, fun z h => ?_⟩
    · rw [← List.take_append_drop (P.cellsOf f.type) (cs.drop o), List.drop_drop, e2, ← ho, e]
      simp [ints]
    · rcases List.mem_append.1 h with h | h
      · exact hb z h
      · exact hb2 z h
theorem alli_struct {P : Program} {t : TypeId} {fs : Array Field} {n : Nat} (hs : P.underlying t = some (.struct fs)) (hn : P.cellsOf t = n) (hc : ChainI P fs.toList 0 n) : NumsT P t n := by
  intro H enc w base spare held fuel cs x hx
  obtain ⟨xs, m, _, _, hl, hxl, hf⟩ := DataW.trod_struct hs hx
  obtain ⟨zs, e, hb⟩ := chain_ints (cs := cs) (hl.trans hn) fs.toList 0 hc (fun f hf' => by
    obtain ⟨i, hi, rfl⟩ := List.getElem_of_mem hf'
    have hi' : i < fs.size := by simpa using hi
    have h1 := hf i (fs[i]) (by simp [hi'])
    refine ⟨m, xs[i]'(by omega), ?_⟩
    have e : fs.toList[i] = fs[i] := by simp
    rw [e, h1]
    exact List.getElem?_eq_getElem (by omega))
  rw [List.drop_zero] at e
  refine ⟨zs, ?_, e, hb⟩
  have := congrArg List.length e
  simp [ints] at this
  omega
theorem open_tab {H : Type} {enc : TypeId × Value → H} {P : Program} {w : World} {base : Nat} {held : Bool} {t e : TypeId} {k fuel : Nat} {cs : List Value} {x : DataW H × List MemPlace}
    (ht : P.underlying t = some (.slice e)) (he : NumsT P e k) (hk : P.cellsOf e = k) (hk0 : 0 < k) (h : DataW.trod enc P w base (fun _ => true) held fuel t cs = some x) :
    ∃ A n c rows, cs = [.slice A n c] ∧ Tab k w A n c rows := by
  rcases open_slice ht h with ⟨hcs, _⟩ | ⟨a, len, cap, m, f, D, Pl, hcs, hb, hl, hm, hmm, hx, hi⟩
  · exact ⟨none, 0, 0, [], hcs, Tab.nil_⟩
  · have hlm : len ≤ m := by rw [hmm]; split <;> omega
    have each : ∀ i, i < m → ∃ zs : List Int, zs.length = k ∧ (∀ z ∈ zs, In64 z) ∧ ∀ j, j < k → w.cell? (a.add (i * k + j)) = some (.int .i64 (zs.getD j 0)) := by
      intro i him
      obtain ⟨cs', h1, h2⟩ := hi i him
      rw [hk] at h1
      obtain ⟨_, hlen, hcell⟩ := World.cells?_some h1
      obtain ⟨zs, hz, e1, hb⟩ := he _ _ _ _ _ _ _ _ _ h2
      refine ⟨zs, hz, hb, fun j hj => ?_⟩
      have := hcell j hj
      rw [add_add] at this
      rw [this, e1, ints, List.getElem?_map, List.getElem?_eq_getElem (by omega)]
      simp [List.getD, show j < zs.length by omega]
    obtain ⟨Z, hZ⟩ := choose_lt each
    have hwide : ∀ r ∈ (List.range len).map Z, r.length = k := by
      intro r hr
      simp only [List.mem_map, List.mem_range] at hr
      obtain ⟨i, hi', rfl⟩ := hr
      exact (hZ i (by omega)).1
    refine ⟨some a, len, cap, (List.range len).map Z, hcs, ⟨⟨?_, .inr ⟨a, rfl, fun j u hu => ?_⟩⟩, by simp, hwide, ?_, hl, by unfold maxLen at hm; omega⟩⟩
    · simp only [ints, List.length_map]
      rw [rows_len _ hwide]
      simp [Nat.mul_comm]
    · have hjl : j < len * k := by
        rcases Nat.lt_or_ge j (len * k) with q | q
        · exact q
        · rw [List.getElem?_eq_none (by simp only [ints, List.length_map]; rw [rows_len _ hwide]; simp [Nat.mul_comm]; rw [Nat.mul_comm]; omega)] at hu
          cases hu
      have hi' : j / k < len := (Nat.div_lt_iff_lt_mul hk0).2 hjl
      have hr' : j % k < k := Nat.mod_lt _ hk0
      have hc := (hZ (j / k) (by omega)).2.2 (j % k) hr'
      have hj : j / k * k + j % k = j := by rw [Nat.mul_comm]; exact Nat.div_add_mod j k
      rw [hj] at hc
      rw [hc, ← hu]
      have hg := rows_get ((List.range len).map Z) hwide (j / k) (j % k) (by simpa using hi') hr' []
      rw [List.append_nil, show k * (j / k) + j % k = j from Nat.div_add_mod j k] at hg
      have hlt : j < ((List.range len).map Z).flatten.length := by rw [rows_len _ hwide]; simp; rw [Nat.mul_comm]; exact hjl
      rw [ints, List.getElem?_map, List.getElem?_eq_getElem hlt, Option.map_some]
      congr 2
      have e3 : ((List.range len).map Z).getD (j / k) [] = Z (j / k) := by simp [List.getD, hi']
      rw [e3] at hg
      rw [← hg, List.getD_eq_getElem?_getD, List.getElem?_eq_getElem hlt, Option.getD_some]
    · intro r hr z hz
      simp only [List.mem_map, List.mem_range] at hr
      obtain ⟨i, hi', rfl⟩ := hr
      exact (hZ i (by omega)).2.1 z hz
/-! ### A setup -/
/-- The value of a setup: its cells. -/
def setV (s : SetP) (A1 A2 A3 A4 A5 A6 : Option Addr) (c1 c2 c3 c4 c5 c6 : Nat) : Value :=
  .agg #[.int .i64 s.places, .slice A1 s.ways.length c1, .int .i64 s.pn, .int .i64 s.pd, .slice A2 s.elements.length c2, .slice A3 s.classes.length c3, .slice A4 s.gears.length c4,
    .int .i64 s.allow, .int .i64 s.unit, .int .i64 s.cap, .int .i64 s.paid, .int .i64 s.aft, .int .i64 s.brk, .int .i64 s.reg, .int .i64 s.over, .int .i64 s.week, .int .i64 s.nfrom, .int .i64 s.nto,
    .slice A5 s.rates.length c5, .int .i64 s.diff, .int .i64 s.least, .int .i64 s.fault, .slice A6 s.tiers.length c6]
/-- Its lists lie there. -/
structure SetAt (w : World) (s : SetP) (A1 A2 A3 A4 A5 A6 : Option Addr) (c1 c2 c3 c4 c5 c6 : Nat) : Prop where
  ways : Tab 3 w A1 s.ways.length c1 s.ways
  elements : Tab 4 w A2 s.elements.length c2 s.elements
  classes : Tab 2 w A3 s.classes.length c3 s.classes
  gears : Tab 2 w A4 s.gears.length c4 s.gears
  rates : Tab 1 w A5 s.rates.length c5 (s.rates.map fun n => [n])
  tiers : Tab 2 w A6 s.tiers.length c6 s.tiers
theorem SetAt.below {w w' : World} {s : SetP} {A1 A2 A3 A4 A5 A6 : Option Addr} {c1 c2 c3 c4 c5 c6 : Nat} (h : SetAt w s A1 A2 A3 A4 A5 A6 c1 c2 c3 c4 c5 c6) (hb : Below w.heap.size w w') : SetAt w' s A1 A2 A3 A4 A5 A6 c1 c2 c3 c4 c5 c6 :=
  ⟨h.ways.below hb, h.elements.below hb, h.classes.below hb, h.gears.below hb, h.rates.below hb, h.tiers.below hb⟩
theorem SetAt.wide {w : World} {s : SetP} {A1 A2 A3 A4 A5 A6 : Option Addr} {c1 c2 c3 c4 c5 c6 : Nat} (h : SetAt w s A1 A2 A3 A4 A5 A6 c1 c2 c3 c4 c5 c6) : s.Wide := ⟨h.ways.wide, h.elements.wide, h.classes.wide, h.gears.wide, h.tiers.wide⟩
/-- Its own numbers fit. -/
structure SetP.Fit (s : SetP) : Prop where
  places : In64 s.places
  pn : In64 s.pn
  pd : In64 s.pd
  allow : In64 s.allow
  unit : In64 s.unit
  cap : In64 s.cap
  paid : In64 s.paid
  aft : In64 s.aft
  brk : In64 s.brk
  reg : In64 s.reg
  over : In64 s.over
  week : In64 s.week
  nfrom : In64 s.nfrom
  nto : In64 s.nto
  diff : In64 s.diff
  least : In64 s.least
  fault : In64 s.fault
theorem list23 {α : Type} {l : List α} (h : l.length = 23) : ∃ c0 c1 c2 c3 c4 c5 c6 c7 c8 c9 c10 c11 c12 c13 c14 c15 c16 c17 c18 c19 c20 c21 c22, l = [c0, c1, c2, c3, c4, c5, c6, c7, c8, c9, c10, c11, c12, c13, c14, c15, c16, c17, c18, c19, c20, c21, c22] := by
  match l, h with
  | [c0, c1, c2, c3, c4, c5, c6, c7, c8, c9, c10, c11, c12, c13, c14, c15, c16, c17, c18, c19, c20, c21, c22], _ => exact ⟨c0, c1, c2, c3, c4, c5, c6, c7, c8, c9, c10, c11, c12, c13, c14, c15, c16, c17, c18, c19, c20, c21, c22, rfl⟩
theorem one_int {P : Program} {H : Type} {enc : TypeId × Value → H} {w : World} {base : Nat} {spare : Nat → Bool} {held : Bool} {i : TypeId} {m : Nat} {v : Value} {x : DataW H × List MemPlace} (hi : P.underlying i = some (.int .i64)) (h : DataW.trod enc P w base spare held m i [v] = some x) : ∃ z, v = .int .i64 z ∧ In64 z := by
  obtain ⟨z, e, _, hz⟩ := DataW.trod_int hi h
  simp only [List.cons.injEq, and_true] at e
  exact ⟨z, e, bounds_i64 hz⟩
theorem one_tab {P : Program} {H : Type} {enc : TypeId × Value → H} {w : World} {base : Nat} {held : Bool} {t e : TypeId} {k m : Nat} {v : Value} {x : DataW H × List MemPlace}
    (ht : P.underlying t = some (.slice e)) (he : NumsT P e k) (hk : P.cellsOf e = k) (hk0 : 0 < k) (h : DataW.trod enc P w base (fun _ => true) held m t [v] = some x) : ∃ A c rows, v = .slice A rows.length c ∧ Tab k w A rows.length c rows := by
  obtain ⟨A, n, c, rows, e1, hT⟩ := open_tab ht he hk hk0 h
  simp only [List.cons.injEq, and_true] at e1
  have := hT.len
  subst this
  exact ⟨A, c, rows, e1, hT⟩
theorem rows_ones : ∀ (t : Rows2), (∀ r ∈ t, r.length = 1) → t = t.flatten.map fun n => [n]
  | [], _ => rfl
  | r :: t, h => by
    have h1 := h r (by simp)
    obtain ⟨n, rfl⟩ : ∃ n, r = [n] := by
      match r, h1 with
      | [n], _ => exact ⟨n, rfl⟩
    have := rows_ones t (fun q hq => h q (by simp [hq]))
    conv => lhs; rw [this]
    simp
/-- An argument that is a setup. -/
theorem open_setup {H : Type} {enc : TypeId × Value → H} {P : Program} {w : World} {r : Reach} {b0 base : Nat} {held : Bool} {t i tw ew tr te ee tq eq tn tt et : TypeId} {fs : Array Field} {v : Value} {d : DataW H} {p : List MemPlace}
    (hs : P.underlying t = some (.struct fs)) (hC : P.cellsOf t = 23)
    (hf : (fs.toList.map fun f => (f.type, f.offset, P.cellsOf f.type)) = [(i, 0, 1), (tw, 1, 1), (tr, 2, 2), (te, 4, 1), (tq, 5, 1), (tq, 6, 1), (i, 7, 1), (i, 8, 1), (i, 9, 1), (i, 10, 1), (i, 11, 1), (i, 12, 1), (i, 13, 1), (i, 14, 1), (i, 15, 1), (i, 16, 1), (i, 17, 1), (tn, 18, 1), (i, 19, 1), (i, 20, 1), (i, 21, 1), (tt, 22, 1)])
    (hi : P.underlying i = some (.int .i64)) (hi1 : P.cellsOf i = 1) (hw : P.underlying tw = some (.slice ew)) (aw : NumsT P ew 3) (cw : P.cellsOf ew = 3) (ar : NumsT P tr 2)
    (he : P.underlying te = some (.slice ee)) (ae : NumsT P ee 4) (ce : P.cellsOf ee = 4) (hq : P.underlying tq = some (.slice eq)) (aq : NumsT P eq 2) (cq : P.cellsOf eq = 2)
    (hn : P.underlying tn = some (.slice i)) (ht : P.underlying tt = some (.slice et)) (at_ : NumsT P et 2) (ct : P.cellsOf et = 2)
    (hv : Value.okWide P w r b0 t v) (h : DataW.Trod enc P w base (fun _ => true) held t v d p) :
    ∃ (s : SetP) (A1 A2 A3 A4 A5 A6 : Option Addr) (c1 c2 c3 c4 c5 c6 : Nat), v = setV s A1 A2 A3 A4 A5 A6 c1 c2 c3 c4 c5 c6 ∧ SetAt w s A1 A2 A3 A4 A5 A6 c1 c2 c3 c4 c5 c6 ∧ s.Fit := by
  obtain ⟨cs, rfl, hsz⟩ := okWide_struct hs hv
  obtain ⟨fuel, hfu⟩ := h
  obtain ⟨xs, m, _, _, hl, hxl, hx⟩ := DataW.trod_struct hs hfu
  have hsz2 : fs.size = 22 := by
    have := congrArg List.length hf
    simpa using this
  have get : ∀ (j : Nat) (T : TypeId) (o c : Nat), (fs.toList.map fun f => (f.type, f.offset, P.cellsOf f.type))[j]? = some (T, o, c) → ∃ y, DataW.trod enc P w base (fun _ => true) held m T (((Value.agg cs).cells.toList.drop o).take c) = some y := by
    intro j T o c hj
    rw [List.getElem?_map, Option.map_eq_some_iff] at hj
    obtain ⟨f, h1, h2⟩ := hj
    simp only [Prod.mk.injEq] at h2
    obtain ⟨rfl, rfl, rfl⟩ := h2
    rw [Array.getElem?_toList] at h1
    have h3 := hx j f h1
    have hj' : j < fs.size := (Array.getElem?_eq_some_iff.1 h1).1
    rw [List.getElem?_eq_getElem (show j < xs.length by omega)] at h3
    exact ⟨_, h3⟩
  rw [hf] at get
  have hcl : cs.toList.length = 23 := by rw [Array.length_toList, hsz, hC]
  obtain ⟨c0, c1, c2, c3, c4, c5, c6, c7, c8, c9, c10, c11, c12, c13, c14, c15, c16, c17, c18, c19, c20, c21, c22, hcs⟩ := list23 hcl
  have hce : (Value.agg cs).cells.toList = [c0, c1, c2, c3, c4, c5, c6, c7, c8, c9, c10, c11, c12, c13, c14, c15, c16, c17, c18, c19, c20, c21, c22] := hcs
  have hcs' : cs = #[c0, c1, c2, c3, c4, c5, c6, c7, c8, c9, c10, c11, c12, c13, c14, c15, c16, c17, c18, c19, c20, c21, c22] := by
    apply Array.toList_inj.1
    exact hcs
  rw [hce] at get
  clear hx hfu hl hcl hce hsz
  obtain ⟨_, g0⟩ := get 0 i 0 1 rfl
  obtain ⟨_, g1⟩ := get 1 tw 1 1 rfl
  obtain ⟨_, g2⟩ := get 2 tr 2 2 rfl
  obtain ⟨_, g3⟩ := get 3 te 4 1 rfl
  obtain ⟨_, g4⟩ := get 4 tq 5 1 rfl
  obtain ⟨_, g5⟩ := get 5 tq 6 1 rfl
  obtain ⟨_, g6⟩ := get 6 i 7 1 rfl
  obtain ⟨_, g7⟩ := get 7 i 8 1 rfl
  obtain ⟨_, g8⟩ := get 8 i 9 1 rfl
  obtain ⟨_, g9⟩ := get 9 i 10 1 rfl
  obtain ⟨_, g10⟩ := get 10 i 11 1 rfl
  obtain ⟨_, g11⟩ := get 11 i 12 1 rfl
  obtain ⟨_, g12⟩ := get 12 i 13 1 rfl
  obtain ⟨_, g13⟩ := get 13 i 14 1 rfl
  obtain ⟨_, g14⟩ := get 14 i 15 1 rfl
  obtain ⟨_, g15⟩ := get 15 i 16 1 rfl
  obtain ⟨_, g16⟩ := get 16 i 17 1 rfl
  obtain ⟨_, g17⟩ := get 17 tn 18 1 rfl
  obtain ⟨_, g18⟩ := get 18 i 19 1 rfl
  obtain ⟨_, g19⟩ := get 19 i 20 1 rfl
  obtain ⟨_, g20⟩ := get 20 i 21 1 rfl
  obtain ⟨_, g21⟩ := get 21 tt 22 1 rfl
  clear get
  obtain ⟨z0, rfl, b0'⟩ := one_int hi g0
  obtain ⟨z6, rfl, b6⟩ := one_int hi g6
  obtain ⟨z7, rfl, b7⟩ := one_int hi g7
  obtain ⟨z8, rfl, b8⟩ := one_int hi g8
  obtain ⟨z9, rfl, b9⟩ := one_int hi g9
  obtain ⟨z10, rfl, b10⟩ := one_int hi g10
  obtain ⟨z11, rfl, b11⟩ := one_int hi g11
  obtain ⟨z12, rfl, b12⟩ := one_int hi g12
  obtain ⟨z13, rfl, b13⟩ := one_int hi g13
  obtain ⟨z14, rfl, b14⟩ := one_int hi g14
  obtain ⟨z15, rfl, b15⟩ := one_int hi g15
  obtain ⟨z16, rfl, b16⟩ := one_int hi g16
  obtain ⟨z18, rfl, b18⟩ := one_int hi g18
  obtain ⟨z19, rfl, b19⟩ := one_int hi g19
  obtain ⟨z20, rfl, b20⟩ := one_int hi g20
  obtain ⟨A1, k1, t1, rfl, T1⟩ := one_tab hw aw cw (by omega) g1
  obtain ⟨A2, k2, t2, rfl, T2⟩ := one_tab he ae ce (by omega) g3
  obtain ⟨A3, k3, t3, rfl, T3⟩ := one_tab hq aq cq (by omega) g4
  obtain ⟨A4, k4, t4, rfl, T4⟩ := one_tab hq aq cq (by omega) g5
  obtain ⟨A5, k5, t5, rfl, T5⟩ := one_tab hn (alli_int hi) hi1 (by omega) g17
  obtain ⟨A6, k6, t6, rfl, T6⟩ := one_tab ht at_ ct (by omega) g21
  obtain ⟨zs, hz, e2, hb2⟩ := ar _ _ _ _ _ _ _ _ _ g2
  obtain ⟨pn, pd, rfl⟩ : ∃ a b, zs = [a, b] := by
    match zs, hz with
    | [a, b], _ => exact ⟨a, b, rfl⟩
  simp only [ints, List.map_cons, List.map_nil, List.drop_succ_cons, List.drop_zero, List.take_succ_cons, List.take_zero, List.cons.injEq, and_true] at e2
  obtain ⟨rfl, rfl⟩ := e2
  have h5 := rows_ones t5 T5.wide
  have hl5 : t5.length = t5.flatten.length := by
    conv => lhs; rw [h5]
    rw [List.length_map]
  refine ⟨⟨z0, t1, pn, pd, t2, t3, t4, z6, z7, z8, z9, z10, z11, z12, z13, z14, z15, z16, t5.flatten, z18, z19, z20, t6⟩, A1, A2, A3, A4, A5, A6, k1, k2, k3, k4, k5, k6, ?_, ⟨T1, T2, T3, T4, ?_, T6⟩,
    ⟨b0', hb2 pn (by simp), hb2 pd (by simp), b6, b7, b8, b9, b10, b11, b12, b13, b14, b15, b16, b18, b19, b20⟩⟩
  · rw [hcs', setV, hl5]
  · rw [← hl5, ← h5]
    exact T5
end Go.Proofs.YtpgncbhahocmbaaGreat

namespace Go.Proofs.YtpgncbhahocmbaaGreat
open Go.RowKit Go.Deep Go.WideShapes
set_option linter.unusedVariables false
set_option maxRecDepth 20000

theorem nums_at_e {P : Program} {t : TypeId} {k : Nat} (h : NumsT P t k) (hk : P.cellsOf t = k) : NumsT P t (P.cellsOf t) := by rw [hk]; exact h
theorem numsT_int_e : NumsT Tryz.prog 3 1 := alli_int Tryz.underlying3
theorem numsT_event : NumsT Tryz.prog 43 11 := alli_struct Tryz.underlying43 (by kernel_rfl)
  ⟨rfl, nums_at_e numsT_int_e (by kernel_rfl), by kernel_rfl, nums_at_e numsT_int_e (by kernel_rfl), by kernel_rfl, nums_at_e numsT_int_e (by kernel_rfl), by kernel_rfl, nums_at_e numsT_int_e (by kernel_rfl), by kernel_rfl, nums_at_e numsT_int_e (by kernel_rfl), by kernel_rfl, nums_at_e numsT_int_e (by kernel_rfl),
    by kernel_rfl, nums_at_e numsT_int_e (by kernel_rfl), by kernel_rfl, nums_at_e numsT_int_e (by kernel_rfl), by kernel_rfl, nums_at_e numsT_int_e (by kernel_rfl), by kernel_rfl, nums_at_e numsT_int_e (by kernel_rfl), by kernel_rfl, nums_at_e numsT_int_e (by kernel_rfl), by change _ = _; kernel_rfl⟩
/-- An event's numbers. -/
def evLs (e : EvP) : List Int := [e.id, e.wk, e.tm, e.kd, e.fr, e.to, e.el, e.un, e.cl, e.ge, e.cd]
theorem ev_of_list {zs : List Int} (h : zs.length = 11) (hb : ∀ z ∈ zs, In64 z) : ∃ e : EvP, evLs e = zs ∧ e.In := by
  match zs, h with
  | [a, b, c, d, e, f, g, i, j, k, l], _ =>
    refine ⟨⟨a, b, c, d, e, f, g, i, j, k, l⟩, rfl, ?_⟩
    have h1 := hb a (by simp); have h2 := hb b (by simp); have h3 := hb c (by simp); have h4 := hb d (by simp); have h5 := hb e (by simp); have h6 := hb f (by simp)
    have h7 := hb g (by simp); have h8 := hb i (by simp); have h9 := hb j (by simp); have h10 := hb k (by simp); have h11 := hb l (by simp)
    exact ⟨h1, h2, h3, h4, h5, h6, h7, h8, h9, h10, h11⟩
theorem event_open {H : Type} {enc : TypeId × Value → H} {w : World} {r : Reach} {b0 base : Nat} {held : Bool} {v : Value} {d : DataW H} {p : List MemPlace}
    (hv : Value.okWide Tryz.prog w r b0 43 v) (h : DataW.Trod enc Tryz.prog w base (fun _ => true) held 43 v d p) : ∃ e : EvP, v = .agg (evC e) ∧ e.In := by
  obtain ⟨cs, rfl, hsz⟩ := okWide_struct Tryz.underlying43 hv
  obtain ⟨fuel, hfu⟩ := h
  obtain ⟨zs, hl, hcs, hb⟩ := numsT_event H enc w base _ held fuel _ _ hfu
  obtain ⟨e, he, hin⟩ := ev_of_list hl hb
  refine ⟨e, ?_, hin⟩
  have e1 : cs.toList = ints .i64 (evLs e) := by rw [he]; exact hcs
  have e2 : cs = evC e := by
    apply Array.toList_inj.1
    rw [e1]
    rfl
  rw [e2]
end Go.Proofs.YtpgncbhahocmbaaGreat

namespace Go.Proofs.YtpgncbhahocmbaaGreat
open Go.RowKit Go.Sort
set_option linter.unusedVariables false
set_option linter.unusedSimpArgs false
set_option maxRecDepth 20000


def encE (e : EvP) : List Value := (evC e).toList
theorem encE_len (e : EvP) : (encE e).length = 11 := rfl
theorem encE_one (e : EvP) : ∀ v ∈ encE e, v.oneCell' = true := by
  intro v hv
  simp only [encE, evC, List.mem_cons, List.not_mem_nil, or_false] at hv
  rcases hv with rfl | rfl | rfl | rfl | rfl | rfl | rfl | rfl | rfl | rfl | rfl <;> rfl
theorem encE_arr (e : EvP) : (encE e).toArray = evC e := rfl
/-- An event's numbers, as a list. -/
theorem encE_L (e : EvP) : encE e = ints .i64 (evLs e) := rfl
/-- Block g holds the events d from its beginning on. -/
def HoldE (w : World) (g : Nat) (d : Array EvP) : Prop := HoldsK encE 11 w g 0 d
/-- The slice value reads as the events l. -/
def Evs (w : World) (A : Option Addr) (n c : Nat) (l : List EvP) : Prop := Sl 11 w A n c (ints .i64 (l.map evLs).flatten) ∧ l.length = n
theorem evs_wide (l : List EvP) : ∀ r ∈ l.map evLs, r.length = 11 := by
  intro r hr
  obtain ⟨e, _, rfl⟩ := List.mem_map.1 hr
  rfl
theorem evs_cell (l : List EvP) {t : Nat} (ht : t < l.length * 11) : (ints .i64 (l.map evLs).flatten)[t]? = some ((encE (l.getD (t / 11) EvP.none)).getD (t % 11) undef) := by
  have hi : t / 11 < l.length := by omega
  have hj : t % 11 < 11 := Nat.mod_lt _ (by omega)
  have h1 := rows_get (l.map evLs) (evs_wide l) (t / 11) (t % 11) (by simpa using hi) hj []
  rw [List.append_nil, Nat.div_add_mod] at h1
  have hlen := rows_len (l.map evLs) (evs_wide l)
  rw [List.length_map] at hlen
  have hlt : t < (l.map evLs).flatten.length := by omega
  rw [ints, List.getElem?_map, List.getElem?_eq_getElem hlt, Option.map_some]
  rw [List.getD_eq_getElem?_getD, List.getElem?_eq_getElem hlt, Option.getD_some] at h1
  rw [h1, encE_L]
  have e1 : (l.map evLs).getD (t / 11) [] = evLs (l.getD (t / 11) EvP.none) := by simp [List.getD, hi]
  rw [e1]
  generalize l.getD (t / 11) EvP.none = x
  have hj2 : t % 11 < (evLs x).length := hj
  simp [ints, List.getD, hj2]
theorem holdE_cell {w : World} {g : Nat} {l : List EvP} (hc : ∀ t, t < l.length * 11 → w.cell? ⟨g, t, none⟩ = (ints .i64 (l.map evLs).flatten)[t]?) (hf : ∀ t, w.frozen? ⟨g, t, none⟩ = false) : HoldE w g l.toArray := by
  intro t ht
  rw [size_flatK] at ht
  rw [get_flatK _ _ _ _ ht, Nat.zero_add]
  have ht' : t < l.length * 11 := by simpa using ht
  refine ⟨?_, hf t⟩
  rw [hc t ht', evs_cell l ht']
  have hi : t / 11 < l.length := by omega
  have hj : t % 11 < 11 := Nat.mod_lt _ (by omega)
  simp only [id, List.getElem!_toArray]
  rw [getElem!_pos l (t / 11) hi, getElem!_pos (encE l[t / 11]) (t % 11) (by rw [encE_len]; exact hj)]
  have e1 : l.getD (t / 11) EvP.none = l[t / 11] := by simp [List.getD, hi]
  rw [e1]
  simp [List.getD, show t % 11 < (encE l[t / 11]).length by rw [encE_len]; exact hj]
theorem evs_of_holdE {w : World} {g c : Nat} {d : Array EvP} (h : HoldE w g d) : Evs w (some ⟨g, 0, none⟩) d.size c d.toList := by
  refine ⟨⟨?_, .inr ⟨_, rfl, fun j u hu => ?_⟩⟩, by simp⟩
  · have := rows_len (d.toList.map evLs) (evs_wide _)
    rw [ints, List.length_map, this, List.length_map]
    simp; omega
  · have hj : j < d.size * 11 := by
      have := rows_len (d.toList.map evLs) (evs_wide _)
      have h2 := (List.getElem?_eq_some_iff.1 hu).1
      rw [ints, List.length_map, this, List.length_map] at h2
      simp at h2; omega
    have h1 := (h j (by rw [size_flatK]; exact hj)).1
    rw [get_flatK _ _ _ _ hj, Nat.zero_add] at h1
    have hi : j / 11 < d.size := by omega
    have hm : j % 11 < 11 := Nat.mod_lt _ (by omega)
    rw [show (⟨g, 0, none⟩ : Addr).add j = ⟨g, j, none⟩ by unfold Addr.add; split <;> simp_all, h1, ← hu, evs_cell d.toList (by simpa using hj)]
    simp only [id]
    rw [getElem!_pos d (j / 11) hi, getElem!_pos (encE d[j / 11]) (j % 11) (by rw [encE_len]; exact hm)]
    have e1 : d.toList.getD (j / 11) EvP.none = d[j / 11] := by simp [List.getD, hi]
    rw [e1]
    simp [List.getD, show j % 11 < (encE d[j / 11]).length by rw [encE_len]; exact hm]
theorem Evs.below {w w' : World} {A : Option Addr} {n c : Nat} {l : List EvP} (h : Evs w A n c l) (hb : Below w.heap.size w w') : Evs w' A n c l := ⟨h.1.below hb, h.2⟩
theorem Evs.cell {w : World} {b off n c : Nat} {l : List EvP} (h : Evs w (some ⟨b, off, none⟩) n c l) {i j : Nat} (hi : i < n) (hj : j < 11) : w.cell? ⟨b, off + i * 11 + j, none⟩ = some ((encE (l.getD i EvP.none)).getD j undef) := by
  obtain ⟨⟨hl, ⟨h0, _, _⟩ | ⟨ad, e, hc⟩⟩, hn⟩ := h
  · cases h0
  · injection e with e
    subst e hn
    have ht : i * 11 + j < l.length * 11 := by omega
    have := hc (i * 11 + j) _ (evs_cell l ht)
    rw [show (⟨b, off, none⟩ : Addr).add (i * 11 + j) = ⟨b, off + (i * 11 + j), none⟩ by unfold Addr.add; split <;> simp_all, ← Nat.add_assoc] at this
    rw [this, show (i * 11 + j) / 11 = i by omega, show (i * 11 + j) % 11 = j by omega]
theorem Evs.form {w : World} {A : Option Addr} {n c : Nat} {l : List EvP} (h : Evs w A n c l) (hn : 0 < n) : ∃ b off, A = some ⟨b, off, none⟩ := by
  obtain ⟨⟨hl, ⟨_, h0, _⟩ | ⟨ad, rfl, hc⟩⟩, hln⟩ := h
  · omega
  · have h0 := hc 0 _ (evs_cell l (by omega))
    obtain ⟨b, off, sp⟩ := ad
    have hsp : sp = none := by simpa [Addr.add] using World.cell?_spot h0
    subst hsp
    exact ⟨b, off, rfl⟩
theorem ev_info : (Tryz.prog.info? 43).map (fun i => (i.zero, i.size, i.bytes)) = some (some (.agg (evC EvP.none)), 11, 88) := by kernel_rfl
/-- 'slices.Clone' of events. -/
theorem evclone_any (A : Option Addr) (n c : Nat) (l : List EvP) (W : World) (h : Evs W A n c l) (hm : n ≤ 1000000) :
    Calls Tryz.prog 107 #[.slice A n c] W fun e w' => ∃ A' c', e = .returned (.slice A' n c') ∧ Below W.heap.size W w' ∧ (0 < n → ∃ g, A' = some ⟨g, 0, none⟩ ∧ W.heap.size ≤ g ∧ g < w'.heap.size ∧ HoldE w' g l.toArray) ∧ (l = [] → Evs w' A' n c' []) := by
  have qT : ∀ (w : World) (a : Option Addr) (n c n' c' : Nat), (binOp .eql 31 (.slice a n c) (.slice none n' c')).run Tryz.prog w = .ok (.bool a.isNone) w := fun w a n c n' c' => Lib.run_eql_slice_nil w _ _ a n c n' c' Tryz.underlying31
  cases A with
  | none =>
    have hn0 : n = 0 := by
      rcases Nat.eq_zero_or_pos n with h0 | h0
      · exact h0
      · obtain ⟨b, off, e⟩ := h.form h0; cases e
    subst hn0
    go_enter Tryz.func107, Tryz.ntmps107
    go_wp2
    go_ret
    exact ⟨none, 0, rfl, Below.refl _ _, fun h => absurd h (by omega), fun _ => ⟨⟨by simp [ints], .inl ⟨rfl, rfl, rfl⟩⟩, rfl⟩⟩
  | some ad =>
    obtain ⟨hsl, hln⟩ := h
    have ho := own_new W 43 11 0 #[] rfl (by decide)
    obtain ⟨A', c', w', hr, hown, hg, hl⟩ := append_any (P := Tryz.prog) (W.alloc (.cells #[] 43)) W.heap.size 31 31 43 _ 11 88 Tryz.underlying31 ev_info rfl (by omega) ho (hsl.alloc _) (ints_one .i64 _) n (by omega) (ints .i64 (l.map evLs).flatten) (by simp) (by omega) (by omega) (by simp)
    have HR := Lib.hid hr
    have hb : Below W.heap.size W w' := bel_grown (bel_alloc (Below.refl _ _) _) ho (Nat.le_refl _) hg
    have hown0 := hown
    have hfin : 0 < n → ∃ g, A' = some ⟨g, 0, none⟩ ∧ W.heap.size ≤ g ∧ g < w'.heap.size ∧ HoldE w' g l.toArray := by
      intro h0
      have hlt := World.ownsRow.lt hown
      have hown' := hown
      obtain ⟨hl', ⟨hv, hz⟩ | ⟨g, cap, cur, hv, hbg, hh, _⟩⟩ := hown
      · omega
      · injection hv with e1 e2 e3
        subst e1
        have := hlt _ rfl
        refine ⟨g, rfl, hbg, this.2, holdE_cell (fun t ht => ?_) (fun t => World.ownsRow.frozenAt hown' t)⟩
        rw [hln] at ht
        exact World.ownsRow.cellAt hown' t ht
    have hfin2 : l = [] → Evs w' A' n c' [] := by
      rintro rfl
      have hs := Sl.of_own hown0
      exact ⟨by simpa using hs, hln⟩
    have HF := Lib.hid hfin
    have HF2 := Lib.hid hfin2
    clear hr hown hown0 hg hl ho hsl hfin hfin2
    go_enter Tryz.func107, Tryz.ntmps107
    go_wp2_with (at_builtin; refine wpList_append_run HR.out rfl rfl rfl rfl ?_)
    go_ret
    exact ⟨A', c', rfl, hb, HF.out, HF2.out⟩
end Go.Proofs.YtpgncbhahocmbaaGreat

namespace Go.Proofs.YtpgncbhahocmbaaGreat
open Go.Sort
set_option linter.unusedVariables false
set_option linter.unusedSimpArgs false

/-- Of two lists, one of which stands ahead of the other one, at most one has any that are alike to k. -/
theorem filter_one {Y X : List EvP} (h : ∀ y ∈ Y, ∀ x ∈ X, lessE y x = true) (k : EvP) : Y.filter (alikeE k) = [] ∨ X.filter (alikeE k) = [] := by
  by_cases hy : Y.filter (alikeE k) = []
  · exact .inl hy
  · by_cases hx : X.filter (alikeE k) = []
    · exact .inr hx
    · obtain ⟨y, hy⟩ := List.exists_mem_of_ne_nil _ hy
      obtain ⟨x, hx⟩ := List.exists_mem_of_ne_nil _ hx
      rw [List.mem_filter] at hx hy
      have h1 := h y hy.1 x hx.1
      have h2 := (alike_not_less hy.2 hx.2).1
      rw [h1] at h2
      cases h2
theorem less_asym {x y : EvP} (h : lessE x y = true) : lessE y x = false := by
  simp only [lessE, decide_eq_true_eq, decide_eq_false_iff_not] at *
  omega
theorem merge_cut {X1 X2 Y1 Y2 : List EvP} (hX : Risen (X1 ++ X2)) (hY : Risen (Y1 ++ Y2)) (h1 : ∀ y ∈ Y1, ∀ x ∈ X2, lessE y x = true) (h2 : ∀ x ∈ X1, ∀ y ∈ Y2, lessE y x = false) :
    sortE (X1 ++ Y1) ++ sortE (X2 ++ Y2) = sortE ((X1 ++ X2) ++ (Y1 ++ Y2)) := by
  obtain ⟨-, -, hXX⟩ := (risen_append _ _).1 hX
  obtain ⟨-, -, hYY⟩ := (risen_append _ _).1 hY
  refine ev_sort_of ((risen_append _ _).2 ⟨ev_sort_risen _, ev_sort_risen _, fun a ha b hb => ?_⟩) (fun k => ?_)
  · have ha' := (ev_sort_perm _).mem_iff.1 ha
    have hb' := (ev_sort_perm _).mem_iff.1 hb
    rcases List.mem_append.1 ha' with p | p <;> rcases List.mem_append.1 hb' with q | q
    · exact hXX a p b q
    · exact h2 a p b q
    · exact less_asym (h1 a p b q)
    · exact hYY a p b q
  · simp only [List.filter_append, ev_sort_alike]
    rcases filter_one h1 k with e | e <;> simp [e]
/-- A single one, put in. -/
theorem merge_left {x : EvP} {Y1 Y2 : List EvP} (hY : Risen (Y1 ++ Y2)) (h1 : ∀ y ∈ Y1, lessE y x = true) (h2 : ∀ y ∈ Y2, lessE y x = false) :
    Y1 ++ x :: Y2 = sortE (x :: (Y1 ++ Y2)) := by
  obtain ⟨r1, r2, hYY⟩ := (risen_append _ _).1 hY
  refine ev_sort_of ((risen_append _ _).2 ⟨r1, ⟨h2, r2⟩, fun a ha b hb => ?_⟩) (fun k => ?_)
  · rcases List.mem_cons.1 hb with rfl | hb
    · exact less_asym (h1 a ha)
    · exact hYY a ha b hb
  · rw [show x :: (Y1 ++ Y2) = [x] ++ (Y1 ++ Y2) from rfl, show Y1 ++ x :: Y2 = Y1 ++ ([x] ++ Y2) from rfl]
    simp only [List.filter_append]
    rcases filter_one (X := [x]) (Y := Y1) (fun y hy z hz => by rw [List.mem_singleton.1 hz]; exact h1 y hy) k with e | e <;> simp [e]
theorem merge_right {y : EvP} {X1 X2 : List EvP} (hX : Risen (X1 ++ X2)) (h1 : ∀ x ∈ X2, lessE y x = true) (h2 : ∀ x ∈ X1, lessE y x = false) :
    X1 ++ y :: X2 = sortE ((X1 ++ X2) ++ [y]) := by
  obtain ⟨r1, r2, hXX⟩ := (risen_append _ _).1 hX
  refine ev_sort_of ((risen_append _ _).2 ⟨r1, ⟨fun b hb => less_asym (h1 b hb), r2⟩, fun a ha b hb => ?_⟩) (fun k => ?_)
  · rcases List.mem_cons.1 hb with rfl | hb
    · exact h2 a ha
    · exact hXX a ha b hb
  · rw [show X1 ++ y :: X2 = X1 ++ ([y] ++ X2) from rfl]
    simp only [List.filter_append]
    rcases filter_one (Y := [y]) (X := X2) (fun z hz x hx => by rw [List.mem_singleton.1 hz]; exact h1 x hx) k with e | e <;> simp [e]
/-! ### Places in a list of parts -/
def atE (d : List EvP) (i : Nat) : EvP := d.getD i EvP.none
theorem atE_mid {P Q : List EvP} {x : EvP} {i : Nat} (h : P.length = i) : atE (P ++ x :: Q) i = x := by
  subst h
  simp [atE]
theorem atE_off {P X Q : List EvP} {i : Nat} (h : P.length ≤ i) (h2 : i < P.length + X.length) : atE (P ++ X ++ Q) i = X[i - P.length]'(by omega) := by
  unfold atE
  rw [List.getD_eq_getElem?_getD, List.append_assoc, List.getElem?_append_right h, List.getElem?_append_left (by omega), List.getElem?_eq_getElem (by omega), Option.getD_some]
theorem risen_get {l : List EvP} (h : Risen l) : ∀ i j (hj : j < l.length) (hi : i ≤ j), lessE l[j] (l[i]'(by omega)) = false := by
  induction l with
  | nil => intro i j hj; simp at hj
  | cons x l ih =>
    intro i j hj hi
    cases j with
    | zero => obtain rfl : i = 0 := by omega
              exact ev_less_irr _
    | succ j =>
      cases i with
      | zero => exact h.1 _ (List.getElem_mem _)
      | succ i => exact ih h.2 i j (by simpa using hj) (by omega)
theorem less_le {a b c : EvP} (h : lessE a b = true) (h' : lessE c b = false) : lessE a c = true := by
  simp only [lessE, decide_eq_true_eq, decide_eq_false_iff_not] at *
  omega
theorem le_less {a b c : EvP} (h : lessE b a = false) (h' : lessE b c = true) : lessE a c = true := by
  simp only [lessE, decide_eq_true_eq, decide_eq_false_iff_not] at *
  omega
/-- Where the search of the merge ends, both parts are cut. -/
theorem sym_cut {P X Y S : List EvP} {a m b mid n start0 r0 start : Nat} (ha : P.length = a) (hm : a + X.length = m) (hb : m + Y.length = b) (ham : a < m) (hmb : m < b) (hmid : mid = (a + b) / 2) (hn : n = mid + m)
    (hc : mid < m ∧ start0 = n - b ∧ r0 = mid ∨ m ≤ mid ∧ start0 = a ∧ r0 = m) (h0 : start0 ≤ start) (h1 : start ≤ r0) (hX : Risen X) (hY : Risen Y)
    (lo : start = start0 ∨ lessE (atE (P ++ X ++ Y ++ S) (n - 1 - (start - 1))) (atE (P ++ X ++ Y ++ S) (start - 1)) = false)
    (hi : start = r0 ∨ lessE (atE (P ++ X ++ Y ++ S) (n - 1 - start)) (atE (P ++ X ++ Y ++ S) start) = true) :
    ∃ X1 X2 Y1 Y2, X = X1 ++ X2 ∧ Y = Y1 ++ Y2 ∧ a + X1.length = start ∧ m + Y1.length = n - start ∧ a ≤ start ∧ start ≤ m ∧ m ≤ n - start ∧ n - start ≤ b ∧
      (∀ y ∈ Y1, ∀ x ∈ X2, lessE y x = true) ∧ (∀ x ∈ X1, ∀ y ∈ Y2, lessE y x = false) := by
  have hgX : ∀ i, a ≤ i → (hi : i < m) → atE (P ++ X ++ Y ++ S) i = X[i - a]'(by omega) := fun i h2 h3 => by
    subst ha
    rw [List.append_assoc]
    exact atE_off h2 (by omega)
  have hgY : ∀ i, m ≤ i → (hi : i < b) → atE (P ++ X ++ Y ++ S) i = Y[i - m]'(by omega) := fun i h2 h3 => by
    have hl : (P ++ X).length = m := by simp; omega
    have := atE_off (P := P ++ X) (X := Y) (Q := S) (i := i) (by omega) (by omega)
    rw [this]
    simp only [hl]
  have b1 : a ≤ start := by omega
  have b2 : start ≤ m := by omega
  have b3 : m ≤ n - start := by omega
  have b4 : n - start ≤ b := by omega
  refine ⟨X.take (start - a), X.drop (start - a), Y.take (n - start - m), Y.drop (n - start - m), (List.take_append_drop ..).symm, (List.take_append_drop ..).symm, by rw [List.length_take]; omega, by rw [List.length_take]; omega, b1, b2, b3, b4, ?_, ?_⟩
  · intro y hy x hx
    obtain ⟨q, hq, rfl⟩ := List.getElem_of_mem hy
    obtain ⟨c, hc', rfl⟩ := List.getElem_of_mem hx
    rw [List.length_take] at hq
    rw [List.length_drop] at hc'
    rw [List.getElem_take, List.getElem_drop]
    rcases hi with e | hi
    · rcases hc with ⟨c1, c2, c3⟩ | ⟨c1, c2, c3⟩ <;> omega
    · have s1 : start < m := by omega
      have s2 : m ≤ n - 1 - start := by omega
      have s3 : n - 1 - start < b := by omega
      rw [hgY _ s2 s3, hgX _ b1 s1] at hi
      have k1 := risen_get hY q (n - 1 - start - m) (by omega) (by omega)
      have k2 := risen_get hX (start - a) (start - a + c) (by omega) (by omega)
      exact le_less k1 (less_le hi k2)
  · intro x hx y hy
    obtain ⟨q, hq, rfl⟩ := List.getElem_of_mem hy
    obtain ⟨c, hc', rfl⟩ := List.getElem_of_mem hx
    rw [List.length_drop] at hq
    rw [List.length_take] at hc'
    rw [List.getElem_take, List.getElem_drop]
    rcases lo with e | lo
    · rcases hc with ⟨c1, c2, c3⟩ | ⟨c1, c2, c3⟩ <;> omega
    · by_cases hs : start = start0
      · rcases hc with ⟨c1, c2, c3⟩ | ⟨c1, c2, c3⟩ <;> omega
      · have s1 : a ≤ start - 1 := by omega
        have s4 : start - 1 < m := by omega
        have s2 : m ≤ n - 1 - (start - 1) := by omega
        have s3 : n - 1 - (start - 1) < b := by omega
        rw [hgY _ s2 s3, hgX _ s1 s4] at lo
        have k1 := risen_get hX c (start - 1 - a) (by omega) (by omega)
        have k2 := risen_get hY (n - 1 - (start - 1) - m) (n - start - m + q) (by omega) (by omega)
        exact ev_less_not k2 (ev_less_not lo k1)
end Go.Proofs.YtpgncbhahocmbaaGreat

namespace Go.Proofs.YtpgncbhahocmbaaGreat
open Go.Sort
set_option linter.unusedVariables false
set_option linter.unusedSimpArgs false

theorem swp_comm (d : Array EvP) {p q : Nat} (h : p ≠ q) : swp d q p = swp d p q := by
  unfold swp
  rw [Array.setIfInBounds_comm _ _ (Ne.symm h)]
theorem swp_parts {d : Array EvP} {A B C : List EvP} {x z : EvP} {p q : Nat} (h : d.toList = A ++ x :: (B ++ z :: C)) (hp : A.length = p) (hq : p + 1 + B.length = q) :
    (swp d p q).toList = A ++ z :: (B ++ x :: C) ∧ (swp d q p).toList = A ++ z :: (B ++ x :: C) ∧ p < d.size ∧ q < d.size := by
  have hl : d.size = d.toList.length := by simp
  rw [h] at hl
  simp only [List.length_append, List.length_cons] at hl
  have h1 : p < d.size := by omega
  have h2 : q < d.size := by omega
  have e1 : d[p]! = x := by
    rw [getElem!_pos d p h1, ← Array.getElem_toList]
    simp only [h]
    subst hp
    simp
  have e2 : d[q]! = z := by
    rw [getElem!_pos d q h2, ← Array.getElem_toList]
    simp only [h]
    have : (A ++ x :: (B ++ z :: C)) = (A ++ x :: B) ++ z :: C := by simp
    simp only [this]
    rw [List.getElem_append_right (by simp; omega)]
    have e : q - (A ++ x :: B).length = 0 := by simp; omega
    simp only [e, List.getElem_cons_zero]
  have k : (swp d p q).toList = A ++ z :: (B ++ x :: C) := by
    unfold swp
    rw [e1, e2, Array.toList_setIfInBounds, Array.toList_setIfInBounds, h]
    have e : A ++ x :: (B ++ z :: C) = (A ++ x :: B) ++ z :: C := by simp
    subst hp
    rw [List.set_append_right _ _ (Nat.le_refl _), Nat.sub_self, List.set_cons_zero]
    rw [show A ++ z :: (B ++ z :: C) = (A ++ z :: B) ++ z :: C by simp, List.set_append_right _ _ (by simp; omega)]
    rw [show q - (A ++ z :: B).length = 0 by simp; omega, List.set_cons_zero]
    simp
  exact ⟨k, by rw [swp_comm d (by omega)]; exact k, h1, h2⟩
theorem at_list (d : Array EvP) {i : Nat} (hi : i < d.size) : d[i]! = atE d.toList i := by
  rw [getElem!_pos d i hi, atE, List.getD_eq_getElem?_getD, List.getElem?_eq_getElem (by simpa using hi), Option.getD_some]
  simp
/-- A list, cut at a place. -/
theorem cut_at {α : Type} (l : List α) (n : Nat) (h : n ≤ l.length) : ∃ A B, l = A ++ B ∧ A.length = n := ⟨l.take n, l.drop n, (List.take_append_drop ..).symm, by rw [List.length_take]; omega⟩
theorem cut_last {α : Type} (l : List α) (h : 0 < l.length) : ∃ A x, l = A ++ [x] := ⟨l.dropLast, l.getLast (by intro e; simp [e] at h), (List.dropLast_concat_getLast _).symm⟩
theorem cut_head {α : Type} (l : List α) (h : 0 < l.length) : ∃ x A, l = x :: A := by
  cases l with
  | nil => simp at h
  | cons x A => exact ⟨x, A, rfl⟩
/-- The search of one, put in from the left: where it ends. -/
theorem one_left {P Y S : List EvP} {x : EvP} {a m b i : Nat} (ha : P.length = a) (hm : m = a + 1) (hb : m + Y.length = b) (h0 : m ≤ i) (h1 : i ≤ b) (hY : Risen Y)
    (lo : i = m ∨ lessE (atE (P ++ [x] ++ Y ++ S) (i - 1)) x = true) (hi : i = b ∨ lessE (atE (P ++ [x] ++ Y ++ S) i) x = false) :
    ∃ Y1 Y2, Y = Y1 ++ Y2 ∧ m + Y1.length = i ∧ Y1 ++ x :: Y2 = sortE ([x] ++ Y) := by
  have hgY : ∀ i, (hl0 : m ≤ i) → (hi : i < b) → atE (P ++ [x] ++ Y ++ S) i = Y[i - m]'(by omega) := fun i h2 h3 => by
    have hl : (P ++ [x]).length = m := by simp; omega
    have := atE_off (P := P ++ [x]) (X := Y) (Q := S) (i := i) (by omega) (by omega)
    rw [this]
    simp only [hl]
  obtain ⟨Y1, Y2, rfl, hl⟩ := cut_at Y (i - m) (by omega)
  refine ⟨Y1, Y2, rfl, by omega, merge_left hY (fun y hy => ?_) (fun y hy => ?_)⟩
  · obtain ⟨q, hq, rfl⟩ := List.getElem_of_mem hy
    rcases lo with e | lo
    · omega
    · rw [hgY _ (by omega) (by omega)] at lo
      have k := risen_get hY q (i - 1 - m) (by omega) (by omega)
      rw [List.getElem_append_left (by omega : q < Y1.length)] at k
      exact le_less k lo
  · obtain ⟨q, hq, rfl⟩ := List.getElem_of_mem hy
    rw [List.length_append] at hb
    rcases hi with e | hi
    · omega
    · rw [hgY _ (by omega) (by omega)] at hi
      have k := risen_get hY (i - m) (i - m + q) (by rw [List.length_append]; omega) (by omega)
      have e : (Y1 ++ Y2)[i - m + q]'(by rw [List.length_append]; omega) = Y2[q] := by
        rw [List.getElem_append_right (by omega)]
        simp only [hl, Nat.add_sub_cancel_left]
      rw [e] at k
      exact ev_less_not k hi
theorem one_right {P X S : List EvP} {y : EvP} {a m i : Nat} (ha : P.length = a) (hm : a + X.length = m) (h0 : a ≤ i) (h1 : i ≤ m) (hX : Risen X)
    (lo : i = a ∨ lessE y (atE (P ++ X ++ [y] ++ S) (i - 1)) = false) (hi : i = m ∨ lessE y (atE (P ++ X ++ [y] ++ S) i) = true) :
    ∃ X1 X2, X = X1 ++ X2 ∧ a + X1.length = i ∧ X1 ++ y :: X2 = sortE (X ++ [y]) := by
  have hgX : ∀ i, (hl0 : a ≤ i) → (hi : i < m) → atE (P ++ X ++ [y] ++ S) i = X[i - a]'(by omega) := fun i h2 h3 => by
    subst ha
    rw [List.append_assoc]
    exact atE_off h2 (by omega)
  obtain ⟨X1, X2, rfl, hl⟩ := cut_at X (i - a) (by omega)
  refine ⟨X1, X2, rfl, by omega, merge_right hX (fun x hx => ?_) (fun x hx => ?_)⟩
  · obtain ⟨q, hq, rfl⟩ := List.getElem_of_mem hx
    rw [List.length_append] at hm
    rcases hi with e | hi
    · omega
    · rw [hgX _ (by omega) (by omega)] at hi
      have k := risen_get hX (i - a) (i - a + q) (by rw [List.length_append]; omega) (by omega)
      have e : (X1 ++ X2)[i - a + q]'(by rw [List.length_append]; omega) = X2[q] := by
        rw [List.getElem_append_right (by omega)]
        simp only [hl, Nat.add_sub_cancel_left]
      rw [e] at k
      exact less_le hi k
  · obtain ⟨q, hq, rfl⟩ := List.getElem_of_mem hx
    rcases lo with e | lo
    · omega
    · rw [hgX _ (by omega) (by omega)] at lo
      have k := risen_get hX q (i - 1 - a) (by omega) (by omega)
      rw [List.getElem_append_left (by omega : q < X1.length)] at k
      exact ev_less_not lo k
end Go.Proofs.YtpgncbhahocmbaaGreat

namespace Go.Proofs.YtpgncbhahocmbaaGreat
open Go.Sort
set_option linter.unusedVariables false
set_option linter.unusedSimpArgs false

/-- A list, each block of bs in order. -/
def chs (bs : Nat) (l : List EvP) : List EvP := if h : 0 < bs ∧ l ≠ [] then sortE (l.take bs) ++ chs bs (l.drop bs) else []
termination_by l.length
decreasing_by
  have := List.length_pos_iff.2 h.2
  simp only [List.length_drop]
  omega
theorem chs_nil (bs : Nat) : chs bs [] = [] := by
  rw [chs, dif_neg (fun h => h.2 rfl)]
theorem chs_step {bs : Nat} (B r : List EvP) (hb : 0 < bs) (hB : B.length = bs) : chs bs (B ++ r) = sortE B ++ chs bs r := by
  rw [chs, dif_pos ⟨hb, fun e => by simp only [List.append_eq_nil_iff] at e; rw [e.1] at hB; simp at hB; omega⟩]
  subst hB
  rw [List.take_left, List.drop_left]
theorem chs_few {bs : Nat} (r : List EvP) (hb : 0 < bs) (h : r.length ≤ bs) : chs bs r = sortE r := by
  by_cases e : r = []
  · subst e
    rw [chs_nil]
    rfl
  · rw [chs, dif_pos ⟨hb, e⟩, List.take_of_length_le h, List.drop_eq_nil_of_le h, chs_nil, List.append_nil]
theorem sortE_join (A B : List EvP) : sortE (sortE A ++ sortE B) = sortE (A ++ B) :=
  ev_sort_of (ev_sort_risen _) (fun k => by rw [ev_sort_alike, List.filter_append, ev_sort_alike, ev_sort_alike, List.filter_append])
theorem sortE_len (l : List EvP) : (sortE l).length = l.length := (ev_sort_perm l).length_eq
theorem chs_len (bs : Nat) (hb : 0 < bs) : ∀ (n : Nat) (l : List EvP), l.length ≤ n → (chs bs l).length = l.length
  | 0, l, h => by
    have e : l = [] := List.length_eq_zero_iff.1 (by omega)
    subst e
    rw [chs_nil]
  | n + 1, l, h => by
    by_cases e : l.length ≤ bs
    · rw [chs_few l hb e, sortE_len]
    · obtain ⟨A, B, rfl, hA⟩ := cut_at l bs (by omega)
      rw [chs_step A B hb hA, List.length_append, List.length_append, sortE_len, chs_len bs hb n B (by rw [List.length_append] at h; omega)]
/-- Two blocks merged. -/
theorem chs_two {bs : Nat} (B1 B2 r : List EvP) (hb : 0 < bs) (h1 : B1.length = bs) (h2 : B2.length = bs) :
    chs bs (B1 ++ (B2 ++ r)) = sortE B1 ++ (sortE B2 ++ chs bs r) ∧ chs (2 * bs) (B1 ++ (B2 ++ r)) = sortE (sortE B1 ++ sortE B2) ++ chs (2 * bs) r := by
  refine ⟨by rw [chs_step _ _ hb h1, chs_step _ _ hb h2], ?_⟩
  rw [← List.append_assoc, chs_step (B1 ++ B2) r (by omega) (by rw [List.length_append]; omega), sortE_join]
theorem chs_rest {bs : Nat} (B1 B2 : List EvP) (hb : 0 < bs) (h1 : B1.length = bs) (h2 : B2.length ≤ bs) :
    chs bs (B1 ++ B2) = sortE B1 ++ sortE B2 ∧ chs (2 * bs) (B1 ++ B2) = sortE (sortE B1 ++ sortE B2) := by
  refine ⟨by rw [chs_step _ _ hb h1, chs_few B2 hb h2], ?_⟩
  rw [chs_few _ (by omega) (by rw [List.length_append]; omega), sortE_join]
theorem atE_left {P Q : List EvP} {i : Nat} (h : i < P.length) : atE (P ++ Q) i = P[i] := by
  unfold atE
  rw [List.getD_eq_getElem?_getD, List.getElem?_append_left h, List.getElem?_eq_getElem h, Option.getD_some]
theorem atE_right {P Q : List EvP} {i j : Nat} (h : P.length + j = i) (hj : j < Q.length) : atE (P ++ Q) i = Q[j] := by
  subst h
  unfold atE
  rw [List.getD_eq_getElem?_getD, List.getElem?_append_right (by omega), Nat.add_sub_cancel_left, List.getElem?_eq_getElem hj, Option.getD_some]
/-- What the insertion sort makes of a part, as lists. -/
theorem mrg_list {d d' : Array EvP} {P X S : List EvP} {a b : Nat} (h : Mrg a b d d') (hd : d.toList = P ++ (X ++ S)) (ha : P.length = a) (hb : a + X.length = b) : d'.toList = P ++ (sortE X ++ S) := by
  obtain ⟨⟨h1, h2, h3⟩, hs, hst⟩ := h
  have e := congrArg List.length hd
  simp only [List.length_append, Array.length_toList] at e
  obtain ⟨P', R, hd1, hP'⟩ := cut_at d'.toList a (by simp; omega)
  have e1 := congrArg List.length hd1
  simp only [List.length_append, Array.length_toList] at e1
  obtain ⟨X', S', rfl, hX'⟩ := cut_at R X.length (by omega)
  rw [List.length_append] at e1
  have at1 : ∀ i, i < d'.size → (i < a ∨ b ≤ i) → atE (P' ++ (X' ++ S')) i = atE (P ++ (X ++ S)) i := fun i hi ho => by
    rw [← hd1, ← hd, ← at_list d' hi, ← at_list d (by omega), h2 i ho]
  have eP : P' = P := List.ext_getElem (by omega) (fun i i1 i2 => by
    have := at1 i (by omega) (.inl (by omega))
    rwa [atE_left i1, atE_left i2] at this)
  have eS : S' = S := List.ext_getElem (by omega) (fun i i1 i2 => by
    have := at1 (b + i) (by omega) (.inr (by omega))
    rw [← List.append_assoc, ← List.append_assoc, atE_right (P := P' ++ X') (j := i) (by rw [List.length_append]; omega) i1, atE_right (P := P ++ X) (j := i) (by rw [List.length_append]; omega) i2] at this
    exact this)
  subst eP eS
  have hr : Risen X' := risen_of_sorted X' (fun i j hj hi => by
    have := hs (a + i) (a + j) (by omega) (by omega) (by omega)
    rw [at_list d' (by omega), at_list d' (by omega), hd1, atE_right (j := j) (by omega) (by rw [List.length_append]; omega), atE_right (j := i) (by omega) (by rw [List.length_append]; omega), List.getElem_append_left hj, List.getElem_append_left (by omega)] at this
    exact this)
  have hf : ∀ k, X'.filter (alikeE k) = X.filter (alikeE k) := fun k => by
    have := hst k
    rw [hd1, hd] at this
    simp only [List.filter_append] at this
    exact List.append_cancel_right (List.append_cancel_left this)
  rw [hd1, ← ev_sort_of hr hf]
end Go.Proofs.YtpgncbhahocmbaaGreat

namespace Go.Proofs.YtpgncbhahocmbaaGreat
open Go.RowKit Go.Deep Go.WideShapes
set_option linter.unusedVariables false
set_option maxRecDepth 20000

/-- Rows of eleven numbers are events. -/
theorem evs_of_rows : ∀ (t : Rows2), (∀ r ∈ t, r.length = 11) → (∀ r ∈ t, ∀ z ∈ r, In64 z) → ∃ l : List EvP, l.map evLs = t ∧ ∀ e ∈ l, e.In
  | [], _, _ => ⟨[], rfl, fun e h => by simp at h⟩
  | r :: t, h1, h2 => by
    obtain ⟨l, hl, hi⟩ := evs_of_rows t (fun q hq => h1 q (by simp [hq])) (fun q hq => h2 q (by simp [hq]))
    obtain ⟨e, he, hin⟩ := ev_of_list (h1 r (by simp)) (h2 r (by simp))
    exact ⟨e :: l, by simp [he, hl], fun x hx => by
      rcases List.mem_cons.1 hx with rfl | hx
      · exact hin
      · exact hi x hx⟩
theorem events_open {H : Type} {enc : TypeId × Value → H} {w : World} {base : Nat} {held : Bool} {fuel : Nat} {cs : List Value} {x : DataW H × List MemPlace}
    (h : DataW.trod enc Tryz.prog w base (fun _ => true) held fuel 31 cs = some x) : ∃ A n c l, cs = [.slice A n c] ∧ Evs w A n c l ∧ (∀ e ∈ l, e.In) ∧ n ≤ c ∧ c ≤ 9223372036854775807 := by
  obtain ⟨A, n, c, rows, hcs, T⟩ := open_tab Tryz.underlying31 numsT_event (by kernel_rfl) (by omega) h
  obtain ⟨l, hl, hi⟩ := evs_of_rows rows T.wide T.small
  refine ⟨A, n, c, l, hcs, ⟨by rw [hl]; exact T.sl, ?_⟩, hi, T.cap, T.max⟩
  rw [← T.len, ← hl, List.length_map]
end Go.Proofs.YtpgncbhahocmbaaGreat
