/-
  The library's insertion sort at events; event.Sort of fewer than twenty.
  The library's merge in place: what rotating, and merging of two parts in order, make. No program here.
  The library's merge in place: exchanges, as lists. No program here.
  The library's stable sort: blocks that are in order, each twice as long as the ones before. No program here.
  The library's exchanges of parts, at events: swapRangeCmpFunc, rotateCmpFunc.
  What a call may change: blocks that are kept, and blocks that may change. Over any program.
  An argument of type api.Setup, opened: its cells, its lists.
-/
import Derived.Test.YtedkhjbnjkcemaaZad
import Derived.Shelf.SlSortCmp.KitK
import Derived.Sort.WalkB2
import Derived.Sort.WalkB12
import Derived.Deep.LoopGhost
import Derived.Lib.Hide
import Derived.Test.YtedkhjbnjkcemaaProg
namespace Go.Proofs.Ytedkhjbnjkcemaa
open Go.RowKit Go.Sort
set_option linter.unusedVariables false
set_option linter.unusedSimpArgs false
set_option maxRecDepth 20000

theorem lt_cfE : ltOf cfE = lessE := by funext x y; exact cf_less x y
theorem cmp_lays (blk off size : Nat) (w : World) : CmpLays Try.prog 34 #[] encE 11 cfE blk off size w :=
  fun m os dk _ x y => order_any x y _
theorem grown_sort {w : World} {g n : Nat} {d : Array EvP} {os : Array Obj} : w.grownBy (sortWorldK encE 11 w g 0 n d os) (some g) := by
  refine ⟨rfl, rfl, rfl, size_sortWorldK_c encE 11 w g 0 n d os, fun k hk hne => ?_⟩
  show (Sort.grow _ os).heap[k]? = _
  rw [Sort.heap_grow_old _ _ (by rw [show (Sort.putRowK encE 11 (Sort.ahead w n) g 0 d).heap.size = w.heap.size by simp [Sort.putRowK, Sort.putRow, Sort.mapBlock, Sort.ahead]]; omega)]
  show (w.heap.modify g _)[k]? = _
  rw [Array.getElem?_modify, if_neg (fun e => hne (by rw [e]))]
theorem order_enters : ∀ args w, (callFunc 34 args).run Try.prog w = .ok (.enter 34 args) w := enters_of Try.func34 (by kernel_rfl) rfl
def cmpV : Value := .func (.func 34) #[] #[]
theorem ins_any (g cap a b n : Nat) (d : Array EvP) (w : World) (hH : HoldE w g d) (hg : g < w.heap.size) (hn : d.size = n) (hab : a ≤ b) (hb : b ≤ n) (hsz : n ≤ 1000000) :
    Calls Try.prog 80 #[.slice (some ⟨g, 0, none⟩) n cap, .int .i64 a, .int .i64 b, cmpV] w fun e w' => e = .returned (.tuple #[]) ∧ HoldE w' g (Sort.insertionSort lessE d a b) ∧ w.grownBy w' (some g) := by
  subst hn
  have hcon := AnyQ.insertionSortCmpFunc Try.insEv 11 Try.isAgg33 Try.sizeOf33 encE encE_len encE_one cfE 34 #[] g 0 cap a b d w order_enters (cmp_lays _ _ _ _) hH hg hab hb (by omega)
  change Calls Try.prog 80 _ _ _ at hcon
  refine hcon.mono ?_
  rintro e w' ⟨rfl, n, os, rfl⟩
  rw [lt_cfE]
  refine ⟨rfl, ?_, grown_sort⟩
  exact holdsK_sortWorldK_c encE 11 w g 0 d _ n os hH hg (stab_outer a b _ (a + 1) d rfl hb).2
theorem ins_none_e (p : Option Addr) (cap : Nat) (fv : Value) (w : World) :
    Calls Try.prog 80 #[.slice p 0 cap, .int .i64 0, .int .i64 0, fv] w fun e w' => e = .returned (.tuple #[]) ∧ w = w' := by
  go_enter Try.func80, Try.ntmps80
  go_wp2_with fail
  refine wp_loop_rounds 1 ?_
  rw [rounds_succ]
  go_wp2
  go_end0
  exact ⟨rfl, rfl⟩
/-- 'stableCmpFunc' of fewer than twenty, whatever the insertion sort leaves. -/
theorem stable_few (p : Option Addr) (n cap : Nat) (w : World) (h20 : n < 20) (F : World → Prop)
    (H : Calls Try.prog 80 #[.slice p n cap, .int .i64 (0 : Nat), .int .i64 n, cmpV] w fun e w' => e = .returned (.tuple #[]) ∧ F w') :
    Calls Try.prog 57 #[.slice p n cap, .int .i64 n, cmpV] w fun e w' => e = .returned (.tuple #[]) ∧ F w' := by
  have h1 : ¬ (20 : Int) ≤ (n : Int) := by omega
  have h2 : ¬ (20 : Int) < (n : Int) := by omega
  have h3 : (n : Int) < 20 := by omega
  have HH := Lib.hid H
  clear H
  generalize cmpV = cv at *
  go_enter Try.func57, Try.ntmps57
  go_wp2_with fail
  refine wp_loop_rounds 1 ?_
  rw [rounds_succ]
  go_wp2_with fail
  refine HH.out.mono ?_
  rintro e w1 ⟨rfl, hF⟩
  go_wp2_with fail
  refine wp_loop_rounds 1 ?_
  rw [rounds_succ]
  go_wp2
  go_end0
  exact ⟨rfl, hF⟩
theorem sortstable_of (p : Option Addr) (n cap : Nat) (w : World) (hn : n ≤ 1000000) (F : World → Prop)
    (H : Calls Try.prog 57 #[.slice p n cap, .int .i64 n, cmpV] w fun e w' => e = .returned (.tuple #[]) ∧ F w') :
    Calls Try.prog 33 #[.slice p n cap, cmpV] w fun e w' => e = .returned (.tuple #[]) ∧ F w' := by
  have HH := Lib.hid H
  clear H
  generalize cmpV = cv at *
  go_enter Try.func33, Try.ntmps33
  go_wp2_with fail
  refine HH.out.mono ?_
  rintro e w1 ⟨rfl, hF⟩
  go_wp2
  go_end0
  exact ⟨rfl, hF⟩
/-- event.Sort, by what the library's sort makes of the copy. -/
theorem sort_of (A : Option Addr) (n c : Nat) (l : List EvP) (W : World) (h : Evs W A n c l) (hm : n ≤ 1000000)
    (H : ∀ (g c' : Nat) (w : World), 0 < n → HoldE w g l.toArray → g < w.heap.size → Calls Try.prog 57 #[.slice (some ⟨g, 0, none⟩) n c', .int .i64 n, cmpV] w fun e w' => e = .returned (.tuple #[]) ∧ ∃ d' : Array EvP, HoldE w' g d' ∧ w.grownBy w' (some g) ∧ d'.toList = sortE l) :
    Calls Try.prog 18 #[.slice A n c] W fun e w' => ∃ A' c', e = .returned (.slice A' n c') ∧ Below W.heap.size W w' ∧ Evs w' A' n c' (sortE l) := by
  have HC := Lib.hid (evclone_any A n c l W h hm)
  have hln := h.2
  have HLN := Lib.hid hln
  have HH := Lib.hid H
  clear h hln H
  go_enter Try.func18, Try.ntmps18
  go_wp2_with fail
  refine HC.out.mono ?_
  rintro e w1 ⟨A', c', rfl, hb1, hg1, hz1⟩
  have hS : Calls Try.prog 33 #[.slice A' n c', cmpV] w1 fun e w' => e = .returned (.tuple #[]) ∧ (Below W.heap.size W w' ∧ Evs w' A' n c' (sortE l)) := by
    rcases Nat.eq_zero_or_pos n with h0 | h0
    · subst h0
      refine sortstable_of A' 0 c' w1 hm _ (stable_few A' 0 c' w1 (by omega) _ ((ins_none_e A' c' cmpV w1).mono ?_))
      rintro e w2 ⟨rfl, rfl⟩
      have hl0 : l = [] := List.length_eq_zero_iff.1 HLN.out
      subst hl0
      exact ⟨rfl, hb1, hz1 (by simp)⟩
    · obtain ⟨g, rfl, hWg, hgl, hH⟩ := hg1 h0
      refine sortstable_of _ n c' w1 hm _ ((HH.out g c' w1 h0 hH hgl).mono ?_)
      rintro e w2 ⟨rfl, d', hd, hgr, hdl⟩
      refine ⟨rfl, hb1.grown hgr hb1.size (fun k hk => by injection hk with hk; omega), ?_⟩
      have := evs_of_holdE (c := c') hd
      have hz : d'.size = n := by
        have e1 := congrArg List.length hdl
        rw [(ev_sort_perm l).length_eq, HLN.out] at e1
        simpa using e1
      rw [hz, hdl] at this
      exact this
  have HS := Lib.hid hS
  clear hS hg1 hb1 HC HH
  generalize hcv : cmpV = cv at HS
  unfold cmpV at hcv
  subst hcv
  go_wp2_with fail
  refine HS.out.mono ?_
  rintro e w2 ⟨rfl, hF⟩
  go_wp2
  go_ret
  exact ⟨A', c', rfl, hF.1, hF.2⟩
theorem sort_few (A : Option Addr) (n c : Nat) (l : List EvP) (W : World) (h : Evs W A n c l) (h20 : n < 20) :
    Calls Try.prog 18 #[.slice A n c] W fun e w' => ∃ A' c', e = .returned (.slice A' n c') ∧ Below W.heap.size W w' ∧ Evs w' A' n c' (sortE l) := by
  refine sort_of A n c l W h (by omega) (fun g c' w h0 hH hgl => stable_few _ n c' w h20 _ ?_)
  have hz : l.toArray.size = n := by simpa using h.2
  refine (ins_any g c' 0 n n l.toArray w hH hgl hz (by omega) (Nat.le_refl _) (by omega)).mono ?_
  rintro e w' ⟨rfl, h1, h2⟩
  have hm := ins_mrg l.toArray 0 n (by omega) (by omega)
  have hz2 : (insertionSort lessE l.toArray 0 n).size = n := by rw [hm.1.1, hz]
  refine ⟨rfl, _, h1, h2, ?_⟩
  have := sorted_is (d := l.toArray) (d' := insertionSort lessE l.toArray 0 n) (by rw [hz2]; exact hm.2.1) hm.2.2
  simpa using this
end Go.Proofs.Ytedkhjbnjkcemaa

namespace Go.Proofs.Ytedkhjbnjkcemaa
open Go.Sort
set_option linter.unusedVariables false
set_option linter.unusedSimpArgs false

/-- Of two lists, one of which stands ahead of the other one, at most one has any that are alike to k. -/
theorem filter_one {Y X : List EvP} (h : ∀ y ∈ Y, ∀ x ∈ X, lessE y x = true) (k : EvP) : Y.filter (alikeE k) = [] ∨ X.filter (alikeE k) = [] := by
  by_cases hy : Y.filter (alikeE k) = []
  · exact .inl hy
  · by_cases hx : X.filter (alikeE k) = []
    · exact .inr hx
    · obtain ⟨y, hy⟩ := List.exists_mem_of_ne_nil _ hy
      obtain ⟨x, hx⟩ := List.exists_mem_of_ne_nil _ hx
      rw [List.mem_filter] at hx hy
      have h1 := h y hy.1 x hx.1
      have h2 := (alike_not_less hy.2 hx.2).1
      rw [h1] at h2
      cases h2
theorem less_asym {x y : EvP} (h : lessE x y = true) : lessE y x = false := by
  simp only [lessE, decide_eq_true_eq, decide_eq_false_iff_not] at *
  omega
theorem merge_cut {X1 X2 Y1 Y2 : List EvP} (hX : Risen (X1 ++ X2)) (hY : Risen (Y1 ++ Y2)) (h1 : ∀ y ∈ Y1, ∀ x ∈ X2, lessE y x = true) (h2 : ∀ x ∈ X1, ∀ y ∈ Y2, lessE y x = false) :
    sortE (X1 ++ Y1) ++ sortE (X2 ++ Y2) = sortE ((X1 ++ X2) ++ (Y1 ++ Y2)) := by
  obtain ⟨-, -, hXX⟩ := (risen_append _ _).1 hX
  obtain ⟨-, -, hYY⟩ := (risen_append _ _).1 hY
  refine ev_sort_of ((risen_append _ _).2 ⟨ev_sort_risen _, ev_sort_risen _, fun a ha b hb => ?_⟩) (fun k => ?_)
  · have ha' := (ev_sort_perm _).mem_iff.1 ha
    have hb' := (ev_sort_perm _).mem_iff.1 hb
    rcases List.mem_append.1 ha' with p | p <;> rcases List.mem_append.1 hb' with q | q
    · exact hXX a p b q
    · exact h2 a p b q
    · exact less_asym (h1 a p b q)
    · exact hYY a p b q
  · simp only [List.filter_append, ev_sort_alike]
    rcases filter_one h1 k with e | e <;> simp [e]
/-- A single one, put in. -/
theorem merge_left {x : EvP} {Y1 Y2 : List EvP} (hY : Risen (Y1 ++ Y2)) (h1 : ∀ y ∈ Y1, lessE y x = true) (h2 : ∀ y ∈ Y2, lessE y x = false) :
    Y1 ++ x :: Y2 = sortE (x :: (Y1 ++ Y2)) := by
  obtain ⟨r1, r2, hYY⟩ := (risen_append _ _).1 hY
  refine ev_sort_of ((risen_append _ _).2 ⟨r1, ⟨h2, r2⟩, fun a ha b hb => ?_⟩) (fun k => ?_)
  · rcases List.mem_cons.1 hb with rfl | hb
    · exact less_asym (h1 a ha)
    · exact hYY a ha b hb
  · rw [show x :: (Y1 ++ Y2) = [x] ++ (Y1 ++ Y2) from rfl, show Y1 ++ x :: Y2 = Y1 ++ ([x] ++ Y2) from rfl]
    simp only [List.filter_append]
    rcases filter_one (X := [x]) (Y := Y1) (fun y hy z hz => by rw [List.mem_singleton.1 hz]; exact h1 y hy) k with e | e <;> simp [e]
theorem merge_right {y : EvP} {X1 X2 : List EvP} (hX : Risen (X1 ++ X2)) (h1 : ∀ x ∈ X2, lessE y x = true) (h2 : ∀ x ∈ X1, lessE y x = false) :
    X1 ++ y :: X2 = sortE ((X1 ++ X2) ++ [y]) := by
  obtain ⟨r1, r2, hXX⟩ := (risen_append _ _).1 hX
  refine ev_sort_of ((risen_append _ _).2 ⟨r1, ⟨fun b hb => less_asym (h1 b hb), r2⟩, fun a ha b hb => ?_⟩) (fun k => ?_)
  · rcases List.mem_cons.1 hb with rfl | hb
    · exact h2 a ha
    · exact hXX a ha b hb
  · rw [show X1 ++ y :: X2 = X1 ++ ([y] ++ X2) from rfl]
    simp only [List.filter_append]
    rcases filter_one (Y := [y]) (X := X2) (fun z hz x hx => by rw [List.mem_singleton.1 hz]; exact h1 x hx) k with e | e <;> simp [e]
/-! ### Places in a list of parts -/
def atE (d : List EvP) (i : Nat) : EvP := d.getD i EvP.none
theorem atE_mid {P Q : List EvP} {x : EvP} {i : Nat} (h : P.length = i) : atE (P ++ x :: Q) i = x := by
  subst h
  simp [atE]
theorem atE_off {P X Q : List EvP} {i : Nat} (h : P.length ≤ i) (h2 : i < P.length + X.length) : atE (P ++ X ++ Q) i = X[i - P.length]'(by omega) := by
  unfold atE
  rw [List.getD_eq_getElem?_getD, List.append_assoc, List.getElem?_append_right h, List.getElem?_append_left (by omega), List.getElem?_eq_getElem (by omega), Option.getD_some]
theorem risen_get {l : List EvP} (h : Risen l) : ∀ i j (hj : j < l.length) (hi : i ≤ j), lessE l[j] (l[i]'(by omega)) = false := by
  induction l with
  | nil => intro i j hj; simp at hj
  | cons x l ih =>
    intro i j hj hi
    cases j with
    | zero => obtain rfl : i = 0 := by omega
              exact ev_less_irr _
    | succ j =>
      cases i with
      | zero => exact h.1 _ (List.getElem_mem _)
      | succ i => exact ih h.2 i j (by simpa using hj) (by omega)
theorem less_le {a b c : EvP} (h : lessE a b = true) (h' : lessE c b = false) : lessE a c = true := by
  simp only [lessE, decide_eq_true_eq, decide_eq_false_iff_not] at *
  omega
theorem le_less {a b c : EvP} (h : lessE b a = false) (h' : lessE b c = true) : lessE a c = true := by
  simp only [lessE, decide_eq_true_eq, decide_eq_false_iff_not] at *
  omega
/-- Where the search of the merge ends, both parts are cut. -/
theorem sym_cut {P X Y S : List EvP} {a m b mid n start0 r0 start : Nat} (ha : P.length = a) (hm : a + X.length = m) (hb : m + Y.length = b) (ham : a < m) (hmb : m < b) (hmid : mid = (a + b) / 2) (hn : n = mid + m)
    (hc : mid < m ∧ start0 = n - b ∧ r0 = mid ∨ m ≤ mid ∧ start0 = a ∧ r0 = m) (h0 : start0 ≤ start) (h1 : start ≤ r0) (hX : Risen X) (hY : Risen Y)
    (lo : start = start0 ∨ lessE (atE (P ++ X ++ Y ++ S) (n - 1 - (start - 1))) (atE (P ++ X ++ Y ++ S) (start - 1)) = false)
    (hi : start = r0 ∨ lessE (atE (P ++ X ++ Y ++ S) (n - 1 - start)) (atE (P ++ X ++ Y ++ S) start) = true) :
    ∃ X1 X2 Y1 Y2, X = X1 ++ X2 ∧ Y = Y1 ++ Y2 ∧ a + X1.length = start ∧ m + Y1.length = n - start ∧ a ≤ start ∧ start ≤ m ∧ m ≤ n - start ∧ n - start ≤ b ∧
      (∀ y ∈ Y1, ∀ x ∈ X2, lessE y x = true) ∧ (∀ x ∈ X1, ∀ y ∈ Y2, lessE y x = false) := by
  have hgX : ∀ i, a ≤ i → (hi : i < m) → atE (P ++ X ++ Y ++ S) i = X[i - a]'(by omega) := fun i h2 h3 => by
    subst ha
    rw [List.append_assoc]
    exact atE_off h2 (by omega)
  have hgY : ∀ i, m ≤ i → (hi : i < b) → atE (P ++ X ++ Y ++ S) i = Y[i - m]'(by omega) := fun i h2 h3 => by
    have hl : (P ++ X).length = m := by simp; omega
    have := atE_off (P := P ++ X) (X := Y) (Q := S) (i := i) (by omega) (by omega)
    rw [this]
    simp only [hl]
  have b1 : a ≤ start := by omega
  have b2 : start ≤ m := by omega
  have b3 : m ≤ n - start := by omega
  have b4 : n - start ≤ b := by omega
  refine ⟨X.take (start - a), X.drop (start - a), Y.take (n - start - m), Y.drop (n - start - m), (List.take_append_drop ..).symm, (List.take_append_drop ..).symm, by rw [List.length_take]; omega, by rw [List.length_take]; omega, b1, b2, b3, b4, ?_, ?_⟩
  · intro y hy x hx
    obtain ⟨q, hq, rfl⟩ := List.getElem_of_mem hy
    obtain ⟨c, hc', rfl⟩ := List.getElem_of_mem hx
    rw [List.length_take] at hq
    rw [List.length_drop] at hc'
    rw [List.getElem_take, List.getElem_drop]
    rcases hi with e | hi
    · rcases hc with ⟨c1, c2, c3⟩ | ⟨c1, c2, c3⟩ <;> omega
    · have s1 : start < m := by omega
      have s2 : m ≤ n - 1 - start := by omega
      have s3 : n - 1 - start < b := by omega
      rw [hgY _ s2 s3, hgX _ b1 s1] at hi
      have k1 := risen_get hY q (n - 1 - start - m) (by omega) (by omega)
      have k2 := risen_get hX (start - a) (start - a + c) (by omega) (by omega)
      exact le_less k1 (less_le hi k2)
  · intro x hx y hy
    obtain ⟨q, hq, rfl⟩ := List.getElem_of_mem hy
    obtain ⟨c, hc', rfl⟩ := List.getElem_of_mem hx
    rw [List.length_drop] at hq
    rw [List.length_take] at hc'
    rw [List.getElem_take, List.getElem_drop]
    rcases lo with e | lo
    · rcases hc with ⟨c1, c2, c3⟩ | ⟨c1, c2, c3⟩ <;> omega
    · by_cases hs : start = start0
      · rcases hc with ⟨c1, c2, c3⟩ | ⟨c1, c2, c3⟩ <;> omega
      · have s1 : a ≤ start - 1 := by omega
        have s4 : start - 1 < m := by omega
        have s2 : m ≤ n - 1 - (start - 1) := by omega
        have s3 : n - 1 - (start - 1) < b := by omega
        rw [hgY _ s2 s3, hgX _ s1 s4] at lo
        have k1 := risen_get hX c (start - 1 - a) (by omega) (by omega)
        have k2 := risen_get hY (n - 1 - (start - 1) - m) (n - start - m + q) (by omega) (by omega)
        exact ev_less_not k2 (ev_less_not lo k1)
end Go.Proofs.Ytedkhjbnjkcemaa

namespace Go.Proofs.Ytedkhjbnjkcemaa
open Go.Sort
set_option linter.unusedVariables false
set_option linter.unusedSimpArgs false

theorem swp_comm (d : Array EvP) {p q : Nat} (h : p ≠ q) : swp d q p = swp d p q := by
  unfold swp
  rw [Array.setIfInBounds_comm _ _ (Ne.symm h)]
theorem swp_parts {d : Array EvP} {A B C : List EvP} {x z : EvP} {p q : Nat} (h : d.toList = A ++ x :: (B ++ z :: C)) (hp : A.length = p) (hq : p + 1 + B.length = q) :
    (swp d p q).toList = A ++ z :: (B ++ x :: C) ∧ (swp d q p).toList = A ++ z :: (B ++ x :: C) ∧ p < d.size ∧ q < d.size := by
  have hl : d.size = d.toList.length := by simp
  rw [h] at hl
  simp only [List.length_append, List.length_cons] at hl
  have h1 : p < d.size := by omega
  have h2 : q < d.size := by omega
  have e1 : d[p]! = x := by
    rw [getElem!_pos d p h1, ← Array.getElem_toList]
    simp only [h]
    subst hp
    simp
  have e2 : d[q]! = z := by
    rw [getElem!_pos d q h2, ← Array.getElem_toList]
    simp only [h]
    have : (A ++ x :: (B ++ z :: C)) = (A ++ x :: B) ++ z :: C := by simp
    simp only [this]
    rw [List.getElem_append_right (by simp; omega)]
    have e : q - (A ++ x :: B).length = 0 := by simp; omega
    simp only [e, List.getElem_cons_zero]
  have k : (swp d p q).toList = A ++ z :: (B ++ x :: C) := by
    unfold swp
    rw [e1, e2, Array.toList_setIfInBounds, Array.toList_setIfInBounds, h]
    have e : A ++ x :: (B ++ z :: C) = (A ++ x :: B) ++ z :: C := by simp
    subst hp
    rw [List.set_append_right _ _ (Nat.le_refl _), Nat.sub_self, List.set_cons_zero]
    rw [show A ++ z :: (B ++ z :: C) = (A ++ z :: B) ++ z :: C by simp, List.set_append_right _ _ (by simp; omega)]
    rw [show q - (A ++ z :: B).length = 0 by simp; omega, List.set_cons_zero]
    simp
  exact ⟨k, by rw [swp_comm d (by omega)]; exact k, h1, h2⟩
theorem at_list (d : Array EvP) {i : Nat} (hi : i < d.size) : d[i]! = atE d.toList i := by
  rw [getElem!_pos d i hi, atE, List.getD_eq_getElem?_getD, List.getElem?_eq_getElem (by simpa using hi), Option.getD_some]
  simp
/-- A list, cut at a place. -/
theorem cut_at {α : Type} (l : List α) (n : Nat) (h : n ≤ l.length) : ∃ A B, l = A ++ B ∧ A.length = n := ⟨l.take n, l.drop n, (List.take_append_drop ..).symm, by rw [List.length_take]; omega⟩
theorem cut_last {α : Type} (l : List α) (h : 0 < l.length) : ∃ A x, l = A ++ [x] := ⟨l.dropLast, l.getLast (by intro e; simp [e] at h), (List.dropLast_concat_getLast _).symm⟩
theorem cut_head {α : Type} (l : List α) (h : 0 < l.length) : ∃ x A, l = x :: A := by
  cases l with
  | nil => simp at h
  | cons x A => exact ⟨x, A, rfl⟩
/-- The search of one, put in from the left: where it ends. -/
theorem one_left {P Y S : List EvP} {x : EvP} {a m b i : Nat} (ha : P.length = a) (hm : m = a + 1) (hb : m + Y.length = b) (h0 : m ≤ i) (h1 : i ≤ b) (hY : Risen Y)
    (lo : i = m ∨ lessE (atE (P ++ [x] ++ Y ++ S) (i - 1)) x = true) (hi : i = b ∨ lessE (atE (P ++ [x] ++ Y ++ S) i) x = false) :
    ∃ Y1 Y2, Y = Y1 ++ Y2 ∧ m + Y1.length = i ∧ Y1 ++ x :: Y2 = sortE ([x] ++ Y) := by
  have hgY : ∀ i, (hl0 : m ≤ i) → (hi : i < b) → atE (P ++ [x] ++ Y ++ S) i = Y[i - m]'(by omega) := fun i h2 h3 => by
    have hl : (P ++ [x]).length = m := by simp; omega
    have := atE_off (P := P ++ [x]) (X := Y) (Q := S) (i := i) (by omega) (by omega)
    rw [this]
    simp only [hl]
  obtain ⟨Y1, Y2, rfl, hl⟩ := cut_at Y (i - m) (by omega)
  refine ⟨Y1, Y2, rfl, by omega, merge_left hY (fun y hy => ?_) (fun y hy => ?_)⟩
  · obtain ⟨q, hq, rfl⟩ := List.getElem_of_mem hy
    rcases lo with e | lo
    · omega
    · rw [hgY _ (by omega) (by omega)] at lo
      have k := risen_get hY q (i - 1 - m) (by omega) (by omega)
      rw [List.getElem_append_left (by omega : q < Y1.length)] at k
      exact le_less k lo
  · obtain ⟨q, hq, rfl⟩ := List.getElem_of_mem hy
    rw [List.length_append] at hb
    rcases hi with e | hi
    · omega
    · rw [hgY _ (by omega) (by omega)] at hi
      have k := risen_get hY (i - m) (i - m + q) (by rw [List.length_append]; omega) (by omega)
      have e : (Y1 ++ Y2)[i - m + q]'(by rw [List.length_append]; omega) = Y2[q] := by
        rw [List.getElem_append_right (by omega)]
        simp only [hl, Nat.add_sub_cancel_left]
      rw [e] at k
      exact ev_less_not k hi
theorem one_right {P X S : List EvP} {y : EvP} {a m i : Nat} (ha : P.length = a) (hm : a + X.length = m) (h0 : a ≤ i) (h1 : i ≤ m) (hX : Risen X)
    (lo : i = a ∨ lessE y (atE (P ++ X ++ [y] ++ S) (i - 1)) = false) (hi : i = m ∨ lessE y (atE (P ++ X ++ [y] ++ S) i) = true) :
    ∃ X1 X2, X = X1 ++ X2 ∧ a + X1.length = i ∧ X1 ++ y :: X2 = sortE (X ++ [y]) := by
  have hgX : ∀ i, (hl0 : a ≤ i) → (hi : i < m) → atE (P ++ X ++ [y] ++ S) i = X[i - a]'(by omega) := fun i h2 h3 => by
    subst ha
    rw [List.append_assoc]
    exact atE_off h2 (by omega)
  obtain ⟨X1, X2, rfl, hl⟩ := cut_at X (i - a) (by omega)
  refine ⟨X1, X2, rfl, by omega, merge_right hX (fun x hx => ?_) (fun x hx => ?_)⟩
  · obtain ⟨q, hq, rfl⟩ := List.getElem_of_mem hx
    rw [List.length_append] at hm
    rcases hi with e | hi
    · omega
    · rw [hgX _ (by omega) (by omega)] at hi
      have k := risen_get hX (i - a) (i - a + q) (by rw [List.length_append]; omega) (by omega)
      have e : (X1 ++ X2)[i - a + q]'(by rw [List.length_append]; omega) = X2[q] := by
        rw [List.getElem_append_right (by omega)]
        simp only [hl, Nat.add_sub_cancel_left]
      rw [e] at k
      exact less_le hi k
  · obtain ⟨q, hq, rfl⟩ := List.getElem_of_mem hx
    rcases lo with e | lo
    · omega
    · rw [hgX _ (by omega) (by omega)] at lo
      have k := risen_get hX q (i - 1 - a) (by omega) (by omega)
      rw [List.getElem_append_left (by omega : q < X1.length)] at k
      exact ev_less_not lo k
end Go.Proofs.Ytedkhjbnjkcemaa

namespace Go.Proofs.Ytedkhjbnjkcemaa
open Go.Sort
set_option linter.unusedVariables false
set_option linter.unusedSimpArgs false

/-- A list, each block of bs in order. -/
def chs (bs : Nat) (l : List EvP) : List EvP := if h : 0 < bs ∧ l ≠ [] then sortE (l.take bs) ++ chs bs (l.drop bs) else []
termination_by l.length
decreasing_by
  have := List.length_pos_iff.2 h.2
  simp only [List.length_drop]
  omega
theorem chs_nil (bs : Nat) : chs bs [] = [] := by
  rw [chs, dif_neg (fun h => h.2 rfl)]
theorem chs_step {bs : Nat} (B r : List EvP) (hb : 0 < bs) (hB : B.length = bs) : chs bs (B ++ r) = sortE B ++ chs bs r := by
  rw [chs, dif_pos ⟨hb, fun e => by simp only [List.append_eq_nil_iff] at e; rw [e.1] at hB; simp at hB; omega⟩]
  subst hB
  rw [List.take_left, List.drop_left]
theorem chs_few {bs : Nat} (r : List EvP) (hb : 0 < bs) (h : r.length ≤ bs) : chs bs r = sortE r := by
  by_cases e : r = []
  · subst e
    rw [chs_nil]
    rfl
  · rw [chs, dif_pos ⟨hb, e⟩, List.take_of_length_le h, List.drop_eq_nil_of_le h, chs_nil, List.append_nil]
theorem sortE_join (A B : List EvP) : sortE (sortE A ++ sortE B) = sortE (A ++ B) :=
  ev_sort_of (ev_sort_risen _) (fun k => by rw [ev_sort_alike, List.filter_append, ev_sort_alike, ev_sort_alike, List.filter_append])
theorem sortE_len (l : List EvP) : (sortE l).length = l.length := (ev_sort_perm l).length_eq
theorem chs_len (bs : Nat) (hb : 0 < bs) : ∀ (n : Nat) (l : List EvP), l.length ≤ n → (chs bs l).length = l.length
  | 0, l, h => by
    have e : l = [] := List.length_eq_zero_iff.1 (by omega)
    subst e
    rw [chs_nil]
  | n + 1, l, h => by
    by_cases e : l.length ≤ bs
    · rw [chs_few l hb e, sortE_len]
    · obtain ⟨A, B, rfl, hA⟩ := cut_at l bs (by omega)
      rw [chs_step A B hb hA, List.length_append, List.length_append, sortE_len, chs_len bs hb n B (by rw [List.length_append] at h; omega)]
/-- Two blocks merged. -/
theorem chs_two {bs : Nat} (B1 B2 r : List EvP) (hb : 0 < bs) (h1 : B1.length = bs) (h2 : B2.length = bs) :
    chs bs (B1 ++ (B2 ++ r)) = sortE B1 ++ (sortE B2 ++ chs bs r) ∧ chs (2 * bs) (B1 ++ (B2 ++ r)) = sortE (sortE B1 ++ sortE B2) ++ chs (2 * bs) r := by
  refine ⟨by rw [chs_step _ _ hb h1, chs_step _ _ hb h2], ?_⟩
  rw [← List.append_assoc, chs_step (B1 ++ B2) r (by omega) (by rw [List.length_append]; omega), sortE_join]
theorem chs_rest {bs : Nat} (B1 B2 : List EvP) (hb : 0 < bs) (h1 : B1.length = bs) (h2 : B2.length ≤ bs) :
    chs bs (B1 ++ B2) = sortE B1 ++ sortE B2 ∧ chs (2 * bs) (B1 ++ B2) = sortE (sortE B1 ++ sortE B2) := by
  refine ⟨by rw [chs_step _ _ hb h1, chs_few B2 hb h2], ?_⟩
  rw [chs_few _ (by omega) (by rw [List.length_append]; omega), sortE_join]
theorem atE_left {P Q : List EvP} {i : Nat} (h : i < P.length) : atE (P ++ Q) i = P[i] := by
  unfold atE
  rw [List.getD_eq_getElem?_getD, List.getElem?_append_left h, List.getElem?_eq_getElem h, Option.getD_some]
theorem atE_right {P Q : List EvP} {i j : Nat} (h : P.length + j = i) (hj : j < Q.length) : atE (P ++ Q) i = Q[j] := by
  subst h
  unfold atE
  rw [List.getD_eq_getElem?_getD, List.getElem?_append_right (by omega), Nat.add_sub_cancel_left, List.getElem?_eq_getElem hj, Option.getD_some]
/-- What the insertion sort makes of a part, as lists. -/
theorem mrg_list {d d' : Array EvP} {P X S : List EvP} {a b : Nat} (h : Mrg a b d d') (hd : d.toList = P ++ (X ++ S)) (ha : P.length = a) (hb : a + X.length = b) : d'.toList = P ++ (sortE X ++ S) := by
  obtain ⟨⟨h1, h2, h3⟩, hs, hst⟩ := h
  have e := congrArg List.length hd
  simp only [List.length_append, Array.length_toList] at e
  obtain ⟨P', R, hd1, hP'⟩ := cut_at d'.toList a (by simp; omega)
  have e1 := congrArg List.length hd1
  simp only [List.length_append, Array.length_toList] at e1
  obtain ⟨X', S', rfl, hX'⟩ := cut_at R X.length (by omega)
  rw [List.length_append] at e1
  have at1 : ∀ i, i < d'.size → (i < a ∨ b ≤ i) → atE (P' ++ (X' ++ S')) i = atE (P ++ (X ++ S)) i := fun i hi ho => by
    rw [← hd1, ← hd, ← at_list d' hi, ← at_list d (by omega), h2 i ho]
  have eP : P' = P := List.ext_getElem (by omega) (fun i i1 i2 => by
    have := at1 i (by omega) (.inl (by omega))
    rwa [atE_left i1, atE_left i2] at this)
  have eS : S' = S := List.ext_getElem (by omega) (fun i i1 i2 => by
    have := at1 (b + i) (by omega) (.inr (by omega))
    rw [← List.append_assoc, ← List.append_assoc, atE_right (P := P' ++ X') (j := i) (by rw [List.length_append]; omega) i1, atE_right (P := P ++ X) (j := i) (by rw [List.length_append]; omega) i2] at this
    exact this)
  subst eP eS
  have hr : Risen X' := risen_of_sorted X' (fun i j hj hi => by
    have := hs (a + i) (a + j) (by omega) (by omega) (by omega)
    rw [at_list d' (by omega), at_list d' (by omega), hd1, atE_right (j := j) (by omega) (by rw [List.length_append]; omega), atE_right (j := i) (by omega) (by rw [List.length_append]; omega), List.getElem_append_left hj, List.getElem_append_left (by omega)] at this
    exact this)
  have hf : ∀ k, X'.filter (alikeE k) = X.filter (alikeE k) := fun k => by
    have := hst k
    rw [hd1, hd] at this
    simp only [List.filter_append] at this
    exact List.append_cancel_right (List.append_cancel_left this)
  rw [hd1, ← ev_sort_of hr hf]
end Go.Proofs.Ytedkhjbnjkcemaa

namespace Go.Proofs.Ytedkhjbnjkcemaa
open Go.RowKit Go.Sort
set_option linter.unusedVariables false
set_option linter.unusedSimpArgs false
set_option maxRecDepth 1000000

theorem swk_size {w0 w : World} {g : Nat} {d : Array EvP} {l : List EvP} (h : d.toList = l) : d.size = l.length := by rw [← h]; simp
set_option maxHeartbeats 4000000 in
theorem swaprange_any (k : Nat) (hk : k = 11) (g cap a b n N : Nat) (P X Y Z T : List EvP) (d0 d : Array EvP) (w0 w : World) (R : RowK encE k w0 g 0 d0) (hs : d0.size = N) (hd : d.toList = P ++ (X ++ (Y ++ (Z ++ T)))) (hP : P.length = a) (hX : X.length = n) (hb : a + n + Y.length = b) (hZ : Z.length = n)
    (hN : d.size = N) (hsz : N ≤ 1000000) (S : SWK encE k w0 g 0 d w) :
    Calls Try.prog 116 #[.slice (some ⟨g, 0, none⟩) N cap, .int .i64 a, .int .i64 b, .int .i64 n, cmpV] w fun e w' => e = .returned (.tuple #[]) ∧ ∃ d' : Array EvP, d'.toList = P ++ (Z ++ (Y ++ (X ++ T))) ∧ SWK encE k w0 g 0 d' w' := by
  have mixed : Try.prog.follows .mixedOrders = true := by kernel_rfl
  have aE := Try.isAgg33
  have zE : ∀ w, (Go.sizeOf 33).run Try.prog w = .ok k w := fun w => by rw [hk]; exact Try.sizeOf33 w
  have HK := Lib.hid hk
  have S0 := Lib.hid S
  have HD := Lib.hid hd
  have hN2 := hN
  rw [swk_size (w0 := w0) (w := w) (g := g) hd] at hN2
  simp only [List.length_append] at hN2
  clear S hd hk
  generalize cmpV = cv at *
  go_enter Try.func116, Try.ntmps116
  go_wp2
  go_loopg [10] n (fun kx s10 wr => ∃ (i : Nat) (X1 X2 Z1 Z2 : List EvP) (dk : Array EvP), s10 = .int .i64 i ∧ i + kx = n ∧ Hid (X = X1 ++ X2) ∧ Hid (Z = Z1 ++ Z2) ∧ X1.length = i ∧ Z1.length = i ∧ dk.size = N ∧ Hid (dk.toList = P ++ (Z1 ++ (X2 ++ (Y ++ (X1 ++ (Z2 ++ T)))))) ∧ Hid (SWK encE k w0 g 0 dk wr))
  case atStart => exact ⟨0, [], X, [], Z, d, rfl, by omega, rfl, rfl, rfl, rfl, hN, HD, S0⟩
  case round =>
    clear S0 HD
    obtain ⟨i, X1, X2, Z1, Z2, dk, rfl, hi, HX, HZ, hX1, hZ1, hdk, HD, S1⟩ := hrel
    have lX := congrArg List.length HX.out
    have lZ := congrArg List.length HZ.out
    rw [List.length_append] at lX lZ
    by_cases hlt : i < n
    · have hlt2 : (i : Int) < (n : Int) := by omega
      obtain ⟨x, X2', rfl⟩ := cut_head X2 (by omega)
      obtain ⟨z, Z2', rfl⟩ := cut_head Z2 (by omega)
      rw [List.length_cons] at lX lZ
      have hd2 : dk.toList = (P ++ Z1) ++ x :: ((X2' ++ (Y ++ X1)) ++ z :: (Z2' ++ T)) := by rw [HD.out]; simp
      obtain ⟨k1, -, p1, p2⟩ := swp_parts (p := a + i) (q := b + i) hd2 (by rw [List.length_append]; omega) (by simp only [List.length_append]; omega)
      have K1 := Lib.hid k1
      clear k1 hd2 HD
      have ea44 : ((a : Int) + (i : Int)).toNat = a + i := by omega
      have pa44 : (0 : Int) ≤ (a : Int) + (i : Int) := by omega
      have ba44 : (a : Int) + (i : Int) < (N : Int) := by omega
      have ra44 : IntKind.i64.wrap ((a : Int) + (i : Int)) = (a : Int) + (i : Int) := by rw [IntKind.wrap_i64]; omega
      have ec44 : ((b : Int) + (i : Int)).toNat = b + i := by omega
      have pc44 : (0 : Int) ≤ (b : Int) + (i : Int) := by omega
      have bc44 : (b : Int) + (i : Int) < (N : Int) := by omega
      have rc44 : IntKind.i64.wrap ((b : Int) + (i : Int)) = (b : Int) + (i : Int) := by rw [IntKind.wrap_i64]; omega
      go_wp2_with fail
      have S2 := Lib.hid (S1.out.swapped R (a + i) (b + i) (by omega) (by omega))
      have l44a := S1.out.ld1 R (by omega) Try.prog (a + i) (by omega)
      have l44b := S1.out.ld1 R (by omega) Try.prog (b + i) (by omega)
      have s44a := S1.out.st1 R (by omega) Try.prog (a + i) (by omega) dk[b + i]!
      have s44b := S1.out.st2 R (by omega) Try.prog (a + i) (b + i) (by omega) (by omega) dk[b + i]! dk[a + i]!
      have n44a : (encE dk[a + i]!).length = k := R.hk _
      have n44b : (encE dk[b + i]!).length = k := R.hk _
      generalize encE dk[a + i]! = cI44 at S2 l44a s44b n44a
      generalize encE dk[b + i]! = cJ44 at S2 l44b s44a s44b n44b
      clear S1
      simp only [Nat.zero_add] at S2 l44a l44b s44a s44b
      go_wp2_with fail
      go_big_region_o
      clear l44a l44b s44a s44b
      generalize (wr.drew.setCells g ((a + i) * k) cJ44).setCells g ((b + i) * k) cI44 = w2 at S2 ⊢
      have hsz2 : (swp dk (a + i) (b + i)).size = N := by rw [size_swp]; exact hdk
      go_wp2
      go_roundg (n - (i + 1))
      case measure => omega
      case rel => exact ⟨i + 1, X1 ++ [x], X2', Z1 ++ [z], Z2', _, by simp, by omega, Lib.hid (by rw [HX.out]; simp), Lib.hid (by rw [HZ.out]; simp), by simp; omega, by simp; omega, hsz2, Lib.hid (by rw [K1.out]; simp), S2⟩
    · have hlt2 : ¬ (i : Int) < (n : Int) := by omega
      have e1 : X2 = [] := List.length_eq_zero_iff.1 (by omega)
      have e2 : Z2 = [] := List.length_eq_zero_iff.1 (by omega)
      subst e1 e2
      have hfin := HD.out
      simp only [List.nil_append] at hfin
      have eX := HX.out
      have eZ := HZ.out
      rw [List.append_nil] at eX eZ
      rw [← eX, ← eZ] at hfin
      clear HX HZ HD eX eZ
      go_wp2
      go_end0
      exact ⟨rfl, dk, hfin, S1.out⟩
set_option maxHeartbeats 4000000 in
theorem rotate_any (k : Nat) (hk : k = 11) (g cap a m b N : Nat) (P X Y T : List EvP) (d0 d : Array EvP) (w0 w : World) (R : RowK encE k w0 g 0 d0) (hs : d0.size = N) (hd : d.toList = P ++ (X ++ (Y ++ T))) (hP : P.length = a) (hX : a + X.length = m) (hY : m + Y.length = b) (hX0 : 0 < X.length) (hY0 : 0 < Y.length)
    (hN : d.size = N) (hsz : N ≤ 1000000) (S : SWK encE k w0 g 0 d w) :
    Calls Try.prog 104 #[.slice (some ⟨g, 0, none⟩) N cap, .int .i64 a, .int .i64 m, .int .i64 b, cmpV] w fun e w' => e = .returned (.tuple #[]) ∧ ∃ d' : Array EvP, d'.toList = P ++ (Y ++ (X ++ T)) ∧ SWK encE k w0 g 0 d' w' := by
  have S0 := Lib.hid S
  have HD := Lib.hid hd
  have HR := Lib.hid R
  have HS := Lib.hid hs
  have HK := Lib.hid hk
  have hN2 := hN
  rw [swk_size (w0 := w0) (w := w) (g := g) hd] at hN2
  simp only [List.length_append] at hN2
  have e1 : (m : Int) - (a : Int) = (X.length : Int) := by omega
  have e2 : (b : Int) - (m : Int) = (Y.length : Int) := by omega
  obtain ⟨F, hF⟩ : ∃ F, P ++ (Y ++ (X ++ T)) = F := ⟨_, rfl⟩
  rw [hF]
  have HF := Lib.hid hF
  clear S hd R hs hk hF
  have HSW := Lib.hid (fun (n a b : Nat) (P X Y Z T : List EvP) (d : Array EvP) (w : World) hd hP hX hb hZ hN S => swaprange_any k HK.out g cap a b n N P X Y Z T d0 d w0 w HR.out HS.out hd hP hX hb hZ hN hsz S)
  generalize cmpV = cv at *
  generalize hx : X.length = x at *
  generalize hy : Y.length = y at *
  go_enter Try.func104, Try.ntmps104
  go_wp2
  go_loopg [10, 11] (x + y) (fun kx s10 s11 wr => ∃ (i j : Nat) (P' X' Y' T' : List EvP) (dk : Array EvP), s10 = .int .i64 i ∧ s11 = .int .i64 j ∧ i + j = kx ∧ 0 < i ∧ 0 < j ∧ X'.length = i ∧ Y'.length = j ∧ P'.length + i = m ∧ m + j + T'.length = N ∧ dk.size = N ∧ Hid (dk.toList = P' ++ (X' ++ (Y' ++ T'))) ∧ Hid (P' ++ (Y' ++ (X' ++ T')) = F) ∧ Hid (SWK encE k w0 g 0 dk wr))
  case atStart => exact ⟨x, y, P, X, Y, T, d, rfl, rfl, rfl, hX0, hY0, hx, hy, by omega, by omega, hN, HD, HF, S0⟩
  case round =>
    clear S0 HD HF
    obtain ⟨i, j, P', X', Y', T', dk, rfl, rfl, hkx, hi0, hj0, hX1, hY1, hP1, hT1, hdk, HD, HF, S1⟩ := hrel
    have ep : (m : Int) - (i : Int) = ((P'.length : Nat) : Int) := by omega
    by_cases hij : i = j
    · subst hij
      have hcall := HSW.out i P'.length m P' X' [] Y' T' dk wr (by rw [HD.out]; simp) rfl hX1 (by simp; omega) hY1 hdk S1.out
      rw [← ep] at hcall
      have HC := Lib.hid hcall
      clear hcall ep
      go_wp2_with fail
      refine HC.out.mono ?_
      rintro e w5 ⟨rfl, d5, h5, S5⟩
      go_wp2
      go_end0
      exact ⟨rfl, d5, by rw [h5, ← HF.out]; simp, S5⟩
    · have hne : ¬ (i : Int) = (j : Int) := by omega
      by_cases hgt : j < i
      · have hgt2 : (j : Int) < (i : Int) := by omega
        obtain ⟨X1, X2, rfl, hl1⟩ := cut_at X' j (by omega)
        rw [List.length_append] at hX1
        have hcall := HSW.out j P'.length m P' X1 X2 Y' T' dk wr (by rw [HD.out]; simp) rfl hl1 (by omega) hY1 hdk S1.out
        rw [← ep] at hcall
        have HC := Lib.hid hcall
        have ed : (i : Int) - (j : Int) = ((i - j : Nat) : Int) := by omega
        clear hcall ep
        go_wp2_with fail
        refine HC.out.mono ?_
        rintro e w5 ⟨rfl, d5, h5, S5⟩
        go_wp2
        have hsz5 : d5.size = N := by rw [swk_size (w0 := w0) (w := w) (g := g) h5]; simp only [List.length_append]; omega
        go_roundg (i - j + j)
        case measure => omega
        case rel => exact ⟨i - j, j, P' ++ Y', X2, X1, T', d5, rfl, rfl, rfl, by omega, hj0, by omega, hl1, by rw [List.length_append]; omega, hT1, hsz5, Lib.hid (by rw [h5] <;> simp), Lib.hid (by rw [← HF.out] <;> simp), Lib.hid S5⟩
      · have hgt2 : ¬ (j : Int) < (i : Int) := by omega
        obtain ⟨Y1, Y2, rfl, hl1⟩ := cut_at Y' (j - i) (by omega)
        rw [List.length_append] at hY1
        have ep2 : (m : Int) + (j : Int) - (i : Int) = ((m + j - i : Nat) : Int) := by omega
        have hcall := HSW.out i P'.length (m + j - i) P' X' Y1 Y2 T' dk wr (by rw [HD.out]; simp) rfl hX1 (by omega) (by omega) hdk S1.out
        rw [← ep, ← ep2] at hcall
        have HC := Lib.hid hcall
        have ed : (j : Int) - (i : Int) = ((j - i : Nat) : Int) := by omega
        clear hcall ep ep2
        go_wp2_with fail
        refine HC.out.mono ?_
        rintro e w5 ⟨rfl, d5, h5, S5⟩
        go_wp2
        have hsz5 : d5.size = N := by rw [swk_size (w0 := w0) (w := w) (g := g) h5]; simp only [List.length_append]; omega
        go_roundg (i + (j - i))
        case measure => omega
        case rel => exact ⟨i, j - i, P', Y2, Y1, X' ++ T', d5, rfl, rfl, rfl, hi0, by omega, by omega, by omega, hP1, by rw [List.length_append]; omega, hsz5, Lib.hid (by rw [h5] <;> simp), Lib.hid (by rw [← HF.out] <;> simp), Lib.hid S5⟩
end Go.Proofs.Ytedkhjbnjkcemaa

namespace Go.Proofs.Ytedkhjbnjkcemaa
open Go.RowKit
set_option linter.unusedVariables false
set_option linter.unusedSimpArgs false

/-- What stood at the blocks F is as it was. -/
structure Kept (F : Nat → Prop) (w w' : World) : Prop where
  os : w'.os = w.os
  tape : w'.tape = w.tape
  output : w'.output = w.output
  size : w.heap.size ≤ w'.heap.size
  block : ∀ b, F b → w'.heap[b]? = w.heap[b]?
theorem Kept.refl (F : Nat → Prop) (w : World) : Kept F w w := ⟨rfl, rfl, rfl, Nat.le_refl _, fun _ _ => rfl⟩
section
variable {F G : Nat → Prop} {a b c w w' : World}
theorem Kept.on (h : Kept F a b) (k : Kept F b c) : Kept F a c :=
  ⟨k.os.trans h.os, k.tape.trans h.tape, k.output.trans h.output, Nat.le_trans h.size k.size, fun i hi => (k.block i hi).trans (h.block i hi)⟩
theorem Kept.less (h : Kept F a b) (hF : ∀ i, G i → F i) : Kept G a b := ⟨h.os, h.tape, h.output, h.size, fun i hi => h.block i (hF i hi)⟩
theorem Kept.of_below (h : Below w.heap.size w w') (hF : ∀ i, F i → i < w.heap.size) : Kept F w w' := ⟨h.os, h.tape, h.output, h.size, fun i hi => h.block i (hF i hi)⟩
theorem Kept.below {B : Nat} (h : Kept F a b) (hF : ∀ i, i < B → F i) : Below B a b := ⟨h.os, h.tape, h.output, h.size, fun i hi => h.block i (hF i hi)⟩
end
/-- All that stood is as it was, but for the blocks M. -/
def Chg (M : Nat → Prop) (w w' : World) : Prop := Kept (fun b => b < w.heap.size ∧ ¬ M b) w w'
section
variable {M : Nat → Prop} {a w w' : World}
theorem Chg.refl (M : Nat → Prop) (w : World) : Chg M w w := Kept.refl _ _
theorem Chg.size (h : Chg M w w') : w.heap.size ≤ w'.heap.size := Kept.size h
theorem Chg.on (h : Chg M a w) (k : Chg M w w') : Chg M a w' :=
  Kept.on h (Kept.less k fun i hi => ⟨Nat.lt_of_lt_of_le hi.1 (Kept.size h), hi.2⟩)
theorem Chg.of_below (h : Below w.heap.size w w') : Chg M w w' := Kept.of_below h fun _ hi => hi.1
theorem Chg.onB (h : Chg M a w) (k : Below w.heap.size w w') : Chg M a w' := h.on (.of_below k)
theorem Chg.alloc (h : Chg M a w) (o : Obj) : Chg M a (w.alloc o) := h.onB (bel_alloc (Below.refl _ _) _)
theorem Chg.none (h : Chg (fun _ => False) a w) : Below a.heap.size a w := Kept.below h fun _ hi => ⟨hi, fun x => x⟩
theorem Chg.below {B : Nat} (h : Chg M a w) (hB : B ≤ a.heap.size) (hM : ∀ i, M i → B ≤ i) : Below B a w := Kept.below h fun i hi => ⟨by omega, fun x => by have := hM i x; omega⟩
theorem Chg.set (h : Chg M a w) {p : Addr} (hp : a.heap.size ≤ p.block ∨ M p.block) (v : Value) : Chg M a (w.setCell p v) := by
  refine ⟨h.os, h.tape, h.output, ?_, fun b hb => ?_⟩
  · have := Kept.size h
    simp [World.setCell]
    exact this
  · rw [Below.heap_setCell w p v b (by rintro rfl; rcases hp with hp | hp; omega; exact hb.2 hp)]
    exact Kept.block h b hb
theorem Has.chg {g : Nat} {cs : Array Value} (h : Has w g cs) (hM : ¬ M g) (k : Chg M w w') : Has w' g cs := by
  have hl := h.size
  obtain ⟨t, h⟩ := h
  exact ⟨t, (Kept.block k g ⟨hl, hM⟩).trans h⟩
theorem Has.kept {F : Nat → Prop} {g : Nat} {cs : Array Value} (h : Has w g cs) (hF : F g) (k : Kept F w w') : Has w' g cs := by
  obtain ⟨t, h⟩ := h
  exact ⟨t, (k.block g hF).trans h⟩
end
/-- All below n. -/
def allP (p : Nat → Bool) (n : Nat) : Bool := (List.range n).all p
theorem allP_succ (p : Nat → Bool) (n : Nat) : allP p (n + 1) = (allP p n && p n) := by simp [allP, List.range_succ]
theorem allP_bad {p : Nat → Bool} {n i : Nat} (h : i < n) (hp : p i = false) : allP p n = false := by
  unfold allP
  rw [List.all_eq_false]
  exact ⟨i, List.mem_range.2 h, by rw [hp]; simp⟩
theorem allP_iff {p : Nat → Bool} {n : Nat} : allP p n = true ↔ ∀ i, i < n → p i = true := by simp [allP]
end Go.Proofs.Ytedkhjbnjkcemaa

namespace Go.Proofs.Ytedkhjbnjkcemaa
open Go.RowKit Go.Deep Go.WideShapes
set_option linter.unusedVariables false
set_option maxRecDepth 20000

theorem nums_at {P : Program} {t : TypeId} {k : Nat} (h : NumsT P t k) (hk : P.cellsOf t = k) : NumsT P t (P.cellsOf t) := by rw [hk]; exact h
theorem numsT_int : NumsT Try.prog 3 1 := alli_int Try.underlying3
theorem numsT_ratio : NumsT Try.prog 24 2 := alli_struct Try.underlying24 (by kernel_rfl)
  ⟨rfl, nums_at numsT_int (by kernel_rfl), by kernel_rfl, nums_at numsT_int (by kernel_rfl), by change _ = _; kernel_rfl⟩
theorem numsT_way : NumsT Try.prog 92 3 := alli_struct Try.underlying92 (by kernel_rfl)
  ⟨rfl, nums_at numsT_int (by kernel_rfl), by kernel_rfl, nums_at numsT_int (by kernel_rfl), by kernel_rfl, nums_at numsT_int (by kernel_rfl), by change _ = _; kernel_rfl⟩
theorem numsT_tier : NumsT Try.prog 103 2 := alli_struct Try.underlying103 (by kernel_rfl)
  ⟨rfl, nums_at numsT_int (by kernel_rfl), by kernel_rfl, nums_at numsT_int (by kernel_rfl), by change _ = _; kernel_rfl⟩
theorem numsT_element : NumsT Try.prog 96 4 := alli_struct Try.underlying96 (by kernel_rfl)
  ⟨rfl, nums_at numsT_ratio (by kernel_rfl), by kernel_rfl, nums_at numsT_ratio (by kernel_rfl), by change _ = _; kernel_rfl⟩
theorem setup_open {H : Type} {enc : TypeId × Value → H} {w : World} {r : Reach} {b0 base : Nat} {held : Bool} {v : Value} {d : DataW H} {p : List MemPlace}
    (hv : Value.okWide Try.prog w r b0 30 v) (h : DataW.Trod enc Try.prog w base (fun _ => true) held 30 v d p) :
    ∃ (s : SetP) (A1 A2 A3 A4 A5 A6 : Option Addr) (c1 c2 c3 c4 c5 c6 : Nat), v = setV s A1 A2 A3 A4 A5 A6 c1 c2 c3 c4 c5 c6 ∧ SetAt w s A1 A2 A3 A4 A5 A6 c1 c2 c3 c4 c5 c6 ∧ s.Fit :=
  open_setup Try.underlying30 (by kernel_rfl) (by kernel_rfl) Try.underlying3 (by kernel_rfl) Try.underlying22 numsT_way (by kernel_rfl) numsT_ratio
    Try.underlying25 numsT_element (by kernel_rfl) Try.underlying26 numsT_ratio (by kernel_rfl) Try.underlying27 Try.underlying28 numsT_tier (by kernel_rfl) hv h
end Go.Proofs.Ytedkhjbnjkcemaa
