/-
  What follows of the weeks that a correction touches, plain: for FixesTouch.
-/
import Derived.Test.YtedkhjbnjkcemaaFixPq
namespace Go.Proofs.Ytedkhjbnjkcemaa
open Go.RowKit Go.Deep Go.WideShapes
set_option linter.unusedVariables false
set_option linter.unusedSimpArgs false

theorem moved_1 (l : List EvP) (x : EvP) : movedE l 1 x = [x] := by simp [movedE]
theorem moved_2 {l : List EvP} {x : EvP} : movedE l 2 x = if (ixE l x.id).isSome = true then [findE l x.id] else [] := by
  unfold movedE findE
  cases h : ixE l x.id <;> simp
theorem moved_3 {l : List EvP} {x : EvP} : movedE l 3 x = (if (ixE l x.id).isSome = true then [findE l x.id] else []) ++ [x] := by
  unfold movedE findE
  cases h : ixE l x.id <;> simp
theorem moved_0 {l : List EvP} {k : Int} {x : EvP} (h : ¬ (k = 1 ∨ k = 2 ∨ k = 3)) : movedE l k x = [] := by
  unfold movedE
  rw [if_neg (by omega), if_neg (by omega)]
  rfl
/-- A key that is touched is of a week that the event was in, or is in. -/
theorem touched_was {u c : Int} {l : List EvP} {k : Int} {x : EvP} {q : KeyP} (h : q ∈ touchedK u c (movedE l k x)) :
    ((ixE l x.id).isSome = true ∧ k ≠ 1 ∧ InK u c (findE l x.id) q) ∨ (k ≠ 2 ∧ InK u c x q) := by
  obtain ⟨e, he, hq⟩ := mem_touchedK.1 h
  by_cases h1 : k = 1
  · subst h1
    rw [moved_1] at he
    obtain rfl : e = x := by simpa using he
    exact .inr ⟨by decide, hq⟩
  · by_cases h2 : k = 2
    · subst h2
      rw [moved_2] at he
      split at he
      · rename_i hs
        obtain rfl : e = findE l x.id := by simpa using he
        exact .inl ⟨hs, by decide, hq⟩
      · simp at he
    · by_cases h3 : k = 3
      · subst h3
        rw [moved_3] at he
        rcases List.mem_append.1 he with q1 | q1
        · split at q1
          · rename_i hs
            obtain rfl : e = findE l x.id := by simpa using q1
            exact .inl ⟨hs, by decide, hq⟩
          · simp at q1
        · obtain rfl : e = x := by simpa using q1
          exact .inr ⟨by decide, hq⟩
      · rw [moved_0 (by omega)] at he
        simp at he
theorem key_mem {l : List KeyP} {i : Nat} (h : i < l.length) : l.getD i KeyP.none ∈ l := by
  rw [List.getD_eq_getElem?_getD, List.getElem?_eq_getElem h, Option.getD_some]
  exact List.getElem_mem h
/-- Keys rise. -/
theorem key_rises {l : List KeyP} (h : RisK l) {i : Nat} (h1 : 1 ≤ i) (hi : i < l.length) {p q : KeyP} (hp : l.getD (i - 1) KeyP.none = p) (hq : l.getD i KeyP.none = q) : p.k < q.k ∨ (p.k = q.k ∧ p.n < q.n) := by
  have := List.pairwise_iff_getElem.1 h (i - 1) i (by omega) hi (by omega)
  rw [ltK_iff] at this
  rw [← hp, ← hq]
  simp only [List.getD_eq_getElem?_getD, List.getElem?_eq_getElem hi, List.getElem?_eq_getElem (show i - 1 < l.length by omega), Option.getD_some]
  exact this
/-- At most four weeks. -/
theorem touched_four {u c : Int} (hu : u ≤ 3600) (hc : c ≤ 57600) (l : List EvP) (k : Int) (x : EvP) : (touchedK u c (movedE l k x)).length ≤ 4 := by
  have h1 := touched_length u c (movedE l k x)
  have h2 := moved_length l k x
  have h3 : ∀ e, manyW u c e ≤ 2 := fun e => by
    have := touch_near (t := e.tm) hu hc
    have := touch_bd u c e.tm
    unfold manyW; omega
  have h4 : ∀ m : List EvP, (m.map (manyW u c)).sum ≤ 2 * m.length := fun m => by
    induction m with
    | nil => simp
    | cons a m ih =>
      have := h3 a
      simp only [List.map_cons, List.sum_cons, List.length_cons]
      omega
  have := h4 (movedE l k x)
  omega
theorem apply_in {b : Bool} {l : List EvP} {k : Int} {x : EvP} {R : List EvP × Int} (h : applyE b l k x = R) (h0 : R.2 = 0) (hl : ∀ e ∈ l, e.In) (hx : x.In) : ∀ e ∈ R.1, e.In := by
  have hrm : ∀ {i : Nat}, i < l.length → ∀ e ∈ rmE l i, e.In := fun {i} hi e he => hl e ((rmE_perm hi).mem_iff.2 (by simp [he]))
  rcases apply_ok h h0 with ⟨_, _, _, e⟩ | ⟨i, _, hi, e⟩ | ⟨i, _, _, hi, e⟩ <;> rw [e] <;> intro y hy
  · rcases List.mem_append.1 ((ev_sort_perm _).mem_iff.1 hy) with q | q
    · exact hl y q
    · obtain rfl : y = x := by simpa using q
      exact hx
  · exact hrm (ixE_some hi).1 y ((ev_sort_perm _).mem_iff.1 hy)
  · rcases List.mem_append.1 ((ev_sort_perm _).mem_iff.1 hy) with q | q
    · exact hrm (ixE_some hi).1 y q
    · obtain rfl : y = x := by simpa using q
      exact hx
/-- How many events have a number. -/
def twiceE (l : List EvP) (id : Int) : Nat := l.countP (fun e => decide (e.id = id))
theorem twice_snoc (l : List EvP) (z : EvP) (id : Int) : twiceE (l ++ [z]) id = twiceE l id + if z.id = id then 1 else 0 := by
  unfold twiceE
  rw [List.countP_append]
  simp [List.countP_cons]
theorem twice_le (l : List EvP) (id : Int) : twiceE l id ≤ l.length := List.countP_le_length
theorem find_id {l : List EvP} {id : Int} (h : (ixE l id).isSome = true) : (findE l id).id = id := by
  unfold findE
  cases hx : ixE l id with
  | none => rw [hx] at h; simp at h
  | some i => exact (ixE_some hx).2.1
theorem find_mem {l : List EvP} {id : Int} (h : (ixE l id).isSome = true) : findE l id ∈ l := by
  unfold findE
  cases hx : ixE l id with
  | none => rw [hx] at h; simp at h
  | some i =>
    have hi := (ixE_some hx).1
    show l.getD i EvP.none ∈ l
    rw [List.getD_eq_getElem?_getD, List.getElem?_eq_getElem hi, Option.getD_some]
    exact List.getElem_mem hi
theorem find_in {l : List EvP} (h : ∀ e ∈ l, e.In) (id : Int) : (findE l id).In := by
  cases hs : (ixE l id).isSome with
  | true => exact h _ (find_mem hs)
  | false =>
    unfold findE
    cases hx : ixE l id with
    | none => constructor <;> simp [EvP.none]
    | some i => rw [hx] at hs; simp at hs
/-- What a change touches, its taking back touches. -/
theorem touched_back {u c : Int} {b : Bool} {l : List EvP} {x : EvP} {R : List EvP × Int} (h : applyE b l 3 x = R) (h0 : R.2 = 0) (h1 : twiceE l x.id = 1) : touchedK u c (movedE R.1 3 (findE l x.id)) = touchedK u c (movedE l 3 x) := by
  rcases apply_ok h h0 with ⟨hk, _⟩ | ⟨i, hk, _⟩ | ⟨i, _, _, hi, e⟩
  · exact absurd hk (by decide)
  · exact absurd hk (by decide)
  · have hs : (ixE l x.id).isSome = true := by rw [hi]; rfl
    have hid := find_id hs
    have hrm : ∀ y ∈ rmE l i, y.id ≠ x.id := by
      obtain ⟨q1, q2, _⟩ := ixE_some hi
      have hc : twiceE l x.id = twiceE (rmE l i) x.id + 1 := by
        unfold twiceE
        rw [(rmE_perm q1).countP_eq, List.countP_cons, q2]
        simp
      have hz : twiceE (rmE l i) x.id = 0 := by omega
      intro y hy hid
      have := List.countP_eq_zero.1 hz y hy
      simp [hid] at this
    have hp := ev_sort_perm (rmE l i ++ [x])
    obtain ⟨f1, f2⟩ := find_one (l := R.1) (x := x) (by rw [e, hp.mem_iff]; simp) (fun y hy hyd => by
      rw [e] at hy
      rcases List.mem_append.1 (hp.mem_iff.1 hy) with q | q
      · exact absurd hyd (hrm y q)
      · simpa using q)
    rw [moved_3, moved_3, hid, f1, if_pos f2, if_pos hs]
    refine touched_perm fun y => ?_
    simp only [List.mem_append, List.mem_singleton]
    exact Or.comm
theorem touched_undo {u c : Int} {b : Bool} {l : List EvP} {x : EvP} {R : List EvP × Int} (h : applyE b l 1 x = R) (h0 : R.2 = 0) : touchedK u c (movedE R.1 2 x) = touchedK u c (movedE l 1 x) := by
  obtain ⟨f1, f2⟩ := only_find h h0
  rw [moved_1, moved_2, if_pos f2, f1]
/-! ### In a walk: a correction is built, and laid -/
theorem built_fix2 (k : Int) (x : EvP) : Try.prog.built 35 [(0, .int .i64 k), (1, .agg (evC x))] = some (fixC k x) := by
  obtain ⟨b1, b2, b3, b4, b5, b6, b7, b8, b9, b10, b11⟩ := x
  kernel_rfl
theorem wpList_build_fx2 {ops : Array Oper} {rest : List Oper} {o : Oper} {a : Act} {w : World} {Q : Exit → Act → World → Prop} {p1 p2 : Operand} {k : Int} {x : EvP} (hgd : o.guard = none)
    (ho : o.op = .build 35 #[(0, p1), (1, p2)]) (h1 : a.eval p1 = .int .i64 k) (h2 : a.eval p2 = .agg (evC x))
    (h : wpList Try.prog ops Q rest (a.put o.dst (.agg (fixC k x))) w) : wpList Try.prog ops Q (o :: rest) a w := by
  refine wpList_plain hgd fun K hK => ?_
  have hc : Try.prog.built 35 ((#[(0, p1), (1, p2)] : Array (Nat × Operand)).map fun (i, x) => (i, a.eval x)).toList = some (fixC k x) := by
    simp only [List.map_toArray, List.map_cons, List.map_nil, h1, h2]
    exact built_fix2 k x
  refine wp_build _ _ ho (by rw [hc]; rfl) ?_
  rw [hc]
  exact hK _ _ h
def z12 : Array Value := fixC 0 EvP.none
theorem fixC_one (k : Int) (x : EvP) : (fixC k x).all (·.oneCell') = true := by simp [fixC, Value.oneCell']
theorem wpList_laid_fx {ops : Array Oper} {rest : List Oper} {o1 o : Oper} {a : Act} {w : World} {Q : Exit → Act → World → Prop} (cs : Array Value) (d : Tmp) (x y : Operand) (hg1 : o1.guard = none) (ho1 : o1.op = .alloc 35) (hd1 : o1.dst = some d)
    (hgd : o.guard = none) (ho : o.op = .store 35 x y) (hd : o.dst = none) (hx : (a.put o1.dst (.pointer (some ⟨w.heap.size, 0, none⟩))).eval x = .pointer (some ⟨w.heap.size, 0, none⟩)) (hy : (a.put o1.dst (.pointer (some ⟨w.heap.size, 0, none⟩))).eval y = .agg cs)
    (hs : cs.size = 12) (h1 : cs.all (·.oneCell') = true)
    (h : wpList Try.prog ops Q rest (a.put o1.dst (.pointer (some ⟨w.heap.size, 0, none⟩))) (w.alloc (.cells cs 35))) : wpList Try.prog ops Q (o1 :: o :: rest) a w := by
  rw [hd1] at hx hy h
  refine wpList_plain hg1 fun K hK => ?_
  unfold Oper.wp execOp
  simp only [ho1]
  go_simp
  refine hK _ _ ?_
  refine wpList_store_row hgd _ x y ho w.heap.size cs hx hy 35 z12 (heap_alloc_new w _) (by rw [hs]; kernel_rfl) (by rw [hs]; rfl) h1 ?_
  rw [hd]
  have e := World.setRow_alloc_new w z12 cs 35
  rw [← e] at h
  exact h
end Go.Proofs.Ytedkhjbnjkcemaa
