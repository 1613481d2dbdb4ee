/-
  PerfFaults' call with a fault more, by one word for all orders.
-/
import Derived.Test.YtpgncbhahocmbaaGreatQba
import Derived.Test.YtpgncbhahocmbaaGreatQas
import Derived.Test.YtpgncbhahocmbaaGreatQap
import Derived.Test.YtpgncbhahocmbaaGreatQac
import Derived.Test.YtpgncbhahocmbaaGreatQai
import Derived.Test.YtpgncbhahocmbaaGreatQab

namespace Go.Proofs.YtpgncbhahocmbaaGreat
open Go.RowKit
set_option linter.unusedVariables false
set_option linter.unusedSimpArgs false
set_option maxRecDepth 20000

def bk : Value → Option Nat
  | .slice (some a) _ _ => some a.block
  | .pointer (some a) => some a.block
  | _ => none
def tupD (D : DoneP) : Value := .tuple #[.agg #[.int .i64 D.en, .int .i64 D.ed], .int .i64 D.el, .agg #[.int .i64 D.pn, .int .i64 D.pd], .int .i64 D.er]
/-- What stands in the midst of 'perf.Of(s, append(append([]api.Event{}, l...), f), ..)', whatever order it goes in. -/
structure FF (W w : World) (n : Nat) (l : List EvP) (f : EvP) (D : DoneP) (v58 v60 v62 v63 v67 v56 v68 v69 v70 v71 v14 v16 v15 v17 : Value) (b1 b3 b5 b6 b10 b11 b12 b13 b14 b15 b16 b17 b18 b19 b20 b21 : Bool) : Prop where
  bel : Below W.heap.size W w
  row : b1 = true → b6 = false → ∃ A m c, (if b3 = true then v60 else v58) = .slice A m c ∧ m = (if b3 = true then n else 0) ∧ ERow w W.heap.size A m c (if b3 = true then l else []) ∧ ∀ g, A = some g → (b5 = true → bk v62 ≠ some g.block) ∧ (b16 = true → bk v14 ≠ some g.block) ∧ (b17 = true → bk v16 ≠ some g.block)
  one : b5 = true → b6 = false → ∃ g, v62 = .slice (some ⟨g, 0, none⟩) 1 1 ∧ Has w g (evC f)
  full : b6 = true → b10 = false → ∃ A c, v63 = .slice A (n + 1) c ∧ Evs w A (n + 1) c (l ++ [f])
  t10 : b10 = true → v67 = tupD D
  t11 : b11 = true → v56 = tupD D
  t12 : b12 = true → v68 = .agg #[.int .i64 D.en, .int .i64 D.ed]
  t13 : b13 = true → v69 = .int .i64 D.el
  t14 : b14 = true → v70 = .agg #[.int .i64 D.pn, .int .i64 D.pd]
  t15 : b15 = true → v71 = .int .i64 D.er
  p14 : b16 = true → ∃ g, v14 = .pointer (some ⟨g, 0, none⟩) ∧ W.heap.size ≤ g ∧ Has w g (if b18 = true then #[.int .i64 D.en, .int .i64 D.ed] else #[.int .i64 0, .int .i64 0])
  p16 : b17 = true → ∃ g, v16 = .pointer (some ⟨g, 0, none⟩) ∧ W.heap.size ≤ g ∧ Has w g (if b20 = true then #[.int .i64 D.pn, .int .i64 D.pd] else #[.int .i64 0, .int .i64 0])
  ne : b16 = true → b17 = true → bk v14 ≠ bk v16
  e15 : b19 = true → v15 = .int .i64 D.el
  e17 : b21 = true → v17 = .int .i64 D.er
  d3 : b3 = true → b1 = true
  d6 : b6 = true → b3 = true
  d65 : b6 = true → b5 = true
  d10 : b10 = true → b6 = true
  d18 : b18 = true → b16 = true
  d20 : b20 = true → b17 = true

section
variable {W w w' : World} {n : Nat} {l : List EvP} {f : EvP} {D : DoneP} {v58 v60 v62 v63 v67 v56 v68 v69 v70 v71 v14 v16 v15 v17 : Value} {b1 b3 b5 b6 b10 b11 b12 b13 b14 b15 b16 b17 b18 b19 b20 b21 : Bool}
theorem Has.keepb {g : Nat} {cs : Array Value} (h : Has w g cs) (e : w'.heap[g]? = w.heap[g]?) : Has w' g cs := by
  obtain ⟨t, h⟩ := h
  exact ⟨t, e.trans h⟩
theorem has_evs {g : Nat} (h : Has w g (evC f)) : Evs w (some ⟨g, 0, none⟩) 1 1 [f] := by
  refine ⟨⟨rfl, .inr ⟨_, rfl, fun j u hu => ?_⟩⟩, rfl⟩
  rw [tab_add, Nat.zero_add]
  refine h.cell j ?_
  have e : (evC f).toList = ints .i64 ([f].map evLs).flatten := rfl
  rw [← Array.getElem?_toList, e]
  exact hu
theorem FF.below (h : FF W w n l f D v58 v60 v62 v63 v67 v56 v68 v69 v70 v71 v14 v16 v15 v17 b1 b3 b5 b6 b10 b11 b12 b13 b14 b15 b16 b17 b18 b19 b20 b21) (k : Below w.heap.size w w') : FF W w' n l f D v58 v60 v62 v63 v67 v56 v68 v69 v70 v71 v14 v16 v15 v17 b1 b3 b5 b6 b10 b11 b12 b13 b14 b15 b16 b17 b18 b19 b20 b21 :=
  ⟨bel_on h.bel k, fun a b => by obtain ⟨A, m, c, e1, e2, e3, e4⟩ := h.row a b; exact ⟨A, m, c, e1, e2, e3.below k, e4⟩, fun a b => by obtain ⟨g, e1, e2⟩ := h.one a b; exact ⟨g, e1, e2.below k⟩, fun a b => by obtain ⟨A, c, e1, e2⟩ := h.full a b; exact ⟨A, c, e1, e2.below k⟩, h.t10, h.t11, h.t12, h.t13, h.t14, h.t15,
    fun a => by obtain ⟨g, e1, e2, e3⟩ := h.p14 a; exact ⟨g, e1, e2, e3.below k⟩, fun a => by obtain ⟨g, e1, e2, e3⟩ := h.p16 a; exact ⟨g, e1, e2, e3.below k⟩, h.ne, h.e15, h.e17, h.d3, h.d6, h.d65, h.d10, h.d18, h.d20⟩
theorem FF.lt14 (h : FF W w n l f D v58 v60 v62 v63 v67 v56 v68 v69 v70 v71 v14 v16 v15 v17 b1 b3 b5 b6 b10 b11 b12 b13 b14 b15 b16 b17 b18 b19 b20 b21) (a : b16 = true) {p : Nat} (hp : bk v14 = some p) : p < w.heap.size := by
  obtain ⟨g, rfl, -, e3⟩ := h.p14 a
  simp only [bk, Option.some.injEq] at hp
  subst hp
  exact e3.size
theorem FF.lt16 (h : FF W w n l f D v58 v60 v62 v63 v67 v56 v68 v69 v70 v71 v14 v16 v15 v17 b1 b3 b5 b6 b10 b11 b12 b13 b14 b15 b16 b17 b18 b19 b20 b21) (a : b17 = true) {p : Nat} (hp : bk v16 = some p) : p < w.heap.size := by
  obtain ⟨g, rfl, -, e3⟩ := h.p16 a
  simp only [bk, Option.some.injEq] at hp
  subst hp
  exact e3.size
theorem FF.lt62 (h : FF W w n l f D v58 v60 v62 v63 v67 v56 v68 v69 v70 v71 v14 v16 v15 v17 b1 b3 b5 b6 b10 b11 b12 b13 b14 b15 b16 b17 b18 b19 b20 b21) (a : b5 = true) (b : b6 = false) {p : Nat} (hp : bk v62 = some p) : p < w.heap.size := by
  obtain ⟨g, rfl, e3⟩ := h.one a b
  simp only [bk, Option.some.injEq] at hp
  subst hp
  exact e3.size
theorem FF.op1 (h : FF W w n l f D v58 v60 v62 v63 v67 v56 v68 v69 v70 v71 v14 v16 v15 v17 false b3 b5 b6 b10 b11 b12 b13 b14 b15 b16 b17 b18 b19 b20 b21) : FF W (w.alloc (.cells #[] 43)) n l f D (.slice (some ⟨w.heap.size, 0, none⟩) 0 0) v60 v62 v63 v67 v56 v68 v69 v70 v71 v14 v16 v15 v17 true b3 b5 b6 b10 b11 b12 b13 b14 b15 b16 b17 b18 b19 b20 b21 := by
  have qb3 : b3 = false := by cases e : b3 with
    | false => rfl
    | true => exact absurd (h.d3 e) (by simp)
  have qb6 : b6 = false := by cases e : b6 with
    | false => rfl
    | true => exact absurd (h.d6 e) (by rw [qb3]; simp)
  have k := h.below (bel_alloc (Below.refl _ _) (.cells #[] 43))
  subst qb3
  refine ⟨k.bel, (fun _ _ => ⟨_, 0, 0, rfl, rfl, erow_mono (erow_empty w) h.bel.size, fun g hg => ?_⟩), k.one, k.full, k.t10, k.t11, k.t12, k.t13, k.t14, k.t15, k.p14, k.p16, k.ne, k.e15, k.e17, (fun e => by cases e), k.d6, k.d65, k.d10, k.d18, k.d20⟩
  obtain rfl : g = ⟨w.heap.size, 0, none⟩ := by injection hg with hg; exact hg.symm
  exact ⟨fun e q => by have := h.lt62 e qb6 q; simp at this, fun e q => by have := h.lt14 e q; simp at this, fun e q => by have := h.lt16 e q; simp at this⟩
theorem FF.op5 (h : FF W w n l f D v58 v60 v62 v63 v67 v56 v68 v69 v70 v71 v14 v16 v15 v17 b1 b3 false b6 b10 b11 b12 b13 b14 b15 b16 b17 b18 b19 b20 b21) : FF W (w.alloc (.cells (evC f) 43)) n l f D v58 v60 (.slice (some ⟨w.heap.size, 0, none⟩) 1 1) v63 v67 v56 v68 v69 v70 v71 v14 v16 v15 v17 b1 b3 true b6 b10 b11 b12 b13 b14 b15 b16 b17 b18 b19 b20 b21 := by
  have qb6 : b6 = false := by cases e : b6 with
    | false => rfl
    | true => exact absurd (h.d65 e) (by simp)
  have k := h.below (bel_alloc (Below.refl _ _) (.cells (evC f) 43))
  refine ⟨k.bel, (fun a b => ?_), (fun _ _ => ⟨_, rfl, Has.new _ _ _ rfl⟩), k.full, k.t10, k.t11, k.t12, k.t13, k.t14, k.t15, k.p14, k.p16, k.ne, k.e15, k.e17, k.d3, k.d6, (fun _ => rfl), k.d10, k.d18, k.d20⟩
  obtain ⟨A, m, c, e1, e2, e3, e4⟩ := h.row a b
  exact ⟨A, m, c, e1, e2, e3.alloc _, fun g hg => ⟨fun _ q => by have := (e3.lt g hg).2; simp only [bk, Option.some.injEq] at q; omega, (e4 g hg).2⟩⟩
theorem FF.op16 (h : FF W w n l f D v58 v60 v62 v63 v67 v56 v68 v69 v70 v71 v14 v16 v15 v17 b1 b3 b5 b6 b10 b11 b12 b13 b14 b15 false b17 b18 b19 b20 b21) : FF W (w.alloc (.cells #[.int .i64 0, .int .i64 0] 24)) n l f D v58 v60 v62 v63 v67 v56 v68 v69 v70 v71 (.pointer (some ⟨w.heap.size, 0, none⟩)) v16 v15 v17 b1 b3 b5 b6 b10 b11 b12 b13 b14 b15 true b17 b18 b19 b20 b21 := by
  have qb18 : b18 = false := by cases e : b18 with
    | false => rfl
    | true => exact absurd (h.d18 e) (by simp)
  subst qb18
  have k := h.below (bel_alloc (Below.refl _ _) (.cells #[.int .i64 0, .int .i64 0] 24))
  refine ⟨k.bel, (fun a b => ?_), k.one, k.full, k.t10, k.t11, k.t12, k.t13, k.t14, k.t15, (fun _ => ⟨_, rfl, h.bel.size, Has.new _ _ _ rfl⟩), k.p16, (fun _ e q => by have := h.lt16 e (p := w.heap.size) (by rw [← q]; rfl); simp at this), k.e15, k.e17, k.d3, k.d6, k.d65, k.d10, (fun e => by cases e), k.d20⟩
  obtain ⟨A, m, c, e1, e2, e3, e4⟩ := h.row a b
  exact ⟨A, m, c, e1, e2, e3.alloc _, fun g hg => ⟨(e4 g hg).1, fun _ q => by have := (e3.lt g hg).2; simp only [bk, Option.some.injEq] at q; omega, (e4 g hg).2.2⟩⟩
theorem FF.op17 (h : FF W w n l f D v58 v60 v62 v63 v67 v56 v68 v69 v70 v71 v14 v16 v15 v17 b1 b3 b5 b6 b10 b11 b12 b13 b14 b15 b16 false b18 b19 b20 b21) : FF W (w.alloc (.cells #[.int .i64 0, .int .i64 0] 24)) n l f D v58 v60 v62 v63 v67 v56 v68 v69 v70 v71 v14 (.pointer (some ⟨w.heap.size, 0, none⟩)) v15 v17 b1 b3 b5 b6 b10 b11 b12 b13 b14 b15 b16 true b18 b19 b20 b21 := by
  have qb20 : b20 = false := by cases e : b20 with
    | false => rfl
    | true => exact absurd (h.d20 e) (by simp)
  subst qb20
  have k := h.below (bel_alloc (Below.refl _ _) (.cells #[.int .i64 0, .int .i64 0] 24))
  refine ⟨k.bel, (fun a b => ?_), k.one, k.full, k.t10, k.t11, k.t12, k.t13, k.t14, k.t15, k.p14, (fun _ => ⟨_, rfl, h.bel.size, Has.new _ _ _ rfl⟩), (fun e _ q => by have := h.lt14 e (p := w.heap.size) (by rw [q]; rfl); simp at this), k.e15, k.e17, k.d3, k.d6, k.d65, k.d10, k.d18, (fun e => by cases e)⟩
  obtain ⟨A, m, c, e1, e2, e3, e4⟩ := h.row a b
  exact ⟨A, m, c, e1, e2, e3.alloc _, fun g hg => ⟨(e4 g hg).1, (e4 g hg).2.1, fun _ q => by have := (e3.lt g hg).2; simp only [bk, Option.some.injEq] at q; omega⟩⟩
theorem FF.op3 (h : FF W w n l f D v58 v60 v62 v63 v67 v56 v68 v69 v70 v71 v14 v16 v15 v17 true false b5 b6 b10 b11 b12 b13 b14 b15 b16 b17 b18 b19 b20 b21) {B : Option Addr} {cB : Nat} (hB : Evs w B n cB l) (hn : n ≤ 1000) : ∃ A c A' c' w', v58 = .slice A 0 c ∧ (Builtin.append_ #[31, 31] 31 #[.slice A 0 c, .slice B n cB]).run Tryz.prog w = .ok (.slice A' n c') w' ∧ FF W w' n l f D v58 (.slice A' n c') v62 v63 v67 v56 v68 v69 v70 v71 v14 v16 v15 v17 true true b5 b6 b10 b11 b12 b13 b14 b15 b16 b17 b18 b19 b20 b21 := by
  have qb6 : b6 = false := by cases e : b6 with
    | false => rfl
    | true => exact absurd (h.d6 e) (by simp)
  subst qb6
  obtain ⟨A, m, c, e1, e2, e3, e4⟩ := h.row rfl rfl
  simp only [Bool.false_eq_true, if_false] at e1 e2 e3
  subst e2
  obtain ⟨A', c', w', hr, hrow, hkp, hkeep, hmv⟩ := trow_append (t := 31) (e := 43) (k := 11) (by_ := 88) (z := .agg (evC EvP.none)) Tryz.underlying31 ev_info rfl (by omega) (by omega) e3 (rows' := l.map evLs) hB.1 (by omega) h.bel.size (q := n) (by omega)
  refine ⟨A, c, A', c', w', e1, hr, ⟨(below_kept0 h.bel hkp), (fun _ _ => ⟨A', n, c', by simp, by simp, by simpa using hrow, fun g hg => ?_⟩), (fun a b => ?_), (fun a => by cases a), h.t10, h.t11, h.t12, h.t13, h.t14, h.t15, (fun a => ?_), (fun a => ?_), h.ne, h.e15, h.e17, (fun _ => rfl), (fun a => by cases a), h.d65, h.d10, h.d18, h.d20⟩⟩
  · obtain ⟨g', rfl⟩ : ∃ g', A' = some g' := ⟨_, hg⟩
    injection hg with hg
    subst hg
    rcases hmv _ rfl with ⟨ga, ea, q1⟩ | q1
    · rw [q1]; exact e4 ga ea
    · exact ⟨fun e q => by have := h.lt62 e rfl q; omega, fun e q => by have := h.lt14 e q; omega, fun e q => by have := h.lt16 e q; omega⟩
  · obtain ⟨g, x1, x2⟩ := h.one a b
    subst x1
    exact ⟨g, rfl, x2.keepb (hkeep g x2.size fun ga ea q => (e4 ga ea).1 a (by simp only [bk]; rw [q]))⟩
  · obtain ⟨g, x1, x2, x3⟩ := h.p14 a
    subst x1
    exact ⟨g, rfl, x2, x3.keepb (hkeep g x3.size fun ga ea q => (e4 ga ea).2.1 a (by simp only [bk]; rw [q]))⟩
  · obtain ⟨g, x1, x2, x3⟩ := h.p16 a
    subst x1
    exact ⟨g, rfl, x2, x3.keepb (hkeep g x3.size fun ga ea q => (e4 ga ea).2.2 a (by simp only [bk]; rw [q]))⟩
theorem FF.op6 (h : FF W w n l f D v58 v60 v62 v63 v67 v56 v68 v69 v70 v71 v14 v16 v15 v17 true true true false b10 b11 b12 b13 b14 b15 b16 b17 b18 b19 b20 b21) (hn : l.length = n) (hn2 : n ≤ 1000) : ∃ A c g A' c' w', v60 = .slice A n c ∧ v62 = .slice (some ⟨g, 0, none⟩) 1 1 ∧ (Builtin.append_ #[31, 31] 31 #[.slice A n c, .slice (some ⟨g, 0, none⟩) 1 1]).run Tryz.prog w = .ok (.slice A' (n + 1) c') w' ∧ FF W w' n l f D v58 v60 v62 (.slice A' (n + 1) c') v67 v56 v68 v69 v70 v71 v14 v16 v15 v17 true true true true b10 b11 b12 b13 b14 b15 b16 b17 b18 b19 b20 b21 := by
  obtain ⟨A, m, c, e1, e2, e3, e4⟩ := h.row rfl rfl
  simp only [if_true] at e1 e2 e3
  subst e2
  obtain ⟨g5, y1, y2⟩ := h.one rfl rfl
  obtain ⟨A', c', w', hr, hrow, hkp, hkeep, hmv⟩ := trow_append (t := 31) (e := 43) (k := 11) (by_ := 88) (z := .agg (evC EvP.none)) Tryz.underlying31 ev_info rfl (by omega) (by omega) e3 (rows' := [f].map evLs) (has_evs y2).1 (by omega) h.bel.size (q := m + 1) rfl
  refine ⟨A, c, g5, A', c', w', e1, y1, hr, ⟨(below_kept0 h.bel hkp), (fun _ a => by cases a), (fun _ a => by cases a), (fun _ _ => ?_), h.t10, h.t11, h.t12, h.t13, h.t14, h.t15, (fun a => ?_), (fun a => ?_), h.ne, h.e15, h.e17, h.d3, (fun _ => rfl), (fun _ => rfl), (fun _ => rfl), h.d18, h.d20⟩⟩
  · rw [← List.map_append] at hrow
    exact ⟨A', c', rfl, Sl.of_own hrow, by simp [hn]⟩
  · obtain ⟨g, x1, x2, x3⟩ := h.p14 a
    subst x1
    exact ⟨g, rfl, x2, x3.keepb (hkeep g x3.size fun ga ea q => (e4 ga ea).2.1 a (by simp only [bk]; rw [q]))⟩
  · obtain ⟨g, x1, x2, x3⟩ := h.p16 a
    subst x1
    exact ⟨g, rfl, x2, x3.keepb (hkeep g x3.size fun ga ea q => (e4 ga ea).2.2 a (by simp only [bk]; rw [q]))⟩
theorem FF.op10 (h : FF W w n l f D v58 v60 v62 v63 v67 v56 v68 v69 v70 v71 v14 v16 v15 v17 b1 b3 b5 true false b11 b12 b13 b14 b15 b16 b17 b18 b19 b20 b21) (k0 : Below w.heap.size w w') : FF W w' n l f D v58 v60 v62 v63 (tupD D) v56 v68 v69 v70 v71 v14 v16 v15 v17 b1 b3 b5 true true b11 b12 b13 b14 b15 b16 b17 b18 b19 b20 b21 := by
  have k := h.below k0
  exact ⟨k.bel, k.row, k.one, (fun _ a => by cases a), (fun _ => rfl), k.t11, k.t12, k.t13, k.t14, k.t15, k.p14, k.p16, k.ne, k.e15, k.e17, k.d3, k.d6, k.d65, (fun _ => rfl), k.d18, k.d20⟩
theorem FF.op11 (h : FF W w n l f D v58 v60 v62 v63 v67 v56 v68 v69 v70 v71 v14 v16 v15 v17 b1 b3 b5 b6 b10 b11 b12 b13 b14 b15 b16 b17 b18 b19 b20 b21) : FF W w n l f D v58 v60 v62 v63 v67 (tupD D) v68 v69 v70 v71 v14 v16 v15 v17 b1 b3 b5 b6 b10 true b12 b13 b14 b15 b16 b17 b18 b19 b20 b21 := ⟨h.bel, h.row, h.one, h.full, h.t10, (fun _ => rfl), h.t12, h.t13, h.t14, h.t15, h.p14, h.p16, h.ne, h.e15, h.e17, h.d3, h.d6, h.d65, h.d10, h.d18, h.d20⟩
theorem FF.op12 (h : FF W w n l f D v58 v60 v62 v63 v67 v56 v68 v69 v70 v71 v14 v16 v15 v17 b1 b3 b5 b6 b10 b11 b12 b13 b14 b15 b16 b17 b18 b19 b20 b21) : FF W w n l f D v58 v60 v62 v63 v67 v56 (.agg #[.int .i64 D.en, .int .i64 D.ed]) v69 v70 v71 v14 v16 v15 v17 b1 b3 b5 b6 b10 b11 true b13 b14 b15 b16 b17 b18 b19 b20 b21 := ⟨h.bel, h.row, h.one, h.full, h.t10, h.t11, (fun _ => rfl), h.t13, h.t14, h.t15, h.p14, h.p16, h.ne, h.e15, h.e17, h.d3, h.d6, h.d65, h.d10, h.d18, h.d20⟩
theorem FF.op13 (h : FF W w n l f D v58 v60 v62 v63 v67 v56 v68 v69 v70 v71 v14 v16 v15 v17 b1 b3 b5 b6 b10 b11 b12 b13 b14 b15 b16 b17 b18 b19 b20 b21) : FF W w n l f D v58 v60 v62 v63 v67 v56 v68 (.int .i64 D.el) v70 v71 v14 v16 v15 v17 b1 b3 b5 b6 b10 b11 b12 true b14 b15 b16 b17 b18 b19 b20 b21 := ⟨h.bel, h.row, h.one, h.full, h.t10, h.t11, h.t12, (fun _ => rfl), h.t14, h.t15, h.p14, h.p16, h.ne, h.e15, h.e17, h.d3, h.d6, h.d65, h.d10, h.d18, h.d20⟩
theorem FF.op14 (h : FF W w n l f D v58 v60 v62 v63 v67 v56 v68 v69 v70 v71 v14 v16 v15 v17 b1 b3 b5 b6 b10 b11 b12 b13 b14 b15 b16 b17 b18 b19 b20 b21) : FF W w n l f D v58 v60 v62 v63 v67 v56 v68 v69 (.agg #[.int .i64 D.pn, .int .i64 D.pd]) v71 v14 v16 v15 v17 b1 b3 b5 b6 b10 b11 b12 b13 true b15 b16 b17 b18 b19 b20 b21 := ⟨h.bel, h.row, h.one, h.full, h.t10, h.t11, h.t12, h.t13, (fun _ => rfl), h.t15, h.p14, h.p16, h.ne, h.e15, h.e17, h.d3, h.d6, h.d65, h.d10, h.d18, h.d20⟩
theorem FF.op15 (h : FF W w n l f D v58 v60 v62 v63 v67 v56 v68 v69 v70 v71 v14 v16 v15 v17 b1 b3 b5 b6 b10 b11 b12 b13 b14 b15 b16 b17 b18 b19 b20 b21) : FF W w n l f D v58 v60 v62 v63 v67 v56 v68 v69 v70 (.int .i64 D.er) v14 v16 v15 v17 b1 b3 b5 b6 b10 b11 b12 b13 b14 true b16 b17 b18 b19 b20 b21 := ⟨h.bel, h.row, h.one, h.full, h.t10, h.t11, h.t12, h.t13, h.t14, (fun _ => rfl), h.p14, h.p16, h.ne, h.e15, h.e17, h.d3, h.d6, h.d65, h.d10, h.d18, h.d20⟩
theorem FF.op19 (h : FF W w n l f D v58 v60 v62 v63 v67 v56 v68 v69 v70 v71 v14 v16 v15 v17 b1 b3 b5 b6 b10 b11 b12 b13 b14 b15 b16 b17 b18 b19 b20 b21) : FF W w n l f D v58 v60 v62 v63 v67 v56 v68 v69 v70 v71 v14 v16 (.int .i64 D.el) v17 b1 b3 b5 b6 b10 b11 b12 b13 b14 b15 b16 b17 b18 true b20 b21 := ⟨h.bel, h.row, h.one, h.full, h.t10, h.t11, h.t12, h.t13, h.t14, h.t15, h.p14, h.p16, h.ne, (fun _ => rfl), h.e17, h.d3, h.d6, h.d65, h.d10, h.d18, h.d20⟩
theorem FF.op21 (h : FF W w n l f D v58 v60 v62 v63 v67 v56 v68 v69 v70 v71 v14 v16 v15 v17 b1 b3 b5 b6 b10 b11 b12 b13 b14 b15 b16 b17 b18 b19 b20 b21) : FF W w n l f D v58 v60 v62 v63 v67 v56 v68 v69 v70 v71 v14 v16 v15 (.int .i64 D.er) b1 b3 b5 b6 b10 b11 b12 b13 b14 b15 b16 b17 b18 b19 b20 true := ⟨h.bel, h.row, h.one, h.full, h.t10, h.t11, h.t12, h.t13, h.t14, h.t15, h.p14, h.p16, h.ne, h.e15, (fun _ => rfl), h.d3, h.d6, h.d65, h.d10, h.d18, h.d20⟩
theorem FF.op18 (h : FF W w n l f D v58 v60 v62 v63 v67 v56 v68 v69 v70 v71 v14 v16 v15 v17 b1 b3 b5 true true b11 b12 b13 b14 b15 true b17 false b19 b20 b21) : ∃ g, v14 = .pointer (some ⟨g, 0, none⟩) ∧ Has w g #[.int .i64 0, .int .i64 0] ∧ FF W ((w.setCell ⟨g, 0, none⟩ (.int .i64 D.en)).setCell ⟨g, 1, none⟩ (.int .i64 D.ed)) n l f D v58 v60 v62 v63 v67 v56 v68 v69 v70 v71 v14 v16 v15 v17 b1 b3 b5 true true b11 b12 b13 b14 b15 true b17 true b19 b20 b21 := by
  obtain ⟨g, x1, x2, x3⟩ := h.p14 rfl
  refine ⟨g, x1, by simpa using x3, ⟨(bel_set (bel_set h.bel x2 _) x2 _), (fun _ a => by cases a), (fun _ a => by cases a), (fun _ a => by cases a), h.t10, h.t11, h.t12, h.t13, h.t14, h.t15, (fun _ => ⟨g, x1, x2, by simpa using (x3.set 0 (.int .i64 D.en)).set 1 (.int .i64 D.ed)⟩), (fun a => ?_), h.ne, h.e15, h.e17, h.d3, h.d6, h.d65, h.d10, (fun _ => rfl), h.d20⟩⟩
  · obtain ⟨g2, y1, y2, y3⟩ := h.p16 a
    have hne : g2 ≠ g := fun e => h.ne rfl a (by rw [x1, y1]; simp only [bk]; rw [e])
    exact ⟨g2, y1, y2, (y3.far (p := ⟨g, 0, none⟩) hne _).far (p := ⟨g, 1, none⟩) hne _⟩
theorem FF.op20 (h : FF W w n l f D v58 v60 v62 v63 v67 v56 v68 v69 v70 v71 v14 v16 v15 v17 b1 b3 b5 true true b11 b12 b13 b14 b15 b16 true b18 b19 false b21) : ∃ g, v16 = .pointer (some ⟨g, 0, none⟩) ∧ Has w g #[.int .i64 0, .int .i64 0] ∧ FF W ((w.setCell ⟨g, 0, none⟩ (.int .i64 D.pn)).setCell ⟨g, 1, none⟩ (.int .i64 D.pd)) n l f D v58 v60 v62 v63 v67 v56 v68 v69 v70 v71 v14 v16 v15 v17 b1 b3 b5 true true b11 b12 b13 b14 b15 b16 true b18 b19 true b21 := by
  obtain ⟨g, x1, x2, x3⟩ := h.p16 rfl
  refine ⟨g, x1, by simpa using x3, ⟨(bel_set (bel_set h.bel x2 _) x2 _), (fun _ a => by cases a), (fun _ a => by cases a), (fun _ a => by cases a), h.t10, h.t11, h.t12, h.t13, h.t14, h.t15, (fun a => ?_), (fun _ => ⟨g, x1, x2, by simpa using (x3.set 0 (.int .i64 D.pn)).set 1 (.int .i64 D.pd)⟩), h.ne, h.e15, h.e17, h.d3, h.d6, h.d65, h.d10, h.d18, (fun _ => rfl)⟩⟩
  · obtain ⟨g2, y1, y2, y3⟩ := h.p14 a
    have hne : g2 ≠ g := fun e => h.ne a rfl (by rw [x1, y1]; simp only [bk]; rw [e])
    exact ⟨g2, y1, y2, (y3.far (p := ⟨g, 0, none⟩) hne _).far (p := ⟨g, 1, none⟩) hne _⟩
theorem FF.on18 {P : Prop} (h : FF W w n l f D v58 v60 v62 v63 v67 v56 v68 v69 v70 v71 v14 v16 v15 v17 b1 b3 b5 true true b11 b12 b13 b14 b15 true b17 false b19 b20 b21) (k : ∀ g, v14 = .pointer (some ⟨g, 0, none⟩) → Has w g #[.int .i64 0, .int .i64 0] → FF W ((w.setCell ⟨g, 0, none⟩ (.int .i64 D.en)).setCell ⟨g, 1, none⟩ (.int .i64 D.ed)) n l f D v58 v60 v62 v63 v67 v56 v68 v69 v70 v71 v14 v16 v15 v17 b1 b3 b5 true true b11 b12 b13 b14 b15 true b17 true b19 b20 b21 → P) : P := by
  obtain ⟨g, h1, h2, h3⟩ := h.op18
  exact k g h1 h2 h3
theorem FF.on20 {P : Prop} (h : FF W w n l f D v58 v60 v62 v63 v67 v56 v68 v69 v70 v71 v14 v16 v15 v17 b1 b3 b5 true true b11 b12 b13 b14 b15 b16 true b18 b19 false b21) (k : ∀ g, v16 = .pointer (some ⟨g, 0, none⟩) → Has w g #[.int .i64 0, .int .i64 0] → FF W ((w.setCell ⟨g, 0, none⟩ (.int .i64 D.pn)).setCell ⟨g, 1, none⟩ (.int .i64 D.pd)) n l f D v58 v60 v62 v63 v67 v56 v68 v69 v70 v71 v14 v16 v15 v17 b1 b3 b5 true true b11 b12 b13 b14 b15 b16 true b18 b19 true b21 → P) : P := by
  obtain ⟨g, h1, h2, h3⟩ := h.op20
  exact k g h1 h2 h3
end
end Go.Proofs.YtpgncbhahocmbaaGreat
