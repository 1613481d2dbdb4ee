/-
  Events as values: their cells, loads, stores, and whether two are the same.
-/
import Derived.Test.YtdhkfhgggkndoaaProg
import Derived.Test.YtdhkfhgggkndoaaHas
import Derived.Test.YtdhkfhgggkndoaaEvPlain
import Derived.WalkKit
import Derived.Laws.StructEq
import Derived.Laws.Cover1
import Derived.Deep.WholeRow
import Derived.KernelRfl
import Derived.Lib.Hide
namespace Go.Proofs.Ytdhkfhgggkndoaa
open Go.RowKit
set_option linter.unusedVariables false
set_option linter.unusedSimpArgs false

/-- An event's cells. -/
def evC (e : EvP) : Array Value := #[.int .i64 e.id, .int .i64 e.wk, .int .i64 e.tm, .int .i64 e.kd, .int .i64 e.fr, .int .i64 e.to, .int .i64 e.el, .int .i64 e.un, .int .i64 e.cl, .int .i64 e.ge, .int .i64 e.cd]
theorem evC_size (e : EvP) : (evC e).size = 11 := rfl
theorem evC_one (e : EvP) : (evC e).all (·.oneCell') = true := by simp [evC, Value.oneCell']
/-- All numbers of an event are int's. -/
structure EvP.In (e : EvP) : Prop where
  id : -9223372036854775808 ≤ e.id ∧ e.id ≤ 9223372036854775807
  wk : -9223372036854775808 ≤ e.wk ∧ e.wk ≤ 9223372036854775807
  tm : -9223372036854775808 ≤ e.tm ∧ e.tm ≤ 9223372036854775807
  kd : -9223372036854775808 ≤ e.kd ∧ e.kd ≤ 9223372036854775807
  fr : -9223372036854775808 ≤ e.fr ∧ e.fr ≤ 9223372036854775807
  to : -9223372036854775808 ≤ e.to ∧ e.to ≤ 9223372036854775807
  el : -9223372036854775808 ≤ e.el ∧ e.el ≤ 9223372036854775807
  un : -9223372036854775808 ≤ e.un ∧ e.un ≤ 9223372036854775807
  cl : -9223372036854775808 ≤ e.cl ∧ e.cl ≤ 9223372036854775807
  ge : -9223372036854775808 ≤ e.ge ∧ e.ge ≤ 9223372036854775807
  cd : -9223372036854775808 ≤ e.cd ∧ e.cd ≤ 9223372036854775807
theorem ite_b1 {p : Prop} [Decidable p] {w : World} : (if p then Result.ok (Value.bool true) w else Result.ok (Value.bool false) w) = Result.ok (Value.bool (decide p)) w := by by_cases h : p <;> simp [h]
theorem ite_b2 {p : Prop} [Decidable p] {c : Bool} {w : World} : (if p then Result.ok (Value.bool c) w else Result.ok (Value.bool false) w) = Result.ok (Value.bool (decide p && c)) w := by by_cases h : p <;> simp [h]
theorem run_ev_eql (x y : EvP) (w : World) : (binOp .eql 43 (.agg (evC x)) (.agg (evC y))).run Try.prog w = .ok (.bool (decide (x = y))) w := by
  have u3 := Try.underlying3
  have a3 := Try.isAgg3
  have z3 := Try.sizeOf3
  have hS : Try.prog.underlying 43 = some (.struct (Try.prog.fieldsOf 43)) := by kernel_rfl
  have hp : Try.prog.stoodInHeld 43 = false := by kernel_rfl
  obtain ⟨a1, a2, a3', a4, a5, a6, a7, a8, a9, a10, a11⟩ := x
  obtain ⟨b1, b2, b3, b4, b5, b6, b7, b8, b9, b10, b11⟩ := y
  simp only [evC]
  rw [run_eql_struct, show (10000 : Nat) = 9999 + 1 from rfl, run_equalIn_agg w 9999 43 _ _ hS hp]
  simp only [Program.fieldsOf, Try.underlying43]
  go_simp
  simp only [ite_b1]
  simp only [ite_b2]
theorem wpList_load_e {ops : Array Oper} {rest : List Oper} {o : Oper} {a : Act} {w : World} {Q : Exit → Act → World → Prop} (hgd : Region.wanted o (yielded ops a.tmps) = true) (x : Operand) (ho : o.op = .load 43 x)
    (g : Nat) (hx : a.eval x = .pointer (some ⟨g, 0, none⟩)) (cs : Array Value) (hg : Has w g cs) (hs : cs.size = 11)
    (h : wpList Try.prog ops Q rest (a.put o.dst (.agg cs)) w) : wpList Try.prog ops Q (o :: rest) a w := by
  refine wpList_step fun K hK => ?_
  rw [if_pos hgd]
  obtain ⟨t, hg⟩ := hg
  exact wp_load_row _ x ho g hx t cs (0, 0) _ hg Try.underlying43 rfl (by rw [hs]; kernel_rfl) (hK _ _ h)
theorem wpList_store_e {ops : Array Oper} {rest : List Oper} {o : Oper} {a : Act} {w : World} {Q : Exit → Act → World → Prop} (hgd : o.guard = none) (x y : Operand) (ho : o.op = .store 43 x y)
    (g : Nat) (cs : Array Value) (hx : a.eval x = .pointer (some ⟨g, 0, none⟩)) (hy : a.eval y = .agg cs) (old : Array Value) (hg : Has w g old) (hold : old.size = 11) (hs : cs.size = 11) (h1 : cs.all (·.oneCell') = true)
    (h : wpList Try.prog ops Q rest (a.put o.dst undef) (w.setRow g cs)) : wpList Try.prog ops Q (o :: rest) a w := by
  obtain ⟨t, hg⟩ := hg
  exact wpList_store_row hgd _ x y ho g cs hx hy t old hg (by rw [hs]; kernel_rfl) (by rw [hold, hs]) h1 h
theorem has_setRow_e {w : World} {g : Nat} {old cs : Array Value} (h : Has w g old) : Has (w.setRow g cs) g cs := by
  obtain ⟨t, h⟩ := h
  exact ⟨t, setRow_heap _ _ _ _ _ _ h⟩
theorem has_setRow_far {w : World} {g g' : Nat} {cs cs' : Array Value} (h : Has w g' cs') (hne : g' ≠ g) : Has (w.setRow g cs) g' cs' := by
  obtain ⟨t, h⟩ := h
  exact ⟨t, by rw [setRow_other _ _ _ _ hne]; exact h⟩
def z11 : Array Value := evC EvP.none
/-- In a walk: a variable of type api.Event is laid. -/
theorem wpList_laid_e {ops : Array Oper} {rest : List Oper} {o1 o : Oper} {a : Act} {w : World} {Q : Exit → Act → World → Prop} (cs : Array Value) (d : Tmp) (x y : Operand) (hg1 : o1.guard = none) (ho1 : o1.op = .alloc 43) (hd1 : o1.dst = some d)
    (hgd : o.guard = none) (ho : o.op = .store 43 x y) (hd : o.dst = none) (hx : (a.put o1.dst (.pointer (some ⟨w.heap.size, 0, none⟩))).eval x = .pointer (some ⟨w.heap.size, 0, none⟩)) (hy : (a.put o1.dst (.pointer (some ⟨w.heap.size, 0, none⟩))).eval y = .agg cs)
    (hs : cs.size = 11) (h1 : cs.all (·.oneCell') = true)
    (h : wpList Try.prog ops Q rest (a.put o1.dst (.pointer (some ⟨w.heap.size, 0, none⟩))) (w.alloc (.cells cs 43))) : wpList Try.prog ops Q (o1 :: o :: rest) a w := by
  rw [hd1] at hx hy h
  refine wpList_plain hg1 fun K hK => ?_
  unfold Oper.wp execOp
  simp only [ho1]
  go_simp
  refine hK _ _ ?_
  refine wpList_store_e hgd x y ho w.heap.size cs hx hy z11 (Has.new _ _ _ rfl) rfl hs h1 ?_
  rw [hd]
  have e := World.setRow_alloc_new w z11 cs 43
  unfold z11 at e
  exact e ▸ h
/-- A result that is an event, a slice and a number. -/
theorem evres_run {fn : Func} {p q q2 : Tmp} (h : fn.results = #[.cell p 43, .tmp q, .tmp q2]) (tmps : Array Value) (w : World) (g : Nat) (cs : Array Value) (v v2 : Value) (hp : tmps.getD p undef = .pointer (some ⟨g, 0, none⟩)) (hq : tmps.getD q undef = v) (hq2 : tmps.getD q2 undef = v2) (hg : Has w g cs) (hs : cs.size = 11) :
    (results fn tmps).run Try.prog w = .ok (.tuple #[.agg cs, v, v2]) w := by
  obtain ⟨t, hg⟩ := hg
  have hp' : tmps[p]?.getD undef = .pointer (some ⟨g, 0, none⟩) := by simpa using hp
  have hq' : tmps[q]?.getD undef = v := by simpa using hq
  have hq2' : tmps[q2]?.getD undef = v2 := by simpa using hq2
  have hr := run_loadVar_row (P := Try.prog) w g t 43 cs (0, 0) _ hg Try.underlying43 rfl (by rw [hs]; kernel_rfl)
  simp [results, h, hp', hq', hq2', asAddr, hr]
end Go.Proofs.Ytdhkfhgggkndoaa
