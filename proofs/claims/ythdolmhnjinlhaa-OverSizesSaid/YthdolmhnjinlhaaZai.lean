/-
  Package punch and the document's own answers: times, rounded, days, weeks, the weeks about a time.
  The contracts of the document's own answers of layer 1 (package lumperref01): they are what package num's contracts say.
  Slices of numbers as lists; new slices of bytes made with room. Over any program.
  A map from numbers that the call has made: what it tells of a number, whatever order it was filled in.
-/
import Derived.Test.YthdolmhnjinlhaaZab
import Derived.Test.YthdolmhnjinlhaaZah
import Derived.BigQuiet
import Derived.Deep.QuietTactic
import Derived.Laws.Rows
import Derived.Laws.Cover1
import Derived.OpenShut
import Derived.Test.YthdolmhnjinlhaaProg
import Derived.Maps.OwnSet
import Derived.WalkKit
import Derived.KernelRfl
namespace Go.Proofs.Ythdolmhnjinlhaa
open Go.RowKit
set_option linter.unusedVariables false
set_option linter.unusedSimpArgs false
set_option maxRecDepth 20000

theorem upTo_any (m n : Int) (w : World) : Calls Try.prog 85 #[.int .i64 m, .int .i64 n] w fun e w' => e = .returned (.int .i64 (max 0 (min n m))) ∧ w = w' := by
  go_enter Try.func85, Try.ntmps85
  go_wp2
  all_goals
    go_ret
    refine ⟨ret_one ?_, rfl⟩
    omega
theorem second_any (t : Int) (w : World) : Calls Try.prog 68 #[.int .i64 t] w fun e w' => e = .returned (.int .i64 (secP t)) ∧ w = w' := by
  have e : max 0 (min t 32054399) = secP t := by unfold secP timeP; omega
  have H := Lib.hid (fun W => e ▸ upTo_any 32054399 t W)
  generalize secP t = r at *
  go_enter Try.func68, Try.ntmps68
  go_wp2_with fail
  refine (H.out _).mono ?_
  rintro e w' ⟨rfl, rfl⟩
  go_wp2
  go_ret
  exact ⟨rfl, rfl⟩
theorem day_any (t : Int) (w : World) : Calls Try.prog 52 #[.int .i64 t] w fun e w' => e = .returned (.int .i64 (dayP t)) ∧ w = w' := by
  have hb := sec_bd t
  have H := Lib.hid (fun W => second_any t W)
  unfold dayP
  generalize secP t = r at *
  go_enter Try.func52, Try.ntmps52
  go_wp2_with fail
  refine (H.out _).mono ?_
  rintro e w' ⟨rfl, rfl⟩
  go_wp2
  go_ret
  exact ⟨by first | rfl | (congr 2; omega), rfl⟩
/-! ### The document's own -/
theorem wpList_min2i {P : Program} {ops : Array Oper} {rest : List Oper} {o : Oper} {a : Act} {w : World} {Q : Exit → Act → World → Prop} {x y : Operand} {ts : Array TypeId} (p q n : Int) (hn : min p q = n) (hgd : o.guard = none)
    (ho : o.op = .call { callee := .builtin .min, args := #[x, y], argTypes := ts }) (h1 : a.eval x = .int .i64 p) (h2 : a.eval y = .int .i64 q)
    (h : wpList P ops Q rest (a.put o.dst (.int .i64 n)) w) : wpList P ops Q (o :: rest) a w := by
  refine wpList_plain hgd fun K hK => ?_
  have e : (if q < p then q else p) = n := by
    subst hn
    split <;> omega
  unfold Oper.wp execOp
  simp only [ho, resolve, invoke, builtin, Sem.run_bind, Sem.run_pure, Result.andThen_ok, List.map_toArray, List.map_cons, List.map_nil, h1, h2, run_min_int2, e]
  exact hK _ _ h
theorem wpList_max2i {P : Program} {ops : Array Oper} {rest : List Oper} {o : Oper} {a : Act} {w : World} {Q : Exit → Act → World → Prop} {x y : Operand} {ts : Array TypeId} (p q n : Int) (hn : max p q = n) (hgd : o.guard = none)
    (ho : o.op = .call { callee := .builtin .max, args := #[x, y], argTypes := ts }) (h1 : a.eval x = .int .i64 p) (h2 : a.eval y = .int .i64 q)
    (h : wpList P ops Q rest (a.put o.dst (.int .i64 n)) w) : wpList P ops Q (o :: rest) a w := by
  refine wpList_plain hgd fun K hK => ?_
  have e : (if q > p then q else p) = n := by
    subst hn
    split <;> omega
  unfold Oper.wp execOp
  simp only [ho, resolve, invoke, builtin, Sem.run_bind, Sem.run_pure, Result.andThen_ok, List.map_toArray, List.map_cons, List.map_nil, h1, h2, run_max_int2, e]
  exact hK _ _ h
end Go.Proofs.Ythdolmhnjinlhaa

namespace Go.Proofs.Ythdolmhnjinlhaa
open Go.RowKit
set_option linter.unusedVariables false

theorem sideV_pos {x : Int} (h : 0 ≤ x) : sideV x = x := by unfold sideV; rw [if_neg (by omega), if_neg (by omega)]
theorem sideV_neg {x : Int} (h : x < 0) (h' : x ≠ -9223372036854775808) : sideV x = -x := by unfold sideV; rw [if_neg h', if_pos h]
end Go.Proofs.Ythdolmhnjinlhaa

namespace Go.Proofs.Ythdolmhnjinlhaa
open Go.RowKit
set_option linter.unusedVariables false

/-- A slice value over A reads as the numbers zs. -/
def Nums (w : World) (A : Option Addr) (zs : List Int) : Prop :=
  ∀ k, k < zs.length → ∃ b off, A = some ⟨b, off, none⟩ ∧ w.cell? ⟨b, off + k, none⟩ = some (.int .i64 (zs.getD k 0))
section
variable {w w' : World} {A : Option Addr} {zs : List Int}
theorem Nums.keep (h : Nums w A zs) (hk : ∀ p : Addr, p.block < w.heap.size → w'.cell? p = w.cell? p) : Nums w' A zs := by
  intro k hl
  obtain ⟨b, off, e, hc⟩ := h k hl
  exact ⟨b, off, e, (hk _ (cell_lt hc)).trans hc⟩
theorem Nums.below (h : Nums w A zs) (hb : Below w.heap.size w w') : Nums w' A zs := h.keep fun _ hp => hb.cell hp
theorem Nums.alloc (h : Nums w A zs) (o : Obj) : Nums (w.alloc o) A zs := h.keep fun p hp => World.cell?_alloc_lt w o p hp
theorem Nums.drew (h : Nums w A zs) : Nums w.drew A zs := h
theorem Nums.nil_ : Nums w A [] := fun k h => by simp at h
end
theorem nums_of_sl {w : World} {A : Option Addr} {n c : Nat} {zs : List Int} (h : Sl 1 w A n c (ints .i64 zs)) : Nums w A zs := by
  intro k hk
  obtain ⟨hl, ⟨_, rfl, _⟩ | ⟨ad, rfl, hc⟩⟩ := h
  · simp [ints] at hl
    subst hl
    simp at hk
  · have hk' := hc k (.int .i64 (zs.getD k 0)) (by simp [ints, List.getD, hk])
    obtain ⟨b, off, sp⟩ := ad
    have h0 := hc 0 (.int .i64 (zs.getD 0 0)) (by simp [ints, List.getD, show 0 < zs.length by omega])
    have hsp : sp = none := by simpa [Addr.add] using World.cell?_spot h0
    subst hsp
    refine ⟨b, off, rfl, ?_⟩
    have e : (⟨b, off, none⟩ : Addr).add k = ⟨b, off + k, none⟩ := by unfold Addr.add; split <;> simp_all
    rw [← e]
    exact hk'
/-- What came in as a slice of numbers. -/
theorem nums_of_row {w : World} {a : Option Addr} {len cap : Nat} {zs : List Int} (h : IsRow .i64 w a len cap zs) :
    ∃ l : List Int, l.length = len ∧ Nums w a l ∧ len ≤ 9223372036854775807 ∧ ∀ z ∈ l, -9223372036854775808 ≤ z ∧ z ≤ 9223372036854775807 := by
  obtain ⟨s, hl, hm, hw⟩ := sl_of_row h
  exact ⟨zs.take len, hl, nums_of_sl s, hm, fun z hz => bounds_i64 (hw z hz)⟩
end Go.Proofs.Ythdolmhnjinlhaa

namespace Go.Proofs.Ythdolmhnjinlhaa
open Go.RowKit
set_option linter.unusedVariables false

def RVal (v : Value) : Option (DataW Value × List MemPlace) := some (.held v, [])
def updF (f : Int → Option Value) (k : Int) (v : Value) : Int → Option Value := fun i => if i = k then some v else f i
theorem int_keyed3 : Maps.Keyed Try.prog 3 := Maps.int_keyed Try.underlying3
theorem int_key3 {i : Int} (h : -9223372036854775808 ≤ i ∧ i ≤ 9223372036854775807) : keyOf Try.prog 3 (.int .i64 i) = some (.int .i64 i) :=
  Maps.keyOf_int_mk Try.underlying3 (by simp [Lit.wf, IntKind.min, IntKind.max, IntKind.bits, IntKind.signed]; omega)
/-- Block b is a map from numbers to slices, of at most n entries; f tells what it has. -/
def MapI (w : World) (b n : Nat) (f : Int → Option Value) : Prop :=
  ∃ D : DataW Value, w.ownsMap Try.prog 3 RVal b n D ∧ Maps.IsMap D ∧ ∀ i : Int, (-9223372036854775808 ≤ i ∧ i ≤ 9223372036854775807) → Maps.has D (.int .i64 i) = (f i).isSome ∧ ∀ v, f i = some v → ∀ z, D.atKey (.int .i64 i) z = .held v

section
variable {w w' : World} {b n : Nat} {f : Int → Option Value}
theorem lit_int_ne {i k : Int} (h : i ≠ k) : Lit.int .i64 i ≠ Lit.int .i64 k := fun e => h (by injection e)
/-- What 'm[k] = v' does. -/
theorem MapI.put (h : MapI w b n f) (hn : n < 1000) {t : TypeId} {e : TypeId} (ht : Try.prog.underlying t = some (.map 3 e)) {k : Int} (hk : -9223372036854775808 ≤ k ∧ k ≤ 9223372036854775807) (v : Value) :
    ∃ w', (Instr.mapUpdate t (.map (some b)) (.int .i64 k) v).run Try.prog w = .ok () w' ∧ MapI w' b (n + 1) (updF f k v) ∧ w.grownBy w' (some b) := by
  obtain ⟨D, h, hm, hf⟩ := h
  obtain ⟨w', hr, h2, hg⟩ := h.update int_keyed3 ht (by unfold maxLen; omega) (int_key3 hk) (d := .held v) (ps := []) rfl
  refine ⟨w', hr, ⟨D.put (.int .i64 k) (.held v), h2, hm.put _ _, fun i hi => ?_⟩, hg⟩
  obtain ⟨h3, h4⟩ := hf i hi
  unfold updF
  by_cases e : i = k
  · subst e
    rw [if_pos rfl]
    refine ⟨by rw [Maps.has_put_same hm (by trivial)]; rfl, fun u hu z => ?_⟩
    cases hu
    exact Maps.atKey_put_same hm (by trivial) _ _
  · rw [if_neg e]
    exact ⟨by rw [Maps.has_put_other (lit_int_ne e)]; exact h3, fun u hu z => by rw [Maps.atKey_put_other (lit_int_ne e)]; exact h4 u hu z⟩
end
end Go.Proofs.Ythdolmhnjinlhaa
