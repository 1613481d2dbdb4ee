/-
  Package setup: all of a setup, where it is read.
  Package setup: Write and Read, each in one form.
  Setups as values with a letter for their cells; lumperref07.Few; setups that the laws lay.
  Slices of structs of numbers of the call's own: append of one.
  What layer 18 reads of a setup.
-/
import Derived.Test.YtpgncbhahocmbaaGreatQan
import Derived.Test.YtpgncbhahocmbaaGreatQab
import Derived.Test.YtpgncbhahocmbaaGreatProg
import Derived.Test.YtpgncbhahocmbaaGreatQaa
import Derived.OpenShut
import Derived.Laws.Cover1
import Derived.WalkKit
import Derived.WalkLawsBesides
import Derived.Lib.Hide
import Derived.IntWalk
import Derived.Lib.SliceRun
import Derived.WalkMore
import Derived.ScopeJumps
import Derived.Laws.BytesArg
import Derived.Laws.Slices
import Derived.RegionTactic
import Derived.Deep.OwnRows
import Derived.Laws.CopyOwn
import Derived.Deep.WholeRow
import Derived.Test.YtpgncbhahocmbaaGreatQak
import Derived.Deep.DeepCutAuto
import Derived.Test.YtpgncbhahocmbaaGreatQac
namespace Go.Proofs.YtpgncbhahocmbaaGreat
open Go.RowKit
set_option linter.unusedVariables false
set_option linter.unusedSimpArgs false
set_option maxRecDepth 20000

/-! ### Without the program -/
/-! ### What reads, step by step -/
def z23 : Array Value := #[.int .i64 0, .slice none 0 0, .int .i64 0, .int .i64 0, .slice none 0 0, .slice none 0 0, .slice none 0 0, .int .i64 0, .int .i64 0, .int .i64 0, .int .i64 0, .int .i64 0, .int .i64 0, .int .i64 0, .int .i64 0, .int .i64 0, .int .i64 0, .int .i64 0, .slice none 0 0, .int .i64 0, .int .i64 0, .int .i64 0, .slice none 0 0]
end Go.Proofs.YtpgncbhahocmbaaGreat

namespace Go.Proofs.YtpgncbhahocmbaaGreat
open Go.RowKit
set_option linter.unusedVariables false
set_option linter.unusedSimpArgs false
set_option maxRecDepth 20000

theorem setcheck_un (s : SetP) (A1 A2 A3 A4 A5 A6 : Option Addr) (c1 c2 c3 c4 c5 c6 : Nat) (w : World) (hs : SetAt w s A1 A2 A3 A4 A5 A6 c1 c2 c3 c4 c5 c6) (hf : s.Fit) (b : Bool) (hb : checkB s = b) :
    Calls Tryz.prog 16 #[setV s A1 A2 A3 A4 A5 A6 c1 c2 c3 c4 c5 c6] w fun e w' => e = .returned (.bool b) ∧ Below w.heap.size w w' := by
  subst hb
  exact setcheck_any s A1 A2 A3 A4 A5 A6 c1 c2 c3 c4 c5 c6 w hs hf
theorem wpList_store_has {ops : Array Oper} {rest : List Oper} {o : Oper} {a : Act} {w : World} {Q : Exit → Act → World → Prop} (hgd : o.guard = none) (x y : Operand) (ho : o.op = .store 30 x y)
    (g : Nat) (cs : Array Value) (hx : a.eval x = .pointer (some ⟨g, 0, none⟩)) (hy : a.eval y = .agg cs) (old : Array Value) (hg : Has w g old) (hold : old.size = 23) (hs : cs.size = 23) (h1 : cs.all (·.oneCell') = true)
    (h : wpList Tryz.prog ops Q rest (a.put o.dst undef) (w.setRow g cs)) : wpList Tryz.prog ops Q (o :: rest) a w := by
  obtain ⟨t, hg⟩ := hg
  exact wpList_store_row hgd _ x y ho g cs hx hy t old hg (by rw [hs]; kernel_rfl) (by rw [hold, hs]) h1 h
theorem setV_cells (s : SetP) (A1 A2 A3 A4 A5 A6 : Option Addr) (c1 c2 c3 c4 c5 c6 : Nat) (cs : Array Value) (h : setV s A1 A2 A3 A4 A5 A6 c1 c2 c3 c4 c5 c6 = .agg cs) : cs.size = 23 ∧ cs.all (·.oneCell') = true := by
  unfold setV at h
  injection h with h
  subst h
  exact ⟨rfl, by simp [Value.oneCell']⟩
end Go.Proofs.YtpgncbhahocmbaaGreat

namespace Go.Proofs.YtpgncbhahocmbaaGreat
open Go.RowKit
set_option linter.unusedVariables false
set_option linter.unusedSimpArgs false
set_option maxRecDepth 20000

/-- The cells cs are those of the setup s. -/
def SetC (w : World) (s : SetP) (cs : Array Value) : Prop := ∃ (A1 A2 A3 A4 A5 A6 : Option Addr) (c1 c2 c3 c4 c5 c6 : Nat), setV s A1 A2 A3 A4 A5 A6 c1 c2 c3 c4 c5 c6 = .agg cs ∧ SetAt w s A1 A2 A3 A4 A5 A6 c1 c2 c3 c4 c5 c6
section
variable {w w' : World} {s : SetP} {cs : Array Value}
theorem SetC.below (h : SetC w s cs) (hb : Below w.heap.size w w') : SetC w' s cs := by
  obtain ⟨A1, A2, A3, A4, A5, A6, c1, c2, c3, c4, c5, c6, h1, h2⟩ := h
  exact ⟨A1, A2, A3, A4, A5, A6, c1, c2, c3, c4, c5, c6, h1, h2.below hb⟩
theorem SetC.size (h : SetC w s cs) : cs.size = 23 := by
  obtain ⟨A1, A2, A3, A4, A5, A6, c1, c2, c3, c4, c5, c6, h1, h2⟩ := h
  exact (setV_cells _ _ _ _ _ _ _ _ _ _ _ _ _ _ h1).1
theorem SetC.one (h : SetC w s cs) : cs.all (·.oneCell') = true := by
  obtain ⟨A1, A2, A3, A4, A5, A6, c1, c2, c3, c4, c5, c6, h1, h2⟩ := h
  exact (setV_cells _ _ _ _ _ _ _ _ _ _ _ _ _ _ h1).2
theorem scheck_c (h : SetC w s cs) (hf : s.Fit) (b : Bool) (hb : checkB s = b) :
    Calls Tryz.prog 16 #[.agg cs] w fun e w' => e = .returned (.bool b) ∧ Below w.heap.size w w' := by
  obtain ⟨A1, A2, A3, A4, A5, A6, c1, c2, c3, c4, c5, c6, h1, h2⟩ := h
  rw [← h1]
  exact setcheck_un s A1 A2 A3 A4 A5 A6 c1 c2 c3 c4 c5 c6 w h2 hf b hb
end
/-- In a walk: a variable of type api.Setup is laid. -/
theorem wpList_laidS {ops : Array Oper} {rest : List Oper} {o1 o : Oper} {a : Act} {w : World} {Q : Exit → Act → World → Prop} (cs : Array Value) (d : Tmp) (x y : Operand) (hg1 : o1.guard = none) (ho1 : o1.op = .alloc 30) (hd1 : o1.dst = some d)
    (hgd : o.guard = none) (ho : o.op = .store 30 x y) (hd : o.dst = none) (hx : (a.put o1.dst (.pointer (some ⟨w.heap.size, 0, none⟩))).eval x = .pointer (some ⟨w.heap.size, 0, none⟩)) (hy : (a.put o1.dst (.pointer (some ⟨w.heap.size, 0, none⟩))).eval y = .agg cs)
    (hs : cs.size = 23) (h1 : cs.all (·.oneCell') = true)
    (h : wpList Tryz.prog ops Q rest (a.put o1.dst (.pointer (some ⟨w.heap.size, 0, none⟩))) (w.alloc (.cells cs 30))) : wpList Tryz.prog ops Q (o1 :: o :: rest) a w := by
  rw [hd1] at hx hy h
  refine wpList_plain hg1 fun K hK => ?_
  unfold Oper.wp execOp
  simp only [ho1]
  go_simp
  refine hK _ _ ?_
  refine wpList_store_has hgd x y ho w.heap.size cs hx hy z23 (Has.new _ _ _ rfl) rfl hs h1 ?_
  rw [hd]
  have e := World.setRow_alloc_new w z23 cs 30
  unfold z23 at e
  rw [e]
  exact h
/-! ### Few -/
def mxI (x y : Int) : Int := if y > x then y else x
theorem run_max6 {P : Program} {w : World} (ts : Array TypeId) (t : TypeId) (a b c d e f : Int) : (Builtin.max_ ts t #[.int .i64 a, .int .i64 b, .int .i64 c, .int .i64 d, .int .i64 e, .int .i64 f]).run P w = .ok (.int .i64 (mxI (mxI (mxI (mxI (mxI a b) c) d) e) f)) w := by
  simp [Builtin.max_, Builtin.max2, mxI]
theorem mx_le {x y z : Int} : mxI x y ≤ z ↔ x ≤ z ∧ y ≤ z := by
  unfold mxI
  split <;> omega
theorem wpList_max6 {P : Program} {ops : Array Oper} {rest : List Oper} {o : Oper} {a : Act} {w : World} {Q : Exit → Act → World → Prop} {x1 x2 x3 x4 x5 x6 : Operand} {ts : Array TypeId} (n1 n2 n3 n4 n5 n6 : Int) (hgd : o.guard = none)
    (ho : o.op = .call { callee := .builtin .max, args := #[x1, x2, x3, x4, x5, x6], argTypes := ts }) (h1 : a.eval x1 = .int .i64 n1) (h2 : a.eval x2 = .int .i64 n2) (h3 : a.eval x3 = .int .i64 n3) (h4 : a.eval x4 = .int .i64 n4) (h5 : a.eval x5 = .int .i64 n5) (h6 : a.eval x6 = .int .i64 n6)
    (m : Int) (hm : mxI (mxI (mxI (mxI (mxI n1 n2) n3) n4) n5) n6 = m)
    (h : wpList P ops Q rest (a.put o.dst (.int .i64 m)) w) : wpList P ops Q (o :: rest) a w := by
  refine wpList_plain hgd fun K hK => ?_
  unfold Oper.wp execOp
  simp only [ho, resolve, invoke, builtin, Sem.run_bind, Sem.run_pure, Result.andThen_ok, List.map_toArray, List.map_cons, List.map_nil, h1, h2, h3, h4, h5, h6, run_max6, hm]
  exact hK _ _ h
def SetP.Few (s : SetP) : Prop := s.ways.length ≤ 100 ∧ s.elements.length ≤ 100 ∧ s.classes.length ≤ 100 ∧ s.gears.length ≤ 100 ∧ s.rates.length ≤ 100 ∧ s.tiers.length ≤ 100
instance (s : SetP) : Decidable s.Few := by unfold SetP.Few; infer_instance
set_option maxHeartbeats 2000000 in
theorem few_c {w : World} {s : SetP} {cs : Array Value} (h : SetC w s cs) (b : Bool) (hb : decide s.Few = b) :
    Calls Tryz.prog 27 #[.agg cs] w fun e w' => e = .returned (.bool b) ∧ Below w.heap.size w w' := by
  obtain ⟨A1, A2, A3, A4, A5, A6, c1, c2, c3, c4, c5, c6, h1, h2⟩ := h
  unfold setV at h1
  injection h1 with h1
  subst h1
  obtain ⟨m, hm⟩ : ∃ m, mxI (mxI (mxI (mxI (mxI s.ways.length s.elements.length) s.classes.length) s.gears.length) s.rates.length) s.tiers.length = m := ⟨_, rfl⟩
  have HM := Lib.hid hm
  have HD : Hid (decide (m ≤ 100) = b) := by
    show _ = _
    rw [← hb, ← hm]
    apply decide_eq_decide.2
    simp only [mx_le, SetP.Few]
    omega
  clear h2 hb hm
  go_enter Tryz.func27, Tryz.ntmps27
  go_wp2_with (refine wpList_max6 _ _ _ _ _ _ rfl rfl rfl rfl rfl rfl rfl rfl m HM.out ?_)
  go_ret
  exact ⟨ret_bool HD.out, by (repeat' (first | with_reducible exact Below.refl _ _ | with_reducible assumption | with_reducible refine bel_alloc ?_ _ | with_reducible refine bel_set ?_ ?_ _ | with_reducible refine below_drewN ?_ _ | with_reducible refine below_drew ?_ | (simp; done) | (simp; omega) | omega))⟩
/-! ### least -/
end Go.Proofs.YtpgncbhahocmbaaGreat

namespace Go.Proofs.YtpgncbhahocmbaaGreat
open Go.RowKit
set_option linter.unusedVariables false
set_option linter.unusedSimpArgs false

/-- A slice of n structs of k numbers, of the call's own, that lies at 'base' or behind. -/
def TRow (e : TypeId) (k : Nat) (w : World) (base : Nat) (A : Option Addr) (n c : Nat) (rows : Rows2) : Prop :=
  w.ownsRow base e k (.slice A n c) n (ints .i64 rows.flatten)
section
variable {e : TypeId} {k : Nat} {w w' : World} {base n c : Nat} {A : Option Addr} {rows : Rows2}
theorem TRow.nil (w : World) (base : Nat) : TRow e k w base none 0 0 [] := World.ownsRow_nil w base _ _
theorem TRow.keep (h : TRow e k w base A n c rows) (hk : ∀ g, A = some g → w'.heap[g.block]? = w.heap[g.block]?) : TRow e k w' base A n c rows := by
  obtain ⟨hl, hn | ⟨g, cap, cur, hv, hg, hh, rest⟩⟩ := h
  · exact ⟨hl, .inl hn⟩
  · injection hv with e1 e2 e3
    subst e1
    exact ⟨hl, .inr ⟨g, cap, cur, by rw [e3], hg, (hk _ rfl).trans hh, rest⟩⟩
theorem TRow.lt (h : TRow e k w base A n c rows) : ∀ g, A = some g → base ≤ g.block ∧ g.block < w.heap.size := by
  rintro g rfl
  exact World.ownsRow.lt h _ rfl
theorem TRow.below (h : TRow e k w base A n c rows) (hb : Below w.heap.size w w') : TRow e k w' base A n c rows :=
  h.keep fun g hg => hb.block _ (h.lt g hg).2
theorem TRow.alloc (h : TRow e k w base A n c rows) (o : Obj) : TRow e k (w.alloc o) base A n c rows := World.ownsRow.alloc h o
theorem TRow.drew (h : TRow e k w base A n c rows) : TRow e k w.drew base A n c rows := h
theorem TRow.set (h : TRow e k w base A n c rows) {p : Addr} (hp : p.block < base) (v : Value) : TRow e k (w.setCell p v) base A n c rows :=
  h.keep fun g hg => Below.heap_setCell w p v g.block (by have := (h.lt g hg).1; omega)
theorem TRow.caps (h : TRow e k w base A n c rows) : n ≤ c ∧ c ≤ 9223372036854775807 := by
  obtain ⟨hl, ⟨hv, hz⟩ | ⟨g, cap, cur, hv, hb, hh, hc, hm, _⟩⟩ := h
  · injection hv with e1 e2 e3
    omega
  · injection hv with e1 e2 e3
    simp only [maxLen] at hm
    omega
theorem TRow.tab (h : TRow e k w base A n c rows) (hn : rows.length = n) (hw : ∀ r ∈ rows, r.length = k) (hs : ∀ r ∈ rows, ∀ z ∈ r, In64 z) : Tab k w A n c rows :=
  ⟨Sl.of_own h, hn, hw, hs, h.caps.1, h.caps.2⟩
end
theorem ratio_info : (Tryz.prog.info? 24).map (fun i => (i.zero, i.size, i.bytes)) = some (some (.agg #[.int .i64 0, .int .i64 0]), 2, 16) := by kernel_rfl
end Go.Proofs.YtpgncbhahocmbaaGreat

namespace Go.Proofs.YtpgncbhahocmbaaGreat
open Go.RowKit
set_option linter.unusedVariables false
set_option linter.unusedSimpArgs false
set_option maxRecDepth 20000

theorem setC_fault {w : World} {s : SetP} {cs : Array Value} (h : SetC w s cs) : cs[21]? = some (.int .i64 s.fault) := by
  obtain ⟨A1, A2, A3, A4, A5, A6, c1, c2, c3, c4, c5, c6, h1, _⟩ := h
  unfold setV at h1
  injection h1 with h1
  rw [← h1]
  rfl
theorem setC_tiers {w : World} {s : SetP} {cs : Array Value} (h : SetC w s cs) : ∃ A c, cs[22]? = some (.slice A s.tiers.length c) ∧ Tab 2 w A s.tiers.length c s.tiers := by
  obtain ⟨A1, A2, A3, A4, A5, A6, c1, c2, c3, c4, c5, c6, h1, h2⟩ := h
  unfold setV at h1
  injection h1 with h1
  exact ⟨A6, c6, by rw [← h1]; rfl, h2.tiers⟩
end Go.Proofs.YtpgncbhahocmbaaGreat
