/-
  Package setup: what Check tells is whether a setup may be.
  Package setup: what reads: one number.
  Package setup: all of a setup, where it is read.
  Package setup: Write and Read, each in one form.
  Setups as values with a letter for their cells; lumperref07.Few; setups that the laws lay.
-/
import Derived.Test.YthdolmhnjinlhaaZao
import Derived.Test.YthdolmhnjinlhaaZac
import Derived.Test.YthdolmhnjinlhaaProg
import Derived.Test.YthdolmhnjinlhaaZab
import Derived.OpenShut
import Derived.Laws.Cover1
import Derived.WalkKit
import Derived.WalkLawsBesides
import Derived.Lib.Hide
import Derived.IntWalk
import Derived.Lib.SliceRun
import Derived.Test.YthdolmhnjinlhaaZai
import Derived.WalkMore
import Derived.ScopeJumps
import Derived.Laws.Slices
import Derived.RegionTactic
import Derived.Deep.OwnRows
import Derived.Laws.CopyOwn
import Derived.Deep.WholeRow
namespace Go.Proofs.Ythdolmhnjinlhaa
open Go.RowKit
set_option linter.unusedVariables false
set_option linter.unusedSimpArgs false

theorem with_iff {n a b : Int} : withB n a b = true ↔ a ≤ n ∧ n ≤ b := by simp [withB]
theorem allP_rows {t : Rows2} {p : List Int → Bool} : allP (fun i => p (t.getD i [])) t.length = true ↔ ∀ r ∈ t, p r = true := by
  rw [allP_iff]
  constructor
  · intro h r hr
    obtain ⟨i, hi, rfl⟩ := List.getElem_of_mem hr
    have := h i hi
    simpa [List.getD, hi] using this
  · intro h i hi
    exact h _ (by simp [List.getD, hi])
theorem way_iff {pl : Int} {r : List Int} : wayB pl (r.getD 0 0) (r.getD 1 0) (r.getD 2 0) = true ↔ wayP pl r := by
  unfold wayB wayP
  simp only [Bool.and_eq_true, with_iff, decide_eq_true_eq, ne_eq]
  omega
theorem ground_iff {s : SetP} : groundB s = true ↔ (1 ≤ s.places ∧ s.places ≤ 16) ∧ s.ways.length ≤ 64 ∧ ∀ r ∈ s.ways, wayP s.places r := by
  unfold groundB
  rw [Bool.and_eq_true, Bool.and_eq_true, with_iff, decide_eq_true_eq, allP_rows (p := fun r => wayB s.places (r.getD 0 0) (r.getD 1 0) (r.getD 2 0))]
  simp only [way_iff]
  constructor
  · rintro ⟨h1, h2, h3⟩; exact ⟨h1, by omega, h3⟩
  · rintro ⟨h1, h2, h3⟩; exact ⟨h1, by omega, h3⟩
theorem ele_iff {t : Rows2} : eleB t = true ↔ t.length ≤ 8 ∧ ∀ r ∈ t, eleP r := by
  unfold eleB
  rw [Bool.and_eq_true, decide_eq_true_eq, allP_rows (p := fun r => shareB (r.getD 0 0) (r.getD 1 0) && shareB (r.getD 2 0) (r.getD 3 0))]
  simp only [Bool.and_eq_true]
  constructor
  · rintro ⟨h1, h2⟩; exact ⟨by omega, h2⟩
  · rintro ⟨h1, h2⟩; exact ⟨by omega, h2⟩
theorem rat_iff {t : Rows2} : ratB t = true ↔ t.length ≤ 8 ∧ ∀ r ∈ t, ratP r := by
  unfold ratB
  rw [Bool.and_eq_true, decide_eq_true_eq, allP_rows (p := fun r => shareB (r.getD 0 0) (r.getD 1 0))]
  constructor
  · rintro ⟨h1, h2⟩; exact ⟨by omega, h2⟩
  · rintro ⟨h1, h2⟩; exact ⟨by omega, h2⟩
theorem rates_iff {l : List Int} : ratesB l = true ↔ l.length ≤ 16 ∧ ∀ n ∈ l, rateP n := by
  unfold ratesB
  have := allP_rows (t := l.map fun z => [z]) (p := fun r => withB (r.getD 0 0) 0 100000)
  rw [List.length_map] at this
  rw [Bool.and_eq_true, decide_eq_true_eq, this]
  simp only [with_iff, List.mem_map]
  constructor
  · rintro ⟨h1, h2⟩
    refine ⟨by omega, fun n hn => ?_⟩
    have := h2 [n] ⟨n, hn, rfl⟩
    exact this
  · rintro ⟨h1, h2⟩
    refine ⟨by omega, ?_⟩
    rintro r ⟨n, hn, rfl⟩
    exact h2 n hn
theorem tiers_iff {t : Rows2} : tiersB t = true ↔ t.length ≤ 8 ∧ ∀ i, i < t.length → tierP t i := by
  unfold tiersB
  rw [Bool.and_eq_true, decide_eq_true_eq, allP_iff]
  simp only [Bool.and_eq_true, with_iff]
  constructor
  · rintro ⟨h1, h2⟩
    refine ⟨by omega, fun i hi => ?_⟩
    have hlo : ∀ i, i < t.length → 0 ≤ (t.getD i []).getD 0 0 := by
      intro i
      induction i with
      | zero => intro hi; have := (h2 0 hi).1.1; exact this
      | succ i ih =>
        intro hi
        have h3 := (h2 (i + 1) hi).1.1
        have h4 := ih (by omega)
        have h5 : loT t (i + 1) = (t.getD i []).getD 0 0 + 1 := rfl
        omega
    obtain ⟨⟨a1, a2⟩, a3, a4⟩ := h2 i hi
    refine ⟨hlo i hi, a2, a3, a4, fun hp => ?_⟩
    obtain ⟨k, rfl⟩ : ∃ k, i = k + 1 := ⟨i - 1, by omega⟩
    have h5 : loT t (k + 1) = (t.getD k []).getD 0 0 + 1 := rfl
    rw [Nat.add_sub_cancel]
    omega
  · rintro ⟨h1, h2⟩
    refine ⟨by omega, fun i hi => ?_⟩
    obtain ⟨a1, a2, a3, a4, a5⟩ := h2 i hi
    refine ⟨⟨?_, a2⟩, a3, a4⟩
    cases i with
    | zero => exact a1
    | succ k =>
      have h5 : loT t (k + 1) = (t.getD k []).getD 0 0 + 1 := rfl
      have := a5 (by omega)
      rw [Nat.add_sub_cancel] at this
      omega
theorem times_iff {s : SetP} : timesB s = true ↔ ((0 ≤ s.paid ∧ s.paid ≤ 86400) ∧ (0 ≤ s.aft ∧ s.aft ≤ 86400) ∧ (0 ≤ s.brk ∧ s.brk ≤ 86400) ∧ (0 ≤ s.reg ∧ s.reg ≤ 86400) ∧ (0 ≤ s.over ∧ s.over ≤ 86400) ∧ (0 ≤ s.nfrom ∧ s.nfrom ≤ 86400) ∧ (0 ≤ s.nto ∧ s.nto ≤ 86400) ∧ (0 ≤ s.fault ∧ s.fault ≤ 86400)) ∧ s.reg ≤ s.over ∧ (0 ≤ s.week ∧ s.week ≤ 604800) ∧ (1 ≤ s.unit ∧ s.unit ≤ 3600) ∧ (60 ≤ s.cap ∧ s.cap ≤ 57600) := by
  have e : allP (fun i => withB ((([s.paid, s.aft, s.brk, s.reg, s.over, s.nfrom, s.nto, s.fault].map fun z => [z]).getD i []).getD 0 0) 0 86400) 8 = (withB s.paid 0 86400 && (withB s.aft 0 86400 && (withB s.brk 0 86400 && (withB s.reg 0 86400 && (withB s.over 0 86400 && (withB s.nfrom 0 86400 && (withB s.nto 0 86400 && (withB s.fault 0 86400 && true)))))))) := rfl
  unfold timesB
  rw [e]
  simp only [Bool.and_eq_true, with_iff, decide_eq_true_eq, Int.le_refl, true_and, and_true]
  constructor
  · intro h; omega
  · intro h; omega
theorem check_iff {s : SetP} : checkB s = true ↔ s.May := by
  unfold checkB workB moneyB
  simp only [Bool.and_eq_true, ground_iff, ele_iff, rat_iff, times_iff, rates_iff, tiers_iff, with_iff, decide_eq_true_eq]
  constructor
  · rintro ⟨⟨⟨⟨g1, g2⟩, ⟨⟨⟨⟨w1, w2⟩, w3⟩, w4⟩, w5⟩⟩, ⟨⟨t1, t2, t3, t4, t5, t6, t7, t8⟩, t9, t10, t11, t12⟩⟩, ⟨⟨⟨⟨m1, m2⟩, m3⟩, m4⟩, m5⟩⟩
    exact ⟨g1, g2, w1, w2, w3, w4, w5, t11, t12, t1, t2, t3, t6, t7, t8, ⟨t4.1, t9⟩, t5.2, t10, ⟨by omega, m2⟩, m3, m4, m5⟩
  · intro h
    have := h.reg
    have := h.over
    exact ⟨⟨⟨⟨h.places, h.ways⟩, ⟨⟨⟨⟨h.pace, h.elements⟩, h.classes⟩, h.gears⟩, h.allow⟩⟩, ⟨⟨h.paid, h.aft, h.brk, by omega, by omega, h.nfrom, h.nto, h.fault⟩, h.reg.2, h.week, h.unit, h.cap⟩⟩, ⟨⟨⟨⟨by have := h.rates.1; omega, h.rates.2⟩, h.diff⟩, h.least⟩, h.tiers⟩⟩
end Go.Proofs.Ythdolmhnjinlhaa

namespace Go.Proofs.Ythdolmhnjinlhaa
open Go.RowKit
set_option linter.unusedVariables false
set_option linter.unusedSimpArgs false
set_option maxRecDepth 20000

/-- What reads lies at block g, and has the bytes l left, which lie where they lay in R0; the blocks F are not its own. -/
structure RPen (R0 : World) (F : Nat → Prop) (g : Nat) (l : List (BitVec 8)) (w : World) : Prop where
  lay : ∃ A c, Has w g #[.slice A l.length c] ∧ (∀ w0, Below R0.heap.size R0 w0 → Sl 1 w0 A l.length c (bytesV l)) ∧ l.length ≤ c
  bel : Below R0.heap.size R0 w
  own : R0.heap.size ≤ g
  out : ¬ F g
  low : ∀ b, F b → b < w.heap.size
theorem RPen.keep {R0 : World} {F : Nat → Prop} {g : Nat} {l : List (BitVec 8)} {w w' : World} (h : RPen R0 F g l w) (hb : Below w.heap.size w w') : RPen R0 F g l w' := by
  obtain ⟨⟨A, c, h1, h2, h3⟩, h4, h5, h6, h7⟩ := h
  exact ⟨⟨A, c, h1.below hb, h2, h3⟩, bel_on h4 hb, h5, h6, fun b hF => Nat.lt_of_lt_of_le (h7 b hF) hb.size⟩
theorem RPen.less {R0 : World} {F G : Nat → Prop} {g : Nat} {l : List (BitVec 8)} {w : World} (h : RPen R0 F g l w) (hG : ∀ b, G b → F b) : RPen R0 G g l w := by
  obtain ⟨h1, h4, h5, h6, h7⟩ := h
  exact ⟨h1, h4, h5, fun k => h6 (hG _ k), fun b k => h7 b (hG _ k)⟩
theorem RPen.size {R0 : World} {F : Nat → Prop} {g : Nat} {l : List (BitVec 8)} {w : World} (h : RPen R0 F g l w) : R0.heap.size ≤ w.heap.size := h.bel.size
end Go.Proofs.Ythdolmhnjinlhaa

namespace Go.Proofs.Ythdolmhnjinlhaa
open Go.RowKit
set_option linter.unusedVariables false
set_option linter.unusedSimpArgs false
set_option maxRecDepth 20000

/-! ### Without the program -/
/-! ### What reads, step by step -/
def z23 : Array Value := #[.int .i64 0, .slice none 0 0, .int .i64 0, .int .i64 0, .slice none 0 0, .slice none 0 0, .slice none 0 0, .int .i64 0, .int .i64 0, .int .i64 0, .int .i64 0, .int .i64 0, .int .i64 0, .int .i64 0, .int .i64 0, .int .i64 0, .int .i64 0, .int .i64 0, .slice none 0 0, .int .i64 0, .int .i64 0, .int .i64 0, .slice none 0 0]
end Go.Proofs.Ythdolmhnjinlhaa

namespace Go.Proofs.Ythdolmhnjinlhaa
open Go.RowKit
set_option linter.unusedVariables false
set_option linter.unusedSimpArgs false
set_option maxRecDepth 20000

theorem setcheck_un (s : SetP) (A1 A2 A3 A4 A5 A6 : Option Addr) (c1 c2 c3 c4 c5 c6 : Nat) (w : World) (hs : SetAt w s A1 A2 A3 A4 A5 A6 c1 c2 c3 c4 c5 c6) (hf : s.Fit) (b : Bool) (hb : checkB s = b) :
    Calls Try.prog 9 #[setV s A1 A2 A3 A4 A5 A6 c1 c2 c3 c4 c5 c6] w fun e w' => e = .returned (.bool b) ∧ Below w.heap.size w w' := by
  subst hb
  exact setcheck_any s A1 A2 A3 A4 A5 A6 c1 c2 c3 c4 c5 c6 w hs hf
theorem wpList_store_has {ops : Array Oper} {rest : List Oper} {o : Oper} {a : Act} {w : World} {Q : Exit → Act → World → Prop} (hgd : o.guard = none) (x y : Operand) (ho : o.op = .store 30 x y)
    (g : Nat) (cs : Array Value) (hx : a.eval x = .pointer (some ⟨g, 0, none⟩)) (hy : a.eval y = .agg cs) (old : Array Value) (hg : Has w g old) (hold : old.size = 23) (hs : cs.size = 23) (h1 : cs.all (·.oneCell') = true)
    (h : wpList Try.prog ops Q rest (a.put o.dst undef) (w.setRow g cs)) : wpList Try.prog ops Q (o :: rest) a w := by
  obtain ⟨t, hg⟩ := hg
  exact wpList_store_row hgd _ x y ho g cs hx hy t old hg (by rw [hs]; kernel_rfl) (by rw [hold, hs]) h1 h
theorem setV_cells (s : SetP) (A1 A2 A3 A4 A5 A6 : Option Addr) (c1 c2 c3 c4 c5 c6 : Nat) (cs : Array Value) (h : setV s A1 A2 A3 A4 A5 A6 c1 c2 c3 c4 c5 c6 = .agg cs) : cs.size = 23 ∧ cs.all (·.oneCell') = true := by
  unfold setV at h
  injection h with h
  subst h
  exact ⟨rfl, by simp [Value.oneCell']⟩
end Go.Proofs.Ythdolmhnjinlhaa

namespace Go.Proofs.Ythdolmhnjinlhaa
open Go.RowKit
set_option linter.unusedVariables false
set_option linter.unusedSimpArgs false
set_option maxRecDepth 20000

/-- The cells cs are those of the setup s. -/
def SetC (w : World) (s : SetP) (cs : Array Value) : Prop := ∃ (A1 A2 A3 A4 A5 A6 : Option Addr) (c1 c2 c3 c4 c5 c6 : Nat), setV s A1 A2 A3 A4 A5 A6 c1 c2 c3 c4 c5 c6 = .agg cs ∧ SetAt w s A1 A2 A3 A4 A5 A6 c1 c2 c3 c4 c5 c6
section
variable {w w' : World} {s : SetP} {cs : Array Value}
theorem SetC.below (h : SetC w s cs) (hb : Below w.heap.size w w') : SetC w' s cs := by
  obtain ⟨A1, A2, A3, A4, A5, A6, c1, c2, c3, c4, c5, c6, h1, h2⟩ := h
  exact ⟨A1, A2, A3, A4, A5, A6, c1, c2, c3, c4, c5, c6, h1, h2.below hb⟩
theorem SetC.size (h : SetC w s cs) : cs.size = 23 := by
  obtain ⟨A1, A2, A3, A4, A5, A6, c1, c2, c3, c4, c5, c6, h1, h2⟩ := h
  exact (setV_cells _ _ _ _ _ _ _ _ _ _ _ _ _ _ h1).1
theorem scheck_c (h : SetC w s cs) (hf : s.Fit) (b : Bool) (hb : checkB s = b) :
    Calls Try.prog 9 #[.agg cs] w fun e w' => e = .returned (.bool b) ∧ Below w.heap.size w w' := by
  obtain ⟨A1, A2, A3, A4, A5, A6, c1, c2, c3, c4, c5, c6, h1, h2⟩ := h
  rw [← h1]
  exact setcheck_un s A1 A2 A3 A4 A5 A6 c1 c2 c3 c4 c5 c6 w h2 hf b hb
end
/-- In a walk: a variable of type api.Setup is laid. -/
theorem wpList_laidS {ops : Array Oper} {rest : List Oper} {o1 o : Oper} {a : Act} {w : World} {Q : Exit → Act → World → Prop} (cs : Array Value) (d : Tmp) (x y : Operand) (hg1 : o1.guard = none) (ho1 : o1.op = .alloc 30) (hd1 : o1.dst = some d)
    (hgd : o.guard = none) (ho : o.op = .store 30 x y) (hd : o.dst = none) (hx : (a.put o1.dst (.pointer (some ⟨w.heap.size, 0, none⟩))).eval x = .pointer (some ⟨w.heap.size, 0, none⟩)) (hy : (a.put o1.dst (.pointer (some ⟨w.heap.size, 0, none⟩))).eval y = .agg cs)
    (hs : cs.size = 23) (h1 : cs.all (·.oneCell') = true)
    (h : wpList Try.prog ops Q rest (a.put o1.dst (.pointer (some ⟨w.heap.size, 0, none⟩))) (w.alloc (.cells cs 30))) : wpList Try.prog ops Q (o1 :: o :: rest) a w := by
  rw [hd1] at hx hy h
  refine wpList_plain hg1 fun K hK => ?_
  unfold Oper.wp execOp
  simp only [ho1]
  go_simp
  refine hK _ _ ?_
  refine wpList_store_has hgd x y ho w.heap.size cs hx hy z23 (Has.new _ _ _ rfl) rfl hs h1 ?_
  rw [hd]
  have e := World.setRow_alloc_new w z23 cs 30
  unfold z23 at e
  rw [e]
  exact h
/-! ### Few -/
def mxI (x y : Int) : Int := if y > x then y else x
theorem run_max6 {P : Program} {w : World} (ts : Array TypeId) (t : TypeId) (a b c d e f : Int) : (Builtin.max_ ts t #[.int .i64 a, .int .i64 b, .int .i64 c, .int .i64 d, .int .i64 e, .int .i64 f]).run P w = .ok (.int .i64 (mxI (mxI (mxI (mxI (mxI a b) c) d) e) f)) w := by
  simp [Builtin.max_, Builtin.max2, mxI]
theorem mx_le {x y z : Int} : mxI x y ≤ z ↔ x ≤ z ∧ y ≤ z := by
  unfold mxI
  split <;> omega
theorem wpList_max6 {P : Program} {ops : Array Oper} {rest : List Oper} {o : Oper} {a : Act} {w : World} {Q : Exit → Act → World → Prop} {x1 x2 x3 x4 x5 x6 : Operand} {ts : Array TypeId} (n1 n2 n3 n4 n5 n6 : Int) (hgd : o.guard = none)
    (ho : o.op = .call { callee := .builtin .max, args := #[x1, x2, x3, x4, x5, x6], argTypes := ts }) (h1 : a.eval x1 = .int .i64 n1) (h2 : a.eval x2 = .int .i64 n2) (h3 : a.eval x3 = .int .i64 n3) (h4 : a.eval x4 = .int .i64 n4) (h5 : a.eval x5 = .int .i64 n5) (h6 : a.eval x6 = .int .i64 n6)
    (m : Int) (hm : mxI (mxI (mxI (mxI (mxI n1 n2) n3) n4) n5) n6 = m)
    (h : wpList P ops Q rest (a.put o.dst (.int .i64 m)) w) : wpList P ops Q (o :: rest) a w := by
  refine wpList_plain hgd fun K hK => ?_
  unfold Oper.wp execOp
  simp only [ho, resolve, invoke, builtin, Sem.run_bind, Sem.run_pure, Result.andThen_ok, List.map_toArray, List.map_cons, List.map_nil, h1, h2, h3, h4, h5, h6, run_max6, hm]
  exact hK _ _ h
def SetP.Few (s : SetP) : Prop := s.ways.length ≤ 100 ∧ s.elements.length ≤ 100 ∧ s.classes.length ≤ 100 ∧ s.gears.length ≤ 100 ∧ s.rates.length ≤ 100 ∧ s.tiers.length ≤ 100
instance (s : SetP) : Decidable s.Few := by unfold SetP.Few; infer_instance
set_option maxHeartbeats 2000000 in
theorem few_c {w : World} {s : SetP} {cs : Array Value} (h : SetC w s cs) (b : Bool) (hb : decide s.Few = b) :
    Calls Try.prog 16 #[.agg cs] w fun e w' => e = .returned (.bool b) ∧ Below w.heap.size w w' := by
  obtain ⟨A1, A2, A3, A4, A5, A6, c1, c2, c3, c4, c5, c6, h1, h2⟩ := h
  unfold setV at h1
  injection h1 with h1
  subst h1
  obtain ⟨m, hm⟩ : ∃ m, mxI (mxI (mxI (mxI (mxI s.ways.length s.elements.length) s.classes.length) s.gears.length) s.rates.length) s.tiers.length = m := ⟨_, rfl⟩
  have HM := Lib.hid hm
  have HD : Hid (decide (m ≤ 100) = b) := by
    show _ = _
    rw [← hb, ← hm]
    apply decide_eq_decide.2
    simp only [mx_le, SetP.Few]
    omega
  clear h2 hb hm
  go_enter Try.func16, Try.ntmps16
  go_wp2_with (refine wpList_max6 _ _ _ _ _ _ rfl rfl rfl rfl rfl rfl rfl rfl m HM.out ?_)
  go_ret
  exact ⟨ret_bool HD.out, by (repeat' (first | with_reducible exact Below.refl _ _ | with_reducible assumption | with_reducible refine bel_alloc ?_ _ | with_reducible refine bel_set ?_ ?_ _ | with_reducible refine below_drewN ?_ _ | with_reducible refine below_drew ?_ | (simp; done) | (simp; omega) | omega))⟩
/-! ### least -/
end Go.Proofs.Ythdolmhnjinlhaa
