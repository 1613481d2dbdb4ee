/-
  Package setup: what Check tells is whether a setup may be.
  Package setup: what reads: one number.
  Package setup: lists, where they are read.
  Package setup: all of a setup, where it is read.
  Package setup: Write and Read, each in one form.
  Setups as values with a letter for their cells; lumperref07.Few; setups that the laws lay.
  lumperref07: what the document says of shares, elements, ways and times.
  lumperref07.numbers: a setup's numbers.
  Rows of events: a copy, and the library's insertion sort.
-/
import Derived.Test.YtdlimgpmmkcgmaaGreatZaj
import Derived.Test.YtdlimgpmmkcgmaaGreatZab
import Derived.Test.YtdlimgpmmkcgmaaGreatProg
import Derived.Test.YtdlimgpmmkcgmaaGreatZaf
import Derived.Test.YtdlimgpmmkcgmaaGreatZac
import Derived.OpenShut
import Derived.Laws.Cover1
import Derived.Test.YtdlimgpmmkcgmaaGreatZaa
import Derived.WalkKit
import Derived.WalkLawsBesides
import Derived.Lib.Hide
import Derived.IntWalk
import Derived.Lib.SliceRun
import Derived.Test.YtdlimgpmmkcgmaaGreatZae
import Derived.WalkMore
import Derived.ScopeJumps
import Derived.RegionTactic
import Derived.Deep.OwnRows
import Derived.Laws.CopyOwn
import Derived.Deep.WholeRow
import Derived.Test.YtdlimgpmmkcgmaaGreatZag
import Derived.Sort.Grow
import Derived.Shelf.Abstract
namespace Go.Proofs.YtdlimgpmmkcgmaaGreat
open Go.RowKit
set_option linter.unusedVariables false
set_option linter.unusedSimpArgs false

theorem with_iff {n a b : Int} : withB n a b = true ↔ a ≤ n ∧ n ≤ b := by simp [withB]
theorem allP_rows {t : Rows2} {p : List Int → Bool} : allP (fun i => p (t.getD i [])) t.length = true ↔ ∀ r ∈ t, p r = true := by
  rw [allP_iff]
  constructor
  · intro h r hr
    obtain ⟨i, hi, rfl⟩ := List.getElem_of_mem hr
    have := h i hi
    simpa [List.getD, hi] using this
  · intro h i hi
    exact h _ (by simp [List.getD, hi])
theorem way_iff {pl : Int} {r : List Int} : wayB pl (r.getD 0 0) (r.getD 1 0) (r.getD 2 0) = true ↔ wayP pl r := by
  unfold wayB wayP
  simp only [Bool.and_eq_true, with_iff, decide_eq_true_eq, ne_eq]
  omega
theorem ground_iff {s : SetP} : groundB s = true ↔ (1 ≤ s.places ∧ s.places ≤ 16) ∧ s.ways.length ≤ 64 ∧ ∀ r ∈ s.ways, wayP s.places r := by
  unfold groundB
  rw [Bool.and_eq_true, Bool.and_eq_true, with_iff, decide_eq_true_eq, allP_rows (p := fun r => wayB s.places (r.getD 0 0) (r.getD 1 0) (r.getD 2 0))]
  simp only [way_iff]
  constructor
  · rintro ⟨h1, h2, h3⟩; exact ⟨h1, by omega, h3⟩
  · rintro ⟨h1, h2, h3⟩; exact ⟨h1, by omega, h3⟩
theorem ele_iff {t : Rows2} : eleB t = true ↔ t.length ≤ 8 ∧ ∀ r ∈ t, eleP r := by
  unfold eleB
  rw [Bool.and_eq_true, decide_eq_true_eq, allP_rows (p := fun r => shareB (r.getD 0 0) (r.getD 1 0) && shareB (r.getD 2 0) (r.getD 3 0))]
  simp only [Bool.and_eq_true]
  constructor
  · rintro ⟨h1, h2⟩; exact ⟨by omega, h2⟩
  · rintro ⟨h1, h2⟩; exact ⟨by omega, h2⟩
theorem rat_iff {t : Rows2} : ratB t = true ↔ t.length ≤ 8 ∧ ∀ r ∈ t, ratP r := by
  unfold ratB
  rw [Bool.and_eq_true, decide_eq_true_eq, allP_rows (p := fun r => shareB (r.getD 0 0) (r.getD 1 0))]
  constructor
  · rintro ⟨h1, h2⟩; exact ⟨by omega, h2⟩
  · rintro ⟨h1, h2⟩; exact ⟨by omega, h2⟩
theorem rates_iff {l : List Int} : ratesB l = true ↔ l.length ≤ 16 ∧ ∀ n ∈ l, rateP n := by
  unfold ratesB
  have := allP_rows (t := l.map fun z => [z]) (p := fun r => withB (r.getD 0 0) 0 100000)
  rw [List.length_map] at this
  rw [Bool.and_eq_true, decide_eq_true_eq, this]
  simp only [with_iff, List.mem_map]
  constructor
  · rintro ⟨h1, h2⟩
    refine ⟨by omega, fun n hn => ?_⟩
    have := h2 [n] ⟨n, hn, rfl⟩
    exact this
  · rintro ⟨h1, h2⟩
    refine ⟨by omega, ?_⟩
    rintro r ⟨n, hn, rfl⟩
    exact h2 n hn
theorem tiers_iff {t : Rows2} : tiersB t = true ↔ t.length ≤ 8 ∧ ∀ i, i < t.length → tierP t i := by
  unfold tiersB
  rw [Bool.and_eq_true, decide_eq_true_eq, allP_iff]
  simp only [Bool.and_eq_true, with_iff]
  constructor
  · rintro ⟨h1, h2⟩
    refine ⟨by omega, fun i hi => ?_⟩
    have hlo : ∀ i, i < t.length → 0 ≤ (t.getD i []).getD 0 0 := by
      intro i
      induction i with
      | zero => intro hi; have := (h2 0 hi).1.1; exact this
      | succ i ih =>
        intro hi
        have h3 := (h2 (i + 1) hi).1.1
        have h4 := ih (by omega)
        have h5 : loT t (i + 1) = (t.getD i []).getD 0 0 + 1 := rfl
        omega
    obtain ⟨⟨a1, a2⟩, a3, a4⟩ := h2 i hi
    refine ⟨hlo i hi, a2, a3, a4, fun hp => ?_⟩
    obtain ⟨k, rfl⟩ : ∃ k, i = k + 1 := ⟨i - 1, by omega⟩
    have h5 : loT t (k + 1) = (t.getD k []).getD 0 0 + 1 := rfl
    rw [Nat.add_sub_cancel]
    omega
  · rintro ⟨h1, h2⟩
    refine ⟨by omega, fun i hi => ?_⟩
    obtain ⟨a1, a2, a3, a4, a5⟩ := h2 i hi
    refine ⟨⟨?_, a2⟩, a3, a4⟩
    cases i with
    | zero => exact a1
    | succ k =>
      have h5 : loT t (k + 1) = (t.getD k []).getD 0 0 + 1 := rfl
      have := a5 (by omega)
      rw [Nat.add_sub_cancel] at this
      omega
theorem times_iff {s : SetP} : timesB s = true ↔ ((0 ≤ s.paid ∧ s.paid ≤ 86400) ∧ (0 ≤ s.aft ∧ s.aft ≤ 86400) ∧ (0 ≤ s.brk ∧ s.brk ≤ 86400) ∧ (0 ≤ s.reg ∧ s.reg ≤ 86400) ∧ (0 ≤ s.over ∧ s.over ≤ 86400) ∧ (0 ≤ s.nfrom ∧ s.nfrom ≤ 86400) ∧ (0 ≤ s.nto ∧ s.nto ≤ 86400) ∧ (0 ≤ s.fault ∧ s.fault ≤ 86400)) ∧ s.reg ≤ s.over ∧ (0 ≤ s.week ∧ s.week ≤ 604800) ∧ (1 ≤ s.unit ∧ s.unit ≤ 3600) ∧ (60 ≤ s.cap ∧ s.cap ≤ 57600) := by
  have e : allP (fun i => withB ((([s.paid, s.aft, s.brk, s.reg, s.over, s.nfrom, s.nto, s.fault].map fun z => [z]).getD i []).getD 0 0) 0 86400) 8 = (withB s.paid 0 86400 && (withB s.aft 0 86400 && (withB s.brk 0 86400 && (withB s.reg 0 86400 && (withB s.over 0 86400 && (withB s.nfrom 0 86400 && (withB s.nto 0 86400 && (withB s.fault 0 86400 && true)))))))) := rfl
  unfold timesB
  rw [e]
  simp only [Bool.and_eq_true, with_iff, decide_eq_true_eq, Int.le_refl, true_and, and_true]
  constructor
  · intro h; omega
  · intro h; omega
theorem check_iff {s : SetP} : checkB s = true ↔ s.May := by
  unfold checkB workB moneyB
  simp only [Bool.and_eq_true, ground_iff, ele_iff, rat_iff, times_iff, rates_iff, tiers_iff, with_iff, decide_eq_true_eq]
  constructor
  · rintro ⟨⟨⟨⟨g1, g2⟩, ⟨⟨⟨⟨w1, w2⟩, w3⟩, w4⟩, w5⟩⟩, ⟨⟨t1, t2, t3, t4, t5, t6, t7, t8⟩, t9, t10, t11, t12⟩⟩, ⟨⟨⟨⟨m1, m2⟩, m3⟩, m4⟩, m5⟩⟩
    exact ⟨g1, g2, w1, w2, w3, w4, w5, t11, t12, t1, t2, t3, t6, t7, t8, ⟨t4.1, t9⟩, t5.2, t10, ⟨by omega, m2⟩, m3, m4, m5⟩
  · intro h
    have := h.reg
    have := h.over
    exact ⟨⟨⟨⟨h.places, h.ways⟩, ⟨⟨⟨⟨h.pace, h.elements⟩, h.classes⟩, h.gears⟩, h.allow⟩⟩, ⟨⟨h.paid, h.aft, h.brk, by omega, by omega, h.nfrom, h.nto, h.fault⟩, h.reg.2, h.week, h.unit, h.cap⟩⟩, ⟨⟨⟨⟨by have := h.rates.1; omega, h.rates.2⟩, h.diff⟩, h.least⟩, h.tiers⟩⟩
end Go.Proofs.YtdlimgpmmkcgmaaGreat

namespace Go.Proofs.YtdlimgpmmkcgmaaGreat
open Go.RowKit
set_option linter.unusedVariables false
set_option linter.unusedSimpArgs false
set_option maxRecDepth 20000

/-- What reads lies at block g, and has the bytes l left, which lie where they lay in R0; the blocks F are not its own. -/
structure RPen (R0 : World) (F : Nat → Prop) (g : Nat) (l : List (BitVec 8)) (w : World) : Prop where
  lay : ∃ A c, Has w g #[.slice A l.length c] ∧ (∀ w0, Below R0.heap.size R0 w0 → Sl 1 w0 A l.length c (bytesV l)) ∧ l.length ≤ c
  bel : Below R0.heap.size R0 w
  own : R0.heap.size ≤ g
  out : ¬ F g
  low : ∀ b, F b → b < w.heap.size
theorem RPen.keep {R0 : World} {F : Nat → Prop} {g : Nat} {l : List (BitVec 8)} {w w' : World} (h : RPen R0 F g l w) (hb : Below w.heap.size w w') : RPen R0 F g l w' := by
  obtain ⟨⟨A, c, h1, h2, h3⟩, h4, h5, h6, h7⟩ := h
  exact ⟨⟨A, c, h1.below hb, h2, h3⟩, bel_on h4 hb, h5, h6, fun b hF => Nat.lt_of_lt_of_le (h7 b hF) hb.size⟩
theorem RPen.grow {R0 : World} {F : Nat → Prop} {g : Nat} {l : List (BitVec 8)} {w : World} (h : RPen R0 F g l w) (o : Obj) : RPen R0 (fun b => F b ∨ b = w.heap.size) g l (w.alloc o) := by
  obtain ⟨⟨A, c, h1, h2, h3⟩, h4, h5, h6, h7⟩ := h
  refine ⟨⟨A, c, h1.alloc o, h2, h3⟩, bel_alloc h4 o, h5, ?_, ?_⟩
  · rintro (k | k)
    · exact h6 k
    · have := h1.size; omega
  · rintro b (k | k)
    · have := h7 b k; simp; omega
    · simp; omega
theorem RPen.less {R0 : World} {F G : Nat → Prop} {g : Nat} {l : List (BitVec 8)} {w : World} (h : RPen R0 F g l w) (hG : ∀ b, G b → F b) : RPen R0 G g l w := by
  obtain ⟨h1, h4, h5, h6, h7⟩ := h
  exact ⟨h1, h4, h5, fun k => h6 (hG _ k), fun b k => h7 b (hG _ k)⟩
theorem RPen.size {R0 : World} {F : Nat → Prop} {g : Nat} {l : List (BitVec 8)} {w : World} (h : RPen R0 F g l w) : R0.heap.size ≤ w.heap.size := h.bel.size
end Go.Proofs.YtdlimgpmmkcgmaaGreat

namespace Go.Proofs.YtdlimgpmmkcgmaaGreat
open Go.RowKit
set_option linter.unusedVariables false
set_option linter.unusedSimpArgs false
set_option maxRecDepth 20000

theorem RPen.set {R0 : World} {F : Nat → Prop} {g : Nat} {l : List (BitVec 8)} {w : World} (h : RPen R0 F g l w) {p : Addr} (hp : R0.heap.size ≤ p.block) (hg : g ≠ p.block) (v : Value) : RPen R0 F g l (w.setCell p v) := by
  obtain ⟨⟨A, c, h1, h2, h3⟩, h4, h5, h6, h7⟩ := h
  exact ⟨⟨A, c, h1.far hg v, h2, h3⟩, h4.setCell hp v, h5, h6, fun b hb => by have := h7 b hb; simp [World.setCell]; exact this⟩

end Go.Proofs.YtdlimgpmmkcgmaaGreat

namespace Go.Proofs.YtdlimgpmmkcgmaaGreat
open Go.RowKit
set_option linter.unusedVariables false
set_option linter.unusedSimpArgs false
set_option maxRecDepth 20000

/-! ### Without the program -/
/-! ### What reads, step by step -/
def z23 : Array Value := #[.int .i64 0, .slice none 0 0, .int .i64 0, .int .i64 0, .slice none 0 0, .slice none 0 0, .slice none 0 0, .int .i64 0, .int .i64 0, .int .i64 0, .int .i64 0, .int .i64 0, .int .i64 0, .int .i64 0, .int .i64 0, .int .i64 0, .int .i64 0, .int .i64 0, .slice none 0 0, .int .i64 0, .int .i64 0, .int .i64 0, .slice none 0 0]
end Go.Proofs.YtdlimgpmmkcgmaaGreat

namespace Go.Proofs.YtdlimgpmmkcgmaaGreat
open Go.RowKit
set_option linter.unusedVariables false
set_option linter.unusedSimpArgs false
set_option maxRecDepth 20000

theorem setcheck_un (s : SetP) (A1 A2 A3 A4 A5 A6 : Option Addr) (c1 c2 c3 c4 c5 c6 : Nat) (w : World) (hs : SetAt w s A1 A2 A3 A4 A5 A6 c1 c2 c3 c4 c5 c6) (hf : s.Fit) (b : Bool) (hb : checkB s = b) :
    Calls Tryz.prog 15 #[setV s A1 A2 A3 A4 A5 A6 c1 c2 c3 c4 c5 c6] w fun e w' => e = .returned (.bool b) ∧ Below w.heap.size w w' := by
  subst hb
  exact setcheck_any s A1 A2 A3 A4 A5 A6 c1 c2 c3 c4 c5 c6 w hs hf
theorem wpList_store_has {ops : Array Oper} {rest : List Oper} {o : Oper} {a : Act} {w : World} {Q : Exit → Act → World → Prop} (hgd : o.guard = none) (x y : Operand) (ho : o.op = .store 30 x y)
    (g : Nat) (cs : Array Value) (hx : a.eval x = .pointer (some ⟨g, 0, none⟩)) (hy : a.eval y = .agg cs) (old : Array Value) (hg : Has w g old) (hold : old.size = 23) (hs : cs.size = 23) (h1 : cs.all (·.oneCell') = true)
    (h : wpList Tryz.prog ops Q rest (a.put o.dst undef) (w.setRow g cs)) : wpList Tryz.prog ops Q (o :: rest) a w := by
  obtain ⟨t, hg⟩ := hg
  exact wpList_store_row hgd _ x y ho g cs hx hy t old hg (by rw [hs]; kernel_rfl) (by rw [hold, hs]) h1 h
theorem setV_cells (s : SetP) (A1 A2 A3 A4 A5 A6 : Option Addr) (c1 c2 c3 c4 c5 c6 : Nat) (cs : Array Value) (h : setV s A1 A2 A3 A4 A5 A6 c1 c2 c3 c4 c5 c6 = .agg cs) : cs.size = 23 ∧ cs.all (·.oneCell') = true := by
  unfold setV at h
  injection h with h
  subst h
  exact ⟨rfl, by simp [Value.oneCell']⟩
end Go.Proofs.YtdlimgpmmkcgmaaGreat

namespace Go.Proofs.YtdlimgpmmkcgmaaGreat
open Go.RowKit
set_option linter.unusedVariables false
set_option linter.unusedSimpArgs false
set_option maxRecDepth 20000

/-- The cells cs are those of the setup s. -/
def SetC (w : World) (s : SetP) (cs : Array Value) : Prop := ∃ (A1 A2 A3 A4 A5 A6 : Option Addr) (c1 c2 c3 c4 c5 c6 : Nat), setV s A1 A2 A3 A4 A5 A6 c1 c2 c3 c4 c5 c6 = .agg cs ∧ SetAt w s A1 A2 A3 A4 A5 A6 c1 c2 c3 c4 c5 c6
section
variable {w w' : World} {s : SetP} {cs : Array Value}
theorem SetC.below (h : SetC w s cs) (hb : Below w.heap.size w w') : SetC w' s cs := by
  obtain ⟨A1, A2, A3, A4, A5, A6, c1, c2, c3, c4, c5, c6, h1, h2⟩ := h
  exact ⟨A1, A2, A3, A4, A5, A6, c1, c2, c3, c4, c5, c6, h1, h2.below hb⟩
theorem SetC.size (h : SetC w s cs) : cs.size = 23 := by
  obtain ⟨A1, A2, A3, A4, A5, A6, c1, c2, c3, c4, c5, c6, h1, h2⟩ := h
  exact (setV_cells _ _ _ _ _ _ _ _ _ _ _ _ _ _ h1).1
theorem SetC.one (h : SetC w s cs) : cs.all (·.oneCell') = true := by
  obtain ⟨A1, A2, A3, A4, A5, A6, c1, c2, c3, c4, c5, c6, h1, h2⟩ := h
  exact (setV_cells _ _ _ _ _ _ _ _ _ _ _ _ _ _ h1).2
theorem SetC.wide (h : SetC w s cs) : s.Wide := by
  obtain ⟨A1, A2, A3, A4, A5, A6, c1, c2, c3, c4, c5, c6, h1, h2⟩ := h
  exact h2.wide
theorem scheck_c (h : SetC w s cs) (hf : s.Fit) (b : Bool) (hb : checkB s = b) :
    Calls Tryz.prog 15 #[.agg cs] w fun e w' => e = .returned (.bool b) ∧ Below w.heap.size w w' := by
  obtain ⟨A1, A2, A3, A4, A5, A6, c1, c2, c3, c4, c5, c6, h1, h2⟩ := h
  rw [← h1]
  exact setcheck_un s A1 A2 A3 A4 A5 A6 c1 c2 c3 c4 c5 c6 w h2 hf b hb
end
/-- In a walk: a variable of type api.Setup is laid. -/
theorem wpList_laidS {ops : Array Oper} {rest : List Oper} {o1 o : Oper} {a : Act} {w : World} {Q : Exit → Act → World → Prop} (cs : Array Value) (d : Tmp) (x y : Operand) (hg1 : o1.guard = none) (ho1 : o1.op = .alloc 30) (hd1 : o1.dst = some d)
    (hgd : o.guard = none) (ho : o.op = .store 30 x y) (hd : o.dst = none) (hx : (a.put o1.dst (.pointer (some ⟨w.heap.size, 0, none⟩))).eval x = .pointer (some ⟨w.heap.size, 0, none⟩)) (hy : (a.put o1.dst (.pointer (some ⟨w.heap.size, 0, none⟩))).eval y = .agg cs)
    (hs : cs.size = 23) (h1 : cs.all (·.oneCell') = true)
    (h : wpList Tryz.prog ops Q rest (a.put o1.dst (.pointer (some ⟨w.heap.size, 0, none⟩))) (w.alloc (.cells cs 30))) : wpList Tryz.prog ops Q (o1 :: o :: rest) a w := by
  rw [hd1] at hx hy h
  refine wpList_plain hg1 fun K hK => ?_
  unfold Oper.wp execOp
  simp only [ho1]
  go_simp
  refine hK _ _ ?_
  refine wpList_store_has hgd x y ho w.heap.size cs hx hy z23 (Has.new _ _ _ rfl) rfl hs h1 ?_
  rw [hd]
  have e := World.setRow_alloc_new w z23 cs 30
  unfold z23 at e
  rw [e]
  exact h
/-! ### Few -/
def mxI (x y : Int) : Int := if y > x then y else x
theorem run_max6 {P : Program} {w : World} (ts : Array TypeId) (t : TypeId) (a b c d e f : Int) : (Builtin.max_ ts t #[.int .i64 a, .int .i64 b, .int .i64 c, .int .i64 d, .int .i64 e, .int .i64 f]).run P w = .ok (.int .i64 (mxI (mxI (mxI (mxI (mxI a b) c) d) e) f)) w := by
  simp [Builtin.max_, Builtin.max2, mxI]
theorem mx_le {x y z : Int} : mxI x y ≤ z ↔ x ≤ z ∧ y ≤ z := by
  unfold mxI
  split <;> omega
theorem wpList_max6 {P : Program} {ops : Array Oper} {rest : List Oper} {o : Oper} {a : Act} {w : World} {Q : Exit → Act → World → Prop} {x1 x2 x3 x4 x5 x6 : Operand} {ts : Array TypeId} (n1 n2 n3 n4 n5 n6 : Int) (hgd : o.guard = none)
    (ho : o.op = .call { callee := .builtin .max, args := #[x1, x2, x3, x4, x5, x6], argTypes := ts }) (h1 : a.eval x1 = .int .i64 n1) (h2 : a.eval x2 = .int .i64 n2) (h3 : a.eval x3 = .int .i64 n3) (h4 : a.eval x4 = .int .i64 n4) (h5 : a.eval x5 = .int .i64 n5) (h6 : a.eval x6 = .int .i64 n6)
    (m : Int) (hm : mxI (mxI (mxI (mxI (mxI n1 n2) n3) n4) n5) n6 = m)
    (h : wpList P ops Q rest (a.put o.dst (.int .i64 m)) w) : wpList P ops Q (o :: rest) a w := by
  refine wpList_plain hgd fun K hK => ?_
  unfold Oper.wp execOp
  simp only [ho, resolve, invoke, builtin, Sem.run_bind, Sem.run_pure, Result.andThen_ok, List.map_toArray, List.map_cons, List.map_nil, h1, h2, h3, h4, h5, h6, run_max6, hm]
  exact hK _ _ h
def SetP.Few (s : SetP) : Prop := s.ways.length ≤ 100 ∧ s.elements.length ≤ 100 ∧ s.classes.length ≤ 100 ∧ s.gears.length ≤ 100 ∧ s.rates.length ≤ 100 ∧ s.tiers.length ≤ 100
instance (s : SetP) : Decidable s.Few := by unfold SetP.Few; infer_instance
set_option maxHeartbeats 2000000 in
theorem few_c {w : World} {s : SetP} {cs : Array Value} (h : SetC w s cs) (b : Bool) (hb : decide s.Few = b) :
    Calls Tryz.prog 25 #[.agg cs] w fun e w' => e = .returned (.bool b) ∧ Below w.heap.size w w' := by
  obtain ⟨A1, A2, A3, A4, A5, A6, c1, c2, c3, c4, c5, c6, h1, h2⟩ := h
  unfold setV at h1
  injection h1 with h1
  subst h1
  obtain ⟨m, hm⟩ : ∃ m, mxI (mxI (mxI (mxI (mxI s.ways.length s.elements.length) s.classes.length) s.gears.length) s.rates.length) s.tiers.length = m := ⟨_, rfl⟩
  have HM := Lib.hid hm
  have HD : Hid (decide (m ≤ 100) = b) := by
    show _ = _
    rw [← hb, ← hm]
    apply decide_eq_decide.2
    simp only [mx_le, SetP.Few]
    omega
  clear h2 hb hm
  go_enter Tryz.func25, Tryz.ntmps25
  go_wp2_with (refine wpList_max6 _ _ _ _ _ _ rfl rfl rfl rfl rfl rfl rfl rfl m HM.out ?_)
  go_ret
  exact ⟨ret_bool HD.out, by (repeat' (first | with_reducible exact Below.refl _ _ | with_reducible assumption | with_reducible refine bel_alloc ?_ _ | with_reducible refine bel_set ?_ ?_ _ | with_reducible refine below_drewN ?_ _ | with_reducible refine below_drew ?_ | (simp; done) | (simp; omega) | omega))⟩
/-! ### least -/
end Go.Proofs.YtdlimgpmmkcgmaaGreat

namespace Go.Proofs.YtdlimgpmmkcgmaaGreat
open Go.RowKit
set_option linter.unusedVariables false
set_option linter.unusedSimpArgs false
set_option maxRecDepth 20000

theorem rwithin_at (n a b : Int) (q : Bool) (hq : withB n a b = q) (w : World) :
    Calls Tryz.prog 117 #[.int .i64 n, .int .i64 a, .int .i64 b] w fun e w' => e = .returned (.bool q) ∧ w = w' := by
  subst hq
  by_cases h1 : a ≤ n
  · by_cases h2 : n ≤ b
    · go_enter Tryz.func117, Tryz.ntmps117
      go_wp2
      go_ret
      exact ⟨ret_bool (by simp [withB, h1, h2]), rfl⟩
    · go_enter Tryz.func117, Tryz.ntmps117
      go_wp2
      go_ret
      exact ⟨ret_bool (by simp [withB, h1, h2]), rfl⟩
  · go_enter Tryz.func117, Tryz.ntmps117
    go_wp2
    go_ret
    exact ⟨ret_bool (by unfold withB; rw [decide_eq_false (show ¬ (a ≤ n) by omega)]; rfl), rfl⟩
theorem rshare_any (n d : Int) (w : World) (hn : In64 n) (hd : In64 d) (q : Bool) (hq : shareB n d = q) :
    Calls Tryz.prog 65 #[.agg #[.int .i64 n, .int .i64 d]] w fun e w' => e = .returned (.bool q) ∧ Below w.heap.size w w' := by
  subst hq
  have HC := Lib.hid (fun w => rcheck_any n d w hn.1 hn.2 hd.1 hd.2)
  have E : Hid (shareB n d = (mayB n d && decide (0 ≤ n))) := rfl
  generalize shareB n d = q at *
  generalize mayB n d = m at *
  clear hn hd
  go_enter Tryz.func65, Tryz.ntmps65
  go_wp2_with fail
  refine (HC.out _).mono ?_
  rintro e w1 ⟨rfl, b1⟩
  have hB := (Has.new w 24 #[.int .i64 n, .int .i64 d] rfl).below b1
  have hc := hB.cell 0 rfl
  have hs := hB.size
  replace b1 := bel_on (bel_alloc (Below.refl _ _) _) b1
  clear hB HC
  cases m
  · go_wp2
    go_ret
    exact ⟨ret_bool (by rw [E.out]; simp), b1⟩
  · go_wp2
    go_ret
    exact ⟨ret_bool (by rw [E.out]; simp), b1⟩
theorem ratB_bad {l : Rows2} {j : Nat} (h : j < l.length) (hb : shareB ((l.getD j []).getD 0 0) ((l.getD j []).getD 1 0) = false) : ratB l = false := by
  cases hr : ratB l with
  | false => rfl
  | true =>
    have := (rat_iff.1 hr).2 (l.getD j []) (by simp [List.getD, h])
    unfold ratP at this
    rw [hb] at this
    cases this
theorem ratB_end {l : Rows2} (h : ∀ k, k < l.length → shareB ((l.getD k []).getD 0 0) ((l.getD k []).getD 1 0) = true) : ratB l = decide ((l.length : Int) ≤ 8) := by
  unfold ratB
  rw [allP_iff.2 h, Bool.and_true]
theorem eleB_bad {l : Rows2} {j : Nat} (h : j < l.length) (hb : (shareB ((l.getD j []).getD 0 0) ((l.getD j []).getD 1 0) && shareB ((l.getD j []).getD 2 0) ((l.getD j []).getD 3 0)) = false) : eleB l = false := by
  unfold eleB
  rw [allP_bad h hb, Bool.and_false]
theorem eleB_end {l : Rows2} (h : ∀ k, k < l.length → (shareB ((l.getD k []).getD 0 0) ((l.getD k []).getD 1 0) && shareB ((l.getD k []).getD 2 0) ((l.getD k []).getD 3 0)) = true) : eleB l = decide ((l.length : Int) ≤ 8) := by
  unfold eleB
  rw [allP_iff.2 h, Bool.and_true]
theorem below_next {p : Nat → Prop} {j : Nat} (h : ∀ k, k < j → p k) (hj : p j) : ∀ k, k < j + 1 → p k := fun k hk => by
  rcases Nat.lt_or_ge k j with q | q
  · exact h k q
  · obtain rfl : k = j := by omega
    exact hj
set_option maxHeartbeats 2000000 in
theorem rshares_any (A : Option Addr) (c n : Nat) (l : Rows2) (w : World) (hT : Tab 2 w A n c l) (q : Bool) (hq : ratB l = q) :
    Calls Tryz.prog 67 #[.slice A n c] w fun e w' => e = .returned (.bool q) ∧ Below w.heap.size w w' := by
  subst hq
  have hn := hT.len
  have HT := Lib.hid hT
  have hcap := hT.cap
  have hmax := hT.max
  have HN := Lib.hid hn
  clear hT hn
  go_enter Tryz.func67, Tryz.ntmps67
  go_wp2
  go_loopw [3] (fun i wr => ∃ (j : Nat), j ≤ n ∧ i = .int .i64 j ∧ Hid (∀ k, k < j → shareB ((l.getD k []).getD 0 0) ((l.getD k []).getD 1 0) = true) ∧ Below w.heap.size w wr) (fun i _ => n - (intOf i).toNat)
  case atStart => exact ⟨0, by omega, rfl, Lib.hid (fun k hk => by omega), Below.refl _ _⟩
  case round =>
    obtain ⟨j, hj, rfl, ha, hb⟩ := hrel
    by_cases hlt : j < n
    · obtain ⟨bb, oo, rfl⟩ := HT.out.form (by decide) (by omega)
      have z0 := ((HT.out.below hb).cell (i := j) (j := 0) hlt (by decide))
      have z1 := ((HT.out.below hb).cell (i := j) (j := 1) hlt (by decide))
      have i0 := HT.out.at_small hlt (show 0 < 2 by decide)
      have i1 := HT.out.at_small hlt (show 1 < 2 by decide)
      have HNX := Lib.hid (fun h => below_next (p := fun k => shareB ((l.getD k []).getD 0 0) ((l.getD k []).getD 1 0) = true) ha.out h)
      have HBD := Lib.hid (fun h => ratB_bad (l := l) (j := j) (by have := HN.out; omega) h)
      simp only [Nat.add_zero] at z0
      generalize (l.getD j []).getD 0 0 = x0 at *
      generalize (l.getD j []).getD 1 0 = x1 at *
      have e0 : (j : Int) < (n : Int) := by omega
      have hs := cell_lt z0
      cases hq : shareB x0 x1 with
      | true =>
        have HC := Lib.hid (rshare_any x0 x1 wr i0 i1 true hq)
        go_wp2_with fail
        refine HC.out.mono ?_
        rintro e w2 ⟨rfl, b2⟩
        replace b2 := bel_on hb b2
        have HA := Lib.hid (HNX.out hq)
        clear z0 z1 hs
        go_wp2
        go_roundw
        case rel => exact ⟨j + 1, by omega, by go_num, HA, b2⟩
        case measure => simp [intOf]; omega
      | false =>
        have HC := Lib.hid (rshare_any x0 x1 wr i0 i1 false hq)
        go_wp2_with fail
        refine HC.out.mono ?_
        rintro e w2 ⟨rfl, b2⟩
        replace b2 := bel_on hb b2
        go_wp2
        go_ret
        exact ⟨ret_bool (HBD.out hq).symm, b2⟩
    · obtain rfl : j = n := by omega
      have HE := Lib.hid (ratB_end (l := l) (fun k hk => ha.out k (by have := HN.out; omega)))
      rw [HN.out] at HE
      go_wp2
      go_ret
      exact ⟨ret_bool HE.out.symm, hb⟩
set_option maxHeartbeats 2000000 in
theorem relements_any (A : Option Addr) (c n : Nat) (l : Rows2) (w : World) (hT : Tab 4 w A n c l) (q : Bool) (hq : eleB l = q) :
    Calls Tryz.prog 66 #[.slice A n c] w fun e w' => e = .returned (.bool q) ∧ Below w.heap.size w w' := by
  subst hq
  have hn := hT.len
  have HT := Lib.hid hT
  have hcap := hT.cap
  have hmax := hT.max
  have HN := Lib.hid hn
  clear hT hn
  go_enter Tryz.func66, Tryz.ntmps66
  go_wp2
  go_loopw [3] (fun i wr => ∃ (j : Nat), j ≤ n ∧ i = .int .i64 j ∧ Hid (∀ k, k < j → (shareB ((l.getD k []).getD 0 0) ((l.getD k []).getD 1 0) && shareB ((l.getD k []).getD 2 0) ((l.getD k []).getD 3 0)) = true) ∧ Below w.heap.size w wr) (fun i _ => n - (intOf i).toNat)
  case atStart => exact ⟨0, by omega, rfl, Lib.hid (fun k hk => by omega), Below.refl _ _⟩
  case round =>
    obtain ⟨j, hj, rfl, ha, hb⟩ := hrel
    by_cases hlt : j < n
    · obtain ⟨bb, oo, rfl⟩ := HT.out.form (by decide) (by omega)
      have z0 := ((HT.out.below hb).cell (i := j) (j := 0) hlt (by decide))
      have z1 := ((HT.out.below hb).cell (i := j) (j := 1) hlt (by decide))
      have y2 := Lib.hid (HT.out.cell (i := j) (j := 2) hlt (by decide))
      have y3 := Lib.hid (HT.out.cell (i := j) (j := 3) hlt (by decide))
      have i0 := HT.out.at_small hlt (show 0 < 4 by decide)
      have i1 := HT.out.at_small hlt (show 1 < 4 by decide)
      have i2 := HT.out.at_small hlt (show 2 < 4 by decide)
      have i3 := HT.out.at_small hlt (show 3 < 4 by decide)
      have HNX := Lib.hid (fun h => below_next (p := fun k => (shareB ((l.getD k []).getD 0 0) ((l.getD k []).getD 1 0) && shareB ((l.getD k []).getD 2 0) ((l.getD k []).getD 3 0)) = true) ha.out h)
      have HBD := Lib.hid (fun h => eleB_bad (l := l) (j := j) (by have := HN.out; omega) h)
      simp only [Nat.add_zero] at z0
      generalize (l.getD j []).getD 0 0 = x0 at *
      generalize (l.getD j []).getD 1 0 = x1 at *
      generalize (l.getD j []).getD 2 0 = x2 at *
      generalize (l.getD j []).getD 3 0 = x3 at *
      have e0 : (j : Int) < (n : Int) := by omega
      have hs := cell_lt z0
      obtain ⟨q1, hq1⟩ : ∃ q, shareB x0 x1 = q := ⟨_, rfl⟩
      obtain ⟨q2, hq2⟩ : ∃ q, shareB x2 x3 = q := ⟨_, rfl⟩
      have HC := Lib.hid (rshare_any x0 x1 wr i0 i1 q1 hq1)
      have HC2 := Lib.hid (fun wx => rshare_any x2 x3 wx i2 i3 q2 hq2)
      have HNX2 := HNX.out
      have HBD2 := HBD.out
      rw [hq1, hq2] at HNX2 HBD2
      have HNX3 := Lib.hid HNX2
      have HBD3 := Lib.hid HBD2
      clear hq1 hq2 HNX HBD HNX2 HBD2
      go_wp2_with fail
      refine HC.out.mono ?_
      rintro e w2 ⟨rfl, b2⟩
      replace b2 := bel_on hb b2
      have z2 := (Below.cell b2 (p := ⟨bb, oo + j * 4 + 2, none⟩) (cell_lt y2.out)).trans y2.out
      have z3 := (Below.cell b2 (p := ⟨bb, oo + j * 4 + 3, none⟩) (cell_lt y3.out)).trans y3.out
      have hs2 := cell_lt z2
      clear z0 z1 hs HC
      go_wp2_with fail
      refine (HC2.out _).mono ?_
      rintro e w3 ⟨rfl, b3⟩
      replace b3 := bel_on b2 b3
      clear z2 z3 hs2 HC2
      cases q1
      · go_wp2
        go_ret
        exact ⟨ret_bool (HBD3.out (by simp)).symm, b3⟩
      · cases q2
        · go_wp2
          go_ret
          exact ⟨ret_bool (HBD3.out (by simp)).symm, b3⟩
        · have HA := Lib.hid (HNX3.out (by simp))
          clear HNX3 HBD3
          go_wp2
          go_roundw
          case rel => exact ⟨j + 1, by omega, by go_num, HA, b3⟩
          case measure => simp [intOf]; omega
    · obtain rfl : j = n := by omega
      have HE := Lib.hid (eleB_end (l := l) (fun k hk => ha.out k (by have := HN.out; omega)))
      rw [HN.out] at HE
      go_wp2
      go_ret
      exact ⟨ret_bool HE.out.symm, hb⟩
theorem ground_bad {s : SetP} {j : Nat} (h : j < s.ways.length) (hb : wayB s.places ((s.ways.getD j []).getD 0 0) ((s.ways.getD j []).getD 1 0) ((s.ways.getD j []).getD 2 0) = false) : groundB s = false := by
  unfold groundB
  rw [allP_bad h hb, Bool.and_false, Bool.and_false]
theorem ground_end {s : SetP} (h : ∀ k, k < s.ways.length → wayB s.places ((s.ways.getD k []).getD 0 0) ((s.ways.getD k []).getD 1 0) ((s.ways.getD k []).getD 2 0) = true) : groundB s = (decide ((s.ways.length : Int) ≤ 64) && withB s.places 1 16) := by
  unfold groundB
  rw [allP_iff.2 h, Bool.and_true, Bool.and_comm]
theorem wayB_parts (p a b m : Int) : wayB p a b m = true ↔ ¬ (a < 0) ∧ ¬ (b < 0) ∧ a < p ∧ b < p ∧ a ≠ b ∧ 1 ≤ m ∧ m ≤ 10000 := by
  simp [wayB, withB]
  omega
set_option maxHeartbeats 8000000 in
theorem rways_c {w : World} {s : SetP} {cs : Array Value} (h : SetC w s cs) (q : Bool) (hq : groundB s = q) :
    Calls Tryz.prog 64 #[.agg cs] w fun e w' => e = .returned (.bool q) ∧ Below w.heap.size w w' := by
  subst hq
  obtain ⟨A1, A2, A3, A4, A5, A6, c1, c2, c3, c4, c5, c6, h1, h2⟩ := h
  unfold setV at h1
  injection h1 with h1
  subst h1
  have HS := Lib.hid h2.ways
  have hcap := h2.ways.cap
  have hmax := h2.ways.max
  clear h2
  go_enter Tryz.func64, Tryz.ntmps64
  go_upto_region 0 with fail
  go_cut [1] (fun v1 wx => ∃ g : Nat, v1 = .pointer (some ⟨g, 0, none⟩) ∧ Hid (Has wx g #[.int .i64 s.places, .slice A1 s.ways.length c1, .int .i64 s.pn, .int .i64 s.pd, .slice A2 s.elements.length c2, .slice A3 s.classes.length c3, .slice A4 s.gears.length c4, .int .i64 s.allow, .int .i64 s.unit, .int .i64 s.cap, .int .i64 s.paid, .int .i64 s.aft, .int .i64 s.brk, .int .i64 s.reg, .int .i64 s.over, .int .i64 s.week, .int .i64 s.nfrom, .int .i64 s.nto, .slice A5 s.rates.length c5, .int .i64 s.diff, .int .i64 s.least, .int .i64 s.fault, .slice A6 s.tiers.length c6] ∧ Below w.heap.size w wx ∧ Tab 3 wx A1 s.ways.length c1 s.ways))
  case first =>
    go_wp2_with fail
    go_meet
    refine ⟨w.heap.size, rfl, Lib.hid ⟨Has.new _ _ _ rfl, bel_alloc (Below.refl _ _) _, HS.out.below (bel_alloc (Below.refl _ _) _)⟩⟩
  case rest =>
    obtain ⟨g, rfl, hx⟩ := hcut
    obtain ⟨hB, hbw, hS⟩ := hx.out
    have HB := Lib.hid hB
    have HBW := Lib.hid hbw
    have HT := Lib.hid hS
    have hgs := hB.size
    clear hx hB hbw hS HS
    go_wp2
    go_loopw [3] (fun i wr => ∃ (j : Nat), j ≤ s.ways.length ∧ i = .int .i64 j ∧ Hid (∀ k, k < j → wayB s.places ((s.ways.getD k []).getD 0 0) ((s.ways.getD k []).getD 1 0) ((s.ways.getD k []).getD 2 0) = true) ∧ Below wc.heap.size wc wr) (fun i _ => s.ways.length - (intOf i).toNat)
    case atStart => exact ⟨0, by omega, rfl, Lib.hid (fun k hk => by omega), Below.refl _ _⟩
    case round =>
      obtain ⟨j, hj, rfl, ha, hb⟩ := hrel
      have q0 := (Below.cell hb (p := ⟨g, 0, none⟩) hgs).trans (HB.out.cell 0 rfl)
      have q1 := (Below.cell hb (p := ⟨g, 1, none⟩) hgs).trans (HB.out.cell 1 rfl)
      have hgs2 := cell_lt q0
      by_cases hlt : j < s.ways.length
      · obtain ⟨bb, oo, rfl⟩ := HT.out.form (by decide) (by omega)
        have z0 := ((HT.out.below hb).cell (i := j) (j := 0) hlt (by decide))
        have z1 := ((HT.out.below hb).cell (i := j) (j := 1) hlt (by decide))
        have z2 := ((HT.out.below hb).cell (i := j) (j := 2) hlt (by decide))
        have HNX := Lib.hid (fun h => below_next (p := fun k => wayB s.places ((s.ways.getD k []).getD 0 0) ((s.ways.getD k []).getD 1 0) ((s.ways.getD k []).getD 2 0) = true) ha.out h)
        have HBD := Lib.hid (fun h => ground_bad (s := s) hlt h)
        simp only [Nat.add_zero] at z0
        generalize (s.ways.getD j []).getD 0 0 = x0 at *
        generalize (s.ways.getD j []).getD 1 0 = x1 at *
        generalize (s.ways.getD j []).getD 2 0 = x2 at *
        have HP := Lib.hid (wayB_parts s.places x0 x1 x2)
        have HBN : Hid (¬ (¬ (x0 < 0) ∧ ¬ (x1 < 0) ∧ x0 < s.places ∧ x1 < s.places ∧ x0 ≠ x1 ∧ 1 ≤ x2 ∧ x2 ≤ 10000) → groundB s = false) := by
          intro h
          refine HBD.out ?_
          cases hw : wayB s.places x0 x1 x2 with
          | true => exact absurd (HP.out.1 hw) h
          | false => rfl
        have e0 : (j : Int) < (s.ways.length : Int) := by omega
        have hs := cell_lt z0
        have hb2 := bel_alloc hb (.cells #[.int .i64 x0, .int .i64 x1, .int .i64 x2] 102)
        clear HBD
        by_cases h0 : x0 < 0
        · have HE := Lib.hid (HBN.out (by omega))
          clear HBN HNX HP
          go_wp2
          go_ret
          exact ⟨ret_bool HE.out.symm, bel_on HBW.out hb2⟩
        by_cases h1 : x1 < 0
        · have HE := Lib.hid (HBN.out (by omega))
          clear HBN HNX HP
          go_wp2
          go_ret
          exact ⟨ret_bool HE.out.symm, bel_on HBW.out hb2⟩
        by_cases h2 : s.places ≤ x0
        · have HE := Lib.hid (HBN.out (by omega))
          clear HBN HNX HP
          go_wp2
          go_ret
          exact ⟨ret_bool HE.out.symm, bel_on HBW.out hb2⟩
        by_cases h3 : s.places ≤ x1
        · have HE := Lib.hid (HBN.out (by omega))
          clear HBN HNX HP
          go_wp2
          go_ret
          exact ⟨ret_bool HE.out.symm, bel_on HBW.out hb2⟩
        by_cases h4 : x0 = x1
        · have HE := Lib.hid (HBN.out (by omega))
          clear HBN HNX HP
          subst h4
          go_wp2
          go_ret
          exact ⟨ret_bool HE.out.symm, bel_on HBW.out hb2⟩
        have hbeq : (x0 == x1) = false := by simpa using h4
        by_cases h5 : x2 < 1
        · have HE := Lib.hid (HBN.out (by omega))
          clear HBN HNX HP
          go_wp2
          go_ret
          exact ⟨ret_bool HE.out.symm, bel_on HBW.out hb2⟩
        by_cases h6 : 10000 < x2
        · have HE := Lib.hid (HBN.out (by omega))
          clear HBN HNX HP
          go_wp2
          go_ret
          exact ⟨ret_bool HE.out.symm, bel_on HBW.out hb2⟩
        have HA := Lib.hid (HNX.out (HP.out.2 ⟨h0, h1, by omega, by omega, h4, by omega, by omega⟩))
        clear HBN HNX HP
        go_wp2
        go_roundw
        case rel => exact ⟨j + 1, by omega, by go_num, HA, hb2⟩
        case measure => simp [intOf]; omega
      · obtain rfl : j = s.ways.length := by omega
        have HE := Lib.hid (ground_end ha.out)
        have HC := Lib.hid (fun wx => rwithin_at s.places 1 16 _ rfl wx)
        generalize withB s.places 1 16 = q2 at *
        by_cases h64 : (s.ways.length : Int) ≤ 64
        · go_wp2_with fail
          refine (HC.out _).mono ?_
          rintro e w2 ⟨rfl, rfl⟩
          have b2 := bel_on HBW.out hb
          go_wp2
          go_ret
          exact ⟨ret_bool (by rw [HE.out]; simp [h64]), b2⟩
        · have b2 := bel_on HBW.out hb
          go_wp2
          go_ret
          exact ⟨ret_bool (by rw [HE.out, decide_eq_false (show ¬ ((s.ways.length : Int) ≤ 64) by omega)]; rfl), b2⟩
end Go.Proofs.YtdlimgpmmkcgmaaGreat

namespace Go.Proofs.YtdlimgpmmkcgmaaGreat
open Go.RowKit
set_option linter.unusedVariables false
set_option linter.unusedSimpArgs false
set_option maxRecDepth 100000

theorem tab_ints {w : World} {A : Option Addr} {n c : Nat} {l : List Int} (h : Tab 1 w A n c (l.map fun z => [z])) : Sl 1 w A n c (ints .i64 l) := by
  have := h.sl
  rw [flat_ones] at this
  exact this
end Go.Proofs.YtdlimgpmmkcgmaaGreat

namespace Go.Proofs.YtdlimgpmmkcgmaaGreat
open Go.RowKit Go.Sort
set_option linter.unusedVariables false
set_option linter.unusedSimpArgs false
set_option maxRecDepth 20000


def encE (e : EvP) : List Value := (evC e).toList
/-- An event's numbers, as a list. -/
theorem encE_L (e : EvP) : encE e = ints .i64 (evLs e) := rfl
/-- The slice value reads as the events l. -/
def Evs (w : World) (A : Option Addr) (n c : Nat) (l : List EvP) : Prop := Sl 11 w A n c (ints .i64 (l.map evLs).flatten) ∧ l.length = n
theorem evs_wide (l : List EvP) : ∀ r ∈ l.map evLs, r.length = 11 := by
  intro r hr
  obtain ⟨e, _, rfl⟩ := List.mem_map.1 hr
  rfl
theorem evs_cell (l : List EvP) {t : Nat} (ht : t < l.length * 11) : (ints .i64 (l.map evLs).flatten)[t]? = some ((encE (l.getD (t / 11) EvP.none)).getD (t % 11) undef) := by
  have hi : t / 11 < l.length := by omega
  have hj : t % 11 < 11 := Nat.mod_lt _ (by omega)
  have h1 := rows_get (l.map evLs) (evs_wide l) (t / 11) (t % 11) (by simpa using hi) hj []
  rw [List.append_nil, Nat.div_add_mod] at h1
  have hlen := rows_len (l.map evLs) (evs_wide l)
  rw [List.length_map] at hlen
  have hlt : t < (l.map evLs).flatten.length := by omega
  rw [ints, List.getElem?_map, List.getElem?_eq_getElem hlt, Option.map_some]
  rw [List.getD_eq_getElem?_getD, List.getElem?_eq_getElem hlt, Option.getD_some] at h1
  rw [h1, encE_L]
  have e1 : (l.map evLs).getD (t / 11) [] = evLs (l.getD (t / 11) EvP.none) := by simp [List.getD, hi]
  rw [e1]
  generalize l.getD (t / 11) EvP.none = x
  have hj2 : t % 11 < (evLs x).length := hj
  simp [ints, List.getD, hj2]
theorem Evs.below {w w' : World} {A : Option Addr} {n c : Nat} {l : List EvP} (h : Evs w A n c l) (hb : Below w.heap.size w w') : Evs w' A n c l := ⟨h.1.below hb, h.2⟩
theorem Evs.cell {w : World} {b off n c : Nat} {l : List EvP} (h : Evs w (some ⟨b, off, none⟩) n c l) {i j : Nat} (hi : i < n) (hj : j < 11) : w.cell? ⟨b, off + i * 11 + j, none⟩ = some ((encE (l.getD i EvP.none)).getD j undef) := by
  obtain ⟨⟨hl, ⟨h0, _, _⟩ | ⟨ad, e, hc⟩⟩, hn⟩ := h
  · cases h0
  · injection e with e
    subst e hn
    have ht : i * 11 + j < l.length * 11 := by omega
    have := hc (i * 11 + j) _ (evs_cell l ht)
    rw [show (⟨b, off, none⟩ : Addr).add (i * 11 + j) = ⟨b, off + (i * 11 + j), none⟩ by unfold Addr.add; split <;> simp_all, ← Nat.add_assoc] at this
    rw [this, show (i * 11 + j) / 11 = i by omega, show (i * 11 + j) % 11 = j by omega]
theorem Evs.form {w : World} {A : Option Addr} {n c : Nat} {l : List EvP} (h : Evs w A n c l) (hn : 0 < n) : ∃ b off, A = some ⟨b, off, none⟩ := by
  obtain ⟨⟨hl, ⟨_, h0, _⟩ | ⟨ad, rfl, hc⟩⟩, hln⟩ := h
  · omega
  · have h0 := hc 0 _ (evs_cell l (by omega))
    obtain ⟨b, off, sp⟩ := ad
    have hsp : sp = none := by simpa [Addr.add] using World.cell?_spot h0
    subst hsp
    exact ⟨b, off, rfl⟩
end Go.Proofs.YtdlimgpmmkcgmaaGreat
