/-
  Slices of spans in memory: one that is read ('Spans'), one of the call's own ('Row'); what an append, and a store, make of it.
  A loop over a function that keeps cells of its own between two rounds: what such a function is asked ('SeqOf'), and the law of the loop ('range_own'). Over any program.
  Plain facts on numbers through others: lowest terms, which of them may be, what is as much. No program is named here.
  Setups: which may be, their numbers, and that they are read in one way. No program here.
  Setups read off a list of numbers, place by place. No program here.
  Slices of bytes as lists of words of 8 bits; slices of such slices. Over any program.
-/
import Derived.Test.YtdlimgpmmkcgmaaGreatZab
import Derived.Test.YtdlimgpmmkcgmaaGreatZaa
import Derived.Test.YtdlimgpmmkcgmaaGreatProg
import Derived.Lib.Hide
import Derived.RangeFuncNested
import Derived.RangeFuncBound
import Derived.RangeFuncCalls
import Derived.RangeFuncLeaves
import Derived.RowKit
import Derived.IntWalk
namespace Go.Proofs.YtdlimgpmmkcgmaaGreat
open Go.RowKit
set_option linter.unusedVariables false

def cells2 (xs : List (Int × Int)) : List Value := xs.flatMap fun x => [.int .i64 x.1, .int .i64 x.2]
theorem cells2_len : ∀ xs : List (Int × Int), (cells2 xs).length = xs.length * 2
  | [] => rfl
  | x :: xs => by
    have := cells2_len xs
    simp only [cells2, List.flatMap_cons, List.length_append, List.length_cons, List.length_nil] at this ⊢
    omega
theorem cells2_append (xs ys : List (Int × Int)) : cells2 (xs ++ ys) = cells2 xs ++ cells2 ys := by simp [cells2]
theorem cells2_cons (x : Int × Int) (xs : List (Int × Int)) : cells2 (x :: xs) = .int .i64 x.1 :: .int .i64 x.2 :: cells2 xs := rfl
theorem cells2_get : ∀ (xs : List (Int × Int)) (k : Nat), k < xs.length → (cells2 xs)[k * 2]? = some (.int .i64 (xs.getD k (0, 0)).1) ∧ (cells2 xs)[k * 2 + 1]? = some (.int .i64 (xs.getD k (0, 0)).2)
  | [], k, h => by simp at h
  | x :: xs, 0, h => ⟨rfl, rfl⟩
  | x :: xs, k + 1, h => by
    have := cells2_get xs k (by simpa using h)
    rw [show (k + 1) * 2 = k * 2 + 1 + 1 by omega, cells2_cons]
    simp only [List.getElem?_cons_succ, List.getD_cons_succ]
    exact this
theorem cells2_one (xs : List (Int × Int)) : ∀ u ∈ cells2 xs, u.oneCell' = true := by
  intro u hu
  simp only [cells2, List.mem_flatMap] at hu
  obtain ⟨x, _, hx⟩ := hu
  rcases List.mem_cons.1 hx with rfl | hx
  · rfl
  · rw [List.mem_singleton.1 hx]; rfl
theorem cells2_set : ∀ (xs : List (Int × Int)) (k : Nat) (v : Int), k < xs.length → (cells2 xs).set (k * 2 + 1) (.int .i64 v) = cells2 (xs.set k ((xs.getD k (0, 0)).1, v))
  | [], k, v, h => by simp at h
  | x :: xs, 0, v, h => rfl
  | x :: xs, k + 1, v, h => by
    have := cells2_set xs k v (by simpa using h)
    rw [show (k + 1) * 2 + 1 = (k * 2 + 1) + 1 + 1 by omega, cells2_cons, List.set_cons_succ, List.set_cons_succ, this]
    rfl

/-- A number of 64 bits. -/
def Fit (n : Int) : Prop := -9223372036854775808 ≤ n ∧ n ≤ 9223372036854775807
def Fits (xs : List (Int × Int)) : Prop := ∀ x ∈ xs, Fit x.1 ∧ Fit x.2
theorem Fits.of_plain {xs : List (Int × Int)} (h : PlainFrom 0 xs) : Fits xs := fun x hx => by
  have := (plain_pairs.1 h).1 x hx
  exact ⟨⟨by omega, by omega⟩, ⟨by omega, by omega⟩⟩
theorem Fits.canon (p : Int → Prop) : Fits (canon p) := .of_plain (canon_plain p)
theorem Fits.append {xs ys : List (Int × Int)} (h : Fits xs) (k : Fits ys) : Fits (xs ++ ys) := fun x hx => (List.mem_append.1 hx).elim (h x) (k x)
theorem Fits.at {xs : List (Int × Int)} (h : Fits xs) {k : Nat} (hk : k < xs.length) : Fit (xs.getD k (0, 0)).1 ∧ Fit (xs.getD k (0, 0)).2 := h _ (by simp [List.getD, hk])
theorem Fits.nil : Fits [] := fun x hx => by cases hx

/-- A slice value over A reads as the spans xs. -/
def Spans (w : World) (A : Option Addr) (xs : List (Int × Int)) : Prop :=
  Fits xs ∧ ∀ k, k < xs.length → ∃ b off, A = some ⟨b, off, none⟩ ∧ b < w.heap.size ∧ w.cell? ⟨b, off + k * 2, none⟩ = some (.int .i64 (xs.getD k (0, 0)).1) ∧ w.cell? ⟨b, off + k * 2 + 1, none⟩ = some (.int .i64 (xs.getD k (0, 0)).2)
theorem Spans.below {w w' : World} {A : Option Addr} {xs : List (Int × Int)} (h : Spans w A xs) (hb : Below w.heap.size w w') : Spans w' A xs := by
  refine ⟨h.1, fun k hk => ?_⟩
  obtain ⟨b, off, e, h0, h1, h2⟩ := h.2 k hk
  exact ⟨b, off, e, Nat.lt_of_lt_of_le h0 hb.size, (hb.cell h0).trans h1, (hb.cell h0).trans h2⟩
theorem Spans.alloc {w : World} {A : Option Addr} {xs : List (Int × Int)} (h : Spans w A xs) (o : Obj) : Spans (w.alloc o) A xs := h.below ((Below.refl _ _).alloc (Nat.le_refl _) o)
theorem Spans.drewN {w : World} {A : Option Addr} {xs : List (Int × Int)} (h : Spans w A xs) (n : Nat) : Spans (w.drewN n) A xs := h.below (below_drewN (Below.refl _ _) n)
theorem Spans.drew {w : World} {A : Option Addr} {xs : List (Int × Int)} (h : Spans w A xs) : Spans w.drew A xs := h.below (below_drew (Below.refl _ _))
theorem Spans.nil (w : World) (A : Option Addr) : Spans w A [] := ⟨Fits.nil, fun k hk => by simp at hk⟩
theorem add_none {b off n : Nat} : (⟨b, off, none⟩ : Addr).add n = ⟨b, off + n, none⟩ := by unfold Addr.add; split <;> simp_all
theorem Spans.sl {w : World} {A : Option Addr} {xs : List (Int × Int)} {c : Nat} (h : Spans w A xs) (hc : A = none → c = 0) : Sl 2 w A xs.length c (cells2 xs) := by
  by_cases hne : xs = []
  · subst hne
    cases A with
    | none => exact ⟨rfl, .inl ⟨rfl, rfl, hc rfl⟩⟩
    | some ad => exact ⟨rfl, .inr ⟨ad, rfl, fun j u hu => by simp [cells2] at hu⟩⟩
  have hl : 0 < xs.length := List.length_pos_iff.2 hne
  obtain ⟨b, off, rfl, _⟩ := h.2 0 hl
  refine ⟨cells2_len xs, .inr ⟨_, rfl, fun j u hu => ?_⟩⟩
  have hj : j < xs.length * 2 := by
    rcases Nat.lt_or_ge j (xs.length * 2) with q | q
    · exact q
    · rw [List.getElem?_eq_none (by rw [cells2_len]; exact q)] at hu; cases hu
  obtain ⟨b', off', e, _, h1, h2⟩ := h.2 (j / 2) (by omega)
  obtain ⟨g1, g2⟩ := cells2_get xs (j / 2) (by omega)
  simp only [Option.some.injEq, Addr.mk.injEq, and_true] at e
  obtain ⟨rfl, rfl⟩ := e
  rw [add_none]
  rcases Nat.mod_two_eq_zero_or_one j with m | m
  · rw [show j / 2 * 2 = j by omega] at g1 h1
    rw [h1, ← hu, g1]
  · rw [show j / 2 * 2 + 1 = j by omega] at g2
    rw [Nat.add_assoc, show j / 2 * 2 + 1 = j by omega] at h2
    rw [h2, ← hu, g2]

/-- A slice of the call's own, that lies at 'base' or behind, and holds the spans xs. -/
def Row (w : World) (base : Nat) (A : Option Addr) (c : Nat) (xs : List (Int × Int)) : Prop :=
  w.ownsRow base 44 2 (.slice A xs.length c) xs.length (cells2 xs)
section
variable {w w' : World} {base c : Nat} {A : Option Addr} {xs : List (Int × Int)}
theorem Row.nil (w : World) (base : Nat) : Row w base none 0 [] := World.ownsRow_nil w base _ _
theorem Row.keep (h : Row w base A c xs) (hk : ∀ g, A = some g → w'.heap[g.block]? = w.heap[g.block]?) : Row w' base A c xs := by
  obtain ⟨hl, hn | ⟨g, cap, cur, hv, hg, hh, rest⟩⟩ := h
  · exact ⟨hl, .inl hn⟩
  · injection hv with e1 e2 e3
    subst e1
    exact ⟨hl, .inr ⟨g, cap, cur, by rw [e3], hg, (hk _ rfl).trans hh, rest⟩⟩
theorem Row.lt (h : Row w base A c xs) : ∀ g, A = some g → base ≤ g.block ∧ g.block < w.heap.size := by
  rintro g rfl
  exact World.ownsRow.lt h _ rfl
theorem Row.below (h : Row w base A c xs) (hb : Below w.heap.size w w') : Row w' base A c xs :=
  h.keep fun g hg => hb.block _ (h.lt g hg).2
theorem Row.alloc (h : Row w base A c xs) (o : Obj) : Row (w.alloc o) base A c xs := World.ownsRow.alloc h o
theorem Row.drewN (h : Row w base A c xs) (n : Nat) : Row (w.drewN n) base A c xs := h
theorem Row.drew (h : Row w base A c xs) : Row w.drew base A c xs := h
theorem Row.mono (h : Row w base A c xs) {b : Nat} (hb : b ≤ base) : Row w b A c xs := by
  obtain ⟨hl, hn | ⟨g, cap, cur, hv, hg, rest⟩⟩ := h
  · exact ⟨hl, .inl hn⟩
  · exact ⟨hl, .inr ⟨g, cap, cur, hv, by omega, rest⟩⟩
theorem Row.far (h : Row w base A c xs) {p : Addr} (hp : ∀ g, A = some g → g.block ≠ p.block) (u : Value) : Row (w.setCell p u) base A c xs :=
  h.keep fun g hg => Below.heap_setCell w p u _ (hp g hg)
theorem Row.form (h : Row w base A c xs) (hn : xs ≠ []) : ∃ g, A = some ⟨g, 0, none⟩ := by
  obtain ⟨hl, ⟨hv, hz⟩ | ⟨g, cap, cur, hv, _⟩⟩ := h
  · exact absurd (List.eq_nil_of_length_eq_zero hz) hn
  · injection hv with e1; exact ⟨g, e1⟩
theorem Row.forms (h : Row w base A c xs) : (A = none ∧ xs = [] ∧ c = 0) ∨ ∃ g, A = some ⟨g, 0, none⟩ ∧ base ≤ g ∧ g < w.heap.size ∧ xs.length ≤ c ∧ c ≤ maxLen := by
  have hlt := h.lt
  obtain ⟨hl, ⟨hv, hz⟩ | ⟨g, cap, cur, hv, hb, hh, hc, hm, _⟩⟩ := h
  · injection hv with e1 e2 e3
    exact .inl ⟨e1, List.eq_nil_of_length_eq_zero hz, e3⟩
  · injection hv with e1 e2 e3
    subst e1 e3
    exact .inr ⟨g, rfl, hb, (hlt _ rfl).2, hc, hm⟩
theorem Row.cellAt {g : Nat} (h : Row w base (some ⟨g, 0, none⟩) c xs) {k : Nat} (hk : k < xs.length) : w.cell? ⟨g, k * 2, none⟩ = some (.int .i64 (xs.getD k (0, 0)).1) ∧ w.cell? ⟨g, k * 2 + 1, none⟩ = some (.int .i64 (xs.getD k (0, 0)).2) := by
  obtain ⟨g1, g2⟩ := cells2_get xs k hk
  exact ⟨(World.ownsRow.cellAt h (k * 2) (by omega)).trans g1, (World.ownsRow.cellAt h (k * 2 + 1) (by omega)).trans g2⟩
theorem Row.frozenAt {g : Nat} (h : Row w base (some ⟨g, 0, none⟩) c xs) (j : Nat) : w.frozen? ⟨g, j, none⟩ = false := World.ownsRow.frozenAt h j
theorem Row.spans (h : Row w base A c xs) (hf : Fits xs) : Spans w A xs := by
  refine ⟨hf, fun k hk => ?_⟩
  rcases h.forms with ⟨_, rfl, _⟩ | ⟨g, rfl, _, hlt, _⟩
  · simp at hk
  · obtain ⟨h1, h2⟩ := h.cellAt hk
    exact ⟨g, 0, rfl, hlt, by simpa using h1, by simpa using h2⟩
theorem Row.set {g : Nat} (h : Row w base (some ⟨g, 0, none⟩) c xs) {k : Nat} (hk : k < xs.length) (v : Int) : Row (w.setCell ⟨g, k * 2 + 1, none⟩ (.int .i64 v)) base (some ⟨g, 0, none⟩) c (xs.set k ((xs.getD k (0, 0)).1, v)) := by
  have := (World.ownsRow.stored h (k * 2 + 1) (.int .i64 v)).1
  rw [cells2_set xs k v hk] at this
  unfold Row
  rw [List.length_set]
  exact this
/-- The first m of them. -/
theorem Row.take {g : Nat} (h : Row w base (some ⟨g, 0, none⟩) c xs) {m : Nat} (hm : m ≤ xs.length) : Row w base (some ⟨g, 0, none⟩) c (xs.take m) := by
  obtain ⟨hl, ⟨hv, hz⟩ | ⟨g', cap, cur, hv, hb, hh, hc, hx, hs, ht⟩⟩ := h
  · cases hv
  · injection hv with e1 e2 e3
    simp only [Option.some.injEq, Addr.mk.injEq, and_true] at e1
    subst e1 e3
    have e : (xs.take m).length = m := by rw [List.length_take]; omega
    refine ⟨cells2_len _, .inr ⟨g, c, cur, rfl, hb, hh, by omega, hx, hs, ?_⟩⟩
    rw [e]
    have e2 : cells2 (xs.take m) = (cells2 xs).take (m * 2) := by
      have e4 : cells2 xs = cells2 (xs.take m) ++ cells2 (xs.drop m) := by rw [← cells2_append, List.take_append_drop]
      rw [e4, List.take_append_of_le_length (by rw [cells2_len, e]; omega)]
      exact (List.take_of_length_le (by rw [cells2_len, e]; omega)).symm
    rw [e2, ← ht, List.take_take]
    congr 1
    omega
end

theorem span_info : (Tryz.prog.info? 44).map (fun i => (i.zero, i.size, i.bytes)) = some (some (.agg #[.int .i64 0, .int .i64 0]), 2, 16) := by kernel_rfl

/-- An append of what a slice holds. -/
theorem row_append {w : World} {base c : Nat} {A : Option Addr} {xs : List (Int × Int)} (h : Row w base A c xs) {B : Option Addr} {d : Nat} {ys : List (Int × Int)} (hs : Sl 2 w B ys.length d (cells2 ys)) (hn : xs.length + ys.length ≤ 1000000000) (hbase : base ≤ w.heap.size) :
    ∃ A' c' w', (Builtin.append_ #[40, 40] 40 #[.slice A xs.length c, .slice B ys.length d]).run Tryz.prog w = .ok (.slice A' (xs.length + ys.length) c') w' ∧ Row w' base A' c' (xs ++ ys) ∧
      (∀ a : World, a.heap.size ≤ base → Below a.heap.size a w → Below a.heap.size a w') ∧ w.grownBy w' (Value.slice A xs.length c).ownBlock ∧ ((Value.slice A' (xs.length + ys.length) c').ownBlock = (Value.slice A xs.length c).ownBlock ∨ (Value.slice A' (xs.length + ys.length) c').ownBlock = some w.heap.size) := by
  obtain ⟨A', c', w', hr, ho, hg, hl⟩ := append_any (P := Tryz.prog) w base 40 40 44 _ 2 16 Tryz.underlying40 span_info rfl (by omega) h hs (cells2_one ys) (xs.length + ys.length) rfl (cells2 (xs ++ ys)) (cells2_append xs ys).symm (by omega) (by omega) hbase
  refine ⟨A', c', w', hr, ?_, fun a ha hb => bel_grown hb h ha hg, hg, hl⟩
  unfold Row
  rw [List.length_append]
  exact ho

/-- A new slice of one span, made for an append. -/
theorem sl_one (w : World) (t : TypeId) (x : Int × Int) {s : Nat} (hs : w.heap.size = s) : Sl 2 (w.alloc (.cells #[.int .i64 x.1, .int .i64 x.2] t)) (some ⟨s, 0, none⟩) [x].length 1 (cells2 [x]) := by
  subst hs
  refine ⟨rfl, .inr ⟨_, rfl, fun j u hu => ?_⟩⟩
  rw [add_none, Nat.zero_add, cell_of_row _ _ _ _ t (0, 0) (heap_alloc_new w _)]
  simpa [cells2] using hu
theorem row_push {w : World} {base c : Nat} {A : Option Addr} {xs : List (Int × Int)} (h : Row w base A c xs) (a b : Int) (hn : xs.length < 1000000000) (hbase : base ≤ w.heap.size) {s : Nat} (hs : w.heap.size = s) :
    ∃ A' c' w', (Builtin.append_ #[40, 40] 40 #[.slice A xs.length c, .slice (some ⟨s, 0, none⟩) 1 1]).run Tryz.prog (w.alloc (.cells #[.int .i64 a, .int .i64 b] 44)) = .ok (.slice A' (xs.length + 1) c') w' ∧ Row w' base A' c' (xs ++ [(a, b)]) ∧
      (∀ v : World, v.heap.size ≤ base → Below v.heap.size v w → Below v.heap.size v w') ∧ w.heap.size ≤ w'.heap.size ∧ (w.alloc (.cells #[.int .i64 a, .int .i64 b] 44)).grownBy w' (Value.slice A xs.length c).ownBlock ∧ ((Value.slice A' (xs.length + 1) c').ownBlock = (Value.slice A xs.length c).ownBlock ∨ (Value.slice A' (xs.length + 1) c').ownBlock = some (w.heap.size + 1)) := by
  obtain ⟨A', c', w', h1, h2, h3, h4, h5⟩ := row_append (h.alloc (.cells #[.int .i64 a, .int .i64 b] 44)) (ys := [(a, b)]) (sl_one w 44 (a, b) hs) (by simp; omega) (by simp; omega)
  exact ⟨A', c', w', h1, h2, fun v hv hb => h3 v hv (hb.alloc hb.size _), by have := h4.size; simp at this; omega, h4, by simpa using h5⟩

/-- What a call that tells spans answers: a slice of its own. -/
def Gives (w : World) (xs : List (Int × Int)) (e : Ending) (w' : World) : Prop := ∃ A c, e = .returned (.slice A xs.length c) ∧ Row w' w.heap.size A c xs ∧ Below w.heap.size w w'
theorem gives_of {w w' : World} {xs ys : List (Int × Int)} {A : Option Addr} {c n : Nat} (h : Row w' w.heap.size A c ys) (e : ys = xs) (hn : n = ys.length) (hb : Below w.heap.size w w') : Gives w xs (.returned (.slice A n c)) w' := by
  subst e; subst hn; exact ⟨A, c, rfl, h, hb⟩

/-- A literal slice of spans. -/
theorem spans_new (w : World) (xs : List (Int × Int)) (t : TypeId) (cs : Array Value) (hcs : cs = (cells2 xs).toArray) (hf : Fits xs) {s : Nat} (hs : w.heap.size = s) : Spans (w.alloc (.cells cs t)) (some ⟨s, 0, none⟩) xs := by
  subst hs
  refine ⟨hf, fun k hk => ?_⟩
  have e : ∀ j, (w.alloc (.cells cs t)).cell? ⟨w.heap.size, j, none⟩ = cs[j]? := fun j => cell_of_row _ _ _ _ t (0, 0) (heap_alloc_new w _)
  obtain ⟨g1, g2⟩ := cells2_get xs k hk
  refine ⟨_, _, rfl, by simp, ?_, ?_⟩
  · rw [Nat.zero_add, e, hcs]; simpa using g1
  · rw [Nat.zero_add, e, hcs]; simpa using g2
end Go.Proofs.YtdlimgpmmkcgmaaGreat

namespace Go.Proofs.YtdlimgpmmkcgmaaGreat
open Go.RowKit
set_option linter.unusedVariables false

/-- What the loop's word J bears of the function that runs it: new blocks, blocks of the function's own (ks), stores into these. -/
structure Lets (J : List Nat → List (Int × Int) → World → Prop) : Prop where
  alloc : ∀ ks pre A o, J ks pre A → J ks pre (A.alloc o)
  own : ∀ ks pre A o, J ks pre A → J (A.heap.size :: ks) pre (A.alloc o)
  set : ∀ ks pre A k i v, J ks pre A → k ∈ ks → J ks pre (A.setCell ⟨k, i, none⟩ v)
  less : ∀ ks k pre A, J (k :: ks) pre A → J ks pre A

def agg2 (x : Int × Int) : Value := .agg #[.int .i64 x.1, .int .i64 x.2]

/-- The function gf, with lb captured, hands the parts ps to whatever loop it runs, in their order, or as many of them as the loop wants; a round leaves the function's own blocks, and what is below n₀, as they are. -/
def SeqOf (P : Program) (gf : Nat) (lb : Array Value) (n₀ : Nat) (ps : List (Int × Int)) (w : World) : Prop :=
  ∀ (l : Nat) (J : List Nat → List (Int × Int) → World → Prop) (Jx : List (Int × Int) → World → Prop) (W : World), Below w.heap.size w W → Lets J →
    (∀ ks pre x W1, J ks pre W1 → pre ++ [x] <+: ps → YieldAt Fence.wide 0 P l #[agg2 x] W1 fun e W' =>
      (e = .returned (.bool true) ∧ J ks (pre ++ [x]) W' ∧ (∀ k ∈ ks, W'.heap[k]? = W1.heap[k]?) ∧ Below n₀ W1 W') ∨ (e = .returned (.bool false) ∧ Jx (pre ++ [x]) W')) →
    J [] [] W →
    CallsIn Fence.wide 0 P gf (#[.func (.yield l) #[] #[]] ++ lb) W fun e W' => (∃ v, e = .returned v) ∧ ((∃ ks, J ks ps W') ∨ (∃ pre, pre <+: ps ∧ Jx pre W'))

/-- How a round's body may be left. -/
def rpost (n₁ n₀ : Nat) (ks : List Nat) (I : List Nat → List (Int × Int) → World → Prop) (Ix : Code → List (Int × Int) → World → Prop) (pre : List (Int × Int)) (W : World) : Exit → Act → World → Prop
  | .normal, _, W' => KeepsFrom n₁ W W' ∧ (∀ k ∈ ks, W'.heap[k]? = W.heap[k]?) ∧ Below n₀ W W' ∧ I ks pre W'
  | .exit id, _, W' => KeepsFrom n₁ W W' ∧ Ix (.exit id) pre W'
  | _, _, _ => False

theorem grownBy_setCell (W : World) (p : Addr) (v : Value) : W.grownBy (W.setCell p v) (some p.block) :=
  ⟨rfl, rfl, rfl, (KeepsWalks.setCell W _ v).size, fun k _ hk => Below.heap_setCell _ _ _ k (fun e => hk (by rw [e]))⟩
theorem below_putObj {B : Nat} {W : World} {l : Nat} (o : Obj) (hl : B ≤ l) : Below B W (W.putObj l o) :=
  ⟨rfl, rfl, rfl, by simp, fun k hk => World.putObj_heap_other (by omega)⟩

/-- The law of such a loop, whose variable lies in a block of its own. -/
theorem range_own {P : Program} {g : Operand} {pt : Array Tmp} {assign body : Code} {Q : Exit → Act → World → Prop} {a : Act} {w : World} {gf : Nat} {lb : Array Value} {ps : List (Int × Int)} {n₀ : Nat} {T : TypeId}
    (hg : a.eval g = .func (.func gf) #[] lb) (eg : ∀ args w, (callFunc gf args).run P w = .ok (.enter gf args) w) (hseq : SeqOf P gf lb n₀ ps w) (hn : n₀ ≤ w.heap.size) (hpt : pt.size = 1)
    (I : List Nat → List (Int × Int) → World → Prop) (Ix : Code → List (Int × Int) → World → Prop) (hI : Lets I)
    (hput : ∀ ks pre W l o o', I ks pre W → w.heap.size ≤ l → W.heap[l]? = some o → o.isCells = false → I ks pre (W.putObj l o'))
    (hxput : ∀ c pre W l o o', Ix c pre W → w.heap.size ≤ l → W.heap[l]? = some o → o.isCells = false → Ix c pre (W.putObj l o'))
    (h0 : I [] [] w) (a₁ : Nat → Int × Int → Act)
    (hassign : ∀ (l : Nat) (x : Int × Int) (W : World) (K : Act → World → Prop), K (a₁ W.heap.size x) (W.alloc (.cells #[.int .i64 x.1, .int .i64 x.2] T)) →
      assign.wpIn (Fence.wide.inRound l) 0 P (Exit.then K (fun _ _ _ => False)) { tmps := (pt.zip #[agg2 x]).foldl (fun t (p, v) => t.setIfInBounds p v) a.tmps, defers := [] } W)
    (hbody : ∀ (l : Nat) (ks : List Nat) (pre : List (Int × Int)) (x : Int × Int) (B : Nat) (W : World), I (B :: ks) pre W → Has W B #[.int .i64 x.1, .int .i64 x.2] → pre ++ [x] <+: ps →
      body.wpIn (Fence.wide.inRound l) 0 P (rpost w.heap.size n₀ ks I Ix (pre ++ [x]) W) (a₁ B x) W)
    (hdone : ∀ (D : Nat) (ks : List Nat) (W : World), w.heap.size ≤ D → I ks ps W → W.heap[D]? = some (.deferred (some [])) → Q .normal { a with defers := { target := .collected D, args := #[] } :: a.defers } W)
    (hstop : ∀ (D : Nat) (c : Code) (pre : List (Int × Int)) (W : World), w.heap.size ≤ D → pre <+: ps → Ix c pre W → W.heap[D]? = some (.deferred (some [])) → c.wpIn Fence.wide 0 P Q { a with defers := { target := .collected D, args := #[] } :: a.defers } W) :
    (Code.rangeFunc g pt assign body).wpIn Fence.wide 0 P Q a w := by
  refine wpIn_rangeFunc fun fn _ => ?_
  let rec0 : Loop := { state := .ready, pending := none, fn, tmps := a.tmps, params := pt, assign, body, defers := w.heap.size }
  let W1 : World := (w.alloc (.deferred (some []))).alloc (.loop rec0)
  have s1 : W1.heap.size = w.heap.size + 2 := by simp [W1]
  have r1 : W1.heap[w.heap.size + 1]? = some (.loop rec0) := by
    have := World.alloc_heap_new (w.alloc (.deferred (some []))) (.loop rec0)
    rwa [World.size_alloc] at this
  have d1 : W1.heap[w.heap.size]? = some (.deferred (some [])) :=
    (Below.heap_alloc _ _ _ (by simp)).trans (World.alloc_heap_new w _)
  refine ⟨w.heap.size + 1, [{ target := .collected w.heap.size, args := #[] }], W1, { target := .fn (.func gf) lb, args := #[.func (.yield (w.heap.size + 1)) #[] #[]] }, W1, gf,
    #[.func (.yield (w.heap.size + 1)) #[] #[]] ++ lb, W1, run_enterLoop_outer _ _ _ _ _, ?_, fun _ _ => trivial, ?_, (fun h => by simp [Fence.wide] at h), ?_⟩
  · simp only [resolve, hg]
    simp [go_sem]
  · simp [invoke, go_sem, eg]
  let J : List Nat → List (Int × Int) → World → Prop := fun ks pre W => I ks pre W ∧ W.heap[w.heap.size + 1]? = some (.loop rec0) ∧ W.heap[w.heap.size]? = some (.deferred (some [])) ∧ ∀ k ∈ ks, w.heap.size + 2 ≤ k ∧ k < W.heap.size
  let Jx : List (Int × Int) → World → Prop := fun pre W => ∃ c, Ix c pre W ∧ W.heap[w.heap.size + 1]? = some (.loop { rec0 with state := .done, pending := some c }) ∧ W.heap[w.heap.size]? = some (.deferred (some []))
  have lt : ∀ {W : World} {o : Obj} {k : Nat}, W.heap[k]? = some o → k < W.heap.size := fun h => (Array.getElem?_eq_some_iff.1 h).1
  have hJ : Lets J :=
    { alloc := fun ks pre A o h => ⟨hI.alloc _ _ _ o h.1, (Below.heap_alloc A o _ (lt h.2.1)).trans h.2.1, (Below.heap_alloc A o _ (lt h.2.2.1)).trans h.2.2.1, fun k hk => by have := h.2.2.2 k hk; simp; omega⟩
      own := fun ks pre A o h => ⟨hI.own _ _ _ o h.1, (Below.heap_alloc A o _ (lt h.2.1)).trans h.2.1, (Below.heap_alloc A o _ (lt h.2.2.1)).trans h.2.2.1, fun k hk => by
        rcases List.mem_cons.1 hk with rfl | hk
        · have := lt h.2.1; simp; omega
        · have := h.2.2.2 k hk; simp; omega⟩
      set := fun ks pre A k i v h hk => by
        have := h.2.2.2 k hk
        exact ⟨hI.set _ _ _ k i v h.1 hk, (Below.heap_setCell A _ v _ (by simp only []; omega)).trans h.2.1, (Below.heap_setCell A _ v _ (by simp only []; omega)).trans h.2.2.1, fun j hj => by have := h.2.2.2 j hj; have e := (grownBy_setCell A ⟨k, i, none⟩ v).size; omega⟩
      less := fun ks k pre A h => ⟨hI.less _ _ _ _ h.1, h.2.1, h.2.2.1, fun j hj => h.2.2.2 j (List.mem_cons_of_mem _ hj)⟩ }
  have hbW : Below w.heap.size w W1 := ((Below.refl _ w).alloc (Nat.le_refl _) _).alloc (by simp) _
  refine (hseq (w.heap.size + 1) J Jx W1 hbW hJ ?_ ⟨hI.alloc _ _ _ _ (hI.alloc _ _ _ _ h0), r1, d1, by simp⟩).mono ?_
  · rintro ks pre x W ⟨hi, hr, hd, hk⟩ hx
    have hy := run_yield (P := P) (args := #[agg2 x]) hr (by show 1 = pt.size; rw [hpt])
    refine ⟨fn, _, assign, body, hy, roundIn_of_wpIn trivial (hassign _ x W _ ?_)⟩
    have hW2 := hI.own _ _ _ (.cells #[.int .i64 x.1, .int .i64 x.2] T) hi
    have hH2 : Has (W.alloc (.cells #[.int .i64 x.1, .int .i64 x.2] T)) W.heap.size #[.int .i64 x.1, .int .i64 x.2] := Has.new _ _ _ rfl
    have hr2 := (Below.heap_alloc W (.cells #[.int .i64 x.1, .int .i64 x.2] T) _ (lt hr)).trans hr
    have hd2 := (Below.heap_alloc W (.cells #[.int .i64 x.1, .int .i64 x.2] T) _ (lt hd)).trans hd
    have hrl := lt hr
    have hold : ∀ k, k < W.heap.size → (W.alloc (.cells #[.int .i64 x.1, .int .i64 x.2] T)).heap[k]? = W.heap[k]? := fun k hk => Below.heap_alloc W _ k hk
    have hb2 : Below n₀ W (W.alloc (.cells #[.int .i64 x.1, .int .i64 x.2] T)) := (Below.refl _ W).alloc (by omega) _
    generalize hW2e : W.alloc (.cells #[.int .i64 x.1, .int .i64 x.2] T) = W2 at *
    let busy : Obj := .loop { rec0 with state := .busy }
    refine ⟨_, run_beginRound hr2 rfl, ?_⟩
    have hr3 : (W2.putObj (w.heap.size + 1) busy).heap[w.heap.size + 1]? = some busy := World.putObj_heap_same (lt hr2)
    have hd3 : (W2.putObj (w.heap.size + 1) busy).heap[w.heap.size]? = some (.deferred (some [])) := (World.putObj_heap_other (by omega)).trans hd2
    have hH3 : Has (W2.putObj (w.heap.size + 1) busy) W.heap.size #[.int .i64 x.1, .int .i64 x.2] := by
      obtain ⟨t, ht⟩ := hH2
      exact ⟨t, (World.putObj_heap_other (by omega)).trans ht⟩
    refine wpIn_mono (hbody _ ks pre x W.heap.size _ (hput _ _ _ _ _ busy hW2 (by omega) hr2 rfl) hH3 hx) ?_
    rintro e a3 W3 hp
    cases e with
    | normal =>
      obtain ⟨p1, p2, p3, p4⟩ := hp
      have hr4 := p1.same _ _ (by omega) hr3 rfl
      have hd4 := p1.same _ _ (Nat.le_refl _) hd3 rfl
      refine ⟨_, _, run_endRound none hr4, .inl ⟨rfl, ⟨hput _ _ _ _ _ _ p4 (by omega) hr4 rfl, World.putObj_heap_same (lt hr4), (World.putObj_heap_other (by omega)).trans hd4, fun k hkk => ⟨(hk k hkk).1, ?_⟩⟩, fun k hkk => ?_, ?_⟩⟩
      · have := (hk k hkk).2; have q1 := p1.size; have q2 := hb2.size; simp at q1 ⊢; omega
      · have hk2 := hk k hkk
        rw [World.putObj_heap_other (by omega), p2 k hkk, World.putObj_heap_other (by omega)]
        exact hold k hk2.2
      · exact (hb2.trans (below_putObj busy (by omega))).trans (p3.trans (below_putObj _ (by omega)))
    | exit id =>
      obtain ⟨p1, p2⟩ := hp
      have hr4 := p1.same _ _ (by omega) hr3 rfl
      have hd4 := p1.same _ _ (Nat.le_refl _) hd3 rfl
      exact ⟨_, _, run_endRound (some (.exit id)) hr4, .inr ⟨rfl, .exit id, hxput _ _ _ _ _ _ p2 (by omega) hr4 rfl, World.putObj_heap_same (lt hr4), (World.putObj_heap_other (by omega)).trans hd4⟩⟩
    | ret => exact hp.elim
    | goto t => exact hp.elim
    | panic ch => exact hp.elim
    | outgrown => exact hp.elim
  · rintro e W2 ⟨⟨v, rfl⟩, ⟨ks, hi, hr, hd, _⟩ | ⟨pre, hpre, c, hi, hr, hd⟩⟩
    · exact ⟨none, _, run_endLoop hr (by simp [rec0]), hdone _ ks _ (Nat.le_refl _) (hput _ _ _ _ _ _ hi (by omega) hr rfl) ((World.putObj_heap_other (by omega)).trans hd)⟩
    · exact ⟨some c, _, run_endLoop hr (by simp), hstop _ c pre _ (Nat.le_refl _) hpre (hxput _ _ _ _ _ _ hi (by omega) hr rfl) ((World.putObj_heap_other (by omega)).trans hd)⟩
end Go.Proofs.YtdlimgpmmkcgmaaGreat

namespace Go.Proofs.YtdlimgpmmkcgmaaGreat

/-- The ratio may be. -/
def mayB (n d : Int) : Bool := decide (-2147483647 ≤ n ∧ n ≤ 2147483647 ∧ 1 ≤ d ∧ d ≤ 2147483647 ∧ Int.gcd n d = 1)
/-- What Make tells: the error, and the two parts. -/
def mkC (n d : Int) : Int := if d ≤ 0 then 20 else if -2147483647 ≤ n / (Int.gcd n d : Int) ∧ n / (Int.gcd n d : Int) ≤ 2147483647 ∧ d / (Int.gcd n d : Int) ≤ 2147483647 then 0 else 10
def mkN (n d : Int) : Int := if mkC n d = 0 then n / (Int.gcd n d : Int) else 0
def mkD (n d : Int) : Int := if mkC n d = 0 then d / (Int.gcd n d : Int) else 0

theorem gcd_pos' {n d : Int} (h : 0 < d) : 0 < (Int.gcd n d : Int) := by
  have : 0 < Int.gcd n d := Int.gcd_pos_of_ne_zero_right n (by omega)
  omega
theorem gcd_n (n d : Int) : (Int.gcd n d : Int) * (n / (Int.gcd n d : Int)) = n := Int.mul_ediv_cancel' (Int.gcd_dvd_left n d)
theorem gcd_d (n d : Int) : (Int.gcd n d : Int) * (d / (Int.gcd n d : Int)) = d := Int.mul_ediv_cancel' (Int.gcd_dvd_right n d)
theorem low_d {n d : Int} (h : 0 < d) : 0 < d / (Int.gcd n d : Int) := by
  have h1 := gcd_d n d
  have h2 := gcd_pos' (n := n) h
  generalize hq : d / (Int.gcd n d : Int) = q at *
  generalize (Int.gcd n d : Int) = g at *
  rcases Int.lt_or_le 0 q with h3 | h3
  · exact h3
  · exfalso
    have : g * q ≤ g * 0 := Int.mul_le_mul_of_nonneg_left h3 (by omega)
    omega
theorem low_gcd {n d : Int} (h : 0 < d) : Int.gcd (n / (Int.gcd n d : Int)) (d / (Int.gcd n d : Int)) = 1 := by
  have h0 : 0 < Int.gcd n d := Int.gcd_pos_of_ne_zero_right n (by omega)
  rw [Int.gcd_ediv (Int.gcd_dvd_left n d) (Int.gcd_dvd_right n d)]
  simp
  exact Nat.div_self h0

theorem mkC_pos {n d : Int} (h : mkC n d = 0) : 0 < d := by
  unfold mkC at h
  split at h
  · omega
  · omega
theorem mk_may {n d : Int} (h : mkC n d = 0) : mayB (mkN n d) (mkD n d) = true := by
  have hd := mkC_pos h
  unfold mayB mkN mkD
  rw [if_pos h, if_pos h]
  have h' := h
  unfold mkC at h'
  rw [if_neg (by omega)] at h'
  split at h'
  · rename_i hb
    have := low_d (n := n) hd
    exact decide_eq_true ⟨hb.1, hb.2.1, by omega, hb.2.2, low_gcd hd⟩
  · omega
theorem mk_bad {n d : Int} (h : mkC n d ≠ 0) : mkN n d = 0 ∧ mkD n d = 0 := by
  unfold mkN mkD
  rw [if_neg h, if_neg h]
  exact ⟨rfl, rfl⟩
theorem may_bd {n d : Int} (h : mayB n d = true) : -2147483647 ≤ n ∧ n ≤ 2147483647 ∧ 1 ≤ d ∧ d ≤ 2147483647 ∧ Int.gcd n d = 1 := of_decide_eq_true h

theorem dvd_low {k n m : Int} (h : k ∣ n * m) (hg : Int.gcd k n = 1) : k ∣ m := by
  have h1 := Int.dvd_gcd_mul_iff_dvd_mul.2 h
  rw [hg] at h1
  simpa using h1
/-- What is as much, in lowest terms, is one. -/
theorem low_unique {x y p q : Int} (hy : 0 < y) (hq : 0 < q) (h1 : Int.gcd x y = 1) (h2 : Int.gcd p q = 1) (h : x * q = p * y) : x = p ∧ y = q := by
  have d1 : y ∣ q := by
    have : y ∣ x * q := ⟨p, by rw [h, Int.mul_comm]⟩
    exact dvd_low this (by rw [Int.gcd_comm]; exact h1)
  have d2 : q ∣ y := by
    have : q ∣ p * y := ⟨x, by rw [← h, Int.mul_comm]⟩
    exact dvd_low this (by rw [Int.gcd_comm]; exact h2)
  have e : y = q := Int.dvd_antisymm (by omega) (by omega) d1 d2
  subst e
  exact ⟨Int.eq_of_mul_eq_mul_right (by omega) h, rfl⟩

/-- A ratio that may be, and is as much as n through d, is what is told. -/
theorem mk_of {x y n d : Int} (hm : mayB x y = true) (hd : 0 < d) (h : x * d = n * y) : mkC n d = 0 ∧ mkN n d = x ∧ mkD n d = y := by
  obtain ⟨b1, b2, b3, b4, b5⟩ := may_bd hm
  have g1 := gcd_n n d
  have g2 := gcd_d n d
  have g3 := gcd_pos' (n := n) hd
  have g4 := low_gcd (n := n) hd
  have g5 := low_d (n := n) hd
  have hx : x * (d / (Int.gcd n d : Int)) = (n / (Int.gcd n d : Int)) * y := by
    generalize d / (Int.gcd n d : Int) = q at *
    generalize n / (Int.gcd n d : Int) = p at *
    generalize (Int.gcd n d : Int) = g at *
    rw [← g1, ← g2] at h
    have : g * (x * q) = g * (p * y) := by rw [Int.mul_left_comm, h, Int.mul_assoc]
    exact Int.eq_of_mul_eq_mul_left (by omega) this
  obtain ⟨e1, e2⟩ := low_unique (by omega) g5 b5 g4 hx
  have hc : mkC n d = 0 := by
    unfold mkC
    rw [if_neg (by omega), ← e1, ← e2, if_pos ⟨b1, b2, b4⟩]
  refine ⟨hc, ?_, ?_⟩
  · unfold mkN; rw [if_pos hc, ← e1]
  · unfold mkD; rw [if_pos hc, ← e2]
theorem mk_self {x y : Int} (hm : mayB x y = true) : mkC x y = 0 ∧ mkN x y = x ∧ mkD x y = y := mk_of hm (by have := may_bd hm; omega) rfl
end Go.Proofs.YtdlimgpmmkcgmaaGreat

namespace Go.Proofs.YtdlimgpmmkcgmaaGreat
set_option linter.unusedVariables false
set_option linter.unusedSimpArgs false

/-- A setup: its lists as rows of numbers. -/
structure SetP where
  places : Int
  ways : Rows2
  pn : Int
  pd : Int
  elements : Rows2
  classes : Rows2
  gears : Rows2
  allow : Int
  unit : Int
  cap : Int
  paid : Int
  aft : Int
  brk : Int
  reg : Int
  over : Int
  week : Int
  nfrom : Int
  nto : Int
  rates : List Int
  diff : Int
  least : Int
  fault : Int
  tiers : Rows2
def SetP.none : SetP := ⟨0, [], 0, 0, [], [], [], 0, 0, 0, 0, 0, 0, 0, 0, 0, 0, 0, [], 0, 0, 0, []⟩
/-- Its rows are as wide as they should. -/
structure SetP.Wide (s : SetP) : Prop where
  ways : ∀ r ∈ s.ways, r.length = 3
  elements : ∀ r ∈ s.elements, r.length = 4
  classes : ∀ r ∈ s.classes, r.length = 2
  gears : ∀ r ∈ s.gears, r.length = 2
  tiers : ∀ r ∈ s.tiers, r.length = 2
/-- A setup's numbers. -/
def SetP.nums (s : SetP) : List Int :=
  s.places :: (s.ways.length : Int) :: (s.ways.flatten ++ (s.pn :: s.pd :: (s.elements.length : Int) :: (s.elements.flatten ++ ((s.classes.length : Int) :: (s.classes.flatten ++ ((s.gears.length : Int) :: (s.gears.flatten ++
    (s.allow :: s.unit :: s.cap :: s.paid :: s.aft :: s.brk :: s.reg :: s.over :: s.week :: s.nfrom :: s.nto :: (s.rates.length : Int) :: (s.rates ++ (s.diff :: s.least :: s.fault :: (s.tiers.length : Int) :: s.tiers.flatten))))))))))
theorem flat_ones : ∀ l : List Int, (l.map fun n => [n]).flatten = l
  | [] => rfl
  | n :: l => by simp [flat_ones l]
/-! ### Which may be -/
def shareB (n d : Int) : Bool := mayB n d && decide (0 ≤ n)
def wayP (p : Int) (r : List Int) : Prop := 0 ≤ r.getD 0 0 ∧ 0 ≤ r.getD 1 0 ∧ r.getD 0 0 < p ∧ r.getD 1 0 < p ∧ r.getD 0 0 ≠ r.getD 1 0 ∧ 1 ≤ r.getD 2 0 ∧ r.getD 2 0 ≤ 10000
def eleP (r : List Int) : Prop := shareB (r.getD 0 0) (r.getD 1 0) = true ∧ shareB (r.getD 2 0) (r.getD 3 0) = true
def ratP (r : List Int) : Prop := shareB (r.getD 0 0) (r.getD 1 0) = true
def rateP (n : Int) : Prop := 0 ≤ n ∧ n ≤ 100000
def tierP (l : Rows2) (i : Nat) : Prop := 0 ≤ (l.getD i []).getD 0 0 ∧ (l.getD i []).getD 0 0 ≤ 1000 ∧ 0 ≤ (l.getD i []).getD 1 0 ∧ (l.getD i []).getD 1 0 ≤ 100000 ∧ (0 < i → (l.getD (i - 1) []).getD 0 0 < (l.getD i []).getD 0 0)
structure SetP.May (s : SetP) : Prop where
  places : 1 ≤ s.places ∧ s.places ≤ 16
  ways : s.ways.length ≤ 64 ∧ ∀ r ∈ s.ways, wayP s.places r
  pace : shareB s.pn s.pd = true
  elements : s.elements.length ≤ 8 ∧ ∀ r ∈ s.elements, eleP r
  classes : s.classes.length ≤ 8 ∧ ∀ r ∈ s.classes, ratP r
  gears : s.gears.length ≤ 8 ∧ ∀ r ∈ s.gears, ratP r
  allow : 0 ≤ s.allow ∧ s.allow ≤ 100
  unit : 1 ≤ s.unit ∧ s.unit ≤ 3600
  cap : 60 ≤ s.cap ∧ s.cap ≤ 57600
  paid : 0 ≤ s.paid ∧ s.paid ≤ 86400
  aft : 0 ≤ s.aft ∧ s.aft ≤ 86400
  brk : 0 ≤ s.brk ∧ s.brk ≤ 86400
  nfrom : 0 ≤ s.nfrom ∧ s.nfrom ≤ 86400
  nto : 0 ≤ s.nto ∧ s.nto ≤ 86400
  fault : 0 ≤ s.fault ∧ s.fault ≤ 86400
  reg : 0 ≤ s.reg ∧ s.reg ≤ s.over
  over : s.over ≤ 86400
  week : 0 ≤ s.week ∧ s.week ≤ 604800
  rates : 1 ≤ s.rates.length ∧ s.rates.length ≤ 16 ∧ ∀ n ∈ s.rates, rateP n
  diff : 0 ≤ s.diff ∧ s.diff ≤ 100000
  least : 0 ≤ s.least ∧ s.least ≤ 100000
  tiers : s.tiers.length ≤ 8 ∧ ∀ i, i < s.tiers.length → tierP s.tiers i
/-! ### As bytes -/
def SetP.bytes (s : SetP) : List (BitVec 8) := bytesN s.nums
/-! ### Read -/
end Go.Proofs.YtdlimgpmmkcgmaaGreat

namespace Go.Proofs.YtdlimgpmmkcgmaaGreat
set_option linter.unusedVariables false
set_option linter.unusedSimpArgs false

theorem rows_len {k : Nat} : ∀ (t : Rows2), (∀ r ∈ t, r.length = k) → t.flatten.length = k * t.length
  | [], _ => by simp
  | r :: t, h => by
    have h1 := rows_len t (fun q hq => h q (by simp [hq]))
    have h2 := h r (by simp)
    rw [List.flatten_cons, List.length_append, h1, h2, List.length_cons, Nat.mul_add]
    omega
theorem rows_get {k : Nat} : ∀ (t : Rows2), (∀ r ∈ t, r.length = k) → ∀ i j, i < t.length → j < k → ∀ v : List Int, (t.flatten ++ v).getD (k * i + j) 0 = (t.getD i []).getD j 0
  | [], _, i, j, hi, _, v => by simp at hi
  | r :: t, h, i, j, hi, hj, v => by
    have h2 := h r (by simp)
    rw [List.flatten_cons, List.append_assoc]
    rcases i with _ | i
    · rw [Nat.mul_zero, Nat.zero_add, List.getD_eq_getElem?_getD, List.getElem?_append_left (by omega)]
      simp [List.getD]
    · have h3 := rows_get t (fun q hq => h q (by simp [hq])) i j (by simpa using hi) hj v
      rw [List.getD_eq_getElem?_getD, List.getElem?_append_right (by rw [h2, Nat.mul_add]; omega), h2, show k * (i + 1) + j - k = k * i + j by rw [Nat.mul_add]; omega, ← List.getD_eq_getElem?_getD, h3]
      simp [List.getD]
end Go.Proofs.YtdlimgpmmkcgmaaGreat

namespace Go.Proofs.YtdlimgpmmkcgmaaGreat
open Go.RowKit
set_option linter.unusedVariables false

/-- A slice value over A reads as the bytes l. -/
def Byts (w : World) (A : Option Addr) (l : List (BitVec 8)) : Prop :=
  ∀ k, k < l.length → ∃ b off, A = some ⟨b, off, none⟩ ∧ w.cell? ⟨b, off + k, none⟩ = some (v8 (l.getD k 0#8))
/-- A slice value over A reads as the slices of bytes ps. -/
def Parts (w : World) (A : Option Addr) (ps : List (List (BitVec 8))) : Prop :=
  ∀ k, k < ps.length → ∃ g B c, A = some ⟨g, 0, none⟩ ∧ w.cell? ⟨g, k, none⟩ = some (.slice B (ps.getD k []).length c) ∧ Byts w B (ps.getD k []) ∧ (ps.getD k []).length ≤ 9223372036854775807

section
variable {w w' : World} {A : Option Addr} {l : List (BitVec 8)} {ps : List (List (BitVec 8))}
theorem Byts.keep (h : Byts w A l) (hk : ∀ p : Addr, p.block < w.heap.size → w'.cell? p = w.cell? p) : Byts w' A l := by
  intro k hl
  obtain ⟨b, off, e, hc⟩ := h k hl
  exact ⟨b, off, e, (hk _ (cell_lt hc)).trans hc⟩
theorem Byts.below (h : Byts w A l) (hb : Below w.heap.size w w') : Byts w' A l := h.keep fun _ hp => hb.cell hp
theorem Byts.alloc (h : Byts w A l) (o : Obj) : Byts (w.alloc o) A l := h.keep fun p hp => World.cell?_alloc_lt w o p hp
theorem Byts.drew (h : Byts w A l) : Byts w.drew A l := h
theorem Byts.drewN (h : Byts w A l) (n : Nat) : Byts (w.drewN n) A l := h
theorem Byts.nil_ : Byts w A [] := fun k h => by simp at h
theorem Byts.take (h : Byts w A l) (n : Nat) : Byts w A (l.take n) := by
  intro k hk
  rw [List.length_take] at hk
  obtain ⟨b, off, e, hc⟩ := h k (by omega)
  refine ⟨b, off, e, ?_⟩
  rw [hc, List.getD_eq_getElem?_getD, List.getD_eq_getElem?_getD, List.getElem?_take, if_pos (by omega)]
theorem Parts.keep (h : Parts w A ps) (hk : ∀ p : Addr, p.block < w.heap.size → w'.cell? p = w.cell? p) : Parts w' A ps := by
  intro k hl
  obtain ⟨g, B, c, e, hc, hB, hm⟩ := h k hl
  exact ⟨g, B, c, e, (hk _ (cell_lt hc)).trans hc, hB.keep hk, hm⟩
theorem Parts.below (h : Parts w A ps) (hb : Below w.heap.size w w') : Parts w' A ps := h.keep fun _ hp => hb.cell hp
theorem Parts.alloc (h : Parts w A ps) (o : Obj) : Parts (w.alloc o) A ps := h.keep fun p hp => World.cell?_alloc_lt w o p hp
theorem Parts.drew (h : Parts w A ps) : Parts w.drew A ps := h
theorem Parts.nil_ : Parts w A [] := fun k h => by simp at h
end

/-- A slot that holds a slice of slices of bytes. -/
def PartsV (v : Value) (n : Nat) (ps : List (List (BitVec 8))) (w : World) : Prop := ∃ A c, v = .slice A n c ∧ Parts w A ps
theorem PartsV.below {v : Value} {n : Nat} {ps : List (List (BitVec 8))} {w w' : World} (h : PartsV v n ps w) (hb : Below w.heap.size w w') : PartsV v n ps w' := by
  obtain ⟨A, c, e, hp⟩ := h
  exact ⟨A, c, e, hp.below hb⟩
theorem PartsV.elim {v : Value} {n : Nat} {ps : List (List (BitVec 8))} {w : World} (h : PartsV v n ps w) {G : Prop} (k : ∀ A c, v = .slice A n c → Parts w A ps → G) : G := by
  obtain ⟨A, c, e, hp⟩ := h
  exact k A c e hp
end Go.Proofs.YtdlimgpmmkcgmaaGreat
