/-
  Slices of spans in memory: one that is read ('Spans'), one of the call's own ('Row'); what an append, and a store, make of it.
  The contracts of package span's functions: what each call answers, at every input; what was there is left as it was.
  slices.SortFunc at spans, as package span calls it: the slice holds the same spans, by their From.
  The contracts of package span's functions, continued: rising.
  A region that draws its order, by one word that holds whatever has come up: each operation keeps it, and where all have come up it gives what is asked. Over any program.
-/
import Derived.Test.YtghfhoodbiiciaaGreatZab
import Derived.Test.YtghfhoodbiiciaaGreatZaa
import Derived.Test.YtghfhoodbiiciaaGreatProg
import Derived.Lib.Hide
import Derived.Test.YtghfhoodbiiciaaGreatSpLay
import Derived.WalkKit
import Derived.Shelf.Abstract
import Derived.StillTailTactics
import Derived.Deep.Light
import Derived.Deep.RegionHeld3
import Derived.Deep.RegionWith
namespace Go.Proofs.YtghfhoodbiiciaaGreat
open Go.RowKit
set_option linter.unusedVariables false

def cells2 (xs : List (Int × Int)) : List Value := xs.flatMap fun x => [.int .i64 x.1, .int .i64 x.2]
theorem cells2_len : ∀ xs : List (Int × Int), (cells2 xs).length = xs.length * 2
  | [] => rfl
  | x :: xs => by
    have := cells2_len xs
    simp only [cells2, List.flatMap_cons, List.length_append, List.length_cons, List.length_nil] at this ⊢
    omega
theorem cells2_append (xs ys : List (Int × Int)) : cells2 (xs ++ ys) = cells2 xs ++ cells2 ys := by simp [cells2]
theorem cells2_cons (x : Int × Int) (xs : List (Int × Int)) : cells2 (x :: xs) = .int .i64 x.1 :: .int .i64 x.2 :: cells2 xs := rfl
theorem cells2_get : ∀ (xs : List (Int × Int)) (k : Nat), k < xs.length → (cells2 xs)[k * 2]? = some (.int .i64 (xs.getD k (0, 0)).1) ∧ (cells2 xs)[k * 2 + 1]? = some (.int .i64 (xs.getD k (0, 0)).2)
  | [], k, h => by simp at h
  | x :: xs, 0, h => ⟨rfl, rfl⟩
  | x :: xs, k + 1, h => by
    have := cells2_get xs k (by simpa using h)
    rw [show (k + 1) * 2 = k * 2 + 1 + 1 by omega, cells2_cons]
    simp only [List.getElem?_cons_succ, List.getD_cons_succ]
    exact this
theorem cells2_one (xs : List (Int × Int)) : ∀ u ∈ cells2 xs, u.oneCell' = true := by
  intro u hu
  simp only [cells2, List.mem_flatMap] at hu
  obtain ⟨x, _, hx⟩ := hu
  rcases List.mem_cons.1 hx with rfl | hx
  · rfl
  · rw [List.mem_singleton.1 hx]; rfl
theorem cells2_set : ∀ (xs : List (Int × Int)) (k : Nat) (v : Int), k < xs.length → (cells2 xs).set (k * 2 + 1) (.int .i64 v) = cells2 (xs.set k ((xs.getD k (0, 0)).1, v))
  | [], k, v, h => by simp at h
  | x :: xs, 0, v, h => rfl
  | x :: xs, k + 1, v, h => by
    have := cells2_set xs k v (by simpa using h)
    rw [show (k + 1) * 2 + 1 = (k * 2 + 1) + 1 + 1 by omega, cells2_cons, List.set_cons_succ, List.set_cons_succ, this]
    rfl

/-- A number of 64 bits. -/
def Fit (n : Int) : Prop := -9223372036854775808 ≤ n ∧ n ≤ 9223372036854775807
def Fits (xs : List (Int × Int)) : Prop := ∀ x ∈ xs, Fit x.1 ∧ Fit x.2
theorem Fits.of_plain {xs : List (Int × Int)} (h : PlainFrom 0 xs) : Fits xs := fun x hx => by
  have := (plain_pairs.1 h).1 x hx
  exact ⟨⟨by omega, by omega⟩, ⟨by omega, by omega⟩⟩
theorem Fits.canon (p : Int → Prop) : Fits (canon p) := .of_plain (canon_plain p)
theorem Fits.append {xs ys : List (Int × Int)} (h : Fits xs) (k : Fits ys) : Fits (xs ++ ys) := fun x hx => (List.mem_append.1 hx).elim (h x) (k x)
theorem Fits.at {xs : List (Int × Int)} (h : Fits xs) {k : Nat} (hk : k < xs.length) : Fit (xs.getD k (0, 0)).1 ∧ Fit (xs.getD k (0, 0)).2 := h _ (by simp [List.getD, hk])
theorem Fits.nil : Fits [] := fun x hx => by cases hx

/-- A slice value over A reads as the spans xs. -/
def Spans (w : World) (A : Option Addr) (xs : List (Int × Int)) : Prop :=
  Fits xs ∧ ∀ k, k < xs.length → ∃ b off, A = some ⟨b, off, none⟩ ∧ b < w.heap.size ∧ w.cell? ⟨b, off + k * 2, none⟩ = some (.int .i64 (xs.getD k (0, 0)).1) ∧ w.cell? ⟨b, off + k * 2 + 1, none⟩ = some (.int .i64 (xs.getD k (0, 0)).2)
theorem Spans.below {w w' : World} {A : Option Addr} {xs : List (Int × Int)} (h : Spans w A xs) (hb : Below w.heap.size w w') : Spans w' A xs := by
  refine ⟨h.1, fun k hk => ?_⟩
  obtain ⟨b, off, e, h0, h1, h2⟩ := h.2 k hk
  exact ⟨b, off, e, Nat.lt_of_lt_of_le h0 hb.size, (hb.cell h0).trans h1, (hb.cell h0).trans h2⟩
theorem Spans.alloc {w : World} {A : Option Addr} {xs : List (Int × Int)} (h : Spans w A xs) (o : Obj) : Spans (w.alloc o) A xs := h.below ((Below.refl _ _).alloc (Nat.le_refl _) o)
theorem Spans.drewN {w : World} {A : Option Addr} {xs : List (Int × Int)} (h : Spans w A xs) (n : Nat) : Spans (w.drewN n) A xs := h.below (below_drewN (Below.refl _ _) n)
theorem Spans.drew {w : World} {A : Option Addr} {xs : List (Int × Int)} (h : Spans w A xs) : Spans w.drew A xs := h.below (below_drew (Below.refl _ _))
theorem Spans.nil (w : World) (A : Option Addr) : Spans w A [] := ⟨Fits.nil, fun k hk => by simp at hk⟩
theorem add_none {b off n : Nat} : (⟨b, off, none⟩ : Addr).add n = ⟨b, off + n, none⟩ := by unfold Addr.add; split <;> simp_all
theorem Spans.sl {w : World} {A : Option Addr} {xs : List (Int × Int)} {c : Nat} (h : Spans w A xs) (hc : A = none → c = 0) : Sl 2 w A xs.length c (cells2 xs) := by
  by_cases hne : xs = []
  · subst hne
    cases A with
    | none => exact ⟨rfl, .inl ⟨rfl, rfl, hc rfl⟩⟩
    | some ad => exact ⟨rfl, .inr ⟨ad, rfl, fun j u hu => by simp [cells2] at hu⟩⟩
  have hl : 0 < xs.length := List.length_pos_iff.2 hne
  obtain ⟨b, off, rfl, _⟩ := h.2 0 hl
  refine ⟨cells2_len xs, .inr ⟨_, rfl, fun j u hu => ?_⟩⟩
  have hj : j < xs.length * 2 := by
    rcases Nat.lt_or_ge j (xs.length * 2) with q | q
    · exact q
    · rw [List.getElem?_eq_none (by rw [cells2_len]; exact q)] at hu; cases hu
  obtain ⟨b', off', e, _, h1, h2⟩ := h.2 (j / 2) (by omega)
  obtain ⟨g1, g2⟩ := cells2_get xs (j / 2) (by omega)
  simp only [Option.some.injEq, Addr.mk.injEq, and_true] at e
  obtain ⟨rfl, rfl⟩ := e
  rw [add_none]
  rcases Nat.mod_two_eq_zero_or_one j with m | m
  · rw [show j / 2 * 2 = j by omega] at g1 h1
    rw [h1, ← hu, g1]
  · rw [show j / 2 * 2 + 1 = j by omega] at g2
    rw [Nat.add_assoc, show j / 2 * 2 + 1 = j by omega] at h2
    rw [h2, ← hu, g2]

/-- A slice of the call's own, that lies at 'base' or behind, and holds the spans xs. -/
def Row (w : World) (base : Nat) (A : Option Addr) (c : Nat) (xs : List (Int × Int)) : Prop :=
  w.ownsRow base 43 2 (.slice A xs.length c) xs.length (cells2 xs)
section
variable {w w' : World} {base c : Nat} {A : Option Addr} {xs : List (Int × Int)}
theorem Row.nil (w : World) (base : Nat) : Row w base none 0 [] := World.ownsRow_nil w base _ _
theorem Row.keep (h : Row w base A c xs) (hk : ∀ g, A = some g → w'.heap[g.block]? = w.heap[g.block]?) : Row w' base A c xs := by
  obtain ⟨hl, hn | ⟨g, cap, cur, hv, hg, hh, rest⟩⟩ := h
  · exact ⟨hl, .inl hn⟩
  · injection hv with e1 e2 e3
    subst e1
    exact ⟨hl, .inr ⟨g, cap, cur, by rw [e3], hg, (hk _ rfl).trans hh, rest⟩⟩
theorem Row.lt (h : Row w base A c xs) : ∀ g, A = some g → base ≤ g.block ∧ g.block < w.heap.size := by
  rintro g rfl
  exact World.ownsRow.lt h _ rfl
theorem Row.below (h : Row w base A c xs) (hb : Below w.heap.size w w') : Row w' base A c xs :=
  h.keep fun g hg => hb.block _ (h.lt g hg).2
theorem Row.alloc (h : Row w base A c xs) (o : Obj) : Row (w.alloc o) base A c xs := World.ownsRow.alloc h o
theorem Row.drewN (h : Row w base A c xs) (n : Nat) : Row (w.drewN n) base A c xs := h
theorem Row.drew (h : Row w base A c xs) : Row w.drew base A c xs := h
theorem Row.mono (h : Row w base A c xs) {b : Nat} (hb : b ≤ base) : Row w b A c xs := by
  obtain ⟨hl, hn | ⟨g, cap, cur, hv, hg, rest⟩⟩ := h
  · exact ⟨hl, .inl hn⟩
  · exact ⟨hl, .inr ⟨g, cap, cur, hv, by omega, rest⟩⟩
theorem Row.far (h : Row w base A c xs) {p : Addr} (hp : ∀ g, A = some g → g.block ≠ p.block) (u : Value) : Row (w.setCell p u) base A c xs :=
  h.keep fun g hg => Below.heap_setCell w p u _ (hp g hg)
theorem Row.form (h : Row w base A c xs) (hn : xs ≠ []) : ∃ g, A = some ⟨g, 0, none⟩ := by
  obtain ⟨hl, ⟨hv, hz⟩ | ⟨g, cap, cur, hv, _⟩⟩ := h
  · exact absurd (List.eq_nil_of_length_eq_zero hz) hn
  · injection hv with e1; exact ⟨g, e1⟩
theorem Row.forms (h : Row w base A c xs) : (A = none ∧ xs = [] ∧ c = 0) ∨ ∃ g, A = some ⟨g, 0, none⟩ ∧ base ≤ g ∧ g < w.heap.size ∧ xs.length ≤ c ∧ c ≤ maxLen := by
  have hlt := h.lt
  obtain ⟨hl, ⟨hv, hz⟩ | ⟨g, cap, cur, hv, hb, hh, hc, hm, _⟩⟩ := h
  · injection hv with e1 e2 e3
    exact .inl ⟨e1, List.eq_nil_of_length_eq_zero hz, e3⟩
  · injection hv with e1 e2 e3
    subst e1 e3
    exact .inr ⟨g, rfl, hb, (hlt _ rfl).2, hc, hm⟩
theorem Row.cellAt {g : Nat} (h : Row w base (some ⟨g, 0, none⟩) c xs) {k : Nat} (hk : k < xs.length) : w.cell? ⟨g, k * 2, none⟩ = some (.int .i64 (xs.getD k (0, 0)).1) ∧ w.cell? ⟨g, k * 2 + 1, none⟩ = some (.int .i64 (xs.getD k (0, 0)).2) := by
  obtain ⟨g1, g2⟩ := cells2_get xs k hk
  exact ⟨(World.ownsRow.cellAt h (k * 2) (by omega)).trans g1, (World.ownsRow.cellAt h (k * 2 + 1) (by omega)).trans g2⟩
theorem Row.frozenAt {g : Nat} (h : Row w base (some ⟨g, 0, none⟩) c xs) (j : Nat) : w.frozen? ⟨g, j, none⟩ = false := World.ownsRow.frozenAt h j
theorem Row.spans (h : Row w base A c xs) (hf : Fits xs) : Spans w A xs := by
  refine ⟨hf, fun k hk => ?_⟩
  rcases h.forms with ⟨_, rfl, _⟩ | ⟨g, rfl, _, hlt, _⟩
  · simp at hk
  · obtain ⟨h1, h2⟩ := h.cellAt hk
    exact ⟨g, 0, rfl, hlt, by simpa using h1, by simpa using h2⟩
theorem Row.set {g : Nat} (h : Row w base (some ⟨g, 0, none⟩) c xs) {k : Nat} (hk : k < xs.length) (v : Int) : Row (w.setCell ⟨g, k * 2 + 1, none⟩ (.int .i64 v)) base (some ⟨g, 0, none⟩) c (xs.set k ((xs.getD k (0, 0)).1, v)) := by
  have := (World.ownsRow.stored h (k * 2 + 1) (.int .i64 v)).1
  rw [cells2_set xs k v hk] at this
  unfold Row
  rw [List.length_set]
  exact this
/-- The first m of them. -/
theorem Row.take {g : Nat} (h : Row w base (some ⟨g, 0, none⟩) c xs) {m : Nat} (hm : m ≤ xs.length) : Row w base (some ⟨g, 0, none⟩) c (xs.take m) := by
  obtain ⟨hl, ⟨hv, hz⟩ | ⟨g', cap, cur, hv, hb, hh, hc, hx, hs, ht⟩⟩ := h
  · cases hv
  · injection hv with e1 e2 e3
    simp only [Option.some.injEq, Addr.mk.injEq, and_true] at e1
    subst e1 e3
    have e : (xs.take m).length = m := by rw [List.length_take]; omega
    refine ⟨cells2_len _, .inr ⟨g, c, cur, rfl, hb, hh, by omega, hx, hs, ?_⟩⟩
    rw [e]
    have e2 : cells2 (xs.take m) = (cells2 xs).take (m * 2) := by
      have e4 : cells2 xs = cells2 (xs.take m) ++ cells2 (xs.drop m) := by rw [← cells2_append, List.take_append_drop]
      rw [e4, List.take_append_of_le_length (by rw [cells2_len, e]; omega)]
      exact (List.take_of_length_le (by rw [cells2_len, e]; omega)).symm
    rw [e2, ← ht, List.take_take]
    congr 1
    omega
end

theorem span_info : (Tryz.prog.info? 43).map (fun i => (i.zero, i.size, i.bytes)) = some (some (.agg #[.int .i64 0, .int .i64 0]), 2, 16) := by kernel_rfl

/-- An append of what a slice holds. -/
theorem row_append {w : World} {base c : Nat} {A : Option Addr} {xs : List (Int × Int)} (h : Row w base A c xs) {B : Option Addr} {d : Nat} {ys : List (Int × Int)} (hs : Sl 2 w B ys.length d (cells2 ys)) (hn : xs.length + ys.length ≤ 1000000000) (hbase : base ≤ w.heap.size) :
    ∃ A' c' w', (Builtin.append_ #[34, 34] 34 #[.slice A xs.length c, .slice B ys.length d]).run Tryz.prog w = .ok (.slice A' (xs.length + ys.length) c') w' ∧ Row w' base A' c' (xs ++ ys) ∧
      (∀ a : World, a.heap.size ≤ base → Below a.heap.size a w → Below a.heap.size a w') ∧ w.grownBy w' (Value.slice A xs.length c).ownBlock ∧ ((Value.slice A' (xs.length + ys.length) c').ownBlock = (Value.slice A xs.length c).ownBlock ∨ (Value.slice A' (xs.length + ys.length) c').ownBlock = some w.heap.size) := by
  obtain ⟨A', c', w', hr, ho, hg, hl⟩ := append_any (P := Tryz.prog) w base 34 34 43 _ 2 16 Tryz.underlying34 span_info rfl (by omega) h hs (cells2_one ys) (xs.length + ys.length) rfl (cells2 (xs ++ ys)) (cells2_append xs ys).symm (by omega) (by omega) hbase
  refine ⟨A', c', w', hr, ?_, fun a ha hb => bel_grown hb h ha hg, hg, hl⟩
  unfold Row
  rw [List.length_append]
  exact ho

/-- A new slice of one span, made for an append. -/
theorem sl_one (w : World) (t : TypeId) (x : Int × Int) {s : Nat} (hs : w.heap.size = s) : Sl 2 (w.alloc (.cells #[.int .i64 x.1, .int .i64 x.2] t)) (some ⟨s, 0, none⟩) [x].length 1 (cells2 [x]) := by
  subst hs
  refine ⟨rfl, .inr ⟨_, rfl, fun j u hu => ?_⟩⟩
  rw [add_none, Nat.zero_add, cell_of_row _ _ _ _ t (0, 0) (heap_alloc_new w _)]
  simpa [cells2] using hu
theorem row_push {w : World} {base c : Nat} {A : Option Addr} {xs : List (Int × Int)} (h : Row w base A c xs) (a b : Int) (hn : xs.length < 1000000000) (hbase : base ≤ w.heap.size) {s : Nat} (hs : w.heap.size = s) :
    ∃ A' c' w', (Builtin.append_ #[34, 34] 34 #[.slice A xs.length c, .slice (some ⟨s, 0, none⟩) 1 1]).run Tryz.prog (w.alloc (.cells #[.int .i64 a, .int .i64 b] 43)) = .ok (.slice A' (xs.length + 1) c') w' ∧ Row w' base A' c' (xs ++ [(a, b)]) ∧
      (∀ v : World, v.heap.size ≤ base → Below v.heap.size v w → Below v.heap.size v w') ∧ w.heap.size ≤ w'.heap.size ∧ (w.alloc (.cells #[.int .i64 a, .int .i64 b] 43)).grownBy w' (Value.slice A xs.length c).ownBlock ∧ ((Value.slice A' (xs.length + 1) c').ownBlock = (Value.slice A xs.length c).ownBlock ∨ (Value.slice A' (xs.length + 1) c').ownBlock = some (w.heap.size + 1)) := by
  obtain ⟨A', c', w', h1, h2, h3, h4, h5⟩ := row_append (h.alloc (.cells #[.int .i64 a, .int .i64 b] 43)) (ys := [(a, b)]) (sl_one w 43 (a, b) hs) (by simp; omega) (by simp; omega)
  exact ⟨A', c', w', h1, h2, fun v hv hb => h3 v hv (hb.alloc hb.size _), by have := h4.size; simp at this; omega, h4, by simpa using h5⟩

/-- What a call that tells spans answers: a slice of its own. -/
def Gives (w : World) (xs : List (Int × Int)) (e : Ending) (w' : World) : Prop := ∃ A c, e = .returned (.slice A xs.length c) ∧ Row w' w.heap.size A c xs ∧ Below w.heap.size w w'
theorem gives_of {w w' : World} {xs ys : List (Int × Int)} {A : Option Addr} {c n : Nat} (h : Row w' w.heap.size A c ys) (e : ys = xs) (hn : n = ys.length) (hb : Below w.heap.size w w') : Gives w xs (.returned (.slice A n c)) w' := by
  subst e; subst hn; exact ⟨A, c, rfl, h, hb⟩

/-- A literal slice of spans. -/
theorem spans_new (w : World) (xs : List (Int × Int)) (t : TypeId) (cs : Array Value) (hcs : cs = (cells2 xs).toArray) (hf : Fits xs) {s : Nat} (hs : w.heap.size = s) : Spans (w.alloc (.cells cs t)) (some ⟨s, 0, none⟩) xs := by
  subst hs
  refine ⟨hf, fun k hk => ?_⟩
  have e : ∀ j, (w.alloc (.cells cs t)).cell? ⟨w.heap.size, j, none⟩ = cs[j]? := fun j => cell_of_row _ _ _ _ t (0, 0) (heap_alloc_new w _)
  obtain ⟨g1, g2⟩ := cells2_get xs k hk
  refine ⟨_, _, rfl, by simp, ?_, ?_⟩
  · rw [Nat.zero_add, e, hcs]; simpa using g1
  · rw [Nat.zero_add, e, hcs]; simpa using g2
end Go.Proofs.YtghfhoodbiiciaaGreat

namespace Go.Proofs.YtghfhoodbiiciaaGreat
open Go.RowKit
set_option linter.unusedVariables false

theorem allTime_any (w : World) : Calls Tryz.prog 75 #[] w fun e w' => e = .returned (.agg #[.int .i64 0, .int .i64 32054400]) ∧ Below w.heap.size w w' := by
  go_enter Tryz.func75, Tryz.ntmps75
  go_wp2
  refine bodyPost_ret (v := .agg #[.int .i64 0, .int .i64 32054400]) (by simp [results, Tryz.results75, go_sem]) rfl ⟨rfl, ?_⟩
  (repeat' (first | with_reducible exact Below.refl _ _ | with_reducible assumption | with_reducible refine bel_alloc ?_ _ | with_reducible refine bel_set ?_ ?_ _ | with_reducible refine below_drewN ?_ _ | with_reducible refine below_drew ?_ | (simp; done) | (simp; omega) | omega))

theorem common_any (a b c d : Int) (w : World) : Calls Tryz.prog 74 #[.agg #[.int .i64 a, .int .i64 b], .agg #[.int .i64 c, .int .i64 d]] w fun e w' => e = .returned (.agg #[.int .i64 (max a c), .int .i64 (min b d)]) ∧ Below w.heap.size w w' := by
  go_enter Tryz.func74, Tryz.ntmps74
  go_wp2
  refine bodyPost_ret (v := .agg #[.int .i64 (max a c), .int .i64 (min b d)]) (by simp [results, Tryz.results74, go_sem]) rfl ⟨rfl, ?_⟩
  (repeat' (first | with_reducible exact Below.refl _ _ | with_reducible assumption | with_reducible refine bel_alloc ?_ _ | with_reducible refine bel_set ?_ ?_ _ | with_reducible refine below_drewN ?_ _ | with_reducible refine below_drew ?_ | (simp; done) | (simp; omega) | omega))

theorem allTime_at (w : World) : Calls Tryz.prog 75 #[] w fun e w' => e = .returned (.agg #[.int .i64 0, .int .i64 32054400]) ∧ w' = w.alloc (.cells #[.int .i64 0, .int .i64 32054400] 43) := by
  go_enter Tryz.func75, Tryz.ntmps75
  go_wp2
  exact bodyPost_ret (v := .agg #[.int .i64 0, .int .i64 32054400]) (by simp [results, Tryz.results75, go_sem]) rfl ⟨rfl, rfl⟩
theorem common_at (a b c d : Int) (w : World) : Calls Tryz.prog 74 #[.agg #[.int .i64 a, .int .i64 b], .agg #[.int .i64 c, .int .i64 d]] w fun e w' => e = .returned (.agg #[.int .i64 (max a c), .int .i64 (min b d)]) ∧
    w' = ((w.alloc (.cells #[.int .i64 a, .int .i64 b] 43)).alloc (.cells #[.int .i64 c, .int .i64 d] 43)).alloc (.cells #[.int .i64 (max a c), .int .i64 (min b d)] 43) := by
  go_enter Tryz.func74, Tryz.ntmps74
  go_wp2
  exact bodyPost_ret (v := .agg #[.int .i64 (max a c), .int .i64 (min b d)]) (by simp [results, Tryz.results74, go_sem]) rfl ⟨rfl, rfl⟩

theorem cmp_any (x y : Int) (w : World) : Calls Tryz.prog 78 #[.int .i64 x, .int .i64 y] w fun e w' => e = .returned (.int .i64 (if x < y then -1 else if y < x then 1 else 0)) ∧ w = w' := by
  go_enter Tryz.func78, Tryz.ntmps78
  go_wp2
  all_goals
    go_ret
    refine ⟨ret_one ?_, rfl⟩
    first | rfl | (split <;> first | omega | (split <;> omega))

def cmpF (x y : Int × Int) : Int := if x.1 < y.1 then -1 else if y.1 < x.1 then 1 else 0
def enc2 (x : Int × Int) : List Value := [.int .i64 x.1, .int .i64 x.2]

theorem rise1_any (x y : Int × Int) (w : World) : Calls Tryz.prog 77 #[.agg #[.int .i64 x.1, .int .i64 x.2], .agg #[.int .i64 y.1, .int .i64 y.2]] w fun e w' => e = .returned (.int .i64 (cmpF x y)) ∧ ∃ q os', w' = Sort.grow (w.drewN q) os' := by
  have hcon := fun W' => cmp_any x.1 y.1 W'
  unfold cmpF
  generalize (if x.1 < y.1 then (-1 : Int) else if y.1 < x.1 then 1 else 0) = r at hcon ⊢
  go_enter Tryz.func77, Tryz.ntmps77
  go_wp2_with (go_at_call 78; refine (hcon _).mono ?_; rintro e w' ⟨rfl, rfl⟩)
  go_ret
  exact ⟨rfl, 0, _, by rw [Sort.alloc_eq_grow, Sort.alloc_eq_grow, Sort.grow_grow]; rfl⟩

theorem lt_cmpF (x y : Int × Int) : ltOf cmpF x y = decide (x.1 < y.1) := by
  unfold ltOf cmpF
  by_cases h1 : x.1 < y.1
  · simp [h1]
  · by_cases h2 : y.1 < x.1 <;> simp [h1, h2]
theorem swo_cmpF : Sort.SWO (ltOf cmpF) where
  irrefl x := by rw [lt_cmpF]; simp
  trans x y z h1 h2 := by rw [lt_cmpF] at *; simp at *; omega
  ntrans x y z h1 h2 := by rw [lt_cmpF] at *; simp at *; omega
end Go.Proofs.YtghfhoodbiiciaaGreat

namespace Go.Proofs.YtghfhoodbiiciaaGreat
open Go.RowKit
set_option linter.unusedVariables false

theorem below_sort {a w : World} {blk off n : Nat} {d : Array (Int × Int)} {os : Array Obj} (h : Below a.heap.size a w) (hb : a.heap.size ≤ blk) : Below a.heap.size a (sortWorldK enc2 2 w blk off n d os) := by
  refine ⟨h.os, h.tape, h.output, Nat.le_trans h.size (size_sortWorldK_c enc2 2 w blk off n d os), fun k hk => ?_⟩
  have hs := h.size
  rw [← h.block k hk]
  show (Sort.grow _ os).heap[k]? = _
  rw [Sort.heap_grow_old _ _ (by rw [show (Sort.putRowK enc2 2 (Sort.ahead w n) blk off d).heap.size = w.heap.size by simp [Sort.putRowK, Sort.putRow, Sort.mapBlock, Sort.ahead]]; omega)]
  show (w.heap.modify blk _)[k]? = _
  rw [Array.getElem?_modify, if_neg (by omega)]

theorem spans_holds {w : World} {blk : Nat} {d : Array (Int × Int)} (h : Sort.HoldsK enc2 2 w blk 0 d) (hb : blk < w.heap.size) (hf : Fits d.toList) : Spans w (some ⟨blk, 0, none⟩) d.toList := by
  refine ⟨hf, fun k hk => ⟨blk, 0, rfl, hb, ?_, ?_⟩⟩
  · have hk' : k < d.size := by simpa using hk
    have := (h.cell (c := 0) hk' (by omega)).1
    simpa [enc2, List.getD, hk', getElem!_pos] using this
  · have hk' : k < d.size := by simpa using hk
    have := (h.cell (c := 1) hk' (by omega)).1
    simpa [enc2, List.getD, hk', getElem!_pos] using this
theorem row_holds {w : World} {base g c : Nat} {xs : List (Int × Int)} (h : Row w base (some ⟨g, 0, none⟩) c xs) : Sort.HoldsK enc2 2 w g 0 xs.toArray := by
  intro j hj
  rw [Sort.size_flatK] at hj
  rw [Sort.get_flatK _ _ _ _ hj]
  have hj' : j < xs.length * 2 := by simpa using hj
  obtain ⟨h1, h2⟩ := h.cellAt (k := j / 2) (by omega)
  refine ⟨?_, h.frozenAt _⟩
  have hd : j / 2 < xs.length := by omega
  rw [Nat.zero_add]
  rcases Nat.mod_two_eq_zero_or_one j with m | m
  · rw [show j / 2 * 2 = j by omega] at h1
    rw [h1, m]
    simp [enc2, List.getD, hd]
  · rw [show j / 2 * 2 + 1 = j by omega] at h2
    rw [h2, m]
    simp [enc2, List.getD, hd]

theorem sort_some (g c base : Nat) (xs : List (Int × Int)) (w : World) (h : Row w base (some ⟨g, 0, none⟩) c xs) (hf : Fits xs) (hl : xs.length ≤ 1000000000) :
    Calls Tryz.prog 76 #[.slice (some ⟨g, 0, none⟩) xs.length c, .func (.func 77) #[] #[]] w fun e w' => e = .returned (.tuple #[]) ∧ ∃ ys : List (Int × Int), ys.Perm xs ∧ ys.Pairwise (fun x y => x.1 ≤ y.1) ∧ Spans w' (some ⟨g, 0, none⟩) ys ∧ (∀ v : World, v.heap.size ≤ base → Below v.heap.size v w → Below v.heap.size v w') := by
  have eg : ∀ args w, (callFunc 77 args).run Tryz.prog w = .ok (.enter 77 args) w := enters_of Tryz.func77 (by kernel_rfl) rfl
  have hb : base ≤ g ∧ g < w.heap.size := h.lt _ rfl
  have hH := row_holds h
  have hcon := AnyQ.slices_SortFunc Tryz.sortSp 2 Tryz.isAgg43 Tryz.sizeOf43 enc2 (fun _ => rfl) (fun x v hv => by simp [enc2] at hv; rcases hv with rfl | rfl <;> rfl) cmpF swo_cmpF 77 #[] g 0 c xs.toArray w eg (fun _ _ _ _ x y => rise1_any x y _) hH hb.2 (by simp; omega)
  change Calls Tryz.prog 76 _ _ _ at hcon
  simp only [List.size_toArray] at hcon
  refine hcon.mono ?_
  rintro e w' ⟨rfl, d, n, os, hp, hs, rfl⟩
  obtain ⟨p1, p2, p3⟩ := hp
  have hsz : d.size = xs.length := by simpa using p1
  have hperm : d.toList.Perm xs := by
    have e1 : d.extract 0 xs.length = d := by rw [← hsz]; simp
    have e2 : xs.toArray.extract 0 xs.length = xs.toArray := by simp
    rw [e1, e2] at p3
    exact p3
  refine ⟨rfl, d.toList, hperm, ?_, ?_, fun v hv hbv => below_sort hbv (by omega)⟩
  · rw [List.pairwise_iff_getElem]
    intro i j hi hj hij
    have hi' : i < d.size := by simpa using hi
    have hj' : j < d.size := by simpa using hj
    have := hs i j (Nat.zero_le _) hij (by omega)
    rw [lt_cmpF, getElem!_pos d j hj', getElem!_pos d i hi'] at this
    simp at this
    simpa using this
  · exact spans_holds (holdsK_sortWorldK_c enc2 2 w g 0 xs.toArray d n os hH hb.2 (by simpa using hsz)) (Nat.lt_of_lt_of_le hb.2 (size_sortWorldK_c enc2 2 w g 0 n d os)) (fun x hx => hf x (hperm.mem_iff.1 hx))

theorem len_zero (w : World) : Calls Tryz.prog 100 #[.int .u64 0] w fun e w' => e = .returned (.int .i64 0) ∧ w = w' := by
  have h := Any.bits_Len (SlLaysF0.n15.bits (P := Tryz.prog) (ρ := Tryz.sortSp_ren) { Tryz.sortSp with }) 0 w (by omega) (by omega)
  change Calls Tryz.prog 100 _ _ _ at h
  refine h.mono ?_
  rintro e w' ⟨rfl, rfl⟩
  exact ⟨rfl, rfl⟩
set_option maxHeartbeats 2000000 in
theorem ins_none (p : Option Addr) (cap : Nat) (fv : Value) (w : World) :
    Calls Tryz.prog 111 #[.slice p 0 cap, .int .i64 0, .int .i64 0, fv] w fun e w' => e = .returned (.tuple #[]) ∧ w = w' := by
  go_enter Tryz.func111, Tryz.ntmps111
  go_wp2
  refine wp_loop_rounds 1 ?_
  rw [rounds_succ]
  go_wp2
  go_end0
  exact ⟨rfl, rfl⟩
set_option maxHeartbeats 2000000 in
theorem pdq_none (p : Option Addr) (cap : Nat) (lim : Int) (fv : Value) (w : World) :
    Calls Tryz.prog 99 #[.slice p 0 cap, .int .i64 0, .int .i64 0, .int .i64 lim, fv] w fun e w' => e = .returned (.tuple #[]) ∧ w = w' := by
  go_enter Tryz.func99, Tryz.ntmps99
  go_wp2
  refine wp_loop_rounds 1 ?_
  rw [rounds_succ]
  go_wp2_with (go_at_call 111; refine (ins_none p cap fv _).mono ?_; rintro e w' ⟨rfl, rfl⟩)
  (try simp only [Exit.inBlock, Exit.then]); refine bodyPost_ret (results_none rfl _ _ _) rfl ?_
  exact ⟨rfl, rfl⟩
theorem sort_none (p : Option Addr) (cap : Nat) (fv : Value) (w : World) :
    Calls Tryz.prog 76 #[.slice p 0 cap, fv] w fun e w' => e = .returned (.tuple #[]) ∧ w = w' := by
  go_enter Tryz.func76, Tryz.ntmps76
  go_wp2_with (first | (go_at_call 100; refine (len_zero _).mono ?_; rintro e w' ⟨rfl, rfl⟩) | (go_at_call 99; refine (pdq_none p cap _ fv _).mono ?_; rintro e w' ⟨rfl, rfl⟩))
  go_end0
  exact ⟨rfl, rfl⟩

/-- slices.SortFunc, at every slice of the call's own. -/
theorem sort_any (A : Option Addr) (c base : Nat) (xs : List (Int × Int)) (w : World) (h : Row w base A c xs) (hf : Fits xs) (hl : xs.length ≤ 1000000000) :
    Calls Tryz.prog 76 #[.slice A xs.length c, .func (.func 77) #[] #[]] w fun e w' => e = .returned (.tuple #[]) ∧ ∃ ys : List (Int × Int), ys.Perm xs ∧ ys.Pairwise (fun x y => x.1 ≤ y.1) ∧ Spans w' A ys ∧ (∀ v : World, v.heap.size ≤ base → Below v.heap.size v w → Below v.heap.size v w') := by
  rcases h.forms with ⟨rfl, rfl, rfl⟩ | ⟨g, rfl, _⟩
  · refine (sort_none none 0 _ w).mono ?_
    rintro e w' ⟨rfl, rfl⟩
    exact ⟨rfl, [], List.Perm.nil, List.Pairwise.nil, Spans.nil _ _, fun _ _ h => h⟩
  · exact sort_some g c base xs w h hf hl
end Go.Proofs.YtghfhoodbiiciaaGreat

namespace Go.Proofs.YtghfhoodbiiciaaGreat
open Go.RowKit
set_option linter.unusedVariables false

theorem ret_slice {A : Option Addr} {a b c : Nat} (h : a = b) : Ending.returned (.slice A a c) = .returned (.slice A b c) := by rw [h]
/-- What a span has of all time, if that is anything. -/
def clip (s : Int × Int) : List (Int × Int) := if max s.1 0 < min s.2 32054400 then [(max s.1 0, min s.2 32054400)] else []
def keptL (l : List (Int × Int)) : List (Int × Int) := l.flatMap clip
theorem keptL_snoc (xs : List (Int × Int)) (k : Nat) (h : k < xs.length) : keptL (xs.take (k + 1)) = keptL (xs.take k) ++ clip (xs.getD k (0, 0)) := by
  unfold keptL
  rw [List.take_succ_eq_append_getElem h, List.flatMap_append]
  simp [List.getD, h]
theorem clip_len (s : Int × Int) : (clip s).length ≤ 1 := by unfold clip; split <;> simp
theorem keptL_len : ∀ l : List (Int × Int), (keptL l).length ≤ l.length
  | [] => by simp [keptL]
  | s :: l => by
    have := keptL_len l
    have := clip_len s
    simp only [keptL, List.flatMap_cons, List.length_append, List.length_cons] at *
    omega
theorem clip_ok (s x : Int × Int) (h : x ∈ clip s) : 0 ≤ x.1 ∧ x.1 < x.2 ∧ x.2 ≤ 32054400 := by
  unfold clip at h
  split at h
  · rw [List.mem_singleton.1 h]; simp only []; omega
  · cases h
theorem keptL_ok (l : List (Int × Int)) (x : Int × Int) (h : x ∈ keptL l) : 0 ≤ x.1 ∧ x.1 < x.2 ∧ x.2 ≤ 32054400 := by
  unfold keptL at h
  obtain ⟨s, _, hs⟩ := List.mem_flatMap.1 h
  exact clip_ok s x hs
theorem clip_in (s : Int × Int) (t : Int) : In (clip s) t ↔ 0 ≤ t ∧ t < 32054400 ∧ s.1 ≤ t ∧ t < s.2 := by
  unfold clip
  split
  · rw [in_one]; simp only []; omega
  · simp only [in_nil, false_iff]; omega
theorem keptL_in : ∀ (l : List (Int × Int)) (t : Int), In (keptL l) t ↔ 0 ≤ t ∧ t < 32054400 ∧ In l t
  | [], t => by simp [keptL, in_nil]
  | s :: l, t => by
    have e : keptL (s :: l) = clip s ++ keptL l := rfl
    rw [e, in_append, clip_in, keptL_in l t, in_cons]
    constructor
    · rintro (⟨a, b, c⟩ | ⟨a, b, c⟩)
      · exact ⟨a, b, .inl c⟩
      · exact ⟨a, b, .inr c⟩
    · rintro ⟨a, b, c | c⟩
      · exact .inl ⟨a, b, c⟩
      · exact .inr ⟨a, b, c⟩
theorem keptL_fits (l : List (Int × Int)) : Fits (keptL l) := fun x hx => by
  have := keptL_ok l x hx
  exact ⟨⟨by omega, by omega⟩, ⟨by omega, by omega⟩⟩

/-- The spans ys rise, lie within all time, and have xs's seconds. -/
def Rises (xs ys : List (Int × Int)) : Prop := ys.Pairwise (fun x y => x.1 ≤ y.1) ∧ (∀ y ∈ ys, 0 ≤ y.1 ∧ y.1 < y.2 ∧ y.2 ≤ 32054400) ∧ ys.length ≤ xs.length ∧ ∀ t, In ys t ↔ 0 ≤ t ∧ t < 32054400 ∧ In xs t
theorem rises_kept {xs ys : List (Int × Int)} (hp : ys.Perm (keptL xs)) (hs : ys.Pairwise (fun x y => x.1 ≤ y.1)) : Rises xs ys :=
  ⟨hs, fun y hy => keptL_ok xs y (hp.mem_iff.1 hy), by rw [hp.length_eq]; exact keptL_len xs, fun t => by
    rw [← keptL_in]
    constructor
    · rintro ⟨s, h1, h2⟩; exact ⟨s, hp.mem_iff.1 h1, h2⟩
    · rintro ⟨s, h1, h2⟩; exact ⟨s, hp.mem_iff.2 h1, h2⟩⟩

def Told (w : World) (xs : List (Int × Int)) (e : Ending) (w' : World) : Prop := ∃ B d ys, e = .returned (.slice B ys.length d) ∧ Rises xs ys ∧ Spans w' B ys ∧ Below w.heap.size w w'

theorem rising_any (A : Option Addr) (cap : Nat) (xs : List (Int × Int)) (w : World) (hx : Spans w A xs) (hl : xs.length ≤ 100000000) :
    Calls Tryz.prog 43 #[.slice A xs.length cap] w (Told w xs) := by
  have HX := Lib.hid hx
  clear hx
  go_enter Tryz.func43, Tryz.ntmps43
  go_wp2
  go_loopw [3, 8] (fun s i wr => ∃ (k : Nat) (B : Option Addr) (d : Nat) (L : List (Int × Int)), k ≤ xs.length ∧ i = .int .i64 k ∧ s = .slice B L.length d ∧ L.length ≤ k ∧ Hid (L = keptL (xs.take k)) ∧ Row wr w.heap.size B d L ∧ Below w.heap.size w wr) (fun _ i _ => xs.length - (intOf i).toNat)
  case atStart => exact ⟨0, none, 0, [], Nat.zero_le _, rfl, rfl, Nat.le_refl _, rfl, Row.nil _ _, Below.refl _ _⟩
  case round =>
    obtain ⟨k, B, d, L, hk, rfl, rfl, hnk, hn, hr, hbw⟩ := hrel
    by_cases hlt : k < xs.length
    · obtain ⟨b, off, rfl, hblt, c1, c2⟩ := (HX.out.below hbw).2 k hlt
      have HF := HX.out.1.at hlt
      have HS := Lib.hid (keptL_snoc xs k hlt)
      have hne : ∀ g, B = some g → g.block ≠ wr.heap.size := fun g hg => by have := (hr.lt g hg).2; omega
      have HN := Lib.hid hne
      have hws := hbw.size
      clear hne
      generalize xs.getD k (0, 0) = z at *
      obtain ⟨p, q⟩ := z
      simp only [] at *
      go_wp2
      go_region_with (first
        | (go_at_call 75; refine (allTime_any _).mono ?_; rintro e w1 ⟨rfl, hb1⟩; have R1 : Has w1 wr.heap.size #[.int .i64 p, .int .i64 q] := Has.below (show Has _ _ _ by (repeat' (first | with_reducible assumption | ((with_reducible refine Has.new _ _ _ ?_); (first | (with_reducible rfl) | (simp; done))) | with_reducible refine Has.alloc ?_ _ | with_reducible refine Has.drewN ?_ _ | with_reducible refine Has.drew ?_))) hb1; have hr1 := Row.below (show Row _ w.heap.size B d L by (repeat' (first | with_reducible assumption | with_reducible refine Row.alloc ?_ _ | with_reducible refine Row.drewN ?_ _ | with_reducible refine Row.drew ?_))) hb1; obtain ⟨e0, e1, e2, e3⟩ := R1.two; have z1 := R1.size; replace hb1 := bel_on (show Below w.heap.size w _ by (repeat' (first | with_reducible exact Below.refl _ _ | with_reducible assumption | with_reducible refine bel_alloc ?_ _ | with_reducible refine bel_set ?_ ?_ _ | with_reducible refine below_drewN ?_ _ | with_reducible refine below_drew ?_ | (simp; done) | (simp; omega) | omega))) hb1)
        | (go_at_call 74; refine (common_any _ _ _ _ _).mono ?_; rintro e w2 ⟨rfl, hb2⟩; have R2 : Has w2 wr.heap.size #[.int .i64 p, .int .i64 q] := Has.below (show Has _ _ _ by (repeat' (first | with_reducible assumption | ((with_reducible refine Has.new _ _ _ ?_); (first | (with_reducible rfl) | (simp; done))) | with_reducible refine Has.alloc ?_ _ | with_reducible refine Has.drewN ?_ _ | with_reducible refine Has.drew ?_))) hb2; have hr2 := Row.below (show Row _ w.heap.size B d L by (repeat' (first | with_reducible assumption | with_reducible refine Row.alloc ?_ _ | with_reducible refine Row.drewN ?_ _ | with_reducible refine Row.drew ?_))) hb2; obtain ⟨e4, e5, e6, e7⟩ := R2.two; have z2 := R2.size; replace hb2 := bel_on (show Below w.heap.size w _ by (repeat' (first | with_reducible exact Below.refl _ _ | with_reducible assumption | with_reducible refine bel_alloc ?_ _ | with_reducible refine bel_set ?_ ?_ _ | with_reducible refine below_drewN ?_ _ | with_reducible refine below_drew ?_ | (simp; done) | (simp; omega) | omega))) hb2))
      all_goals
        have R3 := (R2.set 0 (.int .i64 (max p 0))).set 1 (.int .i64 (min q 32054400))
        have hr3 := (hr2.far (p := ⟨wr.heap.size, 0, none⟩) HN.out (.int .i64 (max p 0))).far (p := ⟨wr.heap.size, 1, none⟩) HN.out (.int .i64 (min q 32054400))
        have hb3 := bel_set (bel_set hb2 (p := ⟨wr.heap.size, 0, none⟩) hws (.int .i64 (max p 0))) (p := ⟨wr.heap.size, 1, none⟩) hws (.int .i64 (min q 32054400))
        clear R2 hr2 hb2 e4 e5 e6 e7 z2 R1 hr1 hb1 e0 e1 e2 e3 z1 c1 c2 hblt hr HN
        generalize (w2.setCell ⟨wr.heap.size, 0, none⟩ (.int .i64 (max p 0))).setCell ⟨wr.heap.size, 1, none⟩ (.int .i64 (min q 32054400)) = w3 at *
        replace R3 : Has w3 wr.heap.size #[.int .i64 (max p 0), .int .i64 (min q 32054400)] := R3
        obtain ⟨e0, e1, e2, e3⟩ := R3.two
        have z3 := R3.size
        have hws3 := hb3.size
        by_cases hc : max p 0 < min q 32054400
        · have HC := Lib.hid (show clip (p, q) = [(max p 0, min q 32054400)] by unfold clip; rw [if_pos hc])
          obtain ⟨B', d', w4, hrun, hr4, hb4, hz4, _, _⟩ := row_push hr3 (max p 0) (min q 32054400) (by omega) hws3 rfl
          have HR := Lib.hid hrun
          have hb5 := hb4 w (Nat.le_refl _) hb3
          clear hrun hb4
          go_wp2_with (at_builtin; refine wpList_append_run HR.out rfl rfl rfl rfl ?_)
          go_roundw
          case rel => exact ⟨k + 1, B', d', _, by omega, by go_num, by rw [List.length_append]; rfl, by simp; omega, by show _ = _; rw [HS.out, HC.out, hn.out], hr4, hb5⟩
          case measure => simp [intOf]; omega
        · have HC := Lib.hid (show clip (p, q) = [] by unfold clip; rw [if_neg hc])
          go_wp2
          go_roundw
          case rel => exact ⟨k + 1, B, d, L, by omega, by go_num, rfl, by omega, by show _ = _; rw [HS.out, HC.out, hn.out, List.append_nil], hr3, hb3⟩
          case measure => simp [intOf]; omega
    · obtain rfl : k = xs.length := by omega
      have hn' := hn.out
      rw [List.take_length] at hn'
      have HN := Lib.hid hn'
      have hfit : Fits L := by rw [hn']; exact keptL_fits xs
      clear hn hn'
      go_wp2_with fail
      refine (sort_any B d w.heap.size L wr hr hfit (by omega)).mono ?_
      rintro e w2 ⟨rfl, ys, hp, hs, hsp, hb⟩
      have HB := Lib.hid (hb w (Nat.le_refl _) hbw)
      have HP := Lib.hid hp
      have HQ := Lib.hid hs
      have hlen : L.length = ys.length := hp.length_eq.symm
      have HL := Lib.hid hlen
      clear hb hp hs hlen
      go_wp2
      go_ret
      exact ⟨B, d, ys, ret_slice HL.out, rises_kept (by rw [← HN.out]; exact HP.out) HQ.out, hsp, HB.out⟩
end Go.Proofs.YtghfhoodbiiciaaGreat

namespace Go.Proofs.YtghfhoodbiiciaaGreat
open Go.RowKit
set_option linter.unusedVariables false
/-- A slot that holds a value known. -/
def Fix (v x : Value) (w : World) : Prop := v = x
theorem Fix.below {v x : Value} {w w' : World} (h : Fix v x w) (_ : Below w.heap.size w w') : Fix v x w' := h

section
variable {P : Program} {ops : Array Oper} {Q : Exit → Act → World → Prop} {md : Region.Mode} {S : World → Prop}

/-- What the word I asks of one operation. -/
def StepAt (P : Program) (md : Region.Mode) (ops : Array Oper) (Q : Exit → Act → World → Prop) (I : Array Bool → Act → World → Prop) (i : Nat) (o : Oper) : Prop :=
  ∀ listed a w, I listed a w → listed.getD i true = false → (∀ e ∈ o.after.toList, Region.binds md e = true → listed.getD e.on false = true) →
    ∀ K' : Act → World → Prop, Shut (∀ a w, I (listed.setIfInBounds i true) a w → K' a w) → if Region.wanted o (yielded ops a.tmps) = true then Oper.wp P o a w K' Q else K' (a.put o.dst undef) w
def StepsFrom (P : Program) (md : Region.Mode) (ops : Array Oper) (Q : Exit → Act → World → Prop) (I : Array Bool → Act → World → Prop) (k : Nat) (os : List Oper) : Prop :=
  ∀ j o, os[j]? = some o → StepAt P md ops Q I (k + j) o
theorem StepsFrom.nil {I : Array Bool → Act → World → Prop} {k : Nat} : StepsFrom P md ops Q I k [] := fun j o h => by simp at h
theorem StepsFrom.cons {I : Array Bool → Act → World → Prop} {k : Nat} {o : Oper} {os : List Oper} (h : StepAt P md ops Q I k o) (hs : StepsFrom P md ops Q I (k + 1) os) : StepsFrom P md ops Q I k (o :: os) := fun j p hp => by
  rcases j with _ | j
  · simp at hp; subst hp; exact h
  · have := hs j p (by simpa using hp)
    rwa [Nat.add_right_comm] at this

end
end Go.Proofs.YtghfhoodbiiciaaGreat
