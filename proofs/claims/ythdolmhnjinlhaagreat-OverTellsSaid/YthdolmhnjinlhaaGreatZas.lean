/-
  Package night: the hours by night of any day, and how they are put on a day.
  Package breaks: what stands near a day, found by the library's binary search; slices of spans cut.
  Arguments that hold spans: a slice of them, as the walks are told of it.
-/
import Derived.Test.YthdolmhnjinlhaaGreatZaq
import Derived.Test.YthdolmhnjinlhaaGreatZal
import Derived.Test.YthdolmhnjinlhaaGreatZaa
import Derived.Test.YthdolmhnjinlhaaGreatZab
import Derived.Test.YthdolmhnjinlhaaGreatZae
import Derived.Test.YthdolmhnjinlhaaGreatZar
import Derived.Test.YthdolmhnjinlhaaGreatZag
import Derived.Test.YthdolmhnjinlhaaGreatZak
import Derived.Laws.Slices
import Derived.BigQuiet
import Derived.Deep.QuietTactic
import Derived.Deep.SlicePairs
import Derived.Lib.SmallJoins
import Derived.ChangeArms
import Derived.OpenShut
namespace Go.Proofs.YthdolmhnjinlhaaGreat
open Go.RowKit
set_option linter.unusedVariables false
set_option linter.unusedSimpArgs false
set_option maxRecDepth 20000

/-- A literal slice of spans is a row of the call's own. -/
theorem row_new (w : World) (xs : List (Int × Int)) (cs : Array Value) (hcs : cs = (cells2 xs).toArray) (hl : xs.length ≤ 1000) {n : Nat} (hn : n = xs.length) {base : Nat} (hb : base ≤ w.heap.size) {s : Nat} (hs : w.heap.size = s) :
    Row (w.alloc (.cells cs 42)) base (some ⟨s, 0, none⟩) n xs := by
  subst hs
  subst hn
  subst hcs
  have := own_new w 42 2 xs.length (cells2 xs).toArray (by simp [cells2_len]) (by simp only [maxLen]; omega)
  have h2 : Row (w.alloc (.cells (cells2 xs).toArray 42)) w.heap.size (some ⟨w.heap.size, 0, none⟩) xs.length xs := this
  exact h2.mono hb
/-! ### A span more -/
theorem row_one {w : World} {base c : Nat} {A : Option Addr} {xs : List (Int × Int)} (h : Row w base A c xs) {n : Nat} (hn : xs.length = n) (a b : Int) (hm : n ≤ 1000000) (hbase : base ≤ w.heap.size) {s : Nat} (hs : w.heap.size = s) :
    ∃ A' c' w', (Builtin.append_ #[31, 31] 31 #[.slice A n c, .slice (some ⟨s, 0, none⟩) 1 1]).run Tryz.prog (w.alloc (.cells #[.int .i64 a, .int .i64 b] 42)) = .ok (.slice A' (n + 1) c') w' ∧ Row w' base A' c' (xs ++ [(a, b)]) ∧ Kept (fun b => b < base) w w' := by
  subst hn
  obtain ⟨A', c', w', hr, ho, _, hsz, hg, hl⟩ := row_push h a b (by omega) hbase hs
  refine ⟨A', c', w', hr, ho, ⟨hg.os, hg.tape, hg.output, hsz, fun k hk => ?_⟩⟩
  rw [hg.block k (by simp; omega) ?_]
  · exact Below.heap_alloc w _ k (by omega)
  · intro e
    cases A with
    | none => simp [Value.ownBlock] at e
    | some a0 =>
      simp [Value.ownBlock] at e
      have := (h.lt a0 rfl).1
      omega
theorem Kept.setn {F : Nat → Prop} {a w : World} (h : Kept F a w) {p : Addr} (hp : ¬ F p.block) (v : Value) : Kept F a (w.setCell p v) := by
  refine ⟨h.os, h.tape, h.output, ?_, fun b hb => ?_⟩
  · have := Kept.size h
    simp [World.setCell]
    exact this
  · rw [Below.heap_setCell w p v b (by rintro rfl; exact hp hb)]
    exact h.block b hb
theorem wrapn_id {a : Int} (h0 : -9223372036854775808 ≤ a) (h1 : a < 9223372036854775808) : IntKind.i64.wrap a = a := by
  simp [IntKind.wrap, IntKind.bits, IntKind.signed]
  split <;> omega
theorem spans_kept {F : Nat → Prop} {w w' : World} {A : Option Addr} {xs : List (Int × Int)} (h : Spans w A xs) (k : Kept F w w') (hF : ∀ g, A = some g → F g.block) : Spans w' A xs := by
  refine ⟨h.1, fun i hi => ?_⟩
  obtain ⟨b, off, rfl, h0, h1, h2⟩ := h.2 i hi
  have e := k.block b (hF _ rfl)
  exact ⟨b, off, rfl, Nat.lt_of_lt_of_le h0 (Kept.size k), (World.cell?_of_block e).trans h1, (World.cell?_of_block e).trans h2⟩

end Go.Proofs.YthdolmhnjinlhaaGreat

namespace Go.Proofs.YthdolmhnjinlhaaGreat
open Go.RowKit
set_option linter.unusedVariables false
set_option linter.unusedSimpArgs false
set_option maxRecDepth 20000

/-! ### Slices of spans cut -/
theorem sp_size (w : World) : (sizeOf (Tryz.prog.elem 31)).run Tryz.prog w = .ok 2 w := by kernel_rfl
theorem cut_get {L : List (Int × Int)} {a b k : Nat} (hb : b ≤ L.length) (hk : k < b - a) : ((L.take b).drop a).getD k (0, 0) = L.getD (a + k) (0, 0) := by
  simp [List.getD, List.getElem?_drop, List.getElem?_take, show a + k < b by omega]
theorem cut_len {L : List (Int × Int)} {a b : Nat} (hb : b ≤ L.length) : ((L.take b).drop a).length = b - a := by rw [List.length_drop, List.length_take]; omega
theorem spcut {A : Option Addr} {n c : Nat} {L : List (Int × Int)} (hn : L.length = n) (hnc : n ≤ c) (hc : c ≤ 9223372036854775807) {a b : Nat} (hab : a ≤ b) (hb : b ≤ n) :
    ∃ A', (∀ w', (Instr.sliceAt 31 (.slice A n c) (some (.int .i64 (a : Int))) (some (.int .i64 (b : Int))) none).run Tryz.prog w' = .ok (.slice A' (b - a) (c - a)) w') ∧ ∀ w, Spans w A L → Spans w A' ((L.take b).drop a) := by
  have hrun : ∀ w', (Instr.sliceAt 31 (.slice A n c) (some (.int .i64 (a : Int))) (some (.int .i64 (b : Int))) none).run Tryz.prog w' = .ok (.slice (if c = a then A else A.map (·.add (a * 2))) (b - a) (c - a)) w' := by
    intro w'
    rw [run_sliceAt_slice _ _ _ _ _ _ Tryz.underlying31, run_slice_lh _ _ _ _ _ Tryz.underlying31 .i64 .i64 (a : Int) (b : Int) (by omega) (by omega) (by omega), sp_size]
    simp [sliced, Result.andThen]
  refine ⟨_, hrun, fun w h => ⟨fun x hx => h.1 x (List.mem_of_mem_take (List.mem_of_mem_drop hx)), fun k hk => ?_⟩⟩
  rw [cut_len (by omega)] at hk
  obtain ⟨g, off, rfl, h0, h1, h2⟩ := h.2 (a + k) (by omega)
  rw [cut_get (by omega) hk, if_neg (by omega)]
  refine ⟨g, off + a * 2, by rw [Option.map_some, add_none], h0, ?_, ?_⟩
  · rw [show off + a * 2 + k * 2 = off + (a + k) * 2 by omega]; exact h1
  · rw [show off + a * 2 + k * 2 + 1 = off + (a + k) * 2 + 1 by omega]; exact h2

/-! ### The library's binary search -/
/-! ### near -/
end Go.Proofs.YthdolmhnjinlhaaGreat

namespace Go.Proofs.YthdolmhnjinlhaaGreat
open Go.RowKit Go.Deep

theorem open_spans {H : Type} {enc : TypeId × Value → H} {P : Program} {w : World} {base : Nat} {spare : Nat → Bool} {held : Bool} {t e i : TypeId} {f0 f1 : Field} {fuel : Nat} {A : Option Addr} {len cap : Nat} {x : DataW H × List MemPlace}
    (ht : P.underlying t = some (.slice e)) (he : P.underlying e = some (.struct #[f0, f1])) (ce : P.cellsOf e = 2) (o0 : f0.offset = 0) (o1 : f1.offset = 1) (c0 : P.cellsOf f0.type = 1) (c1 : P.cellsOf f1.type = 1)
    (t0 : f0.type = i) (t1 : f1.type = i) (hi : P.underlying i = some (.int .i64)) (h : DataW.trod enc P w base spare held fuel t [.slice A len cap] = some x) :
    ∃ xs : List (Int × Int), xs.length = len ∧ len ≤ 9223372036854775807 ∧ Spans w A xs ∧ (A = none → cap = 0) := by
  rcases open_slice_pairs ht he ce o0 o1 c0 c1 h with ⟨hcs, _⟩ | ⟨a, len', cap', m, n, V0, V1, D0, D1, P0, P1, hcs, _, hl, hm, hmm, _, hx⟩
  · simp at hcs
    obtain ⟨rfl, rfl, rfl⟩ := hcs
    exact ⟨[], rfl, by omega, Spans.nil _ _, fun _ => rfl⟩
  · simp at hcs
    obtain ⟨rfl, rfl, rfl⟩ := hcs
    have hle : len ≤ m := by rw [hmm]; split <;> omega
    have key : ∀ k, k < len → ∃ z0 z1, V0 k = .int .i64 z0 ∧ V1 k = .int .i64 z1 ∧ Fit z0 ∧ Fit z1 := fun k hk => by
      obtain ⟨h0, h1, g0, g1⟩ := hx k (by omega)
      obtain ⟨z0, e0, _, w0⟩ := DataW.trod_int (t0 ▸ hi) g0
      obtain ⟨z1, e1, _, w1⟩ := DataW.trod_int (t1 ▸ hi) g1
      simp at e0 e1
      exact ⟨z0, z1, e0, e1, bounds_i64 w0, bounds_i64 w1⟩
    refine ⟨(List.range len).map fun i => (intOf (V0 i), intOf (V1 i)), by simp, by simp only [maxLen] at hm; omega, ⟨fun y hy => ?_, fun k hk => ?_⟩, fun h => by cases h⟩
    · simp only [List.mem_map, List.mem_range] at hy
      obtain ⟨k, hk, rfl⟩ := hy
      obtain ⟨z0, z1, e0, e1, b0, b1⟩ := key k hk
      simp only [e0, e1, intOf]
      exact ⟨b0, b1⟩
    · simp at hk
      obtain ⟨h0, h1, g0, g1⟩ := hx k (by omega)
      obtain ⟨z0, z1, e0, e1, b0, b1⟩ := key k hk
      obtain ⟨b, off, sp⟩ := a
      have hsp : sp = none := by simpa [Addr.add] using World.cell?_spot (hx 0 (by omega)).1
      subst hsp
      rw [add_none] at h0 h1
      refine ⟨b, off, rfl, cell_lt h0, ?_, ?_⟩
      · rw [h0, e0]; simp [List.getD, hk, e0, intOf]
      · rw [Nat.add_assoc, h1, e1]; simp [List.getD, hk, e1, intOf]
end Go.Proofs.YthdolmhnjinlhaaGreat
