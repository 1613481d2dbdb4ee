/-
  The calls whose answers layer 11's document fixes: they are as it says; two lists of numbers that are the same.
  Package night: the hours by night of any day, and how they are put on a day.
  The calls whose answers layer 14's document fixes: they are as it says; few; what the laws are walked by.
  Slices of parts, and of flags, in memory: read, of the call's own, appended to, two at a time.
  Arguments that hold spans: a slice of them, as the walks are told of it.
-/
import Derived.Test.YtghfhoodbiiciaaZaq
import Derived.Test.YtghfhoodbiiciaaZad
import Derived.Test.YtghfhoodbiiciaaZac
import Derived.Test.YtghfhoodbiiciaaZaj
import Derived.Test.YtghfhoodbiiciaaZam
import Derived.Test.YtghfhoodbiiciaaZap
import Derived.Test.YtghfhoodbiiciaaZaf
import Derived.Deep.DeepCutAuto
import Derived.Test.YtghfhoodbiiciaaZaa
import Derived.Test.YtghfhoodbiiciaaProg
import Derived.Test.YtghfhoodbiiciaaZab
import Derived.OpenShut
import Derived.Laws.Cover1
import Derived.WalkKit
import Derived.WalkLawsBesides
import Derived.Lib.Hide
import Derived.IntWalk
import Derived.Lib.SliceRun
import Derived.WalkMore
import Derived.ScopeJumps
import Derived.Laws.Slices
import Derived.RegionTactic
import Derived.Test.YtghfhoodbiiciaaZae
import Derived.Shelf.SlSortCmp.KitK
import Derived.Sort.LotA
import Derived.Sort.WalkB2
import Derived.Sort.WalkB12
import Derived.Deep.LoopGhost
import Derived.StillTailTactics
import Derived.Deep.SlicePairs
import Derived.Lib.SmallJoins
import Derived.ChangeArms
namespace Go.Proofs.Ytghfhoodbiiciaa
open Go.RowKit
set_option linter.unusedVariables false
set_option linter.unusedSimpArgs false
set_option maxRecDepth 20000

/-- In a walk: a whole setup is read. -/
theorem wpList_load_sp {ops : Array Oper} {rest : List Oper} {o : Oper} {a : Act} {w : World} {Q : Exit → Act → World → Prop} (hgd : Region.wanted o (yielded ops a.tmps) = true) (x : Operand) (ho : o.op = .load 30 x)
    (g : Nat) (hx : a.eval x = .pointer (some ⟨g, 0, none⟩)) (cs : Array Value) (hg : Has w g cs) (hs : cs.size = 23)
    (h : wpList Try.prog ops Q rest (a.put o.dst (.agg cs)) w) : wpList Try.prog ops Q (o :: rest) a w := by
  refine wpList_step fun K hK => ?_
  rw [if_pos hgd]
  obtain ⟨t, hg⟩ := hg
  exact wp_load_row _ x ho g hx t cs (0, 0) _ hg Try.underlying30 rfl (by rw [hs]; kernel_rfl) (hK _ _ h)
theorem setV_pun {s : SetP} {A1 A2 A3 A4 A5 A6 : Option Addr} {c1 c2 c3 c4 c5 c6 : Nat} {cs : Array Value} (h : setV s A1 A2 A3 A4 A5 A6 c1 c2 c3 c4 c5 c6 = .agg cs) : cs.size = 23 ∧ cs[8]? = some (.int .i64 s.unit) ∧ cs[9]? = some (.int .i64 s.cap) := by
  unfold setV at h
  injection h with h
  subst h
  exact ⟨rfl, rfl, rfl⟩
end Go.Proofs.Ytghfhoodbiiciaa

namespace Go.Proofs.Ytghfhoodbiiciaa
open Go.RowKit
set_option linter.unusedVariables false
set_option linter.unusedSimpArgs false
set_option maxRecDepth 20000

theorem setC_night {w : World} {s : SetP} {cs : Array Value} (h : SetC w s cs) : cs[16]? = some (.int .i64 s.nfrom) ∧ cs[17]? = some (.int .i64 s.nto) := by
  obtain ⟨A1, A2, A3, A4, A5, A6, c1, c2, c3, c4, c5, c6, h1, h2⟩ := h
  unfold setV at h1
  injection h1 with h1
  subst h1
  exact ⟨rfl, rfl⟩
theorem nw_of {s : SetP} {b : Bool} (hb : checkB s = b) : NW b s.nfrom s.nto := fun h => by
  have := check_iff.1 (hb.trans h)
  exact ⟨this.nfrom, this.nto⟩
/-- A literal slice of spans is a row of the call's own. -/
theorem row_new (w : World) (xs : List (Int × Int)) (cs : Array Value) (hcs : cs = (cells2 xs).toArray) (hl : xs.length ≤ 1000) {n : Nat} (hn : n = xs.length) {base : Nat} (hb : base ≤ w.heap.size) {s : Nat} (hs : w.heap.size = s) :
    Row (w.alloc (.cells cs 50)) base (some ⟨s, 0, none⟩) n xs := by
  subst hs
  subst hn
  subst hcs
  have := own_new w 50 2 xs.length (cells2 xs).toArray (by simp [cells2_len]) (by simp only [maxLen]; omega)
  have h2 : Row (w.alloc (.cells (cells2 xs).toArray 50)) w.heap.size (some ⟨w.heap.size, 0, none⟩) xs.length xs := this
  exact h2.mono hb
/-! ### A span more -/
theorem row_one {w : World} {base c : Nat} {A : Option Addr} {xs : List (Int × Int)} (h : Row w base A c xs) {n : Nat} (hn : xs.length = n) (a b : Int) (hm : n ≤ 1000000) (hbase : base ≤ w.heap.size) {s : Nat} (hs : w.heap.size = s) :
    ∃ A' c' w', (Builtin.append_ #[34, 34] 34 #[.slice A n c, .slice (some ⟨s, 0, none⟩) 1 1]).run Try.prog (w.alloc (.cells #[.int .i64 a, .int .i64 b] 50)) = .ok (.slice A' (n + 1) c') w' ∧ Row w' base A' c' (xs ++ [(a, b)]) ∧ Kept (fun b => b < base) w w' := by
  subst hn
  obtain ⟨A', c', w', hr, ho, _, hsz, hg, hl⟩ := row_push h a b (by omega) hbase hs
  refine ⟨A', c', w', hr, ho, ⟨hg.os, hg.tape, hg.output, hsz, fun k hk => ?_⟩⟩
  rw [hg.block k (by simp; omega) ?_]
  · exact Below.heap_alloc w _ k (by omega)
  · intro e
    cases A with
    | none => simp [Value.ownBlock] at e
    | some a0 =>
      simp [Value.ownBlock] at e
      have := (h.lt a0 rfl).1
      omega
theorem Kept.setn {F : Nat → Prop} {a w : World} (h : Kept F a w) {p : Addr} (hp : ¬ F p.block) (v : Value) : Kept F a (w.setCell p v) := by
  refine ⟨h.os, h.tape, h.output, ?_, fun b hb => ?_⟩
  · have := Kept.size h
    simp [World.setCell]
    exact this
  · rw [Below.heap_setCell w p v b (by rintro rfl; exact hp hb)]
    exact h.block b hb
theorem wrapn_id {a : Int} (h0 : -9223372036854775808 ≤ a) (h1 : a < 9223372036854775808) : IntKind.i64.wrap a = a := by
  simp [IntKind.wrap, IntKind.bits, IntKind.signed]
  split <;> omega
theorem spans_kept {F : Nat → Prop} {w w' : World} {A : Option Addr} {xs : List (Int × Int)} (h : Spans w A xs) (k : Kept F w w') (hF : ∀ g, A = some g → F g.block) : Spans w' A xs := by
  refine ⟨h.1, fun i hi => ?_⟩
  obtain ⟨b, off, rfl, h0, h1, h2⟩ := h.2 i hi
  have e := k.block b (hF _ rfl)
  exact ⟨b, off, rfl, Nat.lt_of_lt_of_le h0 (Kept.size k), (World.cell?_of_block e).trans h1, (World.cell?_of_block e).trans h2⟩

end Go.Proofs.Ytghfhoodbiiciaa

namespace Go.Proofs.Ytghfhoodbiiciaa
open Go.RowKit
set_option linter.unusedVariables false
set_option linter.unusedSimpArgs false
set_option maxRecDepth 20000

def nonC : Array Value := #[.int .i64 0, .slice none 0 0, .int .i64 0, .int .i64 0, .slice none 0 0, .slice none 0 0, .slice none 0 0, .int .i64 0, .int .i64 0, .int .i64 0, .int .i64 0, .int .i64 0, .int .i64 0,
  .int .i64 0, .int .i64 0, .int .i64 0, .int .i64 0, .int .i64 0, .slice none 0 0, .int .i64 0, .int .i64 0, .int .i64 0, .slice none 0 0]
theorem nonC_V : setV SetP.none none none none none none none 0 0 0 0 0 0 = .agg nonC := rfl
theorem non_c (w : World) : SetC w SetP.none nonC := ⟨none, none, none, none, none, none, 0, 0, 0, 0, 0, 0, nonC_V, ⟨Tab.nil_, Tab.nil_, Tab.nil_, Tab.nil_, Tab.nil_, Tab.nil_⟩⟩
theorem tab_one14 {w : World} {g : Nat} (h : Has w g #[.int .i64 1]) : Tab 1 w (some ⟨g, 0, none⟩) 1 1 ([1].map fun n => [n]) := by
  refine ⟨⟨rfl, .inr ⟨_, rfl, fun j u hu => ?_⟩⟩, rfl, by simp, by simp [In64], by omega, by omega⟩
  rw [tab_add, Nat.zero_add]
  exact h.cell j (by simpa [ints] using hu)
/-- In a drawn region: a whole setup is read. -/
theorem exec_load_sp {o : Oper} {ρ : Operand → Value} {ww : World} (x : Operand) (ho : o.op = .load 30 x) {g : Nat} (hx : ρ x = .pointer (some ⟨g, 0, none⟩)) {cs : Array Value} (hg : Has ww g cs) (hs : cs.size = 23) :
    (execOp ρ o).run Try.prog ww = .ok (.value (.agg cs)) ww := by
  obtain ⟨t, hg⟩ := hg
  unfold execOp
  simp only [ho, hx, Instr.loadAt, Instr.sureAddr, Sem.run_bind, Sem.run_pure, Result.andThen_ok, run_loadVar_row (P := Try.prog) ww g t 30 cs (0, 0) _ hg Try.underlying30 rfl (by rw [hs]; kernel_rfl)]
/-! ### few -/
end Go.Proofs.Ytghfhoodbiiciaa

namespace Go.Proofs.Ytghfhoodbiiciaa
open Go.RowKit
set_option linter.unusedVariables false
set_option linter.unusedSimpArgs false
set_option maxRecDepth 20000

/-- An append of what a slice of structs holds. -/
theorem trow_append {t e : TypeId} {k by_ : Nat} {z : Value} (ht : Try.prog.underlying t = some (.slice e)) (hinfo : (Try.prog.info? e).map (fun i => (i.zero, i.size, i.bytes)) = some (some z, k, by_)) (hz : z.cells.size = k) (hk : 0 < k) (hby : by_ ≤ 200)
    {w : World} {base n c : Nat} {A : Option Addr} {rows : Rows2} (h : TRow e k w base A n c rows) {B : Option Addr} {m d : Nat} {rows' : Rows2} (hs : Sl k w B m d (ints .i64 rows'.flatten)) (hm : n + m ≤ 100000) (hbase : base ≤ w.heap.size) {q : Nat} (hq : n + m = q) :
    ∃ A' c' w', (Builtin.append_ #[t, t] t #[.slice A n c, .slice B m d]).run Try.prog w = .ok (.slice A' q c') w' ∧ TRow e k w' base A' q c' (rows ++ rows') ∧ Kept (fun b => b < base) w w' ∧
      (∀ b, b < w.heap.size → (∀ g, A = some g → g.block ≠ b) → w'.heap[b]? = w.heap[b]?) ∧ (∀ g', A' = some g' → (∃ g, A = some g ∧ g'.block = g.block) ∨ w.heap.size ≤ g'.block) := by
  subst hq
  have hb : (n + m) * by_ ≤ 100000 * 200 := Nat.mul_le_mul hm hby
  obtain ⟨A', c', w', hr, ho, hg, hl⟩ := append_any (P := Try.prog) w base t t e z k by_ ht hinfo hz hk h hs (ints_one .i64 _) (n + m) rfl (ints .i64 (rows ++ rows').flatten) (by simp [ints]) (by omega) (by omega) hbase
  have hkeep : ∀ b, b < w.heap.size → (∀ g, A = some g → g.block ≠ b) → w'.heap[b]? = w.heap[b]? := fun b hb hne => by
    refine hg.block b hb ?_
    cases A with
    | none => simp [Value.ownBlock]
    | some g0 =>
      have := hne g0 rfl
      simp only [Value.ownBlock]
      intro q
      simp at q
      omega
  refine ⟨A', c', w', hr, ho, ⟨hg.os, hg.tape, hg.output, hg.size, fun b hb => hkeep b (by omega) fun g e => ?_⟩, hkeep, fun g' e => ?_⟩
  · have := (h.lt g e).1
    omega
  · subst e
    rcases hl with e | e
    · cases A with
      | none => simp [Value.ownBlock] at e
      | some a0 => simp [Value.ownBlock] at e; exact .inl ⟨a0, rfl, e⟩
    · simp [Value.ownBlock] at e; exact .inr (by omega)
/-- One more, laid for it. -/
theorem trow_one {t e : TypeId} {k by_ : Nat} {z : Value} (ht : Try.prog.underlying t = some (.slice e)) (hinfo : (Try.prog.info? e).map (fun i => (i.zero, i.size, i.bytes)) = some (some z, k, by_)) (hz : z.cells.size = k) (hk : 0 < k) (hby : by_ ≤ 200)
    {w : World} {base n c : Nat} {A : Option Addr} {rows : Rows2} (h : TRow e k w base A n c rows) (r : List Int) (hr : r.length = k) (hm : n ≤ 1000) (hbase : base ≤ w.heap.size) {s : Nat} (hs : w.heap.size = s) :
    ∃ A' c' w', (Builtin.append_ #[t, t] t #[.slice A n c, .slice (some ⟨s, 0, none⟩) 1 1]).run Try.prog (w.alloc (.cells (ints .i64 r).toArray e)) = .ok (.slice A' (n + 1) c') w' ∧ TRow e k w' base A' (n + 1) c' (rows ++ [r]) ∧ Kept (fun b => b < base) w w' ∧
      (∀ b, b < w.heap.size → (∀ g, A = some g → g.block ≠ b) → w'.heap[b]? = w.heap[b]?) ∧ (∀ g', A' = some g' → (∃ g, A = some g ∧ g'.block = g.block) ∨ w.heap.size ≤ g'.block) := by
  subst hs
  have hs' : Sl k (w.alloc (.cells (ints .i64 r).toArray e)) (some ⟨w.heap.size, 0, none⟩) 1 1 (ints .i64 [r].flatten) := by
    have := own_new w e k 1 (ints .i64 r).toArray (by simp [ints, hr]) (by simp only [maxLen]; omega)
    have h2 := Sl.of_own this
    simpa using h2
  obtain ⟨A', c', w', h1, h2, h3, h4, h5⟩ := trow_append ht hinfo hz hk hby (h.alloc (.cells (ints .i64 r).toArray e)) hs' (by omega) (by simp; omega) rfl
  refine ⟨A', c', w', h1, h2, ⟨h3.os, h3.tape, h3.output, ?_, fun b hb => ?_⟩, fun b hb hne => ?_, fun g' e' => ?_⟩
  · have := h3.size; simp at this; omega
  · rw [h3.block b hb]; exact Below.heap_alloc w _ b (by omega)
  · rw [h4 b (by simp; omega) hne]; exact Below.heap_alloc w _ b hb
  · rcases h5 g' e' with q | q
    · exact .inl q
    · exact .inr (by simp at q; omega)
/-! ### Words of the walk -/
end Go.Proofs.Ytghfhoodbiiciaa

namespace Go.Proofs.Ytghfhoodbiiciaa
open Go.RowKit Go.Deep

theorem open_spans {H : Type} {enc : TypeId × Value → H} {P : Program} {w : World} {base : Nat} {spare : Nat → Bool} {held : Bool} {t e i : TypeId} {f0 f1 : Field} {fuel : Nat} {A : Option Addr} {len cap : Nat} {x : DataW H × List MemPlace}
    (ht : P.underlying t = some (.slice e)) (he : P.underlying e = some (.struct #[f0, f1])) (ce : P.cellsOf e = 2) (o0 : f0.offset = 0) (o1 : f1.offset = 1) (c0 : P.cellsOf f0.type = 1) (c1 : P.cellsOf f1.type = 1)
    (t0 : f0.type = i) (t1 : f1.type = i) (hi : P.underlying i = some (.int .i64)) (h : DataW.trod enc P w base spare held fuel t [.slice A len cap] = some x) :
    ∃ xs : List (Int × Int), xs.length = len ∧ len ≤ 9223372036854775807 ∧ Spans w A xs ∧ (A = none → cap = 0) := by
  rcases open_slice_pairs ht he ce o0 o1 c0 c1 h with ⟨hcs, _⟩ | ⟨a, len', cap', m, n, V0, V1, D0, D1, P0, P1, hcs, _, hl, hm, hmm, _, hx⟩
  · simp at hcs
    obtain ⟨rfl, rfl, rfl⟩ := hcs
    exact ⟨[], rfl, by omega, Spans.nil _ _, fun _ => rfl⟩
  · simp at hcs
    obtain ⟨rfl, rfl, rfl⟩ := hcs
    have hle : len ≤ m := by rw [hmm]; split <;> omega
    have key : ∀ k, k < len → ∃ z0 z1, V0 k = .int .i64 z0 ∧ V1 k = .int .i64 z1 ∧ Fit z0 ∧ Fit z1 := fun k hk => by
      obtain ⟨h0, h1, g0, g1⟩ := hx k (by omega)
      obtain ⟨z0, e0, _, w0⟩ := DataW.trod_int (t0 ▸ hi) g0
      obtain ⟨z1, e1, _, w1⟩ := DataW.trod_int (t1 ▸ hi) g1
      simp at e0 e1
      exact ⟨z0, z1, e0, e1, bounds_i64 w0, bounds_i64 w1⟩
    refine ⟨(List.range len).map fun i => (intOf (V0 i), intOf (V1 i)), by simp, by simp only [maxLen] at hm; omega, ⟨fun y hy => ?_, fun k hk => ?_⟩, fun h => by cases h⟩
    · simp only [List.mem_map, List.mem_range] at hy
      obtain ⟨k, hk, rfl⟩ := hy
      obtain ⟨z0, z1, e0, e1, b0, b1⟩ := key k hk
      simp only [e0, e1, intOf]
      exact ⟨b0, b1⟩
    · simp at hk
      obtain ⟨h0, h1, g0, g1⟩ := hx k (by omega)
      obtain ⟨z0, z1, e0, e1, b0, b1⟩ := key k hk
      obtain ⟨b, off, sp⟩ := a
      have hsp : sp = none := by simpa [Addr.add] using World.cell?_spot (hx 0 (by omega)).1
      subst hsp
      rw [add_none] at h0 h1
      refine ⟨b, off, rfl, cell_lt h0, ?_, ?_⟩
      · rw [h0, e0]; simp [List.getD, hk, e0, intOf]
      · rw [Nat.add_assoc, h1, e1]; simp [List.getD, hk, e1, intOf]
end Go.Proofs.Ytghfhoodbiiciaa
