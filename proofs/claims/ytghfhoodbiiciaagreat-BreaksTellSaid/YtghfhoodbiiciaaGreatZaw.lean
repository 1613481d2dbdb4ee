/-
  Rows of events of the call's own (append), slices of events cut; where an event is put in.
  Slices of parts, and of flags, in memory: read, of the call's own, appended to, two at a time.
  The document's own answer of layer 12: a session's parts.
-/
import Derived.Test.YtghfhoodbiiciaaGreatZal
import Derived.Shelf.SlSortCmp.KitK
import Derived.Test.YtghfhoodbiiciaaGreatZaf
import Derived.Sort.WalkB2
import Derived.Sort.WalkB12
import Derived.Deep.LoopGhost
import Derived.Lib.Hide
import Derived.Test.YtghfhoodbiiciaaGreatZaq
import Derived.Test.YtghfhoodbiiciaaGreatZad
import Derived.Deep.DeepCutAuto
import Derived.Test.YtghfhoodbiiciaaGreatZac
import Derived.StillTailTactics
import Derived.Test.YtghfhoodbiiciaaGreatZav
import Derived.Test.YtghfhoodbiiciaaGreatZao
import Derived.Test.YtghfhoodbiiciaaGreatProg
import Derived.Test.YtghfhoodbiiciaaGreatZab
import Derived.OpenShut
import Derived.Laws.Cover1
import Derived.Laws.Slices
import Derived.Test.YtghfhoodbiiciaaGreatZaj
import Derived.Deep.RegionHeld3
namespace Go.Proofs.YtghfhoodbiiciaaGreat
open Go.RowKit Go.Sort
set_option linter.unusedVariables false
set_option linter.unusedSimpArgs false
set_option maxRecDepth 20000

/-! ### Slices cut -/
/-! ### Rows -/
theorem wp_append_run8 {P : Program} {o : Oper} {a : Act} {w w' : World} {K : Act → World → Prop} {Q : Exit → Act → World → Prop} {s x : Operand} {t : TypeId} {v u v' : Value}
    (hr : (Builtin.append_ #[t, t] o.type #[v, u]).run P w = .ok v' w')
    (ho : o.op = .call { callee := .builtin .append, args := #[s, x], argTypes := #[t, t] }) (hs : a.eval s = v) (hx : a.eval x = u)
    (h : K (a.put o.dst v') w') : o.wp P a w K Q := by
  unfold Oper.wp execOp
  simp only [ho, resolve, invoke, builtin, Sem.run_bind, Sem.run_pure, Result.andThen_ok, List.map_toArray, List.map_cons, List.map_nil, hs, hx, hr]
  exact h
theorem Evs.keep {w w' : World} {A : Option Addr} {n c : Nat} {l : List EvP} (h : Evs w A n c l) (hk : ∀ g, A = some g → w'.heap[g.block]? = w.heap[g.block]?) : Evs w' A n c l := by
  obtain ⟨⟨hl, h0 | ⟨ad, rfl, hc⟩⟩, hn⟩ := h
  · exact ⟨⟨hl, .inl h0⟩, hn⟩
  · refine ⟨⟨hl, .inr ⟨ad, rfl, fun j u hu => ?_⟩⟩, hn⟩
    rw [← hc j u hu]
    have e := hk _ rfl
    unfold World.cell?
    rw [show (ad.add j).block = ad.block by unfold Addr.add; split <;> rfl, e]
end Go.Proofs.YtghfhoodbiiciaaGreat

namespace Go.Proofs.YtghfhoodbiiciaaGreat
open Go.RowKit
set_option linter.unusedVariables false
set_option linter.unusedSimpArgs false
set_option maxRecDepth 20000

theorem seg_info : (Tryz.prog.info? 41).map (fun i => (i.zero, i.size, i.bytes)) = some (some (.agg #[.int .i64 0, .int .i64 0, .int .i64 0, .int .i64 0, .int .i64 0]), 5, 40) := by kernel_rfl
abbrev SRow (w : World) (base : Nat) (A : Option Addr) (n c : Nat) (l : List SegP) : Prop := TRow 41 5 w base A n c (l.map segL)
/-- An append of what a slice of structs holds. -/
theorem trow_append {t e : TypeId} {k by_ : Nat} {z : Value} (ht : Tryz.prog.underlying t = some (.slice e)) (hinfo : (Tryz.prog.info? e).map (fun i => (i.zero, i.size, i.bytes)) = some (some z, k, by_)) (hz : z.cells.size = k) (hk : 0 < k) (hby : by_ ≤ 200)
    {w : World} {base n c : Nat} {A : Option Addr} {rows : Rows2} (h : TRow e k w base A n c rows) {B : Option Addr} {m d : Nat} {rows' : Rows2} (hs : Sl k w B m d (ints .i64 rows'.flatten)) (hm : n + m ≤ 100000) (hbase : base ≤ w.heap.size) {q : Nat} (hq : n + m = q) :
    ∃ A' c' w', (Builtin.append_ #[t, t] t #[.slice A n c, .slice B m d]).run Tryz.prog w = .ok (.slice A' q c') w' ∧ TRow e k w' base A' q c' (rows ++ rows') ∧ Kept (fun b => b < base) w w' ∧
      (∀ b, b < w.heap.size → (∀ g, A = some g → g.block ≠ b) → w'.heap[b]? = w.heap[b]?) ∧ (∀ g', A' = some g' → (∃ g, A = some g ∧ g'.block = g.block) ∨ w.heap.size ≤ g'.block) := by
  subst hq
  have hb : (n + m) * by_ ≤ 100000 * 200 := Nat.mul_le_mul hm hby
  obtain ⟨A', c', w', hr, ho, hg, hl⟩ := append_any (P := Tryz.prog) w base t t e z k by_ ht hinfo hz hk h hs (ints_one .i64 _) (n + m) rfl (ints .i64 (rows ++ rows').flatten) (by simp [ints]) (by omega) (by omega) hbase
  have hkeep : ∀ b, b < w.heap.size → (∀ g, A = some g → g.block ≠ b) → w'.heap[b]? = w.heap[b]? := fun b hb hne => by
    refine hg.block b hb ?_
    cases A with
    | none => simp [Value.ownBlock]
    | some g0 =>
      have := hne g0 rfl
      simp only [Value.ownBlock]
      intro q
      simp at q
      omega
  refine ⟨A', c', w', hr, ho, ⟨hg.os, hg.tape, hg.output, hg.size, fun b hb => hkeep b (by omega) fun g e => ?_⟩, hkeep, fun g' e => ?_⟩
  · have := (h.lt g e).1
    omega
  · subst e
    rcases hl with e | e
    · cases A with
      | none => simp [Value.ownBlock] at e
      | some a0 => simp [Value.ownBlock] at e; exact .inl ⟨a0, rfl, e⟩
    · simp [Value.ownBlock] at e; exact .inr (by omega)
/-- One more, laid for it. -/
theorem trow_one {t e : TypeId} {k by_ : Nat} {z : Value} (ht : Tryz.prog.underlying t = some (.slice e)) (hinfo : (Tryz.prog.info? e).map (fun i => (i.zero, i.size, i.bytes)) = some (some z, k, by_)) (hz : z.cells.size = k) (hk : 0 < k) (hby : by_ ≤ 200)
    {w : World} {base n c : Nat} {A : Option Addr} {rows : Rows2} (h : TRow e k w base A n c rows) (r : List Int) (hr : r.length = k) (hm : n ≤ 1000) (hbase : base ≤ w.heap.size) {s : Nat} (hs : w.heap.size = s) :
    ∃ A' c' w', (Builtin.append_ #[t, t] t #[.slice A n c, .slice (some ⟨s, 0, none⟩) 1 1]).run Tryz.prog (w.alloc (.cells (ints .i64 r).toArray e)) = .ok (.slice A' (n + 1) c') w' ∧ TRow e k w' base A' (n + 1) c' (rows ++ [r]) ∧ Kept (fun b => b < base) w w' ∧
      (∀ b, b < w.heap.size → (∀ g, A = some g → g.block ≠ b) → w'.heap[b]? = w.heap[b]?) ∧ (∀ g', A' = some g' → (∃ g, A = some g ∧ g'.block = g.block) ∨ w.heap.size ≤ g'.block) := by
  subst hs
  have hs' : Sl k (w.alloc (.cells (ints .i64 r).toArray e)) (some ⟨w.heap.size, 0, none⟩) 1 1 (ints .i64 [r].flatten) := by
    have := own_new w e k 1 (ints .i64 r).toArray (by simp [ints, hr]) (by simp only [maxLen]; omega)
    have h2 := Sl.of_own this
    simpa using h2
  obtain ⟨A', c', w', h1, h2, h3, h4, h5⟩ := trow_append ht hinfo hz hk hby (h.alloc (.cells (ints .i64 r).toArray e)) hs' (by omega) (by simp; omega) rfl
  refine ⟨A', c', w', h1, h2, ⟨h3.os, h3.tape, h3.output, ?_, fun b hb => ?_⟩, fun b hb hne => ?_, fun g' e' => ?_⟩
  · have := h3.size; simp at this; omega
  · rw [h3.block b hb]; exact Below.heap_alloc w _ b (by omega)
  · rw [h4 b (by simp; omega) hne]; exact Below.heap_alloc w _ b hb
  · rcases h5 g' e' with q | q
    · exact .inl q
    · exact .inr (by simp at q; omega)
section
variable {w0 w w' : World} {A B : Option Addr} {n c m d : Nat} {l : List SegP} {f : List FlagP}
theorem below_kept0 {w0 w w' : World} (h : Below w0.heap.size w0 w) (k : Kept (fun b => b < w0.heap.size) w w') : Below w0.heap.size w0 w' :=
  ⟨k.os.trans h.os, k.tape.trans h.tape, k.output.trans h.output, Nat.le_trans h.size k.size, fun b hb => (k.block b hb).trans (h.block b hb)⟩
end
/-! ### Words of the walk -/
end Go.Proofs.YtghfhoodbiiciaaGreat

namespace Go.Proofs.YtghfhoodbiiciaaGreat
open Go.RowKit
set_option linter.unusedVariables false
set_option linter.unusedSimpArgs false
set_option maxRecDepth 20000

theorem srow_one {w : World} {base n c : Nat} {A : Option Addr} {l : List SegP} (h : SRow w base A n c l) (x : SegP) (hm : n ≤ 1000) (hbase : base ≤ w.heap.size) {s : Nat} (hs : w.heap.size = s) :
    ∃ A' c' w', (Builtin.append_ #[31, 31] 31 #[.slice A n c, .slice (some ⟨s, 0, none⟩) 1 1]).run Tryz.prog (w.alloc (.cells #[.int .i64 x.fr, .int .i64 x.to, .int .i64 x.kd, .int .i64 x.id, .int .i64 x.cd] 41)) = .ok (.slice A' (n + 1) c') w' ∧ SRow w' base A' (n + 1) c' (l ++ [x]) ∧ Kept (fun b => b < base) w w' := by
  obtain ⟨A', c', w', h1, h2, h3, -, -⟩ := trow_one (t := 31) (e := 41) (k := 5) (by_ := 40) (z := .agg #[.int .i64 0, .int .i64 0, .int .i64 0, .int .i64 0, .int .i64 0]) Tryz.underlying31 seg_info rfl (by omega) (by omega) h (segL x) rfl hm hbase hs
  have e0 : (ints .i64 (segL x)).toArray = #[.int .i64 x.fr, .int .i64 x.to, .int .i64 x.kd, .int .i64 x.id, .int .i64 x.cd] := rfl
  rw [e0] at h1
  refine ⟨A', c', w', h1, ?_, h3⟩
  have e : (l ++ [x]).map segL = l.map segL ++ [segL x] := by simp
  show TRow _ _ _ _ _ _ _ ((l ++ [x]).map segL)
  rw [e]
  exact h2
theorem wp_build_s {o : Oper} {a : Act} {w : World} {K : Act → World → Prop} {Q : Exit → Act → World → Prop} {y : Operand} (x : SegP)
    (ho : o.op = .buildSlice 31 1 #[(0, y)]) (hy : a.eval y = .agg #[.int .i64 x.fr, .int .i64 x.to, .int .i64 x.kd, .int .i64 x.id, .int .i64 x.cd])
    (h : K (a.put o.dst (.slice (some ⟨w.heap.size, 0, none⟩) 1 1)) (w.alloc (.cells #[.int .i64 x.fr, .int .i64 x.to, .int .i64 x.kd, .int .i64 x.id, .int .i64 x.cd] 41))) : o.wp Tryz.prog a w K Q := by
  unfold Oper.wp execOp
  simp only [ho, List.map_toArray, List.map_cons, List.map_nil, hy]
  go_simp
  exact h
end Go.Proofs.YtghfhoodbiiciaaGreat
