/-
  The two functions that package span's loops range over: slices.Values, and what is between plain spans.
  The document's own answer of layer 12: the seconds of parts, of one kind; two lists that are the same.
  What layer 12's laws are walked by: a setup's facts; few.
  Package stream's watch in memory: its block, its two rows, the session that is open; what a step changes.
  Package fixes' sheet in memory: its block, the events, what was moved; what a step changes.
  The library's Clip, Grow and Concat at events, and an append behind a clip.
-/
import Derived.Test.YtedkhjbnjkcemaaZab
import Derived.WalkKit
import Derived.Shelf.Abstract
import Derived.StillTailTactics
import Derived.Deep.Light
import Derived.Deep.RegionHeld3
import Derived.Deep.RegionWith
import Derived.Deep.QuietTactic
import Derived.BigQuiet
import Derived.Deep.DeepCutAuto
import Derived.RangeFuncNested
import Derived.RangeFuncBound
import Derived.RangeFuncCalls
import Derived.RangeFuncLeaves
import Derived.Shelf.RegionOpen
import Derived.OwnWalkIn
import Derived.TacticsInMore
import Derived.LoopNIn
import Derived.LoopIn
import Derived.Test.YtedkhjbnjkcemaaZaq
import Derived.Test.YtedkhjbnjkcemaaZat
import Derived.Test.YtedkhjbnjkcemaaZar
import Derived.Test.YtedkhjbnjkcemaaZad
import Derived.Test.YtedkhjbnjkcemaaZav
import Derived.Deep.SlicePairs
import Derived.Lib.SmallJoins
import Derived.ChangeArms
import Derived.OpenShut
import Derived.Test.YtedkhjbnjkcemaaZap
import Derived.Test.YtedkhjbnjkcemaaZao
import Derived.Test.YtedkhjbnjkcemaaZal
import Derived.Test.YtedkhjbnjkcemaaZac
import Derived.Test.YtedkhjbnjkcemaaZaa
import Derived.Test.YtedkhjbnjkcemaaProg
import Derived.Laws.Cover1
import Derived.WalkLawsBesides
import Derived.Lib.Hide
import Derived.IntWalk
import Derived.Lib.SliceRun
import Derived.WalkMore
import Derived.ScopeJumps
import Derived.RegionTactic
import Derived.Test.YtedkhjbnjkcemaaZae
import Derived.Lib.AppendZeros
namespace Go.Proofs.Ytedkhjbnjkcemaa
open Go.RowKit
set_option linter.unusedVariables false
attribute [local go_sem] Oper.semAt_some

/-- A slice value over A reads as the spans xs, from below n. -/
def Lies (n : Nat) (w : World) (A : Option Addr) (xs : List (Int × Int)) : Prop :=
  ∀ k, k < xs.length → ∃ b off, A = some ⟨b, off, none⟩ ∧ b < n ∧ w.cell? ⟨b, off + k * 2, none⟩ = some (.int .i64 (xs.getD k (0, 0)).1) ∧ w.cell? ⟨b, off + k * 2 + 1, none⟩ = some (.int .i64 (xs.getD k (0, 0)).2)
theorem Lies.below {n : Nat} {w w' : World} {A : Option Addr} {xs : List (Int × Int)} (h : Lies n w A xs) (hb : Below n w w') : Lies n w' A xs := fun k hk => by
  obtain ⟨b, off, e, h0, h1, h2⟩ := h k hk
  exact ⟨b, off, e, h0, (hb.cell h0).trans h1, (hb.cell h0).trans h2⟩
end Go.Proofs.Ytedkhjbnjkcemaa

namespace Go.Proofs.Ytedkhjbnjkcemaa
open Go.RowKit
set_option linter.unusedVariables false
set_option linter.unusedSimpArgs false
set_option maxRecDepth 20000

def SegP.none : SegP := ⟨0, 0, 0, 0, 0⟩
def FlagP.none : FlagP := ⟨0, 0⟩
theorem rows_form {k : Nat} {w : World} {A : Option Addr} {n c : Nat} {t : Rows2} (h : Sl k w A n c (ints .i64 t.flatten)) (hk : 0 < k) (hn : 0 < n) : ∃ b off, A = some ⟨b, off, none⟩ := by
  obtain ⟨hl, ⟨_, h0, _⟩ | ⟨ad, rfl, hc⟩⟩ := h
  · omega
  · have hp : 0 < n * k := Nat.mul_pos hn hk
    obtain ⟨u, hu⟩ : ∃ u, (ints .i64 t.flatten)[0]? = some u := ⟨_, List.getElem?_eq_getElem (by omega)⟩
    have h0 := hc 0 u hu
    obtain ⟨b, off, sp⟩ := ad
    have hsp : sp = none := by simpa [Addr.add] using World.cell?_spot h0
    subst hsp
    exact ⟨b, off, rfl⟩
def Segs (w : World) (A : Option Addr) (n c : Nat) (l : List SegP) : Prop := Sl 5 w A n c (ints .i64 (l.map segL).flatten) ∧ l.length = n
theorem Segs.below {w w' : World} {A : Option Addr} {n c : Nat} {l : List SegP} (h : Segs w A n c l) (hb : Below w.heap.size w w') : Segs w' A n c l := ⟨h.1.below hb, h.2⟩
theorem Segs.form {w : World} {A : Option Addr} {n c : Nat} {l : List SegP} (h : Segs w A n c l) (hn : 0 < n) : ∃ b off, A = some ⟨b, off, none⟩ := rows_form h.1 (by omega) hn
def Flgs (w : World) (A : Option Addr) (n c : Nat) (l : List FlagP) : Prop := Sl 2 w A n c (ints .i64 (l.map flagL).flatten) ∧ l.length = n
theorem Flgs.below {w w' : World} {A : Option Addr} {n c : Nat} {l : List FlagP} (h : Flgs w A n c l) (hb : Below w.heap.size w w') : Flgs w' A n c l := ⟨h.1.below hb, h.2⟩
theorem Flgs.form {w : World} {A : Option Addr} {n c : Nat} {l : List FlagP} (h : Flgs w A n c l) (hn : 0 < n) : ∃ b off, A = some ⟨b, off, none⟩ := rows_form h.1 (by omega) hn
end Go.Proofs.Ytedkhjbnjkcemaa

namespace Go.Proofs.Ytedkhjbnjkcemaa
open Go.RowKit
set_option linter.unusedVariables false
set_option linter.unusedSimpArgs false
set_option maxRecDepth 20000

/-- All that is asked of a setup's cells. -/
structure SetW (w : World) (s : SetP) (cs : Array Value) : Prop where
  c : SetC w s cs
  f : s.Fit
  q : SetS cs s.places s.elements.length s.classes.length s.gears.length s.rates.length
  u : cs[8]? = some (.int .i64 s.unit)
  k : cs[9]? = some (.int .i64 s.cap)
theorem SetW.below {w w' : World} {s : SetP} {cs : Array Value} (h : SetW w s cs) (hb : Below w.heap.size w w') : SetW w' s cs := ⟨h.c.below hb, h.f, h.q, h.u, h.k⟩
/-- A setup that has no unit of its own but this one. -/
theorem SetW.size {w : World} {s : SetP} {cs : Array Value} (h : SetW w s cs) : cs.size = 23 := h.q.size
end Go.Proofs.Ytedkhjbnjkcemaa

namespace Go.Proofs.Ytedkhjbnjkcemaa
open Go.RowKit
set_option linter.unusedVariables false
set_option linter.unusedSimpArgs false
set_option maxRecDepth 20000

def OnB (A : Option Addr) (b : Nat) : Prop := ∃ a, A = some a ∧ a.block = b
/-- What lay at B or behind is as it was, but for the blocks M. -/
def Mv (B : Nat) (M : Nat → Prop) (w w' : World) : Prop := w.heap.size ≤ w'.heap.size ∧ ∀ b, B ≤ b → b < w.heap.size → ¬ M b → w'.heap[b]? = w.heap[b]?
/-- A slice's block is the one that it was, or a new one. -/
def Moved (w : World) (A A' : Option Addr) : Prop := ∀ b, OnB A' b → OnB A b ∨ w.heap.size ≤ b
def Off (A : Option Addr) (b : Nat) : Prop := ∀ a, A = some a → a.block ≠ b
def Offs (A C : Option Addr) : Prop := ∀ x y, A = some x → C = some y → x.block ≠ y.block
theorem Mv.refl (B : Nat) (M : Nat → Prop) (w : World) : Mv B M w w := ⟨Nat.le_refl _, fun _ _ _ _ => rfl⟩
theorem Mv.of_below {B : Nat} {M : Nat → Prop} {w w' : World} (h : Below w.heap.size w w') : Mv B M w w' := ⟨h.size, fun b _ hb _ => h.block b hb⟩
theorem Mv.on {B : Nat} {M : Nat → Prop} {w w1 w2 : World} (h : Mv B M w w1) (k : Mv B M w1 w2) : Mv B M w w2 :=
  ⟨Nat.le_trans h.1 k.1, fun b h0 h1 h2 => (k.2 b h0 (Nat.lt_of_lt_of_le h1 h.1) h2).trans (h.2 b h0 h1 h2)⟩
theorem Mv.less {B : Nat} {M M' : Nat → Prop} {w w' : World} (h : Mv B M w w') (hM : ∀ b, M b → M' b) : Mv B M' w w' := ⟨h.1, fun b h0 h1 h2 => h.2 b h0 h1 fun q => h2 (hM b q)⟩
theorem Mv.set {B : Nat} {M : Nat → Prop} {w w' : World} (h : Mv B M w w') {p : Addr} (hp : p.block < B ∨ M p.block ∨ w.heap.size ≤ p.block) (v : Value) : Mv B M w (w'.setCell p v) := by
  refine ⟨by have := h.1; simpa [World.setCell] using this, fun b h0 h1 h2 => ?_⟩
  rw [Below.heap_setCell w' p v b (by rintro rfl; rcases hp with hp | hp | hp; omega; exact h2 hp; omega)]
  exact h.2 b h0 h1 h2
theorem kept_put {F : Nat → Prop} {a w : World} (h : Kept F a w) {p : Addr} (hp : ¬ F p.block) (v : Value) : Kept F a (w.setCell p v) := by
  refine ⟨h.os, h.tape, h.output, ?_, fun b hb => ?_⟩
  · have := Kept.size h
    simp [World.setCell]
    exact this
  · rw [Below.heap_setCell w p v b (by rintro rfl; exact hp hb)]
    exact h.block b hb
theorem TRow.far {e : TypeId} {k : Nat} {w : World} {base n c : Nat} {A : Option Addr} {rows : Rows2} (h : TRow e k w base A n c rows) {p : Addr} (hp : ∀ g, A = some g → g.block ≠ p.block) (u : Value) : TRow e k (w.setCell p u) base A n c rows :=
  h.keep fun g hg => Below.heap_setCell w p u _ (hp g hg)
theorem Moved.refl (w : World) (A : Option Addr) : Moved w A A := fun _ h => .inl h
theorem Offs.moved {A C A' : Option Addr} {w : World} (h : Offs A C) (hm : Moved w A A') (hC : ∀ y, C = some y → y.block < w.heap.size) : Offs A' C := by
  intro x y hx hy e
  rcases hm _ ⟨x, hx, rfl⟩ with ⟨a, ha, q⟩ | q
  · exact h a y ha hy (q.trans e)
  · have := hC y hy; omega
theorem Off.moved {A A' : Option Addr} {p : Nat} {w : World} (h : Off A p) (hm : Moved w A A') (hp : p < w.heap.size) : Off A' p := by
  intro x hx e
  rcases hm _ ⟨x, hx, rfl⟩ with ⟨a, ha, q⟩ | q
  · exact h a ha (q.trans e)
  · omega
theorem Offs.symm {A C : Option Addr} (h : Offs A C) : Offs C A := fun x y hx hy e => h y x hy hx e.symm

/-! ### The watch -/
/-! ### The open session -/
def sesC (e : EvP) (V : Value) : Array Value := #[.int .i64 e.id, .int .i64 e.wk, .int .i64 e.tm, .int .i64 e.kd, .int .i64 e.fr, .int .i64 e.to, .int .i64 e.el, .int .i64 e.un, .int .i64 e.cl, .int .i64 e.ge, .int .i64 e.cd, V]
structure Ses (w0 w : World) (p : Nat) (e : EvP) (D : Option Addr) (q r : Nat) (ins : List EvP) : Prop where
  pB : w0.heap.size ≤ p
  h : Has w p (sesC e (.slice D q r))
  hq : ins.length = q
  r : ERow w w0.heap.size D q r ins
  ne : Off D p
section
variable {w0 w w' : World} {p : Nat} {e : EvP} {D : Option Addr} {q r : Nat} {ins : List EvP}
theorem Ses.below (h : Ses w0 w p e D q r ins) (hb : Below w.heap.size w w') : Ses w0 w' p e D q r ins := ⟨h.pB, h.h.below hb, h.hq, h.r.below hb, h.ne⟩
theorem Ses.drew (h : Ses w0 w p e D q r ins) : Ses w0 w.drew p e D q r ins := h.below (below_drew (Below.refl _ _))
end
end Go.Proofs.Ytedkhjbnjkcemaa

namespace Go.Proofs.Ytedkhjbnjkcemaa
open Go.RowKit
set_option linter.unusedVariables false
set_option linter.unusedSimpArgs false
set_option maxRecDepth 20000

/-- A sheet's cells. -/
def shC (cs : Array Value) (E : Value) (x : EvP) (M : Value) : Array Value := cs ++ #[E] ++ evC x ++ #[M]
section
variable {cs : Array Value} {E M : Value} {x : EvP}
theorem sh_size (hs : cs.size = 23) : (shC cs E x M).size = 36 := by simp [shC, hs, evC]
theorem sh_c (hs : cs.size = 23) {j : Nat} (hj : j < 23) : (shC cs E x M)[j]? = cs[j]? := by
  unfold shC
  rw [Array.getElem?_append_left (by simp [hs, evC]; omega), Array.getElem?_append_left (by simp [hs]; omega), Array.getElem?_append_left (by omega)]
theorem sh_E (hs : cs.size = 23) : (shC cs E x M)[23]? = some E := by
  unfold shC
  rw [Array.getElem?_append_left (by simp [hs, evC]), Array.getElem?_append_left (by simp [hs]), Array.getElem?_append_right (by omega)]
  simp [hs]
theorem sh_x (hs : cs.size = 23) {j : Nat} (hj : j < 11) : (shC cs E x M)[24 + j]? = (evC x)[j]? := by
  unfold shC
  rw [Array.getElem?_append_left (by simp [hs, evC]; omega), Array.getElem?_append_right (by simp [hs])]
  congr 1
  simp [hs]
theorem sh_M (hs : cs.size = 23) : (shC cs E x M)[35]? = some M := by
  unfold shC
  rw [Array.getElem?_append_right (by simp [hs, evC])]
  simp [hs, evC]
theorem sh_setE (hs : cs.size = 23) (E' : Value) : (shC cs E x M).setIfInBounds 23 E' = shC cs E' x M := by
  obtain ⟨l⟩ := cs
  have hl : l.length = 23 := hs
  apply Array.ext'
  simp [shC, evC, List.set_append, hl]
theorem sh_setM (hs : cs.size = 23) (M' : Value) : (shC cs E x M).setIfInBounds 35 M' = shC cs E x M' := by
  obtain ⟨l⟩ := cs
  have hl : l.length = 23 := hs
  apply Array.ext'
  simp [shC, evC, List.set_append, hl]
end
theorem run_loadSet_at {w : World} {b off : Nat} {cs : Array Value} (hs : cs.size = 23) (hc : ∀ j, j < 23 → w.cell? ⟨b, off + j, none⟩ = cs[j]?) : (loadVar 30 ⟨b, off, none⟩).run Try.prog w = .ok (.agg cs) w := by
  have h := run_loadCells_list (P := Try.prog) (w := w) ⟨b, off, none⟩ cs.toList (fun j v hv => by
    have hj : j < 23 := by
      have := (List.getElem?_eq_some_iff.1 hv).1
      simpa [hs] using this
    rw [tab_add, hc j hj, ← hv]
    simp)
  rw [show cs.toList.length = 23 by simpa using hs, show cs.toList.toArray = cs by simp] at h
  unfold loadVar
  simp only [Sem.run_bind, Sem.run_pure, Try.isAgg30, Try.sizeOf30, Result.andThen_ok, if_true, h]
theorem exec_loadSet_at {o : Oper} {ρ : Operand → Value} {ww : World} (x : Operand) (ho : o.op = .load 30 x) {b off : Nat} (hx : ρ x = .pointer (some ⟨b, off, none⟩)) {v : Value} (hl : (loadVar 30 ⟨b, off, none⟩).run Try.prog ww = .ok v ww) : (execOp ρ o).run Try.prog ww = .ok (.value v) ww := by
  unfold execOp
  simp only [ho, hx, Instr.loadAt, Instr.sureAddr, Sem.run_bind, Sem.run_pure, Result.andThen_ok, hl]
theorem has_at {w : World} {g : Nat} {c : Array Value} (h : Has w g c) (j : Nat) : w.cell? ⟨g, j, none⟩ = c[j]? := by
  obtain ⟨t, h⟩ := h
  exact cell_of_row w g j c t (0, 0) h
section
variable {w : World} {g : Nat} {cs : Array Value} {E M : Value} {x : EvP}
theorem sh_loadS (h : Has w g (shC cs E x M)) (hs : cs.size = 23) : (loadVar 30 ⟨g, 0, none⟩).run Try.prog w = .ok (.agg cs) w :=
  run_loadSet_at hs fun j hj => by rw [has_at h, Nat.zero_add, sh_c hs hj]
theorem sh_loadE (h : Has w g (shC cs E x M)) (hs : cs.size = 23) : (loadVar 33 ⟨g, 24, none⟩).run Try.prog w = .ok (.agg (evC x)) w :=
  run_loadVar_at fun j hj => by rw [has_at h, sh_x hs hj]
end
theorem Evs.off {w w' : World} {A : Option Addr} {n c : Nat} {l : List EvP} (h : Evs w A n c l) (hk : ∀ b, 0 < n → OnB A b → b < w.heap.size → w'.heap[b]? = w.heap[b]?) : Evs w' A n c l := by
  obtain ⟨⟨hl, h0 | ⟨ad, rfl, hc⟩⟩, hn⟩ := h
  · exact ⟨⟨hl, .inl h0⟩, hn⟩
  · refine ⟨⟨hl, .inr ⟨ad, rfl, fun j u hu => ?_⟩⟩, hn⟩
    have hj := hc j u hu
    have hb := cell_lt hj
    have hn0 : 0 < n := by
      rcases Nat.eq_zero_or_pos n with e | e
      · subst e
        have e2 : l = [] := List.eq_nil_of_length_eq_zero hn
        subst e2
        simp [ints] at hu
      · exact e
    rw [← hj]
    exact World.cell?_of_block (by rw [add_block] at *; exact hk _ hn0 ⟨ad, rfl, rfl⟩ hb)
/-! ### The sheet -/
structure Shee (w0 w : World) (g : Nat) (cs : Array Value) (x : EvP) (A : Option Addr) (n c : Nat) (l : List EvP) (C : Option Addr) (m d : Nat) (mv : List EvP) : Prop where
  gB : g < w0.heap.size
  hs : cs.size = 23
  h : Has w g (shC cs (.slice A n c) x (.slice C m d))
  ev : Evs w A n c l
  nc : n ≤ c ∧ c ≤ 9223372036854775807
  aO : 0 < n → Off A g
  hm : mv.length = m
  r : ERow w w0.heap.size C m d mv
  ne : 0 < n → Offs A C
  k : Kept (fun b => b < w0.heap.size ∧ b ≠ g) w0 w
section
variable {w0 w w' : World} {g : Nat} {cs : Array Value} {x : EvP} {A C : Option Addr} {n c m d : Nat} {l mv : List EvP}
theorem Shee.size (h : Shee w0 w g cs x A n c l C m d mv) : w0.heap.size ≤ w.heap.size := h.k.size
theorem Shee.below (h : Shee w0 w g cs x A n c l C m d mv) (hb : Below w.heap.size w w') : Shee w0 w' g cs x A n c l C m d mv :=
  ⟨h.gB, h.hs, h.h.below hb, h.ev.below hb, h.nc, h.aO, h.hm, h.r.below hb, h.ne, h.k.on (Kept.of_below hb fun i hi => by have := h.k.size; omega)⟩
theorem Shee.drew (h : Shee w0 w g cs x A n c l C m d mv) : Shee w0 w.drew g cs x A n c l C m d mv := h.below (below_drew (Below.refl _ _))
theorem Shee.start (hg : Has w0 g (shC cs (.slice A n c) x (.slice none 0 0))) (hs : cs.size = 23) (he : Evs w0 A n c l) (hnc : n ≤ c ∧ c ≤ 9223372036854775807) (hA : 0 < n → Off A g) : Shee w0 w0 g cs x A n c l none 0 0 [] :=
  ⟨hg.size, hs, hg, he, hnc, hA, rfl, TRow.nil _ _, fun _ x y h h2 => (by cases h2), Kept.refl _ _⟩
/-- One event more was moved. -/
theorem Shee.move (h : Shee w0 w g cs x A n c l C m d mv) (y : EvP) (hm : m ≤ 1000) {s : Nat} (hs : w.heap.size = s) :
    ∃ C' d' w', (Builtin.append_ #[31, 31] 31 #[.slice C m d, .slice (some ⟨s, 0, none⟩) 1 1]).run Try.prog (w.alloc (.cells (evC y) 33)) = .ok (.slice C' (m + 1) d') w' ∧
      Has w' g (shC cs (.slice A n c) x (.slice C m d)) ∧ Evs w' A n c l ∧ Shee w0 (w'.setCell ⟨g, 35, none⟩ (.slice C' (m + 1) d')) g cs x A n c l C' (m + 1) d' (mv ++ [y]) := by
  obtain ⟨C', d', w', h1, h2, h3, h4, h5⟩ := trow_one (t := 31) (e := 33) (k := 11) (by_ := 88) (z := .agg (evC EvP.none)) Try.underlying31 ev_info rfl (by omega) (by omega) h.r (evLs y) rfl hm h.size hs
  have e0 : (ints .i64 (evLs y)).toArray = evC y := rfl
  rw [e0] at h1
  have hgl := h.h.size
  have hsz := h.size
  have hgB := h.gB
  have hbk : ∀ b, b < w.heap.size → Off C b → w'.heap[b]? = w.heap[b]? := h4
  have hg : Has w' g (shC cs (.slice A n c) x (.slice C m d)) := by
    obtain ⟨t, q⟩ := h.h
    exact ⟨t, (hbk g hgl fun a ha => by have := (h.r.lt a ha).1; omega).trans q⟩
  have hev : Evs w' A n c l := h.ev.off fun b hn0 hb hlt => hbk b hlt fun a ha e => by
    obtain ⟨a0, ha0, q⟩ := hb
    exact h.ne hn0 a0 a ha0 ha (q.trans e.symm)
  have hr' : ERow w' w0.heap.size C' (m + 1) d' (mv ++ [y]) := by
    have e : (mv ++ [y]).map evLs = mv.map evLs ++ [evLs y] := by simp
    show TRow _ _ _ _ _ _ _ ((mv ++ [y]).map evLs)
    rw [e]
    exact h2
  have hmv : Moved w C C' := by
    rintro b ⟨a, ha, rfl⟩
    rcases h5 a ha with ⟨e, q1, q2⟩ | q
    · exact .inl ⟨e, q1, q2.symm⟩
    · exact .inr q
  have hA : 0 < n → ∀ y, A = some y → y.block < w.heap.size := by
    intro hn0 y hy
    obtain ⟨b, off, e⟩ := h.ev.form hn0
    have he := h.ev
    rw [e] at he hy
    injection hy with hy
    subst hy
    exact cell_lt (he.cell hn0 (j := 0) (by omega))
  refine ⟨C', d', w', h1, hg, hev, ⟨hgB, h.hs, ?_, ?_, h.nc, h.aO, by simp [h.hm], hr'.far (fun x hx => by have := (hr'.lt x hx).1; show x.block ≠ g; omega) _, fun hn0 => ((h.ne hn0).symm.moved hmv (hA hn0)).symm, ?_⟩⟩
  · have := hg.set 35 (.slice C' (m + 1) d')
    rwa [sh_setM h.hs] at this
  · exact hev.off fun b hn0 hb hlt => Below.heap_setCell w' ⟨g, 35, none⟩ _ b (by obtain ⟨a, ha, q⟩ := hb; have := h.aO hn0 a ha; show b ≠ g; omega)
  · exact kept_put (h.k.on (h3.less fun i hi => hi.1)) (p := ⟨g, 35, none⟩) (fun q => q.2 rfl) _
/-- The events are other ones, new. -/
theorem Shee.other (h : Shee w0 w g cs x A n c l C m d mv) {A' : Option Addr} {n' c' : Nat} {l' : List EvP} (hb : Below w.heap.size w w') (he : ERow w' w.heap.size A' n' c' l') (hl : l'.length = n') :
    Shee w0 (w'.setCell ⟨g, 23, none⟩ (.slice A' n' c')) g cs x A' n' c' l' C m d mv := by
  have h2 := h.below hb
  have hgl := h.h.size
  have hne : ∀ a, A' = some a → w.heap.size ≤ a.block := fun a ha => (he.lt a ha).1
  refine ⟨h.gB, h.hs, ?_, ?_, erow_caps he, ?_, h.hm, h2.r.far (fun x hx => by have := (h2.r.lt x hx).1; have := h.gB; show x.block ≠ g; omega) _, ?_, ?_⟩
  · have := h2.h.set 23 (.slice A' n' c')
    rwa [sh_setE h.hs] at this
  · exact (he.evs hl).off fun b _ hb' hlt => Below.heap_setCell w' ⟨g, 23, none⟩ _ b (by obtain ⟨a, ha, q⟩ := hb'; have := hne a ha; show b ≠ g; omega)
  · intro _ a ha e
    have := hne a ha
    omega
  · intro _ a y ha hy e
    have := hne a ha
    have := (h.r.lt y hy).2
    omega
  · exact kept_put h2.k (p := ⟨g, 23, none⟩) (fun q => q.2 rfl) _
end
end Go.Proofs.Ytedkhjbnjkcemaa

namespace Go.Proofs.Ytedkhjbnjkcemaa
open Go.RowKit
set_option linter.unusedVariables false
set_option linter.unusedSimpArgs false
set_option maxRecDepth 20000

/-- The slice, clipped. -/
def clipA (A : Option Addr) (n : Nat) : Option Addr := if n = 0 then A else A.map (·.add 0)
theorem clipA_is (A : Option Addr) (n : Nat) : clipA A n = A := by
  unfold clipA
  split
  · rfl
  · cases A with
    | none => rfl
    | some ad => rw [Option.map_some]; unfold Addr.add; split <;> simp_all
theorem run_clip (A : Option Addr) (n c : Nat) (hnc : n ≤ c) (w' : World) : (Instr.sliceAt 31 (.slice A n c) none (some (.int .i64 (n : Int))) (some (.int .i64 (n : Int)))).run Try.prog w' = .ok (.slice A n n) w' := by
  rw [run_sliceAt_slice _ _ _ _ _ _ Try.underlying31, run_slice_hm _ _ _ _ _ Try.underlying31 .i64 .i64 (n : Int) (n : Int) (by omega) (by omega) (by omega), ev_size]
  have := clipA_is A n
  unfold clipA at this
  simp [sliced, Result.andThen, this]
theorem clip_any (A : Option Addr) (n c : Nat) (hnc : n ≤ c) (hc : c ≤ 9223372036854775807) (w : World) : Calls Try.prog 72 #[.slice A n c] w fun e w' => e = .returned (.slice A n n) ∧ w = w' := by
  have HR := Lib.hid (fun w' => run_clip A n c hnc w')
  go_enter Try.func72, Try.ntmps72
  go_wp2_with (first | refine wpList_slice_run HR.out rfl rfl rfl rfl rfl rfl ?_ | fail)
  go_ret
  exact ⟨rfl, rfl⟩
/-- An append of one event onto what is clipped. -/
theorem push_clip {w : World} {A : Option Addr} {n c : Nat} {l : List EvP} (h : Evs w A n c l) (hn : n ≤ 1000000) (y : EvP) {s : Nat} (hs : w.heap.size = s) :
    ∃ A' c' w', (Builtin.append_ #[31, 31] 31 #[.slice A n n, .slice (some ⟨s, 0, none⟩) 1 1]).run Try.prog (w.alloc (.cells (evC y) 33)) = .ok (.slice A' (n + 1) c') w' ∧
      ERow w' w.heap.size A' (n + 1) c' (l ++ [y]) ∧ Below w.heap.size w w' := by
  subst hs
  obtain ⟨i, hi, hz, hsize, hby⟩ := info_parts ev_info
  have hl := evs_len (l := l)
  have hln := h.2
  have hs1 := evs_one w y
  have hnews : ∀ j u, (ints .i64 ([y].map evLs).flatten)[j]? = some u → (w.alloc (.cells (evC y) 33)).cell? ((⟨w.heap.size, 0, none⟩ : Addr).add j) = some u := by
    obtain ⟨⟨_, ⟨e, _⟩ | ⟨a, e, hc⟩⟩, _⟩ := hs1
    · cases e
    · injection e with e
      subst e
      exact hc
  have hnl : (ints .i64 ([y].map evLs).flatten).length = 1 * i.size := by rw [hsize]; rfl
  have eT : ints .i64 ((l ++ [y]).map evLs).flatten = ints .i64 (l.map evLs).flatten ++ ints .i64 ([y].map evLs).flatten := by simp [ints]
  have hz11 : (Value.agg (evC EvP.none)).cells.size = 11 := rfl
  obtain ⟨⟨hle, ⟨rfl, rfl, rfl⟩ | ⟨ad, rfl, hc⟩⟩, _⟩ := h
  · have hl0 : l = [] := List.eq_nil_of_length_eq_zero hln
    subst hl0
    have hr := run_append_nil (P := Try.prog) (w.alloc (.cells (evC y) 33)) 31 31 33 i _ Try.underlying31 hi hz ⟨w.heap.size, 0, none⟩ 1 1 _ hnl hnews (by omega) (by omega) (by rw [hby]; omega)
    have hge := grownCap_ge (w.alloc (.cells (evC y) 33)) 1 0 33
    have hcm := grownCap_le_maxLen (w.alloc (.cells (evC y) 33)) 1 0 33 (by simp only [maxLen]; omega)
    generalize grownCap (w.alloc (.cells (evC y) 33)) 1 0 33 = q at *
    refine ⟨_, _, _, hr, ⟨by rfl, .inr ⟨_, _, _, rfl, by simp, heap_alloc_new _ _, hge, hcm, ?_, ?_⟩⟩, bel_alloc (below_drew (bel_alloc (Below.refl _ _) _)) _⟩
    · rw [Array.size_append, size_zeroCells, hz11]
      have : (ints .i64 ([y].map evLs).flatten).length = 11 := rfl
      simp only [List.size_toArray, this]; omega
    · simp
      rfl
  · have hr := run_append_grow (P := Try.prog) (w.alloc (.cells (evC y) 33)) 31 31 33 i _ Try.underlying31 hi hz ad n n (ints .i64 (l.map evLs).flatten) (by rw [hsize, hl, hln])
      (fun j u hu => by have e := hc j u hu; rw [← e]; exact World.cell?_alloc_lt w _ _ (cell_lt e)) ⟨w.heap.size, 0, none⟩ 1 1 _ hnl hnews (by omega) (by omega) (growslice_fits (by omega) (by rw [hby]; omega))
    have hge := grownCap_ge (w.alloc (.cells (evC y) 33)) (n + 1) n 33
    have hcm := grownCap_le_maxLen (w.alloc (.cells (evC y) 33)) (n + 1) n 33 (by simp only [maxLen]; omega)
    generalize grownCap (w.alloc (.cells (evC y) 33)) (n + 1) n 33 = q at *
    refine ⟨_, _, _, hr, ⟨?_, .inr ⟨_, _, _, rfl, by simp, heap_alloc_new _ _, hge, hcm, ?_, ?_⟩⟩, bel_alloc (below_drew (bel_alloc (Below.refl _ _) _)) _⟩
    · rw [evs_len, List.length_append, hln]; rfl
    · rw [Array.size_append, Array.size_append, size_zeroCells, hz11]
      have : (ints .i64 ([y].map evLs).flatten).length = 11 := rfl
      simp only [List.size_toArray, this, hl, hln]
      omega
    · rw [eT, Array.toList_append, Array.toList_append]
      have h11 : (ints .i64 ([y].map evLs).flatten).length = 11 := rfl
      have hle2 : (ints .i64 (l.map evLs).flatten ++ ints .i64 ([y].map evLs).flatten).length = (n + 1) * 11 := by rw [List.length_append, hl, hln, h11]; omega
      show List.take ((n + 1) * 11) ((ints .i64 (l.map evLs).flatten ++ ints .i64 ([y].map evLs).flatten) ++ _) = _
      rw [List.take_append_of_le_length (by rw [hle2]; exact Nat.le_refl _), List.take_of_length_le (by rw [hle2]; exact Nat.le_refl _)]
theorem growE_none (w : World) : Calls Try.prog 93 #[.slice none 0 0, .int .i64 0] w fun e w' => e = .returned (.slice none 0 0) ∧ w = w' := by
  go_enter Try.func93, Try.ntmps93
  go_wp2
  go_ret
  exact ⟨rfl, rfl⟩
theorem growE_some (n : Nat) (w : World) (h0 : 0 < n) (hn : n ≤ 1000000) :
    Calls Try.prog 93 #[.slice none 0 0, .int .i64 n] w fun e w' => ∃ A' c', e = .returned (.slice A' 0 c') ∧ ERow w' w.heap.size A' 0 c' [] ∧ Below w.heap.size w w' := by
  obtain ⟨i, hi, hz, hsize, hby⟩ := info_parts ev_info
  have happ := Lib.run_append_nil_zeros (P := Try.prog) w 31 3 31 33 i _ .i64 .i64 Try.underlying31 Try.underlying3 hi hz n h0 (by omega) (by omega) (by rw [hby]; omega)
  generalize hcap : grownCap w n 0 33 = cap2 at happ
  have hcapge : n ≤ cap2 := by rw [← hcap]; exact grownCap_ge w _ 0 33
  have hcaple : cap2 ≤ maxLen := by rw [← hcap]; exact grownCap_le_maxLen w _ 0 33 (by unfold maxLen; omega)
  generalize hZ : (Builtin.zeroCells (Value.agg (evC EvP.none)).cells n ++ Builtin.zeroCells (Value.agg (evC EvP.none)).cells (cap2 - n)) = Z at happ
  have hz11 : (Value.agg (evC EvP.none)).cells.size = 11 := rfl
  have hZs : Z.size = cap2 * 11 := by rw [← hZ]; rw [Array.size_append, size_zeroCells, size_zeroCells, hz11]; omega
  clear hcap hZ
  have hrow : ERow (w.drew.alloc (.cells Z 33)) w.heap.size (some ⟨w.heap.size, 0, none⟩) 0 cap2 [] :=
    ⟨rfl, .inr ⟨_, cap2, Z, rfl, Nat.le_refl _, heap_alloc_new w.drew _, by simp, hcaple, by omega, by simp [ints]⟩⟩
  have hb : Below w.heap.size w (w.drew.alloc (.cells Z 33)) := bel_alloc (below_drew (Below.refl _ _)) _
  have HR := Lib.hid hrow
  have HA := Lib.hid happ
  have hm : cap2 ≤ 9223372036854775807 := by unfold maxLen at hcaple; omega
  clear happ hrow
  have h0' : (0 : Int) < (n : Int) := by omega
  go_enter Try.func93, Try.ntmps93
  go_wp2_with (at_builtin; refine Lib.wpList_append_run _ rfl _ _ _ _ rfl _ _ rfl rfl _ _ HA.out ?_)
  go_ret
  exact ⟨_, cap2, rfl, HR.out, hb⟩
theorem growE_any (n : Nat) (w : World) (hn : n ≤ 1000000) :
    Calls Try.prog 93 #[.slice none 0 0, .int .i64 n] w fun e w' => ∃ A' c', e = .returned (.slice A' 0 c') ∧ ERow w' w.heap.size A' 0 c' [] ∧ Below w.heap.size w w' := by
  rcases Nat.eq_zero_or_pos n with rfl | h0
  · refine (growE_none w).mono ?_
    rintro e w' ⟨rfl, rfl⟩
    exact ⟨none, 0, rfl, TRow.nil _ _, Below.refl _ _⟩
  · exact growE_some n w h0 hn
set_option maxHeartbeats 2000000 in
/-- 'slices.Concat' of two slices of events. -/
theorem concatE_any (g : Nat) (A B : Option Addr) (n c m d : Nat) (l l' : List EvP) (w : World) (hg : Has w g #[.slice A n c, .slice B m d]) (ha : Evs w A n c l) (hb : Evs w B m d l') (hn : n ≤ 10000) (hm : m ≤ 10000) {q : Nat} (hq : n + m = q) :
    Calls Try.prog 73 #[.slice (some ⟨g, 0, none⟩) 2 2] w fun e w' => ∃ A' c', e = .returned (.slice A' q c') ∧ ERow w' w.heap.size A' q c' (l ++ l') ∧ Below w.heap.size w w' := by
  have q0 := hg.cell 0 rfl
  have q1 := hg.cell 1 rfl
  have qz := hg.size
  have HG := Lib.hid hg
  have HA := Lib.hid ha
  have HB := Lib.hid hb
  have hq1 : q ≤ 20000 := by omega
  have e1 : IntKind.i64.wrap ((n : Int) + (m : Int)) = (q : Int) := by rw [show (n : Int) + (m : Int) = (q : Int) by omega]; exact wrapp_id (by omega) (by omega)
  have hnq : (n : Int) + (m : Int) = (q : Int) := by omega
  have HQ := Lib.hid hq
  have HGr := Lib.hid (fun W => growE_any q W (by omega))
  clear hg ha hb hq
  go_enter Try.func73, Try.ntmps73
  go_wp2
  refine wp_loop_rounds 3 ?_
  rw [rounds_succ]
  go_wp2
  rw [rounds_succ]
  go_wp2
  rw [rounds_succ]
  go_wp2_with fail
  refine (HGr.out _).mono ?_
  rintro e w1 ⟨A1, c1, rfl, hrow1, hb1⟩
  obtain ⟨A2, c2, w2, hr2, hrow2, hb2, _⟩ := erow_append hrow1 (HA.out.below hb1) (by omega) hb1.size (Nat.zero_add n)
  have hb2' := hb2 w (Nat.le_refl _) hb1
  obtain ⟨A3, c3, w3, hr3, hrow3, hb3, _⟩ := erow_append hrow2 (HB.out.below hb2') (by omega) hb2'.size HQ.out
  have hb3' := hb3 w (Nat.le_refl _) hb2'
  have p0 := (HG.out.below hb1).cell 0 rfl
  have pz := (HG.out.below hb1).size
  have p1 := (HG.out.below hb2').cell 1 rfl
  have pz1 := (HG.out.below hb2').size
  have HR2 := Lib.hid hr2
  have HR3 := Lib.hid hr3
  have HW3 := Lib.hid hrow3
  clear hr2 hr3 hrow1 hrow2 hrow3 hb2 hb3 hb2' hb1
  go_wp2
  refine wp_loop_rounds 3 ?_
  rw [rounds_succ]
  go_wp2_with (first | (at_builtin; refine wpList_append_run (o := ⟨some 33, _, _, _, _, _⟩) HR2.out rfl rfl rfl rfl ?_) | fail)
  rw [rounds_succ]
  go_wp2_with (first | (at_builtin; refine wpList_append_run (o := ⟨some 33, _, _, _, _, _⟩) HR3.out rfl rfl rfl rfl ?_) | fail)
  rw [rounds_succ]
  go_wp2
  (try simp only [Exit.inBlock, Exit.then])
  refine bodyPost_ret (v := .slice A3 q c3) (by simp [results, Try.results73, go_sem]) rfl ⟨A3, c3, rfl, ?_, hb3'⟩
  have := HW3.out
  rwa [List.nil_append] at this
end Go.Proofs.Ytedkhjbnjkcemaa
