/-
  A loop over a function that makes new blocks between two rounds, and hands two slices of bytes to each: what such a function is asked ('SeqBy'), and the law of the loop ('range_by'). Over any program.
-/
import Derived.Test.YtfjbpjojpjkfcaaBss
import Derived.RangeFuncNested
import Derived.RangeFuncBound
import Derived.RangeFuncCalls
import Derived.RangeFuncLeaves
namespace Go.Proofs.Ytfjbpjojpjkfcaa
open Go.RowKit
set_option linter.unusedVariables false

/-- A value that is a slice of the bytes p, that lie below n. -/
def Lay (n : Nat) (w : World) (v : Value) (p : List (BitVec 8)) : Prop := ∃ B d, v = .slice B p.length d ∧ Sl 1 w B p.length d (bytesV p) ∧ p.length ≤ d ∧ (∀ g, B = some g → 0 < p.length → g.block < n)
theorem Lay.below {n : Nat} {w w' : World} {v : Value} {p : List (BitVec 8)} (h : Lay n w v p) (hb : Below n w w') : Lay n w' v p := by
  obtain ⟨B, d, e, hs, hd, hl⟩ := h
  refine ⟨B, d, e, hs.blk fun ad hA hm => hb.block _ (hl ad hA hm), hd, hl⟩
theorem Lay.pval {n : Nat} {w : World} {v : Value} {p : List (BitVec 8)} (h : Lay n w v p) : PVal w v p := by
  obtain ⟨B, d, e, hs, hd, _⟩ := h
  exact ⟨B, d, e, hs, hd⟩
theorem lay_of {w : World} {B : Option Addr} {m d : Nat} {p : List (BitVec 8)} (hs : Sl 1 w B m d (bytesV p)) (hd : m ≤ d) : Lay w.heap.size w (.slice B m d) p := by
  have := hs.blen
  subst this
  exact ⟨B, d, rfl, hs, hd, fun g hg hp => by subst hg; exact hs.first_lt hp⟩

abbrev Two8 := List (BitVec 8) × List (BitVec 8)
/-- The function gf, with lb captured, hands the pairs ps, that lie below n₀, to whatever loop it runs, in their order, or as many of them as the loop wants; a round leaves what is below n₀ as it is. -/
def SeqBy (P : Program) (gf : Nat) (lb : Array Value) (n₀ : Nat) (ps : List Two8) (w : World) : Prop :=
  ∀ (l : Nat) (J : List Two8 → World → Prop) (Jx : List Two8 → World → Prop) (W : World), Below w.heap.size w W → (∀ pre A A', J pre A → Below A.heap.size A A' → J pre A') → (∀ pre A A', Jx pre A → Below A.heap.size A A' → Jx pre A') →
    (∀ pre x v u W1, J pre W1 → pre ++ [x] <+: ps → Lay n₀ W1 v x.1 → Lay n₀ W1 u x.2 → YieldAt Fence.wide 0 P l #[v, u] W1 fun e W' =>
      (e = .returned (.bool true) ∧ J (pre ++ [x]) W' ∧ Below n₀ W1 W' ∧ W1.heap.size ≤ W'.heap.size) ∨ (e = .returned (.bool false) ∧ Jx (pre ++ [x]) W')) →
    J [] W →
    CallsIn Fence.wide 0 P gf (#[.func (.yield l) #[] #[]] ++ lb) W fun e W' => (∃ v, e = .returned v) ∧ ((J ps W') ∨ (∃ pre, pre <+: ps ∧ Jx pre W'))

/-- How a round's body may be left. -/
def bypost (n₁ n₀ : Nat) (I : List Two8 → World → Prop) (Ix : Code → List Two8 → World → Prop) (pre : List Two8) (W : World) : Exit → Act → World → Prop
  | .normal, _, W' => KeepsFrom n₁ W W' ∧ Below n₀ W W' ∧ I pre W'
  | .exit id, _, W' => KeepsFrom n₁ W W' ∧ Ix (.exit id) pre W'
  | .ret, _, W' => KeepsFrom n₁ W W' ∧ Ix .ret pre W'
  | _, _, _ => False

theorem below_putObjN {B : Nat} {W : World} {l : Nat} (o : Obj) (hl : B ≤ l) : Below B W (W.putObj l o) :=
  ⟨rfl, rfl, rfl, by simp, fun k hk => World.putObj_heap_other (by omega)⟩

/-- The law of such a loop. -/
theorem range_by {P : Program} {g : Operand} {pt : Array Tmp} {assign body : Code} {Q : Exit → Act → World → Prop} {a : Act} {w : World} {gf : Nat} {lb : Array Value} {ps : List Two8} {n₀ : Nat}
    (hg : a.eval g = .func (.func gf) #[] lb) (eg : ∀ args w, (callFunc gf args).run P w = .ok (.enter gf args) w) (hseq : SeqBy P gf lb n₀ ps w) (hn : n₀ ≤ w.heap.size) (hpt : pt.size = 2)
    (I : List Two8 → World → Prop) (Ix : Code → List Two8 → World → Prop) (hI : ∀ pre A A', I pre A → Below A.heap.size A A' → I pre A') (hIx : ∀ c pre A A', Ix c pre A → Below A.heap.size A A' → Ix c pre A')
    (hput : ∀ pre W l o o', I pre W → w.heap.size ≤ l → W.heap[l]? = some o → o.isCells = false → I pre (W.putObj l o'))
    (hxput : ∀ c pre W l o o', Ix c pre W → w.heap.size ≤ l → W.heap[l]? = some o → o.isCells = false → Ix c pre (W.putObj l o'))
    (h0 : I [] w) (a₁ : Value → Value → Act)
    (hassign : ∀ (l : Nat) (v u : Value) (W : World) (K : Act → World → Prop), K (a₁ v u) W →
      assign.wpIn (Fence.wide.inRound l) 0 P (Exit.then K (fun _ _ _ => False)) { tmps := (pt.zip #[v, u]).foldl (fun t (p, v) => t.setIfInBounds p v) a.tmps, defers := [] } W)
    (hbody : ∀ (l : Nat) (pre : List Two8) (x : Two8) (v u : Value) (W : World), I pre W → Lay n₀ W v x.1 → Lay n₀ W u x.2 → pre ++ [x] <+: ps →
      body.wpIn (Fence.wide.inRound l) 0 P (bypost w.heap.size n₀ I Ix (pre ++ [x]) W) (a₁ v u) W)
    (hdone : ∀ (D : Nat) (W : World), w.heap.size ≤ D → I ps W → W.heap[D]? = some (.deferred (some [])) → Q .normal { a with defers := { target := .collected D, args := #[] } :: a.defers } W)
    (hstop : ∀ (D : Nat) (c : Code) (pre : List Two8) (W : World), w.heap.size ≤ D → pre <+: ps → Ix c pre W → W.heap[D]? = some (.deferred (some [])) → c.wpIn Fence.wide 0 P Q { a with defers := { target := .collected D, args := #[] } :: a.defers } W) :
    (Code.rangeFunc g pt assign body).wpIn Fence.wide 0 P Q a w := by
  refine wpIn_rangeFunc fun fn _ => ?_
  let rec0 : Loop := { state := .ready, pending := none, fn, tmps := a.tmps, params := pt, assign, body, defers := w.heap.size }
  let W1 : World := (w.alloc (.deferred (some []))).alloc (.loop rec0)
  have s1 : W1.heap.size = w.heap.size + 2 := by simp [W1]
  have r1 : W1.heap[w.heap.size + 1]? = some (.loop rec0) := by
    have := World.alloc_heap_new (w.alloc (.deferred (some []))) (.loop rec0)
    rwa [World.size_alloc] at this
  have d1 : W1.heap[w.heap.size]? = some (.deferred (some [])) :=
    (Below.heap_alloc _ _ _ (by simp)).trans (World.alloc_heap_new w _)
  refine ⟨w.heap.size + 1, [{ target := .collected w.heap.size, args := #[] }], W1, { target := .fn (.func gf) lb, args := #[.func (.yield (w.heap.size + 1)) #[] #[]] }, W1, gf,
    #[.func (.yield (w.heap.size + 1)) #[] #[]] ++ lb, W1, run_enterLoop_outer _ _ _ _ _, ?_, fun _ _ => trivial, ?_, (fun h => by simp [Fence.wide] at h), ?_⟩
  · simp only [resolve, hg]
    simp [go_sem]
  · simp [invoke, go_sem, eg]
  let J : List Two8 → World → Prop := fun pre W => I pre W ∧ W.heap[w.heap.size + 1]? = some (.loop rec0) ∧ W.heap[w.heap.size]? = some (.deferred (some []))
  let Jx : List Two8 → World → Prop := fun pre W => ∃ c, Ix c pre W ∧ W.heap[w.heap.size + 1]? = some (.loop { rec0 with state := .done, pending := some c }) ∧ W.heap[w.heap.size]? = some (.deferred (some []))
  have lt : ∀ {W : World} {o : Obj} {k : Nat}, W.heap[k]? = some o → k < W.heap.size := fun h => (Array.getElem?_eq_some_iff.1 h).1
  have hJ : ∀ pre A A', J pre A → Below A.heap.size A A' → J pre A' := fun pre A A' h hb => ⟨hI _ _ _ h.1 hb, (hb.block _ (lt h.2.1)).trans h.2.1, (hb.block _ (lt h.2.2)).trans h.2.2⟩
  have hJx : ∀ pre A A', Jx pre A → Below A.heap.size A A' → Jx pre A' := fun pre A A' ⟨c, h1, h2, h3⟩ hb => ⟨c, hIx _ _ _ _ h1 hb, (hb.block _ (lt h2)).trans h2, (hb.block _ (lt h3)).trans h3⟩
  have hbW : Below w.heap.size w W1 := ((Below.refl _ w).alloc (Nat.le_refl _) _).alloc (by simp) _
  refine (hseq (w.heap.size + 1) J Jx W1 hbW hJ hJx ?_ ⟨hI _ _ _ h0 hbW, r1, d1⟩).mono ?_
  · rintro pre x v u W ⟨hi, hr, hd⟩ hx hv hu
    have hy := run_yield (P := P) (args := #[v, u]) hr (by show 2 = pt.size; rw [hpt])
    refine ⟨fn, _, assign, body, hy, roundIn_of_wpIn trivial (hassign _ v u W _ ?_)⟩
    have hrl := lt hr
    let busy : Obj := .loop { rec0 with state := .busy }
    refine ⟨_, run_beginRound hr rfl, ?_⟩
    have hr3 : (W.putObj (w.heap.size + 1) busy).heap[w.heap.size + 1]? = some busy := World.putObj_heap_same (lt hr)
    have hd3 : (W.putObj (w.heap.size + 1) busy).heap[w.heap.size]? = some (.deferred (some [])) := (World.putObj_heap_other (by omega)).trans hd
    have hb3 : Below n₀ W (W.putObj (w.heap.size + 1) busy) := below_putObjN busy (by omega)
    refine wpIn_mono (hbody _ pre x v u _ (hput _ _ _ _ busy hi (by omega) hr rfl) (hv.below hb3) (hu.below hb3) hx) ?_
    rintro e a3 W3 hp
    cases e with
    | normal =>
      obtain ⟨p1, p3, p4⟩ := hp
      have hr4 := p1.same _ _ (by omega) hr3 rfl
      have hd4 := p1.same _ _ (Nat.le_refl _) hd3 rfl
      refine ⟨_, _, run_endRound none hr4, .inl ⟨rfl, ⟨hput _ _ _ _ _ p4 (by omega) hr4 rfl, World.putObj_heap_same (lt hr4), (World.putObj_heap_other (by omega)).trans hd4⟩, ?_, ?_⟩⟩
      · exact hb3.trans (p3.trans (below_putObjN _ (by omega)))
      · have q1 := p1.size; simp at q1 ⊢; omega
    | exit id =>
      obtain ⟨p1, p2⟩ := hp
      have hr4 := p1.same _ _ (by omega) hr3 rfl
      have hd4 := p1.same _ _ (Nat.le_refl _) hd3 rfl
      exact ⟨_, _, run_endRound (some (.exit id)) hr4, .inr ⟨rfl, .exit id, hxput _ _ _ _ _ _ p2 (by omega) hr4 rfl, World.putObj_heap_same (lt hr4), (World.putObj_heap_other (by omega)).trans hd4⟩⟩
    | ret =>
      obtain ⟨p1, p2⟩ := hp
      have hr4 := p1.same _ _ (by omega) hr3 rfl
      have hd4 := p1.same _ _ (Nat.le_refl _) hd3 rfl
      exact ⟨_, _, run_endRound (some .ret) hr4, .inr ⟨rfl, .ret, hxput _ _ _ _ _ _ p2 (by omega) hr4 rfl, World.putObj_heap_same (lt hr4), (World.putObj_heap_other (by omega)).trans hd4⟩⟩
    | goto t => exact hp.elim
    | panic ch => exact hp.elim
    | outgrown => exact hp.elim
  · rintro e W2 ⟨⟨v, rfl⟩, ⟨hi, hr, hd⟩ | ⟨pre, hpre, c, hi, hr, hd⟩⟩
    · exact ⟨none, _, run_endLoop hr (by simp [rec0]), hdone _ _ (Nat.le_refl _) (hput _ _ _ _ _ hi (by omega) hr rfl) ((World.putObj_heap_other (by omega)).trans hd)⟩
    · exact ⟨some c, _, run_endLoop hr (by simp), hstop _ c pre _ (Nat.le_refl _) hpre (hxput _ _ _ _ _ _ hi (by omega) hr rfl) ((World.putObj_heap_other (by omega)).trans hd)⟩
end Go.Proofs.Ytfjbpjojpjkfcaa
