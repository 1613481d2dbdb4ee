/-
  A loop over a function that keeps cells of its own between two rounds: what such a function is asked ('SeqOf'), and the law of the loop ('range_own'). Over any program.
-/
import Derived.Test.YtojhecllgkoclaaSpMem
import Derived.RangeFuncNested
import Derived.RangeFuncBound
import Derived.RangeFuncCalls
import Derived.RangeFuncLeaves
namespace Go.Proofs.Ytojhecllgkoclaa
open Go.RowKit
set_option linter.unusedVariables false

/-- What the loop's word J bears of the function that runs it: new blocks, blocks of the function's own (ks), stores into these. -/
structure Lets (J : List Nat → List (Int × Int) → World → Prop) : Prop where
  alloc : ∀ ks pre A o, J ks pre A → J ks pre (A.alloc o)
  own : ∀ ks pre A o, J ks pre A → J (A.heap.size :: ks) pre (A.alloc o)
  set : ∀ ks pre A k i v, J ks pre A → k ∈ ks → J ks pre (A.setCell ⟨k, i, none⟩ v)
  less : ∀ ks k pre A, J (k :: ks) pre A → J ks pre A

def agg2 (x : Int × Int) : Value := .agg #[.int .i64 x.1, .int .i64 x.2]

/-- The function gf, with lb captured, hands the parts ps to whatever loop it runs, in their order, or as many of them as the loop wants; a round leaves the function's own blocks, and what is below n₀, as they are. -/
def SeqOf (P : Program) (gf : Nat) (lb : Array Value) (n₀ : Nat) (ps : List (Int × Int)) (w : World) : Prop :=
  ∀ (l : Nat) (J : List Nat → List (Int × Int) → World → Prop) (Jx : List (Int × Int) → World → Prop) (W : World), Below w.heap.size w W → Lets J →
    (∀ ks pre x W1, J ks pre W1 → pre ++ [x] <+: ps → YieldAt Fence.wide 0 P l #[agg2 x] W1 fun e W' =>
      (e = .returned (.bool true) ∧ J ks (pre ++ [x]) W' ∧ (∀ k ∈ ks, W'.heap[k]? = W1.heap[k]?) ∧ Below n₀ W1 W') ∨ (e = .returned (.bool false) ∧ Jx (pre ++ [x]) W')) →
    J [] [] W →
    CallsIn Fence.wide 0 P gf (#[.func (.yield l) #[] #[]] ++ lb) W fun e W' => (∃ v, e = .returned v) ∧ ((∃ ks, J ks ps W') ∨ (∃ pre, pre <+: ps ∧ Jx pre W'))

/-- How a round's body may be left. -/
def rpost (n₁ n₀ : Nat) (ks : List Nat) (I : List Nat → List (Int × Int) → World → Prop) (Ix : Code → List (Int × Int) → World → Prop) (pre : List (Int × Int)) (W : World) : Exit → Act → World → Prop
  | .normal, _, W' => KeepsFrom n₁ W W' ∧ (∀ k ∈ ks, W'.heap[k]? = W.heap[k]?) ∧ Below n₀ W W' ∧ I ks pre W'
  | .exit id, _, W' => KeepsFrom n₁ W W' ∧ Ix (.exit id) pre W'
  | _, _, _ => False

theorem grownBy_setCell (W : World) (p : Addr) (v : Value) : W.grownBy (W.setCell p v) (some p.block) :=
  ⟨rfl, rfl, rfl, (KeepsWalks.setCell W _ v).size, fun k _ hk => Below.heap_setCell _ _ _ k (fun e => hk (by rw [e]))⟩
theorem below_putObj {B : Nat} {W : World} {l : Nat} (o : Obj) (hl : B ≤ l) : Below B W (W.putObj l o) :=
  ⟨rfl, rfl, rfl, by simp, fun k hk => World.putObj_heap_other (by omega)⟩

/-- The law of such a loop, whose variable lies in a block of its own. -/
theorem range_own {P : Program} {g : Operand} {pt : Array Tmp} {assign body : Code} {Q : Exit → Act → World → Prop} {a : Act} {w : World} {gf : Nat} {lb : Array Value} {ps : List (Int × Int)} {n₀ : Nat} {T : TypeId}
    (hg : a.eval g = .func (.func gf) #[] lb) (eg : ∀ args w, (callFunc gf args).run P w = .ok (.enter gf args) w) (hseq : SeqOf P gf lb n₀ ps w) (hn : n₀ ≤ w.heap.size) (hpt : pt.size = 1)
    (I : List Nat → List (Int × Int) → World → Prop) (Ix : Code → List (Int × Int) → World → Prop) (hI : Lets I)
    (hput : ∀ ks pre W l o o', I ks pre W → w.heap.size ≤ l → W.heap[l]? = some o → o.isCells = false → I ks pre (W.putObj l o'))
    (hxput : ∀ c pre W l o o', Ix c pre W → w.heap.size ≤ l → W.heap[l]? = some o → o.isCells = false → Ix c pre (W.putObj l o'))
    (h0 : I [] [] w) (a₁ : Nat → Int × Int → Act)
    (hassign : ∀ (l : Nat) (x : Int × Int) (W : World) (K : Act → World → Prop), K (a₁ W.heap.size x) (W.alloc (.cells #[.int .i64 x.1, .int .i64 x.2] T)) →
      assign.wpIn (Fence.wide.inRound l) 0 P (Exit.then K (fun _ _ _ => False)) { tmps := (pt.zip #[agg2 x]).foldl (fun t (p, v) => t.setIfInBounds p v) a.tmps, defers := [] } W)
    (hbody : ∀ (l : Nat) (ks : List Nat) (pre : List (Int × Int)) (x : Int × Int) (B : Nat) (W : World), I (B :: ks) pre W → Has W B #[.int .i64 x.1, .int .i64 x.2] → pre ++ [x] <+: ps →
      body.wpIn (Fence.wide.inRound l) 0 P (rpost w.heap.size n₀ ks I Ix (pre ++ [x]) W) (a₁ B x) W)
    (hdone : ∀ (D : Nat) (ks : List Nat) (W : World), w.heap.size ≤ D → I ks ps W → W.heap[D]? = some (.deferred (some [])) → Q .normal { a with defers := { target := .collected D, args := #[] } :: a.defers } W)
    (hstop : ∀ (D : Nat) (c : Code) (pre : List (Int × Int)) (W : World), w.heap.size ≤ D → pre <+: ps → Ix c pre W → W.heap[D]? = some (.deferred (some [])) → c.wpIn Fence.wide 0 P Q { a with defers := { target := .collected D, args := #[] } :: a.defers } W) :
    (Code.rangeFunc g pt assign body).wpIn Fence.wide 0 P Q a w := by
  refine wpIn_rangeFunc fun fn _ => ?_
  let rec0 : Loop := { state := .ready, pending := none, fn, tmps := a.tmps, params := pt, assign, body, defers := w.heap.size }
  let W1 : World := (w.alloc (.deferred (some []))).alloc (.loop rec0)
  have s1 : W1.heap.size = w.heap.size + 2 := by simp [W1]
  have r1 : W1.heap[w.heap.size + 1]? = some (.loop rec0) := by
    have := World.alloc_heap_new (w.alloc (.deferred (some []))) (.loop rec0)
    rwa [World.size_alloc] at this
  have d1 : W1.heap[w.heap.size]? = some (.deferred (some [])) :=
    (Below.heap_alloc _ _ _ (by simp)).trans (World.alloc_heap_new w _)
  refine ⟨w.heap.size + 1, [{ target := .collected w.heap.size, args := #[] }], W1, { target := .fn (.func gf) lb, args := #[.func (.yield (w.heap.size + 1)) #[] #[]] }, W1, gf,
    #[.func (.yield (w.heap.size + 1)) #[] #[]] ++ lb, W1, run_enterLoop_outer _ _ _ _ _, ?_, fun _ _ => trivial, ?_, (fun h => by simp [Fence.wide] at h), ?_⟩
  · simp only [resolve, hg]
    simp [go_sem]
  · simp [invoke, go_sem, eg]
  let J : List Nat → List (Int × Int) → World → Prop := fun ks pre W => I ks pre W ∧ W.heap[w.heap.size + 1]? = some (.loop rec0) ∧ W.heap[w.heap.size]? = some (.deferred (some [])) ∧ ∀ k ∈ ks, w.heap.size + 2 ≤ k ∧ k < W.heap.size
  let Jx : List (Int × Int) → World → Prop := fun pre W => ∃ c, Ix c pre W ∧ W.heap[w.heap.size + 1]? = some (.loop { rec0 with state := .done, pending := some c }) ∧ W.heap[w.heap.size]? = some (.deferred (some []))
  have lt : ∀ {W : World} {o : Obj} {k : Nat}, W.heap[k]? = some o → k < W.heap.size := fun h => (Array.getElem?_eq_some_iff.1 h).1
  have hJ : Lets J :=
    { alloc := fun ks pre A o h => ⟨hI.alloc _ _ _ o h.1, (Below.heap_alloc A o _ (lt h.2.1)).trans h.2.1, (Below.heap_alloc A o _ (lt h.2.2.1)).trans h.2.2.1, fun k hk => by have := h.2.2.2 k hk; simp; omega⟩
      own := fun ks pre A o h => ⟨hI.own _ _ _ o h.1, (Below.heap_alloc A o _ (lt h.2.1)).trans h.2.1, (Below.heap_alloc A o _ (lt h.2.2.1)).trans h.2.2.1, fun k hk => by
        rcases List.mem_cons.1 hk with rfl | hk
        · have := lt h.2.1; simp; omega
        · have := h.2.2.2 k hk; simp; omega⟩
      set := fun ks pre A k i v h hk => by
        have := h.2.2.2 k hk
        exact ⟨hI.set _ _ _ k i v h.1 hk, (Below.heap_setCell A _ v _ (by simp only []; omega)).trans h.2.1, (Below.heap_setCell A _ v _ (by simp only []; omega)).trans h.2.2.1, fun j hj => by have := h.2.2.2 j hj; have e := (grownBy_setCell A ⟨k, i, none⟩ v).size; omega⟩
      less := fun ks k pre A h => ⟨hI.less _ _ _ _ h.1, h.2.1, h.2.2.1, fun j hj => h.2.2.2 j (List.mem_cons_of_mem _ hj)⟩ }
  have hbW : Below w.heap.size w W1 := ((Below.refl _ w).alloc (Nat.le_refl _) _).alloc (by simp) _
  refine (hseq (w.heap.size + 1) J Jx W1 hbW hJ ?_ ⟨hI.alloc _ _ _ _ (hI.alloc _ _ _ _ h0), r1, d1, by simp⟩).mono ?_
  · rintro ks pre x W ⟨hi, hr, hd, hk⟩ hx
    have hy := run_yield (P := P) (args := #[agg2 x]) hr (by show 1 = pt.size; rw [hpt])
    refine ⟨fn, _, assign, body, hy, roundIn_of_wpIn trivial (hassign _ x W _ ?_)⟩
    have hW2 := hI.own _ _ _ (.cells #[.int .i64 x.1, .int .i64 x.2] T) hi
    have hH2 : Has (W.alloc (.cells #[.int .i64 x.1, .int .i64 x.2] T)) W.heap.size #[.int .i64 x.1, .int .i64 x.2] := Has.new _ _ _ rfl
    have hr2 := (Below.heap_alloc W (.cells #[.int .i64 x.1, .int .i64 x.2] T) _ (lt hr)).trans hr
    have hd2 := (Below.heap_alloc W (.cells #[.int .i64 x.1, .int .i64 x.2] T) _ (lt hd)).trans hd
    have hrl := lt hr
    have hold : ∀ k, k < W.heap.size → (W.alloc (.cells #[.int .i64 x.1, .int .i64 x.2] T)).heap[k]? = W.heap[k]? := fun k hk => Below.heap_alloc W _ k hk
    have hb2 : Below n₀ W (W.alloc (.cells #[.int .i64 x.1, .int .i64 x.2] T)) := (Below.refl _ W).alloc (by omega) _
    generalize hW2e : W.alloc (.cells #[.int .i64 x.1, .int .i64 x.2] T) = W2 at *
    let busy : Obj := .loop { rec0 with state := .busy }
    refine ⟨_, run_beginRound hr2 rfl, ?_⟩
    have hr3 : (W2.putObj (w.heap.size + 1) busy).heap[w.heap.size + 1]? = some busy := World.putObj_heap_same (lt hr2)
    have hd3 : (W2.putObj (w.heap.size + 1) busy).heap[w.heap.size]? = some (.deferred (some [])) := (World.putObj_heap_other (by omega)).trans hd2
    have hH3 : Has (W2.putObj (w.heap.size + 1) busy) W.heap.size #[.int .i64 x.1, .int .i64 x.2] := by
      obtain ⟨t, ht⟩ := hH2
      exact ⟨t, (World.putObj_heap_other (by omega)).trans ht⟩
    refine wpIn_mono (hbody _ ks pre x W.heap.size _ (hput _ _ _ _ _ busy hW2 (by omega) hr2 rfl) hH3 hx) ?_
    rintro e a3 W3 hp
    cases e with
    | normal =>
      obtain ⟨p1, p2, p3, p4⟩ := hp
      have hr4 := p1.same _ _ (by omega) hr3 rfl
      have hd4 := p1.same _ _ (Nat.le_refl _) hd3 rfl
      refine ⟨_, _, run_endRound none hr4, .inl ⟨rfl, ⟨hput _ _ _ _ _ _ p4 (by omega) hr4 rfl, World.putObj_heap_same (lt hr4), (World.putObj_heap_other (by omega)).trans hd4, fun k hkk => ⟨(hk k hkk).1, ?_⟩⟩, fun k hkk => ?_, ?_⟩⟩
      · have := (hk k hkk).2; have q1 := p1.size; have q2 := hb2.size; simp at q1 ⊢; omega
      · have hk2 := hk k hkk
        rw [World.putObj_heap_other (by omega), p2 k hkk, World.putObj_heap_other (by omega)]
        exact hold k hk2.2
      · exact (hb2.trans (below_putObj busy (by omega))).trans (p3.trans (below_putObj _ (by omega)))
    | exit id =>
      obtain ⟨p1, p2⟩ := hp
      have hr4 := p1.same _ _ (by omega) hr3 rfl
      have hd4 := p1.same _ _ (Nat.le_refl _) hd3 rfl
      exact ⟨_, _, run_endRound (some (.exit id)) hr4, .inr ⟨rfl, .exit id, hxput _ _ _ _ _ _ p2 (by omega) hr4 rfl, World.putObj_heap_same (lt hr4), (World.putObj_heap_other (by omega)).trans hd4⟩⟩
    | ret => exact hp.elim
    | goto t => exact hp.elim
    | panic ch => exact hp.elim
    | outgrown => exact hp.elim
  · rintro e W2 ⟨⟨v, rfl⟩, ⟨ks, hi, hr, hd, _⟩ | ⟨pre, hpre, c, hi, hr, hd⟩⟩
    · exact ⟨none, _, run_endLoop hr (by simp [rec0]), hdone _ ks _ (Nat.le_refl _) (hput _ _ _ _ _ _ hi (by omega) hr rfl) ((World.putObj_heap_other (by omega)).trans hd)⟩
    · exact ⟨some c, _, run_endLoop hr (by simp), hstop _ c pre _ (Nat.le_refl _) hpre (hxput _ _ _ _ _ _ hi (by omega) hr rfl) ((World.putObj_heap_other (by omega)).trans hd)⟩
end Go.Proofs.Ytojhecllgkoclaa
