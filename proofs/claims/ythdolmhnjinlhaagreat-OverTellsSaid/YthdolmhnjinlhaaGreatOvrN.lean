/-
  A loop over a function that makes blocks of its own and hands a slice of spans to each round, whose variable lies in a block of its own: what such a function is asked ('SeqL'), and the law of the loop ('range_lists'). Over any program.
-/
import Derived.Test.YthdolmhnjinlhaaGreatZab
import Derived.Test.YthdolmhnjinlhaaGreatZal
import Derived.RangeFuncNested
import Derived.RangeFuncBound
import Derived.RangeFuncCalls
import Derived.RangeFuncLeaves
namespace Go.Proofs.YthdolmhnjinlhaaGreat
open Go.RowKit
set_option linter.unusedVariables false

/-- What is new between two worlds, together with the blocks G. -/
def Grow (G : Nat → Prop) (A A' : World) : Nat → Prop := fun b => G b ∨ (A.heap.size ≤ b ∧ b < A'.heap.size)
/-- The function gf, with lb captured, hands the lists L 0 .. L (N - 1) to whatever loop it runs; G: the blocks that are its own, which a round leaves as they are. -/
def SeqL (P : Program) (gf : Nat) (lb : Array Value) (G0 : Nat → Prop) (N : Nat) (L : Nat → List (Int × Int)) (w : World) : Prop :=
  ∀ (l : Nat) (J : (Nat → Prop) → Nat → World → Prop) (W : World), Below w.heap.size w W →
    (∀ G k A A', J G k A → Below A.heap.size A A' → J (Grow G A A') k A') →
    (∀ G k W1 B c, J G k W1 → k < N → Spans W1 B (L k) → (∀ a, B = some a → G a.block) → YieldAt Fence.wide 0 P l #[.slice B (L k).length c] W1 fun e W' => e = .returned (.bool true) ∧ J G (k + 1) W' ∧ Kept G W1 W') →
    J G0 0 W →
    CallsIn Fence.wide 0 P gf (#[.func (.yield l) #[] #[]] ++ lb) W fun e W' => (∃ v, e = .returned v) ∧ ∃ G, J G N W'

/-- How a round's body is left. -/
def lpost (n₁ : Nat) (G : Nat → Prop) (I : (Nat → Prop) → Nat → World → Prop) (k : Nat) (W : World) : Exit → Act → World → Prop
  | .normal, _, W' => KeepsFrom n₁ W W' ∧ Kept G W W' ∧ I G k W'
  | _, _, _ => False

theorem kept_putObj {G : Nat → Prop} {W : World} {l : Nat} (o : Obj) (hl : ¬ G l) : Kept G W (W.putObj l o) :=
  ⟨rfl, rfl, rfl, by simp, fun k hk => World.putObj_heap_other (by rintro rfl; exact hl hk)⟩
theorem below_putObjL {B : Nat} {W : World} {l : Nat} (o : Obj) (hl : B ≤ l) : Below B W (W.putObj l o) :=
  ⟨rfl, rfl, rfl, by simp, fun k hk => World.putObj_heap_other (by omega)⟩
theorem Spans.put {w : World} {A : Option Addr} {xs : List (Int × Int)} (h : Spans w A xs) {l : Nat} {o : Obj} (o' : Obj) (ho : w.heap[l]? = some o) (hc : o.isCells = false) : Spans (w.putObj l o') A xs :=
  ⟨h.1, fun k hk => by
    obtain ⟨b, off, e, h0, h1, h2⟩ := h.2 k hk
    have key : ∀ {a : Addr} {v : Value}, w.cell? a = some v → (w.putObj l o').cell? a = some v := fun {a v} q => by
      rw [← q]
      refine World.cell?_of_block (w := w) (World.putObj_heap_other ?_)
      rintro rfl
      unfold World.cell? at q
      rw [ho] at q
      cases o <;> simp_all [Obj.isCells]
    exact ⟨b, off, e, by simpa using h0, key h1, key h2⟩⟩

/-- The law of such a loop. -/
theorem range_lists {P : Program} {g : Operand} {pt : Array Tmp} {assign body : Code} {Q : Exit → Act → World → Prop} {a : Act} {w : World} {gf : Nat} {lb : Array Value} {G0 : Nat → Prop} {N : Nat} {L : Nat → List (Int × Int)} {T : TypeId}
    (hg : a.eval g = .func (.func gf) #[] lb) (eg : ∀ args w, (callFunc gf args).run P w = .ok (.enter gf args) w) (hseq : SeqL P gf lb G0 N L w) (hG0 : ∀ b, G0 b → b < w.heap.size) (hpt : pt.size = 1)
    (I : (Nat → Prop) → Nat → World → Prop)
    (hI : ∀ G k A A', I G k A → Below A.heap.size A A' → I (Grow G A A') k A')
    (hless : ∀ G G' k A, I G k A → (∀ b, G' b → G b) → I G' k A)
    (hput : ∀ G k W l o o', I G k W → w.heap.size ≤ l → W.heap[l]? = some o → o.isCells = false → I G k (W.putObj l o'))
    (h0 : I G0 0 w) (a₁ : Nat → Value → Act)
    (hassign : ∀ (l : Nat) (B : Option Addr) (n c : Nat) (W : World) (K : Act → World → Prop), K (a₁ W.heap.size (.slice B n c)) (W.alloc (.cells #[.slice B n c] T)) →
      assign.wpIn (Fence.wide.inRound l) 0 P (Exit.then K (fun _ _ _ => False)) { tmps := (pt.zip #[.slice B n c]).foldl (fun t (p, v) => t.setIfInBounds p v) a.tmps, defers := [] } W)
    (hbody : ∀ (l : Nat) (G : Nat → Prop) (k : Nat) (B : Option Addr) (c b : Nat) (W : World), I (fun x => G x ∨ x = b) k W → k < N → Spans W B (L k) → (∀ a, B = some a → G a.block) → Has W b #[.slice B (L k).length c] → w.heap.size ≤ b →
      body.wpIn (Fence.wide.inRound l) 0 P (lpost w.heap.size G I (k + 1) W) (a₁ b (.slice B (L k).length c)) W)
    (hdone : ∀ (D : Nat) (G : Nat → Prop) (W : World), w.heap.size ≤ D → I G N W → W.heap[D]? = some (.deferred (some [])) → Q .normal { a with defers := { target := .collected D, args := #[] } :: a.defers } W) :
    (Code.rangeFunc g pt assign body).wpIn Fence.wide 0 P Q a w := by
  refine wpIn_rangeFunc fun fn _ => ?_
  let rec0 : Loop := { state := .ready, pending := none, fn, tmps := a.tmps, params := pt, assign, body, defers := w.heap.size }
  let W1 : World := (w.alloc (.deferred (some []))).alloc (.loop rec0)
  have s1 : W1.heap.size = w.heap.size + 2 := by simp [W1]
  have r1 : W1.heap[w.heap.size + 1]? = some (.loop rec0) := by
    have := World.alloc_heap_new (w.alloc (.deferred (some []))) (.loop rec0)
    rwa [World.size_alloc] at this
  have d1 : W1.heap[w.heap.size]? = some (.deferred (some [])) :=
    (Below.heap_alloc _ _ _ (by simp)).trans (World.alloc_heap_new w _)
  refine ⟨w.heap.size + 1, [{ target := .collected w.heap.size, args := #[] }], W1, { target := .fn (.func gf) lb, args := #[.func (.yield (w.heap.size + 1)) #[] #[]] }, W1, gf,
    #[.func (.yield (w.heap.size + 1)) #[] #[]] ++ lb, W1, run_enterLoop_outer _ _ _ _ _, ?_, fun _ _ => trivial, ?_, (fun h => by simp [Fence.wide] at h), ?_⟩
  · simp only [resolve, hg]
    simp [go_sem]
  · simp [invoke, go_sem, eg]
  let J : (Nat → Prop) → Nat → World → Prop := fun G k W => I G k W ∧ W.heap[w.heap.size + 1]? = some (.loop rec0) ∧ W.heap[w.heap.size]? = some (.deferred (some [])) ∧ ∀ b, G b → b < W.heap.size ∧ (b < w.heap.size ∨ w.heap.size + 2 ≤ b)
  have lt : ∀ {W : World} {o : Obj} {k : Nat}, W.heap[k]? = some o → k < W.heap.size := fun h => (Array.getElem?_eq_some_iff.1 h).1
  have hJ : ∀ G k A A', J G k A → Below A.heap.size A A' → J (Grow G A A') k A' := fun G k A A' h hb => ⟨hI _ _ _ _ h.1 hb, (hb.block _ (lt h.2.1)).trans h.2.1, (hb.block _ (lt h.2.2.1)).trans h.2.2.1, fun b hG => by
    have q1 := lt h.2.1
    have q2 := hb.size
    rcases hG with hG | hG
    · have := h.2.2.2 b hG; omega
    · omega⟩
  have hbW : Below w.heap.size w W1 := ((Below.refl _ w).alloc (Nat.le_refl _) _).alloc (by simp) _
  refine (hseq (w.heap.size + 1) J W1 hbW hJ ?_ ⟨hless _ _ _ _ (hI _ _ _ _ h0 hbW) fun b hb => .inl hb, r1, d1, fun b hb => by have := hG0 b hb; omega⟩).mono ?_
  · rintro G k W B c ⟨hi, hr, hd, hk⟩ hkN hx hBG
    have hy := run_yield (P := P) (args := #[.slice B (L k).length c]) hr (by show 1 = pt.size; rw [hpt])
    refine ⟨fn, _, assign, body, hy, roundIn_of_wpIn trivial (hassign _ _ _ _ W _ ?_)⟩
    have hrl := lt hr
    have hnG : ¬ G (w.heap.size + 1) := fun q => by have := (hk _ q).2; omega
    have hba := bel_alloc (Below.refl W.heap.size W) (.cells #[.slice B (L k).length c] T)
    have hW2 := hless _ (fun x => G x ∨ x = W.heap.size) _ _ (hI _ _ _ _ hi hba) fun b hb => hb.imp id (by rintro rfl; simp)
    have hH2 : Has (W.alloc (.cells #[.slice B (L k).length c] T)) W.heap.size #[.slice B (L k).length c] := Has.new _ _ _ rfl
    have hr2 := (Below.heap_alloc W (.cells #[.slice B (L k).length c] T) _ (lt hr)).trans hr
    have hd2 := (Below.heap_alloc W (.cells #[.slice B (L k).length c] T) _ (lt hd)).trans hd
    have hx2 := hx.below hba
    have hK2 : Kept G W (W.alloc (.cells #[.slice B (L k).length c] T)) := Kept.of_below hba fun i hi => (hk i hi).1
    generalize W.alloc (.cells #[.slice B (L k).length c] T) = W2 at *
    let busy : Obj := .loop { rec0 with state := .busy }
    refine ⟨_, run_beginRound hr2 rfl, ?_⟩
    have hr3 : (W2.putObj (w.heap.size + 1) busy).heap[w.heap.size + 1]? = some busy := World.putObj_heap_same (lt hr2)
    have hd3 : (W2.putObj (w.heap.size + 1) busy).heap[w.heap.size]? = some (.deferred (some [])) := (World.putObj_heap_other (by omega)).trans hd2
    have hH3 : Has (W2.putObj (w.heap.size + 1) busy) W.heap.size #[.slice B (L k).length c] := by
      obtain ⟨t, ht⟩ := hH2
      exact ⟨t, (World.putObj_heap_other (by omega)).trans ht⟩
    refine wpIn_mono (hbody _ G k B c W.heap.size _ (hput _ _ _ _ _ busy hW2 (by omega) hr2 rfl) hkN (hx2.put busy hr2 rfl) hBG hH3 (by omega)) ?_
    rintro e a3 W3 hp
    cases e with
    | normal =>
      obtain ⟨p1, p3, p4⟩ := hp
      have hr4 := p1.same _ _ (by omega) hr3 rfl
      have hd4 := p1.same _ _ (Nat.le_refl _) hd3 rfl
      have q3 := hK2.on ((kept_putObj busy hnG).on (p3.on (kept_putObj (.loop { rec0 with state := .ready, pending := none }) hnG)))
      refine ⟨_, _, run_endRound none hr4, rfl, ⟨hput _ _ _ _ _ _ p4 (by omega) hr4 rfl, World.putObj_heap_same (lt hr4), (World.putObj_heap_other (by omega)).trans hd4, fun b hb => ?_⟩, q3⟩
      have := hk b hb
      have z := (hK2.on ((kept_putObj busy hnG).on p3)).size
      exact ⟨by simp; omega, this.2⟩
    | exit id => exact hp.elim
    | ret => exact hp.elim
    | goto t => exact hp.elim
    | panic ch => exact hp.elim
    | outgrown => exact hp.elim
  · rintro e W2 ⟨⟨v, rfl⟩, G, hi, hr, hd, _⟩
    exact ⟨none, _, run_endLoop hr (by simp [rec0]), hdone _ G _ (Nat.le_refl _) (hput _ _ _ _ _ _ hi (by omega) hr rfl) ((World.putObj_heap_other (by omega)).trans hd)⟩
end Go.Proofs.YthdolmhnjinlhaaGreat
