/-
  Arguments that hold spans: a slice of them, as the walks are told of it.
  A loop over a function that makes blocks of its own and hands a slice of spans to each round, whose variable lies in a block of its own: what such a function is asked ('SeqL'), and the law of the loop ('range_lists'). Over any program.
  A region that draws its order, in a round of a loop over a function: without an operation that defers it may be walked as outside the round. Over any program.
-/
import Derived.Test.YtdlimgpmmkcgmaaGreatZac
import Derived.Deep.SlicePairs
import Derived.Lib.SmallJoins
import Derived.ChangeArms
import Derived.OpenShut
import Derived.Test.YtdlimgpmmkcgmaaGreatZaf
import Derived.RangeFuncNested
import Derived.RangeFuncBound
import Derived.RangeFuncCalls
import Derived.RangeFuncLeaves
import Derived.OrdersIn
import Derived.OwnWalkIn
namespace Go.Proofs.YtdlimgpmmkcgmaaGreat
open Go.RowKit Go.Deep

theorem open_spans {H : Type} {enc : TypeId × Value → H} {P : Program} {w : World} {base : Nat} {spare : Nat → Bool} {held : Bool} {t e i : TypeId} {f0 f1 : Field} {fuel : Nat} {A : Option Addr} {len cap : Nat} {x : DataW H × List MemPlace}
    (ht : P.underlying t = some (.slice e)) (he : P.underlying e = some (.struct #[f0, f1])) (ce : P.cellsOf e = 2) (o0 : f0.offset = 0) (o1 : f1.offset = 1) (c0 : P.cellsOf f0.type = 1) (c1 : P.cellsOf f1.type = 1)
    (t0 : f0.type = i) (t1 : f1.type = i) (hi : P.underlying i = some (.int .i64)) (h : DataW.trod enc P w base spare held fuel t [.slice A len cap] = some x) :
    ∃ xs : List (Int × Int), xs.length = len ∧ len ≤ 9223372036854775807 ∧ Spans w A xs ∧ (A = none → cap = 0) := by
  rcases open_slice_pairs ht he ce o0 o1 c0 c1 h with ⟨hcs, _⟩ | ⟨a, len', cap', m, n, V0, V1, D0, D1, P0, P1, hcs, _, hl, hm, hmm, _, hx⟩
  · simp at hcs
    obtain ⟨rfl, rfl, rfl⟩ := hcs
    exact ⟨[], rfl, by omega, Spans.nil _ _, fun _ => rfl⟩
  · simp at hcs
    obtain ⟨rfl, rfl, rfl⟩ := hcs
    have hle : len ≤ m := by rw [hmm]; split <;> omega
    have key : ∀ k, k < len → ∃ z0 z1, V0 k = .int .i64 z0 ∧ V1 k = .int .i64 z1 ∧ Fit z0 ∧ Fit z1 := fun k hk => by
      obtain ⟨h0, h1, g0, g1⟩ := hx k (by omega)
      obtain ⟨z0, e0, _, w0⟩ := DataW.trod_int (t0 ▸ hi) g0
      obtain ⟨z1, e1, _, w1⟩ := DataW.trod_int (t1 ▸ hi) g1
      simp at e0 e1
      exact ⟨z0, z1, e0, e1, bounds_i64 w0, bounds_i64 w1⟩
    refine ⟨(List.range len).map fun i => (intOf (V0 i), intOf (V1 i)), by simp, by simp only [maxLen] at hm; omega, ⟨fun y hy => ?_, fun k hk => ?_⟩, fun h => by cases h⟩
    · simp only [List.mem_map, List.mem_range] at hy
      obtain ⟨k, hk, rfl⟩ := hy
      obtain ⟨z0, z1, e0, e1, b0, b1⟩ := key k hk
      simp only [e0, e1, intOf]
      exact ⟨b0, b1⟩
    · simp at hk
      obtain ⟨h0, h1, g0, g1⟩ := hx k (by omega)
      obtain ⟨z0, z1, e0, e1, b0, b1⟩ := key k hk
      obtain ⟨b, off, sp⟩ := a
      have hsp : sp = none := by simpa [Addr.add] using World.cell?_spot (hx 0 (by omega)).1
      subst hsp
      rw [add_none] at h0 h1
      refine ⟨b, off, rfl, cell_lt h0, ?_, ?_⟩
      · rw [h0, e0]; simp [List.getD, hk, e0, intOf]
      · rw [Nat.add_assoc, h1, e1]; simp [List.getD, hk, e1, intOf]
end Go.Proofs.YtdlimgpmmkcgmaaGreat

namespace Go.Proofs.YtdlimgpmmkcgmaaGreat
open Go.RowKit
set_option linter.unusedVariables false

/-- What is new between two worlds, together with the blocks G. -/
def Grow (G : Nat → Prop) (A A' : World) : Nat → Prop := fun b => G b ∨ (A.heap.size ≤ b ∧ b < A'.heap.size)
/-- The function gf, with lb captured, hands the lists L 0 .. L (N - 1) to whatever loop it runs; G: the blocks that are its own, which a round leaves as they are. -/
def SeqL (P : Program) (gf : Nat) (lb : Array Value) (G0 : Nat → Prop) (N : Nat) (L : Nat → List (Int × Int)) (w : World) : Prop :=
  ∀ (l : Nat) (J : (Nat → Prop) → Nat → World → Prop) (W : World), Below w.heap.size w W →
    (∀ G k A A', J G k A → Below A.heap.size A A' → J (Grow G A A') k A') →
    (∀ G k W1 B c, J G k W1 → k < N → Spans W1 B (L k) → (∀ a, B = some a → G a.block) → YieldAt Fence.wide 0 P l #[.slice B (L k).length c] W1 fun e W' => e = .returned (.bool true) ∧ J G (k + 1) W' ∧ Kept G W1 W') →
    J G0 0 W →
    CallsIn Fence.wide 0 P gf (#[.func (.yield l) #[] #[]] ++ lb) W fun e W' => (∃ v, e = .returned v) ∧ ∃ G, J G N W'

/-- How a round's body is left. -/
def lpost (n₁ : Nat) (G : Nat → Prop) (I : (Nat → Prop) → Nat → World → Prop) (k : Nat) (W : World) : Exit → Act → World → Prop
  | .normal, _, W' => KeepsFrom n₁ W W' ∧ Kept G W W' ∧ I G k W'
  | _, _, _ => False

theorem kept_putObj {G : Nat → Prop} {W : World} {l : Nat} (o : Obj) (hl : ¬ G l) : Kept G W (W.putObj l o) :=
  ⟨rfl, rfl, rfl, by simp, fun k hk => World.putObj_heap_other (by rintro rfl; exact hl hk)⟩
theorem below_putObjL {B : Nat} {W : World} {l : Nat} (o : Obj) (hl : B ≤ l) : Below B W (W.putObj l o) :=
  ⟨rfl, rfl, rfl, by simp, fun k hk => World.putObj_heap_other (by omega)⟩
theorem Spans.put {w : World} {A : Option Addr} {xs : List (Int × Int)} (h : Spans w A xs) {l : Nat} {o : Obj} (o' : Obj) (ho : w.heap[l]? = some o) (hc : o.isCells = false) : Spans (w.putObj l o') A xs :=
  ⟨h.1, fun k hk => by
    obtain ⟨b, off, e, h0, h1, h2⟩ := h.2 k hk
    have key : ∀ {a : Addr} {v : Value}, w.cell? a = some v → (w.putObj l o').cell? a = some v := fun {a v} q => by
      rw [← q]
      refine World.cell?_of_block (w := w) (World.putObj_heap_other ?_)
      rintro rfl
      unfold World.cell? at q
      rw [ho] at q
      cases o <;> simp_all [Obj.isCells]
    exact ⟨b, off, e, by simpa using h0, key h1, key h2⟩⟩

/-- The law of such a loop. -/
theorem range_lists {P : Program} {g : Operand} {pt : Array Tmp} {assign body : Code} {Q : Exit → Act → World → Prop} {a : Act} {w : World} {gf : Nat} {lb : Array Value} {G0 : Nat → Prop} {N : Nat} {L : Nat → List (Int × Int)} {T : TypeId}
    (hg : a.eval g = .func (.func gf) #[] lb) (eg : ∀ args w, (callFunc gf args).run P w = .ok (.enter gf args) w) (hseq : SeqL P gf lb G0 N L w) (hG0 : ∀ b, G0 b → b < w.heap.size) (hpt : pt.size = 1)
    (I : (Nat → Prop) → Nat → World → Prop)
    (hI : ∀ G k A A', I G k A → Below A.heap.size A A' → I (Grow G A A') k A')
    (hless : ∀ G G' k A, I G k A → (∀ b, G' b → G b) → I G' k A)
    (hput : ∀ G k W l o o', I G k W → w.heap.size ≤ l → W.heap[l]? = some o → o.isCells = false → I G k (W.putObj l o'))
    (h0 : I G0 0 w) (a₁ : Nat → Value → Act)
    (hassign : ∀ (l : Nat) (B : Option Addr) (n c : Nat) (W : World) (K : Act → World → Prop), K (a₁ W.heap.size (.slice B n c)) (W.alloc (.cells #[.slice B n c] T)) →
      assign.wpIn (Fence.wide.inRound l) 0 P (Exit.then K (fun _ _ _ => False)) { tmps := (pt.zip #[.slice B n c]).foldl (fun t (p, v) => t.setIfInBounds p v) a.tmps, defers := [] } W)
    (hbody : ∀ (l : Nat) (G : Nat → Prop) (k : Nat) (B : Option Addr) (c b : Nat) (W : World), I (fun x => G x ∨ x = b) k W → k < N → Spans W B (L k) → (∀ a, B = some a → G a.block) → Has W b #[.slice B (L k).length c] → w.heap.size ≤ b →
      body.wpIn (Fence.wide.inRound l) 0 P (lpost w.heap.size G I (k + 1) W) (a₁ b (.slice B (L k).length c)) W)
    (hdone : ∀ (D : Nat) (G : Nat → Prop) (W : World), w.heap.size ≤ D → I G N W → W.heap[D]? = some (.deferred (some [])) → Q .normal { a with defers := { target := .collected D, args := #[] } :: a.defers } W) :
    (Code.rangeFunc g pt assign body).wpIn Fence.wide 0 P Q a w := by
  refine wpIn_rangeFunc fun fn _ => ?_
  let rec0 : Loop := { state := .ready, pending := none, fn, tmps := a.tmps, params := pt, assign, body, defers := w.heap.size }
  let W1 : World := (w.alloc (.deferred (some []))).alloc (.loop rec0)
  have s1 : W1.heap.size = w.heap.size + 2 := by simp [W1]
  have r1 : W1.heap[w.heap.size + 1]? = some (.loop rec0) := by
    have := World.alloc_heap_new (w.alloc (.deferred (some []))) (.loop rec0)
    rwa [World.size_alloc] at this
  have d1 : W1.heap[w.heap.size]? = some (.deferred (some [])) :=
    (Below.heap_alloc _ _ _ (by simp)).trans (World.alloc_heap_new w _)
  refine ⟨w.heap.size + 1, [{ target := .collected w.heap.size, args := #[] }], W1, { target := .fn (.func gf) lb, args := #[.func (.yield (w.heap.size + 1)) #[] #[]] }, W1, gf,
    #[.func (.yield (w.heap.size + 1)) #[] #[]] ++ lb, W1, run_enterLoop_outer _ _ _ _ _, ?_, fun _ _ => trivial, ?_, (fun h => by simp [Fence.wide] at h), ?_⟩
  · simp only [resolve, hg]
    simp [go_sem]
  · simp [invoke, go_sem, eg]
  let J : (Nat → Prop) → Nat → World → Prop := fun G k W => I G k W ∧ W.heap[w.heap.size + 1]? = some (.loop rec0) ∧ W.heap[w.heap.size]? = some (.deferred (some [])) ∧ ∀ b, G b → b < W.heap.size ∧ (b < w.heap.size ∨ w.heap.size + 2 ≤ b)
  have lt : ∀ {W : World} {o : Obj} {k : Nat}, W.heap[k]? = some o → k < W.heap.size := fun h => (Array.getElem?_eq_some_iff.1 h).1
  have hJ : ∀ G k A A', J G k A → Below A.heap.size A A' → J (Grow G A A') k A' := fun G k A A' h hb => ⟨hI _ _ _ _ h.1 hb, (hb.block _ (lt h.2.1)).trans h.2.1, (hb.block _ (lt h.2.2.1)).trans h.2.2.1, fun b hG => by
    have q1 := lt h.2.1
    have q2 := hb.size
    rcases hG with hG | hG
    · have := h.2.2.2 b hG; omega
    · omega⟩
  have hbW : Below w.heap.size w W1 := ((Below.refl _ w).alloc (Nat.le_refl _) _).alloc (by simp) _
  refine (hseq (w.heap.size + 1) J W1 hbW hJ ?_ ⟨hless _ _ _ _ (hI _ _ _ _ h0 hbW) fun b hb => .inl hb, r1, d1, fun b hb => by have := hG0 b hb; omega⟩).mono ?_
  · rintro G k W B c ⟨hi, hr, hd, hk⟩ hkN hx hBG
    have hy := run_yield (P := P) (args := #[.slice B (L k).length c]) hr (by show 1 = pt.size; rw [hpt])
    refine ⟨fn, _, assign, body, hy, roundIn_of_wpIn trivial (hassign _ _ _ _ W _ ?_)⟩
    have hrl := lt hr
    have hnG : ¬ G (w.heap.size + 1) := fun q => by have := (hk _ q).2; omega
    have hba := bel_alloc (Below.refl W.heap.size W) (.cells #[.slice B (L k).length c] T)
    have hW2 := hless _ (fun x => G x ∨ x = W.heap.size) _ _ (hI _ _ _ _ hi hba) fun b hb => hb.imp id (by rintro rfl; simp)
    have hH2 : Has (W.alloc (.cells #[.slice B (L k).length c] T)) W.heap.size #[.slice B (L k).length c] := Has.new _ _ _ rfl
    have hr2 := (Below.heap_alloc W (.cells #[.slice B (L k).length c] T) _ (lt hr)).trans hr
    have hd2 := (Below.heap_alloc W (.cells #[.slice B (L k).length c] T) _ (lt hd)).trans hd
    have hx2 := hx.below hba
    have hK2 : Kept G W (W.alloc (.cells #[.slice B (L k).length c] T)) := Kept.of_below hba fun i hi => (hk i hi).1
    generalize W.alloc (.cells #[.slice B (L k).length c] T) = W2 at *
    let busy : Obj := .loop { rec0 with state := .busy }
    refine ⟨_, run_beginRound hr2 rfl, ?_⟩
    have hr3 : (W2.putObj (w.heap.size + 1) busy).heap[w.heap.size + 1]? = some busy := World.putObj_heap_same (lt hr2)
    have hd3 : (W2.putObj (w.heap.size + 1) busy).heap[w.heap.size]? = some (.deferred (some [])) := (World.putObj_heap_other (by omega)).trans hd2
    have hH3 : Has (W2.putObj (w.heap.size + 1) busy) W.heap.size #[.slice B (L k).length c] := by
      obtain ⟨t, ht⟩ := hH2
      exact ⟨t, (World.putObj_heap_other (by omega)).trans ht⟩
    refine wpIn_mono (hbody _ G k B c W.heap.size _ (hput _ _ _ _ _ busy hW2 (by omega) hr2 rfl) hkN (hx2.put busy hr2 rfl) hBG hH3 (by omega)) ?_
    rintro e a3 W3 hp
    cases e with
    | normal =>
      obtain ⟨p1, p3, p4⟩ := hp
      have hr4 := p1.same _ _ (by omega) hr3 rfl
      have hd4 := p1.same _ _ (Nat.le_refl _) hd3 rfl
      have q3 := hK2.on ((kept_putObj busy hnG).on (p3.on (kept_putObj (.loop { rec0 with state := .ready, pending := none }) hnG)))
      refine ⟨_, _, run_endRound none hr4, rfl, ⟨hput _ _ _ _ _ _ p4 (by omega) hr4 rfl, World.putObj_heap_same (lt hr4), (World.putObj_heap_other (by omega)).trans hd4, fun b hb => ?_⟩, q3⟩
      have := hk b hb
      have z := (hK2.on ((kept_putObj busy hnG).on p3)).size
      exact ⟨by simp; omega, this.2⟩
    | exit id => exact hp.elim
    | ret => exact hp.elim
    | goto t => exact hp.elim
    | panic ch => exact hp.elim
    | outgrown => exact hp.elim
  · rintro e W2 ⟨⟨v, rfl⟩, G, hi, hr, hd, _⟩
    exact ⟨none, _, run_endLoop hr (by simp [rec0]), hdone _ G _ (Nat.le_refl _) (hput _ _ _ _ _ _ hi (by omega) hr rfl) ((World.putObj_heap_other (by omega)).trans hd)⟩
end Go.Proofs.YtdlimgpmmkcgmaaGreat

namespace Go.Proofs.YtdlimgpmmkcgmaaGreat
set_option linter.unusedVariables false

/-- No operation defers a call. -/
def noDefer (ops : Array Oper) : Bool := ops.all fun o => match o.op with | .defer _ => false | _ => true
section
variable {F : Fence} {l n : Nat} {P : Program} {ops : Array Oper} {Q : Exit → Act → World → Prop} {md : Region.Mode}
theorem noDefer_at (h : noDefer ops = true) {j : Nat} {o : Oper} (hj : ops[j]? = some o) (c : Call) : o.op ≠ .defer c := by
  intro e
  unfold noDefer at h
  rw [Array.all_eq_true] at h
  obtain ⟨hlt, rfl⟩ := Array.getElem?_eq_some_iff.1 hj
  have := h j hlt
  rw [e] at this
  cases this
theorem upon_round {o : Oper} {a : Act} {K K' : Act → World → Prop} (hK : ∀ a w, K a w → K' a w) {r : Result Next} (h : o.uponIn F n P a K Q r) : o.uponIn (F.inRound l) n P a K' Q r := by
  cases r with
  | ok x w' =>
    cases x <;> simp only [Oper.uponIn] at h ⊢
    case value v => exact hK _ _ h
    case skip => exact hK _ _ h
    case defer d => exact hK _ _ h
    case enter f args => exact ⟨h.1, CallsIn.mono (CallsIn.inRound l h.2) fun e w'' he => by cases e <;> first | exact hK _ _ he | exact he⟩
    case row r args => exact ⟨h.1, RowsIn.mono h.2 fun _ _ he => hK _ _ he⟩
    case round l' f tmps assign body => exact ⟨h.1, RoundIn.mono h.2 fun e w'' he => by cases e <;> first | exact hK _ _ he | exact he⟩
  | halt x w' => cases x <;> simp only [Oper.uponIn] at h ⊢ <;> exact h
theorem op_round (hp : noDefer ops = true) (hro : F.round = none) {i : Nat} {K K' : Act → World → Prop} (hK : ∀ a w, K a w → K' a w) {a : Act} {w : World} (h : wpOpIn F n P ops Q i K a w) : wpOpIn (F.inRound l) n P ops Q i K' a w := by
  unfold wpOpIn at *
  cases ho : ops[i]? with
  | none => simp only [ho] at h ⊢; exact hK _ _ h
  | some o =>
    simp only [ho] at h ⊢
    by_cases hw : Region.wanted o (yielded ops a.tmps) = true
    · rw [if_pos hw] at h ⊢
      have h2 := h.2
      rw [Oper.semAt_plain F _ _ (noDefer_at hp ho)] at h2
      exact ⟨h.1, by rw [Oper.semAt_plain (F.inRound l) _ _ (noDefer_at hp ho)]; exact upon_round hK h2⟩
    · rw [if_neg hw] at h ⊢
      exact ⟨h.1, hK _ _ h.2⟩
theorem any_round (hp : noDefer ops = true) (hro : F.round = none) : ∀ (fuel : Nat) (listed : Array Bool) (a : Act) (w : World), wpAnyIn F n P md ops Q fuel listed a w → wpAnyIn (F.inRound l) n P md ops Q fuel listed a w
  | 0, _, _, _, h => h
  | fuel + 1, listed, a, w, h => ⟨h.1, fun i hi => op_round hp hro (fun a' w' h' => any_round hp hro fuel _ a' w' h') (h.2 i hi)⟩
/-- The region, as outside the round. -/
theorem region_round {id : Nat} {a : Act} {w : World} (hm : P.follows .mixedOrders = true) (hp : noDefer ops = true) (hro : F.round = none)
    (h : wpAnyIn F n P .any ops Q ops.size (Array.replicate ops.size false) a w.drew) : (Code.region id ops true).wpIn (F.inRound l) n P Q a w :=
  wpIn_region_any hm (any_round hp hro _ _ _ _ h)
/-- A region that ends as it should, and not otherwise. -/
theorem only_normal {c : Code} {a : Act} {w : World} (h : c.wpIn F n P (fun e a w => e = .normal ∧ Q .normal a w) a w) : c.wpIn F n P Q a w :=
  wpIn_mono h (by rintro e a w ⟨rfl, h⟩; exact h)
end
end Go.Proofs.YtdlimgpmmkcgmaaGreat
