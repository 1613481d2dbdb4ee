/-
  A region that draws its order, in a round of a loop over a function: without an operation that defers it may be walked as outside the round. Over any program.
-/
import Derived.Test.YthdolmhnjinlhaaGreatOvrN
import Derived.OrdersIn
import Derived.OwnWalkIn
namespace Go.Proofs.YthdolmhnjinlhaaGreat
set_option linter.unusedVariables false

/-- No operation defers a call. -/
def noDefer (ops : Array Oper) : Bool := ops.all fun o => match o.op with | .defer _ => false | _ => true
section
variable {F : Fence} {l n : Nat} {P : Program} {ops : Array Oper} {Q : Exit → Act → World → Prop} {md : Region.Mode}
theorem noDefer_at (h : noDefer ops = true) {j : Nat} {o : Oper} (hj : ops[j]? = some o) (c : Call) : o.op ≠ .defer c := by
  intro e
  unfold noDefer at h
  rw [Array.all_eq_true] at h
  obtain ⟨hlt, rfl⟩ := Array.getElem?_eq_some_iff.1 hj
  have := h j hlt
  rw [e] at this
  cases this
theorem upon_round {o : Oper} {a : Act} {K K' : Act → World → Prop} (hK : ∀ a w, K a w → K' a w) {r : Result Next} (h : o.uponIn F n P a K Q r) : o.uponIn (F.inRound l) n P a K' Q r := by
  cases r with
  | ok x w' =>
    cases x <;> simp only [Oper.uponIn] at h ⊢
    case value v => exact hK _ _ h
    case skip => exact hK _ _ h
    case defer d => exact hK _ _ h
    case enter f args => exact ⟨h.1, CallsIn.mono (CallsIn.inRound l h.2) fun e w'' he => by cases e <;> first | exact hK _ _ he | exact he⟩
    case row r args => exact ⟨h.1, RowsIn.mono h.2 fun _ _ he => hK _ _ he⟩
    case round l' f tmps assign body => exact ⟨h.1, RoundIn.mono h.2 fun e w'' he => by cases e <;> first | exact hK _ _ he | exact he⟩
  | halt x w' => cases x <;> simp only [Oper.uponIn] at h ⊢ <;> exact h
theorem op_round (hp : noDefer ops = true) (hro : F.round = none) {i : Nat} {K K' : Act → World → Prop} (hK : ∀ a w, K a w → K' a w) {a : Act} {w : World} (h : wpOpIn F n P ops Q i K a w) : wpOpIn (F.inRound l) n P ops Q i K' a w := by
  unfold wpOpIn at *
  cases ho : ops[i]? with
  | none => simp only [ho] at h ⊢; exact hK _ _ h
  | some o =>
    simp only [ho] at h ⊢
    by_cases hw : Region.wanted o (yielded ops a.tmps) = true
    · rw [if_pos hw] at h ⊢
      have h2 := h.2
      rw [Oper.semAt_plain F _ _ (noDefer_at hp ho)] at h2
      exact ⟨h.1, by rw [Oper.semAt_plain (F.inRound l) _ _ (noDefer_at hp ho)]; exact upon_round hK h2⟩
    · rw [if_neg hw] at h ⊢
      exact ⟨h.1, hK _ _ h.2⟩
theorem any_round (hp : noDefer ops = true) (hro : F.round = none) : ∀ (fuel : Nat) (listed : Array Bool) (a : Act) (w : World), wpAnyIn F n P md ops Q fuel listed a w → wpAnyIn (F.inRound l) n P md ops Q fuel listed a w
  | 0, _, _, _, h => h
  | fuel + 1, listed, a, w, h => ⟨h.1, fun i hi => op_round hp hro (fun a' w' h' => any_round hp hro fuel _ a' w' h') (h.2 i hi)⟩
/-- The region, as outside the round. -/
theorem region_round {id : Nat} {a : Act} {w : World} (hm : P.follows .mixedOrders = true) (hp : noDefer ops = true) (hro : F.round = none)
    (h : wpAnyIn F n P .any ops Q ops.size (Array.replicate ops.size false) a w.drew) : (Code.region id ops true).wpIn (F.inRound l) n P Q a w :=
  wpIn_region_any hm (any_round hp hro _ _ _ _ h)
/-- A region that ends as it should, and not otherwise. -/
theorem only_normal {c : Code} {a : Act} {w : World} (h : c.wpIn F n P (fun e a w => e = .normal ∧ Q .normal a w) a w) : c.wpIn F n P Q a w :=
  wpIn_mono h (by rintro e a w ⟨rfl, h⟩; exact h)
end
end Go.Proofs.YthdolmhnjinlhaaGreat
