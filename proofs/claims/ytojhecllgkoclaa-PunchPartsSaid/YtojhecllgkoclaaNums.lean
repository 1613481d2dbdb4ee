/-
  Slices of numbers as lists; new slices of bytes made with room. Over any program.
-/
import Derived.Test.YtojhecllgkoclaaHas
import Derived.Laws.Cover1
import Derived.OpenShut
namespace Go.Proofs.Ytojhecllgkoclaa
open Go.RowKit
set_option linter.unusedVariables false

/-- A slice value over A reads as the numbers zs. -/
def Nums (w : World) (A : Option Addr) (zs : List Int) : Prop :=
  ∀ k, k < zs.length → ∃ b off, A = some ⟨b, off, none⟩ ∧ w.cell? ⟨b, off + k, none⟩ = some (.int .i64 (zs.getD k 0))
section
variable {w w' : World} {A : Option Addr} {zs : List Int}
theorem Nums.keep (h : Nums w A zs) (hk : ∀ p : Addr, p.block < w.heap.size → w'.cell? p = w.cell? p) : Nums w' A zs := by
  intro k hl
  obtain ⟨b, off, e, hc⟩ := h k hl
  exact ⟨b, off, e, (hk _ (cell_lt hc)).trans hc⟩
theorem Nums.below (h : Nums w A zs) (hb : Below w.heap.size w w') : Nums w' A zs := h.keep fun _ hp => hb.cell hp
theorem Nums.alloc (h : Nums w A zs) (o : Obj) : Nums (w.alloc o) A zs := h.keep fun p hp => World.cell?_alloc_lt w o p hp
theorem Nums.drew (h : Nums w A zs) : Nums w.drew A zs := h
end
theorem nums_of_sl {w : World} {A : Option Addr} {n c : Nat} {zs : List Int} (h : Sl 1 w A n c (ints .i64 zs)) : Nums w A zs := by
  intro k hk
  obtain ⟨hl, ⟨_, rfl, _⟩ | ⟨ad, rfl, hc⟩⟩ := h
  · simp [ints] at hl
    subst hl
    simp at hk
  · have hk' := hc k (.int .i64 (zs.getD k 0)) (by simp [ints, List.getD, hk])
    obtain ⟨b, off, sp⟩ := ad
    have h0 := hc 0 (.int .i64 (zs.getD 0 0)) (by simp [ints, List.getD, show 0 < zs.length by omega])
    have hsp : sp = none := by simpa [Addr.add] using World.cell?_spot h0
    subst hsp
    refine ⟨b, off, rfl, ?_⟩
    have e : (⟨b, off, none⟩ : Addr).add k = ⟨b, off + k, none⟩ := by unfold Addr.add; split <;> simp_all
    rw [← e]
    exact hk'
/-- What came in as a slice of numbers. -/
theorem nums_of_row {w : World} {a : Option Addr} {len cap : Nat} {zs : List Int} (h : IsRow .i64 w a len cap zs) :
    ∃ l : List Int, l.length = len ∧ Nums w a l ∧ len ≤ 9223372036854775807 ∧ ∀ z ∈ l, -9223372036854775808 ≤ z ∧ z ≤ 9223372036854775807 := by
  obtain ⟨s, hl, hm, hw⟩ := sl_of_row h
  exact ⟨zs.take len, hl, nums_of_sl s, hm, fun z hz => bounds_i64 (hw z hz)⟩
end Go.Proofs.Ytojhecllgkoclaa
