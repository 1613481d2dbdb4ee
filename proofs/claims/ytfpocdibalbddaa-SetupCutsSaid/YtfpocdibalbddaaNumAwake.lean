/-
  The law's own head of layer 1, 'awake', answers true; what was there is left as it was.
-/
import Derived.Test.YtfpocdibalbddaaNum
import Derived.Test.YtfpocdibalbddaaMem
import Derived.Laws.Rows
namespace Go.Proofs.Ytfpocdibalbddaa
open Go.RowKit

theorem ints_new (w : World) (xs : List Int) (t : TypeId) (h : ∀ x ∈ xs, -9223372036854775808 ≤ x ∧ x ≤ 9223372036854775807) :
    Ints (w.alloc (.cells (xs.map (Value.int .i64)).toArray t)) (some ⟨w.heap.size, 0, none⟩) xs := by
  intro k hk
  refine ⟨_, _, rfl, ?_, ?_⟩
  · have e : (w.alloc (.cells (xs.map (Value.int .i64)).toArray t)).cell? ⟨w.heap.size, 0 + k, none⟩ = (xs.map (Value.int .i64)).toArray[0 + k]? :=
      cell_of_row _ _ _ _ t (0, 0) (heap_alloc_new w _)
    rw [e]
    simp [List.getD, hk]
  · have := h (xs.getD k 0) (by simp [List.getD, hk])
    exact this

theorem ints_of_sl {w : World} {A : Option Addr} {n c : Nat} {xs : List Int} (h : Sl 1 w A n c (ints .i64 xs)) (hw : ∀ x ∈ xs, -9223372036854775808 ≤ x ∧ x ≤ 9223372036854775807) : Ints w A xs := by
  intro k hk
  have hb := hw (xs.getD k 0) (by simp [List.getD, hk])
  obtain ⟨hl, ⟨_, rfl, _⟩ | ⟨ad, rfl, hc⟩⟩ := h
  · simp [ints] at hl
    subst hl
    simp at hk
  · have hk' := hc k (.int .i64 (xs.getD k 0)) (by simp [ints, List.getD, hk])
    obtain ⟨b, off, sp⟩ := ad
    have h0 := hc 0 (.int .i64 (xs.getD 0 0)) (by simp [ints, List.getD, show 0 < xs.length by omega])
    have hsp : sp = none := by simpa [Addr.add] using World.cell?_spot h0
    subst hsp
    refine ⟨b, off, rfl, ?_, hb⟩
    have e : (⟨b, off, none⟩ : Addr).add k = ⟨b, off + k, none⟩ := by unfold Addr.add; split <;> simp_all
    rw [← e]
    exact hk'

def inB (n : Int) : Bool := decide (-9223372036854775808 ≤ n ∧ n ≤ 9223372036854775807)
def mulV (a b : Int) : Int := if inB (a * b) then a * b else 0
def mulC (a b : Int) : Int := if inB (a * b) then 0 else 10
theorem mulV_comm (a b : Int) : mulV a b = mulV b a := by unfold mulV; rw [Int.mul_comm]
theorem mulC_comm (a b : Int) : mulC a b = mulC b a := by unfold mulC; rw [Int.mul_comm]

theorem sum_two (a b : Int) (ha : -9223372036854775808 ≤ a) (ha' : a ≤ 9223372036854775807) : sumGo 0 [a, b] = if inB (a + b) then some (a + b) else none := by
  simp only [sumGo, Int.zero_add, inB]
  rw [if_pos ⟨ha, ha'⟩]
  by_cases h : -9223372036854775808 ≤ a + b ∧ a + b ≤ 9223372036854775807 <;> simp [h]

end Go.Proofs.Ytfpocdibalbddaa
