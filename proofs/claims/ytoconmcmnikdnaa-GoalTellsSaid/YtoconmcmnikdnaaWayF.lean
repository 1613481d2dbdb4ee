/-
  What layer 9's laws are walked by, beyond package way: a setup's first fields; sums of ways.
-/
import Derived.Test.YtoconmcmnikdnaaWayE
namespace Go.Proofs.Ytoconmcmnikdnaa
open Go.RowKit
set_option linter.unusedVariables false
set_option linter.unusedSimpArgs false
set_option maxRecDepth 20000

theorem setC_first {w : World} {s : SetP} {cs : Array Value} (h : SetC w s cs) : ∃ A c, cs[0]? = some (.int .i64 s.places) ∧ cs[1]? = some (.slice A s.ways.length c) ∧ Tab 3 w A s.ways.length c s.ways := by
  obtain ⟨A1, A2, A3, A4, A5, A6, c1, c2, c3, c4, c5, c6, h1, h2⟩ := h
  unfold setV at h1
  injection h1 with h1
  subst h1
  exact ⟨A1, c1, rfl, rfl, h2.ways⟩
/-- How long the first i ways are together. -/
def sumE (E : List Edge) (i : Nat) : Nat := ((E.take i).map fun e => e.2.2).sum
theorem sumE_succ {E : List Edge} {i A B M : Nat} (h : E[i]? = some (A, B, M)) : sumE E (i + 1) = sumE E i + M := by
  unfold sumE
  rw [List.take_add_one, h]
  simp
theorem sumE_le {E : List Edge} {m : Nat} (h : ∀ e ∈ E, e.2.2 ≤ m) : ∀ i, sumE E i ≤ i * m
  | 0 => by simp [sumE]
  | i + 1 => by
    have ih := sumE_le h i
    cases hE : E[i]? with
    | none =>
      have e : sumE E (i + 1) = sumE E i := by unfold sumE; rw [List.take_add_one, hE]; simp
      rw [e, Nat.succ_mul]
      omega
    | some x =>
      obtain ⟨A, B, M⟩ := x
      rw [sumE_succ hE, Nat.succ_mul]
      have : M ≤ m := h _ (List.mem_of_getElem? hE)
      omega
theorem sumE_all {E : List Edge} {n : Nat} (h : E.length = n) : sumE E n = (E.map fun e => e.2.2).sum := by
  subst h
  unfold sumE
  rw [List.take_length]
theorem edges_small {p : Int} {l : List (List Int)} (h : ∀ r ∈ l, wayP p r) : ∀ e ∈ edgesOf l, e.2.2 ≤ 10000 := by
  intro e he
  obtain ⟨r, hr, rfl⟩ := List.mem_map.1 he
  have := h r hr
  unfold wayP at this
  simp only [edgeOf]
  omega
theorem dist_le64 {E : List Edge} {n : Nat} (hE : Longs E) (hs : ∀ e ∈ E, e.2.2 ≤ 10000) (hn : E.length = n) (h6 : n ≤ 101) (a b : Nat) : -1 ≤ distI E a b ∧ distI E a b ≤ 1010000 := by
  have h1 := distI_ge E a b
  have h2 := distI_sum hE a b
  have h3 := sumE_le hs n
  rw [sumE_all hn] at h3
  have h4 : n * 10000 ≤ 101 * 10000 := Nat.mul_le_mul_right _ h6
  omega
end Go.Proofs.Ytoconmcmnikdnaa
