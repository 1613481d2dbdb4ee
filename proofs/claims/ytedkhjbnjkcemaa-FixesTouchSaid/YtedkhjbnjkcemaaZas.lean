/-
  The document's own answers for layer 8: Less, at, take, numbers, Put.
-/
import Derived.Test.YtedkhjbnjkcemaaZar
import Derived.Test.YtedkhjbnjkcemaaZab
import Derived.Test.YtedkhjbnjkcemaaZaa
import Derived.Test.YtedkhjbnjkcemaaZaj
import Derived.Test.YtedkhjbnjkcemaaZap
import Derived.Test.YtedkhjbnjkcemaaZao
import Derived.Test.YtedkhjbnjkcemaaZal
import Derived.Deep.DeepCutAuto
import Derived.Test.YtedkhjbnjkcemaaZac
import Derived.Test.YtedkhjbnjkcemaaProg
import Derived.OpenShut
import Derived.Laws.Cover1
import Derived.WalkKit
import Derived.WalkLawsBesides
import Derived.Lib.Hide
import Derived.IntWalk
import Derived.Lib.SliceRun
import Derived.WalkMore
import Derived.ScopeJumps
import Derived.RegionTactic
namespace Go.Proofs.Ytedkhjbnjkcemaa
open Go.RowKit
set_option linter.unusedVariables false
set_option linter.unusedSimpArgs false
set_option maxRecDepth 20000

set_option maxHeartbeats 4000000 in
theorem rless8 (a b : EvP) (W : World) : Calls Try.prog 48 #[.agg (evC a), .agg (evC b)] W fun e w' => e = .returned (.bool (lessE a b)) ∧ Below W.heap.size W w' := by
  have a0 : (evC a)[0]? = some (.int .i64 a.id) := rfl
  have a2 : (evC a)[2]? = some (.int .i64 a.tm) := rfl
  have b0 : (evC b)[0]? = some (.int .i64 b.id) := rfl
  have b2 : (evC b)[2]? = some (.int .i64 b.tm) := rfl
  obtain ⟨L, hL⟩ : ∃ L, lessE a b = L := ⟨_, rfl⟩
  have HL : Hid ((a.tm < b.tm ∨ (a.tm = b.tm ∧ a.id < b.id)) ↔ L = true) := Lib.hid (by rw [← hL]; simp [lessE])
  rw [hL]
  clear hL
  generalize evC a = ca at *
  generalize evC b = cb at *
  generalize a.tm = ta at *
  generalize b.tm = tb at *
  generalize a.id = ia at *
  generalize b.id = ib at *
  have c0 := ((Has.new W 33 ca rfl).alloc (.cells cb 33)).cell 0 a0
  have c2 := ((Has.new W 33 ca rfl).alloc (.cells cb 33)).cell 2 a2
  have d0 := (Has.new (W.alloc (.cells ca 33)) 33 cb (s := W.heap.size + 1) (by simp)).cell 0 b0
  have d2 := (Has.new (W.alloc (.cells ca 33)) 33 cb (s := W.heap.size + 1) (by simp)).cell 2 b2
  have hlt := cell_lt c0
  clear a0 a2 b0 b2
  by_cases h1 : ta < tb
  · obtain rfl : L = true := HL.out.1 (.inl h1)
    clear HL
    go_enter Try.func48, Try.ntmps48
    go_wp2
    go_ret
    exact ⟨rfl, by (repeat' (first | with_reducible exact Below.refl _ _ | with_reducible assumption | with_reducible refine bel_alloc ?_ _ | with_reducible refine bel_set ?_ ?_ _ | with_reducible refine below_drewN ?_ _ | with_reducible refine below_drew ?_ | (simp; done) | (simp; omega) | omega))⟩
  · by_cases h2 : ta = tb
    · subst h2
      by_cases h3 : ia < ib
      · obtain rfl : L = true := HL.out.1 (.inr ⟨rfl, h3⟩)
        clear HL
        go_enter Try.func48, Try.ntmps48
        go_wp2
        go_ret
        exact ⟨rfl, by (repeat' (first | with_reducible exact Below.refl _ _ | with_reducible assumption | with_reducible refine bel_alloc ?_ _ | with_reducible refine bel_set ?_ ?_ _ | with_reducible refine below_drewN ?_ _ | with_reducible refine below_drew ?_ | (simp; done) | (simp; omega) | omega))⟩
      · obtain rfl : L = false := by
          cases L with
          | false => rfl
          | true => rcases HL.out.2 rfl with q | q <;> omega
        clear HL
        have h4 : decide (ia < ib) = false := decide_eq_false h3
        go_enter Try.func48, Try.ntmps48
        go_wp2
        go_ret
        exact ⟨rfl, by (repeat' (first | with_reducible exact Below.refl _ _ | with_reducible assumption | with_reducible refine bel_alloc ?_ _ | with_reducible refine bel_set ?_ ?_ _ | with_reducible refine below_drewN ?_ _ | with_reducible refine below_drew ?_ | (simp; done) | (simp; omega) | omega))⟩
    · obtain rfl : L = false := by
        cases L with
        | false => rfl
        | true => rcases HL.out.2 rfl with q | q <;> omega
      clear HL
      have h4 : decide (ta < tb) = false := decide_eq_false h1
      have h5 : (ta == tb) = false := by simpa using h2
      go_enter Try.func48, Try.ntmps48
      go_wp2
      go_ret
      exact ⟨rfl, by (repeat' (first | with_reducible exact Below.refl _ _ | with_reducible assumption | with_reducible refine bel_alloc ?_ _ | with_reducible refine bel_set ?_ ?_ _ | with_reducible refine below_drewN ?_ _ | with_reducible refine below_drew ?_ | (simp; done) | (simp; omega) | omega))⟩
end Go.Proofs.Ytedkhjbnjkcemaa
