/-
  The contracts of package lumperref03's functions, continued: First, Last, Same; and of the statements' own helpers plain and few.
-/
import Derived.Test.YtcefjnjlcpkanaaZao
import Derived.Test.YtcefjnjlcpkanaaZan
namespace Go.Proofs.Ytcefjnjlcpkanaa
open Go.RowKit
set_option linter.unusedVariables false
set_option maxRecDepth 20000
set_option linter.unusedSimpArgs false

theorem same_any (A B : Option Addr) (ca cb : Nat) (xs : List (Int × Int)) (w : World) (ha : Spans w A xs) (hb : Spans w B xs) (hl : xs.length ≤ 100000000) :
    Calls Try.prog 10 #[.slice A xs.length ca, .slice B xs.length cb] w fun e w' => e = .returned (.bool true) ∧ Below w.heap.size w w' := by
  have HA := Lib.hid ha
  have HB := Lib.hid hb
  clear ha hb
  go_enter Try.func10, Try.ntmps10
  go_wp2
  go_loopw [5] (fun i wr => ∃ (k : Nat), k ≤ xs.length ∧ i = .int .i64 k ∧ Below w.heap.size w wr) (fun i _ => xs.length - (intOf i).toNat)
  case atStart => exact ⟨0, Nat.zero_le _, rfl, Below.refl _ _⟩
  case round =>
    obtain ⟨k, hk, rfl, hbw⟩ := hrel
    by_cases hlt : k < xs.length
    · obtain ⟨b, off, rfl, hblt, c1, c2⟩ := (HA.out.below hbw).2 k hlt
      obtain ⟨b', off', rfl, hblt', d1, d2⟩ := (HB.out.below hbw).2 k hlt
      generalize xs.getD k (0, 0) = z at *
      obtain ⟨p, q⟩ := z
      simp only [] at *
      have i0 : (0 : Int) ≤ (k : Int) := by omega
      have i1 : (k : Int) < (xs.length : Int) := by omega
      go_wp2
      go_quiet (fail)
      go_wp2
      go_roundw
      case rel => exact ⟨k + 1, by omega, by go_num, below_drewN hbw _⟩
      case measure => simp [intOf]; omega
    · obtain rfl : k = xs.length := by omega
      go_wp2
      go_ret
      exact ⟨rfl, hbw⟩

end Go.Proofs.Ytcefjnjlcpkanaa
