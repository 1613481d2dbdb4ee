/-
  The contract of the statements' own helper plain.
-/
import Derived.Test.YtkdogleocffhdaaSpRefD
namespace Go.Proofs.Ytkdogleocffhdaa
open Go.RowKit
set_option linter.unusedVariables false

theorem plain_step (xs : List (Int × Int)) (k : Nat) (h : k < xs.length) : PlainFrom 0 (xs.take (k + 1)) ↔ PlainFrom 0 (xs.take k) ∧ 0 ≤ (xs.getD k (0, 0)).1 ∧ (xs.getD k (0, 0)).1 < (xs.getD k (0, 0)).2 ∧ (xs.getD k (0, 0)).2 ≤ 32054400 ∧ (0 < k → (xs.getD (k - 1) (0, 0)).2 < (xs.getD k (0, 0)).1) := by
  rw [take_snoc xs k h]
  constructor
  · intro hp
    obtain ⟨h1, h2, h3, h4, h5⟩ := plain_unsnoc hp
    refine ⟨h1, h3, h4, h5, fun hk => h2 _ ?_⟩
    have hk1 : k - 1 < xs.length := by omega
    have hk2 : k - 1 < (xs.take k).length := by rw [List.length_take]; omega
    have : (xs.take k)[k - 1] = xs[k - 1] := by rw [List.getElem_take]
    rw [show xs.getD (k - 1) (0, 0) = xs[k - 1] by simp [List.getD, hk1], ← this]
    exact List.getElem_mem hk2
  · rintro ⟨h1, h2, h3, h4, h5⟩
    refine plain_snoc h1 (fun x hx => ?_) h2 h3 h4
    have hk : 0 < k := by
      rcases Nat.eq_zero_or_pos k with e | e
      · subst e; simp at hx
      · exact e
    have h6 := h5 hk
    have e : xs.take k = xs.take (k - 1) ++ [xs.getD (k - 1) (0, 0)] := by
      have := take_snoc xs (k - 1) (by omega)
      rwa [show k - 1 + 1 = k by omega] at this
    rw [e] at h1 hx
    obtain ⟨q1, q2, q3, q4, q5⟩ := plain_unsnoc h1
    rcases List.mem_append.1 hx with hx | hx
    · have := q2 x hx; omega
    · rw [List.mem_singleton.1 hx]; exact h6
theorem plain_bad {xs : List (Int × Int)} {k : Nat} (h : k < xs.length) (hb : ¬ (0 ≤ (xs.getD k (0, 0)).1 ∧ (xs.getD k (0, 0)).1 < (xs.getD k (0, 0)).2 ∧ (xs.getD k (0, 0)).2 ≤ 32054400 ∧ (0 < k → (xs.getD (k - 1) (0, 0)).2 < (xs.getD k (0, 0)).1))) : ¬ PlainFrom 0 xs := fun hp =>
  hb ((plain_step xs k h).1 (plain_take (k + 1) hp)).2

def PlainPost (w : World) (xs : List (Int × Int)) (e : Ending) (w' : World) : Prop := ∃ b : Bool, e = .returned (.bool b) ∧ (b = true ↔ PlainFrom 0 xs) ∧ Below w.heap.size w w'

set_option maxHeartbeats 2000000 in
theorem plain_any (A : Option Addr) (ca : Nat) (xs : List (Int × Int)) (w : World) (ha : Spans w A xs) (hl : xs.length ≤ 100000000) :
    Calls Try.prog 26 #[.slice A xs.length ca] w (PlainPost w xs) := by
  have HA := Lib.hid ha
  clear ha
  go_enter Try.func26, Try.ntmps26
  go_wp2
  go_loopw [3] (fun i wr => ∃ (k : Nat), k ≤ xs.length ∧ i = .int .i64 k ∧ Hid (PlainFrom 0 (xs.take k)) ∧ Below w.heap.size w wr) (fun i _ => xs.length - (intOf i).toNat)
  case atStart => exact ⟨0, Nat.zero_le _, rfl, trivial, Below.refl _ _⟩
  case round =>
    obtain ⟨k, hk, rfl, hp, hbw⟩ := hrel
    by_cases hlt : k < xs.length
    · obtain ⟨b, off, rfl, hblt, c1, c2⟩ := (HA.out.below hbw).2 k hlt
      have PS := Lib.hid (plain_step xs k hlt)
      have PB := Lib.hid (plain_bad hlt)
      have i0 : (0 : Int) ≤ (k : Int) := by omega
      have i1 : (k : Int) < (xs.length : Int) := by omega
      by_cases h0 : 0 < k
      · obtain ⟨j, rfl⟩ : ∃ j, k = j + 1 := ⟨k - 1, by omega⟩
        obtain ⟨b2, off2, he, _, c3, c4⟩ := (HA.out.below hbw).2 j (by omega)
        simp only [Option.some.injEq, Addr.mk.injEq, and_true] at he
        obtain ⟨rfl, rfl⟩ := he
        rw [show j + 1 - 1 = j by omega] at PS PB
        generalize xs.getD (j + 1) (0, 0) = z at *
        generalize xs.getD j (0, 0) = y at *
        obtain ⟨p, q⟩ := z
        obtain ⟨r, s⟩ := y
        simp only [] at *
        have i2 : (0 : Int) ≤ (j : Int) := by omega
        have i3 : (j : Int) < (xs.length : Int) := by omega
        have i4 : IntKind.i64.wrap ((j : Int) + 1 - 1) = (j : Int) := by rw [show (j : Int) + 1 - 1 = (j : Int) by omega]; exact IntWalk.i64_in _ (by omega)
        have d4 : decide ((0 : Int) < ((j + 1 : Nat) : Int)) = true := by simp
        by_cases g1 : p < 0
        · have d1 : decide (p < 0) = true := by simpa using g1
          have HB := Lib.hid (PB.out (by omega))
          go_wp2
          go_quiet (fail)
          go_wp2
          go_ret
          exact ⟨false, rfl, by simp [HB.out], below_drewN hbw _⟩
        · have d1 : decide (p < 0) = false := by simpa using g1
          by_cases g2 : q ≤ p
          · have d2 : decide (q ≤ p) = true := by simpa using g2
            have HB := Lib.hid (PB.out (by omega))
            go_wp2
            go_quiet (fail)
            go_wp2
            go_ret
            exact ⟨false, rfl, by simp [HB.out], below_drewN hbw _⟩
          · have d2 : decide (q ≤ p) = false := by simpa using g2
            by_cases g3 : 32054400 < q
            · have d3 : decide (32054400 < q) = true := by simpa using g3
              have HB := Lib.hid (PB.out (by omega))
              go_wp2
              go_quiet (fail)
              go_wp2
              go_ret
              exact ⟨false, rfl, by simp [HB.out], below_drewN hbw _⟩
            · have d3 : decide (32054400 < q) = false := by simpa using g3
              by_cases g5 : p ≤ s
              · have d5 : decide (p ≤ s) = true := by simpa using g5
                have HB := Lib.hid (PB.out (by omega))
                go_wp2
                go_quiet (fail)
                go_wp2
                go_ret
                exact ⟨false, rfl, by simp [HB.out], below_drewN hbw _⟩
              · have d5 : decide (p ≤ s) = false := by simpa using g5
                have HO : Hid (PlainFrom 0 (xs.take (j + 1 + 1))) := PS.out.2 ⟨hp.out, by omega, by omega, by omega, fun _ => by omega⟩
                go_wp2
                go_quiet (fail)
                go_wp2
                go_roundw
                case rel => exact ⟨j + 1 + 1, by omega, by go_num, HO, below_drewN hbw _⟩
                case measure => simp [intOf]; omega
      · obtain rfl : k = 0 := by omega
        generalize xs.getD 0 (0, 0) = z at *
        obtain ⟨p, q⟩ := z
        simp only [Nat.zero_mul, Nat.add_zero] at *
        by_cases g1 : p < 0
        · have d1 : decide (p < 0) = true := by simpa using g1
          have HB := Lib.hid (PB.out (by omega))
          go_wp2
          go_quiet (fail)
          go_wp2
          go_ret
          exact ⟨false, rfl, by simp [HB.out], below_drewN hbw _⟩
        · have d1 : decide (p < 0) = false := by simpa using g1
          by_cases g2 : q ≤ p
          · have d2 : decide (q ≤ p) = true := by simpa using g2
            have HB := Lib.hid (PB.out (by omega))
            go_wp2
            go_quiet (fail)
            go_wp2
            go_ret
            exact ⟨false, rfl, by simp [HB.out], below_drewN hbw _⟩
          · have d2 : decide (q ≤ p) = false := by simpa using g2
            by_cases g3 : 32054400 < q
            · have d3 : decide (32054400 < q) = true := by simpa using g3
              have HB := Lib.hid (PB.out (by omega))
              go_wp2
              go_quiet (fail)
              go_wp2
              go_ret
              exact ⟨false, rfl, by simp [HB.out], below_drewN hbw _⟩
            · have d3 : decide (32054400 < q) = false := by simpa using g3
              have HO : Hid (PlainFrom 0 (xs.take (0 + 1))) := PS.out.2 ⟨hp.out, by omega, by omega, by omega, fun h => absurd h (by omega)⟩
              go_wp2
              go_quiet (fail)
              go_wp2
              go_roundw
              case rel => exact ⟨0 + 1, by omega, by go_num, HO, below_drewN hbw _⟩
              case measure => simp [intOf]; omega
    · obtain rfl : k = xs.length := by omega
      have hs' := hp.out
      rw [List.take_length] at hs'
      have HS := Lib.hid hs'
      clear hp hs'
      go_wp2
      go_ret
      exact ⟨true, rfl, by simp [HS.out], hbw⟩
end Go.Proofs.Ytkdogleocffhdaa
