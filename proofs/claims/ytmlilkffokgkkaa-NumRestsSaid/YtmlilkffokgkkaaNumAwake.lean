/-
  The law's own head of layer 1, 'awake', answers true; what was there is left as it was.
-/
import Derived.Test.YtmlilkffokgkkaaNum
import Derived.Laws.Rows
namespace Go.Proofs.Ytmlilkffokgkkaa
open Go.RowKit

theorem sum_of (A : Option Addr) (n cap : Nat) (xs : List Int) (v c : Int) (hn : xs.length = n) (hv : sumV xs = v) (hc : sumC xs = c) (w : World) (hx : Ints w A xs) (hl : n ≤ 9223372036854775807) :
    Calls Try.prog 10 #[.slice A n cap] w fun e w' => e = .returned (.tuple #[.int .i64 v, .int .i64 c]) ∧ w = w' := by
  subst hn hv hc
  exact sum_any A cap xs w hx hl

theorem ints_new (w : World) (xs : List Int) (t : TypeId) (h : ∀ x ∈ xs, -9223372036854775808 ≤ x ∧ x ≤ 9223372036854775807) :
    Ints (w.alloc (.cells (xs.map (Value.int .i64)).toArray t)) (some ⟨w.heap.size, 0, none⟩) xs := by
  intro k hk
  refine ⟨_, _, rfl, ?_, ?_⟩
  · have e : (w.alloc (.cells (xs.map (Value.int .i64)).toArray t)).cell? ⟨w.heap.size, 0 + k, none⟩ = (xs.map (Value.int .i64)).toArray[0 + k]? :=
      cell_of_row _ _ _ _ t (0, 0) (heap_alloc_new w _)
    rw [e]
    simp [List.getD, hk]
  · have := h (xs.getD k 0) (by simp [List.getD, hk])
    exact this

theorem awake1 (w : World) :
    Calls Try.prog 9 #[] w fun e w' => e = .returned (.bool true) ∧ Below w.heap.size w w' := by
  go_enter Try.func9, Try.ntmps9
  go_wp2_with fail
  refine (sum_of _ 3 3 [1, 2, 4] 7 0 rfl (by decide) (by decide) _ (ints_new w [1, 2, 4] 3 (by simp)) (by omega)).mono ?_
  rintro e w' ⟨rfl, rfl⟩
  go_wp2_with fail
  have h2 := ints_new (w.alloc (.cells #[.int .i64 1, .int .i64 2, .int .i64 4] 3)) [4611686018427387904, 4611686018427387904] 3 (by simp)
  rw [World.size_alloc] at h2
  have H2 := Lib.hid h2
  clear h2
  refine (sum_of _ 2 2 [4611686018427387904, 4611686018427387904] 0 10 rfl (by decide) (by decide) _ H2.out (by omega)).mono ?_
  rintro e w' ⟨rfl, rfl⟩
  go_wp2_with fail
  refine (mul_in _ _ _ (by omega) (by omega) (by omega) (by omega) (by omega)).mono ?_
  rintro e w' ⟨rfl, n1, rfl⟩
  go_wp2_with fail
  refine (mul_over _ _ _ (by omega) (by omega) (by omega) (by omega) (by omega)).mono ?_
  rintro e w' ⟨rfl, n2, rfl⟩
  go_wp2_with fail
  refine (div_pos _ _ _ (by omega) (by omega) (by omega) (by omega)).mono ?_
  rintro e w' ⟨rfl, n3, rfl⟩
  go_wp2_with fail
  refine (div_zero _ _ _ (by omega)).mono ?_
  rintro e w' ⟨rfl, n4, rfl⟩
  go_wp2_with fail
  refine (half_pos _ _ _ (by omega) (by omega) (by omega) (by omega)).mono ?_
  rw [show halfV (-7) 2 = -3 from by decide]
  rintro e w' ⟨rfl, n5, rfl⟩
  go_wp2_with fail
  refine (up_pos _ _ _ (by omega) (by omega) (by omega) (by omega)).mono ?_
  rw [show upV 7 2 = 4 from by decide]
  rintro e w' ⟨rfl, n6, rfl⟩
  go_wp2_with fail
  refine (gcd_any _ _ _ (by omega) (by omega) (by omega) (by omega)).mono ?_
  rw [show gcdV 12 (-18) = 6 from by decide]
  rintro e w' ⟨rfl, n7, rfl⟩
  go_wp2
  go_ret
  exact ⟨rfl, below_drewN (((Below.refl _ _).alloc (Nat.le_refl _) _).alloc (by simp) _) _⟩
end Go.Proofs.Ytmlilkffokgkkaa
