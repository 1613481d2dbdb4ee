/-
  The law's own head of layer 1, 'awake', answers true; what was there is left as it was.
-/
import Derived.Test.YtmlilkffokgkkaaNum
import Derived.Test.YtmlilkffokgkkaaMem
import Derived.Laws.Rows
namespace Go.Proofs.Ytmlilkffokgkkaa
open Go.RowKit

theorem sum_of (A : Option Addr) (n cap : Nat) (xs : List Int) (v c : Int) (hn : xs.length = n) (hv : sumV xs = v) (hc : sumC xs = c) (w : World) (hx : Ints w A xs) (hl : n ≤ 9223372036854775807) :
    Calls Try.prog 10 #[.slice A n cap] w fun e w' => e = .returned (.tuple #[.int .i64 v, .int .i64 c]) ∧ w = w' := by
  subst hn hv hc
  exact sum_any A cap xs w hx hl

theorem ints_new (w : World) (xs : List Int) (t : TypeId) (h : ∀ x ∈ xs, -9223372036854775808 ≤ x ∧ x ≤ 9223372036854775807) :
    Ints (w.alloc (.cells (xs.map (Value.int .i64)).toArray t)) (some ⟨w.heap.size, 0, none⟩) xs := by
  intro k hk
  refine ⟨_, _, rfl, ?_, ?_⟩
  · have e : (w.alloc (.cells (xs.map (Value.int .i64)).toArray t)).cell? ⟨w.heap.size, 0 + k, none⟩ = (xs.map (Value.int .i64)).toArray[0 + k]? :=
      cell_of_row _ _ _ _ t (0, 0) (heap_alloc_new w _)
    rw [e]
    simp [List.getD, hk]
  · have := h (xs.getD k 0) (by simp [List.getD, hk])
    exact this

theorem ints_of_sl {w : World} {A : Option Addr} {n c : Nat} {xs : List Int} (h : Sl 1 w A n c (ints .i64 xs)) (hw : ∀ x ∈ xs, -9223372036854775808 ≤ x ∧ x ≤ 9223372036854775807) : Ints w A xs := by
  intro k hk
  have hb := hw (xs.getD k 0) (by simp [List.getD, hk])
  obtain ⟨hl, ⟨_, rfl, _⟩ | ⟨ad, rfl, hc⟩⟩ := h
  · simp [ints] at hl
    subst hl
    simp at hk
  · have hk' := hc k (.int .i64 (xs.getD k 0)) (by simp [ints, List.getD, hk])
    obtain ⟨b, off, sp⟩ := ad
    have h0 := hc 0 (.int .i64 (xs.getD 0 0)) (by simp [ints, List.getD, show 0 < xs.length by omega])
    have hsp : sp = none := by simpa [Addr.add] using World.cell?_spot h0
    subst hsp
    refine ⟨b, off, rfl, ?_, hb⟩
    have e : (⟨b, off, none⟩ : Addr).add k = ⟨b, off + k, none⟩ := by unfold Addr.add; split <;> simp_all
    rw [← e]
    exact hk'

theorem sum_sl (A : Option Addr) (n cap : Nat) (xs : List Int) (w : World) (hx : Sl 1 w A n cap (ints .i64 xs)) (hw : ∀ x ∈ xs, -9223372036854775808 ≤ x ∧ x ≤ 9223372036854775807) (hl : n ≤ 9223372036854775807) :
    Calls Try.prog 10 #[.slice A n cap] w fun e w' => e = .returned (.tuple #[.int .i64 (sumV xs), .int .i64 (sumC xs)]) ∧ Below w.heap.size w w' := by
  have hn : xs.length = n := by simpa [ints] using hx.1
  subst hn
  exact sameB (sum_any A cap xs w (ints_of_sl hx hw) hl)

theorem sum_new (w : World) (xs : List Int) (t : TypeId) (n : Nat) (hn : xs.length = n) (hl : n ≤ 9223372036854775807) (h : ∀ x ∈ xs, -9223372036854775808 ≤ x ∧ x ≤ 9223372036854775807) :
    Calls Try.prog 10 #[.slice (some ⟨w.heap.size, 0, none⟩) n n] (w.alloc (.cells (xs.map (Value.int .i64)).toArray t)) fun e w' =>
      e = .returned (.tuple #[.int .i64 (sumV xs), .int .i64 (sumC xs)]) ∧ Below w.heap.size w w' := by
  subst hn
  refine (sum_any _ _ xs _ (ints_new w xs t h) hl).mono ?_
  rintro e w' ⟨rfl, rfl⟩
  exact ⟨rfl, (Below.refl _ _).alloc (Nat.le_refl _) _⟩

def inB (n : Int) : Bool := decide (-9223372036854775808 ≤ n ∧ n ≤ 9223372036854775807)
def mulV (a b : Int) : Int := if inB (a * b) then a * b else 0
def mulC (a b : Int) : Int := if inB (a * b) then 0 else 10
theorem mulV_comm (a b : Int) : mulV a b = mulV b a := by unfold mulV; rw [Int.mul_comm]
theorem mulC_comm (a b : Int) : mulC a b = mulC b a := by unfold mulC; rw [Int.mul_comm]

theorem mul_any (a b : Int) (w : World) (ha : -9223372036854775808 ≤ a) (ha' : a ≤ 9223372036854775807) (hb : -9223372036854775808 ≤ b) (hb' : b ≤ 9223372036854775807) :
    Calls Try.prog 12 #[.int .i64 a, .int .i64 b] w fun e w' => e = .returned (.tuple #[.int .i64 (mulV a b), .int .i64 (mulC a b)]) ∧ ∃ n, w' = w.drewN n := by
  by_cases h : inB (a * b) = true
  · have h' := h
    simp only [inB, decide_eq_true_eq] at h'
    rw [show mulV a b = a * b from if_pos h, show mulC a b = 0 from if_pos h]
    by_cases h0 : a = 0
    · subst h0
      rw [Int.zero_mul]
      exact mul_nil b w
    · exact mul_in a b w h0 h'.1 h'.2 hb hb'
  · have h' := h
    simp only [inB, decide_eq_true_eq] at h'
    rw [show mulV a b = 0 from if_neg h, show mulC a b = 10 from if_neg h]
    exact mul_over a b w ha ha' hb hb' (by omega)

theorem sum_two (a b : Int) (ha : -9223372036854775808 ≤ a) (ha' : a ≤ 9223372036854775807) : sumGo 0 [a, b] = if inB (a + b) then some (a + b) else none := by
  simp only [sumGo, Int.zero_add, inB]
  rw [if_pos ⟨ha, ha'⟩]
  by_cases h : -9223372036854775808 ≤ a + b ∧ a + b ≤ 9223372036854775807 <;> simp [h]

theorem awake1 (w : World) :
    Calls Try.prog 9 #[] w fun e w' => e = .returned (.bool true) ∧ Below w.heap.size w w' := by
  go_enter Try.func9, Try.ntmps9
  go_wp2_with fail
  refine (sum_of _ 3 3 [1, 2, 4] 7 0 rfl (by decide) (by decide) _ (ints_new w [1, 2, 4] 3 (by simp)) (by omega)).mono ?_
  rintro e w' ⟨rfl, rfl⟩
  go_wp2_with fail
  have h2 := ints_new (w.alloc (.cells #[.int .i64 1, .int .i64 2, .int .i64 4] 3)) [4611686018427387904, 4611686018427387904] 3 (by simp)
  rw [World.size_alloc] at h2
  have H2 := Lib.hid h2
  clear h2
  refine (sum_of _ 2 2 [4611686018427387904, 4611686018427387904] 0 10 rfl (by decide) (by decide) _ H2.out (by omega)).mono ?_
  rintro e w' ⟨rfl, rfl⟩
  go_wp2_with fail
  refine (mul_in _ _ _ (by omega) (by omega) (by omega) (by omega) (by omega)).mono ?_
  rintro e w' ⟨rfl, n1, rfl⟩
  go_wp2_with fail
  refine (mul_over _ _ _ (by omega) (by omega) (by omega) (by omega) (by omega)).mono ?_
  rintro e w' ⟨rfl, n2, rfl⟩
  go_wp2_with fail
  refine (div_pos _ _ _ (by omega) (by omega) (by omega) (by omega)).mono ?_
  rintro e w' ⟨rfl, n3, rfl⟩
  go_wp2_with fail
  refine (div_zero _ _ _ (by omega)).mono ?_
  rintro e w' ⟨rfl, n4, rfl⟩
  go_wp2_with fail
  refine (half_pos _ _ _ (by omega) (by omega) (by omega) (by omega)).mono ?_
  rw [show halfV (-7) 2 = -3 from by decide]
  rintro e w' ⟨rfl, n5, rfl⟩
  go_wp2_with fail
  refine (up_pos _ _ _ (by omega) (by omega) (by omega) (by omega)).mono ?_
  rw [show upV 7 2 = 4 from by decide]
  rintro e w' ⟨rfl, n6, rfl⟩
  go_wp2_with fail
  refine (gcd_any _ _ _ (by omega) (by omega) (by omega) (by omega)).mono ?_
  rw [show gcdV 12 (-18) = 6 from by decide]
  rintro e w' ⟨rfl, n7, rfl⟩
  go_wp2
  go_ret
  exact ⟨rfl, below_drewN (((Below.refl _ _).alloc (Nat.le_refl _) _).alloc (by simp) _) _⟩
end Go.Proofs.Ytmlilkffokgkkaa
