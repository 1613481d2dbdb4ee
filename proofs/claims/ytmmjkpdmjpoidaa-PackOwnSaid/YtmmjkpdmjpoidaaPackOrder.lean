/-
  The walk of the law PackOrder: it answers true, and leaves what was there as it was.
-/
import Derived.Test.YtmmjkpdmjpoidaaPackAwake
namespace Go.Proofs.Ytmmjkpdmjpoidaa
open Go.RowKit
set_option linter.unusedVariables false

theorem putB_one (n : Nat) : putB [n] = oneB n := by simp [putB]
/-- One number put behind nothing. -/
theorem put_one (w : World) (n : Nat) (o : Nat) (hn : n < 9223372036854775808) (ho : (oneB n).length = o) {s : Nat} (hs : w.heap.size = s) :
    Calls Try.prog 9 #[.slice none 0 0, .slice (some ⟨s, 0, none⟩) 1 1] (w.alloc (.cells #[.int .i64 (n : Int)] 3)) fun e w' => ∃ A' c', e = .returned (.tuple #[.slice A' o c', .int .i64 0]) ∧ BRow w' w.heap.size A' c' (oneB n) ∧ Below w.heap.size w w' := by
  refine (put_ok _ 0 _ [] _ 1 _ [n] _ Sl.nil_ (nums_new w 3 [(n : Int)] hs) rfl (by simpa using hn) (by omega) (by omega)).mono ?_
  rintro e w' ⟨A', c', rfl, r, b⟩
  rw [putB_one, List.nil_append] at r
  rw [putB_one, ho, Nat.zero_add]
  exact ⟨A', c', rfl, r.mono (by simp), bel_on (bel_alloc (Below.refl w.heap.size w) _) b⟩

theorem packOrder_neg (a b : Int) (w : World) (h : a < 0 ∨ (0 ≤ a ∧ b < 0)) :
    Calls Try.prog 7 #[.int .i64 a, .int .i64 b] w fun e w' => e = .returned (.bool true) ∧ Below w.heap.size w w' := by
  rcases h with h | ⟨h, h'⟩
  all_goals
    go_enter Try.func7, Try.ntmps7
    go_wp2_with fail
    refine (awake5 _).mono ?_
    rintro e w1 ⟨rfl, hb1⟩
    go_wp2
    go_ret
    exact ⟨rfl, hb1⟩
set_option maxHeartbeats 400000 in
theorem packOrder_pos (a b : Nat) (w : World) (ha : a < 9223372036854775808) (hb : b < 9223372036854775808) :
    Calls Try.prog 7 #[.int .i64 a, .int .i64 b] w fun e w' => e = .returned (.bool true) ∧ Below w.heap.size w w' := by
  have hless := less_one ha hb
  have hle : a < b → (oneB a).length ≤ (oneB b).length := fun h => by rw [one_len, one_len]; have := digs_mono (Nat.le_of_lt h); omega
  have HP := Lib.hid (fun w => put_one w a _ ha rfl rfl)
  have HQ := Lib.hid (fun w => put_one w b _ hb rfl rfl)
  have HC := Lib.hid (fun (w : World) (A : Option Addr) (c : Nat) (h : Sl 1 w A (oneB a).length c (bytesV (oneB a))) => conv_sl h)
  have HD := Lib.hid (fun (w : World) (A : Option Addr) (c : Nat) (h : Sl 1 w A (oneB b).length c (bytesV (oneB b))) => conv_sl h)
  generalize hx : (oneB a).length = x at *
  generalize hy : (oneB b).length = y at *
  generalize txtB (oneB a) = s at *
  generalize txtB (oneB b) = t at *
  have HL := Lib.hid hless
  have HE := Lib.hid hle
  have HX := Lib.hid hx
  have HY := Lib.hid hy
  clear hless hle hx hy
  go_enter Try.func7, Try.ntmps7
  go_wp2_with fail
  refine (awake5 _).mono ?_
  rintro e w1 ⟨rfl, b1⟩
  go_wp2_with fail
  refine (HP.out _).mono ?_
  rintro e w2 ⟨A2, c2, rfl, r2, b2⟩
  replace b1 := bel_on b1 b2
  go_wp2_with fail
  refine (HQ.out _).mono ?_
  rintro e w3 ⟨A3, c3, rfl, r3, b3⟩
  replace b1 := bel_on b1 b3
  have k2 := HC.out w3 A2 c2 (((r2.below b3).slAt HX.out))
  have k3 := HD.out w3 A3 c3 (r3.slAt HY.out)
  clear HP HQ HC HD r2 r3 b2 b3
  by_cases h : a < b
  · have e1 := HL.out
    have e2 := HE.out h
    rw [decide_eq_true h] at e1
    go_wp2
    go_ret
    exact ⟨rfl, b1⟩
  · have e1 := HL.out
    rw [decide_eq_false h] at e1
    go_wp2
    go_ret
    exact ⟨rfl, b1⟩
theorem packOrder_walk (a b : Int) (w : World) (h0 : -9223372036854775808 ≤ a) (h1 : a ≤ 9223372036854775807) (h2 : -9223372036854775808 ≤ b) (h3 : b ≤ 9223372036854775807) :
    Calls Try.prog 7 #[.int .i64 a, .int .i64 b] w fun e w' => e = .returned (.bool true) ∧ Below w.heap.size w w' := by
  by_cases g : a < 0 ∨ (0 ≤ a ∧ b < 0)
  · exact packOrder_neg a b w g
  · obtain ⟨m, rfl⟩ : ∃ m : Nat, a = m := ⟨a.toNat, by omega⟩
    obtain ⟨n, rfl⟩ : ∃ n : Nat, b = n := ⟨b.toNat, by omega⟩
    exact packOrder_pos m n w (by omega) (by omega)
end Go.Proofs.Ytmmjkpdmjpoidaa
