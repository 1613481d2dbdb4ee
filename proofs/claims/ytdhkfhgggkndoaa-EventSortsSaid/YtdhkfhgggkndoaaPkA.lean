/-
  Package pack: how many bytes a number has; a copy of bytes.
-/
import Derived.Test.YtdhkfhgggkndoaaProg
import Derived.Test.YtdhkfhgggkndoaaByRow
import Derived.Test.YtdhkfhgggkndoaaByOpen
import Derived.Test.YtdhkfhgggkndoaaPackPlain
import Derived.WalkKit
import Derived.WalkLawsBesides
import Derived.Lib.Hide
import Derived.IntWalk
import Derived.Lib.SliceRun
namespace Go.Proofs.Ytdhkfhgggkndoaa
open Go.RowKit
set_option linter.unusedVariables false

theorem size_neg (n : Int) (w : World) (h : n < 0) :
    Calls Try.prog 54 #[.int .i64 n] w fun e w' => e = .returned (.int .i64 0) ∧ w = w' := by
  go_enter Try.func54, Try.ntmps54
  go_wp2
  go_ret
  exact ⟨rfl, rfl⟩
theorem digs_step {m : Nat} (h : 0 < m) : (digs m).length = (digs (m / 256)).length + 1 := by
  rw [digs_pos h, List.length_append]
  rfl
theorem size_nat (n : Nat) (w : World) (h : n < 9223372036854775808) :
    Calls Try.prog 54 #[.int .i64 n] w fun e w' => e = .returned (.int .i64 ((digs n).length + 1 : Nat)) ∧ w = w' := by
  have h8 := digs_eight h
  generalize hd : (digs n).length = d at *
  have HD := Lib.hid hd
  clear hd
  go_enter Try.func54, Try.ntmps54
  go_wp2
  go_loop [0, 3] (fun a s => ∃ m k : Nat, m ≤ n ∧ a = .int .i64 m ∧ s = .int .i64 k ∧ k ≤ d + 1 ∧ Hid (k + (digs m).length = d + 1)) (fun a _ => (intOf a).toNat)
  case atStart => exact ⟨n, 1, by omega, rfl, rfl, by omega, by rw [HD.out]; exact Nat.add_comm _ _⟩
  case round =>
    obtain ⟨m, k, hm, rfl, rfl, hk, hs⟩ := hrel
    by_cases h0 : m = 0
    · subst h0
      have e := hs.out
      rw [digs_zero] at e
      go_wp2
      go_ret
      exact ⟨ret_one (by simp at e; omega), rfl⟩
    · have hp : 0 < (m : Int) := by omega
      have e := hs.out
      rw [digs_step (by omega)] at e
      have hk' : k ≤ d := by omega
      have HE := Lib.hid e
      clear e
      go_wp2
      go_round
      case rel => exact ⟨m / 256, k + 1, by omega, by go_num, by go_num, by omega, Lib.hid (by have := HE.out; omega)⟩
      case measure => simp [intOf]; omega

/-- 'bytes.Clone'. -/
theorem clone_any (A : Option Addr) (m c : Nat) (l : List (BitVec 8)) (w : World) (h : Sl 1 w A m c (bytesV l)) (hm : m ≤ 100000000000000) :
    Calls Try.prog 55 #[.slice A m c] w fun e w' => ∃ A' c', e = .returned (.slice A' m c') ∧ BRow w' w.heap.size A' c' l ∧ Below w.heap.size w w' := by
  have qT : ∀ (w : World) (a : Option Addr) (n c n' c' : Nat), (binOp .eql 31 (.slice a n c) (.slice none n' c')).run Try.prog w = .ok (.bool a.isNone) w := fun w a n c n' c' => Lib.run_eql_slice_nil w _ _ a n c n' c' Try.underlying31
  have hl := h.blen
  subst hl
  cases A with
  | none =>
    obtain rfl : l = [] := by
      have := byts_of_sl h
      cases l with
      | nil => rfl
      | cons x r => obtain ⟨b, off, e, _⟩ := this 0 (by simp); cases e
    go_enter Try.func55, Try.ntmps55
    go_wp2
    go_ret
    exact ⟨none, 0, rfl, BRow.nil _ _, Below.refl _ _⟩
  | some ad =>
    have ho : BRow (w.alloc (.cells #[] 5)) w.heap.size (some ⟨w.heap.size, 0, none⟩) 0 [] := own_new w 5 1 0 #[] rfl (by decide)
    obtain ⟨A', c', w', hr, hrow, hb, _⟩ := brow_append ho (h.alloc _) (by simpa using hm) (by simp)
    rw [List.nil_append] at hrow
    simp only [List.length_nil, Nat.zero_add] at hr
    have HR := Lib.hid hr
    have hb' := hb w (Nat.le_refl _) (bel_alloc (Below.refl _ _) _)
    clear hr hb h ho
    go_enter Try.func55, Try.ntmps55
    go_wp2_with (at_builtin; refine wpList_append_run HR.out rfl rfl rfl rfl ?_)
    go_ret
    exact ⟨A', c', rfl, hrow, hb'⟩
end Go.Proofs.Ytdhkfhgggkndoaa
