/-
  Package crc: one turn; the table of four turns.
-/
import Derived.Test.YtfjbpjojpjkfcaaProg
import Derived.Test.YtfjbpjojpjkfcaaCrcBits
import Derived.Test.YtfjbpjojpjkfcaaHas
import Derived.WalkKit
import Derived.WalkLawsBesides
import Derived.Lib.Hide
import Derived.IntWalk
import Derived.Laws.CopyOwn
namespace Go.Proofs.Ytfjbpjojpjkfcaa
open Go.RowKit
set_option linter.unusedVariables false

theorem turn_any (n : BitVec 32) (w : World) :
    Calls Try.prog 35 #[v32 n] w fun e w' => e = .returned (v32 (turnB n)) ∧ w = w' := by
  have hn := n.isLt
  go_enter Try.func35, Try.ntmps35
  go_wp2
  · go_ret
    exact ⟨ret_one (turn_odd ‹_›), rfl⟩
  · go_ret
    exact ⟨ret_one (turn_even ‹_›), rfl⟩
theorem ref_turn (n : BitVec 32) (w : World) :
    Calls Try.prog 37 #[v32 n] w fun e w' => e = .returned (v32 (turnB n)) ∧ w = w' := by
  have hn := n.isLt
  go_enter Try.func37, Try.ntmps37
  go_wp2
  · go_ret
    exact ⟨ret_one (turn_odd ‹_›), rfl⟩
  · go_ret
    exact ⟨ret_one (turn_even ‹_›), rfl⟩

theorem turns_succ (j : Nat) (n : BitVec 32) : turnB (turnsB j n) = turnsB (j + 1) n := (turns_add j 1 n).symm
theorem nat32 (k : Nat) (h : k < 16) : (k : Int) = ((BitVec.ofNat 32 k).toNat : Int) := by
  rw [BitVec.toNat_ofNat, Nat.mod_eq_of_lt (by omega)]

set_option maxHeartbeats 400000 in
theorem four_any (w : World) : Calls Try.prog 26 #[] w fun e w' => e = .returned (.agg (tab4 16)) ∧ Below w.heap.size w w' := by
  go_enter Try.func26, Try.ntmps26
  go_wp2
  go_loopw [4] (fun i wr => ∃ k : Nat, k ≤ 16 ∧ i = .int .i64 k ∧ Has wr w.heap.size (tab4 0) ∧ Has wr (w.heap.size + 1) (tab4 k) ∧ Below w.heap.size w wr) (fun i _ => 16 - (intOf i).toNat)
  case atStart => exact ⟨0, by omega, rfl, (Has.new w _ _ rfl).alloc _, Has.new (w.alloc _) _ _ (by simp), bel_alloc (bel_alloc (Below.refl _ _) _) _⟩
  case round =>
    obtain ⟨k, hk, rfl, h0, h1, hb⟩ := hrel
    by_cases hlt : k < 16
    · have hd : (k : Int) < 16 := by omega
      go_wp2
      go_loop [3, 9] (fun n i => ∃ j : Nat, j ≤ 4 ∧ i = .int .i64 j ∧ n = v32 (turnsB j (BitVec.ofNat 32 k))) (fun _ i => 4 - (intOf i).toNat)
      case atStart => exact ⟨0, by omega, rfl, congrArg (Value.int .u32) (nat32 k hlt)⟩
      case round =>
        obtain ⟨j, hj, rfl, rfl⟩ := hrel
        by_cases hl2 : j < 4
        · have hd2 : (j : Int) < 4 := by omega
          go_wp2_with (go_at_call 35; refine (turn_any _ _).mono ?_; rintro e w' ⟨rfl, rfl⟩)
          go_round
          case rel => exact ⟨j + 1, by omega, by go_num, by rw [turns_succ]⟩
          case measure => simp [intOf]; omega
        · obtain rfl : j = 4 := by omega
          have c1 := h1.cell (v := v32 0#32) k (by simp [tab4, hlt])
          have f1 := h1.frozen k
          have HS := Lib.hid (tab4_set k hlt ▸ h1.set k (v32 (turnsB 4 (BitVec.ofNat 32 k))))
          go_wp2
          go_roundw
          case rel => exact ⟨k + 1, by omega, by go_num, h0.far (by simp) _, HS.out, bel_set hb (p := ⟨w.heap.size + 1, k, none⟩) (by simp) _⟩
          case measure => simp [intOf]; omega
    · obtain rfl : k = 16 := by omega
      obtain ⟨t0, q0⟩ := h0
      obtain ⟨t1, q1⟩ := h1
      have Q0 := Lib.hid q0
      have Q1 := Lib.hid q1
      clear q0 q1
      go_wp2_with (first | (refine wpList_load_row rfl 52 _ rfl (w.heap.size + 1) rfl t1 (tab4 16) (0, 0) _ Q1.out Try.underlying52 rfl ?_ ?_; rw [tab4_size]; kernel_rfl) | (refine wpList_store_row rfl 52 _ _ rfl w.heap.size (tab4 16) rfl rfl t0 (tab4 0) Q0.out ?_ rfl (tab4_one 16) ?_; rw [tab4_size]; kernel_rfl))
      go_outline
      refine bodyPost_ret (results_cell_row rfl _ _ w.heap.size t0 (tab4 16) (0, 0) _ rfl (setRow_heap _ _ _ _ _ _ Q0.out) Try.underlying52 rfl ?_) rfl ⟨rfl, ?_⟩
      · rw [tab4_size]; kernel_rfl
      · exact below_setRow hb (Nat.le_refl _) _
end Go.Proofs.Ytfjbpjojpjkfcaa
