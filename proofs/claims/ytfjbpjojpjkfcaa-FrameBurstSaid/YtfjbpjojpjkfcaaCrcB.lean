/-
  Package crc: a number's four bytes.
-/
import Derived.Test.YtfjbpjojpjkfcaaCrcA
namespace Go.Proofs.Ytfjbpjojpjkfcaa
open Go.RowKit
set_option linter.unusedVariables false

set_option maxHeartbeats 400000 in
theorem crcbytes_arr (n : BitVec 32) (w : World) : Calls Try.prog 18 #[v32 n] w fun e w' => e = .returned (.agg (arr4 n 4)) ∧ Below w.heap.size w w' := by
  have hn := n.isLt
  go_enter Try.func18, Try.ntmps18
  go_wp2
  go_loopw [5] (fun i wr => ∃ k : Nat, k ≤ 4 ∧ i = .int .i64 k ∧ Has wr w.heap.size (arr4 n 0) ∧ Has wr (w.heap.size + 1) (arr4 n k) ∧ Below w.heap.size w wr) (fun i _ => 4 - (intOf i).toNat)
  case atStart => exact ⟨0, by omega, rfl, (Has.new w _ _ rfl).alloc _, Has.new (w.alloc _) _ _ (by simp), bel_alloc (bel_alloc (Below.refl _ _) _) _⟩
  case round =>
    obtain ⟨k, hk, rfl, h0, h1, hb⟩ := hrel
    by_cases hlt : k < 4
    · have hd : (k : Int) < 4 := by omega
      have c1 := h1.cell (v := v8 0#8) k (by simp [arr4, hlt])
      have f1 := h1.frozen k
      have HS := Lib.hid (arr4_set n k hlt ▸ h1.set k (v8 ((n >>> (8 * k)).setWidth 8)))
      go_wp2
      go_roundw
      case rel =>
        rw [byte_val]
        exact ⟨k + 1, by omega, by go_num, h0.far (by simp) _, HS.out, bel_set hb (p := ⟨w.heap.size + 1, k, none⟩) (by simp) _⟩
      case measure => simp [intOf]; omega
    · obtain rfl : k = 4 := by omega
      obtain ⟨t0, q0⟩ := h0
      obtain ⟨t1, q1⟩ := h1
      have Q0 := Lib.hid q0
      have Q1 := Lib.hid q1
      clear q0 q1
      go_wp2_with (first | (refine wpList_load_row rfl 43 _ rfl (w.heap.size + 1) rfl t1 (arr4 n 4) (0, 0) _ Q1.out Try.underlying43 rfl ?_ ?_; rw [arr4_size]; kernel_rfl) | (refine wpList_store_row rfl 43 _ _ rfl w.heap.size (arr4 n 4) rfl rfl t0 (arr4 n 0) Q0.out ?_ rfl (arr4_one n 4) ?_; rw [arr4_size]; kernel_rfl))
      refine bodyPost_ret (results_cell_row rfl _ _ w.heap.size t0 (arr4 n 4) (0, 0) _ rfl (setRow_heap _ _ _ _ _ _ Q0.out) Try.underlying43 rfl ?_) rfl ⟨rfl, ?_⟩
      · rw [arr4_size]; kernel_rfl
      · exact below_setRow hb (Nat.le_refl _) _
theorem crcbytes_any (n : BitVec 32) (w : World) : Calls Try.prog 18 #[v32 n] w fun e w' => e = .returned (.agg (bytesV (bytesB n)).toArray) ∧ Below w.heap.size w w' := arr4_all n ▸ crcbytes_arr n w
end Go.Proofs.Ytfjbpjojpjkfcaa
