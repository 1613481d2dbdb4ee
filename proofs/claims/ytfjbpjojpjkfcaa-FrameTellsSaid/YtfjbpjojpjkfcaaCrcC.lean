/-
  Package crc: the sum of parts.
-/
import Derived.Test.YtfjbpjojpjkfcaaCrcB
import Derived.Test.YtfjbpjojpjkfcaaByts
namespace Go.Proofs.Ytfjbpjojpjkfcaa
open Go.RowKit
set_option linter.unusedVariables false

set_option maxHeartbeats 400000 in
theorem crcsum_any (A : Option Addr) (m cap : Nat) (ps : List (List (BitVec 8))) (w : World) (hp : Parts w A ps) (hm : ps.length = m) (hl : m ≤ 9223372036854775807) :
    Calls Try.prog 19 #[.slice A m cap] w fun e w' => e = .returned (v32 (sumB ps.flatten)) ∧ Below w.heap.size w w' := by
  subst hm
  go_enter Try.func19, Try.ntmps19
  go_wp2_with fail
  refine (four_any _).mono ?_
  rintro e w1 ⟨rfl, hb1⟩
  have hz : (tab4 0).size = (tab4 16).size := rfl
  go_wp2_with (refine wpList_store_row rfl 52 _ _ rfl w1.heap.size (tab4 16) rfl rfl 52 (tab4 0) (heap_alloc_new w1 _) ?_ hz (tab4_one 16) ?_; rw [tab4_size]; kernel_rfl)
  have HT : Has ((w1.alloc (.cells (tab4 0) 52)).setRow w1.heap.size (tab4 16)) w1.heap.size (tab4 16) := ⟨_, setRow_heap _ _ _ _ _ _ (heap_alloc_new w1 _)⟩
  have hb2 : Below w.heap.size w ((w1.alloc (.cells (tab4 0) 52)).setRow w1.heap.size (tab4 16)) := below_setRow (bel_alloc hb1 _) hb1.size _
  have HP := Lib.hid hp
  clear hp hz
  go_loopw [4, 12] (fun n i wr => ∃ k : Nat, k ≤ ps.length ∧ i = .int .i64 k ∧ n = v32 (runB 0xffffffff#32 (ps.take k).flatten) ∧ Has wr w1.heap.size (tab4 16) ∧ Below w.heap.size w wr) (fun _ i _ => ps.length - (intOf i).toNat)
  case atStart => exact ⟨0, by omega, rfl, rfl, HT, hb2⟩
  case round =>
    obtain ⟨k, hk, rfl, rfl, h1, hb⟩ := hrel
    clear HT hb2
    by_cases hlt : k < ps.length
    · obtain ⟨g, B, c, rfl, hc, hB, hm⟩ := (HP.out.below hb) k hlt
      have HR := Lib.hid (run_parts 0xffffffff#32 ps k hlt)
      generalize ps.getD k [] = l at *
      have HL := Lib.hid hB
      clear hB
      generalize runB 0xffffffff#32 (ps.take k).flatten = n0 at *
      go_wp2
      go_loop [4, 18] (fun n i => ∃ j : Nat, j ≤ l.length ∧ i = .int .i64 j ∧ n = v32 (runB n0 (l.take j))) (fun _ i => l.length - (intOf i).toNat)
      case atStart => exact ⟨0, by omega, rfl, rfl⟩
      case round =>
        obtain ⟨j, hj, rfl, rfl⟩ := hrel
        by_cases hl2 : j < l.length
        · obtain ⟨b, off, rfl, hcb⟩ := HL.out j hl2
          have HE := Lib.hid (run_snoc n0 l j hl2)
          generalize l.getD j 0#8 = x at *
          generalize runB n0 (l.take j) = n at *
          have x8 : x.toNat < 256 := x.isLt
          have n32 : n.toNat < 4294967296 := n.isLt
          obtain ⟨m1, e1, q1⟩ := mix_row n x
          obtain ⟨i2, t2, m2, hi2, a2, g2, e2, q2⟩ := look_row m1
          obtain ⟨i3, t3, m3, hi3, a3, g3, e3, q3⟩ := look_row m2
          have HQ : Hid (m3 = eatB n x) := by rw [q3, q2, q1]; exact eat_two n x
          clear q1 q2 q3
          have c2 := h1.cell i2 g2
          have c3 := h1.cell i3 g3
          have hi2' : (i2 : Int) < 16 := by omega
          have hi3' : (i3 : Int) < 16 := by omega
          clear g2 g3
          go_wp2
          go_round
          case rel => exact ⟨j + 1, by omega, by go_num, by rw [HE.out, HQ.out]⟩
          case measure => simp [intOf]; omega
        · obtain rfl : j = l.length := by omega
          rw [List.take_length]
          go_wp2
          go_roundw
          case rel => exact ⟨k + 1, by omega, by go_num, by rw [HR.out], h1, hb⟩
          case measure => simp [intOf]; omega
    · obtain rfl : k = ps.length := by omega
      rw [List.take_length]
      go_wp2
      go_ret
      exact ⟨ret_one (full_row _), hb⟩
theorem crcsum_at (A : Option Addr) (m cap : Nat) (ps : List (List (BitVec 8))) (c : BitVec 32) (w : World) (hp : Parts w A ps) (hc : sumB ps.flatten = c) (hm : ps.length = m) (hl : m ≤ 9223372036854775807) :
    Calls Try.prog 19 #[.slice A m cap] w fun e w' => e = .returned (v32 c) ∧ Below w.heap.size w w' := hc ▸ crcsum_any A m cap ps w hp hm hl
end Go.Proofs.Ytfjbpjojpjkfcaa
