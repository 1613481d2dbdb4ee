/-
  The document's own sum, and bytes (lumperref04).
-/
import Derived.Test.YtfjbpjojpjkfcaaCrcC
import Derived.RegionTactic
namespace Go.Proofs.Ytfjbpjojpjkfcaa
open Go.RowKit
set_option linter.unusedVariables false

set_option maxHeartbeats 400000 in
theorem rcrcsum_any (A : Option Addr) (m cap : Nat) (l : List (BitVec 8)) (w : World) (hp : Byts w A l) (hm : l.length = m) (hl : m ≤ 9223372036854775807) :
    Calls Try.prog 31 #[.slice A m cap] w fun e w' => e = .returned (v32 (sumB l)) ∧ Below w.heap.size w w' := by
  subst hm
  have HP := Lib.hid hp
  clear hp
  go_enter Try.func31, Try.ntmps31
  go_wp2
  go_loop [3, 4] (fun n i => ∃ k : Nat, k ≤ l.length ∧ i = .int .i64 k ∧ n = v32 (runB 0xffffffff#32 (l.take k))) (fun _ i => l.length - (intOf i).toNat)
  case atStart => exact ⟨0, by omega, rfl, rfl⟩
  case round =>
    obtain ⟨k, hk, rfl, rfl⟩ := hrel
    by_cases hlt : k < l.length
    · obtain ⟨b, off, rfl, hc⟩ := HP.out k hlt
      have HR := Lib.hid (run_snoc 0xffffffff#32 l k hlt)
      generalize l.getD k 0#8 = x at *
      generalize runB 0xffffffff#32 (l.take k) = n at *
      have x8 : x.toNat < 256 := x.isLt
      have n32 : n.toNat < 4294967296 := n.isLt
      obtain ⟨m1, e1, q1⟩ := mix_row n x
      have HQ : Hid (turnsB 8 m1 = eatB n x) := by rw [q1]; rfl
      clear q1
      go_wp2
      go_loop [3, 5] (fun n i => ∃ j : Nat, j ≤ 8 ∧ i = .int .i64 j ∧ n = v32 (turnsB j m1)) (fun _ i => 8 - (intOf i).toNat)
      case atStart => exact ⟨0, by omega, rfl, rfl⟩
      case round =>
        obtain ⟨j, hj, rfl, rfl⟩ := hrel
        by_cases hl2 : j < 8
        · have hd2 : (j : Int) < 8 := by omega
          go_wp2_with (go_at_call 37; refine (ref_turn _ _).mono ?_; rintro e w' ⟨rfl, rfl⟩)
          go_round
          case rel => exact ⟨j + 1, by omega, by go_num, by rw [turns_succ]⟩
          case measure => simp [intOf]; omega
        · obtain rfl : j = 8 := by omega
          go_wp2
          go_round
          case rel => exact ⟨k + 1, by omega, by go_num, by rw [HR.out, HQ.out]⟩
          case measure => simp [intOf]; omega
    · obtain rfl : k = l.length := by omega
      rw [List.take_length]
      go_wp2
      go_ret
      exact ⟨ret_one (full_row _), Below.refl _ _⟩

theorem quo_cells (n : BitVec 32) : (#[.int .u8 ((n.toNat : Int) % 256), .int .u8 ((n.toNat : Int) / 256 % 256), .int .u8 ((n.toNat : Int) / 65536 % 256), .int .u8 ((n.toNat : Int) / 16777216)] : Array Value) = (bytesV (bytesB n)).toArray := by
  have n32 : n.toNat < 4294967296 := n.isLt
  have e0 : (n.toNat : Int) % 256 = ((n.setWidth 8).toNat : Int) := by
    rw [BitVec.toNat_setWidth]
    omega
  have e1 : (n.toNat : Int) / (256 : Int) % (256 : Int) = (((n >>> 8).setWidth 8).toNat : Int) := by have h := byte_val n 1; simpa using h
  have e2 : (n.toNat : Int) / (65536 : Int) % (256 : Int) = (((n >>> 16).setWidth 8).toNat : Int) := by have h := byte_val n 2; simpa using h
  have e3 : (n.toNat : Int) / (16777216 : Int) % (256 : Int) = (((n >>> 24).setWidth 8).toNat : Int) := by have h := byte_val n 3; simpa using h
  have e4 : (n.toNat : Int) / 16777216 % 256 = (n.toNat : Int) / 16777216 := by omega
  rw [e0, e1, e2, ← e4, e3]
  rfl
theorem rcrcbytes_any (n : BitVec 32) (w : World) : Calls Try.prog 30 #[v32 n] w fun e w' => e = .returned (.slice (some ⟨w.heap.size, 0, none⟩) 4 4) ∧ Has w' w.heap.size (bytesV (bytesB n)).toArray ∧ Below w.heap.size w w' := by
  have n32 : n.toNat < 4294967296 := n.isLt
  go_enter Try.func30, Try.ntmps30
  go_wp2
  go_ret
  rw [quo_cells]
  exact ⟨rfl, Has.new w _ _ rfl, bel_alloc (Below.refl _ _) _⟩
end Go.Proofs.Ytfjbpjojpjkfcaa
