/-
  Bits of words, as the model's numbers spell them: no program here.
-/
import Derived.Test.YtfjbpjojpjkfcaaCrcBits
namespace Go.Proofs.Ytfjbpjojpjkfcaa
set_option linter.unusedVariables false

theorem bit_val (b : BitVec 32) (k : Nat) : (((b.toNat : Int) / 2 ^ k).tmod 2 == 1) = b.getLsbD k := by
  have h := shr32 b k
  rw [Int.natCast_pow] at h
  rw [show ((2 : Nat) : Int) = 2 from rfl] at h
  rw [h, Int.tmod_eq_emod_of_nonneg (by omega)]
  have h2 := low_bit (b >>> k)
  rw [← h2, BitVec.getLsbD_ushiftRight, Nat.add_zero]
theorem bit_on (b : BitVec 32) (k : Nat) (h : b.getLsbD k = true) : (((b.toNat : Int) / 2 ^ k).tmod 2 == 1) = true := by rw [bit_val, h]
theorem bit_off (b : BitVec 32) (k : Nat) (h : b.getLsbD k = false) : (((b.toNat : Int) / 2 ^ k).tmod 2 == 1) = false := by rw [bit_val, h]
theorem flip_val (x : BitVec 8) (r : Nat) (h : r < 8) : bits .xor .u8 (x.toNat : Int) (2 ^ r % 256) = ((x ^^^ (1#8 <<< r)).toNat : Int) := by
  rw [← xor8]
  congr 1
  have : r = 0 ∨ r = 1 ∨ r = 2 ∨ r = 3 ∨ r = 4 ∨ r = 5 ∨ r = 6 ∨ r = 7 := by omega
  rcases this with rfl | rfl | rfl | rfl | rfl | rfl | rfl | rfl <;> decide
theorem from_val (t n : Nat) : ∃ f : Nat, (t : Int) % (8 * ((n : Int) + 4) - 31) = (f : Int) ∧ f ≤ 8 * n := by
  refine ⟨t % (8 * n + 1), ?_, by have := Nat.mod_lt t (show 0 < 8 * n + 1 by omega); omega⟩
  rw [show 8 * ((n : Int) + 4) - 31 = ((8 * n + 1 : Nat) : Int) by omega]
  exact (Int.natCast_emod t (8 * n + 1)).symm
theorem burst_yes (l : List (BitVec 8)) (f : Nat) (b : BitVec 32) (k q r : Nat) (x : BitVec 8) (hb : b.getLsbD k = true) (hq : q = (f + k) / 8) (hr : r = (f + k) % 8) (hx : (burstB l f b k).getD q 0#8 = x) :
    burstB l f b (k + 1) = (burstB l f b k).set q (x ^^^ (1#8 <<< r)) := by
  rw [burstB, if_pos hb, flipB, ← hq, ← hr, hx]
theorem burst_no (l : List (BitVec 8)) (f : Nat) (b : BitVec 32) (k : Nat) (hb : b.getLsbD k = false) : burstB l f b (k + 1) = burstB l f b k := by
  rw [burstB, hb]; rfl
end Go.Proofs.Ytfjbpjojpjkfcaa
