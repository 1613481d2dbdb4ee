/-
  The model's numbers of 8 and 32 bits, and words of bits: no program here.
-/
import Derived.Test.YtmfjfaageeeipaaCrcPlain
import Derived.Laws.BitsAllLaws
import Derived.Laws.BitsLemmas
namespace Go.Proofs.Ytmfjfaageeeipaa
set_option linter.unusedVariables false
set_option linter.unusedSimpArgs false

/-- A word of 32, of 8 bits, as a value. -/
abbrev v32 (n : BitVec 32) : Value := .int .u32 (n.toNat : Int)
abbrev v8 (n : BitVec 8) : Value := .int .u8 (n.toNat : Int)

theorem xor32 (a b : BitVec 32) : bits .xor .u32 (a.toNat : Int) (b.toNat : Int) = ((a ^^^ b).toNat : Int) := by
  rw [u32_xor_nat _ _ a.isLt b.isLt, BitVec.toNat_xor]
theorem xor8 (a b : BitVec 8) : bits .xor .u8 (a.toNat : Int) (b.toNat : Int) = ((a ^^^ b).toNat : Int) := by
  rw [u8_xor_nat _ _ a.isLt b.isLt, BitVec.toNat_xor]
theorem and15 (a : BitVec 32) : bits .and .u32 (a.toNat : Int) 15 = ((a &&& 15#32).toNat : Int) := by
  have := u32_and_nat a.toNat 15 a.isLt (by omega)
  rw [show ((15 : Nat) : Int) = 15 from rfl] at this
  rw [this, BitVec.toNat_and]
  rfl
theorem shr32 (a : BitVec 32) (k : Nat) : (a.toNat : Int) / ((2 ^ k : Nat) : Int) = ((a >>> k).toNat : Int) := by
  rw [BitVec.toNat_ushiftRight, Nat.shiftRight_eq_div_pow]
  omega
theorem low_bit (a : BitVec 32) : a.getLsbD 0 = ((a.toNat : Int) % 2 == 1) := by
  rw [BitVec.getLsbD, Nat.testBit_zero, Bool.eq_iff_iff]
  simp
  omega
theorem turn_odd {n : BitVec 32} (h : ((n.toNat : Int) % 2 == 1) = true) : bits .xor .u32 ((n.toNat : Int) / 2) 2197175160 = ((turnB n).toNat : Int) := by
  have h2 := xor32 (n >>> 1) 2197175160#32
  rw [← shr32 n 1] at h2
  rw [turnB, low_bit, h, if_pos rfl]
  exact h2
theorem turn_even {n : BitVec 32} (h : ((n.toNat : Int) % 2 == 1) = false) : (n.toNat : Int) / 2 = ((turnB n).toNat : Int) := by
  rw [turnB, low_bit, h, if_neg (by simp), BitVec.xor_zero]
  exact shr32 n 1
/-- Four turns of a number are those of its lowest four bits, and the rest, four places down. -/
theorem turns_four (x : BitVec 32) : turnsB 4 x = turnsB 4 (x &&& 15#32) ^^^ (x >>> 4) := by
  have e : x = (x &&& 15#32) ^^^ ((x >>> 4) <<< 4) := by
    apply BitVec.eq_of_getLsbD_eq
    intro i hi
    simp only [BitVec.getLsbD_xor, BitVec.getLsbD_and, BitVec.getLsbD_shiftLeft, BitVec.getLsbD_ushiftRight]
    by_cases h4 : i < 4
    · have : i = 0 ∨ i = 1 ∨ i = 2 ∨ i = 3 := by omega
      rcases this with rfl | rfl | rfl | rfl <;> simp
    · have e1 : 4 + (i - 4) = i := by omega
      have e2 : (15#32).getLsbD i = false := by
        have : (15#32).getLsbD i = Nat.testBit 15 i := rfl
        rw [this]
        exact Nat.testBit_lt_two_pow (Nat.lt_of_lt_of_le (by decide : 15 < 2 ^ 4) (Nat.pow_le_pow_right (by decide) (by omega)))
      rw [e2, e1]
      simp [h4, hi]
  conv => lhs; rw [e]
  rw [turns_xor, turns_up 4 (x := x >>> 4) (fun i hi => by rw [BitVec.getLsbD_ushiftRight]; exact BitVec.getLsbD_of_ge _ _ (by omega))]
theorem and15_lt (a : BitVec 32) : (a &&& 15#32).toNat < 16 := by
  rw [BitVec.toNat_and]
  exact Nat.lt_of_le_of_lt Nat.and_le_right (by decide)
/-- What four turns make of each number of four bits. -/
def tab4 (k : Nat) : Array Value := Array.ofFn (n := 16) fun i => if i.1 < k then v32 (turnsB 4 (BitVec.ofNat 32 i.1)) else v32 0#32
theorem tab4_size (k : Nat) : (tab4 k).size = 16 := by simp [tab4]
theorem tab4_one (k : Nat) : (tab4 k).all (·.oneCell') = true := by
  rw [Array.all_eq_true]
  intro i hi
  simp only [tab4, Array.getElem_ofFn]
  split <;> rfl
theorem tab4_get (i : Nat) (h : i < 16) : (tab4 16)[i]? = some (v32 (turnsB 4 (BitVec.ofNat 32 i))) := by
  simp [tab4, h]
theorem tab4_set (k : Nat) (h : k < 16) : (tab4 k).setIfInBounds k (v32 (turnsB 4 (BitVec.ofNat 32 k))) = tab4 (k + 1) := by
  apply Array.ext_getElem?
  intro i
  rw [Array.getElem?_setIfInBounds, tab4_size]
  simp only [tab4, Array.getElem?_ofFn]
  by_cases e : k = i
  · subst e; simp [h]
  · rw [if_neg e]
    by_cases hl : i < k
    · simp [hl, show i < k + 1 by omega]
    · simp [hl, show ¬ i < k + 1 by omega]
/-- One look-up is four turns. -/
theorem look_four (n : BitVec 32) : bits .xor .u32 ((n.toNat : Int) / 16) ((turnsB 4 (BitVec.ofNat 32 (n &&& 15#32).toNat)).toNat : Int) = ((turnsB 4 n).toNat : Int) := by
  have h := xor32 (n >>> 4) (turnsB 4 (n &&& 15#32))
  rw [← shr32 n 4] at h
  rw [BitVec.ofNat_toNat, BitVec.setWidth_eq, turns_four n, BitVec.xor_comm]
  exact h
theorem up32 (b : BitVec 8) : (b.toNat : Int) = ((b.setWidth 32).toNat : Int) := by
  rw [BitVec.toNat_setWidth, Nat.mod_eq_of_lt (Nat.lt_of_lt_of_le b.isLt (by decide))]
theorem look_row (m : BitVec 32) : ∃ (i : Nat) (t m' : BitVec 32), i < 16 ∧ bits .and .u32 (m.toNat : Int) 15 = (i : Int) ∧ (tab4 16)[i]? = some (v32 t) ∧ bits .xor .u32 ((m.toNat : Int) / 16) (t.toNat : Int) = (m'.toNat : Int) ∧ m' = turnsB 4 m :=
  ⟨(m &&& 15#32).toNat, turnsB 4 (BitVec.ofNat 32 (m &&& 15#32).toNat), turnsB 4 m, and15_lt m, and15 m, tab4_get _ (and15_lt m), look_four m, rfl⟩
theorem mix_row (n : BitVec 32) (x : BitVec 8) : ∃ m : BitVec 32, bits .xor .u32 (n.toNat : Int) (x.toNat : Int) = (m.toNat : Int) ∧ m = n ^^^ x.setWidth 32 :=
  ⟨_, by rw [up32 x]; exact xor32 n (x.setWidth 32), rfl⟩
theorem full_row (n : BitVec 32) : bits .xor .u32 (n.toNat : Int) 4294967295 = ((n ^^^ 0xffffffff#32).toNat : Int) := xor32 n 0xffffffff#32
theorem eat_two (n : BitVec 32) (b : BitVec 8) : turnsB 4 (turnsB 4 (n ^^^ b.setWidth 32)) = eatB n b := by
  rw [← turns_add]
  rfl
def bytesV (l : List (BitVec 8)) : List Value := l.map v8
theorem bytesV_len (l : List (BitVec 8)) : (bytesV l).length = l.length := by simp [bytesV]
theorem bytesV_one (l : List (BitVec 8)) : ∀ u ∈ bytesV l, u.oneCell' = true := by
  intro u hu
  simp only [bytesV, List.mem_map] at hu
  obtain ⟨x, _, rfl⟩ := hu
  rfl
/-- The first k of a number's four bytes. -/
def arr4 (n : BitVec 32) (k : Nat) : Array Value := Array.ofFn (n := 4) fun i => if i.1 < k then v8 ((n >>> (8 * i.1)).setWidth 8) else v8 0#8
theorem arr4_size (n : BitVec 32) (k : Nat) : (arr4 n k).size = 4 := by simp [arr4]
theorem arr4_one (n : BitVec 32) (k : Nat) : (arr4 n k).all (·.oneCell') = true := by
  rw [Array.all_eq_true]
  intro i hi
  simp only [arr4, Array.getElem_ofFn]
  split <;> rfl
theorem arr4_all (n : BitVec 32) : arr4 n 4 = (bytesV (bytesB n)).toArray := by
  simp only [arr4, bytesV, bytesB, List.map]
  apply Array.ext_getElem?
  intro i
  rw [Array.getElem?_ofFn]
  rcases i with _ | _ | _ | _ | i
  · simp
  · simp
  · simp
  · simp
  · simp
theorem arr4_set (n : BitVec 32) (k : Nat) (h : k < 4) : (arr4 n k).setIfInBounds k (v8 ((n >>> (8 * k)).setWidth 8)) = arr4 n (k + 1) := by
  apply Array.ext_getElem?
  intro i
  rw [Array.getElem?_setIfInBounds, arr4_size]
  simp only [arr4, Array.getElem?_ofFn]
  by_cases e : k = i
  · subst e; simp [h]
  · rw [if_neg e]
    by_cases hl : i < k
    · simp [hl, show i < k + 1 by omega]
    · simp [hl, show ¬ i < k + 1 by omega]
theorem byte_val (n : BitVec 32) (k : Nat) : (n.toNat : Int) / 2 ^ (8 * k) % 256 = (((n >>> (8 * k)).setWidth 8).toNat : Int) := by
  have h := shr32 n (8 * k)
  rw [Int.natCast_pow] at h
  rw [show ((2 : Nat) : Int) = 2 from rfl] at h
  rw [h, BitVec.toNat_setWidth]
  omega
end Go.Proofs.Ytmfjfaageeeipaa
