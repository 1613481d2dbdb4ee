/-
  A slice of bytes from a place on.
-/
import Derived.Test.YtjhjhkhnkfckeaaCrcStr
import Derived.Test.YtjhjhkhnkfckeaaByRow
import Derived.Test.YtjhjhkhnkfckeaaCrcBitsB
namespace Go.Proofs.Ytjhjhkhnkfckeaa
open Go.RowKit
set_option linter.unusedVariables false

theorem byts_drop {w : World} {b off : Nat} {l : List (BitVec 8)} (h : Byts w (some ⟨b, off, none⟩) l) (n : Nat) : Byts w (some ⟨b, off + n, none⟩) (l.drop n) := by
  intro k hk
  rw [List.length_drop] at hk
  obtain ⟨b', off', e, hc⟩ := h (n + k) (by omega)
  injection e with e
  injection e with e1 e2 _
  subst e1 e2
  refine ⟨b, off + n, rfl, ?_⟩
  rw [Nat.add_assoc, hc, List.getD_eq_getElem?_getD, List.getD_eq_getElem?_getD, List.getElem?_drop]
theorem strB_toList_inj {l r : List (BitVec 8)} (h : (strB l).toList = (strB r).toList) : l = r := by
  apply strB_inj
  have e : ∀ s : ByteArray, s.toList = s.data.toList := fun s => ByteArray.toList_eq s
  rw [e, e] at h
  cases h1 : strB l
  cases h2 : strB r
  rw [h1, h2] at h
  simp only at h
  congr 1
  exact Array.toList_inj.1 h
theorem seen_bool {y1 y2 : List (BitVec 8)} {b : BitVec 32} (h : y1 = y2 ↔ b = 0#32) : ((b.toNat : Int) == 0) = ((strB y1).toList == (strB y2).toList) := by
  rw [Bool.eq_iff_iff]
  simp only [beq_iff_eq]
  constructor
  · intro e
    have : b = 0#32 := by
      apply BitVec.eq_of_toNat_eq
      simp
      omega
    rw [h.2 this]
  · intro e
    rw [h.1 (strB_toList_inj e)]
    rfl
end Go.Proofs.Ytjhjhkhnkfckeaa
