/-
  A slice of bytes from a place on.
-/
import Derived.Test.YtfjbpjojpjkfcaaCrcStr
import Derived.Test.YtfjbpjojpjkfcaaByRow
import Derived.Test.YtfjbpjojpjkfcaaCrcBitsB
namespace Go.Proofs.Ytfjbpjojpjkfcaa
open Go.RowKit
set_option linter.unusedVariables false

theorem strB_toList_inj {l r : List (BitVec 8)} (h : (strB l).toList = (strB r).toList) : l = r := by
  apply strB_inj
  have e : ∀ s : ByteArray, s.toList = s.data.toList := fun s => ByteArray.toList_eq s
  rw [e, e] at h
  cases h1 : strB l
  cases h2 : strB r
  rw [h1, h2] at h
  simp only at h
  congr 1
  exact Array.toList_inj.1 h
theorem seen_bool {y1 y2 : List (BitVec 8)} {b : BitVec 32} (h : y1 = y2 ↔ b = 0#32) : ((b.toNat : Int) == 0) = ((strB y1).toList == (strB y2).toList) := by
  rw [Bool.eq_iff_iff]
  simp only [beq_iff_eq]
  constructor
  · intro e
    have : b = 0#32 := by
      apply BitVec.eq_of_toNat_eq
      simp
      omega
    rw [h.2 this]
  · intro e
    rw [h.1 (strB_toList_inj e)]
    rfl
end Go.Proofs.Ytfjbpjojpjkfcaa
