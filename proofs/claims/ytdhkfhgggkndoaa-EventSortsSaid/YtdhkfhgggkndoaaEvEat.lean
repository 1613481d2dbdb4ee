/-
  Numbers taken off bytes one by one, and an event's cells as they are written. No program here but the events' lists.
-/
import Derived.Test.YtdhkfhgggkndoaaEvFair
namespace Go.Proofs.Ytdhkfhgggkndoaa
set_option linter.unusedVariables false
set_option linter.unusedSimpArgs false

/-- So many numbers that bytes begin with, and what is behind. -/
def eatN : Nat → List (BitVec 8) → Option (List Int × List (BitVec 8))
  | 0, b => some ([], b)
  | n + 1, b => match eatN n b with
    | none => none
    | some (l, r) => match takeB r with
      | none => none
      | some (k, t) => some (l ++ [(k : Int)], t)
theorem eat_len : ∀ (n : Nat) {b r : List (BitVec 8)} {l : List Int}, eatN n b = some (l, r) → l.length = n
  | 0, b, r, l, h => by simp [eatN] at h; rw [h.1]; rfl
  | n + 1, b, r, l, h => by
    rw [eatN] at h
    cases he : eatN n b with
    | none => rw [he] at h; cases h
    | some p =>
      obtain ⟨m, q⟩ := p
      rw [he] at h
      cases ht : takeB q with
      | none => simp [ht] at h
      | some x =>
        obtain ⟨k, t⟩ := x
        simp [ht] at h
        rw [← h.1, List.length_append, eat_len n he]
        rfl
/-- What is taken is as it was put. -/
theorem eat_own : ∀ (n : Nat) {b r : List (BitVec 8)} {l : List Int}, eatN n b = some (l, r) → okN l ∧ b = bytesN l ++ r
  | 0, b, r, l, h => by simp [eatN] at h; obtain ⟨rfl, rfl⟩ := h; exact ⟨okN_nil, rfl⟩
  | n + 1, b, r, l, h => by
    rw [eatN] at h
    cases he : eatN n b with
    | none => rw [he] at h; cases h
    | some p =>
      obtain ⟨m, q⟩ := p
      rw [he] at h
      cases ht : takeB q with
      | none => simp [ht] at h
      | some x =>
        obtain ⟨k, t⟩ := x
        simp [ht] at h
        obtain ⟨rfl, rfl⟩ := h
        obtain ⟨h1, h2⟩ := eat_own n he
        obtain ⟨h3, h4⟩ := take_own ht
        refine ⟨okN_append h1 (okN_cons (by omega) okN_nil), ?_⟩
        rw [h2, h3, bytesN_append, bytesN_cons, bytesN_nil, List.append_nil, Int.toNat_natCast, List.append_assoc]
theorem eat_put : ∀ (n : Nat) (l : List Int), l.length = n → okN l → ∀ r : List (BitVec 8), eatN n (bytesN l ++ r) = some (l, r)
  | 0, l, hn, _, r => by rw [List.length_eq_zero_iff.1 hn]; rfl
  | n + 1, l, hn, h, r => by
    rcases l.eq_nil_or_concat with rfl | ⟨L, a, rfl⟩
    · simp at hn
    · have h1 : okN L := fun n hn => h n (by simp [hn])
      have ha := h a (by simp)
      rw [List.concat_eq_append, bytesN_append, bytesN_cons, bytesN_nil, List.append_nil, List.append_assoc, eatN, eat_put n L (by simpa using hn) h1]
      simp only [bytesN_take ha]
      rw [Int.toNat_of_nonneg ha.1]
theorem eat_none (n : Nat) {b : List (BitVec 8)} (h : eatN n b = none) (l : List Int) (hl : l.length = n) (hk : okN l) (r : List (BitVec 8)) : b ≠ bytesN l ++ r := by
  rintro rfl
  subst hl
  rw [eat_put _ l rfl hk] at h
  cases h
/-- Numbers, each laid at its place. -/
def layL (zs : List Int) (L : List Nat) (ns : List Int) : List Int := (L.zip ns).foldl (fun z p => z.set p.1 p.2) zs
theorem layL_nil (zs : List Int) (L : List Nat) : layL zs L [] = zs := by simp [layL]
theorem layL_len : ∀ (L : List Nat) (ns zs : List Int), (layL zs L ns).length = zs.length
  | [], ns, zs => by simp [layL]
  | o :: L, [], zs => by simp [layL]
  | o :: L, n :: ns, zs => by
    show (layL (zs.set o n) L ns).length = _
    rw [layL_len L]
    simp
theorem layL_snoc (zs : List Int) (L : List Nat) (ns : List Int) (k : Nat) (h : ns.length = k) (hk : k < L.length) (n : Int) : layL zs L (ns ++ [n]) = (layL zs L ns).set (L.getD k 0) n := by
  subst h
  induction L generalizing zs ns with
  | nil => simp at hk
  | cons o L ih =>
    cases ns with
    | nil => simp [layL]
    | cons m ns =>
      show layL (zs.set o m) L (ns ++ [n]) = (layL (zs.set o m) L ns).set (L.getD ns.length 0) n
      exact ih _ ns (by simpa using hk)
/-- The size that any number has at most. -/
theorem size_most : (oneB 9223372036854775807).length = 9 := by
  rw [one_len]
  simp [digs_pos, digs_zero]
theorem one_le (n : Nat) (h : n < 9223372036854775808) : (oneB n).length ≤ 9 := by
  have := digs_eight h
  rw [one_len]
  omega
/-- A number is taken of nine bytes as it is of all. -/
theorem take_nine (b : List (BitVec 8)) : takeB (b.take (min b.length 9)) = (takeB b).map fun x => (x.1, x.2.take (9 - (oneB x.1).length)) := by
  rw [show b.take (min b.length 9) = b.take 9 by rw [List.take_eq_take_iff]; omega]
  cases h : takeB b with
  | some x =>
    obtain ⟨k, t⟩ := x
    obtain ⟨h1, h2⟩ := take_own h
    have h3 := one_le k h2
    subst h1
    rw [List.take_append, List.take_of_length_le h3, take_one h2]
    rfl
  | none =>
    cases h' : takeB (b.take 9) with
    | none => rfl
    | some x =>
      obtain ⟨k, t⟩ := x
      obtain ⟨h1, h2⟩ := take_own h'
      have e : b = oneB k ++ (t ++ b.drop 9) := by rw [← List.append_assoc, ← h1, List.take_append_drop]
      rw [e, take_one h2] at h
      cases h
end Go.Proofs.Ytdhkfhgggkndoaa
