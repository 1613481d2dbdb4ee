/-
  Where the payload of a frame that bytes may begin with begins, and ends: no program here.
-/
import Derived.Test.YtfjbpjojpjkfcaaFramePlain
import Derived.Test.YtfjbpjojpjkfcaaPkE
namespace Go.Proofs.Ytfjbpjojpjkfcaa
set_option linter.unusedVariables false

def boundsB (l : Bs) : Nat × Nat := match takeB (l.take 4) with
  | none => (0, 0)
  | some (n, _) => if 100000 < n then (0, 0) else if l.length < (oneB n).length + n + 4 then (0, 0) else ((oneB n).length, (oneB n).length + n)
theorem one_four {n : Nat} (h : n ≤ 100000) : (oneB n).length ≤ 4 := by
  have := digs_len n 3 (by have : (256 : Nat) ^ 3 = 16777216 := by decide
                           omega)
  rw [one_len]; omega
theorem one_pos (n : Nat) : 0 < (oneB n).length := by rw [one_len]; omega
theorem take_long {l t : Bs} {n : Nat} (h : takeB (l.take 4) = some (n, t)) : takeB l = some (n, l.drop (oneB n).length) ∧ l = oneB n ++ l.drop (oneB n).length := by
  obtain ⟨e, hn⟩ := take_own h
  have e2 : l = oneB n ++ (t ++ l.drop 4) := by rw [← List.append_assoc, ← e, List.take_append_drop]
  have e3 : l.drop (oneB n).length = t ++ l.drop 4 := by
    conv => lhs; rw [e2]
    rw [List.drop_append_of_le_length (Nat.le_refl _), List.drop_of_length_le (Nat.le_refl _), List.nil_append]
  rw [e3]
  refine ⟨?_, e2⟩
  conv => lhs; rw [e2]
  exact take_one hn _
theorem take_short {l r : Bs} {n : Nat} (h : takeB l = some (n, r)) (hn : n ≤ 100000) : ∃ t, takeB (l.take 4) = some (n, t) := by
  obtain ⟨e, h'⟩ := take_own h
  have h4 := one_four hn
  refine ⟨r.take (4 - (oneB n).length), ?_⟩
  rw [e, List.take_append, List.take_of_length_le (l := oneB n) h4]
  exact take_one h' _
theorem bounds_none {l : Bs} (h : (boundsB l).2 = 0) : takeF l = none := by
  cases hf : takeF l with
  | none => rfl
  | some x =>
    obtain ⟨p, r⟩ := x
    obtain ⟨e, hp⟩ := frame_own hf
    have ht : takeB l = some (p.length, p ++ (bytesB (sumB (textB p)) ++ r)) := by
      rw [e, frameB, textB, List.append_assoc, List.append_assoc]
      exact take_one (by omega) _
    obtain ⟨t, ht'⟩ := take_short ht hp
    unfold boundsB at h
    rw [ht'] at h
    simp only at h
    have := one_pos p.length
    rw [if_neg (by omega), if_neg (by rw [e, List.length_append, frame_len]; omega)] at h
    simp only at h
    omega
theorem bounds_some {l : Bs} {f t : Nat} (h : boundsB l = (f, t)) (ht : t ≠ 0) :
    f ≤ t ∧ 0 < f ∧ t + 4 ≤ l.length ∧ t - f ≤ 100000 ∧ l.take t = textB ((l.drop f).take (t - f)) ∧ ((l.drop f).take (t - f)).length = t - f ∧
    takeF l = if bytesB (sumB (l.take t)) = (l.drop t).take 4 then some ((l.drop f).take (t - f), l.drop (t + 4)) else none := by
  unfold boundsB at h
  cases hk : takeB (l.take 4) with
  | none =>
    rw [hk] at h
    simp only [Prod.mk.injEq] at h
    omega
  | some x =>
    obtain ⟨n, s⟩ := x
    rw [hk] at h
    simp only at h
    by_cases h1 : 100000 < n
    · rw [if_pos h1] at h
      simp only [Prod.mk.injEq] at h
      omega
    · rw [if_neg h1] at h
      by_cases h2 : l.length < (oneB n).length + n + 4
      · rw [if_pos h2] at h
        simp only [Prod.mk.injEq] at h
        omega
      · rw [if_neg h2] at h
        simp only [Prod.mk.injEq] at h
        obtain ⟨rfl, rfl⟩ := h
        obtain ⟨hl, hle⟩ := take_long hk
        have hn : (oneB n).length + n - (oneB n).length = n := by omega
        rw [hn]
        have hpl : ((l.drop (oneB n).length).take n).length = n := by rw [List.length_take, List.length_drop]; omega
        have htx : l.take ((oneB n).length + n) = textB ((l.drop (oneB n).length).take n) := by
          conv => lhs; rw [hle]
          unfold textB
          rw [hpl, List.take_append, List.take_of_length_le (l := oneB n) (by omega), show (oneB n).length + n - (oneB n).length = n by omega]
        have htt : takeTextB l = some ((l.drop (oneB n).length).take n, (l.drop (oneB n).length).drop n) := by
          unfold takeTextB
          rw [hl]
          simp only
          rw [if_neg (by rw [List.length_drop]; omega)]
        have hfl : (frameB ((l.drop (oneB n).length).take n)).length = (oneB n).length + n + 4 := by rw [frame_len, hpl]
        refine ⟨by omega, one_pos n, by omega, by omega, htx, hpl, ?_⟩
        unfold takeF
        rw [htt]
        simp only
        rw [if_neg (by omega), hfl]
        have heq : (frameB ((l.drop (oneB n).length).take n) = l.take ((oneB n).length + n + 4)) ↔ bytesB (sumB (l.take ((oneB n).length + n))) = (l.drop ((oneB n).length + n)).take 4 := by
          rw [List.take_add, htx, frameB]
          constructor
          · intro e
            exact List.append_cancel_left e
          · intro e
            rw [e]
        by_cases hq : bytesB (sumB (l.take ((oneB n).length + n))) = (l.drop ((oneB n).length + n)).take 4
        · rw [if_pos hq, if_neg]
          rintro (h | h)
          · omega
          · exact h (heq.2 hq)
        · rw [if_neg hq, if_pos]
          exact Or.inr fun e => hq (heq.1 e)
end Go.Proofs.Ytfjbpjojpjkfcaa
