/-
  Frames of bytes: no program here. A payload's frame: its bytes as a text, and the four bytes of their sum.
-/
import Derived.Test.YtfjbpjojpjkfcaaCrcPlain
import Derived.Test.YtfjbpjojpjkfcaaPackPlain
namespace Go.Proofs.Ytfjbpjojpjkfcaa
set_option linter.unusedVariables false
set_option linter.unusedSimpArgs false

abbrev Bs := List (BitVec 8)
def frameB (p : Bs) : Bs := textB p ++ bytesB (sumB (textB p))
/-- The payload whose frame bytes begin with, and what is behind. -/
def takeF (b : Bs) : Option (Bs × Bs) := match takeTextB b with
  | none => none
  | some (p, _) => if 100000 < p.length then none
    else if b.length < (frameB p).length ∨ frameB p ≠ b.take (frameB p).length then none
    else some (p, b.drop (frameB p).length)
def framesB (l : List Bs) : Bs := (l.map frameB).flatten

theorem bytes_len (n : BitVec 32) : (bytesB n).length = 4 := rfl
theorem text_len (p : Bs) : (textB p).length = (oneB p.length).length + p.length := by rw [textB, List.length_append]
theorem frame_len (p : Bs) : (frameB p).length = (oneB p.length).length + p.length + 4 := by rw [frameB, List.length_append, text_len, bytes_len]
theorem frame_pos (p : Bs) : 0 < (frameB p).length := by rw [frame_len]; omega
theorem frame_back {p : Bs} (h : p.length ≤ 100000) (r : Bs) : takeF (frameB p ++ r) = some (p, r) := by
  have ht : takeTextB (frameB p ++ r) = some (p, bytesB (sumB (textB p)) ++ r) := by
    rw [frameB, List.append_assoc]
    exact text_back (by omega) _
  unfold takeF
  rw [ht]
  simp only
  rw [if_neg (by omega), if_neg]
  · rw [List.drop_append_of_le_length (Nat.le_refl _), List.drop_of_length_le (Nat.le_refl _), List.nil_append]
  · rw [List.take_append_of_le_length (Nat.le_refl _), List.take_of_length_le (Nat.le_refl _), List.length_append]
    rintro (h | h)
    · omega
    · exact h rfl
theorem frame_own {b p r : Bs} (h : takeF b = some (p, r)) : b = frameB p ++ r ∧ p.length ≤ 100000 := by
  unfold takeF at h
  cases ht : takeTextB b with
  | none => rw [ht] at h; cases h
  | some x =>
    obtain ⟨q, s⟩ := x
    rw [ht] at h
    simp only at h
    by_cases h1 : 100000 < q.length
    · rw [if_pos h1] at h; cases h
    · rw [if_neg h1] at h
      by_cases h2 : b.length < (frameB q).length ∨ frameB q ≠ b.take (frameB q).length
      · rw [if_pos h2] at h; cases h
      · rw [if_neg h2] at h
        simp only [Option.some.injEq, Prod.mk.injEq] at h
        obtain ⟨rfl, rfl⟩ := h
        have e : frameB q = b.take (frameB q).length := by
          by_cases e : frameB q = b.take (frameB q).length
          · exact e
          · exact absurd (Or.inr e) h2
        refine ⟨?_, by omega⟩
        conv => rhs; lhs; rw [e]
        rw [List.take_append_drop]
theorem frame_cut {p : Bs} {k : Nat} (h : p.length ≤ 100000) (hk : k < (frameB p).length) : takeF ((frameB p).take k) = none := by
  cases ht : takeF ((frameB p).take k) with
  | none => rfl
  | some x =>
    obtain ⟨q, r⟩ := x
    obtain ⟨e, hq⟩ := frame_own ht
    have e2 : frameB p = frameB q ++ (r ++ (frameB p).drop k) := by rw [← List.append_assoc, ← e, List.take_append_drop]
    have h1 := frame_back h []
    rw [List.append_nil, e2, frame_back hq] at h1
    simp only [Option.some.injEq, Prod.mk.injEq, List.append_eq_nil_iff, List.drop_eq_nil_iff] at h1
    omega
/-! ### All frames -/
def allN : Nat → Bs → List Bs × Nat
  | 0, _ => ([], 0)
  | n + 1, b => match takeF b with
    | none => ([], 0)
    | some (p, r) => (p :: (allN n r).1, (frameB p).length + (allN n r).2)
theorem take_less {b p r : Bs} (h : takeF b = some (p, r)) : b.length = (frameB p).length + r.length := by
  rw [(frame_own h).1, List.length_append]
theorem allN_more : ∀ (n m : Nat) (b : Bs), b.length < n → b.length < m → allN n b = allN m b
  | 0, _, b, h, _ => by omega
  | n + 1, 0, b, _, h => by omega
  | n + 1, m + 1, b, h, h' => by
    unfold allN
    cases ht : takeF b with
    | none => rfl
    | some x =>
      obtain ⟨p, r⟩ := x
      have := take_less ht
      have := frame_pos p
      simp only
      rw [allN_more n m r (by omega) (by omega)]
/-- The payloads whose frames bytes begin with, and how many bytes these have. -/
def allF (b : Bs) : List Bs × Nat := allN (b.length + 1) b
theorem all_none {b : Bs} (h : takeF b = none) : allF b = ([], 0) := by
  unfold allF allN
  rw [h]
theorem all_some {b p r : Bs} (h : takeF b = some (p, r)) : allF b = (p :: (allF r).1, (frameB p).length + (allF r).2) := by
  have := take_less h
  have := frame_pos p
  unfold allF
  rw [allN, h]
  simp only
  rw [allN_more b.length (r.length + 1) r (by omega) (by omega)]
theorem all_back : ∀ (l : List Bs), (∀ p ∈ l, p.length ≤ 100000) → ∀ (b : Bs), allF (framesB l ++ b) = (l ++ (allF b).1, (framesB l).length + (allF b).2)
  | [], _, b => by simp [framesB]
  | p :: l, h, b => by
    have e : framesB (p :: l) ++ b = frameB p ++ (framesB l ++ b) := by simp [framesB]
    have el : (framesB (p :: l)).length = (frameB p).length + (framesB l).length := by simp [framesB]
    rw [e, all_some (frame_back (h p (by simp)) _), all_back l (fun q hq => h q (by simp [hq])) b, el]
    simp [Nat.add_assoc]
theorem all_cut (l : List Bs) (h : ∀ p ∈ l, p.length ≤ 100000) {p : Bs} (hp : p.length ≤ 100000) {k : Nat} (hk : k < (frameB p).length) : allF (framesB l ++ (frameB p).take k) = (l, (framesB l).length) := by
  rw [all_back l h, all_none (frame_cut hp hk)]
  simp
theorem frames_snoc (l : List Bs) (p : Bs) : framesB (l ++ [p]) = framesB l ++ frameB p := by simp [framesB]
/-- How many bytes: no more than there are, and those are the frames. -/
theorem all_size : ∀ (n : Nat) (b : Bs), b.length ≤ n → (allF b).2 ≤ b.length ∧ framesB (allF b).1 = b.take (allF b).2 ∧ takeF (b.drop (allF b).2) = none ∧ (∀ p ∈ (allF b).1, p.length ≤ 100000) := by
  intro n
  induction n with
  | zero =>
    intro b hb
    obtain rfl : b = [] := List.eq_nil_of_length_eq_zero (by omega)
    have hn : takeF [] = none := by
      cases ht : takeF [] with
      | none => rfl
      | some x =>
        obtain ⟨p, r⟩ := x
        have := take_less ht
        have := frame_pos p
        simp at *
        omega
    rw [all_none hn]
    simp [framesB, hn]
  | succ n ih =>
    intro b hb
    cases ht : takeF b with
    | none =>
      rw [all_none ht]
      simp [framesB, ht]
    | some x =>
      obtain ⟨p, r⟩ := x
      have h1 := take_less ht
      have h2 := frame_pos p
      obtain ⟨e, hp⟩ := frame_own ht
      obtain ⟨i1, i2, i3, i4⟩ := ih r (by omega)
      rw [all_some ht]
      simp only
      refine ⟨by omega, ?_, ?_, ?_⟩
      · have : framesB (p :: (allF r).1) = frameB p ++ framesB (allF r).1 := by simp [framesB]
        rw [this, i2, e, List.take_append, List.take_of_length_le (l := frameB p) (by omega), show (frameB p).length + (allF r).2 - (frameB p).length = (allF r).2 by omega]
      · rw [e, List.drop_append, List.drop_of_length_le (l := frameB p) (by omega), List.nil_append, show (frameB p).length + (allF r).2 - (frameB p).length = (allF r).2 by omega]
        exact i3
      · intro q hq
        rcases List.mem_cons.1 hq with rfl | hq
        · exact hp
        · exact i4 q hq
/-! ### Bits in a row, changed -/
theorem flip_take (l : Bs) (k h : Nat) (hk : 8 * h ≤ k) : (flipB l k).take h = l.take h := by
  unfold flipB
  rw [List.take_set_of_le (by omega)]
theorem burst_take (l : Bs) (f : Nat) (b : BitVec 32) (h : Nat) (hf : 8 * h ≤ f) : ∀ i, (burstB l f b i).take h = l.take h
  | 0 => rfl
  | i + 1 => by
    rw [burstB]
    split
    · rw [flip_take _ _ _ (by omega), burst_take l f b h hf i]
    · exact burst_take l f b h hf i
theorem burst_zero (l : Bs) (f : Nat) : ∀ i, burstB l f 0#32 i = l
  | 0 => rfl
  | i + 1 => by
    rw [burstB]
    simp
    exact burst_zero l f i
theorem frame_burst {p : Bs} (hp : p.length ≤ 100000) (f : Nat) (b : BitVec 32) (h0 : 8 * (oneB p.length).length ≤ f) (h1 : f + 32 ≤ 8 * (frameB p).length) :
    takeF (burstB (frameB p) f b 32) = if b = 0#32 then some (p, []) else none := by
  have hseen := burst_seen (textB p) f b (by rw [frame_len] at h1; rw [text_len]; omega)
  have hlen := burst_len (frameB p) f b 32
  have hhead := burst_take (frameB p) f b _ h0 32
  by_cases hb : b = 0#32
  · subst hb
    rw [burst_zero, if_pos rfl]
    have := frame_back hp []
    rwa [List.append_nil] at this
  · rw [if_neg hb]
    have hne : ¬ _ := fun h => hb (hseen.1 h)
    change ¬ bytesB (sumB ((burstB (frameB p) f b 32).take (textB p).length)) = (burstB (frameB p) f b 32).drop (textB p).length at hne
    generalize burstB (frameB p) f b 32 = c at *
    -- the head, the payload, the sum
    have e1 : (frameB p).take (oneB p.length).length = oneB p.length := by
      rw [frameB, textB, List.append_assoc, List.take_append_of_le_length (Nat.le_refl _), List.take_of_length_le (Nat.le_refl _)]
    rw [e1] at hhead
    have hq : ((c.drop (oneB p.length).length).take p.length).length = p.length := by
      rw [List.length_take, List.length_drop, hlen, frame_len]; omega
    have ec : c = textB ((c.drop (oneB p.length).length).take p.length) ++ c.drop (textB p).length := by
      unfold textB
      rw [hq, ← hhead, List.append_assoc, List.length_append]
      have : c.drop (oneB p.length).length = (c.drop (oneB p.length).length).take p.length ++ c.drop ((oneB p.length).length + p.length) := by
        conv => lhs; rw [← List.take_append_drop p.length (c.drop (oneB p.length).length), List.drop_drop]
      have hl : (c.take (oneB p.length).length).length = (oneB p.length).length := by rw [hhead]
      rw [hl]
      conv => lhs; rw [← List.take_append_drop (oneB p.length).length c, this]
    generalize hQ : (c.drop (oneB p.length).length).take p.length = q at *
    have htl : (textB q).length = (textB p).length := by rw [text_len, text_len, hq]
    have ht : takeTextB c = some (q, c.drop (textB p).length) := by
      conv => lhs; rw [ec]
      exact text_back (by omega) _
    unfold takeF
    rw [ht]
    simp only
    rw [if_neg (by omega), if_pos]
    refine Or.inr fun e => hne ?_
    have et : c.take (textB p).length = textB q := by
      conv => lhs; rw [ec]
      rw [← htl, List.take_append_of_le_length (Nat.le_refl _), List.take_of_length_le (Nat.le_refl _)]
    have hfl : (frameB q).length = c.length := by rw [hlen, frame_len, frame_len, hq]
    rw [hfl, List.take_of_length_le (Nat.le_refl _)] at e
    rw [et]
    have e3 : c.drop (textB p).length = bytesB (sumB (textB q)) := by
      conv => lhs; rw [← e]
      rw [frameB, ← htl, List.drop_append_of_le_length (Nat.le_refl _), List.drop_of_length_le (Nat.le_refl _), List.nil_append]
    rw [e3]
end Go.Proofs.Ytfjbpjojpjkfcaa
