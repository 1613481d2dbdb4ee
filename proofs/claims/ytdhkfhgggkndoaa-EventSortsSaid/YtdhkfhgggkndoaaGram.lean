/-
  Numbers of parts: a part is so many numbers, or a list of rows of so many numbers, with how many rows ahead. What is written so is read in one way. No program here.
-/
import Derived.Test.YtdhkfhgggkndoaaPackPlain
namespace Go.Proofs.Ytdhkfhgggkndoaa
set_option linter.unusedVariables false
set_option linter.unusedSimpArgs false

inductive GPart where
  | fix (k : Nat)
  | tab (k : Nat)
abbrev Rows2 := List (List Int)
def GPart.fits : GPart → Rows2 → Prop
  | .fix k, t => ∃ r, t = [r] ∧ r.length = k
  | .tab k, t => ∀ r ∈ t, r.length = k
def GPart.nums : GPart → Rows2 → List Int
  | .fix _, t => t.flatten
  | .tab _, t => (t.length : Int) :: t.flatten
def fitsG : List GPart → List Rows2 → Prop
  | [], [] => True
  | p :: ps, t :: ts => p.fits t ∧ fitsG ps ts
  | _, _ => False
def numsG : List GPart → List Rows2 → List Int
  | p :: ps, t :: ts => p.nums t ++ numsG ps ts
  | _, _ => []
/-- Rows of one length are told by their numbers, whatever stands behind. -/
theorem rows_inj {k : Nat} : ∀ (a b : Rows2), a.length = b.length → (∀ r ∈ a, r.length = k) → (∀ r ∈ b, r.length = k) → ∀ x y : List Int, a.flatten ++ x = b.flatten ++ y → a = b ∧ x = y
  | [], [], _, _, _, x, y, h => ⟨rfl, by simpa using h⟩
  | r :: a, s :: b, hl, ha, hb, x, y, h => by
    have h1 := ha r (by simp)
    have h2 := hb s (by simp)
    simp only [List.flatten_cons, List.append_assoc] at h
    obtain ⟨e1, e2⟩ := List.append_inj h (by omega)
    obtain ⟨e3, e4⟩ := rows_inj a b (by simpa using hl) (fun q hq => ha q (by simp [hq])) (fun q hq => hb q (by simp [hq])) x y e2
    exact ⟨by rw [e1, e3], e4⟩
theorem part_inj (p : GPart) {a b : Rows2} (ha : p.fits a) (hb : p.fits b) {x y : List Int} (h : p.nums a ++ x = p.nums b ++ y) : a = b ∧ x = y := by
  cases p with
  | fix k =>
    obtain ⟨r, rfl, hr⟩ := ha
    obtain ⟨s, rfl, hs⟩ := hb
    exact rows_inj [r] [s] rfl (by simpa using hr) (by simpa using hs) x y h
  | tab k =>
    simp only [GPart.nums, List.cons_append, List.cons.injEq] at h
    exact rows_inj a b (by have := h.1; omega) ha hb x y h.2
theorem gram_inj : ∀ (ps : List GPart) (a b : List Rows2), fitsG ps a → fitsG ps b → ∀ x y : List Int, numsG ps a ++ x = numsG ps b ++ y → a = b ∧ x = y
  | [], [], [], _, _, x, y, h => ⟨rfl, by simpa [numsG] using h⟩
  | [], [], _ :: _, _, hb, _, _, _ => hb.elim
  | [], _ :: _, _, ha, _, _, _, _ => ha.elim
  | _ :: _, [], _, ha, _, _, _, _ => ha.elim
  | _ :: _, _ :: _, [], _, hb, _, _, _ => hb.elim
  | p :: ps, t :: ts, u :: us, ha, hb, x, y, h => by
    simp only [numsG, List.append_assoc] at h
    obtain ⟨e1, e2⟩ := part_inj p ha.1 hb.1 h
    obtain ⟨e3, e4⟩ := gram_inj ps ts us ha.2 hb.2 x y e2
    exact ⟨by rw [e1, e3], e4⟩
/-! ### Bytes -/
/-- Numbers from 0 on as bytes. -/
def bytesN (l : List Int) : List (BitVec 8) := putB (l.map Int.toNat)
theorem bytesN_cons (n : Int) (l : List Int) : bytesN (n :: l) = oneB n.toNat ++ bytesN l := by simp [bytesN, putB]
theorem bytesN_append (l m : List Int) : bytesN (l ++ m) = bytesN l ++ bytesN m := by simp [bytesN, putB]
theorem bytesN_nil : bytesN [] = [] := rfl
def okN (l : List Int) : Prop := ∀ n ∈ l, 0 ≤ n ∧ n ≤ 9223372036854775807
theorem bytesN_take {n : Int} (hn : 0 ≤ n ∧ n ≤ 9223372036854775807) (r : List (BitVec 8)) : takeB (oneB n.toNat ++ r) = some (n.toNat, r) := take_one (by omega) r
/-- Of two lists' bytes the one begins with the other: so do the numbers. -/
theorem bytesN_pre : ∀ (l m : List Int), okN l → okN m → ∀ x : List (BitVec 8), bytesN m = bytesN l ++ x → ∃ r, m = l ++ r ∧ x = bytesN r
  | [], m, _, _, x, h => ⟨m, rfl, by rw [h]; rfl⟩
  | n :: l, [], hl, _, x, h => by
    have h2 := congrArg takeB h
    rw [bytesN_cons, List.append_assoc, bytesN_take (hl n (by simp)), bytesN_nil] at h2
    cases h2
  | n :: l, k :: m, hl, hm, x, h => by
    have h2 := congrArg takeB h
    rw [bytesN_cons, bytesN_cons, List.append_assoc, bytesN_take (hl n (by simp)), bytesN_take (hm k (by simp))] at h2
    simp only [Option.some.injEq, Prod.mk.injEq] at h2
    obtain ⟨e1, e2⟩ := h2
    have hn := hl n (by simp)
    have hk := hm k (by simp)
    obtain rfl : k = n := by omega
    obtain ⟨r, rfl, hx⟩ := bytesN_pre l m (fun q hq => hl q (by simp [hq])) (fun q hq => hm q (by simp [hq])) x e2
    exact ⟨r, rfl, hx⟩
/-! ### The numbers that bytes are -/
/-- All numbers that bytes are; none, if some are no number. -/
def allNum : Nat → List (BitVec 8) → Option (List Int)
  | 0, _ => none
  | f + 1, b => if b.length = 0 then some [] else match takeB b with
    | none => none
    | some (n, r) => (allNum f r).map ((n : Int) :: ·)
theorem allNum_bytes : ∀ (l : List Int), okN l → ∀ f, (bytesN l).length < f → allNum f (bytesN l) = some l
  | [], _, f, h => by
    cases f with
    | zero => omega
    | succ f => rfl
  | n :: l, hl, f, h => by
    have hn := hl n (by simp)
    cases f with
    | zero => omega
    | succ f =>
      rw [bytesN_cons] at h ⊢
      have hp := @one_len n.toNat
      rw [List.length_append] at h
      unfold allNum
      rw [if_neg (by rw [List.length_append]; omega), bytesN_take hn]
      simp only
      rw [allNum_bytes l (fun q hq => hl q (by simp [hq])) f (by omega)]
      simp
      omega
theorem allNum_own : ∀ (f : Nat) (b : List (BitVec 8)) (l : List Int), allNum f b = some l → okN l ∧ b = bytesN l
  | 0, b, l, h => by cases h
  | f + 1, b, l, h => by
    unfold allNum at h
    by_cases h0 : b.length = 0
    · rw [if_pos h0] at h
      injection h with h
      subst h
      exact ⟨fun n hn => by simp at hn, List.eq_nil_of_length_eq_zero h0⟩
    · rw [if_neg h0] at h
      cases ht : takeB b with
      | none => rw [ht] at h; cases h
      | some x =>
        obtain ⟨n, r⟩ := x
        rw [ht] at h
        simp only [Option.map_eq_some_iff] at h
        obtain ⟨m, hm, rfl⟩ := h
        obtain ⟨e, hn⟩ := take_own ht
        obtain ⟨h1, h2⟩ := allNum_own f r m hm
        refine ⟨fun q hq => ?_, ?_⟩
        · rcases List.mem_cons.1 hq with rfl | hq
          · omega
          · exact h1 q hq
        · rw [bytesN_cons, e, h2]
          simp
end Go.Proofs.Ytdhkfhgggkndoaa
