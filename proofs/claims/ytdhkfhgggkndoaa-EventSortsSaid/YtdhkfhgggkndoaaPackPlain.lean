/-
  Numbers and texts as bytes: no program here. A number's bytes: how many, and its digits to 256, the highest first.
-/
namespace Go.Proofs.Ytdhkfhgggkndoaa
set_option linter.unusedVariables false
set_option linter.unusedSimpArgs false

/-- A number's digits to 256, the highest first. -/
def digs (n : Nat) : List Nat := if h : n = 0 then [] else digs (n / 256) ++ [n % 256]
termination_by n
decreasing_by omega
theorem digs_zero : digs 0 = [] := by rw [digs]; simp
theorem digs_pos {n : Nat} (h : 0 < n) : digs n = digs (n / 256) ++ [n % 256] := by
  rw [digs]
  simp [show n ≠ 0 by omega]
/-- The number of digits. -/
def valN (l : List Nat) : Nat := l.foldl (fun a x => a * 256 + x) 0
theorem valN_snoc (l : List Nat) (x : Nat) : valN (l ++ [x]) = valN l * 256 + x := by simp [valN]
theorem val_digs : ∀ n : Nat, valN (digs n) = n := by
  intro n
  induction n using Nat.strongRecOn with
  | _ n ih =>
    rcases Nat.eq_zero_or_pos n with rfl | h
    · rw [digs_zero]; rfl
    · rw [digs_pos h, valN_snoc, ih (n / 256) (by omega)]
      omega
theorem digs_small (n : Nat) : ∀ x ∈ digs n, x < 256 := by
  induction n using Nat.strongRecOn with
  | _ n ih =>
    rcases Nat.eq_zero_or_pos n with rfl | h
    · rw [digs_zero]; simp
    · rw [digs_pos h]
      intro x hx
      rcases List.mem_append.1 hx with hx | hx
      · exact ih (n / 256) (by omega) x hx
      · simp at hx; omega
theorem digs_len (n : Nat) : ∀ k, n < 256 ^ k → (digs n).length ≤ k := by
  induction n using Nat.strongRecOn with
  | _ n ih =>
    intro k hk
    rcases Nat.eq_zero_or_pos n with rfl | h
    · rw [digs_zero]; simp
    · rw [digs_pos h, List.length_append]
      rcases k with _ | k
      · simp at hk; omega
      · have := ih (n / 256) (by omega) k (by rw [Nat.pow_succ] at hk; omega)
        simp
        omega
/-- The highest digit is not 0. -/
theorem digs_head (n : Nat) : ∀ x, (digs n).head? = some x → x ≠ 0 := by
  induction n using Nat.strongRecOn with
  | _ n ih =>
    intro x hx
    rcases Nat.eq_zero_or_pos n with rfl | h
    · rw [digs_zero] at hx; simp at hx
    · rw [digs_pos h] at hx
      cases hd : digs (n / 256) with
      | nil =>
        rw [hd] at hx
        have : n / 256 = 0 := by
          have e := val_digs (n / 256)
          rw [hd] at e
          exact e.symm
        simp at hx
        omega
      | cons y r =>
        rw [hd] at hx
        exact ih (n / 256) (by omega) x (by rw [hd]; simpa using hx)
theorem valN_lt : ∀ (l : List Nat), (∀ x ∈ l, x < 256) → valN l < 256 ^ l.length := by
  intro l
  induction h : l.length generalizing l with
  | zero =>
    intro _
    obtain rfl := List.eq_nil_of_length_eq_zero h
    simp [valN]
  | succ k ih =>
    intro hl
    obtain ⟨i, x, rfl⟩ : ∃ i x, l = i ++ [x] := ⟨l.dropLast, l.getLast (by intro e; subst e; simp at h), (List.dropLast_concat_getLast _).symm⟩
    have := ih i (by simpa using h) (fun y hy => hl y (by simp [hy]))
    have hx := hl x (by simp)
    rw [valN_snoc, Nat.pow_succ]
    omega
/-- A number's highest digit first: a number is as great as its highest digit says. -/
theorem valN_cons (x : Nat) (l : List Nat) : valN (x :: l) = x * 256 ^ l.length + valN l := by
  induction h : l.length generalizing l with
  | zero =>
    obtain rfl := List.eq_nil_of_length_eq_zero h
    simp [valN]
  | succ k ih =>
    obtain ⟨i, y, rfl⟩ : ∃ i y, l = i ++ [y] := ⟨l.dropLast, l.getLast (by intro e; subst e; simp at h), (List.dropLast_concat_getLast _).symm⟩
    have hk : i.length = k := by simpa using h
    have := ih i hk
    rw [← List.cons_append, valN_snoc, valN_snoc, this, Nat.pow_succ, Nat.add_mul, Nat.mul_assoc, Nat.add_assoc]
theorem digs_val : ∀ (l : List Nat), (∀ x ∈ l, x < 256) → (∀ x, l.head? = some x → x ≠ 0) → digs (valN l) = l := by
  intro l
  induction h : l.length generalizing l with
  | zero =>
    intro _ _
    obtain rfl := List.eq_nil_of_length_eq_zero h
    exact digs_zero
  | succ k ih =>
    intro hl hh
    obtain ⟨i, x, rfl⟩ : ∃ i x, l = i ++ [x] := ⟨l.dropLast, l.getLast (by intro e; subst e; simp at h), (List.dropLast_concat_getLast _).symm⟩
    have hx := hl x (by simp)
    have hi : digs (valN i) = i := ih i (by simpa using h) (fun y hy => hl y (by simp [hy])) (fun y hy => by
      cases i with
      | nil => simp at hy
      | cons z r => exact hh y (by simpa using hy))
    have hp : 0 < valN (i ++ [x]) := by
      rw [valN_snoc]
      cases i with
      | nil =>
        have := hh x (by simp)
        simp [valN]
        omega
      | cons z r =>
        have hz := hh z (by simp)
        rw [valN_cons]
        have : 0 < 256 ^ r.length := Nat.pow_pos (by omega)
        have : 0 < z * 256 ^ r.length := Nat.mul_pos (by omega) this
        omega
    rw [digs_pos hp, valN_snoc, show (valN i * 256 + x) / 256 = valN i by omega, show (valN i * 256 + x) % 256 = x by omega, hi]

/-! ### Bytes -/
def natsB (l : List (BitVec 8)) : List Nat := l.map BitVec.toNat
def bytN (l : List Nat) : List (BitVec 8) := l.map (BitVec.ofNat 8)
theorem nats_bytN {l : List Nat} (h : ∀ x ∈ l, x < 256) : natsB (bytN l) = l := by
  unfold natsB bytN
  rw [List.map_map]
  conv => rhs; rw [← List.map_id l]
  apply List.map_congr_left
  intro x hx
  simp only [Function.comp, BitVec.toNat_ofNat, id]
  exact Nat.mod_eq_of_lt (h x hx)
theorem bytN_nats (l : List (BitVec 8)) : bytN (natsB l) = l := by
  unfold natsB bytN
  rw [List.map_map]
  conv => rhs; rw [← List.map_id l]
  apply List.map_congr_left
  intro x hx
  simp [Function.comp]
theorem nats_small (l : List (BitVec 8)) : ∀ x ∈ natsB l, x < 256 := by
  intro x hx
  simp only [natsB, List.mem_map] at hx
  obtain ⟨b, _, rfl⟩ := hx
  exact b.isLt
theorem nats_len (l : List (BitVec 8)) : (natsB l).length = l.length := by simp [natsB]
theorem bytN_len (l : List Nat) : (bytN l).length = l.length := by simp [bytN]

/-- A number's bytes. -/
def oneB (n : Nat) : List (BitVec 8) := BitVec.ofNat 8 (digs n).length :: bytN (digs n)
def putB (l : List Nat) : List (BitVec 8) := (l.map oneB).flatten
/-- The number that bytes begin with, and what is behind. -/
def takeB : List (BitVec 8) → Option (Nat × List (BitVec 8))
  | [] => none
  | x :: r => if 8 < x.toNat ∨ r.length < x.toNat then none
    else if (x.toNat = 8 ∧ 128 ≤ (r.getD 0 0#8).toNat) ∨ (0 < x.toNat ∧ (r.getD 0 0#8).toNat = 0) then none
    else some (valN (natsB (r.take x.toNat)), r.drop x.toNat)
theorem digs_eight {n : Nat} (h : n < 9223372036854775808) : (digs n).length ≤ 8 := digs_len n 8 (Nat.lt_trans h (by decide))
theorem one_len {n : Nat} : (oneB n).length = (digs n).length + 1 := by simp [oneB, bytN_len]
theorem take_one {n : Nat} (h : n < 9223372036854775808) (r : List (BitVec 8)) : takeB (oneB n ++ r) = some (n, r) := by
  have h8 := digs_eight h
  have ex : (BitVec.ofNat 8 (digs n).length).toNat = (digs n).length := by
    rw [BitVec.toNat_ofNat]
    exact Nat.mod_eq_of_lt (by omega)
  have e : oneB n ++ r = BitVec.ofNat 8 (digs n).length :: (bytN (digs n) ++ r) := rfl
  rw [e, takeB, ex]
  have hl : (bytN (digs n) ++ r).length = (digs n).length + r.length := by rw [List.length_append, bytN_len]
  rw [if_neg (by rw [hl]; omega), if_neg]
  · rw [List.take_append_of_le_length (by rw [bytN_len]; exact Nat.le_refl _), List.take_of_length_le (by rw [bytN_len]; exact Nat.le_refl _), nats_bytN (digs_small n), val_digs,
      List.drop_append_of_le_length (by rw [bytN_len]; exact Nat.le_refl _), List.drop_of_length_le (by rw [bytN_len]; exact Nat.le_refl _), List.nil_append]
  · cases hd : digs n with
    | nil => simp
    | cons x l =>
      have hx : x < 256 := digs_small n x (by rw [hd]; simp)
      have hx0 : x ≠ 0 := digs_head n x (by rw [hd]; rfl)
      have e0 : ((bytN (x :: l) ++ r).getD 0 0#8).toNat = x := by
        simp [bytN]
        omega
      rw [e0]
      rintro (⟨h1, h2⟩ | ⟨_, h2⟩)
      · have e1 := valN_cons x l
        have e2 := val_digs n
        rw [hd, e1] at e2
        have : l.length = 7 := by simpa using h1
        rw [this] at e2
        have : (256 : Nat) ^ 7 = 72057594037927936 := by decide
        rw [this] at e2
        have : 128 * 72057594037927936 ≤ x * 72057594037927936 := Nat.mul_le_mul_right _ h2
        omega
      · exact hx0 h2
theorem take_own {b r : List (BitVec 8)} {n : Nat} (h : takeB b = some (n, r)) : b = oneB n ++ r ∧ n < 9223372036854775808 := by
  cases b with
  | nil => simp [takeB] at h
  | cons x t =>
    rw [takeB] at h
    split at h
    · cases h
    · rename_i h1
      split at h
      · cases h
      · rename_i h2
        simp only [Option.some.injEq, Prod.mk.injEq] at h
        obtain ⟨hn, hr⟩ := h
        have hx8 : x.toNat ≤ 8 := by omega
        have hxl : x.toNat ≤ t.length := by omega
        have hlen : (natsB (t.take x.toNat)).length = x.toNat := by rw [nats_len, List.length_take]; omega
        have hhead : ∀ y, (natsB (t.take x.toNat)).head? = some y → y ≠ 0 ∧ (x.toNat = 8 → y < 128) := by
          intro y hy
          cases t with
          | nil => simp [natsB] at hy
          | cons z t =>
            cases hk : x.toNat with
            | zero => rw [hk] at hy; simp [natsB] at hy
            | succ k =>
              rw [hk] at hy
              simp only [natsB, List.take_succ_cons, List.map_cons, List.head?_cons, Option.some.injEq] at hy
              have eg : ((z :: t).getD 0 0#8) = z := rfl
              rw [eg, hy, hk] at h2
              constructor
              · intro e; exact h2 (.inr ⟨by omega, e⟩)
              · intro e
                rcases Nat.lt_or_ge y 128 with q | q
                · exact q
                · exact absurd (Or.inl ⟨e, q⟩) h2
        have hd : digs n = natsB (t.take x.toNat) := by
          rw [← hn]
          exact digs_val _ (nats_small _) (fun y hy => (hhead y hy).1)
        constructor
        · unfold oneB
          rw [hd, hlen, bytN_nats, ← hr, List.cons_append, List.take_append_drop]
          congr 1
          simp
        · rw [← hn]
          have hlt := valN_lt _ (nats_small (t.take x.toNat))
          rw [hlen] at hlt
          rcases Nat.lt_or_ge x.toNat 8 with q | q
          · have : 256 ^ x.toNat ≤ 256 ^ 7 := Nat.pow_le_pow_right (by omega) (by omega)
            have : (256 : Nat) ^ 7 = 72057594037927936 := by decide
            omega
          · have hx : x.toNat = 8 := by omega
            cases hq : natsB (t.take x.toNat) with
            | nil => rw [hq] at hlen; simp at hlen; omega
            | cons y m =>
              have hy := (hhead y (by rw [hq]; rfl)).2 hx
              have hm : m.length = 7 := by rw [hq] at hlen; simp at hlen; omega
              have hmlt := valN_lt m (fun z hz => nats_small (t.take x.toNat) z (by rw [hq]; simp [hz]))
              rw [valN_cons, hm]
              rw [hm] at hmlt
              have : (256 : Nat) ^ 7 = 72057594037927936 := by decide
              rw [this] at hmlt ⊢
              have : y * 72057594037927936 ≤ 127 * 72057594037927936 := Nat.mul_le_mul_right _ (by omega)
              omega
/-! ### The order of bytes -/
def lexN : List Nat → List Nat → Bool
  | _, [] => false
  | [], _ :: _ => true
  | a :: x, b :: y => decide (a < b) || (a == b && lexN x y)
theorem lex_val : ∀ (l m : List Nat), l.length = m.length → (∀ x ∈ l, x < 256) → (∀ x ∈ m, x < 256) → lexN l m = decide (valN l < valN m)
  | [], [], _, _, _ => by simp [lexN]
  | a :: x, b :: y, h, hl, hm => by
    have hxy : x.length = y.length := by simpa using h
    have ih := lex_val x y hxy (fun z hz => hl z (by simp [hz])) (fun z hz => hm z (by simp [hz]))
    have lx := valN_lt x (fun z hz => hl z (by simp [hz]))
    have ly := valN_lt y (fun z hz => hm z (by simp [hz]))
    rw [lexN, ih, valN_cons, valN_cons, hxy]
    rw [hxy] at lx
    generalize 256 ^ y.length = p at *
    rcases Nat.lt_trichotomy a b with q | q | q
    · have : (a + 1) * p ≤ b * p := Nat.mul_le_mul_right _ q
      rw [Nat.add_mul, Nat.one_mul] at this
      have e : decide (a * p + valN x < b * p + valN y) = true := by simp; omega
      rw [e]
      simp [q]
    · subst q
      simp
    · have : (b + 1) * p ≤ a * p := Nat.mul_le_mul_right _ q
      rw [Nat.add_mul, Nat.one_mul] at this
      have e : decide (a * p + valN x < b * p + valN y) = false := by simp; omega
      rw [e]
      simp
      omega
theorem digs_mono {a b : Nat} (h : a ≤ b) : (digs a).length ≤ (digs b).length := by
  have := valN_lt (digs b) (digs_small b)
  rw [val_digs] at this
  exact digs_len a _ (by omega)
theorem lex_one (a b : Nat) : lexN ((digs a).length :: digs a) ((digs b).length :: digs b) = decide (a < b) := by
  rw [lexN]
  rcases Nat.lt_trichotomy (digs a).length (digs b).length with q | q | q
  · have : a < b := by
      rcases Nat.lt_or_ge a b with h | h
      · exact h
      · have := digs_mono h; omega
    simp [q, this]
  · rw [lex_val (digs a) (digs b) q (digs_small a) (digs_small b), val_digs, val_digs, q]
    simp
  · have : ¬ a < b := by
      intro h
      have := digs_mono (Nat.le_of_lt h)
      omega
    have e1 : decide (a < b) = false := by simpa using this
    rw [e1]
    simp
    omega
end Go.Proofs.Ytdhkfhgggkndoaa
