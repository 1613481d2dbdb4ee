/-
  Least lengths of walks. No program here.
-/
namespace Go.Proofs.Ytcnekicfblbafaa
set_option linter.unusedVariables false
set_option linter.unusedSimpArgs false

abbrev Edge := Nat × Nat × Nat
/-- A way joins b with c, and is m long. -/
def Joined (E : List Edge) (b c m : Nat) : Prop := (b, c, m) ∈ E ∨ (c, b, m) ∈ E
theorem Joined.turn {E : List Edge} {b c m : Nat} (h : Joined E b c m) : Joined E c b m := h.symm
/-- A walk from a, of k ways, n long. -/
inductive WalkN (E : List Edge) (a : Nat) : Nat → Nat → Nat → Prop
  | nil : WalkN E a a 0 0
  | snoc {b c m k n : Nat} : WalkN E a b k n → Joined E b c m → WalkN E a c (k + 1) (n + m)
def Reach (E : List Edge) (a b n : Nat) : Prop := ∃ k, WalkN E a b k n
section
variable {E : List Edge} {a b c n m : Nat}
theorem Reach.nil : Reach E a a 0 := ⟨0, .nil⟩
theorem Reach.snoc (h : Reach E a b n) (j : Joined E b c m) : Reach E a c (n + m) := by
  obtain ⟨k, h⟩ := h
  exact ⟨k + 1, .snoc h j⟩
theorem Reach.trans (h : Reach E a b n) (h' : Reach E b c m) : Reach E a c (n + m) := by
  obtain ⟨k, h'⟩ := h'
  induction h' with
  | nil => exact h
  | snoc _ j ih => rw [← Nat.add_assoc]; exact ih.snoc j
theorem Reach.turn (h : Reach E a b n) : Reach E b a n := by
  obtain ⟨k, h⟩ := h
  induction h with
  | nil => exact .nil
  | @snoc x y m k n _ j ih =>
    have q : Reach E y x m := by
      have := Reach.nil.snoc (a := y) j.turn
      rwa [Nat.zero_add] at this
    rw [Nat.add_comm]
    exact q.trans ih
theorem Reach.more (h : Reach E a b n) {F : List Edge} (hF : ∀ e ∈ E, e ∈ F) : Reach F a b n := by
  obtain ⟨k, h⟩ := h
  induction h with
  | nil => exact .nil
  | snoc _ j ih => exact ih.snoc (j.elim (fun q => .inl (hF _ q)) (fun q => .inr (hF _ q)))
end
theorem exists_least (p : Nat → Prop) : ∀ n, p n → ∃ n, p n ∧ ∀ m, p m → n ≤ m := by
  intro n
  induction n using Nat.strongRecOn with
  | _ n ih =>
    intro hn
    by_cases h : ∃ m, m < n ∧ p m
    · obtain ⟨m, h1, h2⟩ := h
      exact ih m h1 h2
    · refine ⟨n, hn, fun m hm => ?_⟩
      rcases Nat.lt_or_ge m n with q | q
      · exact absurd ⟨m, q, hm⟩ h
      · exact q
open Classical in
/-- How far. -/
noncomputable def distO (E : List Edge) (a b : Nat) : Option Nat :=
  if h : ∃ n, Reach E a b n ∧ ∀ m, Reach E a b m → n ≤ m then some (Classical.choose h) else none
theorem dist_some {E : List Edge} {a b n : Nat} : distO E a b = some n ↔ Reach E a b n ∧ ∀ m, Reach E a b m → n ≤ m := by
  unfold distO
  constructor
  · intro h
    split at h
    · rename_i hx
      injection h with h
      rw [← h]
      exact Classical.choose_spec hx
    · cases h
  · intro h
    have hx : ∃ n, Reach E a b n ∧ ∀ m, Reach E a b m → n ≤ m := ⟨n, h⟩
    rw [dif_pos hx]
    have := Classical.choose_spec hx
    congr 1
    exact Nat.le_antisymm (this.2 _ h.1) (h.2 _ this.1)
theorem dist_none {E : List Edge} {a b : Nat} : distO E a b = none ↔ ∀ n, ¬ Reach E a b n := by
  constructor
  · intro h n hn
    obtain ⟨m, hm⟩ := exists_least (Reach E a b) n hn
    rw [dist_some.2 hm] at h
    cases h
  · intro h
    cases hd : distO E a b with
    | none => rfl
    | some n => exact absurd (dist_some.1 hd).1 (h n)
theorem dist_le {E : List Edge} {a b n : Nat} (h : Reach E a b n) : ∃ m, distO E a b = some m ∧ m ≤ n := by
  cases hd : distO E a b with
  | none => exact absurd h (dist_none.1 hd n)
  | some m => exact ⟨m, rfl, (dist_some.1 hd).2 n h⟩
theorem dist_self (E : List Edge) (a : Nat) : distO E a a = some 0 := dist_some.2 ⟨.nil, fun m _ => Nat.zero_le m⟩
theorem dist_turn (E : List Edge) (a b : Nat) : distO E a b = distO E b a := by
  cases h : distO E b a with
  | none => exact dist_none.2 fun n hn => dist_none.1 h n hn.turn
  | some n =>
    obtain ⟨h1, h2⟩ := dist_some.1 h
    exact dist_some.2 ⟨h1.turn, fun m hm => h2 m hm.turn⟩
theorem dist_three {E : List Edge} {a b c n m : Nat} (h : distO E a b = some n) (h' : distO E b c = some m) : ∃ k, distO E a c = some k ∧ k ≤ n + m :=
  dist_le ((dist_some.1 h).1.trans (dist_some.1 h').1)
/-- All ways are 1 long, or longer. -/
def Longs (E : List Edge) : Prop := ∀ e ∈ E, 1 ≤ e.2.2
theorem Joined.long {E : List Edge} (hE : Longs E) {b c m : Nat} (h : Joined E b c m) : 1 ≤ m := by
  rcases h with h | h
  · exact hE _ h
  · exact hE _ h
theorem dist_zero {E : List Edge} (hE : Longs E) {a b : Nat} : distO E a b = some 0 ↔ a = b := by
  constructor
  · intro h
    obtain ⟨k, hw⟩ := (dist_some.1 h).1
    generalize hn : (0 : Nat) = n at hw
    cases hw with
    | nil => rfl
    | snoc _ j => have := j.long hE; omega
  · rintro rfl
    exact dist_self E a
/-- The last way of a least walk. -/
theorem dist_last {E : List Edge} (hE : Longs E) {a b n : Nat} (h : distO E a b = some n) (hab : a ≠ b) : ∃ u m p, Joined E u b m ∧ distO E a u = some p ∧ n = p + m ∧ p < n := by
  obtain ⟨⟨k, hw⟩, hl⟩ := dist_some.1 h
  cases hw with
  | nil => exact absurd rfl hab
  | @snoc u _ m _ p w j =>
    obtain ⟨q, hq, hle⟩ := dist_le (⟨_, w⟩ : Reach E a u p)
    have := hl _ ((dist_some.1 hq).1.snoc j)
    have hm := j.long hE
    obtain rfl : q = p := by omega
    exact ⟨u, m, q, j, hq, rfl, by omega⟩
theorem dist_step {E : List Edge} {a u b m p : Nat} (j : Joined E u b m) (h : distO E a u = some p) : ∃ n, distO E a b = some n ∧ n ≤ p + m := dist_le ((dist_some.1 h).1.snoc j)
/-! ### No farther than all ways together -/
theorem sum_filter_more (p q : Edge → Bool) (hpq : ∀ e, p e = true → q e = true) : ∀ (E : List Edge) (e : Edge), e ∈ E → p e = false → q e = true → ((E.filter p).map fun e => e.2.2).sum + e.2.2 ≤ ((E.filter q).map fun e => e.2.2).sum
  | [], e, h, _, _ => by simp at h
  | x :: E, e, h, hp, hq => by
    have mono : ∀ F : List Edge, ((F.filter p).map fun e => e.2.2).sum ≤ ((F.filter q).map fun e => e.2.2).sum := by
      intro F
      induction F with
      | nil => simp
      | cons y F ih =>
        by_cases h1 : p y = true
        · rw [List.filter_cons_of_pos h1, List.filter_cons_of_pos (hpq y h1)]
          simp only [List.map_cons, List.sum_cons]
          omega
        · rw [List.filter_cons_of_neg h1]
          by_cases h2 : q y = true
          · rw [List.filter_cons_of_pos h2]
            simp only [List.map_cons, List.sum_cons]
            omega
          · rw [List.filter_cons_of_neg h2]
            exact ih
    rcases List.mem_cons.1 h with rfl | h
    · rw [List.filter_cons_of_neg (by rw [hp]; simp), List.filter_cons_of_pos hq]
      simp only [List.map_cons, List.sum_cons]
      have := mono E
      omega
    · have ih := sum_filter_more p q hpq E e h hp hq
      by_cases h1 : p x = true
      · rw [List.filter_cons_of_pos h1, List.filter_cons_of_pos (hpq x h1)]
        simp only [List.map_cons, List.sum_cons]
        omega
      · rw [List.filter_cons_of_neg h1]
        by_cases h2 : q x = true
        · rw [List.filter_cons_of_pos h2]
          simp only [List.map_cons, List.sum_cons]
          omega
        · rw [List.filter_cons_of_neg h2]
          exact ih
theorem sum_filter_le (p : Edge → Bool) : ∀ F : List Edge, ((F.filter p).map fun e => e.2.2).sum ≤ (F.map fun e => e.2.2).sum
  | [] => by simp
  | y :: F => by
    have := sum_filter_le p F
    by_cases h1 : p y = true
    · rw [List.filter_cons_of_pos h1]
      simp only [List.map_cons, List.sum_cons]
      omega
    · rw [List.filter_cons_of_neg h1]
      simp only [List.map_cons, List.sum_cons]
      omega
open Classical in
/-- No farther than n. -/
noncomputable def nearB (E : List Edge) (a n x : Nat) : Bool := decide (∃ m, distO E a x = some m ∧ m ≤ n)
theorem near_iff {E : List Edge} {a n x : Nat} : nearB E a n x = true ↔ ∃ m, distO E a x = some m ∧ m ≤ n := by
  unfold nearB
  exact decide_eq_true_iff
theorem dist_sum_at {E : List Edge} (hE : Longs E) (a : Nat) : ∀ n b, distO E a b = some n → n ≤ ((E.filter fun e => nearB E a n e.1 && nearB E a n e.2.1).map fun e => e.2.2).sum := by
  intro n
  induction n using Nat.strongRecOn with
  | _ n ih =>
    intro b hb
    by_cases hab : a = b
    · subst hab
      rw [dist_self] at hb
      injection hb with hb
      omega
    · obtain ⟨u, m, p, j, hu, rfl, hlt⟩ := dist_last hE hb hab
      have h1 := ih p hlt u hu
      have nu : nearB E a (p + m) u = true := near_iff.2 ⟨p, hu, by omega⟩
      have nb : nearB E a (p + m) b = true := near_iff.2 ⟨p + m, hb, Nat.le_refl _⟩
      have fb : nearB E a p b = false := by
        cases hq : nearB E a p b with
        | false => rfl
        | true =>
          obtain ⟨q, h2, h3⟩ := near_iff.1 hq
          rw [hb] at h2
          injection h2 with h2
          omega
      have mono : ∀ e : Edge, (nearB E a p e.1 && nearB E a p e.2.1) = true → (nearB E a (p + m) e.1 && nearB E a (p + m) e.2.1) = true := by
        intro e he
        simp only [Bool.and_eq_true] at he ⊢
        obtain ⟨q1, h2, h3⟩ := near_iff.1 he.1
        obtain ⟨q2, h4, h5⟩ := near_iff.1 he.2
        exact ⟨near_iff.2 ⟨q1, h2, by omega⟩, near_iff.2 ⟨q2, h4, by omega⟩⟩
      rcases j with j | j
      · have := sum_filter_more (fun e => nearB E a p e.1 && nearB E a p e.2.1) (fun e => nearB E a (p + m) e.1 && nearB E a (p + m) e.2.1) mono E (u, b, m) j (by simp [fb]) (by simp [nu, nb])
        simp only at this
        omega
      · have := sum_filter_more (fun e => nearB E a p e.1 && nearB E a p e.2.1) (fun e => nearB E a (p + m) e.1 && nearB E a (p + m) e.2.1) mono E (b, u, m) j (by simp [fb]) (by simp [nu, nb])
        simp only at this
        omega
theorem dist_sum {E : List Edge} (hE : Longs E) {a b n : Nat} (h : distO E a b = some n) : n ≤ (E.map fun e => e.2.2).sum :=
  Nat.le_trans (dist_sum_at hE a n b h) (sum_filter_le _ E)
/-! ### Walks of few ways -/
theorem count_more (p q : Nat → Bool) (hpq : ∀ x, p x = true → q x = true) (P u : Nat) (hu : u < P) (hp : p u = false) (hq : q u = true) : ((List.range P).filter p).length + 1 ≤ ((List.range P).filter q).length := by
  induction P with
  | zero => omega
  | succ P ih =>
    rw [List.range_succ, List.filter_append, List.filter_append, List.length_append, List.length_append]
    have mono : ((List.range P).filter p).length ≤ ((List.range P).filter q).length := by
      clear ih hu
      induction P with
      | zero => simp
      | succ P ih =>
        rw [List.range_succ, List.filter_append, List.filter_append, List.length_append, List.length_append]
        by_cases h1 : p P = true
        · simp [h1, hpq P h1]; omega
        · simp only [List.filter_cons, h1, List.filter_nil]
          simp
          omega
    by_cases hPu : u = P
    · subst hPu
      simp [hp, hq]
      omega
    · have := ih (by omega)
      by_cases h1 : p P = true
      · simp [h1, hpq P h1]; omega
      · simp only [List.filter_cons, h1, List.filter_nil]
        simp
        omega
/-- All ways lie among P places. -/
def Among (P : Nat) (E : List Edge) : Prop := ∀ e ∈ E, e.1 < P ∧ e.2.1 < P
open Classical in
noncomputable def lessB9 (E : List Edge) (a n x : Nat) : Bool := decide (∃ m, distO E a x = some m ∧ m < n)
theorem less9_iff {E : List Edge} {a n x : Nat} : lessB9 E a n x = true ↔ ∃ m, distO E a x = some m ∧ m < n := by
  unfold lessB9
  exact decide_eq_true_iff
theorem dist_few {E : List Edge} (hE : Longs E) {P : Nat} (hP : Among P E) (a : Nat) : ∀ n b, distO E a b = some n → ∃ k, WalkN E a b k n ∧ k ≤ ((List.range P).filter (lessB9 E a n)).length := by
  intro n
  induction n using Nat.strongRecOn with
  | _ n ih =>
    intro b hb
    by_cases hab : a = b
    · subst hab
      rw [dist_self] at hb
      injection hb with hb
      subst hb
      exact ⟨0, .nil, Nat.zero_le _⟩
    · obtain ⟨u, m, p, j, hu, rfl, hlt⟩ := dist_last hE hb hab
      obtain ⟨k, hw, hk⟩ := ih p hlt u hu
      refine ⟨k + 1, .snoc hw j, ?_⟩
      have huP : u < P := by
        rcases j with j | j
        · exact (hP _ j).1
        · exact (hP _ j).2
      have := count_more (lessB9 E a p) (lessB9 E a (p + m)) (fun x hx => by
        obtain ⟨q, h1, h2⟩ := less9_iff.1 hx
        exact less9_iff.2 ⟨q, h1, by omega⟩) P u huP (by
        cases hq : lessB9 E a p u with
        | false => rfl
        | true =>
          obtain ⟨q, h1, h2⟩ := less9_iff.1 hq
          rw [hu] at h1
          injection h1 with h1
          omega) (less9_iff.2 ⟨p, hu, hlt⟩)
      omega
theorem dist_walk {E : List Edge} (hE : Longs E) {P : Nat} (hP : Among P E) {a b n : Nat} (h : distO E a b = some n) : ∃ k, WalkN E a b k n ∧ k ≤ P := by
  obtain ⟨k, hw, hk⟩ := dist_few hE hP a n b h
  refine ⟨k, hw, Nat.le_trans hk ?_⟩
  have := List.length_filter_le (lessB9 E a n) (List.range P)
  rwa [List.length_range] at this
/-! ### A way more -/
theorem reach_more {E : List Edge} {u v m a b n : Nat} (h : Reach (E ++ [(u, v, m)]) a b n) :
    (∃ n', Reach E a b n' ∧ n' ≤ n) ∨ (∃ p q, Reach E a u p ∧ Reach E v b q ∧ p + m + q ≤ n) ∨ (∃ p q, Reach E a v p ∧ Reach E u b q ∧ p + m + q ≤ n) := by
  obtain ⟨k, h⟩ := h
  induction h with
  | nil => exact .inl ⟨0, .nil, Nat.le_refl _⟩
  | @snoc b c m' k n w j ih =>
    have hj : Joined E b c m' ∨ (b = u ∧ c = v ∧ m' = m) ∨ (b = v ∧ c = u ∧ m' = m) := by
      rcases j with j | j
      · rcases List.mem_append.1 j with j | j
        · exact .inl (.inl j)
        · simp at j; exact .inr (.inl j)
      · rcases List.mem_append.1 j with j | j
        · exact .inl (.inr j)
        · simp at j; exact .inr (.inr ⟨j.2.1, j.1, j.2.2⟩)
    rcases hj with j | ⟨rfl, rfl, rfl⟩ | ⟨rfl, rfl, rfl⟩
    · rcases ih with ⟨n', h1, h2⟩ | ⟨p, q, h1, h2, h3⟩ | ⟨p, q, h1, h2, h3⟩
      · exact .inl ⟨_, h1.snoc j, by omega⟩
      · exact .inr (.inl ⟨p, q + m', h1, h2.snoc j, by omega⟩)
      · exact .inr (.inr ⟨p, q + m', h1, h2.snoc j, by omega⟩)
    · rcases ih with ⟨n', h1, h2⟩ | ⟨p, q, h1, h2, h3⟩ | ⟨p, q, h1, h2, h3⟩
      · exact .inr (.inl ⟨n', 0, h1, .nil, by omega⟩)
      · exact .inr (.inl ⟨p, 0, h1, .nil, by omega⟩)
      · exact .inl ⟨p, h1, by omega⟩
    · rcases ih with ⟨n', h1, h2⟩ | ⟨p, q, h1, h2, h3⟩ | ⟨p, q, h1, h2, h3⟩
      · exact .inr (.inr ⟨n', 0, h1, .nil, by omega⟩)
      · exact .inl ⟨p, h1, by omega⟩
      · exact .inr (.inr ⟨p, 0, h1, .nil, by omega⟩)
/-! ### As numbers, Far below 0 -/
noncomputable def distI (E : List Edge) (a b : Nat) : Int := match distO E a b with
  | none => -1
  | some n => n
theorem distI_some {E : List Edge} {a b n : Nat} (h : distO E a b = some n) : distI E a b = n := by unfold distI; rw [h]
theorem distI_none {E : List Edge} {a b : Nat} (h : distO E a b = none) : distI E a b = -1 := by unfold distI; rw [h]
theorem distI_cases (E : List Edge) (a b : Nat) : (distO E a b = none ∧ distI E a b = -1) ∨ ∃ n, distO E a b = some n ∧ distI E a b = (n : Int) := by
  cases h : distO E a b with
  | none => exact .inl ⟨rfl, distI_none h⟩
  | some n => exact .inr ⟨n, rfl, distI_some h⟩
theorem distI_turn (E : List Edge) (a b : Nat) : distI E a b = distI E b a := by unfold distI; rw [dist_turn]
theorem distI_zero {E : List Edge} (hE : Longs E) {a b : Nat} : distI E a b = 0 ↔ a = b := by
  rw [← dist_zero hE]
  rcases distI_cases E a b with ⟨h1, h2⟩ | ⟨n, h1, h2⟩
  · rw [h1, h2]; simp
  · rw [h1, h2]; simp
theorem distI_ge (E : List Edge) (a b : Nat) : -1 ≤ distI E a b := by
  rcases distI_cases E a b with ⟨h1, h2⟩ | ⟨n, h1, h2⟩ <;> omega
theorem distI_sum {E : List Edge} (hE : Longs E) (a b : Nat) : distI E a b ≤ ((E.map fun e => e.2.2).sum : Nat) := by
  rcases distI_cases E a b with ⟨h1, h2⟩ | ⟨n, h1, h2⟩
  · omega
  · have := dist_sum hE h1; omega
theorem distI_three {E : List Edge} {a b c : Nat} (h : 0 ≤ distI E a b) (h' : 0 ≤ distI E b c) : 0 ≤ distI E a c ∧ distI E a c ≤ distI E a b + distI E b c := by
  rcases distI_cases E a b with ⟨h1, h2⟩ | ⟨n, h1, h2⟩
  · omega
  · rcases distI_cases E b c with ⟨h3, h4⟩ | ⟨m, h3, h4⟩
    · omega
    · obtain ⟨k, h5, h6⟩ := dist_three h1 h3
      rw [distI_some h5, h2, h4]
      omega
/-- The lesser length; one below 0 is none. -/
def shortI (a b : Int) : Int := if a < 0 ∨ (0 ≤ b ∧ b < a) then b else a
def longI (n : Int) (m : Nat) : Int := if n < 0 then n else n + m
/-- WayMore. -/
theorem distI_more {E : List Edge} {u v m : Nat} (a b : Nat) :
    distI (E ++ [(u, v, m)]) a b = shortI (shortI (distI E a b) (if 0 ≤ distI E a u ∧ 0 ≤ distI E v b then distI E a u + m + distI E v b else -1)) (if 0 ≤ distI E a v ∧ 0 ≤ distI E u b then distI E a v + m + distI E u b else -1) := by
  have hsub : ∀ e ∈ E, e ∈ E ++ [(u, v, m)] := fun e he => by simp [he]
  have j1 : Joined (E ++ [(u, v, m)]) u v m := .inl (by simp)
  have up : ∀ {x y n}, Reach E x y n → Reach (E ++ [(u, v, m)]) x y n := fun h => h.more hsub
  rcases distI_cases (E ++ [(u, v, m)]) a b with ⟨h1, h2⟩ | ⟨n, h1, h2⟩
  · have hn := dist_none.1 h1
    rcases distI_cases E a b with ⟨h3, h4⟩ | ⟨k, h3, h4⟩
    · have e1 : ¬ (0 ≤ distI E a u ∧ 0 ≤ distI E v b) := by
        rcases distI_cases E a u with ⟨h5, h6⟩ | ⟨p, h5, h6⟩
        · omega
        · rcases distI_cases E v b with ⟨h7, h8⟩ | ⟨q, h7, h8⟩
          · omega
          · exact absurd (((up (dist_some.1 h5).1).snoc j1).trans (up (dist_some.1 h7).1)) (hn _)
      have e2 : ¬ (0 ≤ distI E a v ∧ 0 ≤ distI E u b) := by
        rcases distI_cases E a v with ⟨h5, h6⟩ | ⟨p, h5, h6⟩
        · omega
        · rcases distI_cases E u b with ⟨h7, h8⟩ | ⟨q, h7, h8⟩
          · omega
          · exact absurd (((up (dist_some.1 h5).1).snoc j1.turn).trans (up (dist_some.1 h7).1)) (hn _)
      rw [if_neg e1, if_neg e2, h2, h4]
      simp [shortI]
    · exact absurd (up (dist_some.1 h3).1) (hn _)
  · obtain ⟨hr, hl⟩ := dist_some.1 h1
    have lb1 : distI E a b < 0 ∨ (n : Int) ≤ distI E a b := by
      rcases distI_cases E a b with ⟨h3, h4⟩ | ⟨k, h3, h4⟩
      · omega
      · have := hl _ (up (dist_some.1 h3).1); omega
    have lb2 : ¬ (0 ≤ distI E a u ∧ 0 ≤ distI E v b) ∨ (n : Int) ≤ distI E a u + m + distI E v b := by
      rcases distI_cases E a u with ⟨h5, h6⟩ | ⟨p, h5, h6⟩
      · omega
      · rcases distI_cases E v b with ⟨h7, h8⟩ | ⟨q, h7, h8⟩
        · omega
        · have := hl _ (((up (dist_some.1 h5).1).snoc j1).trans (up (dist_some.1 h7).1)); omega
    have lb3 : ¬ (0 ≤ distI E a v ∧ 0 ≤ distI E u b) ∨ (n : Int) ≤ distI E a v + m + distI E u b := by
      rcases distI_cases E a v with ⟨h5, h6⟩ | ⟨p, h5, h6⟩
      · omega
      · rcases distI_cases E u b with ⟨h7, h8⟩ | ⟨q, h7, h8⟩
        · omega
        · have := hl _ (((up (dist_some.1 h5).1).snoc j1.turn).trans (up (dist_some.1 h7).1)); omega
    have at_ : (0 ≤ distI E a b ∧ distI E a b ≤ n) ∨ (0 ≤ distI E a u ∧ 0 ≤ distI E v b ∧ distI E a u + m + distI E v b ≤ n) ∨ (0 ≤ distI E a v ∧ 0 ≤ distI E u b ∧ distI E a v + m + distI E u b ≤ n) := by
      rcases reach_more hr with ⟨n', h3, h4⟩ | ⟨p, q, h3, h4, h5⟩ | ⟨p, q, h3, h4, h5⟩
      · obtain ⟨k, h6, h7⟩ := dist_le h3
        rw [distI_some h6]; omega
      · obtain ⟨k, h6, h7⟩ := dist_le h3
        obtain ⟨k', h8, h9⟩ := dist_le h4
        rw [distI_some h6, distI_some h8]; omega
      · obtain ⟨k, h6, h7⟩ := dist_le h3
        obtain ⟨k', h8, h9⟩ := dist_le h4
        rw [distI_some h6, distI_some h8]; omega
    rw [h2]
    have g1 := distI_ge E a b
    have g2 := distI_ge E a u
    have g3 := distI_ge E v b
    have g4 := distI_ge E a v
    have g5 := distI_ge E u b
    unfold shortI
    split <;> split <;> split <;> (try split) <;> omega
/-! ### One way after the other -/
def putL (l : List Int) (i : Nat) (v : Int) : List Int := l.set i v
def relaxE (out : List Int) (e : Edge) : List Int :=
  let o := out.set e.2.1 (shortI (out.getD e.2.1 (-1)) (longI (out.getD e.1 (-1)) e.2.2))
  o.set e.1 (shortI (o.getD e.1 (-1)) (longI (o.getD e.2.1 (-1)) e.2.2))
def roundE (E : List Edge) (out : List Int) : List Int := E.foldl relaxE out
def roundsE (E : List Edge) : Nat → List Int → List Int
  | 0, out => out
  | k + 1, out => roundE E (roundsE E k out)
def startL (P a : Nat) : List Int := (List.replicate P (-1)).set a 0
theorem getD_set (l : List Int) (i j : Nat) (v : Int) : (l.set i v).getD j (-1) = if i = j ∧ i < l.length then v else l.getD j (-1) := by
  rw [List.getD_eq_getElem?_getD, List.getD_eq_getElem?_getD, List.getElem?_set]
  by_cases h : i = j
  · subst h
    by_cases h2 : i < l.length
    · rw [if_pos rfl, if_pos h2, if_pos ⟨rfl, h2⟩]; rfl
    · rw [if_pos rfl, if_neg h2, if_neg (by omega), List.getElem?_eq_none (by omega)]
  · rw [if_neg h, if_neg (by omega)]
theorem relax_len (out : List Int) (e : Edge) : (relaxE out e).length = out.length := by simp [relaxE]
theorem round_len (E : List Edge) : ∀ out : List Int, (roundE E out).length = out.length := by
  induction E with
  | nil => intro out; rfl
  | cons e E ih => intro out; show (roundE E (relaxE out e)).length = _; rw [ih, relax_len]
theorem rounds_len (E : List Edge) (k : Nat) (out : List Int) : (roundsE E k out).length = out.length := by
  induction k with
  | zero => rfl
  | succ k ih => show (roundE E _).length = _; rw [round_len, ih]
/-- No length is more than it was. -/
def LeL (o o' : List Int) : Prop := ∀ b, 0 ≤ o.getD b (-1) → 0 ≤ o'.getD b (-1) ∧ o'.getD b (-1) ≤ o.getD b (-1)
theorem LeL.refl (o : List Int) : LeL o o := fun b h => ⟨h, Int.le_refl _⟩
theorem LeL.trans {o o' o'' : List Int} (h : LeL o o') (h' : LeL o' o'') : LeL o o'' := fun b hb => by
  have h1 := h b hb
  have h2 := h' b h1.1
  omega
theorem set_le (o : List Int) (i : Nat) (v : Int) : LeL o (o.set i (shortI (o.getD i (-1)) v)) := by
  intro b hb
  rw [getD_set]
  split
  · rename_i h
    obtain ⟨rfl, _⟩ := h
    unfold shortI
    split <;> omega
  · omega
theorem relax_le (o : List Int) (e : Edge) : LeL o (relaxE o e) := (set_le o _ _).trans (set_le _ _ _)
theorem round_le (E : List Edge) : ∀ o : List Int, LeL o (roundE E o) := by
  induction E with
  | nil => intro o; exact LeL.refl o
  | cons e E ih => intro o; exact (relax_le o e).trans (ih _)
theorem short_long {x y : Int} (m : Nat) (h : 0 ≤ x) : 0 ≤ shortI y (longI x m) ∧ shortI y (longI x m) ≤ x + m := by
  have e : longI x m = x + m := by unfold longI; rw [if_neg (by omega)]
  rw [e]
  unfold shortI
  split <;> omega
/-- What is joined is reached within the round. -/
theorem relax_there {o : List Int} {u v m : Nat} (hv : v < o.length) (h : 0 ≤ o.getD u (-1)) : 0 ≤ (relaxE o (u, v, m)).getD v (-1) ∧ (relaxE o (u, v, m)).getD v (-1) ≤ o.getD u (-1) + m := by
  have h1 : 0 ≤ (o.set v (shortI (o.getD v (-1)) (longI (o.getD u (-1)) m))).getD v (-1) ∧ (o.set v (shortI (o.getD v (-1)) (longI (o.getD u (-1)) m))).getD v (-1) ≤ o.getD u (-1) + m := by
    rw [getD_set, if_pos ⟨rfl, hv⟩]
    exact short_long m h
  have h2 := set_le (o.set v (shortI (o.getD v (-1)) (longI (o.getD u (-1)) m))) u (longI ((o.set v (shortI (o.getD v (-1)) (longI (o.getD u (-1)) m))).getD v (-1)) m) v h1.1
  unfold relaxE
  simp only
  omega
theorem relax_back {o : List Int} {u v m : Nat} (hu : u < o.length) (h : 0 ≤ o.getD v (-1)) : 0 ≤ (relaxE o (u, v, m)).getD u (-1) ∧ (relaxE o (u, v, m)).getD u (-1) ≤ o.getD v (-1) + m := by
  have h1 := set_le o v (longI (o.getD u (-1)) m) v h
  have hl : (o.set v (shortI (o.getD v (-1)) (longI (o.getD u (-1)) m))).length = o.length := List.length_set
  unfold relaxE
  simp only
  generalize o.set v (shortI (o.getD v (-1)) (longI (o.getD u (-1)) m)) = p at *
  rw [getD_set, if_pos ⟨rfl, by omega⟩]
  have := short_long (y := p.getD u (-1)) m h1.1
  omega
theorem round_step : ∀ (E : List Edge) (o : List Int), (∀ e ∈ E, e.1 < o.length ∧ e.2.1 < o.length) → ∀ b c m, Joined E b c m → 0 ≤ o.getD b (-1) → 0 ≤ (roundE E o).getD c (-1) ∧ (roundE E o).getD c (-1) ≤ o.getD b (-1) + m
  | [], o, _, b, c, m, j, _ => by
    rcases j with j | j <;> simp at j
  | e :: E, o, hE, b, c, m, j, h => by
    have hlen : ∀ f ∈ E, f.1 < (relaxE o e).length ∧ f.2.1 < (relaxE o e).length := fun f hf => by rw [relax_len]; exact hE f (by simp [hf])
    have h0 := hE e (by simp)
    have first : (b, c, m) = e ∨ (c, b, m) = e ∨ Joined E b c m := by
      rcases j with j | j
      · rcases List.mem_cons.1 j with j | j
        · exact .inl j
        · exact .inr (.inr (.inl j))
      · rcases List.mem_cons.1 j with j | j
        · exact .inr (.inl j)
        · exact .inr (.inr (.inr j))
    show 0 ≤ (roundE E (relaxE o e)).getD c (-1) ∧ (roundE E (relaxE o e)).getD c (-1) ≤ _
    rcases first with rfl | rfl | j
    · have h1 := relax_there (o := o) (u := b) (v := c) (m := m) h0.2 h
      have h2 := round_le E _ c h1.1
      omega
    · have h1 := relax_back (o := o) (u := c) (v := b) (m := m) h0.1 h
      have h2 := round_le E _ c h1.1
      omega
    · have h1 := relax_le o e b h
      have h2 := round_step E (relaxE o e) hlen b c m j h1.1
      omega
theorem start_len (P a : Nat) : (startL P a).length = P := by simp [startL]
theorem rounds_walk {E : List Edge} {P a : Nat} (hP : Among P E) (ha : a < P) : ∀ {b k n : Nat}, WalkN E a b k n → ∀ K, k ≤ K → 0 ≤ (roundsE E K (startL P a)).getD b (-1) ∧ (roundsE E K (startL P a)).getD b (-1) ≤ (n : Int) := by
  intro b k n hw
  induction hw with
  | nil =>
    intro K _
    induction K with
    | zero =>
      have e : (roundsE E 0 (startL P a)).getD a (-1) = 0 := by
        show (startL P a).getD a (-1) = 0
        unfold startL
        rw [getD_set, if_pos ⟨rfl, by simpa using ha⟩]
      rw [e]
      simp
    | succ K ih =>
      replace ih := ih (Nat.zero_le _)
      have := round_le E (roundsE E K (startL P a)) a ih.1
      show 0 ≤ (roundE E _).getD a (-1) ∧ (roundE E _).getD a (-1) ≤ _
      omega
  | @snoc b c m k n _ j ih =>
    intro K hK
    cases K with
    | zero => omega
    | succ K =>
      have h1 := ih K (by omega)
      have h2 := round_step E (roundsE E K (startL P a)) (fun e he => by rw [rounds_len, start_len]; exact hP e he) b c m j h1.1
      show 0 ≤ (roundE E _).getD c (-1) ∧ (roundE E _).getD c (-1) ≤ _
      omega
/-- Each length is that of a walk. -/
def Sound (E : List Edge) (a : Nat) (o : List Int) : Prop := ∀ b, o.getD b (-1) = -1 ∨ ∃ n : Nat, o.getD b (-1) = n ∧ Reach E a b n
theorem short_sound {E : List Edge} {a b : Nat} {x y : Int} (hx : x = -1 ∨ ∃ n : Nat, x = n ∧ Reach E a b n) (hy : y = -1 ∨ ∃ n : Nat, y = n ∧ Reach E a b n) : shortI x y = -1 ∨ ∃ n : Nat, shortI x y = n ∧ Reach E a b n := by
  unfold shortI
  split
  · exact hy
  · exact hx
theorem long_sound {E : List Edge} {a b c m : Nat} {x : Int} (hx : x = -1 ∨ ∃ n : Nat, x = n ∧ Reach E a b n) (j : Joined E b c m) : longI x m = -1 ∨ ∃ n : Nat, longI x m = n ∧ Reach E a c n := by
  unfold longI
  rcases hx with rfl | ⟨n, rfl, hr⟩
  · left; simp
  · right
    rw [if_neg (by omega)]
    exact ⟨n + m, by omega, hr.snoc j⟩
theorem set_sound {E : List Edge} {a i : Nat} {o : List Int} {v : Int} (h : Sound E a o) (hv : v = -1 ∨ ∃ n : Nat, v = n ∧ Reach E a i n) : Sound E a (o.set i v) := by
  intro b
  rw [getD_set]
  split
  · rename_i hb
    obtain ⟨rfl, _⟩ := hb
    exact hv
  · exact h b
theorem relax_sound {E : List Edge} {a : Nat} {o : List Int} (h : Sound E a o) {e : Edge} (he : e ∈ E) : Sound E a (relaxE o e) := by
  obtain ⟨u, v, m⟩ := e
  have h1 := set_sound h (short_sound (h v) (long_sound (h u) (.inl he : Joined E u v m)))
  exact set_sound h1 (short_sound (h1 u) (long_sound (h1 v) (.inr he : Joined E v u m)))
theorem round_sound {E : List Edge} {a : Nat} : ∀ (F : List Edge) (o : List Int), (∀ e ∈ F, e ∈ E) → Sound E a o → Sound E a (roundE F o)
  | [], o, _, h => h
  | e :: F, o, hF, h => round_sound F _ (fun f hf => hF f (by simp [hf])) (relax_sound h (hF e (by simp)))
theorem start_sound (E : List Edge) (P a : Nat) : Sound E a (startL P a) := by
  refine set_sound (fun b => .inl ?_) (.inr ⟨0, rfl, .nil⟩)
  rw [List.getD_eq_getElem?_getD, List.getElem?_replicate]
  split <;> rfl
theorem rounds_sound (E : List Edge) (P a : Nat) : ∀ k, Sound E a (roundsE E k (startL P a))
  | 0 => start_sound E P a
  | k + 1 => round_sound E _ (fun _ h => h) (rounds_sound E P a k)
/-- The document's own way: as often as there are places. -/
theorem rounds_dist {E : List Edge} (hE : Longs E) {P : Nat} (hP : Among P E) {a : Nat} (ha : a < P) (b : Nat) : (roundsE E P (startL P a)).getD b (-1) = distI E a b := by
  rcases rounds_sound E P a P b with h | ⟨n, h, hr⟩
  · rw [h]
    rcases distI_cases E a b with ⟨h1, h2⟩ | ⟨m, h1, h2⟩
    · exact h2.symm
    · obtain ⟨k, hw, hk⟩ := dist_walk hE hP h1
      have := rounds_walk hP ha hw P hk
      omega
  · obtain ⟨m, h1, h2⟩ := dist_le hr
    obtain ⟨k, hw, hk⟩ := dist_walk hE hP h1
    have := rounds_walk hP ha hw P hk
    rw [distI_some h1]
    omega
theorem rounds_list {E : List Edge} (hE : Longs E) {P : Nat} (hP : Among P E) {a : Nat} (ha : a < P) : roundsE E P (startL P a) = (List.range P).map (distI E a) := by
  apply List.ext_getElem
  · rw [rounds_len, start_len]; simp
  · intro b h1 h2
    have := rounds_dist hE hP ha b
    rw [List.getD_eq_getElem?_getD, List.getElem?_eq_getElem h1, Option.getD_some] at this
    rw [this]
    simp
/-! ### The last way -/
def lastE (row : List Int) (least : List Int) (e : Edge) : List Int :=
  let o := least.set e.2.1 (shortI (least.getD e.2.1 (-1)) (longI (row.getD e.1 (-1)) e.2.2))
  o.set e.1 (shortI (o.getD e.1 (-1)) (longI (row.getD e.2.1 (-1)) e.2.2))
theorem last_le (row o : List Int) (e : Edge) : LeL o (lastE row o e) := (set_le o _ _).trans (set_le _ _ _)
theorem last_len (row o : List Int) (e : Edge) : (lastE row o e).length = o.length := by simp [lastE]
theorem lasts_le (row : List Int) : ∀ (F : List Edge) (o : List Int), LeL o (F.foldl (lastE row) o)
  | [], o => LeL.refl o
  | e :: F, o => (last_le row o e).trans (lasts_le row F _)
theorem lasts_sound {E : List Edge} {a : Nat} {row : List Int} (hrow : Sound E a row) : ∀ (F : List Edge) (o : List Int), (∀ e ∈ F, e ∈ E) → Sound E a o → Sound E a (F.foldl (lastE row) o)
  | [], o, _, h => h
  | (u, v, m) :: F, o, hF, h => by
    have he : (u, v, m) ∈ E := hF _ (by simp)
    refine lasts_sound hrow F _ (fun f hf => hF f (by simp [hf])) ?_
    have h1 := set_sound h (short_sound (h v) (long_sound (hrow u) (.inl he : Joined E u v m)))
    exact set_sound h1 (short_sound (h1 u) (long_sound (hrow v) (.inr he : Joined E v u m)))
theorem last_step : ∀ (E : List Edge) (row o : List Int), (∀ e ∈ E, e.1 < o.length ∧ e.2.1 < o.length) → ∀ b c m, Joined E b c m → 0 ≤ row.getD b (-1) → 0 ≤ (E.foldl (lastE row) o).getD c (-1) ∧ (E.foldl (lastE row) o).getD c (-1) ≤ row.getD b (-1) + m
  | [], row, o, _, b, c, m, j, _ => by
    rcases j with j | j <;> simp at j
  | (u, v, q) :: E, row, o, hE, b, c, m, j, h => by
    have hlen : ∀ f ∈ E, f.1 < (lastE row o (u, v, q)).length ∧ f.2.1 < (lastE row o (u, v, q)).length := fun f hf => by rw [last_len]; exact hE f (by simp [hf])
    have h0 := hE (u, v, q) (by simp)
    simp only at h0
    show 0 ≤ (E.foldl (lastE row) (lastE row o (u, v, q))).getD c (-1) ∧ (E.foldl (lastE row) (lastE row o (u, v, q))).getD c (-1) ≤ _
    have there : 0 ≤ row.getD u (-1) → 0 ≤ (lastE row o (u, v, q)).getD v (-1) ∧ (lastE row o (u, v, q)).getD v (-1) ≤ row.getD u (-1) + q := by
      intro hu
      have h1 : 0 ≤ (o.set v (shortI (o.getD v (-1)) (longI (row.getD u (-1)) q))).getD v (-1) ∧ (o.set v (shortI (o.getD v (-1)) (longI (row.getD u (-1)) q))).getD v (-1) ≤ row.getD u (-1) + q := by
        rw [getD_set, if_pos ⟨rfl, h0.2⟩]
        exact short_long q hu
      have h2 := set_le (o.set v (shortI (o.getD v (-1)) (longI (row.getD u (-1)) q))) u (longI (row.getD v (-1)) q) v h1.1
      unfold lastE
      simp only
      omega
    have back : 0 ≤ row.getD v (-1) → 0 ≤ (lastE row o (u, v, q)).getD u (-1) ∧ (lastE row o (u, v, q)).getD u (-1) ≤ row.getD v (-1) + q := by
      intro hv
      unfold lastE
      simp only
      rw [getD_set, if_pos ⟨rfl, by rw [List.length_set]; exact h0.1⟩]
      exact short_long q hv
    have first : ((b, c, m) : Edge) = (u, v, q) ∨ ((c, b, m) : Edge) = (u, v, q) ∨ Joined E b c m := by
      rcases j with j | j
      · rcases List.mem_cons.1 j with j | j
        · exact .inl j
        · exact .inr (.inr (.inl j))
      · rcases List.mem_cons.1 j with j | j
        · exact .inr (.inl j)
        · exact .inr (.inr (.inr j))
    rcases first with e | e | j
    · simp only [Prod.mk.injEq] at e
      obtain ⟨rfl, rfl, rfl⟩ := e
      have h1 := there h
      have h2 := lasts_le row E _ c h1.1
      omega
    · simp only [Prod.mk.injEq] at e
      obtain ⟨rfl, rfl, rfl⟩ := e
      have h1 := back h
      have h2 := lasts_le row E _ c h1.1
      omega
    · exact last_step E row _ hlen b c m j h
theorem row_sound {E : List Edge} {a : Nat} {row : List Int} {P : Nat} (hr : row = (List.range P).map (distI E a)) : Sound E a row := by
  intro b
  subst hr
  by_cases hb : b < P
  · have e : ((List.range P).map (distI E a)).getD b (-1) = distI E a b := by simp [List.getD, hb]
    rw [e]
    rcases distI_cases E a b with ⟨h1, h2⟩ | ⟨n, h1, h2⟩
    · exact .inl h2
    · exact .inr ⟨n, h2, (dist_some.1 h1).1⟩
  · left
    rw [List.getD_eq_getElem?_getD, List.getElem?_eq_none (by simpa using hb)]
    rfl
/-- WayLast. -/
theorem last_dist {E : List Edge} (hE : Longs E) {P : Nat} (hP : Among P E) {a : Nat} (ha : a < P) {row : List Int} (hr : row = (List.range P).map (distI E a)) : E.foldl (lastE row) (startL P a) = row := by
  have hrow : ∀ b, b < P → row.getD b (-1) = distI E a b := fun b hb => by rw [hr]; simp [List.getD, hb]
  have hs := lasts_sound (row_sound hr) E (startL P a) (fun _ h => h) (start_sound E P a)
  have hl : (E.foldl (lastE row) (startL P a)).length = P := by
    have : ∀ (F : List Edge) (o : List Int), (F.foldl (lastE row) o).length = o.length := by
      intro F
      induction F with
      | nil => intro o; rfl
      | cons e F ih => intro o; show (F.foldl (lastE row) (lastE row o e)).length = _; rw [ih, last_len]
    rw [this, start_len]
  have all : ∀ b, b < P → (E.foldl (lastE row) (startL P a)).getD b (-1) = distI E a b := by
    intro b hb
    have lower : ∀ n : Nat, (E.foldl (lastE row) (startL P a)).getD b (-1) = n → ∃ m : Nat, distI E a b = m ∧ m ≤ n := by
      intro n hn
      rcases hs b with h | ⟨k, h, hk⟩
      · omega
      · obtain ⟨m, h1, h2⟩ := dist_le hk
        exact ⟨m, distI_some h1, by omega⟩
    have upper : ∀ n : Nat, distI E a b = n → 0 ≤ (E.foldl (lastE row) (startL P a)).getD b (-1) ∧ (E.foldl (lastE row) (startL P a)).getD b (-1) ≤ n := by
      intro n hn
      by_cases hab : a = b
      · subst hab
        have h0 : (startL P a).getD a (-1) = 0 := by unfold startL; rw [getD_set, if_pos ⟨rfl, by simpa using ha⟩]
        have := lasts_le row E (startL P a) a (by omega)
        omega
      · rcases distI_cases E a b with ⟨h1, h2⟩ | ⟨m, h1, h2⟩
        · omega
        · obtain ⟨u, q, p, j, hu, rfl, hlt⟩ := dist_last hE h1 hab
          have huP : u < P := by
            rcases j with j | j
            · exact (hP _ j).1
            · exact (hP _ j).2
          have hru : row.getD u (-1) = (p : Int) := by rw [hrow u huP, distI_some hu]
          have := last_step E row (startL P a) (fun e he => by rw [start_len]; exact hP e he) u b q j (by omega)
          omega
    rcases hs b with h | ⟨k, h, hk⟩
    · rw [h]
      rcases distI_cases E a b with ⟨h1, h2⟩ | ⟨m, h1, h2⟩
      · exact h2.symm
      · have := upper m h2; omega
    · obtain ⟨m, h1, h2⟩ := lower k h
      have := upper m h1
      omega
  apply List.ext_getElem
  · rw [hl, hr]; simp
  · intro b h1 h2
    have hb : b < P := by omega
    have e1 := all b hb
    have e2 := hrow b hb
    rw [List.getD_eq_getElem?_getD, List.getElem?_eq_getElem h1, Option.getD_some] at e1
    rw [List.getD_eq_getElem?_getD, List.getElem?_eq_getElem h2, Option.getD_some] at e2
    rw [e1, e2]
end Go.Proofs.Ytcnekicfblbafaa
