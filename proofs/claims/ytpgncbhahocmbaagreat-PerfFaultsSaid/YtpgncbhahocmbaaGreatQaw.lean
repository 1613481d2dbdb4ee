/-
  Least lengths of walks. No program here.
  Least lengths by places one after the other (each place as one that walks go by). No program here.
  Goals: ratios reckoned one after the other, and what they are worth. No program here.
  goal.Of's closures: what is wrong is kept.
-/
import Derived.Test.YtpgncbhahocmbaaGreatQaa
import Derived.Test.YtpgncbhahocmbaaGreatQak
import Derived.Test.YtpgncbhahocmbaaGreatQad
import Derived.Lib.Hide
import Derived.Deep.RegionHeld3
import Derived.Test.YtpgncbhahocmbaaGreatQab
namespace Go.Proofs.YtpgncbhahocmbaaGreat
set_option linter.unusedVariables false
set_option linter.unusedSimpArgs false

abbrev Edge := Nat × Nat × Nat
/-- A way joins b with c, and is m long. -/
def Joined (E : List Edge) (b c m : Nat) : Prop := (b, c, m) ∈ E ∨ (c, b, m) ∈ E
theorem Joined.turn {E : List Edge} {b c m : Nat} (h : Joined E b c m) : Joined E c b m := h.symm
/-- A walk from a, of k ways, n long. -/
inductive WalkN (E : List Edge) (a : Nat) : Nat → Nat → Nat → Prop
  | nil : WalkN E a a 0 0
  | snoc {b c m k n : Nat} : WalkN E a b k n → Joined E b c m → WalkN E a c (k + 1) (n + m)
def Reach (E : List Edge) (a b n : Nat) : Prop := ∃ k, WalkN E a b k n
section
variable {E : List Edge} {a b c n m : Nat}
theorem Reach.nil : Reach E a a 0 := ⟨0, .nil⟩
theorem Reach.snoc (h : Reach E a b n) (j : Joined E b c m) : Reach E a c (n + m) := by
  obtain ⟨k, h⟩ := h
  exact ⟨k + 1, .snoc h j⟩
theorem Reach.trans (h : Reach E a b n) (h' : Reach E b c m) : Reach E a c (n + m) := by
  obtain ⟨k, h'⟩ := h'
  induction h' with
  | nil => exact h
  | snoc _ j ih => rw [← Nat.add_assoc]; exact ih.snoc j
theorem Reach.turn (h : Reach E a b n) : Reach E b a n := by
  obtain ⟨k, h⟩ := h
  induction h with
  | nil => exact .nil
  | @snoc x y m k n _ j ih =>
    have q : Reach E y x m := by
      have := Reach.nil.snoc (a := y) j.turn
      rwa [Nat.zero_add] at this
    rw [Nat.add_comm]
    exact q.trans ih
theorem Reach.more (h : Reach E a b n) {F : List Edge} (hF : ∀ e ∈ E, e ∈ F) : Reach F a b n := by
  obtain ⟨k, h⟩ := h
  induction h with
  | nil => exact .nil
  | snoc _ j ih => exact ih.snoc (j.elim (fun q => .inl (hF _ q)) (fun q => .inr (hF _ q)))
end
theorem exists_least (p : Nat → Prop) : ∀ n, p n → ∃ n, p n ∧ ∀ m, p m → n ≤ m := by
  intro n
  induction n using Nat.strongRecOn with
  | _ n ih =>
    intro hn
    by_cases h : ∃ m, m < n ∧ p m
    · obtain ⟨m, h1, h2⟩ := h
      exact ih m h1 h2
    · refine ⟨n, hn, fun m hm => ?_⟩
      rcases Nat.lt_or_ge m n with q | q
      · exact absurd ⟨m, q, hm⟩ h
      · exact q
open Classical in
/-- How far. -/
noncomputable def distO (E : List Edge) (a b : Nat) : Option Nat :=
  if h : ∃ n, Reach E a b n ∧ ∀ m, Reach E a b m → n ≤ m then some (Classical.choose h) else none
theorem dist_some {E : List Edge} {a b n : Nat} : distO E a b = some n ↔ Reach E a b n ∧ ∀ m, Reach E a b m → n ≤ m := by
  unfold distO
  constructor
  · intro h
    split at h
    · rename_i hx
      injection h with h
      rw [← h]
      exact Classical.choose_spec hx
    · cases h
  · intro h
    have hx : ∃ n, Reach E a b n ∧ ∀ m, Reach E a b m → n ≤ m := ⟨n, h⟩
    rw [dif_pos hx]
    have := Classical.choose_spec hx
    congr 1
    exact Nat.le_antisymm (this.2 _ h.1) (h.2 _ this.1)
theorem dist_none {E : List Edge} {a b : Nat} : distO E a b = none ↔ ∀ n, ¬ Reach E a b n := by
  constructor
  · intro h n hn
    obtain ⟨m, hm⟩ := exists_least (Reach E a b) n hn
    rw [dist_some.2 hm] at h
    cases h
  · intro h
    cases hd : distO E a b with
    | none => rfl
    | some n => exact absurd (dist_some.1 hd).1 (h n)
theorem dist_le {E : List Edge} {a b n : Nat} (h : Reach E a b n) : ∃ m, distO E a b = some m ∧ m ≤ n := by
  cases hd : distO E a b with
  | none => exact absurd h (dist_none.1 hd n)
  | some m => exact ⟨m, rfl, (dist_some.1 hd).2 n h⟩
theorem dist_self (E : List Edge) (a : Nat) : distO E a a = some 0 := dist_some.2 ⟨.nil, fun m _ => Nat.zero_le m⟩
/-- All ways are 1 long, or longer. -/
def Longs (E : List Edge) : Prop := ∀ e ∈ E, 1 ≤ e.2.2
theorem Joined.long {E : List Edge} (hE : Longs E) {b c m : Nat} (h : Joined E b c m) : 1 ≤ m := by
  rcases h with h | h
  · exact hE _ h
  · exact hE _ h
/-- The last way of a least walk. -/
theorem dist_last {E : List Edge} (hE : Longs E) {a b n : Nat} (h : distO E a b = some n) (hab : a ≠ b) : ∃ u m p, Joined E u b m ∧ distO E a u = some p ∧ n = p + m ∧ p < n := by
  obtain ⟨⟨k, hw⟩, hl⟩ := dist_some.1 h
  cases hw with
  | nil => exact absurd rfl hab
  | @snoc u _ m _ p w j =>
    obtain ⟨q, hq, hle⟩ := dist_le (⟨_, w⟩ : Reach E a u p)
    have := hl _ ((dist_some.1 hq).1.snoc j)
    have hm := j.long hE
    obtain rfl : q = p := by omega
    exact ⟨u, m, q, j, hq, rfl, by omega⟩
/-! ### No farther than all ways together -/
theorem sum_filter_more (p q : Edge → Bool) (hpq : ∀ e, p e = true → q e = true) : ∀ (E : List Edge) (e : Edge), e ∈ E → p e = false → q e = true → ((E.filter p).map fun e => e.2.2).sum + e.2.2 ≤ ((E.filter q).map fun e => e.2.2).sum
  | [], e, h, _, _ => by simp at h
  | x :: E, e, h, hp, hq => by
    have mono : ∀ F : List Edge, ((F.filter p).map fun e => e.2.2).sum ≤ ((F.filter q).map fun e => e.2.2).sum := by
      intro F
      induction F with
      | nil => simp
      | cons y F ih =>
        by_cases h1 : p y = true
        · rw [List.filter_cons_of_pos h1, List.filter_cons_of_pos (hpq y h1)]
          simp only [List.map_cons, List.sum_cons]
          omega
        · rw [List.filter_cons_of_neg h1]
          by_cases h2 : q y = true
          · rw [List.filter_cons_of_pos h2]
            simp only [List.map_cons, List.sum_cons]
            omega
          · rw [List.filter_cons_of_neg h2]
            exact ih
    rcases List.mem_cons.1 h with rfl | h
    · rw [List.filter_cons_of_neg (by rw [hp]; simp), List.filter_cons_of_pos hq]
      simp only [List.map_cons, List.sum_cons]
      have := mono E
      omega
    · have ih := sum_filter_more p q hpq E e h hp hq
      by_cases h1 : p x = true
      · rw [List.filter_cons_of_pos h1, List.filter_cons_of_pos (hpq x h1)]
        simp only [List.map_cons, List.sum_cons]
        omega
      · rw [List.filter_cons_of_neg h1]
        by_cases h2 : q x = true
        · rw [List.filter_cons_of_pos h2]
          simp only [List.map_cons, List.sum_cons]
          omega
        · rw [List.filter_cons_of_neg h2]
          exact ih
theorem sum_filter_le (p : Edge → Bool) : ∀ F : List Edge, ((F.filter p).map fun e => e.2.2).sum ≤ (F.map fun e => e.2.2).sum
  | [] => by simp
  | y :: F => by
    have := sum_filter_le p F
    by_cases h1 : p y = true
    · rw [List.filter_cons_of_pos h1]
      simp only [List.map_cons, List.sum_cons]
      omega
    · rw [List.filter_cons_of_neg h1]
      simp only [List.map_cons, List.sum_cons]
      omega
open Classical in
/-- No farther than n. -/
noncomputable def nearB (E : List Edge) (a n x : Nat) : Bool := decide (∃ m, distO E a x = some m ∧ m ≤ n)
theorem near_iff {E : List Edge} {a n x : Nat} : nearB E a n x = true ↔ ∃ m, distO E a x = some m ∧ m ≤ n := by
  unfold nearB
  exact decide_eq_true_iff
theorem dist_sum_at {E : List Edge} (hE : Longs E) (a : Nat) : ∀ n b, distO E a b = some n → n ≤ ((E.filter fun e => nearB E a n e.1 && nearB E a n e.2.1).map fun e => e.2.2).sum := by
  intro n
  induction n using Nat.strongRecOn with
  | _ n ih =>
    intro b hb
    by_cases hab : a = b
    · subst hab
      rw [dist_self] at hb
      injection hb with hb
      omega
    · obtain ⟨u, m, p, j, hu, rfl, hlt⟩ := dist_last hE hb hab
      have h1 := ih p hlt u hu
      have nu : nearB E a (p + m) u = true := near_iff.2 ⟨p, hu, by omega⟩
      have nb : nearB E a (p + m) b = true := near_iff.2 ⟨p + m, hb, Nat.le_refl _⟩
      have fb : nearB E a p b = false := by
        cases hq : nearB E a p b with
        | false => rfl
        | true =>
          obtain ⟨q, h2, h3⟩ := near_iff.1 hq
          rw [hb] at h2
          injection h2 with h2
          omega
      have mono : ∀ e : Edge, (nearB E a p e.1 && nearB E a p e.2.1) = true → (nearB E a (p + m) e.1 && nearB E a (p + m) e.2.1) = true := by
        intro e he
        simp only [Bool.and_eq_true] at he ⊢
        obtain ⟨q1, h2, h3⟩ := near_iff.1 he.1
        obtain ⟨q2, h4, h5⟩ := near_iff.1 he.2
        exact ⟨near_iff.2 ⟨q1, h2, by omega⟩, near_iff.2 ⟨q2, h4, by omega⟩⟩
      rcases j with j | j
      · have := sum_filter_more (fun e => nearB E a p e.1 && nearB E a p e.2.1) (fun e => nearB E a (p + m) e.1 && nearB E a (p + m) e.2.1) mono E (u, b, m) j (by simp [fb]) (by simp [nu, nb])
        simp only at this
        omega
      · have := sum_filter_more (fun e => nearB E a p e.1 && nearB E a p e.2.1) (fun e => nearB E a (p + m) e.1 && nearB E a (p + m) e.2.1) mono E (b, u, m) j (by simp [fb]) (by simp [nu, nb])
        simp only at this
        omega
theorem dist_sum {E : List Edge} (hE : Longs E) {a b n : Nat} (h : distO E a b = some n) : n ≤ (E.map fun e => e.2.2).sum :=
  Nat.le_trans (dist_sum_at hE a n b h) (sum_filter_le _ E)
/-! ### Walks of few ways -/
theorem count_more (p q : Nat → Bool) (hpq : ∀ x, p x = true → q x = true) (P u : Nat) (hu : u < P) (hp : p u = false) (hq : q u = true) : ((List.range P).filter p).length + 1 ≤ ((List.range P).filter q).length := by
  induction P with
  | zero => omega
  | succ P ih =>
    rw [List.range_succ, List.filter_append, List.filter_append, List.length_append, List.length_append]
    have mono : ((List.range P).filter p).length ≤ ((List.range P).filter q).length := by
      clear ih hu
      induction P with
      | zero => simp
      | succ P ih =>
        rw [List.range_succ, List.filter_append, List.filter_append, List.length_append, List.length_append]
        by_cases h1 : p P = true
        · simp [h1, hpq P h1]; omega
        · simp only [List.filter_cons, h1, List.filter_nil]
          simp
          omega
    by_cases hPu : u = P
    · subst hPu
      simp [hp, hq]
      omega
    · have := ih (by omega)
      by_cases h1 : p P = true
      · simp [h1, hpq P h1]; omega
      · simp only [List.filter_cons, h1, List.filter_nil]
        simp
        omega
/-- All ways lie among P places. -/
def Among (P : Nat) (E : List Edge) : Prop := ∀ e ∈ E, e.1 < P ∧ e.2.1 < P
open Classical in
noncomputable def lessB9 (E : List Edge) (a n x : Nat) : Bool := decide (∃ m, distO E a x = some m ∧ m < n)
theorem less9_iff {E : List Edge} {a n x : Nat} : lessB9 E a n x = true ↔ ∃ m, distO E a x = some m ∧ m < n := by
  unfold lessB9
  exact decide_eq_true_iff
theorem dist_few {E : List Edge} (hE : Longs E) {P : Nat} (hP : Among P E) (a : Nat) : ∀ n b, distO E a b = some n → ∃ k, WalkN E a b k n ∧ k ≤ ((List.range P).filter (lessB9 E a n)).length := by
  intro n
  induction n using Nat.strongRecOn with
  | _ n ih =>
    intro b hb
    by_cases hab : a = b
    · subst hab
      rw [dist_self] at hb
      injection hb with hb
      subst hb
      exact ⟨0, .nil, Nat.zero_le _⟩
    · obtain ⟨u, m, p, j, hu, rfl, hlt⟩ := dist_last hE hb hab
      obtain ⟨k, hw, hk⟩ := ih p hlt u hu
      refine ⟨k + 1, .snoc hw j, ?_⟩
      have huP : u < P := by
        rcases j with j | j
        · exact (hP _ j).1
        · exact (hP _ j).2
      have := count_more (lessB9 E a p) (lessB9 E a (p + m)) (fun x hx => by
        obtain ⟨q, h1, h2⟩ := less9_iff.1 hx
        exact less9_iff.2 ⟨q, h1, by omega⟩) P u huP (by
        cases hq : lessB9 E a p u with
        | false => rfl
        | true =>
          obtain ⟨q, h1, h2⟩ := less9_iff.1 hq
          rw [hu] at h1
          injection h1 with h1
          omega) (less9_iff.2 ⟨p, hu, hlt⟩)
      omega
theorem dist_walk {E : List Edge} (hE : Longs E) {P : Nat} (hP : Among P E) {a b n : Nat} (h : distO E a b = some n) : ∃ k, WalkN E a b k n ∧ k ≤ P := by
  obtain ⟨k, hw, hk⟩ := dist_few hE hP a n b h
  refine ⟨k, hw, Nat.le_trans hk ?_⟩
  have := List.length_filter_le (lessB9 E a n) (List.range P)
  rwa [List.length_range] at this
/-! ### A way more -/
/-! ### As numbers, Far below 0 -/
noncomputable def distI (E : List Edge) (a b : Nat) : Int := match distO E a b with
  | none => -1
  | some n => n
theorem distI_some {E : List Edge} {a b n : Nat} (h : distO E a b = some n) : distI E a b = n := by unfold distI; rw [h]
theorem distI_none {E : List Edge} {a b : Nat} (h : distO E a b = none) : distI E a b = -1 := by unfold distI; rw [h]
theorem distI_cases (E : List Edge) (a b : Nat) : (distO E a b = none ∧ distI E a b = -1) ∨ ∃ n, distO E a b = some n ∧ distI E a b = (n : Int) := by
  cases h : distO E a b with
  | none => exact .inl ⟨rfl, distI_none h⟩
  | some n => exact .inr ⟨n, rfl, distI_some h⟩
theorem distI_ge (E : List Edge) (a b : Nat) : -1 ≤ distI E a b := by
  rcases distI_cases E a b with ⟨h1, h2⟩ | ⟨n, h1, h2⟩ <;> omega
theorem distI_sum {E : List Edge} (hE : Longs E) (a b : Nat) : distI E a b ≤ ((E.map fun e => e.2.2).sum : Nat) := by
  rcases distI_cases E a b with ⟨h1, h2⟩ | ⟨n, h1, h2⟩
  · omega
  · have := dist_sum hE h1; omega
/-- The lesser length; one below 0 is none. -/
def shortI (a b : Int) : Int := if a < 0 ∨ (0 ≤ b ∧ b < a) then b else a
def longI (n : Int) (m : Nat) : Int := if n < 0 then n else n + m
/-! ### One way after the other -/
def relaxE (out : List Int) (e : Edge) : List Int :=
  let o := out.set e.2.1 (shortI (out.getD e.2.1 (-1)) (longI (out.getD e.1 (-1)) e.2.2))
  o.set e.1 (shortI (o.getD e.1 (-1)) (longI (o.getD e.2.1 (-1)) e.2.2))
def roundE (E : List Edge) (out : List Int) : List Int := E.foldl relaxE out
def roundsE (E : List Edge) : Nat → List Int → List Int
  | 0, out => out
  | k + 1, out => roundE E (roundsE E k out)
def startL (P a : Nat) : List Int := (List.replicate P (-1)).set a 0
theorem getD_set (l : List Int) (i j : Nat) (v : Int) : (l.set i v).getD j (-1) = if i = j ∧ i < l.length then v else l.getD j (-1) := by
  rw [List.getD_eq_getElem?_getD, List.getD_eq_getElem?_getD, List.getElem?_set]
  by_cases h : i = j
  · subst h
    by_cases h2 : i < l.length
    · rw [if_pos rfl, if_pos h2, if_pos ⟨rfl, h2⟩]; rfl
    · rw [if_pos rfl, if_neg h2, if_neg (by omega), List.getElem?_eq_none (by omega)]
  · rw [if_neg h, if_neg (by omega)]
theorem relax_len (out : List Int) (e : Edge) : (relaxE out e).length = out.length := by simp [relaxE]
theorem round_len (E : List Edge) : ∀ out : List Int, (roundE E out).length = out.length := by
  induction E with
  | nil => intro out; rfl
  | cons e E ih => intro out; show (roundE E (relaxE out e)).length = _; rw [ih, relax_len]
theorem rounds_len (E : List Edge) (k : Nat) (out : List Int) : (roundsE E k out).length = out.length := by
  induction k with
  | zero => rfl
  | succ k ih => show (roundE E _).length = _; rw [round_len, ih]
/-- No length is more than it was. -/
def LeL (o o' : List Int) : Prop := ∀ b, 0 ≤ o.getD b (-1) → 0 ≤ o'.getD b (-1) ∧ o'.getD b (-1) ≤ o.getD b (-1)
theorem LeL.refl (o : List Int) : LeL o o := fun b h => ⟨h, Int.le_refl _⟩
theorem LeL.trans {o o' o'' : List Int} (h : LeL o o') (h' : LeL o' o'') : LeL o o'' := fun b hb => by
  have h1 := h b hb
  have h2 := h' b h1.1
  omega
theorem set_le (o : List Int) (i : Nat) (v : Int) : LeL o (o.set i (shortI (o.getD i (-1)) v)) := by
  intro b hb
  rw [getD_set]
  split
  · rename_i h
    obtain ⟨rfl, _⟩ := h
    unfold shortI
    split <;> omega
  · omega
theorem relax_le (o : List Int) (e : Edge) : LeL o (relaxE o e) := (set_le o _ _).trans (set_le _ _ _)
theorem round_le (E : List Edge) : ∀ o : List Int, LeL o (roundE E o) := by
  induction E with
  | nil => intro o; exact LeL.refl o
  | cons e E ih => intro o; exact (relax_le o e).trans (ih _)
theorem short_long {x y : Int} (m : Nat) (h : 0 ≤ x) : 0 ≤ shortI y (longI x m) ∧ shortI y (longI x m) ≤ x + m := by
  have e : longI x m = x + m := by unfold longI; rw [if_neg (by omega)]
  rw [e]
  unfold shortI
  split <;> omega
/-- What is joined is reached within the round. -/
theorem relax_there {o : List Int} {u v m : Nat} (hv : v < o.length) (h : 0 ≤ o.getD u (-1)) : 0 ≤ (relaxE o (u, v, m)).getD v (-1) ∧ (relaxE o (u, v, m)).getD v (-1) ≤ o.getD u (-1) + m := by
  have h1 : 0 ≤ (o.set v (shortI (o.getD v (-1)) (longI (o.getD u (-1)) m))).getD v (-1) ∧ (o.set v (shortI (o.getD v (-1)) (longI (o.getD u (-1)) m))).getD v (-1) ≤ o.getD u (-1) + m := by
    rw [getD_set, if_pos ⟨rfl, hv⟩]
    exact short_long m h
  have h2 := set_le (o.set v (shortI (o.getD v (-1)) (longI (o.getD u (-1)) m))) u (longI ((o.set v (shortI (o.getD v (-1)) (longI (o.getD u (-1)) m))).getD v (-1)) m) v h1.1
  unfold relaxE
  simp only
  omega
theorem relax_back {o : List Int} {u v m : Nat} (hu : u < o.length) (h : 0 ≤ o.getD v (-1)) : 0 ≤ (relaxE o (u, v, m)).getD u (-1) ∧ (relaxE o (u, v, m)).getD u (-1) ≤ o.getD v (-1) + m := by
  have h1 := set_le o v (longI (o.getD u (-1)) m) v h
  have hl : (o.set v (shortI (o.getD v (-1)) (longI (o.getD u (-1)) m))).length = o.length := List.length_set
  unfold relaxE
  simp only
  generalize o.set v (shortI (o.getD v (-1)) (longI (o.getD u (-1)) m)) = p at *
  rw [getD_set, if_pos ⟨rfl, by omega⟩]
  have := short_long (y := p.getD u (-1)) m h1.1
  omega
theorem round_step : ∀ (E : List Edge) (o : List Int), (∀ e ∈ E, e.1 < o.length ∧ e.2.1 < o.length) → ∀ b c m, Joined E b c m → 0 ≤ o.getD b (-1) → 0 ≤ (roundE E o).getD c (-1) ∧ (roundE E o).getD c (-1) ≤ o.getD b (-1) + m
  | [], o, _, b, c, m, j, _ => by
    rcases j with j | j <;> simp at j
  | e :: E, o, hE, b, c, m, j, h => by
    have hlen : ∀ f ∈ E, f.1 < (relaxE o e).length ∧ f.2.1 < (relaxE o e).length := fun f hf => by rw [relax_len]; exact hE f (by simp [hf])
    have h0 := hE e (by simp)
    have first : (b, c, m) = e ∨ (c, b, m) = e ∨ Joined E b c m := by
      rcases j with j | j
      · rcases List.mem_cons.1 j with j | j
        · exact .inl j
        · exact .inr (.inr (.inl j))
      · rcases List.mem_cons.1 j with j | j
        · exact .inr (.inl j)
        · exact .inr (.inr (.inr j))
    show 0 ≤ (roundE E (relaxE o e)).getD c (-1) ∧ (roundE E (relaxE o e)).getD c (-1) ≤ _
    rcases first with rfl | rfl | j
    · have h1 := relax_there (o := o) (u := b) (v := c) (m := m) h0.2 h
      have h2 := round_le E _ c h1.1
      omega
    · have h1 := relax_back (o := o) (u := c) (v := b) (m := m) h0.1 h
      have h2 := round_le E _ c h1.1
      omega
    · have h1 := relax_le o e b h
      have h2 := round_step E (relaxE o e) hlen b c m j h1.1
      omega
theorem start_len (P a : Nat) : (startL P a).length = P := by simp [startL]
theorem rounds_walk {E : List Edge} {P a : Nat} (hP : Among P E) (ha : a < P) : ∀ {b k n : Nat}, WalkN E a b k n → ∀ K, k ≤ K → 0 ≤ (roundsE E K (startL P a)).getD b (-1) ∧ (roundsE E K (startL P a)).getD b (-1) ≤ (n : Int) := by
  intro b k n hw
  induction hw with
  | nil =>
    intro K _
    induction K with
    | zero =>
      have e : (roundsE E 0 (startL P a)).getD a (-1) = 0 := by
        show (startL P a).getD a (-1) = 0
        unfold startL
        rw [getD_set, if_pos ⟨rfl, by simpa using ha⟩]
      rw [e]
      simp
    | succ K ih =>
      replace ih := ih (Nat.zero_le _)
      have := round_le E (roundsE E K (startL P a)) a ih.1
      show 0 ≤ (roundE E _).getD a (-1) ∧ (roundE E _).getD a (-1) ≤ _
      omega
  | @snoc b c m k n _ j ih =>
    intro K hK
    cases K with
    | zero => omega
    | succ K =>
      have h1 := ih K (by omega)
      have h2 := round_step E (roundsE E K (startL P a)) (fun e he => by rw [rounds_len, start_len]; exact hP e he) b c m j h1.1
      show 0 ≤ (roundE E _).getD c (-1) ∧ (roundE E _).getD c (-1) ≤ _
      omega
/-- Each length is that of a walk. -/
def Sound (E : List Edge) (a : Nat) (o : List Int) : Prop := ∀ b, o.getD b (-1) = -1 ∨ ∃ n : Nat, o.getD b (-1) = n ∧ Reach E a b n
theorem short_sound {E : List Edge} {a b : Nat} {x y : Int} (hx : x = -1 ∨ ∃ n : Nat, x = n ∧ Reach E a b n) (hy : y = -1 ∨ ∃ n : Nat, y = n ∧ Reach E a b n) : shortI x y = -1 ∨ ∃ n : Nat, shortI x y = n ∧ Reach E a b n := by
  unfold shortI
  split
  · exact hy
  · exact hx
theorem long_sound {E : List Edge} {a b c m : Nat} {x : Int} (hx : x = -1 ∨ ∃ n : Nat, x = n ∧ Reach E a b n) (j : Joined E b c m) : longI x m = -1 ∨ ∃ n : Nat, longI x m = n ∧ Reach E a c n := by
  unfold longI
  rcases hx with rfl | ⟨n, rfl, hr⟩
  · left; simp
  · right
    rw [if_neg (by omega)]
    exact ⟨n + m, by omega, hr.snoc j⟩
theorem set_sound {E : List Edge} {a i : Nat} {o : List Int} {v : Int} (h : Sound E a o) (hv : v = -1 ∨ ∃ n : Nat, v = n ∧ Reach E a i n) : Sound E a (o.set i v) := by
  intro b
  rw [getD_set]
  split
  · rename_i hb
    obtain ⟨rfl, _⟩ := hb
    exact hv
  · exact h b
theorem relax_sound {E : List Edge} {a : Nat} {o : List Int} (h : Sound E a o) {e : Edge} (he : e ∈ E) : Sound E a (relaxE o e) := by
  obtain ⟨u, v, m⟩ := e
  have h1 := set_sound h (short_sound (h v) (long_sound (h u) (.inl he : Joined E u v m)))
  exact set_sound h1 (short_sound (h1 u) (long_sound (h1 v) (.inr he : Joined E v u m)))
theorem round_sound {E : List Edge} {a : Nat} : ∀ (F : List Edge) (o : List Int), (∀ e ∈ F, e ∈ E) → Sound E a o → Sound E a (roundE F o)
  | [], o, _, h => h
  | e :: F, o, hF, h => round_sound F _ (fun f hf => hF f (by simp [hf])) (relax_sound h (hF e (by simp)))
theorem start_sound (E : List Edge) (P a : Nat) : Sound E a (startL P a) := by
  refine set_sound (fun b => .inl ?_) (.inr ⟨0, rfl, .nil⟩)
  rw [List.getD_eq_getElem?_getD, List.getElem?_replicate]
  split <;> rfl
theorem rounds_sound (E : List Edge) (P a : Nat) : ∀ k, Sound E a (roundsE E k (startL P a))
  | 0 => start_sound E P a
  | k + 1 => round_sound E _ (fun _ h => h) (rounds_sound E P a k)
/-- The document's own way: as often as there are places. -/
theorem rounds_dist {E : List Edge} (hE : Longs E) {P : Nat} (hP : Among P E) {a : Nat} (ha : a < P) (b : Nat) : (roundsE E P (startL P a)).getD b (-1) = distI E a b := by
  rcases rounds_sound E P a P b with h | ⟨n, h, hr⟩
  · rw [h]
    rcases distI_cases E a b with ⟨h1, h2⟩ | ⟨m, h1, h2⟩
    · exact h2.symm
    · obtain ⟨k, hw, hk⟩ := dist_walk hE hP h1
      have := rounds_walk hP ha hw P hk
      omega
  · obtain ⟨m, h1, h2⟩ := dist_le hr
    obtain ⟨k, hw, hk⟩ := dist_walk hE hP h1
    have := rounds_walk hP ha hw P hk
    rw [distI_some h1]
    omega
theorem rounds_list {E : List Edge} (hE : Longs E) {P : Nat} (hP : Among P E) {a : Nat} (ha : a < P) : roundsE E P (startL P a) = (List.range P).map (distI E a) := by
  apply List.ext_getElem
  · rw [rounds_len, start_len]; simp
  · intro b h1 h2
    have := rounds_dist hE hP ha b
    rw [List.getD_eq_getElem?_getD, List.getElem?_eq_getElem h1, Option.getD_some] at this
    rw [this]
    simp
/-! ### The last way -/
end Go.Proofs.YtpgncbhahocmbaaGreat

namespace Go.Proofs.YtpgncbhahocmbaaGreat
set_option linter.unusedVariables false
set_option linter.unusedSimpArgs false

/-- How far, by two places; -1 is Far. -/
abbrev TabF := Nat → Nat → Int
/-- Walks that go by places below K alone. -/
inductive Via (E : List Edge) (K a : Nat) : Nat → Nat → Prop
  | nil : Via E K a a 0
  | one {b m : Nat} : Joined E a b m → Via E K a b m
  | snoc {b c n m : Nat} : Via E K a b n → b < K → Joined E b c m → Via E K a c (n + m)
section
variable {E : List Edge} {K P a b n : Nat}
theorem via_split (h : Via E (K + 1) a b n) : (∃ n', Via E K a b n' ∧ n' ≤ n) ∨ ∃ p q, Via E K a K p ∧ Via E K K b q ∧ p + q ≤ n := by
  induction h with
  | nil => exact .inl ⟨0, .nil, Nat.le_refl _⟩
  | one j => exact .inl ⟨_, .one j, Nat.le_refl _⟩
  | @snoc b c n m w hb j ih =>
    by_cases hbK : b = K
    · subst hbK
      rcases ih with ⟨n', h1, h2⟩ | ⟨p, q, h1, h2, h3⟩
      · exact .inr ⟨n', m, h1, .one j, by omega⟩
      · exact .inr ⟨p, m, h1, .one j, by omega⟩
    · rcases ih with ⟨n', h1, h2⟩ | ⟨p, q, h1, h2, h3⟩
      · exact .inl ⟨n' + m, .snoc h1 (by omega) j, by omega⟩
      · exact .inr ⟨p, q + m, h1, .snoc h2 (by omega) j, by omega⟩
theorem via_of_reach (hP : Among P E) (h : Reach E a b n) : Via E P a b n := by
  obtain ⟨k, h⟩ := h
  induction h with
  | nil => exact .nil
  | @snoc b c m k n _ j ih =>
    refine .snoc ih ?_ j
    rcases j with j | j
    · exact (hP _ j).1
    · exact (hP _ j).2
end
def SoundF (E : List Edge) (P : Nat) (t : TabF) : Prop := ∀ x y, x < P → y < P → t x y = -1 ∨ ∃ n : Nat, t x y = n ∧ Reach E x y n
def CompF (E : List Edge) (P K : Nat) (t : TabF) : Prop := ∀ x y n, x < P → y < P → Via E K x y n → 0 ≤ t x y ∧ t x y ≤ (n : Int)
def UnderF (P : Nat) (B : Int) (t : TabF) : Prop := ∀ x y, x < P → y < P → t x y ≤ B
def setF (t : TabF) (a b : Nat) (v : Int) : TabF := fun x y => if x = a ∧ y = b then v else t x y
theorem SoundF.far {E : List Edge} {P : Nat} {t : TabF} (h : SoundF E P t) {x y : Nat} (hx : x < P) (hy : y < P) : t x y = -1 ∨ 0 ≤ t x y := by
  rcases h x y hx hy with e | ⟨n, e, _⟩ <;> omega
theorem SoundF.set {E : List Edge} {P : Nat} {t : TabF} (h : SoundF E P t) {a b : Nat} {v : Nat} (hr : Reach E a b v) : SoundF E P (setF t a b v) := by
  intro x y hx hy
  unfold setF
  by_cases e : x = a ∧ y = b
  · rw [if_pos e]
    obtain ⟨rfl, rfl⟩ := e
    exact .inr ⟨v, rfl, hr⟩
  · rw [if_neg e]
    exact h x y hx hy
theorem fw_done {E : List Edge} {P a b : Nat} {t : TabF} (hP : Among P E) (hs : SoundF E P t) (hc : CompF E P P t) (ha : a < P) (hb : b < P) : t a b = distI E a b := by
  rcases distI_cases E a b with ⟨h1, h2⟩ | ⟨n, h1, h2⟩
  · rw [h2]
    rcases hs a b ha hb with e | ⟨n, e, hr⟩
    · exact e
    · exact absurd hr (dist_none.1 h1 n)
  · rw [h2]
    obtain ⟨hr, hl⟩ := dist_some.1 h1
    have := hc a b n ha hb (via_of_reach hP hr)
    rcases hs a b ha hb with e | ⟨m, e, hr'⟩
    · omega
    · have := hl m hr'
      omega
/-! ### The ways, one after the other -/
structure WaysF (E : List Edge) (P i : Nat) (t : TabF) : Prop where
  sound : SoundF E P t
  sym : ∀ x y, t x y = t y x
  self : ∀ x, x < P → t x x = 0
  under : UnderF P 10000 t
  done : ∀ e ∈ E.take i, 0 ≤ t e.1 e.2.1 ∧ t e.1 e.2.1 ≤ (e.2.2 : Int)
def startF : TabF := fun x y => if x = y then 0 else -1
theorem ways_start (E : List Edge) (P : Nat) : WaysF E P 0 startF := by
  refine ⟨fun x y hx hy => ?_, fun x y => ?_, fun x hx => if_pos rfl, fun x y hx hy => ?_, fun e he => by simp at he⟩
  · unfold startF
    by_cases e : x = y
    · rw [if_pos e]; subst e; exact .inr ⟨0, rfl, .nil⟩
    · rw [if_neg e]; exact .inl rfl
  · unfold startF
    by_cases e : x = y
    · rw [if_pos e, if_pos e.symm]
    · rw [if_neg e, if_neg (fun h => e h.symm)]
  · unfold startF
    split <;> omega
theorem take_mem {α : Type} {l : List α} {i : Nat} {x y : α} (hi : l[i]? = some x) (h : y ∈ l.take (i + 1)) : y ∈ l.take i ∨ y = x := by
  rw [List.take_add_one, hi] at h
  simpa using h
section
variable {E : List Edge} {P i A B M : Nat} {t : TabF}
theorem ways_keep (h : WaysF E P i t) (he : E[i]? = some (A, B, M)) (h0 : 0 ≤ t A B) (h1 : t A B ≤ (M : Int)) : WaysF E P (i + 1) t := by
  refine ⟨h.sound, h.sym, h.self, h.under, fun e hm => ?_⟩
  rcases take_mem he hm with q | rfl
  · exact h.done e q
  · exact ⟨h0, h1⟩
theorem ways_set (h : WaysF E P i t) (he : E[i]? = some (A, B, M)) (hAB : A ≠ B) (hM : M ≤ 10000) (h1 : t A B < 0 ∨ (M : Int) < t A B) : WaysF E P (i + 1) (setF (setF t A B M) B A M) := by
  have hj : Joined E A B M := .inl (List.mem_of_getElem? he)
  have r1 : Reach E A B M := by
    have := (Reach.nil (E := E) (a := A)).snoc hj
    rwa [Nat.zero_add] at this
  have val : ∀ x y, setF (setF t A B M) B A M x y = if (x = A ∧ y = B) ∨ (x = B ∧ y = A) then (M : Int) else t x y := by
    intro x y
    unfold setF
    by_cases e : x = B ∧ y = A
    · rw [if_pos e, if_pos (.inr e)]
    · rw [if_neg e]
      by_cases e2 : x = A ∧ y = B
      · rw [if_pos e2, if_pos (.inl e2)]
      · rw [if_neg e2, if_neg (by rintro (q | q) <;> contradiction)]
  refine ⟨(h.sound.set r1).set r1.turn, fun x y => ?_, fun x hx => ?_, fun x y hx hy => ?_, fun e hm => ?_⟩
  · rw [val, val]
    by_cases e : (x = A ∧ y = B) ∨ (x = B ∧ y = A)
    · rw [if_pos e, if_pos (by omega)]
    · rw [if_neg e, if_neg (by omega)]
      exact h.sym x y
  · rw [val, if_neg (by omega)]
    exact h.self x hx
  · rw [val]
    split
    · omega
    · exact h.under x y hx hy
  · rw [val]
    rcases take_mem he hm with q | rfl
    · have d := h.done e q
      by_cases c : (e.1 = A ∧ e.2.1 = B) ∨ (e.1 = B ∧ e.2.1 = A)
      · rw [if_pos c]
        have s := h.sym A B
        rcases c with ⟨c1, c2⟩ | ⟨c1, c2⟩ <;> rw [c1, c2] at d <;> omega
      · rw [if_neg c]
        exact d
    · rw [if_pos (.inl ⟨rfl, rfl⟩)]
      simp
theorem ways_end (h : WaysF E P E.length t) : CompF E P 0 t := by
  intro x y n hx hy hv
  cases hv with
  | nil => have := h.self x hx; omega
  | one j =>
    rcases j with j | j
    · exact h.done _ (by rw [List.take_length]; exact j)
    · have := h.done _ (by rw [List.take_length]; exact j)
      rw [h.sym]
      exact this
  | snoc _ hb _ => omega
end
/-! ### One place more that walks go by -/
/-- All pairs ahead of (a, b) are done. -/
structure PhaseF (E : List Edge) (P K : Nat) (B : Int) (t0 t : TabF) (a b : Nat) : Prop where
  sound : SoundF E P t
  le : ∀ x y, x < P → y < P → 0 ≤ t0 x y → 0 ≤ t x y ∧ t x y ≤ t0 x y
  far : ∀ x, x < P → (0 ≤ t x K → 0 ≤ t0 x K) ∧ (0 ≤ t K x → 0 ≤ t0 K x)
  under : UnderF P (2 * B) t
  done : ∀ x y, x < P → y < P → (x < a ∨ x = a ∧ y < b) → 0 ≤ t0 x K → 0 ≤ t0 K y → 0 ≤ t x y ∧ t x y ≤ t0 x K + t0 K y
section
variable {E : List Edge} {P K a b : Nat} {B : Int} {t0 t : TabF}
theorem phase_start (h : SoundF E P t0) (hB : 0 ≤ B) (hu : UnderF P B t0) : PhaseF E P K B t0 t0 0 0 :=
  ⟨h, fun x y _ _ q => ⟨q, Int.le_refl _⟩, fun x _ => ⟨id, id⟩, fun x y hx hy => by have := hu x y hx hy; omega, fun x y _ _ q => by omega⟩
theorem phase_skip (h : PhaseF E P K B t0 t a b) (hK : K < P) (ha : a < P) (hn : t a K < 0) : PhaseF E P K B t0 t (a + 1) 0 := by
  refine ⟨h.sound, h.le, h.far, h.under, fun x y hx hy q h1 h2 => ?_⟩
  by_cases e : x = a
  · subst e
    have := h.le x K hx hK h1
    omega
  · exact h.done x y hx hy (by omega) h1 h2
theorem phase_row (h : PhaseF E P K B t0 t a P) : PhaseF E P K B t0 t (a + 1) 0 :=
  ⟨h.sound, h.le, h.far, h.under, fun x y hx hy q h1 h2 => h.done x y hx hy (by omega) h1 h2⟩
theorem phase_none (h : PhaseF E P K B t0 t a b) (hK : K < P) (ha : a < P) (hb : b < P) (hn : t a K < 0 ∨ t K b < 0 ∨ (0 ≤ t a b ∧ t a b ≤ t a K + t K b)) : PhaseF E P K B t0 t a (b + 1) := by
  refine ⟨h.sound, h.le, h.far, h.under, fun x y hx hy q h1 h2 => ?_⟩
  by_cases e : x = a ∧ y = b
  · obtain ⟨rfl, rfl⟩ := e
    have g1 := h.le x K hx hK h1
    have g2 := h.le K y hK hy h2
    omega
  · exact h.done x y hx hy (by omega) h1 h2
theorem phase_set (h : PhaseF E P K B t0 t a b) (hK : K < P) (ha : a < P) (hb : b < P) (hu : UnderF P B t0) (h1 : 0 ≤ t a K) (h2 : 0 ≤ t K b) (h3 : t a b < 0 ∨ t a K + t K b < t a b) : PhaseF E P K B t0 (setF t a b (t a K + t K b)) a (b + 1) := by
  have f1 := (h.far a ha).1 h1
  have f2 := (h.far b hb).2 h2
  have l1 := h.le a K ha hK f1
  have l2 := h.le K b hK hb f2
  have u1 := hu a K ha hK
  have u2 := hu K b hK hb
  have hr : ∃ n : Nat, t a K + t K b = n ∧ Reach E a b n := by
    rcases h.sound a K ha hK with e | ⟨p, e, hp⟩
    · omega
    · rcases h.sound K b hK hb with e' | ⟨q, e', hq⟩
      · omega
      · exact ⟨p + q, by omega, hp.trans hq⟩
  obtain ⟨n, en, hn⟩ := hr
  refine ⟨by rw [en]; exact h.sound.set hn, fun x y hx hy q => ?_, fun x hx => ⟨fun q => ?_, fun q => ?_⟩, fun x y hx hy => ?_, fun x y hx hy q g1 g2 => ?_⟩
  · unfold setF
    by_cases e : x = a ∧ y = b
    · rw [if_pos e]
      obtain ⟨rfl, rfl⟩ := e
      have := h.le x y hx hy q
      omega
    · rw [if_neg e]
      exact h.le x y hx hy q
  · unfold setF at q
    by_cases e : x = a ∧ K = b
    · obtain ⟨rfl, rfl⟩ := e
      exact f1
    · rw [if_neg e] at q
      exact (h.far x hx).1 q
  · unfold setF at q
    by_cases e : K = a ∧ x = b
    · obtain ⟨rfl, rfl⟩ := e
      exact f2
    · rw [if_neg e] at q
      exact (h.far x hx).2 q
  · unfold setF
    split
    · omega
    · exact h.under x y hx hy
  · unfold setF
    by_cases e : x = a ∧ y = b
    · rw [if_pos e]
      obtain ⟨rfl, rfl⟩ := e
      omega
    · rw [if_neg e]
      exact h.done x y hx hy (by omega) g1 g2
theorem phase_end (h : PhaseF E P K B t0 t P 0) (hK : K < P) (hc : CompF E P K t0) : CompF E P (K + 1) t := by
  intro x y n hx hy hv
  rcases via_split hv with ⟨n', h1, h2⟩ | ⟨p, q, h1, h2, h3⟩
  · have c := hc x y n' hx hy h1
    have l := h.le x y hx hy c.1
    omega
  · have c1 := hc x K p hx hK h1
    have c2 := hc K y q hK hy h2
    have d := h.done x y hx hy (by omega) c1.1 c2.1
    omega
end
/-- No number of the table is above this, once walks go by the first K places. -/
def bndF (K : Nat) : Int := ((10000 * 2 ^ K : Nat) : Int)
theorem bnd_succ (K : Nat) : bndF (K + 1) = 2 * bndF K := by
  unfold bndF
  rw [Nat.pow_succ]
  omega
theorem bnd_pos (K : Nat) : 0 ≤ bndF K := by unfold bndF; omega
theorem bnd_most {K : Nat} (h : K ≤ 17) : bndF K ≤ 1310720000 := by
  have := Nat.pow_le_pow_right (show 0 < 2 by omega) h
  unfold bndF
  omega
/-! ### The ways of a setup -/
def edgeOf (r : List Int) : Edge := ((r.getD 0 0).toNat, (r.getD 1 0).toNat, (r.getD 2 0).toNat)
def edgesOf (l : List (List Int)) : List Edge := l.map edgeOf
theorem edges_among {p : Int} {P : Nat} {l : List (List Int)} (hp : p = P) (h : ∀ r ∈ l, wayP p r) : Among P (edgesOf l) := by
  intro e he
  obtain ⟨r, hr, rfl⟩ := List.mem_map.1 he
  have := h r hr
  unfold wayP at this
  simp only [edgeOf]
  omega
theorem edges_long {p : Int} {l : List (List Int)} (h : ∀ r ∈ l, wayP p r) : Longs (edgesOf l) := by
  intro e he
  obtain ⟨r, hr, rfl⟩ := List.mem_map.1 he
  have := h r hr
  unfold wayP at this
  simp only [edgeOf]
  omega
theorem edges_get {p : Int} {l : List (List Int)} {i : Nat} (hi : i < l.length) (h : ∀ r ∈ l, wayP p r) : ∃ A B M : Nat, (edgesOf l)[i]? = some (A, B, M) ∧ (l.getD i []).getD 0 0 = A ∧ (l.getD i []).getD 1 0 = B ∧ (l.getD i []).getD 2 0 = M ∧ (A : Int) < p ∧ (B : Int) < p ∧ A ≠ B ∧ 1 ≤ M ∧ M ≤ 10000 := by
  have hr : l.getD i [] ∈ l := by simp [List.getD, hi]
  have hw := h _ hr
  have e : l[i]? = some (l.getD i []) := by rw [List.getD_eq_getElem?_getD, List.getElem?_eq_getElem hi]; rfl
  unfold wayP at hw
  refine ⟨_, _, _, by unfold edgesOf; rw [List.getElem?_map, e]; rfl, ?_, ?_, ?_, ?_, ?_, ?_, ?_, ?_⟩ <;> omega
end Go.Proofs.YtpgncbhahocmbaaGreat

namespace Go.Proofs.YtpgncbhahocmbaaGreat
set_option linter.unusedVariables false
set_option linter.unusedSimpArgs false

/-- What a ratio is worth. -/
def valQ (n d : Int) : Rat := (n : Rat) / (d : Rat)
theorem cast_pos {d : Int} (h : 0 < d) : (d : Rat) ≠ 0 := by simp; omega
theorem val_cross {n d m e : Int} (hd : 0 < d) (he : 0 < e) : valQ n d = valQ m e ↔ n * e = m * d := by
  have h1 := cast_pos hd
  have h2 := cast_pos he
  unfold valQ
  constructor
  · intro h
    have : (n : Rat) * e = m * d := by grind
    exact_mod_cast this
  · intro h
    have : (n : Rat) * e = m * d := by exact_mod_cast h
    grind
theorem val_mk {n d : Int} (h : mkC n d = 0) : valQ (mkN n d) (mkD n d) = valQ n d := by
  have b := may_bd (mk_may h)
  exact (val_cross (by omega) (mkC_pos h)).2 (mk_cross h)
theorem val_mul {a b c d : Int} (h : (mulR a b c d).c = 0) : mayB a b = true ∧ mayB c d = true ∧ valQ (mulR a b c d).n (mulR a b c d).d = valQ a b * valQ c d ∧ mayB (mulR a b c d).n (mulR a b c d).d = true := by
  have hm := mulR_may a b c d
  rw [h] at hm
  unfold mulR at h hm ⊢
  by_cases hab : (mayB a b && mayB c d) = true
  · rw [if_pos hab] at h hm ⊢
    simp only [Bool.and_eq_true] at hab
    have b1 := may_bd hab.1
    have b2 := may_bd hab.2
    have h1 := cast_pos (show 0 < b by omega)
    have h2 := cast_pos (show 0 < d by omega)
    refine ⟨hab.1, hab.2, ?_, by simpa using hm⟩
    show valQ (mkN _ _) (mkD _ _) = _
    rw [val_mk h]
    unfold valQ
    rw [Rat.intCast_mul, Rat.intCast_mul]
    grind
  · rw [if_neg hab] at h
    cases h
theorem val_plus {a b c d : Int} (h : (plusR a b c d).c = 0) : mayB a b = true ∧ mayB c d = true ∧ valQ (plusR a b c d).n (plusR a b c d).d = valQ a b + valQ c d ∧ mayB (plusR a b c d).n (plusR a b c d).d = true := by
  have hm := plusR_may a b c d
  rw [h] at hm
  unfold plusR at h hm ⊢
  by_cases hab : (mayB a b && mayB c d) = true
  · rw [if_pos hab] at h hm ⊢
    simp only [Bool.and_eq_true] at hab
    have b1 := may_bd hab.1
    have b2 := may_bd hab.2
    have h1 := cast_pos (show 0 < b by omega)
    have h2 := cast_pos (show 0 < d by omega)
    refine ⟨hab.1, hab.2, ?_, by simpa using hm⟩
    show valQ (mkN _ _) (mkD _ _) = _
    rw [val_mk h]
    unfold valQ
    rw [Rat.intCast_add, Rat.intCast_mul, Rat.intCast_mul, Rat.intCast_mul]
    grind
  · rw [if_neg hab] at h
    cases h
theorem mk_ten {n d : Int} (h : 0 < d) : mkC n d = 0 ∨ mkC n d = 10 := by
  unfold mkC
  rw [if_neg (by omega)]
  split
  · exact .inl rfl
  · exact .inr rfl
theorem mul_ten {a b c d : Int} (h1 : mayB a b = true) (h2 : mayB c d = true) : (mulR a b c d).c = 0 ∨ (mulR a b c d).c = 10 := by
  have b1 := may_bd h1
  have b2 := may_bd h2
  unfold mulR
  rw [h1, h2, if_pos (show (true && true) = true from rfl)]
  exact mk_ten (Int.mul_pos (by omega) (by omega))
theorem plus_ten {a b c d : Int} (h1 : mayB a b = true) (h2 : mayB c d = true) : (plusR a b c d).c = 0 ∨ (plusR a b c d).c = 10 := by
  have b1 := may_bd h1
  have b2 := may_bd h2
  unfold plusR
  rw [h1, h2, if_pos (show (true && true) = true from rfl)]
  exact mk_ten (Int.mul_pos (by omega) (by omega))
/-- On with what was made, or its error. -/
def onR (r : Rat2) (f : Int → Int → Rat2) : Rat2 := if r.c = 0 then f r.n r.d else ⟨0, 0, r.c⟩
theorem on_ok {r : Rat2} {f : Int → Int → Rat2} (h : (onR r f).c = 0) : r.c = 0 ∧ onR r f = f r.n r.d := by
  unfold onR at h ⊢
  by_cases hr : r.c = 0
  · rw [if_pos hr]; exact ⟨hr, rfl⟩
  · rw [if_neg hr] at h; exact absurd h hr
/-- The goal: of a distance, a pace, a gear; of so many units, what is once, and of each, a class; of an allowance. -/
def goalR (D pn pd gn gd U fn fd un ud cn cd al : Int) : Rat2 :=
  onR (mulR D 1 pn pd) fun a b => onR (mulR a b gn gd) fun tn td => onR (mulR un ud U 1) fun a b => onR (plusR fn fd a b) fun a b => onR (mulR a b cn cd) fun hn hd =>
    onR (plusR tn td hn hd) fun a b => mulR a b (mkN (100 + al) 100) (mkD (100 + al) 100)
def allowQ (al : Int) : Rat := valQ (100 + al) 100
theorem allow_mk {al : Int} (h : 0 ≤ al ∧ al ≤ 100) : mkC (100 + al) 100 = 0 := by
  unfold mkC
  rw [if_neg (by omega), if_pos]
  have hg := gcd_pos' (n := 100 + al) (d := 100) (by omega)
  have h1 := gcd_n (100 + al) 100
  have h2 := gcd_d (100 + al) 100
  generalize (Int.gcd (100 + al) 100 : Int) = g at *
  generalize (100 + al) / g = x at *
  generalize (100 : Int) / g = y at *
  have hx : 0 ≤ x := by
    rcases Int.lt_or_le x 0 with q | q
    · have := Int.mul_neg_of_pos_of_neg hg q; omega
    · exact q
  have hy : 0 ≤ y := by
    rcases Int.lt_or_le y 0 with q | q
    · have := Int.mul_neg_of_pos_of_neg hg q; omega
    · exact q
  have k1 : x ≤ g * x := by
    have := Int.mul_le_mul_of_nonneg_right (show 1 ≤ g by omega) hx
    omega
  have k2 : y ≤ g * y := by
    have := Int.mul_le_mul_of_nonneg_right (show 1 ≤ g by omega) hy
    omega
  omega
theorem goal_val {D pn pd gn gd U fn fd un ud cn cd al : Int} (h : (goalR D pn pd gn gd U fn fd un ud cn cd al).c = 0) (hal : 0 ≤ al ∧ al ≤ 100) :
    valQ (goalR D pn pd gn gd U fn fd un ud cn cd al).n (goalR D pn pd gn gd U fn fd un ud cn cd al).d = (valQ D 1 * valQ pn pd * valQ gn gd + (valQ fn fd + valQ un ud * valQ U 1) * valQ cn cd) * allowQ al ∧
    mayB (goalR D pn pd gn gd U fn fd un ud cn cd al).n (goalR D pn pd gn gd U fn fd un ud cn cd al).d = true := by
  unfold goalR at h ⊢
  obtain ⟨h1, e1⟩ := on_ok h
  rw [e1] at h ⊢
  obtain ⟨_, _, v1, m1⟩ := val_mul h1
  obtain ⟨h2, e2⟩ := on_ok h
  rw [e2] at h ⊢
  obtain ⟨_, _, v2, m2⟩ := val_mul h2
  obtain ⟨h3, e3⟩ := on_ok h
  rw [e3] at h ⊢
  obtain ⟨_, _, v3, m3⟩ := val_mul h3
  obtain ⟨h4, e4⟩ := on_ok h
  rw [e4] at h ⊢
  obtain ⟨_, _, v4, m4⟩ := val_plus h4
  obtain ⟨h5, e5⟩ := on_ok h
  rw [e5] at h ⊢
  obtain ⟨_, _, v5, m5⟩ := val_mul h5
  obtain ⟨h6, e6⟩ := on_ok h
  rw [e6] at h ⊢
  obtain ⟨_, _, v6, m6⟩ := val_plus h6
  obtain ⟨_, _, v7, m7⟩ := val_mul h
  refine ⟨?_, m7⟩
  rw [v7, v6, v5, v4, v3, v2, v1, val_mk (allow_mk hal)]
  rfl
theorem val_nonneg {n d : Int} (hn : 0 ≤ n) (hd : 0 < d) : 0 ≤ valQ n d := by
  unfold valQ
  have h1 : (0 : Rat) < (d : Rat) := by exact_mod_cast hd
  have h2 : (0 : Rat) ≤ (n : Rat) := by exact_mod_cast hn
  rw [Rat.div_def]
  exact Rat.mul_nonneg h2 (Rat.le_of_lt (Rat.inv_pos.2 h1))
theorem val_nonneg_of {n d : Int} (hd : 0 < d) (h : 0 ≤ valQ n d) : 0 ≤ n := by
  have h1 := cast_pos hd
  have : (n : Rat) = valQ n d * d := by unfold valQ; grind
  have h2 : (0 : Rat) ≤ (n : Rat) := by
    rw [this]
    exact Rat.mul_nonneg h (by exact_mod_cast (show 0 ≤ d by omega))
  exact_mod_cast h2
section
variable {D pn pd gn gd U fn fd un ud cn cd al : Int}
/-- All that it is made of are shares. -/
structure Shares (D pn pd gn gd fn fd un ud cn cd al : Int) : Prop where
  far : 0 ≤ D
  pace : shareB pn pd = true
  gear : shareB gn gd = true
  fixed : shareB fn fd = true
  unit : shareB un ud = true
  cls : shareB cn cd = true
  allow : 0 ≤ al ∧ al ≤ 100
theorem share_val {n d : Int} (h : shareB n d = true) : 0 ≤ valQ n d := by
  have := share_bd h
  exact val_nonneg (by omega) (by omega)
theorem allow_nonneg {al : Int} (h : 0 ≤ al ∧ al ≤ 100) : 0 ≤ allowQ al := val_nonneg (by omega) (by omega)
/-- GoalMay: a goal may be, and is not below 0. -/
theorem goal_may (hs : Shares D pn pd gn gd fn fd un ud cn cd al) (hU : 0 ≤ U) (h : (goalR D pn pd gn gd U fn fd un ud cn cd al).c = 0) :
    mayB (goalR D pn pd gn gd U fn fd un ud cn cd al).n (goalR D pn pd gn gd U fn fd un ud cn cd al).d = true ∧ 0 ≤ (goalR D pn pd gn gd U fn fd un ud cn cd al).n := by
  obtain ⟨hv, hm⟩ := goal_val h hs.allow
  have b := may_bd hm
  refine ⟨hm, val_nonneg_of (d := (goalR D pn pd gn gd U fn fd un ud cn cd al).d) (by omega) ?_⟩
  rw [hv]
  refine Rat.mul_nonneg (Rat.add_nonneg (Rat.mul_nonneg (Rat.mul_nonneg (val_nonneg hs.far (by omega)) (share_val hs.pace)) (share_val hs.gear)) (Rat.mul_nonneg (Rat.add_nonneg (share_val hs.fixed) (Rat.mul_nonneg (share_val hs.unit) (val_nonneg hU (by omega)))) (share_val hs.cls))) (allow_nonneg hs.allow)
/-- An error is that of a number that is too great. -/
theorem goal_ten (hs : Shares D pn pd gn gd fn fd un ud cn cd al) (hD : D ≤ 2147483647) (hU : 0 ≤ U ∧ U ≤ 2147483647) : (goalR D pn pd gn gd U fn fd un ud cn cd al).c = 0 ∨ (goalR D pn pd gn gd U fn fd un ud cn cd al).c = 10 := by
  have may : ∀ {n d}, shareB n d = true → mayB n d = true := fun h => by unfold shareB at h; simp only [Bool.and_eq_true] at h; exact h.1
  have one : ∀ {n : Int}, 0 ≤ n → n ≤ 2147483647 → mayB n 1 = true := fun h1 h2 => by
    unfold mayB
    simp only [decide_eq_true_eq]
    exact ⟨by omega, by omega, by omega, by omega, Int.gcd_one_right _⟩
  have step : ∀ {r : Rat2} {f : Int → Int → Rat2}, (r.c = 0 ∨ r.c = 10) → (r.c = 0 → (f r.n r.d).c = 0 ∨ (f r.n r.d).c = 10) → (onR r f).c = 0 ∨ (onR r f).c = 10 := by
    intro r f h1 h2
    unfold onR
    by_cases hr : r.c = 0
    · rw [if_pos hr]; exact h2 hr
    · rw [if_neg hr]; exact h1
  unfold goalR
  refine step (mul_ten (one hs.far hD) (may hs.pace)) fun c1 => step (mul_ten (val_mul c1).2.2.2 (may hs.gear)) fun c2 => step (mul_ten (may hs.unit) (one hU.1 hU.2)) fun c3 => step (plus_ten (may hs.fixed) (val_mul c3).2.2.2) fun c4 => step (mul_ten (val_plus c4).2.2.2 (may hs.cls)) fun c5 =>
    step (plus_ten (val_mul c2).2.2.2 (val_mul c5).2.2.2) fun c6 => mul_ten (val_plus c6).2.2.2 (mk_may (allow_mk hs.allow))
end
end Go.Proofs.YtpgncbhahocmbaaGreat

namespace Go.Proofs.YtpgncbhahocmbaaGreat
open Go.RowKit
set_option linter.unusedVariables false
set_option linter.unusedSimpArgs false
set_option maxRecDepth 20000

/-- The first error of two. -/
def fstC (e c : Int) : Int := if e = 0 then c else e
theorem fstC_zero (e : Int) : fstC e 0 = e := by unfold fstC; split <;> omega
theorem zero_fstC (c : Int) : fstC 0 c = c := by unfold fstC; rw [if_pos rfl]
theorem Chg.more {M N : Nat → Prop} {a w w' : World} (h : Chg M a w) (k : Chg N w w') (hN : ∀ b, b < a.heap.size → N b → M b) : Chg M a w' :=
  Kept.on h (Kept.less k fun i hi => ⟨Nat.lt_of_lt_of_le hi.1 (Kept.size h), fun hn => hi.2 (hN i hi.1 hn)⟩)
theorem Chg.bel {M : Nat → Prop} {a w w' : World} (h : Chg M a w) {B : Nat} (k : Below B w w') (hB : w.heap.size ≤ B) : Chg M a w' :=
  h.onB ⟨k.os, k.tape, k.output, k.size, fun b hb => k.block b (by omega)⟩
theorem keep_c (n d c e e' : Int) (K : Nat) (w : World) (he : fstC e c = e') (hK : Has w K #[.int .i64 e]) :
    Calls Tryz.prog 62 #[.agg #[.int .i64 n, .int .i64 d], .int .i64 c, .pointer (some ⟨K, 0, none⟩)] w fun r w' =>
      r = .returned (.agg #[.int .i64 n, .int .i64 d]) ∧ Has w' K #[.int .i64 e'] ∧ Chg (fun b => b = K) w w' := by
  have hs := hK.size
  have k0 := hK.cell 0 rfl
  have kf := hK.frozen 0
  have HK := Lib.hid hK
  clear hK
  by_cases h0 : e = 0
  · subst h0
    rw [zero_fstC] at he
    subst he
    go_enter Tryz.func62, Tryz.ntmps62
    go_wp2
    have R2 : Has (((w.setCell ⟨K, 0, none⟩ (.int .i64 c)).alloc (.cells #[.int .i64 n, .int .i64 d] 24)).alloc (.cells #[.int .i64 n, .int .i64 d] 24)) (w.heap.size + 1) #[.int .i64 n, .int .i64 d] := Has.new _ _ _ (by simp)
    obtain ⟨c0, c1, f0, f1⟩ := R2.two
    refine bodyPost_ret (v := .agg #[.int .i64 n, .int .i64 d]) (by simp [results, Tryz.results62, go_sem, c0, c1]) rfl ⟨rfl, ?_, ?_⟩
    · exact ((HK.out.set 0 _).alloc _).alloc _
    · exact (((Chg.refl (fun b => b = K) w).set (p := ⟨K, 0, none⟩) (.inr rfl) _).alloc _).alloc _
  · have hE : e' = e := by rw [← he]; unfold fstC; rw [if_neg h0]
    subst hE
    go_enter Tryz.func62, Tryz.ntmps62
    go_wp2
    have R2 : Has ((w.alloc (.cells #[.int .i64 n, .int .i64 d] 24)).alloc (.cells #[.int .i64 n, .int .i64 d] 24)) (w.heap.size + 1) #[.int .i64 n, .int .i64 d] := Has.new _ _ _ (by simp)
    obtain ⟨c0, c1, f0, f1⟩ := R2.two
    refine bodyPost_ret (v := .agg #[.int .i64 n, .int .i64 d]) (by simp [results, Tryz.results62, go_sem, c0, c1]) rfl ⟨rfl, ?_, ?_⟩
    · exact (HK.out.alloc _).alloc _
    · exact ((Chg.refl _ _).alloc _).alloc _

theorem make_one (m : Int) (w : World) (hm : mkR m 1 = ⟨m, 1, 0⟩) (hb : -9223372036854775808 ≤ m ∧ m ≤ 9223372036854775807) :
    Calls Tryz.prog 21 #[.int .i64 m, .int .i64 1] w fun e w' => e = .returned (.tuple #[.agg #[.int .i64 m, .int .i64 1], .int .i64 0]) ∧ Below w.heap.size w w' := by
  refine (make_any m 1 w hb.1 hb.2 (by omega) (by omega)).mono ?_
  rintro e w' ⟨rfl, h⟩
  refine ⟨?_, h⟩
  unfold mkR at hm
  simp only [Rat2.mk.injEq] at hm
  rw [hm.1, hm.2.1, hm.2.2]
theorem qmul_x (a b c d : Int) (X : Rat2) (w : World) (hX : mulR a b c d = X) (ha : -9223372036854775808 ≤ a ∧ a ≤ 9223372036854775807) (hb : -9223372036854775808 ≤ b ∧ b ≤ 9223372036854775807) (hc : -9223372036854775808 ≤ c ∧ c ≤ 9223372036854775807) (hd : -9223372036854775808 ≤ d ∧ d ≤ 9223372036854775807) :
    Calls Tryz.prog 26 #[.agg #[.int .i64 a, .int .i64 b], .agg #[.int .i64 c, .int .i64 d]] w fun e w' => e = .returned (.tuple #[.agg #[.int .i64 X.n, .int .i64 X.d], .int .i64 X.c]) ∧ Below w.heap.size w w' := by
  subst hX
  exact qmul_any a b c d w ha hb hc hd
set_option maxHeartbeats 2000000 in
theorem times_c (n d m e e' : Int) (X : Rat2) (K T : Nat) (w : World) (hm : mkR m 1 = ⟨m, 1, 0⟩) (hmb : -9223372036854775808 ≤ m ∧ m ≤ 9223372036854775807) (hn : -9223372036854775808 ≤ n ∧ n ≤ 9223372036854775807) (hd : -9223372036854775808 ≤ d ∧ d ≤ 9223372036854775807)
    (hX : mulR n d m 1 = X) (he : fstC e X.c = e') (hK : Has w K #[.int .i64 e]) (hT : Has w T #[.func (.func 62) #[] #[.pointer (some ⟨K, 0, none⟩)]]) (hne : T ≠ K) :
    Calls Tryz.prog 63 #[.agg #[.int .i64 n, .int .i64 d], .int .i64 m, .pointer (some ⟨T, 0, none⟩)] w fun r w' =>
      r = .returned (.agg #[.int .i64 X.n, .int .i64 X.d]) ∧ Has w' K #[.int .i64 e'] ∧ Chg (fun b => b = K) w w' := by
  have hsK := hK.size
  have hsT := hT.size
  have HK := Lib.hid hK
  have HT := Lib.hid hT
  have HM := Lib.hid hm
  have HX := Lib.hid hX
  have HE := Lib.hid he
  clear hm hX he
  have hne' : K ≠ T := fun h => hne h.symm
  go_enter Tryz.func63, Tryz.ntmps63
  go_upto_region 1 with fail
  have H3 : Hid (Has ((w.alloc (.cells #[.int .i64 n, .int .i64 d] 24)).alloc (.cells #[.int .i64 0, .int .i64 0] 24)) w.heap.size #[.int .i64 n, .int .i64 d]) := (Has.new _ _ _ rfl).alloc _
  have H5 : Hid (Has ((w.alloc (.cells #[.int .i64 n, .int .i64 d] 24)).alloc (.cells #[.int .i64 0, .int .i64 0] 24)) (w.heap.size + 1) #[.int .i64 0, .int .i64 0]) := Has.new _ _ _ (by simp)
  have H0 : Hid (Chg (fun b => b = K) w ((w.alloc (.cells #[.int .i64 n, .int .i64 d] 24)).alloc (.cells #[.int .i64 0, .int .i64 0] 24))) := ((Chg.refl _ _).alloc _).alloc _
  replace HK := Lib.hid ((HK.out.alloc (.cells #[.int .i64 n, .int .i64 d] 24)).alloc (.cells #[.int .i64 0, .int .i64 0] 24))
  replace HT := Lib.hid ((HT.out.alloc (.cells #[.int .i64 n, .int .i64 d] 24)).alloc (.cells #[.int .i64 0, .int .i64 0] 24))
  clear hK hT
  generalize (w.alloc (.cells #[.int .i64 n, .int .i64 d] 24)).alloc (.cells #[.int .i64 0, .int .i64 0] 24) = W at *
  have HG : Hid (w.heap.size = w.heap.size) := Lib.hid rfl
  obtain ⟨g, hg⟩ : ∃ g, w.heap.size = g := ⟨_, rfl⟩
  rw [hg] at H3 H5 hsK hsT
  simp only [hg]
  have HTW := HT
  have H3W := H3
  have n_HT : ¬ T = K := hne
  have n_H3 : ¬ g = K := by omega
  have n_H5 : ¬ g + 1 = K := by omega
  refine wp_region_noPanic ?_
  refine wp_region_held_drew (S := fun w' => Chg (fun b => b = K ∨ b = g + 1) W w') (by kernel_rfl) (Chg.of_below (below_drew (Below.refl _ _))) (fun hHeld => ?_)
  have HC : Hid (Chg (fun b => b = K ∨ b = g + 1) W W.drew) := Lib.hid hHeld
  replace HT := Lib.hid (HT.out.drew)
  replace H3 := Lib.hid (H3.out.drew)
  replace H5 := Lib.hid (H5.out.drew)
  replace HK := Lib.hid (HK.out.drew)
  generalize W.drew = w1 at *
  refine wpAnyH_take (i := 0) (oi := ⟨some 6, _, _, _, _, _⟩) (v := (.func (.func 62) #[] #[.pointer (some ⟨K, 0, none⟩)])) rfl (by kernel_rfl) (by kernel_rfl) (by kernel_rfl) (fun _ _ _ h => h) (Or.inl ⟨by rfl, ?_⟩) hHeld ?_
  · intro ww hSw
    (try dsimp only at hSw)
    have c0 := (HTW.out.chg (by omega) hSw).cell 0 rfl
    have z0 := cell_lt c0
    go_simp
  simp only [Act.put, List.setIfInBounds_toArray, List.set_cons_zero, List.set_cons_succ]
  refine wpAnyH_take (i := 1) (oi := ⟨some 7, _, _, _, _, _⟩) (v := (.agg #[.int .i64 n, .int .i64 d])) rfl (by kernel_rfl) (by kernel_rfl) (by kernel_rfl) (fun _ _ _ h => h) (Or.inl ⟨by rfl, ?_⟩) hHeld ?_
  · intro ww hSw
    (try dsimp only at hSw)
    obtain ⟨c0, c1, -, -⟩ := (H3W.out.chg (by omega) hSw).two
    have z0 := cell_lt c0
    go_simp
  simp only [Act.put, List.setIfInBounds_toArray, List.set_cons_zero, List.set_cons_succ]
  refine wpAnyH_take (i := 2) (oi := ⟨some 8, _, _, _, _, _⟩) (v := (.func (.func 62) #[] #[.pointer (some ⟨K, 0, none⟩)])) rfl (by kernel_rfl) (by kernel_rfl) (by kernel_rfl) (fun _ _ _ h => h) (Or.inl ⟨by rfl, ?_⟩) hHeld ?_
  · intro ww hSw
    (try dsimp only at hSw)
    have c0 := (HTW.out.chg (by omega) hSw).cell 0 rfl
    have z0 := cell_lt c0
    go_simp
  simp only [Act.put, List.setIfInBounds_toArray, List.set_cons_zero, List.set_cons_succ]
  refine wpAnyH_take (i := 3) (oi := ⟨some 9, _, _, _, _, _⟩) (v := (.int .i64 m)) rfl (by kernel_rfl) (by kernel_rfl) (by kernel_rfl) (fun _ _ _ h => h) (Or.inl ⟨by rfl, ?_⟩) hHeld ?_
  · intro ww hSw
    clear hSw
    go_simp
  simp only [Act.put, List.setIfInBounds_toArray, List.set_cons_zero, List.set_cons_succ]
  refine wpAnyH_ready (rs := [4]) (by kernel_rfl) (by simp) ?_
  refine AllReadyH.cons (o := ⟨some 10, _, _, _, _, _⟩) rfl (fun Kx hKx => ?_) AllReadyH.nil
  go_simp
  go_at_call 21
  refine (make_one m _ HM.out hmb).mono ?_
  rintro e_r w2 ⟨rfl, b_⟩
  replace HT := Lib.hid (HT.out.below b_)
  replace H3 := Lib.hid (H3.out.below b_)
  replace H5 := Lib.hid (H5.out.below b_)
  replace HK := Lib.hid (HK.out.below b_)
  replace HC := Lib.hid (HC.out.onB b_)
  clear b_ hHeld
  go_wp2_with fail
  refine hKx.out _ _ ?_ (fun hHeld => ?_)
  · (try dsimp only)
    exact HC.out
  clear hKx Kx
  (try simp only [Act.put, List.setIfInBounds_toArray, List.set_cons_zero, List.set_cons_succ])
  refine wpAnyH_take (i := 5) (oi := ⟨some 11, _, _, _, _, _⟩) (v := (.agg #[.int .i64 m, .int .i64 1])) rfl (by kernel_rfl) (by kernel_rfl) (by kernel_rfl) (fun _ _ _ h => h) (Or.inl ⟨by rfl, ?_⟩) hHeld ?_
  · intro ww hSw
    clear hSw
    go_simp
  simp only [Act.put, List.setIfInBounds_toArray, List.set_cons_zero, List.set_cons_succ]
  refine wpAnyH_take (i := 6) (oi := ⟨some 12, _, _, _, _, _⟩) (v := (.int .i64 0)) rfl (by kernel_rfl) (by kernel_rfl) (by kernel_rfl) (fun _ _ _ h => h) (Or.inl ⟨by rfl, ?_⟩) hHeld ?_
  · intro ww hSw
    clear hSw
    go_simp
  simp only [Act.put, List.setIfInBounds_toArray, List.set_cons_zero, List.set_cons_succ]
  refine wpAnyH_ready (rs := [7]) (by kernel_rfl) (by simp) ?_
  refine AllReadyH.cons (o := ⟨some 13, _, _, _, _, _⟩) rfl (fun Kx hKx => ?_) AllReadyH.nil
  go_simp
  go_at_call 62
  refine (keep_c m 1 0 e e K _ (fstC_zero e) HK.out).mono ?_
  rintro e_r w3 ⟨rfl, k_, b_⟩
  replace HT := Lib.hid (HT.out.chg n_HT b_)
  replace H3 := Lib.hid (H3.out.chg n_H3 b_)
  replace H5 := Lib.hid (H5.out.chg n_H5 b_)
  clear HK
  have HK := Lib.hid k_
  replace HC := Lib.hid (HC.out.more b_ (fun _ _ h => .inl h))
  clear b_ k_ hHeld
  go_wp2_with fail
  refine hKx.out _ _ ?_ (fun hHeld => ?_)
  · (try dsimp only)
    exact HC.out
  clear hKx Kx
  (try simp only [Act.put, List.setIfInBounds_toArray, List.set_cons_zero, List.set_cons_succ])
  refine wpAnyH_ready (rs := [8]) (by kernel_rfl) (by simp) ?_
  refine AllReadyH.cons (o := ⟨some 14, _, _, _, _, _⟩) rfl (fun Kx hKx => ?_) AllReadyH.nil
  go_simp
  go_at_call 26
  refine (qmul_x n d m 1 X _ HX.out hn hd hmb (by omega)).mono ?_
  rintro e_r w4 ⟨rfl, b_⟩
  replace HT := Lib.hid (HT.out.below b_)
  replace H3 := Lib.hid (H3.out.below b_)
  replace H5 := Lib.hid (H5.out.below b_)
  replace HK := Lib.hid (HK.out.below b_)
  replace HC := Lib.hid (HC.out.onB b_)
  clear b_ hHeld
  go_wp2_with fail
  refine hKx.out _ _ ?_ (fun hHeld => ?_)
  · (try dsimp only)
    exact HC.out
  clear hKx Kx
  (try simp only [Act.put, List.setIfInBounds_toArray, List.set_cons_zero, List.set_cons_succ])
  refine wpAnyH_take (i := 9) (oi := ⟨some 15, _, _, _, _, _⟩) (v := (.agg #[.int .i64 X.n, .int .i64 X.d])) rfl (by kernel_rfl) (by kernel_rfl) (by kernel_rfl) (fun _ _ _ h => h) (Or.inl ⟨by rfl, ?_⟩) hHeld ?_
  · intro ww hSw
    clear hSw
    go_simp
  simp only [Act.put, List.setIfInBounds_toArray, List.set_cons_zero, List.set_cons_succ]
  refine wpAnyH_take (i := 10) (oi := ⟨some 16, _, _, _, _, _⟩) (v := (.int .i64 X.c)) rfl (by kernel_rfl) (by kernel_rfl) (by kernel_rfl) (fun _ _ _ h => h) (Or.inl ⟨by rfl, ?_⟩) hHeld ?_
  · intro ww hSw
    clear hSw
    go_simp
  simp only [Act.put, List.setIfInBounds_toArray, List.set_cons_zero, List.set_cons_succ]
  refine wpAnyH_ready (rs := [11]) (by kernel_rfl) (by simp) ?_
  refine AllReadyH.cons (o := ⟨some 17, _, _, _, _, _⟩) rfl (fun Kx hKx => ?_) AllReadyH.nil
  go_simp
  go_at_call 62
  refine (keep_c X.n X.d X.c e e' K _ HE.out HK.out).mono ?_
  rintro e_r w5 ⟨rfl, k_, b_⟩
  replace HT := Lib.hid (HT.out.chg n_HT b_)
  replace H3 := Lib.hid (H3.out.chg n_H3 b_)
  replace H5 := Lib.hid (H5.out.chg n_H5 b_)
  clear HK
  have HK := Lib.hid k_
  replace HC := Lib.hid (HC.out.more b_ (fun _ _ h => .inl h))
  clear b_ k_ hHeld
  go_wp2_with fail
  refine hKx.out _ _ ?_ (fun hHeld => ?_)
  · (try dsimp only)
    exact HC.out
  clear hKx Kx
  (try simp only [Act.put, List.setIfInBounds_toArray, List.set_cons_zero, List.set_cons_succ])
  refine wpAnyH_ready (rs := [12]) (by kernel_rfl) (by simp) ?_
  refine AllReadyH.cons (o := ⟨none, _, _, _, _, _⟩) rfl (fun Kx hKx => ?_) AllReadyH.nil
  obtain ⟨c0, c1, f0, f1⟩ := H5.out.two
  have z0 := H5.out.size
  go_simp
  replace HC := Lib.hid ((HC.out.set (p := ⟨g + 1, 0, none⟩) (.inr (.inr rfl)) (.int .i64 X.n)).set (p := ⟨g + 1, 1, none⟩) (.inr (.inr rfl)) (.int .i64 X.d))
  replace HK := Lib.hid ((HK.out.far (p := ⟨g + 1, 0, none⟩) (by simp; omega) (.int .i64 X.n)).far (p := ⟨g + 1, 1, none⟩) (by simp; omega) (.int .i64 X.d))
  replace H5 := Lib.hid ((H5.out.set 0 (.int .i64 X.n)).set 1 (.int .i64 X.d))
  clear c0 c1 f0 f1 z0 hHeld
  refine hKx.out _ _ ?_ (fun hHeld => ?_)
  · (try dsimp only)
    exact HC.out
  clear hKx Kx
  (try simp only [Act.put, List.setIfInBounds_toArray, List.set_cons_zero, List.set_cons_succ])
  refine wpAnyH_done (by kernel_rfl) ?_ _
  refine NoPanic.normal ?_
  go_wp2
  obtain ⟨c0, c1, f0, f1⟩ := (show Has _ (g + 1) #[.int .i64 X.n, .int .i64 X.d] from H5.out).two
  refine bodyPost_ret (v := .agg #[.int .i64 X.n, .int .i64 X.d]) (by simp [results, Tryz.results63, go_sem, c0, c1]) rfl ⟨rfl, HK.out, ?_⟩
  exact H0.out.more HC.out (fun b hb h => by rcases h with h | h; exact h; omega)
end Go.Proofs.YtpgncbhahocmbaaGreat
