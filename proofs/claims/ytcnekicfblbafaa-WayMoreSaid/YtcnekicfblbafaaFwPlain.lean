/-
  Least lengths by places one after the other (each place as one that walks go by). No program here.
-/
import Derived.Test.YtcnekicfblbafaaWayPlain
import Derived.Test.YtcnekicfblbafaaSetPlain
namespace Go.Proofs.Ytcnekicfblbafaa
set_option linter.unusedVariables false
set_option linter.unusedSimpArgs false

/-- How far, by two places; -1 is Far. -/
abbrev TabF := Nat → Nat → Int
/-- Walks that go by places below K alone. -/
inductive Via (E : List Edge) (K a : Nat) : Nat → Nat → Prop
  | nil : Via E K a a 0
  | one {b m : Nat} : Joined E a b m → Via E K a b m
  | snoc {b c n m : Nat} : Via E K a b n → b < K → Joined E b c m → Via E K a c (n + m)
section
variable {E : List Edge} {K P a b n : Nat}
theorem Via.reach (h : Via E K a b n) : Reach E a b n := by
  induction h with
  | nil => exact .nil
  | @one b m j =>
    have := (Reach.nil (E := E) (a := a)).snoc j
    rwa [Nat.zero_add] at this
  | snoc _ _ j ih => exact ih.snoc j
theorem via_split (h : Via E (K + 1) a b n) : (∃ n', Via E K a b n' ∧ n' ≤ n) ∨ ∃ p q, Via E K a K p ∧ Via E K K b q ∧ p + q ≤ n := by
  induction h with
  | nil => exact .inl ⟨0, .nil, Nat.le_refl _⟩
  | one j => exact .inl ⟨_, .one j, Nat.le_refl _⟩
  | @snoc b c n m w hb j ih =>
    by_cases hbK : b = K
    · subst hbK
      rcases ih with ⟨n', h1, h2⟩ | ⟨p, q, h1, h2, h3⟩
      · exact .inr ⟨n', m, h1, .one j, by omega⟩
      · exact .inr ⟨p, m, h1, .one j, by omega⟩
    · rcases ih with ⟨n', h1, h2⟩ | ⟨p, q, h1, h2, h3⟩
      · exact .inl ⟨n' + m, .snoc h1 (by omega) j, by omega⟩
      · exact .inr ⟨p, q + m, h1, .snoc h2 (by omega) j, by omega⟩
theorem via_of_reach (hP : Among P E) (h : Reach E a b n) : Via E P a b n := by
  obtain ⟨k, h⟩ := h
  induction h with
  | nil => exact .nil
  | @snoc b c m k n _ j ih =>
    refine .snoc ih ?_ j
    rcases j with j | j
    · exact (hP _ j).1
    · exact (hP _ j).2
end
def SoundF (E : List Edge) (P : Nat) (t : TabF) : Prop := ∀ x y, x < P → y < P → t x y = -1 ∨ ∃ n : Nat, t x y = n ∧ Reach E x y n
def CompF (E : List Edge) (P K : Nat) (t : TabF) : Prop := ∀ x y n, x < P → y < P → Via E K x y n → 0 ≤ t x y ∧ t x y ≤ (n : Int)
def UnderF (P : Nat) (B : Int) (t : TabF) : Prop := ∀ x y, x < P → y < P → t x y ≤ B
def setF (t : TabF) (a b : Nat) (v : Int) : TabF := fun x y => if x = a ∧ y = b then v else t x y
theorem SoundF.far {E : List Edge} {P : Nat} {t : TabF} (h : SoundF E P t) {x y : Nat} (hx : x < P) (hy : y < P) : t x y = -1 ∨ 0 ≤ t x y := by
  rcases h x y hx hy with e | ⟨n, e, _⟩ <;> omega
theorem SoundF.set {E : List Edge} {P : Nat} {t : TabF} (h : SoundF E P t) {a b : Nat} {v : Nat} (hr : Reach E a b v) : SoundF E P (setF t a b v) := by
  intro x y hx hy
  unfold setF
  by_cases e : x = a ∧ y = b
  · rw [if_pos e]
    obtain ⟨rfl, rfl⟩ := e
    exact .inr ⟨v, rfl, hr⟩
  · rw [if_neg e]
    exact h x y hx hy
theorem fw_done {E : List Edge} {P a b : Nat} {t : TabF} (hP : Among P E) (hs : SoundF E P t) (hc : CompF E P P t) (ha : a < P) (hb : b < P) : t a b = distI E a b := by
  rcases distI_cases E a b with ⟨h1, h2⟩ | ⟨n, h1, h2⟩
  · rw [h2]
    rcases hs a b ha hb with e | ⟨n, e, hr⟩
    · exact e
    · exact absurd hr (dist_none.1 h1 n)
  · rw [h2]
    obtain ⟨hr, hl⟩ := dist_some.1 h1
    have := hc a b n ha hb (via_of_reach hP hr)
    rcases hs a b ha hb with e | ⟨m, e, hr'⟩
    · omega
    · have := hl m hr'
      omega
/-! ### The ways, one after the other -/
structure WaysF (E : List Edge) (P i : Nat) (t : TabF) : Prop where
  sound : SoundF E P t
  sym : ∀ x y, t x y = t y x
  self : ∀ x, x < P → t x x = 0
  under : UnderF P 10000 t
  done : ∀ e ∈ E.take i, 0 ≤ t e.1 e.2.1 ∧ t e.1 e.2.1 ≤ (e.2.2 : Int)
def startF : TabF := fun x y => if x = y then 0 else -1
theorem ways_start (E : List Edge) (P : Nat) : WaysF E P 0 startF := by
  refine ⟨fun x y hx hy => ?_, fun x y => ?_, fun x hx => if_pos rfl, fun x y hx hy => ?_, fun e he => by simp at he⟩
  · unfold startF
    by_cases e : x = y
    · rw [if_pos e]; subst e; exact .inr ⟨0, rfl, .nil⟩
    · rw [if_neg e]; exact .inl rfl
  · unfold startF
    by_cases e : x = y
    · rw [if_pos e, if_pos e.symm]
    · rw [if_neg e, if_neg (fun h => e h.symm)]
  · unfold startF
    split <;> omega
theorem take_mem {α : Type} {l : List α} {i : Nat} {x y : α} (hi : l[i]? = some x) (h : y ∈ l.take (i + 1)) : y ∈ l.take i ∨ y = x := by
  rw [List.take_add_one, hi] at h
  simpa using h
section
variable {E : List Edge} {P i A B M : Nat} {t : TabF}
theorem ways_keep (h : WaysF E P i t) (he : E[i]? = some (A, B, M)) (h0 : 0 ≤ t A B) (h1 : t A B ≤ (M : Int)) : WaysF E P (i + 1) t := by
  refine ⟨h.sound, h.sym, h.self, h.under, fun e hm => ?_⟩
  rcases take_mem he hm with q | rfl
  · exact h.done e q
  · exact ⟨h0, h1⟩
theorem ways_set (h : WaysF E P i t) (he : E[i]? = some (A, B, M)) (hAB : A ≠ B) (hM : M ≤ 10000) (h1 : t A B < 0 ∨ (M : Int) < t A B) : WaysF E P (i + 1) (setF (setF t A B M) B A M) := by
  have hj : Joined E A B M := .inl (List.mem_of_getElem? he)
  have r1 : Reach E A B M := by
    have := (Reach.nil (E := E) (a := A)).snoc hj
    rwa [Nat.zero_add] at this
  have val : ∀ x y, setF (setF t A B M) B A M x y = if (x = A ∧ y = B) ∨ (x = B ∧ y = A) then (M : Int) else t x y := by
    intro x y
    unfold setF
    by_cases e : x = B ∧ y = A
    · rw [if_pos e, if_pos (.inr e)]
    · rw [if_neg e]
      by_cases e2 : x = A ∧ y = B
      · rw [if_pos e2, if_pos (.inl e2)]
      · rw [if_neg e2, if_neg (by rintro (q | q) <;> contradiction)]
  refine ⟨(h.sound.set r1).set r1.turn, fun x y => ?_, fun x hx => ?_, fun x y hx hy => ?_, fun e hm => ?_⟩
  · rw [val, val]
    by_cases e : (x = A ∧ y = B) ∨ (x = B ∧ y = A)
    · rw [if_pos e, if_pos (by omega)]
    · rw [if_neg e, if_neg (by omega)]
      exact h.sym x y
  · rw [val, if_neg (by omega)]
    exact h.self x hx
  · rw [val]
    split
    · omega
    · exact h.under x y hx hy
  · rw [val]
    rcases take_mem he hm with q | rfl
    · have d := h.done e q
      by_cases c : (e.1 = A ∧ e.2.1 = B) ∨ (e.1 = B ∧ e.2.1 = A)
      · rw [if_pos c]
        have s := h.sym A B
        rcases c with ⟨c1, c2⟩ | ⟨c1, c2⟩ <;> rw [c1, c2] at d <;> omega
      · rw [if_neg c]
        exact d
    · rw [if_pos (.inl ⟨rfl, rfl⟩)]
      simp
theorem ways_end (h : WaysF E P E.length t) : CompF E P 0 t := by
  intro x y n hx hy hv
  cases hv with
  | nil => have := h.self x hx; omega
  | one j =>
    rcases j with j | j
    · exact h.done _ (by rw [List.take_length]; exact j)
    · have := h.done _ (by rw [List.take_length]; exact j)
      rw [h.sym]
      exact this
  | snoc _ hb _ => omega
end
/-! ### One place more that walks go by -/
/-- All pairs ahead of (a, b) are done. -/
structure PhaseF (E : List Edge) (P K : Nat) (B : Int) (t0 t : TabF) (a b : Nat) : Prop where
  sound : SoundF E P t
  le : ∀ x y, x < P → y < P → 0 ≤ t0 x y → 0 ≤ t x y ∧ t x y ≤ t0 x y
  far : ∀ x, x < P → (0 ≤ t x K → 0 ≤ t0 x K) ∧ (0 ≤ t K x → 0 ≤ t0 K x)
  under : UnderF P (2 * B) t
  done : ∀ x y, x < P → y < P → (x < a ∨ x = a ∧ y < b) → 0 ≤ t0 x K → 0 ≤ t0 K y → 0 ≤ t x y ∧ t x y ≤ t0 x K + t0 K y
section
variable {E : List Edge} {P K a b : Nat} {B : Int} {t0 t : TabF}
theorem phase_start (h : SoundF E P t0) (hB : 0 ≤ B) (hu : UnderF P B t0) : PhaseF E P K B t0 t0 0 0 :=
  ⟨h, fun x y _ _ q => ⟨q, Int.le_refl _⟩, fun x _ => ⟨id, id⟩, fun x y hx hy => by have := hu x y hx hy; omega, fun x y _ _ q => by omega⟩
theorem phase_skip (h : PhaseF E P K B t0 t a b) (hK : K < P) (ha : a < P) (hn : t a K < 0) : PhaseF E P K B t0 t (a + 1) 0 := by
  refine ⟨h.sound, h.le, h.far, h.under, fun x y hx hy q h1 h2 => ?_⟩
  by_cases e : x = a
  · subst e
    have := h.le x K hx hK h1
    omega
  · exact h.done x y hx hy (by omega) h1 h2
theorem phase_row (h : PhaseF E P K B t0 t a P) : PhaseF E P K B t0 t (a + 1) 0 :=
  ⟨h.sound, h.le, h.far, h.under, fun x y hx hy q h1 h2 => h.done x y hx hy (by omega) h1 h2⟩
theorem phase_none (h : PhaseF E P K B t0 t a b) (hK : K < P) (ha : a < P) (hb : b < P) (hn : t a K < 0 ∨ t K b < 0 ∨ (0 ≤ t a b ∧ t a b ≤ t a K + t K b)) : PhaseF E P K B t0 t a (b + 1) := by
  refine ⟨h.sound, h.le, h.far, h.under, fun x y hx hy q h1 h2 => ?_⟩
  by_cases e : x = a ∧ y = b
  · obtain ⟨rfl, rfl⟩ := e
    have g1 := h.le x K hx hK h1
    have g2 := h.le K y hK hy h2
    omega
  · exact h.done x y hx hy (by omega) h1 h2
theorem phase_set (h : PhaseF E P K B t0 t a b) (hK : K < P) (ha : a < P) (hb : b < P) (hu : UnderF P B t0) (h1 : 0 ≤ t a K) (h2 : 0 ≤ t K b) (h3 : t a b < 0 ∨ t a K + t K b < t a b) : PhaseF E P K B t0 (setF t a b (t a K + t K b)) a (b + 1) := by
  have f1 := (h.far a ha).1 h1
  have f2 := (h.far b hb).2 h2
  have l1 := h.le a K ha hK f1
  have l2 := h.le K b hK hb f2
  have u1 := hu a K ha hK
  have u2 := hu K b hK hb
  have hr : ∃ n : Nat, t a K + t K b = n ∧ Reach E a b n := by
    rcases h.sound a K ha hK with e | ⟨p, e, hp⟩
    · omega
    · rcases h.sound K b hK hb with e' | ⟨q, e', hq⟩
      · omega
      · exact ⟨p + q, by omega, hp.trans hq⟩
  obtain ⟨n, en, hn⟩ := hr
  refine ⟨by rw [en]; exact h.sound.set hn, fun x y hx hy q => ?_, fun x hx => ⟨fun q => ?_, fun q => ?_⟩, fun x y hx hy => ?_, fun x y hx hy q g1 g2 => ?_⟩
  · unfold setF
    by_cases e : x = a ∧ y = b
    · rw [if_pos e]
      obtain ⟨rfl, rfl⟩ := e
      have := h.le x y hx hy q
      omega
    · rw [if_neg e]
      exact h.le x y hx hy q
  · unfold setF at q
    by_cases e : x = a ∧ K = b
    · obtain ⟨rfl, rfl⟩ := e
      exact f1
    · rw [if_neg e] at q
      exact (h.far x hx).1 q
  · unfold setF at q
    by_cases e : K = a ∧ x = b
    · obtain ⟨rfl, rfl⟩ := e
      exact f2
    · rw [if_neg e] at q
      exact (h.far x hx).2 q
  · unfold setF
    split
    · omega
    · exact h.under x y hx hy
  · unfold setF
    by_cases e : x = a ∧ y = b
    · rw [if_pos e]
      obtain ⟨rfl, rfl⟩ := e
      omega
    · rw [if_neg e]
      exact h.done x y hx hy (by omega) g1 g2
theorem phase_end (h : PhaseF E P K B t0 t P 0) (hK : K < P) (hc : CompF E P K t0) : CompF E P (K + 1) t := by
  intro x y n hx hy hv
  rcases via_split hv with ⟨n', h1, h2⟩ | ⟨p, q, h1, h2, h3⟩
  · have c := hc x y n' hx hy h1
    have l := h.le x y hx hy c.1
    omega
  · have c1 := hc x K p hx hK h1
    have c2 := hc K y q hK hy h2
    have d := h.done x y hx hy (by omega) c1.1 c2.1
    omega
end
/-- No number of the table is above this, once walks go by the first K places. -/
def bndF (K : Nat) : Int := ((10000 * 2 ^ K : Nat) : Int)
theorem bnd_zero : bndF 0 = 10000 := rfl
theorem bnd_succ (K : Nat) : bndF (K + 1) = 2 * bndF K := by
  unfold bndF
  rw [Nat.pow_succ]
  omega
theorem bnd_pos (K : Nat) : 0 ≤ bndF K := by unfold bndF; omega
theorem bnd_most {K : Nat} (h : K ≤ 17) : bndF K ≤ 1310720000 := by
  have := Nat.pow_le_pow_right (show 0 < 2 by omega) h
  unfold bndF
  omega
/-! ### The ways of a setup -/
def edgeOf (r : List Int) : Edge := ((r.getD 0 0).toNat, (r.getD 1 0).toNat, (r.getD 2 0).toNat)
def edgesOf (l : List (List Int)) : List Edge := l.map edgeOf
theorem edges_among {p : Int} {P : Nat} {l : List (List Int)} (hp : p = P) (h : ∀ r ∈ l, wayP p r) : Among P (edgesOf l) := by
  intro e he
  obtain ⟨r, hr, rfl⟩ := List.mem_map.1 he
  have := h r hr
  unfold wayP at this
  simp only [edgeOf]
  omega
theorem edges_long {p : Int} {l : List (List Int)} (h : ∀ r ∈ l, wayP p r) : Longs (edgesOf l) := by
  intro e he
  obtain ⟨r, hr, rfl⟩ := List.mem_map.1 he
  have := h r hr
  unfold wayP at this
  simp only [edgeOf]
  omega
theorem edges_get {p : Int} {l : List (List Int)} {i : Nat} (hi : i < l.length) (h : ∀ r ∈ l, wayP p r) : ∃ A B M : Nat, (edgesOf l)[i]? = some (A, B, M) ∧ (l.getD i []).getD 0 0 = A ∧ (l.getD i []).getD 1 0 = B ∧ (l.getD i []).getD 2 0 = M ∧ (A : Int) < p ∧ (B : Int) < p ∧ A ≠ B ∧ 1 ≤ M ∧ M ≤ 10000 := by
  have hr : l.getD i [] ∈ l := by simp [List.getD, hi]
  have hw := h _ hr
  have e : l[i]? = some (l.getD i []) := by rw [List.getD_eq_getElem?_getD, List.getElem?_eq_getElem hi]; rfl
  unfold wayP at hw
  refine ⟨_, _, _, by unfold edgesOf; rw [List.getElem?_map, e]; rfl, ?_, ?_, ?_, ?_, ?_, ?_, ?_, ?_⟩ <;> omega
end Go.Proofs.Ytcnekicfblbafaa
