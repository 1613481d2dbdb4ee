/-
  The document's own cut of a day: span by span, by how much there was ahead. No program here.
-/
import Derived.Test.YthdolmhnjinlhaaGreatOvrP
namespace Go.Proofs.YthdolmhnjinlhaaGreat
set_option linter.unusedVariables false
set_option linter.unusedSimpArgs false
set_option maxRecDepth 20000

/-- Where a span is cut that has n seconds ahead, if x of all are on the one side. -/
def cutP (x n : Int) (s : Int × Int) : Int := s.1 + max 0 (min (s.2 - s.1) (x - n))
/-- Of spans with n seconds ahead: those from the x-th on, up to the y-th. -/
def cutG (x y : Int) : Int → List (Int × Int) → List (Int × Int)
  | _, [] => []
  | n, s :: l => (cutP x n s, cutP y n s) :: cutG x y (n + (s.2 - s.1)) l
theorem cutG_len (x y : Int) : ∀ (n : Int) (l : List (Int × Int)), (cutG x y n l).length = l.length
  | _, [] => rfl
  | n, s :: l => by simp [cutG, cutG_len x y (n + (s.2 - s.1)) l]
theorem cutG_snoc (x y : Int) (s : Int × Int) : ∀ (n : Int) (l : List (Int × Int)), cutG x y n (l ++ [s]) = cutG x y n l ++ [(cutP x (n + szL l) s, cutP y (n + szL l) s)]
  | n, [] => by
    have e : szL [] = 0 := rfl
    simp [cutG, e]
  | n, u :: l => by
    have ih := cutG_snoc x y s (n + (u.2 - u.1)) l
    have e : n + (u.2 - u.1) + szL l = n + szL (u :: l) := by rw [szL_cons]; omega
    rw [e] at ih
    rw [List.cons_append, cutG, ih, cutG, List.cons_append]
theorem cutP_zero {n : Int} {s : Int × Int} (hn : 0 ≤ n) (hs : s.1 ≤ s.2) : cutP 0 n s = s.1 := by unfold cutP; omega
theorem cutP_top {n B : Int} {s : Int × Int} (h : n + (s.2 - s.1) ≤ B) (hs : s.1 ≤ s.2) : cutP B n s = s.2 := by unfold cutP; omega
theorem below_pos : ∀ {l : List (Int × Int)} {h : Int}, 0 ≤ below l h
  | [], _ => by simp [below]
  | s :: l, h => by have := below_pos (l := l) (h := h); rw [below_cons]; omega
theorem cut_one {x y n a b t z : Int} (hab : a < b) (hz : 0 ≤ z) (hx : 0 ≤ x) : (a + max 0 (min (b - a) (x - n)) ≤ t ∧ t < a + max 0 (min (b - a) (y - n))) → a ≤ t ∧ t < b ∧ x ≤ n + (t - a) ∧ n + (t - a) < y := by
  intro q
  have h1 : a ≤ t := by omega
  have h2 : t < b := by omega
  refine ⟨h1, h2, ?_, ?_⟩ <;> omega
theorem cut_two {x y n a b t : Int} (h1 : a ≤ t) (h2 : t < b) (h3 : x ≤ n + (t - a)) (h4 : n + (t - a) < y) : a + max 0 (min (b - a) (x - n)) ≤ t ∧ t < a + max 0 (min (b - a) (y - n)) := by
  constructor <;> omega
theorem cutG_in {x y : Int} (hx : 0 ≤ x) : ∀ {l : List (Int × Int)} {a n t : Int}, PlainFrom a l → (In (cutG x y n l) t ↔ In l t ∧ x ≤ n + below l t ∧ n + below l t < y)
  | [], a, n, t, _ => by simp [cutG, in_nil]
  | s :: l, a, n, t, ⟨h1, h2, h3, h4⟩ => by
    rw [cutG, in_cons, cutG_in hx h4, in_cons, below_cons]
    by_cases hs : t < s.2
    · have hz : below l t = 0 := below_zero h4 (by omega)
      have hl : ¬ In l t := fun q => by obtain ⟨u, hu, u1, _⟩ := q; have := (plain_pairs.1 h4).1 u hu; omega
      rw [hz]
      simp only [hl, false_and, or_false]
      unfold cutP
      constructor
      · intro q
        obtain ⟨q1, q2, q3, q4⟩ := cut_one (z := 0) h2 (by omega) hx q
        exact ⟨⟨q1, q2⟩, by omega, by omega⟩
      · rintro ⟨⟨q1, q2⟩, q3, q4⟩
        exact cut_two q1 q2 (by omega) (by omega)
    · have e : max 0 (min s.2 t - s.1) = s.2 - s.1 := by omega
      rw [e]
      have hp : ¬ (cutP x n s ≤ t ∧ t < cutP y n s) := fun q => by
        obtain ⟨q1, q2, _, _⟩ := cut_one (z := 0) h2 (by omega) hx q
        omega
      simp only [hp, false_or]
      constructor
      · rintro ⟨q1, q2, q3⟩
        exact ⟨.inr q1, by omega, by omega⟩
      · rintro ⟨q1 | q1, q2, q3⟩
        · omega
        · exact ⟨q1, by omega, by omega⟩
theorem below_in {l : List (Int × Int)} (hl : PlainFrom 0 l) {t : Int} (h0 : 0 ≤ t) (h1 : t < 32054400) : below l t = cnt (In l) t.toNat := by
  have e := below_canon (In l) t.toNat (by omega)
  rw [canon_self hl, show ((t.toNat : Nat) : Int) = t by omega] at e
  exact e
/-- What the three lists of a day have: its first x; those behind, up to the y-th; the others. -/
theorem cut_set {x y : Int} (hx : 0 ≤ x) {l : List (Int × Int)} (hl : PlainFrom 0 l) {t : Int} (h0 : 0 ≤ t) (h1 : t < 32054400) : In (cutG x y 0 l) t ↔ fstS (In l) y t ∧ ¬ fstS (In l) x t := by
  rw [cutG_in hx hl, below_in hl h0 h1, Int.zero_add]
  unfold fstS
  constructor
  · rintro ⟨q1, q2, q3⟩; exact ⟨⟨q1, q3⟩, fun z => by have := z.2; omega⟩
  · rintro ⟨⟨q1, q3⟩, q2⟩; exact ⟨q1, Classical.byContradiction fun z => q2 ⟨q1, by omega⟩, q3⟩
theorem cut_fits {x y n : Int} : ∀ {l : List (Int × Int)} {a : Int}, 0 ≤ a → PlainFrom a l → Fits (cutG x y n l)
  | [], _, _, _ => Fits.nil
  | s :: l, a, h, ⟨h1, h2, h3, h4⟩ => fun u hu => by
    rw [cutG] at hu
    rcases List.mem_cons.1 hu with rfl | hu
    · unfold cutP Fit
      simp only []
      omega
    · exact cut_fits (by omega) h4 u hu
end Go.Proofs.YthdolmhnjinlhaaGreat
