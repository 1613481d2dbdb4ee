/-
  Setups read off a list of numbers, place by place. No program here.
-/
import Derived.Test.YtdhkfhgggkndoaaSetPlain
namespace Go.Proofs.Ytdhkfhgggkndoaa
set_option linter.unusedVariables false
set_option linter.unusedSimpArgs false

def atL (l : List Int) (i : Nat) : Int := l.getD i 0
def manyL (l : List Int) (i : Nat) : Nat := (min (atL l i) 100).toNat
def rowsAt (l : List Int) (p k n : Nat) : Rows2 := (List.range n).map fun i => (List.range k).map fun j => atL l (p + k * i + j)
theorem at_drop {l u : List Int} {p : Nat} (h : l.drop p = u) (j : Nat) : atL l (p + j) = u.getD j 0 := by
  rw [← h, atL, List.getD_eq_getElem?_getD, List.getD_eq_getElem?_getD, List.getElem?_drop]
theorem rows_len {k : Nat} : ∀ (t : Rows2), (∀ r ∈ t, r.length = k) → t.flatten.length = k * t.length
  | [], _ => by simp
  | r :: t, h => by
    have h1 := rows_len t (fun q hq => h q (by simp [hq]))
    have h2 := h r (by simp)
    rw [List.flatten_cons, List.length_append, h1, h2, List.length_cons, Nat.mul_add]
    omega
theorem rows_get {k : Nat} : ∀ (t : Rows2), (∀ r ∈ t, r.length = k) → ∀ i j, i < t.length → j < k → ∀ v : List Int, (t.flatten ++ v).getD (k * i + j) 0 = (t.getD i []).getD j 0
  | [], _, i, j, hi, _, v => by simp at hi
  | r :: t, h, i, j, hi, hj, v => by
    have h2 := h r (by simp)
    rw [List.flatten_cons, List.append_assoc]
    rcases i with _ | i
    · rw [Nat.mul_zero, Nat.zero_add, List.getD_eq_getElem?_getD, List.getElem?_append_left (by omega)]
      simp [List.getD]
    · have h3 := rows_get t (fun q hq => h q (by simp [hq])) i j (by simpa using hi) hj v
      rw [List.getD_eq_getElem?_getD, List.getElem?_append_right (by rw [h2, Nat.mul_add]; omega), h2, show k * (i + 1) + j - k = k * i + j by rw [Nat.mul_add]; omega, ← List.getD_eq_getElem?_getD, h3]
      simp [List.getD]
theorem rows_drop {l v : List Int} {p k : Nat} {t : Rows2} (h : l.drop p = t.flatten ++ v) (hw : ∀ r ∈ t, r.length = k) : rowsAt l p k t.length = t := by
  apply List.ext_getElem
  · simp [rowsAt]
  · intro i h1 h2
    have hr := hw t[i] (List.getElem_mem h2)
    simp only [rowsAt, List.getElem_map, List.getElem_range]
    apply List.ext_getElem
    · simp [hr]
    · intro j h3 h4
      simp only [List.getElem_map, List.getElem_range]
      rw [Nat.add_assoc, at_drop h, rows_get t hw i j h2 (by omega)]
      simp [List.getD, h2, h4]
theorem next_drop {l v : List Int} {p k : Nat} {t : Rows2} (h : l.drop p = t.flatten ++ v) (hw : ∀ r ∈ t, r.length = k) : l.drop (p + k * t.length) = v := by
  rw [← List.drop_drop, h, ← rows_len t hw, List.drop_append_of_le_length (Nat.le_refl _), List.drop_of_length_le (Nat.le_refl _), List.nil_append]
theorem drop_more {l u : List Int} {p : Nat} (h : l.drop p = u) (j : Nat) : l.drop (p + j) = u.drop j := by rw [← List.drop_drop, h]
theorem many_of {l : List Int} {i n : Nat} (h : atL l i = (n : Int)) (hn : n ≤ 100) : manyL l i = n := by
  unfold manyL
  rw [h]
  omega
def parseR (l : List Int) : SetP :=
  let n1 := manyL l 1
  let p1 := 2 + 3 * n1
  let n2 := manyL l (p1 + 2)
  let p2 := p1 + 3 + 4 * n2
  let n3 := manyL l p2
  let p3 := p2 + 1 + 2 * n3
  let n4 := manyL l p3
  let p4 := p3 + 1 + 2 * n4
  let n5 := manyL l (p4 + 11)
  let p5 := p4 + 12 + n5
  let n6 := manyL l (p5 + 3)
  ⟨atL l 0, rowsAt l 2 3 n1, atL l p1, atL l (p1 + 1), rowsAt l (p1 + 3) 4 n2, rowsAt l (p2 + 1) 2 n3, rowsAt l (p3 + 1) 2 n4,
    atL l p4, atL l (p4 + 1), atL l (p4 + 2), atL l (p4 + 3), atL l (p4 + 4), atL l (p4 + 5), atL l (p4 + 6), atL l (p4 + 7), atL l (p4 + 8), atL l (p4 + 9), atL l (p4 + 10),
    (List.range n5).map (fun i => atL l (p4 + 12 + i)), atL l p5, atL l (p5 + 1), atL l (p5 + 2), rowsAt l (p5 + 4) 2 n6⟩
theorem nums_drop {l u v : List Int} {p : Nat} (h : l.drop p = u ++ v) : (List.range u.length).map (fun i => atL l (p + i)) = u ∧ l.drop (p + u.length) = v := by
  constructor
  · apply List.ext_getElem
    · simp
    · intro i h1 h2
      simp only [List.getElem_map, List.getElem_range]
      rw [at_drop h, List.getD_eq_getElem?_getD, List.getElem?_append_left h2]
      simp [h2]
  · rw [← List.drop_drop, h, List.drop_append_of_le_length (Nat.le_refl _), List.drop_of_length_le (Nat.le_refl _), List.nil_append]
structure SetP.Short (s : SetP) : Prop where
  ways : s.ways.length ≤ 100
  elements : s.elements.length ≤ 100
  classes : s.classes.length ≤ 100
  gears : s.gears.length ≤ 100
  rates : s.rates.length ≤ 100
  tiers : s.tiers.length ≤ 100
theorem may_short {s : SetP} (h : s.May) : s.Short := ⟨by have := h.ways.1; omega, by have := h.elements.1; omega, by have := h.classes.1; omega, by have := h.gears.1; omega, by have := h.rates.2.1; omega, by have := h.tiers.1; omega⟩
theorem parse_nums {s : SetP} (hw : s.Wide) (h : s.Short) : parseR s.nums = s := by
  have d0 : s.nums.drop 0 = s.nums := rfl
  have a0 : atL s.nums 0 = s.places := rfl
  have n1 : manyL s.nums 1 = s.ways.length := many_of rfl h.ways
  have d1 : s.nums.drop 2 = s.ways.flatten ++ _ := rfl
  have w1 := rows_drop d1 hw.ways
  have d2 := next_drop d1 hw.ways
  have n2 : manyL s.nums (2 + 3 * s.ways.length + 2) = s.elements.length := many_of (at_drop d2 2) h.elements
  have d3 := drop_more d2 3
  simp only [List.drop_succ_cons, List.drop_zero] at d3
  have w3 := rows_drop d3 hw.elements
  have d4 := next_drop d3 hw.elements
  have n3 : manyL s.nums (2 + 3 * s.ways.length + 3 + 4 * s.elements.length) = s.classes.length := many_of (at_drop d4 0) h.classes
  have d5 := drop_more d4 1
  simp only [List.drop_succ_cons, List.drop_zero] at d5
  have w5 := rows_drop d5 hw.classes
  have d6 := next_drop d5 hw.classes
  have n4 : manyL s.nums (2 + 3 * s.ways.length + 3 + 4 * s.elements.length + 1 + 2 * s.classes.length) = s.gears.length := many_of (at_drop d6 0) h.gears
  have d7 := drop_more d6 1
  simp only [List.drop_succ_cons, List.drop_zero] at d7
  have w7 := rows_drop d7 hw.gears
  have d8 := next_drop d7 hw.gears
  have n5 : manyL s.nums (2 + 3 * s.ways.length + 3 + 4 * s.elements.length + 1 + 2 * s.classes.length + 1 + 2 * s.gears.length + 11) = s.rates.length := many_of (at_drop d8 11) h.rates
  have d9 := drop_more d8 12
  simp only [List.drop_succ_cons, List.drop_zero] at d9
  obtain ⟨w9, d10⟩ := nums_drop d9
  have n6 : manyL s.nums (2 + 3 * s.ways.length + 3 + 4 * s.elements.length + 1 + 2 * s.classes.length + 1 + 2 * s.gears.length + 12 + s.rates.length + 3) = s.tiers.length := many_of (at_drop d10 3) h.tiers
  have d11 := drop_more d10 4
  simp only [List.drop_succ_cons, List.drop_zero] at d11
  have w11 := rows_drop (v := []) (by rw [List.append_nil]; exact d11) hw.tiers
  have q2 := at_drop d2
  have q8 := at_drop d8
  have q10 := at_drop d10
  unfold parseR
  simp only [n1, n2, n3, n4, n5, n6, w1, w3, w5, w7, w9, w11, a0]
  have e20 := q2 0
  have e80 := q8 0
  have e100 := q10 0
  simp only [Nat.add_zero] at e20 e80 e100
  rw [e20, q2 1, e80, q8 1, q8 2, q8 3, q8 4, q8 5, q8 6, q8 7, q8 8, q8 9, q8 10, e100, q10 1, q10 2]
  rfl
/-- What the document's own Read tells: off the numbers that bytes are (none, if they are none). -/
theorem read_ref (b : List (BitVec 8)) (hw : (parseR ((allNum (b.length + 1) b).getD [])).Wide) :
    (∀ s, readS b = some s → s = parseR ((allNum (b.length + 1) b).getD []) ∧ s.May ∧ s.bytes = b) ∧
    (readS b = none → ¬ ((parseR ((allNum (b.length + 1) b).getD [])).May ∧ (parseR ((allNum (b.length + 1) b).getD [])).bytes = b)) := by
  constructor
  · intro s hs
    obtain ⟨hg, rfl⟩ := read_own hs
    have e : allNum (s.bytes.length + 1) s.bytes = some s.nums := allNum_bytes s.nums (nums_ok hg.1 hg.2) _ (by show (bytesN s.nums).length < (bytesN s.nums).length + 1; omega)
    rw [e]
    exact ⟨(parse_nums hg.1 (may_short hg.2)).symm, hg.2, rfl⟩
  · rintro hn ⟨h1, h2⟩
    exact read_not hn ⟨hw, h1⟩ h2
theorem rowsAt_wide (l : List Int) (p k n : Nat) : ∀ r ∈ rowsAt l p k n, r.length = k := by
  intro r hr
  simp only [rowsAt, List.mem_map] at hr
  obtain ⟨i, _, rfl⟩ := hr
  simp
theorem parse_wide (l : List Int) : (parseR l).Wide := ⟨rowsAt_wide _ _ _ _, rowsAt_wide _ _ _ _, rowsAt_wide _ _ _ _, rowsAt_wide _ _ _ _, rowsAt_wide _ _ _ _⟩
end Go.Proofs.Ytdhkfhgggkndoaa
