/-
  Package setup: all of a setup, where it is read.
-/
import Derived.Test.YtdhkfhgggkndoaaSetU
namespace Go.Proofs.Ytdhkfhgggkndoaa
open Go.RowKit
set_option linter.unusedVariables false
set_option linter.unusedSimpArgs false
set_option maxRecDepth 20000

/-! ### Without the program -/
def rdS0 (l : List (BitVec 8)) := rdk 1 l
def rdS1 (l : List (BitVec 8)) := rdL 3 (rdS0 l).2
def rdS2 (l : List (BitVec 8)) := rdk 2 (rdS1 l).2
def rdS3 (l : List (BitVec 8)) := rdL 4 (rdS2 l).2
def rdS4 (l : List (BitVec 8)) := rdL 2 (rdS3 l).2
def rdS5 (l : List (BitVec 8)) := rdL 2 (rdS4 l).2
def rdS6 (l : List (BitVec 8)) := rdk 11 (rdS5 l).2
def rdS7 (l : List (BitVec 8)) := rdL 1 (rdS6 l).2
def rdS8 (l : List (BitVec 8)) := rdk 3 (rdS7 l).2
def rdS9 (l : List (BitVec 8)) := rdL 2 (rdS8 l).2
/-- The setup that bytes may be. -/
def rdS (l : List (BitVec 8)) : SetP :=
  ⟨(((rdS0 l).1.getD 0 0 : Nat) : Int), (rdS1 l).1, (((rdS2 l).1.getD 0 0 : Nat) : Int), (((rdS2 l).1.getD 1 0 : Nat) : Int), (rdS3 l).1, (rdS4 l).1, (rdS5 l).1, (((rdS6 l).1.getD 0 0 : Nat) : Int), (((rdS6 l).1.getD 1 0 : Nat) : Int), (((rdS6 l).1.getD 2 0 : Nat) : Int), (((rdS6 l).1.getD 3 0 : Nat) : Int), (((rdS6 l).1.getD 4 0 : Nat) : Int), (((rdS6 l).1.getD 5 0 : Nat) : Int), (((rdS6 l).1.getD 6 0 : Nat) : Int), (((rdS6 l).1.getD 7 0 : Nat) : Int), (((rdS6 l).1.getD 8 0 : Nat) : Int), (((rdS6 l).1.getD 9 0 : Nat) : Int), (((rdS6 l).1.getD 10 0 : Nat) : Int), (rdS7 l).1.flatten, (((rdS8 l).1.getD 0 0 : Nat) : Int), (((rdS8 l).1.getD 1 0 : Nat) : Int), (((rdS8 l).1.getD 2 0 : Nat) : Int), (rdS9 l).1⟩
theorem natsI_toNat {r : List Int} (h : okN r) : natsI (r.map Int.toNat) = r := by
  unfold natsI
  rw [List.map_map]
  conv => rhs; rw [← List.map_id r]
  apply List.map_congr_left
  intro z hz
  have := h z hz
  show ((z.toNat : Nat) : Int) = z
  omega
theorem rdRows_ok (k : Nat) : ∀ (n : Nat) (t : Rows2), t.length = n → (∀ r ∈ t, r.length = k) → okN t.flatten → ∀ r, rdRows k n (bytesN t.flatten ++ r) = (t, r) := by
  intro n
  induction n with
  | zero =>
    intro t hl hw ho r
    obtain rfl := List.eq_nil_of_length_eq_zero hl
    simp [rdRows, bytesN, putB]
  | succ n ih =>
    intro t hl hw ho r
    have hne : t ≠ [] := by rintro rfl; simp at hl
    obtain ⟨u, m, rfl⟩ : ∃ u m, t = u ++ [m] := ⟨t.dropLast, t.getLast hne, (List.dropLast_concat_getLast hne).symm⟩
    have hk : u.length = n := by simpa using hl
    have hm : m.length = k := hw m (by simp)
    have hmo : okN m := fun z hz => ho z (by simp [hz])
    have e : bytesN (u ++ [m]).flatten ++ r = bytesN u.flatten ++ (putB (m.map Int.toNat) ++ r) := by simp [bytesN, putB]
    rw [e, rdRows, ih u hk (fun r h => hw r (by simp [h])) (fun z hz => ho z (by simp only [List.flatten_append, List.mem_append]; exact .inl hz)) _]
    simp only
    have q := rdk_ok (m.map Int.toNat) (fun z hz => by
      simp only [List.mem_map] at hz
      obtain ⟨y, hy, rfl⟩ := hz
      have := hmo y hy
      omega) r
    rw [List.length_map, hm] at q
    rw [q]
    simp only
    rw [natsI_toNat hmo]
theorem rdL_ok (k : Nat) (t : Rows2) (h64 : t.length ≤ 64) (hw : ∀ r ∈ t, r.length = k) (ho : okN t.flatten) (r : List (BitVec 8)) : rdL k (bytesN ((t.length : Int) :: t.flatten) ++ r) = (t, r) := by
  have e : bytesN ((t.length : Int) :: t.flatten) ++ r = oneB t.length ++ (bytesN t.flatten ++ r) := by rw [bytesN_cons]; simp
  unfold rdL
  rw [e, rd1_ok (by omega)]
  simp only
  rw [if_neg (by omega)]
  exact rdRows_ok k _ t rfl hw ho r
theorem rdk_at (ns : List Nat) (k : Nat) (hk : ns.length = k) (h : ∀ n ∈ ns, n < 9223372036854775808) (r : List (BitVec 8)) : rdk k (putB ns ++ r) = (ns, r) := by
  subst hk
  exact rdk_ok ns h r
theorem rdS_back {s : SetP} (hg : s.Good) : rdS s.bytes = s := by
  have hm := hg.2
  have hok := nums_ok hg.1 hg.2
  obtain ⟨ok1, ok2, ok3, ok4, ok5, ok6⟩ := sub_ok hok
  have e := parts_bytes s
  have q0 : rdS0 s.bytes = ([s.places.toNat], (s.parts.drop 1).flatten) := by
    have z := rdk_at [s.places.toNat] 1 rfl (fun n hn => by
      simp only [List.mem_cons, List.not_mem_nil, or_false] at hn
      rcases hn with rfl
      · have h1 := hm.places.1; have h2 := hm.places.2; omega) ((s.parts.drop 1).flatten)
    unfold rdS0
    rw [← e]
    exact z
  have q1 : rdS1 s.bytes = (s.ways, (s.parts.drop 2).flatten) := by
    have z := rdL_ok 3 s.ways (by have := hm.ways.1; omega) hg.1.ways ok1 ((s.parts.drop 2).flatten)
    unfold rdS1
    rw [q0]
    exact z
  have q2 : rdS2 s.bytes = ([s.pn.toNat, s.pd.toNat], (s.parts.drop 3).flatten) := by
    have z := rdk_at [s.pn.toNat, s.pd.toNat] 2 rfl (fun n hn => by
      simp only [List.mem_cons, List.not_mem_nil, or_false] at hn
      rcases hn with rfl | rfl
      · have h1 := (share_bd hm.pace).1; have h2 := (share_bd hm.pace).2.1; omega
      · have h1 := (share_bd hm.pace).2.2.1; have h2 := (share_bd hm.pace).2.2.2; omega) ((s.parts.drop 3).flatten)
    unfold rdS2
    rw [q1]
    exact z
  have q3 : rdS3 s.bytes = (s.elements, (s.parts.drop 4).flatten) := by
    have z := rdL_ok 4 s.elements (by have := hm.elements.1; omega) hg.1.elements ok2 ((s.parts.drop 4).flatten)
    unfold rdS3
    rw [q2]
    exact z
  have q4 : rdS4 s.bytes = (s.classes, (s.parts.drop 5).flatten) := by
    have z := rdL_ok 2 s.classes (by have := hm.classes.1; omega) hg.1.classes ok3 ((s.parts.drop 5).flatten)
    unfold rdS4
    rw [q3]
    exact z
  have q5 : rdS5 s.bytes = (s.gears, (s.parts.drop 6).flatten) := by
    have z := rdL_ok 2 s.gears (by have := hm.gears.1; omega) hg.1.gears ok4 ((s.parts.drop 6).flatten)
    unfold rdS5
    rw [q4]
    exact z
  have q6 : rdS6 s.bytes = ([s.allow.toNat, s.unit.toNat, s.cap.toNat, s.paid.toNat, s.aft.toNat, s.brk.toNat, s.reg.toNat, s.over.toNat, s.week.toNat, s.nfrom.toNat, s.nto.toNat], (s.parts.drop 7).flatten) := by
    have z := rdk_at [s.allow.toNat, s.unit.toNat, s.cap.toNat, s.paid.toNat, s.aft.toNat, s.brk.toNat, s.reg.toNat, s.over.toNat, s.week.toNat, s.nfrom.toNat, s.nto.toNat] 11 rfl (fun n hn => by
      simp only [List.mem_cons, List.not_mem_nil, or_false] at hn
      rcases hn with rfl | rfl | rfl | rfl | rfl | rfl | rfl | rfl | rfl | rfl | rfl
      · have h1 := hm.allow.1; have h2 := hm.allow.2; omega
      · have h1 := hm.unit.1; have h2 := hm.unit.2; omega
      · have h1 := hm.cap.1; have h2 := hm.cap.2; omega
      · have h1 := hm.paid.1; have h2 := hm.paid.2; omega
      · have h1 := hm.aft.1; have h2 := hm.aft.2; omega
      · have h1 := hm.brk.1; have h2 := hm.brk.2; omega
      · have h1 := hm.reg.1; have h2 := (Int.le_trans hm.reg.2 hm.over); omega
      · have h1 := (Int.le_trans hm.reg.1 hm.reg.2); have h2 := hm.over; omega
      · have h1 := hm.week.1; have h2 := hm.week.2; omega
      · have h1 := hm.nfrom.1; have h2 := hm.nfrom.2; omega
      · have h1 := hm.nto.1; have h2 := hm.nto.2; omega) ((s.parts.drop 7).flatten)
    unfold rdS6
    rw [q5]
    exact z
  have q7 : rdS7 s.bytes = ((s.rates.map fun n => [n]), (s.parts.drop 8).flatten) := by
    have z := rdL_ok 1 (s.rates.map fun n => [n]) (by have := hm.rates.2.1; rw [List.length_map]; omega) (fun r hr => by simp only [List.mem_map] at hr; obtain ⟨n, _, rfl⟩ := hr; rfl) (by rw [flat_ones]; exact ok5) ((s.parts.drop 8).flatten)
    rw [flat_ones, List.length_map] at z
    unfold rdS7
    rw [q6]
    exact z
  have q8 : rdS8 s.bytes = ([s.diff.toNat, s.least.toNat, s.fault.toNat], (s.parts.drop 9).flatten) := by
    have z := rdk_at [s.diff.toNat, s.least.toNat, s.fault.toNat] 3 rfl (fun n hn => by
      simp only [List.mem_cons, List.not_mem_nil, or_false] at hn
      rcases hn with rfl | rfl | rfl
      · have h1 := hm.diff.1; have h2 := hm.diff.2; omega
      · have h1 := hm.least.1; have h2 := hm.least.2; omega
      · have h1 := hm.fault.1; have h2 := hm.fault.2; omega) ((s.parts.drop 9).flatten)
    unfold rdS8
    rw [q7]
    exact z
  have q9 : rdS9 s.bytes = (s.tiers, (s.parts.drop 10).flatten) := by
    have z := rdL_ok 2 s.tiers (by have := hm.tiers.1; omega) hg.1.tiers ok6 ((s.parts.drop 10).flatten)
    unfold rdS9
    rw [q8]
    exact z
  unfold rdS
  rw [q0, q1, q2, q3, q4, q5, q6, q7, q8, q9]
  have u : ∀ z : Int, 0 ≤ z → ((z.toNat : Nat) : Int) = z := fun z h => by omega
  simp only [List.getD_cons_zero, List.getD_cons_succ, flat_ones]
  rw [u s.places (by have h1 := hm.places.1; omega), u s.pn (by have h1 := (share_bd hm.pace).1; omega), u s.pd (by have h1 := (share_bd hm.pace).2.2.1; omega), u s.allow (by have h1 := hm.allow.1; omega), u s.unit (by have h1 := hm.unit.1; omega), u s.cap (by have h1 := hm.cap.1; omega), u s.paid (by have h1 := hm.paid.1; omega), u s.aft (by have h1 := hm.aft.1; omega), u s.brk (by have h1 := hm.brk.1; omega), u s.reg (by have h1 := hm.reg.1; omega), u s.over (by have h1 := (Int.le_trans hm.reg.1 hm.reg.2); omega), u s.week (by have h1 := hm.week.1; omega), u s.nfrom (by have h1 := hm.nfrom.1; omega), u s.nto (by have h1 := hm.nto.1; omega), u s.diff (by have h1 := hm.diff.1; omega), u s.least (by have h1 := hm.least.1; omega), u s.fault (by have h1 := hm.fault.1; omega)]
theorem rdS_wide (l : List (BitVec 8)) : (rdS l).Wide := by
  have h1 : ∀ r ∈ (rdS1 l).1, r.length = 3 := by unfold rdS1; exact (rdL_len 3 (rdS0 l).2).2.2.1
  have h3 : ∀ r ∈ (rdS3 l).1, r.length = 4 := by unfold rdS3; exact (rdL_len 4 (rdS2 l).2).2.2.1
  have h4 : ∀ r ∈ (rdS4 l).1, r.length = 2 := by unfold rdS4; exact (rdL_len 2 (rdS3 l).2).2.2.1
  have h5 : ∀ r ∈ (rdS5 l).1, r.length = 2 := by unfold rdS5; exact (rdL_len 2 (rdS4 l).2).2.2.1
  have h9 : ∀ r ∈ (rdS9 l).1, r.length = 2 := by unfold rdS9; exact (rdL_len 2 (rdS8 l).2).2.2.1
  constructor <;> simp only [rdS]
  · exact h1
  · exact h3
  · exact h4
  · exact h5
  · exact h9
theorem rdS7_wide (l : List (BitVec 8)) : ∀ r ∈ (rdS7 l).1, r.length = 1 := by unfold rdS7; exact (rdL_len 1 (rdS6 l).2).2.2.1
theorem getD_bd {ns : List Nat} (h : ∀ n ∈ ns, n < 9223372036854775808) (j : Nat) : In64 ((ns.getD j 0 : Nat) : Int) := by
  rcases Nat.lt_or_ge j ns.length with q | q
  · have := h (ns.getD j 0) (by simp [List.getD, q])
    constructor <;> omega
  · simp [List.getD, List.getElem?_eq_none q, In64]
theorem rdS_fit (l : List (BitVec 8)) : (rdS l).Fit := by
  have h0 : ∀ j, In64 (((rdS0 l).1.getD j 0 : Nat) : Int) := by unfold rdS0; exact getD_bd (rdk_bd _ _)
  have h2 : ∀ j, In64 (((rdS2 l).1.getD j 0 : Nat) : Int) := by unfold rdS2; exact getD_bd (rdk_bd _ _)
  have h6 : ∀ j, In64 (((rdS6 l).1.getD j 0 : Nat) : Int) := by unfold rdS6; exact getD_bd (rdk_bd _ _)
  have h8 : ∀ j, In64 (((rdS8 l).1.getD j 0 : Nat) : Int) := by unfold rdS8; exact getD_bd (rdk_bd _ _)
  constructor <;> simp only [rdS]
  · exact h0 _
  · exact h2 _
  · exact h2 _
  · exact h6 _
  · exact h6 _
  · exact h6 _
  · exact h6 _
  · exact h6 _
  · exact h6 _
  · exact h6 _
  · exact h6 _
  · exact h6 _
  · exact h6 _
  · exact h6 _
  · exact h8 _
  · exact h8 _
  · exact h8 _
/-- Read is asked the setup that bytes may be for its own bytes. -/
theorem rdS_read (l : List (BitVec 8)) : readS l = (open Classical in if (rdS l).May ∧ (rdS l).bytes = l then some (rdS l) else none) := by
  by_cases h : (rdS l).May ∧ (rdS l).bytes = l
  · rw [if_pos h]
    have := read_back (s := rdS l) ⟨rdS_wide l, h.1⟩
    rw [h.2] at this
    exact this
  · rw [if_neg h]
    refine read_none fun s hs e => h ?_
    subst e
    rw [rdS_back hs]
    exact ⟨hs.2, rfl⟩
/-! ### What reads, step by step -/
structure TabD where
  k : Nat
  A : Option Addr
  n : Nat
  c : Nat
  rows : Rows2
def Pens (g p2 p4 p5 : Nat) (w : World) : Prop := w.cell? ⟨p2, 0, none⟩ = some (.iface 65 (.pointer (some ⟨g, 0, none⟩))) ∧ w.cell? ⟨p4, 0, none⟩ = some (.func (.func 61) #[] #[.pointer (some ⟨p2, 0, none⟩)]) ∧ w.cell? ⟨p5, 0, none⟩ = some (.func (.func 62) #[] #[.pointer (some ⟨p4, 0, none⟩)])
theorem Pens.keep {g p2 p4 p5 : Nat} {w w' : World} (h : Pens g p2 p4 p5 w) (hb : Below w.heap.size w w') : Pens g p2 p4 p5 w' :=
  ⟨(hb.cell (p := ⟨p2, 0, none⟩) (cell_lt h.1)).trans h.1, (hb.cell (p := ⟨p4, 0, none⟩) (cell_lt h.2.1)).trans h.2.1, (hb.cell (p := ⟨p5, 0, none⟩) (cell_lt h.2.2)).trans h.2.2⟩
def z23 : Array Value := #[.int .i64 0, .slice none 0 0, .int .i64 0, .int .i64 0, .slice none 0 0, .slice none 0 0, .slice none 0 0, .int .i64 0, .int .i64 0, .int .i64 0, .int .i64 0, .int .i64 0, .int .i64 0, .int .i64 0, .int .i64 0, .int .i64 0, .int .i64 0, .int .i64 0, .slice none 0 0, .int .i64 0, .int .i64 0, .int .i64 0, .slice none 0 0]
/-- What reads, with the cells o and behind as they were made. -/
structure RS (R0 : World) (g p2 p4 p5 B q0 : Nat) (c0 : Array Value) (o : Nat) (cs : Array Value) (l : List (BitVec 8)) (ts : List TabD) (w : World) : Prop where
  ex : ∃ F : Nat → Prop, (F p2 ∧ F p4 ∧ F p5 ∧ F B ∧ F q0) ∧ RPen R0 F g l w ∧ ∀ t ∈ ts, Tab t.k w t.A t.n t.c t.rows ∧ (0 < t.n → ∀ a, t.A = some a → F a.block ∧ a.block ≠ B ∧ a.block ≠ q0)
  pens : Pens g p2 p4 p5 w
  ne : p2 ≠ B ∧ p4 ≠ B ∧ p5 ≠ B ∧ q0 ≠ B
  own : R0.heap.size ≤ B
  has : Has w B cs
  res : Has w q0 c0
  rest : ∀ i, o ≤ i → cs[i]? = z23[i]?
  len : l.length ≤ 1000000
section
variable {R0 : World} {g p2 p4 p5 B q0 : Nat} {c0 : Array Value} {o o' : Nat} {cs cs' : Array Value} {l l' : List (BitVec 8)} {ts t1 : List TabD} {w w' : World}
theorem RS.keep (h : RS R0 g p2 p4 p5 B q0 c0 o cs l ts w) (hb : Below w.heap.size w w') : RS R0 g p2 p4 p5 B q0 c0 o cs l ts w' := by
  obtain ⟨⟨F, f1, f2, f3⟩, h2, h3, h4, h5, h6, h7, h8⟩ := h
  exact ⟨⟨F, f1, f2.keep hb, fun t ht => ⟨(f3 t ht).1.below hb, (f3 t ht).2⟩⟩, h2.keep hb, h3, h4, h5.below hb, h6.below hb, h7, h8⟩
theorem RS.step {F G : Nat → Prop} (hFG : ∀ b, F b → G b) (h : RS R0 g p2 p4 p5 B q0 c0 o cs l ts w) (f1 : F p2 ∧ F p4 ∧ F p5 ∧ F B ∧ F q0) (f3 : ∀ t ∈ ts, Tab t.k w t.A t.n t.c t.rows ∧ (0 < t.n → ∀ a, t.A = some a → F a.block ∧ a.block ≠ B ∧ a.block ≠ q0))
    (hk : Kept (fun b => F b ∧ b ≠ B) w w') (hh : Has w' B cs') (hr : ∀ i, o' ≤ i → cs'[i]? = z23[i]?) (hp : RPen R0 G g l' w') (hl : l'.length ≤ l.length)
    (ht1 : ∀ t ∈ t1, Tab t.k w' t.A t.n t.c t.rows ∧ (0 < t.n → ∀ a, t.A = some a → G a.block ∧ a.block ≠ B ∧ a.block ≠ q0)) : RS R0 g p2 p4 p5 B q0 c0 o' cs' l' (t1 ++ ts) w' := by
  refine ⟨⟨G, ⟨hFG _ f1.1, hFG _ f1.2.1, hFG _ f1.2.2.1, hFG _ f1.2.2.2.1, hFG _ f1.2.2.2.2⟩, hp, fun t ht => ?_⟩, ?_, h.ne, h.own, hh, h.res.kept ⟨f1.2.2.2.2, h.ne.2.2.2⟩ hk, hr, Nat.le_trans hl h.len⟩
  · rcases List.mem_append.1 ht with ht | ht
    · exact ht1 t ht
    · refine ⟨(f3 t ht).1.blocks2 fun hn a ha => ?_, fun hn a ha => ⟨hFG _ ((f3 t ht).2 hn a ha).1, ((f3 t ht).2 hn a ha).2⟩⟩
      exact hk.block _ ⟨((f3 t ht).2 hn a ha).1, ((f3 t ht).2 hn a ha).2.1⟩
  · exact ⟨(cell_kept hk (p := ⟨p2, 0, none⟩) ⟨f1.1, h.ne.1⟩).trans h.pens.1, (cell_kept hk (p := ⟨p4, 0, none⟩) ⟨f1.2.1, h.ne.2.1⟩).trans h.pens.2.1, (cell_kept hk (p := ⟨p5, 0, none⟩) ⟨f1.2.2.1, h.ne.2.2.1⟩).trans h.pens.2.2⟩
theorem rest_nums (hr : ∀ i, o ≤ i → cs[i]? = z23[i]?) (ns : List Nat) {k : Nat} (hk : ns.length = k) : ∀ i, o + k ≤ i → (setN cs o ns)[i]? = z23[i]? := by
  intro i hi
  rw [setN_get _ _ _ _ (by omega)]
  exact hr i (by omega)
theorem rs_nums (k : Nat) (hk : k ≤ 1000) (h : RS R0 g p2 p4 p5 B q0 c0 o cs l ts w) (hz : ∀ j, j < k → z23[o + j]? = some (.int .i64 0)) (cells : Array Value) (t : TypeId) (hcl : ∀ j, j < k → cells[j]? = some (.pointer (some ⟨B, o + j, none⟩))) :
    Calls Try.prog 61 #[.slice (some ⟨w.heap.size, 0, none⟩) k k, .pointer (some ⟨p2, 0, none⟩)] (w.alloc (.cells cells t)) fun e w' => e = .returned (.tuple #[]) ∧ RS R0 g p2 p4 p5 B q0 c0 (o + k) (setN cs o (rdk k l).1) (rdk k l).2 ts w' := by
  obtain ⟨F, f1, f2, f3⟩ := h.ex
  refine (rnums_new R0 F g B o k p2 cs l w cells t hcl hk h.has (fun j hj => (h.rest _ (by omega)).trans (hz j hj)) f1.2.2.2.1 h.own f1.1 h.ne.1 h.pens.1 f2 h.len).mono ?_
  rintro e w' ⟨he, hk', hh, hr⟩
  exact ⟨he, h.step (t1 := []) (fun _ x => x) f1 f3 hk' hh (rest_nums h.rest _ (rdk_len k l).1) hr (rdk_len k l).2 (by simp)⟩
theorem rs_part (h : RS R0 g p2 p4 p5 B q0 c0 o cs l ts w) (hz : ∀ j, j < 2 → z23[o + j]? = some (.int .i64 0)) :
    Calls Try.prog 62 #[.pointer (some ⟨B, o, none⟩), .pointer (some ⟨p4, 0, none⟩)] w fun e w' => e = .returned (.tuple #[]) ∧ RS R0 g p2 p4 p5 B q0 c0 (o + 2) (setN cs o (rdk 2 l).1) (rdk 2 l).2 ts w' := by
  obtain ⟨F, f1, f2, f3⟩ := h.ex
  refine (rshow_part R0 F g B o p2 p4 cs l w h.has (fun j hj => (h.rest _ (by omega)).trans (hz j hj)) f1.2.2.2.1 h.own f1.1 h.ne.1 h.pens.1 f1.2.1 h.ne.2.1 h.pens.2.1 f2 h.len).mono ?_
  rintro e w' ⟨he, hk', hh, hr⟩
  exact ⟨he, h.step (t1 := []) (fun _ x => x) f1 f3 hk' hh (rest_nums h.rest _ (rdk_len 2 l).1) hr (rdk_len 2 l).2 (by simp)⟩
theorem rest_one (hr : ∀ i, o ≤ i → cs[i]? = z23[i]?) (v : Value) : ∀ i, o + 1 ≤ i → (cs.setIfInBounds o v)[i]? = z23[i]? := by
  intro i hi
  rw [Array.getElem?_setIfInBounds_ne (by omega)]
  exact hr i (by omega)
theorem rs_lway (h : RS R0 g p2 p4 p5 B q0 c0 o cs l ts w) (hz : z23[o]? = some (.slice none 0 0)) :
    Calls Try.prog 63 #[.iface 65 (.pointer (some ⟨g, 0, none⟩)), .pointer (some ⟨B, o, none⟩), .func (.func 64) #[] #[.pointer (some ⟨p4, 0, none⟩)]] w fun e w' => e = .returned (.tuple #[]) ∧ ∃ A' c', RS R0 g p2 p4 p5 B q0 c0 (o + 1) (cs.setIfInBounds o (.slice A' (rdL 3 l).1.length c')) (rdL 3 l).2 (⟨3, A', (rdL 3 l).1.length, c', (rdL 3 l).1⟩ :: ts) w' := by
  obtain ⟨F, f1, f2, f3⟩ := h.ex
  refine (rlist_way R0 F g B o p2 p4 cs l w h.has ((h.rest _ (by omega)).trans hz) f1.2.2.2.1 h.own f1.1 h.ne.1 h.pens.1 f1.2.1 h.ne.2.1 h.pens.2.1 f2 h.len).mono ?_
  rintro e w' ⟨A', c', he, hk', hh, hT, hr, hA⟩
  have hBs := h.has.size
  have hqs := h.res.size
  refine ⟨he, A', c', h.step (t1 := [⟨3, A', (rdL 3 l).1.length, c', (rdL 3 l).1⟩]) (G := fun b => F b ∨ ∃ a, A' = some a ∧ b = a.block) (fun _ x => .inl x) f1 f3 hk' hh (rest_one h.rest _) hr (rdL_len 3 l).2.1 ?_⟩
  intro t ht
  obtain rfl := List.mem_singleton.1 ht
  exact ⟨hT, fun hn a ha => ⟨.inr ⟨a, ha, rfl⟩, by have := hA a ha; omega, by have := hA a ha; omega⟩⟩
theorem rs_lele (h : RS R0 g p2 p4 p5 B q0 c0 o cs l ts w) (hz : z23[o]? = some (.slice none 0 0)) :
    Calls Try.prog 65 #[.iface 65 (.pointer (some ⟨g, 0, none⟩)), .pointer (some ⟨B, o, none⟩), .func (.func 66) #[] #[.pointer (some ⟨p5, 0, none⟩)]] w fun e w' => e = .returned (.tuple #[]) ∧ ∃ A' c', RS R0 g p2 p4 p5 B q0 c0 (o + 1) (cs.setIfInBounds o (.slice A' (rdL 4 l).1.length c')) (rdL 4 l).2 (⟨4, A', (rdL 4 l).1.length, c', (rdL 4 l).1⟩ :: ts) w' := by
  obtain ⟨F, f1, f2, f3⟩ := h.ex
  refine (rlist_ele R0 F g B o p2 p4 p5 cs l w h.has ((h.rest _ (by omega)).trans hz) f1.2.2.2.1 h.own f1.1 h.ne.1 h.pens.1 f1.2.1 h.ne.2.1 h.pens.2.1 f1.2.2.1 h.ne.2.2.1 h.pens.2.2 f2 h.len).mono ?_
  rintro e w' ⟨A', c', he, hk', hh, hT, hr, hA⟩
  have hBs := h.has.size
  have hqs := h.res.size
  refine ⟨he, A', c', h.step (t1 := [⟨4, A', (rdL 4 l).1.length, c', (rdL 4 l).1⟩]) (G := fun b => F b ∨ ∃ a, A' = some a ∧ b = a.block) (fun _ x => .inl x) f1 f3 hk' hh (rest_one h.rest _) hr (rdL_len 4 l).2.1 ?_⟩
  intro t ht
  obtain rfl := List.mem_singleton.1 ht
  exact ⟨hT, fun hn a ha => ⟨.inr ⟨a, ha, rfl⟩, by have := hA a ha; omega, by have := hA a ha; omega⟩⟩
theorem rs_lpart (h : RS R0 g p2 p4 p5 B q0 c0 o cs l ts w) (hz : z23[o]? = some (.slice none 0 0)) :
    Calls Try.prog 67 #[.iface 65 (.pointer (some ⟨g, 0, none⟩)), .pointer (some ⟨B, o, none⟩), .func (.func 62) #[] #[.pointer (some ⟨p4, 0, none⟩)]] w fun e w' => e = .returned (.tuple #[]) ∧ ∃ A' c', RS R0 g p2 p4 p5 B q0 c0 (o + 1) (cs.setIfInBounds o (.slice A' (rdL 2 l).1.length c')) (rdL 2 l).2 (⟨2, A', (rdL 2 l).1.length, c', (rdL 2 l).1⟩ :: ts) w' := by
  obtain ⟨F, f1, f2, f3⟩ := h.ex
  refine (rlist_part R0 F g B o p2 p4 cs l w h.has ((h.rest _ (by omega)).trans hz) f1.2.2.2.1 h.own f1.1 h.ne.1 h.pens.1 f1.2.1 h.ne.2.1 h.pens.2.1 f2 h.len).mono ?_
  rintro e w' ⟨A', c', he, hk', hh, hT, hr, hA⟩
  have hBs := h.has.size
  have hqs := h.res.size
  refine ⟨he, A', c', h.step (t1 := [⟨2, A', (rdL 2 l).1.length, c', (rdL 2 l).1⟩]) (G := fun b => F b ∨ ∃ a, A' = some a ∧ b = a.block) (fun _ x => .inl x) f1 f3 hk' hh (rest_one h.rest _) hr (rdL_len 2 l).2.1 ?_⟩
  intro t ht
  obtain rfl := List.mem_singleton.1 ht
  exact ⟨hT, fun hn a ha => ⟨.inr ⟨a, ha, rfl⟩, by have := hA a ha; omega, by have := hA a ha; omega⟩⟩
theorem rs_lone (h : RS R0 g p2 p4 p5 B q0 c0 o cs l ts w) (hz : z23[o]? = some (.slice none 0 0)) :
    Calls Try.prog 68 #[.iface 65 (.pointer (some ⟨g, 0, none⟩)), .pointer (some ⟨B, o, none⟩), .func (.func 69) #[] #[.pointer (some ⟨p4, 0, none⟩)]] w fun e w' => e = .returned (.tuple #[]) ∧ ∃ A' c', RS R0 g p2 p4 p5 B q0 c0 (o + 1) (cs.setIfInBounds o (.slice A' (rdL 1 l).1.length c')) (rdL 1 l).2 (⟨1, A', (rdL 1 l).1.length, c', (rdL 1 l).1⟩ :: ts) w' := by
  obtain ⟨F, f1, f2, f3⟩ := h.ex
  refine (rlist_one R0 F g B o p2 p4 cs l w h.has ((h.rest _ (by omega)).trans hz) f1.2.2.2.1 h.own f1.1 h.ne.1 h.pens.1 f1.2.1 h.ne.2.1 h.pens.2.1 f2 h.len).mono ?_
  rintro e w' ⟨A', c', he, hk', hh, hT, hr, hA⟩
  have hBs := h.has.size
  have hqs := h.res.size
  refine ⟨he, A', c', h.step (t1 := [⟨1, A', (rdL 1 l).1.length, c', (rdL 1 l).1⟩]) (G := fun b => F b ∨ ∃ a, A' = some a ∧ b = a.block) (fun _ x => .inl x) f1 f3 hk' hh (rest_one h.rest _) hr (rdL_len 1 l).2.1 ?_⟩
  intro t ht
  obtain rfl := List.mem_singleton.1 ht
  exact ⟨hT, fun hn a ha => ⟨.inr ⟨a, ha, rfl⟩, by have := hA a ha; omega, by have := hA a ha; omega⟩⟩
theorem rs_ltier (h : RS R0 g p2 p4 p5 B q0 c0 o cs l ts w) (hz : z23[o]? = some (.slice none 0 0)) :
    Calls Try.prog 70 #[.iface 65 (.pointer (some ⟨g, 0, none⟩)), .pointer (some ⟨B, o, none⟩), .func (.func 71) #[] #[.pointer (some ⟨p4, 0, none⟩)]] w fun e w' => e = .returned (.tuple #[]) ∧ ∃ A' c', RS R0 g p2 p4 p5 B q0 c0 (o + 1) (cs.setIfInBounds o (.slice A' (rdL 2 l).1.length c')) (rdL 2 l).2 (⟨2, A', (rdL 2 l).1.length, c', (rdL 2 l).1⟩ :: ts) w' := by
  obtain ⟨F, f1, f2, f3⟩ := h.ex
  refine (rlist_tier R0 F g B o p2 p4 cs l w h.has ((h.rest _ (by omega)).trans hz) f1.2.2.2.1 h.own f1.1 h.ne.1 h.pens.1 f1.2.1 h.ne.2.1 h.pens.2.1 f2 h.len).mono ?_
  rintro e w' ⟨A', c', he, hk', hh, hT, hr, hA⟩
  have hBs := h.has.size
  have hqs := h.res.size
  refine ⟨he, A', c', h.step (t1 := [⟨2, A', (rdL 2 l).1.length, c', (rdL 2 l).1⟩]) (G := fun b => F b ∨ ∃ a, A' = some a ∧ b = a.block) (fun _ x => .inl x) f1 f3 hk' hh (rest_one h.rest _) hr (rdL_len 2 l).2.1 ?_⟩
  intro t ht
  obtain rfl := List.mem_singleton.1 ht
  exact ⟨hT, fun hn a ha => ⟨.inr ⟨a, ha, rfl⟩, by have := hA a ha; omega, by have := hA a ha; omega⟩⟩
end
theorem flat_len1 (t : Rows2) (h : ∀ r ∈ t, r.length = 1) : t.flatten.length = t.length := by rw [rows_len t h, Nat.one_mul]
theorem setat_rdS (l : List (BitVec 8)) {w : World} {A1 A2 A3 A4 A5 A6 : Option Addr} {c1 c2 c3 c4 c5 c6 : Nat} (h1 : Tab 3 w A1 (rdS1 l).1.length c1 (rdS1 l).1) (h2 : Tab 4 w A2 (rdS3 l).1.length c2 (rdS3 l).1) (h3 : Tab 2 w A3 (rdS4 l).1.length c3 (rdS4 l).1)
    (h4 : Tab 2 w A4 (rdS5 l).1.length c4 (rdS5 l).1) (h5 : Tab 1 w A5 (rdS7 l).1.length c5 (rdS7 l).1) (h6 : Tab 2 w A6 (rdS9 l).1.length c6 (rdS9 l).1) : SetAt w (rdS l) A1 A2 A3 A4 A5 A6 c1 c2 c3 c4 c5 c6 := by
  have e1 := flat_len1 (rdS7 l).1 (rdS7_wide l)
  have e2 := rows_ones (rdS7 l).1 (rdS7_wide l)
  have h5' : Tab 1 w A5 (rdS7 l).1.flatten.length c5 ((rdS7 l).1.flatten.map fun n => [n]) := by
    rw [← e2, e1]; exact h5
  clear h5
  constructor <;> simp only [rdS]
  · exact h1
  · exact h2
  · exact h3
  · exact h4
  · exact h5'
  · exact h6
theorem rd_cells (n0 n2 n6 n8 : List Nat) (h0 : n0.length = 1) (h2 : n2.length = 2) (h6 : n6.length = 11) (h8 : n8.length = 3) (v1 v3 v4 v5 v7 v9 : Value) :
    (setN ((setN ((((setN ((setN z23 0 n0).setIfInBounds 1 v1) 2 n2).setIfInBounds 4 v3).setIfInBounds 5 v4).setIfInBounds 6 v5) 7 n6).setIfInBounds 18 v7) 19 n8).setIfInBounds 22 v9 = #[.int .i64 (n0.getD 0 0 : Nat), v1, .int .i64 (n2.getD 0 0 : Nat), .int .i64 (n2.getD 1 0 : Nat), v3, v4, v5, .int .i64 (n6.getD 0 0 : Nat), .int .i64 (n6.getD 1 0 : Nat), .int .i64 (n6.getD 2 0 : Nat), .int .i64 (n6.getD 3 0 : Nat), .int .i64 (n6.getD 4 0 : Nat), .int .i64 (n6.getD 5 0 : Nat), .int .i64 (n6.getD 6 0 : Nat), .int .i64 (n6.getD 7 0 : Nat), .int .i64 (n6.getD 8 0 : Nat), .int .i64 (n6.getD 9 0 : Nat), .int .i64 (n6.getD 10 0 : Nat), v7, .int .i64 (n8.getD 0 0 : Nat), .int .i64 (n8.getD 1 0 : Nat), .int .i64 (n8.getD 2 0 : Nat), v9] := by
  obtain ⟨n0_0, rfl⟩ : ∃ n0_0, n0 = [n0_0] := by
    match n0, h0 with
    | [n0_0], _ => exact ⟨n0_0, rfl⟩
  obtain ⟨n2_0, n2_1, rfl⟩ : ∃ n2_0 n2_1, n2 = [n2_0, n2_1] := by
    match n2, h2 with
    | [n2_0, n2_1], _ => exact ⟨n2_0, n2_1, rfl⟩
  obtain ⟨n6_0, n6_1, n6_2, n6_3, n6_4, n6_5, n6_6, n6_7, n6_8, n6_9, n6_10, rfl⟩ : ∃ n6_0 n6_1 n6_2 n6_3 n6_4 n6_5 n6_6 n6_7 n6_8 n6_9 n6_10, n6 = [n6_0, n6_1, n6_2, n6_3, n6_4, n6_5, n6_6, n6_7, n6_8, n6_9, n6_10] := by
    match n6, h6 with
    | [n6_0, n6_1, n6_2, n6_3, n6_4, n6_5, n6_6, n6_7, n6_8, n6_9, n6_10], _ => exact ⟨n6_0, n6_1, n6_2, n6_3, n6_4, n6_5, n6_6, n6_7, n6_8, n6_9, n6_10, rfl⟩
  obtain ⟨n8_0, n8_1, n8_2, rfl⟩ : ∃ n8_0 n8_1 n8_2, n8 = [n8_0, n8_1, n8_2] := by
    match n8, h8 with
    | [n8_0, n8_1, n8_2], _ => exact ⟨n8_0, n8_1, n8_2, rfl⟩
  simp only [setN, z23, List.setIfInBounds_toArray, List.set_cons_zero, List.set_cons_succ, Nat.reduceAdd, List.getD_cons_zero, List.getD_cons_succ]
theorem rs_end {R0 : World} {g p2 p4 p5 B q0 : Nat} {c0 : Array Value} {l l' : List (BitVec 8)} {w : World} {A1 A2 A3 A4 A5 A6 : Option Addr} {c1 c2 c3 c4 c5 c6 : Nat} (hf : RS R0 g p2 p4 p5 B q0 c0 23 ((setN ((setN ((((setN ((setN z23 0 (rdS0 l).1).setIfInBounds 1 (.slice A1 (rdS1 l).1.length c1)) 2 (rdS2 l).1).setIfInBounds 4 (.slice A2 (rdS3 l).1.length c2)).setIfInBounds 5 (.slice A3 (rdS4 l).1.length c3)).setIfInBounds 6 (.slice A4 (rdS5 l).1.length c4)) 7 (rdS6 l).1).setIfInBounds 18 (.slice A5 (rdS7 l).1.length c5)) 19 (rdS8 l).1).setIfInBounds 22 (.slice A6 (rdS9 l).1.length c6)) l' [⟨2, A6, (rdS9 l).1.length, c6, (rdS9 l).1⟩, ⟨1, A5, (rdS7 l).1.length, c5, (rdS7 l).1⟩, ⟨2, A4, (rdS5 l).1.length, c4, (rdS5 l).1⟩, ⟨2, A3, (rdS4 l).1.length, c3, (rdS4 l).1⟩, ⟨4, A2, (rdS3 l).1.length, c2, (rdS3 l).1⟩, ⟨3, A1, (rdS1 l).1.length, c1, (rdS1 l).1⟩] w) :
    ∃ cs, setV (rdS l) A1 A2 A3 A4 A5 A6 c1 c2 c3 c4 c5 c6 = .agg cs ∧ Has w B cs ∧ (∀ wx, Kept (fun b => b < w.heap.size ∧ b ≠ q0) w wx → SetAt wx (rdS l) A1 A2 A3 A4 A5 A6 c1 c2 c3 c4 c5 c6) ∧ Has w q0 c0 ∧ Below R0.heap.size R0 w := by
  obtain ⟨F, f1, f2, f3⟩ := hf.ex
  have hh := hf.has
  have k0 : (rdS0 l).1.length = 1 := by unfold rdS0; exact (rdk_len _ _).1
  have k2 : (rdS2 l).1.length = 2 := by unfold rdS2; exact (rdk_len _ _).1
  have k6 : (rdS6 l).1.length = 11 := by unfold rdS6; exact (rdk_len _ _).1
  have k8 : (rdS8 l).1.length = 3 := by unfold rdS8; exact (rdk_len _ _).1
  rw [rd_cells _ _ _ _ k0 k2 k6 k8] at hh
  refine ⟨_, ?_, hh, ?_, hf.res, f2.bel⟩
  · have e1 := flat_len1 (rdS7 l).1 (rdS7_wide l)
    simp only [setV, rdS, e1]
  · intro wx hx
    have f4 : ∀ t ∈ ([⟨2, A6, (rdS9 l).1.length, c6, (rdS9 l).1⟩, ⟨1, A5, (rdS7 l).1.length, c5, (rdS7 l).1⟩, ⟨2, A4, (rdS5 l).1.length, c4, (rdS5 l).1⟩, ⟨2, A3, (rdS4 l).1.length, c3, (rdS4 l).1⟩, ⟨4, A2, (rdS3 l).1.length, c2, (rdS3 l).1⟩, ⟨3, A1, (rdS1 l).1.length, c1, (rdS1 l).1⟩] : List TabD), Tab t.k wx t.A t.n t.c t.rows := fun t ht => (f3 t ht).1.blocks2 fun hn a ha => hx.block _ ⟨f2.low _ ((f3 t ht).2 hn a ha).1, ((f3 t ht).2 hn a ha).2.2⟩
    have t1 := f4 _ (.tail _ (.tail _ (.tail _ (.tail _ (.tail _ (.head _))))))
    have t2 := f4 _ (.tail _ (.tail _ (.tail _ (.tail _ (.head _)))))
    have t3 := f4 _ (.tail _ (.tail _ (.tail _ (.head _))))
    have t4 := f4 _ (.tail _ (.tail _ (.head _)))
    have t5 := f4 _ (.tail _ (.head _))
    have t6 := f4 _ (.head _)
    dsimp only at t1 t2 t3 t4 t5 t6
    exact setat_rdS l t1 t2 t3 t4 t5 t6
end Go.Proofs.Ytdhkfhgggkndoaa
