/-
  Numbers of parts: a part is so many numbers, or a list of rows of so many numbers, with how many rows ahead. What is written so is read in one way. No program here.
  Plain facts on numbers through others: lowest terms, which of them may be, what is as much. No program is named here.
  Setups: which may be, their numbers, and that they are read in one way. No program here.
  Setups read off a list of numbers, place by place. No program here.
  Events: which are fair, their numbers and bytes, and their order. No program here.
  Events as values: their cells, loads, stores, and whether two are the same.
  Slices of numbers as lists; new slices of bytes made with room. Over any program.
  What event.own tells of a kind: pointers to that kind's own numbers.
-/
import Derived.Test.YtgfomfioagblfaaZab
import Derived.RowKit
import Derived.IntWalk
import Derived.Test.YtgfomfioagblfaaProg
import Derived.Test.YtgfomfioagblfaaZaa
import Derived.WalkKit
import Derived.Laws.StructEq
import Derived.Laws.Cover1
import Derived.Deep.WholeRow
import Derived.KernelRfl
import Derived.Lib.Hide
import Derived.OpenShut
import Derived.Test.YtgfomfioagblfaaEvOwn
namespace Go.Proofs.Ytgfomfioagblfaa
set_option linter.unusedVariables false
set_option linter.unusedSimpArgs false

inductive GPart where
  | fix (k : Nat)
  | tab (k : Nat)
abbrev Rows2 := List (List Int)
def GPart.nums : GPart → Rows2 → List Int
  | .fix _, t => t.flatten
  | .tab _, t => (t.length : Int) :: t.flatten
/-! ### Bytes -/
/-- Numbers from 0 on as bytes. -/
def bytesN (l : List Int) : List (BitVec 8) := putB (l.map Int.toNat)
theorem bytesN_cons (n : Int) (l : List Int) : bytesN (n :: l) = oneB n.toNat ++ bytesN l := by simp [bytesN, putB]
theorem bytesN_append (l m : List Int) : bytesN (l ++ m) = bytesN l ++ bytesN m := by simp [bytesN, putB]
theorem bytesN_nil : bytesN [] = [] := rfl
def okN (l : List Int) : Prop := ∀ n ∈ l, 0 ≤ n ∧ n ≤ 9223372036854775807
theorem bytesN_take {n : Int} (hn : 0 ≤ n ∧ n ≤ 9223372036854775807) (r : List (BitVec 8)) : takeB (oneB n.toNat ++ r) = some (n.toNat, r) := take_one (by omega) r
/-! ### The numbers that bytes are -/
end Go.Proofs.Ytgfomfioagblfaa

namespace Go.Proofs.Ytgfomfioagblfaa

/-- The ratio may be. -/
def mayB (n d : Int) : Bool := decide (-2147483647 ≤ n ∧ n ≤ 2147483647 ∧ 1 ≤ d ∧ d ≤ 2147483647 ∧ Int.gcd n d = 1)
end Go.Proofs.Ytgfomfioagblfaa

namespace Go.Proofs.Ytgfomfioagblfaa
set_option linter.unusedVariables false
set_option linter.unusedSimpArgs false

/-- A setup: its lists as rows of numbers. -/
structure SetP where
  places : Int
  ways : Rows2
  pn : Int
  pd : Int
  elements : Rows2
  classes : Rows2
  gears : Rows2
  allow : Int
  unit : Int
  cap : Int
  paid : Int
  aft : Int
  brk : Int
  reg : Int
  over : Int
  week : Int
  nfrom : Int
  nto : Int
  rates : List Int
  diff : Int
  least : Int
  fault : Int
  tiers : Rows2
def SetP.none : SetP := ⟨0, [], 0, 0, [], [], [], 0, 0, 0, 0, 0, 0, 0, 0, 0, 0, 0, [], 0, 0, 0, []⟩
/-- Its rows are as wide as they should. -/
structure SetP.Wide (s : SetP) : Prop where
  ways : ∀ r ∈ s.ways, r.length = 3
  elements : ∀ r ∈ s.elements, r.length = 4
  classes : ∀ r ∈ s.classes, r.length = 2
  gears : ∀ r ∈ s.gears, r.length = 2
  tiers : ∀ r ∈ s.tiers, r.length = 2
/-- A setup's numbers. -/
def SetP.nums (s : SetP) : List Int :=
  s.places :: (s.ways.length : Int) :: (s.ways.flatten ++ (s.pn :: s.pd :: (s.elements.length : Int) :: (s.elements.flatten ++ ((s.classes.length : Int) :: (s.classes.flatten ++ ((s.gears.length : Int) :: (s.gears.flatten ++
    (s.allow :: s.unit :: s.cap :: s.paid :: s.aft :: s.brk :: s.reg :: s.over :: s.week :: s.nfrom :: s.nto :: (s.rates.length : Int) :: (s.rates ++ (s.diff :: s.least :: s.fault :: (s.tiers.length : Int) :: s.tiers.flatten))))))))))
/-! ### Which may be -/
def shareB (n d : Int) : Bool := mayB n d && decide (0 ≤ n)
def wayP (p : Int) (r : List Int) : Prop := 0 ≤ r.getD 0 0 ∧ 0 ≤ r.getD 1 0 ∧ r.getD 0 0 < p ∧ r.getD 1 0 < p ∧ r.getD 0 0 ≠ r.getD 1 0 ∧ 1 ≤ r.getD 2 0 ∧ r.getD 2 0 ≤ 10000
def eleP (r : List Int) : Prop := shareB (r.getD 0 0) (r.getD 1 0) = true ∧ shareB (r.getD 2 0) (r.getD 3 0) = true
def ratP (r : List Int) : Prop := shareB (r.getD 0 0) (r.getD 1 0) = true
def rateP (n : Int) : Prop := 0 ≤ n ∧ n ≤ 100000
def tierP (l : Rows2) (i : Nat) : Prop := 0 ≤ (l.getD i []).getD 0 0 ∧ (l.getD i []).getD 0 0 ≤ 1000 ∧ 0 ≤ (l.getD i []).getD 1 0 ∧ (l.getD i []).getD 1 0 ≤ 100000 ∧ (0 < i → (l.getD (i - 1) []).getD 0 0 < (l.getD i []).getD 0 0)
structure SetP.May (s : SetP) : Prop where
  places : 1 ≤ s.places ∧ s.places ≤ 16
  ways : s.ways.length ≤ 64 ∧ ∀ r ∈ s.ways, wayP s.places r
  pace : shareB s.pn s.pd = true
  elements : s.elements.length ≤ 8 ∧ ∀ r ∈ s.elements, eleP r
  classes : s.classes.length ≤ 8 ∧ ∀ r ∈ s.classes, ratP r
  gears : s.gears.length ≤ 8 ∧ ∀ r ∈ s.gears, ratP r
  allow : 0 ≤ s.allow ∧ s.allow ≤ 100
  unit : 1 ≤ s.unit ∧ s.unit ≤ 3600
  cap : 60 ≤ s.cap ∧ s.cap ≤ 57600
  paid : 0 ≤ s.paid ∧ s.paid ≤ 86400
  aft : 0 ≤ s.aft ∧ s.aft ≤ 86400
  brk : 0 ≤ s.brk ∧ s.brk ≤ 86400
  nfrom : 0 ≤ s.nfrom ∧ s.nfrom ≤ 86400
  nto : 0 ≤ s.nto ∧ s.nto ≤ 86400
  fault : 0 ≤ s.fault ∧ s.fault ≤ 86400
  reg : 0 ≤ s.reg ∧ s.reg ≤ s.over
  over : s.over ≤ 86400
  week : 0 ≤ s.week ∧ s.week ≤ 604800
  rates : 1 ≤ s.rates.length ∧ s.rates.length ≤ 16 ∧ ∀ n ∈ s.rates, rateP n
  diff : 0 ≤ s.diff ∧ s.diff ≤ 100000
  least : 0 ≤ s.least ∧ s.least ≤ 100000
  tiers : s.tiers.length ≤ 8 ∧ ∀ i, i < s.tiers.length → tierP s.tiers i
theorem okN_append {a b : List Int} (ha : okN a) (hb : okN b) : okN (a ++ b) := fun n hn => by
  rcases List.mem_append.1 hn with h | h
  · exact ha n h
  · exact hb n h
theorem okN_cons {n : Int} {b : List Int} (hn : 0 ≤ n ∧ n ≤ 9223372036854775807) (hb : okN b) : okN (n :: b) := fun m hm => by
  rcases List.mem_cons.1 hm with rfl | h
  · exact hn
  · exact hb m h
theorem okN_nil : okN [] := fun n hn => by simp at hn
/-! ### As bytes -/
def SetP.bytes (s : SetP) : List (BitVec 8) := bytesN s.nums
/-! ### Read -/
end Go.Proofs.Ytgfomfioagblfaa

namespace Go.Proofs.Ytgfomfioagblfaa
set_option linter.unusedVariables false
set_option linter.unusedSimpArgs false

def atL (l : List Int) (i : Nat) : Int := l.getD i 0
theorem rows_len {k : Nat} : ∀ (t : Rows2), (∀ r ∈ t, r.length = k) → t.flatten.length = k * t.length
  | [], _ => by simp
  | r :: t, h => by
    have h1 := rows_len t (fun q hq => h q (by simp [hq]))
    have h2 := h r (by simp)
    rw [List.flatten_cons, List.length_append, h1, h2, List.length_cons, Nat.mul_add]
    omega
theorem rows_get {k : Nat} : ∀ (t : Rows2), (∀ r ∈ t, r.length = k) → ∀ i j, i < t.length → j < k → ∀ v : List Int, (t.flatten ++ v).getD (k * i + j) 0 = (t.getD i []).getD j 0
  | [], _, i, j, hi, _, v => by simp at hi
  | r :: t, h, i, j, hi, hj, v => by
    have h2 := h r (by simp)
    rw [List.flatten_cons, List.append_assoc]
    rcases i with _ | i
    · rw [Nat.mul_zero, Nat.zero_add, List.getD_eq_getElem?_getD, List.getElem?_append_left (by omega)]
      simp [List.getD]
    · have h3 := rows_get t (fun q hq => h q (by simp [hq])) i j (by simpa using hi) hj v
      rw [List.getD_eq_getElem?_getD, List.getElem?_append_right (by rw [h2, Nat.mul_add]; omega), h2, show k * (i + 1) + j - k = k * i + j by rw [Nat.mul_add]; omega, ← List.getD_eq_getElem?_getD, h3]
      simp [List.getD]
end Go.Proofs.Ytgfomfioagblfaa

namespace Go.Proofs.Ytgfomfioagblfaa
set_option linter.unusedVariables false
set_option linter.unusedSimpArgs false

structure EvP where
  id : Int
  wk : Int
  tm : Int
  kd : Int
  fr : Int
  to : Int
  el : Int
  un : Int
  cl : Int
  ge : Int
  cd : Int
deriving DecidableEq
def EvP.none : EvP := ⟨0, 0, 0, 0, 0, 0, 0, 0, 0, 0, 0⟩
def EvP.nums (e : EvP) : List Int := [e.id, e.wk, e.tm, e.kd] ++ ((if e.kd = 3 then [e.fr, e.to, e.el, e.un, e.cl, e.ge] else []) ++ (if e.kd = 4 then [e.cd] else []))
structure EvP.Fair (e : EvP) : Prop where
  id : 0 ≤ e.id ∧ e.id ≤ 100000
  wk : 0 ≤ e.wk ∧ e.wk ≤ 9223372036854775807
  tm : 0 ≤ e.tm ∧ e.tm ≤ 31449599
  kd : 1 ≤ e.kd ∧ e.kd ≤ 7
  fr : 0 ≤ e.fr ∧ e.fr ≤ 9223372036854775807
  to : 0 ≤ e.to ∧ e.to ≤ 9223372036854775807
  el : 0 ≤ e.el ∧ e.el ≤ 9223372036854775807
  un : 0 ≤ e.un ∧ e.un ≤ 9223372036854775807
  cl : 0 ≤ e.cl ∧ e.cl ≤ 9223372036854775807
  ge : 0 ≤ e.ge ∧ e.ge ≤ 9223372036854775807
  cd : 0 ≤ e.cd ∧ e.cd ≤ 9223372036854775807
  task : e.kd = 3 ∨ (e.fr = 0 ∧ e.to = 0 ∧ e.el = 0 ∧ e.un = 0 ∧ e.cl = 0 ∧ e.ge = 0)
  code : e.kd = 4 ∨ e.cd = 0
theorem ev_ok {e : EvP} (h : e.Fair) : okN e.nums := by
  have h1 := h.id; have h2 := h.wk; have h3 := h.tm; have h4 := h.kd; have h5 := h.fr; have h6 := h.to; have h7 := h.el; have h8 := h.un; have h9 := h.cl; have h10 := h.ge; have h11 := h.cd
  unfold EvP.nums
  refine okN_append (okN_cons (by omega) (okN_cons (by omega) (okN_cons (by omega) (okN_cons (by omega) okN_nil)))) (okN_append ?_ ?_)
  · split
    · exact okN_cons (by omega) (okN_cons (by omega) (okN_cons (by omega) (okN_cons (by omega) (okN_cons (by omega) (okN_cons (by omega) okN_nil)))))
    · exact okN_nil
  · split
    · exact okN_cons (by omega) okN_nil
    · exact okN_nil
/-- Fair events are told by their numbers, whatever stands behind. -/
theorem ev_pre {e f : EvP} (he : e.Fair) (hf : f.Fair) {x y : List Int} (h : e.nums ++ x = f.nums ++ y) : e = f ∧ x = y := by
  obtain ⟨i, w, t, k, a, b, c, d, g, j, m⟩ := e
  obtain ⟨i', w', t', k', a', b', c', d', g', j', m'⟩ := f
  have t1 := he.task; have t2 := hf.task; have c1 := he.code; have c2 := hf.code
  simp only [EvP.nums, List.cons_append, List.nil_append, List.cons.injEq] at h t1 t2 c1 c2
  obtain ⟨rfl, rfl, rfl, rfl, h⟩ := h
  by_cases k3 : k = 3
  · have k4 : k ≠ 4 := by omega
    simp only [if_pos k3, if_neg k4, List.cons_append, List.nil_append, List.append_nil, List.cons.injEq] at h
    obtain ⟨rfl, rfl, rfl, rfl, rfl, rfl, rfl⟩ := h
    obtain rfl : m = 0 := by omega
    obtain rfl : m' = 0 := by omega
    exact ⟨rfl, rfl⟩
  · obtain ⟨rfl, rfl, rfl, rfl, rfl, rfl⟩ : a = 0 ∧ b = 0 ∧ c = 0 ∧ d = 0 ∧ g = 0 ∧ j = 0 := by omega
    obtain ⟨rfl, rfl, rfl, rfl, rfl, rfl⟩ : a' = 0 ∧ b' = 0 ∧ c' = 0 ∧ d' = 0 ∧ g' = 0 ∧ j' = 0 := by omega
    by_cases k4 : k = 4
    · simp only [if_neg k3, if_pos k4, List.cons_append, List.nil_append, List.cons.injEq] at h
      obtain ⟨rfl, rfl⟩ := h
      exact ⟨rfl, rfl⟩
    · simp only [if_neg k3, if_neg k4, List.nil_append] at h
      obtain rfl : m = 0 := by omega
      obtain rfl : m' = 0 := by omega
      exact ⟨rfl, h⟩
def EvP.bytes (e : EvP) : List (BitVec 8) := bytesN e.nums
/-- Two lists' bytes, each with something behind. -/
theorem bytes_split : ∀ (l m : List Int), okN l → okN m → ∀ x y : List (BitVec 8), bytesN l ++ x = bytesN m ++ y → (∃ r, m = l ++ r ∧ x = bytesN r ++ y) ∨ (∃ r, l = m ++ r ∧ y = bytesN r ++ x)
  | [], m, _, _, x, y, h => .inl ⟨m, rfl, by simpa [bytesN_nil] using h⟩
  | n :: l, [], _, _, x, y, h => .inr ⟨n :: l, rfl, by rw [h]; rfl⟩
  | n :: l, k :: m, hl, hm, x, y, h => by
    have h2 := congrArg takeB h
    rw [bytesN_cons, bytesN_cons, List.append_assoc, List.append_assoc, bytesN_take (hl n (by simp)), bytesN_take (hm k (by simp))] at h2
    simp only [Option.some.injEq, Prod.mk.injEq] at h2
    obtain ⟨e1, e2⟩ := h2
    have hn := hl n (by simp)
    have hk := hm k (by simp)
    obtain rfl : k = n := by omega
    rcases bytes_split l m (fun q hq => hl q (by simp [hq])) (fun q hq => hm q (by simp [hq])) x y e2 with ⟨r, rfl, hx⟩ | ⟨r, rfl, hx⟩
    · exact .inl ⟨r, rfl, hx⟩
    · exact .inr ⟨r, rfl, hx⟩
theorem evb_pre {e f : EvP} (he : e.Fair) (hf : f.Fair) {x y : List (BitVec 8)} (h : e.bytes ++ x = f.bytes ++ y) : e = f ∧ x = y := by
  have hne : e = f := by
    rcases bytes_split e.nums f.nums (ev_ok he) (ev_ok hf) x y h with ⟨r, e1, _⟩ | ⟨r, e1, _⟩
    · exact ((ev_pre hf he (x := []) (y := r) (by rw [List.append_nil, e1])).1).symm
    · exact (ev_pre he hf (x := []) (y := r) (by rw [List.append_nil, e1])).1
  subst hne
  exact ⟨rfl, List.append_cancel_left h⟩
open Classical in
/-- The fair event that bytes begin with, and what is behind. -/
noncomputable def takeE (b : List (BitVec 8)) : Option (EvP × List (BitVec 8)) := if h : ∃ x : EvP × List (BitVec 8), x.1.Fair ∧ b = x.1.bytes ++ x.2 then some (Classical.choose h) else none
theorem takeE_back {e : EvP} (h : e.Fair) (r : List (BitVec 8)) : takeE (e.bytes ++ r) = some (e, r) := by
  have hx : ∃ x : EvP × List (BitVec 8), x.1.Fair ∧ e.bytes ++ r = x.1.bytes ++ x.2 := ⟨(e, r), h, rfl⟩
  unfold takeE
  rw [dif_pos hx]
  obtain ⟨h1, h2⟩ := Classical.choose_spec hx
  generalize Classical.choose hx = y at *
  obtain ⟨e1, e2⟩ := evb_pre h h1 h2
  rw [show y = (y.1, y.2) from rfl, ← e1, ← e2]
theorem takeE_own {b r : List (BitVec 8)} {e : EvP} (h : takeE b = some (e, r)) : e.Fair ∧ b = e.bytes ++ r := by
  unfold takeE at h
  split at h
  · rename_i hx
    have := Classical.choose_spec hx
    injection h with h
    rw [h] at this
    exact this
  · cases h
theorem takeE_none {b : List (BitVec 8)} (h : takeE b = none) {e : EvP} (he : e.Fair) (r : List (BitVec 8)) : b ≠ e.bytes ++ r := by
  rintro rfl
  rw [takeE_back he] at h
  cases h
theorem takeE_not {b : List (BitVec 8)} (h : ∀ e : EvP, e.Fair → ∀ r, b ≠ e.bytes ++ r) : takeE b = none := by
  cases ht : takeE b with
  | none => rfl
  | some x =>
    obtain ⟨e, r⟩ := x
    obtain ⟨h1, h2⟩ := takeE_own ht
    exact absurd h2 (h e h1 r)
/-! ### The document's own Take -/
/-- The numbers that bytes begin with, so many at most. -/
def firstN : Nat → List (BitVec 8) → List Int
  | 0, _ => []
  | f + 1, b => match takeB b with
    | none => []
    | some (n, r) => (n : Int) :: firstN f r
theorem firstN_pre : ∀ (l : List Int), okN l → ∀ f, l.length ≤ f → ∀ r, ∃ m, firstN f (bytesN l ++ r) = l ++ m
  | [], _, f, _, r => ⟨_, rfl⟩
  | n :: l, hl, f, h, r => by
    cases f with
    | zero => simp at h
    | succ f =>
      have hn := hl n (by simp)
      rw [bytesN_cons, List.append_assoc]
      unfold firstN
      rw [bytesN_take hn]
      simp only
      obtain ⟨m, hm⟩ := firstN_pre l (fun q hq => hl q (by simp [hq])) f (by simpa using h) r
      refine ⟨m, ?_⟩
      rw [hm, Int.toNat_of_nonneg hn.1]
      rfl
def parseE (l : List Int) : EvP :=
  ⟨atL l 0, atL l 1, atL l 2, atL l 3, if atL l 3 = 3 then atL l 4 else 0, if atL l 3 = 3 then atL l 5 else 0, if atL l 3 = 3 then atL l 6 else 0, if atL l 3 = 3 then atL l 7 else 0, if atL l 3 = 3 then atL l 8 else 0, if atL l 3 = 3 then atL l 9 else 0, if atL l 3 = 4 then atL l 4 else 0⟩
theorem parseE_nums {e : EvP} (h : e.Fair) (m : List Int) : parseE (e.nums ++ m) = e := by
  obtain ⟨i, w, t, k, a, b, c, d, g, j, q⟩ := e
  have h1 := h.task; have h2 := h.code
  simp only at h1 h2
  by_cases k3 : k = 3
  · obtain rfl : q = 0 := by omega
    subst k3
    simp [parseE, EvP.nums, atL]
  · obtain ⟨rfl, rfl, rfl, rfl, rfl, rfl⟩ : a = 0 ∧ b = 0 ∧ c = 0 ∧ d = 0 ∧ g = 0 ∧ j = 0 := by omega
    by_cases k4 : k = 4
    · subst k4
      simp [parseE, EvP.nums, atL]
    · obtain rfl : q = 0 := by omega
      simp [parseE, EvP.nums, atL, k3, k4]
theorem ev_len (e : EvP) : e.nums.length ≤ 10 := by
  unfold EvP.nums
  by_cases k3 : e.kd = 3
  · have k4 : e.kd ≠ 4 := by omega
    simp [k3]
  · by_cases k4 : e.kd = 4
    · simp [k3, k4]
    · simp [k3, k4]
theorem takeE_ref {b r : List (BitVec 8)} {e : EvP} (h : takeE b = some (e, r)) : parseE (firstN 10 b) = e := by
  obtain ⟨h1, rfl⟩ := takeE_own h
  obtain ⟨m, hm⟩ := firstN_pre e.nums (ev_ok h1) 10 (ev_len e) r
  have : firstN 10 (e.bytes ++ r) = e.nums ++ m := hm
  rw [this, parseE_nums h1]
/-! ### The order -/
def lessE (a b : EvP) : Bool := decide (a.tm < b.tm ∨ (a.tm = b.tm ∧ a.id < b.id))
def alikeE (a b : EvP) : Bool := decide (a.tm = b.tm ∧ a.id = b.id)
theorem ev_less_irr (a : EvP) : lessE a a = false := by simp [lessE]
theorem ev_less_trans {a b c : EvP} (h : lessE a b = true) (h' : lessE b c = true) : lessE a c = true := by
  simp only [lessE, decide_eq_true_eq] at *
  omega
/-- None stands ahead of one in front of it. -/
def Risen : List EvP → Prop
  | [] => True
  | a :: l => (∀ b ∈ l, lessE b a = false) ∧ Risen l
/-- Put in behind all that do not stand behind it. -/
def insE (out : List EvP) (x : EvP) : List EvP := out.filter (fun y => !lessE x y) ++ x :: out.filter (fun y => lessE x y)
def sortE (l : List EvP) : List EvP := l.foldl insE []
theorem risen_append : ∀ (l m : List EvP), Risen (l ++ m) ↔ Risen l ∧ Risen m ∧ ∀ a ∈ l, ∀ b ∈ m, lessE b a = false
  | [], m => by simp [Risen]
  | a :: l, m => by
    rw [List.cons_append, Risen, risen_append l m, Risen]
    constructor
    · rintro ⟨h1, h2, h3, h4⟩
      refine ⟨⟨fun b hb => h1 b (by simp [hb]), h2⟩, h3, fun c hc b hb => ?_⟩
      rcases List.mem_cons.1 hc with rfl | hc
      · exact h1 b (by simp [hb])
      · exact h4 c hc b hb
    · rintro ⟨⟨h1, h2⟩, h3, h4⟩
      refine ⟨fun b hb => ?_, h2, h3, fun c hc b hb => h4 c (by simp [hc]) b hb⟩
      rcases List.mem_append.1 hb with hb | hb
      · exact h1 b hb
      · exact h4 a (by simp) b hb
theorem risen_filter (p : EvP → Bool) : ∀ l : List EvP, Risen l → Risen (l.filter p)
  | [], _ => trivial
  | a :: l, ⟨h1, h2⟩ => by
    have := risen_filter p l h2
    by_cases hp : p a = true
    · rw [List.filter_cons_of_pos hp]
      exact ⟨fun b hb => h1 b (List.mem_filter.1 hb).1, this⟩
    · rw [List.filter_cons_of_neg hp]
      exact this
theorem ev_less_not {a b c : EvP} (h1 : lessE a b = false) (h2 : lessE b c = false) : lessE a c = false := by
  simp only [lessE, decide_eq_false_iff_not] at *
  omega
theorem ev_ins_risen {out : List EvP} (h : Risen out) (x : EvP) : Risen (insE out x) := by
  unfold insE
  rw [risen_append]
  refine ⟨risen_filter _ _ h, ⟨fun b hb => ?_, risen_filter _ _ h⟩, fun a ha b hb => ?_⟩
  · have := (List.mem_filter.1 hb).2
    simp only [lessE, decide_eq_true_eq, decide_eq_false_iff_not] at *
    omega
  · have h1 := (List.mem_filter.1 ha).2
    rcases List.mem_cons.1 hb with rfl | hb
    · simpa using h1
    · have h2 := (List.mem_filter.1 hb).2
      simp only [lessE, Bool.not_eq_true', decide_eq_true_eq, decide_eq_false_iff_not] at *
      omega
theorem ev_foldl_risen : ∀ (l out : List EvP), Risen out → Risen (l.foldl insE out)
  | [], out, h => h
  | a :: l, out, h => ev_foldl_risen l _ (ev_ins_risen h a)
theorem ev_sort_risen (l : List EvP) : Risen (sortE l) := ev_foldl_risen l [] trivial
/-- Of alike ones: those that were there, in their order, and the one behind. -/
theorem ev_ins_alike (k x : EvP) (out : List EvP) : (insE out x).filter (alikeE k) = out.filter (alikeE k) ++ (if alikeE k x = true then [x] else []) := by
  unfold insE
  rw [List.filter_append, List.filter_filter, List.filter_cons, List.filter_filter]
  by_cases h : alikeE k x = true
  · rw [if_pos h, if_pos h]
    have e1 : out.filter (fun a => alikeE k a && !lessE x a) = out.filter (alikeE k) := by
      apply List.filter_congr
      intro a _
      cases ha : alikeE k a
      · rfl
      · simp only [alikeE, lessE, decide_eq_true_eq] at h ha ⊢
        simp
        omega
    have e2 : out.filter (fun a => alikeE k a && lessE x a) = [] := by
      rw [List.filter_eq_nil_iff]
      intro a _
      simp only [alikeE, lessE, Bool.and_eq_true, decide_eq_true_eq] at h ⊢
      omega
    rw [e1, e2]
  · rw [if_neg h, if_neg h, List.append_nil]
    by_cases hl : lessE x k = true
    · have e1 : out.filter (fun a => alikeE k a && !lessE x a) = [] := by
        rw [List.filter_eq_nil_iff]
        intro a _
        simp only [alikeE, lessE, Bool.and_eq_true, Bool.not_eq_true', decide_eq_true_eq, decide_eq_false_iff_not] at h hl ⊢
        omega
      have e2 : out.filter (fun a => alikeE k a && lessE x a) = out.filter (alikeE k) := by
        apply List.filter_congr
        intro a _
        cases ha : alikeE k a
        · rfl
        · simp only [alikeE, lessE, decide_eq_true_eq] at h ha hl ⊢
          simp
          omega
      rw [e1, e2, List.nil_append]
    · have e1 : out.filter (fun a => alikeE k a && !lessE x a) = out.filter (alikeE k) := by
        apply List.filter_congr
        intro a _
        cases ha : alikeE k a
        · rfl
        · simp only [alikeE, lessE, decide_eq_true_eq] at h ha hl ⊢
          simp
          omega
      have e2 : out.filter (fun a => alikeE k a && lessE x a) = [] := by
        rw [List.filter_eq_nil_iff]
        intro a _
        simp only [alikeE, lessE, Bool.and_eq_true, decide_eq_true_eq] at h hl ⊢
        omega
      rw [e1, e2, List.append_nil]
theorem ev_foldl_alike (k : EvP) : ∀ (l out : List EvP), (l.foldl insE out).filter (alikeE k) = out.filter (alikeE k) ++ l.filter (alikeE k)
  | [], out => by simp
  | a :: l, out => by
    rw [List.foldl_cons, ev_foldl_alike k l, ev_ins_alike, List.append_assoc, List.filter_cons]
    congr 1
    by_cases h : alikeE k a = true
    · rw [if_pos h, if_pos h]; rfl
    · rw [if_neg h, if_neg h]; rfl
theorem ev_sort_alike (k : EvP) (l : List EvP) : (sortE l).filter (alikeE k) = l.filter (alikeE k) := by
  unfold sortE
  rw [ev_foldl_alike]
  simp
theorem ev_alike_refl (a : EvP) : alikeE a a = true := by simp [alikeE]
/-- Lists in order are told by those that are alike. -/
theorem risen_unique : ∀ (l m : List EvP), Risen l → Risen m → (∀ k, l.filter (alikeE k) = m.filter (alikeE k)) → l = m
  | [], [], _, _, _ => rfl
  | [], b :: m, _, _, h => by
    have := h b
    rw [List.filter_cons_of_pos (ev_alike_refl b)] at this
    cases this
  | a :: l, [], _, _, h => by
    have := h a
    rw [List.filter_cons_of_pos (ev_alike_refl a)] at this
    cases this
  | a :: l, b :: m, ⟨h1, h2⟩, ⟨h3, h4⟩, h => by
    have hab : alikeE a b = true := by
      have ha : a ∈ (b :: m) := by
        have : a ∈ (b :: m).filter (alikeE a) := by rw [← h a, List.filter_cons_of_pos (ev_alike_refl a)]; simp
        exact (List.mem_filter.1 this).1
      have hb : b ∈ (a :: l) := by
        have : b ∈ (a :: l).filter (alikeE b) := by rw [h b, List.filter_cons_of_pos (ev_alike_refl b)]; simp
        exact (List.mem_filter.1 this).1
      have q1 : lessE b a = false := by
        rcases List.mem_cons.1 hb with rfl | hb
        · exact ev_less_irr _
        · exact h1 b hb
      have q2 : lessE a b = false := by
        rcases List.mem_cons.1 ha with rfl | ha
        · exact ev_less_irr _
        · exact h3 a ha
      simp only [lessE, alikeE, decide_eq_false_iff_not, decide_eq_true_eq] at *
      omega
    have hk := h a
    rw [List.filter_cons_of_pos (ev_alike_refl a), List.filter_cons_of_pos hab] at hk
    injection hk with e1 e2
    subst e1
    congr 1
    refine risen_unique l m h2 h4 (fun k => ?_)
    have := h k
    by_cases q : alikeE k a = true
    · rw [List.filter_cons_of_pos q, List.filter_cons_of_pos q] at this
      injection this
    · rw [List.filter_cons_of_neg q, List.filter_cons_of_neg q] at this
      exact this
theorem ev_sort_of {l s : List EvP} (h1 : Risen s) (h2 : ∀ k, s.filter (alikeE k) = l.filter (alikeE k)) : s = sortE l :=
  risen_unique s (sortE l) h1 (ev_sort_risen l) (fun k => by rw [h2, ev_sort_alike])
theorem ev_ins_perm (out : List EvP) (x : EvP) : (insE out x).Perm (x :: out) := by
  unfold insE
  have h := List.filter_append_perm (fun y => !lessE x y) out
  simp only [Bool.not_not] at h
  exact List.perm_middle.trans (h.cons x)
theorem ev_foldl_perm : ∀ (l out : List EvP), (l.foldl insE out).Perm (out ++ l)
  | [], out => by simp
  | a :: l, out => by
    refine (ev_foldl_perm l (insE out a)).trans ?_
    have := (ev_ins_perm out a).append_right l
    exact this.trans List.perm_middle.symm
theorem ev_sort_perm (l : List EvP) : (sortE l).Perm l := by
  have := ev_foldl_perm l []
  simpa [sortE] using this
end Go.Proofs.Ytgfomfioagblfaa

namespace Go.Proofs.Ytgfomfioagblfaa
open Go.RowKit
set_option linter.unusedVariables false
set_option linter.unusedSimpArgs false

/-- An event's cells. -/
def evC (e : EvP) : Array Value := #[.int .i64 e.id, .int .i64 e.wk, .int .i64 e.tm, .int .i64 e.kd, .int .i64 e.fr, .int .i64 e.to, .int .i64 e.el, .int .i64 e.un, .int .i64 e.cl, .int .i64 e.ge, .int .i64 e.cd]
theorem evC_size (e : EvP) : (evC e).size = 11 := rfl
theorem evC_one (e : EvP) : (evC e).all (·.oneCell') = true := by simp [evC, Value.oneCell']
/-- All numbers of an event are int's. -/
structure EvP.In (e : EvP) : Prop where
  id : -9223372036854775808 ≤ e.id ∧ e.id ≤ 9223372036854775807
  wk : -9223372036854775808 ≤ e.wk ∧ e.wk ≤ 9223372036854775807
  tm : -9223372036854775808 ≤ e.tm ∧ e.tm ≤ 9223372036854775807
  kd : -9223372036854775808 ≤ e.kd ∧ e.kd ≤ 9223372036854775807
  fr : -9223372036854775808 ≤ e.fr ∧ e.fr ≤ 9223372036854775807
  to : -9223372036854775808 ≤ e.to ∧ e.to ≤ 9223372036854775807
  el : -9223372036854775808 ≤ e.el ∧ e.el ≤ 9223372036854775807
  un : -9223372036854775808 ≤ e.un ∧ e.un ≤ 9223372036854775807
  cl : -9223372036854775808 ≤ e.cl ∧ e.cl ≤ 9223372036854775807
  ge : -9223372036854775808 ≤ e.ge ∧ e.ge ≤ 9223372036854775807
  cd : -9223372036854775808 ≤ e.cd ∧ e.cd ≤ 9223372036854775807
theorem ite_b1 {p : Prop} [Decidable p] {w : World} : (if p then Result.ok (Value.bool true) w else Result.ok (Value.bool false) w) = Result.ok (Value.bool (decide p)) w := by by_cases h : p <;> simp [h]
theorem ite_b2 {p : Prop} [Decidable p] {c : Bool} {w : World} : (if p then Result.ok (Value.bool c) w else Result.ok (Value.bool false) w) = Result.ok (Value.bool (decide p && c)) w := by by_cases h : p <;> simp [h]
theorem run_ev_eql (x y : EvP) (w : World) : (binOp .eql 33 (.agg (evC x)) (.agg (evC y))).run Try.prog w = .ok (.bool (decide (x = y))) w := by
  have u3 := Try.underlying3
  have a3 := Try.isAgg3
  have z3 := Try.sizeOf3
  have hS : Try.prog.underlying 33 = some (.struct (Try.prog.fieldsOf 33)) := by kernel_rfl
  have hp : Try.prog.stoodInHeld 33 = false := by kernel_rfl
  obtain ⟨a1, a2, a3', a4, a5, a6, a7, a8, a9, a10, a11⟩ := x
  obtain ⟨b1, b2, b3, b4, b5, b6, b7, b8, b9, b10, b11⟩ := y
  simp only [evC]
  rw [run_eql_struct, show (10000 : Nat) = 9999 + 1 from rfl, run_equalIn_agg w 9999 33 _ _ hS hp]
  simp only [Program.fieldsOf, Try.underlying33]
  go_simp
  simp only [ite_b1]
  simp only [ite_b2]
theorem wpList_load_e {ops : Array Oper} {rest : List Oper} {o : Oper} {a : Act} {w : World} {Q : Exit → Act → World → Prop} (hgd : Region.wanted o (yielded ops a.tmps) = true) (x : Operand) (ho : o.op = .load 33 x)
    (g : Nat) (hx : a.eval x = .pointer (some ⟨g, 0, none⟩)) (cs : Array Value) (hg : Has w g cs) (hs : cs.size = 11)
    (h : wpList Try.prog ops Q rest (a.put o.dst (.agg cs)) w) : wpList Try.prog ops Q (o :: rest) a w := by
  refine wpList_step fun K hK => ?_
  rw [if_pos hgd]
  obtain ⟨t, hg⟩ := hg
  exact wp_load_row _ x ho g hx t cs (0, 0) _ hg Try.underlying33 rfl (by rw [hs]; kernel_rfl) (hK _ _ h)
theorem wpList_store_e {ops : Array Oper} {rest : List Oper} {o : Oper} {a : Act} {w : World} {Q : Exit → Act → World → Prop} (hgd : o.guard = none) (x y : Operand) (ho : o.op = .store 33 x y)
    (g : Nat) (cs : Array Value) (hx : a.eval x = .pointer (some ⟨g, 0, none⟩)) (hy : a.eval y = .agg cs) (old : Array Value) (hg : Has w g old) (hold : old.size = 11) (hs : cs.size = 11) (h1 : cs.all (·.oneCell') = true)
    (h : wpList Try.prog ops Q rest (a.put o.dst undef) (w.setRow g cs)) : wpList Try.prog ops Q (o :: rest) a w := by
  obtain ⟨t, hg⟩ := hg
  exact wpList_store_row hgd _ x y ho g cs hx hy t old hg (by rw [hs]; kernel_rfl) (by rw [hold, hs]) h1 h
theorem has_setRow_e {w : World} {g : Nat} {old cs : Array Value} (h : Has w g old) : Has (w.setRow g cs) g cs := by
  obtain ⟨t, h⟩ := h
  exact ⟨t, setRow_heap _ _ _ _ _ _ h⟩
theorem has_setRow_far {w : World} {g g' : Nat} {cs cs' : Array Value} (h : Has w g' cs') (hne : g' ≠ g) : Has (w.setRow g cs) g' cs' := by
  obtain ⟨t, h⟩ := h
  exact ⟨t, by rw [setRow_other _ _ _ _ hne]; exact h⟩
def z11 : Array Value := evC EvP.none
/-- In a walk: a variable of type api.Event is laid. -/
theorem wpList_laid_e {ops : Array Oper} {rest : List Oper} {o1 o : Oper} {a : Act} {w : World} {Q : Exit → Act → World → Prop} (cs : Array Value) (d : Tmp) (x y : Operand) (hg1 : o1.guard = none) (ho1 : o1.op = .alloc 33) (hd1 : o1.dst = some d)
    (hgd : o.guard = none) (ho : o.op = .store 33 x y) (hd : o.dst = none) (hx : (a.put o1.dst (.pointer (some ⟨w.heap.size, 0, none⟩))).eval x = .pointer (some ⟨w.heap.size, 0, none⟩)) (hy : (a.put o1.dst (.pointer (some ⟨w.heap.size, 0, none⟩))).eval y = .agg cs)
    (hs : cs.size = 11) (h1 : cs.all (·.oneCell') = true)
    (h : wpList Try.prog ops Q rest (a.put o1.dst (.pointer (some ⟨w.heap.size, 0, none⟩))) (w.alloc (.cells cs 33))) : wpList Try.prog ops Q (o1 :: o :: rest) a w := by
  rw [hd1] at hx hy h
  refine wpList_plain hg1 fun K hK => ?_
  unfold Oper.wp execOp
  simp only [ho1]
  go_simp
  refine hK _ _ ?_
  refine wpList_store_e hgd x y ho w.heap.size cs hx hy z11 (Has.new _ _ _ rfl) rfl hs h1 ?_
  rw [hd]
  have e := World.setRow_alloc_new w z11 cs 33
  unfold z11 at e
  exact e ▸ h
/-- A result that is an event, a slice and a number. -/
theorem evres_run {fn : Func} {p q q2 : Tmp} (h : fn.results = #[.cell p 33, .tmp q, .tmp q2]) (tmps : Array Value) (w : World) (g : Nat) (cs : Array Value) (v v2 : Value) (hp : tmps.getD p undef = .pointer (some ⟨g, 0, none⟩)) (hq : tmps.getD q undef = v) (hq2 : tmps.getD q2 undef = v2) (hg : Has w g cs) (hs : cs.size = 11) :
    (results fn tmps).run Try.prog w = .ok (.tuple #[.agg cs, v, v2]) w := by
  obtain ⟨t, hg⟩ := hg
  have hp' : tmps[p]?.getD undef = .pointer (some ⟨g, 0, none⟩) := by simpa using hp
  have hq' : tmps[q]?.getD undef = v := by simpa using hq
  have hq2' : tmps[q2]?.getD undef = v2 := by simpa using hq2
  have hr := run_loadVar_row (P := Try.prog) w g t 33 cs (0, 0) _ hg Try.underlying33 rfl (by rw [hs]; kernel_rfl)
  simp [results, h, hp', hq', hq2', asAddr, hr]
end Go.Proofs.Ytgfomfioagblfaa

namespace Go.Proofs.Ytgfomfioagblfaa
open Go.RowKit
set_option linter.unusedVariables false

/-- A slice value over A reads as the numbers zs. -/
def Nums (w : World) (A : Option Addr) (zs : List Int) : Prop :=
  ∀ k, k < zs.length → ∃ b off, A = some ⟨b, off, none⟩ ∧ w.cell? ⟨b, off + k, none⟩ = some (.int .i64 (zs.getD k 0))
section
variable {w w' : World} {A : Option Addr} {zs : List Int}
theorem Nums.keep (h : Nums w A zs) (hk : ∀ p : Addr, p.block < w.heap.size → w'.cell? p = w.cell? p) : Nums w' A zs := by
  intro k hl
  obtain ⟨b, off, e, hc⟩ := h k hl
  exact ⟨b, off, e, (hk _ (cell_lt hc)).trans hc⟩
theorem Nums.below (h : Nums w A zs) (hb : Below w.heap.size w w') : Nums w' A zs := h.keep fun _ hp => hb.cell hp
theorem Nums.alloc (h : Nums w A zs) (o : Obj) : Nums (w.alloc o) A zs := h.keep fun p hp => World.cell?_alloc_lt w o p hp
theorem Nums.drew (h : Nums w A zs) : Nums w.drew A zs := h
theorem Nums.nil_ : Nums w A [] := fun k h => by simp at h
end
theorem nums_of_sl {w : World} {A : Option Addr} {n c : Nat} {zs : List Int} (h : Sl 1 w A n c (ints .i64 zs)) : Nums w A zs := by
  intro k hk
  obtain ⟨hl, ⟨_, rfl, _⟩ | ⟨ad, rfl, hc⟩⟩ := h
  · simp [ints] at hl
    subst hl
    simp at hk
  · have hk' := hc k (.int .i64 (zs.getD k 0)) (by simp [ints, List.getD, hk])
    obtain ⟨b, off, sp⟩ := ad
    have h0 := hc 0 (.int .i64 (zs.getD 0 0)) (by simp [ints, List.getD, show 0 < zs.length by omega])
    have hsp : sp = none := by simpa [Addr.add] using World.cell?_spot h0
    subst hsp
    refine ⟨b, off, rfl, ?_⟩
    have e : (⟨b, off, none⟩ : Addr).add k = ⟨b, off + k, none⟩ := by unfold Addr.add; split <;> simp_all
    rw [← e]
    exact hk'
theorem getD_ints (ns : List Nat) (k : Nat) : (ns.map (fun n : Nat => (n : Int))).getD k 0 = (ns.getD k 0 : Nat) := by
  simp only [List.getD_eq_getElem?_getD, List.getElem?_map]
  cases ns[k]? <;> rfl
/-- In a walk: a make whose run is known. -/
theorem wpList_make_run {P : Program} {ops : Array Oper} {rest : List Oper} {o : Oper} {a : Act} {w w' : World} {Q : Exit → Act → World → Prop} {l c : Operand} {t : TypeId} {vl vc v' : Value}
    (hr : (Instr.makeSlice t vl vc).run P w = .ok v' w') (hgd : o.guard = none)
    (ho : o.op = .makeSlice t l c) (hl : a.eval l = vl) (hc : a.eval c = vc)
    (h : wpList P ops Q rest (a.put o.dst v') w') : wpList P ops Q (o :: rest) a w := by
  refine wpList_plain hgd fun K hK => ?_
  unfold Oper.wp
  simp [execOp, ho, hl, hc, hr, Result.andThen]
  exact hK _ _ h
end Go.Proofs.Ytgfomfioagblfaa

namespace Go.Proofs.Ytgfomfioagblfaa
open Go.RowKit
set_option linter.unusedVariables false
set_option linter.unusedSimpArgs false

/-- Where a kind's own numbers stand. -/
def ownL (k : Int) : List Nat := if k = 3 then [4, 5, 6, 7, 8, 9] else if k = 4 then [10] else []
def knownK (k : Int) : Bool := decide (1 ≤ k ∧ k ≤ 7)
/-- A slice value over A reads as pointers into block g, at the places L. -/
def EPtrs (w : World) (A : Option Addr) (g : Nat) (L : List Nat) : Prop := ∀ k, k < L.length → ∃ b off, A = some ⟨b, off, none⟩ ∧ w.cell? ⟨b, off + k, none⟩ = some (ptrV g (L.getD k 0))
section
variable {w w' : World} {A : Option Addr} {g : Nat} {L : List Nat}
theorem EPtrs.keep (h : EPtrs w A g L) (hk : ∀ p : Addr, p.block < w.heap.size → w'.cell? p = w.cell? p) : EPtrs w' A g L := by
  intro k hl
  obtain ⟨b, off, e, hc⟩ := h k hl
  exact ⟨b, off, e, (hk _ (cell_lt hc)).trans hc⟩
theorem EPtrs.below (h : EPtrs w A g L) (hb : Below w.heap.size w w') : EPtrs w' A g L := h.keep fun _ hp => hb.cell hp
theorem EPtrs.alloc (h : EPtrs w A g L) (o : Obj) : EPtrs (w.alloc o) A g L := h.keep fun p hp => World.cell?_alloc_lt w o p hp
theorem EPtrs.drew (h : EPtrs w A g L) : EPtrs w.drew A g L := h
/-- .. and lies at B or behind. -/
def EPtrsN (B : Nat) (w : World) (A : Option Addr) (g : Nat) (L : List Nat) : Prop := ∀ k, k < L.length → ∃ b off, A = some ⟨b, off, none⟩ ∧ B ≤ b ∧ b < w.heap.size ∧ w.cell? ⟨b, off + k, none⟩ = some (ptrV g (L.getD k 0))
theorem EPtrsN.keep {B : Nat} (h : EPtrsN B w A g L) (hs : w.heap.size ≤ w'.heap.size) (hk : ∀ p : Addr, B ≤ p.block → p.block < w.heap.size → w'.cell? p = w.cell? p) : EPtrsN B w' A g L := by
  intro k hl
  obtain ⟨b, off, e, hB, hlt, hc⟩ := h k hl
  exact ⟨b, off, e, hB, by omega, (hk _ hB hlt).trans hc⟩
theorem EPtrsN.below {B : Nat} (h : EPtrsN B w A g L) (hb : Below w.heap.size w w') : EPtrsN B w' A g L := h.keep hb.size fun _ _ hp => hb.cell hp
theorem EPtrsN.drew {B : Nat} (h : EPtrsN B w A g L) : EPtrsN B w.drew A g L := h
end
theorem ptrs_of_has {w : World} {B p g : Nat} {L : List Nat} (h : Has w p ((L.map (ptrV g)).toArray)) (hp : B ≤ p) : EPtrsN B w (some ⟨p, 0, none⟩) g L := by
  intro k hk
  refine ⟨p, 0, rfl, hp, h.size, ?_⟩
  rw [Nat.zero_add]
  exact h.cell k (by simp [List.getD, hk])
theorem ptrs_nil (B : Nat) (w : World) (A : Option Addr) (g : Nat) : EPtrsN B w A g [] := fun k hk => by simp at hk
/-- What 'own(&e)[k]' reads. -/
def OwnAt (W : World) (g : Nat) (e : Ending) (w : World) : Prop :=
  ∃ m, e = .returned (.map (some m)) ∧ Below W.heap.size W w ∧ ∀ k : Int, (-9223372036854775808 ≤ k ∧ k ≤ 9223372036854775807) → ∃ A n c, (ownL k).length = n ∧ n ≤ 6 ∧ n ≤ c ∧ c ≤ 6 ∧ EPtrsN W.heap.size w A g (ownL k) ∧
    (Instr.lookup 49 (.map (some m)) (.int .i64 k) true).run Try.prog w = .ok (.tuple #[.slice A n c, .bool (knownK k)]) w ∧ (Instr.lookup 49 (.map (some m)) (.int .i64 k) false).run Try.prog w = .ok (.slice A n c) w
theorem own_at {W : World} {g : Nat} {e : Ending} {w : World} (h : OwnMap W g e w) : OwnAt W g e w := by
  obtain ⟨m, n, p, q, rfl, hb, hm, hp, hq, hP, hQ, hM⟩ := h
  refine ⟨m, rfl, hb, fun k hk => ?_⟩
  obtain ⟨h1, h2⟩ := hM.look (e := 48) Try.underlying49 (Try.zeroValue48 w) hk
  by_cases k3 : k = 3
  · subst k3
    exact ⟨_, 6, 6, rfl, by omega, by omega, by omega, ptrs_of_has (by exact hP) hp, h1, h2⟩
  · by_cases k4 : k = 4
    · subst k4
      exact ⟨_, 1, 1, rfl, by omega, by omega, by omega, ptrs_of_has (by exact hQ) hq, h1, h2⟩
    · have e0 : ownL k = [] := by simp [ownL, k3, k4]
      refine ⟨none, 0, 0, by rw [e0]; rfl, by omega, by omega, by omega, by rw [e0]; exact ptrs_nil _ _ _ _, ?_, ?_⟩
      · rw [h1]
        by_cases hkn : 1 ≤ k ∧ k ≤ 7
        · have hc : k = 1 ∨ k = 2 ∨ k = 5 ∨ k = 6 ∨ k = 7 := by omega
          rcases hc with rfl | rfl | rfl | rfl | rfl <;> rfl
        · have n1 : k ≠ 1 := by omega
          have n2 : k ≠ 2 := by omega
          have n5 : k ≠ 5 := by omega
          have n6 : k ≠ 6 := by omega
          have n7 : k ≠ 7 := by omega
          simp [mapF, n1, n2, n5, n6, n7, k3, k4, toldV, knownK, hkn]
      · rw [h2]
        by_cases hkn : 1 ≤ k ∧ k ≤ 7
        · have hc : k = 1 ∨ k = 2 ∨ k = 5 ∨ k = 6 ∨ k = 7 := by omega
          rcases hc with rfl | rfl | rfl | rfl | rfl <;> rfl
        · have n1 : k ≠ 1 := by omega
          have n2 : k ≠ 2 := by omega
          have n5 : k ≠ 5 := by omega
          have n6 : k ≠ 6 := by omega
          have n7 : k ≠ 7 := by omega
          simp [mapF, n1, n2, n5, n6, n7, k3, k4, toldV]
theorem own_c (g : Nat) (W : World) : Calls Try.prog 19 #[.pointer (some ⟨g, 0, none⟩)] W (OwnAt W g) := (own_any g W).mono fun _ _ h => own_at h

/-! ### an event's numbers as a list -/
def evL (e : EvP) : List Int := [e.id, e.wk, e.tm, e.kd, e.fr, e.to, e.el, e.un, e.cl, e.ge, e.cd]
theorem evC_L (e : EvP) : evC e = (ints .i64 (evL e)).toArray := rfl
def evOf (l : List Int) : EvP := ⟨l.getD 0 0, l.getD 1 0, l.getD 2 0, l.getD 3 0, l.getD 4 0, l.getD 5 0, l.getD 6 0, l.getD 7 0, l.getD 8 0, l.getD 9 0, l.getD 10 0⟩
theorem evL_Of {l : List Int} (h : l.length = 11) : evL (evOf l) = l := by
  match l, h with
  | [a, b, c, d, e, f, g, i, j, k, m], _ => rfl
theorem ev_nums (e : EvP) : e.nums = [e.id, e.wk, e.tm, e.kd] ++ (ownL e.kd).map (fun o => (evL e).getD o 0) := by
  unfold EvP.nums ownL
  by_cases h3 : e.kd = 3
  · have h4 : e.kd ≠ 4 := by omega
    simp [h3, evL]
  · by_cases h4 : e.kd = 4 <;> simp [h3, h4, evL]
theorem ownL_lt {k : Int} {o : Nat} (h : o ∈ ownL k) : 4 ≤ o ∧ o < 11 := by
  unfold ownL at h
  split at h
  · simp at h; omega
  · split at h
    · simp at h; omega
    · simp at h
theorem ownL_nodup (k : Int) : (ownL k).Nodup := by
  unfold ownL
  split
  · decide
  · split <;> decide
end Go.Proofs.Ytgfomfioagblfaa
