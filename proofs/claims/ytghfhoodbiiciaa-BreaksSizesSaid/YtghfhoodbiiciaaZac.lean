/-
  Slices of bytes of the call's own: append, store, cut.
  Bytes turned into texts, whatever their number; texts held against each other.
  Numbers of parts: a part is so many numbers, or a list of rows of so many numbers, with how many rows ahead. What is written so is read in one way. No program here.
  Plain facts on numbers through others: lowest terms, which of them may be, what is as much. No program is named here.
  Setups: which may be, their numbers, and that they are read in one way. No program here.
  Setups read off a list of numbers, place by place. No program here.
  Events: which are fair, their numbers and bytes, and their order. No program here.
  Events as values: their cells, loads, stores, and whether two are the same.
  A map from numbers that the call has made: what it tells of a number, whatever order it was filled in.
  Slices of structs that are numbers alone, as rows of numbers; arguments that hold them opened. Over any program.
  An argument of type api.Event, opened.
-/
import Derived.Test.YtghfhoodbiiciaaProg
import Derived.Test.YtghfhoodbiiciaaZab
import Derived.Test.YtghfhoodbiiciaaZaa
import Derived.Laws.BytesArg
import Derived.RowKit
import Derived.IntWalk
import Derived.WalkKit
import Derived.Laws.StructEq
import Derived.Laws.Cover1
import Derived.Deep.WholeRow
import Derived.KernelRfl
import Derived.Lib.Hide
import Derived.Maps.OwnSet
import Derived.Deep.Slices
import Derived.Lib.SmallJoins
import Derived.OpenShut
namespace Go.Proofs.Ytghfhoodbiiciaa
open Go.RowKit
set_option linter.unusedVariables false

/-- A slice of the call's own, that lies at 'base' or behind, and holds the bytes xs. -/
def BRow (w : World) (base : Nat) (A : Option Addr) (c : Nat) (xs : List (BitVec 8)) : Prop :=
  w.ownsRow base 5 1 (.slice A xs.length c) xs.length (bytesV xs)
section
variable {w w' : World} {base c : Nat} {A : Option Addr} {xs : List (BitVec 8)}
theorem BRow.nil (w : World) (base : Nat) : BRow w base none 0 [] := World.ownsRow_nil w base _ _
theorem BRow.keep (h : BRow w base A c xs) (hk : ∀ g, A = some g → w'.heap[g.block]? = w.heap[g.block]?) : BRow w' base A c xs := by
  obtain ⟨hl, hn | ⟨g, cap, cur, hv, hg, hh, rest⟩⟩ := h
  · exact ⟨hl, .inl hn⟩
  · injection hv with e1 e2 e3
    subst e1
    exact ⟨hl, .inr ⟨g, cap, cur, by rw [e3], hg, (hk _ rfl).trans hh, rest⟩⟩
theorem BRow.lt (h : BRow w base A c xs) : ∀ g, A = some g → base ≤ g.block ∧ g.block < w.heap.size := by
  rintro g rfl
  exact World.ownsRow.lt h _ rfl
theorem BRow.below (h : BRow w base A c xs) (hb : Below w.heap.size w w') : BRow w' base A c xs :=
  h.keep fun g hg => hb.block _ (h.lt g hg).2
theorem BRow.alloc (h : BRow w base A c xs) (o : Obj) : BRow (w.alloc o) base A c xs := World.ownsRow.alloc h o
theorem BRow.drewN (h : BRow w base A c xs) (n : Nat) : BRow (w.drewN n) base A c xs := h
theorem BRow.drew (h : BRow w base A c xs) : BRow w.drew base A c xs := h
theorem BRow.mono (h : BRow w base A c xs) {b : Nat} (hb : b ≤ base) : BRow w b A c xs := by
  obtain ⟨hl, hn | ⟨g, cap, cur, hv, hg, rest⟩⟩ := h
  · exact ⟨hl, .inl hn⟩
  · exact ⟨hl, .inr ⟨g, cap, cur, hv, by omega, rest⟩⟩
theorem BRow.forms (h : BRow w base A c xs) : (A = none ∧ xs = [] ∧ c = 0) ∨ ∃ g, A = some ⟨g, 0, none⟩ ∧ base ≤ g ∧ g < w.heap.size ∧ xs.length ≤ c ∧ c ≤ maxLen := by
  have hlt := h.lt
  obtain ⟨hl, ⟨hv, hz⟩ | ⟨g, cap, cur, hv, hb, hh, hc, hm, _⟩⟩ := h
  · injection hv with e1 e2 e3
    exact .inl ⟨e1, List.eq_nil_of_length_eq_zero hz, e3⟩
  · injection hv with e1 e2 e3
    subst e1 e3
    exact .inr ⟨g, rfl, hb, (hlt _ rfl).2, hc, hm⟩
theorem BRow.form (h : BRow w base A c xs) (hn : xs ≠ []) : ∃ g, A = some ⟨g, 0, none⟩ := by
  rcases h.forms with ⟨_, e, _⟩ | ⟨g, e, _⟩
  · exact absurd e hn
  · exact ⟨g, e⟩
theorem BRow.sl (h : BRow w base A c xs) : Sl 1 w A xs.length c (bytesV xs) := Sl.of_own h
theorem BRow.set {g : Nat} (h : BRow w base (some ⟨g, 0, none⟩) c xs) {k : Nat} (hk : k < xs.length) (x : BitVec 8) : BRow (w.setCell ⟨g, k, none⟩ (v8 x)) base (some ⟨g, 0, none⟩) c (xs.set k x) := by
  have := (World.ownsRow.stored h k (v8 x)).1
  unfold BRow
  rw [List.length_set]
  have e : bytesV (xs.set k x) = (bytesV xs).set k (v8 x) := by simp [bytesV, List.map_set]
  rw [e]
  exact this
end

theorem BRow.cap_le {w : World} {base c : Nat} {A : Option Addr} {xs : List (BitVec 8)} (h : BRow w base A c xs) {n : Nat} (hn : xs.length = n) : n ≤ c := by
  subst hn
  rcases h.forms with ⟨_, rfl, _⟩ | ⟨g, _, _, _, h, _⟩
  · simp
  · exact h
theorem BRow.slAt {w : World} {base c : Nat} {A : Option Addr} {xs : List (BitVec 8)} (h : BRow w base A c xs) {n : Nat} (hn : xs.length = n) : Sl 1 w A n c (bytesV xs) := by
  subst hn
  exact h.sl
end Go.Proofs.Ytghfhoodbiiciaa

namespace Go.Proofs.Ytghfhoodbiiciaa
open Go.RowKit
set_option linter.unusedVariables false

/-- What a call that tells bytes answers: a slice of its own. -/
def TellsB (w : World) (xs : List (BitVec 8)) (v : Value) (w' : World) : Prop := ∃ A c, v = .slice A xs.length c ∧ BRow w' w.heap.size A c xs
theorem TellsB.below {w w' w'' : World} {xs : List (BitVec 8)} {v : Value} (h : TellsB w xs v w') (hb : Below w'.heap.size w' w'') : TellsB w xs v w'' := by
  obtain ⟨A, c, e, hr⟩ := h
  exact ⟨A, c, e, hr.below hb⟩
end Go.Proofs.Ytghfhoodbiiciaa

namespace Go.Proofs.Ytghfhoodbiiciaa
set_option linter.unusedVariables false
set_option linter.unusedSimpArgs false

inductive GPart where
  | fix (k : Nat)
  | tab (k : Nat)
abbrev Rows2 := List (List Int)
def GPart.nums : GPart → Rows2 → List Int
  | .fix _, t => t.flatten
  | .tab _, t => (t.length : Int) :: t.flatten
/-! ### Bytes -/
/-- Numbers from 0 on as bytes. -/
def bytesN (l : List Int) : List (BitVec 8) := putB (l.map Int.toNat)
/-! ### The numbers that bytes are -/
end Go.Proofs.Ytghfhoodbiiciaa

namespace Go.Proofs.Ytghfhoodbiiciaa

/-- The ratio may be. -/
def mayB (n d : Int) : Bool := decide (-2147483647 ≤ n ∧ n ≤ 2147483647 ∧ 1 ≤ d ∧ d ≤ 2147483647 ∧ Int.gcd n d = 1)
/-- What Make tells: the error, and the two parts. -/
def mkC (n d : Int) : Int := if d ≤ 0 then 20 else if -2147483647 ≤ n / (Int.gcd n d : Int) ∧ n / (Int.gcd n d : Int) ≤ 2147483647 ∧ d / (Int.gcd n d : Int) ≤ 2147483647 then 0 else 10
def mkN (n d : Int) : Int := if mkC n d = 0 then n / (Int.gcd n d : Int) else 0
def mkD (n d : Int) : Int := if mkC n d = 0 then d / (Int.gcd n d : Int) else 0

theorem gcd_pos' {n d : Int} (h : 0 < d) : 0 < (Int.gcd n d : Int) := by
  have : 0 < Int.gcd n d := Int.gcd_pos_of_ne_zero_right n (by omega)
  omega
theorem gcd_n (n d : Int) : (Int.gcd n d : Int) * (n / (Int.gcd n d : Int)) = n := Int.mul_ediv_cancel' (Int.gcd_dvd_left n d)
theorem gcd_d (n d : Int) : (Int.gcd n d : Int) * (d / (Int.gcd n d : Int)) = d := Int.mul_ediv_cancel' (Int.gcd_dvd_right n d)
theorem low_d {n d : Int} (h : 0 < d) : 0 < d / (Int.gcd n d : Int) := by
  have h1 := gcd_d n d
  have h2 := gcd_pos' (n := n) h
  generalize hq : d / (Int.gcd n d : Int) = q at *
  generalize (Int.gcd n d : Int) = g at *
  rcases Int.lt_or_le 0 q with h3 | h3
  · exact h3
  · exfalso
    have : g * q ≤ g * 0 := Int.mul_le_mul_of_nonneg_left h3 (by omega)
    omega
theorem low_gcd {n d : Int} (h : 0 < d) : Int.gcd (n / (Int.gcd n d : Int)) (d / (Int.gcd n d : Int)) = 1 := by
  have h0 : 0 < Int.gcd n d := Int.gcd_pos_of_ne_zero_right n (by omega)
  rw [Int.gcd_ediv (Int.gcd_dvd_left n d) (Int.gcd_dvd_right n d)]
  simp
  exact Nat.div_self h0

theorem mkC_pos {n d : Int} (h : mkC n d = 0) : 0 < d := by
  unfold mkC at h
  split at h
  · omega
  · omega
theorem mk_may {n d : Int} (h : mkC n d = 0) : mayB (mkN n d) (mkD n d) = true := by
  have hd := mkC_pos h
  unfold mayB mkN mkD
  rw [if_pos h, if_pos h]
  have h' := h
  unfold mkC at h'
  rw [if_neg (by omega)] at h'
  split at h'
  · rename_i hb
    have := low_d (n := n) hd
    exact decide_eq_true ⟨hb.1, hb.2.1, by omega, hb.2.2, low_gcd hd⟩
  · omega
theorem mk_bad {n d : Int} (h : mkC n d ≠ 0) : mkN n d = 0 ∧ mkD n d = 0 := by
  unfold mkN mkD
  rw [if_neg h, if_neg h]
  exact ⟨rfl, rfl⟩
theorem may_bd {n d : Int} (h : mayB n d = true) : -2147483647 ≤ n ∧ n ≤ 2147483647 ∧ 1 ≤ d ∧ d ≤ 2147483647 ∧ Int.gcd n d = 1 := of_decide_eq_true h

theorem dvd_low {k n m : Int} (h : k ∣ n * m) (hg : Int.gcd k n = 1) : k ∣ m := by
  have h1 := Int.dvd_gcd_mul_iff_dvd_mul.2 h
  rw [hg] at h1
  simpa using h1
/-- What is as much, in lowest terms, is one. -/
theorem low_unique {x y p q : Int} (hy : 0 < y) (hq : 0 < q) (h1 : Int.gcd x y = 1) (h2 : Int.gcd p q = 1) (h : x * q = p * y) : x = p ∧ y = q := by
  have d1 : y ∣ q := by
    have : y ∣ x * q := ⟨p, by rw [h, Int.mul_comm]⟩
    exact dvd_low this (by rw [Int.gcd_comm]; exact h1)
  have d2 : q ∣ y := by
    have : q ∣ p * y := ⟨x, by rw [← h, Int.mul_comm]⟩
    exact dvd_low this (by rw [Int.gcd_comm]; exact h2)
  have e : y = q := Int.dvd_antisymm (by omega) (by omega) d1 d2
  subst e
  exact ⟨Int.eq_of_mul_eq_mul_right (by omega) h, rfl⟩

/-- A ratio that may be, and is as much as n through d, is what is told. -/
theorem mk_of {x y n d : Int} (hm : mayB x y = true) (hd : 0 < d) (h : x * d = n * y) : mkC n d = 0 ∧ mkN n d = x ∧ mkD n d = y := by
  obtain ⟨b1, b2, b3, b4, b5⟩ := may_bd hm
  have g1 := gcd_n n d
  have g2 := gcd_d n d
  have g3 := gcd_pos' (n := n) hd
  have g4 := low_gcd (n := n) hd
  have g5 := low_d (n := n) hd
  have hx : x * (d / (Int.gcd n d : Int)) = (n / (Int.gcd n d : Int)) * y := by
    generalize d / (Int.gcd n d : Int) = q at *
    generalize n / (Int.gcd n d : Int) = p at *
    generalize (Int.gcd n d : Int) = g at *
    rw [← g1, ← g2] at h
    have : g * (x * q) = g * (p * y) := by rw [Int.mul_left_comm, h, Int.mul_assoc]
    exact Int.eq_of_mul_eq_mul_left (by omega) this
  obtain ⟨e1, e2⟩ := low_unique (by omega) g5 b5 g4 hx
  have hc : mkC n d = 0 := by
    unfold mkC
    rw [if_neg (by omega), ← e1, ← e2, if_pos ⟨b1, b2, b4⟩]
  refine ⟨hc, ?_, ?_⟩
  · unfold mkN; rw [if_pos hc, ← e1]
  · unfold mkD; rw [if_pos hc, ← e2]
theorem mk_self {x y : Int} (hm : mayB x y = true) : mkC x y = 0 ∧ mkN x y = x ∧ mkD x y = y := mk_of hm (by have := may_bd hm; omega) rfl
end Go.Proofs.Ytghfhoodbiiciaa

namespace Go.Proofs.Ytghfhoodbiiciaa
set_option linter.unusedVariables false
set_option linter.unusedSimpArgs false

/-- A setup: its lists as rows of numbers. -/
structure SetP where
  places : Int
  ways : Rows2
  pn : Int
  pd : Int
  elements : Rows2
  classes : Rows2
  gears : Rows2
  allow : Int
  unit : Int
  cap : Int
  paid : Int
  aft : Int
  brk : Int
  reg : Int
  over : Int
  week : Int
  nfrom : Int
  nto : Int
  rates : List Int
  diff : Int
  least : Int
  fault : Int
  tiers : Rows2
def SetP.none : SetP := ⟨0, [], 0, 0, [], [], [], 0, 0, 0, 0, 0, 0, 0, 0, 0, 0, 0, [], 0, 0, 0, []⟩
/-- Its rows are as wide as they should. -/
structure SetP.Wide (s : SetP) : Prop where
  ways : ∀ r ∈ s.ways, r.length = 3
  elements : ∀ r ∈ s.elements, r.length = 4
  classes : ∀ r ∈ s.classes, r.length = 2
  gears : ∀ r ∈ s.gears, r.length = 2
  tiers : ∀ r ∈ s.tiers, r.length = 2
/-- A setup's numbers. -/
def SetP.nums (s : SetP) : List Int :=
  s.places :: (s.ways.length : Int) :: (s.ways.flatten ++ (s.pn :: s.pd :: (s.elements.length : Int) :: (s.elements.flatten ++ ((s.classes.length : Int) :: (s.classes.flatten ++ ((s.gears.length : Int) :: (s.gears.flatten ++
    (s.allow :: s.unit :: s.cap :: s.paid :: s.aft :: s.brk :: s.reg :: s.over :: s.week :: s.nfrom :: s.nto :: (s.rates.length : Int) :: (s.rates ++ (s.diff :: s.least :: s.fault :: (s.tiers.length : Int) :: s.tiers.flatten))))))))))
theorem flat_ones : ∀ l : List Int, (l.map fun n => [n]).flatten = l
  | [] => rfl
  | n :: l => by simp [flat_ones l]
/-! ### Which may be -/
def shareB (n d : Int) : Bool := mayB n d && decide (0 ≤ n)
def wayP (p : Int) (r : List Int) : Prop := 0 ≤ r.getD 0 0 ∧ 0 ≤ r.getD 1 0 ∧ r.getD 0 0 < p ∧ r.getD 1 0 < p ∧ r.getD 0 0 ≠ r.getD 1 0 ∧ 1 ≤ r.getD 2 0 ∧ r.getD 2 0 ≤ 10000
def eleP (r : List Int) : Prop := shareB (r.getD 0 0) (r.getD 1 0) = true ∧ shareB (r.getD 2 0) (r.getD 3 0) = true
def ratP (r : List Int) : Prop := shareB (r.getD 0 0) (r.getD 1 0) = true
def rateP (n : Int) : Prop := 0 ≤ n ∧ n ≤ 100000
def tierP (l : Rows2) (i : Nat) : Prop := 0 ≤ (l.getD i []).getD 0 0 ∧ (l.getD i []).getD 0 0 ≤ 1000 ∧ 0 ≤ (l.getD i []).getD 1 0 ∧ (l.getD i []).getD 1 0 ≤ 100000 ∧ (0 < i → (l.getD (i - 1) []).getD 0 0 < (l.getD i []).getD 0 0)
structure SetP.May (s : SetP) : Prop where
  places : 1 ≤ s.places ∧ s.places ≤ 16
  ways : s.ways.length ≤ 64 ∧ ∀ r ∈ s.ways, wayP s.places r
  pace : shareB s.pn s.pd = true
  elements : s.elements.length ≤ 8 ∧ ∀ r ∈ s.elements, eleP r
  classes : s.classes.length ≤ 8 ∧ ∀ r ∈ s.classes, ratP r
  gears : s.gears.length ≤ 8 ∧ ∀ r ∈ s.gears, ratP r
  allow : 0 ≤ s.allow ∧ s.allow ≤ 100
  unit : 1 ≤ s.unit ∧ s.unit ≤ 3600
  cap : 60 ≤ s.cap ∧ s.cap ≤ 57600
  paid : 0 ≤ s.paid ∧ s.paid ≤ 86400
  aft : 0 ≤ s.aft ∧ s.aft ≤ 86400
  brk : 0 ≤ s.brk ∧ s.brk ≤ 86400
  nfrom : 0 ≤ s.nfrom ∧ s.nfrom ≤ 86400
  nto : 0 ≤ s.nto ∧ s.nto ≤ 86400
  fault : 0 ≤ s.fault ∧ s.fault ≤ 86400
  reg : 0 ≤ s.reg ∧ s.reg ≤ s.over
  over : s.over ≤ 86400
  week : 0 ≤ s.week ∧ s.week ≤ 604800
  rates : 1 ≤ s.rates.length ∧ s.rates.length ≤ 16 ∧ ∀ n ∈ s.rates, rateP n
  diff : 0 ≤ s.diff ∧ s.diff ≤ 100000
  least : 0 ≤ s.least ∧ s.least ≤ 100000
  tiers : s.tiers.length ≤ 8 ∧ ∀ i, i < s.tiers.length → tierP s.tiers i
/-! ### As bytes -/
def SetP.bytes (s : SetP) : List (BitVec 8) := bytesN s.nums
/-! ### Read -/
end Go.Proofs.Ytghfhoodbiiciaa

namespace Go.Proofs.Ytghfhoodbiiciaa
set_option linter.unusedVariables false
set_option linter.unusedSimpArgs false

theorem rows_len {k : Nat} : ∀ (t : Rows2), (∀ r ∈ t, r.length = k) → t.flatten.length = k * t.length
  | [], _ => by simp
  | r :: t, h => by
    have h1 := rows_len t (fun q hq => h q (by simp [hq]))
    have h2 := h r (by simp)
    rw [List.flatten_cons, List.length_append, h1, h2, List.length_cons, Nat.mul_add]
    omega
theorem rows_get {k : Nat} : ∀ (t : Rows2), (∀ r ∈ t, r.length = k) → ∀ i j, i < t.length → j < k → ∀ v : List Int, (t.flatten ++ v).getD (k * i + j) 0 = (t.getD i []).getD j 0
  | [], _, i, j, hi, _, v => by simp at hi
  | r :: t, h, i, j, hi, hj, v => by
    have h2 := h r (by simp)
    rw [List.flatten_cons, List.append_assoc]
    rcases i with _ | i
    · rw [Nat.mul_zero, Nat.zero_add, List.getD_eq_getElem?_getD, List.getElem?_append_left (by omega)]
      simp [List.getD]
    · have h3 := rows_get t (fun q hq => h q (by simp [hq])) i j (by simpa using hi) hj v
      rw [List.getD_eq_getElem?_getD, List.getElem?_append_right (by rw [h2, Nat.mul_add]; omega), h2, show k * (i + 1) + j - k = k * i + j by rw [Nat.mul_add]; omega, ← List.getD_eq_getElem?_getD, h3]
      simp [List.getD]
end Go.Proofs.Ytghfhoodbiiciaa

namespace Go.Proofs.Ytghfhoodbiiciaa
set_option linter.unusedVariables false
set_option linter.unusedSimpArgs false

structure EvP where
  id : Int
  wk : Int
  tm : Int
  kd : Int
  fr : Int
  to : Int
  el : Int
  un : Int
  cl : Int
  ge : Int
  cd : Int
deriving DecidableEq
def EvP.none : EvP := ⟨0, 0, 0, 0, 0, 0, 0, 0, 0, 0, 0⟩
def EvP.nums (e : EvP) : List Int := [e.id, e.wk, e.tm, e.kd] ++ ((if e.kd = 3 then [e.fr, e.to, e.el, e.un, e.cl, e.ge] else []) ++ (if e.kd = 4 then [e.cd] else []))
def EvP.bytes (e : EvP) : List (BitVec 8) := bytesN e.nums
/-! ### The document's own Take -/
/-! ### The order -/
end Go.Proofs.Ytghfhoodbiiciaa

namespace Go.Proofs.Ytghfhoodbiiciaa
open Go.RowKit
set_option linter.unusedVariables false
set_option linter.unusedSimpArgs false

/-- An event's cells. -/
def evC (e : EvP) : Array Value := #[.int .i64 e.id, .int .i64 e.wk, .int .i64 e.tm, .int .i64 e.kd, .int .i64 e.fr, .int .i64 e.to, .int .i64 e.el, .int .i64 e.un, .int .i64 e.cl, .int .i64 e.ge, .int .i64 e.cd]
end Go.Proofs.Ytghfhoodbiiciaa

namespace Go.Proofs.Ytghfhoodbiiciaa
open Go.RowKit
set_option linter.unusedVariables false

def RVal (v : Value) : Option (DataW Value × List MemPlace) := some (.held v, [])
def updF (f : Int → Option Value) (k : Int) (v : Value) : Int → Option Value := fun i => if i = k then some v else f i
theorem int_keyed3 : Maps.Keyed Try.prog 3 := Maps.int_keyed Try.underlying3
theorem int_key3 {i : Int} (h : -9223372036854775808 ≤ i ∧ i ≤ 9223372036854775807) : keyOf Try.prog 3 (.int .i64 i) = some (.int .i64 i) :=
  Maps.keyOf_int_mk Try.underlying3 (by simp [Lit.wf, IntKind.min, IntKind.max, IntKind.bits, IntKind.signed]; omega)
/-- Block b is a map from numbers to slices, of at most n entries; f tells what it has. -/
def MapI (w : World) (b n : Nat) (f : Int → Option Value) : Prop :=
  ∃ D : DataW Value, w.ownsMap Try.prog 3 RVal b n D ∧ Maps.IsMap D ∧ ∀ i : Int, (-9223372036854775808 ≤ i ∧ i ≤ 9223372036854775807) → Maps.has D (.int .i64 i) = (f i).isSome ∧ ∀ v, f i = some v → ∀ z, D.atKey (.int .i64 i) z = .held v

section
variable {w w' : World} {b n : Nat} {f : Int → Option Value}
theorem MapI.lt (h : MapI w b n f) : b < w.heap.size := by
  obtain ⟨D, h, _⟩ := h
  exact h.lt
theorem MapI.new (w : World) {s : Nat} (hs : w.heap.size = s) : MapI (w.alloc (.map #[] 0)) s 0 (fun _ => none) := by
  subst hs
  exact ⟨.map [], World.ownsMap_made w _ _ _, Maps.isMap_empty, fun i _ => ⟨rfl, fun v h => by cases h⟩⟩
theorem MapI.alloc (h : MapI w b n f) (o : Obj) : MapI (w.alloc o) b n f := by
  obtain ⟨D, h, r⟩ := h
  exact ⟨D, h.alloc o, r⟩
theorem MapI.below (h : MapI w b n f) (hb : Below w.heap.size w w') : MapI w' b n f := by
  have hl := h.lt
  obtain ⟨D, ⟨es, clock, hh, F, hs, hD⟩, r⟩ := h
  exact ⟨D, ⟨es, clock, (hb.block b hl).trans hh, F, hs, hD⟩, r⟩
theorem lit_int_ne {i k : Int} (h : i ≠ k) : Lit.int .i64 i ≠ Lit.int .i64 k := fun e => h (by injection e)
/-- What 'm[k] = v' does. -/
theorem MapI.put (h : MapI w b n f) (hn : n < 1000) {t : TypeId} {e : TypeId} (ht : Try.prog.underlying t = some (.map 3 e)) {k : Int} (hk : -9223372036854775808 ≤ k ∧ k ≤ 9223372036854775807) (v : Value) :
    ∃ w', (Instr.mapUpdate t (.map (some b)) (.int .i64 k) v).run Try.prog w = .ok () w' ∧ MapI w' b (n + 1) (updF f k v) ∧ w.grownBy w' (some b) := by
  obtain ⟨D, h, hm, hf⟩ := h
  obtain ⟨w', hr, h2, hg⟩ := h.update int_keyed3 ht (by unfold maxLen; omega) (int_key3 hk) (d := .held v) (ps := []) rfl
  refine ⟨w', hr, ⟨D.put (.int .i64 k) (.held v), h2, hm.put _ _, fun i hi => ?_⟩, hg⟩
  obtain ⟨h3, h4⟩ := hf i hi
  unfold updF
  by_cases e : i = k
  · subst e
    rw [if_pos rfl]
    refine ⟨by rw [Maps.has_put_same hm (by trivial)]; rfl, fun u hu z => ?_⟩
    cases hu
    exact Maps.atKey_put_same hm (by trivial) _ _
  · rw [if_neg e]
    exact ⟨by rw [Maps.has_put_other (lit_int_ne e)]; exact h3, fun u hu z => by rw [Maps.atKey_put_other (lit_int_ne e)]; exact h4 u hu z⟩
end
end Go.Proofs.Ytghfhoodbiiciaa

namespace Go.Proofs.Ytghfhoodbiiciaa
open Go.RowKit Go.Deep Go.WideShapes
set_option linter.unusedVariables false
set_option linter.unusedSimpArgs false

theorem getD_in {l : List Int} {j : Nat} (h : j < l.length) : l.getD j 0 ∈ l := by
  rw [List.getD_eq_getElem?_getD, List.getElem?_eq_getElem h, Option.getD_some]
  exact List.getElem_mem _
def In64 (z : Int) : Prop := -9223372036854775808 ≤ z ∧ z ≤ 9223372036854775807
/-- The slice value '.slice A n c' reads as the rows t, of k numbers each. -/
structure Tab (k : Nat) (w : World) (A : Option Addr) (n c : Nat) (t : Rows2) : Prop where
  sl : Sl k w A n c (ints .i64 t.flatten)
  len : t.length = n
  wide : ∀ r ∈ t, r.length = k
  small : ∀ r ∈ t, ∀ z ∈ r, In64 z
  cap : n ≤ c
  max : c ≤ 9223372036854775807
theorem tab_add {b off n : Nat} : (⟨b, off, none⟩ : Addr).add n = ⟨b, off + n, none⟩ := by unfold Addr.add; split <;> simp_all
section
variable {k : Nat} {w w' : World} {A : Option Addr} {n c : Nat} {t : Rows2}
theorem Tab.below (h : Tab k w A n c t) (hb : Below w.heap.size w w') : Tab k w' A n c t := ⟨h.sl.below hb, h.len, h.wide, h.small, h.cap, h.max⟩
theorem Tab.nil_ : Tab k w none 0 0 [] := ⟨⟨by simp [ints], .inl ⟨rfl, rfl, rfl⟩⟩, rfl, by simp, by simp, by omega, by omega⟩
theorem Tab.form (h : Tab k w A n c t) (hk : 0 < k) (hn : 0 < n) : ∃ b off, A = some ⟨b, off, none⟩ := by
  obtain ⟨hl, ⟨_, h0, _⟩ | ⟨ad, rfl, hc⟩⟩ := h.sl
  · omega
  · have hp : 0 < n * k := Nat.mul_pos hn hk
    obtain ⟨u, hu⟩ : ∃ u, (ints .i64 t.flatten)[0]? = some u := ⟨_, List.getElem?_eq_getElem (by omega)⟩
    have h0 := hc 0 u hu
    obtain ⟨b, off, sp⟩ := ad
    have hsp : sp = none := by simpa [Addr.add] using World.cell?_spot h0
    subst hsp
    exact ⟨b, off, rfl⟩
/-- One number of one row. -/
theorem Tab.cell {b off : Nat} (h : Tab k w (some ⟨b, off, none⟩) n c t) {i j : Nat} (hi : i < n) (hj : j < k) : w.cell? ⟨b, off + i * k + j, none⟩ = some (.int .i64 ((t.getD i []).getD j 0)) := by
  have hti : i < t.length := by rw [h.len]; exact hi
  obtain ⟨hl, ⟨h0, _, _⟩ | ⟨ad, e, hc⟩⟩ := h.sl
  · cases h0
  · injection e with e
    subst e
    have hg := rows_get t h.wide i j hti hj []
    rw [List.append_nil] at hg
    have hlt : k * i + j < t.flatten.length := by
      rw [rows_len t h.wide]
      have : k * i + k ≤ k * t.length := by rw [← Nat.mul_succ]; exact Nat.mul_le_mul_left k hti
      omega
    have hu : (ints .i64 t.flatten)[k * i + j]? = some (.int .i64 ((t.getD i []).getD j 0)) := by
      rw [ints, List.getElem?_map, List.getElem?_eq_getElem hlt, Option.map_some, ← hg, List.getD_eq_getElem?_getD, List.getElem?_eq_getElem hlt, Option.getD_some]
    have := hc _ _ hu
    rw [tab_add, ← Nat.add_assoc, Nat.mul_comm] at this
    exact this
theorem Tab.at_small (h : Tab k w A n c t) {i j : Nat} (hi : i < n) (hj : j < k) : In64 ((t.getD i []).getD j 0) := by
  have hti : i < t.length := by rw [h.len]; exact hi
  have hr : t.getD i [] ∈ t := by simp [List.getD, hti]
  have hw := h.wide _ hr
  exact h.small _ hr _ (getD_in (by omega))
end
/-! ### Arguments -/
/-- What is read at type t is k numbers. -/
def NumsT (P : Program) (t : TypeId) (k : Nat) : Prop := ∀ (H : Type) (enc : TypeId × Value → H) (w : World) (base : Nat) (spare : Nat → Bool) (held : Bool) (fuel : Nat) (cs : List Value) (x : DataW H × List MemPlace),
  DataW.trod enc P w base spare held fuel t cs = some x → ∃ zs : List Int, zs.length = k ∧ cs = ints .i64 zs ∧ ∀ z ∈ zs, In64 z
theorem alli_int {P : Program} {t : TypeId} (h : P.underlying t = some (.int .i64)) : NumsT P t 1 := by
  intro H enc w base spare held fuel cs x hx
  obtain ⟨z, e, _, hz⟩ := DataW.trod_int h hx
  exact ⟨[z], rfl, e, fun y hy => by obtain rfl : y = z := by simpa using hy
                                     exact bounds_i64 hz⟩
/-- Fields one behind the other, each of numbers alone. -/
def ChainI (P : Program) : List Field → Nat → Nat → Prop
  | [], o, n => o = n
  | f :: fs, o, n => f.offset = o ∧ NumsT P f.type (P.cellsOf f.type) ∧ ChainI P fs (o + P.cellsOf f.type) n
theorem chain_ints {H : Type} {enc : TypeId × Value → H} {P : Program} {w : World} {base : Nat} {spare : Nat → Bool} {held : Bool} {n : Nat} {cs : List Value} (hl : cs.length = n) :
    ∀ (fs : List Field) (o : Nat), ChainI P fs o n → (∀ f ∈ fs, ∃ m x, DataW.trod enc P w base spare held m f.type ((cs.drop f.offset).take (P.cellsOf f.type)) = some x) → ∃ zs : List Int, cs.drop o = ints .i64 zs ∧ ∀ z ∈ zs, In64 z
  | [], o, hc, _ => by
    have : o = n := hc
    exact ⟨[], by rw [List.drop_of_length_le (by omega)]; rfl, by simp⟩
  | f :: fs, o, ⟨ho, ha, hc⟩, hx => by
    obtain ⟨m, x, h1⟩ := hx f (by simp)
    obtain ⟨zs, hz, e, hb⟩ := ha _ _ _ _ _ _ _ _ _ h1
    obtain ⟨ys, e2, hb2⟩ := chain_ints hl fs _ hc (fun g hg => hx g (by simp [hg]))
    refine ⟨zs ++ ys, ?_, fun z h => ?_⟩
    · rw [← List.take_append_drop (P.cellsOf f.type) (cs.drop o), List.drop_drop, e2, ← ho, e]
      simp [ints]
    · rcases List.mem_append.1 h with h | h
      · exact hb z h
      · exact hb2 z h
theorem alli_struct {P : Program} {t : TypeId} {fs : Array Field} {n : Nat} (hs : P.underlying t = some (.struct fs)) (hn : P.cellsOf t = n) (hc : ChainI P fs.toList 0 n) : NumsT P t n := by
  intro H enc w base spare held fuel cs x hx
  obtain ⟨xs, m, _, _, hl, hxl, hf⟩ := DataW.trod_struct hs hx
  obtain ⟨zs, e, hb⟩ := chain_ints (cs := cs) (hl.trans hn) fs.toList 0 hc (fun f hf' => by
    obtain ⟨i, hi, rfl⟩ := List.getElem_of_mem hf'
    have hi' : i < fs.size := by simpa using hi
    have h1 := hf i (fs[i]) (by simp [hi'])
    refine ⟨m, xs[i]'(by omega), ?_⟩
    have e : fs.toList[i] = fs[i] := by simp
    rw [e, h1]
    exact List.getElem?_eq_getElem (by omega))
  rw [List.drop_zero] at e
  refine ⟨zs, ?_, e, hb⟩
  have := congrArg List.length e
  simp [ints] at this
  omega
theorem open_tab {H : Type} {enc : TypeId × Value → H} {P : Program} {w : World} {base : Nat} {held : Bool} {t e : TypeId} {k fuel : Nat} {cs : List Value} {x : DataW H × List MemPlace}
    (ht : P.underlying t = some (.slice e)) (he : NumsT P e k) (hk : P.cellsOf e = k) (hk0 : 0 < k) (h : DataW.trod enc P w base (fun _ => true) held fuel t cs = some x) :
    ∃ A n c rows, cs = [.slice A n c] ∧ Tab k w A n c rows := by
  rcases open_slice ht h with ⟨hcs, _⟩ | ⟨a, len, cap, m, f, D, Pl, hcs, hb, hl, hm, hmm, hx, hi⟩
  · exact ⟨none, 0, 0, [], hcs, Tab.nil_⟩
  · have hlm : len ≤ m := by rw [hmm]; split <;> omega
    have each : ∀ i, i < m → ∃ zs : List Int, zs.length = k ∧ (∀ z ∈ zs, In64 z) ∧ ∀ j, j < k → w.cell? (a.add (i * k + j)) = some (.int .i64 (zs.getD j 0)) := by
      intro i him
      obtain ⟨cs', h1, h2⟩ := hi i him
      rw [hk] at h1
      obtain ⟨_, hlen, hcell⟩ := World.cells?_some h1
      obtain ⟨zs, hz, e1, hb⟩ := he _ _ _ _ _ _ _ _ _ h2
      refine ⟨zs, hz, hb, fun j hj => ?_⟩
      have := hcell j hj
      rw [add_add] at this
      rw [this, e1, ints, List.getElem?_map, List.getElem?_eq_getElem (by omega)]
      simp [List.getD, show j < zs.length by omega]
    obtain ⟨Z, hZ⟩ := choose_lt each
    have hwide : ∀ r ∈ (List.range len).map Z, r.length = k := by
      intro r hr
      simp only [List.mem_map, List.mem_range] at hr
      obtain ⟨i, hi', rfl⟩ := hr
      exact (hZ i (by omega)).1
    refine ⟨some a, len, cap, (List.range len).map Z, hcs, ⟨⟨?_, .inr ⟨a, rfl, fun j u hu => ?_⟩⟩, by simp, hwide, ?_, hl, by unfold maxLen at hm; omega⟩⟩
    · simp only [ints, List.length_map]
      rw [rows_len _ hwide]
      simp [Nat.mul_comm]
    · have hjl : j < len * k := by
        rcases Nat.lt_or_ge j (len * k) with q | q
        · exact q
        · rw [List.getElem?_eq_none (by simp only [ints, List.length_map]; rw [rows_len _ hwide]; simp [Nat.mul_comm]; rw [Nat.mul_comm]; omega)] at hu
          cases hu
      have hi' : j / k < len := (Nat.div_lt_iff_lt_mul hk0).2 hjl
      have hr' : j % k < k := Nat.mod_lt _ hk0
      have hc := (hZ (j / k) (by omega)).2.2 (j % k) hr'
      have hj : j / k * k + j % k = j := by rw [Nat.mul_comm]; exact Nat.div_add_mod j k
      rw [hj] at hc
      rw [hc, ← hu]
      have hg := rows_get ((List.range len).map Z) hwide (j / k) (j % k) (by simpa using hi') hr' []
      rw [List.append_nil, show k * (j / k) + j % k = j from Nat.div_add_mod j k] at hg
      have hlt : j < ((List.range len).map Z).flatten.length := by rw [rows_len _ hwide]; simp; rw [Nat.mul_comm]; exact hjl
      rw [ints, List.getElem?_map, List.getElem?_eq_getElem hlt, Option.map_some]
      congr 2
      have e3 : ((List.range len).map Z).getD (j / k) [] = Z (j / k) := by simp [List.getD, hi']
      rw [e3] at hg
      rw [← hg, List.getD_eq_getElem?_getD, List.getElem?_eq_getElem hlt, Option.getD_some]
    · intro r hr z hz
      simp only [List.mem_map, List.mem_range] at hr
      obtain ⟨i, hi', rfl⟩ := hr
      exact (hZ i (by omega)).2.1 z hz
/-! ### A setup -/
/-- The value of a setup: its cells. -/
def setV (s : SetP) (A1 A2 A3 A4 A5 A6 : Option Addr) (c1 c2 c3 c4 c5 c6 : Nat) : Value :=
  .agg #[.int .i64 s.places, .slice A1 s.ways.length c1, .int .i64 s.pn, .int .i64 s.pd, .slice A2 s.elements.length c2, .slice A3 s.classes.length c3, .slice A4 s.gears.length c4,
    .int .i64 s.allow, .int .i64 s.unit, .int .i64 s.cap, .int .i64 s.paid, .int .i64 s.aft, .int .i64 s.brk, .int .i64 s.reg, .int .i64 s.over, .int .i64 s.week, .int .i64 s.nfrom, .int .i64 s.nto,
    .slice A5 s.rates.length c5, .int .i64 s.diff, .int .i64 s.least, .int .i64 s.fault, .slice A6 s.tiers.length c6]
/-- Its lists lie there. -/
structure SetAt (w : World) (s : SetP) (A1 A2 A3 A4 A5 A6 : Option Addr) (c1 c2 c3 c4 c5 c6 : Nat) : Prop where
  ways : Tab 3 w A1 s.ways.length c1 s.ways
  elements : Tab 4 w A2 s.elements.length c2 s.elements
  classes : Tab 2 w A3 s.classes.length c3 s.classes
  gears : Tab 2 w A4 s.gears.length c4 s.gears
  rates : Tab 1 w A5 s.rates.length c5 (s.rates.map fun n => [n])
  tiers : Tab 2 w A6 s.tiers.length c6 s.tiers
theorem SetAt.below {w w' : World} {s : SetP} {A1 A2 A3 A4 A5 A6 : Option Addr} {c1 c2 c3 c4 c5 c6 : Nat} (h : SetAt w s A1 A2 A3 A4 A5 A6 c1 c2 c3 c4 c5 c6) (hb : Below w.heap.size w w') : SetAt w' s A1 A2 A3 A4 A5 A6 c1 c2 c3 c4 c5 c6 :=
  ⟨h.ways.below hb, h.elements.below hb, h.classes.below hb, h.gears.below hb, h.rates.below hb, h.tiers.below hb⟩
theorem SetAt.wide {w : World} {s : SetP} {A1 A2 A3 A4 A5 A6 : Option Addr} {c1 c2 c3 c4 c5 c6 : Nat} (h : SetAt w s A1 A2 A3 A4 A5 A6 c1 c2 c3 c4 c5 c6) : s.Wide := ⟨h.ways.wide, h.elements.wide, h.classes.wide, h.gears.wide, h.tiers.wide⟩
/-- Its own numbers fit. -/
structure SetP.Fit (s : SetP) : Prop where
  places : In64 s.places
  pn : In64 s.pn
  pd : In64 s.pd
  allow : In64 s.allow
  unit : In64 s.unit
  cap : In64 s.cap
  paid : In64 s.paid
  aft : In64 s.aft
  brk : In64 s.brk
  reg : In64 s.reg
  over : In64 s.over
  week : In64 s.week
  nfrom : In64 s.nfrom
  nto : In64 s.nto
  diff : In64 s.diff
  least : In64 s.least
  fault : In64 s.fault
theorem list23 {α : Type} {l : List α} (h : l.length = 23) : ∃ c0 c1 c2 c3 c4 c5 c6 c7 c8 c9 c10 c11 c12 c13 c14 c15 c16 c17 c18 c19 c20 c21 c22, l = [c0, c1, c2, c3, c4, c5, c6, c7, c8, c9, c10, c11, c12, c13, c14, c15, c16, c17, c18, c19, c20, c21, c22] := by
  match l, h with
  | [c0, c1, c2, c3, c4, c5, c6, c7, c8, c9, c10, c11, c12, c13, c14, c15, c16, c17, c18, c19, c20, c21, c22], _ => exact ⟨c0, c1, c2, c3, c4, c5, c6, c7, c8, c9, c10, c11, c12, c13, c14, c15, c16, c17, c18, c19, c20, c21, c22, rfl⟩
theorem one_int {P : Program} {H : Type} {enc : TypeId × Value → H} {w : World} {base : Nat} {spare : Nat → Bool} {held : Bool} {i : TypeId} {m : Nat} {v : Value} {x : DataW H × List MemPlace} (hi : P.underlying i = some (.int .i64)) (h : DataW.trod enc P w base spare held m i [v] = some x) : ∃ z, v = .int .i64 z ∧ In64 z := by
  obtain ⟨z, e, _, hz⟩ := DataW.trod_int hi h
  simp only [List.cons.injEq, and_true] at e
  exact ⟨z, e, bounds_i64 hz⟩
theorem one_tab {P : Program} {H : Type} {enc : TypeId × Value → H} {w : World} {base : Nat} {held : Bool} {t e : TypeId} {k m : Nat} {v : Value} {x : DataW H × List MemPlace}
    (ht : P.underlying t = some (.slice e)) (he : NumsT P e k) (hk : P.cellsOf e = k) (hk0 : 0 < k) (h : DataW.trod enc P w base (fun _ => true) held m t [v] = some x) : ∃ A c rows, v = .slice A rows.length c ∧ Tab k w A rows.length c rows := by
  obtain ⟨A, n, c, rows, e1, hT⟩ := open_tab ht he hk hk0 h
  simp only [List.cons.injEq, and_true] at e1
  have := hT.len
  subst this
  exact ⟨A, c, rows, e1, hT⟩
theorem rows_ones : ∀ (t : Rows2), (∀ r ∈ t, r.length = 1) → t = t.flatten.map fun n => [n]
  | [], _ => rfl
  | r :: t, h => by
    have h1 := h r (by simp)
    obtain ⟨n, rfl⟩ : ∃ n, r = [n] := by
      match r, h1 with
      | [n], _ => exact ⟨n, rfl⟩
    have := rows_ones t (fun q hq => h q (by simp [hq]))
    conv => lhs; rw [this]
    simp
/-- An argument that is a setup. -/
theorem open_setup {H : Type} {enc : TypeId × Value → H} {P : Program} {w : World} {r : Reach} {b0 base : Nat} {held : Bool} {t i tw ew tr te ee tq eq tn tt et : TypeId} {fs : Array Field} {v : Value} {d : DataW H} {p : List MemPlace}
    (hs : P.underlying t = some (.struct fs)) (hC : P.cellsOf t = 23)
    (hf : (fs.toList.map fun f => (f.type, f.offset, P.cellsOf f.type)) = [(i, 0, 1), (tw, 1, 1), (tr, 2, 2), (te, 4, 1), (tq, 5, 1), (tq, 6, 1), (i, 7, 1), (i, 8, 1), (i, 9, 1), (i, 10, 1), (i, 11, 1), (i, 12, 1), (i, 13, 1), (i, 14, 1), (i, 15, 1), (i, 16, 1), (i, 17, 1), (tn, 18, 1), (i, 19, 1), (i, 20, 1), (i, 21, 1), (tt, 22, 1)])
    (hi : P.underlying i = some (.int .i64)) (hi1 : P.cellsOf i = 1) (hw : P.underlying tw = some (.slice ew)) (aw : NumsT P ew 3) (cw : P.cellsOf ew = 3) (ar : NumsT P tr 2)
    (he : P.underlying te = some (.slice ee)) (ae : NumsT P ee 4) (ce : P.cellsOf ee = 4) (hq : P.underlying tq = some (.slice eq)) (aq : NumsT P eq 2) (cq : P.cellsOf eq = 2)
    (hn : P.underlying tn = some (.slice i)) (ht : P.underlying tt = some (.slice et)) (at_ : NumsT P et 2) (ct : P.cellsOf et = 2)
    (hv : Value.okWide P w r b0 t v) (h : DataW.Trod enc P w base (fun _ => true) held t v d p) :
    ∃ (s : SetP) (A1 A2 A3 A4 A5 A6 : Option Addr) (c1 c2 c3 c4 c5 c6 : Nat), v = setV s A1 A2 A3 A4 A5 A6 c1 c2 c3 c4 c5 c6 ∧ SetAt w s A1 A2 A3 A4 A5 A6 c1 c2 c3 c4 c5 c6 ∧ s.Fit := by
  obtain ⟨cs, rfl, hsz⟩ := okWide_struct hs hv
  obtain ⟨fuel, hfu⟩ := h
  obtain ⟨xs, m, _, _, hl, hxl, hx⟩ := DataW.trod_struct hs hfu
  have hsz2 : fs.size = 22 := by
    have := congrArg List.length hf
    simpa using this
  have get : ∀ (j : Nat) (T : TypeId) (o c : Nat), (fs.toList.map fun f => (f.type, f.offset, P.cellsOf f.type))[j]? = some (T, o, c) → ∃ y, DataW.trod enc P w base (fun _ => true) held m T (((Value.agg cs).cells.toList.drop o).take c) = some y := by
    intro j T o c hj
    rw [List.getElem?_map, Option.map_eq_some_iff] at hj
    obtain ⟨f, h1, h2⟩ := hj
    simp only [Prod.mk.injEq] at h2
    obtain ⟨rfl, rfl, rfl⟩ := h2
    rw [Array.getElem?_toList] at h1
    have h3 := hx j f h1
    have hj' : j < fs.size := (Array.getElem?_eq_some_iff.1 h1).1
    rw [List.getElem?_eq_getElem (show j < xs.length by omega)] at h3
    exact ⟨_, h3⟩
  rw [hf] at get
  have hcl : cs.toList.length = 23 := by rw [Array.length_toList, hsz, hC]
  obtain ⟨c0, c1, c2, c3, c4, c5, c6, c7, c8, c9, c10, c11, c12, c13, c14, c15, c16, c17, c18, c19, c20, c21, c22, hcs⟩ := list23 hcl
  have hce : (Value.agg cs).cells.toList = [c0, c1, c2, c3, c4, c5, c6, c7, c8, c9, c10, c11, c12, c13, c14, c15, c16, c17, c18, c19, c20, c21, c22] := hcs
  have hcs' : cs = #[c0, c1, c2, c3, c4, c5, c6, c7, c8, c9, c10, c11, c12, c13, c14, c15, c16, c17, c18, c19, c20, c21, c22] := by
    apply Array.toList_inj.1
    exact hcs
  rw [hce] at get
  clear hx hfu hl hcl hce hsz
  obtain ⟨_, g0⟩ := get 0 i 0 1 rfl
  obtain ⟨_, g1⟩ := get 1 tw 1 1 rfl
  obtain ⟨_, g2⟩ := get 2 tr 2 2 rfl
  obtain ⟨_, g3⟩ := get 3 te 4 1 rfl
  obtain ⟨_, g4⟩ := get 4 tq 5 1 rfl
  obtain ⟨_, g5⟩ := get 5 tq 6 1 rfl
  obtain ⟨_, g6⟩ := get 6 i 7 1 rfl
  obtain ⟨_, g7⟩ := get 7 i 8 1 rfl
  obtain ⟨_, g8⟩ := get 8 i 9 1 rfl
  obtain ⟨_, g9⟩ := get 9 i 10 1 rfl
  obtain ⟨_, g10⟩ := get 10 i 11 1 rfl
  obtain ⟨_, g11⟩ := get 11 i 12 1 rfl
  obtain ⟨_, g12⟩ := get 12 i 13 1 rfl
  obtain ⟨_, g13⟩ := get 13 i 14 1 rfl
  obtain ⟨_, g14⟩ := get 14 i 15 1 rfl
  obtain ⟨_, g15⟩ := get 15 i 16 1 rfl
  obtain ⟨_, g16⟩ := get 16 i 17 1 rfl
  obtain ⟨_, g17⟩ := get 17 tn 18 1 rfl
  obtain ⟨_, g18⟩ := get 18 i 19 1 rfl
  obtain ⟨_, g19⟩ := get 19 i 20 1 rfl
  obtain ⟨_, g20⟩ := get 20 i 21 1 rfl
  obtain ⟨_, g21⟩ := get 21 tt 22 1 rfl
  clear get
  obtain ⟨z0, rfl, b0'⟩ := one_int hi g0
  obtain ⟨z6, rfl, b6⟩ := one_int hi g6
  obtain ⟨z7, rfl, b7⟩ := one_int hi g7
  obtain ⟨z8, rfl, b8⟩ := one_int hi g8
  obtain ⟨z9, rfl, b9⟩ := one_int hi g9
  obtain ⟨z10, rfl, b10⟩ := one_int hi g10
  obtain ⟨z11, rfl, b11⟩ := one_int hi g11
  obtain ⟨z12, rfl, b12⟩ := one_int hi g12
  obtain ⟨z13, rfl, b13⟩ := one_int hi g13
  obtain ⟨z14, rfl, b14⟩ := one_int hi g14
  obtain ⟨z15, rfl, b15⟩ := one_int hi g15
  obtain ⟨z16, rfl, b16⟩ := one_int hi g16
  obtain ⟨z18, rfl, b18⟩ := one_int hi g18
  obtain ⟨z19, rfl, b19⟩ := one_int hi g19
  obtain ⟨z20, rfl, b20⟩ := one_int hi g20
  obtain ⟨A1, k1, t1, rfl, T1⟩ := one_tab hw aw cw (by omega) g1
  obtain ⟨A2, k2, t2, rfl, T2⟩ := one_tab he ae ce (by omega) g3
  obtain ⟨A3, k3, t3, rfl, T3⟩ := one_tab hq aq cq (by omega) g4
  obtain ⟨A4, k4, t4, rfl, T4⟩ := one_tab hq aq cq (by omega) g5
  obtain ⟨A5, k5, t5, rfl, T5⟩ := one_tab hn (alli_int hi) hi1 (by omega) g17
  obtain ⟨A6, k6, t6, rfl, T6⟩ := one_tab ht at_ ct (by omega) g21
  obtain ⟨zs, hz, e2, hb2⟩ := ar _ _ _ _ _ _ _ _ _ g2
  obtain ⟨pn, pd, rfl⟩ : ∃ a b, zs = [a, b] := by
    match zs, hz with
    | [a, b], _ => exact ⟨a, b, rfl⟩
  simp only [ints, List.map_cons, List.map_nil, List.drop_succ_cons, List.drop_zero, List.take_succ_cons, List.take_zero, List.cons.injEq, and_true] at e2
  obtain ⟨rfl, rfl⟩ := e2
  have h5 := rows_ones t5 T5.wide
  have hl5 : t5.length = t5.flatten.length := by
    conv => lhs; rw [h5]
    rw [List.length_map]
  refine ⟨⟨z0, t1, pn, pd, t2, t3, t4, z6, z7, z8, z9, z10, z11, z12, z13, z14, z15, z16, t5.flatten, z18, z19, z20, t6⟩, A1, A2, A3, A4, A5, A6, k1, k2, k3, k4, k5, k6, ?_, ⟨T1, T2, T3, T4, ?_, T6⟩,
    ⟨b0', hb2 pn (by simp), hb2 pd (by simp), b6, b7, b8, b9, b10, b11, b12, b13, b14, b15, b16, b18, b19, b20⟩⟩
  · rw [hcs', setV, hl5]
  · rw [← hl5, ← h5]
    exact T5
end Go.Proofs.Ytghfhoodbiiciaa

namespace Go.Proofs.Ytghfhoodbiiciaa
open Go.RowKit Go.Deep Go.WideShapes
set_option linter.unusedVariables false
set_option maxRecDepth 20000

theorem nums_at_e {P : Program} {t : TypeId} {k : Nat} (h : NumsT P t k) (hk : P.cellsOf t = k) : NumsT P t (P.cellsOf t) := by rw [hk]; exact h
theorem numsT_int_e : NumsT Try.prog 3 1 := alli_int Try.underlying3
/-- An event's numbers. -/
def evLs (e : EvP) : List Int := [e.id, e.wk, e.tm, e.kd, e.fr, e.to, e.el, e.un, e.cl, e.ge, e.cd]
end Go.Proofs.Ytghfhoodbiiciaa
