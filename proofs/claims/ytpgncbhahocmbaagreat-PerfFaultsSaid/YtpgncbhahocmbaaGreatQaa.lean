/-
  Words that all texts of this family share: a slice of numbers that came in; draws; endings.
  The model's numbers of 8 and 32 bits, and words of bits: no program here.
  Slices as lists of cells: what a slice that came in, or that the call made, reads as; what an append makes of it. Over any program.
  A block of cells that the walk knows whole: it is kept over draws, new blocks, and calls that leave what was there.
  Numbers and texts as bytes: no program here. A number's bytes: how many, and its digits to 256, the highest first.
  Numbers of parts: a part is so many numbers, or a list of rows of so many numbers, with how many rows ahead. What is written so is read in one way. No program here.
  Plain facts on whole numbers: quotients downwards, products that may go over, greatest common divisors. No program is named here.
  Plain facts on numbers through others: lowest terms, which of them may be, what is as much. No program is named here.
  Setups: which may be, their numbers, and that they are read in one way. No program here.
  Setups read off a list of numbers, place by place. No program here.
  Events: which are fair, their numbers and bytes, and their order. No program here.
  Events as values: their cells, loads, stores, and whether two are the same.
  Sets of seconds as lists of spans: no program here. A list is plain if its spans have seconds, lie within all time, and do not touch; each set has one plain list ('canon').
-/
import Derived.WalkKit
import Derived.Below
import Derived.Deep.Draws
import Derived.OpenShut
import Derived.Laws.BitsAllLaws
import Derived.Laws.BitsLemmas
import Derived.Maps.AppendAt
import Derived.Laws.OwnMore
import Derived.Laws.Rows
import Derived.OwnWalk
import Derived.RowKit
import Derived.IntWalk
import Derived.Test.YtpgncbhahocmbaaGreatProg
import Derived.Laws.StructEq
import Derived.Laws.Cover1
import Derived.Deep.WholeRow
import Derived.KernelRfl
import Derived.Lib.Hide
namespace Go.Proofs.YtpgncbhahocmbaaGreat
open Go.RowKit

theorem ret_two {k l : IntKind} {a b c d : Int} (h : a = b) (h' : c = d) : Ending.returned (.tuple #[.int k a, .int l c]) = .returned (.tuple #[.int k b, .int l d]) := by rw [h, h']
theorem ret_one {k : IntKind} {a b : Int} (h : a = b) : Ending.returned (.int k a) = .returned (.int k b) := by rw [h]
theorem ret_bool {a b : Bool} (h : a = b) : Ending.returned (.bool a) = .returned (.bool b) := by rw [h]

theorem below_drewN {B : Nat} {a w : World} (h : Below B a w) (n : Nat) : Below B a (w.drewN n) := ⟨h.os, h.tape, h.output, h.size, h.block⟩

theorem below_drew {B : Nat} {a w : World} (h : Below B a w) : Below B a w.drew := ⟨h.os, h.tape, h.output, h.size, h.block⟩

theorem bel_on {a w w' : World} (h : Below a.heap.size a w) (k : Below w.heap.size w w') : Below a.heap.size a w' := h.trans (k.mono h.size)
theorem bel_alloc {a w : World} (h : Below a.heap.size a w) (o : Obj) : Below a.heap.size a (w.alloc o) := h.alloc h.size o
theorem bel_set {a w : World} (h : Below a.heap.size a w) {p : Addr} (hp : a.heap.size ≤ p.block) (v : Value) : Below a.heap.size a (w.setCell p v) := h.setCell hp v

end Go.Proofs.YtpgncbhahocmbaaGreat

namespace Go.Proofs.YtpgncbhahocmbaaGreat
set_option linter.unusedVariables false
set_option linter.unusedSimpArgs false

/-- A word of 32, of 8 bits, as a value. -/
abbrev v32 (n : BitVec 32) : Value := .int .u32 (n.toNat : Int)
abbrev v8 (n : BitVec 8) : Value := .int .u8 (n.toNat : Int)

end Go.Proofs.YtpgncbhahocmbaaGreat

namespace Go.Proofs.YtpgncbhahocmbaaGreat
open Go.RowKit

theorem cell_lt {w : World} {a : Addr} {v : Value} (h : w.cell? a = some v) : a.block < w.heap.size := by
  rcases Nat.lt_or_ge a.block w.heap.size with hlt | hge
  · exact hlt
  · unfold World.cell? at h
    rw [Array.getElem?_eq_none hge] at h
    cases h
/-- The slice value '.slice A m c' reads as the cells us, 'size' of them to an element. -/
def Sl (size : Nat) (w : World) (A : Option Addr) (m c : Nat) (us : List Value) : Prop :=
  us.length = m * size ∧ ((A = none ∧ m = 0 ∧ c = 0) ∨ ∃ ad, A = some ad ∧ ∀ j u, us[j]? = some u → w.cell? (ad.add j) = some u)

section
variable {w w' : World} {size m c : Nat} {A : Option Addr} {us : List Value}
theorem Sl.keep (h : Sl size w A m c us) (hk : ∀ p : Addr, p.block < w.heap.size → w'.cell? p = w.cell? p) : Sl size w' A m c us := by
  obtain ⟨hl, h | ⟨ad, rfl, hc⟩⟩ := h
  · exact ⟨hl, .inl h⟩
  · exact ⟨hl, .inr ⟨ad, rfl, fun j u hu => (hk _ (cell_lt (hc j u hu))).trans (hc j u hu)⟩⟩
theorem Sl.below (h : Sl size w A m c us) (hb : Below w.heap.size w w') : Sl size w' A m c us := h.keep fun _ hp => hb.cell hp
theorem Sl.alloc (h : Sl size w A m c us) (o : Obj) : Sl size (w.alloc o) A m c us := h.keep fun p hp => World.cell?_alloc_lt w o p hp
theorem Sl.nil_ : Sl size w none 0 0 [] := ⟨by simp, .inl ⟨rfl, rfl, rfl⟩⟩
theorem Sl.of_own {base : Nat} {e : TypeId} (h : w.ownsRow base e size (.slice A m c) m us) : Sl size w A m c us := by
  obtain ⟨hl, ⟨hv, hn⟩ | ⟨g, cap, cur, hv, hg, hh, h1, h2, h3, h4⟩⟩ := h
  · injection hv with e1 e2 e3
    exact ⟨hl, .inl ⟨e1, e2, e3⟩⟩
  · injection hv with e1 e2 e3
    subst e1
    refine ⟨hl, .inr ⟨_, rfl, fun j u hu => ?_⟩⟩
    have hj : j < m * size := by
      rcases Nat.lt_or_ge j (m * size) with hlt | hge
      · exact hlt
      · rw [List.getElem?_eq_none (by omega)] at hu; cases hu
    have e : w.cell? ((⟨g, 0, none⟩ : Addr).add j) = cur[j]? := by
      have : ((⟨g, 0, none⟩ : Addr).add j) = ⟨g, j, none⟩ := by unfold Addr.add; split <;> simp_all
      rw [this]
      exact cell_of_row w g j cur e (0, 0) hh
    rw [e, ← hu, ← h4, List.getElem?_take, if_pos hj, Array.getElem?_toList]
end

/-- A new row that the call has just laid. -/
theorem own_new (w : World) (e : TypeId) (size n : Nat) (cur : Array Value) (hs : cur.size = n * size) (hm : n ≤ maxLen) :
    (w.alloc (.cells cur e)).ownsRow w.heap.size e size (.slice (some ⟨w.heap.size, 0, none⟩) n n) n cur.toList :=
  ⟨by simpa using hs, .inr ⟨_, n, cur, rfl, Nat.le_refl _, heap_alloc_new w _, Nat.le_refl _, hm, hs, by rw [← hs]; exact List.take_of_length_le (by simp)⟩⟩

section
variable {P : Program}
/-- What an append onto a row of the call's own does, whatever the source. -/
theorem append_any (w : World) (base : Nat) (t ty e : TypeId) (z : Value) (size bytes : Nat) (ht : P.underlying t = some (.slice e))
    (hinfo : (P.info? e).map (fun i => (i.zero, i.size, i.bytes)) = some (some z, size, bytes)) (hzs : z.cells.size = size) (hsz : 0 < size)
    {v : Value} {n : Nat} {xs : List Value} (hown : w.ownsRow base e size v n xs)
    {A : Option Addr} {m c : Nat} {news : List Value} (hr : Sl size w A m c news) (h1 : ∀ u ∈ news, u.oneCell' = true)
    (k : Nat) (hk : n + m = k) (ys : List Value) (hys : xs ++ news = ys)
    (hm : k ≤ 9223372036854775807) (hbytes : k * bytes ≤ 140737488355328) (hbase : base ≤ w.heap.size) :
    ∃ A' c' w', (Builtin.append_ #[t, t] ty #[v, .slice A m c]).run P w = .ok (.slice A' k c') w' ∧ w'.ownsRow base e size (.slice A' k c') k ys ∧
      w.grownBy w' v.ownBlock ∧ ((Value.slice A' k c').ownBlock = v.ownBlock ∨ (Value.slice A' k c').ownBlock = some w.heap.size) := by
  subst hk
  subst hys
  obtain ⟨i, hi, hz, hsize, hby⟩ := info_parts hinfo
  obtain ⟨v', w', h2, h3, h4, h5⟩ : ∃ v' w', (Builtin.append_ #[t, t] ty #[v, .slice A m c]).run P w = .ok v' w' ∧ w'.ownsRow base e size v' (n + m) (xs ++ news) ∧ w.grownBy w' v.ownBlock ∧ (v'.ownBlock = v.ownBlock ∨ v'.ownBlock = some w.heap.size) := by
    obtain ⟨hl, ⟨rfl, rfl, rfl⟩ | ⟨ad, rfl, hc⟩⟩ := hr
    · have hn : news = [] := List.eq_nil_of_length_eq_zero (by simpa using hl)
      subst hn
      refine ⟨v, w, run_append_owned_none w base t ty e i size ht hi v n xs hown, by simpa using hown, World.grownBy.refl w _, .inl rfl⟩
    · obtain ⟨v', w', hrun, k2, k3, _, k5⟩ := run_append_own_at (P := P) w base t ty e i z size bytes ht hi hz hsize hby hzs hsz v n xs hown ad m c news hl hc h1 (by simpa [maxLen] using hm) hbytes hbase
      exact ⟨v', w', hrun, k2, k3, k5⟩
  obtain ⟨A', c', rfl⟩ : ∃ A' c', v' = .slice A' (n + m) c' := by
    rcases h3.2 with ⟨rfl, hn⟩ | ⟨g, cap, cur, rfl, _⟩
    · exact ⟨none, 0, by rw [hn]⟩
    · exact ⟨_, _, rfl⟩
  exact ⟨A', c', w', h2, h3, h4, h5⟩
end

/-- In a walk: an append whose run is known. -/
theorem wpList_append_run {P : Program} {ops : Array Oper} {rest : List Oper} {o : Oper} {a : Act} {w w' : World} {Q : Exit → Act → World → Prop} {s x : Operand} {t : TypeId} {v u v' : Value}
    (hr : (Builtin.append_ #[t, t] o.type #[v, u]).run P w = .ok v' w') (hgd : o.guard = none)
    (ho : o.op = .call { callee := .builtin .append, args := #[s, x], argTypes := #[t, t] }) (hs : a.eval s = v) (hx : a.eval x = u)
    (h : wpList P ops Q rest (a.put o.dst v') w') : wpList P ops Q (o :: rest) a w := by
  refine wpList_plain hgd fun K hK => ?_
  unfold Oper.wp execOp
  simp only [ho, resolve, invoke, builtin, Sem.run_bind, Sem.run_pure, Result.andThen_ok, List.map_toArray, List.map_cons, List.map_nil, hs, hx, hr]
  exact hK _ _ h

/-- Behind an append onto a row that lies at 'base' or above, what lay below 'base' is as it was. -/
theorem bel_grown {a w w' : World} {v : Value} {base : Nat} {e : TypeId} {size n : Nat} {xs : List Value} (h : Below a.heap.size a w) (hown : w.ownsRow base e size v n xs) (hbase : a.heap.size ≤ base)
    (hg : w.grownBy w' v.ownBlock) : Below a.heap.size a w' :=
  h.grown hg h.size (fun k hk => by
    rcases hown.2 with ⟨rfl, _⟩ | ⟨g, cap, cur, rfl, hgb, _⟩
    · simp [Value.ownBlock] at hk
    · simp [Value.ownBlock] at hk; omega)

def ints (k : IntKind) (xs : List Int) : List Value := xs.map (Value.int k)
theorem ints_one (k : IntKind) (xs : List Int) : ∀ u ∈ ints k xs, u.oneCell' = true := by
  intro u hu
  simp only [ints, List.mem_map] at hu
  obtain ⟨x, _, rfl⟩ := hu
  rfl

end Go.Proofs.YtpgncbhahocmbaaGreat

namespace Go.Proofs.YtpgncbhahocmbaaGreat
open Go.RowKit

/-- Block g holds just the cells cs, none of them frozen. -/
def Has (w : World) (g : Nat) (cs : Array Value) : Prop := ∃ t, w.heap[g]? = some (.cells cs t (0, 0))

section
variable {w w' : World} {g : Nat} {cs : Array Value}
theorem Has.size (h : Has w g cs) : g < w.heap.size := by
  obtain ⟨t, h⟩ := h
  rcases Nat.lt_or_ge g w.heap.size with hlt | hge
  · exact hlt
  · rw [Array.getElem?_eq_none hge] at h; cases h
theorem Has.new (w : World) (t : TypeId) (cs : Array Value) {s : Nat} (hs : w.heap.size = s) : Has (w.alloc (.cells cs t)) s cs := by
  subst hs
  exact ⟨t, heap_alloc_new w _⟩
theorem Has.alloc (h : Has w g cs) (o : Obj) : Has (w.alloc o) g cs := by
  have hl := h.size
  obtain ⟨t, h⟩ := h
  exact ⟨t, (Below.heap_alloc w o g hl).trans h⟩
theorem Has.drewN (h : Has w g cs) (n : Nat) : Has (w.drewN n) g cs := h
theorem Has.drew (h : Has w g cs) : Has w.drew g cs := h
theorem Has.below (h : Has w g cs) (hb : Below w.heap.size w w') : Has w' g cs := by
  have hl := h.size
  obtain ⟨t, h⟩ := h
  exact ⟨t, (hb.block g hl).trans h⟩
theorem Has.far (h : Has w g cs) {p : Addr} (hp : g ≠ p.block) (u : Value) : Has (w.setCell p u) g cs := by
  obtain ⟨t, h⟩ := h
  exact ⟨t, (Below.heap_setCell w p u g hp).trans h⟩
theorem Has.set (h : Has w g cs) (i : Nat) (u : Value) : Has (w.setCell ⟨g, i, none⟩ u) g (cs.setIfInBounds i u) := by
  obtain ⟨t, h⟩ := h
  exact ⟨t, by simp [World.setCell, Array.getElem?_modify, h]⟩
theorem Has.cell (h : Has w g cs) (i : Nat) {v : Value} (hv : cs[i]? = some v) : w.cell? ⟨g, i, none⟩ = some v := by
  obtain ⟨t, h⟩ := h
  rw [cell_of_row w g i cs t (0, 0) h, hv]
theorem Has.frozen (h : Has w g cs) (i : Nat) : w.frozen? ⟨g, i, none⟩ = false := by
  obtain ⟨t, h⟩ := h
  simp [World.frozen?, h]
end
/-- The facts of a block of two cells, as the walk asks them. -/
theorem Has.two {w : World} {g : Nat} {x y : Value} (h : Has w g #[x, y]) : w.cell? ⟨g, 0, none⟩ = some x ∧ w.cell? ⟨g, 1, none⟩ = some y ∧ w.frozen? ⟨g, 0, none⟩ = false ∧ w.frozen? ⟨g, 1, none⟩ = false :=
  ⟨h.cell 0 rfl, h.cell 1 rfl, h.frozen 0, h.frozen 1⟩
end Go.Proofs.YtpgncbhahocmbaaGreat

namespace Go.Proofs.YtpgncbhahocmbaaGreat
set_option linter.unusedVariables false
set_option linter.unusedSimpArgs false

/-- A number's digits to 256, the highest first. -/
def digs (n : Nat) : List Nat := if h : n = 0 then [] else digs (n / 256) ++ [n % 256]
termination_by n
decreasing_by omega
/-! ### Bytes -/
def bytN (l : List Nat) : List (BitVec 8) := l.map (BitVec.ofNat 8)
/-- A number's bytes. -/
def oneB (n : Nat) : List (BitVec 8) := BitVec.ofNat 8 (digs n).length :: bytN (digs n)
def putB (l : List Nat) : List (BitVec 8) := (l.map oneB).flatten
/-! ### The order of bytes -/
end Go.Proofs.YtpgncbhahocmbaaGreat

namespace Go.Proofs.YtpgncbhahocmbaaGreat
set_option linter.unusedVariables false
set_option linter.unusedSimpArgs false

abbrev Rows2 := List (List Int)
/-! ### Bytes -/
/-- Numbers from 0 on as bytes. -/
def bytesN (l : List Int) : List (BitVec 8) := putB (l.map Int.toNat)
/-! ### The numbers that bytes are -/
end Go.Proofs.YtpgncbhahocmbaaGreat

namespace Go.Proofs.YtpgncbhahocmbaaGreat

theorem div_unique {a b q r : Int} (h : b * q + r = a) (h0 : 0 ≤ r) (h1 : r < b) : q = a / b ∧ r = a % b := by
  have hb : 0 < b := by omega
  have := (Int.ediv_emod_unique (a := a) (b := b) (r := r) (q := q) hb).2 ⟨by omega, h0, h1⟩
  exact ⟨this.1.symm, this.2.symm⟩

theorem tdiv_pos {a b : Int} (hb : 0 < b) (h : 0 ≤ a.tmod b) : a.tdiv b = a / b ∧ a.tmod b = a % b :=
  div_unique (Int.mul_tdiv_add_tmod a b) h (Int.tmod_lt_of_pos a hb)

theorem tdiv_neg {a b : Int} (hb : 0 < b) (h : a.tmod b < 0) : a.tdiv b - 1 = a / b ∧ a.tmod b + b = a % b := by
  have h1 := Int.lt_tmod_of_pos a hb
  have h2 := Int.mul_tdiv_add_tmod a b
  refine div_unique ?_ (by omega) (by omega)
  rw [Int.mul_sub]; omega

theorem tdiv_bd {a b : Int} (hb : 2 ≤ b) (h1 : -9223372036854775808 ≤ a) (h2 : a ≤ 9223372036854775807) :
    -4611686018427387905 ≤ a.tdiv b ∧ a.tdiv b ≤ 4611686018427387904 := by
  have e := Int.mul_tdiv_add_tmod a b
  have l1 := Int.lt_tmod_of_pos a (show 0 < b by omega)
  have l2 := Int.tmod_lt_of_pos a (show 0 < b by omega)
  generalize hq : a.tdiv b = q at *
  generalize hr : a.tmod b = r at *
  constructor
  · rcases Int.lt_or_le q (-4611686018427387905) with h | h
    · exfalso
      have : b * q ≤ b * (-4611686018427387906) := Int.mul_le_mul_of_nonneg_left (by omega) (by omega)
      omega
    · exact h
  · rcases Int.lt_or_le 4611686018427387904 q with h | h
    · exfalso
      have : b * 4611686018427387905 ≤ b * q := Int.mul_le_mul_of_nonneg_left (by omega) (by omega)
      omega
    · exact h

theorem ediv_bd {a b : Int} (hb : 1 ≤ b) (h1 : -9223372036854775808 ≤ a) (h2 : a ≤ 9223372036854775807) :
    -9223372036854775808 ≤ a / b ∧ a / b ≤ 9223372036854775807 := by
  have e := Int.mul_ediv_add_emod a b
  have l1 := Int.emod_nonneg a (show b ≠ 0 by omega)
  have l2 := Int.emod_lt_of_pos a (show 0 < b by omega)
  generalize a / b = q at *
  generalize a % b = r at *
  constructor
  · rcases Int.lt_or_le q (-9223372036854775808) with h | h
    · exfalso
      have : b * q ≤ b * (-9223372036854775809) := Int.mul_le_mul_of_nonneg_left (by omega) (by omega)
      omega
    · exact h
  · rcases Int.lt_or_le 9223372036854775807 q with h | h
    · exfalso
      have : b * 9223372036854775808 ≤ b * q := Int.mul_le_mul_of_nonneg_left (by omega) (by omega)
      omega
    · exact h

theorem ediv_top {a b : Int} (hb : 2 ≤ b) (h1 : -9223372036854775808 ≤ a) (h2 : a ≤ 9223372036854775807) :
    -9223372036854775808 ≤ a / b ∧ a / b ≤ 4611686018427387903 := by
  refine ⟨(ediv_bd (by omega) h1 h2).1, ?_⟩
  have e := Int.mul_ediv_add_emod a b
  have l1 := Int.emod_nonneg a (show b ≠ 0 by omega)
  generalize a / b = q at *
  generalize a % b = r at *
  rcases Int.lt_or_le 4611686018427387903 q with h | h
  · exfalso
    have : b * 4611686018427387904 ≤ b * q := Int.mul_le_mul_of_nonneg_left (by omega) (by omega)
    omega
  · exact h

end Go.Proofs.YtpgncbhahocmbaaGreat

namespace Go.Proofs.YtpgncbhahocmbaaGreat

/-- The ratio may be. -/
def mayB (n d : Int) : Bool := decide (-2147483647 ≤ n ∧ n ≤ 2147483647 ∧ 1 ≤ d ∧ d ≤ 2147483647 ∧ Int.gcd n d = 1)
/-- What Make tells: the error, and the two parts. -/
def mkC (n d : Int) : Int := if d ≤ 0 then 20 else if -2147483647 ≤ n / (Int.gcd n d : Int) ∧ n / (Int.gcd n d : Int) ≤ 2147483647 ∧ d / (Int.gcd n d : Int) ≤ 2147483647 then 0 else 10
def mkN (n d : Int) : Int := if mkC n d = 0 then n / (Int.gcd n d : Int) else 0
def mkD (n d : Int) : Int := if mkC n d = 0 then d / (Int.gcd n d : Int) else 0

theorem gcd_pos' {n d : Int} (h : 0 < d) : 0 < (Int.gcd n d : Int) := by
  have : 0 < Int.gcd n d := Int.gcd_pos_of_ne_zero_right n (by omega)
  omega
theorem gcd_n (n d : Int) : (Int.gcd n d : Int) * (n / (Int.gcd n d : Int)) = n := Int.mul_ediv_cancel' (Int.gcd_dvd_left n d)
theorem gcd_d (n d : Int) : (Int.gcd n d : Int) * (d / (Int.gcd n d : Int)) = d := Int.mul_ediv_cancel' (Int.gcd_dvd_right n d)
theorem low_d {n d : Int} (h : 0 < d) : 0 < d / (Int.gcd n d : Int) := by
  have h1 := gcd_d n d
  have h2 := gcd_pos' (n := n) h
  generalize hq : d / (Int.gcd n d : Int) = q at *
  generalize (Int.gcd n d : Int) = g at *
  rcases Int.lt_or_le 0 q with h3 | h3
  · exact h3
  · exfalso
    have : g * q ≤ g * 0 := Int.mul_le_mul_of_nonneg_left h3 (by omega)
    omega
theorem low_gcd {n d : Int} (h : 0 < d) : Int.gcd (n / (Int.gcd n d : Int)) (d / (Int.gcd n d : Int)) = 1 := by
  have h0 : 0 < Int.gcd n d := Int.gcd_pos_of_ne_zero_right n (by omega)
  rw [Int.gcd_ediv (Int.gcd_dvd_left n d) (Int.gcd_dvd_right n d)]
  simp
  exact Nat.div_self h0

theorem mkC_pos {n d : Int} (h : mkC n d = 0) : 0 < d := by
  unfold mkC at h
  split at h
  · omega
  · omega
theorem mk_may {n d : Int} (h : mkC n d = 0) : mayB (mkN n d) (mkD n d) = true := by
  have hd := mkC_pos h
  unfold mayB mkN mkD
  rw [if_pos h, if_pos h]
  have h' := h
  unfold mkC at h'
  rw [if_neg (by omega)] at h'
  split at h'
  · rename_i hb
    have := low_d (n := n) hd
    exact decide_eq_true ⟨hb.1, hb.2.1, by omega, hb.2.2, low_gcd hd⟩
  · omega
theorem mk_bad {n d : Int} (h : mkC n d ≠ 0) : mkN n d = 0 ∧ mkD n d = 0 := by
  unfold mkN mkD
  rw [if_neg h, if_neg h]
  exact ⟨rfl, rfl⟩
theorem may_zero : mayB 0 0 = false := by decide
theorem mk_mayB (n d : Int) : mayB (mkN n d) (mkD n d) = (mkC n d == 0) := by
  by_cases h : mkC n d = 0
  · rw [mk_may h, h]; rfl
  · rw [(mk_bad h).1, (mk_bad h).2, may_zero]
    simp [h]
/-- What is told is as much. -/
theorem mk_cross {n d : Int} (h : mkC n d = 0) : mkN n d * d = n * mkD n d := by
  unfold mkN mkD
  rw [if_pos h, if_pos h]
  have h1 := gcd_n n d
  have h2 := gcd_d n d
  generalize hq : d / (Int.gcd n d : Int) = q at *
  generalize hp : n / (Int.gcd n d : Int) = p at *
  generalize (Int.gcd n d : Int) = g at *
  rw [← h1, ← h2]
  ac_rfl

theorem may_bd {n d : Int} (h : mayB n d = true) : -2147483647 ≤ n ∧ n ≤ 2147483647 ∧ 1 ≤ d ∧ d ≤ 2147483647 ∧ Int.gcd n d = 1 := of_decide_eq_true h

theorem dvd_low {k n m : Int} (h : k ∣ n * m) (hg : Int.gcd k n = 1) : k ∣ m := by
  have h1 := Int.dvd_gcd_mul_iff_dvd_mul.2 h
  rw [hg] at h1
  simpa using h1
/-- What is as much, in lowest terms, is one. -/
theorem low_unique {x y p q : Int} (hy : 0 < y) (hq : 0 < q) (h1 : Int.gcd x y = 1) (h2 : Int.gcd p q = 1) (h : x * q = p * y) : x = p ∧ y = q := by
  have d1 : y ∣ q := by
    have : y ∣ x * q := ⟨p, by rw [h, Int.mul_comm]⟩
    exact dvd_low this (by rw [Int.gcd_comm]; exact h1)
  have d2 : q ∣ y := by
    have : q ∣ p * y := ⟨x, by rw [← h, Int.mul_comm]⟩
    exact dvd_low this (by rw [Int.gcd_comm]; exact h2)
  have e : y = q := Int.dvd_antisymm (by omega) (by omega) d1 d2
  subst e
  exact ⟨Int.eq_of_mul_eq_mul_right (by omega) h, rfl⟩

/-- A ratio that may be, and is as much as n through d, is what is told. -/
theorem mk_of {x y n d : Int} (hm : mayB x y = true) (hd : 0 < d) (h : x * d = n * y) : mkC n d = 0 ∧ mkN n d = x ∧ mkD n d = y := by
  obtain ⟨b1, b2, b3, b4, b5⟩ := may_bd hm
  have g1 := gcd_n n d
  have g2 := gcd_d n d
  have g3 := gcd_pos' (n := n) hd
  have g4 := low_gcd (n := n) hd
  have g5 := low_d (n := n) hd
  have hx : x * (d / (Int.gcd n d : Int)) = (n / (Int.gcd n d : Int)) * y := by
    generalize d / (Int.gcd n d : Int) = q at *
    generalize n / (Int.gcd n d : Int) = p at *
    generalize (Int.gcd n d : Int) = g at *
    rw [← g1, ← g2] at h
    have : g * (x * q) = g * (p * y) := by rw [Int.mul_left_comm, h, Int.mul_assoc]
    exact Int.eq_of_mul_eq_mul_left (by omega) this
  obtain ⟨e1, e2⟩ := low_unique (by omega) g5 b5 g4 hx
  have hc : mkC n d = 0 := by
    unfold mkC
    rw [if_neg (by omega), ← e1, ← e2, if_pos ⟨b1, b2, b4⟩]
  refine ⟨hc, ?_, ?_⟩
  · unfold mkN; rw [if_pos hc, ← e1]
  · unfold mkD; rw [if_pos hc, ← e2]
theorem mk_self {x y : Int} (hm : mayB x y = true) : mkC x y = 0 ∧ mkN x y = x ∧ mkD x y = y := mk_of hm (by have := may_bd hm; omega) rfl
/-- Bounds of products of parts. -/
theorem part_bd {a b : Int} (ha : -2147483647 ≤ a) (ha' : a ≤ 2147483647) (hb : -2147483647 ≤ b) (hb' : b ≤ 2147483647) : -4611686014132420609 ≤ a * b ∧ a * b ≤ 4611686014132420609 := by
  have h : (a * b).natAbs = a.natAbs * b.natAbs := Int.natAbs_mul a b
  have : a.natAbs * b.natAbs ≤ 2147483647 * 2147483647 := Nat.mul_le_mul (by omega) (by omega)
  omega

/-- The first of a ratio with the same value as the sum, and so on: two ratios, and what is made of them. -/
structure Rat2 where
  n : Int
  d : Int
  c : Int
def badR : Rat2 := ⟨0, 0, 20⟩
def mkR (n d : Int) : Rat2 := ⟨mkN n d, mkD n d, mkC n d⟩
def minusR (a b c d : Int) : Rat2 := if mayB a b && mayB c d then mkR (a * d - c * b) (b * d) else badR
def plusR (a b c d : Int) : Rat2 := if mayB a b && mayB c d then mkR (a * d + c * b) (b * d) else badR
def mulR (a b c d : Int) : Rat2 := if mayB a b && mayB c d then mkR (a * c) (b * d) else badR
def divR (a b c d : Int) : Rat2 := if mayB a b && mayB c d then mkR (a * d) (b * c) else badR
def lessB (a b c d : Int) : Bool := mayB a b && mayB c d && decide (a * d < c * b)

theorem mkR_may (n d : Int) : mayB (mkR n d).n (mkR n d).d = ((mkR n d).c == 0) := mk_mayB n d
theorem bad_may : mayB badR.n badR.d = (badR.c == 0) := rfl
theorem minusR_may (a b c d : Int) : mayB (minusR a b c d).n (minusR a b c d).d = ((minusR a b c d).c == 0) := by unfold minusR; split; exact mkR_may _ _; exact bad_may
theorem plusR_may (a b c d : Int) : mayB (plusR a b c d).n (plusR a b c d).d = ((plusR a b c d).c == 0) := by unfold plusR; split; exact mkR_may _ _; exact bad_may
theorem mulR_may (a b c d : Int) : mayB (mulR a b c d).n (mulR a b c d).d = ((mulR a b c d).c == 0) := by unfold mulR; split; exact mkR_may _ _; exact bad_may
theorem divR_may (a b c d : Int) : mayB (divR a b c d).n (divR a b c d).d = ((divR a b c d).c == 0) := by unfold divR; split; exact mkR_may _ _; exact bad_may

theorem plusR_comm (a b c d : Int) : plusR a b c d = plusR c d a b := by
  unfold plusR
  rw [Bool.and_comm, Int.add_comm, Int.mul_comm b d]
theorem mulR_comm (a b c d : Int) : mulR a b c d = mulR c d a b := by
  unfold mulR
  rw [Bool.and_comm, Int.mul_comm a c, Int.mul_comm b d]

/-- The sign of what is told. -/
theorem mk_sign {n d : Int} (h : mkC n d = 0) : decide (mkN n d < 0) = decide (n < 0) := by
  have hd := mkC_pos h
  have x := mk_cross h
  have b := may_bd (mk_may h)
  generalize mkN n d = s at *
  generalize mkD n d = t at *
  apply decide_eq_decide.2
  constructor
  · intro hs
    rcases Int.lt_or_le n 0 with h1 | h1
    · exact h1
    · have := Int.mul_nonneg h1 (show 0 ≤ t by omega)
      have := Int.mul_neg_of_neg_of_pos hs hd
      omega
  · intro hn
    rcases Int.lt_or_le s 0 with h1 | h1
    · exact h1
    · have := Int.mul_nonneg h1 (show 0 ≤ d by omega)
      have := Int.mul_neg_of_neg_of_pos hn (show 0 < t by omega)
      omega

/-- The sum of a list, from s through t on; all of them may be. -/
def sumRGo : Rat2 → List (Int × Int) → Rat2
  | s, [] => s
  | s, x :: l => if s.c = 0 then sumRGo (plusR s.n s.d x.1 x.2) l else s
def allMay (l : List (Int × Int)) : Bool := l.all fun x => mayB x.1 x.2
def sumR (l : List (Int × Int)) : Rat2 := if allMay l then sumRGo ⟨0, 1, 0⟩ l else badR

theorem sumRGo_bad {s : Rat2} (h : s.c ≠ 0) (l : List (Int × Int)) : sumRGo s l = s := by
  cases l with
  | nil => rfl
  | cons x l => unfold sumRGo; rw [if_neg h]
theorem sumRGo_append (s : Rat2) (l m : List (Int × Int)) : sumRGo s (l ++ m) = sumRGo (sumRGo s l) m := by
  induction l generalizing s with
  | nil => rfl
  | cons x l ih =>
    by_cases h : s.c = 0
    · show sumRGo s (x :: (l ++ m)) = sumRGo (sumRGo s (x :: l)) m
      rw [show sumRGo s (x :: (l ++ m)) = sumRGo (plusR s.n s.d x.1 x.2) (l ++ m) from if_pos h, show sumRGo s (x :: l) = sumRGo (plusR s.n s.d x.1 x.2) l from if_pos h]
      exact ih _
    · rw [sumRGo_bad h, sumRGo_bad h, sumRGo_bad h]
theorem plus_nil {c d : Int} (h : mayB c d = true) : plusR 0 1 c d = ⟨c, d, 0⟩ := by
  unfold plusR
  rw [h]
  have e1 : (mayB 0 1 && true) = true := by decide
  rw [if_pos e1, Int.zero_mul, Int.zero_add, Int.mul_one, Int.one_mul]
  obtain ⟨k1, k2, k3⟩ := mk_self h
  unfold mkR
  rw [k1, k2, k3]
theorem sumR_two (a b c d : Int) : sumR [(a, b), (c, d)] = plusR a b c d := by
  unfold sumR allMay
  by_cases h : mayB a b = true
  · by_cases h' : mayB c d = true
    · simp only [List.all_cons, h, h', List.all_nil, Bool.and_true, if_true]
      simp only [sumRGo, if_true]
      rw [plus_nil h]
      simp
    · have e : mayB c d = false := by simpa using h'
      simp [List.all_cons, h, e, plusR]
  · have e : mayB a b = false := by simpa using h
    simp [List.all_cons, e, plusR]
theorem sumRGo_may {s : Rat2} (l : List (Int × Int)) (h : mayB s.n s.d = (s.c == 0)) : mayB (sumRGo s l).n (sumRGo s l).d = ((sumRGo s l).c == 0) := by
  induction l generalizing s with
  | nil => exact h
  | cons x l ih =>
    by_cases hc : s.c = 0
    · rw [show sumRGo s (x :: l) = sumRGo (plusR s.n s.d x.1 x.2) l from if_pos hc]
      exact ih (plusR_may _ _ _ _)
    · rw [sumRGo_bad hc]; exact h
end Go.Proofs.YtpgncbhahocmbaaGreat

namespace Go.Proofs.YtpgncbhahocmbaaGreat
set_option linter.unusedVariables false
set_option linter.unusedSimpArgs false

/-- A setup: its lists as rows of numbers. -/
structure SetP where
  places : Int
  ways : Rows2
  pn : Int
  pd : Int
  elements : Rows2
  classes : Rows2
  gears : Rows2
  allow : Int
  unit : Int
  cap : Int
  paid : Int
  aft : Int
  brk : Int
  reg : Int
  over : Int
  week : Int
  nfrom : Int
  nto : Int
  rates : List Int
  diff : Int
  least : Int
  fault : Int
  tiers : Rows2
def SetP.none : SetP := ⟨0, [], 0, 0, [], [], [], 0, 0, 0, 0, 0, 0, 0, 0, 0, 0, 0, [], 0, 0, 0, []⟩
/-- Its rows are as wide as they should. -/
structure SetP.Wide (s : SetP) : Prop where
  ways : ∀ r ∈ s.ways, r.length = 3
  elements : ∀ r ∈ s.elements, r.length = 4
  classes : ∀ r ∈ s.classes, r.length = 2
  gears : ∀ r ∈ s.gears, r.length = 2
  tiers : ∀ r ∈ s.tiers, r.length = 2
/-- A setup's numbers. -/
def SetP.nums (s : SetP) : List Int :=
  s.places :: (s.ways.length : Int) :: (s.ways.flatten ++ (s.pn :: s.pd :: (s.elements.length : Int) :: (s.elements.flatten ++ ((s.classes.length : Int) :: (s.classes.flatten ++ ((s.gears.length : Int) :: (s.gears.flatten ++
    (s.allow :: s.unit :: s.cap :: s.paid :: s.aft :: s.brk :: s.reg :: s.over :: s.week :: s.nfrom :: s.nto :: (s.rates.length : Int) :: (s.rates ++ (s.diff :: s.least :: s.fault :: (s.tiers.length : Int) :: s.tiers.flatten))))))))))
theorem flat_ones : ∀ l : List Int, (l.map fun n => [n]).flatten = l
  | [] => rfl
  | n :: l => by simp [flat_ones l]
/-! ### Which may be -/
def shareB (n d : Int) : Bool := mayB n d && decide (0 ≤ n)
def wayP (p : Int) (r : List Int) : Prop := 0 ≤ r.getD 0 0 ∧ 0 ≤ r.getD 1 0 ∧ r.getD 0 0 < p ∧ r.getD 1 0 < p ∧ r.getD 0 0 ≠ r.getD 1 0 ∧ 1 ≤ r.getD 2 0 ∧ r.getD 2 0 ≤ 10000
def eleP (r : List Int) : Prop := shareB (r.getD 0 0) (r.getD 1 0) = true ∧ shareB (r.getD 2 0) (r.getD 3 0) = true
def ratP (r : List Int) : Prop := shareB (r.getD 0 0) (r.getD 1 0) = true
def rateP (n : Int) : Prop := 0 ≤ n ∧ n ≤ 100000
def tierP (l : Rows2) (i : Nat) : Prop := 0 ≤ (l.getD i []).getD 0 0 ∧ (l.getD i []).getD 0 0 ≤ 1000 ∧ 0 ≤ (l.getD i []).getD 1 0 ∧ (l.getD i []).getD 1 0 ≤ 100000 ∧ (0 < i → (l.getD (i - 1) []).getD 0 0 < (l.getD i []).getD 0 0)
structure SetP.May (s : SetP) : Prop where
  places : 1 ≤ s.places ∧ s.places ≤ 16
  ways : s.ways.length ≤ 64 ∧ ∀ r ∈ s.ways, wayP s.places r
  pace : shareB s.pn s.pd = true
  elements : s.elements.length ≤ 8 ∧ ∀ r ∈ s.elements, eleP r
  classes : s.classes.length ≤ 8 ∧ ∀ r ∈ s.classes, ratP r
  gears : s.gears.length ≤ 8 ∧ ∀ r ∈ s.gears, ratP r
  allow : 0 ≤ s.allow ∧ s.allow ≤ 100
  unit : 1 ≤ s.unit ∧ s.unit ≤ 3600
  cap : 60 ≤ s.cap ∧ s.cap ≤ 57600
  paid : 0 ≤ s.paid ∧ s.paid ≤ 86400
  aft : 0 ≤ s.aft ∧ s.aft ≤ 86400
  brk : 0 ≤ s.brk ∧ s.brk ≤ 86400
  nfrom : 0 ≤ s.nfrom ∧ s.nfrom ≤ 86400
  nto : 0 ≤ s.nto ∧ s.nto ≤ 86400
  fault : 0 ≤ s.fault ∧ s.fault ≤ 86400
  reg : 0 ≤ s.reg ∧ s.reg ≤ s.over
  over : s.over ≤ 86400
  week : 0 ≤ s.week ∧ s.week ≤ 604800
  rates : 1 ≤ s.rates.length ∧ s.rates.length ≤ 16 ∧ ∀ n ∈ s.rates, rateP n
  diff : 0 ≤ s.diff ∧ s.diff ≤ 100000
  least : 0 ≤ s.least ∧ s.least ≤ 100000
  tiers : s.tiers.length ≤ 8 ∧ ∀ i, i < s.tiers.length → tierP s.tiers i
theorem share_bd {n d : Int} (h : shareB n d = true) : 0 ≤ n ∧ n ≤ 2147483647 ∧ 1 ≤ d ∧ d ≤ 2147483647 := by
  unfold shareB at h
  simp only [Bool.and_eq_true, decide_eq_true_eq] at h
  have := may_bd h.1
  omega
/-! ### As bytes -/
def SetP.bytes (s : SetP) : List (BitVec 8) := bytesN s.nums
/-! ### Read -/
end Go.Proofs.YtpgncbhahocmbaaGreat

namespace Go.Proofs.YtpgncbhahocmbaaGreat
set_option linter.unusedVariables false
set_option linter.unusedSimpArgs false

theorem rows_len {k : Nat} : ∀ (t : Rows2), (∀ r ∈ t, r.length = k) → t.flatten.length = k * t.length
  | [], _ => by simp
  | r :: t, h => by
    have h1 := rows_len t (fun q hq => h q (by simp [hq]))
    have h2 := h r (by simp)
    rw [List.flatten_cons, List.length_append, h1, h2, List.length_cons, Nat.mul_add]
    omega
theorem rows_get {k : Nat} : ∀ (t : Rows2), (∀ r ∈ t, r.length = k) → ∀ i j, i < t.length → j < k → ∀ v : List Int, (t.flatten ++ v).getD (k * i + j) 0 = (t.getD i []).getD j 0
  | [], _, i, j, hi, _, v => by simp at hi
  | r :: t, h, i, j, hi, hj, v => by
    have h2 := h r (by simp)
    rw [List.flatten_cons, List.append_assoc]
    rcases i with _ | i
    · rw [Nat.mul_zero, Nat.zero_add, List.getD_eq_getElem?_getD, List.getElem?_append_left (by omega)]
      simp [List.getD]
    · have h3 := rows_get t (fun q hq => h q (by simp [hq])) i j (by simpa using hi) hj v
      rw [List.getD_eq_getElem?_getD, List.getElem?_append_right (by rw [h2, Nat.mul_add]; omega), h2, show k * (i + 1) + j - k = k * i + j by rw [Nat.mul_add]; omega, ← List.getD_eq_getElem?_getD, h3]
      simp [List.getD]
end Go.Proofs.YtpgncbhahocmbaaGreat

namespace Go.Proofs.YtpgncbhahocmbaaGreat
set_option linter.unusedVariables false
set_option linter.unusedSimpArgs false

structure EvP where
  id : Int
  wk : Int
  tm : Int
  kd : Int
  fr : Int
  to : Int
  el : Int
  un : Int
  cl : Int
  ge : Int
  cd : Int
deriving DecidableEq
def EvP.none : EvP := ⟨0, 0, 0, 0, 0, 0, 0, 0, 0, 0, 0⟩
def EvP.nums (e : EvP) : List Int := [e.id, e.wk, e.tm, e.kd] ++ ((if e.kd = 3 then [e.fr, e.to, e.el, e.un, e.cl, e.ge] else []) ++ (if e.kd = 4 then [e.cd] else []))
structure EvP.Fair (e : EvP) : Prop where
  id : 0 ≤ e.id ∧ e.id ≤ 100000
  wk : 0 ≤ e.wk ∧ e.wk ≤ 9223372036854775807
  tm : 0 ≤ e.tm ∧ e.tm ≤ 31449599
  kd : 1 ≤ e.kd ∧ e.kd ≤ 7
  fr : 0 ≤ e.fr ∧ e.fr ≤ 9223372036854775807
  to : 0 ≤ e.to ∧ e.to ≤ 9223372036854775807
  el : 0 ≤ e.el ∧ e.el ≤ 9223372036854775807
  un : 0 ≤ e.un ∧ e.un ≤ 9223372036854775807
  cl : 0 ≤ e.cl ∧ e.cl ≤ 9223372036854775807
  ge : 0 ≤ e.ge ∧ e.ge ≤ 9223372036854775807
  cd : 0 ≤ e.cd ∧ e.cd ≤ 9223372036854775807
  task : e.kd = 3 ∨ (e.fr = 0 ∧ e.to = 0 ∧ e.el = 0 ∧ e.un = 0 ∧ e.cl = 0 ∧ e.ge = 0)
  code : e.kd = 4 ∨ e.cd = 0
def EvP.bytes (e : EvP) : List (BitVec 8) := bytesN e.nums
/-! ### The document's own Take -/
/-! ### The order -/
def lessE (a b : EvP) : Bool := decide (a.tm < b.tm ∨ (a.tm = b.tm ∧ a.id < b.id))
def alikeE (a b : EvP) : Bool := decide (a.tm = b.tm ∧ a.id = b.id)
theorem ev_less_irr (a : EvP) : lessE a a = false := by simp [lessE]
theorem ev_less_trans {a b c : EvP} (h : lessE a b = true) (h' : lessE b c = true) : lessE a c = true := by
  simp only [lessE, decide_eq_true_eq] at *
  omega
/-- None stands ahead of one in front of it. -/
def Risen : List EvP → Prop
  | [] => True
  | a :: l => (∀ b ∈ l, lessE b a = false) ∧ Risen l
/-- Put in behind all that do not stand behind it. -/
def insE (out : List EvP) (x : EvP) : List EvP := out.filter (fun y => !lessE x y) ++ x :: out.filter (fun y => lessE x y)
def sortE (l : List EvP) : List EvP := l.foldl insE []
theorem risen_append : ∀ (l m : List EvP), Risen (l ++ m) ↔ Risen l ∧ Risen m ∧ ∀ a ∈ l, ∀ b ∈ m, lessE b a = false
  | [], m => by simp [Risen]
  | a :: l, m => by
    rw [List.cons_append, Risen, risen_append l m, Risen]
    constructor
    · rintro ⟨h1, h2, h3, h4⟩
      refine ⟨⟨fun b hb => h1 b (by simp [hb]), h2⟩, h3, fun c hc b hb => ?_⟩
      rcases List.mem_cons.1 hc with rfl | hc
      · exact h1 b (by simp [hb])
      · exact h4 c hc b hb
    · rintro ⟨⟨h1, h2⟩, h3, h4⟩
      refine ⟨fun b hb => ?_, h2, h3, fun c hc b hb => h4 c (by simp [hc]) b hb⟩
      rcases List.mem_append.1 hb with hb | hb
      · exact h1 b hb
      · exact h4 a (by simp) b hb
theorem risen_filter (p : EvP → Bool) : ∀ l : List EvP, Risen l → Risen (l.filter p)
  | [], _ => trivial
  | a :: l, ⟨h1, h2⟩ => by
    have := risen_filter p l h2
    by_cases hp : p a = true
    · rw [List.filter_cons_of_pos hp]
      exact ⟨fun b hb => h1 b (List.mem_filter.1 hb).1, this⟩
    · rw [List.filter_cons_of_neg hp]
      exact this
theorem ev_less_not {a b c : EvP} (h1 : lessE a b = false) (h2 : lessE b c = false) : lessE a c = false := by
  simp only [lessE, decide_eq_false_iff_not] at *
  omega
theorem ev_ins_risen {out : List EvP} (h : Risen out) (x : EvP) : Risen (insE out x) := by
  unfold insE
  rw [risen_append]
  refine ⟨risen_filter _ _ h, ⟨fun b hb => ?_, risen_filter _ _ h⟩, fun a ha b hb => ?_⟩
  · have := (List.mem_filter.1 hb).2
    simp only [lessE, decide_eq_true_eq, decide_eq_false_iff_not] at *
    omega
  · have h1 := (List.mem_filter.1 ha).2
    rcases List.mem_cons.1 hb with rfl | hb
    · simpa using h1
    · have h2 := (List.mem_filter.1 hb).2
      simp only [lessE, Bool.not_eq_true', decide_eq_true_eq, decide_eq_false_iff_not] at *
      omega
theorem ev_foldl_risen : ∀ (l out : List EvP), Risen out → Risen (l.foldl insE out)
  | [], out, h => h
  | a :: l, out, h => ev_foldl_risen l _ (ev_ins_risen h a)
theorem ev_sort_risen (l : List EvP) : Risen (sortE l) := ev_foldl_risen l [] trivial
/-- Of alike ones: those that were there, in their order, and the one behind. -/
theorem ev_ins_alike (k x : EvP) (out : List EvP) : (insE out x).filter (alikeE k) = out.filter (alikeE k) ++ (if alikeE k x = true then [x] else []) := by
  unfold insE
  rw [List.filter_append, List.filter_filter, List.filter_cons, List.filter_filter]
  by_cases h : alikeE k x = true
  · rw [if_pos h, if_pos h]
    have e1 : out.filter (fun a => alikeE k a && !lessE x a) = out.filter (alikeE k) := by
      apply List.filter_congr
      intro a _
      cases ha : alikeE k a
      · rfl
      · simp only [alikeE, lessE, decide_eq_true_eq] at h ha ⊢
        simp
        omega
    have e2 : out.filter (fun a => alikeE k a && lessE x a) = [] := by
      rw [List.filter_eq_nil_iff]
      intro a _
      simp only [alikeE, lessE, Bool.and_eq_true, decide_eq_true_eq] at h ⊢
      omega
    rw [e1, e2]
  · rw [if_neg h, if_neg h, List.append_nil]
    by_cases hl : lessE x k = true
    · have e1 : out.filter (fun a => alikeE k a && !lessE x a) = [] := by
        rw [List.filter_eq_nil_iff]
        intro a _
        simp only [alikeE, lessE, Bool.and_eq_true, Bool.not_eq_true', decide_eq_true_eq, decide_eq_false_iff_not] at h hl ⊢
        omega
      have e2 : out.filter (fun a => alikeE k a && lessE x a) = out.filter (alikeE k) := by
        apply List.filter_congr
        intro a _
        cases ha : alikeE k a
        · rfl
        · simp only [alikeE, lessE, decide_eq_true_eq] at h ha hl ⊢
          simp
          omega
      rw [e1, e2, List.nil_append]
    · have e1 : out.filter (fun a => alikeE k a && !lessE x a) = out.filter (alikeE k) := by
        apply List.filter_congr
        intro a _
        cases ha : alikeE k a
        · rfl
        · simp only [alikeE, lessE, decide_eq_true_eq] at h ha hl ⊢
          simp
          omega
      have e2 : out.filter (fun a => alikeE k a && lessE x a) = [] := by
        rw [List.filter_eq_nil_iff]
        intro a _
        simp only [alikeE, lessE, Bool.and_eq_true, decide_eq_true_eq] at h hl ⊢
        omega
      rw [e1, e2, List.append_nil]
theorem ev_foldl_alike (k : EvP) : ∀ (l out : List EvP), (l.foldl insE out).filter (alikeE k) = out.filter (alikeE k) ++ l.filter (alikeE k)
  | [], out => by simp
  | a :: l, out => by
    rw [List.foldl_cons, ev_foldl_alike k l, ev_ins_alike, List.append_assoc, List.filter_cons]
    congr 1
    by_cases h : alikeE k a = true
    · rw [if_pos h, if_pos h]; rfl
    · rw [if_neg h, if_neg h]; rfl
theorem ev_sort_alike (k : EvP) (l : List EvP) : (sortE l).filter (alikeE k) = l.filter (alikeE k) := by
  unfold sortE
  rw [ev_foldl_alike]
  simp
theorem ev_alike_refl (a : EvP) : alikeE a a = true := by simp [alikeE]
/-- Lists in order are told by those that are alike. -/
theorem risen_unique : ∀ (l m : List EvP), Risen l → Risen m → (∀ k, l.filter (alikeE k) = m.filter (alikeE k)) → l = m
  | [], [], _, _, _ => rfl
  | [], b :: m, _, _, h => by
    have := h b
    rw [List.filter_cons_of_pos (ev_alike_refl b)] at this
    cases this
  | a :: l, [], _, _, h => by
    have := h a
    rw [List.filter_cons_of_pos (ev_alike_refl a)] at this
    cases this
  | a :: l, b :: m, ⟨h1, h2⟩, ⟨h3, h4⟩, h => by
    have hab : alikeE a b = true := by
      have ha : a ∈ (b :: m) := by
        have : a ∈ (b :: m).filter (alikeE a) := by rw [← h a, List.filter_cons_of_pos (ev_alike_refl a)]; simp
        exact (List.mem_filter.1 this).1
      have hb : b ∈ (a :: l) := by
        have : b ∈ (a :: l).filter (alikeE b) := by rw [h b, List.filter_cons_of_pos (ev_alike_refl b)]; simp
        exact (List.mem_filter.1 this).1
      have q1 : lessE b a = false := by
        rcases List.mem_cons.1 hb with rfl | hb
        · exact ev_less_irr _
        · exact h1 b hb
      have q2 : lessE a b = false := by
        rcases List.mem_cons.1 ha with rfl | ha
        · exact ev_less_irr _
        · exact h3 a ha
      simp only [lessE, alikeE, decide_eq_false_iff_not, decide_eq_true_eq] at *
      omega
    have hk := h a
    rw [List.filter_cons_of_pos (ev_alike_refl a), List.filter_cons_of_pos hab] at hk
    injection hk with e1 e2
    subst e1
    congr 1
    refine risen_unique l m h2 h4 (fun k => ?_)
    have := h k
    by_cases q : alikeE k a = true
    · rw [List.filter_cons_of_pos q, List.filter_cons_of_pos q] at this
      injection this
    · rw [List.filter_cons_of_neg q, List.filter_cons_of_neg q] at this
      exact this
theorem ev_sort_of {l s : List EvP} (h1 : Risen s) (h2 : ∀ k, s.filter (alikeE k) = l.filter (alikeE k)) : s = sortE l :=
  risen_unique s (sortE l) h1 (ev_sort_risen l) (fun k => by rw [h2, ev_sort_alike])
theorem ev_ins_perm (out : List EvP) (x : EvP) : (insE out x).Perm (x :: out) := by
  unfold insE
  have h := List.filter_append_perm (fun y => !lessE x y) out
  simp only [Bool.not_not] at h
  exact List.perm_middle.trans (h.cons x)
theorem ev_foldl_perm : ∀ (l out : List EvP), (l.foldl insE out).Perm (out ++ l)
  | [], out => by simp
  | a :: l, out => by
    refine (ev_foldl_perm l (insE out a)).trans ?_
    have := (ev_ins_perm out a).append_right l
    exact this.trans List.perm_middle.symm
theorem ev_sort_perm (l : List EvP) : (sortE l).Perm l := by
  have := ev_foldl_perm l []
  simpa [sortE] using this
end Go.Proofs.YtpgncbhahocmbaaGreat

namespace Go.Proofs.YtpgncbhahocmbaaGreat
open Go.RowKit
set_option linter.unusedVariables false
set_option linter.unusedSimpArgs false

/-- An event's cells. -/
def evC (e : EvP) : Array Value := #[.int .i64 e.id, .int .i64 e.wk, .int .i64 e.tm, .int .i64 e.kd, .int .i64 e.fr, .int .i64 e.to, .int .i64 e.el, .int .i64 e.un, .int .i64 e.cl, .int .i64 e.ge, .int .i64 e.cd]
theorem evC_size (e : EvP) : (evC e).size = 11 := rfl
theorem evC_one (e : EvP) : (evC e).all (·.oneCell') = true := by simp [evC, Value.oneCell']
/-- All numbers of an event are int's. -/
structure EvP.In (e : EvP) : Prop where
  id : -9223372036854775808 ≤ e.id ∧ e.id ≤ 9223372036854775807
  wk : -9223372036854775808 ≤ e.wk ∧ e.wk ≤ 9223372036854775807
  tm : -9223372036854775808 ≤ e.tm ∧ e.tm ≤ 9223372036854775807
  kd : -9223372036854775808 ≤ e.kd ∧ e.kd ≤ 9223372036854775807
  fr : -9223372036854775808 ≤ e.fr ∧ e.fr ≤ 9223372036854775807
  to : -9223372036854775808 ≤ e.to ∧ e.to ≤ 9223372036854775807
  el : -9223372036854775808 ≤ e.el ∧ e.el ≤ 9223372036854775807
  un : -9223372036854775808 ≤ e.un ∧ e.un ≤ 9223372036854775807
  cl : -9223372036854775808 ≤ e.cl ∧ e.cl ≤ 9223372036854775807
  ge : -9223372036854775808 ≤ e.ge ∧ e.ge ≤ 9223372036854775807
  cd : -9223372036854775808 ≤ e.cd ∧ e.cd ≤ 9223372036854775807
theorem ite_b1 {p : Prop} [Decidable p] {w : World} : (if p then Result.ok (Value.bool true) w else Result.ok (Value.bool false) w) = Result.ok (Value.bool (decide p)) w := by by_cases h : p <;> simp [h]
theorem ite_b2 {p : Prop} [Decidable p] {c : Bool} {w : World} : (if p then Result.ok (Value.bool c) w else Result.ok (Value.bool false) w) = Result.ok (Value.bool (decide p && c)) w := by by_cases h : p <;> simp [h]
theorem run_ev_eql (x y : EvP) (w : World) : (binOp .eql 43 (.agg (evC x)) (.agg (evC y))).run Tryz.prog w = .ok (.bool (decide (x = y))) w := by
  have u3 := Tryz.underlying3
  have a3 := Tryz.isAgg3
  have z3 := Tryz.sizeOf3
  have hS : Tryz.prog.underlying 43 = some (.struct (Tryz.prog.fieldsOf 43)) := by kernel_rfl
  have hp : Tryz.prog.stoodInHeld 43 = false := by kernel_rfl
  obtain ⟨a1, a2, a3', a4, a5, a6, a7, a8, a9, a10, a11⟩ := x
  obtain ⟨b1, b2, b3, b4, b5, b6, b7, b8, b9, b10, b11⟩ := y
  simp only [evC]
  rw [run_eql_struct, show (10000 : Nat) = 9999 + 1 from rfl, run_equalIn_agg w 9999 43 _ _ hS hp]
  simp only [Program.fieldsOf, Tryz.underlying43]
  go_simp
  simp only [ite_b1]
  simp only [ite_b2]
theorem wpList_load_e {ops : Array Oper} {rest : List Oper} {o : Oper} {a : Act} {w : World} {Q : Exit → Act → World → Prop} (hgd : Region.wanted o (yielded ops a.tmps) = true) (x : Operand) (ho : o.op = .load 43 x)
    (g : Nat) (hx : a.eval x = .pointer (some ⟨g, 0, none⟩)) (cs : Array Value) (hg : Has w g cs) (hs : cs.size = 11)
    (h : wpList Tryz.prog ops Q rest (a.put o.dst (.agg cs)) w) : wpList Tryz.prog ops Q (o :: rest) a w := by
  refine wpList_step fun K hK => ?_
  rw [if_pos hgd]
  obtain ⟨t, hg⟩ := hg
  exact wp_load_row _ x ho g hx t cs (0, 0) _ hg Tryz.underlying43 rfl (by rw [hs]; kernel_rfl) (hK _ _ h)
theorem wpList_store_e {ops : Array Oper} {rest : List Oper} {o : Oper} {a : Act} {w : World} {Q : Exit → Act → World → Prop} (hgd : o.guard = none) (x y : Operand) (ho : o.op = .store 43 x y)
    (g : Nat) (cs : Array Value) (hx : a.eval x = .pointer (some ⟨g, 0, none⟩)) (hy : a.eval y = .agg cs) (old : Array Value) (hg : Has w g old) (hold : old.size = 11) (hs : cs.size = 11) (h1 : cs.all (·.oneCell') = true)
    (h : wpList Tryz.prog ops Q rest (a.put o.dst undef) (w.setRow g cs)) : wpList Tryz.prog ops Q (o :: rest) a w := by
  obtain ⟨t, hg⟩ := hg
  exact wpList_store_row hgd _ x y ho g cs hx hy t old hg (by rw [hs]; kernel_rfl) (by rw [hold, hs]) h1 h
theorem has_setRow_e {w : World} {g : Nat} {old cs : Array Value} (h : Has w g old) : Has (w.setRow g cs) g cs := by
  obtain ⟨t, h⟩ := h
  exact ⟨t, setRow_heap _ _ _ _ _ _ h⟩
theorem has_setRow_far {w : World} {g g' : Nat} {cs cs' : Array Value} (h : Has w g' cs') (hne : g' ≠ g) : Has (w.setRow g cs) g' cs' := by
  obtain ⟨t, h⟩ := h
  exact ⟨t, by rw [setRow_other _ _ _ _ hne]; exact h⟩
def z11 : Array Value := evC EvP.none
/-- In a walk: a variable of type api.Event is laid. -/
theorem wpList_laid_e {ops : Array Oper} {rest : List Oper} {o1 o : Oper} {a : Act} {w : World} {Q : Exit → Act → World → Prop} (cs : Array Value) (d : Tmp) (x y : Operand) (hg1 : o1.guard = none) (ho1 : o1.op = .alloc 43) (hd1 : o1.dst = some d)
    (hgd : o.guard = none) (ho : o.op = .store 43 x y) (hd : o.dst = none) (hx : (a.put o1.dst (.pointer (some ⟨w.heap.size, 0, none⟩))).eval x = .pointer (some ⟨w.heap.size, 0, none⟩)) (hy : (a.put o1.dst (.pointer (some ⟨w.heap.size, 0, none⟩))).eval y = .agg cs)
    (hs : cs.size = 11) (h1 : cs.all (·.oneCell') = true)
    (h : wpList Tryz.prog ops Q rest (a.put o1.dst (.pointer (some ⟨w.heap.size, 0, none⟩))) (w.alloc (.cells cs 43))) : wpList Tryz.prog ops Q (o1 :: o :: rest) a w := by
  rw [hd1] at hx hy h
  refine wpList_plain hg1 fun K hK => ?_
  unfold Oper.wp execOp
  simp only [ho1]
  go_simp
  refine hK _ _ ?_
  refine wpList_store_e hgd x y ho w.heap.size cs hx hy z11 (Has.new _ _ _ rfl) rfl hs h1 ?_
  rw [hd]
  have e := World.setRow_alloc_new w z11 cs 43
  unfold z11 at e
  exact e ▸ h
end Go.Proofs.YtpgncbhahocmbaaGreat

namespace Go.Proofs.YtpgncbhahocmbaaGreat
set_option linter.unusedVariables false

/-- t is one of the spans' numbers. -/
def In (l : List (Int × Int)) (t : Int) : Prop := ∃ s, s ∈ l ∧ s.1 ≤ t ∧ t < s.2

def PlainFrom : Int → List (Int × Int) → Prop
  | _, [] => True
  | lo, s :: l => lo ≤ s.1 ∧ s.1 < s.2 ∧ s.2 ≤ 32054400 ∧ PlainFrom (s.2 + 1) l

theorem in_nil (t : Int) : ¬ In [] t := by rintro ⟨s, h, _⟩; cases h
theorem in_cons (s : Int × Int) (l : List (Int × Int)) (t : Int) : In (s :: l) t ↔ (s.1 ≤ t ∧ t < s.2) ∨ In l t := by
  unfold In
  constructor
  · rintro ⟨x, hx, h⟩
    rcases List.mem_cons.1 hx with rfl | hx
    · exact .inl h
    · exact .inr ⟨x, hx, h⟩
  · rintro (h | ⟨x, hx, h⟩)
    · exact ⟨s, List.mem_cons_self, h⟩
    · exact ⟨x, List.mem_cons_of_mem _ hx, h⟩
theorem in_append (l m : List (Int × Int)) (t : Int) : In (l ++ m) t ↔ In l t ∨ In m t := by
  induction l with
  | nil => simp [in_nil]
  | cons s l ih => rw [List.cons_append, in_cons, in_cons, ih, or_assoc]
theorem in_one (s : Int × Int) (t : Int) : In [s] t ↔ s.1 ≤ t ∧ t < s.2 := by rw [in_cons]; simp [in_nil]

theorem PlainFrom.mono : ∀ {l : List (Int × Int)} {a b : Int}, b ≤ a → PlainFrom a l → PlainFrom b l
  | [], _, _, _, _ => trivial
  | _ :: _, _, _, h, hp => ⟨by have := hp.1; omega, hp.2⟩
theorem PlainFrom.bound : ∀ {l : List (Int × Int)} {a t : Int}, PlainFrom a l → In l t → a ≤ t ∧ t < 32054400
  | [], _, _, _, h => absurd h (in_nil _)
  | s :: l, a, t, hp, h => by
    obtain ⟨h1, h2, h3, h4⟩ := hp
    rcases (in_cons s l t).1 h with h | h
    · omega
    · have := PlainFrom.bound h4 h; omega

/-- Two plain lists of one set are the same. -/
theorem plain_one : ∀ {l m : List (Int × Int)} {a : Int}, PlainFrom a l → PlainFrom a m → (∀ t, In l t ↔ In m t) → l = m
  | [], [], _, _, _, _ => rfl
  | [], s :: m, a, _, hm, h => absurd ((h s.1).2 ((in_cons _ _ _).2 (.inl ⟨Int.le_refl _, hm.2.1⟩))) (in_nil _)
  | s :: l, [], a, hl, _, h => absurd ((h s.1).1 ((in_cons _ _ _).2 (.inl ⟨Int.le_refl _, hl.2.1⟩))) (in_nil _)
  | s :: l, r :: m, a, hl, hm, h => by
    obtain ⟨l1, l2, l3, l4⟩ := hl
    obtain ⟨m1, m2, m3, m4⟩ := hm
    have kl : ∀ t, In (s :: l) t → s.1 ≤ t := fun t ht => by
      rcases (in_cons _ _ _).1 ht with ht | ht
      · exact ht.1
      · have := PlainFrom.bound l4 ht; omega
    have km : ∀ t, In (r :: m) t → r.1 ≤ t := fun t ht => by
      rcases (in_cons _ _ _).1 ht with ht | ht
      · exact ht.1
      · have := PlainFrom.bound m4 ht; omega
    have e1 : s.1 = r.1 := by
      have h1 := km _ ((h s.1).1 ((in_cons _ _ _).2 (.inl ⟨Int.le_refl _, l2⟩)))
      have h2 := kl _ ((h r.1).2 ((in_cons _ _ _).2 (.inl ⟨Int.le_refl _, m2⟩)))
      omega
    have nl : ¬ In (s :: l) s.2 := fun ht => by
      rcases (in_cons _ _ _).1 ht with ht | ht
      · omega
      · have := PlainFrom.bound l4 ht; omega
    have nm : ¬ In (r :: m) r.2 := fun ht => by
      rcases (in_cons _ _ _).1 ht with ht | ht
      · omega
      · have := PlainFrom.bound m4 ht; omega
    have e2 : s.2 = r.2 := by
      rcases Int.lt_trichotomy s.2 r.2 with hlt | he | hgt
      · exact absurd ((h s.2).2 ((in_cons _ _ _).2 (.inl ⟨by omega, hlt⟩))) nl
      · exact he
      · exact absurd ((h r.2).1 ((in_cons _ _ _).2 (.inl ⟨by omega, hgt⟩))) nm
    have e : s = r := Prod.ext e1 e2
    subst e
    have : l = m := plain_one l4 m4 (fun t => by
      have ht := h t
      rw [in_cons, in_cons] at ht
      constructor
      · intro hi
        have := PlainFrom.bound l4 hi
        rcases ht.1 (.inr hi) with q | q
        · omega
        · exact q
      · intro hi
        have := PlainFrom.bound m4 hi
        rcases ht.2 (.inr hi) with q | q
        · omega
        · exact q)
    rw [this]

theorem exists_canon (p : Int → Prop) : ∀ (n : Nat) (lo : Int), lo + n = 32054400 → ∃ l, PlainFrom lo l ∧ ∀ t, In l t ↔ lo ≤ t ∧ t < 32054400 ∧ p t
  | 0, lo, h => ⟨[], trivial, fun t => by simp [in_nil]; omega⟩
  | n + 1, lo, h => by
    obtain ⟨l, hp, hi⟩ := exists_canon p n (lo + 1) (by omega)
    by_cases hlo : p lo
    · match l, hp, hi with
      | [], hp, hi =>
        refine ⟨[(lo, lo + 1)], ⟨Int.le_refl _, by simp; omega, by simp; omega, trivial⟩, fun t => ?_⟩
        rw [in_one]
        have := hi t
        simp only [in_nil, false_iff] at this
        constructor
        · intro ht
          obtain rfl : t = lo := by simp at ht; omega
          exact ⟨by omega, by omega, hlo⟩
        · intro ⟨h1, h2, h3⟩
          by_cases e : t = lo
          · subst e; exact ⟨by simp, by simp; omega⟩
          · exact absurd ⟨by omega, h2, h3⟩ this
      | s :: l, ⟨h1, h2, h3, h4⟩, hi =>
        by_cases hs : s.1 = lo + 1
        · refine ⟨(lo, s.2) :: l, ⟨Int.le_refl _, by simp; omega, h3, h4⟩, fun t => ?_⟩
          have := hi t
          rw [in_cons] at this ⊢
          by_cases e : t = lo
          · subst e
            exact ⟨fun _ => ⟨by omega, by omega, hlo⟩, fun _ => .inl ⟨by simp, by simp; omega⟩⟩
          · constructor
            · intro q
              have := this.1 (q.elim (fun q => .inl ⟨by simp at q; omega, by simp at q; omega⟩) .inr)
              exact ⟨by omega, this.2⟩
            · intro ⟨q1, q2⟩
              exact (this.2 ⟨by omega, q2⟩).elim (fun q => .inl ⟨by simp; omega, by simp; omega⟩) .inr
        · refine ⟨(lo, lo + 1) :: s :: l, ⟨Int.le_refl _, by simp; omega, by simp; omega, by simp; omega, h2, h3, h4⟩, fun t => ?_⟩
          have := hi t
          rw [in_cons]
          by_cases e : t = lo
          · subst e
            exact ⟨fun _ => ⟨by omega, by omega, hlo⟩, fun _ => .inl ⟨by simp, by simp; omega⟩⟩
          · constructor
            · intro q
              have := this.1 (q.elim (fun q => by simp at q; omega) id)
              exact ⟨by omega, this.2⟩
            · intro ⟨q1, q2⟩
              exact .inr (this.2 ⟨by omega, q2⟩)
    · refine ⟨l, hp.mono (by omega), fun t => ?_⟩
      rw [hi t]
      constructor
      · rintro ⟨h1, h2⟩; exact ⟨by omega, h2⟩
      · rintro ⟨h1, h2, h3⟩
        refine ⟨?_, h2, h3⟩
        by_cases e : t = lo
        · subst e; exact absurd h3 hlo
        · omega

/-- The plain spans of the numbers from 0 on, below all time's end, of which p holds. -/
noncomputable def canon (p : Int → Prop) : List (Int × Int) := Classical.choose (exists_canon p 32054400 0 (by omega))
theorem canon_plain (p : Int → Prop) : PlainFrom 0 (canon p) := (Classical.choose_spec (exists_canon p 32054400 0 (by omega))).1
theorem canon_in (p : Int → Prop) (t : Int) : In (canon p) t ↔ 0 ≤ t ∧ t < 32054400 ∧ p t := (Classical.choose_spec (exists_canon p 32054400 0 (by omega))).2 t
theorem canon_eq {p : Int → Prop} {l : List (Int × Int)} (hl : PlainFrom 0 l) (h : ∀ t, In l t ↔ 0 ≤ t ∧ t < 32054400 ∧ p t) : l = canon p :=
  plain_one hl (canon_plain p) (fun t => by rw [h, canon_in])
theorem canon_congr {p q : Int → Prop} (h : ∀ t, 0 ≤ t → t < 32054400 → (p t ↔ q t)) : canon p = canon q :=
  canon_eq (canon_plain p) (fun t => by
    rw [canon_in]
    constructor
    · rintro ⟨a, b, c⟩; exact ⟨a, b, (h t a b).1 c⟩
    · rintro ⟨a, b, c⟩; exact ⟨a, b, (h t a b).2 c⟩)
theorem canon_self {l : List (Int × Int)} (hl : PlainFrom 0 l) : canon (In l) = l :=
  (canon_eq hl (fun t => ⟨fun h => ⟨(hl.bound h).1, (hl.bound h).2, h⟩, fun h => h.2.2⟩)).symm
/-- Plain, as of pairs: for lists that grow at their end. -/
theorem plain_pairs : ∀ {l : List (Int × Int)} {a : Int}, PlainFrom a l ↔ (∀ s ∈ l, a ≤ s.1 ∧ s.1 < s.2 ∧ s.2 ≤ 32054400) ∧ l.Pairwise (fun x y => x.2 < y.1)
  | [], a => by simp [PlainFrom]
  | s :: l, a => by
    simp only [PlainFrom, List.pairwise_cons, List.mem_cons, forall_eq_or_imp]
    rw [plain_pairs (l := l)]
    constructor
    · rintro ⟨h1, h2, h3, h4, h5⟩
      exact ⟨⟨⟨h1, h2, h3⟩, fun x hx => by have := h4 x hx; omega⟩, fun x hx => by have := h4 x hx; omega, h5⟩
    · rintro ⟨⟨⟨h1, h2, h3⟩, h4⟩, h5, h6⟩
      exact ⟨h1, h2, h3, fun x hx => by have := h4 x hx; have := h5 x hx; omega, h6⟩
theorem plain_snoc {l : List (Int × Int)} {a : Int} {s : Int × Int} (hl : PlainFrom a l) (h : ∀ x ∈ l, x.2 < s.1) (h1 : a ≤ s.1) (h2 : s.1 < s.2) (h3 : s.2 ≤ 32054400) : PlainFrom a (l ++ [s]) := by
  rw [plain_pairs] at hl ⊢
  refine ⟨fun x hx => ?_, List.pairwise_append.2 ⟨hl.2, by simp, fun x hx y hy => ?_⟩⟩
  · rcases List.mem_append.1 hx with hx | hx
    · exact hl.1 x hx
    · rw [List.mem_singleton.1 hx]; exact ⟨h1, h2, h3⟩
  · rw [List.mem_singleton.1 hy]; exact h x hx
theorem plain_unsnoc {l : List (Int × Int)} {a : Int} {s : Int × Int} (hl : PlainFrom a (l ++ [s])) : PlainFrom a l ∧ (∀ x ∈ l, x.2 < s.1) ∧ a ≤ s.1 ∧ s.1 < s.2 ∧ s.2 ≤ 32054400 := by
  rw [plain_pairs] at hl
  rw [plain_pairs]
  obtain ⟨h1, h2⟩ := hl
  obtain ⟨h3, _, h4⟩ := List.pairwise_append.1 h2
  exact ⟨⟨fun x hx => h1 x (by simp [hx]), h3⟩, fun x hx => h4 x hx s (by simp), h1 s (by simp)⟩

/-- What Norm makes of spans that rise: the list so far, plain, of the union; no From above lim. -/
def Grown (p : Int → Prop) (lim : Int) (l : List (Int × Int)) : Prop := PlainFrom 0 l ∧ (∀ x ∈ l, x.1 ≤ lim) ∧ ∀ u, In l u ↔ p u
theorem grown_snoc {p q : Int → Prop} {a : Int} {l : List (Int × Int)} {s : Int × Int} (h : Grown p a l) (has : a ≤ s.1) (h0 : 0 ≤ s.1) (h1 : s.1 < s.2) (h2 : s.2 ≤ 32054400) (hl : ∀ x ∈ l, x.2 < s.1)
    (hq : ∀ u, q u ↔ p u ∨ (s.1 ≤ u ∧ u < s.2)) : Grown q s.1 (l ++ [s]) :=
  ⟨plain_snoc h.1 hl h0 h1 h2, fun x hx => by
    rcases List.mem_append.1 hx with hx | hx
    · have := h.2.1 x hx; omega
    · rw [List.mem_singleton.1 hx]; exact Int.le_refl _, fun u => by rw [in_append, in_one, h.2.2, hq]⟩
theorem grown_last {p q : Int → Prop} {a : Int} {l : List (Int × Int)} {r s : Int × Int} (h : Grown p a (l ++ [r])) (has : a ≤ s.1) (h1 : s.1 < s.2) (h2 : s.2 ≤ 32054400) (hr : s.1 ≤ r.2)
    (hq : ∀ u, q u ↔ p u ∨ (s.1 ≤ u ∧ u < s.2)) : Grown q s.1 (l ++ [(r.1, max r.2 s.2)]) := by
  obtain ⟨g1, g2, g3⟩ := h
  obtain ⟨k1, k2, k3, k4, k5⟩ := plain_unsnoc g1
  have hr1 := g2 r (by simp)
  refine ⟨plain_snoc k1 k2 k3 (by simp; omega) (by simp; omega), fun x hx => ?_, fun u => ?_⟩
  · rcases List.mem_append.1 hx with hx | hx
    · have := k2 x hx; have := (plain_pairs.1 k1).1 x hx; omega
    · rw [List.mem_singleton.1 hx]; simp; omega
  · have := g3 u
    rw [hq, ← this, in_append, in_append, in_one, in_one, or_assoc]
    have e : (r.1 ≤ u ∧ u < max r.2 s.2) ↔ ((r.1 ≤ u ∧ u < r.2) ∨ (s.1 ≤ u ∧ u < s.2)) := by omega
    simp only []
    rw [e]
end Go.Proofs.YtpgncbhahocmbaaGreat
