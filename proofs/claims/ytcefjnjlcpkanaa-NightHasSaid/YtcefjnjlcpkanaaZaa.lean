/-
  Words that all texts of this family share: a slice of numbers that came in; draws; endings.
  Slices as lists of cells: what a slice that came in, or that the call made, reads as; what an append makes of it. Over any program.
  A block of cells that the walk knows whole: it is kept over draws, new blocks, and calls that leave what was there.
  The model's numbers of 8 and 32 bits, and words of bits: no program here.
  Slices of bytes as lists of words of 8 bits; slices of such slices. Over any program.
  A region that draws its order, by one word that holds whatever has come up: each operation keeps it, and where all have come up it gives what is asked. Over any program.
  Slices of bytes of the call's own: append, store, cut.
  Bytes turned into texts, whatever their number; texts held against each other.
  Numbers of parts: a part is so many numbers, or a list of rows of so many numbers, with how many rows ahead. What is written so is read in one way. No program here.
  Slices of numbers as lists; new slices of bytes made with room. Over any program.
  Slices of numbers of the call's own: append.
  Plain facts on numbers through others: lowest terms, which of them may be, what is as much. No program is named here.
  Setups: which may be, their numbers, and that they are read in one way. No program here.
  Setups read off a list of numbers, place by place. No program here.
  The document's own answers of layer 5 (lumperref05): numbers, and texts, taken; numbers put.
-/
import Derived.WalkKit
import Derived.Below
import Derived.Deep.Draws
import Derived.OpenShut
import Derived.Maps.AppendAt
import Derived.Laws.OwnMore
import Derived.Laws.Rows
import Derived.OwnWalk
import Derived.Laws.BitsAllLaws
import Derived.Laws.BitsLemmas
import Derived.Deep.RegionHeld3
import Derived.Test.YtcefjnjlcpkanaaProg
import Derived.Laws.BytesArg
import Derived.Laws.Cover1
import Derived.RowKit
import Derived.IntWalk
import Derived.WalkLawsBesides
import Derived.Lib.Hide
import Derived.Lib.SliceRun
import Derived.WalkMore
import Derived.ScopeJumps
import Derived.Laws.Slices
import Derived.RegionTactic
namespace Go.Proofs.Ytcefjnjlcpkanaa
open Go.RowKit

theorem ret_one {k : IntKind} {a b : Int} (h : a = b) : Ending.returned (.int k a) = .returned (.int k b) := by rw [h]
theorem ret_bool {a b : Bool} (h : a = b) : Ending.returned (.bool a) = .returned (.bool b) := by rw [h]

theorem below_drewN {B : Nat} {a w : World} (h : Below B a w) (n : Nat) : Below B a (w.drewN n) := ⟨h.os, h.tape, h.output, h.size, h.block⟩

theorem below_drew {B : Nat} {a w : World} (h : Below B a w) : Below B a w.drew := ⟨h.os, h.tape, h.output, h.size, h.block⟩

section
variable {P : Program} {f : FuncId} {args : Array Value} {w : World} {v : Ending}
theorem sameB (h : Calls P f args w fun e w' => e = v ∧ w = w') : Calls P f args w fun e w' => e = v ∧ Below w.heap.size w w' :=
  h.mono fun _ _ ⟨he, hn⟩ => ⟨he, by rw [← hn]; exact Below.refl _ _⟩
end

theorem bel_on {a w w' : World} (h : Below a.heap.size a w) (k : Below w.heap.size w w') : Below a.heap.size a w' := h.trans (k.mono h.size)
theorem bel_alloc {a w : World} (h : Below a.heap.size a w) (o : Obj) : Below a.heap.size a (w.alloc o) := h.alloc h.size o
theorem bel_set {a w : World} (h : Below a.heap.size a w) {p : Addr} (hp : a.heap.size ≤ p.block) (v : Value) : Below a.heap.size a (w.setCell p v) := h.setCell hp v

end Go.Proofs.Ytcefjnjlcpkanaa

namespace Go.Proofs.Ytcefjnjlcpkanaa
open Go.RowKit

theorem cell_lt {w : World} {a : Addr} {v : Value} (h : w.cell? a = some v) : a.block < w.heap.size := by
  rcases Nat.lt_or_ge a.block w.heap.size with hlt | hge
  · exact hlt
  · unfold World.cell? at h
    rw [Array.getElem?_eq_none hge] at h
    cases h
/-- The slice value '.slice A m c' reads as the cells us, 'size' of them to an element. -/
def Sl (size : Nat) (w : World) (A : Option Addr) (m c : Nat) (us : List Value) : Prop :=
  us.length = m * size ∧ ((A = none ∧ m = 0 ∧ c = 0) ∨ ∃ ad, A = some ad ∧ ∀ j u, us[j]? = some u → w.cell? (ad.add j) = some u)

section
variable {w w' : World} {size m c : Nat} {A : Option Addr} {us : List Value}
theorem Sl.keep (h : Sl size w A m c us) (hk : ∀ p : Addr, p.block < w.heap.size → w'.cell? p = w.cell? p) : Sl size w' A m c us := by
  obtain ⟨hl, h | ⟨ad, rfl, hc⟩⟩ := h
  · exact ⟨hl, .inl h⟩
  · exact ⟨hl, .inr ⟨ad, rfl, fun j u hu => (hk _ (cell_lt (hc j u hu))).trans (hc j u hu)⟩⟩
theorem Sl.below (h : Sl size w A m c us) (hb : Below w.heap.size w w') : Sl size w' A m c us := h.keep fun _ hp => hb.cell hp
theorem Sl.alloc (h : Sl size w A m c us) (o : Obj) : Sl size (w.alloc o) A m c us := h.keep fun p hp => World.cell?_alloc_lt w o p hp
theorem Sl.nil_ : Sl size w none 0 0 [] := ⟨by simp, .inl ⟨rfl, rfl, rfl⟩⟩
theorem Sl.of_own {base : Nat} {e : TypeId} (h : w.ownsRow base e size (.slice A m c) m us) : Sl size w A m c us := by
  obtain ⟨hl, ⟨hv, hn⟩ | ⟨g, cap, cur, hv, hg, hh, h1, h2, h3, h4⟩⟩ := h
  · injection hv with e1 e2 e3
    exact ⟨hl, .inl ⟨e1, e2, e3⟩⟩
  · injection hv with e1 e2 e3
    subst e1
    refine ⟨hl, .inr ⟨_, rfl, fun j u hu => ?_⟩⟩
    have hj : j < m * size := by
      rcases Nat.lt_or_ge j (m * size) with hlt | hge
      · exact hlt
      · rw [List.getElem?_eq_none (by omega)] at hu; cases hu
    have e : w.cell? ((⟨g, 0, none⟩ : Addr).add j) = cur[j]? := by
      have : ((⟨g, 0, none⟩ : Addr).add j) = ⟨g, j, none⟩ := by unfold Addr.add; split <;> simp_all
      rw [this]
      exact cell_of_row w g j cur e (0, 0) hh
    rw [e, ← hu, ← h4, List.getElem?_take, if_pos hj, Array.getElem?_toList]
end

/-- A new row that the call has just laid. -/
theorem own_new (w : World) (e : TypeId) (size n : Nat) (cur : Array Value) (hs : cur.size = n * size) (hm : n ≤ maxLen) :
    (w.alloc (.cells cur e)).ownsRow w.heap.size e size (.slice (some ⟨w.heap.size, 0, none⟩) n n) n cur.toList :=
  ⟨by simpa using hs, .inr ⟨_, n, cur, rfl, Nat.le_refl _, heap_alloc_new w _, Nat.le_refl _, hm, hs, by rw [← hs]; exact List.take_of_length_le (by simp)⟩⟩

section
variable {P : Program}
/-- What an append onto a row of the call's own does, whatever the source. -/
theorem append_any (w : World) (base : Nat) (t ty e : TypeId) (z : Value) (size bytes : Nat) (ht : P.underlying t = some (.slice e))
    (hinfo : (P.info? e).map (fun i => (i.zero, i.size, i.bytes)) = some (some z, size, bytes)) (hzs : z.cells.size = size) (hsz : 0 < size)
    {v : Value} {n : Nat} {xs : List Value} (hown : w.ownsRow base e size v n xs)
    {A : Option Addr} {m c : Nat} {news : List Value} (hr : Sl size w A m c news) (h1 : ∀ u ∈ news, u.oneCell' = true)
    (k : Nat) (hk : n + m = k) (ys : List Value) (hys : xs ++ news = ys)
    (hm : k ≤ 9223372036854775807) (hbytes : k * bytes ≤ 140737488355328) (hbase : base ≤ w.heap.size) :
    ∃ A' c' w', (Builtin.append_ #[t, t] ty #[v, .slice A m c]).run P w = .ok (.slice A' k c') w' ∧ w'.ownsRow base e size (.slice A' k c') k ys ∧
      w.grownBy w' v.ownBlock ∧ ((Value.slice A' k c').ownBlock = v.ownBlock ∨ (Value.slice A' k c').ownBlock = some w.heap.size) := by
  subst hk
  subst hys
  obtain ⟨i, hi, hz, hsize, hby⟩ := info_parts hinfo
  obtain ⟨v', w', h2, h3, h4, h5⟩ : ∃ v' w', (Builtin.append_ #[t, t] ty #[v, .slice A m c]).run P w = .ok v' w' ∧ w'.ownsRow base e size v' (n + m) (xs ++ news) ∧ w.grownBy w' v.ownBlock ∧ (v'.ownBlock = v.ownBlock ∨ v'.ownBlock = some w.heap.size) := by
    obtain ⟨hl, ⟨rfl, rfl, rfl⟩ | ⟨ad, rfl, hc⟩⟩ := hr
    · have hn : news = [] := List.eq_nil_of_length_eq_zero (by simpa using hl)
      subst hn
      refine ⟨v, w, run_append_owned_none w base t ty e i size ht hi v n xs hown, by simpa using hown, World.grownBy.refl w _, .inl rfl⟩
    · obtain ⟨v', w', hrun, k2, k3, _, k5⟩ := run_append_own_at (P := P) w base t ty e i z size bytes ht hi hz hsize hby hzs hsz v n xs hown ad m c news hl hc h1 (by simpa [maxLen] using hm) hbytes hbase
      exact ⟨v', w', hrun, k2, k3, k5⟩
  obtain ⟨A', c', rfl⟩ : ∃ A' c', v' = .slice A' (n + m) c' := by
    rcases h3.2 with ⟨rfl, hn⟩ | ⟨g, cap, cur, rfl, _⟩
    · exact ⟨none, 0, by rw [hn]⟩
    · exact ⟨_, _, rfl⟩
  exact ⟨A', c', w', h2, h3, h4, h5⟩
end

/-- In a walk: an append whose run is known. -/
theorem wpList_append_run {P : Program} {ops : Array Oper} {rest : List Oper} {o : Oper} {a : Act} {w w' : World} {Q : Exit → Act → World → Prop} {s x : Operand} {t : TypeId} {v u v' : Value}
    (hr : (Builtin.append_ #[t, t] o.type #[v, u]).run P w = .ok v' w') (hgd : o.guard = none)
    (ho : o.op = .call { callee := .builtin .append, args := #[s, x], argTypes := #[t, t] }) (hs : a.eval s = v) (hx : a.eval x = u)
    (h : wpList P ops Q rest (a.put o.dst v') w') : wpList P ops Q (o :: rest) a w := by
  refine wpList_plain hgd fun K hK => ?_
  unfold Oper.wp execOp
  simp only [ho, resolve, invoke, builtin, Sem.run_bind, Sem.run_pure, Result.andThen_ok, List.map_toArray, List.map_cons, List.map_nil, hs, hx, hr]
  exact hK _ _ h

/-- Behind an append onto a row that lies at 'base' or above, what lay below 'base' is as it was. -/
theorem bel_grown {a w w' : World} {v : Value} {base : Nat} {e : TypeId} {size n : Nat} {xs : List Value} (h : Below a.heap.size a w) (hown : w.ownsRow base e size v n xs) (hbase : a.heap.size ≤ base)
    (hg : w.grownBy w' v.ownBlock) : Below a.heap.size a w' :=
  h.grown hg h.size (fun k hk => by
    rcases hown.2 with ⟨rfl, _⟩ | ⟨g, cap, cur, rfl, hgb, _⟩
    · simp [Value.ownBlock] at hk
    · simp [Value.ownBlock] at hk; omega)

def ints (k : IntKind) (xs : List Int) : List Value := xs.map (Value.int k)
end Go.Proofs.Ytcefjnjlcpkanaa

namespace Go.Proofs.Ytcefjnjlcpkanaa
open Go.RowKit

/-- Block g holds just the cells cs, none of them frozen. -/
def Has (w : World) (g : Nat) (cs : Array Value) : Prop := ∃ t, w.heap[g]? = some (.cells cs t (0, 0))

section
variable {w w' : World} {g : Nat} {cs : Array Value}
theorem Has.size (h : Has w g cs) : g < w.heap.size := by
  obtain ⟨t, h⟩ := h
  rcases Nat.lt_or_ge g w.heap.size with hlt | hge
  · exact hlt
  · rw [Array.getElem?_eq_none hge] at h; cases h
theorem Has.new (w : World) (t : TypeId) (cs : Array Value) {s : Nat} (hs : w.heap.size = s) : Has (w.alloc (.cells cs t)) s cs := by
  subst hs
  exact ⟨t, heap_alloc_new w _⟩
theorem Has.alloc (h : Has w g cs) (o : Obj) : Has (w.alloc o) g cs := by
  have hl := h.size
  obtain ⟨t, h⟩ := h
  exact ⟨t, (Below.heap_alloc w o g hl).trans h⟩
theorem Has.drewN (h : Has w g cs) (n : Nat) : Has (w.drewN n) g cs := h
theorem Has.drew (h : Has w g cs) : Has w.drew g cs := h
theorem Has.below (h : Has w g cs) (hb : Below w.heap.size w w') : Has w' g cs := by
  have hl := h.size
  obtain ⟨t, h⟩ := h
  exact ⟨t, (hb.block g hl).trans h⟩
theorem Has.far (h : Has w g cs) {p : Addr} (hp : g ≠ p.block) (u : Value) : Has (w.setCell p u) g cs := by
  obtain ⟨t, h⟩ := h
  exact ⟨t, (Below.heap_setCell w p u g hp).trans h⟩
theorem Has.set (h : Has w g cs) (i : Nat) (u : Value) : Has (w.setCell ⟨g, i, none⟩ u) g (cs.setIfInBounds i u) := by
  obtain ⟨t, h⟩ := h
  exact ⟨t, by simp [World.setCell, Array.getElem?_modify, h]⟩
theorem Has.cell (h : Has w g cs) (i : Nat) {v : Value} (hv : cs[i]? = some v) : w.cell? ⟨g, i, none⟩ = some v := by
  obtain ⟨t, h⟩ := h
  rw [cell_of_row w g i cs t (0, 0) h, hv]
theorem Has.frozen (h : Has w g cs) (i : Nat) : w.frozen? ⟨g, i, none⟩ = false := by
  obtain ⟨t, h⟩ := h
  simp [World.frozen?, h]
end
/-- The facts of a block of two cells, as the walk asks them. -/
theorem Has.two {w : World} {g : Nat} {x y : Value} (h : Has w g #[x, y]) : w.cell? ⟨g, 0, none⟩ = some x ∧ w.cell? ⟨g, 1, none⟩ = some y ∧ w.frozen? ⟨g, 0, none⟩ = false ∧ w.frozen? ⟨g, 1, none⟩ = false :=
  ⟨h.cell 0 rfl, h.cell 1 rfl, h.frozen 0, h.frozen 1⟩
end Go.Proofs.Ytcefjnjlcpkanaa

namespace Go.Proofs.Ytcefjnjlcpkanaa
set_option linter.unusedVariables false
set_option linter.unusedSimpArgs false

abbrev v8 (n : BitVec 8) : Value := .int .u8 (n.toNat : Int)

def bytesV (l : List (BitVec 8)) : List Value := l.map v8
end Go.Proofs.Ytcefjnjlcpkanaa

namespace Go.Proofs.Ytcefjnjlcpkanaa
open Go.RowKit
set_option linter.unusedVariables false

/-- A slice value over A reads as the bytes l. -/
def Byts (w : World) (A : Option Addr) (l : List (BitVec 8)) : Prop :=
  ∀ k, k < l.length → ∃ b off, A = some ⟨b, off, none⟩ ∧ w.cell? ⟨b, off + k, none⟩ = some (v8 (l.getD k 0#8))
/-- A slice value over A reads as the slices of bytes ps. -/
def Parts (w : World) (A : Option Addr) (ps : List (List (BitVec 8))) : Prop :=
  ∀ k, k < ps.length → ∃ g B c, A = some ⟨g, 0, none⟩ ∧ w.cell? ⟨g, k, none⟩ = some (.slice B (ps.getD k []).length c) ∧ Byts w B (ps.getD k []) ∧ (ps.getD k []).length ≤ 9223372036854775807

section
variable {w w' : World} {A : Option Addr} {l : List (BitVec 8)} {ps : List (List (BitVec 8))}
theorem Byts.keep (h : Byts w A l) (hk : ∀ p : Addr, p.block < w.heap.size → w'.cell? p = w.cell? p) : Byts w' A l := by
  intro k hl
  obtain ⟨b, off, e, hc⟩ := h k hl
  exact ⟨b, off, e, (hk _ (cell_lt hc)).trans hc⟩
theorem Byts.below (h : Byts w A l) (hb : Below w.heap.size w w') : Byts w' A l := h.keep fun _ hp => hb.cell hp
theorem Byts.alloc (h : Byts w A l) (o : Obj) : Byts (w.alloc o) A l := h.keep fun p hp => World.cell?_alloc_lt w o p hp
theorem Byts.drew (h : Byts w A l) : Byts w.drew A l := h
theorem Byts.drewN (h : Byts w A l) (n : Nat) : Byts (w.drewN n) A l := h
theorem Byts.nil_ : Byts w A [] := fun k h => by simp at h
theorem Byts.take (h : Byts w A l) (n : Nat) : Byts w A (l.take n) := by
  intro k hk
  rw [List.length_take] at hk
  obtain ⟨b, off, e, hc⟩ := h k (by omega)
  refine ⟨b, off, e, ?_⟩
  rw [hc, List.getD_eq_getElem?_getD, List.getD_eq_getElem?_getD, List.getElem?_take, if_pos (by omega)]
theorem Parts.keep (h : Parts w A ps) (hk : ∀ p : Addr, p.block < w.heap.size → w'.cell? p = w.cell? p) : Parts w' A ps := by
  intro k hl
  obtain ⟨g, B, c, e, hc, hB, hm⟩ := h k hl
  exact ⟨g, B, c, e, (hk _ (cell_lt hc)).trans hc, hB.keep hk, hm⟩
theorem Parts.below (h : Parts w A ps) (hb : Below w.heap.size w w') : Parts w' A ps := h.keep fun _ hp => hb.cell hp
theorem Parts.alloc (h : Parts w A ps) (o : Obj) : Parts (w.alloc o) A ps := h.keep fun p hp => World.cell?_alloc_lt w o p hp
theorem Parts.drew (h : Parts w A ps) : Parts w.drew A ps := h
theorem Parts.nil_ : Parts w A [] := fun k h => by simp at h
end

/-- A slot that holds a slice of slices of bytes. -/
def PartsV (v : Value) (n : Nat) (ps : List (List (BitVec 8))) (w : World) : Prop := ∃ A c, v = .slice A n c ∧ Parts w A ps
theorem PartsV.below {v : Value} {n : Nat} {ps : List (List (BitVec 8))} {w w' : World} (h : PartsV v n ps w) (hb : Below w.heap.size w w') : PartsV v n ps w' := by
  obtain ⟨A, c, e, hp⟩ := h
  exact ⟨A, c, e, hp.below hb⟩
end Go.Proofs.Ytcefjnjlcpkanaa

namespace Go.Proofs.Ytcefjnjlcpkanaa
open Go.RowKit
set_option linter.unusedVariables false
/-- A slot that holds a value known. -/
def Fix (v x : Value) (w : World) : Prop := v = x
theorem Fix.below {v x : Value} {w w' : World} (h : Fix v x w) (_ : Below w.heap.size w w') : Fix v x w' := h

section
variable {P : Program} {ops : Array Oper} {Q : Exit → Act → World → Prop} {md : Region.Mode} {S : World → Prop}

/-- What the word I asks of one operation. -/
def StepAt (P : Program) (md : Region.Mode) (ops : Array Oper) (Q : Exit → Act → World → Prop) (I : Array Bool → Act → World → Prop) (i : Nat) (o : Oper) : Prop :=
  ∀ listed a w, I listed a w → listed.getD i true = false → (∀ e ∈ o.after.toList, Region.binds md e = true → listed.getD e.on false = true) →
    ∀ K' : Act → World → Prop, Shut (∀ a w, I (listed.setIfInBounds i true) a w → K' a w) → if Region.wanted o (yielded ops a.tmps) = true then Oper.wp P o a w K' Q else K' (a.put o.dst undef) w
def StepsFrom (P : Program) (md : Region.Mode) (ops : Array Oper) (Q : Exit → Act → World → Prop) (I : Array Bool → Act → World → Prop) (k : Nat) (os : List Oper) : Prop :=
  ∀ j o, os[j]? = some o → StepAt P md ops Q I (k + j) o
theorem StepsFrom.nil {I : Array Bool → Act → World → Prop} {k : Nat} : StepsFrom P md ops Q I k [] := fun j o h => by simp at h
theorem StepsFrom.cons {I : Array Bool → Act → World → Prop} {k : Nat} {o : Oper} {os : List Oper} (h : StepAt P md ops Q I k o) (hs : StepsFrom P md ops Q I (k + 1) os) : StepsFrom P md ops Q I k (o :: os) := fun j p hp => by
  rcases j with _ | j
  · simp at hp; subst hp; exact h
  · have := hs j p (by simpa using hp)
    rwa [Nat.add_right_comm] at this

end
end Go.Proofs.Ytcefjnjlcpkanaa

namespace Go.Proofs.Ytcefjnjlcpkanaa
open Go.RowKit
set_option linter.unusedVariables false

/-- A slice of the call's own, that lies at 'base' or behind, and holds the bytes xs. -/
def BRow (w : World) (base : Nat) (A : Option Addr) (c : Nat) (xs : List (BitVec 8)) : Prop :=
  w.ownsRow base 5 1 (.slice A xs.length c) xs.length (bytesV xs)
section
variable {w w' : World} {base c : Nat} {A : Option Addr} {xs : List (BitVec 8)}
theorem BRow.nil (w : World) (base : Nat) : BRow w base none 0 [] := World.ownsRow_nil w base _ _
theorem BRow.keep (h : BRow w base A c xs) (hk : ∀ g, A = some g → w'.heap[g.block]? = w.heap[g.block]?) : BRow w' base A c xs := by
  obtain ⟨hl, hn | ⟨g, cap, cur, hv, hg, hh, rest⟩⟩ := h
  · exact ⟨hl, .inl hn⟩
  · injection hv with e1 e2 e3
    subst e1
    exact ⟨hl, .inr ⟨g, cap, cur, by rw [e3], hg, (hk _ rfl).trans hh, rest⟩⟩
theorem BRow.lt (h : BRow w base A c xs) : ∀ g, A = some g → base ≤ g.block ∧ g.block < w.heap.size := by
  rintro g rfl
  exact World.ownsRow.lt h _ rfl
theorem BRow.below (h : BRow w base A c xs) (hb : Below w.heap.size w w') : BRow w' base A c xs :=
  h.keep fun g hg => hb.block _ (h.lt g hg).2
theorem BRow.alloc (h : BRow w base A c xs) (o : Obj) : BRow (w.alloc o) base A c xs := World.ownsRow.alloc h o
theorem BRow.drewN (h : BRow w base A c xs) (n : Nat) : BRow (w.drewN n) base A c xs := h
theorem BRow.drew (h : BRow w base A c xs) : BRow w.drew base A c xs := h
theorem BRow.mono (h : BRow w base A c xs) {b : Nat} (hb : b ≤ base) : BRow w b A c xs := by
  obtain ⟨hl, hn | ⟨g, cap, cur, hv, hg, rest⟩⟩ := h
  · exact ⟨hl, .inl hn⟩
  · exact ⟨hl, .inr ⟨g, cap, cur, hv, by omega, rest⟩⟩
theorem BRow.forms (h : BRow w base A c xs) : (A = none ∧ xs = [] ∧ c = 0) ∨ ∃ g, A = some ⟨g, 0, none⟩ ∧ base ≤ g ∧ g < w.heap.size ∧ xs.length ≤ c ∧ c ≤ maxLen := by
  have hlt := h.lt
  obtain ⟨hl, ⟨hv, hz⟩ | ⟨g, cap, cur, hv, hb, hh, hc, hm, _⟩⟩ := h
  · injection hv with e1 e2 e3
    exact .inl ⟨e1, List.eq_nil_of_length_eq_zero hz, e3⟩
  · injection hv with e1 e2 e3
    subst e1 e3
    exact .inr ⟨g, rfl, hb, (hlt _ rfl).2, hc, hm⟩
theorem BRow.form (h : BRow w base A c xs) (hn : xs ≠ []) : ∃ g, A = some ⟨g, 0, none⟩ := by
  rcases h.forms with ⟨_, e, _⟩ | ⟨g, e, _⟩
  · exact absurd e hn
  · exact ⟨g, e⟩
theorem BRow.sl (h : BRow w base A c xs) : Sl 1 w A xs.length c (bytesV xs) := Sl.of_own h
theorem BRow.set {g : Nat} (h : BRow w base (some ⟨g, 0, none⟩) c xs) {k : Nat} (hk : k < xs.length) (x : BitVec 8) : BRow (w.setCell ⟨g, k, none⟩ (v8 x)) base (some ⟨g, 0, none⟩) c (xs.set k x) := by
  have := (World.ownsRow.stored h k (v8 x)).1
  unfold BRow
  rw [List.length_set]
  have e : bytesV (xs.set k x) = (bytesV xs).set k (v8 x) := by simp [bytesV, List.map_set]
  rw [e]
  exact this
end

end Go.Proofs.Ytcefjnjlcpkanaa

namespace Go.Proofs.Ytcefjnjlcpkanaa
open Go.RowKit
set_option linter.unusedVariables false

/-- What a call that tells bytes answers: a slice of its own. -/
def TellsB (w : World) (xs : List (BitVec 8)) (v : Value) (w' : World) : Prop := ∃ A c, v = .slice A xs.length c ∧ BRow w' w.heap.size A c xs
theorem TellsB.below {w w' w'' : World} {xs : List (BitVec 8)} {v : Value} (h : TellsB w xs v w') (hb : Below w'.heap.size w' w'') : TellsB w xs v w'' := by
  obtain ⟨A, c, e, hr⟩ := h
  exact ⟨A, c, e, hr.below hb⟩
end Go.Proofs.Ytcefjnjlcpkanaa

namespace Go.Proofs.Ytcefjnjlcpkanaa
set_option linter.unusedVariables false
set_option linter.unusedSimpArgs false

abbrev Rows2 := List (List Int)
/-! ### Bytes -/
/-! ### The numbers that bytes are -/
end Go.Proofs.Ytcefjnjlcpkanaa

namespace Go.Proofs.Ytcefjnjlcpkanaa
open Go.RowKit
set_option linter.unusedVariables false

/-- A slice value over A reads as the numbers zs. -/
def Nums (w : World) (A : Option Addr) (zs : List Int) : Prop :=
  ∀ k, k < zs.length → ∃ b off, A = some ⟨b, off, none⟩ ∧ w.cell? ⟨b, off + k, none⟩ = some (.int .i64 (zs.getD k 0))
section
variable {w w' : World} {A : Option Addr} {zs : List Int}
theorem Nums.keep (h : Nums w A zs) (hk : ∀ p : Addr, p.block < w.heap.size → w'.cell? p = w.cell? p) : Nums w' A zs := by
  intro k hl
  obtain ⟨b, off, e, hc⟩ := h k hl
  exact ⟨b, off, e, (hk _ (cell_lt hc)).trans hc⟩
theorem Nums.below (h : Nums w A zs) (hb : Below w.heap.size w w') : Nums w' A zs := h.keep fun _ hp => hb.cell hp
theorem Nums.alloc (h : Nums w A zs) (o : Obj) : Nums (w.alloc o) A zs := h.keep fun p hp => World.cell?_alloc_lt w o p hp
theorem Nums.drew (h : Nums w A zs) : Nums w.drew A zs := h
theorem Nums.nil_ : Nums w A [] := fun k h => by simp at h
end
theorem nums_of_sl {w : World} {A : Option Addr} {n c : Nat} {zs : List Int} (h : Sl 1 w A n c (ints .i64 zs)) : Nums w A zs := by
  intro k hk
  obtain ⟨hl, ⟨_, rfl, _⟩ | ⟨ad, rfl, hc⟩⟩ := h
  · simp [ints] at hl
    subst hl
    simp at hk
  · have hk' := hc k (.int .i64 (zs.getD k 0)) (by simp [ints, List.getD, hk])
    obtain ⟨b, off, sp⟩ := ad
    have h0 := hc 0 (.int .i64 (zs.getD 0 0)) (by simp [ints, List.getD, show 0 < zs.length by omega])
    have hsp : sp = none := by simpa [Addr.add] using World.cell?_spot h0
    subst hsp
    refine ⟨b, off, rfl, ?_⟩
    have e : (⟨b, off, none⟩ : Addr).add k = ⟨b, off + k, none⟩ := by unfold Addr.add; split <;> simp_all
    rw [← e]
    exact hk'
end Go.Proofs.Ytcefjnjlcpkanaa

namespace Go.Proofs.Ytcefjnjlcpkanaa
open Go.RowKit
set_option linter.unusedVariables false

/-- A slice of the call's own, that lies at 'base' or behind, and holds the numbers xs. -/
def NRow (w : World) (base : Nat) (A : Option Addr) (c : Nat) (xs : List Int) : Prop :=
  w.ownsRow base 3 1 (.slice A xs.length c) xs.length (ints .i64 xs)
section
variable {w w' : World} {base c : Nat} {A : Option Addr} {xs : List Int}
theorem NRow.nil (w : World) (base : Nat) : NRow w base none 0 [] := World.ownsRow_nil w base _ _
theorem NRow.keep (h : NRow w base A c xs) (hk : ∀ g, A = some g → w'.heap[g.block]? = w.heap[g.block]?) : NRow w' base A c xs := by
  obtain ⟨hl, hn | ⟨g, cap, cur, hv, hg, hh, rest⟩⟩ := h
  · exact ⟨hl, .inl hn⟩
  · injection hv with e1 e2 e3
    subst e1
    exact ⟨hl, .inr ⟨g, cap, cur, by rw [e3], hg, (hk _ rfl).trans hh, rest⟩⟩
theorem NRow.lt (h : NRow w base A c xs) : ∀ g, A = some g → base ≤ g.block ∧ g.block < w.heap.size := by
  rintro g rfl
  exact World.ownsRow.lt h _ rfl
theorem NRow.below (h : NRow w base A c xs) (hb : Below w.heap.size w w') : NRow w' base A c xs :=
  h.keep fun g hg => hb.block _ (h.lt g hg).2
theorem NRow.alloc (h : NRow w base A c xs) (o : Obj) : NRow (w.alloc o) base A c xs := World.ownsRow.alloc h o
theorem NRow.drew (h : NRow w base A c xs) : NRow w.drew base A c xs := h
theorem NRow.mono (h : NRow w base A c xs) {b : Nat} (hb : b ≤ base) : NRow w b A c xs := by
  obtain ⟨hl, hn | ⟨g, cap, cur, hv, hg, rest⟩⟩ := h
  · exact ⟨hl, .inl hn⟩
  · exact ⟨hl, .inr ⟨g, cap, cur, hv, by omega, rest⟩⟩
theorem NRow.sl (h : NRow w base A c xs) : Sl 1 w A xs.length c (ints .i64 xs) := Sl.of_own h
end
end Go.Proofs.Ytcefjnjlcpkanaa

namespace Go.Proofs.Ytcefjnjlcpkanaa

/-- The ratio may be. -/
def mayB (n d : Int) : Bool := decide (-2147483647 ≤ n ∧ n ≤ 2147483647 ∧ 1 ≤ d ∧ d ≤ 2147483647 ∧ Int.gcd n d = 1)
/-- What Make tells: the error, and the two parts. -/
def mkC (n d : Int) : Int := if d ≤ 0 then 20 else if -2147483647 ≤ n / (Int.gcd n d : Int) ∧ n / (Int.gcd n d : Int) ≤ 2147483647 ∧ d / (Int.gcd n d : Int) ≤ 2147483647 then 0 else 10
def mkN (n d : Int) : Int := if mkC n d = 0 then n / (Int.gcd n d : Int) else 0
def mkD (n d : Int) : Int := if mkC n d = 0 then d / (Int.gcd n d : Int) else 0

theorem gcd_pos' {n d : Int} (h : 0 < d) : 0 < (Int.gcd n d : Int) := by
  have : 0 < Int.gcd n d := Int.gcd_pos_of_ne_zero_right n (by omega)
  omega
theorem gcd_n (n d : Int) : (Int.gcd n d : Int) * (n / (Int.gcd n d : Int)) = n := Int.mul_ediv_cancel' (Int.gcd_dvd_left n d)
theorem gcd_d (n d : Int) : (Int.gcd n d : Int) * (d / (Int.gcd n d : Int)) = d := Int.mul_ediv_cancel' (Int.gcd_dvd_right n d)
theorem low_d {n d : Int} (h : 0 < d) : 0 < d / (Int.gcd n d : Int) := by
  have h1 := gcd_d n d
  have h2 := gcd_pos' (n := n) h
  generalize hq : d / (Int.gcd n d : Int) = q at *
  generalize (Int.gcd n d : Int) = g at *
  rcases Int.lt_or_le 0 q with h3 | h3
  · exact h3
  · exfalso
    have : g * q ≤ g * 0 := Int.mul_le_mul_of_nonneg_left h3 (by omega)
    omega
theorem low_gcd {n d : Int} (h : 0 < d) : Int.gcd (n / (Int.gcd n d : Int)) (d / (Int.gcd n d : Int)) = 1 := by
  have h0 : 0 < Int.gcd n d := Int.gcd_pos_of_ne_zero_right n (by omega)
  rw [Int.gcd_ediv (Int.gcd_dvd_left n d) (Int.gcd_dvd_right n d)]
  simp
  exact Nat.div_self h0

theorem mkC_pos {n d : Int} (h : mkC n d = 0) : 0 < d := by
  unfold mkC at h
  split at h
  · omega
  · omega
theorem mk_may {n d : Int} (h : mkC n d = 0) : mayB (mkN n d) (mkD n d) = true := by
  have hd := mkC_pos h
  unfold mayB mkN mkD
  rw [if_pos h, if_pos h]
  have h' := h
  unfold mkC at h'
  rw [if_neg (by omega)] at h'
  split at h'
  · rename_i hb
    have := low_d (n := n) hd
    exact decide_eq_true ⟨hb.1, hb.2.1, by omega, hb.2.2, low_gcd hd⟩
  · omega
theorem mk_bad {n d : Int} (h : mkC n d ≠ 0) : mkN n d = 0 ∧ mkD n d = 0 := by
  unfold mkN mkD
  rw [if_neg h, if_neg h]
  exact ⟨rfl, rfl⟩
theorem may_bd {n d : Int} (h : mayB n d = true) : -2147483647 ≤ n ∧ n ≤ 2147483647 ∧ 1 ≤ d ∧ d ≤ 2147483647 ∧ Int.gcd n d = 1 := of_decide_eq_true h

theorem dvd_low {k n m : Int} (h : k ∣ n * m) (hg : Int.gcd k n = 1) : k ∣ m := by
  have h1 := Int.dvd_gcd_mul_iff_dvd_mul.2 h
  rw [hg] at h1
  simpa using h1
/-- What is as much, in lowest terms, is one. -/
theorem low_unique {x y p q : Int} (hy : 0 < y) (hq : 0 < q) (h1 : Int.gcd x y = 1) (h2 : Int.gcd p q = 1) (h : x * q = p * y) : x = p ∧ y = q := by
  have d1 : y ∣ q := by
    have : y ∣ x * q := ⟨p, by rw [h, Int.mul_comm]⟩
    exact dvd_low this (by rw [Int.gcd_comm]; exact h1)
  have d2 : q ∣ y := by
    have : q ∣ p * y := ⟨x, by rw [← h, Int.mul_comm]⟩
    exact dvd_low this (by rw [Int.gcd_comm]; exact h2)
  have e : y = q := Int.dvd_antisymm (by omega) (by omega) d1 d2
  subst e
  exact ⟨Int.eq_of_mul_eq_mul_right (by omega) h, rfl⟩

/-- A ratio that may be, and is as much as n through d, is what is told. -/
theorem mk_of {x y n d : Int} (hm : mayB x y = true) (hd : 0 < d) (h : x * d = n * y) : mkC n d = 0 ∧ mkN n d = x ∧ mkD n d = y := by
  obtain ⟨b1, b2, b3, b4, b5⟩ := may_bd hm
  have g1 := gcd_n n d
  have g2 := gcd_d n d
  have g3 := gcd_pos' (n := n) hd
  have g4 := low_gcd (n := n) hd
  have g5 := low_d (n := n) hd
  have hx : x * (d / (Int.gcd n d : Int)) = (n / (Int.gcd n d : Int)) * y := by
    generalize d / (Int.gcd n d : Int) = q at *
    generalize n / (Int.gcd n d : Int) = p at *
    generalize (Int.gcd n d : Int) = g at *
    rw [← g1, ← g2] at h
    have : g * (x * q) = g * (p * y) := by rw [Int.mul_left_comm, h, Int.mul_assoc]
    exact Int.eq_of_mul_eq_mul_left (by omega) this
  obtain ⟨e1, e2⟩ := low_unique (by omega) g5 b5 g4 hx
  have hc : mkC n d = 0 := by
    unfold mkC
    rw [if_neg (by omega), ← e1, ← e2, if_pos ⟨b1, b2, b4⟩]
  refine ⟨hc, ?_, ?_⟩
  · unfold mkN; rw [if_pos hc, ← e1]
  · unfold mkD; rw [if_pos hc, ← e2]
theorem mk_self {x y : Int} (hm : mayB x y = true) : mkC x y = 0 ∧ mkN x y = x ∧ mkD x y = y := mk_of hm (by have := may_bd hm; omega) rfl
end Go.Proofs.Ytcefjnjlcpkanaa

namespace Go.Proofs.Ytcefjnjlcpkanaa
set_option linter.unusedVariables false
set_option linter.unusedSimpArgs false

/-- A setup: its lists as rows of numbers. -/
structure SetP where
  places : Int
  ways : Rows2
  pn : Int
  pd : Int
  elements : Rows2
  classes : Rows2
  gears : Rows2
  allow : Int
  unit : Int
  cap : Int
  paid : Int
  aft : Int
  brk : Int
  reg : Int
  over : Int
  week : Int
  nfrom : Int
  nto : Int
  rates : List Int
  diff : Int
  least : Int
  fault : Int
  tiers : Rows2
def SetP.none : SetP := ⟨0, [], 0, 0, [], [], [], 0, 0, 0, 0, 0, 0, 0, 0, 0, 0, 0, [], 0, 0, 0, []⟩
/-- Its rows are as wide as they should. -/
structure SetP.Wide (s : SetP) : Prop where
  ways : ∀ r ∈ s.ways, r.length = 3
  elements : ∀ r ∈ s.elements, r.length = 4
  classes : ∀ r ∈ s.classes, r.length = 2
  gears : ∀ r ∈ s.gears, r.length = 2
  tiers : ∀ r ∈ s.tiers, r.length = 2
theorem flat_ones : ∀ l : List Int, (l.map fun n => [n]).flatten = l
  | [] => rfl
  | n :: l => by simp [flat_ones l]
/-! ### Which may be -/
def shareB (n d : Int) : Bool := mayB n d && decide (0 ≤ n)
def wayP (p : Int) (r : List Int) : Prop := 0 ≤ r.getD 0 0 ∧ 0 ≤ r.getD 1 0 ∧ r.getD 0 0 < p ∧ r.getD 1 0 < p ∧ r.getD 0 0 ≠ r.getD 1 0 ∧ 1 ≤ r.getD 2 0 ∧ r.getD 2 0 ≤ 10000
def eleP (r : List Int) : Prop := shareB (r.getD 0 0) (r.getD 1 0) = true ∧ shareB (r.getD 2 0) (r.getD 3 0) = true
def ratP (r : List Int) : Prop := shareB (r.getD 0 0) (r.getD 1 0) = true
def rateP (n : Int) : Prop := 0 ≤ n ∧ n ≤ 100000
def tierP (l : Rows2) (i : Nat) : Prop := 0 ≤ (l.getD i []).getD 0 0 ∧ (l.getD i []).getD 0 0 ≤ 1000 ∧ 0 ≤ (l.getD i []).getD 1 0 ∧ (l.getD i []).getD 1 0 ≤ 100000 ∧ (0 < i → (l.getD (i - 1) []).getD 0 0 < (l.getD i []).getD 0 0)
structure SetP.May (s : SetP) : Prop where
  places : 1 ≤ s.places ∧ s.places ≤ 16
  ways : s.ways.length ≤ 64 ∧ ∀ r ∈ s.ways, wayP s.places r
  pace : shareB s.pn s.pd = true
  elements : s.elements.length ≤ 8 ∧ ∀ r ∈ s.elements, eleP r
  classes : s.classes.length ≤ 8 ∧ ∀ r ∈ s.classes, ratP r
  gears : s.gears.length ≤ 8 ∧ ∀ r ∈ s.gears, ratP r
  allow : 0 ≤ s.allow ∧ s.allow ≤ 100
  unit : 1 ≤ s.unit ∧ s.unit ≤ 3600
  cap : 60 ≤ s.cap ∧ s.cap ≤ 57600
  paid : 0 ≤ s.paid ∧ s.paid ≤ 86400
  aft : 0 ≤ s.aft ∧ s.aft ≤ 86400
  brk : 0 ≤ s.brk ∧ s.brk ≤ 86400
  nfrom : 0 ≤ s.nfrom ∧ s.nfrom ≤ 86400
  nto : 0 ≤ s.nto ∧ s.nto ≤ 86400
  fault : 0 ≤ s.fault ∧ s.fault ≤ 86400
  reg : 0 ≤ s.reg ∧ s.reg ≤ s.over
  over : s.over ≤ 86400
  week : 0 ≤ s.week ∧ s.week ≤ 604800
  rates : 1 ≤ s.rates.length ∧ s.rates.length ≤ 16 ∧ ∀ n ∈ s.rates, rateP n
  diff : 0 ≤ s.diff ∧ s.diff ≤ 100000
  least : 0 ≤ s.least ∧ s.least ≤ 100000
  tiers : s.tiers.length ≤ 8 ∧ ∀ i, i < s.tiers.length → tierP s.tiers i
/-! ### As bytes -/
/-! ### Read -/
end Go.Proofs.Ytcefjnjlcpkanaa

namespace Go.Proofs.Ytcefjnjlcpkanaa
set_option linter.unusedVariables false
set_option linter.unusedSimpArgs false

theorem rows_len {k : Nat} : ∀ (t : Rows2), (∀ r ∈ t, r.length = k) → t.flatten.length = k * t.length
  | [], _ => by simp
  | r :: t, h => by
    have h1 := rows_len t (fun q hq => h q (by simp [hq]))
    have h2 := h r (by simp)
    rw [List.flatten_cons, List.length_append, h1, h2, List.length_cons, Nat.mul_add]
    omega
theorem rows_get {k : Nat} : ∀ (t : Rows2), (∀ r ∈ t, r.length = k) → ∀ i j, i < t.length → j < k → ∀ v : List Int, (t.flatten ++ v).getD (k * i + j) 0 = (t.getD i []).getD j 0
  | [], _, i, j, hi, _, v => by simp at hi
  | r :: t, h, i, j, hi, hj, v => by
    have h2 := h r (by simp)
    rw [List.flatten_cons, List.append_assoc]
    rcases i with _ | i
    · rw [Nat.mul_zero, Nat.zero_add, List.getD_eq_getElem?_getD, List.getElem?_append_left (by omega)]
      simp [List.getD]
    · have h3 := rows_get t (fun q hq => h q (by simp [hq])) i j (by simpa using hi) hj v
      rw [List.getD_eq_getElem?_getD, List.getElem?_append_right (by rw [h2, Nat.mul_add]; omega), h2, show k * (i + 1) + j - k = k * i + j by rw [Nat.mul_add]; omega, ← List.getD_eq_getElem?_getD, h3]
      simp [List.getD]
end Go.Proofs.Ytcefjnjlcpkanaa

namespace Go.Proofs.Ytcefjnjlcpkanaa
open Go.RowKit
set_option linter.unusedVariables false
set_option maxRecDepth 20000

theorem wrapi_id {a : Int} (h0 : -9223372036854775808 ≤ a) (h1 : a < 9223372036854775808) : IntKind.i64.wrap a = a := by
  simp [IntKind.wrap, IntKind.bits, IntKind.signed]
  split <;> omega
end Go.Proofs.Ytcefjnjlcpkanaa
