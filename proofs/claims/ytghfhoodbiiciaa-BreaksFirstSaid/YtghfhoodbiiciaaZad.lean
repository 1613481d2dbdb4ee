/-
  event.own: the map that tells where an event's own numbers stand, whatever order it was filled in.
  Slices of numbers as lists; new slices of bytes made with room. Over any program.
  What event.own tells of a kind: pointers to that kind's own numbers.
  Rows of events: a copy, and the library's insertion sort.
  Slices of numbers of the call's own: append.
  event.Take's closure: numbers taken off the bytes that are left, each laid at its place.
  event.Take: the event that bytes begin with.
  What a call may change: blocks that are kept, and blocks that may change. Over any program.
  Seconds by night: no program here.
  Slices of spans in memory: one that is read ('Spans'), one of the call's own ('Row'); what an append, and a store, make of it.
  Package pack, and the document's own answers, each in one form: whatever is answered.
  Sessions: what a worker's events, gone through one by one, are made of: items, parts, flags. No program here.
-/
import Derived.Test.YtghfhoodbiiciaaZac
import Derived.Test.YtghfhoodbiiciaaZaa
import Derived.RegionTactic
import Derived.Lib.Hide
import Derived.Test.YtghfhoodbiiciaaZab
import Derived.Laws.Cover1
import Derived.OpenShut
import Derived.Sort.Grow
import Derived.Sort.LotA
import Derived.Test.YtghfhoodbiiciaaProg
import Derived.Shelf.Abstract
import Derived.Lib.SliceRun
import Derived.IntWalk
import Derived.WalkKit
import Derived.WalkLawsBesides
import Derived.WalkMore
import Derived.ScopeJumps
import Derived.Laws.Slices
import Derived.StillTailTactics
import Derived.Laws.Tables
import Derived.Laws.CopyOwn
import Derived.Lib.SlBytesConst
namespace Go.Proofs.Ytghfhoodbiiciaa
open Go.RowKit
set_option linter.unusedVariables false
set_option linter.unusedSimpArgs false

/-- Places in a block. -/
def ptrV (b i : Nat) : Value := .pointer (some ⟨b, i, none⟩)
def nilV : Value := .slice none 0 0
/-- What the map tells, as far as it is filled. -/
def mapF (b1 b2 b3 b4 b5 b6 b7 : Bool) (x y : Value) : Int → Option Value := fun i =>
  if i = 1 then (if b1 then some nilV else none) else if i = 2 then (if b2 then some nilV else none) else if i = 3 then (if b3 then some x else none) else if i = 4 then (if b4 then some y else none) else
  if i = 5 then (if b5 then some nilV else none) else if i = 6 then (if b6 then some nilV else none) else if i = 7 then (if b7 then some nilV else none) else none
def ptrs6 (b : Nat) : Array Value := #[ptrV b 4, ptrV b 5, ptrV b 6, ptrV b 7, ptrV b 8, ptrV b 9]
def ptrs1 (b : Nat) : Array Value := #[ptrV b 10]
/-- A slot that holds a new slice over the cells cs. -/
def NewSl (W : World) (v : Value) (n : Nat) (cs : Array Value) (w : World) : Prop := ∃ g, v = .slice (some ⟨g, 0, none⟩) n n ∧ W.heap.size ≤ g ∧ Has w g cs
section
variable {W w w' : World} {v : Value} {n : Nat} {cs : Array Value}
theorem NewSl.below (h : NewSl W v n cs w) (hb : Below w.heap.size w w') : NewSl W v n cs w' := by
  obtain ⟨g, e, hg, h⟩ := h
  exact ⟨g, e, hg, h.below hb⟩
theorem NewSl.alloc (h : NewSl W v n cs w) (o : Obj) : NewSl W v n cs (w.alloc o) := by
  obtain ⟨g, e, hg, h⟩ := h
  exact ⟨g, e, hg, h.alloc o⟩
end
/-- A slot that holds a map of the call's own, which tells f. -/
def NewMap (W : World) (v : Value) (k : Nat) (f : Int → Option Value) (w : World) : Prop := ∃ m n, v = .map (some m) ∧ W.heap.size ≤ m ∧ n ≤ k ∧ MapI w m n f
/-- What stands while the map is filled: b tells of each operation whether it has come up. -/

structure OwnW (W : World) (g : Nat) (v0 x y v31 v32 : Value) (b0 b1 b2 b21 b22 b26 b27 b28 b29 b30 b31 b32 : Bool) (w : World) : Prop where
  bel : Below W.heap.size W w
  sx : b21 = true → NewSl W x 6 (ptrs6 g) w
  sy : b26 = true → NewSl W y 1 (ptrs1 g) w
  mp : b0 = true → NewMap W v0 (b1.toNat + b2.toNat + b22.toNat + b27.toNat + b28.toNat + b29.toNat + b30.toNat) (mapF b1 b2 b22 b27 b28 b29 b30 x y) w
  u3 : b21 = false → b22 = false
  u4 : b26 = false → b27 = false
  u0 : b0 = false → b1 = false ∧ b2 = false ∧ b22 = false ∧ b27 = false ∧ b28 = false ∧ b29 = false ∧ b30 = false ∧ b31 = false ∧ b32 = false
  u1 : b31 = true → v31 = v0
  u2 : b32 = true → v32 = v0
/-- What own tells. -/
def OwnMap (W : World) (g : Nat) (e : Ending) (w : World) : Prop :=
  ∃ m n p q, e = .returned (.map (some m)) ∧ Below W.heap.size W w ∧ W.heap.size ≤ m ∧ W.heap.size ≤ p ∧ W.heap.size ≤ q ∧ Has w p (ptrs6 g) ∧ Has w q (ptrs1 g) ∧
    MapI w m n (mapF true true true true true true true (.slice (some ⟨p, 0, none⟩) 6 6) (.slice (some ⟨q, 0, none⟩) 1 1))
theorem OwnW.out {W w : World} {g : Nat} {v0 x y v31 v32 : Value} (h : OwnW W g v0 x y v31 v32 true true true true true true true true true true true true w) : OwnMap W g (.returned v32) w := by
  obtain ⟨m, n, e0, hm, hn, hM⟩ := h.mp rfl
  obtain ⟨p, ex, hp, hP⟩ := h.sx rfl
  obtain ⟨q, ey, hq, hQ⟩ := h.sy rfl
  have e2 := h.u2 rfl
  subst e0 ex ey e2
  exact ⟨m, n, p, q, rfl, h.bel, hm, hp, hq, hP, hQ, hM⟩
end Go.Proofs.Ytghfhoodbiiciaa

namespace Go.Proofs.Ytghfhoodbiiciaa
open Go.RowKit
set_option linter.unusedVariables false

/-- A slice value over A reads as the numbers zs. -/
def Nums (w : World) (A : Option Addr) (zs : List Int) : Prop :=
  ∀ k, k < zs.length → ∃ b off, A = some ⟨b, off, none⟩ ∧ w.cell? ⟨b, off + k, none⟩ = some (.int .i64 (zs.getD k 0))
section
variable {w w' : World} {A : Option Addr} {zs : List Int}
theorem Nums.keep (h : Nums w A zs) (hk : ∀ p : Addr, p.block < w.heap.size → w'.cell? p = w.cell? p) : Nums w' A zs := by
  intro k hl
  obtain ⟨b, off, e, hc⟩ := h k hl
  exact ⟨b, off, e, (hk _ (cell_lt hc)).trans hc⟩
theorem Nums.below (h : Nums w A zs) (hb : Below w.heap.size w w') : Nums w' A zs := h.keep fun _ hp => hb.cell hp
theorem Nums.alloc (h : Nums w A zs) (o : Obj) : Nums (w.alloc o) A zs := h.keep fun p hp => World.cell?_alloc_lt w o p hp
theorem Nums.drew (h : Nums w A zs) : Nums w.drew A zs := h
theorem Nums.nil_ : Nums w A [] := fun k h => by simp at h
end
theorem nums_of_sl {w : World} {A : Option Addr} {n c : Nat} {zs : List Int} (h : Sl 1 w A n c (ints .i64 zs)) : Nums w A zs := by
  intro k hk
  obtain ⟨hl, ⟨_, rfl, _⟩ | ⟨ad, rfl, hc⟩⟩ := h
  · simp [ints] at hl
    subst hl
    simp at hk
  · have hk' := hc k (.int .i64 (zs.getD k 0)) (by simp [ints, List.getD, hk])
    obtain ⟨b, off, sp⟩ := ad
    have h0 := hc 0 (.int .i64 (zs.getD 0 0)) (by simp [ints, List.getD, show 0 < zs.length by omega])
    have hsp : sp = none := by simpa [Addr.add] using World.cell?_spot h0
    subst hsp
    refine ⟨b, off, rfl, ?_⟩
    have e : (⟨b, off, none⟩ : Addr).add k = ⟨b, off + k, none⟩ := by unfold Addr.add; split <;> simp_all
    rw [← e]
    exact hk'
/-- What came in as a slice of numbers. -/
theorem nums_of_row {w : World} {a : Option Addr} {len cap : Nat} {zs : List Int} (h : IsRow .i64 w a len cap zs) :
    ∃ l : List Int, l.length = len ∧ Nums w a l ∧ len ≤ 9223372036854775807 ∧ ∀ z ∈ l, -9223372036854775808 ≤ z ∧ z ≤ 9223372036854775807 := by
  obtain ⟨s, hl, hm, hw⟩ := sl_of_row h
  exact ⟨zs.take len, hl, nums_of_sl s, hm, fun z hz => bounds_i64 (hw z hz)⟩
end Go.Proofs.Ytghfhoodbiiciaa

namespace Go.Proofs.Ytghfhoodbiiciaa
open Go.RowKit
set_option linter.unusedVariables false
set_option linter.unusedSimpArgs false

/-- A slice value over A reads as pointers into block g, at the places L. -/
def EPtrs (w : World) (A : Option Addr) (g : Nat) (L : List Nat) : Prop := ∀ k, k < L.length → ∃ b off, A = some ⟨b, off, none⟩ ∧ w.cell? ⟨b, off + k, none⟩ = some (ptrV g (L.getD k 0))
section
variable {w w' : World} {A : Option Addr} {g : Nat} {L : List Nat}
theorem EPtrs.keep (h : EPtrs w A g L) (hk : ∀ p : Addr, p.block < w.heap.size → w'.cell? p = w.cell? p) : EPtrs w' A g L := by
  intro k hl
  obtain ⟨b, off, e, hc⟩ := h k hl
  exact ⟨b, off, e, (hk _ (cell_lt hc)).trans hc⟩
theorem EPtrs.below (h : EPtrs w A g L) (hb : Below w.heap.size w w') : EPtrs w' A g L := h.keep fun _ hp => hb.cell hp
theorem EPtrs.alloc (h : EPtrs w A g L) (o : Obj) : EPtrs (w.alloc o) A g L := h.keep fun p hp => World.cell?_alloc_lt w o p hp
/-- .. and lies at B or behind. -/
def EPtrsN (B : Nat) (w : World) (A : Option Addr) (g : Nat) (L : List Nat) : Prop := ∀ k, k < L.length → ∃ b off, A = some ⟨b, off, none⟩ ∧ B ≤ b ∧ b < w.heap.size ∧ w.cell? ⟨b, off + k, none⟩ = some (ptrV g (L.getD k 0))
theorem EPtrsN.keep {B : Nat} (h : EPtrsN B w A g L) (hs : w.heap.size ≤ w'.heap.size) (hk : ∀ p : Addr, B ≤ p.block → p.block < w.heap.size → w'.cell? p = w.cell? p) : EPtrsN B w' A g L := by
  intro k hl
  obtain ⟨b, off, e, hB, hlt, hc⟩ := h k hl
  exact ⟨b, off, e, hB, by omega, (hk _ hB hlt).trans hc⟩
theorem EPtrsN.below {B : Nat} (h : EPtrsN B w A g L) (hb : Below w.heap.size w w') : EPtrsN B w' A g L := h.keep hb.size fun _ _ hp => hb.cell hp
end
/-! ### an event's numbers as a list -/
end Go.Proofs.Ytghfhoodbiiciaa

namespace Go.Proofs.Ytghfhoodbiiciaa
open Go.RowKit Go.Sort
set_option linter.unusedVariables false
set_option linter.unusedSimpArgs false
set_option maxRecDepth 20000


def encE (e : EvP) : List Value := (evC e).toList
/-- An event's numbers, as a list. -/
theorem encE_L (e : EvP) : encE e = ints .i64 (evLs e) := rfl
/-- The slice value reads as the events l. -/
def Evs (w : World) (A : Option Addr) (n c : Nat) (l : List EvP) : Prop := Sl 11 w A n c (ints .i64 (l.map evLs).flatten) ∧ l.length = n
theorem evs_wide (l : List EvP) : ∀ r ∈ l.map evLs, r.length = 11 := by
  intro r hr
  obtain ⟨e, _, rfl⟩ := List.mem_map.1 hr
  rfl
theorem evs_cell (l : List EvP) {t : Nat} (ht : t < l.length * 11) : (ints .i64 (l.map evLs).flatten)[t]? = some ((encE (l.getD (t / 11) EvP.none)).getD (t % 11) undef) := by
  have hi : t / 11 < l.length := by omega
  have hj : t % 11 < 11 := Nat.mod_lt _ (by omega)
  have h1 := rows_get (l.map evLs) (evs_wide l) (t / 11) (t % 11) (by simpa using hi) hj []
  rw [List.append_nil, Nat.div_add_mod] at h1
  have hlen := rows_len (l.map evLs) (evs_wide l)
  rw [List.length_map] at hlen
  have hlt : t < (l.map evLs).flatten.length := by omega
  rw [ints, List.getElem?_map, List.getElem?_eq_getElem hlt, Option.map_some]
  rw [List.getD_eq_getElem?_getD, List.getElem?_eq_getElem hlt, Option.getD_some] at h1
  rw [h1, encE_L]
  have e1 : (l.map evLs).getD (t / 11) [] = evLs (l.getD (t / 11) EvP.none) := by simp [List.getD, hi]
  rw [e1]
  generalize l.getD (t / 11) EvP.none = x
  have hj2 : t % 11 < (evLs x).length := hj
  simp [ints, List.getD, hj2]
theorem Evs.below {w w' : World} {A : Option Addr} {n c : Nat} {l : List EvP} (h : Evs w A n c l) (hb : Below w.heap.size w w') : Evs w' A n c l := ⟨h.1.below hb, h.2⟩
theorem Evs.cell {w : World} {b off n c : Nat} {l : List EvP} (h : Evs w (some ⟨b, off, none⟩) n c l) {i j : Nat} (hi : i < n) (hj : j < 11) : w.cell? ⟨b, off + i * 11 + j, none⟩ = some ((encE (l.getD i EvP.none)).getD j undef) := by
  obtain ⟨⟨hl, ⟨h0, _, _⟩ | ⟨ad, e, hc⟩⟩, hn⟩ := h
  · cases h0
  · injection e with e
    subst e hn
    have ht : i * 11 + j < l.length * 11 := by omega
    have := hc (i * 11 + j) _ (evs_cell l ht)
    rw [show (⟨b, off, none⟩ : Addr).add (i * 11 + j) = ⟨b, off + (i * 11 + j), none⟩ by unfold Addr.add; split <;> simp_all, ← Nat.add_assoc] at this
    rw [this, show (i * 11 + j) / 11 = i by omega, show (i * 11 + j) % 11 = j by omega]
theorem Evs.form {w : World} {A : Option Addr} {n c : Nat} {l : List EvP} (h : Evs w A n c l) (hn : 0 < n) : ∃ b off, A = some ⟨b, off, none⟩ := by
  obtain ⟨⟨hl, ⟨_, h0, _⟩ | ⟨ad, rfl, hc⟩⟩, hln⟩ := h
  · omega
  · have h0 := hc 0 _ (evs_cell l (by omega))
    obtain ⟨b, off, sp⟩ := ad
    have hsp : sp = none := by simpa [Addr.add] using World.cell?_spot h0
    subst hsp
    exact ⟨b, off, rfl⟩
end Go.Proofs.Ytghfhoodbiiciaa

namespace Go.Proofs.Ytghfhoodbiiciaa
open Go.RowKit
set_option linter.unusedVariables false

/-- A slice of the call's own, that lies at 'base' or behind, and holds the numbers xs. -/
def NRow (w : World) (base : Nat) (A : Option Addr) (c : Nat) (xs : List Int) : Prop :=
  w.ownsRow base 3 1 (.slice A xs.length c) xs.length (ints .i64 xs)
section
variable {w w' : World} {base c : Nat} {A : Option Addr} {xs : List Int}
theorem NRow.nil (w : World) (base : Nat) : NRow w base none 0 [] := World.ownsRow_nil w base _ _
theorem NRow.keep (h : NRow w base A c xs) (hk : ∀ g, A = some g → w'.heap[g.block]? = w.heap[g.block]?) : NRow w' base A c xs := by
  obtain ⟨hl, hn | ⟨g, cap, cur, hv, hg, hh, rest⟩⟩ := h
  · exact ⟨hl, .inl hn⟩
  · injection hv with e1 e2 e3
    subst e1
    exact ⟨hl, .inr ⟨g, cap, cur, by rw [e3], hg, (hk _ rfl).trans hh, rest⟩⟩
theorem NRow.lt (h : NRow w base A c xs) : ∀ g, A = some g → base ≤ g.block ∧ g.block < w.heap.size := by
  rintro g rfl
  exact World.ownsRow.lt h _ rfl
theorem NRow.below (h : NRow w base A c xs) (hb : Below w.heap.size w w') : NRow w' base A c xs :=
  h.keep fun g hg => hb.block _ (h.lt g hg).2
theorem NRow.alloc (h : NRow w base A c xs) (o : Obj) : NRow (w.alloc o) base A c xs := World.ownsRow.alloc h o
theorem NRow.drew (h : NRow w base A c xs) : NRow w.drew base A c xs := h
theorem NRow.mono (h : NRow w base A c xs) {b : Nat} (hb : b ≤ base) : NRow w b A c xs := by
  obtain ⟨hl, hn | ⟨g, cap, cur, hv, hg, rest⟩⟩ := h
  · exact ⟨hl, .inl hn⟩
  · exact ⟨hl, .inr ⟨g, cap, cur, hv, by omega, rest⟩⟩
theorem NRow.sl (h : NRow w base A c xs) : Sl 1 w A xs.length c (ints .i64 xs) := Sl.of_own h
theorem NRow.nums (h : NRow w base A c xs) : Nums w A xs := nums_of_sl h.sl
theorem NRow.cap_le (h : NRow w base A c xs) {n : Nat} (hn : xs.length = n) : n ≤ c := by
  subst hn
  obtain ⟨hl, ⟨hv, hz⟩ | ⟨g, cap, cur, hv, hb, hh, hc, hm, _⟩⟩ := h
  · omega
  · injection hv with e1 e2 e3
    omega
theorem NRow.slAt (h : NRow w base A c xs) {n : Nat} (hn : xs.length = n) : Sl 1 w A n c (ints .i64 xs) := by
  subst hn
  exact h.sl
end
theorem int_info : (Try.prog.info? 3).map (fun i => (i.zero, i.size, i.bytes)) = some (some (.int .i64 0), 1, 8) := by kernel_rfl
theorem nrow_new (w : World) (ys : List Int) {k : Nat} (hk : ys.length = k) (hm : k ≤ 1000000) : NRow (w.alloc (.cells (ints .i64 ys).toArray 3)) w.heap.size (some ⟨w.heap.size, 0, none⟩) k ys := by
  subst hk
  exact own_new w 3 1 ys.length (ints .i64 ys).toArray (by simp [ints]) (by simp only [maxLen]; omega)
/-- An append of what a slice holds. -/
theorem nrow_append {w : World} {base c : Nat} {A : Option Addr} {xs : List Int} (h : NRow w base A c xs) {n : Nat} (hn : xs.length = n) {B : Option Addr} {d k : Nat} {ys : List Int} (hs : Sl 1 w B k d (ints .i64 ys)) (hk : ys.length = k) (hm : n + k ≤ 1000000000) (hbase : base ≤ w.heap.size) :
    ∃ A' c' w', (Builtin.append_ #[27, 27] 27 #[.slice A n c, .slice B k d]).run Try.prog w = .ok (.slice A' (n + k) c') w' ∧ NRow w' base A' c' (xs ++ ys) ∧
      (∀ a : World, a.heap.size ≤ base → Below a.heap.size a w → Below a.heap.size a w') := by
  subst hn hk
  obtain ⟨A', c', w', hr, ho, hg, hl⟩ := append_any (P := Try.prog) w base 27 27 3 _ 1 8 Try.underlying27 int_info rfl (by omega) h hs (ints_one .i64 ys) (xs.length + ys.length) rfl (ints .i64 (xs ++ ys)) (by simp [ints]) (by omega) (by omega) hbase
  refine ⟨A', c', w', hr, ?_, fun a ha hb => bel_grown hb h ha hg⟩
  unfold NRow
  rw [List.length_append]
  exact ho
/-- An append of numbers that are laid for it. -/
theorem nrow_lay {w : World} {base c : Nat} {A : Option Addr} {xs ys : List Int} (h : NRow w base A c xs) {n : Nat} (hn : xs.length = n) {k : Nat} (hk : ys.length = k) (hm : n + k ≤ 1000000000) (hbase : base ≤ w.heap.size) {s : Nat} (hs : w.heap.size = s) :
    ∃ A' c' w', (Builtin.append_ #[27, 27] 27 #[.slice A n c, .slice (some ⟨s, 0, none⟩) k k]).run Try.prog (w.alloc (.cells (ints .i64 ys).toArray 3)) = .ok (.slice A' (n + k) c') w' ∧ NRow w' base A' c' (xs ++ ys) ∧
      (∀ a : World, a.heap.size ≤ base → Below a.heap.size a w → Below a.heap.size a w') := by
  subst hk hs
  obtain ⟨A', c', w', h1, h2, h3⟩ := nrow_append (h.alloc (.cells (ints .i64 ys).toArray 3)) hn (Sl.of_own (own_new w 3 1 ys.length (ints .i64 ys).toArray (by simp [ints]) (by simp only [maxLen]; omega))) rfl hm (by simp; omega)
  exact ⟨A', c', w', h1, h2, fun a ha hb => h3 a ha (hb.alloc hb.size _)⟩
end Go.Proofs.Ytghfhoodbiiciaa

namespace Go.Proofs.Ytghfhoodbiiciaa
open Go.RowKit
set_option linter.unusedVariables false
set_option linter.unusedSimpArgs false

/-- What the closure keeps: block g is the event, block R what is left of the bytes. -/
def TakeW (W : World) (g R : Nat) (zs : List Int) (r : List (BitVec 8)) (w : World) : Prop :=
  Below W.heap.size W w ∧ Has w g (ints .i64 zs).toArray ∧ ∃ A c, Has w R #[.slice A r.length c] ∧ Sl 1 W A r.length c (bytesV r) ∧ r.length ≤ c
theorem TakeW.below {W : World} {g R : Nat} {zs : List Int} {r : List (BitVec 8)} {w w' : World} (h : TakeW W g R zs r w) (hb : Below w.heap.size w w') : TakeW W g R zs r w' := by
  obtain ⟨h1, h2, A, c, h3, h4, h5⟩ := h
  exact ⟨bel_on h1 hb, h2.below hb, A, c, h3.below hb, h4, h5⟩
end Go.Proofs.Ytghfhoodbiiciaa

namespace Go.Proofs.Ytghfhoodbiiciaa
open Go.RowKit
set_option linter.unusedVariables false
set_option linter.unusedSimpArgs false
set_option maxRecDepth 20000

theorem TakeW.alloc {W : World} {g R : Nat} {zs : List Int} {r : List (BitVec 8)} {w : World} (h : TakeW W g R zs r w) (o : Obj) : TakeW W g R zs r (w.alloc o) := by
  obtain ⟨h1, h2, A, c, h3, h4, h5⟩ := h
  exact ⟨bel_alloc h1 _, h2.alloc _, A, c, h3.alloc _, h4, h5⟩
end Go.Proofs.Ytghfhoodbiiciaa

namespace Go.Proofs.Ytghfhoodbiiciaa
open Go.RowKit
set_option linter.unusedVariables false
set_option linter.unusedSimpArgs false

/-- What stood at the blocks F is as it was. -/
structure Kept (F : Nat → Prop) (w w' : World) : Prop where
  os : w'.os = w.os
  tape : w'.tape = w.tape
  output : w'.output = w.output
  size : w.heap.size ≤ w'.heap.size
  block : ∀ b, F b → w'.heap[b]? = w.heap[b]?
theorem Kept.refl (F : Nat → Prop) (w : World) : Kept F w w := ⟨rfl, rfl, rfl, Nat.le_refl _, fun _ _ => rfl⟩
section
variable {F G : Nat → Prop} {a b c w w' : World}
theorem Kept.on (h : Kept F a b) (k : Kept F b c) : Kept F a c :=
  ⟨k.os.trans h.os, k.tape.trans h.tape, k.output.trans h.output, Nat.le_trans h.size k.size, fun i hi => (k.block i hi).trans (h.block i hi)⟩
theorem Kept.less (h : Kept F a b) (hF : ∀ i, G i → F i) : Kept G a b := ⟨h.os, h.tape, h.output, h.size, fun i hi => h.block i (hF i hi)⟩
theorem Kept.of_below (h : Below w.heap.size w w') (hF : ∀ i, F i → i < w.heap.size) : Kept F w w' := ⟨h.os, h.tape, h.output, h.size, fun i hi => h.block i (hF i hi)⟩
theorem Kept.below {B : Nat} (h : Kept F a b) (hF : ∀ i, i < B → F i) : Below B a b := ⟨h.os, h.tape, h.output, h.size, fun i hi => h.block i (hF i hi)⟩
end
/-- All that stood is as it was, but for the blocks M. -/
def Chg (M : Nat → Prop) (w w' : World) : Prop := Kept (fun b => b < w.heap.size ∧ ¬ M b) w w'
section
variable {M : Nat → Prop} {a w w' : World}
theorem Chg.refl (M : Nat → Prop) (w : World) : Chg M w w := Kept.refl _ _
theorem Chg.size (h : Chg M w w') : w.heap.size ≤ w'.heap.size := Kept.size h
theorem Chg.on (h : Chg M a w) (k : Chg M w w') : Chg M a w' :=
  Kept.on h (Kept.less k fun i hi => ⟨Nat.lt_of_lt_of_le hi.1 (Kept.size h), hi.2⟩)
theorem Chg.of_below (h : Below w.heap.size w w') : Chg M w w' := Kept.of_below h fun _ hi => hi.1
theorem Chg.onB (h : Chg M a w) (k : Below w.heap.size w w') : Chg M a w' := h.on (.of_below k)
theorem Chg.alloc (h : Chg M a w) (o : Obj) : Chg M a (w.alloc o) := h.onB (bel_alloc (Below.refl _ _) _)
theorem Chg.none (h : Chg (fun _ => False) a w) : Below a.heap.size a w := Kept.below h fun _ hi => ⟨hi, fun x => x⟩
theorem Chg.below {B : Nat} (h : Chg M a w) (hB : B ≤ a.heap.size) (hM : ∀ i, M i → B ≤ i) : Below B a w := Kept.below h fun i hi => ⟨by omega, fun x => by have := hM i x; omega⟩
theorem Chg.set (h : Chg M a w) {p : Addr} (hp : a.heap.size ≤ p.block ∨ M p.block) (v : Value) : Chg M a (w.setCell p v) := by
  refine ⟨h.os, h.tape, h.output, ?_, fun b hb => ?_⟩
  · have := Kept.size h
    simp [World.setCell]
    exact this
  · rw [Below.heap_setCell w p v b (by rintro rfl; rcases hp with hp | hp; omega; exact hb.2 hp)]
    exact Kept.block h b hb
theorem Has.chg {g : Nat} {cs : Array Value} (h : Has w g cs) (hM : ¬ M g) (k : Chg M w w') : Has w' g cs := by
  have hl := h.size
  obtain ⟨t, h⟩ := h
  exact ⟨t, (Kept.block k g ⟨hl, hM⟩).trans h⟩
theorem Has.kept {F : Nat → Prop} {g : Nat} {cs : Array Value} (h : Has w g cs) (hF : F g) (k : Kept F w w') : Has w' g cs := by
  obtain ⟨t, h⟩ := h
  exact ⟨t, (k.block g hF).trans h⟩
theorem sl_blocks {size m c : Nat} {A : Option Addr} {us : List Value} (h : Sl size w A m c us) (hk : ∀ ad, A = some ad → w'.heap[ad.block]? = w.heap[ad.block]?) : Sl size w' A m c us := by
  obtain ⟨hl, h | ⟨ad, rfl, hc⟩⟩ := h
  · exact ⟨hl, .inl h⟩
  · refine ⟨hl, .inr ⟨ad, rfl, fun j u hu => ?_⟩⟩
    rw [← hc j u hu]
    exact World.cell?_of_block (by rw [add_block]; exact hk ad rfl)
theorem Tab.blocks {k n c : Nat} {A : Option Addr} {t : Rows2} (h : Tab k w A n c t) (hk : ∀ ad, A = some ad → w'.heap[ad.block]? = w.heap[ad.block]?) : Tab k w' A n c t := ⟨sl_blocks h.sl hk, h.len, h.wide, h.small, h.cap, h.max⟩
end
/-- All below n. -/
def allP (p : Nat → Bool) (n : Nat) : Bool := (List.range n).all p
theorem allP_succ (p : Nat → Bool) (n : Nat) : allP p (n + 1) = (allP p n && p n) := by simp [allP, List.range_succ]
theorem allP_bad {p : Nat → Bool} {n i : Nat} (h : i < n) (hp : p i = false) : allP p n = false := by
  unfold allP
  rw [List.all_eq_false]
  exact ⟨i, List.mem_range.2 h, by rw [hp]; simp⟩
theorem allP_iff {p : Nat → Bool} {n : Nat} : allP p n = true ↔ ∀ i, i < n → p i = true := by simp [allP]
end Go.Proofs.Ytghfhoodbiiciaa

namespace Go.Proofs.Ytghfhoodbiiciaa
set_option linter.unusedVariables false
set_option linter.unusedSimpArgs false

/-- By night, of a night from f to g. -/
def nightP (f g t : Int) : Prop := if g < f then f ≤ t % 86400 ∨ t % 86400 < g else f ≤ t % 86400 ∧ t % 86400 < g
instance (f g t : Int) : Decidable (nightP f g t) := by unfold nightP; infer_instance
/-! ### Spans moved -/
/-! ### How many -/
end Go.Proofs.Ytghfhoodbiiciaa

namespace Go.Proofs.Ytghfhoodbiiciaa
open Go.RowKit
set_option linter.unusedVariables false

def cells2 (xs : List (Int × Int)) : List Value := xs.flatMap fun x => [.int .i64 x.1, .int .i64 x.2]
theorem cells2_len : ∀ xs : List (Int × Int), (cells2 xs).length = xs.length * 2
  | [] => rfl
  | x :: xs => by
    have := cells2_len xs
    simp only [cells2, List.flatMap_cons, List.length_append, List.length_cons, List.length_nil] at this ⊢
    omega
theorem cells2_append (xs ys : List (Int × Int)) : cells2 (xs ++ ys) = cells2 xs ++ cells2 ys := by simp [cells2]
theorem cells2_cons (x : Int × Int) (xs : List (Int × Int)) : cells2 (x :: xs) = .int .i64 x.1 :: .int .i64 x.2 :: cells2 xs := rfl
theorem cells2_get : ∀ (xs : List (Int × Int)) (k : Nat), k < xs.length → (cells2 xs)[k * 2]? = some (.int .i64 (xs.getD k (0, 0)).1) ∧ (cells2 xs)[k * 2 + 1]? = some (.int .i64 (xs.getD k (0, 0)).2)
  | [], k, h => by simp at h
  | x :: xs, 0, h => ⟨rfl, rfl⟩
  | x :: xs, k + 1, h => by
    have := cells2_get xs k (by simpa using h)
    rw [show (k + 1) * 2 = k * 2 + 1 + 1 by omega, cells2_cons]
    simp only [List.getElem?_cons_succ, List.getD_cons_succ]
    exact this
theorem cells2_one (xs : List (Int × Int)) : ∀ u ∈ cells2 xs, u.oneCell' = true := by
  intro u hu
  simp only [cells2, List.mem_flatMap] at hu
  obtain ⟨x, _, hx⟩ := hu
  rcases List.mem_cons.1 hx with rfl | hx
  · rfl
  · rw [List.mem_singleton.1 hx]; rfl
theorem cells2_set : ∀ (xs : List (Int × Int)) (k : Nat) (v : Int), k < xs.length → (cells2 xs).set (k * 2 + 1) (.int .i64 v) = cells2 (xs.set k ((xs.getD k (0, 0)).1, v))
  | [], k, v, h => by simp at h
  | x :: xs, 0, v, h => rfl
  | x :: xs, k + 1, v, h => by
    have := cells2_set xs k v (by simpa using h)
    rw [show (k + 1) * 2 + 1 = (k * 2 + 1) + 1 + 1 by omega, cells2_cons, List.set_cons_succ, List.set_cons_succ, this]
    rfl

/-- A number of 64 bits. -/
def Fit (n : Int) : Prop := -9223372036854775808 ≤ n ∧ n ≤ 9223372036854775807
def Fits (xs : List (Int × Int)) : Prop := ∀ x ∈ xs, Fit x.1 ∧ Fit x.2
theorem Fits.of_plain {xs : List (Int × Int)} (h : PlainFrom 0 xs) : Fits xs := fun x hx => by
  have := (plain_pairs.1 h).1 x hx
  exact ⟨⟨by omega, by omega⟩, ⟨by omega, by omega⟩⟩
theorem Fits.canon (p : Int → Prop) : Fits (canon p) := .of_plain (canon_plain p)
theorem Fits.append {xs ys : List (Int × Int)} (h : Fits xs) (k : Fits ys) : Fits (xs ++ ys) := fun x hx => (List.mem_append.1 hx).elim (h x) (k x)
theorem Fits.at {xs : List (Int × Int)} (h : Fits xs) {k : Nat} (hk : k < xs.length) : Fit (xs.getD k (0, 0)).1 ∧ Fit (xs.getD k (0, 0)).2 := h _ (by simp [List.getD, hk])
theorem Fits.nil : Fits [] := fun x hx => by cases hx

/-- A slice value over A reads as the spans xs. -/
def Spans (w : World) (A : Option Addr) (xs : List (Int × Int)) : Prop :=
  Fits xs ∧ ∀ k, k < xs.length → ∃ b off, A = some ⟨b, off, none⟩ ∧ b < w.heap.size ∧ w.cell? ⟨b, off + k * 2, none⟩ = some (.int .i64 (xs.getD k (0, 0)).1) ∧ w.cell? ⟨b, off + k * 2 + 1, none⟩ = some (.int .i64 (xs.getD k (0, 0)).2)
theorem Spans.below {w w' : World} {A : Option Addr} {xs : List (Int × Int)} (h : Spans w A xs) (hb : Below w.heap.size w w') : Spans w' A xs := by
  refine ⟨h.1, fun k hk => ?_⟩
  obtain ⟨b, off, e, h0, h1, h2⟩ := h.2 k hk
  exact ⟨b, off, e, Nat.lt_of_lt_of_le h0 hb.size, (hb.cell h0).trans h1, (hb.cell h0).trans h2⟩
theorem Spans.alloc {w : World} {A : Option Addr} {xs : List (Int × Int)} (h : Spans w A xs) (o : Obj) : Spans (w.alloc o) A xs := h.below ((Below.refl _ _).alloc (Nat.le_refl _) o)
theorem Spans.drewN {w : World} {A : Option Addr} {xs : List (Int × Int)} (h : Spans w A xs) (n : Nat) : Spans (w.drewN n) A xs := h.below (below_drewN (Below.refl _ _) n)
theorem Spans.drew {w : World} {A : Option Addr} {xs : List (Int × Int)} (h : Spans w A xs) : Spans w.drew A xs := h.below (below_drew (Below.refl _ _))
theorem Spans.nil (w : World) (A : Option Addr) : Spans w A [] := ⟨Fits.nil, fun k hk => by simp at hk⟩
theorem add_none {b off n : Nat} : (⟨b, off, none⟩ : Addr).add n = ⟨b, off + n, none⟩ := by unfold Addr.add; split <;> simp_all
theorem Spans.sl {w : World} {A : Option Addr} {xs : List (Int × Int)} {c : Nat} (h : Spans w A xs) (hc : A = none → c = 0) : Sl 2 w A xs.length c (cells2 xs) := by
  by_cases hne : xs = []
  · subst hne
    cases A with
    | none => exact ⟨rfl, .inl ⟨rfl, rfl, hc rfl⟩⟩
    | some ad => exact ⟨rfl, .inr ⟨ad, rfl, fun j u hu => by simp [cells2] at hu⟩⟩
  have hl : 0 < xs.length := List.length_pos_iff.2 hne
  obtain ⟨b, off, rfl, _⟩ := h.2 0 hl
  refine ⟨cells2_len xs, .inr ⟨_, rfl, fun j u hu => ?_⟩⟩
  have hj : j < xs.length * 2 := by
    rcases Nat.lt_or_ge j (xs.length * 2) with q | q
    · exact q
    · rw [List.getElem?_eq_none (by rw [cells2_len]; exact q)] at hu; cases hu
  obtain ⟨b', off', e, _, h1, h2⟩ := h.2 (j / 2) (by omega)
  obtain ⟨g1, g2⟩ := cells2_get xs (j / 2) (by omega)
  simp only [Option.some.injEq, Addr.mk.injEq, and_true] at e
  obtain ⟨rfl, rfl⟩ := e
  rw [add_none]
  rcases Nat.mod_two_eq_zero_or_one j with m | m
  · rw [show j / 2 * 2 = j by omega] at g1 h1
    rw [h1, ← hu, g1]
  · rw [show j / 2 * 2 + 1 = j by omega] at g2
    rw [Nat.add_assoc, show j / 2 * 2 + 1 = j by omega] at h2
    rw [h2, ← hu, g2]

/-- A slice of the call's own, that lies at 'base' or behind, and holds the spans xs. -/
def Row (w : World) (base : Nat) (A : Option Addr) (c : Nat) (xs : List (Int × Int)) : Prop :=
  w.ownsRow base 50 2 (.slice A xs.length c) xs.length (cells2 xs)
section
variable {w w' : World} {base c : Nat} {A : Option Addr} {xs : List (Int × Int)}
theorem Row.nil (w : World) (base : Nat) : Row w base none 0 [] := World.ownsRow_nil w base _ _
theorem Row.keep (h : Row w base A c xs) (hk : ∀ g, A = some g → w'.heap[g.block]? = w.heap[g.block]?) : Row w' base A c xs := by
  obtain ⟨hl, hn | ⟨g, cap, cur, hv, hg, hh, rest⟩⟩ := h
  · exact ⟨hl, .inl hn⟩
  · injection hv with e1 e2 e3
    subst e1
    exact ⟨hl, .inr ⟨g, cap, cur, by rw [e3], hg, (hk _ rfl).trans hh, rest⟩⟩
theorem Row.lt (h : Row w base A c xs) : ∀ g, A = some g → base ≤ g.block ∧ g.block < w.heap.size := by
  rintro g rfl
  exact World.ownsRow.lt h _ rfl
theorem Row.below (h : Row w base A c xs) (hb : Below w.heap.size w w') : Row w' base A c xs :=
  h.keep fun g hg => hb.block _ (h.lt g hg).2
theorem Row.alloc (h : Row w base A c xs) (o : Obj) : Row (w.alloc o) base A c xs := World.ownsRow.alloc h o
theorem Row.drewN (h : Row w base A c xs) (n : Nat) : Row (w.drewN n) base A c xs := h
theorem Row.drew (h : Row w base A c xs) : Row w.drew base A c xs := h
theorem Row.mono (h : Row w base A c xs) {b : Nat} (hb : b ≤ base) : Row w b A c xs := by
  obtain ⟨hl, hn | ⟨g, cap, cur, hv, hg, rest⟩⟩ := h
  · exact ⟨hl, .inl hn⟩
  · exact ⟨hl, .inr ⟨g, cap, cur, hv, by omega, rest⟩⟩
theorem Row.far (h : Row w base A c xs) {p : Addr} (hp : ∀ g, A = some g → g.block ≠ p.block) (u : Value) : Row (w.setCell p u) base A c xs :=
  h.keep fun g hg => Below.heap_setCell w p u _ (hp g hg)
theorem Row.form (h : Row w base A c xs) (hn : xs ≠ []) : ∃ g, A = some ⟨g, 0, none⟩ := by
  obtain ⟨hl, ⟨hv, hz⟩ | ⟨g, cap, cur, hv, _⟩⟩ := h
  · exact absurd (List.eq_nil_of_length_eq_zero hz) hn
  · injection hv with e1; exact ⟨g, e1⟩
theorem Row.forms (h : Row w base A c xs) : (A = none ∧ xs = [] ∧ c = 0) ∨ ∃ g, A = some ⟨g, 0, none⟩ ∧ base ≤ g ∧ g < w.heap.size ∧ xs.length ≤ c ∧ c ≤ maxLen := by
  have hlt := h.lt
  obtain ⟨hl, ⟨hv, hz⟩ | ⟨g, cap, cur, hv, hb, hh, hc, hm, _⟩⟩ := h
  · injection hv with e1 e2 e3
    exact .inl ⟨e1, List.eq_nil_of_length_eq_zero hz, e3⟩
  · injection hv with e1 e2 e3
    subst e1 e3
    exact .inr ⟨g, rfl, hb, (hlt _ rfl).2, hc, hm⟩
theorem Row.cellAt {g : Nat} (h : Row w base (some ⟨g, 0, none⟩) c xs) {k : Nat} (hk : k < xs.length) : w.cell? ⟨g, k * 2, none⟩ = some (.int .i64 (xs.getD k (0, 0)).1) ∧ w.cell? ⟨g, k * 2 + 1, none⟩ = some (.int .i64 (xs.getD k (0, 0)).2) := by
  obtain ⟨g1, g2⟩ := cells2_get xs k hk
  exact ⟨(World.ownsRow.cellAt h (k * 2) (by omega)).trans g1, (World.ownsRow.cellAt h (k * 2 + 1) (by omega)).trans g2⟩
theorem Row.frozenAt {g : Nat} (h : Row w base (some ⟨g, 0, none⟩) c xs) (j : Nat) : w.frozen? ⟨g, j, none⟩ = false := World.ownsRow.frozenAt h j
theorem Row.spans (h : Row w base A c xs) (hf : Fits xs) : Spans w A xs := by
  refine ⟨hf, fun k hk => ?_⟩
  rcases h.forms with ⟨_, rfl, _⟩ | ⟨g, rfl, _, hlt, _⟩
  · simp at hk
  · obtain ⟨h1, h2⟩ := h.cellAt hk
    exact ⟨g, 0, rfl, hlt, by simpa using h1, by simpa using h2⟩
theorem Row.set {g : Nat} (h : Row w base (some ⟨g, 0, none⟩) c xs) {k : Nat} (hk : k < xs.length) (v : Int) : Row (w.setCell ⟨g, k * 2 + 1, none⟩ (.int .i64 v)) base (some ⟨g, 0, none⟩) c (xs.set k ((xs.getD k (0, 0)).1, v)) := by
  have := (World.ownsRow.stored h (k * 2 + 1) (.int .i64 v)).1
  rw [cells2_set xs k v hk] at this
  unfold Row
  rw [List.length_set]
  exact this
/-- The first m of them. -/
theorem Row.take {g : Nat} (h : Row w base (some ⟨g, 0, none⟩) c xs) {m : Nat} (hm : m ≤ xs.length) : Row w base (some ⟨g, 0, none⟩) c (xs.take m) := by
  obtain ⟨hl, ⟨hv, hz⟩ | ⟨g', cap, cur, hv, hb, hh, hc, hx, hs, ht⟩⟩ := h
  · cases hv
  · injection hv with e1 e2 e3
    simp only [Option.some.injEq, Addr.mk.injEq, and_true] at e1
    subst e1 e3
    have e : (xs.take m).length = m := by rw [List.length_take]; omega
    refine ⟨cells2_len _, .inr ⟨g, c, cur, rfl, hb, hh, by omega, hx, hs, ?_⟩⟩
    rw [e]
    have e2 : cells2 (xs.take m) = (cells2 xs).take (m * 2) := by
      have e4 : cells2 xs = cells2 (xs.take m) ++ cells2 (xs.drop m) := by rw [← cells2_append, List.take_append_drop]
      rw [e4, List.take_append_of_le_length (by rw [cells2_len, e]; omega)]
      exact (List.take_of_length_le (by rw [cells2_len, e]; omega)).symm
    rw [e2, ← ht, List.take_take]
    congr 1
    omega
end

theorem span_info : (Try.prog.info? 50).map (fun i => (i.zero, i.size, i.bytes)) = some (some (.agg #[.int .i64 0, .int .i64 0]), 2, 16) := by kernel_rfl

/-- An append of what a slice holds. -/
theorem row_append {w : World} {base c : Nat} {A : Option Addr} {xs : List (Int × Int)} (h : Row w base A c xs) {B : Option Addr} {d : Nat} {ys : List (Int × Int)} (hs : Sl 2 w B ys.length d (cells2 ys)) (hn : xs.length + ys.length ≤ 1000000000) (hbase : base ≤ w.heap.size) :
    ∃ A' c' w', (Builtin.append_ #[34, 34] 34 #[.slice A xs.length c, .slice B ys.length d]).run Try.prog w = .ok (.slice A' (xs.length + ys.length) c') w' ∧ Row w' base A' c' (xs ++ ys) ∧
      (∀ a : World, a.heap.size ≤ base → Below a.heap.size a w → Below a.heap.size a w') ∧ w.grownBy w' (Value.slice A xs.length c).ownBlock ∧ ((Value.slice A' (xs.length + ys.length) c').ownBlock = (Value.slice A xs.length c).ownBlock ∨ (Value.slice A' (xs.length + ys.length) c').ownBlock = some w.heap.size) := by
  obtain ⟨A', c', w', hr, ho, hg, hl⟩ := append_any (P := Try.prog) w base 34 34 50 _ 2 16 Try.underlying34 span_info rfl (by omega) h hs (cells2_one ys) (xs.length + ys.length) rfl (cells2 (xs ++ ys)) (cells2_append xs ys).symm (by omega) (by omega) hbase
  refine ⟨A', c', w', hr, ?_, fun a ha hb => bel_grown hb h ha hg, hg, hl⟩
  unfold Row
  rw [List.length_append]
  exact ho

/-- A new slice of one span, made for an append. -/
theorem sl_one (w : World) (t : TypeId) (x : Int × Int) {s : Nat} (hs : w.heap.size = s) : Sl 2 (w.alloc (.cells #[.int .i64 x.1, .int .i64 x.2] t)) (some ⟨s, 0, none⟩) [x].length 1 (cells2 [x]) := by
  subst hs
  refine ⟨rfl, .inr ⟨_, rfl, fun j u hu => ?_⟩⟩
  rw [add_none, Nat.zero_add, cell_of_row _ _ _ _ t (0, 0) (heap_alloc_new w _)]
  simpa [cells2] using hu
theorem row_push {w : World} {base c : Nat} {A : Option Addr} {xs : List (Int × Int)} (h : Row w base A c xs) (a b : Int) (hn : xs.length < 1000000000) (hbase : base ≤ w.heap.size) {s : Nat} (hs : w.heap.size = s) :
    ∃ A' c' w', (Builtin.append_ #[34, 34] 34 #[.slice A xs.length c, .slice (some ⟨s, 0, none⟩) 1 1]).run Try.prog (w.alloc (.cells #[.int .i64 a, .int .i64 b] 50)) = .ok (.slice A' (xs.length + 1) c') w' ∧ Row w' base A' c' (xs ++ [(a, b)]) ∧
      (∀ v : World, v.heap.size ≤ base → Below v.heap.size v w → Below v.heap.size v w') ∧ w.heap.size ≤ w'.heap.size ∧ (w.alloc (.cells #[.int .i64 a, .int .i64 b] 50)).grownBy w' (Value.slice A xs.length c).ownBlock ∧ ((Value.slice A' (xs.length + 1) c').ownBlock = (Value.slice A xs.length c).ownBlock ∨ (Value.slice A' (xs.length + 1) c').ownBlock = some (w.heap.size + 1)) := by
  obtain ⟨A', c', w', h1, h2, h3, h4, h5⟩ := row_append (h.alloc (.cells #[.int .i64 a, .int .i64 b] 50)) (ys := [(a, b)]) (sl_one w 50 (a, b) hs) (by simp; omega) (by simp; omega)
  exact ⟨A', c', w', h1, h2, fun v hv hb => h3 v hv (hb.alloc hb.size _), by have := h4.size; simp at this; omega, h4, by simpa using h5⟩

/-- What a call that tells spans answers: a slice of its own. -/
def Gives (w : World) (xs : List (Int × Int)) (e : Ending) (w' : World) : Prop := ∃ A c, e = .returned (.slice A xs.length c) ∧ Row w' w.heap.size A c xs ∧ Below w.heap.size w w'
theorem gives_of {w w' : World} {xs ys : List (Int × Int)} {A : Option Addr} {c n : Nat} (h : Row w' w.heap.size A c ys) (e : ys = xs) (hn : n = ys.length) (hb : Below w.heap.size w w') : Gives w xs (.returned (.slice A n c)) w' := by
  subst e; subst hn; exact ⟨A, c, rfl, h, hb⟩

/-- A literal slice of spans. -/
theorem spans_new (w : World) (xs : List (Int × Int)) (t : TypeId) (cs : Array Value) (hcs : cs = (cells2 xs).toArray) (hf : Fits xs) {s : Nat} (hs : w.heap.size = s) : Spans (w.alloc (.cells cs t)) (some ⟨s, 0, none⟩) xs := by
  subst hs
  refine ⟨hf, fun k hk => ?_⟩
  have e : ∀ j, (w.alloc (.cells cs t)).cell? ⟨w.heap.size, j, none⟩ = cs[j]? := fun j => cell_of_row _ _ _ _ t (0, 0) (heap_alloc_new w _)
  obtain ⟨g1, g2⟩ := cells2_get xs k hk
  refine ⟨_, _, rfl, by simp, ?_, ?_⟩
  · rw [Nat.zero_add, e, hcs]; simpa using g1
  · rw [Nat.zero_add, e, hcs]; simpa using g2
end Go.Proofs.Ytghfhoodbiiciaa

namespace Go.Proofs.Ytghfhoodbiiciaa
open Go.RowKit
set_option linter.unusedVariables false
/-- What a slot that holds a slice of bytes is. -/
def BytV (v : Value) (n : Nat) (l : List (BitVec 8)) (w : World) : Prop := ∃ A c, v = .slice A n c ∧ Sl 1 w A n c (bytesV l)
theorem BytV.below {v : Value} {n : Nat} {l : List (BitVec 8)} {w w' : World} (h : BytV v n l w) (hb : Below w.heap.size w w') : BytV v n l w' := by
  obtain ⟨A, c, e, hp⟩ := h
  exact ⟨A, c, e, hp.below hb⟩
end Go.Proofs.Ytghfhoodbiiciaa

namespace Go.Proofs.Ytghfhoodbiiciaa
set_option linter.unusedVariables false
set_option linter.unusedSimpArgs false

structure SegP where
  fr : Int
  to : Int
  kd : Int
  id : Int
  cd : Int
  deriving DecidableEq
structure FlagP where
  id : Int
  kd : Int
  deriving DecidableEq
/-! ### Sessions rise -/
/-! ### Parts -/
/-- The seconds of parts. -/
def InS (l : List SegP) (t : Int) : Prop := ∃ s, s ∈ l ∧ s.fr ≤ t ∧ t < s.to
end Go.Proofs.Ytghfhoodbiiciaa
