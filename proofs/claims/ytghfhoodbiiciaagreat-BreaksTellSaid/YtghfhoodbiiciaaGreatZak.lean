/-
  The seconds of a day, and of a week: package punch's and the document's own.
  Slices of numbers of the call's own: append.
  The document's own answers of layer 5 (lumperref05): numbers, and texts, taken; numbers put.
  event.own: the map that tells where an event's own numbers stand, whatever order it was filled in.
-/
import Derived.Test.YtghfhoodbiiciaaGreatZaj
import Derived.Test.YtghfhoodbiiciaaGreatZag
import Derived.Test.YtghfhoodbiiciaaGreatZah
import Derived.Test.YtghfhoodbiiciaaGreatProg
import Derived.Test.YtghfhoodbiiciaaGreatZad
import Derived.Test.YtghfhoodbiiciaaGreatZab
import Derived.OpenShut
import Derived.Laws.Cover1
import Derived.Test.YtghfhoodbiiciaaGreatZaa
import Derived.WalkKit
import Derived.WalkLawsBesides
import Derived.Lib.Hide
import Derived.IntWalk
import Derived.Lib.SliceRun
import Derived.WalkMore
import Derived.ScopeJumps
import Derived.Laws.Slices
import Derived.RegionTactic
import Derived.Test.YtghfhoodbiiciaaGreatZac
namespace Go.Proofs.YtghfhoodbiiciaaGreat
open Go.RowKit
set_option linter.unusedVariables false
set_option linter.unusedSimpArgs false
set_option maxRecDepth 20000

theorem day_and (xs : List (Int × Int)) (n : Int) (h : 0 ≤ n ∧ n ≤ 370) : (canon fun t => In xs t ∧ In [(n * 86400, n * 86400 + 86400)] t) = ofDayP (In xs) n :=
  canon_congr fun t h0 h1 => by
    simp only [in_cons, in_nil, or_false]
    constructor
    · rintro ⟨q, q2⟩; exact ⟨q, by omega⟩
    · rintro ⟨q, q2⟩; exact ⟨q, by omega⟩
theorem day_fits (n : Int) (h : 0 ≤ n ∧ n ≤ 370) : Fits [(n * 86400, n * 86400 + 86400)] := fun x hx => by
  rw [List.mem_singleton.1 hx]
  exact ⟨⟨by simp only []; omega, by simp only []; omega⟩, ⟨by simp only []; omega, by simp only []; omega⟩⟩
theorem stretch_day (A : Option Addr) (cap : Nat) (xs : List (Int × Int)) (n : Int) (w : World) (hx : Spans w A xs) (hl : xs.length ≤ 100000000) :
    Calls Tryz.prog 70 #[.slice A xs.length cap, .int .i64 86400, .int .i64 n] w (Gives w (ofDayP (In xs) n)) := by
  have HX := Lib.hid hx
  clear hx
  by_cases h0 : n < 0
  · have hE := Lib.hid (ofDay_none (p := In xs) (.inl h0))
    go_enter Tryz.func70, Tryz.ntmps70
    go_wp2
    go_ret
    exact gives_of (Row.nil _ _) hE.out.symm rfl (by first | exact Below.refl _ _ | (repeat' (first | with_reducible exact Below.refl _ _ | with_reducible assumption | with_reducible refine bel_alloc ?_ _ | with_reducible refine bel_set ?_ ?_ _ | with_reducible refine below_drewN ?_ _ | with_reducible refine below_drew ?_ | (simp; done) | (simp; omega) | omega)))
  by_cases h1 : 371 ≤ n
  · have hE := Lib.hid (ofDay_none (p := In xs) (.inr (show 370 < n by omega)))
    go_enter Tryz.func70, Tryz.ntmps70
    go_wp2
    go_ret
    exact gives_of (Row.nil _ _) hE.out.symm rfl (by first | exact Below.refl _ _ | (repeat' (first | with_reducible exact Below.refl _ _ | with_reducible assumption | with_reducible refine bel_alloc ?_ _ | with_reducible refine bel_set ?_ ?_ _ | with_reducible refine below_drewN ?_ _ | with_reducible refine below_drew ?_ | (simp; done) | (simp; omega) | omega)))
  have h2 : 0 ≤ n ∧ n ≤ 370 := by omega
  have HE := Lib.hid (day_and xs n h2)
  have S2 := Lib.hid (spans_new w [(n * 86400, n * 86400 + 86400)] 43 #[.int .i64 (n * 86400), .int .i64 (n * 86400 + 86400)] rfl (day_fits n h2) rfl)
  have hb1 := bel_alloc (Below.refl w.heap.size w) (.cells #[.int .i64 (n * 86400), .int .i64 (n * 86400 + 86400)] 43)
  go_enter Tryz.func70, Tryz.ntmps70
  go_wp2_with fail
  refine (and_any A (some ⟨w.heap.size, 0, none⟩) cap 1 xs [(n * 86400, n * 86400 + 86400)] _ (HX.out.below hb1) S2.out hl (by simp)).mono ?_
  intro e w4 hg
  have HG := gives_bel hg hb1 HE.out
  clear hg
  obtain ⟨D, d, rfl, hr, hb⟩ := HG
  go_wp2
  go_ret
  exact ⟨D, d, rfl, hr, hb⟩
theorem ofday_any (A : Option Addr) (cap : Nat) (xs : List (Int × Int)) (n : Int) (w : World) (hx : Spans w A xs) (hl : xs.length ≤ 100000000) :
    Calls Tryz.prog 35 #[.slice A xs.length cap, .int .i64 n] w (Gives w (ofDayP (In xs) n)) := by
  have C1 := Lib.hid (stretch_day A cap xs n w hx hl)
  clear hx
  go_enter Tryz.func35, Tryz.ntmps35
  go_wp2_with fail
  refine C1.out.mono ?_
  rintro e w4 ⟨D, d, rfl, hr, hb⟩
  go_wp2
  go_ret
  exact ⟨D, d, rfl, hr, hb⟩
theorem rofday_any (A : Option Addr) (cap : Nat) (xs : List (Int × Int)) (n : Int) (w : World) (hx : Spans w A xs) (hl : xs.length ≤ 100000000) :
    Calls Tryz.prog 23 #[.slice A xs.length cap, .int .i64 n] w (Gives w (ofDayP (In xs) n)) := by
  have HX := Lib.hid hx
  clear hx
  by_cases h0 : n < 0
  · have hE := Lib.hid (ofDay_none (p := In xs) (.inl h0))
    go_enter Tryz.func23, Tryz.ntmps23
    go_wp2
    go_ret
    exact gives_of (Row.nil _ _) hE.out.symm rfl (by first | exact Below.refl _ _ | (repeat' (first | with_reducible exact Below.refl _ _ | with_reducible assumption | with_reducible refine bel_alloc ?_ _ | with_reducible refine bel_set ?_ ?_ _ | with_reducible refine below_drewN ?_ _ | with_reducible refine below_drew ?_ | (simp; done) | (simp; omega) | omega)))
  by_cases h1 : 370 < n
  · have hE := Lib.hid (ofDay_none (p := In xs) (.inr h1))
    go_enter Tryz.func23, Tryz.ntmps23
    go_wp2
    go_ret
    exact gives_of (Row.nil _ _) hE.out.symm rfl (by first | exact Below.refl _ _ | (repeat' (first | with_reducible exact Below.refl _ _ | with_reducible assumption | with_reducible refine bel_alloc ?_ _ | with_reducible refine bel_set ?_ ?_ _ | with_reducible refine below_drewN ?_ _ | with_reducible refine below_drew ?_ | (simp; done) | (simp; omega) | omega)))
  have h2 : 0 ≤ n ∧ n ≤ 370 := by omega
  have HE := Lib.hid (day_and xs n h2)
  obtain ⟨f, hf⟩ : ∃ f, n * 86400 = f := ⟨_, rfl⟩
  have hf' : 86400 * n = f := by omega
  have hfb : 0 ≤ f ∧ f ≤ 32054400 := by omega
  have hft := day_fits n h2
  rw [hf] at HE hft
  have HF := Lib.hid hf
  clear hf
  have S2 := Lib.hid (spans_new w [(f, f + 86400)] 43 #[.int .i64 f, .int .i64 (f + 86400)] rfl hft rfl)
  have hb1 := bel_alloc (Below.refl w.heap.size w) (.cells #[.int .i64 f, .int .i64 (f + 86400)] 43)
  go_enter Tryz.func23, Tryz.ntmps23
  go_wp2_with fail
  refine (rand_any A (some ⟨w.heap.size, 0, none⟩) cap 1 xs [(f, f + 86400)] _ (HX.out.below hb1) S2.out hl (by simp)).mono ?_
  intro e w4 hg
  have HG := gives_bel hg hb1 HE.out
  clear hg
  obtain ⟨D, d, rfl, hr, hb⟩ := HG
  go_wp2
  go_ret
  exact ⟨D, d, rfl, hr, hb⟩
end Go.Proofs.YtghfhoodbiiciaaGreat

namespace Go.Proofs.YtghfhoodbiiciaaGreat
open Go.RowKit
set_option linter.unusedVariables false

/-- A slice of the call's own, that lies at 'base' or behind, and holds the numbers xs. -/
def NRow (w : World) (base : Nat) (A : Option Addr) (c : Nat) (xs : List Int) : Prop :=
  w.ownsRow base 3 1 (.slice A xs.length c) xs.length (ints .i64 xs)
section
variable {w w' : World} {base c : Nat} {A : Option Addr} {xs : List Int}
theorem NRow.nil (w : World) (base : Nat) : NRow w base none 0 [] := World.ownsRow_nil w base _ _
theorem NRow.keep (h : NRow w base A c xs) (hk : ∀ g, A = some g → w'.heap[g.block]? = w.heap[g.block]?) : NRow w' base A c xs := by
  obtain ⟨hl, hn | ⟨g, cap, cur, hv, hg, hh, rest⟩⟩ := h
  · exact ⟨hl, .inl hn⟩
  · injection hv with e1 e2 e3
    subst e1
    exact ⟨hl, .inr ⟨g, cap, cur, by rw [e3], hg, (hk _ rfl).trans hh, rest⟩⟩
theorem NRow.lt (h : NRow w base A c xs) : ∀ g, A = some g → base ≤ g.block ∧ g.block < w.heap.size := by
  rintro g rfl
  exact World.ownsRow.lt h _ rfl
theorem NRow.below (h : NRow w base A c xs) (hb : Below w.heap.size w w') : NRow w' base A c xs :=
  h.keep fun g hg => hb.block _ (h.lt g hg).2
theorem NRow.alloc (h : NRow w base A c xs) (o : Obj) : NRow (w.alloc o) base A c xs := World.ownsRow.alloc h o
theorem NRow.drew (h : NRow w base A c xs) : NRow w.drew base A c xs := h
theorem NRow.mono (h : NRow w base A c xs) {b : Nat} (hb : b ≤ base) : NRow w b A c xs := by
  obtain ⟨hl, hn | ⟨g, cap, cur, hv, hg, rest⟩⟩ := h
  · exact ⟨hl, .inl hn⟩
  · exact ⟨hl, .inr ⟨g, cap, cur, hv, by omega, rest⟩⟩
theorem NRow.sl (h : NRow w base A c xs) : Sl 1 w A xs.length c (ints .i64 xs) := Sl.of_own h
theorem NRow.nums (h : NRow w base A c xs) : Nums w A xs := nums_of_sl h.sl
theorem NRow.cap_le (h : NRow w base A c xs) {n : Nat} (hn : xs.length = n) : n ≤ c := by
  subst hn
  obtain ⟨hl, ⟨hv, hz⟩ | ⟨g, cap, cur, hv, hb, hh, hc, hm, _⟩⟩ := h
  · omega
  · injection hv with e1 e2 e3
    omega
theorem NRow.slAt (h : NRow w base A c xs) {n : Nat} (hn : xs.length = n) : Sl 1 w A n c (ints .i64 xs) := by
  subst hn
  exact h.sl
end
theorem int_info : (Tryz.prog.info? 3).map (fun i => (i.zero, i.size, i.bytes)) = some (some (.int .i64 0), 1, 8) := by kernel_rfl
theorem nrow_new (w : World) (ys : List Int) {k : Nat} (hk : ys.length = k) (hm : k ≤ 1000000) : NRow (w.alloc (.cells (ints .i64 ys).toArray 3)) w.heap.size (some ⟨w.heap.size, 0, none⟩) k ys := by
  subst hk
  exact own_new w 3 1 ys.length (ints .i64 ys).toArray (by simp [ints]) (by simp only [maxLen]; omega)
/-- An append of what a slice holds. -/
theorem nrow_append {w : World} {base c : Nat} {A : Option Addr} {xs : List Int} (h : NRow w base A c xs) {n : Nat} (hn : xs.length = n) {B : Option Addr} {d k : Nat} {ys : List Int} (hs : Sl 1 w B k d (ints .i64 ys)) (hk : ys.length = k) (hm : n + k ≤ 1000000000) (hbase : base ≤ w.heap.size) :
    ∃ A' c' w', (Builtin.append_ #[27, 27] 27 #[.slice A n c, .slice B k d]).run Tryz.prog w = .ok (.slice A' (n + k) c') w' ∧ NRow w' base A' c' (xs ++ ys) ∧
      (∀ a : World, a.heap.size ≤ base → Below a.heap.size a w → Below a.heap.size a w') := by
  subst hn hk
  obtain ⟨A', c', w', hr, ho, hg, hl⟩ := append_any (P := Tryz.prog) w base 27 27 3 _ 1 8 Tryz.underlying27 int_info rfl (by omega) h hs (ints_one .i64 ys) (xs.length + ys.length) rfl (ints .i64 (xs ++ ys)) (by simp [ints]) (by omega) (by omega) hbase
  refine ⟨A', c', w', hr, ?_, fun a ha hb => bel_grown hb h ha hg⟩
  unfold NRow
  rw [List.length_append]
  exact ho
/-- An append of numbers that are laid for it. -/
theorem nrow_lay {w : World} {base c : Nat} {A : Option Addr} {xs ys : List Int} (h : NRow w base A c xs) {n : Nat} (hn : xs.length = n) {k : Nat} (hk : ys.length = k) (hm : n + k ≤ 1000000000) (hbase : base ≤ w.heap.size) {s : Nat} (hs : w.heap.size = s) :
    ∃ A' c' w', (Builtin.append_ #[27, 27] 27 #[.slice A n c, .slice (some ⟨s, 0, none⟩) k k]).run Tryz.prog (w.alloc (.cells (ints .i64 ys).toArray 3)) = .ok (.slice A' (n + k) c') w' ∧ NRow w' base A' c' (xs ++ ys) ∧
      (∀ a : World, a.heap.size ≤ base → Below a.heap.size a w → Below a.heap.size a w') := by
  subst hk hs
  obtain ⟨A', c', w', h1, h2, h3⟩ := nrow_append (h.alloc (.cells (ints .i64 ys).toArray 3)) hn (Sl.of_own (own_new w 3 1 ys.length (ints .i64 ys).toArray (by simp [ints]) (by simp only [maxLen]; omega))) rfl hm (by simp; omega)
  exact ⟨A', c', w', h1, h2, fun a ha hb => h3 a ha (hb.alloc hb.size _)⟩
end Go.Proofs.YtghfhoodbiiciaaGreat

namespace Go.Proofs.YtghfhoodbiiciaaGreat
open Go.RowKit
set_option linter.unusedVariables false
set_option maxRecDepth 20000

theorem wrapi_id {a : Int} (h0 : -9223372036854775808 ≤ a) (h1 : a < 9223372036854775808) : IntKind.i64.wrap a = a := by
  simp [IntKind.wrap, IntKind.bits, IntKind.signed]
  split <;> omega
end Go.Proofs.YtghfhoodbiiciaaGreat

namespace Go.Proofs.YtghfhoodbiiciaaGreat
open Go.RowKit
set_option linter.unusedVariables false
set_option linter.unusedSimpArgs false

/-- Places in a block. -/
def ptrV (b i : Nat) : Value := .pointer (some ⟨b, i, none⟩)
def nilV : Value := .slice none 0 0
/-- What the map tells, as far as it is filled. -/
def mapF (b1 b2 b3 b4 b5 b6 b7 : Bool) (x y : Value) : Int → Option Value := fun i =>
  if i = 1 then (if b1 then some nilV else none) else if i = 2 then (if b2 then some nilV else none) else if i = 3 then (if b3 then some x else none) else if i = 4 then (if b4 then some y else none) else
  if i = 5 then (if b5 then some nilV else none) else if i = 6 then (if b6 then some nilV else none) else if i = 7 then (if b7 then some nilV else none) else none
def ptrs6 (b : Nat) : Array Value := #[ptrV b 4, ptrV b 5, ptrV b 6, ptrV b 7, ptrV b 8, ptrV b 9]
def ptrs1 (b : Nat) : Array Value := #[ptrV b 10]
/-- A slot that holds a new slice over the cells cs. -/
def NewSl (W : World) (v : Value) (n : Nat) (cs : Array Value) (w : World) : Prop := ∃ g, v = .slice (some ⟨g, 0, none⟩) n n ∧ W.heap.size ≤ g ∧ Has w g cs
section
variable {W w w' : World} {v : Value} {n : Nat} {cs : Array Value}
theorem NewSl.below (h : NewSl W v n cs w) (hb : Below w.heap.size w w') : NewSl W v n cs w' := by
  obtain ⟨g, e, hg, h⟩ := h
  exact ⟨g, e, hg, h.below hb⟩
theorem NewSl.alloc (h : NewSl W v n cs w) (o : Obj) : NewSl W v n cs (w.alloc o) := by
  obtain ⟨g, e, hg, h⟩ := h
  exact ⟨g, e, hg, h.alloc o⟩
end
/-- A slot that holds a map of the call's own, which tells f. -/
def NewMap (W : World) (v : Value) (k : Nat) (f : Int → Option Value) (w : World) : Prop := ∃ m n, v = .map (some m) ∧ W.heap.size ≤ m ∧ n ≤ k ∧ MapI w m n f
/-- What stands while the map is filled: b tells of each operation whether it has come up. -/

structure OwnW (W : World) (g : Nat) (v0 x y v31 v32 : Value) (b0 b1 b2 b21 b22 b26 b27 b28 b29 b30 b31 b32 : Bool) (w : World) : Prop where
  bel : Below W.heap.size W w
  sx : b21 = true → NewSl W x 6 (ptrs6 g) w
  sy : b26 = true → NewSl W y 1 (ptrs1 g) w
  mp : b0 = true → NewMap W v0 (b1.toNat + b2.toNat + b22.toNat + b27.toNat + b28.toNat + b29.toNat + b30.toNat) (mapF b1 b2 b22 b27 b28 b29 b30 x y) w
  u3 : b21 = false → b22 = false
  u4 : b26 = false → b27 = false
  u0 : b0 = false → b1 = false ∧ b2 = false ∧ b22 = false ∧ b27 = false ∧ b28 = false ∧ b29 = false ∧ b30 = false ∧ b31 = false ∧ b32 = false
  u1 : b31 = true → v31 = v0
  u2 : b32 = true → v32 = v0
/-- What own tells. -/
def OwnMap (W : World) (g : Nat) (e : Ending) (w : World) : Prop :=
  ∃ m n p q, e = .returned (.map (some m)) ∧ Below W.heap.size W w ∧ W.heap.size ≤ m ∧ W.heap.size ≤ p ∧ W.heap.size ≤ q ∧ Has w p (ptrs6 g) ∧ Has w q (ptrs1 g) ∧
    MapI w m n (mapF true true true true true true true (.slice (some ⟨p, 0, none⟩) 6 6) (.slice (some ⟨q, 0, none⟩) 1 1))
theorem OwnW.out {W w : World} {g : Nat} {v0 x y v31 v32 : Value} (h : OwnW W g v0 x y v31 v32 true true true true true true true true true true true true w) : OwnMap W g (.returned v32) w := by
  obtain ⟨m, n, e0, hm, hn, hM⟩ := h.mp rfl
  obtain ⟨p, ex, hp, hP⟩ := h.sx rfl
  obtain ⟨q, ey, hq, hQ⟩ := h.sy rfl
  have e2 := h.u2 rfl
  subst e0 ex ey e2
  exact ⟨m, n, p, q, rfl, h.bel, hm, hp, hq, hP, hQ, hM⟩
end Go.Proofs.YtghfhoodbiiciaaGreat
