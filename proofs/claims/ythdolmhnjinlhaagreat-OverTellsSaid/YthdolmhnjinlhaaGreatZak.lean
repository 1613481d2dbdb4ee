/-
  The seconds of a day, and of a week: package punch's and the document's own.
  Slices of numbers of the call's own: append.
  The document's own answers of layer 5 (lumperref05): numbers, and texts, taken; numbers put.
-/
import Derived.Test.YthdolmhnjinlhaaGreatZai
import Derived.Test.YthdolmhnjinlhaaGreatZag
import Derived.Test.YthdolmhnjinlhaaGreatZaj
import Derived.Test.YthdolmhnjinlhaaGreatProg
import Derived.Test.YthdolmhnjinlhaaGreatZac
import Derived.Test.YthdolmhnjinlhaaGreatZab
import Derived.OpenShut
import Derived.Laws.Cover1
import Derived.WalkKit
import Derived.WalkLawsBesides
import Derived.Lib.Hide
import Derived.IntWalk
import Derived.Lib.SliceRun
import Derived.WalkMore
import Derived.ScopeJumps
import Derived.Laws.Slices
import Derived.RegionTactic
namespace Go.Proofs.YthdolmhnjinlhaaGreat
open Go.RowKit
set_option linter.unusedVariables false
set_option linter.unusedSimpArgs false
set_option maxRecDepth 20000

theorem day_and (xs : List (Int × Int)) (n : Int) (h : 0 ≤ n ∧ n ≤ 370) : (canon fun t => In xs t ∧ In [(n * 86400, n * 86400 + 86400)] t) = ofDayP (In xs) n :=
  canon_congr fun t h0 h1 => by
    simp only [in_cons, in_nil, or_false]
    constructor
    · rintro ⟨q, q2⟩; exact ⟨q, by omega⟩
    · rintro ⟨q, q2⟩; exact ⟨q, by omega⟩
theorem day_fits (n : Int) (h : 0 ≤ n ∧ n ≤ 370) : Fits [(n * 86400, n * 86400 + 86400)] := fun x hx => by
  rw [List.mem_singleton.1 hx]
  exact ⟨⟨by simp only []; omega, by simp only []; omega⟩, ⟨by simp only []; omega, by simp only []; omega⟩⟩
theorem stretch_day (A : Option Addr) (cap : Nat) (xs : List (Int × Int)) (n : Int) (w : World) (hx : Spans w A xs) (hl : xs.length ≤ 100000000) :
    Calls Tryz.prog 32 #[.slice A xs.length cap, .int .i64 86400, .int .i64 n] w (Gives w (ofDayP (In xs) n)) := by
  have HX := Lib.hid hx
  clear hx
  by_cases h0 : n < 0
  · have hE := Lib.hid (ofDay_none (p := In xs) (.inl h0))
    go_enter Tryz.func32, Tryz.ntmps32
    go_wp2
    go_ret
    exact gives_of (Row.nil _ _) hE.out.symm rfl (by first | exact Below.refl _ _ | (repeat' (first | with_reducible exact Below.refl _ _ | with_reducible assumption | with_reducible refine bel_alloc ?_ _ | with_reducible refine bel_set ?_ ?_ _ | with_reducible refine below_drewN ?_ _ | with_reducible refine below_drew ?_ | (simp; done) | (simp; omega) | omega)))
  by_cases h1 : 371 ≤ n
  · have hE := Lib.hid (ofDay_none (p := In xs) (.inr (show 370 < n by omega)))
    go_enter Tryz.func32, Tryz.ntmps32
    go_wp2
    go_ret
    exact gives_of (Row.nil _ _) hE.out.symm rfl (by first | exact Below.refl _ _ | (repeat' (first | with_reducible exact Below.refl _ _ | with_reducible assumption | with_reducible refine bel_alloc ?_ _ | with_reducible refine bel_set ?_ ?_ _ | with_reducible refine below_drewN ?_ _ | with_reducible refine below_drew ?_ | (simp; done) | (simp; omega) | omega)))
  have h2 : 0 ≤ n ∧ n ≤ 370 := by omega
  have HE := Lib.hid (day_and xs n h2)
  have S2 := Lib.hid (spans_new w [(n * 86400, n * 86400 + 86400)] 42 #[.int .i64 (n * 86400), .int .i64 (n * 86400 + 86400)] rfl (day_fits n h2) rfl)
  have hb1 := bel_alloc (Below.refl w.heap.size w) (.cells #[.int .i64 (n * 86400), .int .i64 (n * 86400 + 86400)] 42)
  go_enter Tryz.func32, Tryz.ntmps32
  go_wp2_with fail
  refine (and_any A (some ⟨w.heap.size, 0, none⟩) cap 1 xs [(n * 86400, n * 86400 + 86400)] _ (HX.out.below hb1) S2.out hl (by simp)).mono ?_
  intro e w4 hg
  have HG := gives_bel hg hb1 HE.out
  clear hg
  obtain ⟨D, d, rfl, hr, hb⟩ := HG
  go_wp2
  go_ret
  exact ⟨D, d, rfl, hr, hb⟩
theorem ofday_any (A : Option Addr) (cap : Nat) (xs : List (Int × Int)) (n : Int) (w : World) (hx : Spans w A xs) (hl : xs.length ≤ 100000000) :
    Calls Tryz.prog 31 #[.slice A xs.length cap, .int .i64 n] w (Gives w (ofDayP (In xs) n)) := by
  have C1 := Lib.hid (stretch_day A cap xs n w hx hl)
  clear hx
  go_enter Tryz.func31, Tryz.ntmps31
  go_wp2_with fail
  refine C1.out.mono ?_
  rintro e w4 ⟨D, d, rfl, hr, hb⟩
  go_wp2
  go_ret
  exact ⟨D, d, rfl, hr, hb⟩
theorem rofday_any (A : Option Addr) (cap : Nat) (xs : List (Int × Int)) (n : Int) (w : World) (hx : Spans w A xs) (hl : xs.length ≤ 100000000) :
    Calls Tryz.prog 21 #[.slice A xs.length cap, .int .i64 n] w (Gives w (ofDayP (In xs) n)) := by
  have HX := Lib.hid hx
  clear hx
  by_cases h0 : n < 0
  · have hE := Lib.hid (ofDay_none (p := In xs) (.inl h0))
    go_enter Tryz.func21, Tryz.ntmps21
    go_wp2
    go_ret
    exact gives_of (Row.nil _ _) hE.out.symm rfl (by first | exact Below.refl _ _ | (repeat' (first | with_reducible exact Below.refl _ _ | with_reducible assumption | with_reducible refine bel_alloc ?_ _ | with_reducible refine bel_set ?_ ?_ _ | with_reducible refine below_drewN ?_ _ | with_reducible refine below_drew ?_ | (simp; done) | (simp; omega) | omega)))
  by_cases h1 : 370 < n
  · have hE := Lib.hid (ofDay_none (p := In xs) (.inr h1))
    go_enter Tryz.func21, Tryz.ntmps21
    go_wp2
    go_ret
    exact gives_of (Row.nil _ _) hE.out.symm rfl (by first | exact Below.refl _ _ | (repeat' (first | with_reducible exact Below.refl _ _ | with_reducible assumption | with_reducible refine bel_alloc ?_ _ | with_reducible refine bel_set ?_ ?_ _ | with_reducible refine below_drewN ?_ _ | with_reducible refine below_drew ?_ | (simp; done) | (simp; omega) | omega)))
  have h2 : 0 ≤ n ∧ n ≤ 370 := by omega
  have HE := Lib.hid (day_and xs n h2)
  obtain ⟨f, hf⟩ : ∃ f, n * 86400 = f := ⟨_, rfl⟩
  have hf' : 86400 * n = f := by omega
  have hfb : 0 ≤ f ∧ f ≤ 32054400 := by omega
  have hft := day_fits n h2
  rw [hf] at HE hft
  have HF := Lib.hid hf
  clear hf
  have S2 := Lib.hid (spans_new w [(f, f + 86400)] 42 #[.int .i64 f, .int .i64 (f + 86400)] rfl hft rfl)
  have hb1 := bel_alloc (Below.refl w.heap.size w) (.cells #[.int .i64 f, .int .i64 (f + 86400)] 42)
  go_enter Tryz.func21, Tryz.ntmps21
  go_wp2_with fail
  refine (rand_any A (some ⟨w.heap.size, 0, none⟩) cap 1 xs [(f, f + 86400)] _ (HX.out.below hb1) S2.out hl (by simp)).mono ?_
  intro e w4 hg
  have HG := gives_bel hg hb1 HE.out
  clear hg
  obtain ⟨D, d, rfl, hr, hb⟩ := HG
  go_wp2
  go_ret
  exact ⟨D, d, rfl, hr, hb⟩
theorem week_and (xs : List (Int × Int)) (n : Int) (h : 0 ≤ n ∧ n ≤ 52) : (canon fun t => In xs t ∧ In [(n * 604800, n * 604800 + 604800)] t) = ofWeekP (In xs) n :=
  canon_congr fun t h0 h1 => by
    simp only [in_cons, in_nil, or_false]
    constructor
    · rintro ⟨q, q2⟩; exact ⟨q, by omega⟩
    · rintro ⟨q, q2⟩; exact ⟨q, by omega⟩
theorem week_fits (n : Int) (h : 0 ≤ n ∧ n ≤ 52) : Fits [(n * 604800, n * 604800 + 604800)] := fun x hx => by
  rw [List.mem_singleton.1 hx]
  exact ⟨⟨by simp only []; omega, by simp only []; omega⟩, ⟨by simp only []; omega, by simp only []; omega⟩⟩
theorem stretch_week (A : Option Addr) (cap : Nat) (xs : List (Int × Int)) (n : Int) (w : World) (hx : Spans w A xs) (hl : xs.length ≤ 100000000) :
    Calls Tryz.prog 32 #[.slice A xs.length cap, .int .i64 604800, .int .i64 n] w (Gives w (ofWeekP (In xs) n)) := by
  have HX := Lib.hid hx
  clear hx
  by_cases h0 : n < 0
  · have hE := Lib.hid (ofWeek_none (p := In xs) (.inl h0))
    go_enter Tryz.func32, Tryz.ntmps32
    go_wp2
    go_ret
    exact gives_of (Row.nil _ _) hE.out.symm rfl (by first | exact Below.refl _ _ | (repeat' (first | with_reducible exact Below.refl _ _ | with_reducible assumption | with_reducible refine bel_alloc ?_ _ | with_reducible refine bel_set ?_ ?_ _ | with_reducible refine below_drewN ?_ _ | with_reducible refine below_drew ?_ | (simp; done) | (simp; omega) | omega)))
  by_cases h1 : 53 ≤ n
  · have hE := Lib.hid (ofWeek_none (p := In xs) (.inr (show 52 < n by omega)))
    go_enter Tryz.func32, Tryz.ntmps32
    go_wp2
    go_ret
    exact gives_of (Row.nil _ _) hE.out.symm rfl (by first | exact Below.refl _ _ | (repeat' (first | with_reducible exact Below.refl _ _ | with_reducible assumption | with_reducible refine bel_alloc ?_ _ | with_reducible refine bel_set ?_ ?_ _ | with_reducible refine below_drewN ?_ _ | with_reducible refine below_drew ?_ | (simp; done) | (simp; omega) | omega)))
  have h2 : 0 ≤ n ∧ n ≤ 52 := by omega
  have HE := Lib.hid (week_and xs n h2)
  have S2 := Lib.hid (spans_new w [(n * 604800, n * 604800 + 604800)] 42 #[.int .i64 (n * 604800), .int .i64 (n * 604800 + 604800)] rfl (week_fits n h2) rfl)
  have hb1 := bel_alloc (Below.refl w.heap.size w) (.cells #[.int .i64 (n * 604800), .int .i64 (n * 604800 + 604800)] 42)
  go_enter Tryz.func32, Tryz.ntmps32
  go_wp2_with fail
  refine (and_any A (some ⟨w.heap.size, 0, none⟩) cap 1 xs [(n * 604800, n * 604800 + 604800)] _ (HX.out.below hb1) S2.out hl (by simp)).mono ?_
  intro e w4 hg
  have HG := gives_bel hg hb1 HE.out
  clear hg
  obtain ⟨D, d, rfl, hr, hb⟩ := HG
  go_wp2
  go_ret
  exact ⟨D, d, rfl, hr, hb⟩
theorem ofweek_any (A : Option Addr) (cap : Nat) (xs : List (Int × Int)) (n : Int) (w : World) (hx : Spans w A xs) (hl : xs.length ≤ 100000000) :
    Calls Tryz.prog 12 #[.slice A xs.length cap, .int .i64 n] w (Gives w (ofWeekP (In xs) n)) := by
  have C1 := Lib.hid (stretch_week A cap xs n w hx hl)
  clear hx
  go_enter Tryz.func12, Tryz.ntmps12
  go_wp2_with fail
  refine C1.out.mono ?_
  rintro e w4 ⟨D, d, rfl, hr, hb⟩
  go_wp2
  go_ret
  exact ⟨D, d, rfl, hr, hb⟩
theorem rofweek_any (A : Option Addr) (cap : Nat) (xs : List (Int × Int)) (n : Int) (w : World) (hx : Spans w A xs) (hl : xs.length ≤ 100000000) :
    Calls Tryz.prog 18 #[.slice A xs.length cap, .int .i64 n] w (Gives w (ofWeekP (In xs) n)) := by
  have HX := Lib.hid hx
  clear hx
  by_cases h0 : n < 0
  · have hE := Lib.hid (ofWeek_none (p := In xs) (.inl h0))
    go_enter Tryz.func18, Tryz.ntmps18
    go_wp2
    go_ret
    exact gives_of (Row.nil _ _) hE.out.symm rfl (by first | exact Below.refl _ _ | (repeat' (first | with_reducible exact Below.refl _ _ | with_reducible assumption | with_reducible refine bel_alloc ?_ _ | with_reducible refine bel_set ?_ ?_ _ | with_reducible refine below_drewN ?_ _ | with_reducible refine below_drew ?_ | (simp; done) | (simp; omega) | omega)))
  by_cases h1 : 52 < n
  · have hE := Lib.hid (ofWeek_none (p := In xs) (.inr h1))
    go_enter Tryz.func18, Tryz.ntmps18
    go_wp2
    go_ret
    exact gives_of (Row.nil _ _) hE.out.symm rfl (by first | exact Below.refl _ _ | (repeat' (first | with_reducible exact Below.refl _ _ | with_reducible assumption | with_reducible refine bel_alloc ?_ _ | with_reducible refine bel_set ?_ ?_ _ | with_reducible refine below_drewN ?_ _ | with_reducible refine below_drew ?_ | (simp; done) | (simp; omega) | omega)))
  have h2 : 0 ≤ n ∧ n ≤ 52 := by omega
  have HE := Lib.hid (week_and xs n h2)
  obtain ⟨f, hf⟩ : ∃ f, n * 604800 = f := ⟨_, rfl⟩
  have hf' : 604800 * n = f := by omega
  have hfb : 0 ≤ f ∧ f ≤ 32054400 := by omega
  have hft := week_fits n h2
  rw [hf] at HE hft
  have HF := Lib.hid hf
  clear hf
  have S2 := Lib.hid (spans_new w [(f, f + 604800)] 42 #[.int .i64 f, .int .i64 (f + 604800)] rfl hft rfl)
  have hb1 := bel_alloc (Below.refl w.heap.size w) (.cells #[.int .i64 f, .int .i64 (f + 604800)] 42)
  go_enter Tryz.func18, Tryz.ntmps18
  go_wp2_with fail
  refine (rand_any A (some ⟨w.heap.size, 0, none⟩) cap 1 xs [(f, f + 604800)] _ (HX.out.below hb1) S2.out hl (by simp)).mono ?_
  intro e w4 hg
  have HG := gives_bel hg hb1 HE.out
  clear hg
  obtain ⟨D, d, rfl, hr, hb⟩ := HG
  go_wp2
  go_ret
  exact ⟨D, d, rfl, hr, hb⟩
end Go.Proofs.YthdolmhnjinlhaaGreat

namespace Go.Proofs.YthdolmhnjinlhaaGreat
open Go.RowKit
set_option linter.unusedVariables false

/-- A slice of the call's own, that lies at 'base' or behind, and holds the numbers xs. -/
def NRow (w : World) (base : Nat) (A : Option Addr) (c : Nat) (xs : List Int) : Prop :=
  w.ownsRow base 3 1 (.slice A xs.length c) xs.length (ints .i64 xs)
section
variable {w w' : World} {base c : Nat} {A : Option Addr} {xs : List Int}
theorem NRow.nil (w : World) (base : Nat) : NRow w base none 0 [] := World.ownsRow_nil w base _ _
theorem NRow.keep (h : NRow w base A c xs) (hk : ∀ g, A = some g → w'.heap[g.block]? = w.heap[g.block]?) : NRow w' base A c xs := by
  obtain ⟨hl, hn | ⟨g, cap, cur, hv, hg, hh, rest⟩⟩ := h
  · exact ⟨hl, .inl hn⟩
  · injection hv with e1 e2 e3
    subst e1
    exact ⟨hl, .inr ⟨g, cap, cur, by rw [e3], hg, (hk _ rfl).trans hh, rest⟩⟩
theorem NRow.lt (h : NRow w base A c xs) : ∀ g, A = some g → base ≤ g.block ∧ g.block < w.heap.size := by
  rintro g rfl
  exact World.ownsRow.lt h _ rfl
theorem NRow.below (h : NRow w base A c xs) (hb : Below w.heap.size w w') : NRow w' base A c xs :=
  h.keep fun g hg => hb.block _ (h.lt g hg).2
theorem NRow.alloc (h : NRow w base A c xs) (o : Obj) : NRow (w.alloc o) base A c xs := World.ownsRow.alloc h o
theorem NRow.drew (h : NRow w base A c xs) : NRow w.drew base A c xs := h
theorem NRow.mono (h : NRow w base A c xs) {b : Nat} (hb : b ≤ base) : NRow w b A c xs := by
  obtain ⟨hl, hn | ⟨g, cap, cur, hv, hg, rest⟩⟩ := h
  · exact ⟨hl, .inl hn⟩
  · exact ⟨hl, .inr ⟨g, cap, cur, hv, by omega, rest⟩⟩
theorem NRow.sl (h : NRow w base A c xs) : Sl 1 w A xs.length c (ints .i64 xs) := Sl.of_own h
theorem NRow.nums (h : NRow w base A c xs) : Nums w A xs := nums_of_sl h.sl
theorem NRow.cap_le (h : NRow w base A c xs) {n : Nat} (hn : xs.length = n) : n ≤ c := by
  subst hn
  obtain ⟨hl, ⟨hv, hz⟩ | ⟨g, cap, cur, hv, hb, hh, hc, hm, _⟩⟩ := h
  · omega
  · injection hv with e1 e2 e3
    omega
theorem NRow.slAt (h : NRow w base A c xs) {n : Nat} (hn : xs.length = n) : Sl 1 w A n c (ints .i64 xs) := by
  subst hn
  exact h.sl
end
theorem int_info : (Tryz.prog.info? 3).map (fun i => (i.zero, i.size, i.bytes)) = some (some (.int .i64 0), 1, 8) := by kernel_rfl
theorem nrow_new (w : World) (ys : List Int) {k : Nat} (hk : ys.length = k) (hm : k ≤ 1000000) : NRow (w.alloc (.cells (ints .i64 ys).toArray 3)) w.heap.size (some ⟨w.heap.size, 0, none⟩) k ys := by
  subst hk
  exact own_new w 3 1 ys.length (ints .i64 ys).toArray (by simp [ints]) (by simp only [maxLen]; omega)
/-- An append of what a slice holds. -/
theorem nrow_append {w : World} {base c : Nat} {A : Option Addr} {xs : List Int} (h : NRow w base A c xs) {n : Nat} (hn : xs.length = n) {B : Option Addr} {d k : Nat} {ys : List Int} (hs : Sl 1 w B k d (ints .i64 ys)) (hk : ys.length = k) (hm : n + k ≤ 1000000000) (hbase : base ≤ w.heap.size) :
    ∃ A' c' w', (Builtin.append_ #[27, 27] 27 #[.slice A n c, .slice B k d]).run Tryz.prog w = .ok (.slice A' (n + k) c') w' ∧ NRow w' base A' c' (xs ++ ys) ∧
      (∀ a : World, a.heap.size ≤ base → Below a.heap.size a w → Below a.heap.size a w') := by
  subst hn hk
  obtain ⟨A', c', w', hr, ho, hg, hl⟩ := append_any (P := Tryz.prog) w base 27 27 3 _ 1 8 Tryz.underlying27 int_info rfl (by omega) h hs (ints_one .i64 ys) (xs.length + ys.length) rfl (ints .i64 (xs ++ ys)) (by simp [ints]) (by omega) (by omega) hbase
  refine ⟨A', c', w', hr, ?_, fun a ha hb => bel_grown hb h ha hg⟩
  unfold NRow
  rw [List.length_append]
  exact ho
/-- An append of numbers that are laid for it. -/
theorem nrow_lay {w : World} {base c : Nat} {A : Option Addr} {xs ys : List Int} (h : NRow w base A c xs) {n : Nat} (hn : xs.length = n) {k : Nat} (hk : ys.length = k) (hm : n + k ≤ 1000000000) (hbase : base ≤ w.heap.size) {s : Nat} (hs : w.heap.size = s) :
    ∃ A' c' w', (Builtin.append_ #[27, 27] 27 #[.slice A n c, .slice (some ⟨s, 0, none⟩) k k]).run Tryz.prog (w.alloc (.cells (ints .i64 ys).toArray 3)) = .ok (.slice A' (n + k) c') w' ∧ NRow w' base A' c' (xs ++ ys) ∧
      (∀ a : World, a.heap.size ≤ base → Below a.heap.size a w → Below a.heap.size a w') := by
  subst hk hs
  obtain ⟨A', c', w', h1, h2, h3⟩ := nrow_append (h.alloc (.cells (ints .i64 ys).toArray 3)) hn (Sl.of_own (own_new w 3 1 ys.length (ints .i64 ys).toArray (by simp [ints]) (by simp only [maxLen]; omega))) rfl hm (by simp; omega)
  exact ⟨A', c', w', h1, h2, fun a ha hb => h3 a ha (hb.alloc hb.size _)⟩
end Go.Proofs.YthdolmhnjinlhaaGreat

namespace Go.Proofs.YthdolmhnjinlhaaGreat
open Go.RowKit
set_option linter.unusedVariables false
set_option maxRecDepth 20000

theorem wrapi_id {a : Int} (h0 : -9223372036854775808 ≤ a) (h1 : a < 9223372036854775808) : IntKind.i64.wrap a = a := by
  simp [IntKind.wrap, IntKind.bits, IntKind.signed]
  split <;> omega
end Go.Proofs.YthdolmhnjinlhaaGreat
