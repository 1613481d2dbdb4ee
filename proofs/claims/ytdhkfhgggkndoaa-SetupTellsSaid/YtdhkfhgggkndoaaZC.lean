/-
  Slices of numbers of the call's own: append.
  lumperref07.numbers: a setup's numbers.
  lumperref07.Same: whether two setups have the same numbers.
-/
import Derived.Test.YtdhkfhgggkndoaaProg
import Derived.Test.YtdhkfhgggkndoaaNums
import Derived.Test.YtdhkfhgggkndoaaByRow
import Derived.Test.YtdhkfhgggkndoaaZA
import Derived.Test.YtdhkfhgggkndoaaOrders
namespace Go.Proofs.Ytdhkfhgggkndoaa
open Go.RowKit
set_option linter.unusedVariables false

/-- A slice of the call's own, that lies at 'base' or behind, and holds the numbers xs. -/
def NRow (w : World) (base : Nat) (A : Option Addr) (c : Nat) (xs : List Int) : Prop :=
  w.ownsRow base 3 1 (.slice A xs.length c) xs.length (ints .i64 xs)
section
variable {w w' : World} {base c : Nat} {A : Option Addr} {xs : List Int}
theorem NRow.nil (w : World) (base : Nat) : NRow w base none 0 [] := World.ownsRow_nil w base _ _
theorem NRow.keep (h : NRow w base A c xs) (hk : ∀ g, A = some g → w'.heap[g.block]? = w.heap[g.block]?) : NRow w' base A c xs := by
  obtain ⟨hl, hn | ⟨g, cap, cur, hv, hg, hh, rest⟩⟩ := h
  · exact ⟨hl, .inl hn⟩
  · injection hv with e1 e2 e3
    subst e1
    exact ⟨hl, .inr ⟨g, cap, cur, by rw [e3], hg, (hk _ rfl).trans hh, rest⟩⟩
theorem NRow.lt (h : NRow w base A c xs) : ∀ g, A = some g → base ≤ g.block ∧ g.block < w.heap.size := by
  rintro g rfl
  exact World.ownsRow.lt h _ rfl
theorem NRow.below (h : NRow w base A c xs) (hb : Below w.heap.size w w') : NRow w' base A c xs :=
  h.keep fun g hg => hb.block _ (h.lt g hg).2
theorem NRow.alloc (h : NRow w base A c xs) (o : Obj) : NRow (w.alloc o) base A c xs := World.ownsRow.alloc h o
theorem NRow.drew (h : NRow w base A c xs) : NRow w.drew base A c xs := h
theorem NRow.mono (h : NRow w base A c xs) {b : Nat} (hb : b ≤ base) : NRow w b A c xs := by
  obtain ⟨hl, hn | ⟨g, cap, cur, hv, hg, rest⟩⟩ := h
  · exact ⟨hl, .inl hn⟩
  · exact ⟨hl, .inr ⟨g, cap, cur, hv, by omega, rest⟩⟩
theorem NRow.sl (h : NRow w base A c xs) : Sl 1 w A xs.length c (ints .i64 xs) := Sl.of_own h
theorem NRow.nums (h : NRow w base A c xs) : Nums w A xs := nums_of_sl h.sl
theorem NRow.cap_le (h : NRow w base A c xs) {n : Nat} (hn : xs.length = n) : n ≤ c := by
  subst hn
  obtain ⟨hl, ⟨hv, hz⟩ | ⟨g, cap, cur, hv, hb, hh, hc, hm, _⟩⟩ := h
  · omega
  · injection hv with e1 e2 e3
    omega
theorem NRow.slAt (h : NRow w base A c xs) {n : Nat} (hn : xs.length = n) : Sl 1 w A n c (ints .i64 xs) := by
  subst hn
  exact h.sl
end
theorem int_info : (Try.prog.info? 3).map (fun i => (i.zero, i.size, i.bytes)) = some (some (.int .i64 0), 1, 8) := by kernel_rfl
theorem nrow_new (w : World) (ys : List Int) {k : Nat} (hk : ys.length = k) (hm : k ≤ 1000000) : NRow (w.alloc (.cells (ints .i64 ys).toArray 3)) w.heap.size (some ⟨w.heap.size, 0, none⟩) k ys := by
  subst hk
  exact own_new w 3 1 ys.length (ints .i64 ys).toArray (by simp [ints]) (by simp only [maxLen]; omega)
/-- An append of what a slice holds. -/
theorem nrow_append {w : World} {base c : Nat} {A : Option Addr} {xs : List Int} (h : NRow w base A c xs) {n : Nat} (hn : xs.length = n) {B : Option Addr} {d k : Nat} {ys : List Int} (hs : Sl 1 w B k d (ints .i64 ys)) (hk : ys.length = k) (hm : n + k ≤ 1000000000) (hbase : base ≤ w.heap.size) :
    ∃ A' c' w', (Builtin.append_ #[27, 27] 27 #[.slice A n c, .slice B k d]).run Try.prog w = .ok (.slice A' (n + k) c') w' ∧ NRow w' base A' c' (xs ++ ys) ∧
      (∀ a : World, a.heap.size ≤ base → Below a.heap.size a w → Below a.heap.size a w') := by
  subst hn hk
  obtain ⟨A', c', w', hr, ho, hg, hl⟩ := append_any (P := Try.prog) w base 27 27 3 _ 1 8 Try.underlying27 int_info rfl (by omega) h hs (ints_one .i64 ys) (xs.length + ys.length) rfl (ints .i64 (xs ++ ys)) (by simp [ints]) (by omega) (by omega) hbase
  refine ⟨A', c', w', hr, ?_, fun a ha hb => bel_grown hb h ha hg⟩
  unfold NRow
  rw [List.length_append]
  exact ho
/-- An append of numbers that are laid for it. -/
theorem nrow_lay {w : World} {base c : Nat} {A : Option Addr} {xs ys : List Int} (h : NRow w base A c xs) {n : Nat} (hn : xs.length = n) {k : Nat} (hk : ys.length = k) (hm : n + k ≤ 1000000000) (hbase : base ≤ w.heap.size) {s : Nat} (hs : w.heap.size = s) :
    ∃ A' c' w', (Builtin.append_ #[27, 27] 27 #[.slice A n c, .slice (some ⟨s, 0, none⟩) k k]).run Try.prog (w.alloc (.cells (ints .i64 ys).toArray 3)) = .ok (.slice A' (n + k) c') w' ∧ NRow w' base A' c' (xs ++ ys) ∧
      (∀ a : World, a.heap.size ≤ base → Below a.heap.size a w → Below a.heap.size a w') := by
  subst hk hs
  obtain ⟨A', c', w', h1, h2, h3⟩ := nrow_append (h.alloc (.cells (ints .i64 ys).toArray 3)) hn (Sl.of_own (own_new w 3 1 ys.length (ints .i64 ys).toArray (by simp [ints]) (by simp only [maxLen]; omega))) rfl hm (by simp; omega)
  exact ⟨A', c', w', h1, h2, fun a ha hb => h3 a ha (hb.alloc hb.size _)⟩
end Go.Proofs.Ytdhkfhgggkndoaa

namespace Go.Proofs.Ytdhkfhgggkndoaa
open Go.RowKit
set_option linter.unusedVariables false
set_option linter.unusedSimpArgs false
set_option maxRecDepth 100000

theorem rows_take_snoc (t : Rows2) (j : Nat) (h : j < t.length) : (t.take (j + 1)).flatten = (t.take j).flatten ++ t.getD j [] := by
  rw [List.take_succ_eq_append_getElem h, List.flatten_append]
  simp [List.getD, h]
theorem row2 {t : Rows2} (hw : ∀ r ∈ t, r.length = 2) {j : Nat} (h : j < t.length) : t.getD j [] = [(t.getD j []).getD 0 0, (t.getD j []).getD 1 0] := rowpart_eq (hw _ (by simp [List.getD, h]))
theorem row3 {t : Rows2} (hw : ∀ r ∈ t, r.length = 3) {j : Nat} (h : j < t.length) : t.getD j [] = [(t.getD j []).getD 0 0, (t.getD j []).getD 1 0, (t.getD j []).getD 2 0] := rowway_eq (hw _ (by simp [List.getD, h]))
theorem row4 {t : Rows2} (hw : ∀ r ∈ t, r.length = 4) {j : Nat} (h : j < t.length) : t.getD j [] = [(t.getD j []).getD 0 0, (t.getD j []).getD 1 0, (t.getD j []).getD 2 0, (t.getD j []).getD 3 0] := rowele_eq (hw _ (by simp [List.getD, h]))
theorem tab_ints {w : World} {A : Option Addr} {n c : Nat} {l : List Int} (h : Tab 1 w A n c (l.map fun z => [z])) : Sl 1 w A n c (ints .i64 l) := by
  have := h.sl
  rw [flat_ones] at this
  exact this
set_option maxHeartbeats 16000000 in
theorem numbers_at (s : SetP) (A1 A2 A3 A4 A5 A6 : Option Addr) (c1 c2 c3 c4 c5 c6 : Nat) (w : World) (h2 : SetAt w s A1 A2 A3 A4 A5 A6 c1 c2 c3 c4 c5 c6) (hfew : s.Few) :
    Calls Try.prog 31 #[.agg #[.int .i64 s.places, .slice A1 s.ways.length c1, .int .i64 s.pn, .int .i64 s.pd, .slice A2 s.elements.length c2, .slice A3 s.classes.length c3, .slice A4 s.gears.length c4, .int .i64 s.allow, .int .i64 s.unit, .int .i64 s.cap, .int .i64 s.paid, .int .i64 s.aft, .int .i64 s.brk, .int .i64 s.reg, .int .i64 s.over, .int .i64 s.week, .int .i64 s.nfrom, .int .i64 s.nto, .slice A5 s.rates.length c5, .int .i64 s.diff, .int .i64 s.least, .int .i64 s.fault, .slice A6 s.tiers.length c6]] w fun e w' => ∃ A c, e = .returned (.slice A s.nums.length c) ∧ NRow w' w.heap.size A c s.nums ∧ Below w.heap.size w w' := by
  have hn1 := hfew.1
  have hn2 := hfew.2.1
  have hn3 := hfew.2.2.1
  have hn4 := hfew.2.2.2.1
  have hn5 := hfew.2.2.2.2.1
  have hn6 := hfew.2.2.2.2.2
  have HX : Hid (∀ P : List Int, P = [s.places, (s.ways.length : Int)] ++ s.ways.flatten ++ [s.pn, s.pd, (s.elements.length : Int)] ++ s.elements.flatten ++ [(s.classes.length : Int)] ++ s.classes.flatten ++ [(s.gears.length : Int)] ++ s.gears.flatten ++ [s.allow, s.unit, s.cap, s.paid, s.aft, s.brk, s.reg, s.over, s.week, s.nfrom, s.nto] ++ [(s.rates.length : Int)] ++ s.rates ++ [s.diff, s.least, s.fault, (s.tiers.length : Int)] ++ s.tiers.flatten → P = s.nums) := by
    intro P hP
    rw [hP]
    simp [SetP.nums]
  have HS := Lib.hid h2
  have R1 := Lib.hid (fun j h => row3 h2.ways.wide (j := j) h)
  have R2 := Lib.hid (fun j h => row4 h2.elements.wide (j := j) h)
  have R3 := Lib.hid (fun j h => row2 h2.classes.wide (j := j) h)
  have R4 := Lib.hid (fun j h => row2 h2.gears.wide (j := j) h)
  have R6 := Lib.hid (fun j h => row2 h2.tiers.wide (j := j) h)
  clear h2 hfew
  go_enter Try.func31, Try.ntmps31
  go_upto_region 0 with fail
  go_cut [1] (fun v1 wx => ∃ g : Nat, v1 = .pointer (some ⟨g, 0, none⟩) ∧ Hid (Has wx g #[.int .i64 s.places, .slice A1 s.ways.length c1, .int .i64 s.pn, .int .i64 s.pd, .slice A2 s.elements.length c2, .slice A3 s.classes.length c3, .slice A4 s.gears.length c4, .int .i64 s.allow, .int .i64 s.unit, .int .i64 s.cap, .int .i64 s.paid, .int .i64 s.aft, .int .i64 s.brk, .int .i64 s.reg, .int .i64 s.over, .int .i64 s.week, .int .i64 s.nfrom, .int .i64 s.nto, .slice A5 s.rates.length c5, .int .i64 s.diff, .int .i64 s.least, .int .i64 s.fault, .slice A6 s.tiers.length c6] ∧ Below w.heap.size w wx ∧ SetAt wx s A1 A2 A3 A4 A5 A6 c1 c2 c3 c4 c5 c6))
  case first =>
    go_wp2_with fail
    go_meet
    refine ⟨w.heap.size, rfl, Lib.hid ⟨Has.new _ _ _ rfl, bel_alloc (Below.refl _ _) _, HS.out.below (bel_alloc (Below.refl _ _) _)⟩⟩
  case rest =>
    obtain ⟨g, rfl, hx⟩ := hcut
    obtain ⟨hB, hbw, hS⟩ := hx.out
    have HB := Lib.hid hB
    have HBW := Lib.hid hbw
    have HSC := Lib.hid hS
    have hgs := hB.size
    clear hx hB hbw hS HS
    have hb0 : Below wc.heap.size wc wc := Below.refl _ _
    have q0 := HB.out.cell 0 rfl
    have q1 := HB.out.cell 1 rfl
    have hrow0 := nrow_new wc [s.places, (s.ways.length : Int)] (k := 2) rfl (by omega)
    have hb1 := bel_alloc hb0 (.cells #[.int .i64 s.places, .int .i64 (s.ways.length : Int)] 3)
    have HROW := Lib.hid hrow0
    clear hrow0
    go_wp2
    go_loopw [3, 4] (fun o i wr => ∃ (j : Nat) (A : Option Addr) (c : Nat) (D : List Int) (L : Nat), j ≤ s.ways.length ∧ i = .int .i64 j ∧ o = .slice A L c ∧ D.length = L ∧ L ≤ 2 + 3 * j ∧ Hid (D = [s.places, (s.ways.length : Int)] ++ (s.ways.take j).flatten) ∧ NRow wr wc.heap.size A c D ∧ Below wc.heap.size wc wr) (fun _ i _ => s.ways.length - (intOf i).toNat)
    case atStart => exact ⟨0, some ⟨wc.heap.size, 0, none⟩, 2, [s.places, (s.ways.length : Int)], 2, by omega, rfl, rfl, rfl, by omega, (by show _ = _; simp), HROW.out, hb1⟩
    case round =>
      obtain ⟨j, A, c, D, L, hj, rfl, rfl, hDl, hL, hD, hrow, hb⟩ := hrel
      have q1 := (Below.cell hb (p := ⟨g, 1, none⟩) hgs).trans (HB.out.cell 1 rfl)
      by_cases hlt : j < s.ways.length
      · have hsn := rows_take_snoc s.ways j hlt
        rw [R1.out j hlt] at hsn
        obtain ⟨bb, oo, rfl⟩ := HSC.out.ways.form (by decide) (by omega)
        have z0 := HSC.out.ways.cell (i := j) (j := 0) hlt (by decide)
        have z1 := HSC.out.ways.cell (i := j) (j := 1) hlt (by decide)
        have z2 := HSC.out.ways.cell (i := j) (j := 2) hlt (by decide)
        generalize (s.ways.getD j []).getD 0 0 = x0 at *
        generalize (s.ways.getD j []).getD 1 0 = x1 at *
        generalize (s.ways.getD j []).getD 2 0 = x2 at *
        simp only [Nat.add_zero] at z0
        have e0 : (j : Int) < (s.ways.length : Int) := by omega
        have HD' : Hid (D ++ [x0, x1, x2] = [s.places, (s.ways.length : Int)] ++ (s.ways.take (j + 1)).flatten) := by
          show _ = _
          rw [hsn, hD.out]
          simp
        have hZs := cell_lt z0
        obtain ⟨A5, c5, w5, hr5, hrow5, hbel5⟩ := nrow_lay hrow.drew (ys := [x0, x1, x2]) hDl (k := 3) rfl (by omega) hb.size (s := wr.heap.size) rfl
        have HR5 : Hid ((Builtin.append_ #[27, 27] 27 #[.slice A L c, .slice (some ⟨wr.heap.size, 0, none⟩) 3 3]).run Try.prog (wr.alloc (.cells #[.int .i64 x0, .int .i64 x1, .int .i64 x2] 3)).drew = .ok (.slice A5 (L + 3) c5) w5) := hr5
        have hb5 := hbel5 wc (Nat.le_refl _) (below_drew hb)
        have hDl5 : (D ++ [x0, x1, x2]).length = L + 3 := by rw [List.length_append, hDl]; rfl
        clear hr5 hbel5
        clear hsn hrow
        go_wp2
        refine wp_region_noPanic ?_
        refine wp_region_held_drew (S := fun w' => Below wc.heap.size wc w') (by kernel_rfl) (below_drew (hb)) (fun hHeld => ?_)
        refine wpAnyH_take (i := 0) (oi := ⟨some 23, _, _, _, _, _⟩) (v := ?_) rfl (by kernel_rfl) (by kernel_rfl) (by kernel_rfl) (fun _ _ _ h => h) (Or.inl ⟨by rfl, ?_⟩) hHeld ?_
        rotate_left
        · intro ww hSw
          (try dsimp only at hSw)
          go_simp
          (try with_reducible rfl)
        simp only [Act.put, List.setIfInBounds_toArray, List.set_cons_zero, List.set_cons_succ]
        refine wpAnyH_take (i := 1) (oi := ⟨some 24, _, _, _, _, _⟩) (v := ?_) rfl (by kernel_rfl) (by kernel_rfl) (by kernel_rfl) (fun _ _ _ h => h) (Or.inl ⟨by rfl, ?_⟩) hHeld ?_
        rotate_left
        · intro ww hSw
          (try dsimp only at hSw)
          go_simp
          (try with_reducible rfl)
        simp only [Act.put, List.setIfInBounds_toArray, List.set_cons_zero, List.set_cons_succ]
        refine wpAnyH_take (i := 2) (oi := ⟨some 25, _, _, _, _, _⟩) (v := .slice (some ⟨bb, oo, none⟩) s.ways.length c1) rfl (by kernel_rfl) (by kernel_rfl) (by kernel_rfl) (fun _ _ _ h => h) (Or.inl ⟨by rfl, ?_⟩) hHeld ?_
        · intro ww hSw
          (try dsimp only at hSw)
          have hcl := (Below.cell hSw (p := ⟨g, 1, none⟩) hgs).trans (HB.out.cell 1 rfl)
          go_simp
        simp only [Act.put, List.setIfInBounds_toArray, List.set_cons_zero, List.set_cons_succ]
        refine wpAnyH_take (i := 3) (oi := ⟨some 26, _, _, _, _, _⟩) (v := ?_) rfl (by kernel_rfl) (by kernel_rfl) (by kernel_rfl) (fun _ _ _ h => h) (Or.inl ⟨by rfl, ?_⟩) hHeld ?_
        rotate_left
        · intro ww hSw
          (try dsimp only at hSw)
          go_simp
          (try with_reducible rfl)
        simp only [Act.put, List.setIfInBounds_toArray, List.set_cons_zero, List.set_cons_succ]
        refine wpAnyH_take (i := 4) (oi := ⟨some 27, _, _, _, _, _⟩) (v := ?_) rfl (by kernel_rfl) (by kernel_rfl) (by kernel_rfl) (fun _ _ _ h => h) (Or.inl ⟨by rfl, ?_⟩) hHeld ?_
        rotate_left
        · intro ww hSw
          (try dsimp only at hSw)
          go_simp
          (try with_reducible rfl)
        simp only [Act.put, List.setIfInBounds_toArray, List.set_cons_zero, List.set_cons_succ]
        refine wpAnyH_take (i := 5) (oi := ⟨some 28, _, _, _, _, _⟩) (v := ?_) rfl (by kernel_rfl) (by kernel_rfl) (by kernel_rfl) (fun _ _ _ h => h) (Or.inl ⟨by rfl, ?_⟩) hHeld ?_
        rotate_left
        · intro ww hSw
          (try dsimp only at hSw)
          go_simp
          (try with_reducible rfl)
        simp only [Act.put, List.setIfInBounds_toArray, List.set_cons_zero, List.set_cons_succ]
        refine wpAnyH_take (i := 6) (oi := ⟨some 29, _, _, _, _, _⟩) (v := .int .i64 x0) rfl (by kernel_rfl) (by kernel_rfl) (by kernel_rfl) (fun _ _ _ h => h) (Or.inl ⟨by rfl, ?_⟩) hHeld ?_
        · intro ww hSw
          (try dsimp only at hSw)
          have hcl := (Below.cell hSw (p := ⟨bb, oo + j * 3, none⟩) hZs).trans z0
          go_simp
        simp only [Act.put, List.setIfInBounds_toArray, List.set_cons_zero, List.set_cons_succ]
        refine wpAnyH_take (i := 7) (oi := ⟨some 30, _, _, _, _, _⟩) (v := ?_) rfl (by kernel_rfl) (by kernel_rfl) (by kernel_rfl) (fun _ _ _ h => h) (Or.inl ⟨by rfl, ?_⟩) hHeld ?_
        rotate_left
        · intro ww hSw
          (try dsimp only at hSw)
          go_simp
          (try with_reducible rfl)
        simp only [Act.put, List.setIfInBounds_toArray, List.set_cons_zero, List.set_cons_succ]
        refine wpAnyH_take (i := 8) (oi := ⟨some 31, _, _, _, _, _⟩) (v := .slice (some ⟨bb, oo, none⟩) s.ways.length c1) rfl (by kernel_rfl) (by kernel_rfl) (by kernel_rfl) (fun _ _ _ h => h) (Or.inl ⟨by rfl, ?_⟩) hHeld ?_
        · intro ww hSw
          (try dsimp only at hSw)
          have hcl := (Below.cell hSw (p := ⟨g, 1, none⟩) hgs).trans (HB.out.cell 1 rfl)
          go_simp
        simp only [Act.put, List.setIfInBounds_toArray, List.set_cons_zero, List.set_cons_succ]
        refine wpAnyH_take (i := 9) (oi := ⟨some 32, _, _, _, _, _⟩) (v := ?_) rfl (by kernel_rfl) (by kernel_rfl) (by kernel_rfl) (fun _ _ _ h => h) (Or.inl ⟨by rfl, ?_⟩) hHeld ?_
        rotate_left
        · intro ww hSw
          (try dsimp only at hSw)
          go_simp
          (try with_reducible rfl)
        simp only [Act.put, List.setIfInBounds_toArray, List.set_cons_zero, List.set_cons_succ]
        refine wpAnyH_take (i := 10) (oi := ⟨some 33, _, _, _, _, _⟩) (v := ?_) rfl (by kernel_rfl) (by kernel_rfl) (by kernel_rfl) (fun _ _ _ h => h) (Or.inl ⟨by rfl, ?_⟩) hHeld ?_
        rotate_left
        · intro ww hSw
          (try dsimp only at hSw)
          go_simp
          (try with_reducible rfl)
        simp only [Act.put, List.setIfInBounds_toArray, List.set_cons_zero, List.set_cons_succ]
        refine wpAnyH_take (i := 11) (oi := ⟨some 34, _, _, _, _, _⟩) (v := ?_) rfl (by kernel_rfl) (by kernel_rfl) (by kernel_rfl) (fun _ _ _ h => h) (Or.inl ⟨by rfl, ?_⟩) hHeld ?_
        rotate_left
        · intro ww hSw
          (try dsimp only at hSw)
          go_simp
          (try with_reducible rfl)
        simp only [Act.put, List.setIfInBounds_toArray, List.set_cons_zero, List.set_cons_succ]
        refine wpAnyH_take (i := 12) (oi := ⟨some 35, _, _, _, _, _⟩) (v := .int .i64 x1) rfl (by kernel_rfl) (by kernel_rfl) (by kernel_rfl) (fun _ _ _ h => h) (Or.inl ⟨by rfl, ?_⟩) hHeld ?_
        · intro ww hSw
          (try dsimp only at hSw)
          have hcl := (Below.cell hSw (p := ⟨bb, oo + j * 3 + 1, none⟩) hZs).trans z1
          go_simp
        simp only [Act.put, List.setIfInBounds_toArray, List.set_cons_zero, List.set_cons_succ]
        refine wpAnyH_take (i := 13) (oi := ⟨some 36, _, _, _, _, _⟩) (v := ?_) rfl (by kernel_rfl) (by kernel_rfl) (by kernel_rfl) (fun _ _ _ h => h) (Or.inl ⟨by rfl, ?_⟩) hHeld ?_
        rotate_left
        · intro ww hSw
          (try dsimp only at hSw)
          go_simp
          (try with_reducible rfl)
        simp only [Act.put, List.setIfInBounds_toArray, List.set_cons_zero, List.set_cons_succ]
        refine wpAnyH_take (i := 14) (oi := ⟨some 37, _, _, _, _, _⟩) (v := .slice (some ⟨bb, oo, none⟩) s.ways.length c1) rfl (by kernel_rfl) (by kernel_rfl) (by kernel_rfl) (fun _ _ _ h => h) (Or.inl ⟨by rfl, ?_⟩) hHeld ?_
        · intro ww hSw
          (try dsimp only at hSw)
          have hcl := (Below.cell hSw (p := ⟨g, 1, none⟩) hgs).trans (HB.out.cell 1 rfl)
          go_simp
        simp only [Act.put, List.setIfInBounds_toArray, List.set_cons_zero, List.set_cons_succ]
        refine wpAnyH_take (i := 15) (oi := ⟨some 38, _, _, _, _, _⟩) (v := ?_) rfl (by kernel_rfl) (by kernel_rfl) (by kernel_rfl) (fun _ _ _ h => h) (Or.inl ⟨by rfl, ?_⟩) hHeld ?_
        rotate_left
        · intro ww hSw
          (try dsimp only at hSw)
          go_simp
          (try with_reducible rfl)
        simp only [Act.put, List.setIfInBounds_toArray, List.set_cons_zero, List.set_cons_succ]
        refine wpAnyH_take (i := 16) (oi := ⟨some 39, _, _, _, _, _⟩) (v := ?_) rfl (by kernel_rfl) (by kernel_rfl) (by kernel_rfl) (fun _ _ _ h => h) (Or.inl ⟨by rfl, ?_⟩) hHeld ?_
        rotate_left
        · intro ww hSw
          (try dsimp only at hSw)
          go_simp
          (try with_reducible rfl)
        simp only [Act.put, List.setIfInBounds_toArray, List.set_cons_zero, List.set_cons_succ]
        refine wpAnyH_take (i := 17) (oi := ⟨some 40, _, _, _, _, _⟩) (v := ?_) rfl (by kernel_rfl) (by kernel_rfl) (by kernel_rfl) (fun _ _ _ h => h) (Or.inl ⟨by rfl, ?_⟩) hHeld ?_
        rotate_left
        · intro ww hSw
          (try dsimp only at hSw)
          go_simp
          (try with_reducible rfl)
        simp only [Act.put, List.setIfInBounds_toArray, List.set_cons_zero, List.set_cons_succ]
        refine wpAnyH_take (i := 18) (oi := ⟨some 41, _, _, _, _, _⟩) (v := .int .i64 x2) rfl (by kernel_rfl) (by kernel_rfl) (by kernel_rfl) (fun _ _ _ h => h) (Or.inl ⟨by rfl, ?_⟩) hHeld ?_
        · intro ww hSw
          (try dsimp only at hSw)
          have hcl := (Below.cell hSw (p := ⟨bb, oo + j * 3 + 2, none⟩) hZs).trans z2
          go_simp
        simp only [Act.put, List.setIfInBounds_toArray, List.set_cons_zero, List.set_cons_succ]
        refine wpAnyH_ready (rs := [19]) (by kernel_rfl) (by simp) ?_
        refine AllReadyH.cons (o := ⟨some 42, _, _, _, _, _⟩) rfl (fun K hK => ?_) AllReadyH.nil
        go_simp
        refine hK.out _ _ ?_ (fun hHeld => ?_)
        · (try dsimp only)
          (repeat' (first | with_reducible exact Below.refl _ _ | with_reducible assumption | with_reducible refine bel_alloc ?_ _ | with_reducible refine bel_set ?_ ?_ _ | with_reducible refine below_drewN ?_ _ | with_reducible refine below_drew ?_ | (simp; done) | (simp; omega) | omega))
        clear hK K
        (try simp only [Act.put, List.setIfInBounds_toArray, List.set_cons_zero, List.set_cons_succ])
        refine wpAnyH_ready (rs := [20]) (by kernel_rfl) (by simp) ?_
        refine AllReadyH.cons (o := ⟨some 43, _, _, _, _, _⟩) rfl (fun K hK => ?_) AllReadyH.nil
        rw [if_pos (by rfl)]
        refine wp_append_run HR5.out rfl rfl rfl ?_
        refine hK.out _ _ ?_ (fun hHeld => ?_)
        · (try dsimp only)
          exact hb5
        clear hK K
        (try simp only [Act.put, List.setIfInBounds_toArray, List.set_cons_zero, List.set_cons_succ])
        refine wpAnyH_take (i := 21) (oi := ⟨some 3, _, _, _, _, _⟩) (v := ?_) rfl (by kernel_rfl) (by kernel_rfl) (by kernel_rfl) (fun _ _ _ h => h) (Or.inl ⟨by rfl, ?_⟩) hHeld ?_
        rotate_left
        · intro ww hSw
          (try dsimp only at hSw)
          go_simp
          (try with_reducible rfl)
        simp only [Act.put, List.setIfInBounds_toArray, List.set_cons_zero, List.set_cons_succ]
        refine wpAnyH_done (by kernel_rfl) ?_ _
        refine NoPanic.normal ?_
        go_wp2
        go_roundw
        case rel => exact ⟨j + 1, A5, c5, D ++ [x0, x1, x2], L + 3, by omega, by go_num, rfl, hDl5, by omega, HD', hrow5, hb5⟩
        case measure => simp [intOf]; omega
      · obtain rfl : j = s.ways.length := by omega
        rw [List.take_length] at hD
        have hL2 : L ≤ 302 := by omega
        clear hL
        have q2 := (Below.cell hb (p := ⟨g, 2, none⟩) hgs).trans (HB.out.cell 2 rfl)
        have q3 := (Below.cell hb (p := ⟨g, 3, none⟩) hgs).trans (HB.out.cell 3 rfl)
        have q4 := (Below.cell hb (p := ⟨g, 4, none⟩) hgs).trans (HB.out.cell 4 rfl)
        obtain ⟨A7, c7, w7, hr7, hrow7, hbel7⟩ := nrow_lay hrow (ys := [s.pn, s.pd, (s.elements.length : Int)]) hDl (k := 3) rfl (by omega) hb.size (s := wr.heap.size) rfl
        have HR7 : Hid ((Builtin.append_ #[27, 27] 27 #[.slice A L c, .slice (some ⟨wr.heap.size, 0, none⟩) 3 3]).run Try.prog (wr.alloc (.cells #[.int .i64 s.pn, .int .i64 s.pd, .int .i64 ((s.elements.length : Int))] 3)) = .ok (.slice A7 (L + 3) c7) w7) := hr7
        have hb7 := hbel7 wc (Nat.le_refl _) hb
        have hDl7 : (D ++ [s.pn, s.pd, (s.elements.length : Int)]).length = L + 3 := by rw [List.length_append, hDl]; rfl
        clear hr7 hbel7
        have HD7 : Hid (D ++ [s.pn, s.pd, (s.elements.length : Int)] = [s.places, (s.ways.length : Int)] ++ s.ways.flatten ++ [s.pn, s.pd, (s.elements.length : Int)]) := by
          show _ = _
          rw [hD.out]
        clear hD hrow
        go_wp2_with (at_builtin; refine wpList_append_run (o := ⟨some 55, _, _, _, _, _⟩) HR7.out rfl rfl rfl rfl ?_)
        clear HR7 hDl hb
        generalize hDD : D ++ [s.pn, s.pd, (s.elements.length : Int)] = D7 at *
        generalize hLL : L + 3 = L7 at *
        have hL7 : L7 ≤ 305 := by omega
        clear hLL hDD hL2
        go_loopw [3, 5] (fun o i wr => ∃ (j : Nat) (A : Option Addr) (c : Nat) (D : List Int) (L : Nat), j ≤ s.elements.length ∧ i = .int .i64 j ∧ o = .slice A L c ∧ D.length = L ∧ L ≤ 305 + 4 * j ∧ Hid (D = [s.places, (s.ways.length : Int)] ++ s.ways.flatten ++ [s.pn, s.pd, (s.elements.length : Int)] ++ (s.elements.take j).flatten) ∧ NRow wr wc.heap.size A c D ∧ Below wc.heap.size wc wr) (fun _ i _ => s.elements.length - (intOf i).toNat)
        case atStart => exact ⟨0, A7, c7, D7, L7, by omega, rfl, rfl, hDl7, by omega, (by show _ = _; rw [HD7.out]; simp), hrow7, hb7⟩
        case round =>
          obtain ⟨j, A, c, D, L, hj, rfl, rfl, hDl, hL, hD, hrow, hb⟩ := hrel
          have q4 := (Below.cell hb (p := ⟨g, 4, none⟩) hgs).trans (HB.out.cell 4 rfl)
          by_cases hlt : j < s.elements.length
          · have hsn := rows_take_snoc s.elements j hlt
            rw [R2.out j hlt] at hsn
            obtain ⟨bb, oo, rfl⟩ := HSC.out.elements.form (by decide) (by omega)
            have z0 := HSC.out.elements.cell (i := j) (j := 0) hlt (by decide)
            have z1 := HSC.out.elements.cell (i := j) (j := 1) hlt (by decide)
            have z2 := HSC.out.elements.cell (i := j) (j := 2) hlt (by decide)
            have z3 := HSC.out.elements.cell (i := j) (j := 3) hlt (by decide)
            generalize (s.elements.getD j []).getD 0 0 = x0 at *
            generalize (s.elements.getD j []).getD 1 0 = x1 at *
            generalize (s.elements.getD j []).getD 2 0 = x2 at *
            generalize (s.elements.getD j []).getD 3 0 = x3 at *
            simp only [Nat.add_zero] at z0
            have e0 : (j : Int) < (s.elements.length : Int) := by omega
            have HD' : Hid (D ++ [x0, x1, x2, x3] = [s.places, (s.ways.length : Int)] ++ s.ways.flatten ++ [s.pn, s.pd, (s.elements.length : Int)] ++ (s.elements.take (j + 1)).flatten) := by
              show _ = _
              rw [hsn, hD.out]
              simp
            have hZs := cell_lt z0
            have y0 := (hb.cell (p := ⟨bb, oo + j * 4, none⟩) hZs).trans z0
            have y1 := (hb.cell (p := ⟨bb, oo + j * 4 + 1, none⟩) hZs).trans z1
            have y2 := (hb.cell (p := ⟨bb, oo + j * 4 + 2, none⟩) hZs).trans z2
            have y3 := (hb.cell (p := ⟨bb, oo + j * 4 + 3, none⟩) hZs).trans z3
            have hrow1 := hrow.alloc (.cells #[.int .i64 x0, .int .i64 x1, .int .i64 x2, .int .i64 x3] 72)
            have hb1' := bel_alloc hb (.cells #[.int .i64 x0, .int .i64 x1, .int .i64 x2, .int .i64 x3] 72)
            obtain ⟨A5, c5, w5, hr5, hrow5, hbel5⟩ := nrow_lay hrow1 (ys := [x0, x1, x2, x3]) hDl (k := 4) rfl (by omega) hb1'.size (s := wr.heap.size + 1) (by simp)
            have HR5' : Hid ((Builtin.append_ #[27, 27] 27 #[.slice A L c, .slice (some ⟨wr.heap.size + 1, 0, none⟩) 4 4]).run Try.prog ((wr.alloc (.cells #[.int .i64 x0, .int .i64 x1, .int .i64 x2, .int .i64 x3] 72)).alloc (.cells #[.int .i64 x0, .int .i64 x1, .int .i64 x2, .int .i64 x3] 3)) = .ok (.slice A5 (L + 4) c5) w5) := hr5
            have hb5 := hbel5 wc (Nat.le_refl _) hb1'
            have hDl5 : (D ++ [x0, x1, x2, x3]).length = L + 4 := by rw [List.length_append, hDl]; rfl
            clear hr5 hbel5
            go_wp2_with (at_builtin; refine wpList_append_run (o := ⟨some 82, _, _, _, _, _⟩) HR5'.out rfl rfl rfl rfl ?_)
            go_roundw
            case rel => exact ⟨j + 1, A5, c5, D ++ [x0, x1, x2, x3], L + 4, by omega, by go_num, rfl, hDl5, by omega, HD', hrow5, hb5⟩
            case measure => simp [intOf]; omega
          · obtain rfl : j = s.elements.length := by omega
            rw [List.take_length] at hD
            have hL2 : L ≤ 705 := by omega
            clear hL
            have q5 := (Below.cell hb (p := ⟨g, 5, none⟩) hgs).trans (HB.out.cell 5 rfl)
            obtain ⟨A7, c7, w7, hr7, hrow7, hbel7⟩ := nrow_lay hrow (ys := [(s.classes.length : Int)]) hDl (k := 1) rfl (by omega) hb.size (s := wr.heap.size) rfl
            have HR7 : Hid ((Builtin.append_ #[27, 27] 27 #[.slice A L c, .slice (some ⟨wr.heap.size, 0, none⟩) 1 1]).run Try.prog (wr.alloc (.cells #[.int .i64 ((s.classes.length : Int))] 3)) = .ok (.slice A7 (L + 1) c7) w7) := hr7
            have hb7 := hbel7 wc (Nat.le_refl _) hb
            have hDl7 : (D ++ [(s.classes.length : Int)]).length = L + 1 := by rw [List.length_append, hDl]; rfl
            clear hr7 hbel7
            have HD7 : Hid (D ++ [(s.classes.length : Int)] = [s.places, (s.ways.length : Int)] ++ s.ways.flatten ++ [s.pn, s.pd, (s.elements.length : Int)] ++ s.elements.flatten ++ [(s.classes.length : Int)]) := by
              show _ = _
              rw [hD.out]
            clear hD hrow
            go_wp2_with (at_builtin; refine wpList_append_run (o := ⟨some 88, _, _, _, _, _⟩) HR7.out rfl rfl rfl rfl ?_)
            clear HR7 hDl hb
            generalize hDD : D ++ [(s.classes.length : Int)] = D7 at *
            generalize hLL : L + 1 = L7 at *
            have hL7 : L7 ≤ 706 := by omega
            clear hLL hDD hL2
            go_loopw [3, 7] (fun o i wr => ∃ (j : Nat) (A : Option Addr) (c : Nat) (D : List Int) (L : Nat), j ≤ s.classes.length ∧ i = .int .i64 j ∧ o = .slice A L c ∧ D.length = L ∧ L ≤ 706 + 2 * j ∧ Hid (D = [s.places, (s.ways.length : Int)] ++ s.ways.flatten ++ [s.pn, s.pd, (s.elements.length : Int)] ++ s.elements.flatten ++ [(s.classes.length : Int)] ++ (s.classes.take j).flatten) ∧ NRow wr wc.heap.size A c D ∧ Below wc.heap.size wc wr) (fun _ i _ => s.classes.length - (intOf i).toNat)
            case atStart => exact ⟨0, A7, c7, D7, L7, by omega, rfl, rfl, hDl7, by omega, (by show _ = _; rw [HD7.out]; simp), hrow7, hb7⟩
            case round =>
              obtain ⟨j, A, c, D, L, hj, rfl, rfl, hDl, hL, hD, hrow, hb⟩ := hrel
              have q5 := (Below.cell hb (p := ⟨g, 5, none⟩) hgs).trans (HB.out.cell 5 rfl)
              by_cases hlt : j < s.classes.length
              · have hsn := rows_take_snoc s.classes j hlt
                rw [R3.out j hlt] at hsn
                obtain ⟨bb, oo, rfl⟩ := HSC.out.classes.form (by decide) (by omega)
                have z0 := HSC.out.classes.cell (i := j) (j := 0) hlt (by decide)
                have z1 := HSC.out.classes.cell (i := j) (j := 1) hlt (by decide)
                generalize (s.classes.getD j []).getD 0 0 = x0 at *
                generalize (s.classes.getD j []).getD 1 0 = x1 at *
                simp only [Nat.add_zero] at z0
                have e0 : (j : Int) < (s.classes.length : Int) := by omega
                have HD' : Hid (D ++ [x0, x1] = [s.places, (s.ways.length : Int)] ++ s.ways.flatten ++ [s.pn, s.pd, (s.elements.length : Int)] ++ s.elements.flatten ++ [(s.classes.length : Int)] ++ (s.classes.take (j + 1)).flatten) := by
                  show _ = _
                  rw [hsn, hD.out]
                  simp
                have hZs := cell_lt z0
                obtain ⟨A5, c5, w5, hr5, hrow5, hbel5⟩ := nrow_lay hrow.drew (ys := [x0, x1]) hDl (k := 2) rfl (by omega) hb.size (s := wr.heap.size) rfl
                have HR5 : Hid ((Builtin.append_ #[27, 27] 27 #[.slice A L c, .slice (some ⟨wr.heap.size, 0, none⟩) 2 2]).run Try.prog (wr.alloc (.cells #[.int .i64 x0, .int .i64 x1] 3)).drew = .ok (.slice A5 (L + 2) c5) w5) := hr5
                have hb5 := hbel5 wc (Nat.le_refl _) (below_drew hb)
                have hDl5 : (D ++ [x0, x1]).length = L + 2 := by rw [List.length_append, hDl]; rfl
                clear hr5 hbel5
                clear hsn hrow
                go_wp2
                refine wp_region_noPanic ?_
                refine wp_region_held_drew (S := fun w' => Below wc.heap.size wc w') (by kernel_rfl) (below_drew (hb)) (fun hHeld => ?_)
                refine wpAnyH_take (i := 0) (oi := ⟨some 96, _, _, _, _, _⟩) (v := ?_) rfl (by kernel_rfl) (by kernel_rfl) (by kernel_rfl) (fun _ _ _ h => h) (Or.inl ⟨by rfl, ?_⟩) hHeld ?_
                rotate_left
                · intro ww hSw
                  (try dsimp only at hSw)
                  go_simp
                  (try with_reducible rfl)
                simp only [Act.put, List.setIfInBounds_toArray, List.set_cons_zero, List.set_cons_succ]
                refine wpAnyH_take (i := 1) (oi := ⟨some 97, _, _, _, _, _⟩) (v := ?_) rfl (by kernel_rfl) (by kernel_rfl) (by kernel_rfl) (fun _ _ _ h => h) (Or.inl ⟨by rfl, ?_⟩) hHeld ?_
                rotate_left
                · intro ww hSw
                  (try dsimp only at hSw)
                  go_simp
                  (try with_reducible rfl)
                simp only [Act.put, List.setIfInBounds_toArray, List.set_cons_zero, List.set_cons_succ]
                refine wpAnyH_take (i := 2) (oi := ⟨some 98, _, _, _, _, _⟩) (v := .slice (some ⟨bb, oo, none⟩) s.classes.length c3) rfl (by kernel_rfl) (by kernel_rfl) (by kernel_rfl) (fun _ _ _ h => h) (Or.inl ⟨by rfl, ?_⟩) hHeld ?_
                · intro ww hSw
                  (try dsimp only at hSw)
                  have hcl := (Below.cell hSw (p := ⟨g, 5, none⟩) hgs).trans (HB.out.cell 5 rfl)
                  go_simp
                simp only [Act.put, List.setIfInBounds_toArray, List.set_cons_zero, List.set_cons_succ]
                refine wpAnyH_take (i := 3) (oi := ⟨some 99, _, _, _, _, _⟩) (v := ?_) rfl (by kernel_rfl) (by kernel_rfl) (by kernel_rfl) (fun _ _ _ h => h) (Or.inl ⟨by rfl, ?_⟩) hHeld ?_
                rotate_left
                · intro ww hSw
                  (try dsimp only at hSw)
                  go_simp
                  (try with_reducible rfl)
                simp only [Act.put, List.setIfInBounds_toArray, List.set_cons_zero, List.set_cons_succ]
                refine wpAnyH_take (i := 4) (oi := ⟨some 100, _, _, _, _, _⟩) (v := ?_) rfl (by kernel_rfl) (by kernel_rfl) (by kernel_rfl) (fun _ _ _ h => h) (Or.inl ⟨by rfl, ?_⟩) hHeld ?_
                rotate_left
                · intro ww hSw
                  (try dsimp only at hSw)
                  go_simp
                  (try with_reducible rfl)
                simp only [Act.put, List.setIfInBounds_toArray, List.set_cons_zero, List.set_cons_succ]
                refine wpAnyH_take (i := 5) (oi := ⟨some 101, _, _, _, _, _⟩) (v := ?_) rfl (by kernel_rfl) (by kernel_rfl) (by kernel_rfl) (fun _ _ _ h => h) (Or.inl ⟨by rfl, ?_⟩) hHeld ?_
                rotate_left
                · intro ww hSw
                  (try dsimp only at hSw)
                  go_simp
                  (try with_reducible rfl)
                simp only [Act.put, List.setIfInBounds_toArray, List.set_cons_zero, List.set_cons_succ]
                refine wpAnyH_take (i := 6) (oi := ⟨some 102, _, _, _, _, _⟩) (v := .int .i64 x0) rfl (by kernel_rfl) (by kernel_rfl) (by kernel_rfl) (fun _ _ _ h => h) (Or.inl ⟨by rfl, ?_⟩) hHeld ?_
                · intro ww hSw
                  (try dsimp only at hSw)
                  have hcl := (Below.cell hSw (p := ⟨bb, oo + j * 2, none⟩) hZs).trans z0
                  go_simp
                simp only [Act.put, List.setIfInBounds_toArray, List.set_cons_zero, List.set_cons_succ]
                refine wpAnyH_take (i := 7) (oi := ⟨some 103, _, _, _, _, _⟩) (v := ?_) rfl (by kernel_rfl) (by kernel_rfl) (by kernel_rfl) (fun _ _ _ h => h) (Or.inl ⟨by rfl, ?_⟩) hHeld ?_
                rotate_left
                · intro ww hSw
                  (try dsimp only at hSw)
                  go_simp
                  (try with_reducible rfl)
                simp only [Act.put, List.setIfInBounds_toArray, List.set_cons_zero, List.set_cons_succ]
                refine wpAnyH_take (i := 8) (oi := ⟨some 104, _, _, _, _, _⟩) (v := .slice (some ⟨bb, oo, none⟩) s.classes.length c3) rfl (by kernel_rfl) (by kernel_rfl) (by kernel_rfl) (fun _ _ _ h => h) (Or.inl ⟨by rfl, ?_⟩) hHeld ?_
                · intro ww hSw
                  (try dsimp only at hSw)
                  have hcl := (Below.cell hSw (p := ⟨g, 5, none⟩) hgs).trans (HB.out.cell 5 rfl)
                  go_simp
                simp only [Act.put, List.setIfInBounds_toArray, List.set_cons_zero, List.set_cons_succ]
                refine wpAnyH_take (i := 9) (oi := ⟨some 105, _, _, _, _, _⟩) (v := ?_) rfl (by kernel_rfl) (by kernel_rfl) (by kernel_rfl) (fun _ _ _ h => h) (Or.inl ⟨by rfl, ?_⟩) hHeld ?_
                rotate_left
                · intro ww hSw
                  (try dsimp only at hSw)
                  go_simp
                  (try with_reducible rfl)
                simp only [Act.put, List.setIfInBounds_toArray, List.set_cons_zero, List.set_cons_succ]
                refine wpAnyH_take (i := 10) (oi := ⟨some 106, _, _, _, _, _⟩) (v := ?_) rfl (by kernel_rfl) (by kernel_rfl) (by kernel_rfl) (fun _ _ _ h => h) (Or.inl ⟨by rfl, ?_⟩) hHeld ?_
                rotate_left
                · intro ww hSw
                  (try dsimp only at hSw)
                  go_simp
                  (try with_reducible rfl)
                simp only [Act.put, List.setIfInBounds_toArray, List.set_cons_zero, List.set_cons_succ]
                refine wpAnyH_take (i := 11) (oi := ⟨some 107, _, _, _, _, _⟩) (v := ?_) rfl (by kernel_rfl) (by kernel_rfl) (by kernel_rfl) (fun _ _ _ h => h) (Or.inl ⟨by rfl, ?_⟩) hHeld ?_
                rotate_left
                · intro ww hSw
                  (try dsimp only at hSw)
                  go_simp
                  (try with_reducible rfl)
                simp only [Act.put, List.setIfInBounds_toArray, List.set_cons_zero, List.set_cons_succ]
                refine wpAnyH_take (i := 12) (oi := ⟨some 108, _, _, _, _, _⟩) (v := .int .i64 x1) rfl (by kernel_rfl) (by kernel_rfl) (by kernel_rfl) (fun _ _ _ h => h) (Or.inl ⟨by rfl, ?_⟩) hHeld ?_
                · intro ww hSw
                  (try dsimp only at hSw)
                  have hcl := (Below.cell hSw (p := ⟨bb, oo + j * 2 + 1, none⟩) hZs).trans z1
                  go_simp
                simp only [Act.put, List.setIfInBounds_toArray, List.set_cons_zero, List.set_cons_succ]
                refine wpAnyH_ready (rs := [13]) (by kernel_rfl) (by simp) ?_
                refine AllReadyH.cons (o := ⟨some 109, _, _, _, _, _⟩) rfl (fun K hK => ?_) AllReadyH.nil
                go_simp
                refine hK.out _ _ ?_ (fun hHeld => ?_)
                · (try dsimp only)
                  (repeat' (first | with_reducible exact Below.refl _ _ | with_reducible assumption | with_reducible refine bel_alloc ?_ _ | with_reducible refine bel_set ?_ ?_ _ | with_reducible refine below_drewN ?_ _ | with_reducible refine below_drew ?_ | (simp; done) | (simp; omega) | omega))
                clear hK K
                (try simp only [Act.put, List.setIfInBounds_toArray, List.set_cons_zero, List.set_cons_succ])
                refine wpAnyH_ready (rs := [14]) (by kernel_rfl) (by simp) ?_
                refine AllReadyH.cons (o := ⟨some 110, _, _, _, _, _⟩) rfl (fun K hK => ?_) AllReadyH.nil
                rw [if_pos (by rfl)]
                refine wp_append_run HR5.out rfl rfl rfl ?_
                refine hK.out _ _ ?_ (fun hHeld => ?_)
                · (try dsimp only)
                  exact hb5
                clear hK K
                (try simp only [Act.put, List.setIfInBounds_toArray, List.set_cons_zero, List.set_cons_succ])
                refine wpAnyH_take (i := 15) (oi := ⟨some 3, _, _, _, _, _⟩) (v := ?_) rfl (by kernel_rfl) (by kernel_rfl) (by kernel_rfl) (fun _ _ _ h => h) (Or.inl ⟨by rfl, ?_⟩) hHeld ?_
                rotate_left
                · intro ww hSw
                  (try dsimp only at hSw)
                  go_simp
                  (try with_reducible rfl)
                simp only [Act.put, List.setIfInBounds_toArray, List.set_cons_zero, List.set_cons_succ]
                refine wpAnyH_done (by kernel_rfl) ?_ _
                refine NoPanic.normal ?_
                go_wp2
                go_roundw
                case rel => exact ⟨j + 1, A5, c5, D ++ [x0, x1], L + 2, by omega, by go_num, rfl, hDl5, by omega, HD', hrow5, hb5⟩
                case measure => simp [intOf]; omega
              · obtain rfl : j = s.classes.length := by omega
                rw [List.take_length] at hD
                have hL2 : L ≤ 906 := by omega
                clear hL
                have q6 := (Below.cell hb (p := ⟨g, 6, none⟩) hgs).trans (HB.out.cell 6 rfl)
                obtain ⟨A7, c7, w7, hr7, hrow7, hbel7⟩ := nrow_lay hrow (ys := [(s.gears.length : Int)]) hDl (k := 1) rfl (by omega) hb.size (s := wr.heap.size) rfl
                have HR7 : Hid ((Builtin.append_ #[27, 27] 27 #[.slice A L c, .slice (some ⟨wr.heap.size, 0, none⟩) 1 1]).run Try.prog (wr.alloc (.cells #[.int .i64 ((s.gears.length : Int))] 3)) = .ok (.slice A7 (L + 1) c7) w7) := hr7
                have hb7 := hbel7 wc (Nat.le_refl _) hb
                have hDl7 : (D ++ [(s.gears.length : Int)]).length = L + 1 := by rw [List.length_append, hDl]; rfl
                clear hr7 hbel7
                have HD7 : Hid (D ++ [(s.gears.length : Int)] = [s.places, (s.ways.length : Int)] ++ s.ways.flatten ++ [s.pn, s.pd, (s.elements.length : Int)] ++ s.elements.flatten ++ [(s.classes.length : Int)] ++ s.classes.flatten ++ [(s.gears.length : Int)]) := by
                  show _ = _
                  rw [hD.out]
                clear hD hrow
                go_wp2_with (at_builtin; refine wpList_append_run (o := ⟨some 116, _, _, _, _, _⟩) HR7.out rfl rfl rfl rfl ?_)
                clear HR7 hDl hb
                generalize hDD : D ++ [(s.gears.length : Int)] = D7 at *
                generalize hLL : L + 1 = L7 at *
                have hL7 : L7 ≤ 907 := by omega
                clear hLL hDD hL2
                go_loopw [3, 8] (fun o i wr => ∃ (j : Nat) (A : Option Addr) (c : Nat) (D : List Int) (L : Nat), j ≤ s.gears.length ∧ i = .int .i64 j ∧ o = .slice A L c ∧ D.length = L ∧ L ≤ 907 + 2 * j ∧ Hid (D = [s.places, (s.ways.length : Int)] ++ s.ways.flatten ++ [s.pn, s.pd, (s.elements.length : Int)] ++ s.elements.flatten ++ [(s.classes.length : Int)] ++ s.classes.flatten ++ [(s.gears.length : Int)] ++ (s.gears.take j).flatten) ∧ NRow wr wc.heap.size A c D ∧ Below wc.heap.size wc wr) (fun _ i _ => s.gears.length - (intOf i).toNat)
                case atStart => exact ⟨0, A7, c7, D7, L7, by omega, rfl, rfl, hDl7, by omega, (by show _ = _; rw [HD7.out]; simp), hrow7, hb7⟩
                case round =>
                  obtain ⟨j, A, c, D, L, hj, rfl, rfl, hDl, hL, hD, hrow, hb⟩ := hrel
                  have q6 := (Below.cell hb (p := ⟨g, 6, none⟩) hgs).trans (HB.out.cell 6 rfl)
                  by_cases hlt : j < s.gears.length
                  · have hsn := rows_take_snoc s.gears j hlt
                    rw [R4.out j hlt] at hsn
                    obtain ⟨bb, oo, rfl⟩ := HSC.out.gears.form (by decide) (by omega)
                    have z0 := HSC.out.gears.cell (i := j) (j := 0) hlt (by decide)
                    have z1 := HSC.out.gears.cell (i := j) (j := 1) hlt (by decide)
                    generalize (s.gears.getD j []).getD 0 0 = x0 at *
                    generalize (s.gears.getD j []).getD 1 0 = x1 at *
                    simp only [Nat.add_zero] at z0
                    have e0 : (j : Int) < (s.gears.length : Int) := by omega
                    have HD' : Hid (D ++ [x0, x1] = [s.places, (s.ways.length : Int)] ++ s.ways.flatten ++ [s.pn, s.pd, (s.elements.length : Int)] ++ s.elements.flatten ++ [(s.classes.length : Int)] ++ s.classes.flatten ++ [(s.gears.length : Int)] ++ (s.gears.take (j + 1)).flatten) := by
                      show _ = _
                      rw [hsn, hD.out]
                      simp
                    have hZs := cell_lt z0
                    obtain ⟨A5, c5, w5, hr5, hrow5, hbel5⟩ := nrow_lay hrow.drew (ys := [x0, x1]) hDl (k := 2) rfl (by omega) hb.size (s := wr.heap.size) rfl
                    have HR5 : Hid ((Builtin.append_ #[27, 27] 27 #[.slice A L c, .slice (some ⟨wr.heap.size, 0, none⟩) 2 2]).run Try.prog (wr.alloc (.cells #[.int .i64 x0, .int .i64 x1] 3)).drew = .ok (.slice A5 (L + 2) c5) w5) := hr5
                    have hb5 := hbel5 wc (Nat.le_refl _) (below_drew hb)
                    have hDl5 : (D ++ [x0, x1]).length = L + 2 := by rw [List.length_append, hDl]; rfl
                    clear hr5 hbel5
                    clear hsn hrow
                    go_wp2
                    refine wp_region_noPanic ?_
                    refine wp_region_held_drew (S := fun w' => Below wc.heap.size wc w') (by kernel_rfl) (below_drew (hb)) (fun hHeld => ?_)
                    refine wpAnyH_take (i := 0) (oi := ⟨some 124, _, _, _, _, _⟩) (v := ?_) rfl (by kernel_rfl) (by kernel_rfl) (by kernel_rfl) (fun _ _ _ h => h) (Or.inl ⟨by rfl, ?_⟩) hHeld ?_
                    rotate_left
                    · intro ww hSw
                      (try dsimp only at hSw)
                      go_simp
                      (try with_reducible rfl)
                    simp only [Act.put, List.setIfInBounds_toArray, List.set_cons_zero, List.set_cons_succ]
                    refine wpAnyH_take (i := 1) (oi := ⟨some 125, _, _, _, _, _⟩) (v := ?_) rfl (by kernel_rfl) (by kernel_rfl) (by kernel_rfl) (fun _ _ _ h => h) (Or.inl ⟨by rfl, ?_⟩) hHeld ?_
                    rotate_left
                    · intro ww hSw
                      (try dsimp only at hSw)
                      go_simp
                      (try with_reducible rfl)
                    simp only [Act.put, List.setIfInBounds_toArray, List.set_cons_zero, List.set_cons_succ]
                    refine wpAnyH_take (i := 2) (oi := ⟨some 126, _, _, _, _, _⟩) (v := .slice (some ⟨bb, oo, none⟩) s.gears.length c4) rfl (by kernel_rfl) (by kernel_rfl) (by kernel_rfl) (fun _ _ _ h => h) (Or.inl ⟨by rfl, ?_⟩) hHeld ?_
                    · intro ww hSw
                      (try dsimp only at hSw)
                      have hcl := (Below.cell hSw (p := ⟨g, 6, none⟩) hgs).trans (HB.out.cell 6 rfl)
                      go_simp
                    simp only [Act.put, List.setIfInBounds_toArray, List.set_cons_zero, List.set_cons_succ]
                    refine wpAnyH_take (i := 3) (oi := ⟨some 127, _, _, _, _, _⟩) (v := ?_) rfl (by kernel_rfl) (by kernel_rfl) (by kernel_rfl) (fun _ _ _ h => h) (Or.inl ⟨by rfl, ?_⟩) hHeld ?_
                    rotate_left
                    · intro ww hSw
                      (try dsimp only at hSw)
                      go_simp
                      (try with_reducible rfl)
                    simp only [Act.put, List.setIfInBounds_toArray, List.set_cons_zero, List.set_cons_succ]
                    refine wpAnyH_take (i := 4) (oi := ⟨some 128, _, _, _, _, _⟩) (v := ?_) rfl (by kernel_rfl) (by kernel_rfl) (by kernel_rfl) (fun _ _ _ h => h) (Or.inl ⟨by rfl, ?_⟩) hHeld ?_
                    rotate_left
                    · intro ww hSw
                      (try dsimp only at hSw)
                      go_simp
                      (try with_reducible rfl)
                    simp only [Act.put, List.setIfInBounds_toArray, List.set_cons_zero, List.set_cons_succ]
                    refine wpAnyH_take (i := 5) (oi := ⟨some 129, _, _, _, _, _⟩) (v := ?_) rfl (by kernel_rfl) (by kernel_rfl) (by kernel_rfl) (fun _ _ _ h => h) (Or.inl ⟨by rfl, ?_⟩) hHeld ?_
                    rotate_left
                    · intro ww hSw
                      (try dsimp only at hSw)
                      go_simp
                      (try with_reducible rfl)
                    simp only [Act.put, List.setIfInBounds_toArray, List.set_cons_zero, List.set_cons_succ]
                    refine wpAnyH_take (i := 6) (oi := ⟨some 130, _, _, _, _, _⟩) (v := .int .i64 x0) rfl (by kernel_rfl) (by kernel_rfl) (by kernel_rfl) (fun _ _ _ h => h) (Or.inl ⟨by rfl, ?_⟩) hHeld ?_
                    · intro ww hSw
                      (try dsimp only at hSw)
                      have hcl := (Below.cell hSw (p := ⟨bb, oo + j * 2, none⟩) hZs).trans z0
                      go_simp
                    simp only [Act.put, List.setIfInBounds_toArray, List.set_cons_zero, List.set_cons_succ]
                    refine wpAnyH_take (i := 7) (oi := ⟨some 131, _, _, _, _, _⟩) (v := ?_) rfl (by kernel_rfl) (by kernel_rfl) (by kernel_rfl) (fun _ _ _ h => h) (Or.inl ⟨by rfl, ?_⟩) hHeld ?_
                    rotate_left
                    · intro ww hSw
                      (try dsimp only at hSw)
                      go_simp
                      (try with_reducible rfl)
                    simp only [Act.put, List.setIfInBounds_toArray, List.set_cons_zero, List.set_cons_succ]
                    refine wpAnyH_take (i := 8) (oi := ⟨some 132, _, _, _, _, _⟩) (v := .slice (some ⟨bb, oo, none⟩) s.gears.length c4) rfl (by kernel_rfl) (by kernel_rfl) (by kernel_rfl) (fun _ _ _ h => h) (Or.inl ⟨by rfl, ?_⟩) hHeld ?_
                    · intro ww hSw
                      (try dsimp only at hSw)
                      have hcl := (Below.cell hSw (p := ⟨g, 6, none⟩) hgs).trans (HB.out.cell 6 rfl)
                      go_simp
                    simp only [Act.put, List.setIfInBounds_toArray, List.set_cons_zero, List.set_cons_succ]
                    refine wpAnyH_take (i := 9) (oi := ⟨some 133, _, _, _, _, _⟩) (v := ?_) rfl (by kernel_rfl) (by kernel_rfl) (by kernel_rfl) (fun _ _ _ h => h) (Or.inl ⟨by rfl, ?_⟩) hHeld ?_
                    rotate_left
                    · intro ww hSw
                      (try dsimp only at hSw)
                      go_simp
                      (try with_reducible rfl)
                    simp only [Act.put, List.setIfInBounds_toArray, List.set_cons_zero, List.set_cons_succ]
                    refine wpAnyH_take (i := 10) (oi := ⟨some 134, _, _, _, _, _⟩) (v := ?_) rfl (by kernel_rfl) (by kernel_rfl) (by kernel_rfl) (fun _ _ _ h => h) (Or.inl ⟨by rfl, ?_⟩) hHeld ?_
                    rotate_left
                    · intro ww hSw
                      (try dsimp only at hSw)
                      go_simp
                      (try with_reducible rfl)
                    simp only [Act.put, List.setIfInBounds_toArray, List.set_cons_zero, List.set_cons_succ]
                    refine wpAnyH_take (i := 11) (oi := ⟨some 135, _, _, _, _, _⟩) (v := ?_) rfl (by kernel_rfl) (by kernel_rfl) (by kernel_rfl) (fun _ _ _ h => h) (Or.inl ⟨by rfl, ?_⟩) hHeld ?_
                    rotate_left
                    · intro ww hSw
                      (try dsimp only at hSw)
                      go_simp
                      (try with_reducible rfl)
                    simp only [Act.put, List.setIfInBounds_toArray, List.set_cons_zero, List.set_cons_succ]
                    refine wpAnyH_take (i := 12) (oi := ⟨some 136, _, _, _, _, _⟩) (v := .int .i64 x1) rfl (by kernel_rfl) (by kernel_rfl) (by kernel_rfl) (fun _ _ _ h => h) (Or.inl ⟨by rfl, ?_⟩) hHeld ?_
                    · intro ww hSw
                      (try dsimp only at hSw)
                      have hcl := (Below.cell hSw (p := ⟨bb, oo + j * 2 + 1, none⟩) hZs).trans z1
                      go_simp
                    simp only [Act.put, List.setIfInBounds_toArray, List.set_cons_zero, List.set_cons_succ]
                    refine wpAnyH_ready (rs := [13]) (by kernel_rfl) (by simp) ?_
                    refine AllReadyH.cons (o := ⟨some 137, _, _, _, _, _⟩) rfl (fun K hK => ?_) AllReadyH.nil
                    go_simp
                    refine hK.out _ _ ?_ (fun hHeld => ?_)
                    · (try dsimp only)
                      (repeat' (first | with_reducible exact Below.refl _ _ | with_reducible assumption | with_reducible refine bel_alloc ?_ _ | with_reducible refine bel_set ?_ ?_ _ | with_reducible refine below_drewN ?_ _ | with_reducible refine below_drew ?_ | (simp; done) | (simp; omega) | omega))
                    clear hK K
                    (try simp only [Act.put, List.setIfInBounds_toArray, List.set_cons_zero, List.set_cons_succ])
                    refine wpAnyH_ready (rs := [14]) (by kernel_rfl) (by simp) ?_
                    refine AllReadyH.cons (o := ⟨some 138, _, _, _, _, _⟩) rfl (fun K hK => ?_) AllReadyH.nil
                    rw [if_pos (by rfl)]
                    refine wp_append_run HR5.out rfl rfl rfl ?_
                    refine hK.out _ _ ?_ (fun hHeld => ?_)
                    · (try dsimp only)
                      exact hb5
                    clear hK K
                    (try simp only [Act.put, List.setIfInBounds_toArray, List.set_cons_zero, List.set_cons_succ])
                    refine wpAnyH_take (i := 15) (oi := ⟨some 3, _, _, _, _, _⟩) (v := ?_) rfl (by kernel_rfl) (by kernel_rfl) (by kernel_rfl) (fun _ _ _ h => h) (Or.inl ⟨by rfl, ?_⟩) hHeld ?_
                    rotate_left
                    · intro ww hSw
                      (try dsimp only at hSw)
                      go_simp
                      (try with_reducible rfl)
                    simp only [Act.put, List.setIfInBounds_toArray, List.set_cons_zero, List.set_cons_succ]
                    refine wpAnyH_done (by kernel_rfl) ?_ _
                    refine NoPanic.normal ?_
                    go_wp2
                    go_roundw
                    case rel => exact ⟨j + 1, A5, c5, D ++ [x0, x1], L + 2, by omega, by go_num, rfl, hDl5, by omega, HD', hrow5, hb5⟩
                    case measure => simp [intOf]; omega
                  · obtain rfl : j = s.gears.length := by omega
                    rw [List.take_length] at hD
                    have hL2 : L ≤ 1107 := by omega
                    clear hL
                    have q7 := (Below.cell hb (p := ⟨g, 7, none⟩) hgs).trans (HB.out.cell 7 rfl)
                    have q8 := (Below.cell hb (p := ⟨g, 8, none⟩) hgs).trans (HB.out.cell 8 rfl)
                    have q9 := (Below.cell hb (p := ⟨g, 9, none⟩) hgs).trans (HB.out.cell 9 rfl)
                    have q10 := (Below.cell hb (p := ⟨g, 10, none⟩) hgs).trans (HB.out.cell 10 rfl)
                    have q11 := (Below.cell hb (p := ⟨g, 11, none⟩) hgs).trans (HB.out.cell 11 rfl)
                    have q12 := (Below.cell hb (p := ⟨g, 12, none⟩) hgs).trans (HB.out.cell 12 rfl)
                    have q13 := (Below.cell hb (p := ⟨g, 13, none⟩) hgs).trans (HB.out.cell 13 rfl)
                    have q14 := (Below.cell hb (p := ⟨g, 14, none⟩) hgs).trans (HB.out.cell 14 rfl)
                    have q15 := (Below.cell hb (p := ⟨g, 15, none⟩) hgs).trans (HB.out.cell 15 rfl)
                    have q16 := (Below.cell hb (p := ⟨g, 16, none⟩) hgs).trans (HB.out.cell 16 rfl)
                    have q17 := (Below.cell hb (p := ⟨g, 17, none⟩) hgs).trans (HB.out.cell 17 rfl)
                    obtain ⟨A7, c7, w7, hr7, hrow7, hbel7⟩ := nrow_lay hrow (ys := [s.allow, s.unit, s.cap, s.paid, s.aft, s.brk, s.reg, s.over, s.week, s.nfrom, s.nto]) hDl (k := 11) rfl (by omega) hb.size (s := wr.heap.size) rfl
                    have HR7 : Hid ((Builtin.append_ #[27, 27] 27 #[.slice A L c, .slice (some ⟨wr.heap.size, 0, none⟩) 11 11]).run Try.prog (wr.alloc (.cells #[.int .i64 s.allow, .int .i64 s.unit, .int .i64 s.cap, .int .i64 s.paid, .int .i64 s.aft, .int .i64 s.brk, .int .i64 s.reg, .int .i64 s.over, .int .i64 s.week, .int .i64 s.nfrom, .int .i64 s.nto] 3)) = .ok (.slice A7 (L + 11) c7) w7) := hr7
                    have hb7 := hbel7 wc (Nat.le_refl _) hb
                    have hDl7 : (D ++ [s.allow, s.unit, s.cap, s.paid, s.aft, s.brk, s.reg, s.over, s.week, s.nfrom, s.nto]).length = L + 11 := by rw [List.length_append, hDl]; rfl
                    clear hr7 hbel7
                    have HD7 : Hid (D ++ [s.allow, s.unit, s.cap, s.paid, s.aft, s.brk, s.reg, s.over, s.week, s.nfrom, s.nto] = [s.places, (s.ways.length : Int)] ++ s.ways.flatten ++ [s.pn, s.pd, (s.elements.length : Int)] ++ s.elements.flatten ++ [(s.classes.length : Int)] ++ s.classes.flatten ++ [(s.gears.length : Int)] ++ s.gears.flatten ++ [s.allow, s.unit, s.cap, s.paid, s.aft, s.brk, s.reg, s.over, s.week, s.nfrom, s.nto]) := by
                      show _ = _
                      rw [hD.out]
                    clear hD hrow
                    go_wp2_with (at_builtin; refine wpList_append_run (o := ⟨some 163, _, _, _, _, _⟩) HR7.out rfl rfl rfl rfl ?_)
                    clear HR7 hDl hb q7 q8 q9 q10 q11 q12 q13 q14 q15 q16 q17
                    generalize hDD : D ++ [s.allow, s.unit, s.cap, s.paid, s.aft, s.brk, s.reg, s.over, s.week, s.nfrom, s.nto] = D7 at *
                    generalize hLL : L + 11 = L7 at *
                    have hL7 : L7 ≤ 1118 := by omega
                    clear hLL hDD hL2
                    obtain ⟨A8, c8, w8, hr8, hrow8, hbel8⟩ := nrow_lay hrow7.drew (ys := [(s.rates.length : Int)]) hDl7 (k := 1) rfl (by omega) hb7.size (s := w7.heap.size) rfl
                    have HR8 : Hid ((Builtin.append_ #[27, 27] 27 #[.slice A7 L7 c7, .slice (some ⟨w7.heap.size, 0, none⟩) 1 1]).run Try.prog (w7.alloc (.cells #[.int .i64 ((s.rates.length : Int))] 3)).drew = .ok (.slice A8 (L7 + 1) c8) w8) := hr8
                    have hb8 := hbel8 wc (Nat.le_refl _) (below_drew hb7)
                    have hDl8 : (D7 ++ [(s.rates.length : Int)]).length = L7 + 1 := by rw [List.length_append, hDl7]; rfl
                    clear hr8 hbel8
                    have hsr := (tab_ints HSC.out.rates).below hb8
                    obtain ⟨A9, c9, w9, hr9, hrow9, hbel9⟩ := nrow_append hrow8 hDl8 hsr rfl (by omega) hb8.size
                    have HR9 := Lib.hid hr9
                    have hb9 := hbel9 wc (Nat.le_refl _) hb8
                    have hDl9 : (D7 ++ [(s.rates.length : Int)] ++ s.rates).length = L7 + 1 + s.rates.length := by rw [List.length_append, hDl8]
                    clear hr9 hbel9 hsr hrow7
                    have HD9 : Hid (D7 ++ [(s.rates.length : Int)] ++ s.rates = [s.places, (s.ways.length : Int)] ++ s.ways.flatten ++ [s.pn, s.pd, (s.elements.length : Int)] ++ s.elements.flatten ++ [(s.classes.length : Int)] ++ s.classes.flatten ++ [(s.gears.length : Int)] ++ s.gears.flatten ++ [s.allow, s.unit, s.cap, s.paid, s.aft, s.brk, s.reg, s.over, s.week, s.nfrom, s.nto] ++ [(s.rates.length : Int)] ++ s.rates) := by
                      show _ = _
                      rw [HD7.out]
                    clear HD7
                    go_wp2
                    refine wp_region_noPanic ?_
                    refine wp_region_held_drew (S := fun w' => Below wc.heap.size wc w') (by kernel_rfl) (below_drew (hb7)) (fun hHeld => ?_)
                    refine wpAnyH_take (i := 0) (oi := ⟨some 164, _, _, _, _, _⟩) (v := ?_) rfl (by kernel_rfl) (by kernel_rfl) (by kernel_rfl) (fun _ _ _ h => h) (Or.inl ⟨by rfl, ?_⟩) hHeld ?_
                    rotate_left
                    · intro ww hSw
                      (try dsimp only at hSw)
                      go_simp
                      (try with_reducible rfl)
                    simp only [Act.put, List.setIfInBounds_toArray, List.set_cons_zero, List.set_cons_succ]
                    refine wpAnyH_take (i := 1) (oi := ⟨some 165, _, _, _, _, _⟩) (v := ?_) rfl (by kernel_rfl) (by kernel_rfl) (by kernel_rfl) (fun _ _ _ h => h) (Or.inl ⟨by rfl, ?_⟩) hHeld ?_
                    rotate_left
                    · intro ww hSw
                      (try dsimp only at hSw)
                      go_simp
                      (try with_reducible rfl)
                    simp only [Act.put, List.setIfInBounds_toArray, List.set_cons_zero, List.set_cons_succ]
                    refine wpAnyH_take (i := 2) (oi := ⟨some 166, _, _, _, _, _⟩) (v := .slice A5 s.rates.length c5) rfl (by kernel_rfl) (by kernel_rfl) (by kernel_rfl) (fun _ _ _ h => h) (Or.inl ⟨by rfl, ?_⟩) hHeld ?_
                    · intro ww hSw
                      (try dsimp only at hSw)
                      have hcl := (Below.cell hSw (p := ⟨g, 18, none⟩) hgs).trans (HB.out.cell 18 rfl)
                      go_simp
                    simp only [Act.put, List.setIfInBounds_toArray, List.set_cons_zero, List.set_cons_succ]
                    refine wpAnyH_take (i := 3) (oi := ⟨some 167, _, _, _, _, _⟩) (v := ?_) rfl (by kernel_rfl) (by kernel_rfl) (by kernel_rfl) (fun _ _ _ h => h) (Or.inl ⟨by rfl, ?_⟩) hHeld ?_
                    rotate_left
                    · intro ww hSw
                      (try dsimp only at hSw)
                      go_simp
                      (try with_reducible rfl)
                    simp only [Act.put, List.setIfInBounds_toArray, List.set_cons_zero, List.set_cons_succ]
                    refine wpAnyH_take (i := 6) (oi := ⟨some 170, _, _, _, _, _⟩) (v := ?_) rfl (by kernel_rfl) (by kernel_rfl) (by kernel_rfl) (fun _ _ _ h => h) (Or.inl ⟨by rfl, ?_⟩) hHeld ?_
                    rotate_left
                    · intro ww hSw
                      (try dsimp only at hSw)
                      go_simp
                      (try with_reducible rfl)
                    simp only [Act.put, List.setIfInBounds_toArray, List.set_cons_zero, List.set_cons_succ]
                    refine wpAnyH_take (i := 7) (oi := ⟨some 171, _, _, _, _, _⟩) (v := .slice A5 s.rates.length c5) rfl (by kernel_rfl) (by kernel_rfl) (by kernel_rfl) (fun _ _ _ h => h) (Or.inl ⟨by rfl, ?_⟩) hHeld ?_
                    · intro ww hSw
                      (try dsimp only at hSw)
                      have hcl := (Below.cell hSw (p := ⟨g, 18, none⟩) hgs).trans (HB.out.cell 18 rfl)
                      go_simp
                    simp only [Act.put, List.setIfInBounds_toArray, List.set_cons_zero, List.set_cons_succ]
                    refine wpAnyH_ready (rs := [4]) (by kernel_rfl) (by simp) ?_
                    refine AllReadyH.cons (o := ⟨some 168, _, _, _, _, _⟩) rfl (fun K hK => ?_) AllReadyH.nil
                    go_simp
                    refine hK.out _ _ ?_ (fun hHeld => ?_)
                    · (try dsimp only)
                      (repeat' (first | with_reducible exact Below.refl _ _ | with_reducible assumption | with_reducible refine bel_alloc ?_ _ | with_reducible refine bel_set ?_ ?_ _ | with_reducible refine below_drewN ?_ _ | with_reducible refine below_drew ?_ | (simp; done) | (simp; omega) | omega))
                    clear hK K
                    (try simp only [Act.put, List.setIfInBounds_toArray, List.set_cons_zero, List.set_cons_succ])
                    refine wpAnyH_ready (rs := [5]) (by kernel_rfl) (by simp) ?_
                    refine AllReadyH.cons (o := ⟨some 169, _, _, _, _, _⟩) rfl (fun K hK => ?_) AllReadyH.nil
                    rw [if_pos (by rfl)]
                    refine wp_append_run HR8.out rfl rfl rfl ?_
                    refine hK.out _ _ ?_ (fun hHeld => ?_)
                    · (try dsimp only)
                      exact hb8
                    clear hK K
                    (try simp only [Act.put, List.setIfInBounds_toArray, List.set_cons_zero, List.set_cons_succ])
                    refine wpAnyH_ready (rs := [8]) (by kernel_rfl) (by simp) ?_
                    refine AllReadyH.cons (o := ⟨some 172, _, _, _, _, _⟩) rfl (fun K hK => ?_) AllReadyH.nil
                    rw [if_pos (by rfl)]
                    refine wp_append_run HR9.out rfl rfl rfl ?_
                    refine hK.out _ _ ?_ (fun hHeld => ?_)
                    · (try dsimp only)
                      exact hb9
                    clear hK K
                    (try simp only [Act.put, List.setIfInBounds_toArray, List.set_cons_zero, List.set_cons_succ])
                    refine wpAnyH_take (i := 9) (oi := ⟨some 3, _, _, _, _, _⟩) (v := ?_) rfl (by kernel_rfl) (by kernel_rfl) (by kernel_rfl) (fun _ _ _ h => h) (Or.inl ⟨by rfl, ?_⟩) hHeld ?_
                    rotate_left
                    · intro ww hSw
                      (try dsimp only at hSw)
                      go_simp
                      (try with_reducible rfl)
                    simp only [Act.put, List.setIfInBounds_toArray, List.set_cons_zero, List.set_cons_succ]
                    refine wpAnyH_done (by kernel_rfl) ?_ _
                    refine NoPanic.normal ?_
                    clear HR8 HR9 hb7 hb8 hrow8
                    generalize hDD : D7 ++ [(s.rates.length : Int)] ++ s.rates = D9 at *
                    generalize hLL : L7 + 1 + s.rates.length = L9 at *
                    have hL9 : L9 ≤ 1219 := by omega
                    clear hDD hLL hL7 hDl8
                    have q19 := (Below.cell hb9 (p := ⟨g, 19, none⟩) hgs).trans (HB.out.cell 19 rfl)
                    have q20 := (Below.cell hb9 (p := ⟨g, 20, none⟩) hgs).trans (HB.out.cell 20 rfl)
                    have q21 := (Below.cell hb9 (p := ⟨g, 21, none⟩) hgs).trans (HB.out.cell 21 rfl)
                    have q22 := (Below.cell hb9 (p := ⟨g, 22, none⟩) hgs).trans (HB.out.cell 22 rfl)
                    obtain ⟨A10, c10, w10, hr10, hrow10, hbel10⟩ := nrow_lay hrow9 (ys := [s.diff, s.least, s.fault, (s.tiers.length : Int)]) hDl9 (k := 4) rfl (by omega) hb9.size (s := w9.heap.size) rfl
                    have HR10 : Hid ((Builtin.append_ #[27, 27] 27 #[.slice A9 L9 c9, .slice (some ⟨w9.heap.size, 0, none⟩) 4 4]).run Try.prog (w9.alloc (.cells #[.int .i64 s.diff, .int .i64 s.least, .int .i64 s.fault, .int .i64 ((s.tiers.length : Int))] 3)) = .ok (.slice A10 (L9 + 4) c10) w10) := hr10
                    have hb10 := hbel10 wc (Nat.le_refl _) hb9
                    have hDl10 : (D9 ++ [s.diff, s.least, s.fault, (s.tiers.length : Int)]).length = L9 + 4 := by rw [List.length_append, hDl9]; rfl
                    clear hr10 hbel10
                    have HD10 : Hid (D9 ++ [s.diff, s.least, s.fault, (s.tiers.length : Int)] = [s.places, (s.ways.length : Int)] ++ s.ways.flatten ++ [s.pn, s.pd, (s.elements.length : Int)] ++ s.elements.flatten ++ [(s.classes.length : Int)] ++ s.classes.flatten ++ [(s.gears.length : Int)] ++ s.gears.flatten ++ [s.allow, s.unit, s.cap, s.paid, s.aft, s.brk, s.reg, s.over, s.week, s.nfrom, s.nto] ++ [(s.rates.length : Int)] ++ s.rates ++ [s.diff, s.least, s.fault, (s.tiers.length : Int)]) := by
                      show _ = _
                      rw [HD9.out]
                    clear HD9 hrow9
                    go_wp2_with (at_builtin; refine wpList_append_run (o := ⟨some 184, _, _, _, _, _⟩) HR10.out rfl rfl rfl rfl ?_)
                    clear HR10 hb9
                    generalize hDD : D9 ++ [s.diff, s.least, s.fault, (s.tiers.length : Int)] = D10 at *
                    generalize hLL : L9 + 4 = L10 at *
                    have hL10 : L10 ≤ 1223 := by omega
                    clear hDD hLL hL9
                    go_loopw [3, 9] (fun o i wr => ∃ (j : Nat) (A : Option Addr) (c : Nat) (D : List Int) (L : Nat), j ≤ s.tiers.length ∧ i = .int .i64 j ∧ o = .slice A L c ∧ D.length = L ∧ L ≤ 1223 + 2 * j ∧ Hid (D = [s.places, (s.ways.length : Int)] ++ s.ways.flatten ++ [s.pn, s.pd, (s.elements.length : Int)] ++ s.elements.flatten ++ [(s.classes.length : Int)] ++ s.classes.flatten ++ [(s.gears.length : Int)] ++ s.gears.flatten ++ [s.allow, s.unit, s.cap, s.paid, s.aft, s.brk, s.reg, s.over, s.week, s.nfrom, s.nto] ++ [(s.rates.length : Int)] ++ s.rates ++ [s.diff, s.least, s.fault, (s.tiers.length : Int)] ++ (s.tiers.take j).flatten) ∧ NRow wr wc.heap.size A c D ∧ Below wc.heap.size wc wr) (fun _ i _ => s.tiers.length - (intOf i).toNat)
                    case atStart => exact ⟨0, A10, c10, D10, L10, by omega, rfl, rfl, hDl10, by omega, (by show _ = _; rw [HD10.out]; simp), hrow10, hb10⟩
                    case round =>
                      obtain ⟨j, A, c, D, L, hj, rfl, rfl, hDl, hL, hD, hrow, hb⟩ := hrel
                      have q22 := (Below.cell hb (p := ⟨g, 22, none⟩) hgs).trans (HB.out.cell 22 rfl)
                      by_cases hlt : j < s.tiers.length
                      · have hsn := rows_take_snoc s.tiers j hlt
                        rw [R6.out j hlt] at hsn
                        obtain ⟨bb, oo, rfl⟩ := HSC.out.tiers.form (by decide) (by omega)
                        have z0 := HSC.out.tiers.cell (i := j) (j := 0) hlt (by decide)
                        have z1 := HSC.out.tiers.cell (i := j) (j := 1) hlt (by decide)
                        generalize (s.tiers.getD j []).getD 0 0 = x0 at *
                        generalize (s.tiers.getD j []).getD 1 0 = x1 at *
                        simp only [Nat.add_zero] at z0
                        have e0 : (j : Int) < (s.tiers.length : Int) := by omega
                        have HD' : Hid (D ++ [x0, x1] = [s.places, (s.ways.length : Int)] ++ s.ways.flatten ++ [s.pn, s.pd, (s.elements.length : Int)] ++ s.elements.flatten ++ [(s.classes.length : Int)] ++ s.classes.flatten ++ [(s.gears.length : Int)] ++ s.gears.flatten ++ [s.allow, s.unit, s.cap, s.paid, s.aft, s.brk, s.reg, s.over, s.week, s.nfrom, s.nto] ++ [(s.rates.length : Int)] ++ s.rates ++ [s.diff, s.least, s.fault, (s.tiers.length : Int)] ++ (s.tiers.take (j + 1)).flatten) := by
                          show _ = _
                          rw [hsn, hD.out]
                          simp
                        have hZs := cell_lt z0
                        obtain ⟨A5, c5, w5, hr5, hrow5, hbel5⟩ := nrow_lay hrow.drew (ys := [x0, x1]) hDl (k := 2) rfl (by omega) hb.size (s := wr.heap.size) rfl
                        have HR5 : Hid ((Builtin.append_ #[27, 27] 27 #[.slice A L c, .slice (some ⟨wr.heap.size, 0, none⟩) 2 2]).run Try.prog (wr.alloc (.cells #[.int .i64 x0, .int .i64 x1] 3)).drew = .ok (.slice A5 (L + 2) c5) w5) := hr5
                        have hb5 := hbel5 wc (Nat.le_refl _) (below_drew hb)
                        have hDl5 : (D ++ [x0, x1]).length = L + 2 := by rw [List.length_append, hDl]; rfl
                        clear hr5 hbel5
                        clear hsn hrow
                        go_wp2
                        refine wp_region_noPanic ?_
                        refine wp_region_held_drew (S := fun w' => Below wc.heap.size wc w') (by kernel_rfl) (below_drew (hb)) (fun hHeld => ?_)
                        refine wpAnyH_take (i := 0) (oi := ⟨some 192, _, _, _, _, _⟩) (v := ?_) rfl (by kernel_rfl) (by kernel_rfl) (by kernel_rfl) (fun _ _ _ h => h) (Or.inl ⟨by rfl, ?_⟩) hHeld ?_
                        rotate_left
                        · intro ww hSw
                          (try dsimp only at hSw)
                          go_simp
                          (try with_reducible rfl)
                        simp only [Act.put, List.setIfInBounds_toArray, List.set_cons_zero, List.set_cons_succ]
                        refine wpAnyH_take (i := 1) (oi := ⟨some 193, _, _, _, _, _⟩) (v := ?_) rfl (by kernel_rfl) (by kernel_rfl) (by kernel_rfl) (fun _ _ _ h => h) (Or.inl ⟨by rfl, ?_⟩) hHeld ?_
                        rotate_left
                        · intro ww hSw
                          (try dsimp only at hSw)
                          go_simp
                          (try with_reducible rfl)
                        simp only [Act.put, List.setIfInBounds_toArray, List.set_cons_zero, List.set_cons_succ]
                        refine wpAnyH_take (i := 2) (oi := ⟨some 194, _, _, _, _, _⟩) (v := .slice (some ⟨bb, oo, none⟩) s.tiers.length c6) rfl (by kernel_rfl) (by kernel_rfl) (by kernel_rfl) (fun _ _ _ h => h) (Or.inl ⟨by rfl, ?_⟩) hHeld ?_
                        · intro ww hSw
                          (try dsimp only at hSw)
                          have hcl := (Below.cell hSw (p := ⟨g, 22, none⟩) hgs).trans (HB.out.cell 22 rfl)
                          go_simp
                        simp only [Act.put, List.setIfInBounds_toArray, List.set_cons_zero, List.set_cons_succ]
                        refine wpAnyH_take (i := 3) (oi := ⟨some 195, _, _, _, _, _⟩) (v := ?_) rfl (by kernel_rfl) (by kernel_rfl) (by kernel_rfl) (fun _ _ _ h => h) (Or.inl ⟨by rfl, ?_⟩) hHeld ?_
                        rotate_left
                        · intro ww hSw
                          (try dsimp only at hSw)
                          go_simp
                          (try with_reducible rfl)
                        simp only [Act.put, List.setIfInBounds_toArray, List.set_cons_zero, List.set_cons_succ]
                        refine wpAnyH_take (i := 4) (oi := ⟨some 196, _, _, _, _, _⟩) (v := ?_) rfl (by kernel_rfl) (by kernel_rfl) (by kernel_rfl) (fun _ _ _ h => h) (Or.inl ⟨by rfl, ?_⟩) hHeld ?_
                        rotate_left
                        · intro ww hSw
                          (try dsimp only at hSw)
                          go_simp
                          (try with_reducible rfl)
                        simp only [Act.put, List.setIfInBounds_toArray, List.set_cons_zero, List.set_cons_succ]
                        refine wpAnyH_take (i := 5) (oi := ⟨some 197, _, _, _, _, _⟩) (v := ?_) rfl (by kernel_rfl) (by kernel_rfl) (by kernel_rfl) (fun _ _ _ h => h) (Or.inl ⟨by rfl, ?_⟩) hHeld ?_
                        rotate_left
                        · intro ww hSw
                          (try dsimp only at hSw)
                          go_simp
                          (try with_reducible rfl)
                        simp only [Act.put, List.setIfInBounds_toArray, List.set_cons_zero, List.set_cons_succ]
                        refine wpAnyH_take (i := 6) (oi := ⟨some 198, _, _, _, _, _⟩) (v := .int .i64 x0) rfl (by kernel_rfl) (by kernel_rfl) (by kernel_rfl) (fun _ _ _ h => h) (Or.inl ⟨by rfl, ?_⟩) hHeld ?_
                        · intro ww hSw
                          (try dsimp only at hSw)
                          have hcl := (Below.cell hSw (p := ⟨bb, oo + j * 2, none⟩) hZs).trans z0
                          go_simp
                        simp only [Act.put, List.setIfInBounds_toArray, List.set_cons_zero, List.set_cons_succ]
                        refine wpAnyH_take (i := 7) (oi := ⟨some 199, _, _, _, _, _⟩) (v := ?_) rfl (by kernel_rfl) (by kernel_rfl) (by kernel_rfl) (fun _ _ _ h => h) (Or.inl ⟨by rfl, ?_⟩) hHeld ?_
                        rotate_left
                        · intro ww hSw
                          (try dsimp only at hSw)
                          go_simp
                          (try with_reducible rfl)
                        simp only [Act.put, List.setIfInBounds_toArray, List.set_cons_zero, List.set_cons_succ]
                        refine wpAnyH_take (i := 8) (oi := ⟨some 200, _, _, _, _, _⟩) (v := .slice (some ⟨bb, oo, none⟩) s.tiers.length c6) rfl (by kernel_rfl) (by kernel_rfl) (by kernel_rfl) (fun _ _ _ h => h) (Or.inl ⟨by rfl, ?_⟩) hHeld ?_
                        · intro ww hSw
                          (try dsimp only at hSw)
                          have hcl := (Below.cell hSw (p := ⟨g, 22, none⟩) hgs).trans (HB.out.cell 22 rfl)
                          go_simp
                        simp only [Act.put, List.setIfInBounds_toArray, List.set_cons_zero, List.set_cons_succ]
                        refine wpAnyH_take (i := 9) (oi := ⟨some 201, _, _, _, _, _⟩) (v := ?_) rfl (by kernel_rfl) (by kernel_rfl) (by kernel_rfl) (fun _ _ _ h => h) (Or.inl ⟨by rfl, ?_⟩) hHeld ?_
                        rotate_left
                        · intro ww hSw
                          (try dsimp only at hSw)
                          go_simp
                          (try with_reducible rfl)
                        simp only [Act.put, List.setIfInBounds_toArray, List.set_cons_zero, List.set_cons_succ]
                        refine wpAnyH_take (i := 10) (oi := ⟨some 202, _, _, _, _, _⟩) (v := ?_) rfl (by kernel_rfl) (by kernel_rfl) (by kernel_rfl) (fun _ _ _ h => h) (Or.inl ⟨by rfl, ?_⟩) hHeld ?_
                        rotate_left
                        · intro ww hSw
                          (try dsimp only at hSw)
                          go_simp
                          (try with_reducible rfl)
                        simp only [Act.put, List.setIfInBounds_toArray, List.set_cons_zero, List.set_cons_succ]
                        refine wpAnyH_take (i := 11) (oi := ⟨some 203, _, _, _, _, _⟩) (v := ?_) rfl (by kernel_rfl) (by kernel_rfl) (by kernel_rfl) (fun _ _ _ h => h) (Or.inl ⟨by rfl, ?_⟩) hHeld ?_
                        rotate_left
                        · intro ww hSw
                          (try dsimp only at hSw)
                          go_simp
                          (try with_reducible rfl)
                        simp only [Act.put, List.setIfInBounds_toArray, List.set_cons_zero, List.set_cons_succ]
                        refine wpAnyH_take (i := 12) (oi := ⟨some 204, _, _, _, _, _⟩) (v := .int .i64 x1) rfl (by kernel_rfl) (by kernel_rfl) (by kernel_rfl) (fun _ _ _ h => h) (Or.inl ⟨by rfl, ?_⟩) hHeld ?_
                        · intro ww hSw
                          (try dsimp only at hSw)
                          have hcl := (Below.cell hSw (p := ⟨bb, oo + j * 2 + 1, none⟩) hZs).trans z1
                          go_simp
                        simp only [Act.put, List.setIfInBounds_toArray, List.set_cons_zero, List.set_cons_succ]
                        refine wpAnyH_ready (rs := [13]) (by kernel_rfl) (by simp) ?_
                        refine AllReadyH.cons (o := ⟨some 205, _, _, _, _, _⟩) rfl (fun K hK => ?_) AllReadyH.nil
                        go_simp
                        refine hK.out _ _ ?_ (fun hHeld => ?_)
                        · (try dsimp only)
                          (repeat' (first | with_reducible exact Below.refl _ _ | with_reducible assumption | with_reducible refine bel_alloc ?_ _ | with_reducible refine bel_set ?_ ?_ _ | with_reducible refine below_drewN ?_ _ | with_reducible refine below_drew ?_ | (simp; done) | (simp; omega) | omega))
                        clear hK K
                        (try simp only [Act.put, List.setIfInBounds_toArray, List.set_cons_zero, List.set_cons_succ])
                        refine wpAnyH_ready (rs := [14]) (by kernel_rfl) (by simp) ?_
                        refine AllReadyH.cons (o := ⟨some 206, _, _, _, _, _⟩) rfl (fun K hK => ?_) AllReadyH.nil
                        rw [if_pos (by rfl)]
                        refine wp_append_run HR5.out rfl rfl rfl ?_
                        refine hK.out _ _ ?_ (fun hHeld => ?_)
                        · (try dsimp only)
                          exact hb5
                        clear hK K
                        (try simp only [Act.put, List.setIfInBounds_toArray, List.set_cons_zero, List.set_cons_succ])
                        refine wpAnyH_take (i := 15) (oi := ⟨some 3, _, _, _, _, _⟩) (v := ?_) rfl (by kernel_rfl) (by kernel_rfl) (by kernel_rfl) (fun _ _ _ h => h) (Or.inl ⟨by rfl, ?_⟩) hHeld ?_
                        rotate_left
                        · intro ww hSw
                          (try dsimp only at hSw)
                          go_simp
                          (try with_reducible rfl)
                        simp only [Act.put, List.setIfInBounds_toArray, List.set_cons_zero, List.set_cons_succ]
                        refine wpAnyH_done (by kernel_rfl) ?_ _
                        refine NoPanic.normal ?_
                        go_wp2
                        go_roundw
                        case rel => exact ⟨j + 1, A5, c5, D ++ [x0, x1], L + 2, by omega, by go_num, rfl, hDl5, by omega, HD', hrow5, hb5⟩
                        case measure => simp [intOf]; omega
                      · obtain rfl : j = s.tiers.length := by omega
                        rw [List.take_length] at hD
                        have hL2 : L ≤ 1423 := by omega
                        clear hL
                        have hDe := HX.out D (by rw [hD.out])
                        subst hDe
                        subst hDl
                        go_wp2
                        go_ret
                        exact ⟨A, c, rfl, hrow.mono (Below.size HBW.out), bel_on HBW.out hb⟩
theorem numbers_c {w : World} {s : SetP} {cs : Array Value} (h : SetC w s cs) (hfew : s.Few) (zs : List Int) (n : Nat) (hz : s.nums = zs) (hn : zs.length = n) :
    Calls Try.prog 31 #[.agg cs] w fun e w' => ∃ A c, e = .returned (.slice A n c) ∧ NRow w' w.heap.size A c zs ∧ Below w.heap.size w w' := by
  obtain ⟨A1, A2, A3, A4, A5, A6, c1, c2, c3, c4, c5, c6, h1, h2⟩ := h
  unfold setV at h1
  injection h1 with h1
  subst h1 hz hn
  exact numbers_at s A1 A2 A3 A4 A5 A6 c1 c2 c3 c4 c5 c6 w h2 hfew
end Go.Proofs.Ytdhkfhgggkndoaa

namespace Go.Proofs.Ytdhkfhgggkndoaa
open Go.RowKit
set_option linter.unusedVariables false
set_option linter.unusedSimpArgs false
set_option maxRecDepth 20000

theorem take_snoc_ints (l : List Int) (j : Nat) (h : j < l.length) : l.take (j + 1) = l.take j ++ [l.getD j 0] := by
  rw [List.take_succ_eq_append_getElem h]
  simp [List.getD, h]
theorem nums_len {s : SetP} (hw : s.Wide) (hf : s.Few) : s.nums.length ≤ 2000 := by
  have e1 := rows_len s.ways hw.ways
  have e2 := rows_len s.elements hw.elements
  have e3 := rows_len s.classes hw.classes
  have e4 := rows_len s.gears hw.gears
  have e5 := rows_len s.tiers hw.tiers
  obtain ⟨q1, q2, q3, q4, q5, q6⟩ := hf
  simp only [SetP.nums, List.length_cons, List.length_append, e1, e2, e3, e4, e5]
  omega
set_option maxHeartbeats 4000000 in
theorem same_c {w : World} {s t : SetP} {cs ct : Array Value} (hs : SetC w s cs) (ht : SetC w t ct) (hfs : s.Few) (hft : t.Few) (b : Bool) (hb : decide (s.nums = t.nums) = b) :
    Calls Try.prog 12 #[.agg cs, .agg ct] w fun e w' => e = .returned (.bool b) ∧ Below w.heap.size w w' := by
  have HZ := Lib.hid hs.size
  have HZ' := Lib.hid ht.size
  have hls := nums_len hs.wide hfs
  have hlt' := nums_len ht.wide hft
  have HN := Lib.hid (fun wx (h : SetC wx s cs) => numbers_c h hfs _ _ rfl rfl)
  have HM := Lib.hid (fun wx (h : SetC wx t ct) => numbers_c h hft _ _ rfl rfl)
  have HS := Lib.hid hs
  have HT := Lib.hid ht
  have HBB := Lib.hid hb
  generalize s.nums = xs at *
  generalize t.nums = ys at *
  generalize hn : xs.length = n at *
  generalize hm : ys.length = m at *
  have HNL := Lib.hid hn
  have HML := Lib.hid hm
  clear hs ht hb hn hm
  go_enter Try.func12, Try.ntmps12
  go_wp2_with (refine wpList_load_has (by rfl) _ rfl w.heap.size rfl cs ((Has.new _ _ _ rfl).alloc _) HZ.out ?_)
  refine (HN.out _ (HS.out.below (bel_alloc (bel_alloc (Below.refl _ _) _) _))).mono ?_
  rintro e w1 ⟨A1, c1, rfl, r1, b1⟩
  have HB := Lib.hid ((Has.new (w.alloc (.cells cs 30)) 30 ct (s := w.heap.size + 1) (by simp)).below b1)
  replace b1 := bel_on (bel_alloc (bel_alloc (Below.refl _ _) _) _) b1
  go_wp2_with (refine wpList_load_has (by rfl) _ rfl (w.heap.size + 1) rfl ct HB.out HZ'.out ?_)
  refine (HM.out _ (HT.out.below b1)).mono ?_
  rintro e w2 ⟨A2, c2, rfl, r2, b2⟩
  have HX := Lib.hid (r1.below b2).nums
  have HY := Lib.hid r2.nums
  replace b2 := bel_on b1 b2
  clear r1 r2 b1 HB HS HT HN HM
  by_cases hne : n = m
  · subst hne
    go_wp2
    go_loopw [7] (fun i wr => ∃ (j : Nat), j ≤ n ∧ i = .int .i64 j ∧ Hid (xs.take j = ys.take j) ∧ Below w2.heap.size w2 wr) (fun i _ => n - (intOf i).toNat)
    case atStart => exact ⟨0, by omega, rfl, Lib.hid rfl, Below.refl _ _⟩
    case round =>
      obtain ⟨j, hj, rfl, hq, hb⟩ := hrel
      by_cases hlt : j < n
      · have hxl := HNL.out
        have hyl := HML.out
        obtain ⟨b0, o0, rfl, z0⟩ := HX.out j (by omega)
        obtain ⟨b1, o1, rfl, z1⟩ := HY.out j (by omega)
        have hsx := Lib.hid (take_snoc_ints xs j (by omega))
        have hsy := Lib.hid (take_snoc_ints ys j (by omega))
        have hget : Hid (xs.getD j 0 ≠ ys.getD j 0 → xs ≠ ys) := fun h e => h (by rw [e])
        generalize xs.getD j 0 = x at *
        generalize ys.getD j 0 = y at *
        have e0 : (j : Int) < (n : Int) := by omega
        clear hxl hyl
        by_cases hxy : x = y
        · subst hxy
          have HQ : Hid (xs.take (j + 1) = ys.take (j + 1)) := by
            show _ = _
            rw [hsx.out, hsy.out, hq.out]
          clear hsx hsy hq hget
          go_wp2
          refine wp_region_noPanic ?_
          refine wp_region_held_drew (S := fun w' => Below w2.heap.size w2 w') (by kernel_rfl) (below_drew (hb)) (fun hHeld => ?_)
          refine wpAnyH_take (i := 0) (oi := ⟨some 23, _, _, _, _, _⟩) (v := ?_) rfl (by kernel_rfl) (by kernel_rfl) (by kernel_rfl) (fun _ _ _ h => h) (Or.inl ⟨by rfl, ?_⟩) hHeld ?_
          rotate_left
          · intro ww hSw
            (try dsimp only at hSw)
            go_simp
            (try with_reducible rfl)
          simp only [Act.put, List.setIfInBounds_toArray, List.set_cons_zero, List.set_cons_succ]
          refine wpAnyH_take (i := 1) (oi := ⟨some 24, _, _, _, _, _⟩) (v := ?_) rfl (by kernel_rfl) (by kernel_rfl) (by kernel_rfl) (fun _ _ _ h => h) (Or.inl ⟨by rfl, ?_⟩) hHeld ?_
          rotate_left
          · intro ww hSw
            (try dsimp only at hSw)
            go_simp
            (try with_reducible rfl)
          simp only [Act.put, List.setIfInBounds_toArray, List.set_cons_zero, List.set_cons_succ]
          refine wpAnyH_take (i := 2) (oi := ⟨some 25, _, _, _, _, _⟩) (v := ?_) rfl (by kernel_rfl) (by kernel_rfl) (by kernel_rfl) (fun _ _ _ h => h) (Or.inl ⟨by rfl, ?_⟩) hHeld ?_
          rotate_left
          · intro ww hSw
            (try dsimp only at hSw)
            go_simp
            (try with_reducible rfl)
          simp only [Act.put, List.setIfInBounds_toArray, List.set_cons_zero, List.set_cons_succ]
          refine wpAnyH_take (i := 3) (oi := ⟨some 26, _, _, _, _, _⟩) (v := .int .i64 x) rfl (by kernel_rfl) (by kernel_rfl) (by kernel_rfl) (fun _ _ _ h => h) (Or.inl ⟨by rfl, ?_⟩) hHeld ?_
          · intro ww hSw
            (try dsimp only at hSw)
            have hcl := (Below.cell hSw (p := ⟨b0, o0 + j, none⟩) (cell_lt z0)).trans z0
            go_simp
          simp only [Act.put, List.setIfInBounds_toArray, List.set_cons_zero, List.set_cons_succ]
          refine wpAnyH_take (i := 4) (oi := ⟨some 27, _, _, _, _, _⟩) (v := ?_) rfl (by kernel_rfl) (by kernel_rfl) (by kernel_rfl) (fun _ _ _ h => h) (Or.inl ⟨by rfl, ?_⟩) hHeld ?_
          rotate_left
          · intro ww hSw
            (try dsimp only at hSw)
            go_simp
            (try with_reducible rfl)
          simp only [Act.put, List.setIfInBounds_toArray, List.set_cons_zero, List.set_cons_succ]
          refine wpAnyH_take (i := 5) (oi := ⟨some 28, _, _, _, _, _⟩) (v := ?_) rfl (by kernel_rfl) (by kernel_rfl) (by kernel_rfl) (fun _ _ _ h => h) (Or.inl ⟨by rfl, ?_⟩) hHeld ?_
          rotate_left
          · intro ww hSw
            (try dsimp only at hSw)
            go_simp
            (try with_reducible rfl)
          simp only [Act.put, List.setIfInBounds_toArray, List.set_cons_zero, List.set_cons_succ]
          refine wpAnyH_take (i := 6) (oi := ⟨some 29, _, _, _, _, _⟩) (v := ?_) rfl (by kernel_rfl) (by kernel_rfl) (by kernel_rfl) (fun _ _ _ h => h) (Or.inl ⟨by rfl, ?_⟩) hHeld ?_
          rotate_left
          · intro ww hSw
            (try dsimp only at hSw)
            go_simp
            (try with_reducible rfl)
          simp only [Act.put, List.setIfInBounds_toArray, List.set_cons_zero, List.set_cons_succ]
          refine wpAnyH_take (i := 7) (oi := ⟨some 30, _, _, _, _, _⟩) (v := .int .i64 x) rfl (by kernel_rfl) (by kernel_rfl) (by kernel_rfl) (fun _ _ _ h => h) (Or.inl ⟨by rfl, ?_⟩) hHeld ?_
          · intro ww hSw
            (try dsimp only at hSw)
            have hcl := (Below.cell hSw (p := ⟨b1, o1 + j, none⟩) (cell_lt z1)).trans z1
            go_simp
          simp only [Act.put, List.setIfInBounds_toArray, List.set_cons_zero, List.set_cons_succ]
          refine wpAnyH_take (i := 8) (oi := ⟨some 31, _, _, _, _, _⟩) (v := ?_) rfl (by kernel_rfl) (by kernel_rfl) (by kernel_rfl) (fun _ _ _ h => h) (Or.inl ⟨by rfl, ?_⟩) hHeld ?_
          rotate_left
          · intro ww hSw
            (try dsimp only at hSw)
            go_simp
            (try with_reducible rfl)
          simp only [Act.put, List.setIfInBounds_toArray, List.set_cons_zero, List.set_cons_succ]
          refine wpAnyH_done (by kernel_rfl) ?_ _
          refine NoPanic.normal ?_
          go_wp2
          go_roundw
          case rel => exact ⟨j + 1, by omega, by go_num, HQ, below_drew hb⟩
          case measure => simp [intOf]; omega
        · have HE : Hid (b = false) := by
            show _ = _
            rw [← HBB.out]
            exact decide_eq_false (hget.out hxy)
          have hxy' : (x == y) = false := by simpa using hxy
          clear hsx hsy hq hget
          go_wp2
          refine wp_region_noPanic ?_
          refine wp_region_held_drew (S := fun w' => Below w2.heap.size w2 w') (by kernel_rfl) (below_drew (hb)) (fun hHeld => ?_)
          refine wpAnyH_take (i := 0) (oi := ⟨some 23, _, _, _, _, _⟩) (v := ?_) rfl (by kernel_rfl) (by kernel_rfl) (by kernel_rfl) (fun _ _ _ h => h) (Or.inl ⟨by rfl, ?_⟩) hHeld ?_
          rotate_left
          · intro ww hSw
            (try dsimp only at hSw)
            go_simp
            (try with_reducible rfl)
          simp only [Act.put, List.setIfInBounds_toArray, List.set_cons_zero, List.set_cons_succ]
          refine wpAnyH_take (i := 1) (oi := ⟨some 24, _, _, _, _, _⟩) (v := ?_) rfl (by kernel_rfl) (by kernel_rfl) (by kernel_rfl) (fun _ _ _ h => h) (Or.inl ⟨by rfl, ?_⟩) hHeld ?_
          rotate_left
          · intro ww hSw
            (try dsimp only at hSw)
            go_simp
            (try with_reducible rfl)
          simp only [Act.put, List.setIfInBounds_toArray, List.set_cons_zero, List.set_cons_succ]
          refine wpAnyH_take (i := 2) (oi := ⟨some 25, _, _, _, _, _⟩) (v := ?_) rfl (by kernel_rfl) (by kernel_rfl) (by kernel_rfl) (fun _ _ _ h => h) (Or.inl ⟨by rfl, ?_⟩) hHeld ?_
          rotate_left
          · intro ww hSw
            (try dsimp only at hSw)
            go_simp
            (try with_reducible rfl)
          simp only [Act.put, List.setIfInBounds_toArray, List.set_cons_zero, List.set_cons_succ]
          refine wpAnyH_take (i := 3) (oi := ⟨some 26, _, _, _, _, _⟩) (v := .int .i64 x) rfl (by kernel_rfl) (by kernel_rfl) (by kernel_rfl) (fun _ _ _ h => h) (Or.inl ⟨by rfl, ?_⟩) hHeld ?_
          · intro ww hSw
            (try dsimp only at hSw)
            have hcl := (Below.cell hSw (p := ⟨b0, o0 + j, none⟩) (cell_lt z0)).trans z0
            go_simp
          simp only [Act.put, List.setIfInBounds_toArray, List.set_cons_zero, List.set_cons_succ]
          refine wpAnyH_take (i := 4) (oi := ⟨some 27, _, _, _, _, _⟩) (v := ?_) rfl (by kernel_rfl) (by kernel_rfl) (by kernel_rfl) (fun _ _ _ h => h) (Or.inl ⟨by rfl, ?_⟩) hHeld ?_
          rotate_left
          · intro ww hSw
            (try dsimp only at hSw)
            go_simp
            (try with_reducible rfl)
          simp only [Act.put, List.setIfInBounds_toArray, List.set_cons_zero, List.set_cons_succ]
          refine wpAnyH_take (i := 5) (oi := ⟨some 28, _, _, _, _, _⟩) (v := ?_) rfl (by kernel_rfl) (by kernel_rfl) (by kernel_rfl) (fun _ _ _ h => h) (Or.inl ⟨by rfl, ?_⟩) hHeld ?_
          rotate_left
          · intro ww hSw
            (try dsimp only at hSw)
            go_simp
            (try with_reducible rfl)
          simp only [Act.put, List.setIfInBounds_toArray, List.set_cons_zero, List.set_cons_succ]
          refine wpAnyH_take (i := 6) (oi := ⟨some 29, _, _, _, _, _⟩) (v := ?_) rfl (by kernel_rfl) (by kernel_rfl) (by kernel_rfl) (fun _ _ _ h => h) (Or.inl ⟨by rfl, ?_⟩) hHeld ?_
          rotate_left
          · intro ww hSw
            (try dsimp only at hSw)
            go_simp
            (try with_reducible rfl)
          simp only [Act.put, List.setIfInBounds_toArray, List.set_cons_zero, List.set_cons_succ]
          refine wpAnyH_take (i := 7) (oi := ⟨some 30, _, _, _, _, _⟩) (v := .int .i64 y) rfl (by kernel_rfl) (by kernel_rfl) (by kernel_rfl) (fun _ _ _ h => h) (Or.inl ⟨by rfl, ?_⟩) hHeld ?_
          · intro ww hSw
            (try dsimp only at hSw)
            have hcl := (Below.cell hSw (p := ⟨b1, o1 + j, none⟩) (cell_lt z1)).trans z1
            go_simp
          simp only [Act.put, List.setIfInBounds_toArray, List.set_cons_zero, List.set_cons_succ]
          refine wpAnyH_take (i := 8) (oi := ⟨some 31, _, _, _, _, _⟩) (v := ?_) rfl (by kernel_rfl) (by kernel_rfl) (by kernel_rfl) (fun _ _ _ h => h) (Or.inl ⟨by rfl, ?_⟩) hHeld ?_
          rotate_left
          · intro ww hSw
            (try dsimp only at hSw)
            go_simp
            (try with_reducible rfl)
          simp only [Act.put, List.setIfInBounds_toArray, List.set_cons_zero, List.set_cons_succ]
          refine wpAnyH_done (by kernel_rfl) ?_ _
          refine NoPanic.normal ?_
          go_wp2
          go_ret
          exact ⟨ret_bool HE.out.symm, bel_on b2 (below_drew hb)⟩
      · obtain rfl : j = n := by omega
        have HE : Hid (b = true) := by
          show _ = _
          rw [← HBB.out]
          apply decide_eq_true
          have := hq.out
          rwa [List.take_of_length_le (by rw [HNL.out]; exact Nat.le_refl _), List.take_of_length_le (by rw [HML.out]; exact Nat.le_refl _)] at this
        go_wp2
        go_ret
        exact ⟨ret_bool HE.out.symm, bel_on b2 hb⟩
  · have HE : Hid (b = false) := by
      show _ = _
      rw [← HBB.out]
      exact decide_eq_false (fun e => hne (by rw [← HNL.out, ← HML.out, e]))
    have hne' : ((n : Int) == (m : Int)) = false := by simp; omega
    go_wp2
    go_ret
    exact ⟨ret_bool HE.out.symm, b2⟩
end Go.Proofs.Ytdhkfhgggkndoaa
