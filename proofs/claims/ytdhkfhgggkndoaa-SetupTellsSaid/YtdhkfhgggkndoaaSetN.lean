/-
  Package setup: Write.
-/
import Derived.Test.YtdhkfhgggkndoaaSetM
import Derived.Test.YtdhkfhgggkndoaaSetMay
namespace Go.Proofs.Ytdhkfhgggkndoaa
open Go.RowKit
set_option linter.unusedVariables false
set_option linter.unusedSimpArgs false
set_option maxRecDepth 20000

theorem BRow.raise {w : World} {b0 base c : Nat} {A : Option Addr} {xs : List (BitVec 8)} (h : BRow w b0 A c xs) (hb : ∀ a, A = some a → base ≤ a.block) : BRow w base A c xs := by
  obtain ⟨hl, hn | ⟨g, cap, cur, hv, hg, rest⟩⟩ := h
  · exact ⟨hl, .inl hn⟩
  · refine ⟨hl, .inr ⟨g, cap, cur, hv, ?_, rest⟩⟩
    injection hv with e1 e2 e3
    exact hb _ e1
set_option maxHeartbeats 2000000 in
theorem setwrite_bad (s : SetP) (A1 A2 A3 A4 A5 A6 : Option Addr) (c1 c2 c3 c4 c5 c6 : Nat) (w : World) (hs : SetAt w s A1 A2 A3 A4 A5 A6 c1 c2 c3 c4 c5 c6) (hf : s.Fit) (hm : ¬ s.May) :
    Calls Try.prog 8 #[setV s A1 A2 A3 A4 A5 A6 c1 c2 c3 c4 c5 c6] w fun e w' => e = .returned (.tuple #[.slice none 0 0, .int .i64 70]) ∧ Below w.heap.size w w' := by
  have hc : checkB s = false := by
    cases hc : checkB s with
    | true => exact absurd (check_iff.1 hc) hm
    | false => rfl
  have HC := Lib.hid (fun wx (h : Below w.heap.size w wx) => setcheck_any s A1 A2 A3 A4 A5 A6 c1 c2 c3 c4 c5 c6 wx (hs.below h) hf)
  rw [hc] at HC
  clear hs hf hm hc
  unfold setV at *
  generalize hcs : (#[.int .i64 s.places, .slice A1 s.ways.length c1, .int .i64 s.pn, .int .i64 s.pd, .slice A2 s.elements.length c2, .slice A3 s.classes.length c3, .slice A4 s.gears.length c4, .int .i64 s.allow, .int .i64 s.unit, .int .i64 s.cap, .int .i64 s.paid, .int .i64 s.aft, .int .i64 s.brk, .int .i64 s.reg, .int .i64 s.over, .int .i64 s.week, .int .i64 s.nfrom, .int .i64 s.nto, .slice A5 s.rates.length c5, .int .i64 s.diff, .int .i64 s.least, .int .i64 s.fault, .slice A6 s.tiers.length c6] : Array Value) = cs at *
  have HS : Hid (cs.size = 23) := by show _ = _; rw [← hcs]; rfl
  clear hcs
  go_enter Try.func8, Try.ntmps8
  go_wp2_with (refine wpList_load_has (by rfl) _ rfl w.heap.size rfl cs (Has.new _ _ _ rfl) HS.out ?_)
  refine (HC.out _ (by (repeat' (first | with_reducible exact Below.refl _ _ | with_reducible assumption | with_reducible refine bel_alloc ?_ _ | with_reducible refine bel_set ?_ ?_ _ | with_reducible refine below_drewN ?_ _ | with_reducible refine below_drew ?_ | (simp; done) | (simp; omega) | omega)))).mono ?_
  rintro e w1 ⟨rfl, hb1⟩
  replace hb1 := bel_on (bel_alloc (Below.refl _ _) _) hb1
  go_wp2
  go_ret2
  exact ⟨rfl, hb1⟩
set_option maxHeartbeats 2000000 in
theorem setwrite_ok (s : SetP) (A1 A2 A3 A4 A5 A6 : Option Addr) (c1 c2 c3 c4 c5 c6 : Nat) (w : World) (hs : SetAt w s A1 A2 A3 A4 A5 A6 c1 c2 c3 c4 c5 c6) (hf : s.Fit) (hm : s.May) :
    Calls Try.prog 8 #[setV s A1 A2 A3 A4 A5 A6 c1 c2 c3 c4 c5 c6] w fun e w' => ∃ A c, e = .returned (.tuple #[.slice A s.bytes.length c, .int .i64 0]) ∧ BRow w' w.heap.size A c s.bytes ∧ Below w.heap.size w w' := by
  have HC := Lib.hid (fun wx (h : Below w.heap.size w wx) => setcheck_any s A1 A2 A3 A4 A5 A6 c1 c2 c3 c4 c5 c6 wx (hs.below h) hf)
  rw [check_iff.2 hm] at HC
  have HT := Lib.hid (fun (g : Nat) (wx : World) (hb : Below w.heap.size w wx) (hB : Has wx w.heap.size #[.int .i64 s.places, .slice A1 s.ways.length c1, .int .i64 s.pn, .int .i64 s.pd, .slice A2 s.elements.length c2, .slice A3 s.classes.length c3, .slice A4 s.gears.length c4, .int .i64 s.allow, .int .i64 s.unit, .int .i64 s.cap, .int .i64 s.paid, .int .i64 s.aft, .int .i64 s.brk, .int .i64 s.reg, .int .i64 s.over, .int .i64 s.week, .int .i64 s.nfrom, .int .i64 s.nto, .slice A5 s.rates.length c5, .int .i64 s.diff, .int .i64 s.least, .int .i64 s.fault, .slice A6 s.tiers.length c6]) (hw : WPen (fun b => b < w.heap.size ∨ b = w.heap.size) g [] wx) =>
    wthrough_any (fun b => b < w.heap.size ∨ b = w.heap.size) g w.heap.size s A1 A2 A3 A4 A5 A6 c1 c2 c3 c4 c5 c6 wx ⟨hs.wide, hm⟩ (.inr rfl) hB (hs.below hb) (fun A n h hn a ha => .inl (set_blocks hs A n h hn a ha)) hw)
  clear hs hf hm
  unfold setV at *
  generalize hcs : (#[.int .i64 s.places, .slice A1 s.ways.length c1, .int .i64 s.pn, .int .i64 s.pd, .slice A2 s.elements.length c2, .slice A3 s.classes.length c3, .slice A4 s.gears.length c4, .int .i64 s.allow, .int .i64 s.unit, .int .i64 s.cap, .int .i64 s.paid, .int .i64 s.aft, .int .i64 s.brk, .int .i64 s.reg, .int .i64 s.over, .int .i64 s.week, .int .i64 s.nfrom, .int .i64 s.nto, .slice A5 s.rates.length c5, .int .i64 s.diff, .int .i64 s.least, .int .i64 s.fault, .slice A6 s.tiers.length c6] : Array Value) = cs at *
  have HS : Hid (cs.size = 23) := by show _ = _; rw [← hcs]; rfl
  clear hcs
  go_enter Try.func8, Try.ntmps8
  go_wp2_with (refine wpList_load_has (by rfl) _ rfl w.heap.size rfl cs (Has.new _ _ _ rfl) HS.out ?_)
  refine (HC.out _ (by (repeat' (first | with_reducible exact Below.refl _ _ | with_reducible assumption | with_reducible refine bel_alloc ?_ _ | with_reducible refine bel_set ?_ ?_ _ | with_reducible refine below_drewN ?_ _ | with_reducible refine below_drew ?_ | (simp; done) | (simp; omega) | omega)))).mono ?_
  rintro e w1 ⟨rfl, hb1⟩
  have hB : Has w1 w.heap.size cs := (Has.new _ _ _ rfl).below hb1
  have hz := hB.size
  replace hb1 := bel_on (bel_alloc (Below.refl _ _) _) hb1
  have hb2 := bel_alloc hb1 (.cells #[.slice none 0 0] 59)
  have hW : WPen (fun b => b < w.heap.size ∨ b = w.heap.size) w1.heap.size [] (w1.alloc (.cells #[.slice none 0 0] 59)) :=
    ⟨⟨none, 0, Has.new _ _ _ rfl, BRow.nil _ _, fun a ha => by cases ha⟩, by omega, fun b hb => by simp; omega⟩
  have HX := Lib.hid (HT.out w1.heap.size _ hb2 (hB.alloc _) hW)
  have HB2 := Lib.hid hb2
  clear HT hW hb2 hB
  go_wp2_with fail
  refine HX.out.mono ?_
  rintro e w3 ⟨rfl, hk3, hw3⟩
  obtain ⟨⟨A, c, k1, k2, k3⟩, k4, k5⟩ := hw3
  have hb3 : Below w.heap.size w w3 := HB2.out.trans (Kept.below hk3 fun i hi => .inl hi)
  have HR := Lib.hid (k2.raise (base := w.heap.size) fun a ha => by have := (k3 a ha).1; omega)
  have kc := k1.cell 0 rfl
  have hks := k1.size
  clear k1 k2 k3 k4 k5 hk3 HX
  go_wp2
  go_ret2
  exact ⟨A, c, rfl, HR.out, hb3⟩
end Go.Proofs.Ytdhkfhgggkndoaa
