/-
  Package setup: which work, times and money may be.
-/
import Derived.Test.YtdhkfhgggkndoaaSetD
namespace Go.Proofs.Ytdhkfhgggkndoaa
open Go.RowKit
set_option linter.unusedVariables false
set_option linter.unusedSimpArgs false
set_option maxRecDepth 20000

/-! ### Work -/
theorem ele_at (a b c d : Int) (w : World) (ha : In64 a) (hb : In64 b) (hc : In64 c) (hd : In64 d) :
    Calls Try.prog 79 #[.agg #[.int .i64 a, .int .i64 b, .int .i64 c, .int .i64 d]] w fun e w' => e = .returned (.bool (shareB a b && shareB c d)) ∧ Below w.heap.size w w' := by
  have H1 := Lib.hid (share_any a b · ha hb)
  have H2 := Lib.hid (share_any c d · hc hd)
  generalize shareB a b = r1 at *
  generalize shareB c d = r2 at *
  cases r1 with
  | true =>
    go_enter Try.func79, Try.ntmps79
    go_wp2_with fail
    refine (H1.out _).mono ?_
    rintro e w1 ⟨rfl, hb1⟩
    have k2 := (hb1.cell (p := ⟨w.heap.size, 2, none⟩) (by simp)).trans (show _ = some (.int .i64 c) by simp)
    have k3 := (hb1.cell (p := ⟨w.heap.size, 3, none⟩) (by simp)).trans (show _ = some (.int .i64 d) by simp)
    have hz : w.heap.size < w1.heap.size := by have := hb1.size; simp at this; omega
    replace hb1 := bel_on (bel_alloc (Below.refl _ _) _) hb1
    go_wp2_with fail
    refine (H2.out _).mono ?_
    rintro e w2 ⟨rfl, hb2⟩
    replace hb2 := bel_on hb1 hb2
    go_wp2
    go_ret
    exact ⟨ret_bool (by simp), hb2⟩
  | false =>
    go_enter Try.func79, Try.ntmps79
    go_wp2_with fail
    refine (H1.out _).mono ?_
    rintro e w1 ⟨rfl, hb1⟩
    replace hb1 := bel_on (bel_alloc (Below.refl _ _) _) hb1
    go_wp2
    go_ret
    exact ⟨ret_bool (by simp), hb1⟩
def eleB (l : Rows2) : Bool := decide ((l.length : Int) ≤ 8) && allP (fun i => shareB ((l.getD i []).getD 0 0) ((l.getD i []).getD 1 0) && shareB ((l.getD i []).getD 2 0) ((l.getD i []).getD 3 0)) l.length
def ratB (l : Rows2) : Bool := decide ((l.length : Int) ≤ 8) && allP (fun i => shareB ((l.getD i []).getD 0 0) ((l.getD i []).getD 1 0)) l.length
theorem eles_any (A : Option Addr) (c : Nat) (l : Rows2) (w : World) (hT : Tab 4 w A l.length c l) :
    Calls Try.prog 78 #[.slice A l.length c, .int .i64 8, .func (.func 79) #[] #[]] w fun e w' => e = .returned (.bool (eleB l)) ∧ Below w.heap.size w w' :=
  (all_ele A c l.length 8 l w (fun _ w' => Below w.heap.size w w') (fun _ => False) _ (len_max hT) (by constructor <;> omega) (fun x => x) (fun i w' h => hT.below h) (Below.refl _ _) (fun i w' w'' h k => bel_on h k)
    (fun i w' hi h => (ele_at _ _ _ _ w' (hT.at_small hi (by decide)) (hT.at_small hi (by decide)) (hT.at_small hi (by decide)) (hT.at_small hi (by decide))).mono fun e w'' ⟨q1, q2⟩ => ⟨q1, Chg.of_below q2, fun _ => bel_on h q2⟩)).mono
    fun e w' ⟨h1, h2⟩ => ⟨h1, h2.none⟩
theorem rats_any (A : Option Addr) (c : Nat) (l : Rows2) (w : World) (hT : Tab 2 w A l.length c l) :
    Calls Try.prog 81 #[.slice A l.length c, .int .i64 8, .func (.func 80) #[] #[]] w fun e w' => e = .returned (.bool (ratB l)) ∧ Below w.heap.size w w' :=
  (all_rat A c l.length 8 l w (fun _ w' => Below w.heap.size w w') (fun _ => False) _ (len_max hT) (by constructor <;> omega) (fun x => x) (fun i w' h => hT.below h) (Below.refl _ _) (fun i w' w'' h k => bel_on h k)
    (fun i w' hi h => (share_any _ _ w' (hT.at_small hi (by decide)) (hT.at_small hi (by decide))).mono fun e w'' ⟨q1, q2⟩ => ⟨q1, Chg.of_below q2, fun _ => bel_on h q2⟩)).mono
    fun e w' ⟨h1, h2⟩ => ⟨h1, h2.none⟩
def workB (s : SetP) : Bool := shareB s.pn s.pd && eleB s.elements && ratB s.classes && ratB s.gears && withB s.allow 0 100
set_option maxHeartbeats 2000000 in
theorem work_any (s : SetP) (A1 A2 A3 A4 A5 A6 : Option Addr) (c1 c2 c3 c4 c5 c6 : Nat) (w : World) (hs : SetAt w s A1 A2 A3 A4 A5 A6 c1 c2 c3 c4 c5 c6) (hf : s.Fit) :
    Calls Try.prog 38 #[setV s A1 A2 A3 A4 A5 A6 c1 c2 c3 c4 c5 c6] w fun e w' => e = .returned (.bool (workB s)) ∧ Below w.heap.size w w' := by
  have HE := Lib.hid (fun wx (h : Below w.heap.size w wx) => eles_any A2 c2 s.elements wx (hs.elements.below h))
  have HC := Lib.hid (fun wx (h : Below w.heap.size w wx) => rats_any A3 c3 s.classes wx (hs.classes.below h))
  have HG := Lib.hid (fun wx (h : Below w.heap.size w wx) => rats_any A4 c4 s.gears wx (hs.gears.below h))
  have HP := Lib.hid (share_any s.pn s.pd · hf.pn hf.pd)
  have HW := Lib.hid (within_at s.allow 0 100)
  have E : Hid (workB s = (shareB s.pn s.pd && eleB s.elements && ratB s.classes && ratB s.gears && withB s.allow 0 100)) := rfl
  clear hs hf
  generalize workB s = r at *
  generalize shareB s.pn s.pd = r1 at *
  generalize eleB s.elements = r2 at *
  generalize ratB s.classes = r3 at *
  generalize ratB s.gears = r4 at *
  generalize withB s.allow 0 100 = r5 at *
  unfold setV
  go_enter Try.func38, Try.ntmps38
  go_wp2_with fail
  refine (HE.out _ (by (repeat' (first | with_reducible exact Below.refl _ _ | with_reducible assumption | with_reducible refine bel_alloc ?_ _ | with_reducible refine bel_set ?_ ?_ _ | with_reducible refine below_drewN ?_ _ | with_reducible refine below_drew ?_ | (simp; done) | (simp; omega) | omega)))).mono ?_
  rintro e w1 ⟨rfl, hb1⟩
  have hB : Has w1 w.heap.size #[.int .i64 s.places, .slice A1 s.ways.length c1, .int .i64 s.pn, .int .i64 s.pd, .slice A2 s.elements.length c2, .slice A3 s.classes.length c3, .slice A4 s.gears.length c4, .int .i64 s.allow, .int .i64 s.unit, .int .i64 s.cap, .int .i64 s.paid, .int .i64 s.aft, .int .i64 s.brk, .int .i64 s.reg, .int .i64 s.over, .int .i64 s.week, .int .i64 s.nfrom, .int .i64 s.nto, .slice A5 s.rates.length c5, .int .i64 s.diff, .int .i64 s.least, .int .i64 s.fault, .slice A6 s.tiers.length c6] := (Has.new _ _ _ rfl).below hb1
  replace hb1 := bel_on (bel_alloc (Below.refl _ _) _) hb1
  have HB := Lib.hid hB
  clear hB
  generalize w.heap.size = B at HB ⊢
  have k2 := HB.out.cell 2 rfl
  have k3 := HB.out.cell 3 rfl
  have hz := HB.out.size
  go_wp2_with fail
  refine (HP.out _).mono ?_
  rintro e w2 ⟨rfl, hb2⟩
  replace HB := Lib.hid (HB.out.below hb2)
  replace hb2 := bel_on hb1 hb2
  clear hb1 k2 k3 hz
  have k5 := HB.out.cell 5 rfl
  have k6 := HB.out.cell 6 rfl
  have k7 := HB.out.cell 7 rfl
  have hz := HB.out.size
  cases r1
  · go_wp2
    go_ret
    exact ⟨ret_bool (by rw [E.out]; simp), hb2⟩
  cases r2
  · go_wp2
    go_ret
    exact ⟨ret_bool (by rw [E.out]; simp), hb2⟩
  go_wp2_with fail
  refine (HC.out _ hb2).mono ?_
  rintro e w3 ⟨rfl, hb3⟩
  replace HB := Lib.hid (HB.out.below hb3)
  replace hb3 := bel_on hb2 hb3
  clear hb2 k5 k6 k7 hz
  have k6 := HB.out.cell 6 rfl
  have k7 := HB.out.cell 7 rfl
  have hz := HB.out.size
  cases r3
  · go_wp2
    go_ret
    exact ⟨ret_bool (by rw [E.out]; simp), hb3⟩
  go_wp2_with fail
  refine (HG.out _ hb3).mono ?_
  rintro e w4 ⟨rfl, hb4⟩
  replace HB := Lib.hid (HB.out.below hb4)
  replace hb4 := bel_on hb3 hb4
  clear hb3 k6 k7 hz
  have k7 := HB.out.cell 7 rfl
  have hz := HB.out.size
  cases r4
  · go_wp2
    go_ret
    exact ⟨ret_bool (by rw [E.out]; simp), hb4⟩
  go_wp2_with fail
  refine (HW.out _).mono ?_
  rintro e w5 ⟨rfl, rfl⟩
  go_wp2
  go_ret
  exact ⟨ret_bool (by rw [E.out]; simp), hb4⟩
end Go.Proofs.Ytdhkfhgggkndoaa
