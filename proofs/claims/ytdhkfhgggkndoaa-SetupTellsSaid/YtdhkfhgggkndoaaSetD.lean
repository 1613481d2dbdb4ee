/-
  Package setup: which ways, and which work, may be, of a whole setup.
-/
import Derived.Test.YtdhkfhgggkndoaaSetC
import Derived.Laws.EntriesVeiled
import Derived.WideLaws
namespace Go.Proofs.Ytdhkfhgggkndoaa
open Go.RowKit
set_option linter.unusedVariables false
set_option linter.unusedSimpArgs false
set_option maxRecDepth 20000

def groundB (s : SetP) : Bool := withB s.places 1 16 && (decide ((s.ways.length : Int) ≤ 64) && allP (fun i => wayB s.places ((s.ways.getD i []).getD 0 0) ((s.ways.getD i []).getD 1 0) ((s.ways.getD i []).getD 2 0)) s.ways.length)
theorem len_max {k : Nat} {w : World} {A : Option Addr} {n c : Nat} {t : Rows2} (h : Tab k w A n c t) : n ≤ 9223372036854775807 := Nat.le_trans h.cap h.max
set_option maxHeartbeats 2000000 in
theorem ground_any (s : SetP) (A1 A2 A3 A4 A5 A6 : Option Addr) (c1 c2 c3 c4 c5 c6 : Nat) (w : World) (hs : SetAt w s A1 A2 A3 A4 A5 A6 c1 c2 c3 c4 c5 c6) :
    Calls Try.prog 37 #[setV s A1 A2 A3 A4 A5 A6 c1 c2 c3 c4 c5 c6] w fun e w' => e = .returned (.bool (groundB s)) ∧ Below w.heap.size w w' := by
  have HT := Lib.hid hs.ways
  have hlm := len_max hs.ways
  have E : Hid (groundB s = (withB s.places 1 16 && (decide ((s.ways.length : Int) ≤ 64) && allP (fun i => wayB s.places ((s.ways.getD i []).getD 0 0) ((s.ways.getD i []).getD 1 0) ((s.ways.getD i []).getD 2 0)) s.ways.length))) := rfl
  have HW := Lib.hid (within_at s.places 1 16)
  clear hs
  unfold setV
  generalize groundB s = r at *
  go_enter Try.func37, Try.ntmps37
  go_upto_region 1 with fail
  go_cut [1, 3, 4] (fun v1 v3 v4 wx => ∃ B P : Nat, v1 = .pointer (some ⟨B, 0, none⟩) ∧ v3 = .pointer (some ⟨P, 0, none⟩) ∧ v4 = .func (.func 74) #[] #[.pointer (some ⟨B, 0, none⟩)] ∧ Hid (Has wx B #[.int .i64 s.places, .slice A1 s.ways.length c1, .int .i64 s.pn, .int .i64 s.pd, .slice A2 s.elements.length c2, .slice A3 s.classes.length c3, .slice A4 s.gears.length c4, .int .i64 s.allow, .int .i64 s.unit, .int .i64 s.cap, .int .i64 s.paid, .int .i64 s.aft, .int .i64 s.brk, .int .i64 s.reg, .int .i64 s.over, .int .i64 s.week, .int .i64 s.nfrom, .int .i64 s.nto, .slice A5 s.rates.length c5, .int .i64 s.diff, .int .i64 s.least, .int .i64 s.fault, .slice A6 s.tiers.length c6]) ∧ Hid (Has wx P #[.func (.func 74) #[] #[.pointer (some ⟨B, 0, none⟩)]]) ∧ Below w.heap.size w wx)
  case first =>
    go_wp2_with fail
    go_meet
    refine ⟨w.heap.size, w.heap.size + 1, rfl, by simp, rfl, ?_, ?_, ?_⟩
    · show Has _ _ _
      (repeat' (first | with_reducible assumption | ((with_reducible refine Has.new _ _ _ ?_); (first | (with_reducible rfl) | (simp; done))) | with_reducible refine Has.alloc ?_ _ | with_reducible refine Has.drewN ?_ _ | with_reducible refine Has.drew ?_))
    · show Has _ _ _
      (repeat' (first | with_reducible assumption | ((with_reducible refine Has.new _ _ _ ?_); (first | (with_reducible rfl) | (simp; done))) | with_reducible refine Has.alloc ?_ _ | with_reducible refine Has.drewN ?_ _ | with_reducible refine Has.drew ?_))
    · (repeat' (first | with_reducible exact Below.refl _ _ | with_reducible assumption | with_reducible refine bel_alloc ?_ _ | with_reducible refine bel_set ?_ ?_ _ | with_reducible refine below_drewN ?_ _ | with_reducible refine below_drew ?_ | (simp; done) | (simp; omega) | omega))
  case rest =>
    obtain ⟨B, P, rfl, rfl, rfl, hB, hP, hb⟩ := hcut
    have hc0 := hB.out.cell 0 rfl
    have hc1 := hB.out.cell 1 rfl
    have hBs := hB.out.size
    have HC0 := Lib.hid hc0
    cases hw : withB s.places 1 16 with
    | false =>
      have HE : Hid (r = false) := by show _ = _; rw [E.out, hw]; rfl
      rw [hw] at HW
      clear hw
      go_wp2_with fail
      refine (HW.out _).mono ?_
      rintro e w1 ⟨rfl, rfl⟩
      go_wp2
      go_ret
      exact ⟨ret_bool HE.out.symm, hb⟩
    | true =>
      have hp := hw
      unfold withB at hp
      simp only [Bool.and_eq_true, decide_eq_true_eq] at hp
      have HE : Hid (r = (decide ((s.ways.length : Int) ≤ 64) && allP (fun i => wayB s.places ((s.ways.getD i []).getD 0 0) ((s.ways.getD i []).getD 1 0) ((s.ways.getD i []).getD 2 0)) s.ways.length)) := by show _ = _; rw [E.out, hw]; rfl
      rw [hw] at HW
      clear hw
      have HA := Lib.hid (fun wx (h1 : Below w.heap.size w wx) (h2 : Has wx B #[.int .i64 s.places, .slice A1 s.ways.length c1, .int .i64 s.pn, .int .i64 s.pd, .slice A2 s.elements.length c2, .slice A3 s.classes.length c3, .slice A4 s.gears.length c4, .int .i64 s.allow, .int .i64 s.unit, .int .i64 s.cap, .int .i64 s.paid, .int .i64 s.aft, .int .i64 s.brk, .int .i64 s.reg, .int .i64 s.over, .int .i64 s.week, .int .i64 s.nfrom, .int .i64 s.nto, .slice A5 s.rates.length c5, .int .i64 s.diff, .int .i64 s.least, .int .i64 s.fault, .slice A6 s.tiers.length c6]) (h3 : Has wx P #[.func (.func 74) #[] #[.pointer (some ⟨B, 0, none⟩)]]) =>
        all_way A1 c1 s.ways.length 64 P s.ways wx (fun _ w' => Below w.heap.size w w' ∧ Has w' B #[.int .i64 s.places, .slice A1 s.ways.length c1, .int .i64 s.pn, .int .i64 s.pd, .slice A2 s.elements.length c2, .slice A3 s.classes.length c3, .slice A4 s.gears.length c4, .int .i64 s.allow, .int .i64 s.unit, .int .i64 s.cap, .int .i64 s.paid, .int .i64 s.aft, .int .i64 s.brk, .int .i64 s.reg, .int .i64 s.over, .int .i64 s.week, .int .i64 s.nfrom, .int .i64 s.nto, .slice A5 s.rates.length c5, .int .i64 s.diff, .int .i64 s.least, .int .i64 s.fault, .slice A6 s.tiers.length c6] ∧ Has w' P #[.func (.func 74) #[] #[.pointer (some ⟨B, 0, none⟩)]]) (fun _ => False) _ hlm (by constructor <;> omega) (fun x => x)
          (fun i w' h => HT.out.below h.1) ⟨h1, h2, h3⟩ (fun i w' w'' h k => ⟨bel_on h.1 k, h.2.1.below k, h.2.2.below k⟩)
          (fun i w' hi h => (way_at _ _ _ s.places B P w' hp.1 hp.2 (h.2.1.cell 0 rfl) h.2.2).mono fun e w'' ⟨q1, q2⟩ => ⟨q1, Chg.of_below q2, fun _ => ⟨bel_on h.1 q2, h.2.1.below q2, h.2.2.below q2⟩⟩))
      generalize (decide ((s.ways.length : Int) ≤ 64) && allP (fun i => wayB s.places ((s.ways.getD i []).getD 0 0) ((s.ways.getD i []).getD 1 0) ((s.ways.getD i []).getD 2 0)) s.ways.length) = q at *
      go_wp2_with fail
      refine (HW.out _).mono ?_
      rintro e w1 ⟨rfl, rfl⟩
      go_wp2_with fail
      refine (HA.out _ hb hB.out hP.out).mono ?_
      rintro e w2 ⟨rfl, hb2⟩
      replace hb2 := bel_on hb hb2.none
      go_wp2
      go_ret
      exact ⟨ret_bool HE.out.symm, hb2⟩
end Go.Proofs.Ytdhkfhgggkndoaa
