/-
  Package setup: which ways, and which work, may be, of a whole setup.
  Package setup: which work, times and money may be.
  Package setup: which times and money may be; Check.
  Package setup: which money may be; Check.
  Package setup: what writes: a number more.
  Package setup: what Check tells is whether a setup may be.
-/
import Derived.Test.YtpgncbhahocmbaaGreatQam
import Derived.Laws.EntriesVeiled
import Derived.WideLaws
import Derived.Test.YtpgncbhahocmbaaGreatQaa
import Derived.Laws.Cover1
import Derived.OpenShut
import Derived.Test.YtpgncbhahocmbaaGreatProg
import Derived.Test.YtpgncbhahocmbaaGreatQab
import Derived.WalkKit
import Derived.WalkLawsBesides
import Derived.Lib.Hide
import Derived.IntWalk
import Derived.Lib.SliceRun
namespace Go.Proofs.YtpgncbhahocmbaaGreat
open Go.RowKit
set_option linter.unusedVariables false
set_option linter.unusedSimpArgs false
set_option maxRecDepth 20000

def groundB (s : SetP) : Bool := withB s.places 1 16 && (decide ((s.ways.length : Int) ≤ 64) && allP (fun i => wayB s.places ((s.ways.getD i []).getD 0 0) ((s.ways.getD i []).getD 1 0) ((s.ways.getD i []).getD 2 0)) s.ways.length)
theorem len_max {k : Nat} {w : World} {A : Option Addr} {n c : Nat} {t : Rows2} (h : Tab k w A n c t) : n ≤ 9223372036854775807 := Nat.le_trans h.cap h.max
set_option maxHeartbeats 2000000 in
theorem ground_any (s : SetP) (A1 A2 A3 A4 A5 A6 : Option Addr) (c1 c2 c3 c4 c5 c6 : Nat) (w : World) (hs : SetAt w s A1 A2 A3 A4 A5 A6 c1 c2 c3 c4 c5 c6) :
    Calls Tryz.prog 46 #[setV s A1 A2 A3 A4 A5 A6 c1 c2 c3 c4 c5 c6] w fun e w' => e = .returned (.bool (groundB s)) ∧ Below w.heap.size w w' := by
  have HT := Lib.hid hs.ways
  have hlm := len_max hs.ways
  have E : Hid (groundB s = (withB s.places 1 16 && (decide ((s.ways.length : Int) ≤ 64) && allP (fun i => wayB s.places ((s.ways.getD i []).getD 0 0) ((s.ways.getD i []).getD 1 0) ((s.ways.getD i []).getD 2 0)) s.ways.length))) := rfl
  have HW := Lib.hid (within_at s.places 1 16)
  clear hs
  unfold setV
  generalize groundB s = r at *
  go_enter Tryz.func46, Tryz.ntmps46
  go_upto_region 1 with fail
  go_cut [1, 3, 4] (fun v1 v3 v4 wx => ∃ B P : Nat, v1 = .pointer (some ⟨B, 0, none⟩) ∧ v3 = .pointer (some ⟨P, 0, none⟩) ∧ v4 = .func (.func 87) #[] #[.pointer (some ⟨B, 0, none⟩)] ∧ Hid (Has wx B #[.int .i64 s.places, .slice A1 s.ways.length c1, .int .i64 s.pn, .int .i64 s.pd, .slice A2 s.elements.length c2, .slice A3 s.classes.length c3, .slice A4 s.gears.length c4, .int .i64 s.allow, .int .i64 s.unit, .int .i64 s.cap, .int .i64 s.paid, .int .i64 s.aft, .int .i64 s.brk, .int .i64 s.reg, .int .i64 s.over, .int .i64 s.week, .int .i64 s.nfrom, .int .i64 s.nto, .slice A5 s.rates.length c5, .int .i64 s.diff, .int .i64 s.least, .int .i64 s.fault, .slice A6 s.tiers.length c6]) ∧ Hid (Has wx P #[.func (.func 87) #[] #[.pointer (some ⟨B, 0, none⟩)]]) ∧ Below w.heap.size w wx)
  case first =>
    go_wp2_with fail
    go_meet
    refine ⟨w.heap.size, w.heap.size + 1, rfl, by simp, rfl, ?_, ?_, ?_⟩
    · show Has _ _ _
      (repeat' (first | with_reducible assumption | ((with_reducible refine Has.new _ _ _ ?_); (first | (with_reducible rfl) | (simp; done))) | with_reducible refine Has.alloc ?_ _ | with_reducible refine Has.drewN ?_ _ | with_reducible refine Has.drew ?_))
    · show Has _ _ _
      (repeat' (first | with_reducible assumption | ((with_reducible refine Has.new _ _ _ ?_); (first | (with_reducible rfl) | (simp; done))) | with_reducible refine Has.alloc ?_ _ | with_reducible refine Has.drewN ?_ _ | with_reducible refine Has.drew ?_))
    · (repeat' (first | with_reducible exact Below.refl _ _ | with_reducible assumption | with_reducible refine bel_alloc ?_ _ | with_reducible refine bel_set ?_ ?_ _ | with_reducible refine below_drewN ?_ _ | with_reducible refine below_drew ?_ | (simp; done) | (simp; omega) | omega))
  case rest =>
    obtain ⟨B, P, rfl, rfl, rfl, hB, hP, hb⟩ := hcut
    have hc0 := hB.out.cell 0 rfl
    have hc1 := hB.out.cell 1 rfl
    have hBs := hB.out.size
    have HC0 := Lib.hid hc0
    cases hw : withB s.places 1 16 with
    | false =>
      have HE : Hid (r = false) := by show _ = _; rw [E.out, hw]; rfl
      rw [hw] at HW
      clear hw
      go_wp2_with fail
      refine (HW.out _).mono ?_
      rintro e w1 ⟨rfl, rfl⟩
      go_wp2
      go_ret
      exact ⟨ret_bool HE.out.symm, hb⟩
    | true =>
      have hp := hw
      unfold withB at hp
      simp only [Bool.and_eq_true, decide_eq_true_eq] at hp
      have HE : Hid (r = (decide ((s.ways.length : Int) ≤ 64) && allP (fun i => wayB s.places ((s.ways.getD i []).getD 0 0) ((s.ways.getD i []).getD 1 0) ((s.ways.getD i []).getD 2 0)) s.ways.length)) := by show _ = _; rw [E.out, hw]; rfl
      rw [hw] at HW
      clear hw
      have HA := Lib.hid (fun wx (h1 : Below w.heap.size w wx) (h2 : Has wx B #[.int .i64 s.places, .slice A1 s.ways.length c1, .int .i64 s.pn, .int .i64 s.pd, .slice A2 s.elements.length c2, .slice A3 s.classes.length c3, .slice A4 s.gears.length c4, .int .i64 s.allow, .int .i64 s.unit, .int .i64 s.cap, .int .i64 s.paid, .int .i64 s.aft, .int .i64 s.brk, .int .i64 s.reg, .int .i64 s.over, .int .i64 s.week, .int .i64 s.nfrom, .int .i64 s.nto, .slice A5 s.rates.length c5, .int .i64 s.diff, .int .i64 s.least, .int .i64 s.fault, .slice A6 s.tiers.length c6]) (h3 : Has wx P #[.func (.func 87) #[] #[.pointer (some ⟨B, 0, none⟩)]]) =>
        all_way A1 c1 s.ways.length 64 P s.ways wx (fun _ w' => Below w.heap.size w w' ∧ Has w' B #[.int .i64 s.places, .slice A1 s.ways.length c1, .int .i64 s.pn, .int .i64 s.pd, .slice A2 s.elements.length c2, .slice A3 s.classes.length c3, .slice A4 s.gears.length c4, .int .i64 s.allow, .int .i64 s.unit, .int .i64 s.cap, .int .i64 s.paid, .int .i64 s.aft, .int .i64 s.brk, .int .i64 s.reg, .int .i64 s.over, .int .i64 s.week, .int .i64 s.nfrom, .int .i64 s.nto, .slice A5 s.rates.length c5, .int .i64 s.diff, .int .i64 s.least, .int .i64 s.fault, .slice A6 s.tiers.length c6] ∧ Has w' P #[.func (.func 87) #[] #[.pointer (some ⟨B, 0, none⟩)]]) (fun _ => False) _ hlm (by constructor <;> omega) (fun x => x)
          (fun i w' h => HT.out.below h.1) ⟨h1, h2, h3⟩ (fun i w' w'' h k => ⟨bel_on h.1 k, h.2.1.below k, h.2.2.below k⟩)
          (fun i w' hi h => (way_at _ _ _ s.places B P w' hp.1 hp.2 (h.2.1.cell 0 rfl) h.2.2).mono fun e w'' ⟨q1, q2⟩ => ⟨q1, Chg.of_below q2, fun _ => ⟨bel_on h.1 q2, h.2.1.below q2, h.2.2.below q2⟩⟩))
      generalize (decide ((s.ways.length : Int) ≤ 64) && allP (fun i => wayB s.places ((s.ways.getD i []).getD 0 0) ((s.ways.getD i []).getD 1 0) ((s.ways.getD i []).getD 2 0)) s.ways.length) = q at *
      go_wp2_with fail
      refine (HW.out _).mono ?_
      rintro e w1 ⟨rfl, rfl⟩
      go_wp2_with fail
      refine (HA.out _ hb hB.out hP.out).mono ?_
      rintro e w2 ⟨rfl, hb2⟩
      replace hb2 := bel_on hb hb2.none
      go_wp2
      go_ret
      exact ⟨ret_bool HE.out.symm, hb2⟩
end Go.Proofs.YtpgncbhahocmbaaGreat

namespace Go.Proofs.YtpgncbhahocmbaaGreat
open Go.RowKit
set_option linter.unusedVariables false
set_option linter.unusedSimpArgs false
set_option maxRecDepth 20000

/-! ### Work -/
theorem ele_at (a b c d : Int) (w : World) (ha : In64 a) (hb : In64 b) (hc : In64 c) (hd : In64 d) :
    Calls Tryz.prog 92 #[.agg #[.int .i64 a, .int .i64 b, .int .i64 c, .int .i64 d]] w fun e w' => e = .returned (.bool (shareB a b && shareB c d)) ∧ Below w.heap.size w w' := by
  have H1 := Lib.hid (share_any a b · ha hb)
  have H2 := Lib.hid (share_any c d · hc hd)
  generalize shareB a b = r1 at *
  generalize shareB c d = r2 at *
  cases r1 with
  | true =>
    go_enter Tryz.func92, Tryz.ntmps92
    go_wp2_with fail
    refine (H1.out _).mono ?_
    rintro e w1 ⟨rfl, hb1⟩
    have k2 := (hb1.cell (p := ⟨w.heap.size, 2, none⟩) (by simp)).trans (show _ = some (.int .i64 c) by simp)
    have k3 := (hb1.cell (p := ⟨w.heap.size, 3, none⟩) (by simp)).trans (show _ = some (.int .i64 d) by simp)
    have hz : w.heap.size < w1.heap.size := by have := hb1.size; simp at this; omega
    replace hb1 := bel_on (bel_alloc (Below.refl _ _) _) hb1
    go_wp2_with fail
    refine (H2.out _).mono ?_
    rintro e w2 ⟨rfl, hb2⟩
    replace hb2 := bel_on hb1 hb2
    go_wp2
    go_ret
    exact ⟨ret_bool (by simp), hb2⟩
  | false =>
    go_enter Tryz.func92, Tryz.ntmps92
    go_wp2_with fail
    refine (H1.out _).mono ?_
    rintro e w1 ⟨rfl, hb1⟩
    replace hb1 := bel_on (bel_alloc (Below.refl _ _) _) hb1
    go_wp2
    go_ret
    exact ⟨ret_bool (by simp), hb1⟩
def eleB (l : Rows2) : Bool := decide ((l.length : Int) ≤ 8) && allP (fun i => shareB ((l.getD i []).getD 0 0) ((l.getD i []).getD 1 0) && shareB ((l.getD i []).getD 2 0) ((l.getD i []).getD 3 0)) l.length
def ratB (l : Rows2) : Bool := decide ((l.length : Int) ≤ 8) && allP (fun i => shareB ((l.getD i []).getD 0 0) ((l.getD i []).getD 1 0)) l.length
theorem eles_any (A : Option Addr) (c : Nat) (l : Rows2) (w : World) (hT : Tab 4 w A l.length c l) :
    Calls Tryz.prog 91 #[.slice A l.length c, .int .i64 8, .func (.func 92) #[] #[]] w fun e w' => e = .returned (.bool (eleB l)) ∧ Below w.heap.size w w' :=
  (all_ele A c l.length 8 l w (fun _ w' => Below w.heap.size w w') (fun _ => False) _ (len_max hT) (by constructor <;> omega) (fun x => x) (fun i w' h => hT.below h) (Below.refl _ _) (fun i w' w'' h k => bel_on h k)
    (fun i w' hi h => (ele_at _ _ _ _ w' (hT.at_small hi (by decide)) (hT.at_small hi (by decide)) (hT.at_small hi (by decide)) (hT.at_small hi (by decide))).mono fun e w'' ⟨q1, q2⟩ => ⟨q1, Chg.of_below q2, fun _ => bel_on h q2⟩)).mono
    fun e w' ⟨h1, h2⟩ => ⟨h1, h2.none⟩
theorem rats_any (A : Option Addr) (c : Nat) (l : Rows2) (w : World) (hT : Tab 2 w A l.length c l) :
    Calls Tryz.prog 94 #[.slice A l.length c, .int .i64 8, .func (.func 93) #[] #[]] w fun e w' => e = .returned (.bool (ratB l)) ∧ Below w.heap.size w w' :=
  (all_rat A c l.length 8 l w (fun _ w' => Below w.heap.size w w') (fun _ => False) _ (len_max hT) (by constructor <;> omega) (fun x => x) (fun i w' h => hT.below h) (Below.refl _ _) (fun i w' w'' h k => bel_on h k)
    (fun i w' hi h => (share_any _ _ w' (hT.at_small hi (by decide)) (hT.at_small hi (by decide))).mono fun e w'' ⟨q1, q2⟩ => ⟨q1, Chg.of_below q2, fun _ => bel_on h q2⟩)).mono
    fun e w' ⟨h1, h2⟩ => ⟨h1, h2.none⟩
def workB (s : SetP) : Bool := shareB s.pn s.pd && eleB s.elements && ratB s.classes && ratB s.gears && withB s.allow 0 100
set_option maxHeartbeats 2000000 in
theorem work_any (s : SetP) (A1 A2 A3 A4 A5 A6 : Option Addr) (c1 c2 c3 c4 c5 c6 : Nat) (w : World) (hs : SetAt w s A1 A2 A3 A4 A5 A6 c1 c2 c3 c4 c5 c6) (hf : s.Fit) :
    Calls Tryz.prog 47 #[setV s A1 A2 A3 A4 A5 A6 c1 c2 c3 c4 c5 c6] w fun e w' => e = .returned (.bool (workB s)) ∧ Below w.heap.size w w' := by
  have HE := Lib.hid (fun wx (h : Below w.heap.size w wx) => eles_any A2 c2 s.elements wx (hs.elements.below h))
  have HC := Lib.hid (fun wx (h : Below w.heap.size w wx) => rats_any A3 c3 s.classes wx (hs.classes.below h))
  have HG := Lib.hid (fun wx (h : Below w.heap.size w wx) => rats_any A4 c4 s.gears wx (hs.gears.below h))
  have HP := Lib.hid (share_any s.pn s.pd · hf.pn hf.pd)
  have HW := Lib.hid (within_at s.allow 0 100)
  have E : Hid (workB s = (shareB s.pn s.pd && eleB s.elements && ratB s.classes && ratB s.gears && withB s.allow 0 100)) := rfl
  clear hs hf
  generalize workB s = r at *
  generalize shareB s.pn s.pd = r1 at *
  generalize eleB s.elements = r2 at *
  generalize ratB s.classes = r3 at *
  generalize ratB s.gears = r4 at *
  generalize withB s.allow 0 100 = r5 at *
  unfold setV
  go_enter Tryz.func47, Tryz.ntmps47
  go_wp2_with fail
  refine (HE.out _ (by (repeat' (first | with_reducible exact Below.refl _ _ | with_reducible assumption | with_reducible refine bel_alloc ?_ _ | with_reducible refine bel_set ?_ ?_ _ | with_reducible refine below_drewN ?_ _ | with_reducible refine below_drew ?_ | (simp; done) | (simp; omega) | omega)))).mono ?_
  rintro e w1 ⟨rfl, hb1⟩
  have hB : Has w1 w.heap.size #[.int .i64 s.places, .slice A1 s.ways.length c1, .int .i64 s.pn, .int .i64 s.pd, .slice A2 s.elements.length c2, .slice A3 s.classes.length c3, .slice A4 s.gears.length c4, .int .i64 s.allow, .int .i64 s.unit, .int .i64 s.cap, .int .i64 s.paid, .int .i64 s.aft, .int .i64 s.brk, .int .i64 s.reg, .int .i64 s.over, .int .i64 s.week, .int .i64 s.nfrom, .int .i64 s.nto, .slice A5 s.rates.length c5, .int .i64 s.diff, .int .i64 s.least, .int .i64 s.fault, .slice A6 s.tiers.length c6] := (Has.new _ _ _ rfl).below hb1
  replace hb1 := bel_on (bel_alloc (Below.refl _ _) _) hb1
  have HB := Lib.hid hB
  clear hB
  generalize w.heap.size = B at HB ⊢
  have k2 := HB.out.cell 2 rfl
  have k3 := HB.out.cell 3 rfl
  have hz := HB.out.size
  go_wp2_with fail
  refine (HP.out _).mono ?_
  rintro e w2 ⟨rfl, hb2⟩
  replace HB := Lib.hid (HB.out.below hb2)
  replace hb2 := bel_on hb1 hb2
  clear hb1 k2 k3 hz
  have k5 := HB.out.cell 5 rfl
  have k6 := HB.out.cell 6 rfl
  have k7 := HB.out.cell 7 rfl
  have hz := HB.out.size
  cases r1
  · go_wp2
    go_ret
    exact ⟨ret_bool (by rw [E.out]; simp), hb2⟩
  cases r2
  · go_wp2
    go_ret
    exact ⟨ret_bool (by rw [E.out]; simp), hb2⟩
  go_wp2_with fail
  refine (HC.out _ hb2).mono ?_
  rintro e w3 ⟨rfl, hb3⟩
  replace HB := Lib.hid (HB.out.below hb3)
  replace hb3 := bel_on hb2 hb3
  clear hb2 k5 k6 k7 hz
  have k6 := HB.out.cell 6 rfl
  have k7 := HB.out.cell 7 rfl
  have hz := HB.out.size
  cases r3
  · go_wp2
    go_ret
    exact ⟨ret_bool (by rw [E.out]; simp), hb3⟩
  go_wp2_with fail
  refine (HG.out _ hb3).mono ?_
  rintro e w4 ⟨rfl, hb4⟩
  replace HB := Lib.hid (HB.out.below hb4)
  replace hb4 := bel_on hb3 hb4
  clear hb3 k6 k7 hz
  have k7 := HB.out.cell 7 rfl
  have hz := HB.out.size
  cases r4
  · go_wp2
    go_ret
    exact ⟨ret_bool (by rw [E.out]; simp), hb4⟩
  go_wp2_with fail
  refine (HW.out _).mono ?_
  rintro e w5 ⟨rfl, rfl⟩
  go_wp2
  go_ret
  exact ⟨ret_bool (by rw [E.out]; simp), hb4⟩
end Go.Proofs.YtpgncbhahocmbaaGreat

namespace Go.Proofs.YtpgncbhahocmbaaGreat
open Go.RowKit
set_option linter.unusedVariables false
set_option linter.unusedSimpArgs false
set_option maxRecDepth 20000

theorem day_at (n : Int) (w : World) : Calls Tryz.prog 96 #[.int .i64 n] w fun e w' => e = .returned (.bool (withB n 0 86400)) ∧ Below w.heap.size w w' := by
  have HW := Lib.hid (within_at n 0 86400 w)
  generalize withB n 0 86400 = r at *
  go_enter Tryz.func96, Tryz.ntmps96
  go_wp2_with fail
  refine HW.out.mono ?_
  rintro e w1 ⟨rfl, rfl⟩
  go_wp2
  go_ret
  exact ⟨rfl, Below.refl _ _⟩
theorem rate_at (n : Int) (w : World) : Calls Tryz.prog 97 #[.int .i64 n] w fun e w' => e = .returned (.bool (withB n 0 100000)) ∧ w = w' := by
  have HW := Lib.hid (within_at n 0 100000 w)
  generalize withB n 0 100000 = r at *
  go_enter Tryz.func97, Tryz.ntmps97
  go_wp2_with fail
  refine HW.out.mono ?_
  rintro e w1 ⟨rfl, rfl⟩
  go_wp2
  go_ret
  exact ⟨rfl, rfl⟩
theorem tab_one {w : World} {A : Option Addr} {n c : Nat} {zs : List Int} (hs : Sl 1 w A n c (ints .i64 zs)) (hz : ∀ z ∈ zs, In64 z) (hc : n ≤ c) (hm : c ≤ 9223372036854775807) : Tab 1 w A n c (zs.map fun z => [z]) := by
  refine ⟨by rw [flat_ones]; exact hs, ?_, ?_, ?_, hc, hm⟩
  · have := hs.1
    simp [ints] at this
    simpa using this
  · intro r hr
    simp only [List.mem_map] at hr
    obtain ⟨z, _, rfl⟩ := hr
    rfl
  · intro r hr z h
    simp only [List.mem_map] at hr
    obtain ⟨y, hy, rfl⟩ := hr
    obtain rfl : z = y := by simpa using h
    exact hz z hy
theorem sl_row (w : World) (t : TypeId) (zs : List Int) {N n : Nat} (hN : w.heap.size = N) (hn : zs.length = n) : Sl 1 (w.alloc (.cells (ints .i64 zs).toArray t)) (some ⟨N, 0, none⟩) n n (ints .i64 zs) := by
  subst hn hN
  refine ⟨by simp [ints], .inr ⟨_, rfl, fun j u hu => ?_⟩⟩
  rw [tab_add, Nat.zero_add, cell_of_row _ _ _ _ _ _ (heap_alloc_new w _)]
  simpa using hu
def timesB (s : SetP) : Bool := (decide ((8 : Int) ≤ 8) && allP (fun i => withB ((([s.paid, s.aft, s.brk, s.reg, s.over, s.nfrom, s.nto, s.fault].map fun z => [z]).getD i []).getD 0 0) 0 86400) 8) && decide (s.reg ≤ s.over) && withB s.week 0 604800 && withB s.unit 1 3600 && withB s.cap 60 57600
set_option maxHeartbeats 2000000 in
theorem times_any (s : SetP) (A1 A2 A3 A4 A5 A6 : Option Addr) (c1 c2 c3 c4 c5 c6 : Nat) (w : World) (hf : s.Fit) :
    Calls Tryz.prog 48 #[setV s A1 A2 A3 A4 A5 A6 c1 c2 c3 c4 c5 c6] w fun e w' => e = .returned (.bool (timesB s)) ∧ Below w.heap.size w w' := by
  have HA := Lib.hid (fun (wx : World) (hT : Tab 1 wx (some ⟨w.heap.size + 1, 0, none⟩) 8 8 ([s.paid, s.aft, s.brk, s.reg, s.over, s.nfrom, s.nto, s.fault].map fun z => [z])) =>
    all_day (some ⟨w.heap.size + 1, 0, none⟩) 8 8 8 _ wx (fun _ w' => Below wx.heap.size wx w') (fun _ => False) _ (by omega) (by constructor <;> omega) (fun x => x) (fun i w' h => hT.below h) (Below.refl _ _) (fun i w' w'' h k => bel_on h k)
      (fun i w' hi h => (day_at _ w').mono fun e w'' ⟨q1, q2⟩ => ⟨q1, Chg.of_below q2, fun _ => bel_on h q2⟩))
  have HF : Hid (∀ z ∈ [s.paid, s.aft, s.brk, s.reg, s.over, s.nfrom, s.nto, s.fault], In64 z) := by
    intro z hz
    simp only [List.mem_cons, List.not_mem_nil, or_false] at hz
    rcases hz with rfl | rfl | rfl | rfl | rfl | rfl | rfl | rfl
    · exact hf.paid
    · exact hf.aft
    · exact hf.brk
    · exact hf.reg
    · exact hf.over
    · exact hf.nfrom
    · exact hf.nto
    · exact hf.fault
  have E : Hid (timesB s = ((decide ((8 : Int) ≤ 8) && allP (fun i => withB ((([s.paid, s.aft, s.brk, s.reg, s.over, s.nfrom, s.nto, s.fault].map fun z => [z]).getD i []).getD 0 0) 0 86400) 8) && decide (s.reg ≤ s.over) && withB s.week 0 604800 && withB s.unit 1 3600 && withB s.cap 60 57600)) := rfl
  have HT : Hid (∀ wx : World, wx.heap.size = w.heap.size + 1 → Tab 1 (wx.alloc (.cells #[.int .i64 s.paid, .int .i64 s.aft, .int .i64 s.brk, .int .i64 s.reg, .int .i64 s.over, .int .i64 s.nfrom, .int .i64 s.nto, .int .i64 s.fault] 3)) (some ⟨w.heap.size + 1, 0, none⟩) 8 8 ([s.paid, s.aft, s.brk, s.reg, s.over, s.nfrom, s.nto, s.fault].map fun z => [z])) :=
    fun wx hx => tab_one (sl_row wx 3 [s.paid, s.aft, s.brk, s.reg, s.over, s.nfrom, s.nto, s.fault] hx rfl) HF.out (by omega) (by omega)
  have H1 := Lib.hid (within_at s.week 0 604800)
  have H2 := Lib.hid (within_at s.unit 1 3600)
  have H3 := Lib.hid (within_at s.cap 60 57600)
  clear hf HF
  generalize timesB s = r at *
  generalize (decide ((8 : Int) ≤ 8) && allP (fun i => withB ((([s.paid, s.aft, s.brk, s.reg, s.over, s.nfrom, s.nto, s.fault].map fun z => [z]).getD i []).getD 0 0) 0 86400) 8) = r1 at *
  generalize withB s.week 0 604800 = r3 at *
  generalize withB s.unit 1 3600 = r4 at *
  generalize withB s.cap 60 57600 = r5 at *
  unfold setV
  go_enter Tryz.func48, Tryz.ntmps48
  go_wp2_with fail
  refine (HA.out _ (HT.out _ (by simp))).mono ?_
  rintro e w1 ⟨rfl, hb1⟩
  have hB : Has w1 w.heap.size #[.int .i64 s.places, .slice A1 s.ways.length c1, .int .i64 s.pn, .int .i64 s.pd, .slice A2 s.elements.length c2, .slice A3 s.classes.length c3, .slice A4 s.gears.length c4, .int .i64 s.allow, .int .i64 s.unit, .int .i64 s.cap, .int .i64 s.paid, .int .i64 s.aft, .int .i64 s.brk, .int .i64 s.reg, .int .i64 s.over, .int .i64 s.week, .int .i64 s.nfrom, .int .i64 s.nto, .slice A5 s.rates.length c5, .int .i64 s.diff, .int .i64 s.least, .int .i64 s.fault, .slice A6 s.tiers.length c6] := ((Has.new _ _ _ rfl).alloc _).below hb1.none
  replace hb1 := bel_on (bel_alloc (bel_alloc (Below.refl _ _) _) _) hb1.none
  have HB := Lib.hid hB
  clear hB HA HT
  generalize w.heap.size = B at HB ⊢
  have k13 := HB.out.cell 13 rfl
  have k14 := HB.out.cell 14 rfl
  have k15 := HB.out.cell 15 rfl
  have k8 := HB.out.cell 8 rfl
  have k9 := HB.out.cell 9 rfl
  have hz := HB.out.size
  cases r1
  · go_wp2
    go_ret
    exact ⟨ret_bool (by rw [E.out]; simp), hb1⟩
  by_cases hro : s.reg ≤ s.over
  · go_wp2_with fail
    refine (H1.out _).mono ?_
    rintro e w5 ⟨rfl, rfl⟩
    cases r3
    · go_wp2
      go_ret
      exact ⟨ret_bool (by rw [E.out]; simp), hb1⟩
    go_wp2_with fail
    refine (H2.out _).mono ?_
    rintro e w6 ⟨rfl, rfl⟩
    cases r4
    · go_wp2
      go_ret
      exact ⟨ret_bool (by rw [E.out]; simp), hb1⟩
    go_wp2_with fail
    refine (H3.out _).mono ?_
    rintro e w7 ⟨rfl, rfl⟩
    go_wp2
    go_ret
    exact ⟨ret_bool (by rw [E.out]; simp [hro]), hb1⟩
  · have hd := Lib.hid (decide_eq_false hro)
    go_wp2
    go_ret
    exact ⟨ret_bool (by rw [E.out, hd.out]; simp), hb1⟩
/-! ### Money -/
set_option maxHeartbeats 2000000 in
theorem tier_at (a b lo : Int) (L P : Nat) (w : World) (ha : In64 a) (h0 : 0 ≤ lo) (hL : Has w L #[.int .i64 lo]) (hP : Has w P #[.func (.func 97) #[] #[]]) (hLP : L ≠ P) :
    Calls Tryz.prog 99 #[.agg #[.int .i64 a, .int .i64 b], .pointer (some ⟨L, 0, none⟩), .pointer (some ⟨P, 0, none⟩)] w fun e w' => e = .returned (.bool (withB a lo 1000 && withB b 0 100000)) ∧ Chg (fun x => x = L) w w' ∧ ((withB a lo 1000 && withB b 0 100000) = true → Has w' L #[.int .i64 (a + 1)]) := by
  obtain ⟨ha1, ha2⟩ := ha
  have H1 := Lib.hid (within_at a lo 1000)
  have H2 := Lib.hid (rate_at b)
  have hl := hL.cell 0 rfl
  have hlf := hL.frozen 0
  have hls := hL.size
  have hp := hP.cell 0 rfl
  have hps := hP.size
  have hne1 : L ≠ w.heap.size := by omega
  have hne2 : P ≠ w.heap.size := by omega
  have HL := Lib.hid hL
  have hE : Hid (withB a lo 1000 = true → 0 ≤ a ∧ a ≤ 1000) := by
    intro h
    unfold withB at h
    simp only [Bool.and_eq_true, decide_eq_true_eq] at h
    omega
  clear hL hP
  generalize withB a lo 1000 = r1 at *
  generalize withB b 0 100000 = r2 at *
  cases r1 with
  | true =>
    have hb := hE.out rfl
    go_enter Tryz.func99, Tryz.ntmps99
    go_wp2_with fail
    refine (H1.out _).mono ?_
    rintro e w5 ⟨rfl, rfl⟩
    go_wp2_with fail
    refine (H2.out _).mono ?_
    rintro e w6 ⟨rfl, rfl⟩
    go_wp2
    go_ret
    refine ⟨ret_bool (by simp), ?_, fun _ => ?_⟩
    · exact Chg.alloc (Chg.set (M := fun x => x = L) (p := ⟨L, 0, none⟩) (Chg.refl _ w) (.inr rfl) _) _
    · exact (HL.out.set 0 (.int .i64 (a + 1))).alloc _
  | false =>
    go_enter Tryz.func99, Tryz.ntmps99
    go_wp2_with fail
    refine (H1.out _).mono ?_
    rintro e w5 ⟨rfl, rfl⟩
    go_wp2
    go_ret
    refine ⟨ret_bool (by simp), ?_, fun h => by simp at h⟩
    · exact Chg.alloc (Chg.set (M := fun x => x = L) (p := ⟨L, 0, none⟩) (Chg.refl _ w) (.inr rfl) _) _
end Go.Proofs.YtpgncbhahocmbaaGreat

namespace Go.Proofs.YtpgncbhahocmbaaGreat
open Go.RowKit
set_option linter.unusedVariables false
set_option linter.unusedSimpArgs false
set_option maxRecDepth 20000

def loT (l : Rows2) : Nat → Int
  | 0 => 0
  | i + 1 => (l.getD i []).getD 0 0 + 1
def tiersB (l : Rows2) : Bool := decide ((l.length : Int) ≤ 8) && allP (fun i => withB ((l.getD i []).getD 0 0) (loT l i) 1000 && withB ((l.getD i []).getD 1 0) 0 100000) l.length
theorem tiers_any (A : Option Addr) (c : Nat) (l : Rows2) (L P : Nat) (w0 w : World) (hT : Tab 2 w0 A l.length c l) (hb : Below w0.heap.size w0 w) (h0 : w0.heap.size ≤ L) (hL : Has w L #[.int .i64 0]) (hP : Has w P #[.func (.func 97) #[] #[]]) (hLP : L ≠ P) :
    Calls Tryz.prog 98 #[.slice A l.length c, .int .i64 8, .func (.func 99) #[] #[.pointer (some ⟨L, 0, none⟩), .pointer (some ⟨P, 0, none⟩)]] w fun e w' => e = .returned (.bool (tiersB l)) ∧ Chg (fun x => x = L) w w' := by
  have hLs := hL.size
  refine all_tier A c l.length 8 L P l w (fun i w' => Below w0.heap.size w0 w' ∧ Has w' L #[.int .i64 (loT l i)] ∧ Has w' P #[.func (.func 97) #[] #[]] ∧ 0 ≤ loT l i) (fun x => x = L) _ (len_max hT) (by constructor <;> omega) (by omega)
    (fun i w' h => hT.below h.1) ⟨hb, hL, hP, Int.le_refl _⟩ (fun i w' w'' h k => ⟨bel_on h.1 k, h.2.1.below k, h.2.2.1.below k, h.2.2.2⟩)
    (fun i w' hi h => (tier_at _ _ _ L P w' (hT.at_small hi (by decide)) h.2.2.2 h.2.1 h.2.2.1 hLP).mono fun e w'' ⟨q1, q2, q3⟩ => ⟨q1, q2, fun hp => ?_⟩)
  have hw : 0 ≤ (l.getD i []).getD 0 0 := by
    simp only [Bool.and_eq_true, withB, decide_eq_true_eq] at hp
    have := h.2.2.2
    omega
  exact ⟨h.1.trans (q2.below (by have := h.1.size; omega) (fun x hx => by omega)), q3 hp, h.2.2.1.chg (fun hx => hLP hx.symm) q2, by show 0 ≤ _ + 1; omega⟩
def ratesB (l : List Int) : Bool := decide ((l.length : Int) ≤ 16) && allP (fun i => withB (((l.map fun z => [z]).getD i []).getD 0 0) 0 100000) l.length
theorem rates_any (A : Option Addr) (c : Nat) (l : List Int) (w : World) (hT : Tab 1 w A l.length c (l.map fun z => [z])) :
    Calls Tryz.prog 95 #[.slice A l.length c, .int .i64 16, .func (.func 97) #[] #[]] w fun e w' => e = .returned (.bool (ratesB l)) ∧ Below w.heap.size w w' :=
  (all_rate A c l.length 16 (l.map fun z => [z]) w (fun _ w' => Below w.heap.size w w') (fun _ => False) _ (len_max hT) (by constructor <;> omega) (fun x => x) (fun i w' h => hT.below h) (Below.refl _ _) (fun i w' w'' h k => bel_on h k)
    (fun i w' hi h => (rate_at _ w').mono fun e w'' ⟨q1, q2⟩ => by subst q2; exact ⟨q1, Chg.refl _ _, fun _ => h⟩)).mono
    fun e w' ⟨h1, h2⟩ => ⟨h1, h2.none⟩
def moneyB (s : SetP) : Bool := decide (0 < (s.rates.length : Int)) && ratesB s.rates && withB s.diff 0 100000 && withB s.least 0 100000 && tiersB s.tiers
set_option maxHeartbeats 4000000 in
theorem money_any (s : SetP) (A1 A2 A3 A4 A5 A6 : Option Addr) (c1 c2 c3 c4 c5 c6 : Nat) (w : World) (hs : SetAt w s A1 A2 A3 A4 A5 A6 c1 c2 c3 c4 c5 c6) :
    Calls Tryz.prog 49 #[setV s A1 A2 A3 A4 A5 A6 c1 c2 c3 c4 c5 c6] w fun e w' => e = .returned (.bool (moneyB s)) ∧ Below w.heap.size w w' := by
  have HT := Lib.hid (fun wx (h : Below w.heap.size w wx) (h2 : Has wx (w.heap.size + 2) #[.int .i64 0]) (h3 : Has wx (w.heap.size + 1) #[.func (.func 97) #[] #[]]) => tiers_any A6 c6 s.tiers (w.heap.size + 2) (w.heap.size + 1) w wx hs.tiers h (by omega) h2 h3 (by omega))
  have HR := Lib.hid (fun wx (h : Below w.heap.size w wx) => rates_any A5 c5 s.rates wx (hs.rates.below h))
  have H1 := Lib.hid (rate_at s.diff)
  have H2 := Lib.hid (rate_at s.least)
  have hlm := len_max hs.rates
  have E : Hid (moneyB s = (decide (0 < (s.rates.length : Int)) && ratesB s.rates && withB s.diff 0 100000 && withB s.least 0 100000 && tiersB s.tiers)) := rfl
  clear hs
  generalize moneyB s = r at *
  generalize ratesB s.rates = r2 at *
  generalize withB s.diff 0 100000 = r3 at *
  generalize withB s.least 0 100000 = r4 at *
  generalize tiersB s.tiers = r5 at *
  unfold setV
  go_enter Tryz.func49, Tryz.ntmps49
  go_wp2_with fail
  refine (HT.out _ (by (repeat' (first | with_reducible exact Below.refl _ _ | with_reducible assumption | with_reducible refine bel_alloc ?_ _ | with_reducible refine bel_set ?_ ?_ _ | with_reducible refine below_drewN ?_ _ | with_reducible refine below_drew ?_ | (simp; done) | (simp; omega) | omega))) (by (repeat' (first | with_reducible assumption | ((with_reducible refine Has.new _ _ _ ?_); (first | (with_reducible rfl) | (simp; done))) | with_reducible refine Has.alloc ?_ _ | with_reducible refine Has.drewN ?_ _ | with_reducible refine Has.drew ?_))) (by (repeat' (first | with_reducible assumption | ((with_reducible refine Has.new _ _ _ ?_); (first | (with_reducible rfl) | (simp; done))) | with_reducible refine Has.alloc ?_ _ | with_reducible refine Has.drewN ?_ _ | with_reducible refine Has.drew ?_)))).mono ?_
  rintro e w1 ⟨rfl, hb1⟩
  have hB : Has w1 w.heap.size #[.int .i64 s.places, .slice A1 s.ways.length c1, .int .i64 s.pn, .int .i64 s.pd, .slice A2 s.elements.length c2, .slice A3 s.classes.length c3, .slice A4 s.gears.length c4, .int .i64 s.allow, .int .i64 s.unit, .int .i64 s.cap, .int .i64 s.paid, .int .i64 s.aft, .int .i64 s.brk, .int .i64 s.reg, .int .i64 s.over, .int .i64 s.week, .int .i64 s.nfrom, .int .i64 s.nto, .slice A5 s.rates.length c5, .int .i64 s.diff, .int .i64 s.least, .int .i64 s.fault, .slice A6 s.tiers.length c6] := Has.chg (((Has.new _ _ _ rfl).alloc _).alloc _) (by omega) hb1
  have hP : Has w1 (w.heap.size + 1) #[.func (.func 97) #[] #[]] := Has.chg (by (repeat' (first | with_reducible assumption | ((with_reducible refine Has.new _ _ _ ?_); (first | (with_reducible rfl) | (simp; done))) | with_reducible refine Has.alloc ?_ _ | with_reducible refine Has.drewN ?_ _ | with_reducible refine Has.drew ?_))) (by omega) hb1
  have hb : Below w.heap.size w w1 := (bel_alloc (bel_alloc (bel_alloc (Below.refl _ _) _) _) _).trans (hb1.below (by simp; omega) (fun x hx => by omega))
  have HB := Lib.hid hB
  have HP := Lib.hid hP
  clear hB hP HT hb1
  generalize w.heap.size + 2 = L at *
  generalize w.heap.size + 1 = P at HP ⊢
  generalize w.heap.size = B at HB ⊢
  have k18 := HB.out.cell 18 rfl
  have k19 := HB.out.cell 19 rfl
  have k20 := HB.out.cell 20 rfl
  have kp := HP.out.cell 0 rfl
  have hz := HB.out.size
  have hzp := HP.out.size
  by_cases hr : 0 < (s.rates.length : Int)
  · have hd := Lib.hid (decide_eq_true hr)
    go_wp2_with fail
    refine (HR.out _ hb).mono ?_
    rintro e w2 ⟨rfl, hb2⟩
    replace HB := Lib.hid (HB.out.below hb2)
    replace HP := Lib.hid (HP.out.below hb2)
    replace hb2 := bel_on hb hb2
    clear hb k18 k19 k20 kp hz hzp
    have k19 := HB.out.cell 19 rfl
    have k20 := HB.out.cell 20 rfl
    have kp := HP.out.cell 0 rfl
    have hz := HB.out.size
    have hzp := HP.out.size
    cases r2
    · go_wp2
      go_ret
      exact ⟨ret_bool (by rw [E.out]; simp), hb2⟩
    go_wp2_with fail
    refine (H1.out _).mono ?_
    rintro e w3 ⟨rfl, rfl⟩
    cases r3
    · go_wp2
      go_ret
      exact ⟨ret_bool (by rw [E.out]; simp), hb2⟩
    go_wp2_with fail
    refine (H2.out _).mono ?_
    rintro e w3 ⟨rfl, rfl⟩
    cases r4
    · go_wp2
      go_ret
      exact ⟨ret_bool (by rw [E.out]; simp), hb2⟩
    go_wp2
    go_ret
    exact ⟨ret_bool (by rw [E.out, hd.out]; simp), hb2⟩
  · have hd := Lib.hid (decide_eq_false hr)
    go_wp2
    go_ret
    exact ⟨ret_bool (by rw [E.out, hd.out]; simp), hb⟩
/-! ### Check -/
theorem wpList_load_has {ops : Array Oper} {rest : List Oper} {o : Oper} {a : Act} {w : World} {Q : Exit → Act → World → Prop} (hgd : Region.wanted o (yielded ops a.tmps) = true) (x : Operand) (ho : o.op = .load 30 x)
    (g : Nat) (hx : a.eval x = .pointer (some ⟨g, 0, none⟩)) (cs : Array Value) (hg : Has w g cs) (hs : cs.size = 23)
    (h : wpList Tryz.prog ops Q rest (a.put o.dst (.agg cs)) w) : wpList Tryz.prog ops Q (o :: rest) a w := by
  refine wpList_step fun K hK => ?_
  rw [if_pos hgd]
  obtain ⟨t, hg⟩ := hg
  exact wp_load_row _ x ho g hx t cs (0, 0) _ hg Tryz.underlying30 rfl (by rw [hs]; kernel_rfl) (hK _ _ h)
def checkB (s : SetP) : Bool := groundB s && workB s && timesB s && moneyB s
set_option maxHeartbeats 2000000 in
theorem setcheck_any (s : SetP) (A1 A2 A3 A4 A5 A6 : Option Addr) (c1 c2 c3 c4 c5 c6 : Nat) (w : World) (hs : SetAt w s A1 A2 A3 A4 A5 A6 c1 c2 c3 c4 c5 c6) (hf : s.Fit) :
    Calls Tryz.prog 16 #[setV s A1 A2 A3 A4 A5 A6 c1 c2 c3 c4 c5 c6] w fun e w' => e = .returned (.bool (checkB s)) ∧ Below w.heap.size w w' := by
  have H1 := Lib.hid (fun wx (h : Below w.heap.size w wx) => ground_any s A1 A2 A3 A4 A5 A6 c1 c2 c3 c4 c5 c6 wx (hs.below h))
  have H2 := Lib.hid (fun wx (h : Below w.heap.size w wx) => work_any s A1 A2 A3 A4 A5 A6 c1 c2 c3 c4 c5 c6 wx (hs.below h) hf)
  have H3 := Lib.hid (fun wx => times_any s A1 A2 A3 A4 A5 A6 c1 c2 c3 c4 c5 c6 wx hf)
  have H4 := Lib.hid (fun wx (h : Below w.heap.size w wx) => money_any s A1 A2 A3 A4 A5 A6 c1 c2 c3 c4 c5 c6 wx (hs.below h))
  have E : Hid (checkB s = (groundB s && workB s && timesB s && moneyB s)) := rfl
  clear hs hf
  generalize checkB s = r at *
  generalize groundB s = r1 at *
  generalize workB s = r2 at *
  generalize timesB s = r3 at *
  generalize moneyB s = r4 at *
  unfold setV at *
  generalize hcs : (#[.int .i64 s.places, .slice A1 s.ways.length c1, .int .i64 s.pn, .int .i64 s.pd, .slice A2 s.elements.length c2, .slice A3 s.classes.length c3, .slice A4 s.gears.length c4, .int .i64 s.allow, .int .i64 s.unit, .int .i64 s.cap, .int .i64 s.paid, .int .i64 s.aft, .int .i64 s.brk, .int .i64 s.reg, .int .i64 s.over, .int .i64 s.week, .int .i64 s.nfrom, .int .i64 s.nto, .slice A5 s.rates.length c5, .int .i64 s.diff, .int .i64 s.least, .int .i64 s.fault, .slice A6 s.tiers.length c6] : Array Value) = cs at *
  have hsz : cs.size = 23 := by rw [← hcs]; rfl
  have HS := Lib.hid hsz
  clear hcs hsz
  go_enter Tryz.func16, Tryz.ntmps16
  go_wp2_with (refine wpList_load_has (by rfl) _ rfl w.heap.size rfl cs (Has.new _ _ _ rfl) HS.out ?_)
  refine (H1.out _ (by (repeat' (first | with_reducible exact Below.refl _ _ | with_reducible assumption | with_reducible refine bel_alloc ?_ _ | with_reducible refine bel_set ?_ ?_ _ | with_reducible refine below_drewN ?_ _ | with_reducible refine below_drew ?_ | (simp; done) | (simp; omega) | omega)))).mono ?_
  rintro e w1 ⟨rfl, hb1⟩
  have HB := Lib.hid ((Has.new w 30 cs rfl).below hb1)
  replace hb1 := bel_on (bel_alloc (Below.refl _ _) _) hb1
  cases r1
  · go_wp2
    go_ret
    exact ⟨ret_bool (by rw [E.out]; simp), hb1⟩
  go_wp2_with (refine wpList_load_has (by rfl) _ rfl w.heap.size rfl cs HB.out HS.out ?_)
  refine (H2.out _ hb1).mono ?_
  rintro e w2 ⟨rfl, hb2⟩
  replace HB := Lib.hid (HB.out.below hb2)
  replace hb2 := bel_on hb1 hb2
  cases r2
  · go_wp2
    go_ret
    exact ⟨ret_bool (by rw [E.out]; simp), hb2⟩
  go_wp2_with (refine wpList_load_has (by rfl) _ rfl w.heap.size rfl cs HB.out HS.out ?_)
  refine (H3.out _).mono ?_
  rintro e w3 ⟨rfl, hb3⟩
  replace HB := Lib.hid (HB.out.below hb3)
  replace hb3 := bel_on hb2 hb3
  cases r3
  · go_wp2
    go_ret
    exact ⟨ret_bool (by rw [E.out]; simp), hb3⟩
  go_wp2_with (refine wpList_load_has (by rfl) _ rfl w.heap.size rfl cs HB.out HS.out ?_)
  refine (H4.out _ hb3).mono ?_
  rintro e w4 ⟨rfl, hb4⟩
  replace hb4 := bel_on hb3 hb4
  go_wp2
  go_ret
  exact ⟨ret_bool (by rw [E.out]; simp), hb4⟩
end Go.Proofs.YtpgncbhahocmbaaGreat

namespace Go.Proofs.YtpgncbhahocmbaaGreat
open Go.RowKit
set_option linter.unusedVariables false
set_option linter.unusedSimpArgs false
set_option maxRecDepth 20000

theorem Kept.set {F : Nat → Prop} {a w : World} (h : Kept F a w) {p : Addr} (hp : ¬ F p.block) (v : Value) : Kept F a (w.setCell p v) :=
  ⟨h.os, h.tape, h.output, by have := h.size; simp [World.setCell]; exact this, fun b hb => (Below.heap_setCell w p v b (fun e => hp (e ▸ hb))).trans (h.block b hb)⟩
theorem Kept.alloc {F : Nat → Prop} {a w : World} (h : Kept F a w) (hF : ∀ b, F b → b < w.heap.size) (o : Obj) : Kept F a (w.alloc o) :=
  h.on (.of_below (bel_alloc (Below.refl _ _) o) hF)
end Go.Proofs.YtpgncbhahocmbaaGreat

namespace Go.Proofs.YtpgncbhahocmbaaGreat
open Go.RowKit
set_option linter.unusedVariables false
set_option linter.unusedSimpArgs false

theorem with_iff {n a b : Int} : withB n a b = true ↔ a ≤ n ∧ n ≤ b := by simp [withB]
theorem allP_rows {t : Rows2} {p : List Int → Bool} : allP (fun i => p (t.getD i [])) t.length = true ↔ ∀ r ∈ t, p r = true := by
  rw [allP_iff]
  constructor
  · intro h r hr
    obtain ⟨i, hi, rfl⟩ := List.getElem_of_mem hr
    have := h i hi
    simpa [List.getD, hi] using this
  · intro h i hi
    exact h _ (by simp [List.getD, hi])
theorem way_iff {pl : Int} {r : List Int} : wayB pl (r.getD 0 0) (r.getD 1 0) (r.getD 2 0) = true ↔ wayP pl r := by
  unfold wayB wayP
  simp only [Bool.and_eq_true, with_iff, decide_eq_true_eq, ne_eq]
  omega
theorem ground_iff {s : SetP} : groundB s = true ↔ (1 ≤ s.places ∧ s.places ≤ 16) ∧ s.ways.length ≤ 64 ∧ ∀ r ∈ s.ways, wayP s.places r := by
  unfold groundB
  rw [Bool.and_eq_true, Bool.and_eq_true, with_iff, decide_eq_true_eq, allP_rows (p := fun r => wayB s.places (r.getD 0 0) (r.getD 1 0) (r.getD 2 0))]
  simp only [way_iff]
  constructor
  · rintro ⟨h1, h2, h3⟩; exact ⟨h1, by omega, h3⟩
  · rintro ⟨h1, h2, h3⟩; exact ⟨h1, by omega, h3⟩
theorem ele_iff {t : Rows2} : eleB t = true ↔ t.length ≤ 8 ∧ ∀ r ∈ t, eleP r := by
  unfold eleB
  rw [Bool.and_eq_true, decide_eq_true_eq, allP_rows (p := fun r => shareB (r.getD 0 0) (r.getD 1 0) && shareB (r.getD 2 0) (r.getD 3 0))]
  simp only [Bool.and_eq_true]
  constructor
  · rintro ⟨h1, h2⟩; exact ⟨by omega, h2⟩
  · rintro ⟨h1, h2⟩; exact ⟨by omega, h2⟩
theorem rat_iff {t : Rows2} : ratB t = true ↔ t.length ≤ 8 ∧ ∀ r ∈ t, ratP r := by
  unfold ratB
  rw [Bool.and_eq_true, decide_eq_true_eq, allP_rows (p := fun r => shareB (r.getD 0 0) (r.getD 1 0))]
  constructor
  · rintro ⟨h1, h2⟩; exact ⟨by omega, h2⟩
  · rintro ⟨h1, h2⟩; exact ⟨by omega, h2⟩
theorem rates_iff {l : List Int} : ratesB l = true ↔ l.length ≤ 16 ∧ ∀ n ∈ l, rateP n := by
  unfold ratesB
  have := allP_rows (t := l.map fun z => [z]) (p := fun r => withB (r.getD 0 0) 0 100000)
  rw [List.length_map] at this
  rw [Bool.and_eq_true, decide_eq_true_eq, this]
  simp only [with_iff, List.mem_map]
  constructor
  · rintro ⟨h1, h2⟩
    refine ⟨by omega, fun n hn => ?_⟩
    have := h2 [n] ⟨n, hn, rfl⟩
    exact this
  · rintro ⟨h1, h2⟩
    refine ⟨by omega, ?_⟩
    rintro r ⟨n, hn, rfl⟩
    exact h2 n hn
theorem tiers_iff {t : Rows2} : tiersB t = true ↔ t.length ≤ 8 ∧ ∀ i, i < t.length → tierP t i := by
  unfold tiersB
  rw [Bool.and_eq_true, decide_eq_true_eq, allP_iff]
  simp only [Bool.and_eq_true, with_iff]
  constructor
  · rintro ⟨h1, h2⟩
    refine ⟨by omega, fun i hi => ?_⟩
    have hlo : ∀ i, i < t.length → 0 ≤ (t.getD i []).getD 0 0 := by
      intro i
      induction i with
      | zero => intro hi; have := (h2 0 hi).1.1; exact this
      | succ i ih =>
        intro hi
        have h3 := (h2 (i + 1) hi).1.1
        have h4 := ih (by omega)
        have h5 : loT t (i + 1) = (t.getD i []).getD 0 0 + 1 := rfl
        omega
    obtain ⟨⟨a1, a2⟩, a3, a4⟩ := h2 i hi
    refine ⟨hlo i hi, a2, a3, a4, fun hp => ?_⟩
    obtain ⟨k, rfl⟩ : ∃ k, i = k + 1 := ⟨i - 1, by omega⟩
    have h5 : loT t (k + 1) = (t.getD k []).getD 0 0 + 1 := rfl
    rw [Nat.add_sub_cancel]
    omega
  · rintro ⟨h1, h2⟩
    refine ⟨by omega, fun i hi => ?_⟩
    obtain ⟨a1, a2, a3, a4, a5⟩ := h2 i hi
    refine ⟨⟨?_, a2⟩, a3, a4⟩
    cases i with
    | zero => exact a1
    | succ k =>
      have h5 : loT t (k + 1) = (t.getD k []).getD 0 0 + 1 := rfl
      have := a5 (by omega)
      rw [Nat.add_sub_cancel] at this
      omega
theorem times_iff {s : SetP} : timesB s = true ↔ ((0 ≤ s.paid ∧ s.paid ≤ 86400) ∧ (0 ≤ s.aft ∧ s.aft ≤ 86400) ∧ (0 ≤ s.brk ∧ s.brk ≤ 86400) ∧ (0 ≤ s.reg ∧ s.reg ≤ 86400) ∧ (0 ≤ s.over ∧ s.over ≤ 86400) ∧ (0 ≤ s.nfrom ∧ s.nfrom ≤ 86400) ∧ (0 ≤ s.nto ∧ s.nto ≤ 86400) ∧ (0 ≤ s.fault ∧ s.fault ≤ 86400)) ∧ s.reg ≤ s.over ∧ (0 ≤ s.week ∧ s.week ≤ 604800) ∧ (1 ≤ s.unit ∧ s.unit ≤ 3600) ∧ (60 ≤ s.cap ∧ s.cap ≤ 57600) := by
  have e : allP (fun i => withB ((([s.paid, s.aft, s.brk, s.reg, s.over, s.nfrom, s.nto, s.fault].map fun z => [z]).getD i []).getD 0 0) 0 86400) 8 = (withB s.paid 0 86400 && (withB s.aft 0 86400 && (withB s.brk 0 86400 && (withB s.reg 0 86400 && (withB s.over 0 86400 && (withB s.nfrom 0 86400 && (withB s.nto 0 86400 && (withB s.fault 0 86400 && true)))))))) := rfl
  unfold timesB
  rw [e]
  simp only [Bool.and_eq_true, with_iff, decide_eq_true_eq, Int.le_refl, true_and, and_true]
  constructor
  · intro h; omega
  · intro h; omega
theorem check_iff {s : SetP} : checkB s = true ↔ s.May := by
  unfold checkB workB moneyB
  simp only [Bool.and_eq_true, ground_iff, ele_iff, rat_iff, times_iff, rates_iff, tiers_iff, with_iff, decide_eq_true_eq]
  constructor
  · rintro ⟨⟨⟨⟨g1, g2⟩, ⟨⟨⟨⟨w1, w2⟩, w3⟩, w4⟩, w5⟩⟩, ⟨⟨t1, t2, t3, t4, t5, t6, t7, t8⟩, t9, t10, t11, t12⟩⟩, ⟨⟨⟨⟨m1, m2⟩, m3⟩, m4⟩, m5⟩⟩
    exact ⟨g1, g2, w1, w2, w3, w4, w5, t11, t12, t1, t2, t3, t6, t7, t8, ⟨t4.1, t9⟩, t5.2, t10, ⟨by omega, m2⟩, m3, m4, m5⟩
  · intro h
    have := h.reg
    have := h.over
    exact ⟨⟨⟨⟨h.places, h.ways⟩, ⟨⟨⟨⟨h.pace, h.elements⟩, h.classes⟩, h.gears⟩, h.allow⟩⟩, ⟨⟨h.paid, h.aft, h.brk, by omega, by omega, h.nfrom, h.nto, h.fault⟩, h.reg.2, h.week, h.unit, h.cap⟩⟩, ⟨⟨⟨⟨by have := h.rates.1; omega, h.rates.2⟩, h.diff⟩, h.least⟩, h.tiers⟩⟩
end Go.Proofs.YtpgncbhahocmbaaGreat
