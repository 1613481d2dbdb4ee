/-
  The contracts of package lumperref02: the document's answers of layer 2 are what package ratio tells.
  lumperref07: what the document says of shares, elements, ways and times.
  lumperref07: what the document says of times.
-/
import Derived.Test.YtdhkfhgggkndoaaRatB
import Derived.Test.YtdhkfhgggkndoaaZA
import Derived.Test.YtdhkfhgggkndoaaSetMay
import Derived.Deep.DeepCutAuto
namespace Go.Proofs.Ytdhkfhgggkndoaa
open Go.RowKit
set_option linter.unusedVariables false
set_option maxRecDepth 20000

theorem may_gcdV {n d : Int} (hn : -9223372036854775808 ≤ n) (hd : 0 < d) (hd' : d ≤ 9223372036854775807) :
    mayB n d = (decide (-2147483647 ≤ n) && (decide (n ≤ 2147483647) && (decide (d ≤ 2147483647) && (gcdV n d == 1)))) := by
  unfold mayB
  rw [gcdV_int hn hd hd', Bool.eq_iff_iff]
  simp
  omega

theorem rcheck_any (n d : Int) (w : World) (hn : -9223372036854775808 ≤ n) (hn' : n ≤ 9223372036854775807) (hd : -9223372036854775808 ≤ d) (hd' : d ≤ 9223372036854775807) :
    Calls Try.prog 88 #[.agg #[.int .i64 n, .int .i64 d]] w fun e w' => e = .returned (.bool (mayB n d)) ∧ Below w.heap.size w w' := by
  by_cases h : -2147483647 ≤ n ∧ n ≤ 2147483647 ∧ 1 ≤ d ∧ d ≤ 2147483647
  · obtain ⟨h1, h2, h3, h4⟩ := h
    have E := Lib.hid (show mayB n d = (gcdV n d == 1) by
      rw [may_gcdV hn (by omega) hd', decide_eq_true h1, decide_eq_true h2, decide_eq_true h4]; rfl)
    go_enter Try.func88, Try.ntmps88
    go_wp2_with fail
    refine (rgcd_any n d _ hn hn' hd hd').mono ?_
    rintro e w1 ⟨rfl, rfl⟩
    go_wp2
    go_ret
    exact ⟨ret_bool E.out.symm, by (repeat' (first | with_reducible exact Below.refl _ _ | with_reducible assumption | with_reducible refine bel_alloc ?_ _ | with_reducible refine bel_set ?_ ?_ _ | with_reducible refine below_drewN ?_ _ | with_reducible refine below_drew ?_ | (simp; done) | (simp; omega) | omega))⟩
  · have E := Lib.hid (show mayB n d = false by
      unfold mayB
      apply decide_eq_false
      rintro ⟨q1, q2, q3, q4, _⟩
      exact h ⟨q1, q2, q3, q4⟩)
    have hx : n < -2147483647 ∨ (-2147483647 ≤ n ∧ 2147483647 < n) ∨ ((-2147483647 ≤ n ∧ n ≤ 2147483647) ∧ d < 1) ∨ ((-2147483647 ≤ n ∧ n ≤ 2147483647) ∧ 1 ≤ d ∧ 2147483647 < d) := by omega
    clear h
    rcases hx with h1 | h1 | h1 | h1
    all_goals
      go_enter Try.func88, Try.ntmps88
      go_wp2
      go_ret
      exact ⟨ret_bool E.out.symm, by (repeat' (first | with_reducible exact Below.refl _ _ | with_reducible assumption | with_reducible refine bel_alloc ?_ _ | with_reducible refine bel_set ?_ ?_ _ | with_reducible refine below_drewN ?_ _ | with_reducible refine below_drew ?_ | (simp; done) | (simp; omega) | omega))⟩

end Go.Proofs.Ytdhkfhgggkndoaa

namespace Go.Proofs.Ytdhkfhgggkndoaa
open Go.RowKit
set_option linter.unusedVariables false
set_option linter.unusedSimpArgs false
set_option maxRecDepth 20000

theorem rwithin_at (n a b : Int) (q : Bool) (hq : withB n a b = q) (w : World) :
    Calls Try.prog 87 #[.int .i64 n, .int .i64 a, .int .i64 b] w fun e w' => e = .returned (.bool q) ∧ w = w' := by
  subst hq
  by_cases h1 : a ≤ n
  · by_cases h2 : n ≤ b
    · go_enter Try.func87, Try.ntmps87
      go_wp2
      go_ret
      exact ⟨ret_bool (by simp [withB, h1, h2]), rfl⟩
    · go_enter Try.func87, Try.ntmps87
      go_wp2
      go_ret
      exact ⟨ret_bool (by simp [withB, h1, h2]), rfl⟩
  · go_enter Try.func87, Try.ntmps87
    go_wp2
    go_ret
    exact ⟨ret_bool (by unfold withB; rw [decide_eq_false (show ¬ (a ≤ n) by omega)]; rfl), rfl⟩
theorem rshare_any (n d : Int) (w : World) (hn : In64 n) (hd : In64 d) (q : Bool) (hq : shareB n d = q) :
    Calls Try.prog 42 #[.agg #[.int .i64 n, .int .i64 d]] w fun e w' => e = .returned (.bool q) ∧ Below w.heap.size w w' := by
  subst hq
  have HC := Lib.hid (fun w => rcheck_any n d w hn.1 hn.2 hd.1 hd.2)
  have E : Hid (shareB n d = (mayB n d && decide (0 ≤ n))) := rfl
  generalize shareB n d = q at *
  generalize mayB n d = m at *
  clear hn hd
  go_enter Try.func42, Try.ntmps42
  go_wp2_with fail
  refine (HC.out _).mono ?_
  rintro e w1 ⟨rfl, b1⟩
  have hB := (Has.new w 24 #[.int .i64 n, .int .i64 d] rfl).below b1
  have hc := hB.cell 0 rfl
  have hs := hB.size
  replace b1 := bel_on (bel_alloc (Below.refl _ _) _) b1
  clear hB HC
  cases m
  · go_wp2
    go_ret
    exact ⟨ret_bool (by rw [E.out]; simp), b1⟩
  · go_wp2
    go_ret
    exact ⟨ret_bool (by rw [E.out]; simp), b1⟩
theorem ratB_bad {l : Rows2} {j : Nat} (h : j < l.length) (hb : shareB ((l.getD j []).getD 0 0) ((l.getD j []).getD 1 0) = false) : ratB l = false := by
  cases hr : ratB l with
  | false => rfl
  | true =>
    have := (rat_iff.1 hr).2 (l.getD j []) (by simp [List.getD, h])
    unfold ratP at this
    rw [hb] at this
    cases this
theorem ratB_end {l : Rows2} (h : ∀ k, k < l.length → shareB ((l.getD k []).getD 0 0) ((l.getD k []).getD 1 0) = true) : ratB l = decide ((l.length : Int) ≤ 8) := by
  unfold ratB
  rw [allP_iff.2 h, Bool.and_true]
theorem eleB_bad {l : Rows2} {j : Nat} (h : j < l.length) (hb : (shareB ((l.getD j []).getD 0 0) ((l.getD j []).getD 1 0) && shareB ((l.getD j []).getD 2 0) ((l.getD j []).getD 3 0)) = false) : eleB l = false := by
  unfold eleB
  rw [allP_bad h hb, Bool.and_false]
theorem eleB_end {l : Rows2} (h : ∀ k, k < l.length → (shareB ((l.getD k []).getD 0 0) ((l.getD k []).getD 1 0) && shareB ((l.getD k []).getD 2 0) ((l.getD k []).getD 3 0)) = true) : eleB l = decide ((l.length : Int) ≤ 8) := by
  unfold eleB
  rw [allP_iff.2 h, Bool.and_true]
theorem below_next {p : Nat → Prop} {j : Nat} (h : ∀ k, k < j → p k) (hj : p j) : ∀ k, k < j + 1 → p k := fun k hk => by
  rcases Nat.lt_or_ge k j with q | q
  · exact h k q
  · obtain rfl : k = j := by omega
    exact hj
set_option maxHeartbeats 2000000 in
theorem rshares_any (A : Option Addr) (c n : Nat) (l : Rows2) (w : World) (hT : Tab 2 w A n c l) (q : Bool) (hq : ratB l = q) :
    Calls Try.prog 44 #[.slice A n c] w fun e w' => e = .returned (.bool q) ∧ Below w.heap.size w w' := by
  subst hq
  have hn := hT.len
  have HT := Lib.hid hT
  have hcap := hT.cap
  have hmax := hT.max
  have HN := Lib.hid hn
  clear hT hn
  go_enter Try.func44, Try.ntmps44
  go_wp2
  go_loopw [3] (fun i wr => ∃ (j : Nat), j ≤ n ∧ i = .int .i64 j ∧ Hid (∀ k, k < j → shareB ((l.getD k []).getD 0 0) ((l.getD k []).getD 1 0) = true) ∧ Below w.heap.size w wr) (fun i _ => n - (intOf i).toNat)
  case atStart => exact ⟨0, by omega, rfl, Lib.hid (fun k hk => by omega), Below.refl _ _⟩
  case round =>
    obtain ⟨j, hj, rfl, ha, hb⟩ := hrel
    by_cases hlt : j < n
    · obtain ⟨bb, oo, rfl⟩ := HT.out.form (by decide) (by omega)
      have z0 := ((HT.out.below hb).cell (i := j) (j := 0) hlt (by decide))
      have z1 := ((HT.out.below hb).cell (i := j) (j := 1) hlt (by decide))
      have i0 := HT.out.at_small hlt (show 0 < 2 by decide)
      have i1 := HT.out.at_small hlt (show 1 < 2 by decide)
      have HNX := Lib.hid (fun h => below_next (p := fun k => shareB ((l.getD k []).getD 0 0) ((l.getD k []).getD 1 0) = true) ha.out h)
      have HBD := Lib.hid (fun h => ratB_bad (l := l) (j := j) (by have := HN.out; omega) h)
      simp only [Nat.add_zero] at z0
      generalize (l.getD j []).getD 0 0 = x0 at *
      generalize (l.getD j []).getD 1 0 = x1 at *
      have e0 : (j : Int) < (n : Int) := by omega
      have hs := cell_lt z0
      cases hq : shareB x0 x1 with
      | true =>
        have HC := Lib.hid (rshare_any x0 x1 wr i0 i1 true hq)
        go_wp2_with fail
        refine HC.out.mono ?_
        rintro e w2 ⟨rfl, b2⟩
        replace b2 := bel_on hb b2
        have HA := Lib.hid (HNX.out hq)
        clear z0 z1 hs
        go_wp2
        go_roundw
        case rel => exact ⟨j + 1, by omega, by go_num, HA, b2⟩
        case measure => simp [intOf]; omega
      | false =>
        have HC := Lib.hid (rshare_any x0 x1 wr i0 i1 false hq)
        go_wp2_with fail
        refine HC.out.mono ?_
        rintro e w2 ⟨rfl, b2⟩
        replace b2 := bel_on hb b2
        go_wp2
        go_ret
        exact ⟨ret_bool (HBD.out hq).symm, b2⟩
    · obtain rfl : j = n := by omega
      have HE := Lib.hid (ratB_end (l := l) (fun k hk => ha.out k (by have := HN.out; omega)))
      rw [HN.out] at HE
      go_wp2
      go_ret
      exact ⟨ret_bool HE.out.symm, hb⟩
set_option maxHeartbeats 2000000 in
theorem relements_any (A : Option Addr) (c n : Nat) (l : Rows2) (w : World) (hT : Tab 4 w A n c l) (q : Bool) (hq : eleB l = q) :
    Calls Try.prog 43 #[.slice A n c] w fun e w' => e = .returned (.bool q) ∧ Below w.heap.size w w' := by
  subst hq
  have hn := hT.len
  have HT := Lib.hid hT
  have hcap := hT.cap
  have hmax := hT.max
  have HN := Lib.hid hn
  clear hT hn
  go_enter Try.func43, Try.ntmps43
  go_wp2
  go_loopw [3] (fun i wr => ∃ (j : Nat), j ≤ n ∧ i = .int .i64 j ∧ Hid (∀ k, k < j → (shareB ((l.getD k []).getD 0 0) ((l.getD k []).getD 1 0) && shareB ((l.getD k []).getD 2 0) ((l.getD k []).getD 3 0)) = true) ∧ Below w.heap.size w wr) (fun i _ => n - (intOf i).toNat)
  case atStart => exact ⟨0, by omega, rfl, Lib.hid (fun k hk => by omega), Below.refl _ _⟩
  case round =>
    obtain ⟨j, hj, rfl, ha, hb⟩ := hrel
    by_cases hlt : j < n
    · obtain ⟨bb, oo, rfl⟩ := HT.out.form (by decide) (by omega)
      have z0 := ((HT.out.below hb).cell (i := j) (j := 0) hlt (by decide))
      have z1 := ((HT.out.below hb).cell (i := j) (j := 1) hlt (by decide))
      have y2 := Lib.hid (HT.out.cell (i := j) (j := 2) hlt (by decide))
      have y3 := Lib.hid (HT.out.cell (i := j) (j := 3) hlt (by decide))
      have i0 := HT.out.at_small hlt (show 0 < 4 by decide)
      have i1 := HT.out.at_small hlt (show 1 < 4 by decide)
      have i2 := HT.out.at_small hlt (show 2 < 4 by decide)
      have i3 := HT.out.at_small hlt (show 3 < 4 by decide)
      have HNX := Lib.hid (fun h => below_next (p := fun k => (shareB ((l.getD k []).getD 0 0) ((l.getD k []).getD 1 0) && shareB ((l.getD k []).getD 2 0) ((l.getD k []).getD 3 0)) = true) ha.out h)
      have HBD := Lib.hid (fun h => eleB_bad (l := l) (j := j) (by have := HN.out; omega) h)
      simp only [Nat.add_zero] at z0
      generalize (l.getD j []).getD 0 0 = x0 at *
      generalize (l.getD j []).getD 1 0 = x1 at *
      generalize (l.getD j []).getD 2 0 = x2 at *
      generalize (l.getD j []).getD 3 0 = x3 at *
      have e0 : (j : Int) < (n : Int) := by omega
      have hs := cell_lt z0
      obtain ⟨q1, hq1⟩ : ∃ q, shareB x0 x1 = q := ⟨_, rfl⟩
      obtain ⟨q2, hq2⟩ : ∃ q, shareB x2 x3 = q := ⟨_, rfl⟩
      have HC := Lib.hid (rshare_any x0 x1 wr i0 i1 q1 hq1)
      have HC2 := Lib.hid (fun wx => rshare_any x2 x3 wx i2 i3 q2 hq2)
      have HNX2 := HNX.out
      have HBD2 := HBD.out
      rw [hq1, hq2] at HNX2 HBD2
      have HNX3 := Lib.hid HNX2
      have HBD3 := Lib.hid HBD2
      clear hq1 hq2 HNX HBD HNX2 HBD2
      go_wp2_with fail
      refine HC.out.mono ?_
      rintro e w2 ⟨rfl, b2⟩
      replace b2 := bel_on hb b2
      have z2 := (Below.cell b2 (p := ⟨bb, oo + j * 4 + 2, none⟩) (cell_lt y2.out)).trans y2.out
      have z3 := (Below.cell b2 (p := ⟨bb, oo + j * 4 + 3, none⟩) (cell_lt y3.out)).trans y3.out
      have hs2 := cell_lt z2
      clear z0 z1 hs HC
      go_wp2_with fail
      refine (HC2.out _).mono ?_
      rintro e w3 ⟨rfl, b3⟩
      replace b3 := bel_on b2 b3
      clear z2 z3 hs2 HC2
      cases q1
      · go_wp2
        go_ret
        exact ⟨ret_bool (HBD3.out (by simp)).symm, b3⟩
      · cases q2
        · go_wp2
          go_ret
          exact ⟨ret_bool (HBD3.out (by simp)).symm, b3⟩
        · have HA := Lib.hid (HNX3.out (by simp))
          clear HNX3 HBD3
          go_wp2
          go_roundw
          case rel => exact ⟨j + 1, by omega, by go_num, HA, b3⟩
          case measure => simp [intOf]; omega
    · obtain rfl : j = n := by omega
      have HE := Lib.hid (eleB_end (l := l) (fun k hk => ha.out k (by have := HN.out; omega)))
      rw [HN.out] at HE
      go_wp2
      go_ret
      exact ⟨ret_bool HE.out.symm, hb⟩
theorem ground_bad {s : SetP} {j : Nat} (h : j < s.ways.length) (hb : wayB s.places ((s.ways.getD j []).getD 0 0) ((s.ways.getD j []).getD 1 0) ((s.ways.getD j []).getD 2 0) = false) : groundB s = false := by
  unfold groundB
  rw [allP_bad h hb, Bool.and_false, Bool.and_false]
theorem ground_end {s : SetP} (h : ∀ k, k < s.ways.length → wayB s.places ((s.ways.getD k []).getD 0 0) ((s.ways.getD k []).getD 1 0) ((s.ways.getD k []).getD 2 0) = true) : groundB s = (decide ((s.ways.length : Int) ≤ 64) && withB s.places 1 16) := by
  unfold groundB
  rw [allP_iff.2 h, Bool.and_true, Bool.and_comm]
theorem wayB_parts (p a b m : Int) : wayB p a b m = true ↔ ¬ (a < 0) ∧ ¬ (b < 0) ∧ a < p ∧ b < p ∧ a ≠ b ∧ 1 ≤ m ∧ m ≤ 10000 := by
  simp [wayB, withB]
  omega
set_option maxHeartbeats 8000000 in
theorem rways_c {w : World} {s : SetP} {cs : Array Value} (h : SetC w s cs) (q : Bool) (hq : groundB s = q) :
    Calls Try.prog 41 #[.agg cs] w fun e w' => e = .returned (.bool q) ∧ Below w.heap.size w w' := by
  subst hq
  obtain ⟨A1, A2, A3, A4, A5, A6, c1, c2, c3, c4, c5, c6, h1, h2⟩ := h
  unfold setV at h1
  injection h1 with h1
  subst h1
  have HS := Lib.hid h2.ways
  have hcap := h2.ways.cap
  have hmax := h2.ways.max
  clear h2
  go_enter Try.func41, Try.ntmps41
  go_upto_region 0 with fail
  go_cut [1] (fun v1 wx => ∃ g : Nat, v1 = .pointer (some ⟨g, 0, none⟩) ∧ Hid (Has wx g #[.int .i64 s.places, .slice A1 s.ways.length c1, .int .i64 s.pn, .int .i64 s.pd, .slice A2 s.elements.length c2, .slice A3 s.classes.length c3, .slice A4 s.gears.length c4, .int .i64 s.allow, .int .i64 s.unit, .int .i64 s.cap, .int .i64 s.paid, .int .i64 s.aft, .int .i64 s.brk, .int .i64 s.reg, .int .i64 s.over, .int .i64 s.week, .int .i64 s.nfrom, .int .i64 s.nto, .slice A5 s.rates.length c5, .int .i64 s.diff, .int .i64 s.least, .int .i64 s.fault, .slice A6 s.tiers.length c6] ∧ Below w.heap.size w wx ∧ Tab 3 wx A1 s.ways.length c1 s.ways))
  case first =>
    go_wp2_with fail
    go_meet
    refine ⟨w.heap.size, rfl, Lib.hid ⟨Has.new _ _ _ rfl, bel_alloc (Below.refl _ _) _, HS.out.below (bel_alloc (Below.refl _ _) _)⟩⟩
  case rest =>
    obtain ⟨g, rfl, hx⟩ := hcut
    obtain ⟨hB, hbw, hS⟩ := hx.out
    have HB := Lib.hid hB
    have HBW := Lib.hid hbw
    have HT := Lib.hid hS
    have hgs := hB.size
    clear hx hB hbw hS HS
    go_wp2
    go_loopw [3] (fun i wr => ∃ (j : Nat), j ≤ s.ways.length ∧ i = .int .i64 j ∧ Hid (∀ k, k < j → wayB s.places ((s.ways.getD k []).getD 0 0) ((s.ways.getD k []).getD 1 0) ((s.ways.getD k []).getD 2 0) = true) ∧ Below wc.heap.size wc wr) (fun i _ => s.ways.length - (intOf i).toNat)
    case atStart => exact ⟨0, by omega, rfl, Lib.hid (fun k hk => by omega), Below.refl _ _⟩
    case round =>
      obtain ⟨j, hj, rfl, ha, hb⟩ := hrel
      have q0 := (Below.cell hb (p := ⟨g, 0, none⟩) hgs).trans (HB.out.cell 0 rfl)
      have q1 := (Below.cell hb (p := ⟨g, 1, none⟩) hgs).trans (HB.out.cell 1 rfl)
      have hgs2 := cell_lt q0
      by_cases hlt : j < s.ways.length
      · obtain ⟨bb, oo, rfl⟩ := HT.out.form (by decide) (by omega)
        have z0 := ((HT.out.below hb).cell (i := j) (j := 0) hlt (by decide))
        have z1 := ((HT.out.below hb).cell (i := j) (j := 1) hlt (by decide))
        have z2 := ((HT.out.below hb).cell (i := j) (j := 2) hlt (by decide))
        have HNX := Lib.hid (fun h => below_next (p := fun k => wayB s.places ((s.ways.getD k []).getD 0 0) ((s.ways.getD k []).getD 1 0) ((s.ways.getD k []).getD 2 0) = true) ha.out h)
        have HBD := Lib.hid (fun h => ground_bad (s := s) hlt h)
        simp only [Nat.add_zero] at z0
        generalize (s.ways.getD j []).getD 0 0 = x0 at *
        generalize (s.ways.getD j []).getD 1 0 = x1 at *
        generalize (s.ways.getD j []).getD 2 0 = x2 at *
        have HP := Lib.hid (wayB_parts s.places x0 x1 x2)
        have HBN : Hid (¬ (¬ (x0 < 0) ∧ ¬ (x1 < 0) ∧ x0 < s.places ∧ x1 < s.places ∧ x0 ≠ x1 ∧ 1 ≤ x2 ∧ x2 ≤ 10000) → groundB s = false) := by
          intro h
          refine HBD.out ?_
          cases hw : wayB s.places x0 x1 x2 with
          | true => exact absurd (HP.out.1 hw) h
          | false => rfl
        have e0 : (j : Int) < (s.ways.length : Int) := by omega
        have hs := cell_lt z0
        have hb2 := bel_alloc hb (.cells #[.int .i64 x0, .int .i64 x1, .int .i64 x2] 55)
        clear HBD
        by_cases h0 : x0 < 0
        · have HE := Lib.hid (HBN.out (by omega))
          clear HBN HNX HP
          go_wp2
          go_ret
          exact ⟨ret_bool HE.out.symm, bel_on HBW.out hb2⟩
        by_cases h1 : x1 < 0
        · have HE := Lib.hid (HBN.out (by omega))
          clear HBN HNX HP
          go_wp2
          go_ret
          exact ⟨ret_bool HE.out.symm, bel_on HBW.out hb2⟩
        by_cases h2 : s.places ≤ x0
        · have HE := Lib.hid (HBN.out (by omega))
          clear HBN HNX HP
          go_wp2
          go_ret
          exact ⟨ret_bool HE.out.symm, bel_on HBW.out hb2⟩
        by_cases h3 : s.places ≤ x1
        · have HE := Lib.hid (HBN.out (by omega))
          clear HBN HNX HP
          go_wp2
          go_ret
          exact ⟨ret_bool HE.out.symm, bel_on HBW.out hb2⟩
        by_cases h4 : x0 = x1
        · have HE := Lib.hid (HBN.out (by omega))
          clear HBN HNX HP
          subst h4
          go_wp2
          go_ret
          exact ⟨ret_bool HE.out.symm, bel_on HBW.out hb2⟩
        have hbeq : (x0 == x1) = false := by simpa using h4
        by_cases h5 : x2 < 1
        · have HE := Lib.hid (HBN.out (by omega))
          clear HBN HNX HP
          go_wp2
          go_ret
          exact ⟨ret_bool HE.out.symm, bel_on HBW.out hb2⟩
        by_cases h6 : 10000 < x2
        · have HE := Lib.hid (HBN.out (by omega))
          clear HBN HNX HP
          go_wp2
          go_ret
          exact ⟨ret_bool HE.out.symm, bel_on HBW.out hb2⟩
        have HA := Lib.hid (HNX.out (HP.out.2 ⟨h0, h1, by omega, by omega, h4, by omega, by omega⟩))
        clear HBN HNX HP
        go_wp2
        go_roundw
        case rel => exact ⟨j + 1, by omega, by go_num, HA, hb2⟩
        case measure => simp [intOf]; omega
      · obtain rfl : j = s.ways.length := by omega
        have HE := Lib.hid (ground_end ha.out)
        have HC := Lib.hid (fun wx => rwithin_at s.places 1 16 _ rfl wx)
        generalize withB s.places 1 16 = q2 at *
        by_cases h64 : (s.ways.length : Int) ≤ 64
        · go_wp2_with fail
          refine (HC.out _).mono ?_
          rintro e w2 ⟨rfl, rfl⟩
          have b2 := bel_on HBW.out hb
          go_wp2
          go_ret
          exact ⟨ret_bool (by rw [HE.out]; simp [h64]), b2⟩
        · have b2 := bel_on HBW.out hb
          go_wp2
          go_ret
          exact ⟨ret_bool (by rw [HE.out, decide_eq_false (show ¬ ((s.ways.length : Int) ≤ 64) by omega)]; rfl), b2⟩
end Go.Proofs.Ytdhkfhgggkndoaa

namespace Go.Proofs.Ytdhkfhgggkndoaa
open Go.RowKit
set_option linter.unusedVariables false
set_option linter.unusedSimpArgs false
set_option maxRecDepth 20000

def rtimesB (s : SetP) : Bool := withB s.allow 0 100 && (withB s.unit 1 3600 && (withB s.cap 60 57600 && (withB s.paid 0 86400 && (withB s.aft 0 86400 && withB s.brk 0 86400) && (withB s.nfrom 0 86400 && (withB s.nto 0 86400 && withB s.fault 0 86400)) && withB s.reg 0 s.over && decide (s.over ≤ 86400) && withB s.week 0 604800)))
set_option maxHeartbeats 8000000 in
theorem rtimes_c {w : World} {s : SetP} {cs : Array Value} (h : SetC w s cs) (q : Bool) (hq : rtimesB s = q) :
    Calls Try.prog 45 #[.agg cs] w fun e w' => e = .returned (.bool q) ∧ Below w.heap.size w w' := by
  obtain ⟨A1, A2, A3, A4, A5, A6, c1, c2, c3, c4, c5, c6, h1, h2⟩ := h
  unfold setV at h1
  injection h1 with h1
  subst h1
  have HQ := Lib.hid hq
  clear h2 hq
  have E : Hid (rtimesB s = (withB s.allow 0 100 && (withB s.unit 1 3600 && (withB s.cap 60 57600 && (withB s.paid 0 86400 && (withB s.aft 0 86400 && withB s.brk 0 86400) && (withB s.nfrom 0 86400 && (withB s.nto 0 86400 && withB s.fault 0 86400)) && withB s.reg 0 s.over && decide (s.over ≤ 86400) && withB s.week 0 604800))))) := rfl
  rw [HQ.out] at E
  have H0 := Lib.hid (fun wx => rwithin_at s.allow 0 100 _ rfl wx)
  have H1 := Lib.hid (fun wx => rwithin_at s.unit 1 3600 _ rfl wx)
  have H2 := Lib.hid (fun wx => rwithin_at s.cap 60 57600 _ rfl wx)
  have H3 := Lib.hid (fun wx => rwithin_at s.paid 0 86400 _ rfl wx)
  have H4 := Lib.hid (fun wx => rwithin_at s.aft 0 86400 _ rfl wx)
  have H5 := Lib.hid (fun wx => rwithin_at s.brk 0 86400 _ rfl wx)
  have H6 := Lib.hid (fun wx => rwithin_at s.nfrom 0 86400 _ rfl wx)
  have H7 := Lib.hid (fun wx => rwithin_at s.nto 0 86400 _ rfl wx)
  have H8 := Lib.hid (fun wx => rwithin_at s.fault 0 86400 _ rfl wx)
  have H9 := Lib.hid (fun wx => rwithin_at s.reg 0 s.over _ rfl wx)
  have H10 := Lib.hid (fun wx => rwithin_at s.week 0 604800 _ rfl wx)
  generalize withB s.allow 0 100 = q0 at *
  generalize withB s.unit 1 3600 = q1 at *
  generalize withB s.cap 60 57600 = q2 at *
  generalize withB s.paid 0 86400 = q3 at *
  generalize withB s.aft 0 86400 = q4 at *
  generalize withB s.brk 0 86400 = q5 at *
  generalize withB s.nfrom 0 86400 = q6 at *
  generalize withB s.nto 0 86400 = q7 at *
  generalize withB s.fault 0 86400 = q8 at *
  generalize withB s.reg 0 s.over = q9 at *
  generalize withB s.week 0 604800 = q10 at *
  clear HQ
  go_enter Try.func45, Try.ntmps45
  go_wp2_with fail
  refine (H0.out _).mono ?_
  rintro e w_ ⟨rfl, rfl⟩
  cases q0
  · go_wp2
    go_ret
    exact ⟨ret_bool (by have := E.out; simp at this; exact this.symm), by (repeat' (first | with_reducible exact Below.refl _ _ | with_reducible assumption | with_reducible refine bel_alloc ?_ _ | with_reducible refine bel_set ?_ ?_ _ | with_reducible refine below_drewN ?_ _ | with_reducible refine below_drew ?_ | (simp; done) | (simp; omega) | omega))⟩
  go_wp2_with fail
  refine (H1.out _).mono ?_
  rintro e w_ ⟨rfl, rfl⟩
  cases q1
  · go_wp2
    go_ret
    exact ⟨ret_bool (by have := E.out; simp at this; exact this.symm), by (repeat' (first | with_reducible exact Below.refl _ _ | with_reducible assumption | with_reducible refine bel_alloc ?_ _ | with_reducible refine bel_set ?_ ?_ _ | with_reducible refine below_drewN ?_ _ | with_reducible refine below_drew ?_ | (simp; done) | (simp; omega) | omega))⟩
  go_wp2_with fail
  refine (H2.out _).mono ?_
  rintro e w_ ⟨rfl, rfl⟩
  cases q2
  · go_wp2
    go_ret
    exact ⟨ret_bool (by have := E.out; simp at this; exact this.symm), by (repeat' (first | with_reducible exact Below.refl _ _ | with_reducible assumption | with_reducible refine bel_alloc ?_ _ | with_reducible refine bel_set ?_ ?_ _ | with_reducible refine below_drewN ?_ _ | with_reducible refine below_drew ?_ | (simp; done) | (simp; omega) | omega))⟩
  clear H0 H1 H2
  have E2 : Hid (q = (q3 && (q4 && q5) && (q6 && (q7 && q8)) && q9 && decide (s.over ≤ 86400) && q10)) := by
    show _ = _
    have := E.out
    simpa using this
  clear E
  go_upto_region 3 with fail
  go_cut [1, 3] (fun v1 v3 wx => v1 = .pointer (some ⟨w.heap.size, 0, none⟩) ∧ v3 = .bool (q3 && (q4 && q5)) ∧ Hid (wx = w.alloc (.cells #[.int .i64 s.places, .slice A1 s.ways.length c1, .int .i64 s.pn, .int .i64 s.pd, .slice A2 s.elements.length c2, .slice A3 s.classes.length c3, .slice A4 s.gears.length c4, .int .i64 s.allow, .int .i64 s.unit, .int .i64 s.cap, .int .i64 s.paid, .int .i64 s.aft, .int .i64 s.brk, .int .i64 s.reg, .int .i64 s.over, .int .i64 s.week, .int .i64 s.nfrom, .int .i64 s.nto, .slice A5 s.rates.length c5, .int .i64 s.diff, .int .i64 s.least, .int .i64 s.fault, .slice A6 s.tiers.length c6] 30)))
  case first =>
    go_wp2_with fail
    refine (H3.out _).mono ?_
    rintro e w_ ⟨rfl, rfl⟩
    cases q3
    · go_wp2
      go_meet
      exact ⟨rfl, by simp, Lib.hid rfl⟩
    go_wp2_with fail
    refine (H4.out _).mono ?_
    rintro e w_ ⟨rfl, rfl⟩
    cases q4
    · go_wp2
      go_meet
      exact ⟨rfl, by simp, Lib.hid rfl⟩
    go_wp2_with fail
    refine (H5.out _).mono ?_
    rintro e w_ ⟨rfl, rfl⟩
    go_wp2
    go_meet
    exact ⟨rfl, by simp, Lib.hid rfl⟩
  case rest =>
    obtain ⟨rfl, rfl, hx⟩ := hcut
    have hx' := hx.out
    subst hx'
    clear hx H3 H4 H5
    generalize (q3 && (q4 && q5)) = d3 at *
    go_upto_region 4 with fail
    go_cut [1, 3, 4] (fun v1 v3 v4 wx => v1 = .pointer (some ⟨w.heap.size, 0, none⟩) ∧ v3 = .bool d3 ∧ v4 = .bool (q6 && (q7 && q8)) ∧ Hid (wx = w.alloc (.cells #[.int .i64 s.places, .slice A1 s.ways.length c1, .int .i64 s.pn, .int .i64 s.pd, .slice A2 s.elements.length c2, .slice A3 s.classes.length c3, .slice A4 s.gears.length c4, .int .i64 s.allow, .int .i64 s.unit, .int .i64 s.cap, .int .i64 s.paid, .int .i64 s.aft, .int .i64 s.brk, .int .i64 s.reg, .int .i64 s.over, .int .i64 s.week, .int .i64 s.nfrom, .int .i64 s.nto, .slice A5 s.rates.length c5, .int .i64 s.diff, .int .i64 s.least, .int .i64 s.fault, .slice A6 s.tiers.length c6] 30)))
    case first =>
      go_wp2_with fail
      refine (H6.out _).mono ?_
      rintro e w_ ⟨rfl, rfl⟩
      cases q6
      · go_wp2
        go_meet
        exact ⟨rfl, rfl, by simp, Lib.hid rfl⟩
      go_wp2_with fail
      refine (H7.out _).mono ?_
      rintro e w_ ⟨rfl, rfl⟩
      cases q7
      · go_wp2
        go_meet
        exact ⟨rfl, rfl, by simp, Lib.hid rfl⟩
      go_wp2_with fail
      refine (H8.out _).mono ?_
      rintro e w_ ⟨rfl, rfl⟩
      go_wp2
      go_meet
      exact ⟨rfl, rfl, by simp, Lib.hid rfl⟩
    case rest =>
      obtain ⟨rfl, rfl, rfl, hx⟩ := hcut
      have hx' := hx.out
      subst hx'
      clear hx H6 H7 H8
      generalize (q6 && (q7 && q8)) = d4 at *
      cases d3
      · go_wp2
        go_ret
        exact ⟨ret_bool (by rw [E2.out]; simp), by (repeat' (first | with_reducible exact Below.refl _ _ | with_reducible assumption | with_reducible refine bel_alloc ?_ _ | with_reducible refine bel_set ?_ ?_ _ | with_reducible refine below_drewN ?_ _ | with_reducible refine below_drew ?_ | (simp; done) | (simp; omega) | omega))⟩
      cases d4
      · go_wp2
        go_ret
        exact ⟨ret_bool (by rw [E2.out]; simp), by (repeat' (first | with_reducible exact Below.refl _ _ | with_reducible assumption | with_reducible refine bel_alloc ?_ _ | with_reducible refine bel_set ?_ ?_ _ | with_reducible refine below_drewN ?_ _ | with_reducible refine below_drew ?_ | (simp; done) | (simp; omega) | omega))⟩
      go_wp2_with fail
      refine (H9.out _).mono ?_
      rintro e w_ ⟨rfl, rfl⟩
      cases q9
      · go_wp2
        go_ret
        exact ⟨ret_bool (by rw [E2.out]; simp), by (repeat' (first | with_reducible exact Below.refl _ _ | with_reducible assumption | with_reducible refine bel_alloc ?_ _ | with_reducible refine bel_set ?_ ?_ _ | with_reducible refine below_drewN ?_ _ | with_reducible refine below_drew ?_ | (simp; done) | (simp; omega) | omega))⟩
      by_cases ho : s.over ≤ 86400
      · have ho' := Lib.hid (decide_eq_true ho)
        go_wp2_with fail
        refine (H10.out _).mono ?_
        rintro e w_ ⟨rfl, rfl⟩
        go_wp2
        go_ret
        exact ⟨ret_bool (by rw [E2.out, ho'.out]; simp), by (repeat' (first | with_reducible exact Below.refl _ _ | with_reducible assumption | with_reducible refine bel_alloc ?_ _ | with_reducible refine bel_set ?_ ?_ _ | with_reducible refine below_drewN ?_ _ | with_reducible refine below_drew ?_ | (simp; done) | (simp; omega) | omega))⟩
      · have ho' := Lib.hid (decide_eq_false ho)
        go_wp2
        go_ret
        exact ⟨ret_bool (by rw [E2.out, ho'.out]; simp), by (repeat' (first | with_reducible exact Below.refl _ _ | with_reducible assumption | with_reducible refine bel_alloc ?_ _ | with_reducible refine bel_set ?_ ?_ _ | with_reducible refine below_drewN ?_ _ | with_reducible refine below_drew ?_ | (simp; done) | (simp; omega) | omega))⟩
end Go.Proofs.Ytdhkfhgggkndoaa
