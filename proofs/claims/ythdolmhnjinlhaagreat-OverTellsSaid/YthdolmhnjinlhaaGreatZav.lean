/-
  lumperref07: Check, and Write.
-/
import Derived.Test.YthdolmhnjinlhaaGreatZau
import Derived.Test.YthdolmhnjinlhaaGreatZaq
namespace Go.Proofs.YthdolmhnjinlhaaGreat
open Go.RowKit
set_option linter.unusedVariables false
set_option linter.unusedSimpArgs false
set_option maxRecDepth 20000

theorem rates_get {l : List Int} : (∀ i, i < l.length → rateP (l.getD i 0)) ↔ ∀ n ∈ l, rateP n := by
  constructor
  · intro h n hn
    obtain ⟨i, hi, rfl⟩ := List.getElem_of_mem hn
    have := h i hi
    simpa [List.getD, hi] using this
  · intro h i hi
    exact h _ (by simp [List.getD, hi])
open Classical in
theorem rcheck_eq (s : SetP) : (groundB s && (shareB s.pn s.pd && (eleB s.elements && (ratB s.classes && (ratB s.gears && (rtimesB s && decide (rmoneyP s))))))) = checkB s := by
  apply Bool.eq_iff_iff.2
  rw [check_iff]
  unfold rtimesB rmoneyP
  simp only [Bool.and_eq_true, ground_iff, ele_iff, rat_iff, with_iff, decide_eq_true_eq, rates_get]
  constructor
  · rintro ⟨⟨g1, g2⟩, w1, w2, w3, w4, ⟨a1, a2, a3, ⟨⟨⟨⟨⟨t1, t2, t3⟩, t4, t5, t6⟩, t7⟩, t8⟩, t9⟩⟩, m1, m2, m3, m4, m5, m6⟩
    exact ⟨g1, g2, w1, w2, w3, w4, a1, a2, a3, t1, t2, t3, t4, t5, t6, t7, t8, t9, ⟨m3.1, m3.2, m1⟩, m5, m6, m4, m2⟩
  · intro h
    exact ⟨⟨h.places, h.ways⟩, h.pace, h.elements, h.classes, h.gears, ⟨h.allow, h.unit, h.cap, ⟨⟨⟨⟨⟨h.paid, h.aft, h.brk⟩, h.nfrom, h.nto, h.fault⟩, h.reg⟩, h.over⟩, h.week⟩⟩, h.rates.2.2, h.tiers.2, ⟨h.rates.1, h.rates.2.1⟩, h.tiers.1, h.diff, h.least⟩
open Classical in
set_option maxHeartbeats 8000000 in
theorem rsetcheck_c {w : World} {s : SetP} {cs : Array Value} (h : SetC w s cs) (hf : s.Fit) (q : Bool) (hq : checkB s = q) :
    Calls Tryz.prog 17 #[.agg cs] w fun e w' => e = .returned (.bool q) ∧ Below w.heap.size w w' := by
  have HZ := Lib.hid h.size
  have HE := Lib.hid (rcheck_eq s)
  rw [hq] at HE
  have K1 := Lib.hid (fun wx (h : SetC wx s cs) => rways_c h _ rfl)
  have K2 := Lib.hid (fun wx => rshare_any s.pn s.pd wx hf.pn hf.pd _ rfl)
  have K6 := Lib.hid (fun wx (h : SetC wx s cs) => rtimes_c h _ rfl)
  have K7 := Lib.hid (fun wx (h : SetC wx s cs) => rmoney_c h (decide (rmoneyP s)) (by simp))
  have HS := Lib.hid h
  obtain ⟨A1, A2, A3, A4, A5, A6, c1, c2, c3, c4, c5, c6, h1, h2⟩ := h
  have K3 := Lib.hid (fun wx (hb : Below w.heap.size w wx) => relements_any A2 c2 s.elements.length s.elements wx (h2.elements.below hb) _ rfl)
  have K4 := Lib.hid (fun wx (hb : Below w.heap.size w wx) => rshares_any A3 c3 s.classes.length s.classes wx (h2.classes.below hb) _ rfl)
  have K5 := Lib.hid (fun wx (hb : Below w.heap.size w wx) => rshares_any A4 c4 s.gears.length s.gears wx (h2.gears.below hb) _ rfl)
  have g2 : Hid (cs[2]? = some (.int .i64 s.pn) ∧ cs[3]? = some (.int .i64 s.pd) ∧ cs[4]? = some (.slice A2 s.elements.length c2) ∧ cs[5]? = some (.slice A3 s.classes.length c3) ∧ cs[6]? = some (.slice A4 s.gears.length c4)) := by
    unfold setV at h1
    injection h1 with h1
    subst h1
    exact ⟨rfl, rfl, rfl, rfl, rfl⟩
  generalize groundB s = q1 at *
  generalize shareB s.pn s.pd = q2 at *
  generalize eleB s.elements = q3 at *
  generalize ratB s.classes = q4 at *
  generalize ratB s.gears = q5 at *
  generalize rtimesB s = q6 at *
  generalize decide (rmoneyP s) = q7 at *
  clear h1 h2 hf hq
  go_enter Tryz.func17, Tryz.ntmps17
  go_wp2_with (refine wpList_load_has (by rfl) _ rfl w.heap.size rfl cs (Has.new _ _ _ rfl) HZ.out ?_)
  refine (K1.out _ (HS.out.below (bel_alloc (Below.refl _ _) _))).mono ?_
  rintro e w1 ⟨rfl, b1⟩
  have HB := Lib.hid ((Has.new w 30 cs rfl).below b1)
  replace b1 := bel_on (bel_alloc (Below.refl _ _) _) b1
  have r2 := HB.out.cell 2 g2.out.1
  have r3 := HB.out.cell 3 g2.out.2.1
  have hs1 := cell_lt r2
  go_wp2_with fail
  refine (K2.out _).mono ?_
  rintro e w2 ⟨rfl, b2⟩
  replace HB := Lib.hid (HB.out.below b2)
  replace b2 := bel_on b1 b2
  clear b1 r2 r3 hs1
  have r4 := HB.out.cell 4 g2.out.2.2.1
  have hs2 := cell_lt r4
  go_wp2_with fail
  refine (K3.out _ b2).mono ?_
  rintro e w3 ⟨rfl, b3⟩
  replace HB := Lib.hid (HB.out.below b3)
  replace b3 := bel_on b2 b3
  clear b2 r4 hs2
  have r5 := HB.out.cell 5 g2.out.2.2.2.1
  have hs3 := cell_lt r5
  go_wp2_with fail
  refine (K4.out _ b3).mono ?_
  rintro e w4 ⟨rfl, b4⟩
  replace HB := Lib.hid (HB.out.below b4)
  replace b4 := bel_on b3 b4
  clear b3 r5 hs3
  have r6 := HB.out.cell 6 g2.out.2.2.2.2
  have hs4 := cell_lt r6
  go_wp2_with fail
  refine (K5.out _ b4).mono ?_
  rintro e w5 ⟨rfl, b5⟩
  replace HB := Lib.hid (HB.out.below b5)
  replace b5 := bel_on b4 b5
  clear b4 r6 hs4
  go_wp2_with (refine wpList_load_has (by rfl) _ rfl w.heap.size rfl cs HB.out HZ.out ?_)
  refine (K6.out _ (HS.out.below b5)).mono ?_
  rintro e w6 ⟨rfl, b6⟩
  replace HB := Lib.hid (HB.out.below b6)
  replace b6 := bel_on b5 b6
  clear b5
  go_wp2_with (refine wpList_load_has (by rfl) _ rfl w.heap.size rfl cs HB.out HZ.out ?_)
  refine (K7.out _ (HS.out.below b6)).mono ?_
  rintro e w7 ⟨rfl, b7⟩
  replace b7 := bel_on b6 b7
  clear b6 K1 K2 K3 K4 K5 K6 K7 HB HS
  cases q1
  · go_wp2
    go_ret
    exact ⟨ret_bool (by rw [← HE.out]; simp), b7⟩
  cases q2
  · go_wp2
    go_ret
    exact ⟨ret_bool (by rw [← HE.out]; simp), b7⟩
  cases q3
  · go_wp2
    go_ret
    exact ⟨ret_bool (by rw [← HE.out]; simp), b7⟩
  cases q4
  · go_wp2
    go_ret
    exact ⟨ret_bool (by rw [← HE.out]; simp), b7⟩
  cases q5
  · go_wp2
    go_ret
    exact ⟨ret_bool (by rw [← HE.out]; simp), b7⟩
  cases q6
  · go_wp2
    go_ret
    exact ⟨ret_bool (by rw [← HE.out]; simp), b7⟩
  · go_wp2
    go_ret
    exact ⟨ret_bool (by rw [← HE.out]; simp), b7⟩
end Go.Proofs.YthdolmhnjinlhaaGreat
