/-
  lumperref09: Table, Dist, Same.
-/
import Derived.Test.YtoconmcmnikdnaaWayR
import Derived.Test.YtoconmcmnikdnaaSetRefD
namespace Go.Proofs.Ytoconmcmnikdnaa
open Go.RowKit
set_option linter.unusedVariables false
set_option linter.unusedSimpArgs false
set_option maxRecDepth 20000

set_option maxHeartbeats 4000000 in
theorem rdist_no {w : World} {s : SetP} {cs : Array Value} (h : SetC w s cs) (hf : s.Fit) (a b : Int) (ho : ¬ s.May ∨ a < 0 ∨ s.places ≤ a ∨ b < 0 ∨ s.places ≤ b) :
    Calls Try.prog 26 #[.agg cs, .int .i64 a, .int .i64 b] w fun e w' => e = .returned (.int .i64 (-1)) ∧ Below w.heap.size w w' := by
  have HZ := Lib.hid h.size
  have HS := Lib.hid h
  obtain ⟨q, hq⟩ : ∃ q, checkB s = q := ⟨_, rfl⟩
  have cC := Lib.hid (fun wx (hs : SetC wx s cs) => rsetcheck_c hs hf q hq)
  have hqm : q = true → s.May := fun e => check_iff.1 (hq.trans e)
  obtain ⟨A1, c1, g0, -, -⟩ := setC_first h
  have HG := Lib.hid g0
  have HO : Hid (q = true → a < 0 ∨ s.places ≤ a ∨ b < 0 ∨ s.places ≤ b) := fun e => by
    rcases ho with ho | ho
    · exact absurd (hqm e) ho
    · exact ho
  clear h hf g0 ho hqm hq
  generalize s.places = P at *
  go_enter Try.func26, Try.ntmps26
  go_wp2_with (refine wpList_load_has (by rfl) _ rfl w.heap.size rfl cs (Has.new _ _ _ rfl) HZ.out ?_)
  refine (cC.out _ (HS.out.below (bel_alloc (Below.refl _ _) _))).mono ?_
  rintro e w1 ⟨rfl, b1⟩
  have HB := Lib.hid ((Has.new w 30 cs rfl).below b1)
  replace b1 := bel_on (bel_alloc (Below.refl _ _) _) b1
  have q0 := HB.out.cell 0 HG.out
  have hq0 := cell_lt q0
  cases q with
  | false =>
    go_wp2
    go_ret
    exact ⟨rfl, b1⟩
  | true =>
    by_cases h1 : a < 0
    · go_wp2
      go_ret
      exact ⟨rfl, b1⟩
    by_cases h3 : b < 0
    · go_wp2
      go_ret
      exact ⟨rfl, b1⟩
    by_cases h2 : P ≤ a
    · go_wp2
      go_ret
      exact ⟨rfl, b1⟩
    · have h4 : P ≤ b := by have := HO.out rfl; omega
      go_wp2
      go_ret
      exact ⟨rfl, b1⟩
set_option maxHeartbeats 4000000 in
theorem rdist_in {w : World} {s : SetP} {cs : Array Value} (h : SetC w s cs) (hf : s.Fit) (hm : s.May) (P : Nat) (hP : s.places = P) (a b : Nat) (ha : a < P) (hb : b < P) (x : Int) (hx : distI (edgesOf s.ways) a b = x) :
    Calls Try.prog 26 #[.agg cs, .int .i64 a, .int .i64 b] w fun e w' => e = .returned (.int .i64 x) ∧ Below w.heap.size w w' := by
  have HZ := Lib.hid h.size
  have HS := Lib.hid h
  have hchk : checkB s = true := check_iff.2 hm
  have cC := Lib.hid (fun wx (hs : SetC wx s cs) => rsetcheck_c hs hf true hchk)
  have cF := Lib.hid (fun wx (hs : SetC wx s cs) => rfrom_c hs hm P hP _ rfl a ha)
  obtain ⟨A1, c1, g0, -, -⟩ := setC_first h
  rw [hP] at g0
  have HG := Lib.hid g0
  clear h hf hm hchk g0
  have a0 : (a : Int) < (P : Int) := by omega
  have a1 : (b : Int) < (P : Int) := by omega
  go_enter Try.func26, Try.ntmps26
  go_wp2_with (refine wpList_load_has (by rfl) _ rfl w.heap.size rfl cs (Has.new _ _ _ rfl) HZ.out ?_)
  refine (cC.out _ (HS.out.below (bel_alloc (Below.refl _ _) _))).mono ?_
  rintro e w1 ⟨rfl, b1⟩
  have HB := Lib.hid ((Has.new w 30 cs rfl).below b1)
  replace b1 := bel_on (bel_alloc (Below.refl _ _) _) b1
  replace HS := Lib.hid (HS.out.below b1)
  have q0 := HB.out.cell 0 HG.out
  have hq0 := cell_lt q0
  go_wp2_with (refine wpList_load_has (by rfl) _ rfl w.heap.size rfl cs HB.out HZ.out ?_)
  refine (cF.out _ HS.out).mono ?_
  rintro e w2 ⟨g, c', rfl, hg, hrp, b2⟩
  replace b1 := bel_on b1 b2
  have k := hrp.cell hb
  rw [show ((List.range P).map (distI (edgesOf s.ways) a)).getD b (-1) = distI (edgesOf s.ways) a b by simp [List.getD, hb], hx] at k
  have hk := cell_lt k
  have hfit := hrp.fit
  clear hrp b2 q0 hq0
  go_wp2
  go_ret
  exact ⟨rfl, b1⟩
theorem rdist_c {w : World} {s : SetP} {cs : Array Value} (h : SetC w s cs) (hf : s.Fit) (a b x : Int) (hx : farV s a b = x) :
    Calls Try.prog 26 #[.agg cs, .int .i64 a, .int .i64 b] w fun e w' => e = .returned (.int .i64 x) ∧ Below w.heap.size w w' := by
  subst hx
  by_cases ho : ¬ s.May ∨ a < 0 ∨ s.places ≤ a ∨ b < 0 ∨ s.places ≤ b
  · rw [farV_out ho]
    exact rdist_no h hf a b ho
  · have hm : s.May := Classical.byContradiction fun q => ho (.inl q)
    obtain ⟨P, hP⟩ : ∃ P : Nat, s.places = P := ⟨s.places.toNat, by have := hm.places; omega⟩
    have ho2 : ¬ (a < 0 ∨ s.places ≤ a ∨ b < 0 ∨ s.places ≤ b) := fun q => ho (.inr q)
    obtain ⟨a', rfl⟩ : ∃ a' : Nat, a = a' := ⟨a.toNat, by omega⟩
    obtain ⟨b', rfl⟩ : ∃ b' : Nat, b = b' := ⟨b.toNat, by omega⟩
    rw [farV_in hm hP (by omega) (by omega)]
    exact rdist_in h hf hm P hP a' b' (by omega) (by omega) _ rfl
end Go.Proofs.Ytoconmcmnikdnaa
