/-
  Package way: Table of a setup that may not be; Dist. The laws' own 'square'.
-/
import Derived.Test.YtoconmcmnikdnaaWayC
namespace Go.Proofs.Ytoconmcmnikdnaa
open Go.RowKit
set_option linter.unusedVariables false
set_option linter.unusedSimpArgs false
set_option maxRecDepth 20000

set_option maxHeartbeats 2000000 in
theorem wtable_bad {w : World} {s : SetP} {cs : Array Value} (h : SetC w s cs) (hf : s.Fit) (hm : ¬ s.May) :
    Calls Try.prog 36 #[.agg cs] w fun e w' => e = .returned (.slice none 0 0) ∧ Below w.heap.size w w' := by
  have HZ := Lib.hid h.size
  have HS := Lib.hid h
  have hchk : checkB s = false := by
    cases hc : checkB s with
    | false => rfl
    | true => exact absurd (check_iff.1 hc) hm
  have cC := Lib.hid (fun wx (hs : SetC wx s cs) => scheck_c hs hf false hchk)
  clear h hm hf hchk
  go_enter Try.func36, Try.ntmps36
  go_wp2_with (refine wpList_load_has (by rfl) _ rfl w.heap.size rfl cs (Has.new _ _ _ rfl) HZ.out ?_)
  refine (cC.out _ (HS.out.below (bel_alloc (Below.refl _ _) _))).mono ?_
  rintro e w1 ⟨rfl, b1⟩
  replace b1 := bel_on (bel_alloc (Below.refl _ _) _) b1
  go_wp2
  go_ret
  exact ⟨rfl, b1⟩
open Classical in
/-- How far two places are; Far, if one of them is not there. -/
noncomputable def farV (s : SetP) (a b : Int) : Int := if s.May ∧ 0 ≤ a ∧ a < s.places ∧ 0 ≤ b ∧ b < s.places then distI (edgesOf s.ways) a.toNat b.toNat else -1
theorem farV_in {s : SetP} {P a b : Nat} (hm : s.May) (hP : s.places = P) (ha : a < P) (hb : b < P) : farV s a b = distI (edgesOf s.ways) a b := by
  unfold farV
  rw [if_pos ⟨hm, by omega, by omega, by omega, by omega⟩]
  rfl
theorem farV_out {s : SetP} {a b : Int} (h : ¬ s.May ∨ a < 0 ∨ s.places ≤ a ∨ b < 0 ∨ s.places ≤ b) : farV s a b = -1 := by
  unfold farV
  rw [if_neg]
  rintro ⟨h1, h2, h3, h4, h5⟩
  rcases h with h | h | h | h | h
  · exact h h1
  all_goals omega
set_option maxHeartbeats 2000000 in
theorem wdist_bad {w : World} {s : SetP} {cs : Array Value} (h : SetC w s cs) (hf : s.Fit) (hm : ¬ s.May) (a b : Int) :
    Calls Try.prog 14 #[.agg cs, .int .i64 a, .int .i64 b] w fun e w' => e = .returned (.int .i64 (-1)) ∧ Below w.heap.size w w' := by
  have HZ := Lib.hid h.size
  have HS := Lib.hid h
  have cC := Lib.hid (fun wx (hs : SetC wx s cs) => wtable_bad hs hf hm)
  clear h hm hf
  by_cases ha : a < 0
  · go_enter Try.func14, Try.ntmps14
    go_wp2_with (refine wpList_load_has (by rfl) _ rfl w.heap.size rfl cs (Has.new _ _ _ rfl) HZ.out ?_)
    refine (cC.out _ (HS.out.below (bel_alloc (Below.refl _ _) _))).mono ?_
    rintro e w1 ⟨rfl, b1⟩
    replace b1 := bel_on (bel_alloc (Below.refl _ _) _) b1
    go_wp2
    go_ret
    exact ⟨rfl, b1⟩
  · have ha2 : 0 ≤ a := by omega
    go_enter Try.func14, Try.ntmps14
    go_wp2_with (refine wpList_load_has (by rfl) _ rfl w.heap.size rfl cs (Has.new _ _ _ rfl) HZ.out ?_)
    refine (cC.out _ (HS.out.below (bel_alloc (Below.refl _ _) _))).mono ?_
    rintro e w1 ⟨rfl, b1⟩
    replace b1 := bel_on (bel_alloc (Below.refl _ _) _) b1
    go_wp2
    go_ret
    exact ⟨rfl, b1⟩
set_option maxHeartbeats 4000000 in
theorem wdist_out {w : World} {s : SetP} {cs : Array Value} (h : SetC w s cs) (hf : s.Fit) (hm : s.May) (P : Nat) (hP : s.places = P) (a b : Int) (ho : a < 0 ∨ (P : Int) ≤ a ∨ b < 0 ∨ (P : Int) ≤ b) :
    Calls Try.prog 14 #[.agg cs, .int .i64 a, .int .i64 b] w fun e w' => e = .returned (.int .i64 (-1)) ∧ Below w.heap.size w w' := by
  have HZ := Lib.hid h.size
  have HS := Lib.hid h
  have cC := Lib.hid (fun wx (hs : SetC wx s cs) => wtable_may hs hf hm P hP _ rfl)
  have hp := hm.places
  rw [hP] at hp
  clear h hm hf
  go_enter Try.func14, Try.ntmps14
  go_wp2_with (refine wpList_load_has (by rfl) _ rfl w.heap.size rfl cs (Has.new _ _ _ rfl) HZ.out ?_)
  refine (cC.out _ (HS.out.below (bel_alloc (Below.refl _ _) _))).mono ?_
  rintro e w1 ⟨G, rfl, hG, hT, b1⟩
  replace b1 := bel_on (bel_alloc (Below.refl _ _) _) b1
  clear hT hG
  by_cases h1 : a < 0
  · go_wp2
    go_ret
    exact ⟨rfl, b1⟩
  by_cases h2 : (P : Int) ≤ a
  · go_wp2
    go_ret
    exact ⟨rfl, b1⟩
  by_cases h3 : b < 0
  · go_wp2
    go_ret
    exact ⟨rfl, b1⟩
  · have h4 : (P : Int) ≤ b := by omega
    go_wp2
    go_ret
    exact ⟨rfl, b1⟩
set_option maxHeartbeats 4000000 in
theorem wdist_in {w : World} {s : SetP} {cs : Array Value} (h : SetC w s cs) (hf : s.Fit) (hm : s.May) (P : Nat) (hP : s.places = P) (a b : Nat) (ha : a < P) (hb : b < P) (x : Int) (hx : distI (edgesOf s.ways) a b = x) :
    Calls Try.prog 14 #[.agg cs, .int .i64 a, .int .i64 b] w fun e w' => e = .returned (.int .i64 x) ∧ Below w.heap.size w w' := by
  have HZ := Lib.hid h.size
  have HS := Lib.hid h
  have cC := Lib.hid (fun wx (hs : SetC wx s cs) => wtable_may hs hf hm P hP _ rfl)
  have hp := hm.places
  rw [hP] at hp
  clear h hm hf
  go_enter Try.func14, Try.ntmps14
  go_wp2_with (refine wpList_load_has (by rfl) _ rfl w.heap.size rfl cs (Has.new _ _ _ rfl) HZ.out ?_)
  refine (cC.out _ (HS.out.below (bel_alloc (Below.refl _ _) _))).mono ?_
  rintro e w1 ⟨G, rfl, hG, ⟨gs, hgs, hT⟩, b1⟩
  replace b1 := bel_on (bel_alloc (Below.refl _ _) _) b1
  have k1 := hT.ptr ha
  have k2 := hT.at ha hb
  rw [hx] at k2
  have hk1 := cell_lt k1
  have hk2 := cell_lt k2
  clear hT hG hgs hx
  have a0 : (a : Int) < (P : Int) := by omega
  have a1 : (b : Int) < (P : Int) := by omega
  go_wp2
  go_ret
  exact ⟨rfl, b1⟩
theorem wdist_c {w : World} {s : SetP} {cs : Array Value} (h : SetC w s cs) (hf : s.Fit) (a b x : Int) (hx : farV s a b = x) :
    Calls Try.prog 14 #[.agg cs, .int .i64 a, .int .i64 b] w fun e w' => e = .returned (.int .i64 x) ∧ Below w.heap.size w w' := by
  subst hx
  by_cases hm : s.May
  · obtain ⟨P, hP⟩ : ∃ P : Nat, s.places = P := ⟨s.places.toNat, by have := hm.places; omega⟩
    by_cases ho : a < 0 ∨ (P : Int) ≤ a ∨ b < 0 ∨ (P : Int) ≤ b
    · rw [farV_out (.inr (by rw [hP]; exact ho))]
      exact wdist_out h hf hm P hP a b ho
    · obtain ⟨a', rfl⟩ : ∃ a' : Nat, a = a' := ⟨a.toNat, by omega⟩
      obtain ⟨b', rfl⟩ : ∃ b' : Nat, b = b' := ⟨b.toNat, by omega⟩
      rw [farV_in hm hP (by omega) (by omega)]
      exact wdist_in h hf hm P hP a' b' (by omega) (by omega) _ rfl
  · rw [farV_out (.inl hm)]
    exact wdist_bad h hf hm a b
end Go.Proofs.Ytoconmcmnikdnaa
