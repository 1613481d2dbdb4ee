/-
  The walk of the law SetupBounds.
-/
import Derived.Test.YtfpocdibalbddaaSetAwake
namespace Go.Proofs.Ytfpocdibalbddaa
open Go.RowKit
set_option linter.unusedVariables false
set_option linter.unusedSimpArgs false
set_option maxRecDepth 20000

section
variable {w : World} {s : SetP} {cs : Array Value}
theorem SetC.norates (h : SetC w s cs) : SetC w { s with rates := [] } (cs.setIfInBounds 18 (.slice none 0 0)) := by
  obtain ⟨A1, A2, A3, A4, A5, A6, c1, c2, c3, c4, c5, c6, h1, h2⟩ := h
  unfold setV at h1
  injection h1 with h1
  subst h1
  exact ⟨A1, A2, A3, A4, none, A6, c1, c2, c3, c4, 0, c6, rfl, ⟨h2.ways, h2.elements, h2.classes, h2.gears, Tab.nil_, h2.tiers⟩⟩
theorem SetC.rates (h : SetC w s cs) : ∃ A c, cs[18]? = some (.slice A s.rates.length c) := by
  obtain ⟨A1, A2, A3, A4, A5, A6, c1, c2, c3, c4, c5, c6, h1, h2⟩ := h
  unfold setV at h1
  injection h1 with h1
  subst h1
  exact ⟨A5, c5, rfl⟩
end
theorem check_no {s : SetP} (h : ¬ s.May) : checkB s = false := by
  cases hc : checkB s with
  | true => exact absurd (check_iff.1 hc) h
  | false => rfl
set_option maxHeartbeats 8000000 in
theorem setupBounds_cells (s : SetP) (cs : Array Value) (x : Int) (W : World) (hs : SetC W s cs) (hf : s.Fit) (hx0 : 0 ≤ x) (hx1 : x ≤ 255) :
    Calls Try.prog 7 #[.agg cs, .int .u8 x] W fun e w' => e = .returned (.bool true) ∧ Below W.heap.size W w' := by
  obtain ⟨k, hk, hk2⟩ : ∃ k : Nat, x.tmod 15 = (k : Int) ∧ k < 15 := ⟨(x.tmod 15).toNat, by rw [Int.tmod_eq_emod_of_nonneg hx0]; omega, by rw [Int.tmod_eq_emod_of_nonneg hx0]; omega⟩
  have HK := Lib.hid hk
  have HZ := Lib.hid hs.size
  have HO := Lib.hid hs.one
  have HS := Lib.hid hs
  have HF := Lib.hid hf
  clear hs hf hk
  go_enter Try.func7, Try.ntmps7
  go_wp2_with fail
  refine (awake7 _).mono ?_
  rintro e w1 ⟨rfl, b1⟩
  have HB := Lib.hid ((Has.new W 30 cs rfl).below b1)
  replace b1 := bel_on (bel_alloc (Below.refl _ _) _) b1
  replace HS := Lib.hid (HS.out.below b1)
  have HL := Lib.hid (fun b hb => few_c HS.out b hb)
  by_cases hfew : s.Few
  · replace HL := Lib.hid (HL.out true (by simp [hfew]))
    go_wp2_with (refine wpList_load_has (by rfl) _ rfl W.heap.size rfl cs HB.out HZ.out ?_)
    refine HL.out.mono ?_
    rintro e w2 ⟨rfl, b2⟩
    replace HB := Lib.hid (HB.out.below b2)
    replace HS := Lib.hid (HS.out.below b2)
    replace b2 := bel_on b1 b2
    clear b1 HL
    by_cases hm : s.May
    · have HC := Lib.hid (scheck_c HS.out HF.out true (check_iff.2 hm))
      have HM := Lib.hid hm
      clear hm hfew
      go_wp2_with (refine wpList_load_has (by rfl) _ rfl W.heap.size rfl cs HB.out HZ.out ?_)
      refine HC.out.mono ?_
      rintro e w3 ⟨rfl, b3⟩
      replace HB := Lib.hid (HB.out.below b3)
      replace HS := Lib.hid (HS.out.below b3)
      replace b3 := bel_on b2 b3
      obtain ⟨Ar, cr, hr⟩ := HS.out.rates
      have hc18 := (Has.new w3 30 cs rfl).cell 18 hr
      have hf18 := (Has.new w3 30 cs rfl).frozen 18
      have HN := Lib.hid (HS.out.norates.below (bel_alloc (Below.refl _ _) (.cells (cs.setIfInBounds 18 (.slice none 0 0)) 30)))
      have HBN := Lib.hid (Has.new w3 30 (cs.setIfInBounds 18 (.slice none 0 0)) rfl)
      have HB' := Lib.hid (HB.out.alloc (.cells (cs.setIfInBounds 18 (.slice none 0 0)) 30))
      have HS' := Lib.hid (HS.out.below (bel_alloc (Below.refl _ _) (.cells (cs.setIfInBounds 18 (.slice none 0 0)) 30)))
      have hb3 := bel_alloc b3 (.cells (cs.setIfInBounds 18 (.slice none 0 0)) 30)
      clear b2 HC hr
      go_wp2_with (first | refine wpList_laidS cs 6 _ _ rfl rfl rfl rfl rfl rfl rfl rfl HZ.out HO.out ?_ | refine wpList_load_has (by rfl) _ rfl W.heap.size rfl cs HB.out HZ.out ?_ | refine wpList_load_has (by rfl) _ rfl W.heap.size rfl cs HB'.out HZ.out ?_)
      refine (with_c HS'.out x (-1) k HK.out hk2).mono ?_
      rintro e w4 ⟨cs4, rfl, hs4, b4⟩
      have HC4 := Lib.hid (scheck_c hs4 (put_fit HF.out k (by simp [In64])) false (check_no (sput_bad HM.out k hk2 (.inl rfl))))
      replace HB' := Lib.hid (HB'.out.below b4)
      replace HBN := Lib.hid (HBN.out.below b4)
      replace HN := Lib.hid (HN.out.below b4)
      replace HS' := Lib.hid (HS'.out.below b4)
      replace b4 := bel_on hb3 b4
      clear hb3 hs4 b3 HB HS hc18 hf18
      go_wp2_with fail
      refine HC4.out.mono ?_
      rintro e w5 ⟨rfl, b5⟩
      replace HB' := Lib.hid (HB'.out.below b5)
      replace HBN := Lib.hid (HBN.out.below b5)
      replace HN := Lib.hid (HN.out.below b5)
      replace HS' := Lib.hid (HS'.out.below b5)
      replace b5 := bel_on b4 b5
      clear b4 HC4
      go_wp2_with (refine wpList_load_has (by rfl) _ rfl W.heap.size rfl cs HB'.out HZ.out ?_)
      refine (with_c HS'.out x 604801 k HK.out hk2).mono ?_
      rintro e w6 ⟨cs6, rfl, hs6, b6⟩
      have HC6 := Lib.hid (scheck_c hs6 (put_fit HF.out k (by simp [In64])) false (check_no (sput_bad HM.out k hk2 (.inr rfl))))
      replace HBN := Lib.hid (HBN.out.below b6)
      replace HN := Lib.hid (HN.out.below b6)
      replace b6 := bel_on b5 b6
      clear hs6 b5 HB' HS'
      go_wp2_with fail
      refine HC6.out.mono ?_
      rintro e w7 ⟨rfl, b7⟩
      replace HBN := Lib.hid (HBN.out.below b7)
      replace HN := Lib.hid (HN.out.below b7)
      replace b7 := bel_on b6 b7
      have HZ2 : Hid ((cs.setIfInBounds 18 (.slice none 0 0)).size = 23) := by
        show _ = _
        rw [Array.size_setIfInBounds]
        exact HZ.out
      have HF2 : Hid (SetP.Fit { s with rates := [] }) := by
        obtain ⟨h0, h1, h2, h3, h4, h5, h6, h7, h8, h9, h10, h11, h12, h13, h14, h15, h16⟩ := HF.out
        exact ⟨h0, h1, h2, h3, h4, h5, h6, h7, h8, h9, h10, h11, h12, h13, h14, h15, h16⟩
      have HC7 := Lib.hid (scheck_c HN.out HF2.out false (check_no (fun h => by have := h.rates.1; simp at this)))
      clear b6 HC6
      go_wp2_with (refine wpList_load_has (by rfl) _ rfl w3.heap.size rfl _ HBN.out HZ2.out ?_)
      refine HC7.out.mono ?_
      rintro e w8 ⟨rfl, b8⟩
      replace b8 := bel_on b7 b8
      go_wp2
      go_ret
      exact ⟨rfl, b8⟩
    · have HC := Lib.hid (scheck_c HS.out HF.out false (check_no hm))
      clear hm hfew
      go_wp2_with (refine wpList_load_has (by rfl) _ rfl W.heap.size rfl cs HB.out HZ.out ?_)
      refine HC.out.mono ?_
      rintro e w3 ⟨rfl, b3⟩
      replace b3 := bel_on b2 b3
      go_wp2
      go_ret
      exact ⟨rfl, b3⟩
  · replace HL := Lib.hid (HL.out false (by simp [hfew]))
    go_wp2_with (refine wpList_load_has (by rfl) _ rfl W.heap.size rfl cs HB.out HZ.out ?_)
    refine HL.out.mono ?_
    rintro e w2 ⟨rfl, b2⟩
    replace b2 := bel_on b1 b2
    go_wp2
    go_ret
    exact ⟨rfl, b2⟩
theorem setupBounds_walk (s : SetP) (A1 A2 A3 A4 A5 A6 : Option Addr) (c1 c2 c3 c4 c5 c6 : Nat) (x : Int) (W : World) (hs : SetAt W s A1 A2 A3 A4 A5 A6 c1 c2 c3 c4 c5 c6) (hf : s.Fit) (hx0 : 0 ≤ x) (hx1 : x ≤ 255) :
    Calls Try.prog 7 #[setV s A1 A2 A3 A4 A5 A6 c1 c2 c3 c4 c5 c6, .int .u8 x] W fun e w' => e = .returned (.bool true) ∧ Below W.heap.size W w' := by
  obtain ⟨cs, hcs⟩ : ∃ cs, setV s A1 A2 A3 A4 A5 A6 c1 c2 c3 c4 c5 c6 = .agg cs := ⟨_, rfl⟩
  rw [hcs]
  exact setupBounds_cells s cs x W ⟨A1, A2, A3, A4, A5, A6, c1, c2, c3, c4, c5, c6, hcs, hs⟩ hf hx0 hx1
end Go.Proofs.Ytfpocdibalbddaa
