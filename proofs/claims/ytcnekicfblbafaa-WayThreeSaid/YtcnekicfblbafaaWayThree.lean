/-
  The law WayThree, walked.
-/
import Derived.Test.YtcnekicfblbafaaWayF
namespace Go.Proofs.Ytcnekicfblbafaa
open Go.RowKit
set_option linter.unusedVariables false
set_option linter.unusedSimpArgs false
set_option maxRecDepth 20000

set_option maxHeartbeats 4000000 in
theorem wayThree_few {w : World} {s : SetP} {cs : Array Value} (h : SetC w s cs) (hF : ¬ s.Few) :
    Calls Try.prog 5 #[.agg cs] w fun e w' => e = .returned (.bool true) ∧ Below w.heap.size w w' := by
  have HZ := Lib.hid h.size
  have HS := Lib.hid h
  have HF := Lib.hid (decide_eq_false hF)
  clear h hF
  go_enter Try.func5, Try.ntmps5
  go_wp2_with fail
  refine (awake9 _).mono ?_
  rintro e w1 ⟨rfl, b1⟩
  have HB := Lib.hid ((Has.new w 30 cs rfl).below b1)
  replace b1 := bel_on (bel_alloc (Below.refl _ _) _) b1
  replace HS := Lib.hid (HS.out.below b1)
  have HBW := Lib.hid b1
  clear b1
  go_upto_region 2 with fail
  refine wp_region_lit ?_
  refine wpList_load_sg (by rfl) _ rfl w.heap.size rfl cs HB.out HZ.out ?_
  (try simp only [Act.put, List.setIfInBounds_toArray, List.set_cons_zero, List.set_cons_succ])
  refine wpList_step (fun K hK => ?_)
  go_simp
  go_at_call 9
  refine (few_c HS.out _ HF.out).mono ?_
  rintro e_r w2 ⟨rfl, b_⟩
  replace HBW := Lib.hid (bel_on HBW.out b_)
  clear b_
  refine hK _ _ ?_
  clear hK K
  (try simp only [Act.put, List.setIfInBounds_toArray, List.set_cons_zero, List.set_cons_succ])
  go_wp2
  go_ret
  exact ⟨rfl, HBW.out⟩
set_option maxHeartbeats 4000000 in
theorem wayThree_may {w : World} {s : SetP} {cs : Array Value} (h : SetC w s cs) (hf : s.Fit) (hF : s.Few) (hM : ¬ s.May) :
    Calls Try.prog 5 #[.agg cs] w fun e w' => e = .returned (.bool true) ∧ Below w.heap.size w w' := by
  have HZ := Lib.hid h.size
  have HS := Lib.hid h
  have HF := Lib.hid (decide_eq_true hF)
  have HM := Lib.hid (check_no hM)
  clear h hF hM
  go_enter Try.func5, Try.ntmps5
  go_wp2_with fail
  refine (awake9 _).mono ?_
  rintro e w1 ⟨rfl, b1⟩
  have HB := Lib.hid ((Has.new w 30 cs rfl).below b1)
  replace b1 := bel_on (bel_alloc (Below.refl _ _) _) b1
  replace HS := Lib.hid (HS.out.below b1)
  have HBW := Lib.hid b1
  clear b1
  go_upto_region 2 with fail
  refine wp_region_lit ?_
  refine wpList_load_sg (by rfl) _ rfl w.heap.size rfl cs HB.out HZ.out ?_
  (try simp only [Act.put, List.setIfInBounds_toArray, List.set_cons_zero, List.set_cons_succ])
  refine wpList_step (fun K hK => ?_)
  go_simp
  go_at_call 9
  refine (few_c HS.out _ HF.out).mono ?_
  rintro e_r w2 ⟨rfl, b_⟩
  replace HS := Lib.hid (HS.out.below b_)
  replace HB := Lib.hid (HB.out.below b_)
  replace HBW := Lib.hid (bel_on HBW.out b_)
  clear b_
  refine hK _ _ ?_
  clear hK K
  (try simp only [Act.put, List.setIfInBounds_toArray, List.set_cons_zero, List.set_cons_succ])
  iterate 2 (refine wpList_step (fun K hK => ?_); go_simp; refine hK _ _ ?_; clear hK K; (try simp only [Act.put, List.setIfInBounds_toArray, List.set_cons_zero, List.set_cons_succ]))
  refine wpList_load_sg (by rfl) _ rfl w.heap.size rfl cs HB.out HZ.out ?_
  (try simp only [Act.put, List.setIfInBounds_toArray, List.set_cons_zero, List.set_cons_succ])
  refine wpList_step (fun K hK => ?_)
  go_simp
  go_at_call 15
  refine (scheck_c HS.out hf _ HM.out).mono ?_
  rintro e_r w3 ⟨rfl, b_⟩
  replace HS := Lib.hid (HS.out.below b_)
  replace HB := Lib.hid (HB.out.below b_)
  replace HBW := Lib.hid (bel_on HBW.out b_)
  clear b_
  refine hK _ _ ?_
  clear hK K
  (try simp only [Act.put, List.setIfInBounds_toArray, List.set_cons_zero, List.set_cons_succ])
  go_wp2
  go_ret
  exact ⟨rfl, HBW.out⟩
set_option maxHeartbeats 8000000 in
theorem wayThree_main {w : World} {s : SetP} {cs : Array Value} (h : SetC w s cs) (hf : s.Fit) (hF : s.Few) (hM : s.May) :
    Calls Try.prog 5 #[.agg cs] w fun e w' => e = .returned (.bool true) ∧ Below w.heap.size w w' := by
  have HZ := Lib.hid h.size
  have HS := Lib.hid h
  have HF := Lib.hid (decide_eq_true hF)
  have HM := Lib.hid (check_iff.2 hM)
  obtain ⟨P, hP⟩ : ∃ P : Nat, s.places = P := ⟨s.places.toNat, by have := hM.places; omega⟩
  obtain ⟨W, hW⟩ : ∃ W, s.ways.length = W := ⟨_, rfl⟩
  obtain ⟨E, hE⟩ : ∃ E, edgesOf s.ways = E := ⟨_, rfl⟩
  have cT := Lib.hid (fun wx (hs : SetC wx s cs) => wtable_may hs hf hM P hP E hE)
  obtain ⟨hp1, hp2⟩ := hM.places
  rw [hP] at hp1 hp2
  have hW6 : W ≤ 64 := by rw [← hW]; exact hM.ways.1
  have HEL : Hid (E.length = W) := by show _ = _; rw [← hE, ← hW]; simp [edgesOf]
  have HEA : Hid (Among P E) := by rw [← hE]; exact edges_among hP hM.ways.2
  have HEO : Hid (Longs E) := by rw [← hE]; exact edges_long hM.ways.2
  have HES : Hid (∀ e ∈ E, e.2.2 ≤ 10000) := by rw [← hE]; exact edges_small hM.ways.2
  have HEG : Hid (∀ i, i < W → ∃ A B M : Nat, E[i]? = some (A, B, M) ∧ (s.ways.getD i []).getD 0 0 = A ∧ (s.ways.getD i []).getD 1 0 = B ∧ (s.ways.getD i []).getD 2 0 = M ∧ (A : Int) < s.places ∧ (B : Int) < s.places ∧ A ≠ B ∧ 1 ≤ M ∧ M ≤ 10000) := by
    intro i hi
    rw [← hE]
    exact edges_get (by omega) hM.ways.2
  obtain ⟨A1, c1, g0, g1, hT1⟩ := setC_first h
  rw [hW] at g1 hT1
  rw [hP] at g0 HEG
  have HT1 := Lib.hid hT1
  have HG := Lib.hid (And.intro g0 g1)
  clear h hF hM hE hT1 g0 g1
  go_enter Try.func5, Try.ntmps5
  go_wp2_with fail
  refine (awake9 _).mono ?_
  rintro e w1 ⟨rfl, b1⟩
  have HB := Lib.hid ((Has.new w 30 cs rfl).below b1)
  replace b1 := bel_on (bel_alloc (Below.refl _ _) _) b1
  replace HS := Lib.hid (HS.out.below b1)
  have HBW := Lib.hid b1
  replace HT1 := Lib.hid (HT1.out.below b1)
  clear b1
  go_upto_region 2 with fail
  refine wp_region_lit ?_
  refine wpList_load_sg (by rfl) _ rfl w.heap.size rfl cs HB.out HZ.out ?_
  (try simp only [Act.put, List.setIfInBounds_toArray, List.set_cons_zero, List.set_cons_succ])
  refine wpList_step (fun K hK => ?_)
  go_simp
  go_at_call 9
  refine (few_c HS.out _ HF.out).mono ?_
  rintro e_r w2 ⟨rfl, b_⟩
  replace HT1 := Lib.hid (HT1.out.below b_)
  replace HS := Lib.hid (HS.out.below b_)
  replace HB := Lib.hid (HB.out.below b_)
  replace HBW := Lib.hid (bel_on HBW.out b_)
  clear b_
  refine hK _ _ ?_
  clear hK K
  (try simp only [Act.put, List.setIfInBounds_toArray, List.set_cons_zero, List.set_cons_succ])
  iterate 2 (refine wpList_step (fun K hK => ?_); go_simp; refine hK _ _ ?_; clear hK K; (try simp only [Act.put, List.setIfInBounds_toArray, List.set_cons_zero, List.set_cons_succ]))
  refine wpList_load_sg (by rfl) _ rfl w.heap.size rfl cs HB.out HZ.out ?_
  (try simp only [Act.put, List.setIfInBounds_toArray, List.set_cons_zero, List.set_cons_succ])
  refine wpList_step (fun K hK => ?_)
  go_simp
  go_at_call 15
  refine (scheck_c HS.out hf _ HM.out).mono ?_
  rintro e_r w3 ⟨rfl, b_⟩
  replace HT1 := Lib.hid (HT1.out.below b_)
  replace HS := Lib.hid (HS.out.below b_)
  replace HB := Lib.hid (HB.out.below b_)
  replace HBW := Lib.hid (bel_on HBW.out b_)
  clear b_
  refine hK _ _ ?_
  clear hK K
  (try simp only [Act.put, List.setIfInBounds_toArray, List.set_cons_zero, List.set_cons_succ])
  go_wp2_with (refine wpList_load_has (by rfl) _ rfl w.heap.size rfl cs HB.out HZ.out ?_)
  refine (cT.out _ HS.out).mono ?_
  rintro e w5 ⟨G, rfl, hG, ⟨gs, hgs, hTM⟩, b_⟩
  replace HT1 := Lib.hid (HT1.out.below b_)
  replace HB := Lib.hid (HB.out.below b_)
  replace HBW := Lib.hid (bel_on HBW.out b_)
  have HTM := Lib.hid hTM
  have hNG := HB.out.size
  clear b_ hG hgs hTM HS HZ HF HM cT hf
  have q0 := HB.out.cell 0 HG.out.1
  have HX : Hid (∀ a b, -1 ≤ distI E a b ∧ distI E a b ≤ 1010000) := dist_le64 HEO.out HES.out HEL.out (by omega)
  clear HEG HT1 HES HEL
  go_wp2_with fail
  refine (square_c G P gs (distI E) _ HTM.out (by omega)).mono ?_
  rintro e w6 ⟨rfl, b_⟩
  replace HTM := Lib.hid (HTM.out.below b_)
  replace HBW := Lib.hid (bel_on HBW.out b_)
  clear b_ q0 HB HG
  go_wp2
  go_loopw [5] (fun s7 wr => ∃ a : Nat, a ≤ P ∧ s7 = .int .i64 a ∧ Hid (Below w6.heap.size w6 wr)) (fun s7 _ => P - (intOf s7).toNat)
  case atStart => exact ⟨0, by omega, rfl, Below.refl _ _⟩
  case round =>
    obtain ⟨a, ha, rfl, hb1⟩ := hrel
    by_cases hlt1 : a < P
    · have hlt1' : (a : Int) < (P : Int) := by omega
      go_wp2
      go_loopw [6] (fun s8 wr => ∃ b : Nat, b ≤ P ∧ s8 = .int .i64 b ∧ Hid (Below w6.heap.size w6 wr)) (fun s8 _ => P - (intOf s8).toNat)
      case atStart => exact ⟨0, by omega, rfl, hb1⟩
      case round =>
        clear hb1
        obtain ⟨b, hb, rfl, hb2⟩ := hrel
        by_cases hlt2 : b < P
        · have hlt2' : (b : Int) < (P : Int) := by omega
          go_wp2
          go_loopw [7] (fun s9 wr => ∃ c : Nat, c ≤ P ∧ s9 = .int .i64 c ∧ Hid (Below w6.heap.size w6 wr)) (fun s9 _ => P - (intOf s9).toNat)
          case atStart => exact ⟨0, by omega, rfl, hb2⟩
          case round =>
            clear hb2
            obtain ⟨c, hc, rfl, hb3⟩ := hrel
            by_cases hlt3 : c < P
            · have hlt3' : (c : Int) < (P : Int) := by omega
              have ht := HTM.out.below hb3.out
              have k1 := ht.ptr hlt1
              have k2 := ht.at hlt1 hlt2
              have k3 := ht.ptr hlt2
              have k4 := ht.at hlt2 hlt3
              have k5 := ht.at hlt1 hlt3
              have hk1 := cell_lt k1
              have hk2 := cell_lt k2
              have hk4 := cell_lt k4
              have x1 := HX.out a b
              have x2 := HX.out b c
              have x3 := HX.out a c
              have x4 : 0 ≤ distI E a b → 0 ≤ distI E b c → 0 ≤ distI E a c ∧ distI E a c ≤ distI E a b + distI E b c := fun p q => distI_three p q
              have HEND := Lib.hid (fun n => (show Below w6.heap.size w6 (wr.drewN n) from ⟨hb3.out.os, hb3.out.tape, hb3.out.output, hb3.out.size, hb3.out.block⟩))
              generalize distI E a b = x at *
              generalize distI E b c = y at *
              generalize distI E a c = z at *
              clear ht hb3
              by_cases hx : 0 ≤ x
              · by_cases hy : 0 ≤ y
                · have x5 := (x4 hx hy).1
                  have x6 := (x4 hx hy).2
                  have x7 : IntKind.i64.wrap (x + y) = x + y := by rw [IntKind.wrap_i64]; omega
                  have x8 : decide (x + y < z) = false := decide_eq_false (by omega)
                  have x9 : decide (z < 0) = false := decide_eq_false (by omega)
                  clear x4
                  go_wp2_with fail
                  go_quiet (fail)
                  go_wp2
                  go_roundw
                  case rel => exact ⟨c + 1, by omega, by go_num, HEND.out _⟩
                  case measure => simp [intOf]; omega
                · obtain rfl : y = -1 := by omega
                  clear x4
                  go_wp2_with fail
                  go_quiet (fail)
                  go_wp2
                  go_roundw
                  case rel => exact ⟨c + 1, by omega, by go_num, HEND.out _⟩
                  case measure => simp [intOf]; omega
              · obtain rfl : x = -1 := by omega
                clear x4
                go_wp2_with fail
                go_quiet (fail)
                go_wp2
                go_roundw
                case rel => exact ⟨c + 1, by omega, by go_num, HEND.out _⟩
                case measure => simp [intOf]; omega
            · have hlt3' : ¬ (c : Int) < (P : Int) := by omega
              go_wp2
              go_roundw
              case rel => exact ⟨b + 1, by omega, by go_num, hb3⟩
              case measure => simp [intOf]; omega
        · have hlt2' : ¬ (b : Int) < (P : Int) := by omega
          go_wp2
          go_roundw
          case rel => exact ⟨a + 1, by omega, by go_num, hb2⟩
          case measure => simp [intOf]; omega
    · have hlt1' : ¬ (a : Int) < (P : Int) := by omega
      have HEND := Lib.hid (bel_on HBW.out hb1.out)
      go_wp2
      go_ret
      exact ⟨rfl, HEND.out⟩
theorem wayThree_walk (s : SetP) (A1 A2 A3 A4 A5 A6 : Option Addr) (c1 c2 c3 c4 c5 c6 : Nat) (w : World) (hs : SetAt w s A1 A2 A3 A4 A5 A6 c1 c2 c3 c4 c5 c6) (hf : s.Fit) :
    Calls Try.prog 5 #[setV s A1 A2 A3 A4 A5 A6 c1 c2 c3 c4 c5 c6] w fun e w' => e = .returned (.bool true) ∧ Below w.heap.size w w' := by
  obtain ⟨cs, hcs⟩ : ∃ cs, setV s A1 A2 A3 A4 A5 A6 c1 c2 c3 c4 c5 c6 = .agg cs := ⟨_, rfl⟩
  have h : SetC w s cs := ⟨A1, A2, A3, A4, A5, A6, c1, c2, c3, c4, c5, c6, hcs, hs⟩
  rw [hcs]
  by_cases hF : s.Few
  · by_cases hM : s.May
    · exact wayThree_main h hf hF hM
    · exact wayThree_may h hf hF hM
  · exact wayThree_few h hF
end Go.Proofs.Ytcnekicfblbafaa
