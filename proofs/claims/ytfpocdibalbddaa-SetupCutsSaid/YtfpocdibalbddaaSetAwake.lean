/-
  The calls whose answers the document fixes, at the head of layer 7's laws.
-/
import Derived.Test.YtfpocdibalbddaaSetZ
namespace Go.Proofs.Ytfpocdibalbddaa
open Go.RowKit
set_option linter.unusedVariables false
set_option linter.unusedSimpArgs false
set_option maxRecDepth 20000

theorem aw7_len : leastP.bytes.length = 41 := by decide +kernel
theorem aw7_head : leastP.bytes.take 9 = [1#8, 3#8, 1#8, 1#8, 0#8, 1#8, 2#8, 2#8, 1#8] := by decide +kernel
theorem aw7_check : checkB leastP = true := by decide +kernel
theorem aw7_bad : checkB (leastP.put 3 59) = false := by decide +kernel
theorem least_may : leastP.May := check_iff.1 aw7_check
theorem wrong_may : ¬ (leastP.put 3 59).May := fun h => by have := check_iff.2 h; rw [aw7_bad] at this; cases this
theorem least_fit : leastP.Fit := by constructor <;> simp [leastP, In64]
theorem least_wide : leastP.Wide := by constructor <;> simp [leastP]
theorem least_write : writeE leastP = (leastP.bytes, 0) := writeE_ok least_may
theorem wrong_write : writeE (leastP.put 3 59) = ([], 70) := writeE_bad wrong_may
theorem least_read : readE leastP.bytes = (leastP, 0) := by
  unfold readE
  rw [read_back ⟨least_wide, least_may⟩]
theorem nil_read : readE [] = (SetP.none, 70) := by
  unfold readE
  rw [read_none (fun s hs e => ?_)]
  unfold SetP.bytes SetP.nums at e
  rw [bytesN_cons] at e
  simp [oneB] at e
section
variable {w : World} {s : SetP} {cs : Array Value}
theorem SetC.cap (h : SetC w s cs) : cs[9]? = some (.int .i64 s.cap) := by
  obtain ⟨A1, A2, A3, A4, A5, A6, c1, c2, c3, c4, c5, c6, h1, h2⟩ := h
  unfold setV at h1
  injection h1 with h1
  subst h1
  rfl
theorem SetC.ways (h : SetC w s cs) : ∃ A c, cs[1]? = some (.slice A s.ways.length c) ∧ Tab 3 w A s.ways.length c s.ways := by
  obtain ⟨A1, A2, A3, A4, A5, A6, c1, c2, c3, c4, c5, c6, h1, h2⟩ := h
  unfold setV at h1
  injection h1 with h1
  subst h1
  exact ⟨A1, c1, rfl, h2.ways⟩
theorem SetC.putcap (h : SetC w s cs) (n : Int) : SetC w (s.put 3 n) (cs.setIfInBounds 9 (.int .i64 n)) := by
  obtain ⟨A1, A2, A3, A4, A5, A6, c1, c2, c3, c4, c5, c6, h1, h2⟩ := h
  unfold setV at h1
  injection h1 with h1
  subst h1
  exact ⟨A1, A2, A3, A4, A5, A6, c1, c2, c3, c4, c5, c6, rfl, put_at h2 3 n⟩
end
set_option maxHeartbeats 8000000 in
theorem awake7 (w : World) : Calls Try.prog 8 #[] w fun e w' => e = .returned (.bool true) ∧ Below w.heap.size w w' := by
  go_enter Try.func8, Try.ntmps8
  go_wp2_with fail
  refine (least_c _).mono ?_
  rintro e w1 ⟨cs1, rfl, hs1, b1⟩
  have HZ1 := Lib.hid hs1.size
  have HO1 := Lib.hid hs1.one
  have HS1 := Lib.hid hs1
  clear hs1
  go_wp2_with (first | refine wpList_laidS cs1 1 _ _ rfl rfl rfl rfl rfl rfl rfl rfl HZ1.out HO1.out ?_ | refine wpList_load_has (by rfl) _ rfl w1.heap.size rfl cs1 (Has.new _ _ _ rfl) HZ1.out ?_)
  refine (swrite_c (HS1.out.below (bel_alloc (Below.refl _ _) _)) least_fit _ _ 41 least_write aw7_len).mono ?_
  rintro e w2 ⟨A2, c2, rfl, r2, b2⟩
  have HB1 := Lib.hid ((Has.new w1 30 cs1 rfl).below b2)
  replace b2 := bel_on (bel_alloc (Below.refl _ _) _) b2
  replace HS1 := Lib.hid (HS1.out.below b2)
  replace b2 := bel_on b1 b2
  have HR2 := Lib.hid r2
  clear r2 b1
  go_wp2_with fail
  refine (sread_c A2 c2 41 leastP.bytes w2 (HR2.out.slAt aw7_len) (HR2.out.cap_le aw7_len) (by omega) _ _ least_read).mono ?_
  rintro e w3 ⟨cs3, rfl, hs3, b3⟩
  replace HB1 := Lib.hid (HB1.out.below b3)
  replace HS1 := Lib.hid (HS1.out.below b3)
  replace HR2 := Lib.hid (HR2.out.below b3)
  replace b3 := bel_on b2 b3
  have HZ3 := Lib.hid hs3.size
  have HO3 := Lib.hid hs3.one
  have HS3 := Lib.hid hs3
  clear hs3 b2
  go_wp2_with (refine wpList_laidS cs3 4 _ _ rfl rfl rfl rfl rfl rfl rfl rfl HZ3.out HO3.out ?_)
  refine (least_c _).mono ?_
  rintro e w4 ⟨cs4, rfl, hs4, b4⟩
  have HB3 := Lib.hid ((Has.new w3 30 cs3 rfl).below b4)
  replace b4 := bel_on (bel_alloc (Below.refl _ _) _) b4
  replace HB1 := Lib.hid (HB1.out.below b4)
  replace HS1 := Lib.hid (HS1.out.below b4)
  replace HS3 := Lib.hid (HS3.out.below b4)
  replace HR2 := Lib.hid (HR2.out.below b4)
  replace b4 := bel_on b3 b4
  have HZ4 := Lib.hid hs4.size
  have HO4 := Lib.hid hs4.one
  have HS4 := Lib.hid hs4
  have hc4 := (Has.new w4 30 cs4 rfl).cell 9 hs4.cap
  have hf4 := (Has.new w4 30 cs4 rfl).frozen 9
  clear hs4 b3
  have HZ4' : Hid ((cs4.setIfInBounds 9 (.int .i64 59)).size = 23) := by
    show _ = _
    rw [Array.size_setIfInBounds]
    exact HZ4.out
  go_wp2_with (first | refine wpList_laidS cs4 6 _ _ rfl rfl rfl rfl rfl rfl rfl rfl HZ4.out HO4.out ?_ | refine wpList_load_has (by rfl) _ rfl w4.heap.size rfl (cs4.setIfInBounds 9 (.int .i64 59)) (Has.new _ _ _ rfl) HZ4'.out ?_)
  have HS4' := Lib.hid (HS4.out.putcap 59)
  clear HS4 hc4 hf4
  refine (swrite_c (HS4'.out.below (bel_alloc (Below.refl _ _) _)) (put_fit least_fit 3 (by simp [In64])) _ _ 0 wrong_write rfl).mono ?_
  rintro e w5 ⟨A5, c5, rfl, r5, b5⟩
  have HB4 := Lib.hid ((Has.new w4 30 _ rfl).below b5)
  replace b5 := bel_on (bel_alloc (Below.refl _ _) _) b5
  replace HB1 := Lib.hid (HB1.out.below b5)
  replace HB3 := Lib.hid (HB3.out.below b5)
  replace HS1 := Lib.hid (HS1.out.below b5)
  replace HS3 := Lib.hid (HS3.out.below b5)
  replace HS4' := Lib.hid (HS4'.out.below b5)
  replace HR2 := Lib.hid (HR2.out.below b5)
  replace b5 := bel_on b4 b5
  clear b4 r5 HZ4 HO4
  go_wp2_with fail
  refine (sread_c none 0 0 [] w5 Sl.nil_ (by omega) (by omega) _ _ nil_read).mono ?_
  rintro e w6 ⟨cs6, rfl, hs6, b6⟩
  have HZ6 := Lib.hid hs6.size
  have HO6 := Lib.hid hs6.one
  replace b6 := bel_alloc b6 (.cells cs6 30)
  replace HB1 := Lib.hid (HB1.out.below b6)
  replace HB3 := Lib.hid (HB3.out.below b6)
  replace HB4 := Lib.hid (HB4.out.below b6)
  replace HS1 := Lib.hid (HS1.out.below b6)
  replace HS3 := Lib.hid (HS3.out.below b6)
  replace HS4' := Lib.hid (HS4'.out.below b6)
  replace HR2 := Lib.hid (HR2.out.below b6)
  replace b6 := bel_on b5 b6
  clear b5 hs6
  obtain ⟨Aw, cw, hw1, hw2⟩ := HS3.out.ways
  obtain ⟨bw, ow, rfl⟩ := hw2.form (by decide) (by decide)
  have hw3 := HB3.out.cell 1 hw1
  have hw4 : (w6.alloc (.cells cs6 30)).cell? ⟨bw, ow + 0 * 3 + 2, none⟩ = some (.int .i64 300) := hw2.cell (i := 0) (j := 2) (by decide) (by decide)
  rw [show leastP.ways.length = 1 from rfl] at hw3
  simp only [Nat.zero_mul, Nat.add_zero] at hw4
  obtain ⟨g2, rfl⟩ := HR2.out.form (by intro h; have := congrArg List.length h; rw [aw7_len] at this; cases this)
  have k2 : (convert 31 9 (.slice (some ⟨g2, 0, none⟩) 9 c2)).run Try.prog (w6.alloc (.cells cs6 30)) = .ok (.string ⟨#[1, 3, 1, 1, 0, 1, 2, 2, 1]⟩) (w6.alloc (.cells cs6 30)) := by
    have := conv_sl (sl_take (HR2.out.slAt aw7_len) (m := 9) (by omega) (fun h => by cases h))
    rw [aw7_head] at this
    exact this
  have hcap := HR2.out.cap_le aw7_len
  have hl1 := cell_lt hw3
  have hl2 := cell_lt hw4
  clear hw1 hw2 HR2 HS3
  go_wp2_with (first | refine wpList_laidS cs6 9 _ _ rfl rfl rfl rfl rfl rfl rfl rfl HZ6.out HO6.out ?_ | refine wpList_load_has (by rfl) _ rfl w1.heap.size rfl cs1 HB1.out HZ1.out ?_)
  refine (scheck_c HS1.out least_fit true aw7_check).mono ?_
  rintro e w7 ⟨rfl, b7⟩
  replace HB4 := Lib.hid (HB4.out.below b7)
  replace HS4' := Lib.hid (HS4'.out.below b7)
  replace b7 := bel_on b6 b7
  clear b6 HB1 HS1 HB3 k2 hw3 hw4 hl1 hl2
  go_wp2_with (refine wpList_load_has (by rfl) _ rfl w4.heap.size rfl _ HB4.out HZ4'.out ?_)
  refine (scheck_c HS4'.out (put_fit least_fit 3 (by simp [In64])) false aw7_bad).mono ?_
  rintro e w8 ⟨rfl, b8⟩
  replace b8 := bel_on b7 b8
  go_wp2
  go_ret
  exact ⟨rfl, b8⟩
end Go.Proofs.Ytfpocdibalbddaa
