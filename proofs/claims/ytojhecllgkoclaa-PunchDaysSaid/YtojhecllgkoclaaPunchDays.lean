/-
  The law PunchDays, walked.
-/
import Derived.Test.YtojhecllgkoclaaPunE
namespace Go.Proofs.Ytojhecllgkoclaa
open Go.RowKit
set_option linter.unusedVariables false
set_option linter.unusedSimpArgs false
set_option maxRecDepth 20000

theorem near_cases {u c p q : Int} (h : u ≤ 3600 → c ≤ 57600 → q - p ≤ 1) : u < 1 ∨ (¬ u < 1 ∧ c < 1) ∨ (¬ u < 1 ∧ ¬ c < 1 ∧ 3600 < u) ∨ (¬ u < 1 ∧ ¬ c < 1 ∧ ¬ 3600 < u ∧ 57600 < c) ∨ (¬ u < 1 ∧ ¬ c < 1 ∧ ¬ 3600 < u ∧ ¬ 57600 < c ∧ q - p ≤ 1) := by
  by_cases h1 : u < 1
  · exact .inl h1
  by_cases h2 : c < 1
  · exact .inr (.inl ⟨h1, h2⟩)
  by_cases h3 : 3600 < u
  · exact .inr (.inr (.inl ⟨h1, h2, h3⟩))
  by_cases h4 : 57600 < c
  · exact .inr (.inr (.inr (.inl ⟨h1, h2, h3, h4⟩)))
  · exact .inr (.inr (.inr (.inr ⟨h1, h2, h3, h4, h (by omega) (by omega)⟩)))
set_option maxHeartbeats 8000000 in
theorem punchDays_cells (cs : Array Value) (u c : Int) (t : Int) (w : World) (hs : cs.size = 23) (h8 : cs[8]? = some (.int .i64 u)) (h9 : cs[9]? = some (.int .i64 c)) :
    Calls Try.prog 5 #[.agg cs, .int .i64 t] w fun e w' => e = .returned (.bool true) ∧ Below w.heap.size w w' := by
  have HZ := Lib.hid hs
  have H8 := Lib.hid h8
  have H9 := Lib.hid h9
  obtain ⟨m, hm⟩ : ∃ m, max t 0 = m := ⟨_, rfl⟩
  obtain ⟨n, hn⟩ : ∃ n, secP t = n := ⟨_, rfl⟩
  have hmn : min m 32054399 = n := by rw [← hm, ← hn]; unfold secP timeP; omega
  have hnb := sec_bd t
  rw [hn] at hnb
  have hD := day_has t
  rw [hn] at hD
  have hT := touch_has u c t
  have hN := fun h1 h2 => touch_near (unit := u) (cap := c) (t := t) h1 h2
  have CT := Lib.hid (fun W => touch_any cs u c t W hs h8 h9)
  obtain ⟨a, ha⟩ : ∃ x, (touchP u c t).1 = x := ⟨_, rfl⟩
  obtain ⟨b, hb⟩ : ∃ y, (touchP u c t).2 = y := ⟨_, rfl⟩
  rw [ha, hb] at CT hT hN
  have hab : 0 ≤ a ∧ b ≤ 52 := by
    rw [← ha, ← hb]
    have h1 := sec_bd (secP t - aboutP u c)
    have h2 := sec_bd (secP t + aboutP u c)
    unfold touchP weekP
    simp only
    omega
  obtain ⟨d, hd⟩ : ∃ d, dayP t = d := ⟨_, rfl⟩
  obtain ⟨k, hk⟩ : ∃ k, weekP t = k := ⟨_, rfl⟩
  have CD := Lib.hid (fun W => day_is t d W hd)
  have CW := Lib.hid (fun W => week_is t k W hk)
  rw [hd, hk] at hD
  rw [hk] at hT
  obtain ⟨d1, d2, d3, d4, d5⟩ := hD
  obtain ⟨a1, a2⟩ := hT
  have d6 : 0 ≤ d ∧ d ≤ 370 := by omega
  have d7 : 0 ≤ k ∧ k ≤ 52 := by omega
  have d8 : d.tdiv 7 = k := by rw [Int.tdiv_eq_ediv_of_nonneg d6.1]; exact d5
  have hc := near_cases (u := u) (c := c) (p := a) (q := b) hN
  have HM := Lib.hid hm
  have HMN := Lib.hid hmn
  have hb0 := bel_alloc (Below.refl w.heap.size w) (.cells cs 30)
  have HB0 := Lib.hid (Has.new w 30 cs rfl)
  clear hs h8 h9 ha hb hd hk hm hmn hn hN d5
  rcases hc with hc | ⟨hc0, hc⟩ | ⟨hc0, hc1, hc⟩ | ⟨hc0, hc1, hc2, hc⟩ | ⟨hc0, hc1, hc2, hc3, hc⟩
  all_goals
    go_enter Try.func5, Try.ntmps5
    go_wp2_with fail
    refine (awake11 _).mono ?_
    rintro e w1 ⟨rfl, b1⟩
    have HB1 := Lib.hid (bel_on hb0 b1)
    have HG1 := Lib.hid (HB0.out.below b1)
    clear b1 hb0 HB0
    have q8 := HG1.out.cell 8 H8.out
    have q9 := HG1.out.cell 9 H9.out
    go_wp2_with (first | refine wpList_max2i (o := ⟨some 14, _, _, _, _, _⟩) t 0 m HM.out rfl rfl rfl rfl ?_ | refine wpList_min2i (o := ⟨some 15, _, _, _, _, _⟩) m 32054399 n HMN.out rfl rfl rfl rfl ?_)
    refine (CD.out _).mono ?_
    rintro e w2 ⟨rfl, rfl⟩
    go_wp2_with fail
    refine (CW.out _).mono ?_
    rintro e w2 ⟨rfl, rfl⟩
    go_wp2_with (refine wpList_load_sp (by rfl) _ rfl w.heap.size rfl cs HG1.out HZ.out ?_)
    refine (CT.out _).mono ?_
    rintro e w3 ⟨rfl, b3⟩
    have HB3 := Lib.hid (bel_on HB1.out b3)
    have HG3 := Lib.hid (HG1.out.below b3)
    clear b3 HB1 HG1 q8 q9
    have q8 := HG3.out.cell 8 H8.out
    have q9 := HG3.out.cell 9 H9.out
    have q0 := HG3.out.size
    go_wp2
    go_ret
    exact ⟨rfl, HB3.out⟩
theorem punchDays_walk (s : SetP) (A1 A2 A3 A4 A5 A6 : Option Addr) (c1 c2 c3 c4 c5 c6 : Nat) (t : Int) (w : World) (hs : SetAt w s A1 A2 A3 A4 A5 A6 c1 c2 c3 c4 c5 c6) (hf : s.Fit) (t1 : -9223372036854775808 ≤ t) (t2 : t ≤ 9223372036854775807) :
    Calls Try.prog 5 #[setV s A1 A2 A3 A4 A5 A6 c1 c2 c3 c4 c5 c6, .int .i64 t] w fun e w' => e = .returned (.bool true) ∧ Below w.heap.size w w' := by
  obtain ⟨cs, hcs⟩ : ∃ cs, setV s A1 A2 A3 A4 A5 A6 c1 c2 c3 c4 c5 c6 = .agg cs := ⟨_, rfl⟩
  obtain ⟨h1, h2, h3⟩ := setV_pun hcs
  rw [hcs]
  exact punchDays_cells cs _ _ t w h1 h2 h3
end Go.Proofs.Ytojhecllgkoclaa
