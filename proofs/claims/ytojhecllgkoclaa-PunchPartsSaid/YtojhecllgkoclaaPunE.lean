/-
  The calls whose answers layer 11's document fixes: they are as it says; two lists of numbers that are the same.
-/
import Derived.Test.YtojhecllgkoclaaPunD
import Derived.Test.YtojhecllgkoclaaTab
namespace Go.Proofs.Ytojhecllgkoclaa
open Go.RowKit
set_option linter.unusedVariables false
set_option linter.unusedSimpArgs false
set_option maxRecDepth 20000

/-- In a walk: a whole setup is read. -/
theorem wpList_load_sp {ops : Array Oper} {rest : List Oper} {o : Oper} {a : Act} {w : World} {Q : Exit → Act → World → Prop} (hgd : Region.wanted o (yielded ops a.tmps) = true) (x : Operand) (ho : o.op = .load 30 x)
    (g : Nat) (hx : a.eval x = .pointer (some ⟨g, 0, none⟩)) (cs : Array Value) (hg : Has w g cs) (hs : cs.size = 23)
    (h : wpList Try.prog ops Q rest (a.put o.dst (.agg cs)) w) : wpList Try.prog ops Q (o :: rest) a w := by
  refine wpList_step fun K hK => ?_
  rw [if_pos hgd]
  obtain ⟨t, hg⟩ := hg
  exact wp_load_row _ x ho g hx t cs (0, 0) _ hg Try.underlying30 rfl (by rw [hs]; kernel_rfl) (hK _ _ h)
theorem setV_pun {s : SetP} {A1 A2 A3 A4 A5 A6 : Option Addr} {c1 c2 c3 c4 c5 c6 : Nat} {cs : Array Value} (h : setV s A1 A2 A3 A4 A5 A6 c1 c2 c3 c4 c5 c6 = .agg cs) : cs.size = 23 ∧ cs[8]? = some (.int .i64 s.unit) ∧ cs[9]? = some (.int .i64 s.cap) := by
  unfold setV at h
  injection h with h
  subst h
  exact ⟨rfl, rfl, rfl⟩
theorem nsame_any (A B : Option Addr) (ca cb n : Nat) (xs : List Int) (w : World) (ha : Nums w A xs) (hb : Nums w B xs) (hn : xs.length = n) (hl : n ≤ 100000000) :
    Calls Try.prog 22 #[.slice A n ca, .slice B n cb] w fun e w' => e = .returned (.bool true) ∧ Below w.heap.size w w' := by
  have HA := Lib.hid ha
  have HB := Lib.hid hb
  clear ha hb
  go_enter Try.func22, Try.ntmps22
  go_wp2
  go_loopw [5] (fun i wr => ∃ (k : Nat), k ≤ n ∧ i = .int .i64 k ∧ Below w.heap.size w wr) (fun i _ => n - (intOf i).toNat)
  case atStart => exact ⟨0, Nat.zero_le _, rfl, Below.refl _ _⟩
  case round =>
    obtain ⟨k, hk, rfl, hbw⟩ := hrel
    by_cases hlt : k < n
    · obtain ⟨b, off, rfl, c1⟩ := (HA.out.below hbw) k (by omega)
      obtain ⟨b', off', rfl, d1⟩ := (HB.out.below hbw) k (by omega)
      have hb1 := cell_lt c1
      have hb2 := cell_lt d1
      generalize xs.getD k 0 = z at *
      have i0 : (0 : Int) ≤ (k : Int) := by omega
      have i1 : (k : Int) < (n : Int) := by omega
      go_wp2
      go_quiet (fail)
      go_wp2
      go_roundw
      case rel => exact ⟨k + 1, by omega, by go_num, below_drewN hbw _⟩
      case measure => simp [intOf]; omega
    · obtain rfl : k = n := by omega
      go_wp2
      go_ret
      exact ⟨rfl, hbw⟩
theorem round_bel (t u r : Int) (w : World) (hu' : u ≤ 9223372036854775807) (hr : roundP t u = r) : Calls Try.prog 11 #[.int .i64 t, .int .i64 u] w fun e w' => e = .returned (.int .i64 r) ∧ Below w.heap.size w w' := by
  subst hr
  refine (round_any t u w hu').mono ?_
  rintro e w' ⟨rfl, n, rfl⟩
  exact ⟨rfl, below_drewN (Below.refl _ _) n⟩
theorem day_is (t r : Int) (w : World) (hr : dayP t = r) : Calls Try.prog 13 #[.int .i64 t] w fun e w' => e = .returned (.int .i64 r) ∧ w = w' := by
  subst hr
  exact day_any t w
theorem week_is (t r : Int) (w : World) (hr : weekP t = r) : Calls Try.prog 15 #[.int .i64 t] w fun e w' => e = .returned (.int .i64 r) ∧ w = w' := by
  subst hr
  exact week_any t w
theorem in_l (t : Int) : In [(604700, 691300)] t ↔ 604700 ≤ t ∧ t < 691300 := by simp only [in_cons, in_nil, or_false]
theorem pw_days : daysP (In [(604700, 691300)]) = [6, 7, 8] :=
  (days_eq (by simp) fun d => by
    constructor
    · intro h
      rcases List.mem_cons.1 h with rfl | h
      · exact ⟨604700, by omega, by omega, (in_l _).2 (by omega), by omega⟩
      · rcases List.mem_cons.1 h with rfl | h
        · exact ⟨604800, by omega, by omega, (in_l _).2 (by omega), by omega⟩
        · rw [List.mem_singleton.1 h]
          exact ⟨691299, by omega, by omega, (in_l _).2 (by omega), by omega⟩
    · rintro ⟨t, t0, t1, ht, rfl⟩
      rw [in_l] at ht
      have : t / 86400 = 6 ∨ t / 86400 = 7 ∨ t / 86400 = 8 := by omega
      rcases this with h | h | h <;> rw [h] <;> simp).symm
theorem pw_day : ofDayP (In [(604700, 691300)]) 6 = [(604700, 604800)] :=
  (canon_eq (by simp [PlainFrom]) (fun t => by rw [in_l]; simp only [in_cons, in_nil, or_false]; omega)).symm
theorem pw_week : ofWeekP (In [(604700, 691300)]) 1 = [(604800, 691300)] :=
  (canon_eq (by simp [PlainFrom]) (fun t => by rw [in_l]; simp only [in_cons, in_nil, or_false]; omega)).symm
theorem pw_touch : touchP 100 60 604800 = (0, 1) := by decide
theorem pw_r1 : roundP 450 900 = 900 := by decide
theorem pw_r2 : roundP 449 900 = 0 := by decide
theorem pw_r3 : roundP 7 0 = 7 := by decide
theorem pw_d : dayP 86400 = 1 := by decide
theorem pw_w : weekP 604799 = 0 := by decide
theorem pw_f1 : Fits [(604700, 691300)] := .of_plain (by simp [PlainFrom])
theorem pw_f2 : Fits [(604700, 604800)] := .of_plain (by simp [PlainFrom])
theorem pw_f3 : Fits [(604800, 691300)] := .of_plain (by simp [PlainFrom])

set_option maxHeartbeats 4000000 in
theorem awake11 (w : World) : Calls Try.prog 8 #[] w fun e w' => e = .returned (.bool true) ∧ Below w.heap.size w w' := by
  have HS1 := Lib.hid (spans_new w [(604700, 691300)] 47 #[.int .i64 604700, .int .i64 691300] rfl pw_f1 rfl)
  have HB1 := Lib.hid (bel_alloc (Below.refl w.heap.size w) (.cells #[.int .i64 604700, .int .i64 691300] 47))
  have HT := Lib.hid pw_touch
  go_enter Try.func8, Try.ntmps8
  go_wp2_with fail
  refine (touch_any _ 100 60 604800 _ rfl rfl rfl).mono ?_
  rw [HT.out]
  rintro e w2 ⟨rfl, b2⟩
  have HS2 := Lib.hid (HS1.out.below b2)
  have HB2 := Lib.hid (bel_on HB1.out b2)
  clear HS1 HB1 b2 HT
  go_wp2_with fail
  refine (days_any _ 1 [(604700, 691300)] _ HS2.out (by simp)).mono ?_
  rw [pw_days]
  rintro e w3 ⟨A3, c3, rfl, r3, b3⟩
  have HN3 := Lib.hid r3.nums
  have HS3 := Lib.hid (HS2.out.below b3)
  have HB3 := Lib.hid (bel_on HB2.out b3)
  clear HS2 HB2 b3 r3
  go_wp2_with fail
  refine (ofday_any _ 1 [(604700, 691300)] 6 _ HS3.out (by simp)).mono ?_
  rw [pw_day]
  rintro e w4 ⟨A4, c4, rfl, r4, b4⟩
  have HX4 := Lib.hid (r4.spans pw_f2)
  have HN4 := Lib.hid (HN3.out.below b4)
  have HS4 := Lib.hid (HS3.out.below b4)
  have HB4 := Lib.hid (bel_on HB3.out b4)
  clear HS3 HB3 HN3 b4 r4
  go_wp2_with fail
  refine (ofweek_any _ 1 [(604700, 691300)] 1 _ HS4.out (by simp)).mono ?_
  rw [pw_week]
  rintro e w5 ⟨A5, c5, rfl, r5, b5⟩
  have HY5 := Lib.hid (r5.spans pw_f3)
  have HX5 := Lib.hid (HX4.out.below b5)
  have HN5 := Lib.hid (HN4.out.below b5)
  have HB5 := Lib.hid (bel_on HB4.out b5)
  clear HS4 HB4 HN4 HX4 b5 r5
  go_wp2_with fail
  refine (round_bel 450 900 900 _ (by omega) pw_r1).mono ?_
  rintro e w6 ⟨rfl, b6⟩
  have HY6 := Lib.hid (HY5.out.below b6)
  have HX6 := Lib.hid (HX5.out.below b6)
  have HN6 := Lib.hid (HN5.out.below b6)
  have HB6 := Lib.hid (bel_on HB5.out b6)
  clear HY5 HB5 HN5 HX5 b6
  go_wp2_with fail
  refine (round_bel 449 900 0 _ (by omega) pw_r2).mono ?_
  rintro e w7 ⟨rfl, b7⟩
  have HY7 := Lib.hid (HY6.out.below b7)
  have HX7 := Lib.hid (HX6.out.below b7)
  have HN7 := Lib.hid (HN6.out.below b7)
  have HB7 := Lib.hid (bel_on HB6.out b7)
  clear HY6 HB6 HN6 HX6 b7
  go_wp2_with fail
  refine (round_bel 7 0 7 _ (by omega) pw_r3).mono ?_
  rintro e w8 ⟨rfl, b8⟩
  have HY8 := Lib.hid (HY7.out.below b8)
  have HX8 := Lib.hid (HX7.out.below b8)
  have HN8 := Lib.hid (HN7.out.below b8)
  have HB8 := Lib.hid (bel_on HB7.out b8)
  clear HY7 HB7 HN7 HX7 b8
  go_wp2_with fail
  refine (day_is 86400 1 _ pw_d).mono ?_
  rintro e w9 ⟨rfl, rfl⟩
  go_wp2_with fail
  refine (week_is 604799 0 _ pw_w).mono ?_
  rintro e w9 ⟨rfl, rfl⟩
  have hb9 : Below w8.heap.size w8 (w8.alloc (.cells #[.int .i64 6, .int .i64 7, .int .i64 8] 3)) := bel_alloc (Below.refl _ _) _
  have HN9 := Lib.hid (HN8.out.below hb9)
  have HM9 := Lib.hid (nrow_new w8 [6, 7, 8] (k := 3) rfl (by omega)).nums
  have HB9 := Lib.hid (bel_on HB8.out hb9)
  have HX9 := Lib.hid (HX8.out.below hb9)
  have HY9 := Lib.hid (HY8.out.below hb9)
  clear HY8 HX8 HN8 HB8 hb9
  go_wp2_with fail
  refine (nsame_any _ _ _ _ 3 [6, 7, 8] _ HN9.out HM9.out rfl (by omega)).mono ?_
  rintro e w10 ⟨rfl, b10⟩
  have HX10 := Lib.hid (HX9.out.below b10)
  have HY10 := Lib.hid (HY9.out.below b10)
  have HB10 := Lib.hid (bel_on HB9.out b10)
  clear HN9 HM9 HB9 HX9 HY9 b10
  have hb11 : Below w10.heap.size w10 (w10.alloc (.cells #[.int .i64 604700, .int .i64 604800] 47)) := bel_alloc (Below.refl _ _) _
  have HL11 := Lib.hid (spans_new w10 [(604700, 604800)] 47 #[.int .i64 604700, .int .i64 604800] rfl pw_f2 rfl)
  have HX11 := Lib.hid (HX10.out.below hb11)
  have HY11 := Lib.hid (HY10.out.below hb11)
  have HB11 := Lib.hid (bel_on HB10.out hb11)
  clear HX10 HY10 HB10 hb11
  go_wp2_with fail
  refine (same_any _ _ _ _ [(604700, 604800)] _ HX11.out HL11.out (by simp)).mono ?_
  rintro e w12 ⟨rfl, b12⟩
  have HY12 := Lib.hid (HY11.out.below b12)
  have HB12 := Lib.hid (bel_on HB11.out b12)
  clear HX11 HL11 HY11 HB11 b12
  have hb13 : Below w12.heap.size w12 (w12.alloc (.cells #[.int .i64 604800, .int .i64 691300] 47)) := bel_alloc (Below.refl _ _) _
  have HL13 := Lib.hid (spans_new w12 [(604800, 691300)] 47 #[.int .i64 604800, .int .i64 691300] rfl pw_f3 rfl)
  have HY13 := Lib.hid (HY12.out.below hb13)
  have HB13 := Lib.hid (bel_on HB12.out hb13)
  clear HY12 HB12 hb13
  go_wp2_with fail
  refine (same_any _ _ _ _ [(604800, 691300)] _ HY13.out HL13.out (by simp)).mono ?_
  rintro e w14 ⟨rfl, b14⟩
  have HB14 := Lib.hid (bel_on HB13.out b14)
  clear HY13 HL13 HB13 b14
  go_wp2
  go_ret
  exact ⟨rfl, HB14.out⟩
end Go.Proofs.Ytojhecllgkoclaa
