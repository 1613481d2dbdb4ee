/-
  Package setup: 'all', at each type and function that it is called with: by a word that holds ahead of each element.
-/
import Derived.Test.YtpgncbhahocmbaaGreatQad
import Derived.Test.YtpgncbhahocmbaaGreatQak
import Derived.Test.YtpgncbhahocmbaaGreatProg
import Derived.Test.YtpgncbhahocmbaaGreatQaa
import Derived.Test.YtpgncbhahocmbaaGreatQab
import Derived.OpenShut
import Derived.Laws.Cover1
import Derived.WalkKit
import Derived.WalkLawsBesides
import Derived.Lib.Hide
import Derived.IntWalk
import Derived.Lib.SliceRun
namespace Go.Proofs.YtpgncbhahocmbaaGreat
open Go.RowKit
set_option linter.unusedVariables false
set_option linter.unusedSimpArgs false
set_option maxRecDepth 20000

theorem all1_way (x0 x1 x2 : Int) (N : Nat) (P0 : Nat) (w : World) (q : Bool) (Q : World → Prop) (hN : Has w N #[(.func (.func 90) #[] #[.pointer (some ⟨P0, 0, none⟩)])])
    (hG : ∀ w1, Below w.heap.size w w1 → Calls Tryz.prog 90 #[(.agg #[.int .i64 x0, .int .i64 x1, .int .i64 x2]), .pointer (some ⟨P0, 0, none⟩)] w1 fun e w' => e = .returned (.bool q) ∧ Q w') :
    Calls Tryz.prog 120 #[(.agg #[.int .i64 x0, .int .i64 x1, .int .i64 x2]), .pointer (some ⟨N, 0, none⟩)] w fun e w' => e = .returned (.bool (!q)) ∧ Q w' := by
  have hc := hN.cell 0 rfl
  have hlt := hN.size
  have hne : N ≠ w.heap.size := by omega
  clear hN
  go_enter Tryz.func120, Tryz.ntmps120
  go_wp2_with fail
  refine (hG _ (by (repeat' (first | with_reducible exact Below.refl _ _ | with_reducible assumption | with_reducible refine bel_alloc ?_ _ | with_reducible refine bel_set ?_ ?_ _ | with_reducible refine below_drewN ?_ _ | with_reducible refine below_drew ?_ | (simp; done) | (simp; omega) | omega)))).mono ?_
  rintro e w2 ⟨rfl, hb⟩
  clear hG hc
  go_wp2
  go_ret
  exact ⟨rfl, hb⟩
theorem index_way (A : Option Addr) (c n N : Nat) (P0 : Nat) (rows : Rows2) (w : World) (J : Nat → World → Prop) (M : Nat → Prop) (p : Nat → Bool) (hn : n ≤ 9223372036854775807)
    (hT : ∀ i w', J i w' → Tab 3 w' A n c rows) (hN : ∀ i w', J i w' → Has w' N #[(.func (.func 90) #[] #[.pointer (some ⟨P0, 0, none⟩)])]) (h0 : J 0 w) (hJ : ∀ i w' w'', J i w' → Below w'.heap.size w' w'' → J i w'')
    (hG : ∀ i w', i < n → J i w' → Calls Tryz.prog 90 #[(.agg #[.int .i64 ((rows.getD i []).getD 0 0), .int .i64 ((rows.getD i []).getD 1 0), .int .i64 ((rows.getD i []).getD 2 0)]), .pointer (some ⟨P0, 0, none⟩)] w' fun e w'' => e = .returned (.bool (p i)) ∧ Chg M w' w'' ∧ (p i = true → J (i + 1) w'')) :
    Calls Tryz.prog 145 #[.slice A n c, .func (.func 120) #[] #[.pointer (some ⟨N, 0, none⟩)]] w fun e w' => ∃ z : Int, e = .returned (.int .i64 z) ∧ decide (0 ≤ z) = (!allP p n) ∧ Chg M w w' := by
  have HT := Lib.hid hT
  have HG := Lib.hid hG
  have HN := Lib.hid hN
  have HJ := Lib.hid hJ
  have H0 := Lib.hid h0
  have eg : ∀ args w, (callFunc 120 args).run Tryz.prog w = .ok (.enter 120 args) w := enters_of Tryz.func120 (by kernel_rfl) rfl
  clear hT hG hN hJ h0
  go_enter Tryz.func145, Tryz.ntmps145
  go_wp2
  go_loopw [8] (fun i wr => ∃ (k : Nat), k ≤ n ∧ i = .int .i64 k ∧ Hid (allP p k = true) ∧ Hid (J k wr) ∧ Chg M w wr) (fun i _ => n - (intOf i).toNat)
  case atStart => exact ⟨0, Nat.zero_le _, rfl, rfl, H0, Chg.refl _ _⟩
  case round =>
    obtain ⟨k, hk, rfl, ha, hj, hbw⟩ := hrel
    by_cases hlt : k < n
    · have ht := HT.out k _ hj.out
      obtain ⟨b, off, rfl⟩ := ht.form (by decide) (by omega)
      have c0 := ht.cell hlt (show 0 < 3 by decide)
      have c1 := ht.cell hlt (show 1 < 3 by decide)
      have c2 := ht.cell hlt (show 2 < 3 by decide)
      have hlc : b < _ := cell_lt c0
      simp only [Nat.add_zero] at c0 hlc
      have HC := Lib.hid (HG.out k · hlt)
      have HJ1 := Lib.hid (hj.out)
      have HH := Lib.hid (HN.out k _ hj.out)
      clear ht
      generalize rows.getD k [] = r at *
      generalize r.getD 0 0 = x0 at *
      generalize r.getD 1 0 = x1 at *
      generalize r.getD 2 0 = x2 at *
      go_wp2_with fail
      refine (all1_way x0 x1 x2 N P0 _ (p k) (fun w'' => Chg M _ w'' ∧ (p k = true → J (k + 1) w'')) HH.out (fun w1 hb1 => (HC.out w1 (HJ.out k _ _ HJ1.out hb1)).mono fun e w2 ⟨h1, h2, h3⟩ => ⟨h1, (Chg.of_below hb1).on h2, h3⟩)).mono ?_
      rintro e w2 ⟨rfl, hb2, hj2⟩
      replace hb2 := hbw.on hb2
      have HJ2 := Lib.hid hj2
      clear hj2
      cases hm : p k with
      | false =>
        have hs' := Lib.hid (allP_bad hlt hm)
        clear hm
        go_wp2
        go_ret
        exact ⟨k, rfl, by rw [hs'.out]; simp, hb2⟩
      | true =>
        have hs' : Hid (allP p (k + 1) = true) := by
          show _ = _
          rw [allP_succ, ha.out, hm]; rfl
        have hj3 := Lib.hid (HJ2.out hm)
        clear hm
        go_wp2
        go_roundw
        case rel => exact ⟨k + 1, by omega, by go_num, hs', hj3, hb2⟩
        case measure => simp [intOf]; omega
    · obtain rfl : k = n := by omega
      have HS := Lib.hid ha.out
      go_wp2
      go_ret
      exact ⟨-1, rfl, by rw [HS.out]; simp, hbw⟩
theorem all_way (A : Option Addr) (c n : Nat) (most : Int) (P0 : Nat) (rows : Rows2) (w : World) (J : Nat → World → Prop) (M : Nat → Prop) (p : Nat → Bool) (hn : n ≤ 9223372036854775807) (hmost : In64 most)
    (hM : ¬ M w.heap.size) (hT : ∀ i w', J i w' → Tab 3 w' A n c rows) (h0 : J 0 w) (hJ : ∀ i w' w'', J i w' → Below w'.heap.size w' w'' → J i w'')
    (hG : ∀ i w', i < n → J i w' → Calls Tryz.prog 90 #[(.agg #[.int .i64 ((rows.getD i []).getD 0 0), .int .i64 ((rows.getD i []).getD 1 0), .int .i64 ((rows.getD i []).getD 2 0)]), .pointer (some ⟨P0, 0, none⟩)] w' fun e w'' => e = .returned (.bool (p i)) ∧ Chg M w' w'' ∧ (p i = true → J (i + 1) w'')) :
    Calls Tryz.prog 89 #[.slice A n c, .int .i64 most, (.func (.func 90) #[] #[.pointer (some ⟨P0, 0, none⟩)])] w fun e w' => e = .returned (.bool (decide ((n : Int) ≤ most) && allP p n)) ∧ Chg M w w' := by
  obtain ⟨hm1, hm2⟩ := hmost
  have hI := fun (w0 : World) (hw0 : Below w.heap.size w w0) (h1 : Has w0 w.heap.size #[(.func (.func 90) #[] #[.pointer (some ⟨P0, 0, none⟩)])]) => index_way A c n w.heap.size P0 rows w0 (fun i w' => J i w' ∧ Has w' w.heap.size #[(.func (.func 90) #[] #[.pointer (some ⟨P0, 0, none⟩)])]) M p hn (fun i w' h => hT i w' h.1) (fun i w' h => h.2) ⟨hJ _ _ _ h0 hw0, h1⟩
    (fun i w' w'' h hb => ⟨hJ _ _ _ h.1 hb, h.2.below hb⟩) (fun i w' hi h => (hG i w' hi h.1).mono fun e w'' ⟨h1, h2, h3⟩ => ⟨h1, h2, fun hp => ⟨h3 hp, h.2.chg hM h2⟩⟩)
  have HI := Lib.hid hI
  clear hI hT h0 hJ hG
  have hC : ∀ (w0 : World) (hw0 : Below w.heap.size w w0) (h1 : Has w0 w.heap.size #[(.func (.func 90) #[] #[.pointer (some ⟨P0, 0, none⟩)])]), Calls Tryz.prog 119 #[.slice A n c, .func (.func 120) #[] #[.pointer (some ⟨w.heap.size, 0, none⟩)]] w0 fun e w' => e = .returned (.bool (!allP p n)) ∧ Chg M w0 w' := by
    intro w0 hw0 h1
    have HI2 := Lib.hid (HI.out w0 hw0 h1)
    clear HI h1 hw0
    generalize allP p n = r at *
    generalize w.heap.size = N at *
    go_enter Tryz.func119, Tryz.ntmps119
    go_wp2_with fail
    refine HI2.out.mono ?_
    rintro e w2 ⟨z, rfl, hz, hb⟩
    have HZ := Lib.hid hz
    clear hz
    go_wp2
    go_ret
    exact ⟨ret_bool HZ.out, hb⟩
  have HC := Lib.hid hC
  clear hC HI
  generalize allP p n = r at *
  by_cases h : (n : Int) ≤ most
  · have hd := Lib.hid (decide_eq_true h)
    go_enter Tryz.func89, Tryz.ntmps89
    go_wp2_with fail
    refine (HC.out _ (by (repeat' (first | with_reducible exact Below.refl _ _ | with_reducible assumption | with_reducible refine bel_alloc ?_ _ | with_reducible refine bel_set ?_ ?_ _ | with_reducible refine below_drewN ?_ _ | with_reducible refine below_drew ?_ | (simp; done) | (simp; omega) | omega))) (Has.new _ _ _ rfl)).mono ?_
    rintro e w2 ⟨rfl, hb⟩
    replace hb := ((Chg.refl M w).alloc _).on hb
    go_wp2
    go_ret
    exact ⟨ret_bool (by rw [hd.out]; simp), hb⟩
  · have hd := Lib.hid (decide_eq_false h)
    go_enter Tryz.func89, Tryz.ntmps89
    go_wp2
    go_ret
    exact ⟨ret_bool (by rw [hd.out]; simp), (Chg.refl M w).alloc _⟩

theorem all1_ele (x0 x1 x2 x3 : Int) (N : Nat) (w : World) (q : Bool) (Q : World → Prop) (hN : Has w N #[(.func (.func 92) #[] #[])])
    (hG : ∀ w1, Below w.heap.size w w1 → Calls Tryz.prog 92 #[(.agg #[.int .i64 x0, .int .i64 x1, .int .i64 x2, .int .i64 x3])] w1 fun e w' => e = .returned (.bool q) ∧ Q w') :
    Calls Tryz.prog 122 #[(.agg #[.int .i64 x0, .int .i64 x1, .int .i64 x2, .int .i64 x3]), .pointer (some ⟨N, 0, none⟩)] w fun e w' => e = .returned (.bool (!q)) ∧ Q w' := by
  have hc := hN.cell 0 rfl
  have hlt := hN.size
  have hne : N ≠ w.heap.size := by omega
  clear hN
  go_enter Tryz.func122, Tryz.ntmps122
  go_wp2_with fail
  refine (hG _ (by (repeat' (first | with_reducible exact Below.refl _ _ | with_reducible assumption | with_reducible refine bel_alloc ?_ _ | with_reducible refine bel_set ?_ ?_ _ | with_reducible refine below_drewN ?_ _ | with_reducible refine below_drew ?_ | (simp; done) | (simp; omega) | omega)))).mono ?_
  rintro e w2 ⟨rfl, hb⟩
  clear hG hc
  go_wp2
  go_ret
  exact ⟨rfl, hb⟩
theorem index_ele (A : Option Addr) (c n N : Nat) (rows : Rows2) (w : World) (J : Nat → World → Prop) (M : Nat → Prop) (p : Nat → Bool) (hn : n ≤ 9223372036854775807)
    (hT : ∀ i w', J i w' → Tab 4 w' A n c rows) (hN : ∀ i w', J i w' → Has w' N #[(.func (.func 92) #[] #[])]) (h0 : J 0 w) (hJ : ∀ i w' w'', J i w' → Below w'.heap.size w' w'' → J i w'')
    (hG : ∀ i w', i < n → J i w' → Calls Tryz.prog 92 #[(.agg #[.int .i64 ((rows.getD i []).getD 0 0), .int .i64 ((rows.getD i []).getD 1 0), .int .i64 ((rows.getD i []).getD 2 0), .int .i64 ((rows.getD i []).getD 3 0)])] w' fun e w'' => e = .returned (.bool (p i)) ∧ Chg M w' w'' ∧ (p i = true → J (i + 1) w'')) :
    Calls Tryz.prog 146 #[.slice A n c, .func (.func 122) #[] #[.pointer (some ⟨N, 0, none⟩)]] w fun e w' => ∃ z : Int, e = .returned (.int .i64 z) ∧ decide (0 ≤ z) = (!allP p n) ∧ Chg M w w' := by
  have HT := Lib.hid hT
  have HG := Lib.hid hG
  have HN := Lib.hid hN
  have HJ := Lib.hid hJ
  have H0 := Lib.hid h0
  have eg : ∀ args w, (callFunc 122 args).run Tryz.prog w = .ok (.enter 122 args) w := enters_of Tryz.func122 (by kernel_rfl) rfl
  clear hT hG hN hJ h0
  go_enter Tryz.func146, Tryz.ntmps146
  go_wp2
  go_loopw [8] (fun i wr => ∃ (k : Nat), k ≤ n ∧ i = .int .i64 k ∧ Hid (allP p k = true) ∧ Hid (J k wr) ∧ Chg M w wr) (fun i _ => n - (intOf i).toNat)
  case atStart => exact ⟨0, Nat.zero_le _, rfl, rfl, H0, Chg.refl _ _⟩
  case round =>
    obtain ⟨k, hk, rfl, ha, hj, hbw⟩ := hrel
    by_cases hlt : k < n
    · have ht := HT.out k _ hj.out
      obtain ⟨b, off, rfl⟩ := ht.form (by decide) (by omega)
      have c0 := ht.cell hlt (show 0 < 4 by decide)
      have c1 := ht.cell hlt (show 1 < 4 by decide)
      have c2 := ht.cell hlt (show 2 < 4 by decide)
      have c3 := ht.cell hlt (show 3 < 4 by decide)
      have hlc : b < _ := cell_lt c0
      simp only [Nat.add_zero] at c0 hlc
      have HC := Lib.hid (HG.out k · hlt)
      have HJ1 := Lib.hid (hj.out)
      have HH := Lib.hid (HN.out k _ hj.out)
      clear ht
      generalize rows.getD k [] = r at *
      generalize r.getD 0 0 = x0 at *
      generalize r.getD 1 0 = x1 at *
      generalize r.getD 2 0 = x2 at *
      generalize r.getD 3 0 = x3 at *
      go_wp2_with fail
      refine (all1_ele x0 x1 x2 x3 N _ (p k) (fun w'' => Chg M _ w'' ∧ (p k = true → J (k + 1) w'')) HH.out (fun w1 hb1 => (HC.out w1 (HJ.out k _ _ HJ1.out hb1)).mono fun e w2 ⟨h1, h2, h3⟩ => ⟨h1, (Chg.of_below hb1).on h2, h3⟩)).mono ?_
      rintro e w2 ⟨rfl, hb2, hj2⟩
      replace hb2 := hbw.on hb2
      have HJ2 := Lib.hid hj2
      clear hj2
      cases hm : p k with
      | false =>
        have hs' := Lib.hid (allP_bad hlt hm)
        clear hm
        go_wp2
        go_ret
        exact ⟨k, rfl, by rw [hs'.out]; simp, hb2⟩
      | true =>
        have hs' : Hid (allP p (k + 1) = true) := by
          show _ = _
          rw [allP_succ, ha.out, hm]; rfl
        have hj3 := Lib.hid (HJ2.out hm)
        clear hm
        go_wp2
        go_roundw
        case rel => exact ⟨k + 1, by omega, by go_num, hs', hj3, hb2⟩
        case measure => simp [intOf]; omega
    · obtain rfl : k = n := by omega
      have HS := Lib.hid ha.out
      go_wp2
      go_ret
      exact ⟨-1, rfl, by rw [HS.out]; simp, hbw⟩
theorem all_ele (A : Option Addr) (c n : Nat) (most : Int) (rows : Rows2) (w : World) (J : Nat → World → Prop) (M : Nat → Prop) (p : Nat → Bool) (hn : n ≤ 9223372036854775807) (hmost : In64 most)
    (hM : ¬ M w.heap.size) (hT : ∀ i w', J i w' → Tab 4 w' A n c rows) (h0 : J 0 w) (hJ : ∀ i w' w'', J i w' → Below w'.heap.size w' w'' → J i w'')
    (hG : ∀ i w', i < n → J i w' → Calls Tryz.prog 92 #[(.agg #[.int .i64 ((rows.getD i []).getD 0 0), .int .i64 ((rows.getD i []).getD 1 0), .int .i64 ((rows.getD i []).getD 2 0), .int .i64 ((rows.getD i []).getD 3 0)])] w' fun e w'' => e = .returned (.bool (p i)) ∧ Chg M w' w'' ∧ (p i = true → J (i + 1) w'')) :
    Calls Tryz.prog 91 #[.slice A n c, .int .i64 most, (.func (.func 92) #[] #[])] w fun e w' => e = .returned (.bool (decide ((n : Int) ≤ most) && allP p n)) ∧ Chg M w w' := by
  obtain ⟨hm1, hm2⟩ := hmost
  have hI := fun (w0 : World) (hw0 : Below w.heap.size w w0) (h1 : Has w0 w.heap.size #[(.func (.func 92) #[] #[])]) => index_ele A c n w.heap.size rows w0 (fun i w' => J i w' ∧ Has w' w.heap.size #[(.func (.func 92) #[] #[])]) M p hn (fun i w' h => hT i w' h.1) (fun i w' h => h.2) ⟨hJ _ _ _ h0 hw0, h1⟩
    (fun i w' w'' h hb => ⟨hJ _ _ _ h.1 hb, h.2.below hb⟩) (fun i w' hi h => (hG i w' hi h.1).mono fun e w'' ⟨h1, h2, h3⟩ => ⟨h1, h2, fun hp => ⟨h3 hp, h.2.chg hM h2⟩⟩)
  have HI := Lib.hid hI
  clear hI hT h0 hJ hG
  have hC : ∀ (w0 : World) (hw0 : Below w.heap.size w w0) (h1 : Has w0 w.heap.size #[(.func (.func 92) #[] #[])]), Calls Tryz.prog 121 #[.slice A n c, .func (.func 122) #[] #[.pointer (some ⟨w.heap.size, 0, none⟩)]] w0 fun e w' => e = .returned (.bool (!allP p n)) ∧ Chg M w0 w' := by
    intro w0 hw0 h1
    have HI2 := Lib.hid (HI.out w0 hw0 h1)
    clear HI h1 hw0
    generalize allP p n = r at *
    generalize w.heap.size = N at *
    go_enter Tryz.func121, Tryz.ntmps121
    go_wp2_with fail
    refine HI2.out.mono ?_
    rintro e w2 ⟨z, rfl, hz, hb⟩
    have HZ := Lib.hid hz
    clear hz
    go_wp2
    go_ret
    exact ⟨ret_bool HZ.out, hb⟩
  have HC := Lib.hid hC
  clear hC HI
  generalize allP p n = r at *
  by_cases h : (n : Int) ≤ most
  · have hd := Lib.hid (decide_eq_true h)
    go_enter Tryz.func91, Tryz.ntmps91
    go_wp2_with fail
    refine (HC.out _ (by (repeat' (first | with_reducible exact Below.refl _ _ | with_reducible assumption | with_reducible refine bel_alloc ?_ _ | with_reducible refine bel_set ?_ ?_ _ | with_reducible refine below_drewN ?_ _ | with_reducible refine below_drew ?_ | (simp; done) | (simp; omega) | omega))) (Has.new _ _ _ rfl)).mono ?_
    rintro e w2 ⟨rfl, hb⟩
    replace hb := ((Chg.refl M w).alloc _).on hb
    go_wp2
    go_ret
    exact ⟨ret_bool (by rw [hd.out]; simp), hb⟩
  · have hd := Lib.hid (decide_eq_false h)
    go_enter Tryz.func91, Tryz.ntmps91
    go_wp2
    go_ret
    exact ⟨ret_bool (by rw [hd.out]; simp), (Chg.refl M w).alloc _⟩

theorem all1_rat (x0 x1 : Int) (N : Nat) (w : World) (q : Bool) (Q : World → Prop) (hN : Has w N #[(.func (.func 93) #[] #[])])
    (hG : ∀ w1, Below w.heap.size w w1 → Calls Tryz.prog 93 #[(.agg #[.int .i64 x0, .int .i64 x1])] w1 fun e w' => e = .returned (.bool q) ∧ Q w') :
    Calls Tryz.prog 124 #[(.agg #[.int .i64 x0, .int .i64 x1]), .pointer (some ⟨N, 0, none⟩)] w fun e w' => e = .returned (.bool (!q)) ∧ Q w' := by
  have hc := hN.cell 0 rfl
  have hlt := hN.size
  have hne : N ≠ w.heap.size := by omega
  clear hN
  go_enter Tryz.func124, Tryz.ntmps124
  go_wp2_with fail
  refine (hG _ (by (repeat' (first | with_reducible exact Below.refl _ _ | with_reducible assumption | with_reducible refine bel_alloc ?_ _ | with_reducible refine bel_set ?_ ?_ _ | with_reducible refine below_drewN ?_ _ | with_reducible refine below_drew ?_ | (simp; done) | (simp; omega) | omega)))).mono ?_
  rintro e w2 ⟨rfl, hb⟩
  clear hG hc
  go_wp2
  go_ret
  exact ⟨rfl, hb⟩
theorem index_rat (A : Option Addr) (c n N : Nat) (rows : Rows2) (w : World) (J : Nat → World → Prop) (M : Nat → Prop) (p : Nat → Bool) (hn : n ≤ 9223372036854775807)
    (hT : ∀ i w', J i w' → Tab 2 w' A n c rows) (hN : ∀ i w', J i w' → Has w' N #[(.func (.func 93) #[] #[])]) (h0 : J 0 w) (hJ : ∀ i w' w'', J i w' → Below w'.heap.size w' w'' → J i w'')
    (hG : ∀ i w', i < n → J i w' → Calls Tryz.prog 93 #[(.agg #[.int .i64 ((rows.getD i []).getD 0 0), .int .i64 ((rows.getD i []).getD 1 0)])] w' fun e w'' => e = .returned (.bool (p i)) ∧ Chg M w' w'' ∧ (p i = true → J (i + 1) w'')) :
    Calls Tryz.prog 147 #[.slice A n c, .func (.func 124) #[] #[.pointer (some ⟨N, 0, none⟩)]] w fun e w' => ∃ z : Int, e = .returned (.int .i64 z) ∧ decide (0 ≤ z) = (!allP p n) ∧ Chg M w w' := by
  have HT := Lib.hid hT
  have HG := Lib.hid hG
  have HN := Lib.hid hN
  have HJ := Lib.hid hJ
  have H0 := Lib.hid h0
  have eg : ∀ args w, (callFunc 124 args).run Tryz.prog w = .ok (.enter 124 args) w := enters_of Tryz.func124 (by kernel_rfl) rfl
  clear hT hG hN hJ h0
  go_enter Tryz.func147, Tryz.ntmps147
  go_wp2
  go_loopw [8] (fun i wr => ∃ (k : Nat), k ≤ n ∧ i = .int .i64 k ∧ Hid (allP p k = true) ∧ Hid (J k wr) ∧ Chg M w wr) (fun i _ => n - (intOf i).toNat)
  case atStart => exact ⟨0, Nat.zero_le _, rfl, rfl, H0, Chg.refl _ _⟩
  case round =>
    obtain ⟨k, hk, rfl, ha, hj, hbw⟩ := hrel
    by_cases hlt : k < n
    · have ht := HT.out k _ hj.out
      obtain ⟨b, off, rfl⟩ := ht.form (by decide) (by omega)
      have c0 := ht.cell hlt (show 0 < 2 by decide)
      have c1 := ht.cell hlt (show 1 < 2 by decide)
      have hlc : b < _ := cell_lt c0
      simp only [Nat.add_zero] at c0 hlc
      have HC := Lib.hid (HG.out k · hlt)
      have HJ1 := Lib.hid (hj.out)
      have HH := Lib.hid (HN.out k _ hj.out)
      clear ht
      generalize rows.getD k [] = r at *
      generalize r.getD 0 0 = x0 at *
      generalize r.getD 1 0 = x1 at *
      go_wp2_with fail
      refine (all1_rat x0 x1 N _ (p k) (fun w'' => Chg M _ w'' ∧ (p k = true → J (k + 1) w'')) HH.out (fun w1 hb1 => (HC.out w1 (HJ.out k _ _ HJ1.out hb1)).mono fun e w2 ⟨h1, h2, h3⟩ => ⟨h1, (Chg.of_below hb1).on h2, h3⟩)).mono ?_
      rintro e w2 ⟨rfl, hb2, hj2⟩
      replace hb2 := hbw.on hb2
      have HJ2 := Lib.hid hj2
      clear hj2
      cases hm : p k with
      | false =>
        have hs' := Lib.hid (allP_bad hlt hm)
        clear hm
        go_wp2
        go_ret
        exact ⟨k, rfl, by rw [hs'.out]; simp, hb2⟩
      | true =>
        have hs' : Hid (allP p (k + 1) = true) := by
          show _ = _
          rw [allP_succ, ha.out, hm]; rfl
        have hj3 := Lib.hid (HJ2.out hm)
        clear hm
        go_wp2
        go_roundw
        case rel => exact ⟨k + 1, by omega, by go_num, hs', hj3, hb2⟩
        case measure => simp [intOf]; omega
    · obtain rfl : k = n := by omega
      have HS := Lib.hid ha.out
      go_wp2
      go_ret
      exact ⟨-1, rfl, by rw [HS.out]; simp, hbw⟩
theorem all_rat (A : Option Addr) (c n : Nat) (most : Int) (rows : Rows2) (w : World) (J : Nat → World → Prop) (M : Nat → Prop) (p : Nat → Bool) (hn : n ≤ 9223372036854775807) (hmost : In64 most)
    (hM : ¬ M w.heap.size) (hT : ∀ i w', J i w' → Tab 2 w' A n c rows) (h0 : J 0 w) (hJ : ∀ i w' w'', J i w' → Below w'.heap.size w' w'' → J i w'')
    (hG : ∀ i w', i < n → J i w' → Calls Tryz.prog 93 #[(.agg #[.int .i64 ((rows.getD i []).getD 0 0), .int .i64 ((rows.getD i []).getD 1 0)])] w' fun e w'' => e = .returned (.bool (p i)) ∧ Chg M w' w'' ∧ (p i = true → J (i + 1) w'')) :
    Calls Tryz.prog 94 #[.slice A n c, .int .i64 most, (.func (.func 93) #[] #[])] w fun e w' => e = .returned (.bool (decide ((n : Int) ≤ most) && allP p n)) ∧ Chg M w w' := by
  obtain ⟨hm1, hm2⟩ := hmost
  have hI := fun (w0 : World) (hw0 : Below w.heap.size w w0) (h1 : Has w0 w.heap.size #[(.func (.func 93) #[] #[])]) => index_rat A c n w.heap.size rows w0 (fun i w' => J i w' ∧ Has w' w.heap.size #[(.func (.func 93) #[] #[])]) M p hn (fun i w' h => hT i w' h.1) (fun i w' h => h.2) ⟨hJ _ _ _ h0 hw0, h1⟩
    (fun i w' w'' h hb => ⟨hJ _ _ _ h.1 hb, h.2.below hb⟩) (fun i w' hi h => (hG i w' hi h.1).mono fun e w'' ⟨h1, h2, h3⟩ => ⟨h1, h2, fun hp => ⟨h3 hp, h.2.chg hM h2⟩⟩)
  have HI := Lib.hid hI
  clear hI hT h0 hJ hG
  have hC : ∀ (w0 : World) (hw0 : Below w.heap.size w w0) (h1 : Has w0 w.heap.size #[(.func (.func 93) #[] #[])]), Calls Tryz.prog 123 #[.slice A n c, .func (.func 124) #[] #[.pointer (some ⟨w.heap.size, 0, none⟩)]] w0 fun e w' => e = .returned (.bool (!allP p n)) ∧ Chg M w0 w' := by
    intro w0 hw0 h1
    have HI2 := Lib.hid (HI.out w0 hw0 h1)
    clear HI h1 hw0
    generalize allP p n = r at *
    generalize w.heap.size = N at *
    go_enter Tryz.func123, Tryz.ntmps123
    go_wp2_with fail
    refine HI2.out.mono ?_
    rintro e w2 ⟨z, rfl, hz, hb⟩
    have HZ := Lib.hid hz
    clear hz
    go_wp2
    go_ret
    exact ⟨ret_bool HZ.out, hb⟩
  have HC := Lib.hid hC
  clear hC HI
  generalize allP p n = r at *
  by_cases h : (n : Int) ≤ most
  · have hd := Lib.hid (decide_eq_true h)
    go_enter Tryz.func94, Tryz.ntmps94
    go_wp2_with fail
    refine (HC.out _ (by (repeat' (first | with_reducible exact Below.refl _ _ | with_reducible assumption | with_reducible refine bel_alloc ?_ _ | with_reducible refine bel_set ?_ ?_ _ | with_reducible refine below_drewN ?_ _ | with_reducible refine below_drew ?_ | (simp; done) | (simp; omega) | omega))) (Has.new _ _ _ rfl)).mono ?_
    rintro e w2 ⟨rfl, hb⟩
    replace hb := ((Chg.refl M w).alloc _).on hb
    go_wp2
    go_ret
    exact ⟨ret_bool (by rw [hd.out]; simp), hb⟩
  · have hd := Lib.hid (decide_eq_false h)
    go_enter Tryz.func94, Tryz.ntmps94
    go_wp2
    go_ret
    exact ⟨ret_bool (by rw [hd.out]; simp), (Chg.refl M w).alloc _⟩

theorem all1_day (x0 : Int) (N : Nat) (w : World) (q : Bool) (Q : World → Prop) (hN : Has w N #[(.func (.func 96) #[] #[])])
    (hG : ∀ w1, Below w.heap.size w w1 → Calls Tryz.prog 96 #[(.int .i64 x0)] w1 fun e w' => e = .returned (.bool q) ∧ Q w') :
    Calls Tryz.prog 126 #[(.int .i64 x0), .pointer (some ⟨N, 0, none⟩)] w fun e w' => e = .returned (.bool (!q)) ∧ Q w' := by
  have hc := hN.cell 0 rfl
  have hlt := hN.size
  have hne : N ≠ w.heap.size := by omega
  clear hN
  go_enter Tryz.func126, Tryz.ntmps126
  go_wp2_with fail
  refine (hG _ (by (repeat' (first | with_reducible exact Below.refl _ _ | with_reducible assumption | with_reducible refine bel_alloc ?_ _ | with_reducible refine bel_set ?_ ?_ _ | with_reducible refine below_drewN ?_ _ | with_reducible refine below_drew ?_ | (simp; done) | (simp; omega) | omega)))).mono ?_
  rintro e w2 ⟨rfl, hb⟩
  clear hG hc
  go_wp2
  go_ret
  exact ⟨rfl, hb⟩
theorem index_day (A : Option Addr) (c n N : Nat) (rows : Rows2) (w : World) (J : Nat → World → Prop) (M : Nat → Prop) (p : Nat → Bool) (hn : n ≤ 9223372036854775807)
    (hT : ∀ i w', J i w' → Tab 1 w' A n c rows) (hN : ∀ i w', J i w' → Has w' N #[(.func (.func 96) #[] #[])]) (h0 : J 0 w) (hJ : ∀ i w' w'', J i w' → Below w'.heap.size w' w'' → J i w'')
    (hG : ∀ i w', i < n → J i w' → Calls Tryz.prog 96 #[(.int .i64 ((rows.getD i []).getD 0 0))] w' fun e w'' => e = .returned (.bool (p i)) ∧ Chg M w' w'' ∧ (p i = true → J (i + 1) w'')) :
    Calls Tryz.prog 148 #[.slice A n c, .func (.func 126) #[] #[.pointer (some ⟨N, 0, none⟩)]] w fun e w' => ∃ z : Int, e = .returned (.int .i64 z) ∧ decide (0 ≤ z) = (!allP p n) ∧ Chg M w w' := by
  have HT := Lib.hid hT
  have HG := Lib.hid hG
  have HN := Lib.hid hN
  have HJ := Lib.hid hJ
  have H0 := Lib.hid h0
  have eg : ∀ args w, (callFunc 126 args).run Tryz.prog w = .ok (.enter 126 args) w := enters_of Tryz.func126 (by kernel_rfl) rfl
  clear hT hG hN hJ h0
  go_enter Tryz.func148, Tryz.ntmps148
  go_wp2
  go_loopw [8] (fun i wr => ∃ (k : Nat), k ≤ n ∧ i = .int .i64 k ∧ Hid (allP p k = true) ∧ Hid (J k wr) ∧ Chg M w wr) (fun i _ => n - (intOf i).toNat)
  case atStart => exact ⟨0, Nat.zero_le _, rfl, rfl, H0, Chg.refl _ _⟩
  case round =>
    obtain ⟨k, hk, rfl, ha, hj, hbw⟩ := hrel
    by_cases hlt : k < n
    · have ht := HT.out k _ hj.out
      obtain ⟨b, off, rfl⟩ := ht.form (by decide) (by omega)
      have c0 := ht.cell hlt (show 0 < 1 by decide)
      have hlc : b < _ := cell_lt c0
      simp only [Nat.add_zero, Nat.mul_one] at c0 hlc
      have HC := Lib.hid (HG.out k · hlt)
      have HJ1 := Lib.hid (hj.out)
      have HH := Lib.hid (HN.out k _ hj.out)
      clear ht
      generalize rows.getD k [] = r at *
      generalize r.getD 0 0 = x0 at *
      go_wp2_with fail
      refine (all1_day x0 N _ (p k) (fun w'' => Chg M _ w'' ∧ (p k = true → J (k + 1) w'')) HH.out (fun w1 hb1 => (HC.out w1 (HJ.out k _ _ HJ1.out hb1)).mono fun e w2 ⟨h1, h2, h3⟩ => ⟨h1, (Chg.of_below hb1).on h2, h3⟩)).mono ?_
      rintro e w2 ⟨rfl, hb2, hj2⟩
      replace hb2 := hbw.on hb2
      have HJ2 := Lib.hid hj2
      clear hj2
      cases hm : p k with
      | false =>
        have hs' := Lib.hid (allP_bad hlt hm)
        clear hm
        go_wp2
        go_ret
        exact ⟨k, rfl, by rw [hs'.out]; simp, hb2⟩
      | true =>
        have hs' : Hid (allP p (k + 1) = true) := by
          show _ = _
          rw [allP_succ, ha.out, hm]; rfl
        have hj3 := Lib.hid (HJ2.out hm)
        clear hm
        go_wp2
        go_roundw
        case rel => exact ⟨k + 1, by omega, by go_num, hs', hj3, hb2⟩
        case measure => simp [intOf]; omega
    · obtain rfl : k = n := by omega
      have HS := Lib.hid ha.out
      go_wp2
      go_ret
      exact ⟨-1, rfl, by rw [HS.out]; simp, hbw⟩
theorem all_day (A : Option Addr) (c n : Nat) (most : Int) (rows : Rows2) (w : World) (J : Nat → World → Prop) (M : Nat → Prop) (p : Nat → Bool) (hn : n ≤ 9223372036854775807) (hmost : In64 most)
    (hM : ¬ M w.heap.size) (hT : ∀ i w', J i w' → Tab 1 w' A n c rows) (h0 : J 0 w) (hJ : ∀ i w' w'', J i w' → Below w'.heap.size w' w'' → J i w'')
    (hG : ∀ i w', i < n → J i w' → Calls Tryz.prog 96 #[(.int .i64 ((rows.getD i []).getD 0 0))] w' fun e w'' => e = .returned (.bool (p i)) ∧ Chg M w' w'' ∧ (p i = true → J (i + 1) w'')) :
    Calls Tryz.prog 95 #[.slice A n c, .int .i64 most, (.func (.func 96) #[] #[])] w fun e w' => e = .returned (.bool (decide ((n : Int) ≤ most) && allP p n)) ∧ Chg M w w' := by
  obtain ⟨hm1, hm2⟩ := hmost
  have hI := fun (w0 : World) (hw0 : Below w.heap.size w w0) (h1 : Has w0 w.heap.size #[(.func (.func 96) #[] #[])]) => index_day A c n w.heap.size rows w0 (fun i w' => J i w' ∧ Has w' w.heap.size #[(.func (.func 96) #[] #[])]) M p hn (fun i w' h => hT i w' h.1) (fun i w' h => h.2) ⟨hJ _ _ _ h0 hw0, h1⟩
    (fun i w' w'' h hb => ⟨hJ _ _ _ h.1 hb, h.2.below hb⟩) (fun i w' hi h => (hG i w' hi h.1).mono fun e w'' ⟨h1, h2, h3⟩ => ⟨h1, h2, fun hp => ⟨h3 hp, h.2.chg hM h2⟩⟩)
  have HI := Lib.hid hI
  clear hI hT h0 hJ hG
  have hC : ∀ (w0 : World) (hw0 : Below w.heap.size w w0) (h1 : Has w0 w.heap.size #[(.func (.func 96) #[] #[])]), Calls Tryz.prog 125 #[.slice A n c, .func (.func 126) #[] #[.pointer (some ⟨w.heap.size, 0, none⟩)]] w0 fun e w' => e = .returned (.bool (!allP p n)) ∧ Chg M w0 w' := by
    intro w0 hw0 h1
    have HI2 := Lib.hid (HI.out w0 hw0 h1)
    clear HI h1 hw0
    generalize allP p n = r at *
    generalize w.heap.size = N at *
    go_enter Tryz.func125, Tryz.ntmps125
    go_wp2_with fail
    refine HI2.out.mono ?_
    rintro e w2 ⟨z, rfl, hz, hb⟩
    have HZ := Lib.hid hz
    clear hz
    go_wp2
    go_ret
    exact ⟨ret_bool HZ.out, hb⟩
  have HC := Lib.hid hC
  clear hC HI
  generalize allP p n = r at *
  by_cases h : (n : Int) ≤ most
  · have hd := Lib.hid (decide_eq_true h)
    go_enter Tryz.func95, Tryz.ntmps95
    go_wp2_with fail
    refine (HC.out _ (by (repeat' (first | with_reducible exact Below.refl _ _ | with_reducible assumption | with_reducible refine bel_alloc ?_ _ | with_reducible refine bel_set ?_ ?_ _ | with_reducible refine below_drewN ?_ _ | with_reducible refine below_drew ?_ | (simp; done) | (simp; omega) | omega))) (Has.new _ _ _ rfl)).mono ?_
    rintro e w2 ⟨rfl, hb⟩
    replace hb := ((Chg.refl M w).alloc _).on hb
    go_wp2
    go_ret
    exact ⟨ret_bool (by rw [hd.out]; simp), hb⟩
  · have hd := Lib.hid (decide_eq_false h)
    go_enter Tryz.func95, Tryz.ntmps95
    go_wp2
    go_ret
    exact ⟨ret_bool (by rw [hd.out]; simp), (Chg.refl M w).alloc _⟩

theorem all1_rate (x0 : Int) (N : Nat) (w : World) (q : Bool) (Q : World → Prop) (hN : Has w N #[(.func (.func 97) #[] #[])])
    (hG : ∀ w1, Below w.heap.size w w1 → Calls Tryz.prog 97 #[(.int .i64 x0)] w1 fun e w' => e = .returned (.bool q) ∧ Q w') :
    Calls Tryz.prog 126 #[(.int .i64 x0), .pointer (some ⟨N, 0, none⟩)] w fun e w' => e = .returned (.bool (!q)) ∧ Q w' := by
  have hc := hN.cell 0 rfl
  have hlt := hN.size
  have hne : N ≠ w.heap.size := by omega
  clear hN
  go_enter Tryz.func126, Tryz.ntmps126
  go_wp2_with fail
  refine (hG _ (by (repeat' (first | with_reducible exact Below.refl _ _ | with_reducible assumption | with_reducible refine bel_alloc ?_ _ | with_reducible refine bel_set ?_ ?_ _ | with_reducible refine below_drewN ?_ _ | with_reducible refine below_drew ?_ | (simp; done) | (simp; omega) | omega)))).mono ?_
  rintro e w2 ⟨rfl, hb⟩
  clear hG hc
  go_wp2
  go_ret
  exact ⟨rfl, hb⟩
theorem index_rate (A : Option Addr) (c n N : Nat) (rows : Rows2) (w : World) (J : Nat → World → Prop) (M : Nat → Prop) (p : Nat → Bool) (hn : n ≤ 9223372036854775807)
    (hT : ∀ i w', J i w' → Tab 1 w' A n c rows) (hN : ∀ i w', J i w' → Has w' N #[(.func (.func 97) #[] #[])]) (h0 : J 0 w) (hJ : ∀ i w' w'', J i w' → Below w'.heap.size w' w'' → J i w'')
    (hG : ∀ i w', i < n → J i w' → Calls Tryz.prog 97 #[(.int .i64 ((rows.getD i []).getD 0 0))] w' fun e w'' => e = .returned (.bool (p i)) ∧ Chg M w' w'' ∧ (p i = true → J (i + 1) w'')) :
    Calls Tryz.prog 148 #[.slice A n c, .func (.func 126) #[] #[.pointer (some ⟨N, 0, none⟩)]] w fun e w' => ∃ z : Int, e = .returned (.int .i64 z) ∧ decide (0 ≤ z) = (!allP p n) ∧ Chg M w w' := by
  have HT := Lib.hid hT
  have HG := Lib.hid hG
  have HN := Lib.hid hN
  have HJ := Lib.hid hJ
  have H0 := Lib.hid h0
  have eg : ∀ args w, (callFunc 126 args).run Tryz.prog w = .ok (.enter 126 args) w := enters_of Tryz.func126 (by kernel_rfl) rfl
  clear hT hG hN hJ h0
  go_enter Tryz.func148, Tryz.ntmps148
  go_wp2
  go_loopw [8] (fun i wr => ∃ (k : Nat), k ≤ n ∧ i = .int .i64 k ∧ Hid (allP p k = true) ∧ Hid (J k wr) ∧ Chg M w wr) (fun i _ => n - (intOf i).toNat)
  case atStart => exact ⟨0, Nat.zero_le _, rfl, rfl, H0, Chg.refl _ _⟩
  case round =>
    obtain ⟨k, hk, rfl, ha, hj, hbw⟩ := hrel
    by_cases hlt : k < n
    · have ht := HT.out k _ hj.out
      obtain ⟨b, off, rfl⟩ := ht.form (by decide) (by omega)
      have c0 := ht.cell hlt (show 0 < 1 by decide)
      have hlc : b < _ := cell_lt c0
      simp only [Nat.add_zero, Nat.mul_one] at c0 hlc
      have HC := Lib.hid (HG.out k · hlt)
      have HJ1 := Lib.hid (hj.out)
      have HH := Lib.hid (HN.out k _ hj.out)
      clear ht
      generalize rows.getD k [] = r at *
      generalize r.getD 0 0 = x0 at *
      go_wp2_with fail
      refine (all1_rate x0 N _ (p k) (fun w'' => Chg M _ w'' ∧ (p k = true → J (k + 1) w'')) HH.out (fun w1 hb1 => (HC.out w1 (HJ.out k _ _ HJ1.out hb1)).mono fun e w2 ⟨h1, h2, h3⟩ => ⟨h1, (Chg.of_below hb1).on h2, h3⟩)).mono ?_
      rintro e w2 ⟨rfl, hb2, hj2⟩
      replace hb2 := hbw.on hb2
      have HJ2 := Lib.hid hj2
      clear hj2
      cases hm : p k with
      | false =>
        have hs' := Lib.hid (allP_bad hlt hm)
        clear hm
        go_wp2
        go_ret
        exact ⟨k, rfl, by rw [hs'.out]; simp, hb2⟩
      | true =>
        have hs' : Hid (allP p (k + 1) = true) := by
          show _ = _
          rw [allP_succ, ha.out, hm]; rfl
        have hj3 := Lib.hid (HJ2.out hm)
        clear hm
        go_wp2
        go_roundw
        case rel => exact ⟨k + 1, by omega, by go_num, hs', hj3, hb2⟩
        case measure => simp [intOf]; omega
    · obtain rfl : k = n := by omega
      have HS := Lib.hid ha.out
      go_wp2
      go_ret
      exact ⟨-1, rfl, by rw [HS.out]; simp, hbw⟩
theorem all_rate (A : Option Addr) (c n : Nat) (most : Int) (rows : Rows2) (w : World) (J : Nat → World → Prop) (M : Nat → Prop) (p : Nat → Bool) (hn : n ≤ 9223372036854775807) (hmost : In64 most)
    (hM : ¬ M w.heap.size) (hT : ∀ i w', J i w' → Tab 1 w' A n c rows) (h0 : J 0 w) (hJ : ∀ i w' w'', J i w' → Below w'.heap.size w' w'' → J i w'')
    (hG : ∀ i w', i < n → J i w' → Calls Tryz.prog 97 #[(.int .i64 ((rows.getD i []).getD 0 0))] w' fun e w'' => e = .returned (.bool (p i)) ∧ Chg M w' w'' ∧ (p i = true → J (i + 1) w'')) :
    Calls Tryz.prog 95 #[.slice A n c, .int .i64 most, (.func (.func 97) #[] #[])] w fun e w' => e = .returned (.bool (decide ((n : Int) ≤ most) && allP p n)) ∧ Chg M w w' := by
  obtain ⟨hm1, hm2⟩ := hmost
  have hI := fun (w0 : World) (hw0 : Below w.heap.size w w0) (h1 : Has w0 w.heap.size #[(.func (.func 97) #[] #[])]) => index_rate A c n w.heap.size rows w0 (fun i w' => J i w' ∧ Has w' w.heap.size #[(.func (.func 97) #[] #[])]) M p hn (fun i w' h => hT i w' h.1) (fun i w' h => h.2) ⟨hJ _ _ _ h0 hw0, h1⟩
    (fun i w' w'' h hb => ⟨hJ _ _ _ h.1 hb, h.2.below hb⟩) (fun i w' hi h => (hG i w' hi h.1).mono fun e w'' ⟨h1, h2, h3⟩ => ⟨h1, h2, fun hp => ⟨h3 hp, h.2.chg hM h2⟩⟩)
  have HI := Lib.hid hI
  clear hI hT h0 hJ hG
  have hC : ∀ (w0 : World) (hw0 : Below w.heap.size w w0) (h1 : Has w0 w.heap.size #[(.func (.func 97) #[] #[])]), Calls Tryz.prog 125 #[.slice A n c, .func (.func 126) #[] #[.pointer (some ⟨w.heap.size, 0, none⟩)]] w0 fun e w' => e = .returned (.bool (!allP p n)) ∧ Chg M w0 w' := by
    intro w0 hw0 h1
    have HI2 := Lib.hid (HI.out w0 hw0 h1)
    clear HI h1 hw0
    generalize allP p n = r at *
    generalize w.heap.size = N at *
    go_enter Tryz.func125, Tryz.ntmps125
    go_wp2_with fail
    refine HI2.out.mono ?_
    rintro e w2 ⟨z, rfl, hz, hb⟩
    have HZ := Lib.hid hz
    clear hz
    go_wp2
    go_ret
    exact ⟨ret_bool HZ.out, hb⟩
  have HC := Lib.hid hC
  clear hC HI
  generalize allP p n = r at *
  by_cases h : (n : Int) ≤ most
  · have hd := Lib.hid (decide_eq_true h)
    go_enter Tryz.func95, Tryz.ntmps95
    go_wp2_with fail
    refine (HC.out _ (by (repeat' (first | with_reducible exact Below.refl _ _ | with_reducible assumption | with_reducible refine bel_alloc ?_ _ | with_reducible refine bel_set ?_ ?_ _ | with_reducible refine below_drewN ?_ _ | with_reducible refine below_drew ?_ | (simp; done) | (simp; omega) | omega))) (Has.new _ _ _ rfl)).mono ?_
    rintro e w2 ⟨rfl, hb⟩
    replace hb := ((Chg.refl M w).alloc _).on hb
    go_wp2
    go_ret
    exact ⟨ret_bool (by rw [hd.out]; simp), hb⟩
  · have hd := Lib.hid (decide_eq_false h)
    go_enter Tryz.func95, Tryz.ntmps95
    go_wp2
    go_ret
    exact ⟨ret_bool (by rw [hd.out]; simp), (Chg.refl M w).alloc _⟩

theorem all1_tier (x0 x1 : Int) (N : Nat) (P0 P1 : Nat) (w : World) (q : Bool) (Q : World → Prop) (hN : Has w N #[(.func (.func 99) #[] #[.pointer (some ⟨P0, 0, none⟩), .pointer (some ⟨P1, 0, none⟩)])])
    (hG : ∀ w1, Below w.heap.size w w1 → Calls Tryz.prog 99 #[(.agg #[.int .i64 x0, .int .i64 x1]), .pointer (some ⟨P0, 0, none⟩), .pointer (some ⟨P1, 0, none⟩)] w1 fun e w' => e = .returned (.bool q) ∧ Q w') :
    Calls Tryz.prog 128 #[(.agg #[.int .i64 x0, .int .i64 x1]), .pointer (some ⟨N, 0, none⟩)] w fun e w' => e = .returned (.bool (!q)) ∧ Q w' := by
  have hc := hN.cell 0 rfl
  have hlt := hN.size
  have hne : N ≠ w.heap.size := by omega
  clear hN
  go_enter Tryz.func128, Tryz.ntmps128
  go_wp2_with fail
  refine (hG _ (by (repeat' (first | with_reducible exact Below.refl _ _ | with_reducible assumption | with_reducible refine bel_alloc ?_ _ | with_reducible refine bel_set ?_ ?_ _ | with_reducible refine below_drewN ?_ _ | with_reducible refine below_drew ?_ | (simp; done) | (simp; omega) | omega)))).mono ?_
  rintro e w2 ⟨rfl, hb⟩
  clear hG hc
  go_wp2
  go_ret
  exact ⟨rfl, hb⟩
theorem index_tier (A : Option Addr) (c n N : Nat) (P0 P1 : Nat) (rows : Rows2) (w : World) (J : Nat → World → Prop) (M : Nat → Prop) (p : Nat → Bool) (hn : n ≤ 9223372036854775807)
    (hT : ∀ i w', J i w' → Tab 2 w' A n c rows) (hN : ∀ i w', J i w' → Has w' N #[(.func (.func 99) #[] #[.pointer (some ⟨P0, 0, none⟩), .pointer (some ⟨P1, 0, none⟩)])]) (h0 : J 0 w) (hJ : ∀ i w' w'', J i w' → Below w'.heap.size w' w'' → J i w'')
    (hG : ∀ i w', i < n → J i w' → Calls Tryz.prog 99 #[(.agg #[.int .i64 ((rows.getD i []).getD 0 0), .int .i64 ((rows.getD i []).getD 1 0)]), .pointer (some ⟨P0, 0, none⟩), .pointer (some ⟨P1, 0, none⟩)] w' fun e w'' => e = .returned (.bool (p i)) ∧ Chg M w' w'' ∧ (p i = true → J (i + 1) w'')) :
    Calls Tryz.prog 149 #[.slice A n c, .func (.func 128) #[] #[.pointer (some ⟨N, 0, none⟩)]] w fun e w' => ∃ z : Int, e = .returned (.int .i64 z) ∧ decide (0 ≤ z) = (!allP p n) ∧ Chg M w w' := by
  have HT := Lib.hid hT
  have HG := Lib.hid hG
  have HN := Lib.hid hN
  have HJ := Lib.hid hJ
  have H0 := Lib.hid h0
  have eg : ∀ args w, (callFunc 128 args).run Tryz.prog w = .ok (.enter 128 args) w := enters_of Tryz.func128 (by kernel_rfl) rfl
  clear hT hG hN hJ h0
  go_enter Tryz.func149, Tryz.ntmps149
  go_wp2
  go_loopw [8] (fun i wr => ∃ (k : Nat), k ≤ n ∧ i = .int .i64 k ∧ Hid (allP p k = true) ∧ Hid (J k wr) ∧ Chg M w wr) (fun i _ => n - (intOf i).toNat)
  case atStart => exact ⟨0, Nat.zero_le _, rfl, rfl, H0, Chg.refl _ _⟩
  case round =>
    obtain ⟨k, hk, rfl, ha, hj, hbw⟩ := hrel
    by_cases hlt : k < n
    · have ht := HT.out k _ hj.out
      obtain ⟨b, off, rfl⟩ := ht.form (by decide) (by omega)
      have c0 := ht.cell hlt (show 0 < 2 by decide)
      have c1 := ht.cell hlt (show 1 < 2 by decide)
      have hlc : b < _ := cell_lt c0
      simp only [Nat.add_zero] at c0 hlc
      have HC := Lib.hid (HG.out k · hlt)
      have HJ1 := Lib.hid (hj.out)
      have HH := Lib.hid (HN.out k _ hj.out)
      clear ht
      generalize rows.getD k [] = r at *
      generalize r.getD 0 0 = x0 at *
      generalize r.getD 1 0 = x1 at *
      go_wp2_with fail
      refine (all1_tier x0 x1 N P0 P1 _ (p k) (fun w'' => Chg M _ w'' ∧ (p k = true → J (k + 1) w'')) HH.out (fun w1 hb1 => (HC.out w1 (HJ.out k _ _ HJ1.out hb1)).mono fun e w2 ⟨h1, h2, h3⟩ => ⟨h1, (Chg.of_below hb1).on h2, h3⟩)).mono ?_
      rintro e w2 ⟨rfl, hb2, hj2⟩
      replace hb2 := hbw.on hb2
      have HJ2 := Lib.hid hj2
      clear hj2
      cases hm : p k with
      | false =>
        have hs' := Lib.hid (allP_bad hlt hm)
        clear hm
        go_wp2
        go_ret
        exact ⟨k, rfl, by rw [hs'.out]; simp, hb2⟩
      | true =>
        have hs' : Hid (allP p (k + 1) = true) := by
          show _ = _
          rw [allP_succ, ha.out, hm]; rfl
        have hj3 := Lib.hid (HJ2.out hm)
        clear hm
        go_wp2
        go_roundw
        case rel => exact ⟨k + 1, by omega, by go_num, hs', hj3, hb2⟩
        case measure => simp [intOf]; omega
    · obtain rfl : k = n := by omega
      have HS := Lib.hid ha.out
      go_wp2
      go_ret
      exact ⟨-1, rfl, by rw [HS.out]; simp, hbw⟩
theorem all_tier (A : Option Addr) (c n : Nat) (most : Int) (P0 P1 : Nat) (rows : Rows2) (w : World) (J : Nat → World → Prop) (M : Nat → Prop) (p : Nat → Bool) (hn : n ≤ 9223372036854775807) (hmost : In64 most)
    (hM : ¬ M w.heap.size) (hT : ∀ i w', J i w' → Tab 2 w' A n c rows) (h0 : J 0 w) (hJ : ∀ i w' w'', J i w' → Below w'.heap.size w' w'' → J i w'')
    (hG : ∀ i w', i < n → J i w' → Calls Tryz.prog 99 #[(.agg #[.int .i64 ((rows.getD i []).getD 0 0), .int .i64 ((rows.getD i []).getD 1 0)]), .pointer (some ⟨P0, 0, none⟩), .pointer (some ⟨P1, 0, none⟩)] w' fun e w'' => e = .returned (.bool (p i)) ∧ Chg M w' w'' ∧ (p i = true → J (i + 1) w'')) :
    Calls Tryz.prog 98 #[.slice A n c, .int .i64 most, (.func (.func 99) #[] #[.pointer (some ⟨P0, 0, none⟩), .pointer (some ⟨P1, 0, none⟩)])] w fun e w' => e = .returned (.bool (decide ((n : Int) ≤ most) && allP p n)) ∧ Chg M w w' := by
  obtain ⟨hm1, hm2⟩ := hmost
  have hI := fun (w0 : World) (hw0 : Below w.heap.size w w0) (h1 : Has w0 w.heap.size #[(.func (.func 99) #[] #[.pointer (some ⟨P0, 0, none⟩), .pointer (some ⟨P1, 0, none⟩)])]) => index_tier A c n w.heap.size P0 P1 rows w0 (fun i w' => J i w' ∧ Has w' w.heap.size #[(.func (.func 99) #[] #[.pointer (some ⟨P0, 0, none⟩), .pointer (some ⟨P1, 0, none⟩)])]) M p hn (fun i w' h => hT i w' h.1) (fun i w' h => h.2) ⟨hJ _ _ _ h0 hw0, h1⟩
    (fun i w' w'' h hb => ⟨hJ _ _ _ h.1 hb, h.2.below hb⟩) (fun i w' hi h => (hG i w' hi h.1).mono fun e w'' ⟨h1, h2, h3⟩ => ⟨h1, h2, fun hp => ⟨h3 hp, h.2.chg hM h2⟩⟩)
  have HI := Lib.hid hI
  clear hI hT h0 hJ hG
  have hC : ∀ (w0 : World) (hw0 : Below w.heap.size w w0) (h1 : Has w0 w.heap.size #[(.func (.func 99) #[] #[.pointer (some ⟨P0, 0, none⟩), .pointer (some ⟨P1, 0, none⟩)])]), Calls Tryz.prog 127 #[.slice A n c, .func (.func 128) #[] #[.pointer (some ⟨w.heap.size, 0, none⟩)]] w0 fun e w' => e = .returned (.bool (!allP p n)) ∧ Chg M w0 w' := by
    intro w0 hw0 h1
    have HI2 := Lib.hid (HI.out w0 hw0 h1)
    clear HI h1 hw0
    generalize allP p n = r at *
    generalize w.heap.size = N at *
    go_enter Tryz.func127, Tryz.ntmps127
    go_wp2_with fail
    refine HI2.out.mono ?_
    rintro e w2 ⟨z, rfl, hz, hb⟩
    have HZ := Lib.hid hz
    clear hz
    go_wp2
    go_ret
    exact ⟨ret_bool HZ.out, hb⟩
  have HC := Lib.hid hC
  clear hC HI
  generalize allP p n = r at *
  by_cases h : (n : Int) ≤ most
  · have hd := Lib.hid (decide_eq_true h)
    go_enter Tryz.func98, Tryz.ntmps98
    go_wp2_with fail
    refine (HC.out _ (by (repeat' (first | with_reducible exact Below.refl _ _ | with_reducible assumption | with_reducible refine bel_alloc ?_ _ | with_reducible refine bel_set ?_ ?_ _ | with_reducible refine below_drewN ?_ _ | with_reducible refine below_drew ?_ | (simp; done) | (simp; omega) | omega))) (Has.new _ _ _ rfl)).mono ?_
    rintro e w2 ⟨rfl, hb⟩
    replace hb := ((Chg.refl M w).alloc _).on hb
    go_wp2
    go_ret
    exact ⟨ret_bool (by rw [hd.out]; simp), hb⟩
  · have hd := Lib.hid (decide_eq_false h)
    go_enter Tryz.func98, Tryz.ntmps98
    go_wp2
    go_ret
    exact ⟨ret_bool (by rw [hd.out]; simp), (Chg.refl M w).alloc _⟩
end Go.Proofs.YtpgncbhahocmbaaGreat
