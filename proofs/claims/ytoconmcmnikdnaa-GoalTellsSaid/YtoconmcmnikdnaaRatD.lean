/-
  The contracts of package ratio's functions, continued: sums, which is less, the nearest number.
-/
import Derived.Test.YtoconmcmnikdnaaRatC
namespace Go.Proofs.Ytoconmcmnikdnaa
open Go.RowKit
set_option linter.unusedVariables false

theorem may_i64 {n d : Int} (h : mayB n d = true) : (-9223372036854775808 ≤ n ∧ n ≤ 9223372036854775807) ∧ (-9223372036854775808 ≤ d ∧ d ≤ 9223372036854775807) := by
  have := may_bd h
  omega
theorem rat_i64 (s : Rat2) (h : mayB s.n s.d = (s.c == 0)) (hz : s.c ≠ 0 → s.n = 0 ∧ s.d = 0) : (-9223372036854775808 ≤ s.n ∧ s.n ≤ 9223372036854775807) ∧ (-9223372036854775808 ≤ s.d ∧ s.d ≤ 9223372036854775807) := by
  by_cases hc : s.c = 0
  · exact may_i64 (by rw [h, hc]; rfl)
  · obtain ⟨e1, e2⟩ := hz hc
    rw [e1, e2]; omega
theorem mkR_z (n d : Int) : (mkR n d).c ≠ 0 → (mkR n d).n = 0 ∧ (mkR n d).d = 0 := fun h => mk_bad h
theorem plusR_z (a b c d : Int) : (plusR a b c d).c ≠ 0 → (plusR a b c d).n = 0 ∧ (plusR a b c d).d = 0 := by unfold plusR; split; exact mkR_z _ _; exact fun _ => ⟨rfl, rfl⟩
theorem mulR_z (a b c d : Int) : (mulR a b c d).c ≠ 0 → (mulR a b c d).n = 0 ∧ (mulR a b c d).d = 0 := by unfold mulR; split; exact mkR_z _ _; exact fun _ => ⟨rfl, rfl⟩
theorem sumRGo_snoc (xs : List (Int × Int)) (k : Nat) (h : k < xs.length) (n d : Int) (hs : sumRGo ⟨0, 1, 0⟩ (xs.take k) = ⟨n, d, 0⟩) :
    sumRGo ⟨0, 1, 0⟩ (xs.take (k + 1)) = plusR n d (xs.getD k (0, 0)).1 (xs.getD k (0, 0)).2 := by
  rw [List.take_succ_eq_append_getElem h, sumRGo_append, hs]
  simp [sumRGo, List.getD, h]
theorem sumRGo_stop (xs : List (Int × Int)) (k : Nat) (s : Rat2) (hs : sumRGo ⟨0, 1, 0⟩ (xs.take k) = s) (hc : s.c ≠ 0) : sumRGo ⟨0, 1, 0⟩ xs = s := by
  rw [← List.take_append_drop k xs, sumRGo_append, hs, sumRGo_bad hc]
theorem rat2_eta (s : Rat2) (h : s.c = 0) : s = ⟨s.n, s.d, 0⟩ := by
  cases s
  simp at h
  subst h
  rfl
theorem ret_rr {s t : Rat2} (h : s = t) : Ending.returned (.tuple #[.agg #[.int .i64 s.n, .int .i64 s.d], .int .i64 s.c]) = .returned (.tuple #[.agg #[.int .i64 t.n, .int .i64 t.d], .int .i64 t.c]) := by rw [h]

theorem ratsum_no (A : Option Addr) (cap : Nat) (xs : List (Int × Int)) (w : World) (hx : Rats w A xs) (hl : xs.length ≤ 9223372036854775807) (hm : allMay xs = false) :
    Calls Try.prog 23 #[.slice A xs.length cap] w fun e w' => e = .returned (.tuple #[.agg #[.int .i64 (sumR xs).n, .int .i64 (sumR xs).d], .int .i64 (sumR xs).c]) ∧ Below w.heap.size w w' := by
  have E := Lib.hid (show sumR xs = badR from if_neg (by rw [hm]; simp))
  have HX := Lib.hid hx
  have HM := Lib.hid hm
  clear hx hm
  go_enter Try.func23, Try.ntmps23
  go_wp2_with fail
  refine (allMay_any A cap xs _ (HX.out.below (bel_alloc (Below.refl _ _) _)) hl).mono ?_
  rw [HM.out]
  rintro e w1 ⟨rfl, hb1⟩
  have R1 : Has w1 w.heap.size #[.int .i64 0, .int .i64 0] := (Has.new _ _ _ rfl).below hb1
  replace hb1 := bel_on (show Below w.heap.size w _ by (repeat' (first | with_reducible exact Below.refl _ _ | with_reducible assumption | with_reducible refine bel_alloc ?_ _ | with_reducible refine bel_set ?_ ?_ _ | with_reducible refine below_drewN ?_ _ | with_reducible refine below_drew ?_ | (simp; done) | (simp; omega) | omega))) hb1
  obtain ⟨c0, c1, f0, f1⟩ := R1.two
  go_wp2
  try rw [Exit.noGoto_ret]
  refine bodyPost_ret (v := .tuple #[.agg #[.int .i64 0, .int .i64 0], .int .i64 20]) (by simp [results, Try.results23, go_sem, c0, c1]) rfl ⟨by rw [E.out]; rfl, ?_⟩
  (repeat' (first | with_reducible exact Below.refl _ _ | with_reducible assumption | with_reducible refine bel_alloc ?_ _ | with_reducible refine bel_set ?_ ?_ _ | with_reducible refine below_drewN ?_ _ | with_reducible refine below_drew ?_ | (simp; done) | (simp; omega) | omega))

set_option maxHeartbeats 1000000 in
theorem ratsum_yes (A : Option Addr) (cap : Nat) (xs : List (Int × Int)) (w : World) (hx : Rats w A xs) (hl : xs.length ≤ 9223372036854775807) (hm : allMay xs = true) :
    Calls Try.prog 23 #[.slice A xs.length cap] w fun e w' => e = .returned (.tuple #[.agg #[.int .i64 (sumR xs).n, .int .i64 (sumR xs).d], .int .i64 (sumR xs).c]) ∧ Below w.heap.size w w' := by
  have E := Lib.hid (show sumR xs = sumRGo ⟨0, 1, 0⟩ xs from if_pos hm)
  have HX := Lib.hid hx
  have HM := Lib.hid hm
  clear hx hm
  go_enter Try.func23, Try.ntmps23
  go_wp2_with fail
  refine (allMay_any A cap xs _ (HX.out.below (bel_alloc (Below.refl _ _) _)) hl).mono ?_
  rw [HM.out]
  rintro e w1 ⟨rfl, hb1⟩
  have R1 : Has w1 w.heap.size #[.int .i64 0, .int .i64 0] := (Has.new _ _ _ rfl).below hb1
  replace hb1 := bel_on (show Below w.heap.size w _ by (repeat' (first | with_reducible exact Below.refl _ _ | with_reducible assumption | with_reducible refine bel_alloc ?_ _ | with_reducible refine bel_set ?_ ?_ _ | with_reducible refine below_drewN ?_ _ | with_reducible refine below_drew ?_ | (simp; done) | (simp; omega) | omega))) hb1
  have hz := R1.size
  go_wp2
  go_loopw [5, 15] (fun e i wr => ∃ (k : Nat) (n d : Int), k ≤ xs.length ∧ i = .int .i64 k ∧ e = .int .i64 0 ∧ (-9223372036854775808 ≤ n ∧ n ≤ 9223372036854775807) ∧ (-9223372036854775808 ≤ d ∧ d ≤ 9223372036854775807) ∧
      Hid (sumRGo ⟨0, 1, 0⟩ (xs.take k) = ⟨n, d, 0⟩) ∧ Has wr w1.heap.size #[.int .i64 n, .int .i64 d] ∧ Has wr w.heap.size #[.int .i64 0, .int .i64 0] ∧ Below w.heap.size w wr) (fun _ i _ => xs.length - (intOf i).toNat)
  case atStart => exact ⟨0, 0, 1, Nat.zero_le _, rfl, rfl, by omega, by omega, rfl, Has.new _ _ _ rfl, R1.alloc _, bel_alloc hb1 _⟩
  case round =>
    clear R1 hb1
    obtain ⟨k, n, d, hk, rfl, rfl, hn, hd, hs, RS, R0, hbw⟩ := hrel
    by_cases hlt : k < xs.length
    · obtain ⟨b, off, rfl, c1, c2, b1, b2, b3, b4⟩ := (HX.out.below hbw) k hlt
      have S1 := Lib.hid (sumRGo_snoc xs k hlt n d hs.out)
      generalize (xs.getD k (0, 0)).1 = p at *
      generalize (xs.getD k (0, 0)).2 = q at *
      obtain ⟨s0, s1, _, _⟩ := RS.two
      have z1 := RS.size
      have z0 := R0.size
      go_wp2_with fail
      refine (qplus_any n d p q _ hn hd ⟨b1, b2⟩ ⟨b3, b4⟩).mono ?_
      rintro e w2 ⟨rfl, hb2⟩
      have RS2 := (RS.alloc _).below hb2
      have R02 := (R0.alloc _).below hb2
      replace hb2 := bel_on (bel_alloc hbw _) hb2
      obtain ⟨t0, t1, t2, t3⟩ := RS2.two
      clear hbw c1 c2 s0 s1 RS R0 z1 z0
      have RS3 := (RS2.set 0 (.int .i64 (plusR n d p q).n)).set 1 (.int .i64 (plusR n d p q).d)
      have R03 := (R02.far (p := ⟨w1.heap.size, 0, none⟩) (by show w.heap.size ≠ w1.heap.size; omega) (.int .i64 (plusR n d p q).n)).far (p := ⟨w1.heap.size, 1, none⟩) (by show w.heap.size ≠ w1.heap.size; omega) (.int .i64 (plusR n d p q).d)
      have hb3 := bel_set (bel_set hb2 (p := ⟨w1.heap.size, 0, none⟩) (Nat.le_of_lt hz) (.int .i64 (plusR n d p q).n)) (p := ⟨w1.heap.size, 1, none⟩) (Nat.le_of_lt hz) (.int .i64 (plusR n d p q).d)
      by_cases hc : (plusR n d p q).c = 0
      · have g1 : ((plusR n d p q).c == 0) = true := by simpa using hc
        have g2 : ((plusR n d p q).c != 0) = false := by simpa using hc
        have hs' : Hid (sumRGo ⟨0, 1, 0⟩ (xs.take (k + 1)) = ⟨(plusR n d p q).n, (plusR n d p q).d, 0⟩) := by
          show _ = _
          rw [S1.out]
          exact rat2_eta _ hc
        have hbd := may_i64 (show mayB (plusR n d p q).n (plusR n d p q).d = true by rw [plusR_may]; exact g1)
        have HC := Lib.hid hc
        clear hc
        go_wp2
        go_roundw
        case rel => exact ⟨k + 1, _, _, by omega, by go_num, by rw [HC.out], hbd.1, hbd.2, hs', RS3, R03, hb3⟩
        case measure => simp [intOf]; omega
      · have g1 : ((plusR n d p q).c == 0) = false := by simpa using hc
        have g2 : ((plusR n d p q).c != 0) = true := by simpa using hc
        have F := Lib.hid (sumRGo_stop xs (k + 1) _ S1.out hc)
        clear hc
        obtain ⟨v4, v5, v6, v7⟩ := R03.two
        go_wp2
        refine bodyPost_ret (v := .tuple #[.agg #[.int .i64 (plusR n d p q).n, .int .i64 (plusR n d p q).d], .int .i64 (plusR n d p q).c]) (by simp [results, Try.results23, go_sem, v4, v5]) rfl ⟨ret_rr (F.out.symm.trans E.out.symm), ?_⟩
        (repeat' (first | with_reducible exact Below.refl _ _ | with_reducible assumption | with_reducible refine bel_alloc ?_ _ | with_reducible refine bel_set ?_ ?_ _ | with_reducible refine below_drewN ?_ _ | with_reducible refine below_drew ?_ | (simp; done) | (simp; omega) | omega))
    · obtain rfl : k = xs.length := by omega
      have hs' := hs.out
      rw [List.take_length] at hs'
      have F := Lib.hid hs'
      clear hs hs'
      obtain ⟨s0, s1, _, _⟩ := RS.two
      obtain ⟨v4, v5, v6, v7⟩ := R0.two
      go_wp2
      refine bodyPost_ret (v := .tuple #[.agg #[.int .i64 n, .int .i64 d], .int .i64 0]) (by simp [results, Try.results23, go_sem, v4, v5]) rfl ⟨ret_rr (s := ⟨n, d, 0⟩) (F.out.symm.trans E.out.symm), ?_⟩
      (repeat' (first | with_reducible exact Below.refl _ _ | with_reducible assumption | with_reducible refine bel_alloc ?_ _ | with_reducible refine bel_set ?_ ?_ _ | with_reducible refine below_drewN ?_ _ | with_reducible refine below_drew ?_ | (simp; done) | (simp; omega) | omega))

theorem ratsum_any (A : Option Addr) (cap : Nat) (xs : List (Int × Int)) (w : World) (hx : Rats w A xs) (hl : xs.length ≤ 9223372036854775807) :
    Calls Try.prog 23 #[.slice A xs.length cap] w fun e w' => e = .returned (.tuple #[.agg #[.int .i64 (sumR xs).n, .int .i64 (sumR xs).d], .int .i64 (sumR xs).c]) ∧ Below w.heap.size w w' := by
  cases hm : allMay xs with
  | true => exact ratsum_yes A cap xs w hx hl hm
  | false => exact ratsum_no A cap xs w hx hl hm
theorem less_any (a b c d : Int) (w : World) (ha : -9223372036854775808 ≤ a ∧ a ≤ 9223372036854775807) (hb : -9223372036854775808 ≤ b ∧ b ≤ 9223372036854775807) (hc : -9223372036854775808 ≤ c ∧ c ≤ 9223372036854775807) (hd : -9223372036854775808 ≤ d ∧ d ≤ 9223372036854775807) :
    Calls Try.prog 17 #[.agg #[.int .i64 a, .int .i64 b], .agg #[.int .i64 c, .int .i64 d]] w fun e w' => e = .returned (.bool (lessB a b c d)) ∧ Below w.heap.size w w' := by
  cases hm : (mayB a b && mayB c d) with
  | true =>
    have E := Lib.hid (show lessB a b c d = decide (a * d < c * b) by unfold lessB; rw [hm]; rfl)
    have HM := Lib.hid hm
    obtain ⟨b1, b2, b3, b4⟩ := may_parts hm
    have p0 := part_bd (a := a) (b := d) (by omega) (by omega) (by omega) (by omega)
    have p1 := part_bd (a := c) (b := b) (by omega) (by omega) (by omega) (by omega)
    clear hm
    go_enter Try.func17, Try.ntmps17
    go_wp2_with fail
    refine (all_two a b c d _ _ _ (by simp) ha hb hc hd).mono ?_
    rw [HM.out]
    rintro e w1 ⟨rfl, hb1⟩
    have R0 : Has w1 w.heap.size #[.int .i64 a, .int .i64 b] := ((Has.new _ _ _ rfl).alloc _).below hb1
    have R1 : Has w1 (w.heap.size + 1) #[.int .i64 c, .int .i64 d] := (Has.new _ _ _ (by simp)).below hb1
    replace hb1 := bel_on (show Below w.heap.size w _ by (repeat' (first | with_reducible exact Below.refl _ _ | with_reducible assumption | with_reducible refine bel_alloc ?_ _ | with_reducible refine bel_set ?_ ?_ _ | with_reducible refine below_drewN ?_ _ | with_reducible refine below_drew ?_ | (simp; done) | (simp; omega) | omega))) hb1
    obtain ⟨c0, c1, f0, f1⟩ := R0.two
    obtain ⟨c2, c3, f2, f3⟩ := R1.two
    go_wp2
    go_ret
    exact ⟨ret_bool E.out.symm, hb1⟩
  | false =>
    have E := Lib.hid (show lessB a b c d = false by unfold lessB; rw [hm]; rfl)
    have HM := Lib.hid hm
    clear hm
    go_enter Try.func17, Try.ntmps17
    go_wp2_with fail
    refine (all_two a b c d _ _ _ (by simp) ha hb hc hd).mono ?_
    rw [HM.out]
    rintro e w1 ⟨rfl, hb1⟩
    replace hb1 := bel_on (show Below w.heap.size w _ by (repeat' (first | with_reducible exact Below.refl _ _ | with_reducible assumption | with_reducible refine bel_alloc ?_ _ | with_reducible refine bel_set ?_ ?_ _ | with_reducible refine below_drewN ?_ _ | with_reducible refine below_drew ?_ | (simp; done) | (simp; omega) | omega))) hb1
    go_wp2
    go_ret
    exact ⟨ret_bool E.out.symm, hb1⟩

end Go.Proofs.Ytoconmcmnikdnaa
