/-
  The contracts of package ratio's functions, continued: what two make, sums, which is less, the nearest number.
-/
import Derived.Test.YtoconmcmnikdnaaRatB
namespace Go.Proofs.Ytoconmcmnikdnaa
open Go.RowKit
set_option linter.unusedVariables false

theorem two_no (v : Value) (a b c d : Int) (w : World) (ha : -9223372036854775808 ≤ a ∧ a ≤ 9223372036854775807) (hb : -9223372036854775808 ≤ b ∧ b ≤ 9223372036854775807) (hc : -9223372036854775808 ≤ c ∧ c ≤ 9223372036854775807) (hd : -9223372036854775808 ≤ d ∧ d ≤ 9223372036854775807) (hm : (mayB a b && mayB c d) = false) :
    Calls Try.prog 37 #[.agg #[.int .i64 a, .int .i64 b], .agg #[.int .i64 c, .int .i64 d], v] w fun e w' => e = .returned (.tuple #[.agg #[.int .i64 0, .int .i64 0], .int .i64 20]) ∧ Below w.heap.size w w' := by
  have HM := Lib.hid hm
  clear hm
  go_enter Try.func37, Try.ntmps37
  go_wp2_with fail
  refine (all_two a b c d _ _ _ (by simp) ha hb hc hd).mono ?_
  rw [HM.out]
  rintro e w1 ⟨rfl, hb1⟩
  have R1 : Has w1 (w.heap.size + 1 + 1) #[.int .i64 0, .int .i64 0] := (Has.new _ _ _ (by simp)).below hb1
  replace hb1 := bel_on (show Below w.heap.size w _ by (repeat' (first | with_reducible exact Below.refl _ _ | with_reducible assumption | with_reducible refine bel_alloc ?_ _ | with_reducible refine bel_set ?_ ?_ _ | with_reducible refine below_drewN ?_ _ | with_reducible refine below_drew ?_ | (simp; done) | (simp; omega) | omega))) hb1
  obtain ⟨c0, c1, f0, f1⟩ := R1.two
  go_wp2
  refine bodyPost_ret (v := .tuple #[.agg #[.int .i64 0, .int .i64 0], .int .i64 20]) (by simp [results, Try.results37, go_sem, c0, c1]) rfl ⟨rfl, ?_⟩
  (repeat' (first | with_reducible exact Below.refl _ _ | with_reducible assumption | with_reducible refine bel_alloc ?_ _ | with_reducible refine bel_set ?_ ?_ _ | with_reducible refine below_drewN ?_ _ | with_reducible refine below_drew ?_ | (simp; done) | (simp; omega) | omega))

theorem may_parts {a b c d : Int} (h : (mayB a b && mayB c d) = true) : (-2147483647 ≤ a ∧ a ≤ 2147483647) ∧ (1 ≤ b ∧ b ≤ 2147483647) ∧ (-2147483647 ≤ c ∧ c ≤ 2147483647) ∧ (1 ≤ d ∧ d ≤ 2147483647) := by
  simp only [Bool.and_eq_true] at h
  have h1 := may_bd h.1
  have h2 := may_bd h.2
  omega

theorem qminus_fn (g h : Nat) (a b c d : Int) (w : World) (hm : (mayB a b && mayB c d) = true) (hg : Has w g #[.int .i64 a, .int .i64 b]) (hh : Has w h #[.int .i64 c, .int .i64 d]) :
    Calls Try.prog 38 #[.pointer (some ⟨g, 0, none⟩), .pointer (some ⟨h, 0, none⟩)] w fun e w' => e = .returned (.tuple #[.int .i64 (a * d - c * b), .int .i64 (b * d)]) ∧ ∃ k, w' = w.drewN k := by
  obtain ⟨b1, b2, b3, b4⟩ := may_parts hm
  have p0 := part_bd (a := a) (b := d) (by omega) (by omega) (by omega) (by omega)
  have p1 := part_bd (a := c) (b := b) (by omega) (by omega) (by omega) (by omega)
  have p2 := part_bd (a := b) (b := d) (by omega) (by omega) (by omega) (by omega)
  obtain ⟨c0, c1, f0, f1⟩ := hg.two
  obtain ⟨c2, c3, f2, f3⟩ := hh.two
  clear hm f0 f1 f2 f3
  go_enter Try.func38, Try.ntmps38
  go_wp2
  go_quiet (fail)
  go_wp2
  go_ret2
  exact ⟨rfl, _, rfl⟩

theorem qminus_any (a b c d : Int) (w : World) (ha : -9223372036854775808 ≤ a ∧ a ≤ 9223372036854775807) (hb : -9223372036854775808 ≤ b ∧ b ≤ 9223372036854775807) (hc : -9223372036854775808 ≤ c ∧ c ≤ 9223372036854775807) (hd : -9223372036854775808 ≤ d ∧ d ≤ 9223372036854775807) :
    Calls Try.prog 16 #[.agg #[.int .i64 a, .int .i64 b], .agg #[.int .i64 c, .int .i64 d]] w fun e w' => e = .returned (.tuple #[.agg #[.int .i64 (minusR a b c d).n, .int .i64 (minusR a b c d).d], .int .i64 (minusR a b c d).c]) ∧ Below w.heap.size w w' := by
  have hmf : ∀ (fn : Fn) (first cap : Array Value) (w : World), (Instr.makeFunc fn first cap).run Try.prog w = .ok (.func fn first cap) w := fun _ _ _ _ => rfl
  cases hm : (mayB a b && mayB c d) with
  | true =>
    have E := Lib.hid (show minusR a b c d = mkR (a * d - c * b) (b * d) from if_pos hm)
    have HM := Lib.hid hm
    obtain ⟨b1, b2, b3, b4⟩ := may_parts hm
    have p0 := part_bd (a := a) (b := d) (by omega) (by omega) (by omega) (by omega)
    have p1 := part_bd (a := c) (b := b) (by omega) (by omega) (by omega) (by omega)
    have p2 := part_bd (a := b) (b := d) (by omega) (by omega) (by omega) (by omega)
    clear hm
    go_enter Try.func16, Try.ntmps16
    go_wp2_with fail
    refine (two_yes 38 _ _ a b c d (a * d - c * b) (b * d) _ ha hb hc hd HM.out (enters_of Try.func38 (by kernel_rfl) rfl) ?_ (by omega) (by omega) (by omega) (by omega)).mono ?_
    · intro w1 hb1
      refine qminus_fn _ _ a b c d w1 HM.out ?_ ?_
      · exact Has.below (((Has.new _ _ _ rfl).alloc _).alloc _) hb1
      · exact Has.below ((Has.new _ _ _ (by simp)).alloc _) hb1
    rintro e w2 ⟨rfl, hb2⟩
    have R2 : Has w2 (w.heap.size + 1 + 1) #[.int .i64 0, .int .i64 0] := (Has.new _ _ _ (by simp)).below hb2
    replace hb2 := bel_on (show Below w.heap.size w _ by (repeat' (first | with_reducible exact Below.refl _ _ | with_reducible assumption | with_reducible refine bel_alloc ?_ _ | with_reducible refine bel_set ?_ ?_ _ | with_reducible refine below_drewN ?_ _ | with_reducible refine below_drew ?_ | (simp; done) | (simp; omega) | omega))) hb2
    obtain ⟨c0, c1, f0, f1⟩ := R2.two
    go_wp2
    refine bodyPost_ret (v := .tuple #[.agg #[.int .i64 (mkN (a * d - c * b) (b * d)), .int .i64 (mkD (a * d - c * b) (b * d))], .int .i64 (mkC (a * d - c * b) (b * d))]) (by simp [results, Try.results16, go_sem, c0, c1]) rfl ⟨by rw [E.out]; rfl, ?_⟩
    (repeat' (first | with_reducible exact Below.refl _ _ | with_reducible assumption | with_reducible refine bel_alloc ?_ _ | with_reducible refine bel_set ?_ ?_ _ | with_reducible refine below_drewN ?_ _ | with_reducible refine below_drew ?_ | (simp; done) | (simp; omega) | omega))
  | false =>
    have E := Lib.hid (show minusR a b c d = badR from if_neg (by rw [hm]; simp))
    have HM := Lib.hid hm
    clear hm
    go_enter Try.func16, Try.ntmps16
    go_wp2_with fail
    refine (two_no _ a b c d _ ha hb hc hd HM.out).mono ?_
    rintro e w2 ⟨rfl, hb2⟩
    have R2 : Has w2 (w.heap.size + 1 + 1) #[.int .i64 0, .int .i64 0] := (Has.new _ _ _ (by simp)).below hb2
    replace hb2 := bel_on (show Below w.heap.size w _ by (repeat' (first | with_reducible exact Below.refl _ _ | with_reducible assumption | with_reducible refine bel_alloc ?_ _ | with_reducible refine bel_set ?_ ?_ _ | with_reducible refine below_drewN ?_ _ | with_reducible refine below_drew ?_ | (simp; done) | (simp; omega) | omega))) hb2
    obtain ⟨c0, c1, f0, f1⟩ := R2.two
    go_wp2
    refine bodyPost_ret (v := .tuple #[.agg #[.int .i64 0, .int .i64 0], .int .i64 20]) (by simp [results, Try.results16, go_sem, c0, c1]) rfl ⟨by rw [E.out]; rfl, ?_⟩
    (repeat' (first | with_reducible exact Below.refl _ _ | with_reducible assumption | with_reducible refine bel_alloc ?_ _ | with_reducible refine bel_set ?_ ?_ _ | with_reducible refine below_drewN ?_ _ | with_reducible refine below_drew ?_ | (simp; done) | (simp; omega) | omega))

theorem qmul_fn (g h : Nat) (a b c d : Int) (w : World) (hm : (mayB a b && mayB c d) = true) (hg : Has w g #[.int .i64 a, .int .i64 b]) (hh : Has w h #[.int .i64 c, .int .i64 d]) :
    Calls Try.prog 40 #[.pointer (some ⟨g, 0, none⟩), .pointer (some ⟨h, 0, none⟩)] w fun e w' => e = .returned (.tuple #[.int .i64 (a * c), .int .i64 (b * d)]) ∧ ∃ k, w' = w.drewN k := by
  obtain ⟨b1, b2, b3, b4⟩ := may_parts hm
  have p0 := part_bd (a := a) (b := c) (by omega) (by omega) (by omega) (by omega)
  have p1 := part_bd (a := b) (b := d) (by omega) (by omega) (by omega) (by omega)
  obtain ⟨c0, c1, f0, f1⟩ := hg.two
  obtain ⟨c2, c3, f2, f3⟩ := hh.two
  clear hm f0 f1 f2 f3
  go_enter Try.func40, Try.ntmps40
  go_wp2
  go_quiet (fail)
  go_wp2
  go_ret2
  exact ⟨rfl, _, rfl⟩

theorem qmul_any (a b c d : Int) (w : World) (ha : -9223372036854775808 ≤ a ∧ a ≤ 9223372036854775807) (hb : -9223372036854775808 ≤ b ∧ b ≤ 9223372036854775807) (hc : -9223372036854775808 ≤ c ∧ c ≤ 9223372036854775807) (hd : -9223372036854775808 ≤ d ∧ d ≤ 9223372036854775807) :
    Calls Try.prog 21 #[.agg #[.int .i64 a, .int .i64 b], .agg #[.int .i64 c, .int .i64 d]] w fun e w' => e = .returned (.tuple #[.agg #[.int .i64 (mulR a b c d).n, .int .i64 (mulR a b c d).d], .int .i64 (mulR a b c d).c]) ∧ Below w.heap.size w w' := by
  have hmf : ∀ (fn : Fn) (first cap : Array Value) (w : World), (Instr.makeFunc fn first cap).run Try.prog w = .ok (.func fn first cap) w := fun _ _ _ _ => rfl
  cases hm : (mayB a b && mayB c d) with
  | true =>
    have E := Lib.hid (show mulR a b c d = mkR (a * c) (b * d) from if_pos hm)
    have HM := Lib.hid hm
    obtain ⟨b1, b2, b3, b4⟩ := may_parts hm
    have p0 := part_bd (a := a) (b := c) (by omega) (by omega) (by omega) (by omega)
    have p1 := part_bd (a := b) (b := d) (by omega) (by omega) (by omega) (by omega)
    clear hm
    go_enter Try.func21, Try.ntmps21
    go_wp2_with fail
    refine (two_yes 40 _ _ a b c d (a * c) (b * d) _ ha hb hc hd HM.out (enters_of Try.func40 (by kernel_rfl) rfl) ?_ (by omega) (by omega) (by omega) (by omega)).mono ?_
    · intro w1 hb1
      refine qmul_fn _ _ a b c d w1 HM.out ?_ ?_
      · exact Has.below (((Has.new _ _ _ rfl).alloc _).alloc _) hb1
      · exact Has.below ((Has.new _ _ _ (by simp)).alloc _) hb1
    rintro e w2 ⟨rfl, hb2⟩
    have R2 : Has w2 (w.heap.size + 1 + 1) #[.int .i64 0, .int .i64 0] := (Has.new _ _ _ (by simp)).below hb2
    replace hb2 := bel_on (show Below w.heap.size w _ by (repeat' (first | with_reducible exact Below.refl _ _ | with_reducible assumption | with_reducible refine bel_alloc ?_ _ | with_reducible refine bel_set ?_ ?_ _ | with_reducible refine below_drewN ?_ _ | with_reducible refine below_drew ?_ | (simp; done) | (simp; omega) | omega))) hb2
    obtain ⟨c0, c1, f0, f1⟩ := R2.two
    go_wp2
    refine bodyPost_ret (v := .tuple #[.agg #[.int .i64 (mkN (a * c) (b * d)), .int .i64 (mkD (a * c) (b * d))], .int .i64 (mkC (a * c) (b * d))]) (by simp [results, Try.results21, go_sem, c0, c1]) rfl ⟨by rw [E.out]; rfl, ?_⟩
    (repeat' (first | with_reducible exact Below.refl _ _ | with_reducible assumption | with_reducible refine bel_alloc ?_ _ | with_reducible refine bel_set ?_ ?_ _ | with_reducible refine below_drewN ?_ _ | with_reducible refine below_drew ?_ | (simp; done) | (simp; omega) | omega))
  | false =>
    have E := Lib.hid (show mulR a b c d = badR from if_neg (by rw [hm]; simp))
    have HM := Lib.hid hm
    clear hm
    go_enter Try.func21, Try.ntmps21
    go_wp2_with fail
    refine (two_no _ a b c d _ ha hb hc hd HM.out).mono ?_
    rintro e w2 ⟨rfl, hb2⟩
    have R2 : Has w2 (w.heap.size + 1 + 1) #[.int .i64 0, .int .i64 0] := (Has.new _ _ _ (by simp)).below hb2
    replace hb2 := bel_on (show Below w.heap.size w _ by (repeat' (first | with_reducible exact Below.refl _ _ | with_reducible assumption | with_reducible refine bel_alloc ?_ _ | with_reducible refine bel_set ?_ ?_ _ | with_reducible refine below_drewN ?_ _ | with_reducible refine below_drew ?_ | (simp; done) | (simp; omega) | omega))) hb2
    obtain ⟨c0, c1, f0, f1⟩ := R2.two
    go_wp2
    refine bodyPost_ret (v := .tuple #[.agg #[.int .i64 0, .int .i64 0], .int .i64 20]) (by simp [results, Try.results21, go_sem, c0, c1]) rfl ⟨by rw [E.out]; rfl, ?_⟩
    (repeat' (first | with_reducible exact Below.refl _ _ | with_reducible assumption | with_reducible refine bel_alloc ?_ _ | with_reducible refine bel_set ?_ ?_ _ | with_reducible refine below_drewN ?_ _ | with_reducible refine below_drew ?_ | (simp; done) | (simp; omega) | omega))

theorem qplus_fn (g h : Nat) (a b c d : Int) (w : World) (hm : (mayB a b && mayB c d) = true) (hg : Has w g #[.int .i64 a, .int .i64 b]) (hh : Has w h #[.int .i64 c, .int .i64 d]) :
    Calls Try.prog 71 #[.pointer (some ⟨g, 0, none⟩), .pointer (some ⟨h, 0, none⟩)] w fun e w' => e = .returned (.tuple #[.int .i64 (a * d + c * b), .int .i64 (b * d)]) ∧ ∃ k, w' = w.drewN k := by
  obtain ⟨b1, b2, b3, b4⟩ := may_parts hm
  have p0 := part_bd (a := a) (b := d) (by omega) (by omega) (by omega) (by omega)
  have p1 := part_bd (a := c) (b := b) (by omega) (by omega) (by omega) (by omega)
  have p2 := part_bd (a := b) (b := d) (by omega) (by omega) (by omega) (by omega)
  obtain ⟨c0, c1, f0, f1⟩ := hg.two
  obtain ⟨c2, c3, f2, f3⟩ := hh.two
  clear hm f0 f1 f2 f3
  go_enter Try.func71, Try.ntmps71
  go_wp2
  go_quiet (fail)
  go_wp2
  go_ret2
  exact ⟨rfl, _, rfl⟩

theorem qplus_any (a b c d : Int) (w : World) (ha : -9223372036854775808 ≤ a ∧ a ≤ 9223372036854775807) (hb : -9223372036854775808 ≤ b ∧ b ≤ 9223372036854775807) (hc : -9223372036854775808 ≤ c ∧ c ≤ 9223372036854775807) (hd : -9223372036854775808 ≤ d ∧ d ≤ 9223372036854775807) :
    Calls Try.prog 42 #[.agg #[.int .i64 a, .int .i64 b], .agg #[.int .i64 c, .int .i64 d]] w fun e w' => e = .returned (.tuple #[.agg #[.int .i64 (plusR a b c d).n, .int .i64 (plusR a b c d).d], .int .i64 (plusR a b c d).c]) ∧ Below w.heap.size w w' := by
  have hmf : ∀ (fn : Fn) (first cap : Array Value) (w : World), (Instr.makeFunc fn first cap).run Try.prog w = .ok (.func fn first cap) w := fun _ _ _ _ => rfl
  cases hm : (mayB a b && mayB c d) with
  | true =>
    have E := Lib.hid (show plusR a b c d = mkR (a * d + c * b) (b * d) from if_pos hm)
    have HM := Lib.hid hm
    obtain ⟨b1, b2, b3, b4⟩ := may_parts hm
    have p0 := part_bd (a := a) (b := d) (by omega) (by omega) (by omega) (by omega)
    have p1 := part_bd (a := c) (b := b) (by omega) (by omega) (by omega) (by omega)
    have p2 := part_bd (a := b) (b := d) (by omega) (by omega) (by omega) (by omega)
    clear hm
    go_enter Try.func42, Try.ntmps42
    go_wp2_with fail
    refine (two_yes 71 _ _ a b c d (a * d + c * b) (b * d) _ ha hb hc hd HM.out (enters_of Try.func71 (by kernel_rfl) rfl) ?_ (by omega) (by omega) (by omega) (by omega)).mono ?_
    · intro w1 hb1
      refine qplus_fn _ _ a b c d w1 HM.out ?_ ?_
      · exact Has.below (((Has.new _ _ _ rfl).alloc _).alloc _) hb1
      · exact Has.below ((Has.new _ _ _ (by simp)).alloc _) hb1
    rintro e w2 ⟨rfl, hb2⟩
    have R2 : Has w2 (w.heap.size + 1 + 1) #[.int .i64 0, .int .i64 0] := (Has.new _ _ _ (by simp)).below hb2
    replace hb2 := bel_on (show Below w.heap.size w _ by (repeat' (first | with_reducible exact Below.refl _ _ | with_reducible assumption | with_reducible refine bel_alloc ?_ _ | with_reducible refine bel_set ?_ ?_ _ | with_reducible refine below_drewN ?_ _ | with_reducible refine below_drew ?_ | (simp; done) | (simp; omega) | omega))) hb2
    obtain ⟨c0, c1, f0, f1⟩ := R2.two
    go_wp2
    refine bodyPost_ret (v := .tuple #[.agg #[.int .i64 (mkN (a * d + c * b) (b * d)), .int .i64 (mkD (a * d + c * b) (b * d))], .int .i64 (mkC (a * d + c * b) (b * d))]) (by simp [results, Try.results42, go_sem, c0, c1]) rfl ⟨by rw [E.out]; rfl, ?_⟩
    (repeat' (first | with_reducible exact Below.refl _ _ | with_reducible assumption | with_reducible refine bel_alloc ?_ _ | with_reducible refine bel_set ?_ ?_ _ | with_reducible refine below_drewN ?_ _ | with_reducible refine below_drew ?_ | (simp; done) | (simp; omega) | omega))
  | false =>
    have E := Lib.hid (show plusR a b c d = badR from if_neg (by rw [hm]; simp))
    have HM := Lib.hid hm
    clear hm
    go_enter Try.func42, Try.ntmps42
    go_wp2_with fail
    refine (two_no _ a b c d _ ha hb hc hd HM.out).mono ?_
    rintro e w2 ⟨rfl, hb2⟩
    have R2 : Has w2 (w.heap.size + 1 + 1) #[.int .i64 0, .int .i64 0] := (Has.new _ _ _ (by simp)).below hb2
    replace hb2 := bel_on (show Below w.heap.size w _ by (repeat' (first | with_reducible exact Below.refl _ _ | with_reducible assumption | with_reducible refine bel_alloc ?_ _ | with_reducible refine bel_set ?_ ?_ _ | with_reducible refine below_drewN ?_ _ | with_reducible refine below_drew ?_ | (simp; done) | (simp; omega) | omega))) hb2
    obtain ⟨c0, c1, f0, f1⟩ := R2.two
    go_wp2
    refine bodyPost_ret (v := .tuple #[.agg #[.int .i64 0, .int .i64 0], .int .i64 20]) (by simp [results, Try.results42, go_sem, c0, c1]) rfl ⟨by rw [E.out]; rfl, ?_⟩
    (repeat' (first | with_reducible exact Below.refl _ _ | with_reducible assumption | with_reducible refine bel_alloc ?_ _ | with_reducible refine bel_set ?_ ?_ _ | with_reducible refine below_drewN ?_ _ | with_reducible refine below_drew ?_ | (simp; done) | (simp; omega) | omega))
end Go.Proofs.Ytoconmcmnikdnaa
