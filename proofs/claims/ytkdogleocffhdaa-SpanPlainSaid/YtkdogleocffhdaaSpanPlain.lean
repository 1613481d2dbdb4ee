/-
  The walk of the law SpanPlain: it answers true, and leaves what was there as it was.
-/
import Derived.Test.YtkdogleocffhdaaSpAwake
namespace Go.Proofs.Ytkdogleocffhdaa
open Go.RowKit
set_option linter.unusedVariables false
set_option linter.unusedSimpArgs false

theorem spanPlain_long (a0 : Option Addr) (len0 cap0 : Nat) (z0 : List (Int × Int)) (a1 : Option Addr) (len1 cap1 : Nat) (z1 : List (Int × Int)) (n : Int) (w : World) (l0 : z0.length = len0) (l0' : len0 ≤ 9223372036854775807) (s0 : Spans w a0 z0) (n0 : a0 = none → cap0 = 0) (l1 : z1.length = len1) (l1' : len1 ≤ 9223372036854775807) (s1 : Spans w a1 z1) (n1 : a1 = none → cap1 = 0) (h : ¬ (len0 ≤ 100 ∧ len1 ≤ 100)) :
    Calls Try.prog 5 #[.slice a0 len0 cap0, .slice a1 len1 cap1, .int .i64 n] w fun e w' => e = .returned (.bool true) ∧ Below w.heap.size w w' := by
  have hd : decide (len0 ≤ 100 ∧ len1 ≤ 100) = false := by simpa using h
  have HD := Lib.hid hd
  clear hd h
  go_enter Try.func5, Try.ntmps5
  go_wp2_with fail
  refine (awake3 _).mono ?_
  rintro e w1 ⟨rfl, b1⟩
  go_wp2_with fail
  refine (few_any a0 a1 len0 len1 cap0 cap1 _ l0' l1').mono ?_
  rw [HD.out]
  rintro e w2 ⟨rfl, rfl⟩
  go_wp2
  go_ret
  exact ⟨rfl, b1⟩
set_option maxHeartbeats 4000000 in
theorem spanPlain_short (a0 : Option Addr) (len0 cap0 : Nat) (z0 : List (Int × Int)) (a1 : Option Addr) (len1 cap1 : Nat) (z1 : List (Int × Int)) (n : Int) (w : World) (l0 : z0.length = len0) (l0' : len0 ≤ 9223372036854775807) (s0 : Spans w a0 z0) (n0 : a0 = none → cap0 = 0) (l1 : z1.length = len1) (l1' : len1 ≤ 9223372036854775807) (s1 : Spans w a1 z1) (n1 : a1 = none → cap1 = 0) (hn : Fit n) (g : len0 ≤ 100 ∧ len1 ≤ 100) :
    Calls Try.prog 5 #[.slice a0 len0 cap0, .slice a1 len1 cap1, .int .i64 n] w fun e w' => e = .returned (.bool true) ∧ Below w.heap.size w w' := by
  subst l0
  subst l1
  have S0a := Lib.hid s0
  have S0b := Lib.hid s1
  have hl0 : z0.length ≤ 100000000 := by omega
  have hl1 : z1.length ≤ 100000000 := by omega
  clear s0 s1
  have HD : Hid (decide (z0.length ≤ 100 ∧ z1.length ≤ 100) = true) := by show _ = _; simpa using g
  have HP := Lib.hid (fun h : PlainFrom 0 z0 => canon_self h)
  have CN := Lib.hid (fun W (h : Spans W a0 z0) => norm_any a0 cap0 z0 W h hl0)
  have CA := Lib.hid (fun W (h : Spans W a0 z0) (h' : Spans W a1 z1) => and_any a0 a1 cap0 cap1 z0 z1 W h h' hl0 hl1)
  have CM := Lib.hid (fun W (h : Spans W a0 z0) (h' : Spans W a1 z1) => minus_any a0 a1 cap0 cap1 z0 z1 W h h' hl0 hl1)
  have CF := Lib.hid (fun W (h : Spans W a0 z0) => first_any a0 cap0 z0 n W h hl0 hn)
  have CL := Lib.hid (fun W (h : Spans W a0 z0) => last_any a0 cap0 z0 n W h hl0 hn)
  have fvA := Fits.canon (fun t => In z0 t ∧ In z1 t)
  have lvA := canon_len (fun t => In z0 t ∧ In z1 t)
  have pvA := canon_plain (fun t => In z0 t ∧ In z1 t)
  have fvM := Fits.canon (fun t => In z0 t ∧ ¬ In z1 t)
  have lvM := canon_len (fun t => In z0 t ∧ ¬ In z1 t)
  have pvM := canon_plain (fun t => In z0 t ∧ ¬ In z1 t)
  have fvF := Fits.canon (fun t => In z0 t ∧ cnt (In z0) t.toNat < n)
  have lvF := canon_len (fun t => In z0 t ∧ cnt (In z0) t.toNat < n)
  have pvF := canon_plain (fun t => In z0 t ∧ cnt (In z0) t.toNat < n)
  have fvL := Fits.canon (lastP z0 n)
  have lvL := canon_len (lastP z0 n)
  have pvL := canon_plain (lastP z0 n)
  have fvN := Fits.canon (In z0)
  have lvN := canon_len (In z0)
  have pvN := canon_plain (In z0)
  have eN := Lib.hid (canon_self (canon_plain (In z0)))
  generalize canon (fun t => In z0 t ∧ In z1 t) = vA at *
  generalize canon (fun t => In z0 t ∧ ¬ In z1 t) = vM at *
  generalize canon (fun t => In z0 t ∧ cnt (In z0) t.toNat < n) = vF at *
  generalize canon (lastP z0 n) = vL at *
  generalize canon (In z0) = vN at *
  have q0 := Lib.hid pvN
  go_enter Try.func5, Try.ntmps5
  go_wp2_with fail
  refine (awake3 _).mono ?_
  rintro e w1 ⟨rfl, b1⟩
  replace b1 := bel_on (show Below w.heap.size w _ by (repeat' (first | with_reducible exact Below.refl _ _ | with_reducible assumption | with_reducible refine bel_alloc ?_ _ | with_reducible refine bel_set ?_ ?_ _ | with_reducible refine below_drewN ?_ _ | with_reducible refine below_drew ?_ | (simp; done) | (simp; omega) | omega))) b1
  have S2 := Lib.hid (S0a.out.below b1)
  clear S0a
  have S3 := Lib.hid (S0b.out.below b1)
  clear S0b
  go_wp2_with fail
  refine (few_any a0 a1 z0.length z1.length cap0 cap1 _ l0' l1').mono ?_
  rw [HD.out]
  rintro e w4 ⟨rfl, rfl⟩
  go_wp2_with fail
  refine (CN.out _ S2.out).mono ?_
  rintro e w5 ⟨D5, d5, rfl, r5, b5⟩
  replace b5 := bel_on (show Below w1.heap.size w1 _ by (repeat' (first | with_reducible exact Below.refl _ _ | with_reducible assumption | with_reducible refine bel_alloc ?_ _ | with_reducible refine bel_set ?_ ?_ _ | with_reducible refine below_drewN ?_ _ | with_reducible refine below_drew ?_ | (simp; done) | (simp; omega) | omega))) b5
  have S5 := Lib.hid (r5.spans fvN)
  clear r5
  have S6 := Lib.hid (S2.out.below b5)
  clear S2
  have S7 := Lib.hid (S3.out.below b5)
  clear S3
  have h8 := bel_on b1 b5
  clear b1 b5
  go_wp2_with fail
  refine (plain_any a0 cap0 z0 _ S6.out hl0).mono ?_
  rintro e w9 ⟨v9, rfl, i9, b9⟩
  replace b9 := bel_on (show Below w5.heap.size w5 _ by (repeat' (first | with_reducible exact Below.refl _ _ | with_reducible assumption | with_reducible refine bel_alloc ?_ _ | with_reducible refine bel_set ?_ ?_ _ | with_reducible refine below_drewN ?_ _ | with_reducible refine below_drew ?_ | (simp; done) | (simp; omega) | omega))) b9
  have S10 := Lib.hid (S6.out.below b9)
  clear S6
  have S11 := Lib.hid (S7.out.below b9)
  clear S7
  have S12 := Lib.hid (S5.out.below b9)
  clear S5
  have h13 := bel_on h8 b9
  clear h8 b9
  cases v9 with
  | false =>
    clear i9
    go_wp2_with fail
    refine (plain_any D5 d5 vN _ S12.out (by omega)).mono ?_
    rintro e w14 ⟨v14, rfl, i14, b14⟩
    replace b14 := bel_on (show Below w9.heap.size w9 _ by (repeat' (first | with_reducible exact Below.refl _ _ | with_reducible assumption | with_reducible refine bel_alloc ?_ _ | with_reducible refine bel_set ?_ ?_ _ | with_reducible refine below_drewN ?_ _ | with_reducible refine below_drew ?_ | (simp; done) | (simp; omega) | omega))) b14
    have S15 := Lib.hid (S10.out.below b14)
    clear S10
    have S16 := Lib.hid (S11.out.below b14)
    clear S11
    have S17 := Lib.hid (S12.out.below b14)
    clear S12
    have h18 := bel_on h13 b14
    clear h13 b14
    obtain rfl : v14 = true := i14.2 pvN
    clear i14
    go_wp2_with fail
    refine (CA.out _ S15.out S16.out).mono ?_
    rintro e w19 ⟨D19, d19, rfl, r19, b19⟩
    replace b19 := bel_on (show Below w14.heap.size w14 _ by (repeat' (first | with_reducible exact Below.refl _ _ | with_reducible assumption | with_reducible refine bel_alloc ?_ _ | with_reducible refine bel_set ?_ ?_ _ | with_reducible refine below_drewN ?_ _ | with_reducible refine below_drew ?_ | (simp; done) | (simp; omega) | omega))) b19
    have S19 := Lib.hid (r19.spans fvA)
    clear r19
    have S20 := Lib.hid (S15.out.below b19)
    clear S15
    have S21 := Lib.hid (S16.out.below b19)
    clear S16
    have S22 := Lib.hid (S17.out.below b19)
    clear S17
    have h23 := bel_on h18 b19
    clear h18 b19
    go_wp2_with fail
    refine (plain_any D19 d19 vA _ S19.out (by omega)).mono ?_
    rintro e w24 ⟨v24, rfl, i24, b24⟩
    replace b24 := bel_on (show Below w19.heap.size w19 _ by (repeat' (first | with_reducible exact Below.refl _ _ | with_reducible assumption | with_reducible refine bel_alloc ?_ _ | with_reducible refine bel_set ?_ ?_ _ | with_reducible refine below_drewN ?_ _ | with_reducible refine below_drew ?_ | (simp; done) | (simp; omega) | omega))) b24
    have S25 := Lib.hid (S20.out.below b24)
    clear S20
    have S26 := Lib.hid (S21.out.below b24)
    clear S21
    have S27 := Lib.hid (S22.out.below b24)
    clear S22
    have S28 := Lib.hid (S19.out.below b24)
    clear S19
    have h29 := bel_on h23 b24
    clear h23 b24
    obtain rfl : v24 = true := i24.2 pvA
    clear i24
    go_wp2_with fail
    refine (CM.out _ S25.out S26.out).mono ?_
    rintro e w30 ⟨D30, d30, rfl, r30, b30⟩
    replace b30 := bel_on (show Below w24.heap.size w24 _ by (repeat' (first | with_reducible exact Below.refl _ _ | with_reducible assumption | with_reducible refine bel_alloc ?_ _ | with_reducible refine bel_set ?_ ?_ _ | with_reducible refine below_drewN ?_ _ | with_reducible refine below_drew ?_ | (simp; done) | (simp; omega) | omega))) b30
    have S30 := Lib.hid (r30.spans fvM)
    clear r30
    have S31 := Lib.hid (S25.out.below b30)
    clear S25
    have S32 := Lib.hid (S26.out.below b30)
    clear S26
    have S33 := Lib.hid (S27.out.below b30)
    clear S27
    have S34 := Lib.hid (S28.out.below b30)
    clear S28
    have h35 := bel_on h29 b30
    clear h29 b30
    go_wp2_with fail
    refine (plain_any D30 d30 vM _ S30.out (by omega)).mono ?_
    rintro e w36 ⟨v36, rfl, i36, b36⟩
    replace b36 := bel_on (show Below w30.heap.size w30 _ by (repeat' (first | with_reducible exact Below.refl _ _ | with_reducible assumption | with_reducible refine bel_alloc ?_ _ | with_reducible refine bel_set ?_ ?_ _ | with_reducible refine below_drewN ?_ _ | with_reducible refine below_drew ?_ | (simp; done) | (simp; omega) | omega))) b36
    have S37 := Lib.hid (S31.out.below b36)
    clear S31
    have S38 := Lib.hid (S32.out.below b36)
    clear S32
    have S39 := Lib.hid (S33.out.below b36)
    clear S33
    have S40 := Lib.hid (S30.out.below b36)
    clear S30
    have h41 := bel_on h35 b36
    clear h35 b36
    obtain rfl : v36 = true := i36.2 pvM
    clear i36
    go_wp2_with fail
    refine (CF.out _ S37.out).mono ?_
    rintro e w42 ⟨D42, d42, rfl, r42, b42⟩
    replace b42 := bel_on (show Below w36.heap.size w36 _ by (repeat' (first | with_reducible exact Below.refl _ _ | with_reducible assumption | with_reducible refine bel_alloc ?_ _ | with_reducible refine bel_set ?_ ?_ _ | with_reducible refine below_drewN ?_ _ | with_reducible refine below_drew ?_ | (simp; done) | (simp; omega) | omega))) b42
    have S42 := Lib.hid (r42.spans fvF)
    clear r42
    have S43 := Lib.hid (S37.out.below b42)
    clear S37
    have S44 := Lib.hid (S38.out.below b42)
    clear S38
    have S45 := Lib.hid (S39.out.below b42)
    clear S39
    have S46 := Lib.hid (S40.out.below b42)
    clear S40
    have h47 := bel_on h41 b42
    clear h41 b42
    go_wp2_with fail
    refine (plain_any D42 d42 vF _ S42.out (by omega)).mono ?_
    rintro e w48 ⟨v48, rfl, i48, b48⟩
    replace b48 := bel_on (show Below w42.heap.size w42 _ by (repeat' (first | with_reducible exact Below.refl _ _ | with_reducible assumption | with_reducible refine bel_alloc ?_ _ | with_reducible refine bel_set ?_ ?_ _ | with_reducible refine below_drewN ?_ _ | with_reducible refine below_drew ?_ | (simp; done) | (simp; omega) | omega))) b48
    have S49 := Lib.hid (S43.out.below b48)
    clear S43
    have S50 := Lib.hid (S44.out.below b48)
    clear S44
    have S51 := Lib.hid (S45.out.below b48)
    clear S45
    have S52 := Lib.hid (S42.out.below b48)
    clear S42
    have h53 := bel_on h47 b48
    clear h47 b48
    obtain rfl : v48 = true := i48.2 pvF
    clear i48
    go_wp2_with fail
    refine (CL.out _ S49.out).mono ?_
    rintro e w54 ⟨D54, d54, rfl, r54, b54⟩
    replace b54 := bel_on (show Below w48.heap.size w48 _ by (repeat' (first | with_reducible exact Below.refl _ _ | with_reducible assumption | with_reducible refine bel_alloc ?_ _ | with_reducible refine bel_set ?_ ?_ _ | with_reducible refine below_drewN ?_ _ | with_reducible refine below_drew ?_ | (simp; done) | (simp; omega) | omega))) b54
    have S54 := Lib.hid (r54.spans fvL)
    clear r54
    have S55 := Lib.hid (S49.out.below b54)
    clear S49
    have S56 := Lib.hid (S50.out.below b54)
    clear S50
    have S57 := Lib.hid (S51.out.below b54)
    clear S51
    have S58 := Lib.hid (S52.out.below b54)
    clear S52
    have h59 := bel_on h53 b54
    clear h53 b54
    go_wp2_with fail
    refine (plain_any D54 d54 vL _ S54.out (by omega)).mono ?_
    rintro e w60 ⟨v60, rfl, i60, b60⟩
    replace b60 := bel_on (show Below w54.heap.size w54 _ by (repeat' (first | with_reducible exact Below.refl _ _ | with_reducible assumption | with_reducible refine bel_alloc ?_ _ | with_reducible refine bel_set ?_ ?_ _ | with_reducible refine below_drewN ?_ _ | with_reducible refine below_drew ?_ | (simp; done) | (simp; omega) | omega))) b60
    have S61 := Lib.hid (S55.out.below b60)
    clear S55
    have S62 := Lib.hid (S56.out.below b60)
    clear S56
    have S63 := Lib.hid (S57.out.below b60)
    clear S57
    have S64 := Lib.hid (S54.out.below b60)
    clear S54
    have h65 := bel_on h59 b60
    clear h59 b60
    obtain rfl : v60 = true := i60.2 pvL
    clear i60
    go_wp2_with fail
    refine (norm_any D5 d5 vN _ S63.out (by omega)).mono ?_
    rw [eN.out]
    rintro e w66 ⟨D66, d66, rfl, r66, b66⟩
    replace b66 := bel_on (show Below w60.heap.size w60 _ by (repeat' (first | with_reducible exact Below.refl _ _ | with_reducible assumption | with_reducible refine bel_alloc ?_ _ | with_reducible refine bel_set ?_ ?_ _ | with_reducible refine below_drewN ?_ _ | with_reducible refine below_drew ?_ | (simp; done) | (simp; omega) | omega))) b66
    have S66 := Lib.hid (r66.spans fvN)
    clear r66
    have S67 := Lib.hid (S61.out.below b66)
    clear S61
    have S68 := Lib.hid (S62.out.below b66)
    clear S62
    have S69 := Lib.hid (S63.out.below b66)
    clear S63
    have S70 := Lib.hid (S64.out.below b66)
    clear S64
    have h71 := bel_on h65 b66
    clear h65 b66
    go_wp2_with fail
    refine (same_any D66 D5 d66 d5 vN _ S66.out S69.out (by omega)).mono ?_
    rintro e w72 ⟨rfl, b72⟩
    replace b72 := bel_on (show Below w66.heap.size w66 _ by (repeat' (first | with_reducible exact Below.refl _ _ | with_reducible assumption | with_reducible refine bel_alloc ?_ _ | with_reducible refine bel_set ?_ ?_ _ | with_reducible refine below_drewN ?_ _ | with_reducible refine below_drew ?_ | (simp; done) | (simp; omega) | omega))) b72
    have S73 := Lib.hid (S67.out.below b72)
    clear S67
    have S74 := Lib.hid (S68.out.below b72)
    clear S68
    have S75 := Lib.hid (S69.out.below b72)
    clear S69
    have S76 := Lib.hid (S70.out.below b72)
    clear S70
    have S77 := Lib.hid (S66.out.below b72)
    clear S66
    have h78 := bel_on h71 b72
    clear h71 b72
    go_wp2
    go_ret
    exact ⟨rfl, h78⟩
  | true =>
    have e := HP.out (i9.1 rfl)
    clear i9
    subst e
    go_wp2_with fail
    refine (same_any D5 a0 d5 cap0 vN _ S12.out S10.out (by omega)).mono ?_
    rintro e w14 ⟨rfl, b14⟩
    replace b14 := bel_on (show Below w9.heap.size w9 _ by (repeat' (first | with_reducible exact Below.refl _ _ | with_reducible assumption | with_reducible refine bel_alloc ?_ _ | with_reducible refine bel_set ?_ ?_ _ | with_reducible refine below_drewN ?_ _ | with_reducible refine below_drew ?_ | (simp; done) | (simp; omega) | omega))) b14
    have S15 := Lib.hid (S10.out.below b14)
    clear S10
    have S16 := Lib.hid (S11.out.below b14)
    clear S11
    have S17 := Lib.hid (S12.out.below b14)
    clear S12
    have h18 := bel_on h13 b14
    clear h13 b14
    go_wp2_with fail
    refine (plain_any D5 d5 vN _ S17.out (by omega)).mono ?_
    rintro e w19 ⟨v19, rfl, i19, b19⟩
    replace b19 := bel_on (show Below w14.heap.size w14 _ by (repeat' (first | with_reducible exact Below.refl _ _ | with_reducible assumption | with_reducible refine bel_alloc ?_ _ | with_reducible refine bel_set ?_ ?_ _ | with_reducible refine below_drewN ?_ _ | with_reducible refine below_drew ?_ | (simp; done) | (simp; omega) | omega))) b19
    have S20 := Lib.hid (S15.out.below b19)
    clear S15
    have S21 := Lib.hid (S16.out.below b19)
    clear S16
    have S22 := Lib.hid (S17.out.below b19)
    clear S17
    have h23 := bel_on h18 b19
    clear h18 b19
    obtain rfl : v19 = true := i19.2 pvN
    clear i19
    go_wp2_with fail
    refine (CA.out _ S20.out S21.out).mono ?_
    rintro e w24 ⟨D24, d24, rfl, r24, b24⟩
    replace b24 := bel_on (show Below w19.heap.size w19 _ by (repeat' (first | with_reducible exact Below.refl _ _ | with_reducible assumption | with_reducible refine bel_alloc ?_ _ | with_reducible refine bel_set ?_ ?_ _ | with_reducible refine below_drewN ?_ _ | with_reducible refine below_drew ?_ | (simp; done) | (simp; omega) | omega))) b24
    have S24 := Lib.hid (r24.spans fvA)
    clear r24
    have S25 := Lib.hid (S20.out.below b24)
    clear S20
    have S26 := Lib.hid (S21.out.below b24)
    clear S21
    have S27 := Lib.hid (S22.out.below b24)
    clear S22
    have h28 := bel_on h23 b24
    clear h23 b24
    go_wp2_with fail
    refine (plain_any D24 d24 vA _ S24.out (by omega)).mono ?_
    rintro e w29 ⟨v29, rfl, i29, b29⟩
    replace b29 := bel_on (show Below w24.heap.size w24 _ by (repeat' (first | with_reducible exact Below.refl _ _ | with_reducible assumption | with_reducible refine bel_alloc ?_ _ | with_reducible refine bel_set ?_ ?_ _ | with_reducible refine below_drewN ?_ _ | with_reducible refine below_drew ?_ | (simp; done) | (simp; omega) | omega))) b29
    have S30 := Lib.hid (S25.out.below b29)
    clear S25
    have S31 := Lib.hid (S26.out.below b29)
    clear S26
    have S32 := Lib.hid (S27.out.below b29)
    clear S27
    have S33 := Lib.hid (S24.out.below b29)
    clear S24
    have h34 := bel_on h28 b29
    clear h28 b29
    obtain rfl : v29 = true := i29.2 pvA
    clear i29
    go_wp2_with fail
    refine (CM.out _ S30.out S31.out).mono ?_
    rintro e w35 ⟨D35, d35, rfl, r35, b35⟩
    replace b35 := bel_on (show Below w29.heap.size w29 _ by (repeat' (first | with_reducible exact Below.refl _ _ | with_reducible assumption | with_reducible refine bel_alloc ?_ _ | with_reducible refine bel_set ?_ ?_ _ | with_reducible refine below_drewN ?_ _ | with_reducible refine below_drew ?_ | (simp; done) | (simp; omega) | omega))) b35
    have S35 := Lib.hid (r35.spans fvM)
    clear r35
    have S36 := Lib.hid (S30.out.below b35)
    clear S30
    have S37 := Lib.hid (S31.out.below b35)
    clear S31
    have S38 := Lib.hid (S32.out.below b35)
    clear S32
    have S39 := Lib.hid (S33.out.below b35)
    clear S33
    have h40 := bel_on h34 b35
    clear h34 b35
    go_wp2_with fail
    refine (plain_any D35 d35 vM _ S35.out (by omega)).mono ?_
    rintro e w41 ⟨v41, rfl, i41, b41⟩
    replace b41 := bel_on (show Below w35.heap.size w35 _ by (repeat' (first | with_reducible exact Below.refl _ _ | with_reducible assumption | with_reducible refine bel_alloc ?_ _ | with_reducible refine bel_set ?_ ?_ _ | with_reducible refine below_drewN ?_ _ | with_reducible refine below_drew ?_ | (simp; done) | (simp; omega) | omega))) b41
    have S42 := Lib.hid (S36.out.below b41)
    clear S36
    have S43 := Lib.hid (S37.out.below b41)
    clear S37
    have S44 := Lib.hid (S38.out.below b41)
    clear S38
    have S45 := Lib.hid (S35.out.below b41)
    clear S35
    have h46 := bel_on h40 b41
    clear h40 b41
    obtain rfl : v41 = true := i41.2 pvM
    clear i41
    go_wp2_with fail
    refine (CF.out _ S42.out).mono ?_
    rintro e w47 ⟨D47, d47, rfl, r47, b47⟩
    replace b47 := bel_on (show Below w41.heap.size w41 _ by (repeat' (first | with_reducible exact Below.refl _ _ | with_reducible assumption | with_reducible refine bel_alloc ?_ _ | with_reducible refine bel_set ?_ ?_ _ | with_reducible refine below_drewN ?_ _ | with_reducible refine below_drew ?_ | (simp; done) | (simp; omega) | omega))) b47
    have S47 := Lib.hid (r47.spans fvF)
    clear r47
    have S48 := Lib.hid (S42.out.below b47)
    clear S42
    have S49 := Lib.hid (S43.out.below b47)
    clear S43
    have S50 := Lib.hid (S44.out.below b47)
    clear S44
    have S51 := Lib.hid (S45.out.below b47)
    clear S45
    have h52 := bel_on h46 b47
    clear h46 b47
    go_wp2_with fail
    refine (plain_any D47 d47 vF _ S47.out (by omega)).mono ?_
    rintro e w53 ⟨v53, rfl, i53, b53⟩
    replace b53 := bel_on (show Below w47.heap.size w47 _ by (repeat' (first | with_reducible exact Below.refl _ _ | with_reducible assumption | with_reducible refine bel_alloc ?_ _ | with_reducible refine bel_set ?_ ?_ _ | with_reducible refine below_drewN ?_ _ | with_reducible refine below_drew ?_ | (simp; done) | (simp; omega) | omega))) b53
    have S54 := Lib.hid (S48.out.below b53)
    clear S48
    have S55 := Lib.hid (S49.out.below b53)
    clear S49
    have S56 := Lib.hid (S50.out.below b53)
    clear S50
    have S57 := Lib.hid (S47.out.below b53)
    clear S47
    have h58 := bel_on h52 b53
    clear h52 b53
    obtain rfl : v53 = true := i53.2 pvF
    clear i53
    go_wp2_with fail
    refine (CL.out _ S54.out).mono ?_
    rintro e w59 ⟨D59, d59, rfl, r59, b59⟩
    replace b59 := bel_on (show Below w53.heap.size w53 _ by (repeat' (first | with_reducible exact Below.refl _ _ | with_reducible assumption | with_reducible refine bel_alloc ?_ _ | with_reducible refine bel_set ?_ ?_ _ | with_reducible refine below_drewN ?_ _ | with_reducible refine below_drew ?_ | (simp; done) | (simp; omega) | omega))) b59
    have S59 := Lib.hid (r59.spans fvL)
    clear r59
    have S60 := Lib.hid (S54.out.below b59)
    clear S54
    have S61 := Lib.hid (S55.out.below b59)
    clear S55
    have S62 := Lib.hid (S56.out.below b59)
    clear S56
    have S63 := Lib.hid (S57.out.below b59)
    clear S57
    have h64 := bel_on h58 b59
    clear h58 b59
    go_wp2_with fail
    refine (plain_any D59 d59 vL _ S59.out (by omega)).mono ?_
    rintro e w65 ⟨v65, rfl, i65, b65⟩
    replace b65 := bel_on (show Below w59.heap.size w59 _ by (repeat' (first | with_reducible exact Below.refl _ _ | with_reducible assumption | with_reducible refine bel_alloc ?_ _ | with_reducible refine bel_set ?_ ?_ _ | with_reducible refine below_drewN ?_ _ | with_reducible refine below_drew ?_ | (simp; done) | (simp; omega) | omega))) b65
    have S66 := Lib.hid (S60.out.below b65)
    clear S60
    have S67 := Lib.hid (S61.out.below b65)
    clear S61
    have S68 := Lib.hid (S62.out.below b65)
    clear S62
    have S69 := Lib.hid (S59.out.below b65)
    clear S59
    have h70 := bel_on h64 b65
    clear h64 b65
    obtain rfl : v65 = true := i65.2 pvL
    clear i65
    go_wp2_with fail
    refine (norm_any D5 d5 vN _ S68.out (by omega)).mono ?_
    rw [eN.out]
    rintro e w71 ⟨D71, d71, rfl, r71, b71⟩
    replace b71 := bel_on (show Below w65.heap.size w65 _ by (repeat' (first | with_reducible exact Below.refl _ _ | with_reducible assumption | with_reducible refine bel_alloc ?_ _ | with_reducible refine bel_set ?_ ?_ _ | with_reducible refine below_drewN ?_ _ | with_reducible refine below_drew ?_ | (simp; done) | (simp; omega) | omega))) b71
    have S71 := Lib.hid (r71.spans fvN)
    clear r71
    have S72 := Lib.hid (S66.out.below b71)
    clear S66
    have S73 := Lib.hid (S67.out.below b71)
    clear S67
    have S74 := Lib.hid (S68.out.below b71)
    clear S68
    have S75 := Lib.hid (S69.out.below b71)
    clear S69
    have h76 := bel_on h70 b71
    clear h70 b71
    go_wp2_with fail
    refine (same_any D71 D5 d71 d5 vN _ S71.out S74.out (by omega)).mono ?_
    rintro e w77 ⟨rfl, b77⟩
    replace b77 := bel_on (show Below w71.heap.size w71 _ by (repeat' (first | with_reducible exact Below.refl _ _ | with_reducible assumption | with_reducible refine bel_alloc ?_ _ | with_reducible refine bel_set ?_ ?_ _ | with_reducible refine below_drewN ?_ _ | with_reducible refine below_drew ?_ | (simp; done) | (simp; omega) | omega))) b77
    have S78 := Lib.hid (S72.out.below b77)
    clear S72
    have S79 := Lib.hid (S73.out.below b77)
    clear S73
    have S80 := Lib.hid (S74.out.below b77)
    clear S74
    have S81 := Lib.hid (S75.out.below b77)
    clear S75
    have S82 := Lib.hid (S71.out.below b77)
    clear S71
    have h83 := bel_on h76 b77
    clear h76 b77
    go_wp2
    go_ret
    exact ⟨rfl, h83⟩
theorem spanPlain_walk (a0 : Option Addr) (len0 cap0 : Nat) (z0 : List (Int × Int)) (a1 : Option Addr) (len1 cap1 : Nat) (z1 : List (Int × Int)) (n : Int) (w : World) (l0 : z0.length = len0) (l0' : len0 ≤ 9223372036854775807) (s0 : Spans w a0 z0) (n0 : a0 = none → cap0 = 0) (l1 : z1.length = len1) (l1' : len1 ≤ 9223372036854775807) (s1 : Spans w a1 z1) (n1 : a1 = none → cap1 = 0) (hn1 : -9223372036854775808 ≤ n) (hn2 : n ≤ 9223372036854775807) :
    Calls Try.prog 5 #[.slice a0 len0 cap0, .slice a1 len1 cap1, .int .i64 n] w fun e w' => e = .returned (.bool true) ∧ Below w.heap.size w w' := by
  by_cases g : len0 ≤ 100 ∧ len1 ≤ 100
  · exact spanPlain_short a0 len0 cap0 z0 a1 len1 cap1 z1 n w l0 l0' s0 n0 l1 l1' s1 n1 ⟨hn1, hn2⟩ g
  · exact spanPlain_long a0 len0 cap0 z0 a1 len1 cap1 z1 n w l0 l0' s0 n0 l1 l1' s1 n1 g
end Go.Proofs.Ytkdogleocffhdaa
