/-
  The walk of the law SpanTells: it answers true, and leaves what was there as it was.
-/
import Derived.Test.YtkdogleocffhdaaSpAwake
namespace Go.Proofs.Ytkdogleocffhdaa
open Go.RowKit
set_option linter.unusedVariables false
set_option linter.unusedSimpArgs false

theorem spanTells_long (a0 : Option Addr) (len0 cap0 : Nat) (z0 : List (Int × Int)) (a1 : Option Addr) (len1 cap1 : Nat) (z1 : List (Int × Int)) (t n : Int) (w : World) (l0 : z0.length = len0) (l0' : len0 ≤ 9223372036854775807) (s0 : Spans w a0 z0) (n0 : a0 = none → cap0 = 0) (l1 : z1.length = len1) (l1' : len1 ≤ 9223372036854775807) (s1 : Spans w a1 z1) (n1 : a1 = none → cap1 = 0) (h : ¬ (len0 ≤ 100 ∧ len1 ≤ 100)) :
    Calls Try.prog 3 #[.slice a0 len0 cap0, .slice a1 len1 cap1, .int .i64 t, .int .i64 n] w fun e w' => e = .returned (.bool true) ∧ Below w.heap.size w w' := by
  have hd : decide (len0 ≤ 100 ∧ len1 ≤ 100) = false := by simpa using h
  have HD := Lib.hid hd
  clear hd h
  go_enter Try.func3, Try.ntmps3
  go_wp2_with fail
  refine (awake3 _).mono ?_
  rintro e w1 ⟨rfl, b1⟩
  go_wp2_with fail
  refine (few_any a0 a1 len0 len1 cap0 cap1 _ l0' l1').mono ?_
  rw [HD.out]
  rintro e w2 ⟨rfl, rfl⟩
  go_wp2
  go_ret
  exact ⟨rfl, b1⟩
set_option maxHeartbeats 4000000 in
theorem spanTells_short (a0 : Option Addr) (len0 cap0 : Nat) (z0 : List (Int × Int)) (a1 : Option Addr) (len1 cap1 : Nat) (z1 : List (Int × Int)) (t n : Int) (w : World) (l0 : z0.length = len0) (l0' : len0 ≤ 9223372036854775807) (s0 : Spans w a0 z0) (n0 : a0 = none → cap0 = 0) (l1 : z1.length = len1) (l1' : len1 ≤ 9223372036854775807) (s1 : Spans w a1 z1) (n1 : a1 = none → cap1 = 0) (hn : Fit n) (g : len0 ≤ 100 ∧ len1 ≤ 100) :
    Calls Try.prog 3 #[.slice a0 len0 cap0, .slice a1 len1 cap1, .int .i64 t, .int .i64 n] w fun e w' => e = .returned (.bool true) ∧ Below w.heap.size w w' := by
  subst l0
  subst l1
  have S0a := Lib.hid s0
  have S0b := Lib.hid s1
  have hl0 : z0.length ≤ 100000000 := by omega
  have hl1 : z1.length ≤ 100000000 := by omega
  clear s0 s1
  have HD : Hid (decide (z0.length ≤ 100 ∧ z1.length ≤ 100) = true) := by show _ = _; simpa using g
  have CN := Lib.hid (fun W (h : Spans W a0 z0) => norm_any a0 cap0 z0 W h hl0)
  have CrN := Lib.hid (fun W (h : Spans W a0 z0) => rnorm_any a0 cap0 z0 W h hl0)
  have CA := Lib.hid (fun W (h : Spans W a0 z0) (h' : Spans W a1 z1) => and_any a0 a1 cap0 cap1 z0 z1 W h h' hl0 hl1)
  have CrA := Lib.hid (fun W (h : Spans W a0 z0) (h' : Spans W a1 z1) => rand_any a0 a1 cap0 cap1 z0 z1 W h h' hl0 hl1)
  have CM := Lib.hid (fun W (h : Spans W a0 z0) (h' : Spans W a1 z1) => minus_any a0 a1 cap0 cap1 z0 z1 W h h' hl0 hl1)
  have CrM := Lib.hid (fun W (h : Spans W a0 z0) (h' : Spans W a1 z1) => rminus_any a0 a1 cap0 cap1 z0 z1 W h h' hl0 hl1)
  have CF := Lib.hid (fun W (h : Spans W a0 z0) => first_any a0 cap0 z0 n W h hl0 hn)
  have CrF := Lib.hid (fun W (h : Spans W a0 z0) => rfirst_any a0 cap0 z0 n W h hl0 hn)
  have CL := Lib.hid (fun W (h : Spans W a0 z0) => last_any a0 cap0 z0 n W h hl0 hn)
  have CrL := Lib.hid (fun W (h : Spans W a0 z0) => rlast_any a0 cap0 z0 n W h hl0 hn)
  have CS := Lib.hid (fun W (h : Spans W a0 z0) => size_any a0 cap0 z0 W h hl0)
  have CrS := Lib.hid (fun W (h : Spans W a0 z0) => rsize_any a0 cap0 z0 W h hl0)
  have CH := Lib.hid (fun W (h : Spans W a0 z0) => has_any a0 cap0 z0 t W h hl0)
  have CrH := Lib.hid (fun W (h : Spans W a0 z0) => rhas_any a0 cap0 z0 t W h hl0)
  have fvA := Fits.canon (fun t => In z0 t ∧ In z1 t)
  have lvA := canon_len (fun t => In z0 t ∧ In z1 t)
  have fvM := Fits.canon (fun t => In z0 t ∧ ¬ In z1 t)
  have lvM := canon_len (fun t => In z0 t ∧ ¬ In z1 t)
  have fvF := Fits.canon (fun t => In z0 t ∧ cnt (In z0) t.toNat < n)
  have lvF := canon_len (fun t => In z0 t ∧ cnt (In z0) t.toNat < n)
  have fvL := Fits.canon (lastP z0 n)
  have lvL := canon_len (lastP z0 n)
  have fvN := Fits.canon (In z0)
  have lvN := canon_len (In z0)
  generalize canon (fun t => In z0 t ∧ In z1 t) = vA at *
  generalize canon (fun t => In z0 t ∧ ¬ In z1 t) = vM at *
  generalize canon (fun t => In z0 t ∧ cnt (In z0) t.toNat < n) = vF at *
  generalize canon (lastP z0 n) = vL at *
  generalize canon (In z0) = vN at *
  generalize sz (In z0) = zz at *
  generalize hasB z0 t = hh at *
  go_enter Try.func3, Try.ntmps3
  go_wp2_with fail
  refine (awake3 _).mono ?_
  rintro e w1 ⟨rfl, b1⟩
  replace b1 := bel_on (show Below w.heap.size w _ by (repeat' (first | with_reducible exact Below.refl _ _ | with_reducible assumption | with_reducible refine bel_alloc ?_ _ | with_reducible refine bel_set ?_ ?_ _ | with_reducible refine below_drewN ?_ _ | with_reducible refine below_drew ?_ | (simp; done) | (simp; omega) | omega))) b1
  have S2 := Lib.hid (S0a.out.below b1)
  clear S0a
  have S3 := Lib.hid (S0b.out.below b1)
  clear S0b
  go_wp2_with fail
  refine (few_any a0 a1 z0.length z1.length cap0 cap1 _ l0' l1').mono ?_
  rw [HD.out]
  rintro e w4 ⟨rfl, rfl⟩
  go_wp2_with fail
  refine (CN.out _ S2.out).mono ?_
  rintro e w5 ⟨D5, d5, rfl, r5, b5⟩
  replace b5 := bel_on (show Below w1.heap.size w1 _ by (repeat' (first | with_reducible exact Below.refl _ _ | with_reducible assumption | with_reducible refine bel_alloc ?_ _ | with_reducible refine bel_set ?_ ?_ _ | with_reducible refine below_drewN ?_ _ | with_reducible refine below_drew ?_ | (simp; done) | (simp; omega) | omega))) b5
  have S5 := Lib.hid (r5.spans fvN)
  clear r5
  have S6 := Lib.hid (S2.out.below b5)
  clear S2
  have S7 := Lib.hid (S3.out.below b5)
  clear S3
  have h8 := bel_on b1 b5
  clear b1 b5
  go_wp2_with fail
  refine (CrN.out _ S6.out).mono ?_
  rintro e w9 ⟨D9, d9, rfl, r9, b9⟩
  replace b9 := bel_on (show Below w5.heap.size w5 _ by (repeat' (first | with_reducible exact Below.refl _ _ | with_reducible assumption | with_reducible refine bel_alloc ?_ _ | with_reducible refine bel_set ?_ ?_ _ | with_reducible refine below_drewN ?_ _ | with_reducible refine below_drew ?_ | (simp; done) | (simp; omega) | omega))) b9
  have S9 := Lib.hid (r9.spans fvN)
  clear r9
  have S10 := Lib.hid (S6.out.below b9)
  clear S6
  have S11 := Lib.hid (S7.out.below b9)
  clear S7
  have S12 := Lib.hid (S5.out.below b9)
  clear S5
  have h13 := bel_on h8 b9
  clear h8 b9
  go_wp2_with fail
  refine (same_any D5 D9 d5 d9 vN _ S12.out S9.out (by omega)).mono ?_
  rintro e w14 ⟨rfl, b14⟩
  replace b14 := bel_on (show Below w9.heap.size w9 _ by (repeat' (first | with_reducible exact Below.refl _ _ | with_reducible assumption | with_reducible refine bel_alloc ?_ _ | with_reducible refine bel_set ?_ ?_ _ | with_reducible refine below_drewN ?_ _ | with_reducible refine below_drew ?_ | (simp; done) | (simp; omega) | omega))) b14
  have S15 := Lib.hid (S10.out.below b14)
  clear S10
  have S16 := Lib.hid (S11.out.below b14)
  clear S11
  have h17 := bel_on h13 b14
  clear h13 b14
  go_wp2_with fail
  refine (CA.out _ S15.out S16.out).mono ?_
  rintro e w18 ⟨D18, d18, rfl, r18, b18⟩
  replace b18 := bel_on (show Below w14.heap.size w14 _ by (repeat' (first | with_reducible exact Below.refl _ _ | with_reducible assumption | with_reducible refine bel_alloc ?_ _ | with_reducible refine bel_set ?_ ?_ _ | with_reducible refine below_drewN ?_ _ | with_reducible refine below_drew ?_ | (simp; done) | (simp; omega) | omega))) b18
  have S18 := Lib.hid (r18.spans fvA)
  clear r18
  have S19 := Lib.hid (S15.out.below b18)
  clear S15
  have S20 := Lib.hid (S16.out.below b18)
  clear S16
  have h21 := bel_on h17 b18
  clear h17 b18
  go_wp2_with fail
  refine (CrA.out _ S19.out S20.out).mono ?_
  rintro e w22 ⟨D22, d22, rfl, r22, b22⟩
  replace b22 := bel_on (show Below w18.heap.size w18 _ by (repeat' (first | with_reducible exact Below.refl _ _ | with_reducible assumption | with_reducible refine bel_alloc ?_ _ | with_reducible refine bel_set ?_ ?_ _ | with_reducible refine below_drewN ?_ _ | with_reducible refine below_drew ?_ | (simp; done) | (simp; omega) | omega))) b22
  have S22 := Lib.hid (r22.spans fvA)
  clear r22
  have S23 := Lib.hid (S19.out.below b22)
  clear S19
  have S24 := Lib.hid (S20.out.below b22)
  clear S20
  have S25 := Lib.hid (S18.out.below b22)
  clear S18
  have h26 := bel_on h21 b22
  clear h21 b22
  go_wp2_with fail
  refine (same_any D18 D22 d18 d22 vA _ S25.out S22.out (by omega)).mono ?_
  rintro e w27 ⟨rfl, b27⟩
  replace b27 := bel_on (show Below w22.heap.size w22 _ by (repeat' (first | with_reducible exact Below.refl _ _ | with_reducible assumption | with_reducible refine bel_alloc ?_ _ | with_reducible refine bel_set ?_ ?_ _ | with_reducible refine below_drewN ?_ _ | with_reducible refine below_drew ?_ | (simp; done) | (simp; omega) | omega))) b27
  have S28 := Lib.hid (S23.out.below b27)
  clear S23
  have S29 := Lib.hid (S24.out.below b27)
  clear S24
  have h30 := bel_on h26 b27
  clear h26 b27
  go_wp2_with fail
  refine (CM.out _ S28.out S29.out).mono ?_
  rintro e w31 ⟨D31, d31, rfl, r31, b31⟩
  replace b31 := bel_on (show Below w27.heap.size w27 _ by (repeat' (first | with_reducible exact Below.refl _ _ | with_reducible assumption | with_reducible refine bel_alloc ?_ _ | with_reducible refine bel_set ?_ ?_ _ | with_reducible refine below_drewN ?_ _ | with_reducible refine below_drew ?_ | (simp; done) | (simp; omega) | omega))) b31
  have S31 := Lib.hid (r31.spans fvM)
  clear r31
  have S32 := Lib.hid (S28.out.below b31)
  clear S28
  have S33 := Lib.hid (S29.out.below b31)
  clear S29
  have h34 := bel_on h30 b31
  clear h30 b31
  go_wp2_with fail
  refine (CrM.out _ S32.out S33.out).mono ?_
  rintro e w35 ⟨D35, d35, rfl, r35, b35⟩
  replace b35 := bel_on (show Below w31.heap.size w31 _ by (repeat' (first | with_reducible exact Below.refl _ _ | with_reducible assumption | with_reducible refine bel_alloc ?_ _ | with_reducible refine bel_set ?_ ?_ _ | with_reducible refine below_drewN ?_ _ | with_reducible refine below_drew ?_ | (simp; done) | (simp; omega) | omega))) b35
  have S35 := Lib.hid (r35.spans fvM)
  clear r35
  have S36 := Lib.hid (S32.out.below b35)
  clear S32
  have S37 := Lib.hid (S33.out.below b35)
  clear S33
  have S38 := Lib.hid (S31.out.below b35)
  clear S31
  have h39 := bel_on h34 b35
  clear h34 b35
  go_wp2_with fail
  refine (same_any D31 D35 d31 d35 vM _ S38.out S35.out (by omega)).mono ?_
  rintro e w40 ⟨rfl, b40⟩
  replace b40 := bel_on (show Below w35.heap.size w35 _ by (repeat' (first | with_reducible exact Below.refl _ _ | with_reducible assumption | with_reducible refine bel_alloc ?_ _ | with_reducible refine bel_set ?_ ?_ _ | with_reducible refine below_drewN ?_ _ | with_reducible refine below_drew ?_ | (simp; done) | (simp; omega) | omega))) b40
  have S41 := Lib.hid (S36.out.below b40)
  clear S36
  have S42 := Lib.hid (S37.out.below b40)
  clear S37
  have h43 := bel_on h39 b40
  clear h39 b40
  go_wp2_with fail
  refine (CF.out _ S41.out).mono ?_
  rintro e w44 ⟨D44, d44, rfl, r44, b44⟩
  replace b44 := bel_on (show Below w40.heap.size w40 _ by (repeat' (first | with_reducible exact Below.refl _ _ | with_reducible assumption | with_reducible refine bel_alloc ?_ _ | with_reducible refine bel_set ?_ ?_ _ | with_reducible refine below_drewN ?_ _ | with_reducible refine below_drew ?_ | (simp; done) | (simp; omega) | omega))) b44
  have S44 := Lib.hid (r44.spans fvF)
  clear r44
  have S45 := Lib.hid (S41.out.below b44)
  clear S41
  have S46 := Lib.hid (S42.out.below b44)
  clear S42
  have h47 := bel_on h43 b44
  clear h43 b44
  go_wp2_with fail
  refine (CrF.out _ S45.out).mono ?_
  rintro e w48 ⟨D48, d48, rfl, r48, b48⟩
  replace b48 := bel_on (show Below w44.heap.size w44 _ by (repeat' (first | with_reducible exact Below.refl _ _ | with_reducible assumption | with_reducible refine bel_alloc ?_ _ | with_reducible refine bel_set ?_ ?_ _ | with_reducible refine below_drewN ?_ _ | with_reducible refine below_drew ?_ | (simp; done) | (simp; omega) | omega))) b48
  have S48 := Lib.hid (r48.spans fvF)
  clear r48
  have S49 := Lib.hid (S45.out.below b48)
  clear S45
  have S50 := Lib.hid (S46.out.below b48)
  clear S46
  have S51 := Lib.hid (S44.out.below b48)
  clear S44
  have h52 := bel_on h47 b48
  clear h47 b48
  go_wp2_with fail
  refine (same_any D44 D48 d44 d48 vF _ S51.out S48.out (by omega)).mono ?_
  rintro e w53 ⟨rfl, b53⟩
  replace b53 := bel_on (show Below w48.heap.size w48 _ by (repeat' (first | with_reducible exact Below.refl _ _ | with_reducible assumption | with_reducible refine bel_alloc ?_ _ | with_reducible refine bel_set ?_ ?_ _ | with_reducible refine below_drewN ?_ _ | with_reducible refine below_drew ?_ | (simp; done) | (simp; omega) | omega))) b53
  have S54 := Lib.hid (S49.out.below b53)
  clear S49
  have S55 := Lib.hid (S50.out.below b53)
  clear S50
  have h56 := bel_on h52 b53
  clear h52 b53
  go_wp2_with fail
  refine (CL.out _ S54.out).mono ?_
  rintro e w57 ⟨D57, d57, rfl, r57, b57⟩
  replace b57 := bel_on (show Below w53.heap.size w53 _ by (repeat' (first | with_reducible exact Below.refl _ _ | with_reducible assumption | with_reducible refine bel_alloc ?_ _ | with_reducible refine bel_set ?_ ?_ _ | with_reducible refine below_drewN ?_ _ | with_reducible refine below_drew ?_ | (simp; done) | (simp; omega) | omega))) b57
  have S57 := Lib.hid (r57.spans fvL)
  clear r57
  have S58 := Lib.hid (S54.out.below b57)
  clear S54
  have S59 := Lib.hid (S55.out.below b57)
  clear S55
  have h60 := bel_on h56 b57
  clear h56 b57
  go_wp2_with fail
  refine (CrL.out _ S58.out).mono ?_
  rintro e w61 ⟨D61, d61, rfl, r61, b61⟩
  replace b61 := bel_on (show Below w57.heap.size w57 _ by (repeat' (first | with_reducible exact Below.refl _ _ | with_reducible assumption | with_reducible refine bel_alloc ?_ _ | with_reducible refine bel_set ?_ ?_ _ | with_reducible refine below_drewN ?_ _ | with_reducible refine below_drew ?_ | (simp; done) | (simp; omega) | omega))) b61
  have S61 := Lib.hid (r61.spans fvL)
  clear r61
  have S62 := Lib.hid (S58.out.below b61)
  clear S58
  have S63 := Lib.hid (S59.out.below b61)
  clear S59
  have S64 := Lib.hid (S57.out.below b61)
  clear S57
  have h65 := bel_on h60 b61
  clear h60 b61
  go_wp2_with fail
  refine (same_any D57 D61 d57 d61 vL _ S64.out S61.out (by omega)).mono ?_
  rintro e w66 ⟨rfl, b66⟩
  replace b66 := bel_on (show Below w61.heap.size w61 _ by (repeat' (first | with_reducible exact Below.refl _ _ | with_reducible assumption | with_reducible refine bel_alloc ?_ _ | with_reducible refine bel_set ?_ ?_ _ | with_reducible refine below_drewN ?_ _ | with_reducible refine below_drew ?_ | (simp; done) | (simp; omega) | omega))) b66
  have S67 := Lib.hid (S62.out.below b66)
  clear S62
  have S68 := Lib.hid (S63.out.below b66)
  clear S63
  have h69 := bel_on h65 b66
  clear h65 b66
  go_wp2_with fail
  refine (CS.out _ S67.out).mono ?_
  rintro e w70 ⟨rfl, b70⟩
  replace b70 := bel_on (show Below w66.heap.size w66 _ by (repeat' (first | with_reducible exact Below.refl _ _ | with_reducible assumption | with_reducible refine bel_alloc ?_ _ | with_reducible refine bel_set ?_ ?_ _ | with_reducible refine below_drewN ?_ _ | with_reducible refine below_drew ?_ | (simp; done) | (simp; omega) | omega))) b70
  have S71 := Lib.hid (S67.out.below b70)
  clear S67
  have h72 := bel_on h69 b70
  clear h69 b70
  go_wp2_with fail
  refine (CrS.out _ S71.out).mono ?_
  rintro e w73 ⟨rfl, b73⟩
  replace b73 := bel_on (show Below w70.heap.size w70 _ by (repeat' (first | with_reducible exact Below.refl _ _ | with_reducible assumption | with_reducible refine bel_alloc ?_ _ | with_reducible refine bel_set ?_ ?_ _ | with_reducible refine below_drewN ?_ _ | with_reducible refine below_drew ?_ | (simp; done) | (simp; omega) | omega))) b73
  have S74 := Lib.hid (S71.out.below b73)
  clear S71
  have h75 := bel_on h72 b73
  clear h72 b73
  go_wp2_with fail
  refine (CH.out _ S74.out).mono ?_
  rintro e w76 ⟨rfl, b76⟩
  replace b76 := bel_on (show Below w73.heap.size w73 _ by (repeat' (first | with_reducible exact Below.refl _ _ | with_reducible assumption | with_reducible refine bel_alloc ?_ _ | with_reducible refine bel_set ?_ ?_ _ | with_reducible refine below_drewN ?_ _ | with_reducible refine below_drew ?_ | (simp; done) | (simp; omega) | omega))) b76
  have S77 := Lib.hid (S74.out.below b76)
  clear S74
  have h78 := bel_on h75 b76
  clear h75 b76
  go_wp2_with fail
  refine (CrH.out _ S77.out).mono ?_
  rintro e w79 ⟨rfl, b79⟩
  replace b79 := bel_on (show Below w76.heap.size w76 _ by (repeat' (first | with_reducible exact Below.refl _ _ | with_reducible assumption | with_reducible refine bel_alloc ?_ _ | with_reducible refine bel_set ?_ ?_ _ | with_reducible refine below_drewN ?_ _ | with_reducible refine below_drew ?_ | (simp; done) | (simp; omega) | omega))) b79
  have S80 := Lib.hid (S77.out.below b79)
  clear S77
  have h81 := bel_on h78 b79
  clear h78 b79
  cases hh <;>
  · go_wp2
    go_ret
    exact ⟨rfl, h81⟩
theorem spanTells_walk (a0 : Option Addr) (len0 cap0 : Nat) (z0 : List (Int × Int)) (a1 : Option Addr) (len1 cap1 : Nat) (z1 : List (Int × Int)) (t n : Int) (w : World) (l0 : z0.length = len0) (l0' : len0 ≤ 9223372036854775807) (s0 : Spans w a0 z0) (n0 : a0 = none → cap0 = 0) (l1 : z1.length = len1) (l1' : len1 ≤ 9223372036854775807) (s1 : Spans w a1 z1) (n1 : a1 = none → cap1 = 0) (ht1 : -9223372036854775808 ≤ t) (ht2 : t ≤ 9223372036854775807) (hn1 : -9223372036854775808 ≤ n) (hn2 : n ≤ 9223372036854775807) :
    Calls Try.prog 3 #[.slice a0 len0 cap0, .slice a1 len1 cap1, .int .i64 t, .int .i64 n] w fun e w' => e = .returned (.bool true) ∧ Below w.heap.size w w' := by
  by_cases g : len0 ≤ 100 ∧ len1 ≤ 100
  · exact spanTells_short a0 len0 cap0 z0 a1 len1 cap1 z1 t n w l0 l0' s0 n0 l1 l1' s1 n1 ⟨hn1, hn2⟩ g
  · exact spanTells_long a0 len0 cap0 z0 a1 len1 cap1 z1 t n w l0 l0' s0 n0 l1 l1' s1 n1 g
end Go.Proofs.Ytkdogleocffhdaa
