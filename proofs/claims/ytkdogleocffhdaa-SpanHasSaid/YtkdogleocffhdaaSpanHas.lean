/-
  The walk of the law SpanHas: it answers true, and leaves what was there as it was.
-/
import Derived.Test.YtkdogleocffhdaaSpAwake
namespace Go.Proofs.Ytkdogleocffhdaa
open Go.RowKit
set_option linter.unusedVariables false
set_option linter.unusedSimpArgs false

theorem hasB_canon (p : Int → Prop) (t : Int) : hasB (canon p) t = true ↔ 0 ≤ t ∧ t < 32054400 ∧ p t := by
  rw [hasB_iff, canon_in]
  exact ⟨fun h => h.2.2, fun h => ⟨h.1, h.2.1, h⟩⟩
theorem bool_of {b : Bool} {p : Prop} {c : Bool} (h : b = true ↔ p) (k : p ↔ c = true) : b = c := by
  cases b <;> cases c <;> simp_all
theorem has_and (a b : List (Int × Int)) (t : Int) : hasB (canon fun t => In a t ∧ In b t) t = (hasB a t && hasB b t) :=
  bool_of (hasB_canon _ t) (by
    rw [Bool.and_eq_true, hasB_iff, hasB_iff]
    exact ⟨fun h => ⟨⟨h.1, h.2.1, h.2.2.1⟩, h.1, h.2.1, h.2.2.2⟩, fun h => ⟨h.1.1, h.1.2.1, h.1.2.2, h.2.2.2⟩⟩)
theorem has_minus (a b : List (Int × Int)) (t : Int) : hasB (canon fun t => In a t ∧ ¬ In b t) t = (hasB a t && !hasB b t) :=
  bool_of (hasB_canon _ t) (by
    rw [Bool.and_eq_true, hasB_iff, Bool.not_eq_true', ← Bool.not_eq_true, hasB_iff]
    exact ⟨fun h => ⟨⟨h.1, h.2.1, h.2.2.1⟩, fun q => h.2.2.2 q.2.2⟩, fun h => ⟨h.1.1, h.1.2.1, h.1.2.2, fun q => h.2 ⟨h.1.1, h.1.2.1, q⟩⟩⟩)
theorem has_join (a b : List (Int × Int)) (t : Int) : hasB (canon (In (a ++ b))) t = (hasB a t || hasB b t) :=
  bool_of (hasB_canon _ t) (by
    rw [Bool.or_eq_true, hasB_iff, hasB_iff, in_append]
    constructor
    · rintro ⟨h1, h2, h | h⟩
      · exact .inl ⟨h1, h2, h⟩
      · exact .inr ⟨h1, h2, h⟩
    · rintro (⟨h1, h2, h⟩ | ⟨h1, h2, h⟩)
      · exact ⟨h1, h2, .inl h⟩
      · exact ⟨h1, h2, .inr h⟩)
theorem has_time (a : List (Int × Int)) (t : Int) : hasB a t = true → 0 ≤ t ∧ t < 32054400 := fun h => ⟨((hasB_iff a t).1 h).1, ((hasB_iff a t).1 h).2.1⟩

theorem spanHas_long (a0 : Option Addr) (len0 cap0 : Nat) (z0 : List (Int × Int)) (a1 : Option Addr) (len1 cap1 : Nat) (z1 : List (Int × Int)) (t : Int) (w : World) (l0 : z0.length = len0) (l0' : len0 ≤ 9223372036854775807) (s0 : Spans w a0 z0) (n0 : a0 = none → cap0 = 0) (l1 : z1.length = len1) (l1' : len1 ≤ 9223372036854775807) (s1 : Spans w a1 z1) (n1 : a1 = none → cap1 = 0) (h : ¬ (len0 ≤ 100 ∧ len1 ≤ 100)) :
    Calls Try.prog 4 #[.slice a0 len0 cap0, .slice a1 len1 cap1, .int .i64 t] w fun e w' => e = .returned (.bool true) ∧ Below w.heap.size w w' := by
  have hd : decide (len0 ≤ 100 ∧ len1 ≤ 100) = false := by simpa using h
  have HD := Lib.hid hd
  clear hd h
  go_enter Try.func4, Try.ntmps4
  go_wp2_with fail
  refine (awake3 _).mono ?_
  rintro e w1 ⟨rfl, b1⟩
  go_wp2_with fail
  refine (few_any a0 a1 len0 len1 cap0 cap1 _ l0' l1').mono ?_
  rw [HD.out]
  rintro e w2 ⟨rfl, rfl⟩
  go_wp2
  go_ret
  exact ⟨rfl, b1⟩
set_option maxHeartbeats 4000000 in
theorem spanHas_short (a0 : Option Addr) (len0 cap0 : Nat) (z0 : List (Int × Int)) (a1 : Option Addr) (len1 cap1 : Nat) (z1 : List (Int × Int)) (t : Int) (w : World) (l0 : z0.length = len0) (l0' : len0 ≤ 9223372036854775807) (s0 : Spans w a0 z0) (n0 : a0 = none → cap0 = 0) (l1 : z1.length = len1) (l1' : len1 ≤ 9223372036854775807) (s1 : Spans w a1 z1) (n1 : a1 = none → cap1 = 0) (g : len0 ≤ 100 ∧ len1 ≤ 100) :
    Calls Try.prog 4 #[.slice a0 len0 cap0, .slice a1 len1 cap1, .int .i64 t] w fun e w' => e = .returned (.bool true) ∧ Below w.heap.size w w' := by
  subst l0
  subst l1
  have S0a := Lib.hid s0
  have S0b := Lib.hid s1
  have hl0 : z0.length ≤ 100000000 := by omega
  have hl1 : z1.length ≤ 100000000 := by omega
  clear s0 s1
  have HD : Hid (decide (z0.length ≤ 100 ∧ z1.length ≤ 100) = true) := by show _ = _; simpa using g
  have E1 := Lib.hid (has_and z0 z1 t)
  have E2 := Lib.hid (has_minus z0 z1 t)
  have E3 := Lib.hid (has_join z0 z1 t)
  have E4 := Lib.hid (has_time z0 t)
  have CH := Lib.hid (fun W (h : Spans W a0 z0) => has_any a0 cap0 z0 t W h hl0)
  have CK := Lib.hid (fun W (h : Spans W a1 z1) => has_any a1 cap1 z1 t W h hl1)
  have CA := Lib.hid (fun W (h : Spans W a0 z0) (h' : Spans W a1 z1) => and_any a0 a1 cap0 cap1 z0 z1 W h h' hl0 hl1)
  have CM := Lib.hid (fun W (h : Spans W a0 z0) (h' : Spans W a1 z1) => minus_any a0 a1 cap0 cap1 z0 z1 W h h' hl0 hl1)
  have fvA := Fits.canon (fun t => In z0 t ∧ In z1 t)
  have lvA := canon_len (fun t => In z0 t ∧ In z1 t)
  have fvM := Fits.canon (fun t => In z0 t ∧ ¬ In z1 t)
  have lvM := canon_len (fun t => In z0 t ∧ ¬ In z1 t)
  have fvB := Fits.canon (In (z0 ++ z1))
  have lvB := canon_len (In (z0 ++ z1))
  generalize canon (fun t => In z0 t ∧ In z1 t) = vA at *
  generalize canon (fun t => In z0 t ∧ ¬ In z1 t) = vM at *
  generalize hasB z0 t = ha at *
  generalize hasB z1 t = hb at *
  cases ha
  all_goals cases hb
  all_goals
    first | (have ht := E4.out rfl; obtain ⟨ht1, ht2⟩ := ht) | skip
    clear E4
    go_enter Try.func4, Try.ntmps4
    go_wp2_with fail
    refine (awake3 _).mono ?_
    rintro e w1 ⟨rfl, b1⟩
    replace b1 := bel_on (show Below w.heap.size w _ by (repeat' (first | with_reducible exact Below.refl _ _ | with_reducible assumption | with_reducible refine bel_alloc ?_ _ | with_reducible refine bel_set ?_ ?_ _ | with_reducible refine below_drewN ?_ _ | with_reducible refine below_drew ?_ | (simp; done) | (simp; omega) | omega))) b1
    have S2 := Lib.hid (S0a.out.below b1)
    clear S0a
    have S3 := Lib.hid (S0b.out.below b1)
    clear S0b
    go_wp2_with fail
    refine (few_any a0 a1 z0.length z1.length cap0 cap1 _ l0' l1').mono ?_
    rw [HD.out]
    rintro e w4 ⟨rfl, rfl⟩
    go_wp2_with fail
    refine (CH.out _ S2.out).mono ?_
    rintro e w5 ⟨rfl, b5⟩
    replace b5 := bel_on (show Below w1.heap.size w1 _ by (repeat' (first | with_reducible exact Below.refl _ _ | with_reducible assumption | with_reducible refine bel_alloc ?_ _ | with_reducible refine bel_set ?_ ?_ _ | with_reducible refine below_drewN ?_ _ | with_reducible refine below_drew ?_ | (simp; done) | (simp; omega) | omega))) b5
    have S6 := Lib.hid (S2.out.below b5)
    clear S2
    have S7 := Lib.hid (S3.out.below b5)
    clear S3
    have h8 := bel_on b1 b5
    clear b1 b5
    go_wp2_with fail
    refine (CK.out _ S7.out).mono ?_
    rintro e w9 ⟨rfl, b9⟩
    replace b9 := bel_on (show Below w5.heap.size w5 _ by (repeat' (first | with_reducible exact Below.refl _ _ | with_reducible assumption | with_reducible refine bel_alloc ?_ _ | with_reducible refine bel_set ?_ ?_ _ | with_reducible refine below_drewN ?_ _ | with_reducible refine below_drew ?_ | (simp; done) | (simp; omega) | omega))) b9
    have S10 := Lib.hid (S6.out.below b9)
    clear S6
    have S11 := Lib.hid (S7.out.below b9)
    clear S7
    have h12 := bel_on h8 b9
    clear h8 b9
    have R13 : Row (w9.alloc (.cells #[] 35)) w9.heap.size (some ⟨w9.heap.size, 0, none⟩) 0 [] := own_new w9 35 2 0 #[] rfl (by decide)
    obtain ⟨E13, e13, u13a, q13, Q13, U13, _, _⟩ := row_append R13 ((S10.out.alloc _).sl n0) (by simp; omega) (by simp)
    simp only [List.length_nil, Nat.zero_add, List.nil_append] at q13 Q13
    have V13 := U13 w9 (Nat.le_refl _) ((Below.refl _ _).alloc (Nat.le_refl _) _)
    obtain ⟨E13b, e13b, u13b, q13b, Q13b, U13b, _, _⟩ := row_append Q13 ((S11.out.below V13).sl n1) (by omega) V13.size
    have V13b := U13b w9 (Nat.le_refl _) V13
    have HQ13 := Lib.hid q13
    rw [← List.length_append] at q13b
    have HQ13b := Lib.hid q13b
    clear q13 q13b U13 U13b R13 Q13 V13
    have fZ : Fits (z0 ++ z1) := Fits.append S10.out.1 S11.out.1
    have S13j := Lib.hid (Q13b.spans fZ)
    clear Q13b
    have lZ : (z0 ++ z1).length ≤ 100000000 := by rw [List.length_append]; omega
    generalize z0 ++ z1 = Z at *
    have S14 := Lib.hid (S10.out.below V13b)
    clear S10
    have S15 := Lib.hid (S11.out.below V13b)
    clear S11
    have h16 := bel_on h12 V13b
    clear h12 V13b
    go_wp2_with (first | (at_builtin; refine wpList_append_run (o := ⟨some 25, _, _, _, _, _⟩) HQ13.out rfl rfl rfl rfl ?_) | (at_builtin; refine wpList_append_run (o := ⟨some 27, _, _, _, _, _⟩) HQ13b.out rfl rfl rfl rfl ?_))
    refine (CA.out _ S14.out S15.out).mono ?_
    rintro e w17 ⟨D17, d17, rfl, r17, b17⟩
    replace b17 := bel_on (show Below u13b.heap.size u13b _ by (repeat' (first | with_reducible exact Below.refl _ _ | with_reducible assumption | with_reducible refine bel_alloc ?_ _ | with_reducible refine bel_set ?_ ?_ _ | with_reducible refine below_drewN ?_ _ | with_reducible refine below_drew ?_ | (simp; done) | (simp; omega) | omega))) b17
    have S17 := Lib.hid (r17.spans fvA)
    clear r17
    have S18 := Lib.hid (S14.out.below b17)
    clear S14
    have S19 := Lib.hid (S15.out.below b17)
    clear S15
    have S20 := Lib.hid (S13j.out.below b17)
    clear S13j
    have h21 := bel_on h16 b17
    clear h16 b17
    go_wp2_with fail
    refine (has_any D17 d17 vA t _ S17.out (by omega)).mono ?_
    rw [E1.out]
    rintro e w22 ⟨rfl, b22⟩
    replace b22 := bel_on (show Below w17.heap.size w17 _ by (repeat' (first | with_reducible exact Below.refl _ _ | with_reducible assumption | with_reducible refine bel_alloc ?_ _ | with_reducible refine bel_set ?_ ?_ _ | with_reducible refine below_drewN ?_ _ | with_reducible refine below_drew ?_ | (simp; done) | (simp; omega) | omega))) b22
    have S23 := Lib.hid (S18.out.below b22)
    clear S18
    have S24 := Lib.hid (S19.out.below b22)
    clear S19
    have S25 := Lib.hid (S20.out.below b22)
    clear S20
    have h26 := bel_on h21 b22
    clear h21 b22
    go_wp2_with fail
    refine (CM.out _ S23.out S24.out).mono ?_
    rintro e w27 ⟨D27, d27, rfl, r27, b27⟩
    replace b27 := bel_on (show Below w22.heap.size w22 _ by (repeat' (first | with_reducible exact Below.refl _ _ | with_reducible assumption | with_reducible refine bel_alloc ?_ _ | with_reducible refine bel_set ?_ ?_ _ | with_reducible refine below_drewN ?_ _ | with_reducible refine below_drew ?_ | (simp; done) | (simp; omega) | omega))) b27
    have S27 := Lib.hid (r27.spans fvM)
    clear r27
    have S28 := Lib.hid (S23.out.below b27)
    clear S23
    have S29 := Lib.hid (S24.out.below b27)
    clear S24
    have S30 := Lib.hid (S25.out.below b27)
    clear S25
    have h31 := bel_on h26 b27
    clear h26 b27
    go_wp2_with fail
    refine (has_any D27 d27 vM t _ S27.out (by omega)).mono ?_
    rw [E2.out]
    rintro e w32 ⟨rfl, b32⟩
    replace b32 := bel_on (show Below w27.heap.size w27 _ by (repeat' (first | with_reducible exact Below.refl _ _ | with_reducible assumption | with_reducible refine bel_alloc ?_ _ | with_reducible refine bel_set ?_ ?_ _ | with_reducible refine below_drewN ?_ _ | with_reducible refine below_drew ?_ | (simp; done) | (simp; omega) | omega))) b32
    have S33 := Lib.hid (S30.out.below b32)
    clear S30
    have h34 := bel_on h31 b32
    clear h31 b32
    go_wp2_with fail
    refine (norm_any E13b e13b Z _ S33.out lZ).mono ?_
    rintro e w35 ⟨D35, d35, rfl, r35, b35⟩
    replace b35 := bel_on (show Below w32.heap.size w32 _ by (repeat' (first | with_reducible exact Below.refl _ _ | with_reducible assumption | with_reducible refine bel_alloc ?_ _ | with_reducible refine bel_set ?_ ?_ _ | with_reducible refine below_drewN ?_ _ | with_reducible refine below_drew ?_ | (simp; done) | (simp; omega) | omega))) b35
    have S35 := Lib.hid (r35.spans fvB)
    clear r35
    have S36 := Lib.hid (S33.out.below b35)
    clear S33
    have h37 := bel_on h34 b35
    clear h34 b35
    go_wp2_with fail
    refine (has_any D35 d35 (canon (In Z)) t _ S35.out (by omega)).mono ?_
    rw [E3.out]
    rintro e w38 ⟨rfl, b38⟩
    replace b38 := bel_on (show Below w35.heap.size w35 _ by (repeat' (first | with_reducible exact Below.refl _ _ | with_reducible assumption | with_reducible refine bel_alloc ?_ _ | with_reducible refine bel_set ?_ ?_ _ | with_reducible refine below_drewN ?_ _ | with_reducible refine below_drew ?_ | (simp; done) | (simp; omega) | omega))) b38
    have S39 := Lib.hid (S36.out.below b38)
    clear S36
    have S40 := Lib.hid (S35.out.below b38)
    clear S35
    have h41 := bel_on h37 b38
    clear h37 b38
    go_wp2
    go_ret
    exact ⟨rfl, h41⟩
theorem spanHas_walk (a0 : Option Addr) (len0 cap0 : Nat) (z0 : List (Int × Int)) (a1 : Option Addr) (len1 cap1 : Nat) (z1 : List (Int × Int)) (t : Int) (w : World) (l0 : z0.length = len0) (l0' : len0 ≤ 9223372036854775807) (s0 : Spans w a0 z0) (n0 : a0 = none → cap0 = 0) (l1 : z1.length = len1) (l1' : len1 ≤ 9223372036854775807) (s1 : Spans w a1 z1) (n1 : a1 = none → cap1 = 0) (ht1 : -9223372036854775808 ≤ t) (ht2 : t ≤ 9223372036854775807) :
    Calls Try.prog 4 #[.slice a0 len0 cap0, .slice a1 len1 cap1, .int .i64 t] w fun e w' => e = .returned (.bool true) ∧ Below w.heap.size w w' := by
  by_cases g : len0 ≤ 100 ∧ len1 ≤ 100
  · exact spanHas_short a0 len0 cap0 z0 a1 len1 cap1 z1 t w l0 l0' s0 n0 l1 l1' s1 n1  g
  · exact spanHas_long a0 len0 cap0 z0 a1 len1 cap1 z1 t w l0 l0' s0 n0 l1 l1' s1 n1 g
end Go.Proofs.Ytkdogleocffhdaa
