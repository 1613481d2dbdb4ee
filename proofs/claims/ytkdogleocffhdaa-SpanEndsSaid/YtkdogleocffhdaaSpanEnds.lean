/-
  The walk of the law SpanEnds: it answers true, and leaves what was there as it was.
-/
import Derived.Test.YtkdogleocffhdaaSpAwake
namespace Go.Proofs.Ytkdogleocffhdaa
open Go.RowKit
set_option linter.unusedVariables false
set_option linter.unusedSimpArgs false

theorem cnt_first (p : Int → Prop) (n : Int) : ∀ N : Nat, cnt (fun t => p t ∧ cnt p t.toNat < n) N = min (max n 0) (cnt p N)
  | 0 => by show (0 : Int) = min (max n 0) 0; omega
  | N + 1 => by
    have ih := cnt_first p n N
    have h0 := (cnt_bound p N).1
    by_cases hp : p N
    · by_cases hc : cnt p N < n
      · rw [cnt_yes (p := fun t => p t ∧ cnt p t.toNat < n) ⟨hp, by simpa using hc⟩, cnt_yes hp, ih]; omega
      · rw [cnt_no (p := fun t => p t ∧ cnt p t.toNat < n) (fun h => hc (by simpa using h.2)), cnt_yes hp, ih]; omega
    · rw [cnt_no (p := fun t => p t ∧ cnt p t.toNat < n) (fun h => hp h.1), cnt_no hp, ih]
theorem sz_canon (p : Int → Prop) : sz (In (canon p)) = sz p := sz_congr (fun t h1 h2 => by rw [canon_in]; exact ⟨fun h => h.2.2, fun h => ⟨h1, h2, h⟩⟩)
theorem ends_first (xs : List (Int × Int)) (n : Int) : sz (In (canon fun t => In xs t ∧ cnt (In xs) t.toNat < n)) = min (max n 0) (sz (In xs)) := by
  rw [sz_canon]
  exact cnt_first (In xs) n 32054400
theorem ends_minus (xs : List (Int × Int)) (n : Int) : sz (In (canon fun t => In xs t ∧ ¬ In (canon fun t => In xs t ∧ cnt (In xs) t.toNat < n) t)) = sz (In xs) - min (max n 0) (sz (In xs)) := by
  have h1 := ends_first xs n
  rw [sz_canon]
  have h2 : sz (In xs) = sz (In (canon fun t => In xs t ∧ cnt (In xs) t.toNat < n)) + sz (fun t => In xs t ∧ ¬ In (canon fun t => In xs t ∧ cnt (In xs) t.toNat < n) t) :=
    sz_or (fun t q1 q2 => by
      refine ⟨⟨fun h => ?_, fun h => h.elim (fun q => by rw [canon_in] at q; exact q.2.2.1) (fun q => q.1)⟩, fun ⟨q, r⟩ => r.2 q⟩
      by_cases q : In (canon fun t => In xs t ∧ cnt (In xs) t.toNat < n) t
      · exact .inl q
      · exact .inr ⟨h, q⟩)
  omega
theorem ends_last (xs : List (Int × Int)) (n : Int) : sz (In (canon (lastP xs n))) = min (max n 0) (sz (In xs)) := by
  have e : canon (lastP xs n) = canon (fun t => In xs t ∧ ¬ In (canon fun t => In xs t ∧ cnt (In xs) t.toNat < sz (In xs) - n) t) :=
    canon_congr (fun t a b => by
      rw [canon_in]
      unfold lastP
      exact ⟨fun h => ⟨h.1, fun q => by have := q.2.2.2; have := h.2; omega⟩, fun h => ⟨h.1, by
        rcases Int.lt_or_le (cnt (In xs) t.toNat) (sz (In xs) - n) with q | q
        · exact absurd ⟨a, b, h.1, q⟩ h.2
        · exact q⟩⟩)
  have h0 := sz_bound (In xs)
  rw [e, ends_minus]
  omega
theorem ends_same (xs : List (Int × Int)) (n : Int) : canon (fun t => In xs t ∧ ¬ In (canon fun t => In xs t ∧ cnt (In xs) t.toNat < sz (In xs) - min (max n 0) (sz (In xs))) t) = canon (lastP xs n) :=
  canon_congr (fun t a b => by
    rw [canon_in]
    unfold lastP
    have h0 := (cnt_bound (In xs) t.toNat).1
    constructor
    · rintro ⟨q1, q2⟩
      have h1 := cnt_lt a b q1
      refine ⟨q1, ?_⟩
      rcases Int.lt_or_le (cnt (In xs) t.toNat) (sz (In xs) - min (max n 0) (sz (In xs))) with q | q
      · exact absurd ⟨a, b, q1, q⟩ q2
      · omega
    · rintro ⟨q1, q2⟩
      have h1 := cnt_lt a b q1
      exact ⟨q1, fun q => by have := q.2.2.2; omega⟩)
theorem ends_ahead (xs : List (Int × Int)) (n : Int) {f r : List (Int × Int)} (hf : f = canon fun t => In xs t ∧ cnt (In xs) t.toNat < n) (hr : r = canon fun t => In xs t ∧ ¬ In (canon fun t => In xs t ∧ cnt (In xs) t.toNat < n) t)
    {m : Nat} (hm : m < f.length) (hz : 0 < r.length) : (f.getD m (0, 0)).2 ≤ (r.getD 0 (0, 0)).1 := by
  have pf : PlainFrom 0 f := by rw [hf]; exact canon_plain _
  have pr : PlainFrom 0 r := by rw [hr]; exact canon_plain _
  have zf := plain_at pf hm
  have zr := plain_at pr hz
  have i1 : In f ((f.getD m (0, 0)).2 - 1) := ⟨f.getD m (0, 0), by simp [List.getD, hm], by omega, by omega⟩
  have i2 : In r (r.getD 0 (0, 0)).1 := ⟨r.getD 0 (0, 0), by simp [List.getD, hz], by omega, by omega⟩
  rw [hf, canon_in] at i1
  rw [hr, canon_in, canon_in] at i2
  rw [← hf] at i1
  rw [← hr] at i2
  rcases Int.lt_or_le (r.getD 0 (0, 0)).1 (f.getD m (0, 0)).2 with q | q
  · exfalso
    have h1 := cnt_le (In xs) (m := (r.getD 0 (0, 0)).1.toNat) (n := ((f.getD m (0, 0)).2 - 1).toNat) (by omega)
    have h2 := i1.2.2.2
    exact i2.2.2.2 ⟨i2.1, i2.2.1, i2.2.2.1, by omega⟩
  · exact q

theorem spanEnds_long (a0 : Option Addr) (len0 cap0 : Nat) (z0 : List (Int × Int)) (n : Int) (w : World) (l0 : z0.length = len0) (l0' : len0 ≤ 9223372036854775807) (s0 : Spans w a0 z0) (n0 : a0 = none → cap0 = 0) (h : 100 < len0) :
    Calls Try.prog 7 #[.slice a0 len0 cap0, .int .i64 n] w fun e w' => e = .returned (.bool true) ∧ Below w.heap.size w w' := by
  have hd : (100 : Int) < (len0 : Int) := by omega
  go_enter Try.func7, Try.ntmps7
  go_wp2_with fail
  refine (awake3 _).mono ?_
  rintro e w1 ⟨rfl, b1⟩
  go_wp2
  go_ret
  exact ⟨rfl, b1⟩
set_option maxRecDepth 100000 in
set_option maxHeartbeats 4000000 in
theorem spanEnds_shortA (a0 : Option Addr) (len0 cap0 : Nat) (z0 : List (Int × Int)) (n : Int) (m k : Nat) (w : World) (l0 : z0.length = len0) (l0' : len0 ≤ 9223372036854775807) (s0 : Spans w a0 z0) (n0 : a0 = none → cap0 = 0) (hn : Fit n) (g : len0 ≤ 100) (hFl : (canon (fun t => In z0 t ∧ cnt (In z0) t.toNat < n)).length = 0) :
    Calls Try.prog 7 #[.slice a0 len0 cap0, .int .i64 n] w fun e w' => e = .returned (.bool true) ∧ Below w.heap.size w w' := by
  subst l0
  have S0a := Lib.hid s0
  have hl0 : z0.length ≤ 100000000 := by omega
  clear s0
  have hl9 : (z0.length : Int) ≤ 100 := by omega
  have hsz := sz_bound (In z0)
  obtain ⟨hn1, hn2⟩ := hn
  have E1 := Lib.hid (ends_first z0 n)
  have E2 := Lib.hid (ends_minus z0 n)
  have E3 := Lib.hid (ends_last z0 n)
  have E4 := Lib.hid (ends_same z0 n)
  have E5 := Lib.hid (fun m (h : m < (canon (fun t => In z0 t ∧ cnt (In z0) t.toNat < n)).length) (h' : 0 < (canon (fun t => In z0 t ∧ ¬ In (canon fun t => In z0 t ∧ cnt (In z0) t.toNat < n) t)).length) => ends_ahead z0 n rfl rfl h h')
  have CF := Lib.hid (fun W (h : Spans W a0 z0) => first_any a0 cap0 z0 n W h hl0 ⟨hn1, hn2⟩)
  have CL := Lib.hid (fun W (h : Spans W a0 z0) => last_any a0 cap0 z0 n W h hl0 ⟨hn1, hn2⟩)
  have CG := Lib.hid (fun W (h : Spans W a0 z0) => first_any a0 cap0 z0 (sz (In z0) - min (max n 0) (sz (In z0))) W h hl0 ⟨by omega, by omega⟩)
  have CS := Lib.hid (fun W (h : Spans W a0 z0) => size_any a0 cap0 z0 W h hl0)
  have fvR := Fits.canon (fun t => In z0 t ∧ ¬ In (canon fun t => In z0 t ∧ cnt (In z0) t.toNat < n) t)
  have lvR := canon_len (fun t => In z0 t ∧ ¬ In (canon fun t => In z0 t ∧ cnt (In z0) t.toNat < n) t)
  have fvF := Fits.canon (fun t => In z0 t ∧ cnt (In z0) t.toNat < n)
  have lvF := canon_len (fun t => In z0 t ∧ cnt (In z0) t.toNat < n)
  have fvL := Fits.canon (lastP z0 n)
  have lvL := canon_len (lastP z0 n)
  have fvG := Fits.canon (fun t => In z0 t ∧ cnt (In z0) t.toNat < sz (In z0) - min (max n 0) (sz (In z0)))
  have lvG := canon_len (fun t => In z0 t ∧ cnt (In z0) t.toNat < sz (In z0) - min (max n 0) (sz (In z0)))
  have CM := Lib.hid (fun B c W (h : Spans W a0 z0) (h' : Spans W B (canon (fun t => In z0 t ∧ cnt (In z0) t.toNat < n))) => minus_any a0 B cap0 c z0 (canon (fun t => In z0 t ∧ cnt (In z0) t.toNat < n)) W h h' hl0 (by omega))
  have CK := Lib.hid (fun B c W (h : Spans W a0 z0) (h' : Spans W B (canon (fun t => In z0 t ∧ cnt (In z0) t.toNat < sz (In z0) - min (max n 0) (sz (In z0))))) => minus_any a0 B cap0 c z0 (canon (fun t => In z0 t ∧ cnt (In z0) t.toNat < sz (In z0) - min (max n 0) (sz (In z0)))) W h h' hl0 (by omega))
  have CSF := Lib.hid (fun A c W (h : Spans W A (canon (fun t => In z0 t ∧ cnt (In z0) t.toNat < n))) => size_any A c (canon (fun t => In z0 t ∧ cnt (In z0) t.toNat < n)) W h (by omega))
  have CSR := Lib.hid (fun A c W (h : Spans W A (canon (fun t => In z0 t ∧ ¬ In (canon fun t => In z0 t ∧ cnt (In z0) t.toNat < n) t))) => size_any A c (canon (fun t => In z0 t ∧ ¬ In (canon fun t => In z0 t ∧ cnt (In z0) t.toNat < n) t)) W h (by omega))
  have CSL := Lib.hid (fun A c W (h : Spans W A (canon (lastP z0 n))) => size_any A c (canon (lastP z0 n)) W h (by omega))
  rw [E4.out] at CK
  generalize canon (fun t => In z0 t ∧ ¬ In (canon fun t => In z0 t ∧ cnt (In z0) t.toNat < n) t) = vR at *
  generalize canon (fun t => In z0 t ∧ cnt (In z0) t.toNat < n) = vF at *
  generalize canon (lastP z0 n) = vL at *
  generalize canon (fun t => In z0 t ∧ cnt (In z0) t.toNat < sz (In z0) - min (max n 0) (sz (In z0))) = vG at *
  generalize hz9 : sz (In z0) = zz at *
  clear hz9
  rw [E1.out] at CSF
  rw [E2.out] at CSR
  rw [E3.out] at CSL
  clear E1 E2 E3 E4 E5
  have hk1 : 0 ≤ min (max n 0) zz ∧ min (max n 0) zz ≤ zz := by omega
  have hF : vF.length = 0 := hFl
  have HF := Lib.hid hF
  clear hF hFl
  rw [HF.out] at CM CSF
  go_enter Try.func7, Try.ntmps7
  go_wp2_with fail
  refine (awake3 _).mono ?_
  rintro e w1 ⟨rfl, b1⟩
  replace b1 := bel_on (show Below w.heap.size w _ by (repeat' (first | with_reducible exact Below.refl _ _ | with_reducible assumption | with_reducible refine bel_alloc ?_ _ | with_reducible refine bel_set ?_ ?_ _ | with_reducible refine below_drewN ?_ _ | with_reducible refine below_drew ?_ | (simp; done) | (simp; omega) | omega))) b1
  have S2 := Lib.hid (S0a.out.below b1)
  clear S0a
  go_wp2_with fail
  refine (CF.out _ S2.out).mono ?_
  rintro e w3 ⟨D3, d3, rfl, r3, b3⟩
  replace b3 := bel_on (show Below w1.heap.size w1 _ by (repeat' (first | with_reducible exact Below.refl _ _ | with_reducible assumption | with_reducible refine bel_alloc ?_ _ | with_reducible refine bel_set ?_ ?_ _ | with_reducible refine below_drewN ?_ _ | with_reducible refine below_drew ?_ | (simp; done) | (simp; omega) | omega))) b3
  have S3 := Lib.hid (r3.spans fvF)
  clear r3
  have S4 := Lib.hid (S2.out.below b3)
  clear S2
  have h5 := bel_on b1 b3
  clear b1 b3
  rw [HF.out]
  go_wp2_with fail
  refine (CM.out D3 d3 _ S4.out S3.out).mono ?_
  rintro e w6 ⟨D6, d6, rfl, r6, b6⟩
  replace b6 := bel_on (show Below w3.heap.size w3 _ by (repeat' (first | with_reducible exact Below.refl _ _ | with_reducible assumption | with_reducible refine bel_alloc ?_ _ | with_reducible refine bel_set ?_ ?_ _ | with_reducible refine below_drewN ?_ _ | with_reducible refine below_drew ?_ | (simp; done) | (simp; omega) | omega))) b6
  have S6 := Lib.hid (r6.spans fvR)
  clear r6
  have S7 := Lib.hid (S4.out.below b6)
  clear S4
  have S8 := Lib.hid (S3.out.below b6)
  clear S3
  have h9 := bel_on h5 b6
  clear h5 b6
  go_wp2_with fail
  refine (CS.out _ S7.out).mono ?_
  rintro e w10 ⟨rfl, b10⟩
  replace b10 := bel_on (show Below w6.heap.size w6 _ by (repeat' (first | with_reducible exact Below.refl _ _ | with_reducible assumption | with_reducible refine bel_alloc ?_ _ | with_reducible refine bel_set ?_ ?_ _ | with_reducible refine below_drewN ?_ _ | with_reducible refine below_drew ?_ | (simp; done) | (simp; omega) | omega))) b10
  have S11 := Lib.hid (S7.out.below b10)
  clear S7
  have S12 := Lib.hid (S8.out.below b10)
  clear S8
  have S13 := Lib.hid (S6.out.below b10)
  clear S6
  have h14 := bel_on h9 b10
  clear h9 b10
  go_wp2
  go_quiet (fail)
  have S15 := Lib.hid (S11.out.drewN nq)
  clear S11
  have S16 := Lib.hid (S12.out.drewN nq)
  clear S12
  have S17 := Lib.hid (S13.out.drewN nq)
  clear S13
  have h18 := below_drewN h14 nq
  clear h14
  generalize w10.drewN nq = wq at *
  go_wp2_with fail
  refine (CL.out _ S15.out).mono ?_
  rintro e w19 ⟨D19, d19, rfl, r19, b19⟩
  replace b19 := bel_on (show Below wq.heap.size wq _ by (repeat' (first | with_reducible exact Below.refl _ _ | with_reducible assumption | with_reducible refine bel_alloc ?_ _ | with_reducible refine bel_set ?_ ?_ _ | with_reducible refine below_drewN ?_ _ | with_reducible refine below_drew ?_ | (simp; done) | (simp; omega) | omega))) b19
  have S19 := Lib.hid (r19.spans fvL)
  clear r19
  have S20 := Lib.hid (S15.out.below b19)
  clear S15
  have S21 := Lib.hid (S16.out.below b19)
  clear S16
  have S22 := Lib.hid (S17.out.below b19)
  clear S17
  have h23 := bel_on h18 b19
  clear h18 b19
  go_wp2_with fail
  refine (CSF.out D3 d3 _ S21.out).mono ?_
  rintro e w24 ⟨rfl, b24⟩
  replace b24 := bel_on (show Below w19.heap.size w19 _ by (repeat' (first | with_reducible exact Below.refl _ _ | with_reducible assumption | with_reducible refine bel_alloc ?_ _ | with_reducible refine bel_set ?_ ?_ _ | with_reducible refine below_drewN ?_ _ | with_reducible refine below_drew ?_ | (simp; done) | (simp; omega) | omega))) b24
  have S25 := Lib.hid (S20.out.below b24)
  clear S20
  have S26 := Lib.hid (S22.out.below b24)
  clear S22
  have S27 := Lib.hid (S19.out.below b24)
  clear S19
  have h28 := bel_on h23 b24
  clear h23 b24
  go_wp2_with fail
  refine (CSR.out D6 d6 _ S26.out).mono ?_
  rintro e w29 ⟨rfl, b29⟩
  replace b29 := bel_on (show Below w24.heap.size w24 _ by (repeat' (first | with_reducible exact Below.refl _ _ | with_reducible assumption | with_reducible refine bel_alloc ?_ _ | with_reducible refine bel_set ?_ ?_ _ | with_reducible refine below_drewN ?_ _ | with_reducible refine below_drew ?_ | (simp; done) | (simp; omega) | omega))) b29
  have S30 := Lib.hid (S25.out.below b29)
  clear S25
  have S31 := Lib.hid (S27.out.below b29)
  clear S27
  have h32 := bel_on h28 b29
  clear h28 b29
  go_wp2_with fail
  refine (CSL.out D19 d19 _ S31.out).mono ?_
  rintro e w33 ⟨rfl, b33⟩
  replace b33 := bel_on (show Below w29.heap.size w29 _ by (repeat' (first | with_reducible exact Below.refl _ _ | with_reducible assumption | with_reducible refine bel_alloc ?_ _ | with_reducible refine bel_set ?_ ?_ _ | with_reducible refine below_drewN ?_ _ | with_reducible refine below_drew ?_ | (simp; done) | (simp; omega) | omega))) b33
  have S34 := Lib.hid (S30.out.below b33)
  clear S30
  have S35 := Lib.hid (S31.out.below b33)
  clear S31
  have h36 := bel_on h32 b33
  clear h32 b33
  go_wp2_with fail
  refine (CG.out _ S34.out).mono ?_
  rintro e w37 ⟨D37, d37, rfl, r37, b37⟩
  replace b37 := bel_on (show Below w33.heap.size w33 _ by (repeat' (first | with_reducible exact Below.refl _ _ | with_reducible assumption | with_reducible refine bel_alloc ?_ _ | with_reducible refine bel_set ?_ ?_ _ | with_reducible refine below_drewN ?_ _ | with_reducible refine below_drew ?_ | (simp; done) | (simp; omega) | omega))) b37
  have S37 := Lib.hid (r37.spans fvG)
  clear r37
  have S38 := Lib.hid (S34.out.below b37)
  clear S34
  have S39 := Lib.hid (S35.out.below b37)
  clear S35
  have h40 := bel_on h36 b37
  clear h36 b37
  go_wp2_with fail
  refine (CK.out D37 d37 _ S38.out S37.out).mono ?_
  rintro e w41 ⟨D41, d41, rfl, r41, b41⟩
  replace b41 := bel_on (show Below w37.heap.size w37 _ by (repeat' (first | with_reducible exact Below.refl _ _ | with_reducible assumption | with_reducible refine bel_alloc ?_ _ | with_reducible refine bel_set ?_ ?_ _ | with_reducible refine below_drewN ?_ _ | with_reducible refine below_drew ?_ | (simp; done) | (simp; omega) | omega))) b41
  have S41 := Lib.hid (r41.spans fvL)
  clear r41
  have S42 := Lib.hid (S38.out.below b41)
  clear S38
  have S43 := Lib.hid (S39.out.below b41)
  clear S39
  have S44 := Lib.hid (S37.out.below b41)
  clear S37
  have h45 := bel_on h40 b41
  clear h40 b41
  go_wp2_with fail
  refine (same_any D19 D41 d19 d41 vL _ S43.out S41.out (by omega)).mono ?_
  rintro e w46 ⟨rfl, b46⟩
  replace b46 := bel_on (show Below w41.heap.size w41 _ by (repeat' (first | with_reducible exact Below.refl _ _ | with_reducible assumption | with_reducible refine bel_alloc ?_ _ | with_reducible refine bel_set ?_ ?_ _ | with_reducible refine below_drewN ?_ _ | with_reducible refine below_drew ?_ | (simp; done) | (simp; omega) | omega))) b46
  have S47 := Lib.hid (S42.out.below b46)
  clear S42
  have S48 := Lib.hid (S43.out.below b46)
  clear S43
  have S49 := Lib.hid (S44.out.below b46)
  clear S44
  have S50 := Lib.hid (S41.out.below b46)
  clear S41
  have h51 := bel_on h45 b46
  clear h45 b46
  go_wp2
  go_ret
  exact ⟨rfl, h51⟩

set_option maxRecDepth 100000 in
set_option maxHeartbeats 4000000 in
theorem spanEnds_shortB (a0 : Option Addr) (len0 cap0 : Nat) (z0 : List (Int × Int)) (n : Int) (m k : Nat) (w : World) (l0 : z0.length = len0) (l0' : len0 ≤ 9223372036854775807) (s0 : Spans w a0 z0) (n0 : a0 = none → cap0 = 0) (hn : Fit n) (g : len0 ≤ 100) (hFl : (canon (fun t => In z0 t ∧ cnt (In z0) t.toNat < n)).length = m + 1) (hRl : (canon (fun t => In z0 t ∧ ¬ In (canon fun t => In z0 t ∧ cnt (In z0) t.toNat < n) t)).length = 0) :
    Calls Try.prog 7 #[.slice a0 len0 cap0, .int .i64 n] w fun e w' => e = .returned (.bool true) ∧ Below w.heap.size w w' := by
  subst l0
  have S0a := Lib.hid s0
  have hl0 : z0.length ≤ 100000000 := by omega
  clear s0
  have hl9 : (z0.length : Int) ≤ 100 := by omega
  have hsz := sz_bound (In z0)
  obtain ⟨hn1, hn2⟩ := hn
  have E1 := Lib.hid (ends_first z0 n)
  have E2 := Lib.hid (ends_minus z0 n)
  have E3 := Lib.hid (ends_last z0 n)
  have E4 := Lib.hid (ends_same z0 n)
  have E5 := Lib.hid (fun m (h : m < (canon (fun t => In z0 t ∧ cnt (In z0) t.toNat < n)).length) (h' : 0 < (canon (fun t => In z0 t ∧ ¬ In (canon fun t => In z0 t ∧ cnt (In z0) t.toNat < n) t)).length) => ends_ahead z0 n rfl rfl h h')
  have CF := Lib.hid (fun W (h : Spans W a0 z0) => first_any a0 cap0 z0 n W h hl0 ⟨hn1, hn2⟩)
  have CL := Lib.hid (fun W (h : Spans W a0 z0) => last_any a0 cap0 z0 n W h hl0 ⟨hn1, hn2⟩)
  have CG := Lib.hid (fun W (h : Spans W a0 z0) => first_any a0 cap0 z0 (sz (In z0) - min (max n 0) (sz (In z0))) W h hl0 ⟨by omega, by omega⟩)
  have CS := Lib.hid (fun W (h : Spans W a0 z0) => size_any a0 cap0 z0 W h hl0)
  have fvR := Fits.canon (fun t => In z0 t ∧ ¬ In (canon fun t => In z0 t ∧ cnt (In z0) t.toNat < n) t)
  have lvR := canon_len (fun t => In z0 t ∧ ¬ In (canon fun t => In z0 t ∧ cnt (In z0) t.toNat < n) t)
  have fvF := Fits.canon (fun t => In z0 t ∧ cnt (In z0) t.toNat < n)
  have lvF := canon_len (fun t => In z0 t ∧ cnt (In z0) t.toNat < n)
  have fvL := Fits.canon (lastP z0 n)
  have lvL := canon_len (lastP z0 n)
  have fvG := Fits.canon (fun t => In z0 t ∧ cnt (In z0) t.toNat < sz (In z0) - min (max n 0) (sz (In z0)))
  have lvG := canon_len (fun t => In z0 t ∧ cnt (In z0) t.toNat < sz (In z0) - min (max n 0) (sz (In z0)))
  have CM := Lib.hid (fun B c W (h : Spans W a0 z0) (h' : Spans W B (canon (fun t => In z0 t ∧ cnt (In z0) t.toNat < n))) => minus_any a0 B cap0 c z0 (canon (fun t => In z0 t ∧ cnt (In z0) t.toNat < n)) W h h' hl0 (by omega))
  have CK := Lib.hid (fun B c W (h : Spans W a0 z0) (h' : Spans W B (canon (fun t => In z0 t ∧ cnt (In z0) t.toNat < sz (In z0) - min (max n 0) (sz (In z0))))) => minus_any a0 B cap0 c z0 (canon (fun t => In z0 t ∧ cnt (In z0) t.toNat < sz (In z0) - min (max n 0) (sz (In z0)))) W h h' hl0 (by omega))
  have CSF := Lib.hid (fun A c W (h : Spans W A (canon (fun t => In z0 t ∧ cnt (In z0) t.toNat < n))) => size_any A c (canon (fun t => In z0 t ∧ cnt (In z0) t.toNat < n)) W h (by omega))
  have CSR := Lib.hid (fun A c W (h : Spans W A (canon (fun t => In z0 t ∧ ¬ In (canon fun t => In z0 t ∧ cnt (In z0) t.toNat < n) t))) => size_any A c (canon (fun t => In z0 t ∧ ¬ In (canon fun t => In z0 t ∧ cnt (In z0) t.toNat < n) t)) W h (by omega))
  have CSL := Lib.hid (fun A c W (h : Spans W A (canon (lastP z0 n))) => size_any A c (canon (lastP z0 n)) W h (by omega))
  rw [E4.out] at CK
  generalize canon (fun t => In z0 t ∧ ¬ In (canon fun t => In z0 t ∧ cnt (In z0) t.toNat < n) t) = vR at *
  generalize canon (fun t => In z0 t ∧ cnt (In z0) t.toNat < n) = vF at *
  generalize canon (lastP z0 n) = vL at *
  generalize canon (fun t => In z0 t ∧ cnt (In z0) t.toNat < sz (In z0) - min (max n 0) (sz (In z0))) = vG at *
  generalize hz9 : sz (In z0) = zz at *
  clear hz9
  rw [E1.out] at CSF
  rw [E2.out] at CSR
  rw [E3.out] at CSL
  clear E1 E2 E3 E4 E5
  have hk1 : 0 ≤ min (max n 0) zz ∧ min (max n 0) zz ≤ zz := by omega
  have hF : vF.length = m + 1 := hFl
  have HF := Lib.hid hF
  clear hF hFl
  rw [HF.out] at CM CSF
  have hR : vR.length = 0 := hRl
  have HR := Lib.hid hR
  clear hR hRl
  rw [HR.out] at CSR
  go_enter Try.func7, Try.ntmps7
  go_wp2_with fail
  refine (awake3 _).mono ?_
  rintro e w1 ⟨rfl, b1⟩
  replace b1 := bel_on (show Below w.heap.size w _ by (repeat' (first | with_reducible exact Below.refl _ _ | with_reducible assumption | with_reducible refine bel_alloc ?_ _ | with_reducible refine bel_set ?_ ?_ _ | with_reducible refine below_drewN ?_ _ | with_reducible refine below_drew ?_ | (simp; done) | (simp; omega) | omega))) b1
  have S2 := Lib.hid (S0a.out.below b1)
  clear S0a
  go_wp2_with fail
  refine (CF.out _ S2.out).mono ?_
  rintro e w3 ⟨D3, d3, rfl, r3, b3⟩
  replace b3 := bel_on (show Below w1.heap.size w1 _ by (repeat' (first | with_reducible exact Below.refl _ _ | with_reducible assumption | with_reducible refine bel_alloc ?_ _ | with_reducible refine bel_set ?_ ?_ _ | with_reducible refine below_drewN ?_ _ | with_reducible refine below_drew ?_ | (simp; done) | (simp; omega) | omega))) b3
  have S3 := Lib.hid (r3.spans fvF)
  clear r3
  have S4 := Lib.hid (S2.out.below b3)
  clear S2
  have h5 := bel_on b1 b3
  clear b1 b3
  rw [HF.out]
  go_wp2_with fail
  refine (CM.out D3 d3 _ S4.out S3.out).mono ?_
  rintro e w6 ⟨D6, d6, rfl, r6, b6⟩
  replace b6 := bel_on (show Below w3.heap.size w3 _ by (repeat' (first | with_reducible exact Below.refl _ _ | with_reducible assumption | with_reducible refine bel_alloc ?_ _ | with_reducible refine bel_set ?_ ?_ _ | with_reducible refine below_drewN ?_ _ | with_reducible refine below_drew ?_ | (simp; done) | (simp; omega) | omega))) b6
  have S6 := Lib.hid (r6.spans fvR)
  clear r6
  have S7 := Lib.hid (S4.out.below b6)
  clear S4
  have S8 := Lib.hid (S3.out.below b6)
  clear S3
  have h9 := bel_on h5 b6
  clear h5 b6
  rw [HR.out]
  go_wp2_with fail
  refine (CS.out _ S7.out).mono ?_
  rintro e w10 ⟨rfl, b10⟩
  replace b10 := bel_on (show Below w6.heap.size w6 _ by (repeat' (first | with_reducible exact Below.refl _ _ | with_reducible assumption | with_reducible refine bel_alloc ?_ _ | with_reducible refine bel_set ?_ ?_ _ | with_reducible refine below_drewN ?_ _ | with_reducible refine below_drew ?_ | (simp; done) | (simp; omega) | omega))) b10
  have S11 := Lib.hid (S7.out.below b10)
  clear S7
  have S12 := Lib.hid (S8.out.below b10)
  clear S8
  have S13 := Lib.hid (S6.out.below b10)
  clear S6
  have h14 := bel_on h9 b10
  clear h9 b10
  have hmL : m ≤ 100000000 := by have := HF.out; omega
  have i4 : IntKind.i64.wrap (m : Int) = (m : Int) := IntWalk.i64_in _ (by omega)
  have q1 : (((m : Int) + 1) == 0) = false := by simp; omega
  go_wp2
  go_quiet (fail)
  have S15 := Lib.hid (S11.out.drewN nq)
  clear S11
  have S16 := Lib.hid (S12.out.drewN nq)
  clear S12
  have S17 := Lib.hid (S13.out.drewN nq)
  clear S13
  have h18 := below_drewN h14 nq
  clear h14
  clear i4 q1
  generalize w10.drewN nq = wq at *
  go_wp2_with fail
  refine (CL.out _ S15.out).mono ?_
  rintro e w19 ⟨D19, d19, rfl, r19, b19⟩
  replace b19 := bel_on (show Below wq.heap.size wq _ by (repeat' (first | with_reducible exact Below.refl _ _ | with_reducible assumption | with_reducible refine bel_alloc ?_ _ | with_reducible refine bel_set ?_ ?_ _ | with_reducible refine below_drewN ?_ _ | with_reducible refine below_drew ?_ | (simp; done) | (simp; omega) | omega))) b19
  have S19 := Lib.hid (r19.spans fvL)
  clear r19
  have S20 := Lib.hid (S15.out.below b19)
  clear S15
  have S21 := Lib.hid (S16.out.below b19)
  clear S16
  have S22 := Lib.hid (S17.out.below b19)
  clear S17
  have h23 := bel_on h18 b19
  clear h18 b19
  go_wp2_with fail
  refine (CSF.out D3 d3 _ S21.out).mono ?_
  rintro e w24 ⟨rfl, b24⟩
  replace b24 := bel_on (show Below w19.heap.size w19 _ by (repeat' (first | with_reducible exact Below.refl _ _ | with_reducible assumption | with_reducible refine bel_alloc ?_ _ | with_reducible refine bel_set ?_ ?_ _ | with_reducible refine below_drewN ?_ _ | with_reducible refine below_drew ?_ | (simp; done) | (simp; omega) | omega))) b24
  have S25 := Lib.hid (S20.out.below b24)
  clear S20
  have S26 := Lib.hid (S22.out.below b24)
  clear S22
  have S27 := Lib.hid (S19.out.below b24)
  clear S19
  have h28 := bel_on h23 b24
  clear h23 b24
  go_wp2_with fail
  refine (CSR.out D6 d6 _ S26.out).mono ?_
  rintro e w29 ⟨rfl, b29⟩
  replace b29 := bel_on (show Below w24.heap.size w24 _ by (repeat' (first | with_reducible exact Below.refl _ _ | with_reducible assumption | with_reducible refine bel_alloc ?_ _ | with_reducible refine bel_set ?_ ?_ _ | with_reducible refine below_drewN ?_ _ | with_reducible refine below_drew ?_ | (simp; done) | (simp; omega) | omega))) b29
  have S30 := Lib.hid (S25.out.below b29)
  clear S25
  have S31 := Lib.hid (S27.out.below b29)
  clear S27
  have h32 := bel_on h28 b29
  clear h28 b29
  go_wp2_with fail
  refine (CSL.out D19 d19 _ S31.out).mono ?_
  rintro e w33 ⟨rfl, b33⟩
  replace b33 := bel_on (show Below w29.heap.size w29 _ by (repeat' (first | with_reducible exact Below.refl _ _ | with_reducible assumption | with_reducible refine bel_alloc ?_ _ | with_reducible refine bel_set ?_ ?_ _ | with_reducible refine below_drewN ?_ _ | with_reducible refine below_drew ?_ | (simp; done) | (simp; omega) | omega))) b33
  have S34 := Lib.hid (S30.out.below b33)
  clear S30
  have S35 := Lib.hid (S31.out.below b33)
  clear S31
  have h36 := bel_on h32 b33
  clear h32 b33
  go_wp2_with fail
  refine (CG.out _ S34.out).mono ?_
  rintro e w37 ⟨D37, d37, rfl, r37, b37⟩
  replace b37 := bel_on (show Below w33.heap.size w33 _ by (repeat' (first | with_reducible exact Below.refl _ _ | with_reducible assumption | with_reducible refine bel_alloc ?_ _ | with_reducible refine bel_set ?_ ?_ _ | with_reducible refine below_drewN ?_ _ | with_reducible refine below_drew ?_ | (simp; done) | (simp; omega) | omega))) b37
  have S37 := Lib.hid (r37.spans fvG)
  clear r37
  have S38 := Lib.hid (S34.out.below b37)
  clear S34
  have S39 := Lib.hid (S35.out.below b37)
  clear S35
  have h40 := bel_on h36 b37
  clear h36 b37
  go_wp2_with fail
  refine (CK.out D37 d37 _ S38.out S37.out).mono ?_
  rintro e w41 ⟨D41, d41, rfl, r41, b41⟩
  replace b41 := bel_on (show Below w37.heap.size w37 _ by (repeat' (first | with_reducible exact Below.refl _ _ | with_reducible assumption | with_reducible refine bel_alloc ?_ _ | with_reducible refine bel_set ?_ ?_ _ | with_reducible refine below_drewN ?_ _ | with_reducible refine below_drew ?_ | (simp; done) | (simp; omega) | omega))) b41
  have S41 := Lib.hid (r41.spans fvL)
  clear r41
  have S42 := Lib.hid (S38.out.below b41)
  clear S38
  have S43 := Lib.hid (S39.out.below b41)
  clear S39
  have S44 := Lib.hid (S37.out.below b41)
  clear S37
  have h45 := bel_on h40 b41
  clear h40 b41
  go_wp2_with fail
  refine (same_any D19 D41 d19 d41 vL _ S43.out S41.out (by omega)).mono ?_
  rintro e w46 ⟨rfl, b46⟩
  replace b46 := bel_on (show Below w41.heap.size w41 _ by (repeat' (first | with_reducible exact Below.refl _ _ | with_reducible assumption | with_reducible refine bel_alloc ?_ _ | with_reducible refine bel_set ?_ ?_ _ | with_reducible refine below_drewN ?_ _ | with_reducible refine below_drew ?_ | (simp; done) | (simp; omega) | omega))) b46
  have S47 := Lib.hid (S42.out.below b46)
  clear S42
  have S48 := Lib.hid (S43.out.below b46)
  clear S43
  have S49 := Lib.hid (S44.out.below b46)
  clear S44
  have S50 := Lib.hid (S41.out.below b46)
  clear S41
  have h51 := bel_on h45 b46
  clear h45 b46
  go_wp2
  go_ret
  exact ⟨rfl, h51⟩

set_option maxRecDepth 100000 in
set_option maxHeartbeats 4000000 in
theorem spanEnds_shortC (a0 : Option Addr) (len0 cap0 : Nat) (z0 : List (Int × Int)) (n : Int) (m k : Nat) (w : World) (l0 : z0.length = len0) (l0' : len0 ≤ 9223372036854775807) (s0 : Spans w a0 z0) (n0 : a0 = none → cap0 = 0) (hn : Fit n) (g : len0 ≤ 100) (hFl : (canon (fun t => In z0 t ∧ cnt (In z0) t.toNat < n)).length = m + 1) (hRl : (canon (fun t => In z0 t ∧ ¬ In (canon fun t => In z0 t ∧ cnt (In z0) t.toNat < n) t)).length = k + 1) :
    Calls Try.prog 7 #[.slice a0 len0 cap0, .int .i64 n] w fun e w' => e = .returned (.bool true) ∧ Below w.heap.size w w' := by
  subst l0
  have S0a := Lib.hid s0
  have hl0 : z0.length ≤ 100000000 := by omega
  clear s0
  have hl9 : (z0.length : Int) ≤ 100 := by omega
  have hsz := sz_bound (In z0)
  obtain ⟨hn1, hn2⟩ := hn
  have E1 := Lib.hid (ends_first z0 n)
  have E2 := Lib.hid (ends_minus z0 n)
  have E3 := Lib.hid (ends_last z0 n)
  have E4 := Lib.hid (ends_same z0 n)
  have E5 := Lib.hid (fun m (h : m < (canon (fun t => In z0 t ∧ cnt (In z0) t.toNat < n)).length) (h' : 0 < (canon (fun t => In z0 t ∧ ¬ In (canon fun t => In z0 t ∧ cnt (In z0) t.toNat < n) t)).length) => ends_ahead z0 n rfl rfl h h')
  have CF := Lib.hid (fun W (h : Spans W a0 z0) => first_any a0 cap0 z0 n W h hl0 ⟨hn1, hn2⟩)
  have CL := Lib.hid (fun W (h : Spans W a0 z0) => last_any a0 cap0 z0 n W h hl0 ⟨hn1, hn2⟩)
  have CG := Lib.hid (fun W (h : Spans W a0 z0) => first_any a0 cap0 z0 (sz (In z0) - min (max n 0) (sz (In z0))) W h hl0 ⟨by omega, by omega⟩)
  have CS := Lib.hid (fun W (h : Spans W a0 z0) => size_any a0 cap0 z0 W h hl0)
  have fvR := Fits.canon (fun t => In z0 t ∧ ¬ In (canon fun t => In z0 t ∧ cnt (In z0) t.toNat < n) t)
  have lvR := canon_len (fun t => In z0 t ∧ ¬ In (canon fun t => In z0 t ∧ cnt (In z0) t.toNat < n) t)
  have fvF := Fits.canon (fun t => In z0 t ∧ cnt (In z0) t.toNat < n)
  have lvF := canon_len (fun t => In z0 t ∧ cnt (In z0) t.toNat < n)
  have fvL := Fits.canon (lastP z0 n)
  have lvL := canon_len (lastP z0 n)
  have fvG := Fits.canon (fun t => In z0 t ∧ cnt (In z0) t.toNat < sz (In z0) - min (max n 0) (sz (In z0)))
  have lvG := canon_len (fun t => In z0 t ∧ cnt (In z0) t.toNat < sz (In z0) - min (max n 0) (sz (In z0)))
  have CM := Lib.hid (fun B c W (h : Spans W a0 z0) (h' : Spans W B (canon (fun t => In z0 t ∧ cnt (In z0) t.toNat < n))) => minus_any a0 B cap0 c z0 (canon (fun t => In z0 t ∧ cnt (In z0) t.toNat < n)) W h h' hl0 (by omega))
  have CK := Lib.hid (fun B c W (h : Spans W a0 z0) (h' : Spans W B (canon (fun t => In z0 t ∧ cnt (In z0) t.toNat < sz (In z0) - min (max n 0) (sz (In z0))))) => minus_any a0 B cap0 c z0 (canon (fun t => In z0 t ∧ cnt (In z0) t.toNat < sz (In z0) - min (max n 0) (sz (In z0)))) W h h' hl0 (by omega))
  have CSF := Lib.hid (fun A c W (h : Spans W A (canon (fun t => In z0 t ∧ cnt (In z0) t.toNat < n))) => size_any A c (canon (fun t => In z0 t ∧ cnt (In z0) t.toNat < n)) W h (by omega))
  have CSR := Lib.hid (fun A c W (h : Spans W A (canon (fun t => In z0 t ∧ ¬ In (canon fun t => In z0 t ∧ cnt (In z0) t.toNat < n) t))) => size_any A c (canon (fun t => In z0 t ∧ ¬ In (canon fun t => In z0 t ∧ cnt (In z0) t.toNat < n) t)) W h (by omega))
  have CSL := Lib.hid (fun A c W (h : Spans W A (canon (lastP z0 n))) => size_any A c (canon (lastP z0 n)) W h (by omega))
  rw [E4.out] at CK
  generalize canon (fun t => In z0 t ∧ ¬ In (canon fun t => In z0 t ∧ cnt (In z0) t.toNat < n) t) = vR at *
  generalize canon (fun t => In z0 t ∧ cnt (In z0) t.toNat < n) = vF at *
  generalize canon (lastP z0 n) = vL at *
  generalize canon (fun t => In z0 t ∧ cnt (In z0) t.toNat < sz (In z0) - min (max n 0) (sz (In z0))) = vG at *
  generalize hz9 : sz (In z0) = zz at *
  clear hz9
  rw [E1.out] at CSF
  rw [E2.out] at CSR
  rw [E3.out] at CSL
  clear E1 E2 E3 E4
  have hk1 : 0 ≤ min (max n 0) zz ∧ min (max n 0) zz ≤ zz := by omega
  have hF : vF.length = m + 1 := hFl
  have HF := Lib.hid hF
  clear hF hFl
  rw [HF.out] at CM CSF
  have hR : vR.length = k + 1 := hRl
  have HR := Lib.hid hR
  clear hR hRl
  rw [HR.out] at CSR
  go_enter Try.func7, Try.ntmps7
  go_wp2_with fail
  refine (awake3 _).mono ?_
  rintro e w1 ⟨rfl, b1⟩
  replace b1 := bel_on (show Below w.heap.size w _ by (repeat' (first | with_reducible exact Below.refl _ _ | with_reducible assumption | with_reducible refine bel_alloc ?_ _ | with_reducible refine bel_set ?_ ?_ _ | with_reducible refine below_drewN ?_ _ | with_reducible refine below_drew ?_ | (simp; done) | (simp; omega) | omega))) b1
  have S2 := Lib.hid (S0a.out.below b1)
  clear S0a
  go_wp2_with fail
  refine (CF.out _ S2.out).mono ?_
  rintro e w3 ⟨D3, d3, rfl, r3, b3⟩
  replace b3 := bel_on (show Below w1.heap.size w1 _ by (repeat' (first | with_reducible exact Below.refl _ _ | with_reducible assumption | with_reducible refine bel_alloc ?_ _ | with_reducible refine bel_set ?_ ?_ _ | with_reducible refine below_drewN ?_ _ | with_reducible refine below_drew ?_ | (simp; done) | (simp; omega) | omega))) b3
  have S3 := Lib.hid (r3.spans fvF)
  clear r3
  have S4 := Lib.hid (S2.out.below b3)
  clear S2
  have h5 := bel_on b1 b3
  clear b1 b3
  rw [HF.out]
  go_wp2_with fail
  refine (CM.out D3 d3 _ S4.out S3.out).mono ?_
  rintro e w6 ⟨D6, d6, rfl, r6, b6⟩
  replace b6 := bel_on (show Below w3.heap.size w3 _ by (repeat' (first | with_reducible exact Below.refl _ _ | with_reducible assumption | with_reducible refine bel_alloc ?_ _ | with_reducible refine bel_set ?_ ?_ _ | with_reducible refine below_drewN ?_ _ | with_reducible refine below_drew ?_ | (simp; done) | (simp; omega) | omega))) b6
  have S6 := Lib.hid (r6.spans fvR)
  clear r6
  have S7 := Lib.hid (S4.out.below b6)
  clear S4
  have S8 := Lib.hid (S3.out.below b6)
  clear S3
  have h9 := bel_on h5 b6
  clear h5 b6
  rw [HR.out]
  go_wp2_with fail
  refine (CS.out _ S7.out).mono ?_
  rintro e w10 ⟨rfl, b10⟩
  replace b10 := bel_on (show Below w6.heap.size w6 _ by (repeat' (first | with_reducible exact Below.refl _ _ | with_reducible assumption | with_reducible refine bel_alloc ?_ _ | with_reducible refine bel_set ?_ ?_ _ | with_reducible refine below_drewN ?_ _ | with_reducible refine below_drew ?_ | (simp; done) | (simp; omega) | omega))) b10
  have S11 := Lib.hid (S7.out.below b10)
  clear S7
  have S12 := Lib.hid (S8.out.below b10)
  clear S8
  have S13 := Lib.hid (S6.out.below b10)
  clear S6
  have h14 := bel_on h9 b10
  clear h9 b10
  obtain ⟨bF, oF, rfl, tF, _, cF⟩ := S12.out.2 m (by rw [HF.out]; omega)
  obtain ⟨bR, oR, rfl, tR, cR, _⟩ := S13.out.2 0 (by rw [HR.out]; omega)
  have E6 := E5.out m (by rw [HF.out]; omega) (by rw [HR.out]; omega)
  generalize vF.getD m (0, 0) = yF at *
  generalize vR.getD 0 (0, 0) = yR at *
  obtain ⟨yF1, yF2⟩ := yF
  obtain ⟨yR1, yR2⟩ := yR
  simp only [Nat.zero_mul, Nat.add_zero] at cF cR E6
  have i0 : (0 : Int) ≤ (m : Int) := by omega
  have i5 : (m : Int) < (m : Int) + 1 := by omega
  have dd6 : decide (yF2 ≤ yR1) = true := by simpa using E6
  have q2 : (((k : Int) + 1) == 0) = false := by simp; omega
  have hmL : m ≤ 100000000 := by have := HF.out; omega
  have i4 : IntKind.i64.wrap (m : Int) = (m : Int) := IntWalk.i64_in _ (by omega)
  have q1 : (((m : Int) + 1) == 0) = false := by simp; omega
  go_wp2
  go_quiet (fail)
  have S15 := Lib.hid (S11.out.drewN nq)
  clear S11
  have S16 := Lib.hid (S12.out.drewN nq)
  clear S12
  have S17 := Lib.hid (S13.out.drewN nq)
  clear S13
  have h18 := below_drewN h14 nq
  clear h14
  clear i4 q1
  clear cF cR tF tR q2
  generalize w10.drewN nq = wq at *
  go_wp2_with fail
  refine (CL.out _ S15.out).mono ?_
  rintro e w19 ⟨D19, d19, rfl, r19, b19⟩
  replace b19 := bel_on (show Below wq.heap.size wq _ by (repeat' (first | with_reducible exact Below.refl _ _ | with_reducible assumption | with_reducible refine bel_alloc ?_ _ | with_reducible refine bel_set ?_ ?_ _ | with_reducible refine below_drewN ?_ _ | with_reducible refine below_drew ?_ | (simp; done) | (simp; omega) | omega))) b19
  have S19 := Lib.hid (r19.spans fvL)
  clear r19
  have S20 := Lib.hid (S15.out.below b19)
  clear S15
  have S21 := Lib.hid (S16.out.below b19)
  clear S16
  have S22 := Lib.hid (S17.out.below b19)
  clear S17
  have h23 := bel_on h18 b19
  clear h18 b19
  go_wp2_with fail
  refine (CSF.out (some ⟨bF, oF, none⟩) d3 _ S21.out).mono ?_
  rintro e w24 ⟨rfl, b24⟩
  replace b24 := bel_on (show Below w19.heap.size w19 _ by (repeat' (first | with_reducible exact Below.refl _ _ | with_reducible assumption | with_reducible refine bel_alloc ?_ _ | with_reducible refine bel_set ?_ ?_ _ | with_reducible refine below_drewN ?_ _ | with_reducible refine below_drew ?_ | (simp; done) | (simp; omega) | omega))) b24
  have S25 := Lib.hid (S20.out.below b24)
  clear S20
  have S26 := Lib.hid (S22.out.below b24)
  clear S22
  have S27 := Lib.hid (S19.out.below b24)
  clear S19
  have h28 := bel_on h23 b24
  clear h23 b24
  go_wp2_with fail
  refine (CSR.out (some ⟨bR, oR, none⟩) d6 _ S26.out).mono ?_
  rintro e w29 ⟨rfl, b29⟩
  replace b29 := bel_on (show Below w24.heap.size w24 _ by (repeat' (first | with_reducible exact Below.refl _ _ | with_reducible assumption | with_reducible refine bel_alloc ?_ _ | with_reducible refine bel_set ?_ ?_ _ | with_reducible refine below_drewN ?_ _ | with_reducible refine below_drew ?_ | (simp; done) | (simp; omega) | omega))) b29
  have S30 := Lib.hid (S25.out.below b29)
  clear S25
  have S31 := Lib.hid (S27.out.below b29)
  clear S27
  have h32 := bel_on h28 b29
  clear h28 b29
  go_wp2_with fail
  refine (CSL.out D19 d19 _ S31.out).mono ?_
  rintro e w33 ⟨rfl, b33⟩
  replace b33 := bel_on (show Below w29.heap.size w29 _ by (repeat' (first | with_reducible exact Below.refl _ _ | with_reducible assumption | with_reducible refine bel_alloc ?_ _ | with_reducible refine bel_set ?_ ?_ _ | with_reducible refine below_drewN ?_ _ | with_reducible refine below_drew ?_ | (simp; done) | (simp; omega) | omega))) b33
  have S34 := Lib.hid (S30.out.below b33)
  clear S30
  have S35 := Lib.hid (S31.out.below b33)
  clear S31
  have h36 := bel_on h32 b33
  clear h32 b33
  go_wp2_with fail
  refine (CG.out _ S34.out).mono ?_
  rintro e w37 ⟨D37, d37, rfl, r37, b37⟩
  replace b37 := bel_on (show Below w33.heap.size w33 _ by (repeat' (first | with_reducible exact Below.refl _ _ | with_reducible assumption | with_reducible refine bel_alloc ?_ _ | with_reducible refine bel_set ?_ ?_ _ | with_reducible refine below_drewN ?_ _ | with_reducible refine below_drew ?_ | (simp; done) | (simp; omega) | omega))) b37
  have S37 := Lib.hid (r37.spans fvG)
  clear r37
  have S38 := Lib.hid (S34.out.below b37)
  clear S34
  have S39 := Lib.hid (S35.out.below b37)
  clear S35
  have h40 := bel_on h36 b37
  clear h36 b37
  go_wp2_with fail
  refine (CK.out D37 d37 _ S38.out S37.out).mono ?_
  rintro e w41 ⟨D41, d41, rfl, r41, b41⟩
  replace b41 := bel_on (show Below w37.heap.size w37 _ by (repeat' (first | with_reducible exact Below.refl _ _ | with_reducible assumption | with_reducible refine bel_alloc ?_ _ | with_reducible refine bel_set ?_ ?_ _ | with_reducible refine below_drewN ?_ _ | with_reducible refine below_drew ?_ | (simp; done) | (simp; omega) | omega))) b41
  have S41 := Lib.hid (r41.spans fvL)
  clear r41
  have S42 := Lib.hid (S38.out.below b41)
  clear S38
  have S43 := Lib.hid (S39.out.below b41)
  clear S39
  have S44 := Lib.hid (S37.out.below b41)
  clear S37
  have h45 := bel_on h40 b41
  clear h40 b41
  go_wp2_with fail
  refine (same_any D19 D41 d19 d41 vL _ S43.out S41.out (by omega)).mono ?_
  rintro e w46 ⟨rfl, b46⟩
  replace b46 := bel_on (show Below w41.heap.size w41 _ by (repeat' (first | with_reducible exact Below.refl _ _ | with_reducible assumption | with_reducible refine bel_alloc ?_ _ | with_reducible refine bel_set ?_ ?_ _ | with_reducible refine below_drewN ?_ _ | with_reducible refine below_drew ?_ | (simp; done) | (simp; omega) | omega))) b46
  have S47 := Lib.hid (S42.out.below b46)
  clear S42
  have S48 := Lib.hid (S43.out.below b46)
  clear S43
  have S49 := Lib.hid (S44.out.below b46)
  clear S44
  have S50 := Lib.hid (S41.out.below b46)
  clear S41
  have h51 := bel_on h45 b46
  clear h45 b46
  go_wp2
  go_ret
  exact ⟨rfl, h51⟩
theorem spanEnds_walk (a0 : Option Addr) (len0 cap0 : Nat) (z0 : List (Int × Int)) (n : Int) (w : World) (l0 : z0.length = len0) (l0' : len0 ≤ 9223372036854775807) (s0 : Spans w a0 z0) (n0 : a0 = none → cap0 = 0) (hn1 : -9223372036854775808 ≤ n) (hn2 : n ≤ 9223372036854775807) :
    Calls Try.prog 7 #[.slice a0 len0 cap0, .int .i64 n] w fun e w' => e = .returned (.bool true) ∧ Below w.heap.size w w' := by
  by_cases g : len0 ≤ 100
  · rcases Nat.eq_zero_or_pos (canon (fun t => In z0 t ∧ cnt (In z0) t.toNat < n)).length with e | e
    · exact spanEnds_shortA a0 len0 cap0 z0 n 0 0 w l0 l0' s0 n0 ⟨hn1, hn2⟩ g e
    · rcases Nat.eq_zero_or_pos (canon (fun t => In z0 t ∧ ¬ In (canon fun t => In z0 t ∧ cnt (In z0) t.toNat < n) t)).length with d | d
      · exact spanEnds_shortB a0 len0 cap0 z0 n ((canon (fun t => In z0 t ∧ cnt (In z0) t.toNat < n)).length - 1) 0 w l0 l0' s0 n0 ⟨hn1, hn2⟩ g (by omega) d
      · exact spanEnds_shortC a0 len0 cap0 z0 n ((canon (fun t => In z0 t ∧ cnt (In z0) t.toNat < n)).length - 1) ((canon (fun t => In z0 t ∧ ¬ In (canon fun t => In z0 t ∧ cnt (In z0) t.toNat < n) t)).length - 1) w l0 l0' s0 n0 ⟨hn1, hn2⟩ g (by omega) (by omega)
  · exact spanEnds_long a0 len0 cap0 z0 n w l0 l0' s0 n0 (by omega)
end Go.Proofs.Ytkdogleocffhdaa
