/-
  The walk of the law SpanSizes: it answers true, and leaves what was there as it was.
-/
import Derived.Test.YtkdogleocffhdaaSpAwake
namespace Go.Proofs.Ytkdogleocffhdaa
open Go.RowKit
set_option linter.unusedVariables false
set_option linter.unusedSimpArgs false

/-- In a walk: an append behind a guard that lets it be, whose run is known. -/
theorem wpList_append_want {P : Program} {ops : Array Oper} {rest : List Oper} {o : Oper} {a : Act} {w w' : World} {Q : Exit → Act → World → Prop} {s x : Operand} {t : TypeId} {v u v' : Value}
    (hr : (Builtin.append_ #[t, t] o.type #[v, u]).run P w = .ok v' w') (hgd : Region.wanted o (yielded ops a.tmps) = true)
    (ho : o.op = .call { callee := .builtin .append, args := #[s, x], argTypes := #[t, t] }) (hs : a.eval s = v) (hx : a.eval x = u)
    (h : wpList P ops Q rest (a.put o.dst v') w') : wpList P ops Q (o :: rest) a w := by
  refine wpList_step fun K hK => ?_
  rw [if_pos hgd]
  unfold Oper.wp execOp
  simp only [ho, resolve, invoke, builtin, Sem.run_bind, Sem.run_pure, Result.andThen_ok, List.map_toArray, List.map_cons, List.map_nil, hs, hx, hr]
  exact hK _ _ h
theorem row_nil {w : World} {base c : Nat} {A : Option Addr} {xs : List (Int × Int)} (h : Row w base A c xs) : A = none → c = 0 := fun e => by
  rcases h.forms with ⟨_, _, hc⟩ | ⟨g, hA, _⟩
  · exact hc
  · rw [hA] at e; cases e
theorem sizes_sum (a b : List (Int × Int)) : sz (In a) = sz (In (canon fun t => In a t ∧ In b t)) + sz (In (canon fun t => In a t ∧ ¬ In b t)) :=
  sz_or (fun t h1 h2 => by
    rw [canon_in, canon_in]
    refine ⟨⟨fun h => ?_, fun h => h.elim (fun q => q.2.2.1) (fun q => q.2.2.1)⟩, fun ⟨q1, q2⟩ => q2.2.2.2 q1.2.2.2⟩
    by_cases q : In b t
    · exact .inl ⟨h1, h2, h, q⟩
    · exact .inr ⟨h1, h2, h, q⟩)
theorem sizes_join (a b : List (Int × Int)) : canon (In ((canon fun t => In a t ∧ In b t) ++ canon fun t => In a t ∧ ¬ In b t)) = canon (In a) :=
  canon_congr (fun t h1 h2 => by
    rw [in_append, canon_in, canon_in]
    refine ⟨fun h => h.elim (fun q => q.2.2.1) (fun q => q.2.2.1), fun h => ?_⟩
    by_cases q : In b t
    · exact .inl ⟨h1, h2, h, q⟩
    · exact .inr ⟨h1, h2, h, q⟩)
theorem sizes_turn (a b : List (Int × Int)) : canon (fun t => In b t ∧ In a t) = canon (fun t => In a t ∧ In b t) := canon_congr (fun t _ _ => And.comm)
theorem sizes_apart (a b : List (Int × Int)) : canon (fun t => In (canon fun t => In a t ∧ In b t) t ∧ In (canon fun t => In a t ∧ ¬ In b t) t) = [] :=
  canon_none (fun t _ _ h => by
    rw [canon_in, canon_in] at h
    exact h.2.2.2.2 h.1.2.2.2)

theorem spanSizes_long (a0 : Option Addr) (len0 cap0 : Nat) (z0 : List (Int × Int)) (a1 : Option Addr) (len1 cap1 : Nat) (z1 : List (Int × Int))  (w : World) (l0 : z0.length = len0) (l0' : len0 ≤ 9223372036854775807) (s0 : Spans w a0 z0) (n0 : a0 = none → cap0 = 0) (l1 : z1.length = len1) (l1' : len1 ≤ 9223372036854775807) (s1 : Spans w a1 z1) (n1 : a1 = none → cap1 = 0) (h : ¬ (len0 ≤ 100 ∧ len1 ≤ 100)) :
    Calls Try.prog 6 #[.slice a0 len0 cap0, .slice a1 len1 cap1] w fun e w' => e = .returned (.bool true) ∧ Below w.heap.size w w' := by
  have hd : decide (len0 ≤ 100 ∧ len1 ≤ 100) = false := by simpa using h
  have HD := Lib.hid hd
  clear hd h
  go_enter Try.func6, Try.ntmps6
  go_wp2_with fail
  refine (awake3 _).mono ?_
  rintro e w1 ⟨rfl, b1⟩
  go_wp2_with fail
  refine (few_any a0 a1 len0 len1 cap0 cap1 _ l0' l1').mono ?_
  rw [HD.out]
  rintro e w2 ⟨rfl, rfl⟩
  go_wp2
  go_ret
  exact ⟨rfl, b1⟩
set_option maxHeartbeats 4000000 in
theorem spanSizes_short (a0 : Option Addr) (len0 cap0 : Nat) (z0 : List (Int × Int)) (a1 : Option Addr) (len1 cap1 : Nat) (z1 : List (Int × Int))  (w : World) (l0 : z0.length = len0) (l0' : len0 ≤ 9223372036854775807) (s0 : Spans w a0 z0) (n0 : a0 = none → cap0 = 0) (l1 : z1.length = len1) (l1' : len1 ≤ 9223372036854775807) (s1 : Spans w a1 z1) (n1 : a1 = none → cap1 = 0) (g : len0 ≤ 100 ∧ len1 ≤ 100) :
    Calls Try.prog 6 #[.slice a0 len0 cap0, .slice a1 len1 cap1] w fun e w' => e = .returned (.bool true) ∧ Below w.heap.size w w' := by
  subst l0
  subst l1
  have S0a := Lib.hid s0
  have S0b := Lib.hid s1
  have hl0 : z0.length ≤ 100000000 := by omega
  have hl1 : z1.length ≤ 100000000 := by omega
  clear s0 s1
  have HD : Hid (decide (z0.length ≤ 100 ∧ z1.length ≤ 100) = true) := by show _ = _; simpa using g
  have E1 := Lib.hid (sizes_sum z0 z1)
  have E2 := Lib.hid (sizes_join z0 z1)
  have E3 := Lib.hid (sizes_turn z0 z1)
  have E4 := Lib.hid (sizes_apart z0 z1)
  have CA := Lib.hid (fun W (h : Spans W a0 z0) (h' : Spans W a1 z1) => and_any a0 a1 cap0 cap1 z0 z1 W h h' hl0 hl1)
  have CM := Lib.hid (fun W (h : Spans W a0 z0) (h' : Spans W a1 z1) => minus_any a0 a1 cap0 cap1 z0 z1 W h h' hl0 hl1)
  have CT := Lib.hid (fun W (h : Spans W a1 z1) (h' : Spans W a0 z0) => and_any a1 a0 cap1 cap0 z1 z0 W h h' hl1 hl0)
  have CN := Lib.hid (fun W (h : Spans W a0 z0) => norm_any a0 cap0 z0 W h hl0)
  have CS := Lib.hid (fun W (h : Spans W a0 z0) => size_any a0 cap0 z0 W h hl0)
  have fvA := Fits.canon (fun t => In z0 t ∧ In z1 t)
  have lvA := canon_len (fun t => In z0 t ∧ In z1 t)
  have fvM := Fits.canon (fun t => In z0 t ∧ ¬ In z1 t)
  have lvM := canon_len (fun t => In z0 t ∧ ¬ In z1 t)
  have fvN := Fits.canon (In z0)
  have lvN := canon_len (In z0)
  generalize canon (fun t => In z0 t ∧ In z1 t) = vA at *
  generalize canon (fun t => In z0 t ∧ ¬ In z1 t) = vM at *
  generalize canon (In z0) = vN at *
  have b1 := sz_bound (In vA)
  have b2 := sz_bound (In vM)
  have CSA := Lib.hid (fun A c W (h : Spans W A vA) => size_any A c vA W h (by omega))
  have CSM := Lib.hid (fun A c W (h : Spans W A vM) => size_any A c vM W h (by omega))
  generalize sz (In vA) = yA at *
  generalize sz (In vM) = yM at *
  go_enter Try.func6, Try.ntmps6
  go_wp2_with fail
  refine (awake3 _).mono ?_
  rintro e w1 ⟨rfl, b1⟩
  replace b1 := bel_on (show Below w.heap.size w _ by (repeat' (first | with_reducible exact Below.refl _ _ | with_reducible assumption | with_reducible refine bel_alloc ?_ _ | with_reducible refine bel_set ?_ ?_ _ | with_reducible refine below_drewN ?_ _ | with_reducible refine below_drew ?_ | (simp; done) | (simp; omega) | omega))) b1
  have S2 := Lib.hid (S0a.out.below b1)
  clear S0a
  have S3 := Lib.hid (S0b.out.below b1)
  clear S0b
  go_wp2_with fail
  refine (few_any a0 a1 z0.length z1.length cap0 cap1 _ l0' l1').mono ?_
  rw [HD.out]
  rintro e w4 ⟨rfl, rfl⟩
  go_wp2_with fail
  refine (CA.out _ S2.out S3.out).mono ?_
  rintro e w5 ⟨D5, d5, rfl, r5, b5⟩
  replace b5 := bel_on (show Below w1.heap.size w1 _ by (repeat' (first | with_reducible exact Below.refl _ _ | with_reducible assumption | with_reducible refine bel_alloc ?_ _ | with_reducible refine bel_set ?_ ?_ _ | with_reducible refine below_drewN ?_ _ | with_reducible refine below_drew ?_ | (simp; done) | (simp; omega) | omega))) b5
  have S5 := Lib.hid (r5.spans fvA)
  have n5 := Lib.hid (row_nil r5)
  clear r5
  have S6 := Lib.hid (S2.out.below b5)
  clear S2
  have S7 := Lib.hid (S3.out.below b5)
  clear S3
  have h8 := bel_on b1 b5
  clear b1 b5
  go_wp2_with fail
  refine (CM.out _ S6.out S7.out).mono ?_
  rintro e w9 ⟨D9, d9, rfl, r9, b9⟩
  replace b9 := bel_on (show Below w5.heap.size w5 _ by (repeat' (first | with_reducible exact Below.refl _ _ | with_reducible assumption | with_reducible refine bel_alloc ?_ _ | with_reducible refine bel_set ?_ ?_ _ | with_reducible refine below_drewN ?_ _ | with_reducible refine below_drew ?_ | (simp; done) | (simp; omega) | omega))) b9
  have S9 := Lib.hid (r9.spans fvM)
  have n9 := Lib.hid (row_nil r9)
  clear r9
  have S10 := Lib.hid (S6.out.below b9)
  clear S6
  have S11 := Lib.hid (S7.out.below b9)
  clear S7
  have S12 := Lib.hid (S5.out.below b9)
  clear S5
  have h13 := bel_on h8 b9
  clear h8 b9
  go_wp2_with fail
  refine (CSA.out D5 d5 _ S12.out).mono ?_
  rintro e w14 ⟨rfl, b14⟩
  replace b14 := bel_on (show Below w9.heap.size w9 _ by (repeat' (first | with_reducible exact Below.refl _ _ | with_reducible assumption | with_reducible refine bel_alloc ?_ _ | with_reducible refine bel_set ?_ ?_ _ | with_reducible refine below_drewN ?_ _ | with_reducible refine below_drew ?_ | (simp; done) | (simp; omega) | omega))) b14
  have S15 := Lib.hid (S10.out.below b14)
  clear S10
  have S16 := Lib.hid (S11.out.below b14)
  clear S11
  have S17 := Lib.hid (S12.out.below b14)
  clear S12
  have S18 := Lib.hid (S9.out.below b14)
  clear S9
  have h19 := bel_on h13 b14
  clear h13 b14
  go_wp2_with fail
  refine (CSM.out D9 d9 _ S18.out).mono ?_
  rintro e w20 ⟨rfl, b20⟩
  replace b20 := bel_on (show Below w14.heap.size w14 _ by (repeat' (first | with_reducible exact Below.refl _ _ | with_reducible assumption | with_reducible refine bel_alloc ?_ _ | with_reducible refine bel_set ?_ ?_ _ | with_reducible refine below_drewN ?_ _ | with_reducible refine below_drew ?_ | (simp; done) | (simp; omega) | omega))) b20
  have S21 := Lib.hid (S15.out.below b20)
  clear S15
  have S22 := Lib.hid (S16.out.below b20)
  clear S16
  have S23 := Lib.hid (S17.out.below b20)
  clear S17
  have S24 := Lib.hid (S18.out.below b20)
  clear S18
  have h25 := bel_on h19 b20
  clear h19 b20
  go_wp2_with fail
  refine (CS.out _ S21.out).mono ?_
  rw [E1.out]
  rintro e w26 ⟨rfl, b26⟩
  replace b26 := bel_on (show Below w20.heap.size w20 _ by (repeat' (first | with_reducible exact Below.refl _ _ | with_reducible assumption | with_reducible refine bel_alloc ?_ _ | with_reducible refine bel_set ?_ ?_ _ | with_reducible refine below_drewN ?_ _ | with_reducible refine below_drew ?_ | (simp; done) | (simp; omega) | omega))) b26
  have S27 := Lib.hid (S21.out.below b26)
  clear S21
  have S28 := Lib.hid (S22.out.below b26)
  clear S22
  have S29 := Lib.hid (S23.out.below b26)
  clear S23
  have S30 := Lib.hid (S24.out.below b26)
  clear S24
  have h31 := bel_on h25 b26
  clear h25 b26
  have R32 : Row (w26.alloc (.cells #[] 35)) w26.heap.size (some ⟨w26.heap.size, 0, none⟩) 0 [] := own_new w26 35 2 0 #[] rfl (by decide)
  obtain ⟨E32, e32, u32a, q32, Q32, U32, _, _⟩ := row_append R32 ((S29.out.alloc _).sl n5.out) (by simp; omega) (by simp)
  simp only [List.length_nil, Nat.zero_add, List.nil_append] at q32 Q32
  have V32 := U32 w26 (Nat.le_refl _) ((Below.refl _ _).alloc (Nat.le_refl _) _)
  obtain ⟨E32b, e32b, u32b, q32b, Q32b, U32b, _, _⟩ := row_append Q32 ((S30.out.below V32).sl n9.out) (by omega) V32.size
  have V32b := U32b w26 (Nat.le_refl _) V32
  have HQ32 := Lib.hid q32
  rw [← List.length_append] at q32b
  have HQ32b := Lib.hid q32b
  clear q32 q32b U32 U32b R32 Q32 V32
  have fZ : Fits (vA ++ vM) := Fits.append S29.out.1 S30.out.1
  have S32j := Lib.hid (Q32b.spans fZ)
  clear Q32b
  have lZ : (vA ++ vM).length ≤ 100000000 := by rw [List.length_append]; omega
  generalize vA ++ vM = Z at *
  have S33 := Lib.hid (S27.out.below V32b)
  clear S27
  have S34 := Lib.hid (S28.out.below V32b)
  clear S28
  have S35 := Lib.hid (S29.out.below V32b)
  clear S29
  have S36 := Lib.hid (S30.out.below V32b)
  clear S30
  have h37 := bel_on h31 V32b
  clear h31 V32b
  go_wp2_with (first | (at_builtin; refine wpList_append_want (o := ⟨some 34, _, _, _, _, _⟩) HQ32.out rfl rfl rfl rfl ?_) | (at_builtin; refine wpList_append_want (o := ⟨some 36, _, _, _, _, _⟩) HQ32b.out rfl rfl rfl rfl ?_))
  refine (norm_any E32b e32b Z _ S32j.out lZ).mono ?_
  rw [E2.out]
  rintro e w38 ⟨D38, d38, rfl, r38, b38⟩
  replace b38 := bel_on (show Below u32b.heap.size u32b _ by (repeat' (first | with_reducible exact Below.refl _ _ | with_reducible assumption | with_reducible refine bel_alloc ?_ _ | with_reducible refine bel_set ?_ ?_ _ | with_reducible refine below_drewN ?_ _ | with_reducible refine below_drew ?_ | (simp; done) | (simp; omega) | omega))) b38
  have S38 := Lib.hid (r38.spans fvN)
  have n38 := Lib.hid (row_nil r38)
  clear r38
  have S39 := Lib.hid (S33.out.below b38)
  clear S33
  have S40 := Lib.hid (S34.out.below b38)
  clear S34
  have S41 := Lib.hid (S35.out.below b38)
  clear S35
  have S42 := Lib.hid (S36.out.below b38)
  clear S36
  have S43 := Lib.hid (S32j.out.below b38)
  clear S32j
  have h44 := bel_on h37 b38
  clear h37 b38
  go_wp2_with fail
  refine (CN.out _ S39.out).mono ?_
  rintro e w45 ⟨D45, d45, rfl, r45, b45⟩
  replace b45 := bel_on (show Below w38.heap.size w38 _ by (repeat' (first | with_reducible exact Below.refl _ _ | with_reducible assumption | with_reducible refine bel_alloc ?_ _ | with_reducible refine bel_set ?_ ?_ _ | with_reducible refine below_drewN ?_ _ | with_reducible refine below_drew ?_ | (simp; done) | (simp; omega) | omega))) b45
  have S45 := Lib.hid (r45.spans fvN)
  have n45 := Lib.hid (row_nil r45)
  clear r45
  have S46 := Lib.hid (S39.out.below b45)
  clear S39
  have S47 := Lib.hid (S40.out.below b45)
  clear S40
  have S48 := Lib.hid (S41.out.below b45)
  clear S41
  have S49 := Lib.hid (S42.out.below b45)
  clear S42
  have S50 := Lib.hid (S43.out.below b45)
  clear S43
  have S51 := Lib.hid (S38.out.below b45)
  clear S38
  have h52 := bel_on h44 b45
  clear h44 b45
  go_wp2_with fail
  refine (same_any D38 D45 d38 d45 vN _ S51.out S45.out (by omega)).mono ?_
  rintro e w53 ⟨rfl, b53⟩
  replace b53 := bel_on (show Below w45.heap.size w45 _ by (repeat' (first | with_reducible exact Below.refl _ _ | with_reducible assumption | with_reducible refine bel_alloc ?_ _ | with_reducible refine bel_set ?_ ?_ _ | with_reducible refine below_drewN ?_ _ | with_reducible refine below_drew ?_ | (simp; done) | (simp; omega) | omega))) b53
  have S54 := Lib.hid (S46.out.below b53)
  clear S46
  have S55 := Lib.hid (S47.out.below b53)
  clear S47
  have S56 := Lib.hid (S48.out.below b53)
  clear S48
  have S57 := Lib.hid (S49.out.below b53)
  clear S49
  have h58 := bel_on h52 b53
  clear h52 b53
  go_wp2_with fail
  refine (CT.out _ S55.out S54.out).mono ?_
  rw [E3.out]
  rintro e w59 ⟨D59, d59, rfl, r59, b59⟩
  replace b59 := bel_on (show Below w53.heap.size w53 _ by (repeat' (first | with_reducible exact Below.refl _ _ | with_reducible assumption | with_reducible refine bel_alloc ?_ _ | with_reducible refine bel_set ?_ ?_ _ | with_reducible refine below_drewN ?_ _ | with_reducible refine below_drew ?_ | (simp; done) | (simp; omega) | omega))) b59
  have S59 := Lib.hid (r59.spans fvA)
  have n59 := Lib.hid (row_nil r59)
  clear r59
  have S60 := Lib.hid (S54.out.below b59)
  clear S54
  have S61 := Lib.hid (S55.out.below b59)
  clear S55
  have S62 := Lib.hid (S56.out.below b59)
  clear S56
  have S63 := Lib.hid (S57.out.below b59)
  clear S57
  have h64 := bel_on h58 b59
  clear h58 b59
  go_wp2_with fail
  refine (same_any D5 D59 d5 d59 vA _ S62.out S59.out (by omega)).mono ?_
  rintro e w65 ⟨rfl, b65⟩
  replace b65 := bel_on (show Below w59.heap.size w59 _ by (repeat' (first | with_reducible exact Below.refl _ _ | with_reducible assumption | with_reducible refine bel_alloc ?_ _ | with_reducible refine bel_set ?_ ?_ _ | with_reducible refine below_drewN ?_ _ | with_reducible refine below_drew ?_ | (simp; done) | (simp; omega) | omega))) b65
  have S66 := Lib.hid (S62.out.below b65)
  clear S62
  have S67 := Lib.hid (S63.out.below b65)
  clear S63
  have h68 := bel_on h64 b65
  clear h64 b65
  go_wp2_with fail
  refine (and_any D5 D9 d5 d9 vA vM _ S66.out S67.out (by omega) (by omega)).mono ?_
  rw [E4.out]
  rintro e w69 ⟨D69, d69, rfl, r69, b69⟩
  replace b69 := bel_on (show Below w65.heap.size w65 _ by (repeat' (first | with_reducible exact Below.refl _ _ | with_reducible assumption | with_reducible refine bel_alloc ?_ _ | with_reducible refine bel_set ?_ ?_ _ | with_reducible refine below_drewN ?_ _ | with_reducible refine below_drew ?_ | (simp; done) | (simp; omega) | omega))) b69
  have S69 := Lib.hid (r69.spans Fits.nil)
  have n69 := Lib.hid (row_nil r69)
  clear r69
  have S70 := Lib.hid (S66.out.below b69)
  clear S66
  have S71 := Lib.hid (S67.out.below b69)
  clear S67
  have h72 := bel_on h68 b69
  clear h68 b69
  go_wp2
  go_ret
  exact ⟨rfl, h72⟩
theorem spanSizes_walk (a0 : Option Addr) (len0 cap0 : Nat) (z0 : List (Int × Int)) (a1 : Option Addr) (len1 cap1 : Nat) (z1 : List (Int × Int))  (w : World) (l0 : z0.length = len0) (l0' : len0 ≤ 9223372036854775807) (s0 : Spans w a0 z0) (n0 : a0 = none → cap0 = 0) (l1 : z1.length = len1) (l1' : len1 ≤ 9223372036854775807) (s1 : Spans w a1 z1) (n1 : a1 = none → cap1 = 0) :
    Calls Try.prog 6 #[.slice a0 len0 cap0, .slice a1 len1 cap1] w fun e w' => e = .returned (.bool true) ∧ Below w.heap.size w w' := by
  by_cases g : len0 ≤ 100 ∧ len1 ≤ 100
  · exact spanSizes_short a0 len0 cap0 z0 a1 len1 cap1 z1  w l0 l0' s0 n0 l1 l1' s1 n1  g
  · exact spanSizes_long a0 len0 cap0 z0 a1 len1 cap1 z1  w l0 l0' s0 n0 l1 l1' s1 n1 g
end Go.Proofs.Ytkdogleocffhdaa
