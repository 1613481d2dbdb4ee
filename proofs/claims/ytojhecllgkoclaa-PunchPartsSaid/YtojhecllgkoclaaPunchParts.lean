/-
  The law PunchParts, walked.
-/
import Derived.Test.YtojhecllgkoclaaPunE
namespace Go.Proofs.Ytojhecllgkoclaa
open Go.RowKit
set_option linter.unusedVariables false
set_option linter.unusedSimpArgs false
set_option maxRecDepth 20000

theorem plain_fill : ∀ {l : List (Int × Int)} {a B : Int}, PlainFrom a l → (∀ s ∈ l, s.2 ≤ B) → a ≤ B + 1 → (l.length : Int) ≤ B + 1 - a
  | [], a, B, _, _, h => by simp; omega
  | s :: l, a, B, ⟨h1, h2, h3, h4⟩, hB, h => by
    have hs := hB s (by simp)
    have := plain_fill h4 (fun x hx => hB x (by simp [hx])) (by omega)
    simp only [List.length_cons]
    omega
theorem ofDay_len (p : Int → Prop) (d : Int) : (ofDayP p d).length ≤ 86401 := by
  have hp : PlainFrom 0 (ofDayP p d) := canon_plain _
  have hin : ∀ s ∈ ofDayP p d, 86400 * d ≤ s.1 ∧ s.2 ≤ 86400 * d + 86400 := fun s hs => by
    have h0 := (plain_pairs.1 hp).1 s hs
    have h1 := (canon_in (fun t => p t ∧ t / 86400 = d) s.1).1 ⟨s, hs, by omega, by omega⟩
    have h2 := (canon_in (fun t => p t ∧ t / 86400 = d) (s.2 - 1)).1 ⟨s, hs, by omega, by omega⟩
    omega
  have hp2 : PlainFrom (86400 * d) (ofDayP p d) := plain_pairs.2 ⟨fun s hs => by
    have h0 := (plain_pairs.1 hp).1 s hs
    have := hin s hs
    omega, (plain_pairs.1 hp).2⟩
  have := plain_fill hp2 (fun s hs => (hin s hs).2) (by omega)
  omega
noncomputable def allL (p : Int → Prop) (D : List Int) (k : Nat) : List (Int × Int) := (D.take k).flatMap (ofDayP p)
noncomputable def weekL (p : Int → Prop) (D : List Int) (v : Int) (k : Nat) : List (Int × Int) := ((D.take k).filter fun d => decide (d / 7 = v)).flatMap (ofDayP p)
theorem takeD_snoc (D : List Int) (k : Nat) (h : k < D.length) : D.take (k + 1) = D.take k ++ [D.getD k 0] := by
  rw [List.take_succ_eq_append_getElem h]
  simp [List.getD, h]
theorem allL_snoc (p : Int → Prop) (D : List Int) (k : Nat) (h : k < D.length) : allL p D (k + 1) = allL p D k ++ ofDayP p (D.getD k 0) := by
  unfold allL
  rw [takeD_snoc D k h, List.flatMap_append]
  simp
theorem weekL_yes (p : Int → Prop) (D : List Int) (v : Int) (k : Nat) (h : k < D.length) (hv : D.getD k 0 / 7 = v) : weekL p D v (k + 1) = weekL p D v k ++ ofDayP p (D.getD k 0) := by
  unfold weekL
  rw [takeD_snoc D k h, List.filter_append, List.flatMap_append, List.filter_cons_of_pos (by simpa using hv)]
  simp
theorem weekL_no (p : Int → Prop) (D : List Int) (v : Int) (k : Nat) (h : k < D.length) (hv : ¬ D.getD k 0 / 7 = v) : weekL p D v (k + 1) = weekL p D v k := by
  unfold weekL
  rw [takeD_snoc D k h, List.filter_append, List.flatMap_append, List.filter_cons_of_neg (by simpa using hv)]
  simp
theorem allL_len (p : Int → Prop) (D : List Int) : ∀ k, k ≤ D.length → (allL p D k).length ≤ k * 86401
  | 0, _ => by simp [allL]
  | k + 1, h => by
    have ih := allL_len p D k (by omega)
    have := ofDay_len p (D.getD k 0)
    rw [allL_snoc p D k h, List.length_append]
    omega
theorem weekL_len (p : Int → Prop) (D : List Int) (v : Int) : ∀ k, k ≤ D.length → (weekL p D v k).length ≤ k * 86401
  | 0, _ => by simp [weekL]
  | k + 1, h => by
    have ih := weekL_len p D v k (by omega)
    have := ofDay_len p (D.getD k 0)
    generalize hY : ofDayP p (D.getD k 0) = Y at *
    generalize hX : weekL p D v k = X at *
    by_cases hv : D.getD k 0 / 7 = v
    · have e := weekL_yes p D v k h hv
      rw [hX, hY] at e
      have e2 := congrArg List.length e
      rw [List.length_append] at e2
      generalize (weekL p D v (k + 1)).length = m at *
      omega
    · have e := weekL_no p D v k h hv
      rw [hX] at e
      have e2 := congrArg List.length e
      generalize (weekL p D v (k + 1)).length = m at *
      omega
theorem days_small {k n : Nat} (hk : k ≤ 371) (h : n ≤ k * 86401) : n ≤ 40000000 :=
  Nat.le_trans h (Nat.le_trans (Nat.mul_le_mul_right _ hk) (by decide))
theorem flat_fits (p : Int → Prop) (l : List Int) : Fits (l.flatMap (ofDayP p)) := fun x hx => by
  obtain ⟨d, _, hd⟩ := List.mem_flatMap.1 hx
  exact Fits.canon (fun t => p t ∧ t / 86400 = d) x hd
theorem allL_end (z : List (Int × Int)) (n : Nat) (hn : (daysP (In z)).length = n) : canon (In (allL (In z) (daysP (In z)) n)) = canon (In z) :=
  canon_congr fun t a b => by
    unfold allL
    rw [← hn, List.take_length, days_make (In z) a b]
theorem weekL_end (z : List (Int × Int)) (v : Int) (n : Nat) (hn : (daysP (In z)).length = n) : canon (In (weekL (In z) (daysP (In z)) v n)) = ofWeekP (In z) v :=
  canon_congr fun t a b => by
    unfold weekL
    rw [← hn, List.take_length, week_make (In z) v a b]
theorem days_step (p : Int → Prop) {k : Nat} (h : k + 1 < (daysP p).length) : (daysP p).getD k 0 < (daysP p).getD (k + 1) 0 := by
  have := List.pairwise_iff_getElem.1 (days_rise p) k (k + 1) (by omega) h (by omega)
  simpa [List.getD, h, show k < (daysP p).length by omega] using this
theorem days_at (p : Int → Prop) {k : Nat} (h : k < (daysP p).length) : (daysP p).getD k 0 ∈ daysP p := by
  simp [List.getD, h]
/-- Another slice of the call's own is as it was. -/
theorem row_other {w w' : World} {base c n : Nat} {A B : Option Addr} {b : Nat} {xs : List (Int × Int)} (h : Row w base A c xs) (hg : w.grownBy w' (Value.slice B n b).ownBlock) (hne : ∀ g e, A = some g → B = some e → g.block ≠ e.block) : Row w' base A c xs :=
  h.keep fun g hA => hg.block _ (h.lt g hA).2 (by
    cases B with
    | none => simp [Value.ownBlock]
    | some e =>
      have := hne g e hA rfl
      simp only [Value.ownBlock]
      first | (intro q; simp at q; omega) | (simp; omega))
theorem row_caps0 {w : World} {base c : Nat} {A : Option Addr} {xs : List (Int × Int)} (h : Row w base A c xs) : Sl 2 w A xs.length c (cells2 xs) := Sl.of_own h
/-- Both slices of the call's own that the second loop appends to. -/
structure Both (w0 : World) (w : World) (A : Option Addr) (c : Nat) (xs : List (Int × Int)) (B : Option Addr) (d : Nat) (ys : List (Int × Int)) : Prop where
  a : Row w w0.heap.size A c xs
  b : Row w w0.heap.size B d ys
  ne : ∀ g e, A = some g → B = some e → g.block ≠ e.block
  bel : Below w0.heap.size w0 w
section
variable {w0 w w' : World} {A B : Option Addr} {c d : Nat} {xs ys zs : List (Int × Int)}
theorem Both.below (h : Both w0 w A c xs B d ys) (hb : Below w.heap.size w w') : Both w0 w' A c xs B d ys := ⟨h.a.below hb, h.b.below hb, h.ne, bel_on h.bel hb⟩
theorem Both.drewN (h : Both w0 w A c xs B d ys) (n : Nat) : Both w0 (w.drewN n) A c xs B d ys := ⟨h.a.drewN n, h.b.drewN n, h.ne, below_drewN h.bel n⟩
theorem Both.add (h : Both w0 w A c xs B d ys) {D : Option Addr} {e : Nat} (hs : Sl 2 w D zs.length e (cells2 zs)) (hn : xs.length + zs.length ≤ 1000000000) :
    ∃ A' c' w', (Builtin.append_ #[31, 31] 31 #[.slice A xs.length c, .slice D zs.length e]).run Try.prog w = .ok (.slice A' (xs ++ zs).length c') w' ∧ Both w0 w' A' c' (xs ++ zs) B d ys ∧
      (∀ b, b < w.heap.size → (∀ g, A = some g → g.block ≠ b) → w'.heap[b]? = w.heap[b]?) := by
  obtain ⟨A', c', w', h1, h2, h3, h4, h5⟩ := row_append h.a hs hn h.bel.size
  rw [← List.length_append] at h1 h5
  refine ⟨A', c', w', h1, ⟨h2, row_other h.b h4 (fun g e hg he => fun q => h.ne e g he hg q.symm), ?_, h3 w0 (Nat.le_refl _) h.bel⟩, fun b hb hne => ?_⟩
  · intro g e hA hB
    have hlt := (h.b.lt e hB).2
    subst hA
    rcases h5 with q | q
    · cases A with
      | none => simp [Value.ownBlock] at q
      | some g0 =>
        have := h.ne g0 e rfl hB
        simp [Value.ownBlock] at q
        omega
    · simp [Value.ownBlock] at q
      omega
  · refine h4.block b hb ?_
    cases A with
    | none => simp [Value.ownBlock]
    | some g0 =>
      have := hne g0 rfl
      simp only [Value.ownBlock]
      intro q
      simp at q
      omega
theorem Both.turn (h : Both w0 w A c xs B d ys) : Both w0 w B d ys A c xs := ⟨h.b, h.a, fun g e hg he q => h.ne e g he hg q.symm, h.bel⟩
end
/-- What lies below is as it was behind an append. -/
theorem sl_kept {w w' : World} {base c : Nat} {D : Option Addr} {zs : List (Int × Int)} (h : Row w base D c zs) (hk : ∀ g, D = some g → w'.heap[g.block]? = w.heap[g.block]?) : Row w' base D c zs := h.keep hk

theorem punchParts_long (a1 : Option Addr) (len1 cap1 : Nat) (v : Int) (w : World) (h : 30 < len1) :
    Calls Try.prog 6 #[.slice a1 len1 cap1, .int .u8 v] w fun e w' => e = .returned (.bool true) ∧ Below w.heap.size w w' := by
  have hd : (30 : Int) < (len1 : Int) := by omega
  go_enter Try.func6, Try.ntmps6
  go_wp2_with fail
  refine (awake11 _).mono ?_
  rintro e w1 ⟨rfl, b1⟩
  have HB := Lib.hid b1
  clear b1
  go_wp2
  go_ret
  exact ⟨rfl, HB.out⟩
set_option maxRecDepth 100000 in
set_option maxHeartbeats 8000000 in
theorem punchParts_short (a1 : Option Addr) (cap1 : Nat) (z1 : List (Int × Int)) (v : Int) (w : World) (s1 : Spans w a1 z1) (g : z1.length ≤ 30) (v1 : 0 ≤ v) (v2 : v ≤ 255) :
    Calls Try.prog 6 #[.slice a1 z1.length cap1, .int .u8 v] w fun e w' => e = .returned (.bool true) ∧ Below w.heap.size w w' := by
  have hl : z1.length ≤ 100000000 := by omega
  have hd : ¬ (30 : Int) < (z1.length : Int) := by omega
  obtain ⟨k0, hk0⟩ : ∃ k0, v.tmod 53 = k0 := ⟨_, rfl⟩
  have hk1 : 0 ≤ k0 ∧ k0 ≤ 52 := by rw [Int.tmod_eq_emod_of_nonneg v1] at hk0; omega
  have CD := Lib.hid (fun W (h : Spans W a1 z1) => days_any a1 cap1 z1 W h hl)
  have CO := Lib.hid (fun d W (h : Spans W a1 z1) => ofday_any a1 cap1 z1 d W h hl)
  have CN := Lib.hid (fun W (h : Spans W a1 z1) => norm_any a1 cap1 z1 W h hl)
  have CW := Lib.hid (fun W (h : Spans W a1 z1) => ofweek_any a1 cap1 z1 k0 W h hl)
  have lN := daysP_len (In z1)
  obtain ⟨N, hN⟩ : ∃ N, (daysP (In z1)).length = N := ⟨_, rfl⟩
  have EA := Lib.hid (allL_end z1 N hN)
  have EW := Lib.hid (weekL_end z1 k0 N hN)
  have HS0 := Lib.hid s1
  clear s1
  go_enter Try.func6, Try.ntmps6
  go_wp2_with fail
  refine (awake11 _).mono ?_
  rintro e w1 ⟨rfl, b1⟩
  have HB1 := Lib.hid b1
  have HS1 := Lib.hid (HS0.out.below b1)
  clear b1 HS0
  go_wp2
  go_loopw [6] (fun i wr => ∃ (k : Nat), k ≤ z1.length ∧ i = .int .i64 k ∧ Hid (Below w1.heap.size w1 wr)) (fun i _ => z1.length - (intOf i).toNat)
  case atStart => exact ⟨0, Nat.zero_le _, rfl, Below.refl _ _⟩
  case round =>
    obtain ⟨k, hk, rfl, hbw⟩ := hrel
    by_cases hlt : k < z1.length
    · obtain ⟨b, off, rfl, hblt, c1, c2⟩ := (HS1.out.below hbw.out).2 k hlt
      have hfit := HS1.out.1.at hlt
      generalize z1.getD k (0, 0) = z at *
      obtain ⟨x, y⟩ := z
      simp only [] at *
      obtain ⟨f1, f2⟩ := hfit
      have i0 : (0 : Int) ≤ (k : Int) := by omega
      have i1 : (k : Int) < (z1.length : Int) := by omega
      obtain ⟨q, hq⟩ : ∃ q, IntKind.i64.wrap (y - x) = q := ⟨_, rfl⟩
      have HEND : ∀ n, Hid (Below w.heap.size w (wr.drewN n)) := fun n => below_drewN (bel_on HB1.out hbw.out) n
      by_cases x0 : x < 0
      · go_wp2
        go_quiet (fail)
        go_wp2
        go_ret
        exact ⟨rfl, (HEND _).out⟩
      have x0' : decide (x < 0) = false := decide_eq_false x0
      by_cases x1 : 32054400 < y
      · go_wp2
        go_quiet (fail)
        go_wp2
        go_ret
        exact ⟨rfl, (HEND _).out⟩
      have x1' : decide (32054400 < y) = false := decide_eq_false x1
      by_cases x2 : 2592000 < q
      · go_wp2
        go_quiet (fail)
        go_wp2
        go_ret
        exact ⟨rfl, (HEND _).out⟩
      have x2' : decide (2592000 < q) = false := decide_eq_false x2
      go_wp2
      go_quiet (fail)
      go_wp2
      go_roundw
      case rel => exact ⟨k + 1, by omega, by go_num, below_drewN hbw.out _⟩
      case measure => simp [intOf]; omega
    · obtain rfl : k = z1.length := by omega
      have HB2 := Lib.hid (bel_on HB1.out hbw.out)
      have HS2 := Lib.hid (HS1.out.below hbw.out)
      clear hbw HB1 HS1
      go_wp2_with fail
      refine (CD.out _ HS2.out).mono ?_
      rintro e w3 ⟨A3, c3, rfl, r3, b3⟩
      have HNS := Lib.hid r3.nums
      have HB3 := Lib.hid (bel_on HB2.out b3)
      have HS3 := Lib.hid (HS2.out.below b3)
      rw [hN]
      clear b3 r3 HB2 HS2 CD
      go_wp2
      go_loopw [8, 9, 11] (fun oa ob i wr => ∃ (k : Nat) (A B : Option Addr) (c d : Nat), k ≤ N ∧ i = .int .i64 k ∧ oa = .slice A (allL (In z1) (daysP (In z1)) k).length c ∧ ob = .slice B (weekL (In z1) (daysP (In z1)) k0 k).length d ∧ Hid (Both w3 wr A c (allL (In z1) (daysP (In z1)) k) B d (weekL (In z1) (daysP (In z1)) k0 k))) (fun _ _ i _ => N - (intOf i).toNat)
      case atStart =>
        have e1 : allL (In z1) (daysP (In z1)) 0 = [] := by simp [allL]
        have e2 : weekL (In z1) (daysP (In z1)) k0 0 = [] := by simp [weekL]
        exact ⟨0, none, none, 0, 0, Nat.zero_le _, rfl, by rw [e1]; rfl, by rw [e2]; rfl, by rw [e1, e2]; exact ⟨Row.nil _ _, Row.nil _ _, (fun g e h _ => by cases h), Below.refl _ _⟩⟩
      case round =>
        obtain ⟨k, A, B, c, d, hk, rfl, rfl, rfl, HR⟩ := hrel
        by_cases hlt2 : k < N
        · have hday := days_at (In z1) (k := k) (by omega)
          have hday2 := daysP_bd (In z1) _ hday
          have hY := ofDay_some hday
          have hA := Lib.hid (allL_snoc (In z1) (daysP (In z1)) k (by omega))
          have hW1 := Lib.hid (fun h => weekL_yes (In z1) (daysP (In z1)) k0 k (by omega) h)
          have hW2 := Lib.hid (fun h => weekL_no (In z1) (daysP (In z1)) k0 k (by omega) h)
          have hAl := days_small (by omega) (allL_len (In z1) (daysP (In z1)) k (by omega))
          have hWl := days_small (by omega) (weekL_len (In z1) (daysP (In z1)) k0 k (by omega))
          have hYl := ofDay_len (In z1) ((daysP (In z1)).getD k 0)
          obtain ⟨bd, od, rfl, n0⟩ := HNS.out k (by omega)
          have hbd0 := cell_lt n0
          have n1 := (HR.out.bel.cell hbd0).trans n0
          have hbd := cell_lt n1
          have HC := Lib.hid (fun W (h : Below w3.heap.size w3 W) => And.intro ((h.cell hbd0).trans n0) (Nat.lt_of_lt_of_le hbd0 h.size))
          clear n0 hbd0
          have hprev : ∀ j, k = j + 1 → wr.cell? ⟨bd, od + j, none⟩ = some (.int .i64 ((daysP (In z1)).getD j 0)) ∧ (daysP (In z1)).getD j 0 < (daysP (In z1)).getD k 0 := by
            rintro j rfl
            obtain ⟨bd2, od2, e, n2⟩ := (HNS.out.below HR.out.bel) j (by omega)
            simp only [Option.some.injEq, Addr.mk.injEq, and_true] at e
            obtain ⟨rfl, rfl⟩ := e
            exact ⟨n2, days_step (In z1) (by omega)⟩
          have HNS2 := Lib.hid (fun W (h : Below wr.heap.size wr W) => (h.cell hbd).trans n1)
          have CO2 := CO.out ((daysP (In z1)).getD k 0) _ (HS3.out.below HR.out.bel)
          generalize ofDayP (In z1) ((daysP (In z1)).getD k 0) = Y at *
          generalize (daysP (In z1)).getD k 0 = dk at *
          generalize allL (In z1) (daysP (In z1)) k = X at *
          generalize weekL (In z1) (daysP (In z1)) k0 k = V at *
          have i0 : (0 : Int) ≤ (k : Int) := by omega
          have i1 : (k : Int) < (N : Int) := by omega
          have HP := Lib.hid hprev
          clear hprev hday
          go_wp2_with fail
          refine CO2.mono ?_
          rintro e w5 ⟨A5, c5, rfl, r5, b5⟩
          have y1 : ¬ ((Y.length : Nat) : Int) = 0 := by
            intro h
            exact hY (List.eq_nil_of_length_eq_zero (by omega))
          have y0 : (((Y.length : Nat) : Int) == 0) = false := beq_eq_false_iff_ne.2 y1
          have HR5 := Lib.hid (HR.out.below b5)
          have HA5 := Lib.hid (fun g h => (HR.out.a.lt g h).2)
          have HV5 := Lib.hid (fun g h => (HR.out.b.lt g h).2)
          have R5 := Lib.hid r5
          have n5 := HNS2.out _ b5
          have HP5 : Hid (∀ j, k = j + 1 → w5.cell? ⟨bd, od + j, none⟩ = some (.int .i64 ((daysP (In z1)).getD j 0)) ∧ (daysP (In z1)).getD j 0 < dk) := fun j hj => ⟨(b5.cell hbd).trans (HP.out j hj).1, (HP.out j hj).2⟩
          have hbd5 := Nat.lt_of_lt_of_le hbd b5.size
          have HSZ := Lib.hid b5.size
          have HB5 := Lib.hid b5
          clear r5 b5 CO2 HP n1
          have HRND : ∀ nq, Hid (Both w3 (w5.drewN nq) A c X B d V) := fun nq => HR5.out.drewN nq
          have HNXT : ∀ nq, Hid (Row (w5.drewN nq) wr.heap.size A5 c5 Y) := fun nq => R5.out.drewN nq
          have HCEL : ∀ nq, Hid ((w5.drewN nq).cell? ⟨bd, od + k, none⟩ = some (.int .i64 dk)) := fun nq => n5
          have HSZ2 : ∀ nq, Hid (wr.heap.size ≤ (w5.drewN nq).heap.size) := fun nq => HSZ.out
          rcases Nat.eq_zero_or_pos k with hk9 | hk9
          · subst hk9
            go_wp2
            go_quiet (fail)
            have hXY : X.length + Y.length ≤ 1000000000 := by omega
            have hVY : V.length + Y.length ≤ 1000000000 := by omega
            obtain ⟨x9, hx9⟩ : ∃ x9, (X ++ Y).length = x9 := ⟨_, rfl⟩
            obtain ⟨v9, hv9⟩ : ∃ v9, (V ++ Y).length = v9 := ⟨_, rfl⟩
            obtain ⟨A7, c7, w7, hr7, hb7, hk7⟩ := (HRND nq).out.add (row_caps0 (HNXT nq).out) hXY
            rw [hx9] at hr7
            have HR7 := Lib.hid hr7
            have r7 : Row w7 wr.heap.size A5 c5 Y := (HNXT nq).out.keep fun g hg => hk7 _ ((HNXT nq).out.lt g hg).2 fun a ha => by
              have h1 := HA5.out a ha
              have h2 := ((HNXT nq).out.lt g hg).1
              omega
            obtain ⟨n9, n10⟩ := HC.out _ hb7.bel
            rw [Nat.add_zero] at n9
            have HX9 := Lib.hid hx9
            have HV9 := Lib.hid hv9
            have HB7 := Lib.hid hb7
            clear hr7 hk7 hx9 hv9
            by_cases hv : dk / 7 = k0
            · have e7 : dk.tdiv 7 = k0 := by rw [Int.tdiv_eq_ediv_of_nonneg hday2.1]; exact hv
              have HW := Lib.hid (hW1.out hv)
              obtain ⟨B8, d8, w8, hr8, hb8, -⟩ := hb7.turn.add (row_caps0 r7) hVY
              rw [HV9.out] at hr8
              have HR8 := Lib.hid hr8
              have HB8 := Lib.hid hb8.turn
              clear hr8 hb8 hb7 r7
              go_wp2_with (first | (at_builtin; refine wpList_append_run (o := ⟨some 91, _, _, _, _, _⟩) HR7.out rfl rfl rfl rfl ?_) | (at_builtin; refine wpList_append_run (o := ⟨some 101, _, _, _, _, _⟩) HR8.out rfl rfl rfl rfl ?_))
              go_roundw
              case rel => exact ⟨0 + 1, A7, B8, c7, d8, by omega, by go_num, by rw [hA.out, HX9.out], by rw [HW.out, HV9.out], by rw [hA.out, HW.out]; exact HB8⟩
              case measure => simp [intOf]; omega
            · obtain ⟨p9, hp9⟩ : ∃ p9, dk / 7 = p9 := ⟨_, rfl⟩
              have e7 : dk.tdiv 7 = p9 := by rw [Int.tdiv_eq_ediv_of_nonneg hday2.1]; exact hp9
              have HW := Lib.hid (hW2.out hv)
              rw [hp9] at hv
              have e8 : (p9 == k0) = false := beq_eq_false_iff_ne.2 hv
              clear hb7 r7
              go_wp2_with (at_builtin; refine wpList_append_run (o := ⟨some 91, _, _, _, _, _⟩) HR7.out rfl rfl rfl rfl ?_)
              go_roundw
              case rel => exact ⟨0 + 1, A7, B, c7, d, by omega, by go_num, by rw [hA.out, HX9.out], by rw [HW.out], by rw [hA.out, HW.out]; exact HB7⟩
              case measure => simp [intOf]; omega
          · obtain ⟨j, rfl⟩ : ∃ j, k = j + 1 := ⟨k - 1, by omega⟩
            obtain ⟨n6, n7⟩ := HP5.out j rfl
            generalize (daysP (In z1)).getD j 0 = dj at *
            have n8 : decide (dk ≤ dj) = false := decide_eq_false (by omega)
            have i2 : (0 : Int) < (j : Int) + 1 := by omega
            go_wp2
            go_quiet (fail)
            have hXY : X.length + Y.length ≤ 1000000000 := by omega
            have hVY : V.length + Y.length ≤ 1000000000 := by omega
            obtain ⟨x9, hx9⟩ : ∃ x9, (X ++ Y).length = x9 := ⟨_, rfl⟩
            obtain ⟨v9, hv9⟩ : ∃ v9, (V ++ Y).length = v9 := ⟨_, rfl⟩
            obtain ⟨A7, c7, w7, hr7, hb7, hk7⟩ := (HRND nq).out.add (row_caps0 (HNXT nq).out) hXY
            rw [hx9] at hr7
            have HR7 := Lib.hid hr7
            have r7 : Row w7 wr.heap.size A5 c5 Y := (HNXT nq).out.keep fun g hg => hk7 _ ((HNXT nq).out.lt g hg).2 fun a ha => by
              have h1 := HA5.out a ha
              have h2 := ((HNXT nq).out.lt g hg).1
              omega
            obtain ⟨n9, n10⟩ := HC.out _ hb7.bel
            have HX9 := Lib.hid hx9
            have HV9 := Lib.hid hv9
            have HB7 := Lib.hid hb7
            clear hr7 hk7 hx9 hv9
            by_cases hv : dk / 7 = k0
            · have e7 : dk.tdiv 7 = k0 := by rw [Int.tdiv_eq_ediv_of_nonneg hday2.1]; exact hv
              have HW := Lib.hid (hW1.out hv)
              obtain ⟨B8, d8, w8, hr8, hb8, -⟩ := hb7.turn.add (row_caps0 r7) hVY
              rw [HV9.out] at hr8
              have HR8 := Lib.hid hr8
              have HB8 := Lib.hid hb8.turn
              clear hr8 hb8 hb7 r7
              go_wp2_with (first | (at_builtin; refine wpList_append_run (o := ⟨some 91, _, _, _, _, _⟩) HR7.out rfl rfl rfl rfl ?_) | (at_builtin; refine wpList_append_run (o := ⟨some 101, _, _, _, _, _⟩) HR8.out rfl rfl rfl rfl ?_))
              go_roundw
              case rel => exact ⟨(j + 1) + 1, A7, B8, c7, d8, by omega, by go_num, by rw [hA.out, HX9.out], by rw [HW.out, HV9.out], by rw [hA.out, HW.out]; exact HB8⟩
              case measure => simp [intOf]; omega
            · obtain ⟨p9, hp9⟩ : ∃ p9, dk / 7 = p9 := ⟨_, rfl⟩
              have e7 : dk.tdiv 7 = p9 := by rw [Int.tdiv_eq_ediv_of_nonneg hday2.1]; exact hp9
              have HW := Lib.hid (hW2.out hv)
              rw [hp9] at hv
              have e8 : (p9 == k0) = false := beq_eq_false_iff_ne.2 hv
              clear hb7 r7
              go_wp2_with (at_builtin; refine wpList_append_run (o := ⟨some 91, _, _, _, _, _⟩) HR7.out rfl rfl rfl rfl ?_)
              go_roundw
              case rel => exact ⟨(j + 1) + 1, A7, B, c7, d, by omega, by go_num, by rw [hA.out, HX9.out], by rw [HW.out], by rw [hA.out, HW.out]; exact HB7⟩
              case measure => simp [intOf]; omega
        · obtain rfl : k = N := by omega
          have hAl := days_small (by omega) (allL_len (In z1) (daysP (In z1)) k (by omega))
          have hWl := days_small (by omega) (weekL_len (In z1) (daysP (In z1)) k0 k (by omega))
          have fA : Fits (allL (In z1) (daysP (In z1)) k) := flat_fits _ _
          have fW : Fits (weekL (In z1) (daysP (In z1)) k0 k) := flat_fits _ _
          have i1 : ¬ (k : Int) < (k : Int) := by omega
          have fC : Fits (canon (In z1)) := Fits.canon _
          have lC := canon_len (In z1)
          have fU : Fits (ofWeekP (In z1) k0) := Fits.canon _
          have lU : (ofWeekP (In z1) k0).length ≤ 32054401 := canon_len _
          have C1 := norm_any A c (allL (In z1) (daysP (In z1)) k) wr (HR.out.a.spans fA) (by omega)
          rw [EA.out] at C1
          have C2 := Lib.hid (fun W (h : Below wr.heap.size wr W) => norm_any B d (weekL (In z1) (daysP (In z1)) k0 k) W ((HR.out.b.spans fW).below h) (by omega))
          rw [EW.out] at C2
          have HBR := Lib.hid (bel_on HB3.out HR.out.bel)
          have HSR := Lib.hid (HS3.out.below HR.out.bel)
          clear HR EA EW hAl hWl fA fW CO HNS HB3 HS3
          generalize allL (In z1) (daysP (In z1)) k = X at *
          generalize weekL (In z1) (daysP (In z1)) k0 k = V at *
          generalize canon (In z1) = C at *
          generalize ofWeekP (In z1) k0 = U at *
          go_wp2_with fail
          refine C1.mono ?_
          rintro e w5 ⟨A5, c5, rfl, r5, b5⟩
          have HX5 := Lib.hid (r5.spans fC)
          have HB5 := Lib.hid b5
          have HS5 := Lib.hid (HSR.out.below b5)
          clear r5 b5 C1
          go_wp2_with fail
          refine (CN.out _ HS5.out).mono ?_
          rintro e w6 ⟨A6, c6, rfl, r6, b6⟩
          have HY6 := Lib.hid (r6.spans fC)
          have HX6 := Lib.hid (HX5.out.below b6)
          have HB6 := Lib.hid (bel_on HB5.out b6)
          clear r6 b6 HB5 HX5 HS5
          go_wp2_with fail
          refine (same_any _ _ _ _ C _ HX6.out HY6.out (by omega)).mono ?_
          rintro e w7 ⟨rfl, b7⟩
          have HB7 := Lib.hid (bel_on HB6.out b7)
          clear b7 HB6 HX6 HY6
          go_wp2_with fail
          refine (C2.out _ HB7.out).mono ?_
          rintro e w8 ⟨A8, c8, rfl, r8, b8⟩
          have HX8 := Lib.hid (r8.spans fU)
          have HB8 := Lib.hid (bel_on HB7.out b8)
          clear r8 b8 HB7
          go_wp2_with fail
          refine (CW.out _ (HSR.out.below HB8.out)).mono ?_
          rintro e w9 ⟨A9, c9, rfl, r9, b9⟩
          have HY9 := Lib.hid (r9.spans fU)
          have HX9 := Lib.hid (HX8.out.below b9)
          have HB9 := Lib.hid (bel_on HB8.out b9)
          clear r9 b9 HB8 HX8
          go_wp2_with fail
          refine (same_any _ _ _ _ U _ HX9.out HY9.out (by omega)).mono ?_
          rintro e w10 ⟨rfl, b10⟩
          have HB10 := Lib.hid (bel_on HBR.out (bel_on HB9.out b10))
          clear b10 HB9 HX9 HY9
          go_wp2
          go_ret
          exact ⟨rfl, HB10.out⟩
theorem punchParts_walk (a1 : Option Addr) (len1 cap1 : Nat) (z1 : List (Int × Int)) (v : Int) (w : World)
    (l1 : z1.length = len1) (l1' : len1 ≤ 9223372036854775807) (s1 : Spans w a1 z1) (n1 : a1 = none → cap1 = 0) (v1 : 0 ≤ v) (v2 : v ≤ 255) :
    Calls Try.prog 6 #[.slice a1 len1 cap1, .int .u8 v] w fun e w' => e = .returned (.bool true) ∧ Below w.heap.size w w' := by
  subst l1
  by_cases g : z1.length ≤ 30
  · exact punchParts_short a1 cap1 z1 v w s1 g v1 v2
  · exact punchParts_long a1 _ cap1 v w (by omega)
end Go.Proofs.Ytojhecllgkoclaa
