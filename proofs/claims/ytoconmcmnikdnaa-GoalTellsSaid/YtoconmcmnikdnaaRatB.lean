/-
  The contracts of package ratio's functions, continued: Check, and all that stands on it.
-/
import Derived.Test.YtoconmcmnikdnaaRat
namespace Go.Proofs.Ytoconmcmnikdnaa
open Go.RowKit
set_option linter.unusedVariables false

theorem may_mk (n d : Int) : mayB n d = (decide (mkC n d = 0) && (decide (mkN n d = n) && decide (mkD n d = d))) := by
  by_cases h : mayB n d = true
  · obtain ⟨a, b, c⟩ := mk_self h
    rw [h, a, b, c]
    simp
  · have h' : mayB n d = false := by simpa using h
    rw [h']
    symm
    by_cases hc : mkC n d = 0
    · by_cases h1 : mkN n d = n ∧ mkD n d = d
      · exfalso
        have := mk_may hc
        rw [h1.1, h1.2] at this
        exact h this
      · simp only [hc, decide_true, Bool.true_and, ← Bool.decide_and]
        exact decide_eq_false h1
    · simp [hc]

theorem check_any (n d : Int) (w : World) (hn : -9223372036854775808 ≤ n) (hn' : n ≤ 9223372036854775807) (hd : -9223372036854775808 ≤ d) (hd' : d ≤ 9223372036854775807) :
    Calls Try.prog 15 #[.agg #[.int .i64 n, .int .i64 d]] w fun e w' => e = .returned (.bool (mayB n d)) ∧ Below w.heap.size w w' := by
  have E := Lib.hid (may_mk n d)
  by_cases h : mkC n d = 0
  · have h1 : (mkC n d == 0) = true := by simpa using h
    have H := Lib.hid h
    clear h
    go_enter Try.func15, Try.ntmps15
    go_wp2_with fail
    refine (make_any _ _ _ hn hn' hd hd').mono ?_
    rintro e w1 ⟨rfl, hb1⟩
    obtain ⟨hc1, hf1⟩ := bcell hb1
    have hz : w.heap.size < w1.heap.size := by have := hb1.size; simp at this; omega
    replace hb1 := bel_on (bel_alloc (Below.refl w.heap.size w) _) hb1
    go_wp2
    all_goals
      go_ret
      exact ⟨ret_bool (by have h0 := H.out; rw [E.out]; simp [*]), by (repeat' (first | with_reducible exact Below.refl _ _ | with_reducible assumption | with_reducible refine bel_alloc ?_ _ | with_reducible refine bel_set ?_ ?_ _ | with_reducible refine below_drewN ?_ _ | with_reducible refine below_drew ?_ | (simp; done) | (simp; omega) | omega))⟩
  · have h1 : (mkC n d == 0) = false := by simpa using h
    have H := Lib.hid h
    clear h
    go_enter Try.func15, Try.ntmps15
    go_wp2_with fail
    refine (make_any _ _ _ hn hn' hd hd').mono ?_
    rintro e w1 ⟨rfl, hb1⟩
    obtain ⟨hc1, hf1⟩ := bcell hb1
    have hz : w.heap.size < w1.heap.size := by have := hb1.size; simp at this; omega
    replace hb1 := bel_on (bel_alloc (Below.refl w.heap.size w) _) hb1
    go_wp2
    go_ret
    exact ⟨ret_bool (by have h0 := H.out; rw [E.out]; simp [h0]), by (repeat' (first | with_reducible exact Below.refl _ _ | with_reducible assumption | with_reducible refine bel_alloc ?_ _ | with_reducible refine bel_set ?_ ?_ _ | with_reducible refine below_drewN ?_ _ | with_reducible refine below_drew ?_ | (simp; done) | (simp; omega) | omega))⟩

/-- A slice value over A reads as the ratios xs. -/
def Rats (w : World) (A : Option Addr) (xs : List (Int × Int)) : Prop :=
  ∀ k, k < xs.length → ∃ b off, A = some ⟨b, off, none⟩ ∧ w.cell? ⟨b, off + k * 2, none⟩ = some (.int .i64 (xs.getD k (0, 0)).1) ∧ w.cell? ⟨b, off + k * 2 + 1, none⟩ = some (.int .i64 (xs.getD k (0, 0)).2) ∧
    -9223372036854775808 ≤ (xs.getD k (0, 0)).1 ∧ (xs.getD k (0, 0)).1 ≤ 9223372036854775807 ∧ -9223372036854775808 ≤ (xs.getD k (0, 0)).2 ∧ (xs.getD k (0, 0)).2 ≤ 9223372036854775807
theorem Rats.below {w w' : World} {A : Option Addr} {xs : List (Int × Int)} (h : Rats w A xs) (hb : Below w.heap.size w w') : Rats w' A xs := by
  intro k hk
  obtain ⟨b, off, e, h1, h2, h3⟩ := h k hk
  exact ⟨b, off, e, (hb.cell (cell_lt h1)).trans h1, (hb.cell (cell_lt h2)).trans h2, h3⟩

theorem all_snoc (xs : List (Int × Int)) (k : Nat) (h : k < xs.length) : allMay (xs.take (k + 1)) = (allMay (xs.take k) && mayB (xs.getD k (0, 0)).1 (xs.getD k (0, 0)).2) := by
  unfold allMay
  rw [List.take_succ_eq_append_getElem h, List.all_append]
  simp [List.getD, h]
theorem all_bad (xs : List (Int × Int)) (k : Nat) (h : k < xs.length) (hm : mayB (xs.getD k (0, 0)).1 (xs.getD k (0, 0)).2 = false) : allMay xs = false := by
  unfold allMay
  rw [List.all_eq_false]
  refine ⟨xs.getD k (0, 0), by simp [List.getD, h], by rw [hm]; simp⟩

theorem allMay_any (A : Option Addr) (cap : Nat) (xs : List (Int × Int)) (w : World) (hx : Rats w A xs) (hl : xs.length ≤ 9223372036854775807) :
    Calls Try.prog 39 #[.slice A xs.length cap] w fun e w' => e = .returned (.bool (allMay xs)) ∧ Below w.heap.size w w' := by
  have HX := Lib.hid hx
  clear hx
  go_enter Try.func39, Try.ntmps39
  go_wp2
  go_loopw [7] (fun i wr => ∃ k : Nat, k ≤ xs.length ∧ i = .int .i64 k ∧ Hid (allMay (xs.take k) = true) ∧ Below w.heap.size w wr) (fun i _ => xs.length - (intOf i).toNat)
  case atStart => exact ⟨0, Nat.zero_le _, rfl, rfl, Below.refl _ _⟩
  case round =>
    obtain ⟨k, hk, rfl, hs, hbw⟩ := hrel
    by_cases hlt : k < xs.length
    · obtain ⟨b, off, rfl, c1, c2, b1, b2, b3, b4⟩ := (HX.out.below hbw) k hlt
      have S1 := Lib.hid (all_snoc xs k hlt)
      have S2 := Lib.hid (all_bad xs k hlt)
      generalize (xs.getD k (0, 0)).1 = n at *
      generalize (xs.getD k (0, 0)).2 = d at *
      go_wp2_with fail
      refine (check_any _ _ _ b1 b2 b3 b4).mono ?_
      rintro e w2 ⟨rfl, hb2⟩
      replace hb2 := bel_on (bel_alloc hbw _) hb2
      clear hbw c1 c2
      cases hm : mayB n d with
      | true =>
        have hs' : Hid (allMay (xs.take (k + 1)) = true) := by
          show _ = _
          rw [S1.out, hs.out, hm]; rfl
        clear hm
        go_wp2
        go_roundw
        case rel => exact ⟨k + 1, by omega, by go_num, hs', hb2⟩
        case measure => simp [intOf]; omega
      | false =>
        have hs' := Lib.hid (S2.out hm)
        clear hm
        go_wp2
        go_ret
        exact ⟨ret_bool hs'.out.symm, hb2⟩
    · obtain rfl : k = xs.length := by omega
      have hs' := hs.out
      rw [List.take_length] at hs'
      have HS := Lib.hid hs'
      clear hs hs'
      go_wp2
      go_ret
      exact ⟨ret_bool HS.out.symm, hbw⟩

theorem rats_new (w : World) (xs : List (Int × Int)) (t : TypeId) (cs : Array Value) (hcs : cs = (xs.flatMap fun x => [Value.int .i64 x.1, .int .i64 x.2]).toArray)
    (h : ∀ x ∈ xs, -9223372036854775808 ≤ x.1 ∧ x.1 ≤ 9223372036854775807 ∧ -9223372036854775808 ≤ x.2 ∧ x.2 ≤ 9223372036854775807) :
    Rats (w.alloc (.cells cs t)) (some ⟨w.heap.size, 0, none⟩) xs := by
  intro k hk
  have g : ∀ (l : List (Int × Int)) (k : Nat), k < l.length → (l.flatMap fun x => [Value.int .i64 x.1, .int .i64 x.2])[k * 2]? = some (.int .i64 (l.getD k (0, 0)).1) ∧ (l.flatMap fun x => [Value.int .i64 x.1, .int .i64 x.2])[k * 2 + 1]? = some (.int .i64 (l.getD k (0, 0)).2) := by
    intro l
    induction l with
    | nil => intro k hk; simp at hk
    | cons x l ih =>
      intro k hk
      cases k with
      | zero => exact ⟨rfl, rfl⟩
      | succ k =>
        have := ih k (by simpa using hk)
        rw [show (k + 1) * 2 = k * 2 + 1 + 1 by omega]
        simp only [List.flatMap_cons, List.cons_append, List.nil_append, List.getElem?_cons_succ, List.getD_cons_succ]
        exact this
  have e : ∀ j, (w.alloc (.cells cs t)).cell? ⟨w.heap.size, j, none⟩ = cs[j]? := fun j => cell_of_row _ _ _ _ t (0, 0) (heap_alloc_new w _)
  refine ⟨_, _, rfl, ?_, ?_, h _ (by simp [List.getD, hk])⟩
  · rw [e, hcs]; simpa using (g xs k hk).1
  · rw [e, hcs]; simpa using (g xs k hk).2

theorem all_two (a b c d : Int) (w : World) (t : TypeId) (s : Nat) (hs : w.heap.size = s) (ha : -9223372036854775808 ≤ a ∧ a ≤ 9223372036854775807) (hb : -9223372036854775808 ≤ b ∧ b ≤ 9223372036854775807)
    (hc : -9223372036854775808 ≤ c ∧ c ≤ 9223372036854775807) (hd : -9223372036854775808 ≤ d ∧ d ≤ 9223372036854775807) :
    Calls Try.prog 39 #[.slice (some ⟨s, 0, none⟩) 2 2] (w.alloc (.cells #[.int .i64 a, .int .i64 b, .int .i64 c, .int .i64 d] t)) fun e w' => e = .returned (.bool (mayB a b && mayB c d)) ∧ Below w.heap.size w w' := by
  subst hs
  have h := allMay_any (some ⟨w.heap.size, 0, none⟩) 2 [(a, b), (c, d)] (w.alloc (.cells #[.int .i64 a, .int .i64 b, .int .i64 c, .int .i64 d] t))
    (rats_new w [(a, b), (c, d)] t _ rfl (by simp; omega)) (by simp)
  refine h.mono ?_
  rintro e w' ⟨rfl, hb⟩
  exact ⟨ret_bool (by simp [allMay]), bel_on (bel_alloc (Below.refl _ _) _) hb⟩

theorem two_yes (F : FuncId) (p q : Value) (a b c d n m : Int) (w : World) (ha : -9223372036854775808 ≤ a ∧ a ≤ 9223372036854775807) (hb : -9223372036854775808 ≤ b ∧ b ≤ 9223372036854775807)
    (hc : -9223372036854775808 ≤ c ∧ c ≤ 9223372036854775807) (hd : -9223372036854775808 ≤ d ∧ d ≤ 9223372036854775807) (hm : (mayB a b && mayB c d) = true)
    (hE : ∀ args w, (callFunc F args).run Try.prog w = .ok (.enter F args) w)
    (hF : ∀ w1, Below w.heap.size w w1 → Calls Try.prog F #[p, q] w1 fun e w' => e = .returned (.tuple #[.int .i64 n, .int .i64 m]) ∧ ∃ k, w' = w1.drewN k)
    (hn : -9223372036854775808 ≤ n) (hn' : n ≤ 9223372036854775807) (hd0 : -9223372036854775808 ≤ m) (hd' : m ≤ 9223372036854775807) :
    Calls Try.prog 37 #[.agg #[.int .i64 a, .int .i64 b], .agg #[.int .i64 c, .int .i64 d], .func (.func F) #[] #[p, q]] w fun e w' => e = .returned (.tuple #[.agg #[.int .i64 (mkN n m), .int .i64 (mkD n m)], .int .i64 (mkC n m)]) ∧ Below w.heap.size w w' := by
  have HF := Lib.hid hF
  have HM := Lib.hid hm
  clear hF hm
  go_enter Try.func37, Try.ntmps37
  go_wp2_with fail
  refine (all_two a b c d _ _ _ (by simp) ha hb hc hd).mono ?_
  rw [HM.out]
  rintro e w1 ⟨rfl, hb1⟩
  have R1 : Has w1 (w.heap.size + 1 + 1) #[.int .i64 0, .int .i64 0] := (Has.new _ _ _ (by simp)).below hb1
  replace hb1 := bel_on (show Below w.heap.size w _ by (repeat' (first | with_reducible exact Below.refl _ _ | with_reducible assumption | with_reducible refine bel_alloc ?_ _ | with_reducible refine bel_set ?_ ?_ _ | with_reducible refine below_drewN ?_ _ | with_reducible refine below_drew ?_ | (simp; done) | (simp; omega) | omega))) hb1
  go_wp2_with fail
  refine (HF.out w1 hb1).mono ?_
  rintro e w2 ⟨rfl, k, rfl⟩
  go_wp2_with fail
  refine (make_any n m _ hn hn' hd0 hd').mono ?_
  rintro e w2 ⟨rfl, hb2⟩
  have R2 := (R1.drewN k).below hb2
  replace hb2 := bel_on (below_drewN hb1 k) hb2
  clear R1 hb1
  obtain ⟨c0, c1, f0, f1⟩ := R2.two
  go_wp2
  refine bodyPost_ret (v := .tuple #[.agg #[.int .i64 (mkN n m), .int .i64 (mkD n m)], .int .i64 (mkC n m)]) (by simp [results, Try.results37, go_sem, c0, c1]) rfl ⟨rfl, ?_⟩
  (repeat' (first | with_reducible exact Below.refl _ _ | with_reducible assumption | with_reducible refine bel_alloc ?_ _ | with_reducible refine bel_set ?_ ?_ _ | with_reducible refine below_drewN ?_ _ | with_reducible refine below_drew ?_ | (simp; done) | (simp; omega) | omega))
end Go.Proofs.Ytoconmcmnikdnaa
