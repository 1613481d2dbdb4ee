/-
  The contracts of package lumperref03's functions, continued: Size, upTo, at, First, Last, Same.
  The contracts of package lumperref03's functions, continued: First, Last, Same; and of the statements' own helpers plain and few.
-/
import Derived.Test.YthdolmhnjinlhaaGreatZae
import Derived.Test.YthdolmhnjinlhaaGreatZag
namespace Go.Proofs.YthdolmhnjinlhaaGreat
open Go.RowKit
set_option linter.unusedVariables false

theorem below_append (l m : List (Int × Int)) (h : Int) : below (l ++ m) h = below l h + below m h := by simp [below]
theorem below_snoc (l : List (Int × Int)) (k : Nat) (h : k < l.length) (t : Int) : below (l.take (k + 1)) t = below (l.take k) t + max 0 (min (l.getD k (0, 0)).2 t - (l.getD k (0, 0)).1) := by
  rw [List.take_succ_eq_append_getElem h, below_append]
  simp [List.getD, h, below]
theorem below_full : ∀ {l : List (Int × Int)} {t : Int}, (∀ s ∈ l, s.2 ≤ t ∧ s.1 ≤ s.2) → below l t = szL l
  | [], _, _ => rfl
  | s :: l, t, h => by
    have h1 := h s (by simp)
    rw [below_cons, szL_cons, below_full (fun x hx => h x (by simp [hx]))]; omega
theorem below_none : ∀ {l : List (Int × Int)} {t : Int}, (∀ s ∈ l, t ≤ s.1) → below l t = 0
  | [], _, _ => rfl
  | s :: l, t, h => by
    have h1 := h s (by simp)
    rw [below_cons, below_none (fun x hx => h x (by simp [hx]))]; omega
theorem below_mono : ∀ (l : List (Int × Int)) {t u : Int}, t ≤ u → below l t ≤ below l u
  | [], _, _, _ => by simp [below]
  | s :: l, t, u, h => by
    have := below_mono l h
    rw [below_cons, below_cons]; omega
theorem below_bd {l : List (Int × Int)} (h : PlainFrom 0 l) (k : Nat) (t : Int) : 0 ≤ below (l.take k) t ∧ below (l.take k) t ≤ 32054400 := by
  have h1 := plain_take k h
  have h2 := szL_take k h
  have key : ∀ {l : List (Int × Int)} {a : Int}, PlainFrom a l → 0 ≤ below l t ∧ below l t ≤ szL l := by
    intro l
    induction l with
    | nil => intro a _; simp [below, szL]
    | cons s l ih =>
      intro a hp
      have := ih hp.2.2.2
      have := hp.2.1
      rw [below_cons, szL_cons]; omega
  have := key h1
  omega
theorem below_split {P : List (Int × Int)} (h : PlainFrom 0 P) {k : Nat} (hk : k < P.length) {t : Int} (h1 : (P.getD k (0, 0)).1 ≤ t) (h2 : t ≤ (P.getD k (0, 0)).2) : below P t = szL (P.take k) + (t - (P.getD k (0, 0)).1) := by
  have e : P = P.take k ++ (P.getD k (0, 0) :: P.drop (k + 1)) := by
    rw [← drop_getD P k hk, List.take_append_drop]
  have hz := plain_at h hk
  have hp := plain_pairs.1 h
  have hw := hp.2
  rw [e] at hw
  obtain ⟨q1, q2, q3⟩ := List.pairwise_append.1 hw
  obtain ⟨q4, q5⟩ := List.pairwise_cons.1 q2
  conv => lhs; rw [e, below_append, below_cons]
  rw [below_full (fun s hs => ⟨by have := q3 s hs (P.getD k (0, 0)) (by simp); omega, by have := hp.1 s (List.mem_of_mem_take hs); omega⟩), below_none (fun s hs => by have := q4 s hs; omega)]
  omega

theorem rupto_any (A : Option Addr) (cap : Nat) (L : List (Int × Int)) (t : Int) (w : World) (hx : Spans w A L) (hP : PlainFrom 0 L) (ht : 0 ≤ t) (ht' : t ≤ 32054400) :
    Calls Tryz.prog 71 #[.slice A L.length cap, .int .i64 t] w fun e w' => e = .returned (.int .i64 (below L t)) ∧ Below w.heap.size w w' := by
  have HS := Lib.hid hx
  have HP := Lib.hid hP
  have hlen := plain_len hP (by omega)
  clear hx hP
  go_enter Tryz.func71, Tryz.ntmps71
  go_wp2
  go_loopw [5, 6] (fun s i wr => ∃ (k : Nat), k ≤ L.length ∧ i = .int .i64 k ∧ s = .int .i64 (below (L.take k) t) ∧ Below w.heap.size w wr) (fun _ i _ => L.length - (intOf i).toNat)
  case atStart => exact ⟨0, Nat.zero_le _, rfl, rfl, Below.refl _ _⟩
  case round =>
    obtain ⟨k, hk, rfl, rfl, hbw⟩ := hrel
    by_cases hlt : k < L.length
    · obtain ⟨b, off, rfl, hblt, c1, c2⟩ := (HS.out.below hbw).2 k hlt
      have HZ := plain_at HP.out hlt
      have HN := Lib.hid (below_snoc L k hlt t)
      have hb1' := below_bd HP.out k t
      generalize L.getD k (0, 0) = z at *
      obtain ⟨p, q⟩ := z
      simp only [] at *
      generalize below (L.take k) t = s1 at *
      have i0 : (0 : Int) ≤ (k : Int) := by omega
      have i1 : (k : Int) < (L.length : Int) := by omega
      have w1' : IntKind.i64.wrap (min q t - p) = min q t - p := IntWalk.i64_in _ (by omega)
      have w2' : IntKind.i64.wrap (s1 + max 0 (min q t - p)) = s1 + max 0 (min q t - p) := IntWalk.i64_in _ (by omega)
      go_wp2
      go_region
      clear w1' w2'
      all_goals
        go_wp2
        go_roundw
        case rel => exact ⟨k + 1, by omega, by go_num, by rw [HN.out], by (repeat' (first | with_reducible exact Below.refl _ _ | with_reducible assumption | with_reducible refine bel_alloc ?_ _ | with_reducible refine bel_set ?_ ?_ _ | with_reducible refine below_drewN ?_ _ | with_reducible refine below_drew ?_ | (simp; done) | (simp; omega) | omega))⟩
        case measure => simp [intOf]; omega
    · obtain rfl : k = L.length := by omega
      go_wp2
      go_ret
      exact ⟨ret_one (by rw [List.take_length]), hbw⟩

/-- v parts the seconds that have fewer than n ahead of them from the others. -/
def AtOK (P : List (Int × Int)) (n v : Int) : Prop := 0 ≤ v ∧ v ≤ 32054400 ∧ ∀ t, 0 ≤ t → t < 32054400 → (t < v ↔ below P t < n)
theorem at_hit {P : List (Int × Int)} (h : PlainFrom 0 P) {k : Nat} (hk : k < P.length) {n : Int} (h1 : szL (P.take k) < n) (h2 : n - szL (P.take k) ≤ (P.getD k (0, 0)).2 - (P.getD k (0, 0)).1) : AtOK P n ((P.getD k (0, 0)).1 + n - szL (P.take k)) := by
  have hz := plain_at h hk
  have e1 := below_split h hk (t := (P.getD k (0, 0)).1) (by omega) (by omega)
  have e2 := below_split h hk (t := (P.getD k (0, 0)).2) (by omega) (by omega)
  refine ⟨by omega, by omega, fun t q1 q2 => ?_⟩
  rcases Int.lt_or_le t (P.getD k (0, 0)).1 with c | c
  · have := below_mono P (Int.le_of_lt c); omega
  · rcases Int.lt_or_le (P.getD k (0, 0)).2 t with d | d
    · have := below_mono P (Int.le_of_lt d); omega
    · have := below_split h hk c d; omega
theorem at_none {P : List (Int × Int)} (h : PlainFrom 0 P) {n : Int} (h1 : szL P < n) : AtOK P n 32054400 := by
  refine ⟨by omega, by omega, fun t q1 q2 => ?_⟩
  have h2 := below_mono P (Int.le_of_lt q2)
  have h3 := below_top (h := 32054400) h (by omega)
  omega
theorem at_low {P : List (Int × Int)} (h : PlainFrom 0 P) {n : Int} (h1 : n < 1) : AtOK P n 0 := by
  refine ⟨by omega, by omega, fun t q1 q2 => ?_⟩
  have := (below_bd h P.length t).1
  rw [List.take_length] at this
  omega
def AtPost (w : World) (P : List (Int × Int)) (n : Int) (e : Ending) (w' : World) : Prop := ∃ v, e = .returned (.int .i64 v) ∧ AtOK P n v ∧ Below w.heap.size w w'

theorem rat_any (A : Option Addr) (cap : Nat) (L : List (Int × Int)) (n : Int) (w : World) (hx : Spans w A L) (hP : PlainFrom 0 L) (hn : Fit n) :
    Calls Tryz.prog 44 #[.slice A L.length cap, .int .i64 n] w (AtPost w L n) := by
  obtain ⟨hn1, hn2⟩ := hn
  by_cases h1 : n < 1
  · have HA := Lib.hid (at_low hP h1)
    go_enter Tryz.func44, Tryz.ntmps44
    go_wp2
    go_ret
    exact ⟨0, rfl, HA.out, Below.refl _ _⟩
  have HS := Lib.hid hx
  have HP := Lib.hid hP
  have hlen := plain_len hP (by omega)
  clear hx hP
  go_enter Tryz.func44, Tryz.ntmps44
  go_wp2
  go_loopw [5] (fun i wr => ∃ (k : Nat), k ≤ L.length ∧ i = .int .i64 k ∧ szL (L.take k) < n ∧ Below w.heap.size w wr) (fun i _ => L.length - (intOf i).toNat)
  case atStart => exact ⟨0, Nat.zero_le _, rfl, by show (0 : Int) < n; omega, Below.refl _ _⟩
  case round =>
    obtain ⟨k, hk, rfl, hsn, hbw⟩ := hrel
    by_cases hlt : k < L.length
    · obtain ⟨b, off, rfl, hblt, c1, c2⟩ := (HS.out.below hbw).2 k hlt
      have HZ := plain_at HP.out hlt
      have HN := Lib.hid (szL_snoc L k hlt)
      have HB := Lib.hid (below_split HP.out hlt (t := (L.getD k (0, 0)).1) (by omega) (by omega))
      have HH := Lib.hid (fun h => at_hit HP.out hlt hsn h)
      have hb1' := szL_take k HP.out
      have CU := Lib.hid (fun W (h : Spans W (some ⟨b, off, none⟩) L) => rupto_any (some ⟨b, off, none⟩) cap L (L.getD k (0, 0)).1 W h HP.out (by omega) (by omega))
      generalize L.getD k (0, 0) = z at *
      obtain ⟨p, q⟩ := z
      simp only [] at *
      generalize szL (L.take k) = s1 at *
      have i0 : (0 : Int) ≤ (k : Int) := by omega
      have i1 : (k : Int) < (L.length : Int) := by omega
      go_wp2_with fail
      refine (CU.out _ (HS.out.below hbw)).mono ?_
      rw [HB.out]
      rintro e w2 ⟨rfl, hb2⟩
      rw [show s1 + (p - p) = s1 by omega]
      have d1 := (hb2.cell hblt).trans c1
      have d2 := (hb2.cell hblt).trans c2
      replace hb2 := bel_on hbw hb2
      clear c1 c2 HB CU
      have w1' : IntKind.i64.wrap (n - s1) = n - s1 := IntWalk.i64_in _ (by omega)
      have w2' : IntKind.i64.wrap (q - p) = q - p := IntWalk.i64_in _ (by omega)
      by_cases hc : n - s1 ≤ q - p
      · have hd : decide (n - s1 ≤ q - p) = true := by simpa using hc
        go_wp2
        go_quiet (fail)
        clear w1' w2'
        have hv : p + n ≤ 9223372036854775807 := by omega
        go_wp2
        go_ret
        exact ⟨_, rfl, HH.out hc, below_drewN hb2 _⟩
      · have hd : decide (n - s1 ≤ q - p) = false := by simpa using hc
        go_wp2
        go_quiet (fail)
        clear w1' w2'
        go_wp2
        go_roundw
        case rel => exact ⟨k + 1, by omega, by go_num, by rw [HN.out]; omega, below_drewN hb2 _⟩
        case measure => simp [intOf]; omega
    · obtain rfl : k = L.length := by omega
      rw [List.take_length] at hsn
      have HH := Lib.hid (at_none HP.out hsn)
      go_wp2
      go_ret
      exact ⟨_, rfl, HH.out, hbw⟩
end Go.Proofs.YthdolmhnjinlhaaGreat

namespace Go.Proofs.YthdolmhnjinlhaaGreat
open Go.RowKit
set_option linter.unusedVariables false
set_option maxRecDepth 20000
set_option linter.unusedSimpArgs false

theorem at_canon {xs : List (Int × Int)} {n v : Int} (h : AtOK (canon (In xs)) n v) {t : Int} (h0 : 0 ≤ t) (h1 : t < 32054400) : In [(0, v)] t ↔ cnt (In xs) t.toNat < n := by
  have e := below_canon (In xs) t.toNat (by omega)
  rw [show ((t.toNat : Nat) : Int) = t by omega] at e
  rw [in_one, ← e, ← h.2.2 t h0 h1]
  exact ⟨fun q => q.2, fun q => ⟨h0, q⟩⟩

theorem rfirst_any (A : Option Addr) (cap : Nat) (xs : List (Int × Int)) (n : Int) (w : World) (hx : Spans w A xs) (hl : xs.length ≤ 100000000) (hn : Fit n) :
    Calls Tryz.prog 22 #[.slice A xs.length cap, .int .i64 n] w (Gives w (canon fun t => In xs t ∧ cnt (In xs) t.toNat < n)) := by
  have HX := Lib.hid hx
  have C1 := rnorm_any A cap xs w hx hl
  have HA := Lib.hid (fun v (h : AtOK (canon (In xs)) n v) => canon_congr (p := fun t => In xs t ∧ In [(0, v)] t) (q := fun t => In xs t ∧ cnt (In xs) t.toNat < n) (fun t a b => by rw [at_canon h a b]))
  have hP := canon_plain (In xs)
  clear hx
  generalize canon (fun t => In xs t ∧ cnt (In xs) t.toNat < n) = R at *
  generalize canon (In xs) = L at *
  go_enter Tryz.func22, Tryz.ntmps22
  go_wp2_with fail
  refine C1.mono ?_
  rintro e w1 ⟨D, d, rfl, hr1, hb1⟩
  go_wp2_with fail
  refine (rat_any D d L n w1 (hr1.spans (.of_plain hP)) hP hn).mono ?_
  rintro e w2 ⟨v, rfl, hv, hb2⟩
  replace hb2 := bel_on hb1 hb2
  have HE := Lib.hid (HA.out v hv)
  have hv2 : Fits [(0, v)] := fun x hx => by rw [List.mem_singleton.1 hx]; exact ⟨⟨by simp, by simp⟩, ⟨by have := hv.1; simp only []; omega, by have := hv.2.1; simp only []; omega⟩⟩
  have S2 := Lib.hid (spans_new w2 [(0, v)] 42 #[.int .i64 0, .int .i64 v] rfl hv2 rfl)
  have hb3 := bel_alloc hb2 (.cells #[.int .i64 0, .int .i64 v] 42)
  clear hv hr1 C1 HA
  go_wp2_with fail
  refine (rand_any A (some ⟨w2.heap.size, 0, none⟩) cap 1 xs [(0, v)] _ (HX.out.below hb3) S2.out hl (by simp)).mono ?_
  intro e w4 hg
  have HG := gives_bel hg hb3 HE.out
  clear hg
  obtain ⟨D4, d4, rfl, hr, hb⟩ := HG
  go_wp2
  go_ret
  exact ⟨D4, d4, rfl, hr, hb⟩

theorem same_any (A B : Option Addr) (ca cb : Nat) (xs : List (Int × Int)) (w : World) (ha : Spans w A xs) (hb : Spans w B xs) (hl : xs.length ≤ 100000000) :
    Calls Tryz.prog 8 #[.slice A xs.length ca, .slice B xs.length cb] w fun e w' => e = .returned (.bool true) ∧ Below w.heap.size w w' := by
  have HA := Lib.hid ha
  have HB := Lib.hid hb
  clear ha hb
  go_enter Tryz.func8, Tryz.ntmps8
  go_wp2
  go_loopw [5] (fun i wr => ∃ (k : Nat), k ≤ xs.length ∧ i = .int .i64 k ∧ Below w.heap.size w wr) (fun i _ => xs.length - (intOf i).toNat)
  case atStart => exact ⟨0, Nat.zero_le _, rfl, Below.refl _ _⟩
  case round =>
    obtain ⟨k, hk, rfl, hbw⟩ := hrel
    by_cases hlt : k < xs.length
    · obtain ⟨b, off, rfl, hblt, c1, c2⟩ := (HA.out.below hbw).2 k hlt
      obtain ⟨b', off', rfl, hblt', d1, d2⟩ := (HB.out.below hbw).2 k hlt
      generalize xs.getD k (0, 0) = z at *
      obtain ⟨p, q⟩ := z
      simp only [] at *
      have i0 : (0 : Int) ≤ (k : Int) := by omega
      have i1 : (k : Int) < (xs.length : Int) := by omega
      go_wp2
      go_quiet (fail)
      go_wp2
      go_roundw
      case rel => exact ⟨k + 1, by omega, by go_num, below_drewN hbw _⟩
      case measure => simp [intOf]; omega
    · obtain rfl : k = xs.length := by omega
      go_wp2
      go_ret
      exact ⟨rfl, hbw⟩

end Go.Proofs.YthdolmhnjinlhaaGreat
