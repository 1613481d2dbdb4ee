/-
  The contracts of package lumperref03's functions, continued: First, Last, Same; and of the statements' own helpers plain and few.
-/
import Derived.Test.YtkdogleocffhdaaSpRefC
namespace Go.Proofs.Ytkdogleocffhdaa
open Go.RowKit
set_option linter.unusedVariables false
set_option linter.unusedSimpArgs false

theorem at_canon {xs : List (Int × Int)} {n v : Int} (h : AtOK (canon (In xs)) n v) {t : Int} (h0 : 0 ≤ t) (h1 : t < 32054400) : In [(0, v)] t ↔ cnt (In xs) t.toNat < n := by
  have e := below_canon (In xs) t.toNat (by omega)
  rw [show ((t.toNat : Nat) : Int) = t by omega] at e
  rw [in_one, ← e, ← h.2.2 t h0 h1]
  exact ⟨fun q => q.2, fun q => ⟨h0, q⟩⟩

theorem rfirst_any (A : Option Addr) (cap : Nat) (xs : List (Int × Int)) (n : Int) (w : World) (hx : Spans w A xs) (hl : xs.length ≤ 100000000) (hn : Fit n) :
    Calls Try.prog 19 #[.slice A xs.length cap, .int .i64 n] w (Gives w (canon fun t => In xs t ∧ cnt (In xs) t.toNat < n)) := by
  have HX := Lib.hid hx
  have C1 := rnorm_any A cap xs w hx hl
  have HA := Lib.hid (fun v (h : AtOK (canon (In xs)) n v) => canon_congr (p := fun t => In xs t ∧ In [(0, v)] t) (q := fun t => In xs t ∧ cnt (In xs) t.toNat < n) (fun t a b => by rw [at_canon h a b]))
  have hP := canon_plain (In xs)
  clear hx
  generalize canon (fun t => In xs t ∧ cnt (In xs) t.toNat < n) = R at *
  generalize canon (In xs) = L at *
  go_enter Try.func19, Try.ntmps19
  go_wp2_with fail
  refine C1.mono ?_
  rintro e w1 ⟨D, d, rfl, hr1, hb1⟩
  go_wp2_with fail
  refine (rat_any D d L n w1 (hr1.spans (.of_plain hP)) hP hn).mono ?_
  rintro e w2 ⟨v, rfl, hv, hb2⟩
  replace hb2 := bel_on hb1 hb2
  have HE := Lib.hid (HA.out v hv)
  have hv2 : Fits [(0, v)] := fun x hx => by rw [List.mem_singleton.1 hx]; exact ⟨⟨by simp, by simp⟩, ⟨by have := hv.1; simp only []; omega, by have := hv.2.1; simp only []; omega⟩⟩
  have S2 := Lib.hid (spans_new w2 [(0, v)] 35 #[.int .i64 0, .int .i64 v] rfl hv2 rfl)
  have hb3 := bel_alloc hb2 (.cells #[.int .i64 0, .int .i64 v] 35)
  clear hv hr1 C1 HA
  go_wp2_with fail
  refine (rand_any A (some ⟨w2.heap.size, 0, none⟩) cap 1 xs [(0, v)] _ (HX.out.below hb3) S2.out hl (by simp)).mono ?_
  intro e w4 hg
  have HG := gives_bel hg hb3 HE.out
  clear hg
  obtain ⟨D4, d4, rfl, hr, hb⟩ := HG
  go_wp2
  go_ret
  exact ⟨D4, d4, rfl, hr, hb⟩

theorem rlast_any (A : Option Addr) (cap : Nat) (xs : List (Int × Int)) (n : Int) (w : World) (hx : Spans w A xs) (hl : xs.length ≤ 100000000) (hn : Fit n) :
    Calls Try.prog 21 #[.slice A xs.length cap, .int .i64 n] w (Gives w (canon (lastP xs n))) := by
  by_cases h1 : n < 1
  · have hE := Lib.hid (canon_none (p := lastP xs n) (fun t a b h => by have := cnt_lt a b h.1; have := h.2; omega))
    go_enter Try.func21, Try.ntmps21
    go_wp2
    go_ret
    exact gives_of (Row.nil _ _) hE.out.symm rfl (Below.refl _ _)
  have HX := Lib.hid hx
  have hs := sz_bound (In xs)
  have C0 := rsize_any A cap xs w hx hl
  have C1 := Lib.hid (fun W (h : Spans W A xs) => rnorm_any A cap xs W h hl)
  obtain ⟨hn1, hn2⟩ := hn
  by_cases h2 : sz (In xs) ≤ n
  · have hE : canon (In xs) = canon (lastP xs n) := canon_congr (fun t a b => ⟨fun h => ⟨h, by have := (cnt_bound (In xs) t.toNat).1; omega⟩, fun h => h.1⟩)
    have HE := Lib.hid hE
    clear hx hE
    generalize sz (In xs) = z at *
    go_enter Try.func21, Try.ntmps21
    go_wp2_with fail
    refine C0.mono ?_
    rintro e w1 ⟨rfl, hb1⟩
    go_wp2_with fail
    refine (C1.out _ (HX.out.below hb1)).mono ?_
    intro e w4 hg
    have HG := gives_bel hg hb1 HE.out
    clear hg
    obtain ⟨D4, d4, rfl, hr, hb⟩ := HG
    go_wp2
    go_ret
    exact ⟨D4, d4, rfl, hr, hb⟩
  · have HA := Lib.hid (fun v (h : AtOK (canon (In xs)) (sz (In xs) - n) v) => canon_congr (p := fun t => In xs t ∧ ¬ In [(0, v)] t) (q := lastP xs n) (fun t a b => by
      rw [at_canon h a b]
      unfold lastP
      constructor
      · rintro ⟨q1, q2⟩; exact ⟨q1, by omega⟩
      · rintro ⟨q1, q2⟩; exact ⟨q1, by omega⟩))
    have hP := canon_plain (In xs)
    clear hx
    generalize canon (lastP xs n) = R at *
    generalize canon (In xs) = L at *
    generalize sz (In xs) = z at *
    have hz : -9223372036854775808 ≤ z - n ∧ z - n ≤ 9223372036854775807 := by omega
    go_enter Try.func21, Try.ntmps21
    go_wp2_with fail
    refine C0.mono ?_
    rintro e w0 ⟨rfl, hb0⟩
    go_wp2_with fail
    refine (C1.out _ (HX.out.below hb0)).mono ?_
    rintro e w1 ⟨D, d, rfl, hr1, hb1⟩
    replace hb1 := bel_on hb0 hb1
    go_wp2_with fail
    refine (rat_any D d L (z - n) w1 (hr1.spans (.of_plain hP)) hP hz).mono ?_
    rintro e w2 ⟨v, rfl, hv, hb2⟩
    replace hb2 := bel_on hb1 hb2
    have HE := Lib.hid (HA.out v hv)
    have hv2 : Fits [(0, v)] := fun x hx => by rw [List.mem_singleton.1 hx]; exact ⟨⟨by simp, by simp⟩, ⟨by have := hv.1; simp only []; omega, by have := hv.2.1; simp only []; omega⟩⟩
    have S2 := Lib.hid (spans_new w2 [(0, v)] 35 #[.int .i64 0, .int .i64 v] rfl hv2 rfl)
    have hb3 := bel_alloc hb2 (.cells #[.int .i64 0, .int .i64 v] 35)
    clear hv hr1 C1 HA
    go_wp2_with fail
    refine (rminus_any A (some ⟨w2.heap.size, 0, none⟩) cap 1 xs [(0, v)] _ (HX.out.below hb3) S2.out hl (by simp)).mono ?_
    intro e w4 hg
    have HG := gives_bel hg hb3 HE.out
    clear hg
    obtain ⟨D4, d4, rfl, hr, hb⟩ := HG
    go_wp2
    go_ret
    exact ⟨D4, d4, rfl, hr, hb⟩

theorem same_any (A B : Option Addr) (ca cb : Nat) (xs : List (Int × Int)) (w : World) (ha : Spans w A xs) (hb : Spans w B xs) (hl : xs.length ≤ 100000000) :
    Calls Try.prog 11 #[.slice A xs.length ca, .slice B xs.length cb] w fun e w' => e = .returned (.bool true) ∧ Below w.heap.size w w' := by
  have HA := Lib.hid ha
  have HB := Lib.hid hb
  clear ha hb
  go_enter Try.func11, Try.ntmps11
  go_wp2
  go_loopw [5] (fun i wr => ∃ (k : Nat), k ≤ xs.length ∧ i = .int .i64 k ∧ Below w.heap.size w wr) (fun i _ => xs.length - (intOf i).toNat)
  case atStart => exact ⟨0, Nat.zero_le _, rfl, Below.refl _ _⟩
  case round =>
    obtain ⟨k, hk, rfl, hbw⟩ := hrel
    by_cases hlt : k < xs.length
    · obtain ⟨b, off, rfl, hblt, c1, c2⟩ := (HA.out.below hbw).2 k hlt
      obtain ⟨b', off', rfl, hblt', d1, d2⟩ := (HB.out.below hbw).2 k hlt
      generalize xs.getD k (0, 0) = z at *
      obtain ⟨p, q⟩ := z
      simp only [] at *
      have i0 : (0 : Int) ≤ (k : Int) := by omega
      have i1 : (k : Int) < (xs.length : Int) := by omega
      go_wp2
      go_quiet (fail)
      go_wp2
      go_roundw
      case rel => exact ⟨k + 1, by omega, by go_num, below_drewN hbw _⟩
      case measure => simp [intOf]; omega
    · obtain rfl : k = xs.length := by omega
      go_wp2
      go_ret
      exact ⟨rfl, hbw⟩

theorem few_any (A B : Option Addr) (n m ca cb : Nat) (w : World) (hn : n ≤ 9223372036854775807) (hm : m ≤ 9223372036854775807) :
    Calls Try.prog 10 #[.slice A n ca, .slice B m cb] w fun e w' => e = .returned (.bool (decide (n ≤ 100 ∧ m ≤ 100))) ∧ w = w' := by
  by_cases h : n ≤ 100
  · have h' : (n : Int) ≤ 100 := by omega
    go_enter Try.func10, Try.ntmps10
    go_wp2
    go_ret
    exact ⟨ret_bool (by simp [h]; omega), rfl⟩
  · have h' : ¬ (n : Int) ≤ 100 := by omega
    go_enter Try.func10, Try.ntmps10
    go_wp2
    go_ret
    exact ⟨ret_bool (by simp [h]), rfl⟩
end Go.Proofs.Ytkdogleocffhdaa
