/-
  The contracts of package span's functions, continued: Size, Has, First.
  The contracts of package span's functions, continued: First.
  The contracts of package lumperref03's functions: the document's answers, by definition.
  The contracts of package lumperref03's functions, continued: of, Norm, And, Minus.
-/
import Derived.Test.YtdlimgpmmkcgmaaGreatZar
import Derived.Deep.DeepCutAuto
namespace Go.Proofs.YtdlimgpmmkcgmaaGreat
open Go.RowKit
set_option linter.unusedVariables false

theorem plain_take : ∀ {l : List (Int × Int)} {a : Int} (k : Nat), PlainFrom a l → PlainFrom a (l.take k)
  | [], _, k, _ => by simp [PlainFrom]
  | s :: l, a, 0, _ => trivial
  | s :: l, a, k + 1, ⟨h1, h2, h3, h4⟩ => ⟨h1, h2, h3, plain_take k h4⟩
theorem szL_bd : ∀ {l : List (Int × Int)} {a : Int}, PlainFrom a l → a ≤ 32054401 → 0 ≤ szL l ∧ (l ≠ [] → szL l ≤ 32054400 - a)
  | [], a, _, h => by simp [szL]
  | s :: l, a, ⟨h1, h2, h3, h4⟩, h => by
    obtain ⟨i1, i2⟩ := szL_bd h4 (by omega)
    rw [szL_cons]
    by_cases hl : l = []
    · subst hl
      have : szL [] = 0 := rfl
      exact ⟨by omega, fun _ => by omega⟩
    · have := i2 hl
      exact ⟨by omega, fun _ => by omega⟩
theorem szL_take {l : List (Int × Int)} (k : Nat) (h : PlainFrom 0 l) : 0 ≤ szL (l.take k) ∧ szL (l.take k) ≤ 32054400 := by
  obtain ⟨h1, h2⟩ := szL_bd (plain_take k h) (by omega)
  refine ⟨h1, ?_⟩
  by_cases e : l.take k = []
  · rw [e]; simp [szL]
  · have := h2 e; omega
theorem szL_append (l m : List (Int × Int)) : szL (l ++ m) = szL l + szL m := by simp [szL]
theorem szL_snoc (l : List (Int × Int)) (k : Nat) (h : k < l.length) : szL (l.take (k + 1)) = szL (l.take k) + ((l.getD k (0, 0)).2 - (l.getD k (0, 0)).1) := by
  rw [List.take_succ_eq_append_getElem h, szL_append]
  simp [List.getD, h, szL]
theorem plain_at {l : List (Int × Int)} (h : PlainFrom 0 l) {k : Nat} (hk : k < l.length) : 0 ≤ (l.getD k (0, 0)).1 ∧ (l.getD k (0, 0)).1 < (l.getD k (0, 0)).2 ∧ (l.getD k (0, 0)).2 ≤ 32054400 := (plain_pairs.1 h).1 _ (by simp [List.getD, hk])

theorem size_any (A : Option Addr) (cap : Nat) (xs : List (Int × Int)) (w : World) (hx : Spans w A xs) (hl : xs.length ≤ 100000000) :
    Calls Tryz.prog 21 #[.slice A xs.length cap] w fun e w' => e = .returned (.int .i64 (sz (In xs))) ∧ Below w.heap.size w w' := by
  rw [← szL_canon]
  have HP := Lib.hid (canon_plain (In xs))
  have hlen := canon_len (In xs)
  have hcon := norm_any A cap xs w hx hl
  generalize canon (In xs) = L at *
  clear hx
  go_enter Tryz.func21, Tryz.ntmps21
  go_wp2_with fail
  refine hcon.mono ?_
  rintro e w1 ⟨D, dc, rfl, hrow, hb1⟩
  have HS := Lib.hid (hrow.spans (.of_plain HP.out))
  clear hrow hcon
  go_wp2
  go_loopw [3, 9] (fun s i wr => ∃ (k : Nat), k ≤ L.length ∧ i = .int .i64 k ∧ s = .int .i64 (szL (L.take k)) ∧ Below w1.heap.size w1 wr) (fun _ i _ => L.length - (intOf i).toNat)
  case atStart => exact ⟨0, Nat.zero_le _, rfl, rfl, Below.refl _ _⟩
  case round =>
    obtain ⟨k, hk, rfl, rfl, hbw⟩ := hrel
    by_cases hlt : k < L.length
    · obtain ⟨b, off, rfl, hblt, c1, c2⟩ := (HS.out.below hbw).2 k hlt
      have HZ := plain_at HP.out hlt
      have HN := Lib.hid (szL_snoc L k hlt)
      have hb1' := szL_take k HP.out
      have hb2' := szL_take (k + 1) HP.out
      have hs2 : szL (L.take (k + 1)) = szL (L.take k) + ((L.getD k (0, 0)).2 - (L.getD k (0, 0)).1) := HN.out
      generalize L.getD k (0, 0) = z at *
      obtain ⟨p, q⟩ := z
      simp only [] at *
      generalize szL (L.take k) = s1 at *
      have hs3 : 0 ≤ s1 + (q - p) ∧ s1 + (q - p) ≤ 32054400 := by omega
      clear hs2
      go_wp2
      go_roundw
      case rel => exact ⟨k + 1, by omega, by go_num, by rw [HN.out], bel_alloc hbw _⟩
      case measure => simp [intOf]; omega
    · obtain rfl : k = L.length := by omega
      go_wp2
      go_ret
      exact ⟨ret_one (by rw [List.take_length]), bel_on hb1 hbw⟩

/-- Whether a number is one of all time's, and of the spans'. -/
def hasB (xs : List (Int × Int)) (t : Int) : Bool := xs.any fun s => decide (max s.1 0 ≤ t ∧ t < min s.2 32054400)
theorem hasB_iff (xs : List (Int × Int)) (t : Int) : hasB xs t = true ↔ 0 ≤ t ∧ t < 32054400 ∧ In xs t := by
  unfold hasB In
  rw [List.any_eq_true]
  constructor
  · rintro ⟨s, h1, h2⟩
    simp only [decide_eq_true_eq] at h2
    exact ⟨by omega, by omega, s, h1, by omega, by omega⟩
  · rintro ⟨h1, h2, s, h3, h4, h5⟩
    exact ⟨s, h3, by simp only [decide_eq_true_eq]; omega⟩
theorem hasB_snoc (xs : List (Int × Int)) (k : Nat) (t : Int) (h : k < xs.length) : hasB (xs.take (k + 1)) t = (hasB (xs.take k) t || decide (max (xs.getD k (0, 0)).1 0 ≤ t ∧ t < min (xs.getD k (0, 0)).2 32054400)) := by
  unfold hasB
  rw [List.take_succ_eq_append_getElem h, List.any_append]
  simp [List.getD, h]
theorem hasB_hit (xs : List (Int × Int)) (k : Nat) (t : Int) (h : k < xs.length) (hd : decide (max (xs.getD k (0, 0)).1 0 ≤ t ∧ t < min (xs.getD k (0, 0)).2 32054400) = true) : hasB xs t = true := by
  unfold hasB
  rw [List.any_eq_true]
  exact ⟨xs.getD k (0, 0), by simp [List.getD, h], hd⟩

end Go.Proofs.YtdlimgpmmkcgmaaGreat

namespace Go.Proofs.YtdlimgpmmkcgmaaGreat
open Go.RowKit
set_option linter.unusedVariables false

theorem firstL_cons (n : Int) (s : Int × Int) (l : List (Int × Int)) : firstL n (s :: l) = if n ≤ s.2 - s.1 then [(s.1, s.1 + n)] else s :: firstL (n - (s.2 - s.1)) l := rfl
theorem first_step (n m : Int) (L : List (Int × Int)) (k : Nat) (hk : k < L.length) (h : firstL n L = L.take k ++ firstL m (L.drop k)) :
    (m ≤ (L.getD k (0, 0)).2 - (L.getD k (0, 0)).1 → firstL n L = (L.set k ((L.getD k (0, 0)).1, (L.getD k (0, 0)).1 + m)).take (k + 1)) ∧
    ((L.getD k (0, 0)).2 - (L.getD k (0, 0)).1 < m → firstL n L = L.take (k + 1) ++ firstL (m - ((L.getD k (0, 0)).2 - (L.getD k (0, 0)).1)) (L.drop (k + 1))) := by
  have e : L.drop k = L.getD k (0, 0) :: L.drop (k + 1) := by
    rw [List.drop_eq_getElem_cons hk]; simp [List.getD, hk]
  have e2 : L.take (k + 1) = L.take k ++ [L.getD k (0, 0)] := by
    rw [List.take_succ_eq_append_getElem hk]; simp [List.getD, hk]
  rw [h, e]
  generalize L.getD k (0, 0) = z at *
  rw [firstL_cons]
  constructor
  · intro hle
    rw [if_pos hle, List.take_set, List.set_eq_take_append_cons_drop, if_pos (by rw [List.length_take]; omega), List.take_take, List.drop_eq_nil_of_le (by rw [List.length_take]; omega)]
    rw [show min k (k + 1) = k by omega]
  · intro hlt
    rw [if_neg (by omega), e2, List.append_assoc]; rfl

theorem first_any (A : Option Addr) (cap : Nat) (xs : List (Int × Int)) (n : Int) (w : World) (hx : Spans w A xs) (hl : xs.length ≤ 100000000) (hn : Fit n) :
    Calls Tryz.prog 58 #[.slice A xs.length cap, .int .i64 n] w (Gives w (canon fun t => In xs t ∧ cnt (In xs) t.toNat < n)) := by
  by_cases h1 : n < 1
  · have hE := Lib.hid (canon_none (p := fun t => In xs t ∧ cnt (In xs) t.toNat < n) (fun t a b h => by have := (cnt_bound (In xs) t.toNat).1; omega))
    go_enter Tryz.func58, Tryz.ntmps58
    go_wp2
    go_ret
    exact gives_of (Row.nil _ _) hE.out.symm rfl (Below.refl _ _)
  · have hE := firstL_canon (In xs) n (by omega)
    rw [← hE]
    have HP := Lib.hid (canon_plain (In xs))
    have hlen := canon_len (In xs)
    have hcon := norm_any A cap xs w hx hl
    generalize canon (In xs) = L at *
    clear hx hE
    obtain ⟨hn1, hn2⟩ := hn
    go_enter Tryz.func58, Tryz.ntmps58
    go_wp2_with fail
    refine hcon.mono ?_
    rintro e w1 ⟨D, dc, rfl, hrow, hb1⟩
    have HS := Lib.hid (hrow.spans (.of_plain HP.out))
    clear hcon
    go_wp2
    go_loopw [1, 15] (fun s i wr => ∃ (k : Nat) (m : Int), k ≤ L.length ∧ i = .int .i64 k ∧ s = .int .i64 m ∧ 1 ≤ m ∧ m ≤ n ∧ Hid (firstL n L = L.take k ++ firstL m (L.drop k)) ∧ Below w1.heap.size w1 wr) (fun _ i _ => L.length - (intOf i).toNat)
    case atStart => exact ⟨0, n, Nat.zero_le _, rfl, rfl, by omega, Int.le_refl _, rfl, Below.refl _ _⟩
    case round =>
      obtain ⟨k, m, hk, rfl, rfl, hm1, hm2, hfl, hbw⟩ := hrel
      by_cases hlt : k < L.length
      · obtain ⟨b, off, rfl, hblt, c1, c2⟩ := (HS.out.below hbw).2 k hlt
        have HZ := plain_at HP.out hlt
        have ST := Lib.hid (first_step n m L k hlt hfl.out)
        have hrw := hrow.below hbw
        obtain ⟨g, hg⟩ := hrw.form (by intro e; simp [e] at hlt)
        simp only [Option.some.injEq, Addr.mk.injEq, and_true] at hg
        obtain ⟨rfl, rfl⟩ := hg
        rcases hrw.forms with ⟨h0, _⟩ | ⟨g, hg, hgb, hglt, hcap, hcm⟩
        · cases h0
        simp only [Option.some.injEq, Addr.mk.injEq, and_true] at hg
        subst hg
        obtain ⟨f1, f2⟩ := hrw.cellAt hlt
        have f3 := hrw.frozenAt (k * 2 + 1)
        have hset := hrw.set hlt ((L.getD k (0, 0)).1 + m)
        have HT := Lib.hid ((hset.take (m := k + 1) (by rw [List.length_set]; omega)).alloc (.cells #[.int .i64 (L.getD k (0, 0)).1, .int .i64 (L.getD k (0, 0)).2] 44))
        have hne : b ≠ wr.heap.size := by omega
        unfold maxLen at hcm
        clear hset
        generalize L.getD k (0, 0) = z at *
        obtain ⟨p, q⟩ := z
        simp only [] at *
        have hw1 := hb1.size
        by_cases hc : m ≤ q - p
        · have HL := Lib.hid (ST.out.1 hc)
          go_wp2
          go_ret
          exact gives_of HT.out HL.out.symm (by rw [List.length_take, List.length_set]; omega) (bel_alloc (bel_set (bel_on hb1 hbw) (p := ⟨b, k * 2 + 1, none⟩) hgb _) _)
        · have HL := Lib.hid (ST.out.2 (by omega))
          go_wp2
          go_roundw
          case rel => exact ⟨k + 1, m - (q - p), by omega, by go_num, rfl, by omega, by omega, HL, bel_alloc hbw _⟩
          case measure => simp [intOf]; omega
      · obtain rfl : k = L.length := by omega
        have HL : Hid (L = firstL n L) := by
          show _ = _
          rw [hfl.out, List.take_length, List.drop_length]
          simp [firstL]
        go_wp2
        go_ret
        exact gives_of (hrow.below hbw) HL.out rfl (bel_on hb1 hbw)
end Go.Proofs.YtdlimgpmmkcgmaaGreat

namespace Go.Proofs.YtdlimgpmmkcgmaaGreat
open Go.RowKit
set_option linter.unusedVariables false

theorem rin_any (a b t : Int) (w : World) : Calls Tryz.prog 149 #[.agg #[.int .i64 a, .int .i64 b], .int .i64 t] w fun e w' => e = .returned (.bool (decide (max a 0 ≤ t ∧ t < min b 32054400))) ∧ Below w.heap.size w w' := by
  by_cases h1 : 0 ≤ t
  · by_cases h2 : t < 32054400
    · by_cases h3 : a ≤ t
      · by_cases h4 : t < b
        · go_enter Tryz.func149, Tryz.ntmps149
          go_wp2
          go_ret
          exact ⟨ret_bool (by simp; omega), by (repeat' (first | with_reducible exact Below.refl _ _ | with_reducible assumption | with_reducible refine bel_alloc ?_ _ | with_reducible refine bel_set ?_ ?_ _ | with_reducible refine below_drewN ?_ _ | with_reducible refine below_drew ?_ | (simp; done) | (simp; omega) | omega))⟩
        · go_enter Tryz.func149, Tryz.ntmps149
          go_wp2
          go_ret
          exact ⟨ret_bool (by simp; omega), by (repeat' (first | with_reducible exact Below.refl _ _ | with_reducible assumption | with_reducible refine bel_alloc ?_ _ | with_reducible refine bel_set ?_ ?_ _ | with_reducible refine below_drewN ?_ _ | with_reducible refine below_drew ?_ | (simp; done) | (simp; omega) | omega))⟩
      · go_enter Tryz.func149, Tryz.ntmps149
        go_wp2
        go_ret
        exact ⟨ret_bool (by simp; omega), by (repeat' (first | with_reducible exact Below.refl _ _ | with_reducible assumption | with_reducible refine bel_alloc ?_ _ | with_reducible refine bel_set ?_ ?_ _ | with_reducible refine below_drewN ?_ _ | with_reducible refine below_drew ?_ | (simp; done) | (simp; omega) | omega))⟩
    · go_enter Tryz.func149, Tryz.ntmps149
      go_wp2
      go_ret
      exact ⟨ret_bool (by simp; omega), by (repeat' (first | with_reducible exact Below.refl _ _ | with_reducible assumption | with_reducible refine bel_alloc ?_ _ | with_reducible refine bel_set ?_ ?_ _ | with_reducible refine below_drewN ?_ _ | with_reducible refine below_drew ?_ | (simp; done) | (simp; omega) | omega))⟩
  · go_enter Tryz.func149, Tryz.ntmps149
    go_wp2
    go_ret
    exact ⟨ret_bool (by simp; omega), by (repeat' (first | with_reducible exact Below.refl _ _ | with_reducible assumption | with_reducible refine bel_alloc ?_ _ | with_reducible refine bel_set ?_ ?_ _ | with_reducible refine below_drewN ?_ _ | with_reducible refine below_drew ?_ | (simp; done) | (simp; omega) | omega))⟩

theorem rhas_any (A : Option Addr) (cap : Nat) (xs : List (Int × Int)) (t : Int) (w : World) (hx : Spans w A xs) (hl : xs.length ≤ 100000000) :
    Calls Tryz.prog 124 #[.slice A xs.length cap, .int .i64 t] w fun e w' => e = .returned (.bool (hasB xs t)) ∧ Below w.heap.size w w' := by
  have HX := Lib.hid hx
  clear hx
  go_enter Tryz.func124, Tryz.ntmps124
  go_wp2
  go_loopw [5] (fun i wr => ∃ (k : Nat), k ≤ xs.length ∧ i = .int .i64 k ∧ Hid (hasB (xs.take k) t = false) ∧ Below w.heap.size w wr) (fun i _ => xs.length - (intOf i).toNat)
  case atStart => exact ⟨0, Nat.zero_le _, rfl, rfl, Below.refl _ _⟩
  case round =>
    obtain ⟨k, hk, rfl, hn, hbw⟩ := hrel
    by_cases hlt : k < xs.length
    · obtain ⟨b, off, rfl, hblt, c1, c2⟩ := (HX.out.below hbw).2 k hlt
      have S1 := Lib.hid (hasB_snoc xs k t hlt)
      have S2 := Lib.hid (hasB_hit xs k t hlt)
      generalize xs.getD k (0, 0) = z at *
      obtain ⟨p, q⟩ := z
      simp only [] at c1 c2 S1 S2
      go_wp2_with fail
      refine (rin_any p q t _).mono ?_
      rintro e w2 ⟨rfl, hb2⟩
      replace hb2 := bel_on hbw hb2
      cases hm : decide (max p 0 ≤ t ∧ t < min q 32054400) with
      | true =>
        have hs' := Lib.hid (S2.out hm)
        clear hm
        go_wp2
        go_ret
        exact ⟨ret_bool hs'.out.symm, hb2⟩
      | false =>
        have hs' : Hid (hasB (xs.take (k + 1)) t = false) := by
          show _ = _
          rw [S1.out, hn.out, hm]; rfl
        clear hm
        go_wp2
        go_roundw
        case rel => exact ⟨k + 1, by omega, by go_num, hs', hb2⟩
        case measure => simp [intOf]; omega
    · obtain rfl : k = xs.length := by omega
      have hs' := hn.out
      rw [List.take_length] at hs'
      have HS := Lib.hid hs'
      clear hn hs'
      go_wp2
      go_ret
      exact ⟨ret_bool HS.out.symm, hbw⟩

/-- The least number above t where a span begins, or ends; 'top' if there is none below it. -/
def afterL (t : Int) : Int → List (Int × Int) → Int
  | top, [] => top
  | top, s :: l => afterL t (let o := if t < s.1 then min top s.1 else top; if t < s.2 then min o s.2 else o) l
def after1 (t top : Int) (s : Int × Int) : Int := let o := if t < s.1 then min top s.1 else top; if t < s.2 then min o s.2 else o
theorem afterL_cons (t top : Int) (s : Int × Int) (l : List (Int × Int)) : afterL t top (s :: l) = afterL t (after1 t top s) l := rfl
theorem afterL_append (t : Int) : ∀ (l : List (Int × Int)) (top : Int) (s : Int × Int), afterL t top (l ++ [s]) = after1 t (afterL t top l) s
  | [], top, s => rfl
  | x :: l, top, s => by rw [List.cons_append, afterL_cons, afterL_cons, afterL_append t l]
theorem afterL_snoc (t top : Int) (xs : List (Int × Int)) (k : Nat) (h : k < xs.length) : afterL t top (xs.take (k + 1)) = after1 t (afterL t top (xs.take k)) (xs.getD k (0, 0)) := by
  rw [List.take_succ_eq_append_getElem h, afterL_append]; simp [List.getD, h]
theorem after1_spec (t top : Int) (s : Int × Int) (h : t < top) : t < after1 t top s ∧ after1 t top s ≤ top ∧ (∀ u, t ≤ u → u < after1 t top s → ((s.1 ≤ u ∧ u < s.2) ↔ (s.1 ≤ t ∧ t < s.2))) := by
  unfold after1
  simp only []
  split <;> split <;> refine ⟨by omega, by omega, fun u h1 h2 => by omega⟩
theorem afterL_spec (t : Int) : ∀ (l : List (Int × Int)) (top : Int), t < top → t < afterL t top l ∧ afterL t top l ≤ top ∧ ∀ u, t ≤ u → u < afterL t top l → (In l u ↔ In l t)
  | [], top, h => ⟨h, Int.le_refl _, fun u _ _ => by simp [in_nil]⟩
  | s :: l, top, h => by
    obtain ⟨h1, h2, h3⟩ := after1_spec t top s h
    obtain ⟨i1, i2, i3⟩ := afterL_spec t l (after1 t top s) h1
    rw [afterL_cons]
    refine ⟨i1, by omega, fun u q1 q2 => ?_⟩
    rw [in_cons, in_cons, i3 u q1 q2, h3 u q1 (by omega)]

theorem rafter_any (A : Option Addr) (cap : Nat) (xs : List (Int × Int)) (t : Int) (w : World) (hx : Spans w A xs) (hl : xs.length ≤ 100000000) :
    Calls Tryz.prog 123 #[.slice A xs.length cap, .int .i64 t] w fun e w' => e = .returned (.int .i64 (afterL t 32054400 xs)) ∧ w = w' := by
  have HX := Lib.hid hx
  clear hx
  go_enter Tryz.func123, Tryz.ntmps123
  go_wp2
  go_loop [5, 6] (fun o i => ∃ (k : Nat) (v : Int), k ≤ xs.length ∧ i = .int .i64 k ∧ o = .int .i64 v ∧ Hid (v = afterL t 32054400 (xs.take k))) (fun _ i => xs.length - (intOf i).toNat)
  case atStart => exact ⟨0, _, Nat.zero_le _, rfl, rfl, rfl⟩
  case round =>
    obtain ⟨k, v, hk, rfl, rfl, hv⟩ := hrel
    by_cases hlt : k < xs.length
    · obtain ⟨b, off, rfl, hblt, c1, c2⟩ := HX.out.2 k hlt
      have S1 := Lib.hid (afterL_snoc t 32054400 xs k hlt)
      generalize xs.getD k (0, 0) = z at *
      obtain ⟨p, q⟩ := z
      simp only [] at c1 c2
      by_cases h1 : t < p
      · by_cases h2 : t < q
        · go_wp2
          go_round
          case rel => exact ⟨k + 1, _, by omega, by go_num, rfl, by show _ = _; rw [S1.out, ← hv.out]; simp [after1, h1, h2]⟩
          case measure => simp [intOf]; omega
        · go_wp2
          go_round
          case rel => exact ⟨k + 1, _, by omega, by go_num, rfl, by show _ = _; rw [S1.out, ← hv.out]; simp [after1, h1]; omega⟩
          case measure => simp [intOf]; omega
      · by_cases h2 : t < q
        · go_wp2
          go_round
          case rel => exact ⟨k + 1, _, by omega, by go_num, rfl, by show _ = _; rw [S1.out, ← hv.out]; simp [after1, h2]; omega⟩
          case measure => simp [intOf]; omega
        · go_wp2
          go_round
          case rel => exact ⟨k + 1, _, by omega, by go_num, rfl, by show _ = _; rw [S1.out, ← hv.out]; simp [after1]; omega⟩
          case measure => simp [intOf]; omega
    · obtain rfl : k = xs.length := by omega
      go_wp2
      go_ret
      exact ⟨ret_one (by rw [hv.out, List.take_length]), rfl⟩
end Go.Proofs.YtdlimgpmmkcgmaaGreat

namespace Go.Proofs.YtdlimgpmmkcgmaaGreat
open Go.RowKit
set_option linter.unusedVariables false
set_option maxRecDepth 20000

def ofP (a b : List (Int × Int)) (both : Bool) (t : Int) : Prop := In a t ∧ (In b t ↔ both = true)
theorem of_next (a b : List (Int × Int)) (t : Int) (ht : t < 32054400) : t < min (afterL t 32054400 a) (afterL t 32054400 b) ∧ min (afterL t 32054400 a) (afterL t 32054400 b) ≤ 32054400 ∧
    ∀ both u, t ≤ u → u < min (afterL t 32054400 a) (afterL t 32054400 b) → (ofP a b both u ↔ ofP a b both t) := by
  obtain ⟨a1, a2, a3⟩ := afterL_spec t a 32054400 ht
  obtain ⟨b1, b2, b3⟩ := afterL_spec t b 32054400 ht
  refine ⟨by omega, by omega, fun both u h1 h2 => ?_⟩
  unfold ofP
  rw [a3 u h1 (by omega), b3 u h1 (by omega)]
theorem ofP_yes {a b : List (Int × Int)} {both : Bool} {t : Int} (h0 : 0 ≤ t) (ht : t < 32054400) (ha : hasB a t = true) (hb : hasB b t = both) : ofP a b both t := by
  refine ⟨((hasB_iff a t).1 ha).2.2, ?_⟩
  rw [← hb, hasB_iff]
  exact ⟨fun h => ⟨h0, ht, h⟩, fun h => h.2.2⟩
theorem ofP_no1 {a b : List (Int × Int)} {both : Bool} {t : Int} (h0 : 0 ≤ t) (ht : t < 32054400) (ha : hasB a t = false) : ¬ ofP a b both t := fun h => by
  have := (hasB_iff a t).2 ⟨h0, ht, h.1⟩
  rw [ha] at this; cases this
theorem ofP_no2 {a b : List (Int × Int)} {both : Bool} {t : Int} (h0 : 0 ≤ t) (ht : t < 32054400) (hb : hasB b t = !both) : ¬ ofP a b both t := fun h => by
  have e : In b t ↔ hasB b t = true := by rw [hasB_iff]; exact ⟨fun h => ⟨h0, ht, h⟩, fun h => h.2.2⟩
  have h2 := h.2
  rw [e, hb] at h2
  cases both <;> simp at h2
theorem upto_len {p : Int → Prop} {t : Int} {l : List (Int × Int)} (h : Upto p t l) : l.length ≤ 32054401 := by have := plain_len h.1 (by omega); omega
theorem upto_end {p : Int → Prop} {l : List (Int × Int)} (h : Upto p 32054400 l) : l = canon p := canon_eq h.1 (fun u => by rw [h.2.2])

/-- Where the loop of 'of' stands. -/
def OfAt (p : Int → Prop) (t : Int) (L : List (Int × Int)) : Prop := Upto p t L
set_option maxHeartbeats 2000000 in
theorem rof_any (A B : Option Addr) (ca cb : Nat) (a b : List (Int × Int)) (both : Bool) (w : World) (ha : Spans w A a) (hb : Spans w B b) (hla : a.length ≤ 100000000) (hlb : b.length ≤ 100000000) :
    Calls Tryz.prog 78 #[.slice A a.length ca, .slice B b.length cb, .bool both] w (Gives w (canon (ofP a b both))) := by
  have HA := Lib.hid ha
  have HB := Lib.hid hb
  clear ha hb
  go_enter Tryz.func78, Tryz.ntmps78
  go_wp2
  go_loopw [7, 8] (fun o i wr => ∃ (t : Int) (D : Option Addr) (d : Nat) (L : List (Int × Int)), 0 ≤ t ∧ t ≤ 32054400 ∧ i = .int .i64 t ∧ o = .slice D L.length d ∧ Hid (OfAt (ofP a b both) t L) ∧ Row wr w.heap.size D d L ∧ Below w.heap.size w wr) (fun _ i _ => (32054400 - intOf i).toNat)
  case atStart => exact ⟨0, none, 0, [], by omega, by omega, rfl, rfl, ⟨trivial, by simp, fun u => by simp only [in_nil, false_iff]; omega⟩, Row.nil _ _, Below.refl _ _⟩
  case round =>
    obtain ⟨t, D, d, L, h0, h1, rfl, rfl, hat, hr, hbw⟩ := hrel
    by_cases hlt : t < 32054400
    · have HN := Lib.hid (of_next a b t hlt)
      have hln := upto_len hat.out
      go_wp2_with fail
      refine (rafter_any A ca a t _ (HA.out.below hbw) hla).mono ?_
      rintro e w2 ⟨rfl, rfl⟩
      go_wp2_with fail
      refine (rafter_any B cb b t _ (HB.out.below hbw) hlb).mono ?_
      rintro e w2 ⟨rfl, rfl⟩
      go_wp2_with fail
      refine (rhas_any A ca a t _ (HA.out.below hbw) hla).mono ?_
      generalize afterL t 32054400 a = n1 at *
      generalize afterL t 32054400 b = n2 at *
      cases hha : hasB a t with
      | false =>
        have HO := Lib.hid (ofP_no1 (b := b) (both := both) h0 hlt hha)
        clear hha
        rintro e w2 ⟨rfl, hb2⟩
        have hr2 := hr.below hb2
        have hm1 := HN.out.1
        have hm2 := HN.out.2.1
        have HU := Lib.hid (upto_skip hat.out (Int.le_of_lt hm1) (fun u q1 q2 q3 => HO.out ((HN.out.2.2 both u q1 q2).1 q3)))
        go_wp2
        go_roundw
        case rel => exact ⟨_, D, d, L, by omega, hm2, rfl, rfl, HU, hr2, bel_on hbw hb2⟩
        case measure => simp [intOf]; omega
      | true =>
        rintro e w2 ⟨rfl, hb2⟩
        have hr2 := hr.below hb2
        replace hb2 := bel_on hbw hb2
        clear hr hbw
        go_wp2_with fail
        refine (rhas_any B cb b t _ (HB.out.below hb2) hlb).mono ?_
        by_cases hhb : hasB b t = both
        · have HO := Lib.hid (ofP_yes h0 hlt hha hhb)
          have HY := Lib.hid (fun u q1 q2 => (HN.out.2.2 both u q1 q2).2 HO.out)
          have hm1 := HN.out.1
          have hm2 := HN.out.2.1
          rw [hhb]
          clear hha hhb
          rintro e w3 ⟨rfl, hb3⟩
          have hr3 := hr2.below hb3
          replace hb3 := bel_on hb2 hb3
          have hw3 := hb3.size
          clear hr2 hb2 HN HO
          by_cases hL : L = []
          · subst hL
            have HU := Lib.hid (upto_snoc hat.out h0 hm1 hm2 HY.out (by simp))
            simp only [List.length_nil] at *
            obtain ⟨D', d', w4, hrun, hr4, hb4, hz4, _, _⟩ := row_push hr3 t (min n1 n2) (by simp) hw3 rfl
            have HR := Lib.hid hrun
            have hb5 := hb4 w (Nat.le_refl _) hb3
            clear hrun hb4
            cases both <;>
            · go_wp2_with (at_builtin; refine wpList_append_run HR.out rfl rfl rfl rfl ?_)
              go_roundw
              case rel => exact ⟨_, D', d', _, by omega, hm2, rfl, rfl, HU, hr4, hb5⟩
              case measure => simp [intOf]; omega
          · obtain ⟨i, ⟨ra, rb⟩, rfl⟩ : ∃ i r, L = i ++ [r] := ⟨L.dropLast, L.getLast hL, (List.dropLast_concat_getLast hL).symm⟩
            obtain ⟨g, rfl⟩ := hr3.form (by simp)
            obtain ⟨f1, f2⟩ := hr3.cellAt (k := i.length) (by simp)
            rw [getD_snoc] at f1 f2
            have f3 := hr3.frozenAt (i.length * 2 + 1)
            have hglt : w.heap.size ≤ g ∧ g < w3.heap.size := hr3.lt _ rfl
            by_cases hc : rb = t
            · have HU := Lib.hid (upto_last hat.out hc hm1 hm2 HY.out)
              have hset := hr3.set (k := i.length) (by simp) (min n1 n2)
              rw [getD_snoc, set_snoc] at hset
              have HT := Lib.hid hset
              clear hset
              subst hc
              simp only [List.length_append, List.length_cons, List.length_nil, Nat.zero_add] at *
              cases both <;>
              · go_wp2
                go_roundw
                case rel => exact ⟨_, _, d, i ++ [(ra, min n1 n2)], by omega, hm2, rfl, by simp, HU, HT.out, bel_set hb3 (p := ⟨g, i.length * 2 + 1, none⟩) hglt.1 _⟩
                case measure => simp [intOf]; omega
            · have HU := Lib.hid (upto_snoc hat.out h0 hm1 hm2 HY.out (fun x hx => by
                obtain ⟨k1, k2, k3, k4, k5⟩ := plain_unsnoc hat.out.1
                have q := hat.out.2.1 (ra, rb) (by simp)
                simp only [] at *
                rcases List.mem_append.1 hx with hx | hx
                · have := k2 x hx; omega
                · rw [List.mem_singleton.1 hx]; exact hc))
              have hcd : decide (rb = t) = false := by simpa using hc
              obtain ⟨D', d', w4, hrun, hr4, hb4, hz4, _, _⟩ := row_push hr3 t (min n1 n2) (by omega) hw3 rfl
              simp only [List.length_append, List.length_cons, List.length_nil, Nat.zero_add] at *
              have HR := Lib.hid hrun
              have hb5 := hb4 w (Nat.le_refl _) hb3
              clear hrun hb4
              cases both <;>
              · go_wp2_with (at_builtin; refine wpList_append_run HR.out rfl rfl rfl rfl ?_)
                go_roundw
                case rel => exact ⟨_, D', d', _, by omega, hm2, rfl, by simp, HU, hr4, hb5⟩
                case measure => simp [intOf]; omega
        · have hhb' : hasB b t = !both := by cases both <;> simpa using hhb
          have HO := Lib.hid (ofP_no2 (a := a) h0 hlt hhb')
          rw [hhb']
          clear hha hhb hhb'
          rintro e w3 ⟨rfl, hb3⟩
          have hr3 := hr2.below hb3
          have hm1 := HN.out.1
          have hm2 := HN.out.2.1
          have HU := Lib.hid (upto_skip hat.out (Int.le_of_lt hm1) (fun u q1 q2 q3 => HO.out ((HN.out.2.2 both u q1 q2).1 q3)))
          cases both <;>
          · simp only [Bool.not_true, Bool.not_false]
            go_wp2
            go_roundw
            case rel => exact ⟨_, D, d, L, by omega, hm2, rfl, rfl, HU, hr3, bel_on hb2 hb3⟩
            case measure => simp [intOf]; omega
    · obtain rfl : t = 32054400 := by omega
      have HE := Lib.hid (upto_end hat.out)
      go_wp2
      go_ret
      exact gives_of hr HE.out rfl hbw

theorem rnorm_any (A : Option Addr) (ca : Nat) (a : List (Int × Int)) (w : World) (ha : Spans w A a) (hla : a.length ≤ 100000000) :
    Calls Tryz.prog 73 #[.slice A a.length ca] w (Gives w (canon (In a))) := by
  have hE : canon (ofP a [] false) = canon (In a) := canon_congr (fun t _ _ => by simp [ofP, in_nil])
  have hcon := rof_any A none ca 0 a [] false w ha (Spans.nil _ _) hla (by simp)
  rw [hE] at hcon
  simp only [List.length_nil] at hcon
  clear ha hE
  go_enter Tryz.func73, Tryz.ntmps73
  go_wp2_with fail
  refine hcon.mono ?_
  rintro e w2 ⟨D, d, rfl, hr, hb⟩
  go_wp2
  go_ret
  exact ⟨D, d, rfl, hr, hb⟩
theorem rand_any (A B : Option Addr) (ca cb : Nat) (a b : List (Int × Int)) (w : World) (ha : Spans w A a) (hb : Spans w B b) (hla : a.length ≤ 100000000) (hlb : b.length ≤ 100000000) :
    Calls Tryz.prog 38 #[.slice A a.length ca, .slice B b.length cb] w (Gives w (canon fun t => In a t ∧ In b t)) := by
  have hE : canon (ofP a b true) = canon (fun t => In a t ∧ In b t) := canon_congr (fun t _ _ => by simp [ofP])
  have hcon := rof_any A B ca cb a b true w ha hb hla hlb
  rw [hE] at hcon
  clear ha hb hE
  go_enter Tryz.func38, Tryz.ntmps38
  go_wp2_with fail
  refine hcon.mono ?_
  rintro e w2 ⟨D, d, rfl, hr, hb⟩
  go_wp2
  go_ret
  exact ⟨D, d, rfl, hr, hb⟩
theorem rminus_any (A B : Option Addr) (ca cb : Nat) (a b : List (Int × Int)) (w : World) (ha : Spans w A a) (hb : Spans w B b) (hla : a.length ≤ 100000000) (hlb : b.length ≤ 100000000) :
    Calls Tryz.prog 37 #[.slice A a.length ca, .slice B b.length cb] w (Gives w (canon fun t => In a t ∧ ¬ In b t)) := by
  have hE : canon (ofP a b false) = canon (fun t => In a t ∧ ¬ In b t) := canon_congr (fun t _ _ => by simp [ofP])
  have hcon := rof_any A B ca cb a b false w ha hb hla hlb
  rw [hE] at hcon
  clear ha hb hE
  go_enter Tryz.func37, Tryz.ntmps37
  go_wp2_with fail
  refine hcon.mono ?_
  rintro e w2 ⟨D, d, rfl, hr, hb⟩
  go_wp2
  go_ret
  exact ⟨D, d, rfl, hr, hb⟩
end Go.Proofs.YtdlimgpmmkcgmaaGreat
