/-
  The contracts of package span's functions, continued: Size, Has, First.
  The contracts of package span's functions, continued: First.
-/
import Derived.Test.YthdolmhnjinlhaaZad
import Derived.Deep.DeepCutAuto
namespace Go.Proofs.Ythdolmhnjinlhaa
open Go.RowKit
set_option linter.unusedVariables false

theorem plain_take : ∀ {l : List (Int × Int)} {a : Int} (k : Nat), PlainFrom a l → PlainFrom a (l.take k)
  | [], _, k, _ => by simp [PlainFrom]
  | s :: l, a, 0, _ => trivial
  | s :: l, a, k + 1, ⟨h1, h2, h3, h4⟩ => ⟨h1, h2, h3, plain_take k h4⟩
theorem szL_bd : ∀ {l : List (Int × Int)} {a : Int}, PlainFrom a l → a ≤ 32054401 → 0 ≤ szL l ∧ (l ≠ [] → szL l ≤ 32054400 - a)
  | [], a, _, h => by simp [szL]
  | s :: l, a, ⟨h1, h2, h3, h4⟩, h => by
    obtain ⟨i1, i2⟩ := szL_bd h4 (by omega)
    rw [szL_cons]
    by_cases hl : l = []
    · subst hl
      have : szL [] = 0 := rfl
      exact ⟨by omega, fun _ => by omega⟩
    · have := i2 hl
      exact ⟨by omega, fun _ => by omega⟩
theorem szL_take {l : List (Int × Int)} (k : Nat) (h : PlainFrom 0 l) : 0 ≤ szL (l.take k) ∧ szL (l.take k) ≤ 32054400 := by
  obtain ⟨h1, h2⟩ := szL_bd (plain_take k h) (by omega)
  refine ⟨h1, ?_⟩
  by_cases e : l.take k = []
  · rw [e]; simp [szL]
  · have := h2 e; omega
theorem szL_append (l m : List (Int × Int)) : szL (l ++ m) = szL l + szL m := by simp [szL]
theorem szL_snoc (l : List (Int × Int)) (k : Nat) (h : k < l.length) : szL (l.take (k + 1)) = szL (l.take k) + ((l.getD k (0, 0)).2 - (l.getD k (0, 0)).1) := by
  rw [List.take_succ_eq_append_getElem h, szL_append]
  simp [List.getD, h, szL]
theorem plain_at {l : List (Int × Int)} (h : PlainFrom 0 l) {k : Nat} (hk : k < l.length) : 0 ≤ (l.getD k (0, 0)).1 ∧ (l.getD k (0, 0)).1 < (l.getD k (0, 0)).2 ∧ (l.getD k (0, 0)).2 ≤ 32054400 := (plain_pairs.1 h).1 _ (by simp [List.getD, hk])

theorem size_any (A : Option Addr) (cap : Nat) (xs : List (Int × Int)) (w : World) (hx : Spans w A xs) (hl : xs.length ≤ 100000000) :
    Calls Try.prog 13 #[.slice A xs.length cap] w fun e w' => e = .returned (.int .i64 (sz (In xs))) ∧ Below w.heap.size w w' := by
  rw [← szL_canon]
  have HP := Lib.hid (canon_plain (In xs))
  have hlen := canon_len (In xs)
  have hcon := norm_any A cap xs w hx hl
  generalize canon (In xs) = L at *
  clear hx
  go_enter Try.func13, Try.ntmps13
  go_wp2_with fail
  refine hcon.mono ?_
  rintro e w1 ⟨D, dc, rfl, hrow, hb1⟩
  have HS := Lib.hid (hrow.spans (.of_plain HP.out))
  clear hrow hcon
  go_wp2
  go_loopw [3, 9] (fun s i wr => ∃ (k : Nat), k ≤ L.length ∧ i = .int .i64 k ∧ s = .int .i64 (szL (L.take k)) ∧ Below w1.heap.size w1 wr) (fun _ i _ => L.length - (intOf i).toNat)
  case atStart => exact ⟨0, Nat.zero_le _, rfl, rfl, Below.refl _ _⟩
  case round =>
    obtain ⟨k, hk, rfl, rfl, hbw⟩ := hrel
    by_cases hlt : k < L.length
    · obtain ⟨b, off, rfl, hblt, c1, c2⟩ := (HS.out.below hbw).2 k hlt
      have HZ := plain_at HP.out hlt
      have HN := Lib.hid (szL_snoc L k hlt)
      have hb1' := szL_take k HP.out
      have hb2' := szL_take (k + 1) HP.out
      have hs2 : szL (L.take (k + 1)) = szL (L.take k) + ((L.getD k (0, 0)).2 - (L.getD k (0, 0)).1) := HN.out
      generalize L.getD k (0, 0) = z at *
      obtain ⟨p, q⟩ := z
      simp only [] at *
      generalize szL (L.take k) = s1 at *
      have hs3 : 0 ≤ s1 + (q - p) ∧ s1 + (q - p) ≤ 32054400 := by omega
      clear hs2
      go_wp2
      go_roundw
      case rel => exact ⟨k + 1, by omega, by go_num, by rw [HN.out], bel_alloc hbw _⟩
      case measure => simp [intOf]; omega
    · obtain rfl : k = L.length := by omega
      go_wp2
      go_ret
      exact ⟨ret_one (by rw [List.take_length]), bel_on hb1 hbw⟩

end Go.Proofs.Ythdolmhnjinlhaa

namespace Go.Proofs.Ythdolmhnjinlhaa
open Go.RowKit
set_option linter.unusedVariables false

theorem firstL_cons (n : Int) (s : Int × Int) (l : List (Int × Int)) : firstL n (s :: l) = if n ≤ s.2 - s.1 then [(s.1, s.1 + n)] else s :: firstL (n - (s.2 - s.1)) l := rfl
theorem first_step (n m : Int) (L : List (Int × Int)) (k : Nat) (hk : k < L.length) (h : firstL n L = L.take k ++ firstL m (L.drop k)) :
    (m ≤ (L.getD k (0, 0)).2 - (L.getD k (0, 0)).1 → firstL n L = (L.set k ((L.getD k (0, 0)).1, (L.getD k (0, 0)).1 + m)).take (k + 1)) ∧
    ((L.getD k (0, 0)).2 - (L.getD k (0, 0)).1 < m → firstL n L = L.take (k + 1) ++ firstL (m - ((L.getD k (0, 0)).2 - (L.getD k (0, 0)).1)) (L.drop (k + 1))) := by
  have e : L.drop k = L.getD k (0, 0) :: L.drop (k + 1) := by
    rw [List.drop_eq_getElem_cons hk]; simp [List.getD, hk]
  have e2 : L.take (k + 1) = L.take k ++ [L.getD k (0, 0)] := by
    rw [List.take_succ_eq_append_getElem hk]; simp [List.getD, hk]
  rw [h, e]
  generalize L.getD k (0, 0) = z at *
  rw [firstL_cons]
  constructor
  · intro hle
    rw [if_pos hle, List.take_set, List.set_eq_take_append_cons_drop, if_pos (by rw [List.length_take]; omega), List.take_take, List.drop_eq_nil_of_le (by rw [List.length_take]; omega)]
    rw [show min k (k + 1) = k by omega]
  · intro hlt
    rw [if_neg (by omega), e2, List.append_assoc]; rfl

theorem first_any (A : Option Addr) (cap : Nat) (xs : List (Int × Int)) (n : Int) (w : World) (hx : Spans w A xs) (hl : xs.length ≤ 100000000) (hn : Fit n) :
    Calls Try.prog 19 #[.slice A xs.length cap, .int .i64 n] w (Gives w (canon fun t => In xs t ∧ cnt (In xs) t.toNat < n)) := by
  by_cases h1 : n < 1
  · have hE := Lib.hid (canon_none (p := fun t => In xs t ∧ cnt (In xs) t.toNat < n) (fun t a b h => by have := (cnt_bound (In xs) t.toNat).1; omega))
    go_enter Try.func19, Try.ntmps19
    go_wp2
    go_ret
    exact gives_of (Row.nil _ _) hE.out.symm rfl (Below.refl _ _)
  · have hE := firstL_canon (In xs) n (by omega)
    rw [← hE]
    have HP := Lib.hid (canon_plain (In xs))
    have hlen := canon_len (In xs)
    have hcon := norm_any A cap xs w hx hl
    generalize canon (In xs) = L at *
    clear hx hE
    obtain ⟨hn1, hn2⟩ := hn
    go_enter Try.func19, Try.ntmps19
    go_wp2_with fail
    refine hcon.mono ?_
    rintro e w1 ⟨D, dc, rfl, hrow, hb1⟩
    have HS := Lib.hid (hrow.spans (.of_plain HP.out))
    clear hcon
    go_wp2
    go_loopw [1, 15] (fun s i wr => ∃ (k : Nat) (m : Int), k ≤ L.length ∧ i = .int .i64 k ∧ s = .int .i64 m ∧ 1 ≤ m ∧ m ≤ n ∧ Hid (firstL n L = L.take k ++ firstL m (L.drop k)) ∧ Below w1.heap.size w1 wr) (fun _ i _ => L.length - (intOf i).toNat)
    case atStart => exact ⟨0, n, Nat.zero_le _, rfl, rfl, by omega, Int.le_refl _, rfl, Below.refl _ _⟩
    case round =>
      obtain ⟨k, m, hk, rfl, rfl, hm1, hm2, hfl, hbw⟩ := hrel
      by_cases hlt : k < L.length
      · obtain ⟨b, off, rfl, hblt, c1, c2⟩ := (HS.out.below hbw).2 k hlt
        have HZ := plain_at HP.out hlt
        have ST := Lib.hid (first_step n m L k hlt hfl.out)
        have hrw := hrow.below hbw
        obtain ⟨g, hg⟩ := hrw.form (by intro e; simp [e] at hlt)
        simp only [Option.some.injEq, Addr.mk.injEq, and_true] at hg
        obtain ⟨rfl, rfl⟩ := hg
        rcases hrw.forms with ⟨h0, _⟩ | ⟨g, hg, hgb, hglt, hcap, hcm⟩
        · cases h0
        simp only [Option.some.injEq, Addr.mk.injEq, and_true] at hg
        subst hg
        obtain ⟨f1, f2⟩ := hrw.cellAt hlt
        have f3 := hrw.frozenAt (k * 2 + 1)
        have hset := hrw.set hlt ((L.getD k (0, 0)).1 + m)
        have HT := Lib.hid ((hset.take (m := k + 1) (by rw [List.length_set]; omega)).alloc (.cells #[.int .i64 (L.getD k (0, 0)).1, .int .i64 (L.getD k (0, 0)).2] 46))
        have hne : b ≠ wr.heap.size := by omega
        unfold maxLen at hcm
        clear hset
        generalize L.getD k (0, 0) = z at *
        obtain ⟨p, q⟩ := z
        simp only [] at *
        have hw1 := hb1.size
        by_cases hc : m ≤ q - p
        · have HL := Lib.hid (ST.out.1 hc)
          go_wp2
          go_ret
          exact gives_of HT.out HL.out.symm (by rw [List.length_take, List.length_set]; omega) (bel_alloc (bel_set (bel_on hb1 hbw) (p := ⟨b, k * 2 + 1, none⟩) hgb _) _)
        · have HL := Lib.hid (ST.out.2 (by omega))
          go_wp2
          go_roundw
          case rel => exact ⟨k + 1, m - (q - p), by omega, by go_num, rfl, by omega, by omega, HL, bel_alloc hbw _⟩
          case measure => simp [intOf]; omega
      · obtain rfl : k = L.length := by omega
        have HL : Hid (L = firstL n L) := by
          show _ = _
          rw [hfl.out, List.take_length, List.drop_length]
          simp [firstL]
        go_wp2
        go_ret
        exact gives_of (hrow.below hbw) HL.out rfl (bel_on hb1 hbw)
end Go.Proofs.Ythdolmhnjinlhaa
