/-
  The contracts of package span's functions, continued: Size, Has, First.
-/
import Derived.Test.YtpgncbhahocmbaaGreatSpC
import Derived.Deep.DeepCutAuto
namespace Go.Proofs.YtpgncbhahocmbaaGreat
open Go.RowKit
set_option linter.unusedVariables false

theorem plain_take : ∀ {l : List (Int × Int)} {a : Int} (k : Nat), PlainFrom a l → PlainFrom a (l.take k)
  | [], _, k, _ => by simp [PlainFrom]
  | s :: l, a, 0, _ => trivial
  | s :: l, a, k + 1, ⟨h1, h2, h3, h4⟩ => ⟨h1, h2, h3, plain_take k h4⟩
theorem szL_bd : ∀ {l : List (Int × Int)} {a : Int}, PlainFrom a l → a ≤ 32054401 → 0 ≤ szL l ∧ (l ≠ [] → szL l ≤ 32054400 - a)
  | [], a, _, h => by simp [szL]
  | s :: l, a, ⟨h1, h2, h3, h4⟩, h => by
    obtain ⟨i1, i2⟩ := szL_bd h4 (by omega)
    rw [szL_cons]
    by_cases hl : l = []
    · subst hl
      have : szL [] = 0 := rfl
      exact ⟨by omega, fun _ => by omega⟩
    · have := i2 hl
      exact ⟨by omega, fun _ => by omega⟩
theorem szL_take {l : List (Int × Int)} (k : Nat) (h : PlainFrom 0 l) : 0 ≤ szL (l.take k) ∧ szL (l.take k) ≤ 32054400 := by
  obtain ⟨h1, h2⟩ := szL_bd (plain_take k h) (by omega)
  refine ⟨h1, ?_⟩
  by_cases e : l.take k = []
  · rw [e]; simp [szL]
  · have := h2 e; omega
theorem szL_append (l m : List (Int × Int)) : szL (l ++ m) = szL l + szL m := by simp [szL]
theorem szL_snoc (l : List (Int × Int)) (k : Nat) (h : k < l.length) : szL (l.take (k + 1)) = szL (l.take k) + ((l.getD k (0, 0)).2 - (l.getD k (0, 0)).1) := by
  rw [List.take_succ_eq_append_getElem h, szL_append]
  simp [List.getD, h, szL]
theorem plain_at {l : List (Int × Int)} (h : PlainFrom 0 l) {k : Nat} (hk : k < l.length) : 0 ≤ (l.getD k (0, 0)).1 ∧ (l.getD k (0, 0)).1 < (l.getD k (0, 0)).2 ∧ (l.getD k (0, 0)).2 ≤ 32054400 := (plain_pairs.1 h).1 _ (by simp [List.getD, hk])

theorem size_any (A : Option Addr) (cap : Nat) (xs : List (Int × Int)) (w : World) (hx : Spans w A xs) (hl : xs.length ≤ 100000000) :
    Calls Tryz.prog 20 #[.slice A xs.length cap] w fun e w' => e = .returned (.int .i64 (sz (In xs))) ∧ Below w.heap.size w w' := by
  rw [← szL_canon]
  have HP := Lib.hid (canon_plain (In xs))
  have hlen := canon_len (In xs)
  have hcon := norm_any A cap xs w hx hl
  generalize canon (In xs) = L at *
  clear hx
  go_enter Tryz.func20, Tryz.ntmps20
  go_wp2_with fail
  refine hcon.mono ?_
  rintro e w1 ⟨D, dc, rfl, hrow, hb1⟩
  have HS := Lib.hid (hrow.spans (.of_plain HP.out))
  clear hrow hcon
  go_wp2
  go_loopw [3, 9] (fun s i wr => ∃ (k : Nat), k ≤ L.length ∧ i = .int .i64 k ∧ s = .int .i64 (szL (L.take k)) ∧ Below w1.heap.size w1 wr) (fun _ i _ => L.length - (intOf i).toNat)
  case atStart => exact ⟨0, Nat.zero_le _, rfl, rfl, Below.refl _ _⟩
  case round =>
    obtain ⟨k, hk, rfl, rfl, hbw⟩ := hrel
    by_cases hlt : k < L.length
    · obtain ⟨b, off, rfl, hblt, c1, c2⟩ := (HS.out.below hbw).2 k hlt
      have HZ := plain_at HP.out hlt
      have HN := Lib.hid (szL_snoc L k hlt)
      have hb1' := szL_take k HP.out
      have hb2' := szL_take (k + 1) HP.out
      have hs2 : szL (L.take (k + 1)) = szL (L.take k) + ((L.getD k (0, 0)).2 - (L.getD k (0, 0)).1) := HN.out
      generalize L.getD k (0, 0) = z at *
      obtain ⟨p, q⟩ := z
      simp only [] at *
      generalize szL (L.take k) = s1 at *
      have hs3 : 0 ≤ s1 + (q - p) ∧ s1 + (q - p) ≤ 32054400 := by omega
      clear hs2
      go_wp2
      go_roundw
      case rel => exact ⟨k + 1, by omega, by go_num, by rw [HN.out], bel_alloc hbw _⟩
      case measure => simp [intOf]; omega
    · obtain rfl : k = L.length := by omega
      go_wp2
      go_ret
      exact ⟨ret_one (by rw [List.take_length]), bel_on hb1 hbw⟩

end Go.Proofs.YtpgncbhahocmbaaGreat
