/-
  Package pack: a number's bytes written behind.
-/
import Derived.Test.YtdhkfhgggkndoaaPkA
namespace Go.Proofs.Ytdhkfhgggkndoaa
open Go.RowKit
set_option linter.unusedVariables false

theorem digs_get (n : Nat) : ∀ j, j < (digs n).length → (digs n).getD j 0 = n / 2 ^ (8 * ((digs n).length - 1 - j)) % 256 := by
  induction n using Nat.strongRecOn with
  | _ n ih =>
    intro j hj
    rcases Nat.eq_zero_or_pos n with rfl | h
    · rw [digs_zero] at hj; simp at hj
    · rw [digs_step h] at hj ⊢
      rw [digs_pos h]
      rcases Nat.lt_or_ge j (digs (n / 256)).length with q | q
      · have e := ih (n / 256) (by omega) j q
        have e1 : (digs (n / 256) ++ [n % 256]).getD j 0 = (digs (n / 256)).getD j 0 := by
          simp [List.getD, List.getElem?_append_left q]
        rw [e1, e, Nat.div_div_eq_div_mul]
        congr 2
        have e2 : 8 * ((digs (n / 256)).length + 1 - 1 - j) = 8 + 8 * ((digs (n / 256)).length - 1 - j) := by omega
        rw [e2, Nat.pow_add]
      · obtain rfl : j = (digs (n / 256)).length := by omega
        simp [List.getD]
/-- The bytes of a number, up to one. -/
def oneTo (n j : Nat) : List (BitVec 8) := BitVec.ofNat 8 (digs n).length :: bytN ((digs n).take j)
theorem oneTo_zero (n : Nat) : oneTo n 0 = [BitVec.ofNat 8 (digs n).length] := rfl
theorem oneTo_all (n : Nat) : oneTo n (digs n).length = oneB n := by unfold oneTo oneB; rw [List.take_length]
theorem oneTo_succ (n j k : Nat) (hj : j < (digs n).length) (hk : (digs n).length - 1 - j = k) : oneTo n (j + 1) = oneTo n j ++ [BitVec.ofNat 8 (n / 2 ^ (8 * k))] := by
  subst hk
  unfold oneTo
  rw [List.take_succ_eq_append_getElem hj, bytN, bytN, List.map_append, List.cons_append]
  congr 2
  have e := digs_get n j hj
  have e1 : (digs n).getD j 0 = (digs n)[j] := by simp [List.getD, hj]
  rw [e1] at e
  simp only [List.map_cons, List.map_nil]
  rw [e]
  congr 1
  apply BitVec.eq_of_toNat_eq
  simp
theorem oneTo_len (n j : Nat) (hj : j ≤ (digs n).length) : (oneTo n j).length = j + 1 := by
  simp [oneTo, bytN_len, List.length_take]
  omega

set_option maxHeartbeats 400000 in
theorem behind_any (A : Option Addr) (m c : Nat) (xs : List (BitVec 8)) (n base : Nat) (w : World) (hx : BRow w base A c xs) (hm : xs.length = m) (hml : m ≤ 10000000000000) (hn : n < 9223372036854775808) (hbase : base ≤ w.heap.size) :
    Calls Try.prog 89 #[.slice A m c, .int .i64 n] w fun e w' => ∃ A' c', e = .returned (.slice A' (m + (oneB n).length) c') ∧ BRow w' base A' c' (xs ++ oneB n) ∧ (∀ a : World, a.heap.size ≤ base → Below a.heap.size a w → Below a.heap.size a w') ∧ w.heap.size ≤ w'.heap.size := by
  have h8 := digs_eight hn
  have HO := Lib.hid (oneTo_succ n)
  have HL := Lib.hid (oneTo_len n)
  have HA := Lib.hid (oneTo_all n)
  have HZ := Lib.hid (oneTo_zero n)
  rw [one_len]
  have hs := fun w => size_nat n w hn
  generalize hd : (digs n).length = d at *
  have HS := Lib.hid hs
  have HX := Lib.hid hx
  clear hs hx
  go_enter Try.func89, Try.ntmps89
  go_wp2_with fail
  refine (HS.out _).mono ?_
  rintro e w1 ⟨rfl, rfl⟩
  subst hm
  obtain ⟨A1, c1, w1, hr1, hrow1, hbel1, hz1⟩ := brow_push HX.out (BitVec.ofNat 8 d) (by omega) hbase (s := w.heap.size) rfl
  have e8 : ((BitVec.ofNat 8 d).toNat : Int) = d := by rw [BitVec.toNat_ofNat]; omega
  rw [v8, e8] at hr1
  have HR1 := Lib.hid hr1
  have HB1 := Lib.hid hbel1
  clear hr1 hbel1
  go_wp2_with (at_builtin; refine wpList_append_run (o := ⟨some 14, _, _, _, _, _⟩) HR1.out rfl rfl rfl rfl ?_)
  go_loopw [0, 6] (fun b i wr => ∃ (j : Nat) (A : Option Addr) (c : Nat) (D : List (BitVec 8)), j ≤ d ∧ i = .int .i64 ((d : Int) - 1 - j) ∧ b = .slice A (xs.length + (j + 1)) c ∧ D.length = xs.length + (j + 1) ∧ Hid (D = xs ++ oneTo n j) ∧ BRow wr base A c D ∧ Hid (∀ v : World, v.heap.size ≤ base → Below v.heap.size v w → Below v.heap.size v wr) ∧ w.heap.size ≤ wr.heap.size) (fun _ i _ => (intOf i + 1).toNat)
  case atStart => exact ⟨0, A1, c1, xs ++ [BitVec.ofNat 8 d], by omega, by go_num, rfl, by simp, by rw [HZ.out]; rfl, hrow1, HB1, hz1⟩
  case round =>
    clear HB1 hrow1 HR1 HZ e8 hz1
    obtain ⟨j, A2, c2, D, hj, rfl, rfl, hDl, hD, hrow, HB, hz⟩ := hrel
    by_cases hlt : j < d
    · obtain ⟨k, hk⟩ : ∃ k : Nat, (d : Int) - 1 - j = (k : Int) := ⟨d - 1 - j, by omega⟩
      have hk7 : k ≤ 7 := by omega
      have HS' := Lib.hid (HO.out j k hlt (by omega))
      obtain ⟨A3, c3, w3, hr3, hrow3, hbel3, hz3⟩ := brow_push hrow (BitVec.ofNat 8 (n / 2 ^ (8 * k))) (by omega) (by omega) (s := wr.heap.size) rfl
      have e8 : ((BitVec.ofNat 8 (n / 2 ^ (8 * k))).toNat : Int) = (n : Int) / (2 ^ (8 * k) : Nat) % 256 := by rw [BitVec.toNat_ofNat]; omega
      rw [v8, e8, hDl] at hr3
      have HR3 := Lib.hid hr3
      have HB3 := Lib.hid hbel3
      clear hr3 hbel3 e8
      rw [hk]
      go_wp2_with (at_builtin; refine wpList_append_run (o := ⟨some 28, _, _, _, _, _⟩) HR3.out rfl rfl rfl rfl ?_)
      go_roundw
      case rel => exact ⟨j + 1, A3, c3, D ++ [BitVec.ofNat 8 (n / 2 ^ (8 * k))], by omega, by go_num, rfl, by rw [List.length_append, hDl]; rfl, Lib.hid (by rw [HS'.out, hD.out, List.append_assoc]), hrow3, Lib.hid (fun v hv hb => HB3.out v hv (HB.out v hv hb)), by omega⟩
      case measure => simp [intOf]
    · obtain rfl : j = d := by omega
      have hDe := hD.out
      rw [HA.out] at hDe
      subst hDe
      go_wp2
      go_ret
      exact ⟨A2, c2, rfl, hrow, HB.out, hz⟩
end Go.Proofs.Ytdhkfhgggkndoaa
