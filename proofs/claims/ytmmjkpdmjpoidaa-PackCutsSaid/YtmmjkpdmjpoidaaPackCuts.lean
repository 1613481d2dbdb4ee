/-
  The walk of the law PackCuts: it answers true, and leaves what was there as it was.
-/
import Derived.Test.YtmmjkpdmjpoidaaPackOrder
namespace Go.Proofs.Ytmmjkpdmjpoidaa
open Go.RowKit
set_option linter.unusedVariables false

theorem packCuts_out (n : Int) (A : Option Addr) (m c : Nat) (cut : Int) (w : World) (h : 1000 < m ∨ (m ≤ 1000 ∧ n < 0)) :
    Calls Try.prog 6 #[.int .i64 n, .slice A m c, .int .u16 cut] w fun e w' => e = .returned (.bool true) ∧ Below w.heap.size w w' := by
  have h' : (1000 : Int) < (m : Int) ∨ ((m : Int) ≤ 1000 ∧ n < 0) := by omega
  clear h
  rcases h' with h | ⟨h, h'⟩
  all_goals
    go_enter Try.func6, Try.ntmps6
    go_wp2_with fail
    refine (awake5 _).mono ?_
    rintro e w1 ⟨rfl, hb1⟩
    go_wp2
    go_ret
    exact ⟨rfl, hb1⟩
theorem rem_letter (a o : Nat) (ho : 0 < o) : ∃ k : Nat, k < o ∧ (a : Int).tmod (o : Int) = (k : Int) := ⟨a % o, Nat.mod_lt _ ho, by rw [Int.tmod_eq_emod_of_nonneg (by omega), Int.natCast_emod]⟩
set_option maxHeartbeats 400000 in
theorem packCuts_in (n : Nat) (A : Option Addr) (m c : Nat) (ts : List (BitVec 8)) (cut : Nat) (w : World) (hn : n < 9223372036854775808) (hs : Sl 1 w A m c (bytesV ts)) (hm : m ≤ 1000) (hcut : cut ≤ 65535) :
    Calls Try.prog 6 #[.int .i64 n, .slice A m c, .int .u16 cut] w fun e w' => e = .returned (.bool true) ∧ Below w.heap.size w w' := by
  have hl := hs.blen
  have h8 := digs_eight hn
  have h9 := digs_eight (show m < 9223372036854775808 by omega)
  have o1 := @one_len n
  have o2 := @one_len m
  have o3 : (textB ts).length = (oneB m).length + m := by rw [textB, List.length_append, hl]
  obtain ⟨k, hk, ek⟩ := rem_letter cut (oneB n).length (by omega)
  obtain ⟨j, hj, ej⟩ := rem_letter cut (textB ts).length (by omega)
  have T1 := Lib.hid (take_cut hn hk)
  have T2 := Lib.hid (text_cut (by rw [hl]; omega) hj)
  have HP := Lib.hid (fun w => put_one w n _ hn rfl rfl)
  have HS := Lib.hid hs
  have HZ := Lib.hid (fun w => size_at m w (by omega))
  generalize hx : (oneB n).length = x at *
  generalize hy : (textB ts).length = y at *
  generalize (oneB m).length = z at *
  have HX := Lib.hid hx
  have HY := Lib.hid hy
  have hx9 : x ≤ 9 := by omega
  have hx0 : 0 < x := by omega
  have hz9 : z ≤ 9 := by omega
  have hz0 : 0 < z := by omega
  have hyz : (y : Int) = (z : Int) + (m : Int) := by omega
  have dm : (m : Int) ≤ 1000 := by omega
  have hy2 : y ≤ 2000 := by omega
  have x0 : ((x : Int) == 0) = false := by simp; omega
  have y0 : ((y : Int) == 0) = false := by simp; omega
  have HYZ := Lib.hid hyz
  clear hx hy o1 o2 o3 h8 h9 hl hs hyz
  go_enter Try.func6, Try.ntmps6
  go_wp2_with fail
  refine (awake5 _).mono ?_
  rintro e w1 ⟨rfl, b1⟩
  go_wp2_with fail
  refine (HP.out _).mono ?_
  rintro e w2 ⟨A2, c2, rfl, r2, b2⟩
  replace b1 := bel_on b1 b2
  go_wp2_with fail
  refine (text_any _ 0 _ [] _ m _ ts _ Sl.nil_ (HS.out.below b1) (by omega) (by omega)).mono ?_
  rintro e w3 ⟨A3, c3, rfl, r3, b3⟩
  rw [Nat.zero_add, HY.out]
  rw [List.nil_append] at r3
  replace b1 := bel_on b1 b3
  have q2 := r2.cap_le HX.out
  have q3 := r3.cap_le HY.out
  obtain ⟨A4, hcut4, s4⟩ := cut_to ((r2.below b3).slAt HX.out) q2 k (by omega)
  obtain ⟨A5, hcut5, s5⟩ := cut_to (r3.slAt HY.out) q3 j (by omega)
  have HC4 := Lib.hid hcut4
  have HC5 := Lib.hid hcut5
  have S4 := Lib.hid s4
  have S5 := Lib.hid s5
  clear hcut4 hcut5 s4 s5 r2 r3 b2 b3
  go_wp2_with (refine wpList_slice_run (o := ⟨some 49, _, _, _, _, _⟩) HC4.out rfl rfl rfl rfl rfl rfl ?_)
  refine (take_bad A4 k c2 _ w3 (byts_of_sl S4.out) S4.out.blen (by omega) T1.out).mono ?_
  rintro e w4 ⟨rfl, rfl⟩
  go_wp2_with (refine wpList_slice_run (o := ⟨some 61, _, _, _, _, _⟩) HC5.out rfl rfl rfl rfl rfl rfl ?_)
  refine (taketext_bad A5 j c3 _ w3 S5.out (by omega) (by omega) T2.out).mono ?_
  rintro e w4 ⟨rfl, rfl⟩
  go_wp2_with fail
  refine (HZ.out _).mono ?_
  rintro e w4 ⟨rfl, rfl⟩
  have hyz := HYZ.out
  have hyz' : ((y : Int) == (z : Int) + (m : Int)) = true := by simp; omega
  clear hyz
  go_wp2
  go_ret
  exact ⟨rfl, b1⟩
theorem packCuts_walk (n : Int) (a0 : Option Addr) (len0 cap0 : Nat) (z0 : List Int) (cut : Int) (w : World) (h0 : -9223372036854775808 ≤ n) (h1 : n ≤ 9223372036854775807) (r0 : IsRow .u8 w a0 len0 cap0 z0) (h2 : 0 ≤ cut) (h3 : cut ≤ 65535) :
    Calls Try.prog 6 #[.int .i64 n, .slice a0 len0 cap0, .int .u16 cut] w fun e w' => e = .returned (.bool true) ∧ Below w.heap.size w w' := by
  by_cases g : 1000 < len0 ∨ (len0 ≤ 1000 ∧ n < 0)
  · exact packCuts_out n a0 len0 cap0 cut w g
  · obtain ⟨m, rfl⟩ : ∃ m : Nat, n = m := ⟨n.toNat, by omega⟩
    obtain ⟨k, rfl⟩ : ∃ k : Nat, cut = k := ⟨cut.toNat, by omega⟩
    obtain ⟨l, hl, s0, hm⟩ := bytes_of_row r0
    exact packCuts_in m a0 len0 cap0 l k w (by omega) s0 (by omega) (by omega)
end Go.Proofs.Ytmmjkpdmjpoidaa
