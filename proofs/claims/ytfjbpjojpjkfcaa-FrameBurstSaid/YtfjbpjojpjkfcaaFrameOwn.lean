/-
  The walk of the law FrameOwn: it answers true, and leaves what was there as it was.
-/
import Derived.Test.YtfjbpjojpjkfcaaFrAwake
namespace Go.Proofs.Ytfjbpjojpjkfcaa
open Go.RowKit
set_option linter.unusedVariables false

theorem txt_append (x y : List (BitVec 8)) : txtB x ++ txtB y = txtB (x ++ y) := by
  apply ByteArray.ext
  rw [ByteArray.data_append, txtB, txtB, txtB]
  apply Array.toList_inj.1
  rw [Array.toList_append, strOfNums_data, strOfNums_data, strOfNums_data]
  simp
theorem txt_size (x : List (BitVec 8)) : (txtB x).size = x.length := by
  have h := congrArg List.length (txt_list x)
  rw [ByteArray.toList_eq, List.length_map, Array.length_toList] at h
  exact h
theorem frameOwn_out (A : Option Addr) (m c : Nat) (w : World) (h : 3000 < m) :
    Calls Try.prog 7 #[.slice A m c] w fun e w' => e = .returned (.bool true) ∧ Below w.heap.size w w' := by
  have d0 : (3000 : Int) < (m : Int) := by omega
  go_enter Try.func7, Try.ntmps7
  go_wp2_with fail
  refine (awake6 _).mono ?_
  rintro e w1 ⟨rfl, hb1⟩
  go_wp2
  go_ret
  exact ⟨rfl, hb1⟩
theorem frameOwn_none (A : Option Addr) (m c : Nat) (l : List (BitVec 8)) (w : World) (hs : Sl 1 w A m c (bytesV l)) (hmc : m ≤ c) (hm : m ≤ 3000) (hf : takeF l = none) :
    Calls Try.prog 7 #[.slice A m c] w fun e w' => e = .returned (.bool true) ∧ Below w.heap.size w w' := by
  have d0 : ¬ (3000 : Int) < (m : Int) := by omega
  have HS := Lib.hid hs
  have HT := Lib.hid (fun w (hs : Sl 1 w A m c (bytesV l)) => ftake_none A m c l w hs hmc (by omega) hf)
  clear hs hf
  go_enter Try.func7, Try.ntmps7
  go_wp2_with fail
  refine (awake6 _).mono ?_
  rintro e w1 ⟨rfl, b1⟩
  go_wp2_with fail
  refine (HT.out _ (HS.out.below b1)).mono ?_
  rintro e w2 ⟨rfl, b2⟩
  go_wp2
  go_ret
  exact ⟨rfl, bel_on b1 b2⟩
set_option maxHeartbeats 2000000 in
theorem frameOwn_some (A : Option Addr) (m c : Nat) (l p r : List (BitVec 8)) (w : World) (hs : Sl 1 w A m c (bytesV l)) (hmc : m ≤ c) (hm : m ≤ 3000) (hf : takeF l = some (p, r)) :
    Calls Try.prog 7 #[.slice A m c] w fun e w' => e = .returned (.bool true) ∧ Below w.heap.size w w' := by
  have d0 : ¬ (3000 : Int) < (m : Int) := by omega
  have hl := hs.blen
  obtain ⟨hown, hp⟩ := frame_own hf
  have hless := take_less hf
  have hfl := frame_len p
  have HS := Lib.hid hs
  have HT := Lib.hid (fun w (hs : Sl 1 w A m c (bytesV l)) => ftake_some A m c l p r w hs hmc (by omega) hf)
  have HTX : Hid (txtB (frameB p) ++ txtB r = txtB l) := by show _ = _; rw [txt_append, ← hown]
  obtain ⟨q, hq⟩ : ∃ q, (frameB p).length = q := ⟨_, rfl⟩
  obtain ⟨o, ho⟩ : ∃ o, (oneB p.length).length = o := ⟨_, rfl⟩
  have HSZ : Hid (∀ w, Calls Try.prog 17 #[.int .i64 (p.length : Int)] w fun e w' => e = .returned (.int .i64 (o : Int)) ∧ w = w') := Lib.hid (fun w => ho ▸ size_at p.length w (by omega))
  rw [hq] at hless hfl
  rw [ho] at hfl
  have HQ := Lib.hid hq
  have hqe : (q : Int) = (o : Int) + (p.length : Int) + 4 := by omega
  have HQE := Lib.hid hqe
  have hpl : p.length ≤ 3000 := by omega
  have hol : o ≤ 3000 := by omega
  have hql : q ≤ 3000 := by omega
  have hrl : r.length ≤ 3000 := by omega
  clear hs hf hl hown hless hfl hq ho hqe
  go_enter Try.func7, Try.ntmps7
  go_wp2_with fail
  refine (awake6 _).mono ?_
  rintro e w1 ⟨rfl, b1⟩
  go_wp2_with fail
  refine (HT.out _ (HS.out.below b1)).mono ?_
  rintro e w2 ⟨A1, c1, A2, c2, rfl, r1, r2, b2⟩
  have b12 := bel_on b1 b2
  clear b1
  go_wp2_with fail
  refine (fput_ok none 0 0 [] A1 p.length c1 p _ Sl.nil_ (Nat.le_refl 0) r1.sl (by omega) (by omega)).mono ?_
  rintro e w3 ⟨A3, c3, rfl, r3, b3⟩
  rw [List.nil_append] at r3
  rw [HQ.out, Nat.zero_add]
  have b13 := bel_on b12 b3
  have k3 := conv_sl (r3.slAt HQ.out)
  have k2 := conv_sl (r2.below b3).sl
  have k0 := conv_sl (HS.out.below b13)
  have tx := HTX.out
  have z3 : (txtB (frameB p)).size ≤ 3000 := by rw [txt_size, HQ.out]; omega
  have z2 : (txtB r).size ≤ 3000 := by rw [txt_size]; omega
  generalize txtB (frameB p) = t3 at *
  generalize txtB r = t2 at *
  generalize txtB l = t0 at *
  generalize p.length = pl at *
  generalize r.length = rl at *
  have hqe := HQE.out
  clear HQE
  go_wp2_with (go_at_call 17; refine (HSZ.out _).mono ?_; rintro e w' ⟨rfl, rfl⟩)
  go_ret
  refine ⟨?_, b13⟩
  first | rfl | (apply ret_bool; simp; omega)
theorem frameOwn_walk (a0 : Option Addr) (len0 cap0 : Nat) (z0 : List Int) (w : World) (r0 : IsRow .u8 w a0 len0 cap0 z0) :
    Calls Try.prog 7 #[.slice a0 len0 cap0] w fun e w' => e = .returned (.bool true) ∧ Below w.heap.size w w' := by
  by_cases g : 3000 < len0
  · exact frameOwn_out _ _ _ w g
  · obtain ⟨l, hl, s0, hm⟩ := bytes_of_row r0
    cases hf : takeF l with
    | none => exact frameOwn_none _ _ _ l w s0 (bytes_caps r0).1 (by omega) hf
    | some x =>
      obtain ⟨p, r⟩ := x
      exact frameOwn_some _ _ _ l p r w s0 (bytes_caps r0).1 (by omega) hf
end Go.Proofs.Ytfjbpjojpjkfcaa
