/-
  Package pack: numbers, and a text, put behind bytes.
-/
import Derived.Test.YtdhkfhgggkndoaaPkB
import Derived.Test.YtdhkfhgggkndoaaNums
namespace Go.Proofs.Ytdhkfhgggkndoaa
open Go.RowKit
set_option linter.unusedVariables false

theorem brow_make (w : World) (n : Nat) (hn : n ≤ 100000000000000) :
    ∃ w', (Instr.makeSlice 31 (.int .i64 0) (.int .i64 (n : Int))).run Try.prog w = .ok (.slice (some ⟨w.heap.size, 0, none⟩) 0 n) w' ∧ BRow w' w.heap.size (some ⟨w.heap.size, 0, none⟩) n [] ∧ Below w.heap.size w w' ∧ w.heap.size ≤ w'.heap.size := by
  obtain ⟨i, hi, hz, hsize, hby⟩ := info_parts u8_info
  obtain ⟨w', h1, h2, h3⟩ := run_make_own (P := Try.prog) w w.heap.size 31 5 i _ 1 Try.underlying31 hi hz hsize .i64 .i64 n (by rw [hby]; omega) (by unfold maxLen; omega) (Nat.le_refl _)
  exact ⟨w', h1, h2, (Below.refl _ _).grown h3 (Nat.le_refl _) (fun k hk => by cases hk), h3.size⟩
/-- A copy with room. -/
theorem brow_room (w : World) (n : Nat) (hn : n ≤ 100000000000000) {B : Option Addr} {m d : Nat} {ys : List (BitVec 8)} (hs : Sl 1 w B m d (bytesV ys)) (hm : m ≤ 10000000000000) :
    ∃ w1 A' c' w', (Instr.makeSlice 31 (.int .i64 0) (.int .i64 (n : Int))).run Try.prog w = .ok (.slice (some ⟨w.heap.size, 0, none⟩) 0 n) w1 ∧
      (Builtin.append_ #[31, 31] 31 #[.slice (some ⟨w.heap.size, 0, none⟩) 0 n, .slice B m d]).run Try.prog w1 = .ok (.slice A' m c') w' ∧ BRow w' w.heap.size A' c' ys ∧ Below w.heap.size w w' ∧ w.heap.size ≤ w'.heap.size := by
  obtain ⟨w1, h1, h2, h3, h4⟩ := brow_make w n hn
  have hl := hs.blen
  subst hl
  obtain ⟨A', c', w', hr, hrow, hb, hg, _⟩ := brow_append h2 (hs.below h3) (by simp; omega) h4
  rw [List.nil_append] at hrow
  simp only [List.length_nil, Nat.zero_add] at hr
  exact ⟨w1, A', c', w', h1, hr, hrow, hb w (Nat.le_refl _) h3, by have := hg.size; omega⟩
theorem put_len_le (ns : List Nat) (h : ∀ n ∈ ns, n < 9223372036854775808) : (putB ns).length ≤ 9 * ns.length := by
  induction ns with
  | nil => simp [putB]
  | cons n r ih =>
    have h1 := ih (fun x hx => h x (by simp [hx]))
    have h2 := digs_eight (h n (by simp))
    have e : putB (n :: r) = oneB n ++ putB r := by simp [putB]
    rw [e, List.length_append, one_len, List.length_cons]
    omega
theorem put_snoc (ns : List Nat) (k : Nat) (h : k < ns.length) : putB (ns.take (k + 1)) = putB (ns.take k) ++ oneB (ns.getD k 0) := by
  rw [List.take_succ_eq_append_getElem h, putB, List.map_append, List.flatten_append]
  simp [putB, List.getD, h]
theorem size_at (n : Nat) (w : World) (h : n < 9223372036854775808) :
    Calls Try.prog 54 #[.int .i64 n] w fun e w' => e = .returned (.int .i64 ((oneB n).length : Nat)) ∧ w = w' := by
  rw [one_len]
  exact size_nat n w h

set_option maxHeartbeats 400000 in
theorem put_ok (A : Option Addr) (m c : Nat) (xs : List (BitVec 8)) (B : Option Addr) (k d : Nat) (ns : List Nat) (w : World) (hx : Sl 1 w A m c (bytesV xs)) (hB : Nums w B (ns.map fun n : Nat => (n : Int))) (hk : ns.length = k)
    (hns : ∀ n ∈ ns, n < 9223372036854775808) (hm : m ≤ 1000000000000) (hkl : k ≤ 1000000000000) :
    Calls Try.prog 49 #[.slice A m c, .slice B k d] w fun e w' => ∃ A' c', e = .returned (.tuple #[.slice A' (m + (putB ns).length) c', .int .i64 0]) ∧ BRow w' w.heap.size A' c' (xs ++ putB ns) ∧ Below w.heap.size w w' := by
  subst hk
  have hxl := hx.blen
  have hpl := put_len_le ns hns
  have HB := Lib.hid hB
  have HX := Lib.hid hx
  have HN := Lib.hid hns
  have HPL : Hid (∀ j, (putB (ns.take j)).length ≤ 9 * ns.length) := Lib.hid (fun j => by
    have := put_len_le (ns.take j) (fun n hn => hns n (List.mem_of_mem_take hn))
    rw [List.length_take] at this
    omega)
  have HSN := Lib.hid (put_snoc ns)
  clear hB hx hns
  go_enter Try.func49, Try.ntmps49
  go_wp2
  go_loop [6, 16] (fun r i => ∃ j q : Nat, j ≤ ns.length ∧ i = .int .i64 j ∧ r = .int .i64 q ∧ q ≤ m + 9 * ns.length ∧ Hid (q = m + (putB (ns.take j)).length)) (fun _ i => ns.length - (intOf i).toNat)
  case atStart => exact ⟨0, m, by omega, rfl, rfl, by omega, rfl⟩
  case round =>
    obtain ⟨j, q, hj, rfl, rfl, hq, hqe⟩ := hrel
    by_cases hlt : j < ns.length
    · obtain ⟨b, off, rfl, hc⟩ := HB.out j (by simpa using hlt)
      rw [getD_ints] at hc
      have hs := HSN.out j hlt
      have hl' := HPL.out (j + 1)
      have hn : ns.getD j 0 < 9223372036854775808 := HN.out _ (by simp [List.getD, hlt])
      have hq' : q + (oneB (ns.getD j 0)).length = m + (putB (ns.take (j + 1))).length := by rw [hs, List.length_append, hqe.out]; omega
      have hq9 : q + (oneB (ns.getD j 0)).length ≤ m + 9 * ns.length := by omega
      have HQ := Lib.hid hq'
      clear hs hq' hl'
      generalize ns.getD j 0 = n at *
      have HSZ := Lib.hid (size_at n · hn)
      generalize (oneB n).length = o at *
      go_wp2_with (go_at_call 54; refine (HSZ.out _).mono ?_; rintro e w' ⟨rfl, rfl⟩)
      go_round
      case rel => exact ⟨j + 1, q + o, by omega, by go_num, by go_num, by omega, HQ⟩
      case measure => simp [intOf]; omega
    · obtain rfl : j = ns.length := by omega
      obtain ⟨w1, A2, c2, w2, hr1, hr2, hrow2, hb2, hz2⟩ := brow_room w q (by omega) HX.out (by omega)
      have HR1 := Lib.hid hr1
      have HR2 := Lib.hid hr2
      have HW := Lib.hid hrow2
      have HM := Lib.hid hxl
      clear hr1 hr2 hrow2 hpl hxl
      go_wp2_with (first | (at_make; refine wpList_make_run HR1.out rfl rfl rfl rfl ?_) | (at_builtin; refine wpList_append_run (o := ⟨some 30, _, _, _, _, _⟩) HR2.out rfl rfl rfl rfl ?_))
      clear HR1 HR2
      go_loopw [9, 33] (fun b i wr => ∃ (j : Nat) (A : Option Addr) (c : Nat) (D : List (BitVec 8)) (L : Nat), j ≤ ns.length ∧ i = .int .i64 j ∧ b = .slice A L c ∧ D.length = L ∧ L ≤ m + 9 * ns.length ∧ Hid (D = xs ++ putB (ns.take j)) ∧ BRow wr w.heap.size A c D ∧ Below w.heap.size w wr) (fun _ i _ => ns.length - (intOf i).toNat)
      case atStart => exact ⟨0, A2, c2, xs, m, by omega, rfl, rfl, HM.out, by omega, by simp [putB]; trivial, HW.out, hb2⟩
      case round =>
        clear HW
        obtain ⟨j, A3, c3, D, L, hj, rfl, rfl, hDl, hL, hD, hrow, hb⟩ := hrel
        by_cases hlt : j < ns.length
        · obtain ⟨b, off, rfl, hc⟩ := (HB.out.below hb) j (by simpa using hlt)
          rw [getD_ints] at hc
          have hs := HSN.out j hlt
          have hl' := HPL.out (j + 1)
          have hn : ns.getD j 0 < 9223372036854775808 := HN.out _ (by simp [List.getD, hlt])
          have hD' : D ++ oneB (ns.getD j 0) = xs ++ putB (ns.take (j + 1)) := by rw [hs, hD.out, List.append_assoc]
          have hDl' : (D ++ oneB (ns.getD j 0)).length = L + (oneB (ns.getD j 0)).length := by rw [List.length_append, hDl]
          have hL' : L + (oneB (ns.getD j 0)).length ≤ m + 9 * ns.length := by rw [← hDl', hD', List.length_append, HM.out]; omega
          have HD' := Lib.hid hD'
          have HL' := Lib.hid hDl'
          clear hs hl' hD' hDl'
          generalize ns.getD j 0 = n at *
          go_wp2_with fail
          refine (behind_any A3 L c3 D n w.heap.size _ hrow hDl (by omega) hn hb.size).mono ?_
          rintro e w4 ⟨A4, c4, rfl, hrow4, hbel4, hz4⟩
          go_wp2
          go_roundw
          case rel => exact ⟨j + 1, A4, c4, D ++ oneB n, L + (oneB n).length, by omega, by go_num, rfl, HL'.out, hL', HD', hrow4, hbel4 w (Nat.le_refl _) hb⟩
          case measure => simp [intOf]; omega
        · obtain rfl : j = ns.length := by omega
          have hDe := hD.out
          rw [List.take_length] at hDe
          subst hDe
          rw [List.length_append, HM.out] at hDl
          subst hDl
          go_wp2
          go_ret2
          exact ⟨A3, c3, rfl, hrow, hb⟩
set_option maxHeartbeats 400000 in
theorem put_bad (A : Option Addr) (m c : Nat) (B : Option Addr) (k d : Nat) (zs : List Int) (w : World) (hB : Nums w B zs) (hk : zs.length = k)
    (hzs : ∀ z ∈ zs, z ≤ 9223372036854775807) (hneg : ¬ ∀ z ∈ zs, 0 ≤ z) (hm : m ≤ 1000000000000) (hkl : k ≤ 1000000000000) :
    Calls Try.prog 49 #[.slice A m c, .slice B k d] w fun e w' => e = .returned (.tuple #[.slice none 0 0, .int .i64 50]) ∧ w = w' := by
  subst hk
  have HB := Lib.hid hB
  have HN := Lib.hid hzs
  have HG := Lib.hid hneg
  clear hB hzs hneg
  go_enter Try.func49, Try.ntmps49
  go_wp2
  go_loop [6, 16] (fun r i => ∃ j q : Nat, j ≤ zs.length ∧ i = .int .i64 j ∧ r = .int .i64 q ∧ q ≤ m + 9 * j ∧ Hid (∀ z ∈ zs.take j, 0 ≤ z)) (fun _ i => zs.length - (intOf i).toNat)
  case atStart => exact ⟨0, m, by omega, rfl, rfl, by omega, Lib.hid (fun z hz => by simp at hz)⟩
  case round =>
    obtain ⟨j, q, hj, rfl, rfl, hq, hpos⟩ := hrel
    by_cases hlt : j < zs.length
    · obtain ⟨b, off, rfl, hc⟩ := HB.out j hlt
      have hn : zs.getD j 0 ≤ 9223372036854775807 := HN.out _ (by simp [List.getD, hlt])
      by_cases h0 : zs.getD j 0 < 0
      · generalize zs.getD j 0 = z at *
        go_wp2
        go_ret2
        exact ⟨rfl, rfl⟩
      · have hp : ∀ z ∈ zs.take (j + 1), 0 ≤ z := by
          intro z hz
          rw [List.take_succ_eq_append_getElem hlt, List.mem_append] at hz
          rcases hz with hz | hz
          · exact hpos.out z hz
          · simp at hz
            simp [List.getD, hlt] at h0
            omega
        have HP := Lib.hid hp
        clear hp
        obtain ⟨n, hne⟩ : ∃ n : Nat, zs.getD j 0 = (n : Int) := ⟨(zs.getD j 0).toNat, by omega⟩
        rw [hne] at hc hn h0
        clear hne
        have hn' : n < 9223372036854775808 := by omega
        have HSZ := Lib.hid (size_nat n · hn')
        have h8 := digs_eight hn'
        generalize (digs n).length = o at *
        go_wp2_with (go_at_call 54; refine (HSZ.out _).mono ?_; rintro e w' ⟨rfl, rfl⟩)
        go_round
        case rel => exact ⟨j + 1, q + (o + 1), by omega, by go_num, by go_num, by omega, HP⟩
        case measure => simp [intOf]; omega
    · obtain rfl : j = zs.length := by omega
      have := hpos.out
      rw [List.take_length] at this
      exact absurd this HG.out

end Go.Proofs.Ytdhkfhgggkndoaa
