/-
  Package pack: numbers, and a text, put behind bytes.
-/
import Derived.Test.YtfjbpjojpjkfcaaPkB
import Derived.Test.YtfjbpjojpjkfcaaNums
namespace Go.Proofs.Ytfjbpjojpjkfcaa
open Go.RowKit
set_option linter.unusedVariables false

theorem brow_make (w : World) (n : Nat) (hn : n ≤ 100000000000000) :
    ∃ w', (Instr.makeSlice 22 (.int .i64 0) (.int .i64 (n : Int))).run Try.prog w = .ok (.slice (some ⟨w.heap.size, 0, none⟩) 0 n) w' ∧ BRow w' w.heap.size (some ⟨w.heap.size, 0, none⟩) n [] ∧ Below w.heap.size w w' ∧ w.heap.size ≤ w'.heap.size := by
  obtain ⟨i, hi, hz, hsize, hby⟩ := info_parts u8_info
  obtain ⟨w', h1, h2, h3⟩ := run_make_own (P := Try.prog) w w.heap.size 22 5 i _ 1 Try.underlying22 hi hz hsize .i64 .i64 n (by rw [hby]; omega) (by unfold maxLen; omega) (Nat.le_refl _)
  exact ⟨w', h1, h2, (Below.refl _ _).grown h3 (Nat.le_refl _) (fun k hk => by cases hk), h3.size⟩
/-- A copy with room. -/
theorem brow_room (w : World) (n : Nat) (hn : n ≤ 100000000000000) {B : Option Addr} {m d : Nat} {ys : List (BitVec 8)} (hs : Sl 1 w B m d (bytesV ys)) (hm : m ≤ 10000000000000) :
    ∃ w1 A' c' w', (Instr.makeSlice 22 (.int .i64 0) (.int .i64 (n : Int))).run Try.prog w = .ok (.slice (some ⟨w.heap.size, 0, none⟩) 0 n) w1 ∧
      (Builtin.append_ #[22, 22] 22 #[.slice (some ⟨w.heap.size, 0, none⟩) 0 n, .slice B m d]).run Try.prog w1 = .ok (.slice A' m c') w' ∧ BRow w' w.heap.size A' c' ys ∧ Below w.heap.size w w' ∧ w.heap.size ≤ w'.heap.size := by
  obtain ⟨w1, h1, h2, h3, h4⟩ := brow_make w n hn
  have hl := hs.blen
  subst hl
  obtain ⟨A', c', w', hr, hrow, hb, hg, _⟩ := brow_append h2 (hs.below h3) (by simp; omega) h4
  rw [List.nil_append] at hrow
  simp only [List.length_nil, Nat.zero_add] at hr
  exact ⟨w1, A', c', w', h1, hr, hrow, hb w (Nat.le_refl _) h3, by have := hg.size; omega⟩
theorem put_len_le (ns : List Nat) (h : ∀ n ∈ ns, n < 9223372036854775808) : (putB ns).length ≤ 9 * ns.length := by
  induction ns with
  | nil => simp [putB]
  | cons n r ih =>
    have h1 := ih (fun x hx => h x (by simp [hx]))
    have h2 := digs_eight (h n (by simp))
    have e : putB (n :: r) = oneB n ++ putB r := by simp [putB]
    rw [e, List.length_append, one_len, List.length_cons]
    omega
theorem put_snoc (ns : List Nat) (k : Nat) (h : k < ns.length) : putB (ns.take (k + 1)) = putB (ns.take k) ++ oneB (ns.getD k 0) := by
  rw [List.take_succ_eq_append_getElem h, putB, List.map_append, List.flatten_append]
  simp [putB, List.getD, h]
theorem size_at (n : Nat) (w : World) (h : n < 9223372036854775808) :
    Calls Try.prog 17 #[.int .i64 n] w fun e w' => e = .returned (.int .i64 ((oneB n).length : Nat)) ∧ w = w' := by
  rw [one_len]
  exact size_nat n w h

set_option maxHeartbeats 400000 in
theorem text_any (A : Option Addr) (m c : Nat) (xs : List (BitVec 8)) (B : Option Addr) (k d : Nat) (ts : List (BitVec 8)) (w : World) (hx : Sl 1 w A m c (bytesV xs)) (ht : Sl 1 w B k d (bytesV ts)) (hm : m ≤ 1000000000000) (hk : k ≤ 1000000000000) :
    Calls Try.prog 20 #[.slice A m c, .slice B k d] w fun e w' => ∃ A' c', e = .returned (.slice A' (m + (textB ts).length) c') ∧ BRow w' w.heap.size A' c' (xs ++ textB ts) ∧ Below w.heap.size w w' := by
  have hxl := hx.blen
  have htl := ht.blen
  have h8 := digs_eight (show k < 9223372036854775808 by omega)
  have ho := @one_len k
  have HSZ := Lib.hid (size_at k · (by omega))
  have ho9 : (oneB k).length ≤ 9 := by omega
  clear ho h8
  generalize ho' : (oneB k).length = o at *
  have HX := Lib.hid hx
  have HT := Lib.hid ht
  have HO := Lib.hid ho'
  have HM := Lib.hid hxl
  have HK := Lib.hid htl
  clear hx ht ho' hxl htl
  go_enter Try.func20, Try.ntmps20
  go_wp2_with fail
  refine (HSZ.out _).mono ?_
  rintro e w0 ⟨rfl, rfl⟩
  obtain ⟨q, hq⟩ : ∃ q : Nat, (m : Int) + (o : Int) + (k : Int) = (q : Int) := ⟨m + o + k, by simp⟩
  obtain ⟨w1, A2, c2, w2, hr1, hr2, hrow2, hb2, hz2⟩ := brow_room w q (by omega) HX.out (by omega)
  have HR1 := Lib.hid hr1
  have HR2 := Lib.hid hr2
  have HW := Lib.hid hrow2
  clear hr1 hr2 hrow2
  go_wp2_with (first | (at_make; refine wpList_make_run HR1.out rfl rfl rfl rfl ?_) | (at_builtin; refine wpList_append_run (o := ⟨some 18, _, _, _, _, _⟩) HR2.out rfl rfl rfl rfl ?_))
  clear HR1 HR2
  refine (behind_any A2 m c2 xs k w.heap.size _ HW.out HM.out (by omega) (by omega) hz2).mono ?_
  rintro e w3 ⟨A3, c3, rfl, hrow3, hbel3, hz3⟩
  have hb3 := hbel3 w (Nat.le_refl _) hb2
  rw [HO.out]
  obtain ⟨A4, c4, w4, hr4, hrow4, hbel4, _⟩ := brow_append hrow3 (HK.out ▸ HT.out.below hb3) (by rw [List.length_append, HM.out, HO.out, HK.out]; omega) hb3.size
  rw [List.length_append, HM.out, HO.out, HK.out] at hr4
  have HR4 := Lib.hid hr4
  clear hr4
  go_wp2_with (at_builtin; refine wpList_append_run (o := ⟨some 23, _, _, _, _, _⟩) HR4.out rfl rfl rfl rfl ?_)
  go_ret
  refine ⟨A4, c4, ?_, ?_, hbel4 w (Nat.le_refl _) hb3⟩
  · rw [textB, List.length_append, HK.out, HO.out, Nat.add_assoc]
    rfl
  · rw [textB, HK.out, ← List.append_assoc]
    exact hrow4
end Go.Proofs.Ytfjbpjojpjkfcaa
