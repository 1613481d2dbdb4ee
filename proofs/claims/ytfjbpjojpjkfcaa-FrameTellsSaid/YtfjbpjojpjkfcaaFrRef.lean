/-
  The document's own answers of layer 6: a payload's frame, and it put behind bytes.
-/
import Derived.Test.YtfjbpjojpjkfcaaFramePlain
import Derived.Test.YtfjbpjojpjkfcaaPkRefB
import Derived.Test.YtfjbpjojpjkfcaaCrcRef
namespace Go.Proofs.Ytfjbpjojpjkfcaa
open Go.RowKit
set_option linter.unusedVariables false
set_option linter.unusedSimpArgs false

theorem flen_le (ts : List (BitVec 8)) (h : ts.length ≤ 1000000000000) : (frameB ts).length ≤ 1000000000013 := by
  have := digs_eight (n := ts.length) (by omega)
  rw [frame_len, one_len]; omega
set_option maxHeartbeats 400000 in
theorem rframe_any (B : Option Addr) (k d : Nat) (ts : List (BitVec 8)) (q : Nat) (w : World) (ht : Sl 1 w B k d (bytesV ts)) (hk : k ≤ 1000000000000) (hq : (frameB ts).length = q) :
    Calls Try.prog 22 #[.slice B k d] w fun e w' => ∃ A' c', e = .returned (.slice A' q c') ∧ BRow w' w.heap.size A' c' (frameB ts) ∧ Below w.heap.size w w' := by
  have htl := ht.blen
  have h8 := flen_le ts (by omega)
  have hz : (textB ts).length + 4 = q := by rw [← hq, frameB, List.length_append]; rfl
  have HT := Lib.hid ht
  have HZ := Lib.hid hz
  have HF : Hid (frameB ts = textB ts ++ bytesB (sumB (textB ts))) := rfl
  have hz2 : (textB ts).length ≤ 1000000000013 := by omega
  clear ht hz hq htl h8
  go_enter Try.func22, Try.ntmps22
  go_wp2_with fail
  refine (rtext_any none 0 0 [] B k d ts _ Sl.nil_ HT.out (by omega) hk).mono ?_
  rintro e w1 ⟨A1, c1, rfl, r1, b1⟩
  rw [List.nil_append] at r1
  rw [Nat.zero_add]
  generalize textB ts = T at *
  go_wp2_with fail
  refine (rcrcsum_any A1 T.length c1 T _ r1.byts rfl (by omega)).mono ?_
  rintro e w2 ⟨rfl, b2⟩
  go_wp2_with fail
  refine (rcrcbytes_any (sumB T) _).mono ?_
  rintro e w3 ⟨rfl, hH, b3⟩
  have b23 := bel_on b2 b3
  obtain ⟨A4, c4, w4, hr4, r4, hbel4, _⟩ := brow_append (r1.below b23) (d := 4) (ys := bytesB (sumB T)) (sl_of_has hH) (by show T.length + 4 ≤ _; omega) (Nat.le_trans b1.size b23.size)
  have hb4 := hbel4 w (Nat.le_refl _) (bel_on b1 b23)
  have HR4 : Hid ((Builtin.append_ #[22, 22] 22 #[.slice A1 T.length c1, .slice (some ⟨w2.heap.size, 0, none⟩) 4 4]).run Try.prog w3 = .ok (.slice A4 (T.length + 4) c4) w4) := hr4
  clear hr4 hbel4 hH
  go_wp2_with (at_builtin; refine wpList_append_run (o := ⟨some 10, _, _, _, _, _⟩) HR4.out rfl rfl rfl rfl ?_)
  go_ret
  rw [HZ.out, HF.out]
  exact ⟨A4, c4, rfl, r4, hb4⟩
set_option maxHeartbeats 400000 in
theorem rfput_any (A : Option Addr) (m c : Nat) (xs : List (BitVec 8)) (B : Option Addr) (k d : Nat) (ts : List (BitVec 8)) (w : World) (hx : Sl 1 w A m c (bytesV xs)) (ht : Sl 1 w B k d (bytesV ts)) (hm : m ≤ 1000000000000) (hk : k ≤ 100000) :
    Calls Try.prog 10 #[.slice A m c, .slice B k d] w fun e w' => ∃ A' c', e = .returned (.tuple #[.slice A' (m + (frameB ts).length) c', .int .i64 0]) ∧ BRow w' w.heap.size A' c' (xs ++ frameB ts) ∧ Below w.heap.size w w' := by
  have hxl := hx.blen
  have htl := ht.blen
  have h8 := flen_le ts (by omega)
  obtain ⟨A1, c1, w1, hr1, r1, b1, hz1⟩ := brow_copy w hx (by omega)
  have HR1 := Lib.hid hr1
  have HT := Lib.hid ht
  have HM := Lib.hid hxl
  have hd0 : ¬ (100000 : Int) < (k : Int) := by omega
  obtain ⟨q, hq⟩ : ∃ q, (frameB ts).length = q := ⟨_, rfl⟩
  rw [hq] at h8 ⊢
  have HQ := Lib.hid hq
  clear hx ht hxl htl hr1 hq
  go_enter Try.func10, Try.ntmps10
  go_wp2_with (at_builtin; refine wpList_append_run (o := ⟨some 11, _, _, _, _, _⟩) HR1.out rfl rfl rfl rfl ?_)
  refine (rframe_any B k d ts q _ (HT.out.below b1) (by omega) HQ.out).mono ?_
  rintro e w2 ⟨A2, c2, rfl, r2, b2⟩
  obtain ⟨A3, c3, w3, hr3, r3, hbel3, _⟩ := brow_append (r1.below b2) (r2.slAt rfl) (by rw [HM.out, HQ.out]; omega) (Nat.le_trans hz1 b2.size)
  rw [HM.out, HQ.out] at hr3
  have b3 := hbel3 w (Nat.le_refl _) (bel_on b1 b2)
  have HR3 := Lib.hid hr3
  clear hr3 hbel3
  go_wp2_with (at_builtin; refine wpList_append_run (o := ⟨some 14, _, _, _, _, _⟩) HR3.out rfl rfl rfl rfl ?_)
  go_ret2
  exact ⟨A3, c3, rfl, r3, b3⟩
end Go.Proofs.Ytfjbpjojpjkfcaa
