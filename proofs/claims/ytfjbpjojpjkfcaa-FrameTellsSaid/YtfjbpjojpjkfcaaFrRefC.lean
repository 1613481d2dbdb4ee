/-
  The document's own answers of layer 6: all payloads.
-/
import Derived.Test.YtfjbpjojpjkfcaaFrRefB
import Derived.Test.YtfjbpjojpjkfcaaBss
namespace Go.Proofs.Ytfjbpjojpjkfcaa
open Go.RowKit
set_option linter.unusedVariables false
set_option linter.unusedSimpArgs false

/-- So many bytes are gone through. -/
def RAt (l : List (BitVec 8)) (k : Nat) (ps : List (List (BitVec 8))) : Prop := allF l = (ps ++ (allF (l.drop k)).1, k + (allF (l.drop k)).2)
theorem rat_zero (l : List (BitVec 8)) : RAt l 0 [] := by unfold RAt; simp
theorem rat_on {l x z : List (BitVec 8)} {k : Nat} {ps : List (List (BitVec 8))} (h : RAt l k ps) (ht : takeF (l.drop k) = some (x, z)) : RAt l (k + (frameB x).length) (ps ++ [x]) := by
  unfold RAt at *
  have e := (frame_own ht).1
  have hz : l.drop (k + (frameB x).length) = z := by
    rw [← List.drop_drop, e, List.drop_append_of_le_length (Nat.le_refl _), List.drop_of_length_le (Nat.le_refl _), List.nil_append]
  rw [h, all_some ht, hz]
  simp [Nat.add_assoc]
theorem rat_end {l : List (BitVec 8)} {k : Nat} {ps : List (List (BitVec 8))} (h : RAt l k ps) (ht : takeF (l.drop k) = none) : allF l = (ps, k) := by
  unfold RAt at h
  rw [h, all_none ht]
  simp

set_option maxHeartbeats 1000000 in
theorem rfall_any (A : Option Addr) (m c : Nat) (l : List (BitVec 8)) (w : World) (hx : Sl 1 w A m c (bytesV l)) (hmc : m ≤ c) (hml : m ≤ 100000000000) :
    Calls Try.prog 14 #[.slice A m c] w fun e w' => ∃ D d, e = .returned (.tuple #[.slice D (allF l).1.length d, .int .i64 ((allF l).2 : Nat)]) ∧ BssRow w' w.heap.size D d (allF l).1 ∧ Below w.heap.size w w' := by
  have hlen := hx.blen
  have HX := Lib.hid hx
  have HLEN := Lib.hid hlen
  clear hx hlen
  go_enter Try.func14, Try.ntmps14
  go_wp2
  go_loopw [4, 5] (fun o n wr => ∃ (k : Nat) (D : Option Addr) (d p : Nat) (ps : List (List (BitVec 8))), k ≤ m ∧ n = .int .i64 k ∧ o = .slice D p d ∧ ps.length = p ∧ p ≤ k ∧ BssRow wr w.heap.size D d ps ∧ Hid (RAt l k ps) ∧ Below w.heap.size w wr) (fun _ n _ => m - (intOf n).toNat)
  case atStart => exact ⟨0, none, 0, 0, [], by omega, rfl, rfl, rfl, by omega, BssRow.nil _ _, rat_zero l, Below.refl _ _⟩
  case round =>
    obtain ⟨k, D, d, p, ps, hk, rfl, rfl, hp, hpk, hrow, hat, hb⟩ := hrel
    obtain ⟨A2, hcut, hs⟩ := cut_from_all HX.out hmc k hk
    have HC := Lib.hid hcut
    have HS := Lib.hid hs
    clear hcut hs
    cases ht : takeF (l.drop k) with
    | none =>
      have HT := Lib.hid (rftake_none A2 (m - k) (c - k) (l.drop k) wr (HS.out wr (HX.out.below hb)) (by omega) (by omega) ht)
      have HE := Lib.hid (rat_end hat.out ht)
      clear ht hat
      go_wp2_with (first | refine wpList_slice_run (o := ⟨some 12, _, _, _, _, _⟩) HC.out rfl rfl rfl rfl rfl rfl ?_ | fail)
      refine HT.out.mono ?_
      rintro e w1 ⟨rfl, b1⟩
      go_wp2
      go_ret2
      rw [HE.out]
      subst hp
      exact ⟨D, d, rfl, hrow.below b1, bel_on hb b1⟩
    | some y =>
      obtain ⟨x, z⟩ := y
      have hl2 := take_less ht
      have hfp := frame_pos x
      have hxk := (frame_own ht).2
      have hlk : (l.drop k).length = m - k := by rw [List.length_drop, HLEN.out]
      have HT := Lib.hid (rftake_some A2 (m - k) (c - k) (l.drop k) x z wr (HS.out wr (HX.out.below hb)) (by omega) (by omega) ht)
      have HE := Lib.hid (rat_on hat.out ht)
      obtain ⟨q, hq⟩ : ∃ q, (frameB x).length = q := ⟨_, rfl⟩
      rw [hq] at hl2 hfp HE
      have HQ := Lib.hid hq
      have hq2 : k + q ≤ m := by omega
      clear ht hat hq hlk hl2
      generalize hxl : x.length = xl at *
      have HXL := Lib.hid hxl
      generalize z.length = zl at *
      clear hxl
      go_wp2_with (first | refine wpList_slice_run (o := ⟨some 12, _, _, _, _, _⟩) HC.out rfl rfl rfl rfl rfl rfl ?_ | fail)
      refine HT.out.mono ?_
      rintro e w1 ⟨A3, c3, A4, c4, rfl, s1, _, hc3, _, b1⟩
      have hb1 := bel_on hb b1
      have hv : PVal w (.slice A3 xl c3) x := ⟨A3, c3, by rw [HXL.out], by rw [HXL.out]; exact s1 w (HS.out w HX.out), by rw [HXL.out]; exact hc3⟩
      have hoff := off_below (hrow.below b1) (Nat.le_refl _) hv
      obtain ⟨D2, d2, w2, hr2, hrow2, hbel2, hsz2⟩ := bss_push (hrow.below b1) (hv.below hb1) hoff (by omega) hb1.size (s := w1.heap.size) rfl
      rw [hp] at hr2
      have HR2 := Lib.hid hr2
      have hb2 := hbel2 w (Nat.le_refl _) hb1
      have HS1 := Lib.hid (s1 w2 (HS.out w2 (HX.out.below hb2)))
      clear hr2 hbel2 s1 hrow hoff hv
      go_wp2_with (first | (at_builtin; refine wpList_append_run (o := ⟨some 24, _, _, _, _, _⟩) HR2.out rfl rfl rfl rfl ?_) | fail)
      refine (rframe_any A3 xl c3 x q _ HS1.out (by omega) HQ.out).mono ?_
      rintro e w3 ⟨A5, c5, rfl, r5, b3⟩
      go_wp2
      go_roundw
      case rel => exact ⟨k + q, D2, d2, p + 1, ps ++ [x], by omega, by go_num, rfl, by simp [hp], by omega, hrow2.below b3, HE, bel_on hb2 b3⟩
      case measure => simp [intOf]; omega
end Go.Proofs.Ytfjbpjojpjkfcaa
