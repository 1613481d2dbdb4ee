/-
  The document's own answers of layer 5 (lumperref05): bytes of numbers.
-/
import Derived.Test.YtfjbpjojpjkfcaaPkF
namespace Go.Proofs.Ytfjbpjojpjkfcaa
open Go.RowKit
set_option linter.unusedVariables false

theorem rdigits_any (n : Nat) : ∀ (w : World), n < 9223372036854775808 →
    Calls Try.prog 39 #[.int .i64 n] w fun e w' => ∃ A c, e = .returned (.slice A (digs n).length c) ∧ BRow w' w.heap.size A c (bytN (digs n)) ∧ Below w.heap.size w w' := by
  induction n using Nat.strongRecOn with
  | _ n ih =>
    intro w hn
    rcases Nat.eq_zero_or_pos n with rfl | h0
    · rw [digs_zero]
      go_enter Try.func39, Try.ntmps39
      go_wp2
      go_ret
      exact ⟨none, 0, rfl, BRow.nil _ _, Below.refl _ _⟩
    · have hk := digs_step h0
      have h8 := digs_eight hn
      have hsn : bytN (digs n) = bytN (digs (n / 256)) ++ [BitVec.ofNat 8 (n % 256)] := by rw [digs_pos h0]; simp [bytN]
      have HI := Lib.hid (ih (n / 256) (by omega) · (by omega))
      rw [show ((n / 256 : Nat) : Int) = (n : Int) / 256 by omega] at HI
      have hl : (bytN (digs (n / 256))).length = (digs (n / 256)).length := bytN_len _
      rw [hk, hsn]
      have e8 : ((BitVec.ofNat 8 (n % 256)).toNat : Int) = (n : Int) % 256 := by rw [BitVec.toNat_ofNat]; omega
      generalize hD : (digs (n / 256)).length = d at *
      generalize bytN (digs (n / 256)) = D at *
      have hn0 : ((n : Int) == 0) = false := by simp; omega
      have hd9 : d ≤ 9 := by omega
      clear hD hk hsn h8 ih
      go_enter Try.func39, Try.ntmps39
      go_wp2_with fail
      refine (HI.out w).mono ?_
      rintro e w1 ⟨A1, c1, rfl, r1, b1⟩
      obtain ⟨A2, c2, w2, hr2, r2, hbel2, hz2⟩ := brow_push r1 (BitVec.ofNat 8 (n % 256)) (by omega) b1.size (s := w1.heap.size) rfl
      rw [v8, e8, hl] at hr2
      have HR2 := Lib.hid hr2
      clear hr2
      go_wp2_with (at_builtin; refine wpList_append_run HR2.out rfl rfl rfl rfl ?_)
      go_ret
      exact ⟨A2, c2, rfl, r2, hbel2 w (Nat.le_refl _) b1⟩
theorem rone_any (n : Nat) (o : Nat) (w : World) (hn : n < 9223372036854775808) (ho : (oneB n).length = o) :
    Calls Try.prog 36 #[.int .i64 n] w fun e w' => ∃ A c, e = .returned (.slice A o c) ∧ BRow w' w.heap.size A c (oneB n) ∧ Below w.heap.size w w' := by
  have h8 := digs_eight hn
  have HI := Lib.hid (rdigits_any n w hn)
  have hl : (bytN (digs n)).length = (digs n).length := bytN_len _
  have hone : oneB n = [BitVec.ofNat 8 (digs n).length] ++ bytN (digs n) := rfl
  rw [one_len] at ho
  rw [hone]
  generalize (digs n).length = d at *
  generalize bytN (digs n) = D at *
  have e8 : ((BitVec.ofNat 8 d).toNat : Int) = (d : Int) := by rw [BitVec.toNat_ofNat]; omega
  subst ho
  clear hone
  go_enter Try.func36, Try.ntmps36
  go_wp2_with fail
  refine HI.out.mono ?_
  rintro e w1 ⟨A1, c1, rfl, r1, b1⟩
  have r2 : BRow (w1.alloc (.cells #[v8 (BitVec.ofNat 8 d)] 5)) w1.heap.size (some ⟨w1.heap.size, 0, none⟩) 1 [BitVec.ofNat 8 d] := own_new w1 5 1 1 #[v8 (BitVec.ofNat 8 d)] rfl (by decide)
  obtain ⟨A3, c3, w3, hr3, r3, hbel3, _⟩ := brow_append r2 (r1.sl.alloc _) (by rw [hl]; simp; omega) (by simp)
  rw [hl] at hr3
  simp only [List.length_cons, List.length_nil, Nat.zero_add] at hr3
  rw [v8, e8, Nat.add_comm 1 d] at hr3
  have HR3 := Lib.hid hr3
  have b3 := hbel3 w1 (Nat.le_refl _) (bel_alloc (Below.refl _ _) _)
  clear hr3
  go_wp2_with (at_builtin; refine wpList_append_run HR3.out rfl rfl rfl rfl ?_)
  go_ret
  exact ⟨A3, c3, rfl, r3.mono b1.size, bel_on b1 b3⟩
/-- A copy: what '[]byte{}' and an append make. -/
theorem brow_copy (w : World) {B : Option Addr} {m d : Nat} {ys : List (BitVec 8)} (hs : Sl 1 w B m d (bytesV ys)) (hm : m ≤ 10000000000000) :
    ∃ A' c' w', (Builtin.append_ #[22, 22] 22 #[.slice (some ⟨w.heap.size, 0, none⟩) 0 0, .slice B m d]).run Try.prog (w.alloc (.cells #[] 5)) = .ok (.slice A' m c') w' ∧ BRow w' w.heap.size A' c' ys ∧ Below w.heap.size w w' ∧ w.heap.size ≤ w'.heap.size := by
  have ho : BRow (w.alloc (.cells #[] 5)) w.heap.size (some ⟨w.heap.size, 0, none⟩) 0 [] := own_new w 5 1 0 #[] rfl (by decide)
  have hl := hs.blen
  subst hl
  obtain ⟨A', c', w', hr, hrow, hb, hg, _⟩ := brow_append ho (hs.alloc _) (by simp; omega) (by simp)
  rw [List.nil_append] at hrow
  simp only [List.length_nil, Nat.zero_add] at hr
  exact ⟨A', c', w', hr, hrow, hb w (Nat.le_refl _) (bel_alloc (Below.refl _ _) _), by have := hg.size; simp at this; omega⟩
set_option maxHeartbeats 400000 in
theorem rtext_any (A : Option Addr) (m c : Nat) (xs : List (BitVec 8)) (B : Option Addr) (k d : Nat) (ts : List (BitVec 8)) (w : World) (hx : Sl 1 w A m c (bytesV xs)) (ht : Sl 1 w B k d (bytesV ts)) (hm : m ≤ 1000000000000) (hk : k ≤ 1000000000000) :
    Calls Try.prog 29 #[.slice A m c, .slice B k d] w fun e w' => ∃ A' c', e = .returned (.slice A' (m + (textB ts).length) c') ∧ BRow w' w.heap.size A' c' (xs ++ textB ts) ∧ Below w.heap.size w w' := by
  have hxl := hx.blen
  have htl := ht.blen
  have h8 := digs_eight (show k < 9223372036854775808 by omega)
  have ho := @one_len k
  have ho9 : (oneB k).length ≤ 9 := by omega
  have HI := Lib.hid (rone_any k _ · (by omega) rfl)
  clear ho h8
  obtain ⟨A1, c1, w1, hr1, r1, b1, hz1⟩ := brow_copy w hx (by omega)
  generalize ho' : (oneB k).length = o at *
  have HR1 := Lib.hid hr1
  have HT := Lib.hid ht
  have HO := Lib.hid ho'
  have HM := Lib.hid hxl
  have HK := Lib.hid htl
  clear hx ht ho' hxl htl hr1
  go_enter Try.func29, Try.ntmps29
  go_wp2_with (at_builtin; refine wpList_append_run (o := ⟨some 7, _, _, _, _, _⟩) HR1.out rfl rfl rfl rfl ?_)
  refine (HI.out _).mono ?_
  rintro e w2 ⟨A2, c2, rfl, r2, b2⟩
  obtain ⟨A3, c3, w3, hr3, r3, hbel3, hg3, _⟩ := brow_append (r1.below b2) (r2.slAt rfl) (by rw [HM.out, HO.out]; omega) (Nat.le_trans hz1 b2.size)
  rw [HM.out, HO.out] at hr3
  have b3 := hbel3 w (Nat.le_refl _) (bel_on b1 b2)
  have hl3 : (xs ++ oneB k).length = m + o := by rw [List.length_append, HM.out, HO.out]
  obtain ⟨A4, c4, w4, hr4, r4, hbel4, _⟩ := brow_append r3 (HK.out ▸ HT.out.below b3) (by rw [hl3, HK.out]; omega) b3.size
  rw [hl3, HK.out] at hr4
  have HR3 := Lib.hid hr3
  have HR4 := Lib.hid hr4
  clear hr3 hr4
  go_wp2_with (first | (at_builtin; refine wpList_append_run (o := ⟨some 11, _, _, _, _, _⟩) HR3.out rfl rfl rfl rfl ?_) | (at_builtin; refine wpList_append_run (o := ⟨some 13, _, _, _, _, _⟩) HR4.out rfl rfl rfl rfl ?_))
  go_ret
  refine ⟨A4, c4, ?_, ?_, hbel4 w (Nat.le_refl _) b3⟩
  · rw [textB, List.length_append, HK.out, HO.out, Nat.add_assoc]
    rfl
  · rw [textB, HK.out, ← List.append_assoc]
    exact r4
end Go.Proofs.Ytfjbpjojpjkfcaa
