/-
  Room for bytes, bytes joined, and a payload's frame put behind.
-/
import Derived.Test.YtfjbpjojpjkfcaaProg
import Derived.Test.YtfjbpjojpjkfcaaBss
import Derived.Test.YtfjbpjojpjkfcaaCrcStr
import Derived.Test.YtfjbpjojpjkfcaaPkC
import Derived.Test.YtfjbpjojpjkfcaaFramePlain
import Derived.Lib.AppendZeros
namespace Go.Proofs.Ytfjbpjojpjkfcaa
open Go.RowKit
set_option linter.unusedVariables false

theorem grow_none (w : World) : Calls Try.prog 28 #[.slice none 0 0, .int .i64 0] w fun e w' => e = .returned (.slice none 0 0) ∧ w = w' := by
  go_enter Try.func28, Try.ntmps28
  go_wp2
  go_ret
  exact ⟨rfl, rfl⟩
theorem grow_some (n : Nat) (w : World) (h0 : 0 < n) (hn : n ≤ 100000000000000) :
    Calls Try.prog 28 #[.slice none 0 0, .int .i64 n] w fun e w' => ∃ A' c', e = .returned (.slice A' 0 c') ∧ BRow w' w.heap.size A' c' [] ∧ Below w.heap.size w w' := by
  obtain ⟨i, hi, hz, hsize, hby⟩ := info_parts u8_info
  have happ := Lib.run_append_nil_zeros (P := Try.prog) w 22 3 22 5 i (.int .u8 0) .i64 .i64 Try.underlying22 Try.underlying3 hi hz n h0 (by omega) (by omega) (by rw [hby]; omega)
  generalize hcap : grownCap w n 0 5 = cap2 at happ
  have hcapge : n ≤ cap2 := by rw [← hcap]; exact grownCap_ge w _ 0 5
  have hcaple : cap2 ≤ maxLen := by rw [← hcap]; exact grownCap_le_maxLen w _ 0 5 (by unfold maxLen; omega)
  generalize hZ : (Builtin.zeroCells (Value.int .u8 0).cells n ++ Builtin.zeroCells (Value.int .u8 0).cells (cap2 - n)) = Z at happ
  have hZs : Z.size = cap2 := by rw [← hZ]; simp [size_zeroCells, Value.cells]; omega
  clear hcap hZ
  have hrow : BRow (w.drew.alloc (.cells Z 5)) w.heap.size (some ⟨w.heap.size, 0, none⟩) cap2 [] :=
    ⟨rfl, .inr ⟨_, cap2, Z, rfl, Nat.le_refl _, heap_alloc_new w.drew _, by simp, hcaple, by omega, by simp [bytesV]⟩⟩
  have hb : Below w.heap.size w (w.drew.alloc (.cells Z 5)) := bel_alloc (below_drew (Below.refl _ _)) _
  have HR := Lib.hid hrow
  have HA := Lib.hid happ
  have hm : cap2 ≤ 9223372036854775807 := by unfold maxLen at hcaple; omega
  clear happ hrow
  have h0' : (0 : Int) < (n : Int) := by omega
  go_enter Try.func28, Try.ntmps28
  go_wp2_with (at_builtin; refine Lib.wpList_append_run _ rfl _ _ _ _ rfl _ _ rfl rfl _ _ HA.out ?_)
  go_ret
  exact ⟨_, cap2, rfl, HR.out, hb⟩
theorem grow_any (n : Nat) (w : World) (hn : n ≤ 100000000000000) :
    Calls Try.prog 28 #[.slice none 0 0, .int .i64 n] w fun e w' => ∃ A' c', e = .returned (.slice A' 0 c') ∧ BRow w' w.heap.size A' c' [] ∧ Below w.heap.size w w' := by
  rcases Nat.eq_zero_or_pos n with rfl | h0
  · refine (grow_none w).mono ?_
    rintro e w' ⟨rfl, rfl⟩
    exact ⟨none, 0, rfl, BRow.nil _ _, Below.refl _ _⟩
  · exact grow_some n w h0 hn

theorem flat_snoc (ps : List (List (BitVec 8))) (k : Nat) (h : k < ps.length) : (ps.take (k + 1)).flatten = (ps.take k).flatten ++ ps.getD k [] := by
  rw [List.take_succ_eq_append_getElem h, List.flatten_append]
  simp [List.getD, h]
theorem flat_le (ps : List (List (BitVec 8))) (k : Nat) : (ps.take k).flatten.length ≤ ps.flatten.length := by
  conv => rhs; rw [← List.take_append_drop k ps, List.flatten_append, List.length_append]
  omega

set_option maxHeartbeats 400000 in
/-- 'slices.Concat'. -/
theorem concat_any (A : Option Addr) (m cap : Nat) (ps : List (List (BitVec 8))) (q : Nat) (w : World) (hp : Bss w A m cap ps) (hm : m ≤ 1000000000000) (hq : ps.flatten.length = q) (hql : q ≤ 10000000000000) :
    Calls Try.prog 21 #[.slice A m cap] w fun e w' => ∃ A' c', e = .returned (.slice A' q c') ∧ BRow w' w.heap.size A' c' ps.flatten ∧ Below w.heap.size w w' := by
  have hl := hp.len
  subst hl
  have HP := Lib.hid hp
  have HQ := Lib.hid hq
  have HF : Hid (∀ k, k < ps.length → ((ps.take (k + 1)).flatten = (ps.take k).flatten ++ ps.getD k [] ∧ (ps.take (k + 1)).flatten.length ≤ q)) := Lib.hid (fun k hk => ⟨flat_snoc ps k hk, by have := flat_le ps (k + 1); omega⟩)
  clear hp hq
  go_enter Try.func21, Try.ntmps21
  go_wp2
  go_loop [3, 11] (fun s i => ∃ k r : Nat, k ≤ ps.length ∧ i = .int .i64 k ∧ s = .int .i64 r ∧ r ≤ q ∧ Hid (r = (ps.take k).flatten.length)) (fun _ i => ps.length - (intOf i).toNat)
  case atStart => exact ⟨0, 0, by omega, rfl, rfl, by omega, rfl⟩
  case round =>
    obtain ⟨k, r, hk, rfl, rfl, hr, hre⟩ := hrel
    by_cases hlt : k < ps.length
    · obtain ⟨b, off, B, d, rfl, hc, hs, hd⟩ := HP.out.at hlt
      obtain ⟨hf1, hf2⟩ := HF.out k hlt
      have hr2 : r + (ps.getD k []).length = (ps.take (k + 1)).flatten.length := by rw [hf1, List.length_append, hre.out]
      have hr3 : r + (ps.getD k []).length ≤ q := by omega
      have HR2 := Lib.hid hr2
      clear hf1 hf2 hr2 hs
      generalize (ps.getD k []).length = z at *
      go_wp2
      go_round
      case rel => exact ⟨k + 1, r + z, by omega, by go_num, by go_num, hr3, HR2⟩
      case measure => simp [intOf]; omega
    · obtain rfl : k = ps.length := by omega
      have hre' := hre.out
      rw [List.take_length, HQ.out] at hre'
      subst hre'
      go_wp2_with fail
      refine (grow_any r _ (by omega)).mono ?_
      rintro e w1 ⟨A1, c1, rfl, hrow1, hb1⟩
      have HW := Lib.hid hrow1
      clear hrow1 hre
      go_wp2
      go_loopw [6, 27] (fun b i wr => ∃ (k : Nat) (A : Option Addr) (c L : Nat) (D : List (BitVec 8)), k ≤ ps.length ∧ i = .int .i64 k ∧ b = .slice A L c ∧ D.length = L ∧ L ≤ r ∧ Hid (D = (ps.take k).flatten) ∧ BRow wr w.heap.size A c D ∧ Below w.heap.size w wr) (fun _ i _ => ps.length - (intOf i).toNat)
      case atStart => exact ⟨0, A1, c1, 0, [], by omega, rfl, rfl, rfl, by omega, rfl, HW.out, hb1⟩
      case round =>
        clear HW hb1
        obtain ⟨k, A2, c2, L, D, hk, rfl, rfl, hDl, hL, hD, hrow, hb⟩ := hrel
        by_cases hlt : k < ps.length
        · obtain ⟨b, off, B, d, rfl, hc, hs, hd⟩ := (HP.out.below hb).at hlt
          obtain ⟨hf1, hf2⟩ := HF.out k hlt
          have hD' : D ++ ps.getD k [] = (ps.take (k + 1)).flatten := by rw [hf1, hD.out]
          have hL' : (D ++ ps.getD k []).length = L + (ps.getD k []).length := by rw [List.length_append, hDl]
          have hL2 : L + (ps.getD k []).length ≤ r := by rw [← hL', hD']; exact hf2
          have HD := Lib.hid hD'
          have HL := Lib.hid hL'
          clear hf1 hf2 hD' hL'
          generalize ps.getD k [] = z at *
          obtain ⟨A3, c3, w3, hr3, hrow3, hbel3, _⟩ := brow_append hrow (d := d) (ys := z) hs (by omega) hb.size
          rw [hDl] at hr3
          have HR3 := Lib.hid hr3
          have hb3 := hbel3 w (Nat.le_refl _) hb
          clear hr3 hbel3 hs
          go_wp2_with (at_builtin; refine wpList_append_run (o := ⟨some 33, _, _, _, _, _⟩) HR3.out rfl rfl rfl rfl ?_)
          go_roundw
          case rel => exact ⟨k + 1, A3, c3, L + z.length, D ++ z, by omega, by go_num, rfl, HL.out, hL2, HD, hrow3, hb3⟩
          case measure => simp [intOf]; omega
        · obtain rfl : k = ps.length := by omega
          have hDe := hD.out
          rw [List.take_length] at hDe
          subst hDe
          obtain rfl : L = r := by rw [← hDl]; exact HQ.out
          go_wp2
          go_ret
          exact ⟨A2, c2, rfl, hrow, hb⟩
/-- A new slice of three slices of bytes. -/
theorem bss_three {w : World} {B C D : Option Addr} {n c m d o e : Nat} {l r q : List (BitVec 8)} (t : TypeId) {s : Nat} (h : Sl 1 w B n c (bytesV l)) (hc : n ≤ c) (h' : Sl 1 w C m d (bytesV r)) (hd : m ≤ d) (h'' : Sl 1 w D o e (bytesV q)) (he : o ≤ e) (hs : w.heap.size = s) :
    Bss (w.alloc (.cells #[.slice B n c, .slice C m d, .slice D o e] t)) (some ⟨s, 0, none⟩) 3 3 [l, r, q] := by
  have hl := h.blen
  have hr := h'.blen
  have hq := h''.blen
  subst hl hr hq hs
  refine ⟨[.slice B l.length c, .slice C r.length d, .slice D q.length e], ⟨rfl, .inr ⟨_, rfl, fun j u hu => ?_⟩⟩, rfl, fun k hk => ?_⟩
  · rw [by_add_none, Nat.zero_add, cell_of_row _ _ _ _ t (0, 0) (heap_alloc_new w _)]
    simpa using hu
  · rcases k with _ | _ | _ | k
    · exact ⟨B, c, rfl, h.alloc _, hc⟩
    · exact ⟨C, d, rfl, h'.alloc _, hd⟩
    · exact ⟨D, e, rfl, h''.alloc _, he⟩
    · simp at hk; omega

set_option maxHeartbeats 400000 in
theorem fput_ok (A : Option Addr) (m c : Nat) (xs : List (BitVec 8)) (B : Option Addr) (k d : Nat) (ts : List (BitVec 8)) (w : World) (hx : Sl 1 w A m c (bytesV xs)) (hmc : m ≤ c) (ht : Sl 1 w B k d (bytesV ts)) (hm : m ≤ 1000000000000) (hk : k ≤ 100000) :
    Calls Try.prog 9 #[.slice A m c, .slice B k d] w fun e w' => ∃ A' c', e = .returned (.tuple #[.slice A' (m + (frameB ts).length) c', .int .i64 0]) ∧ BRow w' w.heap.size A' c' (xs ++ frameB ts) ∧ Below w.heap.size w w' := by
  have hxl := hx.blen
  have htl := ht.blen
  have hz : (textB ts).length ≤ 100009 := by
    have := digs_eight (n := k) (by omega)
    rw [text_len, one_len, htl]; omega
  have hfl : (frameB ts).length = (textB ts).length + 4 := by rw [frameB, List.length_append]; rfl
  have HFB : Hid (frameB ts = textB ts ++ bytesB (sumB (textB ts))) := rfl
  have HX := Lib.hid hx
  have HT := Lib.hid ht
  have HXL := Lib.hid hxl
  have HFL := Lib.hid hfl
  have hd0 : decide ((100000 : Int) < (k : Int)) = false := by simp; omega
  clear hx ht hxl htl hfl
  go_enter Try.func9, Try.ntmps9
  go_wp2_with fail
  refine (text_any none 0 0 [] B k d ts _ Sl.nil_ HT.out (by omega) (by omega)).mono ?_
  rintro e w1 ⟨A1, c1, rfl, hrow1, hb1⟩
  rw [List.nil_append] at hrow1
  rw [Nat.zero_add]
  generalize hT : textB ts = T at *
  have hcap := hrow1.cap_le rfl
  go_wp2_with fail
  refine (crcsum_at _ 1 _ [T] (sumB T) _ (parts_one 22 hrow1.byts rfl (by omega) rfl) (congrArg sumB (flat_one T)) rfl (by omega)).mono ?_
  rintro e w2 ⟨rfl, hb2⟩
  replace hb2 := bel_on (bel_alloc (Below.refl _ w1) _) hb2
  go_wp2_with fail
  refine (crcbytes_any (sumB T) _).mono ?_
  rintro e w3 ⟨rfl, hb3⟩
  replace hb3 := bel_on hb2 hb3
  clear hb2
  go_wp2_with (first | refine wpList_laid4 (sumB T) _ _ rfl rfl rfl rfl rfl ?_ | fail)
  have HH := laid4_has w3 (sumB T)
  have hb4 := laid4_below (sumB T) hb3
  have hs4 := laid4_size w3 (sumB T)
  clear hb3
  generalize laid4 w3 (sumB T) = W at *
  generalize w3.heap.size = g at *
  have hS : Sl 1 W (some ⟨g, 0, none⟩) 4 4 (bytesV (bytesB (sumB T))) := sl_of_has HH
  have hbW := bel_on hb1 hb4
  have HPS := Lib.hid (bss_three 22 (HX.out.below hbW) hmc ((hrow1.below hb4).sl) hcap hS (Nat.le_refl 4) rfl)
  have HQ : Hid (List.flatten [xs, T, bytesB (sumB T)] = xs ++ frameB ts) := by
    show _ = _
    rw [HFB.out]; simp
  have HQL : Hid ((List.flatten [xs, T, bytesB (sumB T)]).length = m + (T.length + 4)) := by
    show _ = _
    rw [HQ.out, List.length_append, HXL.out, HFL.out]
  clear hS HH hrow1 hcap
  go_wp2_with (first | (go_at_call 21; refine (concat_any _ 3 3 _ (m + (T.length + 4)) _ HPS.out (by omega) HQL.out (by omega)).mono ?_; rintro e w5 ⟨A5, c5, rfl, hrow5, hb5⟩) | fail)
  rw [HQ.out] at hrow5
  go_ret2
  rw [HFL.out]
  exact ⟨A5, c5, rfl, hrow5.mono (by have := hbW.size; simp; omega), bel_on (bel_alloc hbW _) hb5⟩
end Go.Proofs.Ytfjbpjojpjkfcaa
