/-
  The walk of the law FrameBack: it answers true, and leaves what was there as it was.
-/
import Derived.Test.YtfjbpjojpjkfcaaFrameCuts
namespace Go.Proofs.Ytfjbpjojpjkfcaa
open Go.RowKit
set_option linter.unusedVariables false

theorem offs_of {a w : World} {base c : Nat} {A : Option Addr} {ps : List (List (BitVec 8))} (h : BssRow w base A c ps) (ha : a.heap.size ≤ base) {us : List Value} {qs : List (List (BitVec 8))} (hv : PVals a us qs) : ∀ u ∈ us, Off u A := by
  intro u hu
  obtain ⟨k, hk, rfl⟩ := List.getElem_of_mem hu
  have := hv.2 k (by rw [← hv.1]; exact hk)
  rw [List.getD_eq_getElem?_getD, List.getElem?_eq_getElem hk, Option.getD_some] at this
  exact off_below h ha this
/-- 'append(append([][]byte{}, l...), more...)'. -/
theorem bss_join (W : World) {B B2 : Option Addr} {n d n2 d2 : Nat} {qs qs2 : List (List (BitVec 8))} (h1 : Bss W B n d qs) (h2 : Bss W B2 n2 d2 qs2) (hn : n + n2 ≤ 100000000000) :
    ∃ A1 c1 w1 A2 c2 w2, (Builtin.append_ #[29, 29] 29 #[.slice (some ⟨W.heap.size, 0, none⟩) 0 0, .slice B n d]).run Try.prog (W.alloc (.cells #[] 22)) = .ok (.slice A1 n c1) w1 ∧
      (Builtin.append_ #[29, 29] 29 #[.slice A1 n c1, .slice B2 n2 d2]).run Try.prog w1 = .ok (.slice A2 (n + n2) c2) w2 ∧ Bss w2 A2 (n + n2) c2 (qs ++ qs2) ∧ Below W.heap.size W w2 := by
  have l1 := h1.len
  have l2 := h2.len
  subst l1 l2
  obtain ⟨us, s1, v1⟩ := h1
  obtain ⟨us2, s2, v2⟩ := h2
  have hR := BssRow.laid W
  have hb0 : Below W.heap.size W (W.alloc (.cells #[] 22)) := bel_alloc (Below.refl _ _) _
  obtain ⟨A1, c1, w1, hr1, hR1, hbel1, hg1⟩ := bss_append hR (s1.below hb0) (v1.below hb0) (offs_of hR (Nat.le_refl _) v1) (by simp; omega) (by simp)
  have hb1 := hbel1 W (Nat.le_refl _) hb0
  rw [List.nil_append] at hR1
  simp only [List.length_nil, Nat.zero_add] at hr1
  obtain ⟨A2, c2, w2, hr2, hR2, hbel2, hg2⟩ := bss_append hR1 (s2.below hb1) (v2.below hb1) (offs_of hR1 (Nat.le_refl _) v2) (by omega) hb1.size
  exact ⟨A1, c1, w1, A2, c2, w2, hr1, hr2, hR2.bssAt (by rw [List.length_append]), hbel2 W (Nat.le_refl _) hb1⟩

theorem frameBack_not (A : Option Addr) (m c : Nat) (ps : List (List (BitVec 8))) (B : Option Addr) (n d : Nat) (w : World) (hp : Bss w A m c ps) (hm : m ≤ 9223372036854775807) (hf : fewB ps = false) :
    Calls Try.prog 4 #[.slice A m c, .slice B n d] w fun e w' => e = .returned (.bool true) ∧ Below w.heap.size w w' := by
  have HP := Lib.hid hp
  clear hp
  go_enter Try.func4, Try.ntmps4
  go_wp2_with fail
  refine (awake6 _).mono ?_
  rintro e w1 ⟨rfl, b1⟩
  go_wp2_with fail
  refine (few_any A m c ps false _ (HP.out.below b1) hm hf).mono ?_
  rintro e w2 ⟨rfl, rfl⟩
  go_wp2
  go_ret
  exact ⟨rfl, b1⟩
theorem frameBack_long (A : Option Addr) (m c : Nat) (ps : List (List (BitVec 8))) (B : Option Addr) (n d : Nat) (w : World) (hp : Bss w A m c ps) (hm : m ≤ 9223372036854775807) (hf : fewB ps = true) (hn : 1000 < n) :
    Calls Try.prog 4 #[.slice A m c, .slice B n d] w fun e w' => e = .returned (.bool true) ∧ Below w.heap.size w w' := by
  have HP := Lib.hid hp
  have hn' : (1000 : Int) < (n : Int) := by omega
  clear hp
  go_enter Try.func4, Try.ntmps4
  go_wp2_with fail
  refine (awake6 _).mono ?_
  rintro e w1 ⟨rfl, b1⟩
  go_wp2_with fail
  refine (few_any A m c ps true _ (HP.out.below b1) hm hf).mono ?_
  rintro e w2 ⟨rfl, rfl⟩
  go_wp2
  go_ret
  exact ⟨rfl, b1⟩

set_option maxHeartbeats 2000000 in
set_option maxRecDepth 100000 in
theorem frameBack_few (A : Option Addr) (m c : Nat) (ps : List (List (BitVec 8))) (E : Option Addr) (n f : Nat) (z : List (BitVec 8)) (w : World) (hp : Bss w A m c ps) (hz : Sl 1 w E n f (bytesV z)) (hnf : n ≤ f) (hf : fewB ps = true) (hn : n ≤ 1000) :
    Calls Try.prog 4 #[.slice A m c, .slice E n f] w fun e w' => e = .returned (.bool true) ∧ Below w.heap.size w w' := by
  have hlen := hp.len
  obtain ⟨hl100, hl1000⟩ := few_yes hf
  have hm100 : m ≤ 100 := by omega
  have HP := Lib.hid hp
  have HZ := Lib.hid hz
  have HLE := Lib.hid (frames_take_le ps hl1000 hl100)
  have HTK := Lib.hid (frames_take ps)
  have HF := Lib.hid hf
  have HLN := Lib.hid hlen
  have H1000 : Hid (∀ k, k < m → (ps.getD k []).length ≤ 1000) := Lib.hid (fun k hk => hl1000 _ (by simp [List.getD, show k < ps.length by omega]))
  have hn' : ¬ (1000 : Int) < (n : Int) := by omega
  have hall := all_back ps (fun p hp => by have := hl1000 p hp; omega) z
  have hsz := all_size z.length z (Nat.le_refl _)
  have hsq := (seq_len z.length z (Nat.le_refl _)).1
  have hsa := (seq_all z.length z (Nat.le_refl _)).1
  have hzl := hz.blen
  have hk1 : (allF z).2 ≤ 1000 := by omega
  have hk2 : (allF z).1.length ≤ 1000 := by rw [← hsa, List.length_map]; omega
  have HALL := Lib.hid hall
  clear hp hz hlen hl1000 hl100 hf hall hsz hsq hsa hzl
  go_enter Try.func4, Try.ntmps4
  go_wp2_with fail
  refine (awake6 _).mono ?_
  rintro e w1 ⟨rfl, b1⟩
  go_wp2_with fail
  refine (few_any A m c ps true _ (HP.out.below b1) (by omega) HF.out).mono ?_
  rintro e w2 ⟨rfl, rfl⟩
  go_wp2
  go_loopw [6, 7] (fun b i wr => ∃ (k L d : Nat) (B : Option Addr) (D : List (BitVec 8)), k ≤ m ∧ i = .int .i64 k ∧ b = .slice B L d ∧ L ≤ 101300 ∧ D.length = L ∧ Hid (D = framesB (ps.take k)) ∧ BRow wr w.heap.size B d D ∧ Below w.heap.size w wr) (fun _ i _ => m - (intOf i).toNat)
  case atStart => exact ⟨0, 0, 0, none, [], by omega, rfl, rfl, by omega, rfl, rfl, BRow.nil _ _, b1⟩
  case round =>
    obtain ⟨k, L, d, B, D, hk, rfl, rfl, hL, hDL, hD, hrow, hb⟩ := hrel
    clear b1
    by_cases hlt : k < m
    · obtain ⟨b, off, X, e, hAe, c1, s1, he⟩ := (HP.out.below hb).at (k := k) (by rw [HLN.out]; exact hlt)
      have hx := H1000.out k hlt
      have htk := HTK.out k (by rw [HLN.out]; exact hlt)
      have hle := HLE.out (k + 1)
      have hD' : D ++ frameB (ps.getD k []) = framesB (ps.take (k + 1)) := by rw [htk, hD.out]
      have hDL' : (D ++ frameB (ps.getD k [])).length = L + (frameB (ps.getD k [])).length := by rw [List.length_append, hDL]
      have hL' : L + (frameB (ps.getD k [])).length ≤ 101300 := by rw [← hDL', hD']; exact hle
      have HD' := Lib.hid hD'
      have HDL' := Lib.hid hDL'
      have hcap := hrow.cap_le hDL
      have hsl := hrow.slAt hDL
      have HPU := Lib.hid (fput_ok B L d D X (ps.getD k []).length e (ps.getD k []) wr hsl hcap s1 (by omega) (by omega))
      clear htk hle hD' hDL' hsl s1 hD
      subst hAe
      generalize ps.getD k [] = x at *
      obtain ⟨q, hq⟩ : ∃ q, (frameB x).length = q := ⟨_, rfl⟩
      rw [hq] at hL' HDL' HPU
      generalize x.length = xl at *
      clear hq
      go_wp2_with fail
      refine HPU.out.mono ?_
      rintro e' w3 ⟨A3, c3, rfl, r3, b3⟩
      have hb3 := bel_on hb b3
      replace r3 := r3.mono (b := w.heap.size) hb.size
      clear HPU hrow
      go_wp2
      go_roundw
      case rel => exact ⟨k + 1, L + q, c3, A3, D ++ frameB x, by omega, by go_num, rfl, hL', HDL'.out, HD', r3, hb3⟩
      case measure => simp [intOf]; omega
    · obtain rfl : k = m := by omega
      have hDe : D = framesB ps := by rw [hD.out, List.take_of_length_le (by rw [HLN.out]; omega)]
      have hall := HALL.out
      rw [← hDe, hDL] at hall
      have HALL2 := Lib.hid hall
      have HALZ : Hid (∀ w, Sl 1 w E n f (bytesV z) → Calls Try.prog 13 #[.slice E n f] w fun e w' => ∃ D d, e = .returned (.tuple #[.slice D (allF z).1.length d, .int .i64 ((allF z).2 : Nat)]) ∧ BssOwn w' w.heap.size D d (allF z).1 ∧ Below w.heap.size w w') := Lib.hid (fun w h => fall_any E n f z w h hnf (by omega))
      have hsl := Lib.hid (hrow.slAt hDL)
      clear hDe hall HALL hD hrow HTK HLE H1000 HF
      go_wp2_with fail
      refine (HALZ.out _ (HZ.out.below hb)).mono ?_
      rintro e' w3 ⟨D3, d3, rfl, r3, b3⟩
      have hb3 := bel_on hb b3
      have S3 := Lib.hid (hsl.out.below b3)
      -- append(append([]byte{}, b...), behind...)
      obtain ⟨A5, c5, w5, hr5, r5, b5, hz5⟩ := brow_copy w3 S3.out (by omega)
      have hzl : z.length = n := HZ.out.blen
      obtain ⟨A6, c6, w6, hr6, r6, hbel6, hsz6⟩ := brow_append r5 (d := f) (ys := z) (by rw [hzl]; exact (HZ.out.below hb3).below b5) (by rw [hDL, hzl]; omega) hz5
      have b6 := hbel6 w3 (Nat.le_refl _) b5
      rw [hDL, hzl] at hr6
      have hLn : (D ++ z).length = L + n := by rw [List.length_append, hDL, hzl]
      have hc6 := r6.cap_le hLn
      have HR5 := Lib.hid hr5
      have HR6 := Lib.hid hr6
      have S6 := Lib.hid (r6.slAt hLn)
      have HAL6 := Lib.hid (fall_any A6 (L + n) c6 (D ++ z) w6 (r6.slAt hLn) hc6 (by omega))
      rw [HALL2.out] at HAL6
      simp only at HAL6
      clear hr5 hr6 hbel6 hsz6 hLn r5 r6 HALL2
      generalize hP : (allF z).1 = P at *
      generalize hK : (allF z).2 = K at *
      have HPL : Hid ((ps ++ P).length = k + P.length) := by show _ = _; rw [List.length_append, HLN.out]
      rw [HPL.out] at HAL6
      generalize hpl : P.length = pl at *
      have HPLE := Lib.hid hpl
      clear hP hK hpl
      go_wp2_with (first | (at_builtin; refine wpList_append_run (o := ⟨some 53, _, _, _, _, _⟩) HR5.out rfl rfl rfl rfl ?_) | (at_builtin; refine wpList_append_run (o := ⟨some 55, _, _, _, _, _⟩) HR6.out rfl rfl rfl rfl ?_))
      refine HAL6.out.mono ?_
      rintro e' w7 ⟨D7, d7, rfl, r7, b7⟩
      have hb67 := bel_on b6 b7
      have hb7 := bel_on hb3 hb67
      obtain ⟨A8, c8, w8, A9, c9, w9, hr8, hr9, hB9, b9⟩ := bss_join w7 (HP.out.below hb7) ((r3.row.below hb67).bssAt HPLE.out) (by omega)
      have HR8 := Lib.hid hr8
      have HR9 := Lib.hid hr9
      have HB7 := Lib.hid ((r7.row.bssAt HPL.out).below b9)
      have HB9 := Lib.hid hB9
      have hb9 := bel_on hb7 b9
      clear hr8 hr9 hB9 r7 r3 hb67 b7 b6 b5
      go_wp2_with (first | (at_builtin; refine wpList_append_run_on (o := ⟨some 71, _, _, _, _, _⟩) HR8.out (by rfl) rfl rfl rfl ?_) | (at_builtin; refine wpList_append_run_on (o := ⟨some 73, _, _, _, _, _⟩) HR9.out (by rfl) rfl rfl rfl ?_))
      refine (same_any D7 (k + pl) d7 _ A9 (k + pl) c9 _ _ HB7.out HB9.out (by omega)).mono ?_
      rintro e' w10 ⟨rfl, b10⟩
      have hb10 := bel_on hb9 b10
      rw [decide_eq_true rfl]
      go_wp2
      go_ret
      refine ⟨?_, hb10⟩
      first | rfl | (apply ret_bool; simp; omega)
theorem frameBack_walk (a0 : Option Addr) (len0 cap0 : Nat) (ps : List (List (BitVec 8))) (a1 : Option Addr) (len1 cap1 : Nat) (z1 : List Int) (w : World) (hp : Bss w a0 len0 cap0 ps) (hmc : len0 ≤ cap0) (hcm : cap0 ≤ 9223372036854775807) (r1 : IsRow .u8 w a1 len1 cap1 z1) :
    Calls Try.prog 4 #[.slice a0 len0 cap0, .slice a1 len1 cap1] w fun e w' => e = .returned (.bool true) ∧ Below w.heap.size w w' := by
  cases hf : fewB ps with
  | false => exact frameBack_not a0 len0 cap0 ps a1 len1 cap1 w hp (by omega) hf
  | true =>
    by_cases g : 1000 < len1
    · exact frameBack_long a0 len0 cap0 ps a1 len1 cap1 w hp (by omega) hf g
    · obtain ⟨l, hl, s1, hm⟩ := bytes_of_row r1
      exact frameBack_few a0 len0 cap0 ps a1 len1 cap1 l w hp s1 (bytes_caps r1).1 hf (by omega)
end Go.Proofs.Ytfjbpjojpjkfcaa
