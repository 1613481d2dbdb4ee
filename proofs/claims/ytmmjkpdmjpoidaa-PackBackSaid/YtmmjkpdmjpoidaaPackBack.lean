/-
  The walk of the law PackBack: it answers true, and leaves what was there as it was.
-/
import Derived.Test.YtmmjkpdmjpoidaaPackOrder
namespace Go.Proofs.Ytmmjkpdmjpoidaa
open Go.RowKit
set_option linter.unusedVariables false

theorem packBack_out (A : Option Addr) (k d : Nat) (B : Option Addr) (m c : Nat) (C : Option Addr) (n e : Nat) (w : World) (h : 100 < k ∨ (k ≤ 100 ∧ 1000 < m) ∨ (k ≤ 100 ∧ m ≤ 1000 ∧ 1000 < n)) :
    Calls Try.prog 4 #[.slice A k d, .slice B m c, .slice C n e] w fun e w' => e = .returned (.bool true) ∧ Below w.heap.size w w' := by
  have h' : (100 : Int) < (k : Int) ∨ ((k : Int) ≤ 100 ∧ (1000 : Int) < (m : Int)) ∨ ((k : Int) ≤ 100 ∧ (m : Int) ≤ 1000 ∧ (1000 : Int) < (n : Int)) := by omega
  clear h
  rcases h' with h | ⟨h, h'⟩ | ⟨h, h', h''⟩
  all_goals
    go_enter Try.func4, Try.ntmps4
    go_wp2_with fail
    refine (awake5 _).mono ?_
    rintro e w1 ⟨rfl, hb1⟩
    go_wp2
    go_ret
    exact ⟨rfl, hb1⟩
theorem packBack_bad (A : Option Addr) (k d : Nat) (zs : List Int) (B : Option Addr) (m c : Nat) (C : Option Addr) (n e : Nat) (w : World) (hz : Nums w A zs) (hk : zs.length = k) (hzs : ∀ z ∈ zs, z ≤ 9223372036854775807) (hneg : ¬ ∀ z ∈ zs, 0 ≤ z) (h1 : k ≤ 100) (h2 : m ≤ 1000) (h3 : n ≤ 1000) :
    Calls Try.prog 4 #[.slice A k d, .slice B m c, .slice C n e] w fun e w' => e = .returned (.bool true) ∧ Below w.heap.size w w' := by
  have g1 : (k : Int) ≤ 100 := by omega
  have g2 : (m : Int) ≤ 1000 := by omega
  have g3 : (n : Int) ≤ 1000 := by omega
  have HZ := Lib.hid hz
  have HP := Lib.hid (fun w (h : Nums w A zs) => put_bad none 0 0 A k d zs w h hk hzs hneg (by omega) (by omega))
  clear hz hk hzs hneg
  go_enter Try.func4, Try.ntmps4
  go_wp2_with fail
  refine (awake5 _).mono ?_
  rintro e w1 ⟨rfl, hb1⟩
  go_wp2_with fail
  refine (HP.out _ (HZ.out.below hb1)).mono ?_
  rintro e w2 ⟨rfl, rfl⟩
  go_wp2
  go_ret
  exact ⟨rfl, hb1⟩
theorem put_drop (ns : List Nat) (k : Nat) (h : k < ns.length) : putB (ns.drop k) = oneB (ns.getD k 0) ++ putB (ns.drop (k + 1)) := by
  rw [List.drop_eq_getElem_cons h, putB, List.map_cons, List.flatten_cons]
  simp [putB, List.getD, h]
set_option maxHeartbeats 1000000 in
theorem packBack_ok (A : Option Addr) (k d : Nat) (ns : List Nat) (B : Option Addr) (m c : Nat) (ts : List (BitVec 8)) (C : Option Addr) (n e : Nat) (bs : List (BitVec 8)) (w : World)
    (hz : Nums w A (ns.map fun n : Nat => (n : Int))) (hk : ns.length = k) (hns : ∀ n ∈ ns, n < 9223372036854775808) (ht : Sl 1 w B m c (bytesV ts)) (hs : Sl 1 w C n e (bytesV bs)) (h1 : k ≤ 100) (h2 : m ≤ 1000) (h3 : n ≤ 1000) :
    Calls Try.prog 4 #[.slice A k d, .slice B m c, .slice C n e] w fun e w' => e = .returned (.bool true) ∧ Below w.heap.size w w' := by
  have g1 : (k : Int) ≤ 100 := by omega
  have g2 : (m : Int) ≤ 1000 := by omega
  have g3 : (n : Int) ≤ 1000 := by omega
  have htl := ht.blen
  have hsl := hs.blen
  have hpl := put_len_le ns hns
  have h9 := digs_eight (show m < 9223372036854775808 by omega)
  have hxl : (textB ts).length ≤ 1009 := by rw [textB, List.length_append, one_len, htl]; omega
  have HT := Lib.hid ht
  have HS := Lib.hid hs
  have HZ := Lib.hid hz
  have HN := Lib.hid hns
  have HK := Lib.hid hk
  have HSL := Lib.hid hsl
  have HTB := Lib.hid (text_back (t := ts) (by rw [htl]; omega) bs)
  have HTX := Lib.hid (txt_eq ts ts)
  have HBX := Lib.hid (txt_eq bs bs)
  have HCT := Lib.hid (fun (w : World) (A : Option Addr) (c : Nat) (h : Sl 1 w A m c (bytesV ts)) => conv_sl h)
  have HCS := Lib.hid (fun (w : World) (A : Option Addr) (c : Nat) (h : Sl 1 w A n c (bytesV bs)) => conv_sl h)
  have HTL := Lib.hid htl
  have HPB : Hid (∀ w, Nums w A (ns.map fun n : Nat => (n : Int)) → _) := Lib.hid (fun w (h : Nums w A (ns.map fun n : Nat => (n : Int))) => put_ok none 0 0 [] A k d ns w Sl.nil_ h hk hns (by omega) (by omega))
  have HD := Lib.hid (put_drop ns)
  generalize hx : (putB ns).length = x at *
  generalize hy : (textB ts).length = y at *
  have HX := Lib.hid hx
  have HY := Lib.hid hy
  have hx9 : x ≤ 900 := by omega
  clear hx hy ht hs hz hns hk hsl htl hpl h9
  go_enter Try.func4, Try.ntmps4
  go_wp2_with fail
  refine (awake5 _).mono ?_
  rintro e w1 ⟨rfl, b1⟩
  go_wp2_with fail
  refine (HPB.out _ (HZ.out.below b1)).mono ?_
  rintro e w2 ⟨A2, c2, rfl, r2, b2⟩
  rw [Nat.zero_add]
  rw [List.nil_append] at r2
  have b2' := bel_on b1 b2
  go_wp2_with fail
  refine (text_any A2 x c2 (putB ns) B m c ts _ (r2.slAt HX.out) (HT.out.below b2') (by omega) (by omega)).mono ?_
  rintro e w3 ⟨A3, c3, rfl, r3, b3⟩
  rw [HY.out]
  have b3' := bel_on b2' b3
  have hl3 : (putB ns ++ textB ts).length = x + y := by rw [List.length_append, HX.out, HY.out]
  obtain ⟨A4, c4, w4, hr4, r4, hbel4, _⟩ := brow_append r3 (HSL.out ▸ HS.out.below b3') (by rw [hl3, HSL.out]; omega) b3.size
  rw [hl3, HSL.out] at hr4
  have b4 : Below w1.heap.size w1 w4 := hbel4 w1 b2.size (bel_on b2 b3)
  have r4' := r4.mono b2.size
  have HR4 := Lib.hid hr4
  have hl4 : (putB ns ++ textB ts ++ bs).length = x + y + n := by rw [List.length_append, hl3, HSL.out]
  rw [List.append_assoc] at r4' hl4
  have L4 := Lib.hid hl4
  have R4 := Lib.hid r4'
  clear hr4 r4 r4' hbel4 hl3 hl4 r3 r2 b2 b3 b2' b3'
  go_wp2_with (at_builtin; refine wpList_append_run (o := ⟨some 50, _, _, _, _, _⟩) HR4.out rfl rfl rfl rfl ?_)
  clear HR4
  go_loopw [8, 10, 11] (fun b sz i wr => ∃ (j : Nat) (A : Option Addr) (c : Nat) (D : List (BitVec 8)) (L : Nat), j ≤ k ∧ i = .int .i64 j ∧ sz = .int .i64 j ∧ b = .slice A L c ∧ D.length = L ∧ L ≤ 3000 ∧ Hid (D = putB (ns.drop j) ++ (textB ts ++ bs)) ∧ BRow wr w1.heap.size A c D ∧ Below w1.heap.size w1 wr) (fun _ _ i _ => k - (intOf i).toNat)
  case atStart => exact ⟨0, A4, c4, _, x + y + n, by omega, rfl, rfl, rfl, L4.out, by omega, Lib.hid rfl, R4.out, b4⟩
  case round =>
    clear R4 L4 b4
    obtain ⟨j, A5, c5, D, L, hj, rfl, rfl, rfl, hDl, hL, hD, hrow, hb⟩ := hrel
    by_cases hlt : j < k
    · obtain ⟨b, off, rfl, hc⟩ := ((HZ.out.below b1).below hb) j (by simpa [HK.out] using hlt)
      rw [getD_ints] at hc
      have hn : ns.getD j 0 < 9223372036854775808 := HN.out _ (by simp [List.getD, HK.out, hlt])
      have hD' := hD.out
      rw [HD.out j (by rw [HK.out]; exact hlt), List.append_assoc] at hD'
      generalize ns.getD j 0 = v at *
      have htk := take_one hn (putB (ns.drop (j + 1)) ++ (textB ts ++ bs))
      rw [← hD'] at htk
      have hlens := (take_lens htk).1
      rw [hDl] at hlens
      have HTK := Lib.hid (take_ok A5 L c5 D _ v wr (hrow.slAt hDl) (by omega) (hrow.cap_le hDl) htk)
      have HSZ := Lib.hid (fun w => size_at v w hn)
      generalize hE : putB (ns.drop (j + 1)) ++ (textB ts ++ bs) = E at *
      generalize (oneB v).length = o at *
      generalize hEl : E.length = M at *
      have HE := Lib.hid hE
      have HEl := Lib.hid hEl
      clear hE hEl hD hD' htk
      have hsub : (L : Int) - (M : Int) = (o : Int) := by omega
      have hL' : M ≤ 3000 := by omega
      clear hlens
      go_wp2_with fail
      refine HTK.out.mono ?_
      rintro e w5 ⟨A6, c6, rfl, r6, b6⟩
      have hc' := (b6.cell (cell_lt hc)).trans hc
      clear hc
      have e1 : (j : Int) < (k : Int) := by omega
      go_wp2_with fail
      refine (HSZ.out _).mono ?_
      rintro e w6 ⟨rfl, rfl⟩
      go_wp2
      go_roundw
      case rel => exact ⟨j + 1, A6, c6, E, M, by omega, by go_num, by go_num, rfl, HEl.out, hL', Lib.hid HE.out.symm, r6.mono hb.size, bel_on hb b6⟩
      case measure => simp [intOf]; omega
    · obtain rfl : k = j := by omega
      have hD' := hD.out
      rw [List.drop_of_length_le (by rw [HK.out]; exact Nat.le_refl _)] at hD'
      rw [show putB [] = [] from rfl, List.nil_append] at hD'
      have htk := HTB.out
      rw [← hD'] at htk
      have HTK := Lib.hid (taketext_ok A5 L c5 D ts bs wr (hrow.slAt hDl) (by omega) (hrow.cap_le hDl) htk)
      rw [HTL.out, HSL.out] at HTK
      clear hD hD' htk
      go_wp2_with fail
      refine HTK.out.mono ?_
      rintro e w5 ⟨A6, c6, A7, c7, rfl, r6, r7, b6⟩
      have b7 := bel_on (bel_on b1 hb) b6
      have k1 := HCT.out w5 A6 c6 (r6.slAt HTL.out)
      have k2 := HCS.out w5 A7 c7 (r7.slAt HSL.out)
      have k3 := HCT.out w5 B c (HT.out.below b7)
      have k4 := HCS.out w5 C _ (HS.out.below b7)
      clear HTK HCT HCS HT HS HTB HD HZ HN HPB HTX HBX r6 r7 hrow
      go_wp2
      go_ret
      exact ⟨rfl, b7⟩
theorem packBack_walk (a0 : Option Addr) (len0 cap0 : Nat) (z0 : List Int) (a1 : Option Addr) (len1 cap1 : Nat) (z1 : List Int) (a2 : Option Addr) (len2 cap2 : Nat) (z2 : List Int) (w : World) (r0 : IsRow .i64 w a0 len0 cap0 z0) (r1 : IsRow .u8 w a1 len1 cap1 z1) (r2 : IsRow .u8 w a2 len2 cap2 z2) :
    Calls Try.prog 4 #[.slice a0 len0 cap0, .slice a1 len1 cap1, .slice a2 len2 cap2] w fun e w' => e = .returned (.bool true) ∧ Below w.heap.size w w' := by
  by_cases g : 100 < len0 ∨ (len0 ≤ 100 ∧ 1000 < len1) ∨ (len0 ≤ 100 ∧ len1 ≤ 1000 ∧ 1000 < len2)
  · exact packBack_out _ _ _ _ _ _ _ _ _ w g
  · obtain ⟨zs, l0, s0, _, hz⟩ := nums_of_row r0
    obtain ⟨ts, l1, s1, _⟩ := bytes_of_row r1
    obtain ⟨bs, l2, s2, _⟩ := bytes_of_row r2
    by_cases h : ∀ z ∈ zs, 0 ≤ z
    · obtain ⟨ns, rfl⟩ := nats_of_ints zs h
      refine packBack_ok _ _ _ ns _ _ _ ts _ _ _ bs w s0 (by simpa using l0) (fun n hn => ?_) s1 s2 (by omega) (by omega) (by omega)
      have := hz (n : Int) (List.mem_map.2 ⟨n, hn, rfl⟩)
      omega
    · exact packBack_bad _ _ _ zs _ _ _ _ _ _ w s0 l0 (fun z hz' => (hz z hz').2) h (by omega) (by omega) (by omega)
end Go.Proofs.Ytmmjkpdmjpoidaa
