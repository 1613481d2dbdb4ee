/-
  The walk of the law FrameCuts: it answers true, and leaves what was there as it was.
-/
import Derived.Test.YtfjbpjojpjkfcaaFrAwake
import Derived.Test.YtfjbpjojpjkfcaaFrSame
namespace Go.Proofs.Ytfjbpjojpjkfcaa
open Go.RowKit
set_option linter.unusedVariables false

theorem few_yes {ps : List (List (BitVec 8))} (h : fewB ps = true) : ps.length ≤ 100 ∧ ∀ p ∈ ps, p.length ≤ 1000 := by
  unfold fewB at h
  simpa using h
theorem frame_le {p : List (BitVec 8)} (h : p.length ≤ 1000) : (frameB p).length ≤ 1013 := by
  have := digs_eight (n := p.length) (by omega)
  rw [frame_len, one_len]; omega
theorem frames_le : ∀ (ps : List (List (BitVec 8))), (∀ p ∈ ps, p.length ≤ 1000) → (framesB ps).length ≤ 1013 * ps.length
  | [], _ => by simp [framesB]
  | p :: ps, h => by
    have h1 := frames_le ps (fun q hq => h q (by simp [hq]))
    have h2 := frame_le (h p (by simp))
    have e : framesB (p :: ps) = frameB p ++ framesB ps := by simp [framesB]
    rw [e, List.length_append, List.length_cons]
    omega
theorem frames_take (ps : List (List (BitVec 8))) (k : Nat) (h : k < ps.length) : framesB (ps.take (k + 1)) = framesB (ps.take k) ++ frameB (ps.getD k []) := by
  rw [List.take_succ_eq_append_getElem h, frames_snoc]
  simp [List.getD, h]
theorem frames_take_le (ps : List (List (BitVec 8))) (h : ∀ p ∈ ps, p.length ≤ 1000) (hl : ps.length ≤ 100) (k : Nat) : (framesB (ps.take k)).length ≤ 101300 := by
  have := frames_le (ps.take k) (fun p hp => h p (List.mem_of_mem_take hp))
  rw [List.length_take] at this
  omega
theorem bs_size (w : World) : (sizeOf (Try.prog.elem 29)).run Try.prog w = .ok 1 w := by kernel_rfl
/-- 'l[:n]' of slices of bytes. -/
theorem bss_cut_to {A : Option Addr} {m c : Nat} (n : Nat) (hn : n ≤ c) (hA : A = none → c = 0) (w' : World) :
    (Instr.sliceAt 29 (.slice A m c) none (some (.int .i64 (n : Int))) none).run Try.prog w' = .ok (.slice A n c) w' := by
  have e : (if c = 0 then A else A.map (·.add 0)) = A := by
    split
    · rfl
    · cases A with
      | none => rfl
      | some ad =>
        rw [Option.map_some]
        unfold Addr.add
        split <;> simp_all
  rw [run_sliceAt_slice _ _ _ _ _ _ Try.underlying29, run_slice_h _ _ _ _ _ Try.underlying29 .i64 (n : Int) (by omega) (by omega), bs_size]
  simp only [sliced, Result.andThen, Int.toNat_natCast, Nat.mul_one, Nat.sub_zero]
  rw [e]
/-- In a walk: a guarded slice whose run is known. -/
theorem wpList_slice_run_on {P : Program} {ops : Array Oper} {rest : List Oper} {o : Oper} {a : Act} {w : World} {Q : Exit → Act → World → Prop} {x : Operand} {l h m : Option Operand} {t : TypeId} {v v' : Value} {lo hi mx : Option Value}
    (hr : ∀ w', (Instr.sliceAt t v lo hi mx).run P w' = .ok v' w') (hgd : Region.wanted o (yielded ops a.tmps) = true)
    (ho : o.op = .slice t x l h m) (hx : a.eval x = v) (h1 : l.map a.eval = lo) (h2 : h.map a.eval = hi) (h3 : m.map a.eval = mx)
    (hk : wpList P ops Q rest (a.put o.dst v') w) : wpList P ops Q (o :: rest) a w := by
  refine wpList_step fun K hK => ?_
  rw [if_pos hgd]
  unfold Oper.wp
  simp [execOp, ho, hx, h1, h2, h3, hr, Result.andThen]
  exact hK _ _ hk

theorem frameCuts_not (A : Option Addr) (m c : Nat) (ps : List (List (BitVec 8))) (t : Int) (w : World) (hp : Bss w A m c ps) (hm : m ≤ 9223372036854775807) (hf : fewB ps = false) :
    Calls Try.prog 5 #[.slice A m c, .int .u16 t] w fun e w' => e = .returned (.bool true) ∧ Below w.heap.size w w' := by
  have HP := Lib.hid hp
  clear hp
  go_enter Try.func5, Try.ntmps5
  go_wp2_with fail
  refine (awake6 _).mono ?_
  rintro e w1 ⟨rfl, b1⟩
  go_wp2_with fail
  refine (few_any A m c ps false _ (HP.out.below b1) hm hf).mono ?_
  rintro e w2 ⟨rfl, rfl⟩
  go_wp2
  go_ret
  exact ⟨rfl, b1⟩
theorem frameCuts_nil (A : Option Addr) (c : Nat) (t : Int) (w : World) (hp : Bss w A 0 c []) :
    Calls Try.prog 5 #[.slice A 0 c, .int .u16 t] w fun e w' => e = .returned (.bool true) ∧ Below w.heap.size w w' := by
  have HP := Lib.hid hp
  clear hp
  go_enter Try.func5, Try.ntmps5
  go_wp2_with fail
  refine (awake6 _).mono ?_
  rintro e w1 ⟨rfl, b1⟩
  go_wp2_with fail
  refine (few_any A 0 c [] true _ (HP.out.below b1) (by omega) (by decide)).mono ?_
  rintro e w2 ⟨rfl, rfl⟩
  go_wp2
  go_ret
  exact ⟨rfl, b1⟩

set_option maxHeartbeats 2000000 in
set_option maxRecDepth 100000 in
theorem frameCuts_few (A : Option Addr) (m c : Nat) (ps : List (List (BitVec 8))) (t : Nat) (w : World) (hp : Bss w A m c ps) (hmc : m ≤ c) (hcm : c ≤ 9223372036854775807) (hA : A = none → c = 0) (hf : fewB ps = true) (h0 : 0 < m) (ht : t ≤ 65535) :
    Calls Try.prog 5 #[.slice A m c, .int .u16 (t : Int)] w fun e w' => e = .returned (.bool true) ∧ Below w.heap.size w w' := by
  have hlen := hp.len
  obtain ⟨hl100, hl1000⟩ := few_yes hf
  have hm100 : m ≤ 100 := by omega
  have HP := Lib.hid hp
  have HLE := Lib.hid (frames_take_le ps hl1000 hl100)
  have HTK := Lib.hid (frames_take ps)
  have HF := Lib.hid hf
  have HLN := Lib.hid hlen
  have H1000 : Hid (∀ k, k < m → (ps.getD k []).length ≤ 1000) := Lib.hid (fun k hk => hl1000 _ (by simp [List.getD, show k < ps.length by omega]))
  have h0' : ((m : Int) == 0) = false := by simp; omega
  clear hp hlen hl1000 hl100 hf
  go_enter Try.func5, Try.ntmps5
  go_wp2_with fail
  refine (awake6 _).mono ?_
  rintro e w1 ⟨rfl, b1⟩
  go_wp2_with fail
  refine (few_any A m c ps true _ (HP.out.below b1) (by omega) HF.out).mono ?_
  rintro e w2 ⟨rfl, rfl⟩
  go_wp2
  go_loopw [6, 7, 8] (fun b a i wr => ∃ (k h L d : Nat) (B : Option Addr) (D : List (BitVec 8)), k ≤ m ∧ i = .int .i64 k ∧ a = .int .i64 h ∧ b = .slice B L d ∧ L ≤ 101300 ∧ Hid (h = (framesB (ps.take (k - 1))).length) ∧ D.length = L ∧ Hid (D = framesB (ps.take k)) ∧ BRow wr w.heap.size B d D ∧ Below w.heap.size w wr) (fun _ _ i _ => m - (intOf i).toNat)
  case atStart => exact ⟨0, 0, 0, 0, none, [], by omega, rfl, rfl, rfl, by omega, rfl, rfl, rfl, BRow.nil _ _, b1⟩
  case round =>
    obtain ⟨k, h, L, d, B, D, hk, rfl, rfl, rfl, hL, hh, hDL, hD, hrow, hb⟩ := hrel
    clear b1
    by_cases hlt : k < m
    · obtain ⟨b, off, X, e, hAe, c1, s1, he⟩ := (HP.out.below hb).at (k := k) (by rw [HLN.out]; exact hlt)
      have hx := H1000.out k hlt
      have htk := HTK.out k (by rw [HLN.out]; exact hlt)
      have hle := HLE.out (k + 1)
      have hfp := frame_pos (ps.getD k [])
      have hD' : D ++ frameB (ps.getD k []) = framesB (ps.take (k + 1)) := by rw [htk, hD.out]
      have hDL' : (D ++ frameB (ps.getD k [])).length = L + (frameB (ps.getD k [])).length := by rw [List.length_append, hDL]
      have hL' : L + (frameB (ps.getD k [])).length ≤ 101300 := by rw [← hDL', hD']; exact hle
      have hhL : L = (framesB (ps.take (k + 1 - 1))).length := by rw [Nat.add_sub_cancel, ← hD.out, hDL]
      have HHL := Lib.hid hhL
      have HD' := Lib.hid hD'
      have HDL' := Lib.hid hDL'
      have S1 := Lib.hid s1
      have hcap := hrow.cap_le hDL
      have hsl := hrow.slAt hDL
      have HPU := Lib.hid (fput_ok B L d D X (ps.getD k []).length e (ps.getD k []) wr hsl hcap s1 (by omega) (by omega))
      clear htk hle hD' hDL' hhL hsl s1 hh hD
      subst hAe
      generalize ps.getD k [] = x at *
      obtain ⟨q, hq⟩ : ∃ q, (frameB x).length = q := ⟨_, rfl⟩
      rw [hq] at hfp hL' HDL' HPU
      generalize x.length = xl at *
      have hq' : ¬ (L : Int) + (q : Int) ≤ (L : Int) := by omega
      have hq2 : ¬ L + q ≤ L := by omega
      clear hq
      go_wp2_with fail
      refine HPU.out.mono ?_
      rintro e' w3 ⟨A3, c3, rfl, r3, b3⟩
      have hb3 := bel_on hb b3
      replace r3 := r3.mono (b := w.heap.size) hb.size
      clear HPU hrow
      go_wp2
      go_roundw
      case rel => exact ⟨k + 1, L, L + q, c3, A3, D ++ frameB x, by omega, by go_num, rfl, rfl, hL', HHL, HDL'.out, HD', r3, hb3⟩
      case measure => simp [intOf]; omega
    · obtain rfl : k = m := by omega
      have hne : k - 1 < ps.length := by rw [HLN.out]; omega
      have htk := HTK.out (k - 1) hne
      rw [show k - 1 + 1 = k by omega] at htk
      have hall : ps.take k = ps := List.take_of_length_le (by rw [HLN.out]; omega)
      have hlast := H1000.out (k - 1) (by omega)
      have hfp := frame_pos (ps.getD (k - 1) [])
      have hLq : L = h + (frameB (ps.getD (k - 1) [])).length := by rw [← hDL, hD.out, htk, List.length_append, hh.out]
      obtain ⟨q, hq⟩ : ∃ q, (frameB (ps.getD (k - 1) [])).length = q := ⟨_, rfl⟩
      rw [hq] at hfp hLq
      obtain ⟨kk, hkk, hkq⟩ : ∃ kk, kk = t % q ∧ kk < q := ⟨_, rfl, Nat.mod_lt _ hfp⟩
      have e1 : (t : Int) % ((L : Int) - (h : Int)) = (kk : Int) := by
        rw [hLq, hkk]
        have : ((h + q : Nat) : Int) - (h : Int) = (q : Int) := by omega
        rw [this, ← Int.natCast_emod]
      have hpos : (0 : Int) < (L : Int) - (h : Int) := by omega
      have hinit : (ps.take (k - 1)).length = k - 1 := by rw [List.length_take]; omega
      have hDe : D = framesB (ps.take (k - 1)) ++ frameB (ps.getD (k - 1) []) := by rw [hD.out, htk]
      have ht1 : D.take (h + kk) = framesB (ps.take (k - 1)) ++ (frameB (ps.getD (k - 1) [])).take kk := by
        rw [hDe, List.take_append, List.take_of_length_le (l := framesB _) (by rw [hh.out]; omega), hh.out]
        congr 2
        omega
      have ht2 : (D.drop h).take (h + kk - h) = (frameB (ps.getD (k - 1) [])).take kk := by
        rw [hDe, hh.out, List.drop_append_of_le_length (Nat.le_refl _), List.drop_of_length_le (Nat.le_refl _), List.nil_append]
        congr 1
        omega
      have few := few_yes HF.out
      have hall1 : allF (D.take (h + kk)) = (ps.take (k - 1), h) := by
        rw [ht1, all_cut _ (fun p hp => by have := few.2 p (List.mem_of_mem_take hp); omega) (by omega) (by rw [hq]; exact hkq), hh.out]
      have htake1 : takeF ((D.drop h).take (h + kk - h)) = none := by
        rw [ht2]
        exact frame_cut (by omega) (by rw [hq]; exact hkq)
      have hcap := hrow.cap_le hDL
      have hsl := hrow.slAt hDL
      obtain ⟨A1, hr1, hs1⟩ := cut_to hsl hcap (h + kk) (by omega)
      obtain ⟨A2, hr2, hs2, _⟩ := cut_mid hsl hcap h (h + kk) (by omega) (by omega)
      have e2 : ((h + kk : Nat) : Int) = (h : Int) + (kk : Int) := by omega
      rw [e2] at hr1 hr2
      have HR1 := Lib.hid hr1
      have HR2 := Lib.hid hr2
      have HS1 := Lib.hid hs1
      have HS2 := Lib.hid hs2
      have HALL := Lib.hid hall1
      have HTAKE := Lib.hid htake1
      have HIN := Lib.hid hinit
      have hkL : h + kk ≤ L := by omega
      have HRC : Hid (∀ w', (Instr.sliceAt 29 (.slice A k c) none (some (.int .i64 ((k : Int) - 1))) none).run Try.prog w' = .ok (.slice A (k - 1) c) w') := Lib.hid (fun w' => by
        have := bss_cut_to (m := k) (k - 1) (show k - 1 ≤ c by omega) hA w'
        rwa [show ((k - 1 : Nat) : Int) = (k : Int) - 1 by omega] at this)
      have hk1 : (0 : Int) < (k : Int) := by omega
      have hd1 : h + kk ≤ d := by omega
      have hdh : h + kk - h ≤ d - h := by omega
      have hbig : h + kk - h ≤ 100000000000 := by omega
      clear hne htk hall hlast hfp hLq hq hkk hinit hDe ht1 ht2 few hall1 htake1 hsl hr1 hr2 hs1 hs2 e2 hh hD hkq hrow
      generalize h + kk - h = z at *
      generalize d - h = dz at *
      go_wp2_with (first | refine wpList_slice_run (o := ⟨some 66, _, _, _, _, _⟩) HR1.out rfl rfl rfl rfl rfl rfl ?_ | fail)
      refine (fall_any A1 (h + kk) d _ _ HS1.out hd1 (by omega)).mono ?_
      rintro e' w3 ⟨D3, d3, rfl, r3, b3⟩
      rw [HALL.out] at r3 ⊢
      simp only at r3 ⊢
      rw [HIN.out]
      have hb3 := bel_on hb b3
      go_wp2_with (first | refine wpList_slice_run (o := ⟨some 76, _, _, _, _, _⟩) HR2.out rfl rfl rfl rfl rfl rfl ?_ | fail)
      refine (ftake_none A2 z dz _ _ (HS2.out.below b3) hdh hbig HTAKE.out).mono ?_
      rintro e' w4 ⟨rfl, b4⟩
      have hb4 := bel_on hb3 b4
      have HB1 := Lib.hid ((r3.row.below b4).bssAt HIN.out)
      have HB2 := Lib.hid ((HP.out.below hb4).take (m := k - 1) (by omega))
      clear r3
      go_wp2_with (first | refine wpList_slice_run_on (o := ⟨some 93, _, _, _, _, _⟩) HRC.out (by rfl) rfl rfl rfl rfl rfl ?_ | fail)
      refine (same_any D3 (k - 1) d3 _ A (k - 1) c _ _ HB1.out HB2.out (by omega)).mono ?_
      rintro e' w5 ⟨rfl, b5⟩
      have hb5 := bel_on hb4 b5
      rw [decide_eq_true rfl]
      go_wp2
      go_ret
      exact ⟨rfl, hb5⟩
theorem bss_none {w : World} {A : Option Addr} {m c : Nat} {ps : List (List (BitVec 8))} (h : Bss w A m c ps) : A = none → c = 0 := by
  obtain ⟨us, ⟨_, ⟨_, _, hc⟩ | ⟨ad, e, _⟩⟩, _⟩ := h
  · exact fun _ => hc
  · intro e'; rw [e] at e'; cases e'
theorem frameCuts_walk (a0 : Option Addr) (len0 cap0 : Nat) (ps : List (List (BitVec 8))) (t : Int) (w : World) (hp : Bss w a0 len0 cap0 ps) (hmc : len0 ≤ cap0) (hcm : cap0 ≤ 9223372036854775807) (h1 : 0 ≤ t) (h2 : t ≤ 65535) :
    Calls Try.prog 5 #[.slice a0 len0 cap0, .int .u16 t] w fun e w' => e = .returned (.bool true) ∧ Below w.heap.size w w' := by
  cases hf : fewB ps with
  | false => exact frameCuts_not a0 len0 cap0 ps t w hp (by omega) hf
  | true =>
    rcases Nat.eq_zero_or_pos len0 with rfl | h0
    · obtain rfl : ps = [] := List.eq_nil_of_length_eq_zero hp.len
      exact frameCuts_nil a0 cap0 t w hp
    · obtain ⟨t, rfl⟩ := Int.eq_ofNat_of_zero_le h1
      exact frameCuts_few a0 len0 cap0 ps t w hp hmc hcm (bss_none hp) hf h0 (by omega)
end Go.Proofs.Ytfjbpjojpjkfcaa
