/-
  Package split: the spans of one category, and the totals.
-/
import Derived.Test.YtdlimgpmmkcgmaaGreatZbi
import Derived.Test.YtdlimgpmmkcgmaaGreatZas
import Derived.Test.YtdlimgpmmkcgmaaGreatZaz
import Derived.Deep.DeepCutAuto
import Derived.Deep.LoopGhost
namespace Go.Proofs.YtdlimgpmmkcgmaaGreat
open Go.RowKit
set_option linter.unusedVariables false
set_option linter.unusedSimpArgs false
set_option maxRecDepth 20000

set_option maxHeartbeats 8000000 in
theorem only_c (A : Option Addr) (n c : Nat) (l : List PartP) (cat : Int) (w : World) (h : Prts w A n c l) (hn : n ≤ 999999999) :
    Calls Tryz.prog 39 #[.slice A n c, .int .i64 cat] w (Gives w (spansP l cat)) := by
  have hlen := h.2
  have HL := Lib.hid h
  clear h
  go_enter Tryz.func39, Tryz.ntmps39
  go_wp2
  go_loopg [5, 7, 10] n (fun kx s5 s7 s10 wr => ∃ (k q d : Nat) (B : Option Addr), s5 = .slice B q d ∧ s10 = .int .i64 k ∧ k + kx = n ∧ q ≤ k ∧ Hid ((spansP (l.take k) cat).length = q) ∧ Hid (Row wr w.heap.size B d (spansP (l.take k) cat)) ∧ Hid (Below w.heap.size w wr))
  case atStart => exact ⟨0, 0, 0, none, rfl, rfl, by omega, by omega, Lib.hid (by simp [spansP]), Lib.hid (by simp [spansP]; exact Row.nil _ _), Lib.hid (Below.refl _ _)⟩
  case round =>
    obtain ⟨k, q, d, B, rfl, rfl, hk, hqk, HQ, HR, HW⟩ := hrel
    by_cases hlt : k < n
    · have HLr := Lib.hid (HL.out.below HW.out)
      obtain ⟨ba, oa, rfl⟩ := HLr.out.form (by omega)
      obtain ⟨x, hx⟩ : ∃ x, l.getD k PartP.nil = x := ⟨_, rfl⟩
      have HNX := Lib.hid (spans_take (l := l) (k := k) (by omega) cat)
      rw [hx] at HNX
      obtain ⟨z0, z1, z2⟩ := prts_num HLr.out hlt x hx
      have hz := cell_lt z0
      have i2 : (0 : Int) ≤ (k : Int) := by omega
      have i3 : (k : Int) < (n : Int) := by omega
      have hba := bel_alloc (Below.refl wr.heap.size wr) (.cells #[.int .i64 x.1, .int .i64 x.2.1, .int .i64 x.2.2] 42)
      have HXA : Hid (Has (wr.alloc (.cells #[.int .i64 x.1, .int .i64 x.2.1, .int .i64 x.2.2] 42)) wr.heap.size #[.int .i64 x.1, .int .i64 x.2.1, .int .i64 x.2.2]) := Has.new wr _ _ rfl
      have HWA := Lib.hid (bel_on HW.out hba)
      have HRA := Lib.hid (HR.out.alloc (.cells #[.int .i64 x.1, .int .i64 x.2.1, .int .i64 x.2.2] 42))
      clear hx hba
      by_cases hk : x.2.2 = cat
      · have hk' : (x.2.2 == cat) = true := by simpa using hk
        have HP : Hid ((if x.2.2 = cat then [(x.1, x.2.1)] else []) = [(x.1, x.2.1)]) := by show _ = _; rw [if_pos hk]
        clear hk
        obtain ⟨A9, c9, w9, hr9, row9, bel9, -, -, -⟩ := row_push HRA.out x.1 x.2.1 (by have := HQ.out; omega) HWA.out.size (s := wr.heap.size + 1) (by simp)
        rw [HQ.out] at hr9
        have HR9 := Lib.hid hr9
        have HW9 := Lib.hid (bel9 w (Nat.le_refl _) HWA.out)
        have HRW9 := Lib.hid row9
        have y0 := HXA.out.cell 0 rfl
        have y1 := HXA.out.cell 1 rfl
        have y2 := HXA.out.cell 2 rfl
        have yl := cell_lt y0
        clear hr9 row9 bel9
        go_wp2_with (first | (at_builtin; refine wpList_append_run (o := ⟨some 25, _, _, _, _, _⟩) HR9.out rfl rfl rfl rfl ?_))
        go_roundg (n - (k + 1))
        case measure => omega
        case rel => exact ⟨k + 1, q + 1, c9, A9, rfl, by go_num, by omega, by omega, Lib.hid (by rw [HNX.out, HP.out, List.length_append, HQ.out]; rfl), Lib.hid (by rw [HNX.out, HP.out]; exact HRW9.out), HW9⟩
      · have hk' : (x.2.2 == cat) = false := beq_eq_false_iff_ne.2 hk
        have HP : Hid ((if x.2.2 = cat then [(x.1, x.2.1)] else []) = ([] : List (Int × Int))) := by show _ = _; rw [if_neg hk]
        clear hk
        go_wp2
        go_roundg (n - (k + 1))
        case measure => omega
        case rel => exact ⟨k + 1, q, d, B, rfl, by go_num, by omega, by omega, Lib.hid (by rw [HNX.out, HP.out, List.append_nil]; exact HQ.out), Lib.hid (by rw [HNX.out, HP.out, List.append_nil]; exact HRA.out), HWA⟩
    · obtain rfl : k = n := by omega
      have e : l.take k = l := List.take_of_length_le (by omega)
      rw [e] at HR HQ
      have hq := HQ.out
      subst hq
      go_wp2
      go_ret
      exact ⟨B, d, rfl, HR.out, HW.out⟩
set_option maxHeartbeats 8000000 in
theorem totals_c (A : Option Addr) (n c : Nat) (l : List PartP) (w : World) (h : Prts w A n c l) (hF : ∀ s ∈ l, FitP s) (hn : n ≤ 999999999) (hs : ∀ c : Nat, c < 7 → (spansP l (c : Int)).length ≤ 100000000) :
    Calls Tryz.prog 13 #[.slice A n c] w fun e w' => e = .returned (.agg (totC l 7)) ∧ Below w.heap.size w w' := by
  have HL := Lib.hid h
  have HSP := Lib.hid (fun cat W (hW : Prts W A n c l) => only_c A n c l cat W hW (by omega))
  have HSZ := Lib.hid (fun (cat : Nat) (hc : cat < 7) W B d (hW : Spans W B (spansP l (cat : Int))) => size_any B d (spansP l (cat : Int)) W hW (hs cat hc))
  have HFT := Lib.hid (fun cat => spansP_fits hF cat)
  clear hF hs
  obtain ⟨w1, hw1⟩ : ∃ w1, (w.alloc (.cells #[.int .i64 0, .int .i64 0, .int .i64 0, .int .i64 0, .int .i64 0, .int .i64 0, .int .i64 0] 37)).alloc (.cells #[.int .i64 0, .int .i64 0, .int .i64 0, .int .i64 0, .int .i64 0, .int .i64 0, .int .i64 0] 37) = w1 := ⟨_, rfl⟩
  have b1 : Below w.heap.size w w1 := by rw [← hw1]; exact bel_alloc (bel_alloc (Below.refl _ _) _) _
  have H2 : Has w1 w.heap.size #[.int .i64 0, .int .i64 0, .int .i64 0, .int .i64 0, .int .i64 0, .int .i64 0, .int .i64 0] := by rw [← hw1]; exact (Has.new _ _ _ rfl).alloc _
  have H3 : Has w1 (w.heap.size + 1) (totC l 0) := by rw [← hw1, tot_zero]; exact Has.new _ _ _ (by simp)
  obtain ⟨g3, hg3⟩ : ∃ g, w.heap.size + 1 = g := ⟨_, rfl⟩
  rw [hg3] at H3
  have hgg : w.heap.size < g3 := by omega
  have HW1 := Lib.hid b1
  have H2 := Lib.hid H2
  have H3 := Lib.hid H3
  clear b1 h
  go_enter Tryz.func13, Tryz.ntmps13
  go_wp2
  clear hw1 hg3
  go_loopw [4, 5] (fun j i wr => ∃ (k : Nat), k ≤ 7 ∧ i = .int .i64 k ∧ Hid (Has wr g3 (totC l k)) ∧ Hid (Kept (fun b => b < w1.heap.size ∧ b ≠ g3) w1 wr)) (fun _ i _ => 7 - (intOf i).toNat)
  case atStart => exact ⟨0, by omega, rfl, H3, Lib.hid (Kept.refl _ _)⟩
  case round =>
    obtain ⟨k, hk, rfl, HT, HK⟩ := hrel
    have s2 := H2.out.size
    have s3 := H3.out.size
    have HWr : Hid (Below w.heap.size w wr) := HW1.out.trans (HK.out.below fun i hi => ⟨by omega, by omega⟩)
    by_cases hlt : k < 7
    · have hLr := HL.out.below HWr.out
      have HSPr := Lib.hid (HSP.out (k : Int) wr hLr)
      have i0 : (0 : Int) ≤ (k : Int) := by omega
      have i1 : (k : Int) < 7 := by omega
      clear hLr
      go_wp2_with fail
      refine HSPr.out.mono ?_
      rintro e w2 ⟨B, d, rfl, r2, b2⟩
      have HT2 := Lib.hid (HT.out.below b2)
      have HB2 := Lib.hid b2
      have HSZ2 := Lib.hid (HSZ.out k hlt w2 B d (r2.spans (HFT.out _)))
      clear r2 b2
      go_wp2_with fail
      refine HSZ2.out.mono ?_
      rintro e w4 ⟨rfl, b4⟩
      have HT4 := HT2.out.below b4
      have HB4 := Lib.hid (bel_on HB2.out b4)
      have q := HT4.cell k (tot_at l k k hlt)
      have q2 := HT4.frozen k
      have z := cell_lt q
      have HT5 := Lib.hid (HT4.set k (.int .i64 (sz (In (spansP l (k : Int))))))
      have hzr := HT.out.size
      clear HT4 b4
      go_wp2
      go_roundw
      case rel =>
        refine ⟨k + 1, by omega, by go_num, Lib.hid ?_, Lib.hid ?_⟩
        · rw [← tot_step l k hlt]
          exact HT5.out
        · exact (HK.out.on ((Kept.of_below HB4.out fun i hi => Nat.lt_of_lt_of_le hi.1 HK.out.size))).setn (p := ⟨g3, k, none⟩) (fun h => h.2 rfl) _
      case measure => simp [intOf]; omega
    · obtain rfl : k = 7 := by omega
      have HT7 := HT.out
      have H27 := H2.out.kept (F := fun b => b < w1.heap.size ∧ b ≠ g3) ⟨by omega, by omega⟩ HK.out
      go_wp2_with (first | refine wpList_load7 rfl _ rfl g3 rfl (totC l 7) HT7 rfl ?_ | refine wpList_store7 rfl _ _ rfl w.heap.size (totC l 7) rfl rfl _ H27 rfl rfl (tot_one l 7) ?_)
      refine bodyPost_ret (seven_run Tryz.results13 _ _ w.heap.size (totC l 7) rfl (has_set7 H27) rfl) rfl ?_
      exact ⟨rfl, bel_setRow7 HWr.out (Nat.le_refl _) _⟩
end Go.Proofs.YtdlimgpmmkcgmaaGreat
