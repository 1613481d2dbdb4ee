/-
  The document's own answer of layer 17: two lists of parts that are the same, the spans of a category, totals.
  Two arrays of seven numbers that are the same.
-/
import Derived.Test.YtdlimgpmmkcgmaaGreatZbg
import Derived.Test.YtdlimgpmmkcgmaaGreatZav
import Derived.Test.YtdlimgpmmkcgmaaGreatZas
import Derived.Test.YtdlimgpmmkcgmaaGreatZay
import Derived.Laws.Tables
import Derived.Deep.DeepCutAuto
import Derived.Laws.StructEq
import Derived.KernelRfl
namespace Go.Proofs.YtdlimgpmmkcgmaaGreat
open Go.RowKit
set_option linter.unusedVariables false
set_option linter.unusedSimpArgs false
set_option maxRecDepth 20000

set_option maxHeartbeats 4000000 in
theorem psame_c (A B : Option Addr) (n c d : Nat) (l : List PartP) (w : World) (ha : Prts w A n c l) (hb : Prts w B n d l) (hn : n ≤ 1000000000) :
    Calls Tryz.prog 10 #[.slice A n c, .slice B n d] w fun e w' => e = .returned (.bool true) ∧ Below w.heap.size w w' := by
  have HA := Lib.hid ha
  have HB := Lib.hid hb
  clear ha hb
  go_enter Tryz.func10, Tryz.ntmps10
  go_wp2
  go_loopw [5] (fun i wr => ∃ (k : Nat), k ≤ n ∧ i = .int .i64 k ∧ Below w.heap.size w wr) (fun i _ => n - (intOf i).toNat)
  case atStart => exact ⟨0, Nat.zero_le _, rfl, Below.refl _ _⟩
  case round =>
    obtain ⟨k, hk, rfl, hbw⟩ := hrel
    by_cases hlt : k < n
    · have HA1 := HA.out.below hbw
      have HB1 := HB.out.below hbw
      obtain ⟨b, off, rfl⟩ := HA1.form (by omega)
      obtain ⟨b', off', rfl⟩ := HB1.form (by omega)
      obtain ⟨x, hx⟩ : ∃ x, l.getD k PartP.nil = x := ⟨_, rfl⟩
      obtain ⟨z0, z1, z2⟩ := prts_num HA1 hlt x hx
      obtain ⟨y0, y1, y2⟩ := prts_num HB1 hlt x hx
      have hb1 := cell_lt z0
      have hb2 := cell_lt y0
      have i0 : (0 : Int) ≤ (k : Int) := by omega
      have i1 : (k : Int) < (n : Int) := by omega
      clear HA1 HB1
      go_wp2
      go_quiet (fail)
      go_wp2
      go_roundw
      case rel => exact ⟨k + 1, by omega, by go_num, below_drewN hbw _⟩
      case measure => simp [intOf]; omega
    · obtain rfl : k = n := by omega
      go_wp2
      go_ret
      exact ⟨rfl, hbw⟩
theorem spansP_len (l : List PartP) (c : Int) : (spansP l c).length ≤ l.length := by
  unfold spansP
  rw [List.length_map]
  exact List.length_filter_le _ _
theorem spansP_fits {l : List PartP} (h : ∀ s ∈ l, FitP s) (c : Int) : Fits (spansP l c) := fun s hs => by
  have := h _ (mem_spansP.1 hs)
  exact ⟨this.1, this.2.1⟩
theorem spans_take {l : List PartP} {k : Nat} (h : k < l.length) (c : Int) : spansP (l.take (k + 1)) c = spansP (l.take k) c ++ if (l.getD k PartP.nil).2.2 = c then [((l.getD k PartP.nil).1, (l.getD k PartP.nil).2.1)] else [] := by
  rw [take_snoc_p h, spansP_snoc]
set_option maxHeartbeats 8000000 in
theorem rspans_c (A : Option Addr) (n c : Nat) (l : List PartP) (cat : Int) (w : World) (h : Prts w A n c l) (hn : n ≤ 999999999) :
    Calls Tryz.prog 24 #[.slice A n c, .int .i64 cat] w (Gives w (spansP l cat)) := by
  have hlen := h.2
  have HL := Lib.hid h
  clear h
  go_enter Tryz.func24, Tryz.ntmps24
  go_wp2
  go_loopw [5, 6] (fun o i wr => ∃ (k : Nat) (B : Option Addr) (d q : Nat), k ≤ n ∧ i = .int .i64 k ∧ o = .slice B q d ∧ (spansP (l.take k) cat).length = q ∧ Hid (Row wr w.heap.size B d (spansP (l.take k) cat)) ∧ Hid (Below w.heap.size w wr)) (fun _ i _ => n - (intOf i).toNat)
  case atStart => exact ⟨0, none, 0, 0, Nat.zero_le _, rfl, rfl, by simp [spansP], Lib.hid (by simp [spansP]; exact Row.nil _ _), Lib.hid (Below.refl _ _)⟩
  case round =>
    obtain ⟨k, B, d, q, hk, rfl, rfl, hq, HR, HW⟩ := hrel
    by_cases hlt : k < n
    · have HLr := Lib.hid (HL.out.below HW.out)
      obtain ⟨ba, oa, rfl⟩ := HLr.out.form (by omega)
      obtain ⟨x, hx⟩ : ∃ x, l.getD k PartP.nil = x := ⟨_, rfl⟩
      have HNX := Lib.hid (spans_take (l := l) (k := k) (by omega) cat)
      rw [hx] at HNX
      have HX := Lib.hid hx
      obtain ⟨z0, z1, z2⟩ := prts_num HLr.out hlt x hx
      have hz := cell_lt z0
      have i2 : (0 : Int) ≤ (k : Int) := by omega
      have i3 : (k : Int) < (n : Int) := by omega
      have hql : q ≤ k := by rw [← hq]; exact Nat.le_trans (spansP_len _ _) (by rw [List.length_take]; omega)
      clear hx
      by_cases hk : x.2.2 = cat
      · have hk' : (x.2.2 == cat) = true := by simpa using hk
        have HP : Hid ((if x.2.2 = cat then [(x.1, x.2.1)] else []) = [(x.1, x.2.1)]) := by show _ = _; rw [if_pos hk]
        clear hk
        go_wp2_with fail
        refine wp_region_noPanic ?_
        refine wp_region_held_drew (S := fun w' => Below w.heap.size w w') (by kernel_rfl) (below_drew (HW.out)) (fun hHeld => ?_)
        refine wpAnyH_take (i := 0) (oi := ⟨some 20, _, _, _, _, _⟩) (v := ?_) rfl (by kernel_rfl) (by kernel_rfl) (by kernel_rfl) (fun _ _ _ h => h) (Or.inl ⟨by rfl, ?_⟩) hHeld ?_
        rotate_left
        · intro ww hSw
          (try dsimp only at hSw)
          go_simp
          (try with_reducible rfl)
        simp only [Act.put, List.setIfInBounds_toArray, List.set_cons_zero, List.set_cons_succ]
        refine wpAnyH_take (i := 1) (oi := ⟨some 21, _, _, _, _, _⟩) (v := ?_) rfl (by kernel_rfl) (by kernel_rfl) (by kernel_rfl) (fun _ _ _ h => h) (Or.inl ⟨by rfl, ?_⟩) hHeld ?_
        rotate_left
        · intro ww hSw
          (try dsimp only at hSw)
          go_simp
          (try with_reducible rfl)
        simp only [Act.put, List.setIfInBounds_toArray, List.set_cons_zero, List.set_cons_succ]
        refine wpAnyH_take (i := 2) (oi := ⟨some 22, _, _, _, _, _⟩) (v := ?_) rfl (by kernel_rfl) (by kernel_rfl) (by kernel_rfl) (fun _ _ _ h => h) (Or.inl ⟨by rfl, ?_⟩) hHeld ?_
        rotate_left
        · intro ww hSw
          (try dsimp only at hSw)
          go_simp
          (try with_reducible rfl)
        simp only [Act.put, List.setIfInBounds_toArray, List.set_cons_zero, List.set_cons_succ]
        refine wpAnyH_take (i := 3) (oi := ⟨some 23, _, _, _, _, _⟩) (v := .pointer (some ⟨ba, oa + k * 3, none⟩)) rfl (by kernel_rfl) (by kernel_rfl) (by kernel_rfl) (fun _ _ _ h => h) (Or.inl ⟨by rfl, ?_⟩) hHeld ?_
        · intro ww hSw
          (try dsimp only at hSw)
          go_simp
        simp only [Act.put, List.setIfInBounds_toArray, List.set_cons_zero, List.set_cons_succ]
        refine wpAnyH_take (i := 4) (oi := ⟨some 24, _, _, _, _, _⟩) (v := ?_) rfl (by kernel_rfl) (by kernel_rfl) (by kernel_rfl) (fun _ _ _ h => h) (Or.inl ⟨by rfl, ?_⟩) hHeld ?_
        rotate_left
        · intro ww hSw
          (try dsimp only at hSw)
          go_simp
          (try with_reducible rfl)
        simp only [Act.put, List.setIfInBounds_toArray, List.set_cons_zero, List.set_cons_succ]
        refine wpAnyH_take (i := 5) (oi := ⟨some 25, _, _, _, _, _⟩) (v := .int .i64 x.1) rfl (by kernel_rfl) (by kernel_rfl) (by kernel_rfl) (fun _ _ _ h => h) (Or.inl ⟨by rfl, ?_⟩) hHeld ?_
        · intro ww hSw
          (try dsimp only at hSw)
          have zc := (prts_num (HL.out.below hSw) hlt x HX.out).1
          have zl := cell_lt zc
          go_simp
        simp only [Act.put, List.setIfInBounds_toArray, List.set_cons_zero, List.set_cons_succ]
        refine wpAnyH_take (i := 6) (oi := ⟨some 26, _, _, _, _, _⟩) (v := ?_) rfl (by kernel_rfl) (by kernel_rfl) (by kernel_rfl) (fun _ _ _ h => h) (Or.inl ⟨by rfl, ?_⟩) hHeld ?_
        rotate_left
        · intro ww hSw
          (try dsimp only at hSw)
          go_simp
          (try with_reducible rfl)
        simp only [Act.put, List.setIfInBounds_toArray, List.set_cons_zero, List.set_cons_succ]
        refine wpAnyH_take (i := 7) (oi := ⟨some 27, _, _, _, _, _⟩) (v := ?_) rfl (by kernel_rfl) (by kernel_rfl) (by kernel_rfl) (fun _ _ _ h => h) (Or.inl ⟨by rfl, ?_⟩) hHeld ?_
        rotate_left
        · intro ww hSw
          (try dsimp only at hSw)
          go_simp
          (try with_reducible rfl)
        simp only [Act.put, List.setIfInBounds_toArray, List.set_cons_zero, List.set_cons_succ]
        refine wpAnyH_take (i := 8) (oi := ⟨some 28, _, _, _, _, _⟩) (v := .pointer (some ⟨ba, oa + k * 3, none⟩)) rfl (by kernel_rfl) (by kernel_rfl) (by kernel_rfl) (fun _ _ _ h => h) (Or.inl ⟨by rfl, ?_⟩) hHeld ?_
        · intro ww hSw
          (try dsimp only at hSw)
          go_simp
        simp only [Act.put, List.setIfInBounds_toArray, List.set_cons_zero, List.set_cons_succ]
        refine wpAnyH_take (i := 9) (oi := ⟨some 29, _, _, _, _, _⟩) (v := ?_) rfl (by kernel_rfl) (by kernel_rfl) (by kernel_rfl) (fun _ _ _ h => h) (Or.inl ⟨by rfl, ?_⟩) hHeld ?_
        rotate_left
        · intro ww hSw
          (try dsimp only at hSw)
          go_simp
          (try with_reducible rfl)
        simp only [Act.put, List.setIfInBounds_toArray, List.set_cons_zero, List.set_cons_succ]
        refine wpAnyH_take (i := 10) (oi := ⟨some 30, _, _, _, _, _⟩) (v := .int .i64 x.2.1) rfl (by kernel_rfl) (by kernel_rfl) (by kernel_rfl) (fun _ _ _ h => h) (Or.inl ⟨by rfl, ?_⟩) hHeld ?_
        · intro ww hSw
          (try dsimp only at hSw)
          have zc := (prts_num (HL.out.below hSw) hlt x HX.out).2.1
          have zl := cell_lt zc
          go_simp
        simp only [Act.put, List.setIfInBounds_toArray, List.set_cons_zero, List.set_cons_succ]
        refine wpAnyH_take (i := 11) (oi := ⟨some 31, _, _, _, _, _⟩) (v := ?_) rfl (by kernel_rfl) (by kernel_rfl) (by kernel_rfl) (fun _ _ _ h => h) (Or.inl ⟨by rfl, ?_⟩) hHeld ?_
        rotate_left
        · intro ww hSw
          (try dsimp only at hSw)
          go_simp
          (try with_reducible rfl)
        simp only [Act.put, List.setIfInBounds_toArray, List.set_cons_zero, List.set_cons_succ]
        have HR6 := Lib.hid HR.out.drew
        have HW6 := Lib.hid (below_drew HW.out)
        generalize wr.drew = w6 at *
        obtain ⟨A9, c9, w9, hr9, row9, bel9, -, -, -⟩ := row_push HR6.out x.1 x.2.1 (by omega) HW6.out.size (s := w6.heap.size) rfl
        rw [hq] at hr9
        have HR9 := Lib.hid hr9
        have HW9 := Lib.hid (bel9 w (Nat.le_refl _) HW6.out)
        have HRW9 := Lib.hid row9
        clear hr9 row9 bel9
        refine wpAnyH_ready (rs := [12]) (by kernel_rfl) (by simp) ?_
        refine AllReadyH.cons (o := ⟨some 32, _, _, _, _, _⟩) rfl (fun K hK => ?_) AllReadyH.nil
        rw [if_pos (by rfl)]
        refine wp_build_sp x.1 x.2.1 rfl rfl ?_
        refine hK.out _ _ ?_ (fun hHeld => ?_)
        · (try dsimp only)
          exact bel_alloc HW6.out _
        clear hK K
        (try simp only [Act.put, List.setIfInBounds_toArray, List.set_cons_zero, List.set_cons_succ])
        refine wpAnyH_ready (rs := [13]) (by kernel_rfl) (by simp) ?_
        refine AllReadyH.cons (o := ⟨some 33, _, _, _, _, _⟩) rfl (fun K hK => ?_) AllReadyH.nil
        rw [if_pos (by rfl)]
        refine qwp_append_run HR9.out rfl rfl rfl ?_
        refine hK.out _ _ ?_ (fun hHeld => ?_)
        · (try dsimp only)
          exact HW9.out
        clear hK K
        (try simp only [Act.put, List.setIfInBounds_toArray, List.set_cons_zero, List.set_cons_succ])
        refine wpAnyH_take (i := 14) (oi := ⟨some 5, _, _, _, _, _⟩) (v := ?_) rfl (by kernel_rfl) (by kernel_rfl) (by kernel_rfl) (fun _ _ _ h => h) (Or.inl ⟨by rfl, ?_⟩) hHeld ?_
        rotate_left
        · intro ww hSw
          (try dsimp only at hSw)
          go_simp
          (try with_reducible rfl)
        simp only [Act.put, List.setIfInBounds_toArray, List.set_cons_zero, List.set_cons_succ]
        refine wpAnyH_done (by kernel_rfl) ?_ _
        refine NoPanic.normal ?_
        go_wp2
        go_roundw
        case rel => exact ⟨k + 1, A9, c9, q + 1, by omega, by go_num, rfl, by rw [HNX.out, HP.out, List.length_append, hq]; rfl, Lib.hid (by rw [HNX.out, HP.out]; exact HRW9.out), HW9⟩
        case measure => simp [intOf]; omega
      · have hk' : (x.2.2 == cat) = false := beq_eq_false_iff_ne.2 hk
        have HP : Hid ((if x.2.2 = cat then [(x.1, x.2.1)] else []) = ([] : List (Int × Int))) := by show _ = _; rw [if_neg hk]
        go_wp2
        go_roundw
        case rel => exact ⟨k + 1, B, d, q, by omega, by go_num, rfl, by rw [HNX.out, HP.out, List.append_nil]; exact hq, Lib.hid (by rw [HNX.out, HP.out, List.append_nil]; exact HR.out), HW⟩
        case measure => simp [intOf]; omega
    · obtain rfl : k = n := by omega
      have e : l.take k = l := List.take_of_length_le (by omega)
      rw [e] at HR hq
      subst hq
      go_wp2
      go_ret
      exact ⟨B, d, rfl, HR.out, HW.out⟩
/-! ### Totals -/
noncomputable def szP (l : List PartP) (c : Nat) : Int := sz (In (spansP l c))
noncomputable def totV (l : List PartP) (k i : Nat) : Value := if i < k then .int .i64 (szP l i) else .int .i64 0
noncomputable def totC (l : List PartP) (k : Nat) : Array Value := #[totV l k 0, totV l k 1, totV l k 2, totV l k 3, totV l k 4, totV l k 5, totV l k 6]
theorem tot_zero (l : List PartP) : totC l 0 = #[.int .i64 0, .int .i64 0, .int .i64 0, .int .i64 0, .int .i64 0, .int .i64 0, .int .i64 0] := by simp [totC, totV]
theorem tot_full (l : List PartP) : totC l 7 = #[.int .i64 (szP l 0), .int .i64 (szP l 1), .int .i64 (szP l 2), .int .i64 (szP l 3), .int .i64 (szP l 4), .int .i64 (szP l 5), .int .i64 (szP l 6)] := by simp [totC, totV]
theorem tot_step (l : List PartP) (k : Nat) (h : k < 7) : (totC l k).setIfInBounds k (.int .i64 (szP l k)) = totC l (k + 1) := by
  have : k = 0 ∨ k = 1 ∨ k = 2 ∨ k = 3 ∨ k = 4 ∨ k = 5 ∨ k = 6 := by omega
  rcases this with rfl | rfl | rfl | rfl | rfl | rfl | rfl <;> simp [totC, totV]
theorem tot_one (l : List PartP) (k : Nat) : (totC l k).all (·.oneCell') = true := by
  have h : ∀ i, (totV l k i).oneCell' = true := fun i => by unfold totV; split <;> rfl
  simp [totC, h]
theorem tot_at (l : List PartP) (k i : Nat) (h : i < 7) : (totC l k)[i]? = some (totV l k i) := by
  have : i = 0 ∨ i = 1 ∨ i = 2 ∨ i = 3 ∨ i = 4 ∨ i = 5 ∨ i = 6 := by omega
  rcases this with rfl | rfl | rfl | rfl | rfl | rfl | rfl <;> rfl
theorem wpList_load7 {ops : Array Oper} {rest : List Oper} {o : Oper} {a : Act} {w : World} {Q : Exit → Act → World → Prop} (hgd : o.guard = none) (x : Operand) (ho : o.op = .load 37 x)
    (g : Nat) (hx : a.eval x = .pointer (some ⟨g, 0, none⟩)) (cs : Array Value) (hg : Has w g cs) (hs : cs.size = 7)
    (h : wpList Tryz.prog ops Q rest (a.put o.dst (.agg cs)) w) : wpList Tryz.prog ops Q (o :: rest) a w := by
  obtain ⟨t, hg⟩ := hg
  exact wpList_load_row hgd _ x ho g hx t cs (0, 0) _ hg Tryz.underlying37 rfl (by rw [hs]; kernel_rfl) h
theorem wpList_store7 {ops : Array Oper} {rest : List Oper} {o : Oper} {a : Act} {w : World} {Q : Exit → Act → World → Prop} (hgd : o.guard = none) (x y : Operand) (ho : o.op = .store 37 x y)
    (g : Nat) (cs : Array Value) (hx : a.eval x = .pointer (some ⟨g, 0, none⟩)) (hy : a.eval y = .agg cs) (old : Array Value) (hg : Has w g old) (hold : old.size = 7) (hs : cs.size = 7) (h1 : cs.all (·.oneCell') = true)
    (h : wpList Tryz.prog ops Q rest (a.put o.dst undef) (w.setRow g cs)) : wpList Tryz.prog ops Q (o :: rest) a w := by
  obtain ⟨t, hg⟩ := hg
  exact wpList_store_row hgd _ x y ho g cs hx hy t old hg (by rw [hs]; kernel_rfl) (by rw [hold, hs]) h1 h
theorem has_set7 {w : World} {g : Nat} {old cs : Array Value} (h : Has w g old) : Has (w.setRow g cs) g cs := by
  obtain ⟨t, h⟩ := h
  exact ⟨t, setRow_heap _ _ _ _ _ _ h⟩
theorem seven_run {fn : Func} {p : Tmp} (h : fn.results = #[.cell p 37]) (tmps : Array Value) (w : World) (g : Nat) (cs : Array Value) (hp : tmps.getD p undef = .pointer (some ⟨g, 0, none⟩)) (hg : Has w g cs) (hs : cs.size = 7) :
    (results fn tmps).run Tryz.prog w = .ok (.agg cs) w := by
  obtain ⟨t, hg⟩ := hg
  exact results_cell_row h tmps w g t cs (0, 0) _ hp hg Tryz.underlying37 rfl (by rw [hs]; kernel_rfl)
theorem bel_setRow7 {B : Nat} {a w : World} (h : Below B a w) {g : Nat} (hg : B ≤ g) (cs : Array Value) : Below B a (w.setRow g cs) :=
  ⟨h.os, h.tape, h.output, by simp [World.setRow]; exact h.size, fun b hb => (setRow_other w g b cs (by omega)).trans (h.block b hb)⟩
set_option maxHeartbeats 8000000 in
theorem rtotals_c (A : Option Addr) (n c : Nat) (l : List PartP) (w : World) (h : Prts w A n c l) (hF : ∀ s ∈ l, FitP s) (hn : n ≤ 999999999) (hs : ∀ c : Nat, c < 7 → (spansP l (c : Int)).length ≤ 100000000) :
    Calls Tryz.prog 14 #[.slice A n c] w fun e w' => e = .returned (.agg (totC l 7)) ∧ Below w.heap.size w w' := by
  have HL := Lib.hid h
  have HSP := Lib.hid (fun cat W (hW : Prts W A n c l) => rspans_c A n c l cat W hW (by omega))
  have HSZ := Lib.hid (fun (cat : Nat) (hc : cat < 7) W B d (hW : Spans W B (spansP l (cat : Int))) => rsize_any B d (spansP l (cat : Int)) W hW (hs cat hc))
  have HFT := Lib.hid (fun cat => spansP_fits hF cat)
  clear hF hs
  obtain ⟨w1, hw1⟩ : ∃ w1, (w.alloc (.cells #[.int .i64 0, .int .i64 0, .int .i64 0, .int .i64 0, .int .i64 0, .int .i64 0, .int .i64 0] 37)).alloc (.cells #[.int .i64 0, .int .i64 0, .int .i64 0, .int .i64 0, .int .i64 0, .int .i64 0, .int .i64 0] 37) = w1 := ⟨_, rfl⟩
  have b1 : Below w.heap.size w w1 := by rw [← hw1]; exact bel_alloc (bel_alloc (Below.refl _ _) _) _
  have H2 : Has w1 w.heap.size #[.int .i64 0, .int .i64 0, .int .i64 0, .int .i64 0, .int .i64 0, .int .i64 0, .int .i64 0] := by rw [← hw1]; exact (Has.new _ _ _ rfl).alloc _
  have H3 : Has w1 (w.heap.size + 1) (totC l 0) := by rw [← hw1, tot_zero]; exact Has.new _ _ _ (by simp)
  obtain ⟨g3, hg3⟩ : ∃ g, w.heap.size + 1 = g := ⟨_, rfl⟩
  rw [hg3] at H3
  have hgg : w.heap.size < g3 := by omega
  have HW1 := Lib.hid b1
  have H2 := Lib.hid H2
  have H3 := Lib.hid H3
  clear b1 h
  go_enter Tryz.func14, Tryz.ntmps14
  go_wp2
  clear hw1 hg3
  go_loopw [4] (fun i wr => ∃ (k : Nat), k ≤ 7 ∧ i = .int .i64 k ∧ Hid (Has wr g3 (totC l k)) ∧ Hid (Kept (fun b => b < w1.heap.size ∧ b ≠ g3) w1 wr)) (fun i _ => 7 - (intOf i).toNat)
  case atStart => exact ⟨0, by omega, rfl, H3, Lib.hid (Kept.refl _ _)⟩
  case round =>
    obtain ⟨k, hk, rfl, HT, HK⟩ := hrel
    have s2 := H2.out.size
    have s3 := H3.out.size
    have HWr : Hid (Below w.heap.size w wr) := HW1.out.trans (HK.out.below fun i hi => ⟨by omega, by omega⟩)
    by_cases hlt : k < 7
    · have hLr := HL.out.below HWr.out
      have HSPr := Lib.hid (HSP.out (k : Int) wr hLr)
      have i0 : (0 : Int) ≤ (k : Int) := by omega
      have i1 : (k : Int) < 7 := by omega
      clear hLr
      go_wp2_with fail
      refine HSPr.out.mono ?_
      rintro e w2 ⟨B, d, rfl, r2, b2⟩
      have HT2 := Lib.hid (HT.out.below b2)
      have HB2 := Lib.hid b2
      have HSZ2 := Lib.hid (HSZ.out k hlt w2 B d (r2.spans (HFT.out _)))
      clear r2 b2
      go_wp2_with fail
      refine HSZ2.out.mono ?_
      rintro e w4 ⟨rfl, b4⟩
      have HT4 := HT2.out.below b4
      have HB4 := Lib.hid (bel_on HB2.out b4)
      have q := HT4.cell k (tot_at l k k hlt)
      have q2 := HT4.frozen k
      have z := cell_lt q
      have HT5 := Lib.hid (HT4.set k (.int .i64 (sz (In (spansP l (k : Int))))))
      have hzr := HT.out.size
      clear HT4 b4
      go_wp2
      go_roundw
      case rel =>
        refine ⟨k + 1, by omega, by go_num, Lib.hid ?_, Lib.hid ?_⟩
        · rw [← tot_step l k hlt]
          exact HT5.out
        · exact (HK.out.on ((Kept.of_below HB4.out fun i hi => Nat.lt_of_lt_of_le hi.1 HK.out.size))).setn (p := ⟨g3, k, none⟩) (fun h => h.2 rfl) _
      case measure => simp [intOf]; omega
    · obtain rfl : k = 7 := by omega
      have HT7 := HT.out
      have H27 := H2.out.kept (F := fun b => b < w1.heap.size ∧ b ≠ g3) ⟨by omega, by omega⟩ HK.out
      go_wp2_with (first | refine wpList_load7 rfl _ rfl g3 rfl (totC l 7) HT7 rfl ?_ | refine wpList_store7 rfl _ _ rfl w.heap.size (totC l 7) rfl rfl _ H27 rfl rfl (tot_one l 7) ?_)
      refine bodyPost_ret (seven_run Tryz.results14 _ _ w.heap.size (totC l 7) rfl (has_set7 H27) rfl) rfl ?_
      exact ⟨rfl, bel_setRow7 HWr.out (Nat.le_refl _) _⟩
end Go.Proofs.YtdlimgpmmkcgmaaGreat

namespace Go.Proofs.YtdlimgpmmkcgmaaGreat
open Go.RowKit
set_option linter.unusedSimpArgs false
set_option maxRecDepth 20000

theorem int_size7 (w : World) : (sizeOf 3).run Tryz.prog w = .ok 1 w := by kernel_rfl
theorem eq7_self (a0 a1 a2 a3 a4 a5 a6 : Int) (w : World) : (Op.equalIn 10000 37 (.agg #[.int .i64 a0, .int .i64 a1, .int .i64 a2, .int .i64 a3, .int .i64 a4, .int .i64 a5, .int .i64 a6]) (.agg #[.int .i64 a0, .int .i64 a1, .int .i64 a2, .int .i64 a3, .int .i64 a4, .int .i64 a5, .int .i64 a6])).run Tryz.prog w = .ok true w := by
  have p0 : ∀ w, (part 3 #[.int .i64 a0, .int .i64 a1, .int .i64 a2, .int .i64 a3, .int .i64 a4, .int .i64 a5, .int .i64 a6] 0).run Tryz.prog w = .ok (.int .i64 a0) w := fun w => by kernel_rfl
  have p1 : ∀ w, (part 3 #[.int .i64 a0, .int .i64 a1, .int .i64 a2, .int .i64 a3, .int .i64 a4, .int .i64 a5, .int .i64 a6] 1).run Tryz.prog w = .ok (.int .i64 a1) w := fun w => by kernel_rfl
  have p2 : ∀ w, (part 3 #[.int .i64 a0, .int .i64 a1, .int .i64 a2, .int .i64 a3, .int .i64 a4, .int .i64 a5, .int .i64 a6] 2).run Tryz.prog w = .ok (.int .i64 a2) w := fun w => by kernel_rfl
  have p3 : ∀ w, (part 3 #[.int .i64 a0, .int .i64 a1, .int .i64 a2, .int .i64 a3, .int .i64 a4, .int .i64 a5, .int .i64 a6] 3).run Tryz.prog w = .ok (.int .i64 a3) w := fun w => by kernel_rfl
  have p4 : ∀ w, (part 3 #[.int .i64 a0, .int .i64 a1, .int .i64 a2, .int .i64 a3, .int .i64 a4, .int .i64 a5, .int .i64 a6] 4).run Tryz.prog w = .ok (.int .i64 a4) w := fun w => by kernel_rfl
  have p5 : ∀ w, (part 3 #[.int .i64 a0, .int .i64 a1, .int .i64 a2, .int .i64 a3, .int .i64 a4, .int .i64 a5, .int .i64 a6] 5).run Tryz.prog w = .ok (.int .i64 a5) w := fun w => by kernel_rfl
  have p6 : ∀ w, (part 3 #[.int .i64 a0, .int .i64 a1, .int .i64 a2, .int .i64 a3, .int .i64 a4, .int .i64 a5, .int .i64 a6] 6).run Tryz.prog w = .ok (.int .i64 a6) w := fun w => by kernel_rfl
  have q : ∀ (a : Int) (w : World), (Op.equalIn 9999 3 (.int .i64 a) (.int .i64 a)).run Tryz.prog w = .ok true w := fun a w => by
    rw [show (9999 : Nat) = 9998 + 1 from rfl, run_equalIn_int w 9998 3 .i64 .i64 a a Tryz.underlying3]
    simp
  rw [show (10000 : Nat) = 9998 + 1 + 1 from rfl, Op.equalIn]
  simp only [Sem.run_bind, run_underlying Tryz.underlying37, Result.andThen_ok, int_size7]
  simp [List.range', Sem.run_bind, p0, p1, p2, p3, p4, p5, p6, q]
theorem run_eql7 (a0 a1 a2 a3 a4 a5 a6 : Int) (w : World) : (binOp .eql 37 (.agg #[.int .i64 a0, .int .i64 a1, .int .i64 a2, .int .i64 a3, .int .i64 a4, .int .i64 a5, .int .i64 a6]) (.agg #[.int .i64 a0, .int .i64 a1, .int .i64 a2, .int .i64 a3, .int .i64 a4, .int .i64 a5, .int .i64 a6])).run Tryz.prog w = .ok (.bool true) w := by
  rw [run_eql_struct, eq7_self]
  rfl
theorem guard7 : Tryz.prog.eqGuardType Tryz.prog.depth 37 = false := by kernel_rfl
theorem exec_eql7 {o : Oper} {ρ : Operand → Value} {ww : World} {x y : Operand} {t2 : TypeId} (a0 a1 a2 a3 a4 a5 a6 : Int) (ho : o.op = .binOp .eql 37 x y t2) (hx : ρ x = .agg #[.int .i64 a0, .int .i64 a1, .int .i64 a2, .int .i64 a3, .int .i64 a4, .int .i64 a5, .int .i64 a6]) (hy : ρ y = .agg #[.int .i64 a0, .int .i64 a1, .int .i64 a2, .int .i64 a3, .int .i64 a4, .int .i64 a5, .int .i64 a6]) :
    (execOp ρ o).run Tryz.prog ww = .ok (.value (.bool true)) ww := by
  unfold execOp
  simp only [ho, hx, hy, Sem.run_bind, run_eqGuard_agg ww .eql 37 x y _ _ guard7, run_eql7, Result.andThen_ok, Sem.run_pure, Sem.run_map]
end Go.Proofs.YtdlimgpmmkcgmaaGreat
