/-
  The calls whose answers the document fixes, at the head of layer 9's laws.
-/
import Derived.Test.YtcnekicfblbafaaWayD
namespace Go.Proofs.Ytcnekicfblbafaa
open Go.RowKit
set_option linter.unusedVariables false
set_option linter.unusedSimpArgs false
set_option maxRecDepth 20000

theorem wpList_load_sg {ops : Array Oper} {rest : List Oper} {o : Oper} {a : Act} {w : World} {Q : Exit → Act → World → Prop} (hgd : Region.wanted o (yielded ops a.tmps) = true) (x : Operand) (ho : o.op = .load 30 x)
    (g : Nat) (hx : a.eval x = .pointer (some ⟨g, 0, none⟩)) (cs : Array Value) (hg : Has w g cs) (hs : cs.size = 23)
    (h : wpList Try.prog ops Q rest (a.put o.dst (.agg cs)) w) : wpList Try.prog ops Q (o :: rest) a w := by
  refine wpList_step fun K hK => ?_
  rw [if_pos hgd]
  obtain ⟨t, hg⟩ := hg
  exact wp_load_row _ x ho g hx t cs (0, 0) _ hg Try.underlying30 rfl (by rw [hs]; kernel_rfl) (hK _ _ h)
def aw9P : SetP := ⟨4, [[0, 1, 5], [1, 2, 4], [0, 2, 10]], 1, 1, [], [], [], 0, 1, 60, 0, 0, 0, 0, 0, 0, 0, 0, [1], 0, 0, 0, []⟩
def aw9C (N : Nat) : Array Value := #[.int .i64 4, .slice (some ⟨N, 0, none⟩) 3 3, .int .i64 1, .int .i64 1, .slice none 0 0, .slice none 0 0, .slice none 0 0, .int .i64 0, .int .i64 1, .int .i64 60, .int .i64 0, .int .i64 0, .int .i64 0, .int .i64 0, .int .i64 0, .int .i64 0, .int .i64 0, .int .i64 0, .slice (some ⟨N + 1, 0, none⟩) 1 1, .int .i64 0, .int .i64 0, .int .i64 0, .slice none 0 0]
theorem aw9C_V (N : Nat) : setV aw9P (some ⟨N, 0, none⟩) none none none (some ⟨N + 1, 0, none⟩) none 3 0 0 0 1 0 = .agg (aw9C N) := rfl
theorem aw9_check : checkB aw9P = true := by decide +kernel
theorem aw9_may : aw9P.May := check_iff.1 aw9_check
theorem aw9_fit : aw9P.Fit := by constructor <;> simp [aw9P, In64]
theorem none9_check : checkB SetP.none = false := by decide +kernel
theorem none9_may : ¬ SetP.none.May := fun h => by have := check_iff.2 h; rw [none9_check] at this; cases this
theorem none9_fit : SetP.none.Fit := by constructor <;> simp [SetP.none, In64]
theorem tab_rows {w : World} {g k n : Nat} {t : Rows2} (h : Has w g (ints .i64 t.flatten).toArray) (hk : ∀ r ∈ t, r.length = k) (hn : t.length = n) (h6 : n ≤ 1000) (hz : ∀ r ∈ t, ∀ z ∈ r, In64 z) : Tab k w (some ⟨g, 0, none⟩) n n t := by
  refine ⟨⟨?_, .inr ⟨_, rfl, fun j u hu => ?_⟩⟩, hn, hk, hz, by omega, by omega⟩
  · rw [ints, List.length_map, rows_len t hk, hn, Nat.mul_comm]
  · rw [tab_add, Nat.zero_add]
    refine h.cell j ?_
    simpa using hu
theorem dist9 : roundsE (edgesOf aw9P.ways) 4 (startL 4 0) = [0, 5, 9, -1] ∧ roundsE (edgesOf aw9P.ways) 4 (startL 4 2) = [9, 4, 0, -1] := by decide +kernel
theorem among9 : Among 4 (edgesOf aw9P.ways) := edges_among (p := 4) rfl aw9_may.ways.2
theorem longs9 : Longs (edgesOf aw9P.ways) := edges_long aw9_may.ways.2
theorem dist9_at : distI (edgesOf aw9P.ways) 0 0 = 0 ∧ distI (edgesOf aw9P.ways) 0 1 = 5 ∧ distI (edgesOf aw9P.ways) 0 2 = 9 ∧ distI (edgesOf aw9P.ways) 0 3 = -1 ∧ distI (edgesOf aw9P.ways) 2 0 = 9 := by
  have h0 := rounds_list longs9 among9 (a := 0) (by omega)
  have h2 := rounds_list longs9 among9 (a := 2) (by omega)
  rw [dist9.1] at h0
  rw [dist9.2] at h2
  simp only [List.range_succ, List.range_zero, List.nil_append, List.cons_append, List.map_cons, List.map_nil, List.cons.injEq, and_true] at h0 h2
  exact ⟨h0.1.symm, h0.2.1.symm, h0.2.2.1.symm, h0.2.2.2.symm, h2.1.symm⟩
set_option maxHeartbeats 8000000 in
theorem awake9 (w : World) : Calls Try.prog 8 #[] w fun e w' => e = .returned (.bool true) ∧ Below w.heap.size w w' := by
  have H1 := Lib.hid (setV_cells _ _ _ _ _ _ _ _ _ _ _ _ _ _ (aw9C_V w.heap.size))
  go_enter Try.func8, Try.ntmps8
  have HS : Hid (SetC (((w.alloc (.cells #[.int .i64 0, .int .i64 1, .int .i64 5, .int .i64 1, .int .i64 2, .int .i64 4, .int .i64 0, .int .i64 2, .int .i64 10] 39)).alloc (.cells #[.int .i64 1] 3)).alloc (.cells (aw9C w.heap.size) 30)) aw9P (aw9C w.heap.size)) :=
    ⟨_, _, _, _, _, _, _, _, _, _, _, _, aw9C_V w.heap.size, tab_rows (t := [[0, 1, 5], [1, 2, 4], [0, 2, 10]]) (((Has.new w _ _ rfl).alloc _).alloc _) (by simp) rfl (by decide) (by simp [In64]), Tab.nil_, Tab.nil_, Tab.nil_, tab_rows (t := [[1]]) ((Has.new _ _ _ (by simp)).alloc _) (by simp) rfl (by decide) (by simp [In64]), Tab.nil_⟩
  have HB : Hid (Has (((w.alloc (.cells #[.int .i64 0, .int .i64 1, .int .i64 5, .int .i64 1, .int .i64 2, .int .i64 4, .int .i64 0, .int .i64 2, .int .i64 10] 39)).alloc (.cells #[.int .i64 1] 3)).alloc (.cells (aw9C w.heap.size) 30)) (w.heap.size + 1 + 1) (aw9C w.heap.size)) := Has.new _ _ _ (by simp)
  have hb0 := bel_alloc (bel_alloc (bel_alloc (Below.refl w.heap.size w) (.cells #[.int .i64 0, .int .i64 1, .int .i64 5, .int .i64 1, .int .i64 2, .int .i64 4, .int .i64 0, .int .i64 2, .int .i64 10] 39)) (.cells #[.int .i64 1] 3)) (.cells (aw9C w.heap.size) 30)
  have HZ := Lib.hid H1.out.1
  go_wp2_with (first | refine wpList_laidS (aw9C w.heap.size) 1 _ _ rfl rfl rfl rfl rfl rfl rfl rfl H1.out.1 H1.out.2 ?_ | refine wpList_load_has (by rfl) _ rfl _ rfl (aw9C w.heap.size) (Has.new _ _ _ rfl) H1.out.1 ?_)
  refine (wtable_may HS.out aw9_fit aw9_may 4 rfl _ rfl).mono ?_
  rintro e w1 ⟨G, rfl, hG, ⟨gs, hgs, hT⟩, b1⟩
  replace HS := Lib.hid (HS.out.below b1)
  replace HB := Lib.hid (HB.out.below b1)
  replace b1 := bel_on hb0 b1
  have HBW := Lib.hid b1
  obtain ⟨d0, d1, d2, d3, d20⟩ := dist9_at
  have k := hT.ptr (i := 0) (by omega)
  have k0 := hT.at (i := 0) (j := 0) (by omega) (by omega)
  have k1 := hT.at (i := 0) (j := 1) (by omega) (by omega)
  have k2 := hT.at (i := 0) (j := 2) (by omega) (by omega)
  have k3 := hT.at (i := 0) (j := 3) (by omega) (by omega)
  rw [d0] at k0
  rw [d1] at k1
  rw [d2] at k2
  rw [d3] at k3
  have hk := cell_lt k
  have hk0 := cell_lt k0
  have D1 : Hid (farV aw9P 2 0 = 9) := (farV_in aw9_may (P := 4) rfl (a := 2) (b := 0) (by omega) (by omega)).trans d20
  have D2 : Hid (farV aw9P 4 0 = -1) := farV_out (.inr (.inr (.inl (by decide))))
  clear d0 d1 d2 d3 d20 hT hgs hG H1 hb0 b1
  generalize aw9C w.heap.size = cs at *
  go_upto_region 5 with fail
  refine wp_region_lit ?_
  iterate 31 (refine wpList_step (fun K hK => ?_); go_simp; refine hK _ _ ?_; clear hK K; (try simp only [Act.put, List.setIfInBounds_toArray, List.set_cons_zero, List.set_cons_succ]))
  refine wpList_load_sg (by rfl) _ rfl (w.heap.size + 1 + 1) rfl cs HB.out HZ.out ?_
  (try simp only [Act.put, List.setIfInBounds_toArray, List.set_cons_zero, List.set_cons_succ])
  clear k k0 k1 k2 k3 hk hk0
  refine wpList_step (fun K hK => ?_)
  go_simp
  go_at_call 13
  refine (wdist_c HS.out aw9_fit 2 0 9 D1.out).mono ?_
  rintro e_r w2 ⟨rfl, b_⟩
  replace HS := Lib.hid (HS.out.below b_)
  replace HB := Lib.hid (HB.out.below b_)
  replace HBW := Lib.hid (bel_on HBW.out b_)
  clear b_
  refine hK _ _ ?_
  clear hK K
  (try simp only [Act.put, List.setIfInBounds_toArray, List.set_cons_zero, List.set_cons_succ])
  iterate 3 (refine wpList_step (fun K hK => ?_); go_simp; refine hK _ _ ?_; clear hK K; (try simp only [Act.put, List.setIfInBounds_toArray, List.set_cons_zero, List.set_cons_succ]))
  refine wpList_load_sg (by rfl) _ rfl (w.heap.size + 1 + 1) rfl cs HB.out HZ.out ?_
  (try simp only [Act.put, List.setIfInBounds_toArray, List.set_cons_zero, List.set_cons_succ])
  refine wpList_step (fun K hK => ?_)
  go_simp
  go_at_call 13
  refine (wdist_c HS.out aw9_fit 4 0 (-1) D2.out).mono ?_
  rintro e_r w3 ⟨rfl, b_⟩
  replace HS := Lib.hid (HS.out.below b_)
  replace HB := Lib.hid (HB.out.below b_)
  replace HBW := Lib.hid (bel_on HBW.out b_)
  clear b_
  refine hK _ _ ?_
  clear hK K
  (try simp only [Act.put, List.setIfInBounds_toArray, List.set_cons_zero, List.set_cons_succ])
  iterate 4 (refine wpList_step (fun K hK => ?_); go_simp; refine hK _ _ ?_; clear hK K; (try simp only [Act.put, List.setIfInBounds_toArray, List.set_cons_zero, List.set_cons_succ]))
  refine wpList_step (fun K hK => ?_)
  go_simp
  go_at_call 11
  refine (wtable_bad (s := SetP.none) (cs := z23) ⟨none, none, none, none, none, none, 0, 0, 0, 0, 0, 0, rfl, ⟨Tab.nil_, Tab.nil_, Tab.nil_, Tab.nil_, Tab.nil_, Tab.nil_⟩⟩ none9_fit none9_may).mono ?_
  rintro e_r w4 ⟨rfl, b_⟩
  replace HS := Lib.hid (HS.out.below b_)
  replace HB := Lib.hid (HB.out.below b_)
  replace HBW := Lib.hid (bel_on HBW.out b_)
  clear b_
  refine hK _ _ ?_
  clear hK K
  (try simp only [Act.put, List.setIfInBounds_toArray, List.set_cons_zero, List.set_cons_succ])
  iterate 6 (refine wpList_step (fun K hK => ?_); go_simp; refine hK _ _ ?_; clear hK K; (try simp only [Act.put, List.setIfInBounds_toArray, List.set_cons_zero, List.set_cons_succ]))
  refine wpList_nil ?_
  go_wp2
  go_ret
  exact ⟨rfl, HBW.out⟩
end Go.Proofs.Ytcnekicfblbafaa
