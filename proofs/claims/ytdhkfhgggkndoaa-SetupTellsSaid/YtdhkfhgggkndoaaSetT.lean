/-
  Package setup: what reads, shown ratios, ways, tiers, numbers.
-/
import Derived.Test.YtdhkfhgggkndoaaSetS
import Derived.Test.YtdhkfhgggkndoaaOrders
namespace Go.Proofs.Ytdhkfhgggkndoaa
open Go.RowKit
set_option linter.unusedVariables false
set_option linter.unusedSimpArgs false
set_option maxRecDepth 20000
set_option maxHeartbeats 1000000 in
theorem rshow_part (R0 : World) (F : Nat → Prop) (g q o p2 p4 : Nat) (cs : Array Value) (l : List (BitVec 8)) (w : World) (hcs : Has w q cs) (hz : ∀ j, j < 2 → cs[o + j]? = some (.int .i64 0)) (hq : F q) (hqo : R0.heap.size ≤ q)
    (hF2 : F p2) (h2q : p2 ≠ q) (h2 : w.cell? ⟨p2, 0, none⟩ = some (.iface 65 (.pointer (some ⟨g, 0, none⟩)))) (hF4 : F p4) (h4q : p4 ≠ q) (h4 : w.cell? ⟨p4, 0, none⟩ = some (.func (.func 61) #[] #[.pointer (some ⟨p2, 0, none⟩)]))
    (h : RPen R0 F g l w) (hl : l.length ≤ 1000000) :
    Calls Try.prog 62 #[.pointer (some ⟨q, o, none⟩), .pointer (some ⟨p4, 0, none⟩)] w fun e w' => e = .returned (.tuple #[]) ∧ Kept (fun b => F b ∧ b ≠ q) w w' ∧ Has w' q (setN cs o (rdk 2 l).1) ∧ RPen R0 F g (rdk 2 l).2 w' := by
  have eg : ∀ args w, (callFunc 61 args).run Try.prog w = .ok (.enter 61 args) w := enters_of Try.func61 (by kernel_rfl) rfl
  have hlt4 := cell_lt h4
  have hltq := h.low q hq
  have HN := Lib.hid (fun (wx : World) (hx : Below w.heap.size w wx) (cells : Array Value) (t : TypeId) (hcl : ∀ j, j < 2 → cells[j]? = some (.pointer (some ⟨q, o + j, none⟩))) => rnums_new R0 F g q o 2 p2 cs l wx cells t hcl (by omega) (hcs.below hx) hz hq hqo hF2 h2q ((hx.cell (p := ⟨p2, 0, none⟩) (h.low p2 hF2)).trans h2) (h.keep hx) hl)
  have H4 := Lib.hid h4
  have HW := Lib.hid h
  clear h4 h hz h2 hcs
  go_enter Try.func62, Try.ntmps62
  refine wp_region_noPanic ?_
  refine wp_region_held_drew (S := fun w' => Kept (fun b => F b ∧ b ≠ q) w w') (by kernel_rfl) (Kept.of_below (below_drew (Below.refl _ _)) (fun b hb => HW.out.low b hb.1)) (fun hHeld => ?_)
  refine wpAnyH_take (i := 0) (oi := ⟨some 3, _, _, _, _, _⟩) (v := .func (.func 61) #[] #[.pointer (some ⟨p2, 0, none⟩)]) rfl (by kernel_rfl) (by kernel_rfl) (by kernel_rfl) (fun _ _ _ h => h) (Or.inl ⟨by rfl, ?_⟩) hHeld ?_
  · intro ww hSw
    (try dsimp only at hSw)
    have hcl := (cell_kept hSw (p := ⟨p4, 0, none⟩) ⟨hF4, h4q⟩).trans H4.out
    have hcs := cell_lt hcl
    go_simp
  simp only [Act.put, List.setIfInBounds_toArray, List.set_cons_zero, List.set_cons_succ]
  refine wpAnyH_take (i := 1) (oi := ⟨some 4, _, _, _, _, _⟩) (v := ?_) rfl (by kernel_rfl) (by kernel_rfl) (by kernel_rfl) (fun _ _ _ h => h) (Or.inl ⟨by rfl, ?_⟩) hHeld ?_
  rotate_left
  · intro ww hSw
    (try dsimp only at hSw)
    go_simp
    (try with_reducible rfl)
  simp only [Act.put, List.setIfInBounds_toArray, List.set_cons_zero, List.set_cons_succ]
  refine wpAnyH_take (i := 2) (oi := ⟨some 5, _, _, _, _, _⟩) (v := ?_) rfl (by kernel_rfl) (by kernel_rfl) (by kernel_rfl) (fun _ _ _ h => h) (Or.inl ⟨by rfl, ?_⟩) hHeld ?_
  rotate_left
  · intro ww hSw
    (try dsimp only at hSw)
    go_simp
    (try with_reducible rfl)
  simp only [Act.put, List.setIfInBounds_toArray, List.set_cons_zero, List.set_cons_succ]
  refine wpAnyH_take (i := 3) (oi := ⟨some 6, _, _, _, _, _⟩) (v := ?_) rfl (by kernel_rfl) (by kernel_rfl) (by kernel_rfl) (fun _ _ _ h => h) (Or.inl ⟨by rfl, ?_⟩) hHeld ?_
  rotate_left
  · intro ww hSw
    (try dsimp only at hSw)
    go_simp
    (try with_reducible rfl)
  simp only [Act.put, List.setIfInBounds_toArray, List.set_cons_zero, List.set_cons_succ]
  refine wpAnyH_take (i := 4) (oi := ⟨some 7, _, _, _, _, _⟩) (v := ?_) rfl (by kernel_rfl) (by kernel_rfl) (by kernel_rfl) (fun _ _ _ h => h) (Or.inl ⟨by rfl, ?_⟩) hHeld ?_
  rotate_left
  · intro ww hSw
    (try dsimp only at hSw)
    go_simp
    (try with_reducible rfl)
  simp only [Act.put, List.setIfInBounds_toArray, List.set_cons_zero, List.set_cons_succ]
  refine wpAnyH_take (i := 5) (oi := ⟨some 8, _, _, _, _, _⟩) (v := ?_) rfl (by kernel_rfl) (by kernel_rfl) (by kernel_rfl) (fun _ _ _ h => h) (Or.inl ⟨by rfl, ?_⟩) hHeld ?_
  rotate_left
  · intro ww hSw
    (try dsimp only at hSw)
    go_simp
    (try with_reducible rfl)
  simp only [Act.put, List.setIfInBounds_toArray, List.set_cons_zero, List.set_cons_succ]
  refine wpAnyH_take (i := 6) (oi := ⟨some 9, _, _, _, _, _⟩) (v := ?_) rfl (by kernel_rfl) (by kernel_rfl) (by kernel_rfl) (fun _ _ _ h => h) (Or.inl ⟨by rfl, ?_⟩) hHeld ?_
  rotate_left
  · intro ww hSw
    (try dsimp only at hSw)
    go_simp
    (try with_reducible rfl)
  simp only [Act.put, List.setIfInBounds_toArray, List.set_cons_zero, List.set_cons_succ]
  refine wpAnyH_ready (rs := [7]) (by kernel_rfl) (by simp) ?_
  refine AllReadyH.cons (o := ⟨some 10, _, _, _, _, _⟩) rfl (fun K hK => ?_) AllReadyH.nil
  go_simp
  refine hK.out _ _ ?_ (fun hHeld => ?_)
  · (try dsimp only)
    exact Kept.alloc hHeld (fun b hb => HW.out.low b hb.1) _
  clear hK K
  (try simp only [Act.put, List.setIfInBounds_toArray, List.set_cons_zero, List.set_cons_succ])
  refine wpAnyH_ready (rs := [8]) (by kernel_rfl) (by simp) ?_
  refine AllReadyH.cons (o := ⟨some 11, _, _, _, _, _⟩) rfl (fun K hK => ?_) AllReadyH.nil
  go_simp
  go_at_call 61
  refine (HN.out w.drew (below_drew (Below.refl _ _)) _ _ (by intro j hj; rcases (show j = 0 ∨ j = 1 by omega) with rfl | rfl <;> rfl)).mono ?_
  rintro e_r w2 ⟨rfl, hk2, hh2, hw2⟩
  go_wp2_with fail
  refine hK.out _ _ ?_ (fun hHeld => ?_)
  · (try dsimp only)
    exact (Kept.of_below (below_drew (Below.refl _ _)) (fun b hb => HW.out.low b hb.1)).on hk2
  clear hK K
  (try simp only [Act.put, List.setIfInBounds_toArray, List.set_cons_zero, List.set_cons_succ])
  refine wpAnyH_done (by kernel_rfl) ?_ _
  refine NoPanic.normal ?_
  refine bodyPost_end (v := .tuple #[]) (by simp [results, Try.results62]) rfl ⟨rfl, (Kept.of_below (below_drew (Below.refl _ _)) (fun b hb => HW.out.low b hb.1)).on hk2, hh2, hw2⟩
set_option maxHeartbeats 1000000 in
theorem rshow_way (R0 : World) (F : Nat → Prop) (g q o p2 p4 : Nat) (cs : Array Value) (l : List (BitVec 8)) (w : World) (hcs : Has w q cs) (hz : ∀ j, j < 3 → cs[o + j]? = some (.int .i64 0)) (hq : F q) (hqo : R0.heap.size ≤ q)
    (hF2 : F p2) (h2q : p2 ≠ q) (h2 : w.cell? ⟨p2, 0, none⟩ = some (.iface 65 (.pointer (some ⟨g, 0, none⟩)))) (hF4 : F p4) (h4q : p4 ≠ q) (h4 : w.cell? ⟨p4, 0, none⟩ = some (.func (.func 61) #[] #[.pointer (some ⟨p2, 0, none⟩)]))
    (h : RPen R0 F g l w) (hl : l.length ≤ 1000000) :
    Calls Try.prog 64 #[.pointer (some ⟨q, o, none⟩), .pointer (some ⟨p4, 0, none⟩)] w fun e w' => e = .returned (.tuple #[]) ∧ Kept (fun b => F b ∧ b ≠ q) w w' ∧ Has w' q (setN cs o (rdk 3 l).1) ∧ RPen R0 F g (rdk 3 l).2 w' := by
  have eg : ∀ args w, (callFunc 61 args).run Try.prog w = .ok (.enter 61 args) w := enters_of Try.func61 (by kernel_rfl) rfl
  have hlt4 := cell_lt h4
  have hltq := h.low q hq
  have HN := Lib.hid (fun (wx : World) (hx : Below w.heap.size w wx) (cells : Array Value) (t : TypeId) (hcl : ∀ j, j < 3 → cells[j]? = some (.pointer (some ⟨q, o + j, none⟩))) => rnums_new R0 F g q o 3 p2 cs l wx cells t hcl (by omega) (hcs.below hx) hz hq hqo hF2 h2q ((hx.cell (p := ⟨p2, 0, none⟩) (h.low p2 hF2)).trans h2) (h.keep hx) hl)
  have H4 := Lib.hid h4
  have HW := Lib.hid h
  clear h4 h hz h2 hcs
  go_enter Try.func64, Try.ntmps64
  refine wp_region_noPanic ?_
  refine wp_region_held_drew (S := fun w' => Kept (fun b => F b ∧ b ≠ q) w w') (by kernel_rfl) (Kept.of_below (below_drew (Below.refl _ _)) (fun b hb => HW.out.low b hb.1)) (fun hHeld => ?_)
  refine wpAnyH_take (i := 0) (oi := ⟨some 3, _, _, _, _, _⟩) (v := .func (.func 61) #[] #[.pointer (some ⟨p2, 0, none⟩)]) rfl (by kernel_rfl) (by kernel_rfl) (by kernel_rfl) (fun _ _ _ h => h) (Or.inl ⟨by rfl, ?_⟩) hHeld ?_
  · intro ww hSw
    (try dsimp only at hSw)
    have hcl := (cell_kept hSw (p := ⟨p4, 0, none⟩) ⟨hF4, h4q⟩).trans H4.out
    have hcs := cell_lt hcl
    go_simp
  simp only [Act.put, List.setIfInBounds_toArray, List.set_cons_zero, List.set_cons_succ]
  refine wpAnyH_take (i := 1) (oi := ⟨some 4, _, _, _, _, _⟩) (v := ?_) rfl (by kernel_rfl) (by kernel_rfl) (by kernel_rfl) (fun _ _ _ h => h) (Or.inl ⟨by rfl, ?_⟩) hHeld ?_
  rotate_left
  · intro ww hSw
    (try dsimp only at hSw)
    go_simp
    (try with_reducible rfl)
  simp only [Act.put, List.setIfInBounds_toArray, List.set_cons_zero, List.set_cons_succ]
  refine wpAnyH_take (i := 2) (oi := ⟨some 5, _, _, _, _, _⟩) (v := ?_) rfl (by kernel_rfl) (by kernel_rfl) (by kernel_rfl) (fun _ _ _ h => h) (Or.inl ⟨by rfl, ?_⟩) hHeld ?_
  rotate_left
  · intro ww hSw
    (try dsimp only at hSw)
    go_simp
    (try with_reducible rfl)
  simp only [Act.put, List.setIfInBounds_toArray, List.set_cons_zero, List.set_cons_succ]
  refine wpAnyH_take (i := 3) (oi := ⟨some 6, _, _, _, _, _⟩) (v := ?_) rfl (by kernel_rfl) (by kernel_rfl) (by kernel_rfl) (fun _ _ _ h => h) (Or.inl ⟨by rfl, ?_⟩) hHeld ?_
  rotate_left
  · intro ww hSw
    (try dsimp only at hSw)
    go_simp
    (try with_reducible rfl)
  simp only [Act.put, List.setIfInBounds_toArray, List.set_cons_zero, List.set_cons_succ]
  refine wpAnyH_take (i := 4) (oi := ⟨some 7, _, _, _, _, _⟩) (v := ?_) rfl (by kernel_rfl) (by kernel_rfl) (by kernel_rfl) (fun _ _ _ h => h) (Or.inl ⟨by rfl, ?_⟩) hHeld ?_
  rotate_left
  · intro ww hSw
    (try dsimp only at hSw)
    go_simp
    (try with_reducible rfl)
  simp only [Act.put, List.setIfInBounds_toArray, List.set_cons_zero, List.set_cons_succ]
  refine wpAnyH_take (i := 5) (oi := ⟨some 8, _, _, _, _, _⟩) (v := ?_) rfl (by kernel_rfl) (by kernel_rfl) (by kernel_rfl) (fun _ _ _ h => h) (Or.inl ⟨by rfl, ?_⟩) hHeld ?_
  rotate_left
  · intro ww hSw
    (try dsimp only at hSw)
    go_simp
    (try with_reducible rfl)
  simp only [Act.put, List.setIfInBounds_toArray, List.set_cons_zero, List.set_cons_succ]
  refine wpAnyH_take (i := 6) (oi := ⟨some 9, _, _, _, _, _⟩) (v := ?_) rfl (by kernel_rfl) (by kernel_rfl) (by kernel_rfl) (fun _ _ _ h => h) (Or.inl ⟨by rfl, ?_⟩) hHeld ?_
  rotate_left
  · intro ww hSw
    (try dsimp only at hSw)
    go_simp
    (try with_reducible rfl)
  simp only [Act.put, List.setIfInBounds_toArray, List.set_cons_zero, List.set_cons_succ]
  refine wpAnyH_take (i := 7) (oi := ⟨some 10, _, _, _, _, _⟩) (v := ?_) rfl (by kernel_rfl) (by kernel_rfl) (by kernel_rfl) (fun _ _ _ h => h) (Or.inl ⟨by rfl, ?_⟩) hHeld ?_
  rotate_left
  · intro ww hSw
    (try dsimp only at hSw)
    go_simp
    (try with_reducible rfl)
  simp only [Act.put, List.setIfInBounds_toArray, List.set_cons_zero, List.set_cons_succ]
  refine wpAnyH_take (i := 8) (oi := ⟨some 11, _, _, _, _, _⟩) (v := ?_) rfl (by kernel_rfl) (by kernel_rfl) (by kernel_rfl) (fun _ _ _ h => h) (Or.inl ⟨by rfl, ?_⟩) hHeld ?_
  rotate_left
  · intro ww hSw
    (try dsimp only at hSw)
    go_simp
    (try with_reducible rfl)
  simp only [Act.put, List.setIfInBounds_toArray, List.set_cons_zero, List.set_cons_succ]
  refine wpAnyH_take (i := 9) (oi := ⟨some 12, _, _, _, _, _⟩) (v := ?_) rfl (by kernel_rfl) (by kernel_rfl) (by kernel_rfl) (fun _ _ _ h => h) (Or.inl ⟨by rfl, ?_⟩) hHeld ?_
  rotate_left
  · intro ww hSw
    (try dsimp only at hSw)
    go_simp
    (try with_reducible rfl)
  simp only [Act.put, List.setIfInBounds_toArray, List.set_cons_zero, List.set_cons_succ]
  refine wpAnyH_ready (rs := [10]) (by kernel_rfl) (by simp) ?_
  refine AllReadyH.cons (o := ⟨some 13, _, _, _, _, _⟩) rfl (fun K hK => ?_) AllReadyH.nil
  go_simp
  refine hK.out _ _ ?_ (fun hHeld => ?_)
  · (try dsimp only)
    exact Kept.alloc hHeld (fun b hb => HW.out.low b hb.1) _
  clear hK K
  (try simp only [Act.put, List.setIfInBounds_toArray, List.set_cons_zero, List.set_cons_succ])
  refine wpAnyH_ready (rs := [11]) (by kernel_rfl) (by simp) ?_
  refine AllReadyH.cons (o := ⟨some 14, _, _, _, _, _⟩) rfl (fun K hK => ?_) AllReadyH.nil
  go_simp
  go_at_call 61
  refine (HN.out w.drew (below_drew (Below.refl _ _)) _ _ (by intro j hj; rcases (show j = 0 ∨ j = 1 ∨ j = 2 by omega) with rfl | rfl | rfl <;> rfl)).mono ?_
  rintro e_r w2 ⟨rfl, hk2, hh2, hw2⟩
  go_wp2_with fail
  refine hK.out _ _ ?_ (fun hHeld => ?_)
  · (try dsimp only)
    exact (Kept.of_below (below_drew (Below.refl _ _)) (fun b hb => HW.out.low b hb.1)).on hk2
  clear hK K
  (try simp only [Act.put, List.setIfInBounds_toArray, List.set_cons_zero, List.set_cons_succ])
  refine wpAnyH_done (by kernel_rfl) ?_ _
  refine NoPanic.normal ?_
  refine bodyPost_end (v := .tuple #[]) (by simp [results, Try.results64]) rfl ⟨rfl, (Kept.of_below (below_drew (Below.refl _ _)) (fun b hb => HW.out.low b hb.1)).on hk2, hh2, hw2⟩
set_option maxHeartbeats 1000000 in
theorem rshow_tier (R0 : World) (F : Nat → Prop) (g q o p2 p4 : Nat) (cs : Array Value) (l : List (BitVec 8)) (w : World) (hcs : Has w q cs) (hz : ∀ j, j < 2 → cs[o + j]? = some (.int .i64 0)) (hq : F q) (hqo : R0.heap.size ≤ q)
    (hF2 : F p2) (h2q : p2 ≠ q) (h2 : w.cell? ⟨p2, 0, none⟩ = some (.iface 65 (.pointer (some ⟨g, 0, none⟩)))) (hF4 : F p4) (h4q : p4 ≠ q) (h4 : w.cell? ⟨p4, 0, none⟩ = some (.func (.func 61) #[] #[.pointer (some ⟨p2, 0, none⟩)]))
    (h : RPen R0 F g l w) (hl : l.length ≤ 1000000) :
    Calls Try.prog 71 #[.pointer (some ⟨q, o, none⟩), .pointer (some ⟨p4, 0, none⟩)] w fun e w' => e = .returned (.tuple #[]) ∧ Kept (fun b => F b ∧ b ≠ q) w w' ∧ Has w' q (setN cs o (rdk 2 l).1) ∧ RPen R0 F g (rdk 2 l).2 w' := by
  have eg : ∀ args w, (callFunc 61 args).run Try.prog w = .ok (.enter 61 args) w := enters_of Try.func61 (by kernel_rfl) rfl
  have hlt4 := cell_lt h4
  have hltq := h.low q hq
  have HN := Lib.hid (fun (wx : World) (hx : Below w.heap.size w wx) (cells : Array Value) (t : TypeId) (hcl : ∀ j, j < 2 → cells[j]? = some (.pointer (some ⟨q, o + j, none⟩))) => rnums_new R0 F g q o 2 p2 cs l wx cells t hcl (by omega) (hcs.below hx) hz hq hqo hF2 h2q ((hx.cell (p := ⟨p2, 0, none⟩) (h.low p2 hF2)).trans h2) (h.keep hx) hl)
  have H4 := Lib.hid h4
  have HW := Lib.hid h
  clear h4 h hz h2 hcs
  go_enter Try.func71, Try.ntmps71
  refine wp_region_noPanic ?_
  refine wp_region_held_drew (S := fun w' => Kept (fun b => F b ∧ b ≠ q) w w') (by kernel_rfl) (Kept.of_below (below_drew (Below.refl _ _)) (fun b hb => HW.out.low b hb.1)) (fun hHeld => ?_)
  refine wpAnyH_take (i := 0) (oi := ⟨some 3, _, _, _, _, _⟩) (v := .func (.func 61) #[] #[.pointer (some ⟨p2, 0, none⟩)]) rfl (by kernel_rfl) (by kernel_rfl) (by kernel_rfl) (fun _ _ _ h => h) (Or.inl ⟨by rfl, ?_⟩) hHeld ?_
  · intro ww hSw
    (try dsimp only at hSw)
    have hcl := (cell_kept hSw (p := ⟨p4, 0, none⟩) ⟨hF4, h4q⟩).trans H4.out
    have hcs := cell_lt hcl
    go_simp
  simp only [Act.put, List.setIfInBounds_toArray, List.set_cons_zero, List.set_cons_succ]
  refine wpAnyH_take (i := 1) (oi := ⟨some 4, _, _, _, _, _⟩) (v := ?_) rfl (by kernel_rfl) (by kernel_rfl) (by kernel_rfl) (fun _ _ _ h => h) (Or.inl ⟨by rfl, ?_⟩) hHeld ?_
  rotate_left
  · intro ww hSw
    (try dsimp only at hSw)
    go_simp
    (try with_reducible rfl)
  simp only [Act.put, List.setIfInBounds_toArray, List.set_cons_zero, List.set_cons_succ]
  refine wpAnyH_take (i := 2) (oi := ⟨some 5, _, _, _, _, _⟩) (v := ?_) rfl (by kernel_rfl) (by kernel_rfl) (by kernel_rfl) (fun _ _ _ h => h) (Or.inl ⟨by rfl, ?_⟩) hHeld ?_
  rotate_left
  · intro ww hSw
    (try dsimp only at hSw)
    go_simp
    (try with_reducible rfl)
  simp only [Act.put, List.setIfInBounds_toArray, List.set_cons_zero, List.set_cons_succ]
  refine wpAnyH_take (i := 3) (oi := ⟨some 6, _, _, _, _, _⟩) (v := ?_) rfl (by kernel_rfl) (by kernel_rfl) (by kernel_rfl) (fun _ _ _ h => h) (Or.inl ⟨by rfl, ?_⟩) hHeld ?_
  rotate_left
  · intro ww hSw
    (try dsimp only at hSw)
    go_simp
    (try with_reducible rfl)
  simp only [Act.put, List.setIfInBounds_toArray, List.set_cons_zero, List.set_cons_succ]
  refine wpAnyH_take (i := 4) (oi := ⟨some 7, _, _, _, _, _⟩) (v := ?_) rfl (by kernel_rfl) (by kernel_rfl) (by kernel_rfl) (fun _ _ _ h => h) (Or.inl ⟨by rfl, ?_⟩) hHeld ?_
  rotate_left
  · intro ww hSw
    (try dsimp only at hSw)
    go_simp
    (try with_reducible rfl)
  simp only [Act.put, List.setIfInBounds_toArray, List.set_cons_zero, List.set_cons_succ]
  refine wpAnyH_take (i := 5) (oi := ⟨some 8, _, _, _, _, _⟩) (v := ?_) rfl (by kernel_rfl) (by kernel_rfl) (by kernel_rfl) (fun _ _ _ h => h) (Or.inl ⟨by rfl, ?_⟩) hHeld ?_
  rotate_left
  · intro ww hSw
    (try dsimp only at hSw)
    go_simp
    (try with_reducible rfl)
  simp only [Act.put, List.setIfInBounds_toArray, List.set_cons_zero, List.set_cons_succ]
  refine wpAnyH_take (i := 6) (oi := ⟨some 9, _, _, _, _, _⟩) (v := ?_) rfl (by kernel_rfl) (by kernel_rfl) (by kernel_rfl) (fun _ _ _ h => h) (Or.inl ⟨by rfl, ?_⟩) hHeld ?_
  rotate_left
  · intro ww hSw
    (try dsimp only at hSw)
    go_simp
    (try with_reducible rfl)
  simp only [Act.put, List.setIfInBounds_toArray, List.set_cons_zero, List.set_cons_succ]
  refine wpAnyH_ready (rs := [7]) (by kernel_rfl) (by simp) ?_
  refine AllReadyH.cons (o := ⟨some 10, _, _, _, _, _⟩) rfl (fun K hK => ?_) AllReadyH.nil
  go_simp
  refine hK.out _ _ ?_ (fun hHeld => ?_)
  · (try dsimp only)
    exact Kept.alloc hHeld (fun b hb => HW.out.low b hb.1) _
  clear hK K
  (try simp only [Act.put, List.setIfInBounds_toArray, List.set_cons_zero, List.set_cons_succ])
  refine wpAnyH_ready (rs := [8]) (by kernel_rfl) (by simp) ?_
  refine AllReadyH.cons (o := ⟨some 11, _, _, _, _, _⟩) rfl (fun K hK => ?_) AllReadyH.nil
  go_simp
  go_at_call 61
  refine (HN.out w.drew (below_drew (Below.refl _ _)) _ _ (by intro j hj; rcases (show j = 0 ∨ j = 1 by omega) with rfl | rfl <;> rfl)).mono ?_
  rintro e_r w2 ⟨rfl, hk2, hh2, hw2⟩
  go_wp2_with fail
  refine hK.out _ _ ?_ (fun hHeld => ?_)
  · (try dsimp only)
    exact (Kept.of_below (below_drew (Below.refl _ _)) (fun b hb => HW.out.low b hb.1)).on hk2
  clear hK K
  (try simp only [Act.put, List.setIfInBounds_toArray, List.set_cons_zero, List.set_cons_succ])
  refine wpAnyH_done (by kernel_rfl) ?_ _
  refine NoPanic.normal ?_
  refine bodyPost_end (v := .tuple #[]) (by simp [results, Try.results71]) rfl ⟨rfl, (Kept.of_below (below_drew (Below.refl _ _)) (fun b hb => HW.out.low b hb.1)).on hk2, hh2, hw2⟩
set_option maxHeartbeats 1000000 in
theorem rshow_one (R0 : World) (F : Nat → Prop) (g q o p2 p4 : Nat) (cs : Array Value) (l : List (BitVec 8)) (w : World) (hcs : Has w q cs) (hz : ∀ j, j < 1 → cs[o + j]? = some (.int .i64 0)) (hq : F q) (hqo : R0.heap.size ≤ q)
    (hF2 : F p2) (h2q : p2 ≠ q) (h2 : w.cell? ⟨p2, 0, none⟩ = some (.iface 65 (.pointer (some ⟨g, 0, none⟩)))) (hF4 : F p4) (h4q : p4 ≠ q) (h4 : w.cell? ⟨p4, 0, none⟩ = some (.func (.func 61) #[] #[.pointer (some ⟨p2, 0, none⟩)]))
    (h : RPen R0 F g l w) (hl : l.length ≤ 1000000) :
    Calls Try.prog 69 #[.pointer (some ⟨q, o, none⟩), .pointer (some ⟨p4, 0, none⟩)] w fun e w' => e = .returned (.tuple #[]) ∧ Kept (fun b => F b ∧ b ≠ q) w w' ∧ Has w' q (setN cs o (rdk 1 l).1) ∧ RPen R0 F g (rdk 1 l).2 w' := by
  have eg : ∀ args w, (callFunc 61 args).run Try.prog w = .ok (.enter 61 args) w := enters_of Try.func61 (by kernel_rfl) rfl
  have hlt4 := cell_lt h4
  have hltq := h.low q hq
  have HN := Lib.hid (fun (wx : World) (hx : Below w.heap.size w wx) (cells : Array Value) (t : TypeId) (hcl : ∀ j, j < 1 → cells[j]? = some (.pointer (some ⟨q, o + j, none⟩))) => rnums_new R0 F g q o 1 p2 cs l wx cells t hcl (by omega) (hcs.below hx) hz hq hqo hF2 h2q ((hx.cell (p := ⟨p2, 0, none⟩) (h.low p2 hF2)).trans h2) (h.keep hx) hl)
  have H4 := Lib.hid h4
  have HW := Lib.hid h
  clear h4 h hz h2 hcs
  go_enter Try.func69, Try.ntmps69
  have hcl := H4.out
  have hne4 : p4 ≠ w.heap.size := by simp at hlt4; omega
  go_wp2_with fail
  refine (HN.out w (Below.refl _ _) _ _ (by intro j hj; rcases (show j = 0 by omega) with rfl; rfl)).mono ?_
  rintro e_r w2 ⟨rfl, hk2, hh2, hw2⟩
  have HX := Lib.hid (And.intro hk2 (And.intro hh2 hw2))
  clear hk2 hh2 hw2
  go_wp2
  refine bodyPost_end (v := .tuple #[]) (by simp [results, Try.results69]) rfl ⟨rfl, HX.out⟩
set_option maxHeartbeats 1000000 in
theorem rshow_ele (R0 : World) (F : Nat → Prop) (g q o p2 p4 p5 : Nat) (cs : Array Value) (l : List (BitVec 8)) (w : World) (hcs : Has w q cs) (hz : ∀ j, j < 4 → cs[o + j]? = some (.int .i64 0)) (hq : F q) (hqo : R0.heap.size ≤ q)
    (hF2 : F p2) (h2q : p2 ≠ q) (h2 : w.cell? ⟨p2, 0, none⟩ = some (.iface 65 (.pointer (some ⟨g, 0, none⟩)))) (hF4 : F p4) (h4q : p4 ≠ q) (h4 : w.cell? ⟨p4, 0, none⟩ = some (.func (.func 61) #[] #[.pointer (some ⟨p2, 0, none⟩)]))
    (hF5 : F p5) (h5q : p5 ≠ q) (h5 : w.cell? ⟨p5, 0, none⟩ = some (.func (.func 62) #[] #[.pointer (some ⟨p4, 0, none⟩)])) (h : RPen R0 F g l w) (hl : l.length ≤ 1000000) :
    Calls Try.prog 66 #[.pointer (some ⟨q, o, none⟩), .pointer (some ⟨p5, 0, none⟩)] w fun e w' => e = .returned (.tuple #[]) ∧ Kept (fun b => F b ∧ b ≠ q) w w' ∧ Has w' q (setN cs o (rdk 4 l).1) ∧ RPen R0 F g (rdk 4 l).2 w' := by
  have eg : ∀ args w, (callFunc 62 args).run Try.prog w = .ok (.enter 62 args) w := enters_of Try.func62 (by kernel_rfl) rfl
  obtain ⟨hl1, hl2⟩ := rdk_len 2 l
  have H1 := Lib.hid (fun (wx : World) (hx : Below w.heap.size w wx) => rshow_part R0 F g q o p2 p4 cs l wx (hcs.below hx) (fun j hj => hz j (by omega)) hq hqo hF2 h2q ((hx.cell (p := ⟨p2, 0, none⟩) (h.low p2 hF2)).trans h2) hF4 h4q ((hx.cell (p := ⟨p4, 0, none⟩) (h.low p4 hF4)).trans h4) (h.keep hx) hl)
  have H2 := Lib.hid (fun (wx : World) (hx : Kept (fun b => F b ∧ b ≠ q) w wx) (hh : Has wx q (setN cs o (rdk 2 l).1)) (hw : RPen R0 F g (rdk 2 l).2 wx) => rshow_part R0 F g q (o + 2) p2 p4 _ _ wx hh (fun j hj => by rw [setN_get _ _ _ _ (by omega), Nat.add_assoc]; exact hz (2 + j) (by omega)) hq hqo hF2 h2q ((cell_kept hx (p := ⟨p2, 0, none⟩) ⟨hF2, h2q⟩).trans h2) hF4 h4q ((cell_kept hx (p := ⟨p4, 0, none⟩) ⟨hF4, h4q⟩).trans h4) hw (by omega))
  have e4 := rdk_add 2 2 l
  have E : Hid (setN (setN cs o (rdk 2 l).1) (o + 2) (rdk 2 (rdk 2 l).2).1 = setN cs o (rdk 4 l).1 ∧ (rdk 2 (rdk 2 l).2).2 = (rdk 4 l).2) := by
    refine ⟨?_, ?_⟩
    · rw [show rdk 4 l = _ from e4, setN_append, hl1]
    · rw [show rdk 4 l = _ from e4]
  have H5 := Lib.hid h5
  have HW := Lib.hid h
  clear h4 h5 h hz h2 hcs hl1 hl2 e4
  go_enter Try.func66, Try.ntmps66
  go_wp2_with fail
  refine wp_region_noPanic ?_
  refine wp_region_held_drew (S := fun w' => Kept (fun b => F b ∧ b ≠ q) w w') (by kernel_rfl) (Kept.of_below (below_drew (Below.refl _ _)) (fun b hb => HW.out.low b hb.1)) (fun hHeld => ?_)
  refine wpAnyH_take (i := 0) (oi := ⟨some 3, _, _, _, _, _⟩) (v := .func (.func 62) #[] #[.pointer (some ⟨p4, 0, none⟩)]) rfl (by kernel_rfl) (by kernel_rfl) (by kernel_rfl) (fun _ _ _ h => h) (Or.inl ⟨by rfl, ?_⟩) hHeld ?_
  · intro ww hSw
    (try dsimp only at hSw)
    have hcl := (cell_kept hSw (p := ⟨p5, 0, none⟩) ⟨hF5, h5q⟩).trans H5.out
    have hcs := cell_lt hcl
    go_simp
  simp only [Act.put, List.setIfInBounds_toArray, List.set_cons_zero, List.set_cons_succ]
  refine wpAnyH_take (i := 1) (oi := ⟨some 4, _, _, _, _, _⟩) (v := ?_) rfl (by kernel_rfl) (by kernel_rfl) (by kernel_rfl) (fun _ _ _ h => h) (Or.inl ⟨by rfl, ?_⟩) hHeld ?_
  rotate_left
  · intro ww hSw
    (try dsimp only at hSw)
    go_simp
    (try with_reducible rfl)
  simp only [Act.put, List.setIfInBounds_toArray, List.set_cons_zero, List.set_cons_succ]
  refine wpAnyH_take (i := 2) (oi := ⟨some 5, _, _, _, _, _⟩) (v := ?_) rfl (by kernel_rfl) (by kernel_rfl) (by kernel_rfl) (fun _ _ _ h => h) (Or.inl ⟨by rfl, ?_⟩) hHeld ?_
  rotate_left
  · intro ww hSw
    (try dsimp only at hSw)
    go_simp
    (try with_reducible rfl)
  simp only [Act.put, List.setIfInBounds_toArray, List.set_cons_zero, List.set_cons_succ]
  refine wpAnyH_take (i := 3) (oi := ⟨some 6, _, _, _, _, _⟩) (v := ?_) rfl (by kernel_rfl) (by kernel_rfl) (by kernel_rfl) (fun _ _ _ h => h) (Or.inl ⟨by rfl, ?_⟩) hHeld ?_
  rotate_left
  · intro ww hSw
    (try dsimp only at hSw)
    go_simp
    (try with_reducible rfl)
  simp only [Act.put, List.setIfInBounds_toArray, List.set_cons_zero, List.set_cons_succ]
  refine wpAnyH_ready (rs := [4]) (by kernel_rfl) (by simp) ?_
  refine AllReadyH.cons (o := ⟨some 7, _, _, _, _, _⟩) rfl (fun K hK => ?_) AllReadyH.nil
  go_simp
  go_at_call 62
  refine (H1.out _ (below_drew (Below.refl _ _))).mono ?_
  rintro e_r w2 ⟨rfl, hk2, hh2, hw2⟩
  go_wp2_with fail
  refine hK.out _ _ ?_ (fun hHeld => ?_)
  · (try dsimp only)
    exact (Kept.of_below (below_drew (Below.refl _ _)) (fun b hb => HW.out.low b hb.1)).on hk2
  clear hK K
  (try simp only [Act.put, List.setIfInBounds_toArray, List.set_cons_zero, List.set_cons_succ])
  refine wpAnyH_done (by kernel_rfl) ?_ _
  refine NoPanic.normal ?_
  replace hk2 := (Kept.of_below (below_drew (Below.refl _ _)) (fun b hb => HW.out.low b hb.1)).on hk2
  have HX2 := Lib.hid (And.intro hh2 hw2)
  clear hh2 hw2
  go_wp2_with fail
  refine wp_region_noPanic ?_
  refine wp_region_held_drew (S := fun w' => Kept (fun b => F b ∧ b ≠ q) w w') (by kernel_rfl) (hk2.on (Kept.of_below (below_drew (Below.refl _ _)) (fun b hb => HX2.out.2.low b hb.1))) (fun hHeld => ?_)
  refine wpAnyH_take (i := 0) (oi := ⟨some 8, _, _, _, _, _⟩) (v := .func (.func 62) #[] #[.pointer (some ⟨p4, 0, none⟩)]) rfl (by kernel_rfl) (by kernel_rfl) (by kernel_rfl) (fun _ _ _ h => h) (Or.inl ⟨by rfl, ?_⟩) hHeld ?_
  · intro ww hSw
    (try dsimp only at hSw)
    have hcl := (cell_kept hSw (p := ⟨p5, 0, none⟩) ⟨hF5, h5q⟩).trans H5.out
    have hcs := cell_lt hcl
    go_simp
  simp only [Act.put, List.setIfInBounds_toArray, List.set_cons_zero, List.set_cons_succ]
  refine wpAnyH_take (i := 1) (oi := ⟨some 9, _, _, _, _, _⟩) (v := ?_) rfl (by kernel_rfl) (by kernel_rfl) (by kernel_rfl) (fun _ _ _ h => h) (Or.inl ⟨by rfl, ?_⟩) hHeld ?_
  rotate_left
  · intro ww hSw
    (try dsimp only at hSw)
    go_simp
    (try with_reducible rfl)
  simp only [Act.put, List.setIfInBounds_toArray, List.set_cons_zero, List.set_cons_succ]
  refine wpAnyH_take (i := 2) (oi := ⟨some 10, _, _, _, _, _⟩) (v := ?_) rfl (by kernel_rfl) (by kernel_rfl) (by kernel_rfl) (fun _ _ _ h => h) (Or.inl ⟨by rfl, ?_⟩) hHeld ?_
  rotate_left
  · intro ww hSw
    (try dsimp only at hSw)
    go_simp
    (try with_reducible rfl)
  simp only [Act.put, List.setIfInBounds_toArray, List.set_cons_zero, List.set_cons_succ]
  refine wpAnyH_take (i := 3) (oi := ⟨some 11, _, _, _, _, _⟩) (v := ?_) rfl (by kernel_rfl) (by kernel_rfl) (by kernel_rfl) (fun _ _ _ h => h) (Or.inl ⟨by rfl, ?_⟩) hHeld ?_
  rotate_left
  · intro ww hSw
    (try dsimp only at hSw)
    go_simp
    (try with_reducible rfl)
  simp only [Act.put, List.setIfInBounds_toArray, List.set_cons_zero, List.set_cons_succ]
  refine wpAnyH_ready (rs := [4]) (by kernel_rfl) (by simp) ?_
  refine AllReadyH.cons (o := ⟨some 12, _, _, _, _, _⟩) rfl (fun K hK => ?_) AllReadyH.nil
  go_simp
  go_at_call 62
  refine (H2.out _ (hk2.on (Kept.of_below (below_drew (Below.refl _ _)) (fun b hb => HX2.out.2.low b hb.1))) (HX2.out.1.below (below_drew (Below.refl _ _))) (HX2.out.2.keep (below_drew (Below.refl _ _)))).mono ?_
  rintro e_r w3 ⟨rfl, hk3, hh3, hw3⟩
  go_wp2_with fail
  refine hK.out _ _ ?_ (fun hHeld => ?_)
  · (try dsimp only)
    exact (hk2.on (Kept.of_below (below_drew (Below.refl _ _)) (fun b hb => HX2.out.2.low b hb.1))).on hk3
  clear hK K
  (try simp only [Act.put, List.setIfInBounds_toArray, List.set_cons_zero, List.set_cons_succ])
  refine wpAnyH_done (by kernel_rfl) ?_ _
  refine NoPanic.normal ?_
  rw [E.out.1] at hh3
  rw [E.out.2] at hw3
  refine bodyPost_end (v := .tuple #[]) (by simp [results, Try.results66]) rfl ⟨rfl, (hk2.on (Kept.of_below (below_drew (Below.refl _ _)) (fun b hb => HX2.out.2.low b hb.1))).on hk3, hh3, hw3⟩
end Go.Proofs.Ytdhkfhgggkndoaa
