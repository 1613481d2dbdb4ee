/-
  Package setup: what writes, shown ratios, ways, tiers, numbers.
-/
import Derived.Test.YtdhkfhgggkndoaaSetI
import Derived.Test.YtdhkfhgggkndoaaOrders
namespace Go.Proofs.Ytdhkfhgggkndoaa
open Go.RowKit
set_option linter.unusedVariables false
set_option linter.unusedSimpArgs false
set_option maxRecDepth 20000

theorem wnums_new (F : Nat → Prop) (g q o k p2 : Nat) (ns : List Nat) (l : List (BitVec 8)) (w : World) (cells : Array Value) (t : TypeId) (hcs : ∀ j, j < k → cells[j]? = some (.pointer (some ⟨q, o + j, none⟩))) (hk : ns.length = k) (hk2 : k ≤ 1000) (hns : ∀ n ∈ ns, n < 9223372036854775808)
    (hc : ∀ j, j < k → w.cell? ⟨q, o + j, none⟩ = some (.int .i64 (ns.getD j 0 : Nat))) (hq : F q) (hF2 : F p2) (h2 : w.cell? ⟨p2, 0, none⟩ = some (.iface 61 (.pointer (some ⟨g, 0, none⟩))))
    (h : WPen F g l w) (hl : l.length ≤ 1000000000) :
    Calls Try.prog 61 #[.slice (some ⟨w.heap.size, 0, none⟩) k k, .pointer (some ⟨p2, 0, none⟩)] (w.alloc (.cells cells t)) fun e w' => e = .returned (.tuple #[]) ∧ Kept F w w' ∧ WPen F g (l ++ putB ns) w' := by
  have hqs := h.low q hq
  have h2s := h.low p2 hF2
  refine (wnums_any (fun b => F b ∨ b = w.heap.size) g w.heap.size k p2 (fun j => ⟨q, o + j, none⟩) ns l _ hk hk2 hns (fun j hj => ?_) (fun j hj => (World.cell?_alloc_lt w _ _ hqs).trans (hc j hj)) (.inr rfl) (fun j hj => .inl hq) (.inl hF2) ((World.cell?_alloc_lt w _ _ h2s).trans h2) (h.grow _) hl).mono ?_
  · rw [cell_of_row _ _ _ _ _ _ (heap_alloc_new w _)]
    exact hcs j hj
  · rintro e w' ⟨h1, h2, h3⟩
    exact ⟨h1, (Kept.of_below (bel_alloc (Below.refl _ _) _) h.low).on (h2.less fun b hb => .inl hb), h3.less fun b hb => .inl hb⟩
set_option maxHeartbeats 1000000 in
theorem wshow_part (F : Nat → Prop) (g q o p2 p4 : Nat) (n0 n1 : Nat) (l : List (BitVec 8)) (w : World) (hns : ∀ n ∈ [n0, n1], n < 9223372036854775808)
    (hc : ∀ j, j < 2 → w.cell? ⟨q, o + j, none⟩ = some (.int .i64 ([n0, n1].getD j 0 : Nat))) (hq : F q) (hF2 : F p2) (h2 : w.cell? ⟨p2, 0, none⟩ = some (.iface 61 (.pointer (some ⟨g, 0, none⟩)))) (hF4 : F p4) (h4 : w.cell? ⟨p4, 0, none⟩ = some (.func (.func 61) #[] #[.pointer (some ⟨p2, 0, none⟩)]))
    (h : WPen F g l w) (hl : l.length ≤ 1000000000) :
    Calls Try.prog 62 #[.pointer (some ⟨q, o, none⟩), .pointer (some ⟨p4, 0, none⟩)] w fun e w' => e = .returned (.tuple #[]) ∧ Kept F w w' ∧ WPen F g (l ++ putB [n0, n1]) w' := by
  have eg : ∀ args w, (callFunc 61 args).run Try.prog w = .ok (.enter 61 args) w := enters_of Try.func61 (by kernel_rfl) rfl
  have hlt4 := cell_lt h4
  have hltq := h.low q hq
  have HN := Lib.hid (fun (wx : World) (hx : Kept F w wx) (hw : WPen F g l wx) (cells : Array Value) (t : TypeId) (hcs : ∀ j, j < 2 → cells[j]? = some (.pointer (some ⟨q, o + j, none⟩))) => wnums_new F g q o 2 p2 [n0, n1] l wx cells t hcs rfl (by omega) hns (fun j hj => (cell_kept hx hq).trans (hc j hj)) hq hF2 ((cell_kept hx hF2).trans h2) hw hl)
  have H4 := Lib.hid h4
  have HW := Lib.hid h
  have HQ := Lib.hid hc
  clear h4 h hc h2 hns
  go_enter Try.func62, Try.ntmps62
  refine wp_region_noPanic ?_
  refine wp_region_held_drew (S := fun w' => Kept F w w') (by kernel_rfl) (Kept.of_below (below_drew (Below.refl _ _)) HW.out.low) (fun hHeld => ?_)
  refine wpAnyH_take (i := 0) (oi := ⟨some 3, _, _, _, _, _⟩) (v := .func (.func 61) #[] #[.pointer (some ⟨p2, 0, none⟩)]) rfl (by kernel_rfl) (by kernel_rfl) (by kernel_rfl) (fun _ _ _ h => h) (Or.inl ⟨by rfl, ?_⟩) hHeld ?_
  · intro ww hSw
    (try dsimp only at hSw)
    have hcl := (cell_kept hSw (p := ⟨p4, 0, none⟩) hF4).trans H4.out
    have hcs := cell_lt hcl
    go_simp
  simp only [Act.put, List.setIfInBounds_toArray, List.set_cons_zero, List.set_cons_succ]
  refine wpAnyH_take (i := 1) (oi := ⟨some 4, _, _, _, _, _⟩) (v := ?_) rfl (by kernel_rfl) (by kernel_rfl) (by kernel_rfl) (fun _ _ _ h => h) (Or.inl ⟨by rfl, ?_⟩) hHeld ?_
  rotate_left
  · intro ww hSw
    (try dsimp only at hSw)
    go_simp
    (try with_reducible rfl)
  simp only [Act.put, List.setIfInBounds_toArray, List.set_cons_zero, List.set_cons_succ]
  refine wpAnyH_take (i := 2) (oi := ⟨some 5, _, _, _, _, _⟩) (v := ?_) rfl (by kernel_rfl) (by kernel_rfl) (by kernel_rfl) (fun _ _ _ h => h) (Or.inl ⟨by rfl, ?_⟩) hHeld ?_
  rotate_left
  · intro ww hSw
    (try dsimp only at hSw)
    go_simp
    (try with_reducible rfl)
  simp only [Act.put, List.setIfInBounds_toArray, List.set_cons_zero, List.set_cons_succ]
  refine wpAnyH_take (i := 3) (oi := ⟨some 6, _, _, _, _, _⟩) (v := ?_) rfl (by kernel_rfl) (by kernel_rfl) (by kernel_rfl) (fun _ _ _ h => h) (Or.inl ⟨by rfl, ?_⟩) hHeld ?_
  rotate_left
  · intro ww hSw
    (try dsimp only at hSw)
    go_simp
    (try with_reducible rfl)
  simp only [Act.put, List.setIfInBounds_toArray, List.set_cons_zero, List.set_cons_succ]
  refine wpAnyH_take (i := 4) (oi := ⟨some 7, _, _, _, _, _⟩) (v := ?_) rfl (by kernel_rfl) (by kernel_rfl) (by kernel_rfl) (fun _ _ _ h => h) (Or.inl ⟨by rfl, ?_⟩) hHeld ?_
  rotate_left
  · intro ww hSw
    (try dsimp only at hSw)
    go_simp
    (try with_reducible rfl)
  simp only [Act.put, List.setIfInBounds_toArray, List.set_cons_zero, List.set_cons_succ]
  refine wpAnyH_take (i := 5) (oi := ⟨some 8, _, _, _, _, _⟩) (v := ?_) rfl (by kernel_rfl) (by kernel_rfl) (by kernel_rfl) (fun _ _ _ h => h) (Or.inl ⟨by rfl, ?_⟩) hHeld ?_
  rotate_left
  · intro ww hSw
    (try dsimp only at hSw)
    go_simp
    (try with_reducible rfl)
  simp only [Act.put, List.setIfInBounds_toArray, List.set_cons_zero, List.set_cons_succ]
  refine wpAnyH_take (i := 6) (oi := ⟨some 9, _, _, _, _, _⟩) (v := ?_) rfl (by kernel_rfl) (by kernel_rfl) (by kernel_rfl) (fun _ _ _ h => h) (Or.inl ⟨by rfl, ?_⟩) hHeld ?_
  rotate_left
  · intro ww hSw
    (try dsimp only at hSw)
    go_simp
    (try with_reducible rfl)
  simp only [Act.put, List.setIfInBounds_toArray, List.set_cons_zero, List.set_cons_succ]
  refine wpAnyH_ready (rs := [7]) (by kernel_rfl) (by simp) ?_
  refine AllReadyH.cons (o := ⟨some 10, _, _, _, _, _⟩) rfl (fun K hK => ?_) AllReadyH.nil
  go_simp
  refine hK.out _ _ ?_ (fun hHeld => ?_)
  · (try dsimp only)
    exact hHeld.alloc (fun b hb => HW.out.low b hb) _
  clear hK K
  (try simp only [Act.put, List.setIfInBounds_toArray, List.set_cons_zero, List.set_cons_succ])
  refine wpAnyH_ready (rs := [8]) (by kernel_rfl) (by simp) ?_
  refine AllReadyH.cons (o := ⟨some 11, _, _, _, _, _⟩) rfl (fun K hK => ?_) AllReadyH.nil
  go_simp
  go_at_call 61
  refine (HN.out w.drew (Kept.of_below (below_drew (Below.refl _ _)) HW.out.low) (HW.out.keep (below_drew (Below.refl _ _))) _ _ (by intro j hj; rcases (show j = 0 ∨ j = 1 by omega) with rfl | rfl <;> rfl)).mono ?_
  rintro e_r w2 ⟨rfl, hk2, hw2⟩
  go_wp2_with fail
  refine hK.out _ _ ?_ (fun hHeld => ?_)
  · (try dsimp only)
    exact (Kept.of_below (below_drew (Below.refl _ _)) HW.out.low).on hk2
  clear hK K
  (try simp only [Act.put, List.setIfInBounds_toArray, List.set_cons_zero, List.set_cons_succ])
  refine wpAnyH_done (by kernel_rfl) ?_ _
  refine NoPanic.normal ?_
  refine bodyPost_end (v := .tuple #[]) (by simp [results, Try.results62]) rfl ⟨rfl, (Kept.of_below (below_drew (Below.refl _ _)) HW.out.low).on hk2, hw2⟩
set_option maxHeartbeats 1000000 in
theorem wshow_way (F : Nat → Prop) (g q o p2 p4 : Nat) (n0 n1 n2 : Nat) (l : List (BitVec 8)) (w : World) (hns : ∀ n ∈ [n0, n1, n2], n < 9223372036854775808)
    (hc : ∀ j, j < 3 → w.cell? ⟨q, o + j, none⟩ = some (.int .i64 ([n0, n1, n2].getD j 0 : Nat))) (hq : F q) (hF2 : F p2) (h2 : w.cell? ⟨p2, 0, none⟩ = some (.iface 61 (.pointer (some ⟨g, 0, none⟩)))) (hF4 : F p4) (h4 : w.cell? ⟨p4, 0, none⟩ = some (.func (.func 61) #[] #[.pointer (some ⟨p2, 0, none⟩)]))
    (h : WPen F g l w) (hl : l.length ≤ 1000000000) :
    Calls Try.prog 64 #[.pointer (some ⟨q, o, none⟩), .pointer (some ⟨p4, 0, none⟩)] w fun e w' => e = .returned (.tuple #[]) ∧ Kept F w w' ∧ WPen F g (l ++ putB [n0, n1, n2]) w' := by
  have eg : ∀ args w, (callFunc 61 args).run Try.prog w = .ok (.enter 61 args) w := enters_of Try.func61 (by kernel_rfl) rfl
  have hlt4 := cell_lt h4
  have hltq := h.low q hq
  have HN := Lib.hid (fun (wx : World) (hx : Kept F w wx) (hw : WPen F g l wx) (cells : Array Value) (t : TypeId) (hcs : ∀ j, j < 3 → cells[j]? = some (.pointer (some ⟨q, o + j, none⟩))) => wnums_new F g q o 3 p2 [n0, n1, n2] l wx cells t hcs rfl (by omega) hns (fun j hj => (cell_kept hx hq).trans (hc j hj)) hq hF2 ((cell_kept hx hF2).trans h2) hw hl)
  have H4 := Lib.hid h4
  have HW := Lib.hid h
  have HQ := Lib.hid hc
  clear h4 h hc h2 hns
  go_enter Try.func64, Try.ntmps64
  refine wp_region_noPanic ?_
  refine wp_region_held_drew (S := fun w' => Kept F w w') (by kernel_rfl) (Kept.of_below (below_drew (Below.refl _ _)) HW.out.low) (fun hHeld => ?_)
  refine wpAnyH_take (i := 0) (oi := ⟨some 3, _, _, _, _, _⟩) (v := .func (.func 61) #[] #[.pointer (some ⟨p2, 0, none⟩)]) rfl (by kernel_rfl) (by kernel_rfl) (by kernel_rfl) (fun _ _ _ h => h) (Or.inl ⟨by rfl, ?_⟩) hHeld ?_
  · intro ww hSw
    (try dsimp only at hSw)
    have hcl := (cell_kept hSw (p := ⟨p4, 0, none⟩) hF4).trans H4.out
    have hcs := cell_lt hcl
    go_simp
  simp only [Act.put, List.setIfInBounds_toArray, List.set_cons_zero, List.set_cons_succ]
  refine wpAnyH_take (i := 1) (oi := ⟨some 4, _, _, _, _, _⟩) (v := ?_) rfl (by kernel_rfl) (by kernel_rfl) (by kernel_rfl) (fun _ _ _ h => h) (Or.inl ⟨by rfl, ?_⟩) hHeld ?_
  rotate_left
  · intro ww hSw
    (try dsimp only at hSw)
    go_simp
    (try with_reducible rfl)
  simp only [Act.put, List.setIfInBounds_toArray, List.set_cons_zero, List.set_cons_succ]
  refine wpAnyH_take (i := 2) (oi := ⟨some 5, _, _, _, _, _⟩) (v := ?_) rfl (by kernel_rfl) (by kernel_rfl) (by kernel_rfl) (fun _ _ _ h => h) (Or.inl ⟨by rfl, ?_⟩) hHeld ?_
  rotate_left
  · intro ww hSw
    (try dsimp only at hSw)
    go_simp
    (try with_reducible rfl)
  simp only [Act.put, List.setIfInBounds_toArray, List.set_cons_zero, List.set_cons_succ]
  refine wpAnyH_take (i := 3) (oi := ⟨some 6, _, _, _, _, _⟩) (v := ?_) rfl (by kernel_rfl) (by kernel_rfl) (by kernel_rfl) (fun _ _ _ h => h) (Or.inl ⟨by rfl, ?_⟩) hHeld ?_
  rotate_left
  · intro ww hSw
    (try dsimp only at hSw)
    go_simp
    (try with_reducible rfl)
  simp only [Act.put, List.setIfInBounds_toArray, List.set_cons_zero, List.set_cons_succ]
  refine wpAnyH_take (i := 4) (oi := ⟨some 7, _, _, _, _, _⟩) (v := ?_) rfl (by kernel_rfl) (by kernel_rfl) (by kernel_rfl) (fun _ _ _ h => h) (Or.inl ⟨by rfl, ?_⟩) hHeld ?_
  rotate_left
  · intro ww hSw
    (try dsimp only at hSw)
    go_simp
    (try with_reducible rfl)
  simp only [Act.put, List.setIfInBounds_toArray, List.set_cons_zero, List.set_cons_succ]
  refine wpAnyH_take (i := 5) (oi := ⟨some 8, _, _, _, _, _⟩) (v := ?_) rfl (by kernel_rfl) (by kernel_rfl) (by kernel_rfl) (fun _ _ _ h => h) (Or.inl ⟨by rfl, ?_⟩) hHeld ?_
  rotate_left
  · intro ww hSw
    (try dsimp only at hSw)
    go_simp
    (try with_reducible rfl)
  simp only [Act.put, List.setIfInBounds_toArray, List.set_cons_zero, List.set_cons_succ]
  refine wpAnyH_take (i := 6) (oi := ⟨some 9, _, _, _, _, _⟩) (v := ?_) rfl (by kernel_rfl) (by kernel_rfl) (by kernel_rfl) (fun _ _ _ h => h) (Or.inl ⟨by rfl, ?_⟩) hHeld ?_
  rotate_left
  · intro ww hSw
    (try dsimp only at hSw)
    go_simp
    (try with_reducible rfl)
  simp only [Act.put, List.setIfInBounds_toArray, List.set_cons_zero, List.set_cons_succ]
  refine wpAnyH_take (i := 7) (oi := ⟨some 10, _, _, _, _, _⟩) (v := ?_) rfl (by kernel_rfl) (by kernel_rfl) (by kernel_rfl) (fun _ _ _ h => h) (Or.inl ⟨by rfl, ?_⟩) hHeld ?_
  rotate_left
  · intro ww hSw
    (try dsimp only at hSw)
    go_simp
    (try with_reducible rfl)
  simp only [Act.put, List.setIfInBounds_toArray, List.set_cons_zero, List.set_cons_succ]
  refine wpAnyH_take (i := 8) (oi := ⟨some 11, _, _, _, _, _⟩) (v := ?_) rfl (by kernel_rfl) (by kernel_rfl) (by kernel_rfl) (fun _ _ _ h => h) (Or.inl ⟨by rfl, ?_⟩) hHeld ?_
  rotate_left
  · intro ww hSw
    (try dsimp only at hSw)
    go_simp
    (try with_reducible rfl)
  simp only [Act.put, List.setIfInBounds_toArray, List.set_cons_zero, List.set_cons_succ]
  refine wpAnyH_take (i := 9) (oi := ⟨some 12, _, _, _, _, _⟩) (v := ?_) rfl (by kernel_rfl) (by kernel_rfl) (by kernel_rfl) (fun _ _ _ h => h) (Or.inl ⟨by rfl, ?_⟩) hHeld ?_
  rotate_left
  · intro ww hSw
    (try dsimp only at hSw)
    go_simp
    (try with_reducible rfl)
  simp only [Act.put, List.setIfInBounds_toArray, List.set_cons_zero, List.set_cons_succ]
  refine wpAnyH_ready (rs := [10]) (by kernel_rfl) (by simp) ?_
  refine AllReadyH.cons (o := ⟨some 13, _, _, _, _, _⟩) rfl (fun K hK => ?_) AllReadyH.nil
  go_simp
  refine hK.out _ _ ?_ (fun hHeld => ?_)
  · (try dsimp only)
    exact hHeld.alloc (fun b hb => HW.out.low b hb) _
  clear hK K
  (try simp only [Act.put, List.setIfInBounds_toArray, List.set_cons_zero, List.set_cons_succ])
  refine wpAnyH_ready (rs := [11]) (by kernel_rfl) (by simp) ?_
  refine AllReadyH.cons (o := ⟨some 14, _, _, _, _, _⟩) rfl (fun K hK => ?_) AllReadyH.nil
  go_simp
  go_at_call 61
  refine (HN.out w.drew (Kept.of_below (below_drew (Below.refl _ _)) HW.out.low) (HW.out.keep (below_drew (Below.refl _ _))) _ _ (by intro j hj; rcases (show j = 0 ∨ j = 1 ∨ j = 2 by omega) with rfl | rfl | rfl <;> rfl)).mono ?_
  rintro e_r w2 ⟨rfl, hk2, hw2⟩
  go_wp2_with fail
  refine hK.out _ _ ?_ (fun hHeld => ?_)
  · (try dsimp only)
    exact (Kept.of_below (below_drew (Below.refl _ _)) HW.out.low).on hk2
  clear hK K
  (try simp only [Act.put, List.setIfInBounds_toArray, List.set_cons_zero, List.set_cons_succ])
  refine wpAnyH_done (by kernel_rfl) ?_ _
  refine NoPanic.normal ?_
  refine bodyPost_end (v := .tuple #[]) (by simp [results, Try.results64]) rfl ⟨rfl, (Kept.of_below (below_drew (Below.refl _ _)) HW.out.low).on hk2, hw2⟩
set_option maxHeartbeats 1000000 in
theorem wshow_tier (F : Nat → Prop) (g q o p2 p4 : Nat) (n0 n1 : Nat) (l : List (BitVec 8)) (w : World) (hns : ∀ n ∈ [n0, n1], n < 9223372036854775808)
    (hc : ∀ j, j < 2 → w.cell? ⟨q, o + j, none⟩ = some (.int .i64 ([n0, n1].getD j 0 : Nat))) (hq : F q) (hF2 : F p2) (h2 : w.cell? ⟨p2, 0, none⟩ = some (.iface 61 (.pointer (some ⟨g, 0, none⟩)))) (hF4 : F p4) (h4 : w.cell? ⟨p4, 0, none⟩ = some (.func (.func 61) #[] #[.pointer (some ⟨p2, 0, none⟩)]))
    (h : WPen F g l w) (hl : l.length ≤ 1000000000) :
    Calls Try.prog 71 #[.pointer (some ⟨q, o, none⟩), .pointer (some ⟨p4, 0, none⟩)] w fun e w' => e = .returned (.tuple #[]) ∧ Kept F w w' ∧ WPen F g (l ++ putB [n0, n1]) w' := by
  have eg : ∀ args w, (callFunc 61 args).run Try.prog w = .ok (.enter 61 args) w := enters_of Try.func61 (by kernel_rfl) rfl
  have hlt4 := cell_lt h4
  have hltq := h.low q hq
  have HN := Lib.hid (fun (wx : World) (hx : Kept F w wx) (hw : WPen F g l wx) (cells : Array Value) (t : TypeId) (hcs : ∀ j, j < 2 → cells[j]? = some (.pointer (some ⟨q, o + j, none⟩))) => wnums_new F g q o 2 p2 [n0, n1] l wx cells t hcs rfl (by omega) hns (fun j hj => (cell_kept hx hq).trans (hc j hj)) hq hF2 ((cell_kept hx hF2).trans h2) hw hl)
  have H4 := Lib.hid h4
  have HW := Lib.hid h
  have HQ := Lib.hid hc
  clear h4 h hc h2 hns
  go_enter Try.func71, Try.ntmps71
  refine wp_region_noPanic ?_
  refine wp_region_held_drew (S := fun w' => Kept F w w') (by kernel_rfl) (Kept.of_below (below_drew (Below.refl _ _)) HW.out.low) (fun hHeld => ?_)
  refine wpAnyH_take (i := 0) (oi := ⟨some 3, _, _, _, _, _⟩) (v := .func (.func 61) #[] #[.pointer (some ⟨p2, 0, none⟩)]) rfl (by kernel_rfl) (by kernel_rfl) (by kernel_rfl) (fun _ _ _ h => h) (Or.inl ⟨by rfl, ?_⟩) hHeld ?_
  · intro ww hSw
    (try dsimp only at hSw)
    have hcl := (cell_kept hSw (p := ⟨p4, 0, none⟩) hF4).trans H4.out
    have hcs := cell_lt hcl
    go_simp
  simp only [Act.put, List.setIfInBounds_toArray, List.set_cons_zero, List.set_cons_succ]
  refine wpAnyH_take (i := 1) (oi := ⟨some 4, _, _, _, _, _⟩) (v := ?_) rfl (by kernel_rfl) (by kernel_rfl) (by kernel_rfl) (fun _ _ _ h => h) (Or.inl ⟨by rfl, ?_⟩) hHeld ?_
  rotate_left
  · intro ww hSw
    (try dsimp only at hSw)
    go_simp
    (try with_reducible rfl)
  simp only [Act.put, List.setIfInBounds_toArray, List.set_cons_zero, List.set_cons_succ]
  refine wpAnyH_take (i := 2) (oi := ⟨some 5, _, _, _, _, _⟩) (v := ?_) rfl (by kernel_rfl) (by kernel_rfl) (by kernel_rfl) (fun _ _ _ h => h) (Or.inl ⟨by rfl, ?_⟩) hHeld ?_
  rotate_left
  · intro ww hSw
    (try dsimp only at hSw)
    go_simp
    (try with_reducible rfl)
  simp only [Act.put, List.setIfInBounds_toArray, List.set_cons_zero, List.set_cons_succ]
  refine wpAnyH_take (i := 3) (oi := ⟨some 6, _, _, _, _, _⟩) (v := ?_) rfl (by kernel_rfl) (by kernel_rfl) (by kernel_rfl) (fun _ _ _ h => h) (Or.inl ⟨by rfl, ?_⟩) hHeld ?_
  rotate_left
  · intro ww hSw
    (try dsimp only at hSw)
    go_simp
    (try with_reducible rfl)
  simp only [Act.put, List.setIfInBounds_toArray, List.set_cons_zero, List.set_cons_succ]
  refine wpAnyH_take (i := 4) (oi := ⟨some 7, _, _, _, _, _⟩) (v := ?_) rfl (by kernel_rfl) (by kernel_rfl) (by kernel_rfl) (fun _ _ _ h => h) (Or.inl ⟨by rfl, ?_⟩) hHeld ?_
  rotate_left
  · intro ww hSw
    (try dsimp only at hSw)
    go_simp
    (try with_reducible rfl)
  simp only [Act.put, List.setIfInBounds_toArray, List.set_cons_zero, List.set_cons_succ]
  refine wpAnyH_take (i := 5) (oi := ⟨some 8, _, _, _, _, _⟩) (v := ?_) rfl (by kernel_rfl) (by kernel_rfl) (by kernel_rfl) (fun _ _ _ h => h) (Or.inl ⟨by rfl, ?_⟩) hHeld ?_
  rotate_left
  · intro ww hSw
    (try dsimp only at hSw)
    go_simp
    (try with_reducible rfl)
  simp only [Act.put, List.setIfInBounds_toArray, List.set_cons_zero, List.set_cons_succ]
  refine wpAnyH_take (i := 6) (oi := ⟨some 9, _, _, _, _, _⟩) (v := ?_) rfl (by kernel_rfl) (by kernel_rfl) (by kernel_rfl) (fun _ _ _ h => h) (Or.inl ⟨by rfl, ?_⟩) hHeld ?_
  rotate_left
  · intro ww hSw
    (try dsimp only at hSw)
    go_simp
    (try with_reducible rfl)
  simp only [Act.put, List.setIfInBounds_toArray, List.set_cons_zero, List.set_cons_succ]
  refine wpAnyH_ready (rs := [7]) (by kernel_rfl) (by simp) ?_
  refine AllReadyH.cons (o := ⟨some 10, _, _, _, _, _⟩) rfl (fun K hK => ?_) AllReadyH.nil
  go_simp
  refine hK.out _ _ ?_ (fun hHeld => ?_)
  · (try dsimp only)
    exact hHeld.alloc (fun b hb => HW.out.low b hb) _
  clear hK K
  (try simp only [Act.put, List.setIfInBounds_toArray, List.set_cons_zero, List.set_cons_succ])
  refine wpAnyH_ready (rs := [8]) (by kernel_rfl) (by simp) ?_
  refine AllReadyH.cons (o := ⟨some 11, _, _, _, _, _⟩) rfl (fun K hK => ?_) AllReadyH.nil
  go_simp
  go_at_call 61
  refine (HN.out w.drew (Kept.of_below (below_drew (Below.refl _ _)) HW.out.low) (HW.out.keep (below_drew (Below.refl _ _))) _ _ (by intro j hj; rcases (show j = 0 ∨ j = 1 by omega) with rfl | rfl <;> rfl)).mono ?_
  rintro e_r w2 ⟨rfl, hk2, hw2⟩
  go_wp2_with fail
  refine hK.out _ _ ?_ (fun hHeld => ?_)
  · (try dsimp only)
    exact (Kept.of_below (below_drew (Below.refl _ _)) HW.out.low).on hk2
  clear hK K
  (try simp only [Act.put, List.setIfInBounds_toArray, List.set_cons_zero, List.set_cons_succ])
  refine wpAnyH_done (by kernel_rfl) ?_ _
  refine NoPanic.normal ?_
  refine bodyPost_end (v := .tuple #[]) (by simp [results, Try.results71]) rfl ⟨rfl, (Kept.of_below (below_drew (Below.refl _ _)) HW.out.low).on hk2, hw2⟩
set_option maxHeartbeats 1000000 in
theorem wshow_one (F : Nat → Prop) (g q o p2 p4 : Nat) (n0 : Nat) (l : List (BitVec 8)) (w : World) (hns : ∀ n ∈ [n0], n < 9223372036854775808)
    (hc : ∀ j, j < 1 → w.cell? ⟨q, o + j, none⟩ = some (.int .i64 ([n0].getD j 0 : Nat))) (hq : F q) (hF2 : F p2) (h2 : w.cell? ⟨p2, 0, none⟩ = some (.iface 61 (.pointer (some ⟨g, 0, none⟩)))) (hF4 : F p4) (h4 : w.cell? ⟨p4, 0, none⟩ = some (.func (.func 61) #[] #[.pointer (some ⟨p2, 0, none⟩)]))
    (h : WPen F g l w) (hl : l.length ≤ 1000000000) :
    Calls Try.prog 69 #[.pointer (some ⟨q, o, none⟩), .pointer (some ⟨p4, 0, none⟩)] w fun e w' => e = .returned (.tuple #[]) ∧ Kept F w w' ∧ WPen F g (l ++ putB [n0]) w' := by
  have eg : ∀ args w, (callFunc 61 args).run Try.prog w = .ok (.enter 61 args) w := enters_of Try.func61 (by kernel_rfl) rfl
  have hlt4 := cell_lt h4
  have hltq := h.low q hq
  have HN := Lib.hid (fun (wx : World) (hx : Kept F w wx) (hw : WPen F g l wx) (cells : Array Value) (t : TypeId) (hcs : ∀ j, j < 1 → cells[j]? = some (.pointer (some ⟨q, o + j, none⟩))) => wnums_new F g q o 1 p2 [n0] l wx cells t hcs rfl (by omega) hns (fun j hj => (cell_kept hx hq).trans (hc j hj)) hq hF2 ((cell_kept hx hF2).trans h2) hw hl)
  have H4 := Lib.hid h4
  have HW := Lib.hid h
  have HQ := Lib.hid hc
  clear h4 h hc h2 hns
  go_enter Try.func69, Try.ntmps69
  have hcl := H4.out
  have hne4 : p4 ≠ w.heap.size := by simp at hlt4; omega
  go_wp2_with fail
  refine (HN.out w (Kept.refl _ _) HW.out _ _ (by intro j hj; rcases (show j = 0 by omega) with rfl; rfl)).mono ?_
  rintro e_r w2 ⟨rfl, hk2, hw2⟩
  go_wp2
  refine bodyPost_end (v := .tuple #[]) (by simp [results, Try.results69]) rfl ⟨rfl, hk2, hw2⟩
set_option maxHeartbeats 1000000 in
theorem wshow_ele (F : Nat → Prop) (g q o p2 p4 p5 : Nat) (n0 n1 n2 n3 : Nat) (l : List (BitVec 8)) (w : World) (hns : ∀ n ∈ [n0, n1, n2, n3], n < 9223372036854775808)
    (hc : ∀ j, j < 4 → w.cell? ⟨q, o + j, none⟩ = some (.int .i64 ([n0, n1, n2, n3].getD j 0 : Nat))) (hq : F q) (hF2 : F p2) (h2 : w.cell? ⟨p2, 0, none⟩ = some (.iface 61 (.pointer (some ⟨g, 0, none⟩)))) (hF4 : F p4) (h4 : w.cell? ⟨p4, 0, none⟩ = some (.func (.func 61) #[] #[.pointer (some ⟨p2, 0, none⟩)]))
    (hF5 : F p5) (h5 : w.cell? ⟨p5, 0, none⟩ = some (.func (.func 62) #[] #[.pointer (some ⟨p4, 0, none⟩)])) (h : WPen F g l w) (hl : l.length ≤ 100000000) :
    Calls Try.prog 66 #[.pointer (some ⟨q, o, none⟩), .pointer (some ⟨p5, 0, none⟩)] w fun e w' => e = .returned (.tuple #[]) ∧ Kept F w w' ∧ WPen F g (l ++ putB [n0, n1, n2, n3]) w' := by
  have eg : ∀ args w, (callFunc 62 args).run Try.prog w = .ok (.enter 62 args) w := enters_of Try.func62 (by kernel_rfl) rfl
  have hltq := h.low q hq
  have H1 := Lib.hid (fun (wx : World) (hx : Kept F w wx) (hw : WPen F g l wx) => wshow_part F g q o p2 p4 n0 n1 l wx (fun n hn => hns n (by simp at hn ⊢; omega)) (fun j hj => by
    rw [cell_kept hx (p := ⟨q, o + j, none⟩) hq, hc j (by omega)]
    rcases (show j = 0 ∨ j = 1 by omega) with rfl | rfl <;> rfl) hq hF2 ((cell_kept hx hF2).trans h2) hF4 ((cell_kept hx hF4).trans h4) hw (by omega))
  have hl2 : (l ++ putB [n0, n1]).length ≤ 1000000000 := by
    have := put_len_le [n0, n1] (fun n hn => hns n (by simp at hn ⊢; omega))
    rw [List.length_append]
    simp at this
    omega
  have H2 := Lib.hid (fun (wx : World) (hx : Kept F w wx) (hw : WPen F g (l ++ putB [n0, n1]) wx) => wshow_part F g q (o + 2) p2 p4 n2 n3 (l ++ putB [n0, n1]) wx (fun n hn => hns n (by simp at hn ⊢; omega)) (fun j hj => by
    rw [cell_kept hx (p := ⟨q, o + 2 + j, none⟩) hq, Nat.add_assoc, hc (2 + j) (by omega)]
    rcases (show j = 0 ∨ j = 1 by omega) with rfl | rfl <;> rfl) hq hF2 ((cell_kept hx hF2).trans h2) hF4 ((cell_kept hx hF4).trans h4) hw hl2)
  have E : Hid (l ++ putB [n0, n1] ++ putB [n2, n3] = l ++ putB [n0, n1, n2, n3]) := by
    show _ = _
    rw [List.append_assoc]
    simp [putB]
  have H5 := Lib.hid h5
  have HW := Lib.hid h
  clear h4 h5 h hc h2 hns
  generalize l ++ putB [n0, n1] = l1 at *
  go_enter Try.func66, Try.ntmps66
  go_wp2_with fail
  refine wp_region_noPanic ?_
  refine wp_region_held_drew (S := fun w' => Kept F w w') (by kernel_rfl) (Kept.of_below (below_drew (Below.refl _ _)) HW.out.low) (fun hHeld => ?_)
  refine wpAnyH_take (i := 0) (oi := ⟨some 3, _, _, _, _, _⟩) (v := .func (.func 62) #[] #[.pointer (some ⟨p4, 0, none⟩)]) rfl (by kernel_rfl) (by kernel_rfl) (by kernel_rfl) (fun _ _ _ h => h) (Or.inl ⟨by rfl, ?_⟩) hHeld ?_
  · intro ww hSw
    (try dsimp only at hSw)
    have hcl := (cell_kept hSw (p := ⟨p5, 0, none⟩) hF5).trans H5.out
    have hcs := cell_lt hcl
    go_simp
  simp only [Act.put, List.setIfInBounds_toArray, List.set_cons_zero, List.set_cons_succ]
  refine wpAnyH_take (i := 1) (oi := ⟨some 4, _, _, _, _, _⟩) (v := ?_) rfl (by kernel_rfl) (by kernel_rfl) (by kernel_rfl) (fun _ _ _ h => h) (Or.inl ⟨by rfl, ?_⟩) hHeld ?_
  rotate_left
  · intro ww hSw
    (try dsimp only at hSw)
    go_simp
    (try with_reducible rfl)
  simp only [Act.put, List.setIfInBounds_toArray, List.set_cons_zero, List.set_cons_succ]
  refine wpAnyH_take (i := 2) (oi := ⟨some 5, _, _, _, _, _⟩) (v := ?_) rfl (by kernel_rfl) (by kernel_rfl) (by kernel_rfl) (fun _ _ _ h => h) (Or.inl ⟨by rfl, ?_⟩) hHeld ?_
  rotate_left
  · intro ww hSw
    (try dsimp only at hSw)
    go_simp
    (try with_reducible rfl)
  simp only [Act.put, List.setIfInBounds_toArray, List.set_cons_zero, List.set_cons_succ]
  refine wpAnyH_take (i := 3) (oi := ⟨some 6, _, _, _, _, _⟩) (v := ?_) rfl (by kernel_rfl) (by kernel_rfl) (by kernel_rfl) (fun _ _ _ h => h) (Or.inl ⟨by rfl, ?_⟩) hHeld ?_
  rotate_left
  · intro ww hSw
    (try dsimp only at hSw)
    go_simp
    (try with_reducible rfl)
  simp only [Act.put, List.setIfInBounds_toArray, List.set_cons_zero, List.set_cons_succ]
  refine wpAnyH_ready (rs := [4]) (by kernel_rfl) (by simp) ?_
  refine AllReadyH.cons (o := ⟨some 7, _, _, _, _, _⟩) rfl (fun K hK => ?_) AllReadyH.nil
  go_simp
  go_at_call 62
  refine (H1.out _ (Kept.of_below (below_drew (Below.refl _ _)) HW.out.low) (HW.out.keep (below_drew (Below.refl _ _)))).mono ?_
  rintro e_r w2 ⟨rfl, hk2, hw2⟩
  go_wp2_with fail
  refine hK.out _ _ ?_ (fun hHeld => ?_)
  · (try dsimp only)
    exact (Kept.of_below (below_drew (Below.refl _ _)) HW.out.low).on hk2
  clear hK K
  (try simp only [Act.put, List.setIfInBounds_toArray, List.set_cons_zero, List.set_cons_succ])
  refine wpAnyH_done (by kernel_rfl) ?_ _
  refine NoPanic.normal ?_
  replace hk2 := (Kept.of_below (below_drew (Below.refl _ _)) HW.out.low).on hk2
  have HW2 := Lib.hid hw2
  clear hw2
  go_wp2_with fail
  refine wp_region_noPanic ?_
  refine wp_region_held_drew (S := fun w' => Kept F w w') (by kernel_rfl) (hk2.on (Kept.of_below (below_drew (Below.refl _ _)) HW2.out.low)) (fun hHeld => ?_)
  refine wpAnyH_take (i := 0) (oi := ⟨some 8, _, _, _, _, _⟩) (v := .func (.func 62) #[] #[.pointer (some ⟨p4, 0, none⟩)]) rfl (by kernel_rfl) (by kernel_rfl) (by kernel_rfl) (fun _ _ _ h => h) (Or.inl ⟨by rfl, ?_⟩) hHeld ?_
  · intro ww hSw
    (try dsimp only at hSw)
    have hcl := (cell_kept hSw (p := ⟨p5, 0, none⟩) hF5).trans H5.out
    have hcs := cell_lt hcl
    go_simp
  simp only [Act.put, List.setIfInBounds_toArray, List.set_cons_zero, List.set_cons_succ]
  refine wpAnyH_take (i := 1) (oi := ⟨some 9, _, _, _, _, _⟩) (v := ?_) rfl (by kernel_rfl) (by kernel_rfl) (by kernel_rfl) (fun _ _ _ h => h) (Or.inl ⟨by rfl, ?_⟩) hHeld ?_
  rotate_left
  · intro ww hSw
    (try dsimp only at hSw)
    go_simp
    (try with_reducible rfl)
  simp only [Act.put, List.setIfInBounds_toArray, List.set_cons_zero, List.set_cons_succ]
  refine wpAnyH_take (i := 2) (oi := ⟨some 10, _, _, _, _, _⟩) (v := ?_) rfl (by kernel_rfl) (by kernel_rfl) (by kernel_rfl) (fun _ _ _ h => h) (Or.inl ⟨by rfl, ?_⟩) hHeld ?_
  rotate_left
  · intro ww hSw
    (try dsimp only at hSw)
    go_simp
    (try with_reducible rfl)
  simp only [Act.put, List.setIfInBounds_toArray, List.set_cons_zero, List.set_cons_succ]
  refine wpAnyH_take (i := 3) (oi := ⟨some 11, _, _, _, _, _⟩) (v := ?_) rfl (by kernel_rfl) (by kernel_rfl) (by kernel_rfl) (fun _ _ _ h => h) (Or.inl ⟨by rfl, ?_⟩) hHeld ?_
  rotate_left
  · intro ww hSw
    (try dsimp only at hSw)
    go_simp
    (try with_reducible rfl)
  simp only [Act.put, List.setIfInBounds_toArray, List.set_cons_zero, List.set_cons_succ]
  refine wpAnyH_ready (rs := [4]) (by kernel_rfl) (by simp) ?_
  refine AllReadyH.cons (o := ⟨some 12, _, _, _, _, _⟩) rfl (fun K hK => ?_) AllReadyH.nil
  go_simp
  go_at_call 62
  refine (H2.out _ (hk2.on (Kept.of_below (below_drew (Below.refl _ _)) HW2.out.low)) (HW2.out.keep (below_drew (Below.refl _ _)))).mono ?_
  rintro e_r w3 ⟨rfl, hk3, hw3⟩
  go_wp2_with fail
  refine hK.out _ _ ?_ (fun hHeld => ?_)
  · (try dsimp only)
    exact (hk2.on (Kept.of_below (below_drew (Below.refl _ _)) HW2.out.low)).on hk3
  clear hK K
  (try simp only [Act.put, List.setIfInBounds_toArray, List.set_cons_zero, List.set_cons_succ])
  refine wpAnyH_done (by kernel_rfl) ?_ _
  refine NoPanic.normal ?_
  refine bodyPost_end (v := .tuple #[]) (by simp [results, Try.results66]) rfl ⟨rfl, (hk2.on (Kept.of_below (below_drew (Below.refl _ _)) HW2.out.low)).on hk3, by rw [← E.out]; exact hw3⟩
end Go.Proofs.Ytdhkfhgggkndoaa
