/-
  The document's own answer of layer 12: a worker's events, where a session ends, kinds.
  The document's own answer of layer 12: where a session ends; kinds of parts.
-/
import Derived.Test.YtbijaaglmhoopaaGreatZao
import Derived.Test.YtbijaaglmhoopaaGreatEvSortR
import Derived.Test.YtbijaaglmhoopaaGreatEvRef
import Derived.Test.YtbijaaglmhoopaaGreatZag
import Derived.Test.YtbijaaglmhoopaaGreatZaj
import Derived.Deep.RegionHeld3
namespace Go.Proofs.YtbijaaglmhoopaaGreat
open Go.RowKit
set_option linter.unusedVariables false
set_option linter.unusedSimpArgs false
set_option maxRecDepth 20000

def mayE (pl : Int) (nE nC nG nR : Nat) (e : EvP) : Bool := decide (e.May pl nE nC nG nR)
theorem in_filter (p : EvP → Bool) (S : List EvP) (k : Nat) (h : k < S.length) : (S.take (k + 1)).filter p = (S.take k).filter p ++ (if p (S.getD k EvP.none) = true then [S.getD k EvP.none] else []) := by
  rw [take_snoc_e h, List.filter_append]
  congr 1
  by_cases q : p (S.getD k EvP.none) = true
  · rw [if_pos q, List.filter_cons_of_pos q]; rfl
  · rw [if_neg q, List.filter_cons_of_neg q]; rfl
set_option maxHeartbeats 8000000 in
theorem revents_any (cs : Array Value) (pl : Int) (nE nC nG nR : Nat) (hs : SetS cs pl nE nC nG nR) (A : Option Addr) (n c : Nat) (l : List EvP) (wk : Int) (w : World) (h : Evs w A n c l) (hn : n ≤ 1000) (hIn : ∀ e ∈ l, e.In) (D : List EvP) (hD : wevs (mayE pl nE nC nG nR) wk l = D) (m : Nat) (hm : D.length = m) :
    Calls Tryz.prog 22 #[.agg cs, .slice A n c, .int .i64 wk] w fun e w' => ∃ A' c', e = .returned (.slice A' m c') ∧ ERow w' w.heap.size A' m c' D ∧ Below w.heap.size w w' := by
  have HZ := Lib.hid hs.size
  have hb0 := bel_alloc (Below.refl w.heap.size w) (.cells cs 30)
  have HB0 := Lib.hid (Has.new w 30 cs rfl)
  have HSO := Lib.hid (rsort_any A n c l _ (h.below hb0) hn)
  obtain ⟨S, hS⟩ : ∃ S, sortE l = S := ⟨_, rfl⟩
  have hSl : S.length = n := by rw [← hS, sortE_length]; exact h.2
  have HSI : Hid (∀ x ∈ S, x.In) := fun x hx => hIn x (by rw [← hS] at hx; exact (ev_sort_perm l).mem_iff.1 hx)
  have HD : Hid (S.filter (ofW (mayE pl nE nC nG nR) wk) = D) := by show _ = _; rw [← hD, ← hS]; rfl
  rw [hS] at HSO
  clear h hIn hD hS
  go_enter Tryz.func22, Tryz.ntmps22
  go_wp2_with fail
  refine HSO.out.mono ?_
  rintro e w1 ⟨A1, c1, rfl, b1, E1⟩
  have HL := Lib.hid E1
  have HG := Lib.hid (HB0.out.below b1)
  have HB1 := Lib.hid (bel_on hb0 b1)
  clear b1 E1 hb0 HB0 HSO
  go_wp2
  go_loopw [7, 9] (fun o i wr => ∃ (k : Nat) (B : Option Addr) (d q : Nat), k ≤ n ∧ i = .int .i64 k ∧ o = .slice B q d ∧ q ≤ k ∧ ((S.take k).filter (ofW (mayE pl nE nC nG nR) wk)).length = q ∧ Hid (ERow wr w1.heap.size B q d ((S.take k).filter (ofW (mayE pl nE nC nG nR) wk))) ∧ Hid (Below w1.heap.size w1 wr)) (fun _ i _ => n - (intOf i).toNat)
  case atStart => exact ⟨0, none, 0, 0, Nat.zero_le _, rfl, rfl, Nat.le_refl _, by simp, by simp; exact TRow.nil _ _, Below.refl _ _⟩
  case round =>
    obtain ⟨k, B, d, q, hk, rfl, rfl, hqk, hq, HR, HW⟩ := hrel
    by_cases hlt : k < n
    · have HLr := Lib.hid (HL.out.below HW.out)
      have HGr := Lib.hid (HG.out.below HW.out)
      obtain ⟨ba, oa, rfl⟩ := HLr.out.form (by omega)
      obtain ⟨x, hx⟩ : ∃ x, S.getD k EvP.none = x := ⟨_, rfl⟩
      have hxI : x.In := HSI.out x (by rw [← hx]; simp [List.getD, show k < S.length by omega])
      have HNX := Lib.hid (in_filter (ofW (mayE pl nE nC nG nR) wk) S k (by omega))
      rw [hx] at HNX
      have i0 : (0 : Int) ≤ (k : Int) := by omega
      have i1 : (k : Int) < (n : Int) := by omega
      have hCK := fun b hb W => rcheck8_any cs pl nE nC nG nR hs x hxI W b hb
      by_cases q1 : x.May pl nE nC nG nR
      · have hck := fun W => hCK true (decide_eq_true q1) W
        by_cases q2 : x.wk = wk
        · have q2' : (x.wk == wk) = true := by simpa using q2
          by_cases q3 : x.kd = 7
          · have q3' : (x.kd != 7) = false := by simp [q3]
            have hP : (if ofW (mayE pl nE nC nG nR) wk x = true then [x] else []) = [] := by rw [if_neg]; simp [ofW, q3]
            clear hCK q1 q2
            go_wp2_with fail
            refine wp_region_noPanic ?_
            refine wp_region_held_drew (S := fun w' => Below wr.heap.size wr w') (by kernel_rfl) (below_drew (Below.refl _ _)) (fun hHeld => ?_)
            refine wpAnyH_take (i := 0) (oi := ⟨some 19, _, _, _, _, _⟩) (v := .agg cs) rfl (by kernel_rfl) (by kernel_rfl) (by kernel_rfl) (fun _ _ _ h => h) (Or.inl ⟨by rfl, ?_⟩) hHeld ?_
            · intro ww hSw
              (try dsimp only at hSw)
              exact exec_load_st _ rfl rfl (HGr.out.below hSw) HZ.out
            simp only [Act.put, List.setIfInBounds_toArray, List.set_cons_zero, List.set_cons_succ]
            refine wpAnyH_take (i := 1) (oi := ⟨some 20, _, _, _, _, _⟩) (v := ?_) rfl (by kernel_rfl) (by kernel_rfl) (by kernel_rfl) (fun _ _ _ h => h) (Or.inl ⟨by rfl, ?_⟩) hHeld ?_
            rotate_left
            · intro ww hSw
              (try dsimp only at hSw)
              go_simp
              (try with_reducible rfl)
            simp only [Act.put, List.setIfInBounds_toArray, List.set_cons_zero, List.set_cons_succ]
            refine wpAnyH_take (i := 2) (oi := ⟨some 21, _, _, _, _, _⟩) (v := ?_) rfl (by kernel_rfl) (by kernel_rfl) (by kernel_rfl) (fun _ _ _ h => h) (Or.inl ⟨by rfl, ?_⟩) hHeld ?_
            rotate_left
            · intro ww hSw
              (try dsimp only at hSw)
              go_simp
              (try with_reducible rfl)
            simp only [Act.put, List.setIfInBounds_toArray, List.set_cons_zero, List.set_cons_succ]
            refine wpAnyH_take (i := 3) (oi := ⟨some 22, _, _, _, _, _⟩) (v := .pointer (some ⟨ba, oa + k * 11, none⟩)) rfl (by kernel_rfl) (by kernel_rfl) (by kernel_rfl) (fun _ _ _ h => h) (Or.inl ⟨by rfl, ?_⟩) hHeld ?_
            · intro ww hSw
              (try dsimp only at hSw)
              go_simp
            simp only [Act.put, List.setIfInBounds_toArray, List.set_cons_zero, List.set_cons_succ]
            refine wpAnyH_take (i := 4) (oi := ⟨some 23, _, _, _, _, _⟩) (v := .agg (evC x)) rfl (by kernel_rfl) (by kernel_rfl) (by kernel_rfl) (fun _ _ _ h => h) (Or.inl ⟨by rfl, ?_⟩) hHeld ?_
            · intro ww hSw
              (try dsimp only at hSw)
              rw [← hx]
              exact exec_load_at _ rfl rfl (evs_load (HLr.out.below hSw) (by omega))
            simp only [Act.put, List.setIfInBounds_toArray, List.set_cons_zero, List.set_cons_succ]
            refine wpAnyH_ready (rs := [5]) (by kernel_rfl) (by simp) ?_
            refine AllReadyH.cons (o := ⟨some 24, _, _, _, _, _⟩) rfl (fun K hK => ?_) AllReadyH.nil
            go_simp
            go_at_call 45
            refine (hck _).mono ?_
            rintro e_r w5 ⟨rfl, hbn⟩
            have hbw5 : Below wr.heap.size wr w5 := bel_on (show Below wr.heap.size wr _ by (repeat' (first | with_reducible exact Below.refl _ _ | with_reducible assumption | with_reducible refine bel_alloc ?_ _ | with_reducible refine bel_set ?_ ?_ _ | with_reducible refine below_drewN ?_ _ | with_reducible refine below_drew ?_ | (simp; done) | (simp; omega) | omega))) hbn
            clear hbn
            go_wp2_with fail
            refine hK.out _ _ ?_ (fun hHeld => ?_)
            · (try dsimp only)
              exact hbw5
            clear hK K
            (try simp only [Act.put, List.setIfInBounds_toArray, List.set_cons_zero, List.set_cons_succ])
            refine wpAnyH_take (i := 6) (oi := ⟨some 10, _, _, _, _, _⟩) (v := ?_) rfl (by kernel_rfl) (by kernel_rfl) (by kernel_rfl) (fun _ _ _ h => h) (Or.inl ⟨by rfl, ?_⟩) hHeld ?_
            rotate_left
            · intro ww hSw
              (try dsimp only at hSw)
              go_simp
              (try with_reducible rfl)
            simp only [Act.put, List.setIfInBounds_toArray, List.set_cons_zero, List.set_cons_succ]
            refine wpAnyH_done (by kernel_rfl) ?_ _
            refine NoPanic.normal ?_
            have HW5 := Lib.hid (bel_on HW.out hbw5)
            have HL5 := Lib.hid (HLr.out.below hbw5)
            obtain ⟨z0, z1, z2, z3, z4⟩ := evs_num HL5.out hlt x hx
            have hz0 := cell_lt z0
            clear z2 z4
            go_wp2
            go_roundw
            case rel => exact ⟨k + 1, B, d, q, by omega, by go_num, rfl, by omega, by rw [HNX.out, hP, List.append_nil]; exact hq, by rw [HNX.out, hP, List.append_nil]; exact HR.out.below hbw5, HW5⟩
            case measure => simp [intOf]; omega
          · have q3' : (x.kd != 7) = true := by simpa using q3
            have hP : (if ofW (mayE pl nE nC nG nR) wk x = true then [x] else []) = [x] := by rw [if_pos]; simp [ofW, mayE, q1, q2, q3]
            clear hCK q1 q2 q3
            go_wp2_with fail
            refine wp_region_noPanic ?_
            refine wp_region_held_drew (S := fun w' => Below wr.heap.size wr w') (by kernel_rfl) (below_drew (Below.refl _ _)) (fun hHeld => ?_)
            refine wpAnyH_take (i := 0) (oi := ⟨some 19, _, _, _, _, _⟩) (v := .agg cs) rfl (by kernel_rfl) (by kernel_rfl) (by kernel_rfl) (fun _ _ _ h => h) (Or.inl ⟨by rfl, ?_⟩) hHeld ?_
            · intro ww hSw
              (try dsimp only at hSw)
              exact exec_load_st _ rfl rfl (HGr.out.below hSw) HZ.out
            simp only [Act.put, List.setIfInBounds_toArray, List.set_cons_zero, List.set_cons_succ]
            refine wpAnyH_take (i := 1) (oi := ⟨some 20, _, _, _, _, _⟩) (v := ?_) rfl (by kernel_rfl) (by kernel_rfl) (by kernel_rfl) (fun _ _ _ h => h) (Or.inl ⟨by rfl, ?_⟩) hHeld ?_
            rotate_left
            · intro ww hSw
              (try dsimp only at hSw)
              go_simp
              (try with_reducible rfl)
            simp only [Act.put, List.setIfInBounds_toArray, List.set_cons_zero, List.set_cons_succ]
            refine wpAnyH_take (i := 2) (oi := ⟨some 21, _, _, _, _, _⟩) (v := ?_) rfl (by kernel_rfl) (by kernel_rfl) (by kernel_rfl) (fun _ _ _ h => h) (Or.inl ⟨by rfl, ?_⟩) hHeld ?_
            rotate_left
            · intro ww hSw
              (try dsimp only at hSw)
              go_simp
              (try with_reducible rfl)
            simp only [Act.put, List.setIfInBounds_toArray, List.set_cons_zero, List.set_cons_succ]
            refine wpAnyH_take (i := 3) (oi := ⟨some 22, _, _, _, _, _⟩) (v := .pointer (some ⟨ba, oa + k * 11, none⟩)) rfl (by kernel_rfl) (by kernel_rfl) (by kernel_rfl) (fun _ _ _ h => h) (Or.inl ⟨by rfl, ?_⟩) hHeld ?_
            · intro ww hSw
              (try dsimp only at hSw)
              go_simp
            simp only [Act.put, List.setIfInBounds_toArray, List.set_cons_zero, List.set_cons_succ]
            refine wpAnyH_take (i := 4) (oi := ⟨some 23, _, _, _, _, _⟩) (v := .agg (evC x)) rfl (by kernel_rfl) (by kernel_rfl) (by kernel_rfl) (fun _ _ _ h => h) (Or.inl ⟨by rfl, ?_⟩) hHeld ?_
            · intro ww hSw
              (try dsimp only at hSw)
              rw [← hx]
              exact exec_load_at _ rfl rfl (evs_load (HLr.out.below hSw) (by omega))
            simp only [Act.put, List.setIfInBounds_toArray, List.set_cons_zero, List.set_cons_succ]
            refine wpAnyH_ready (rs := [5]) (by kernel_rfl) (by simp) ?_
            refine AllReadyH.cons (o := ⟨some 24, _, _, _, _, _⟩) rfl (fun K hK => ?_) AllReadyH.nil
            go_simp
            go_at_call 45
            refine (hck _).mono ?_
            rintro e_r w5 ⟨rfl, hbn⟩
            have hbw5 : Below wr.heap.size wr w5 := bel_on (show Below wr.heap.size wr _ by (repeat' (first | with_reducible exact Below.refl _ _ | with_reducible assumption | with_reducible refine bel_alloc ?_ _ | with_reducible refine bel_set ?_ ?_ _ | with_reducible refine below_drewN ?_ _ | with_reducible refine below_drew ?_ | (simp; done) | (simp; omega) | omega))) hbn
            clear hbn
            go_wp2_with fail
            refine hK.out _ _ ?_ (fun hHeld => ?_)
            · (try dsimp only)
              exact hbw5
            clear hK K
            (try simp only [Act.put, List.setIfInBounds_toArray, List.set_cons_zero, List.set_cons_succ])
            refine wpAnyH_take (i := 6) (oi := ⟨some 10, _, _, _, _, _⟩) (v := ?_) rfl (by kernel_rfl) (by kernel_rfl) (by kernel_rfl) (fun _ _ _ h => h) (Or.inl ⟨by rfl, ?_⟩) hHeld ?_
            rotate_left
            · intro ww hSw
              (try dsimp only at hSw)
              go_simp
              (try with_reducible rfl)
            simp only [Act.put, List.setIfInBounds_toArray, List.set_cons_zero, List.set_cons_succ]
            refine wpAnyH_done (by kernel_rfl) ?_ _
            refine NoPanic.normal ?_
            have HW5 := Lib.hid (bel_on HW.out hbw5)
            have HL5 := Lib.hid (HLr.out.below hbw5)
            obtain ⟨z0, z1, z2, z3, z4⟩ := evs_num HL5.out hlt x hx
            have hz0 := cell_lt z0
            have HLD : Hid ((loadVar 48 ⟨ba, oa + k * 11, none⟩).run Tryz.prog w5 = .ok (.agg (evC x)) w5) := by
              show _ = _
              rw [← hx]
              exact evs_load HL5.out (by omega)
            have HR5 := HR.out.below hbw5
            obtain ⟨A9, c9, w9, hr9, row9, bel9, keep9⟩ := erow_append (HR5.alloc (.cells (evC x) 48)) (evs_one w5 x) (show q + 1 ≤ 100000 by omega) (bel_alloc HW5.out _).size (k := q + 1) rfl
            have HR9 : Hid ((Builtin.append_ #[31, 31] 31 #[.slice B q d, .slice (some ⟨w5.heap.size, 0, none⟩) 1 1]).run Tryz.prog (w5.alloc (.cells (evC x) 48)) = .ok (.slice A9 (q + 1) c9) w9) := hr9
            have HW9 := Lib.hid (bel9 w1 (Nat.le_refl _) (bel_alloc HW5.out _))
            have HRW9 := Lib.hid row9
            clear hr9 row9 bel9 keep9 HR5 z2 z4
            go_wp2_with (first | refine wpList_exec (o := ⟨some 47, _, _, _, _, _⟩) rfl (exec_load_at _ rfl rfl HLD.out) ?_ | refine wpList_build_e (o := ⟨some 48, _, _, _, _, _⟩) rfl x rfl rfl ?_ | (at_builtin; refine wpList_append_run (o := ⟨some 49, _, _, _, _, _⟩) HR9.out rfl rfl rfl rfl ?_))
            go_roundw
            case rel => exact ⟨k + 1, A9, c9, q + 1, by omega, by go_num, rfl, by omega, by rw [HNX.out, hP, List.length_append, hq]; rfl, by rw [HNX.out, hP]; exact HRW9.out, HW9⟩
            case measure => simp [intOf]; omega
        · have q2' : (x.wk == wk) = false := beq_eq_false_iff_ne.2 q2
          have hP : (if ofW (mayE pl nE nC nG nR) wk x = true then [x] else []) = [] := by rw [if_neg]; simp [ofW, q2]
          clear hCK q1 q2
          go_wp2_with fail
          refine wp_region_noPanic ?_
          refine wp_region_held_drew (S := fun w' => Below wr.heap.size wr w') (by kernel_rfl) (below_drew (Below.refl _ _)) (fun hHeld => ?_)
          refine wpAnyH_take (i := 0) (oi := ⟨some 19, _, _, _, _, _⟩) (v := .agg cs) rfl (by kernel_rfl) (by kernel_rfl) (by kernel_rfl) (fun _ _ _ h => h) (Or.inl ⟨by rfl, ?_⟩) hHeld ?_
          · intro ww hSw
            (try dsimp only at hSw)
            exact exec_load_st _ rfl rfl (HGr.out.below hSw) HZ.out
          simp only [Act.put, List.setIfInBounds_toArray, List.set_cons_zero, List.set_cons_succ]
          refine wpAnyH_take (i := 1) (oi := ⟨some 20, _, _, _, _, _⟩) (v := ?_) rfl (by kernel_rfl) (by kernel_rfl) (by kernel_rfl) (fun _ _ _ h => h) (Or.inl ⟨by rfl, ?_⟩) hHeld ?_
          rotate_left
          · intro ww hSw
            (try dsimp only at hSw)
            go_simp
            (try with_reducible rfl)
          simp only [Act.put, List.setIfInBounds_toArray, List.set_cons_zero, List.set_cons_succ]
          refine wpAnyH_take (i := 2) (oi := ⟨some 21, _, _, _, _, _⟩) (v := ?_) rfl (by kernel_rfl) (by kernel_rfl) (by kernel_rfl) (fun _ _ _ h => h) (Or.inl ⟨by rfl, ?_⟩) hHeld ?_
          rotate_left
          · intro ww hSw
            (try dsimp only at hSw)
            go_simp
            (try with_reducible rfl)
          simp only [Act.put, List.setIfInBounds_toArray, List.set_cons_zero, List.set_cons_succ]
          refine wpAnyH_take (i := 3) (oi := ⟨some 22, _, _, _, _, _⟩) (v := .pointer (some ⟨ba, oa + k * 11, none⟩)) rfl (by kernel_rfl) (by kernel_rfl) (by kernel_rfl) (fun _ _ _ h => h) (Or.inl ⟨by rfl, ?_⟩) hHeld ?_
          · intro ww hSw
            (try dsimp only at hSw)
            go_simp
          simp only [Act.put, List.setIfInBounds_toArray, List.set_cons_zero, List.set_cons_succ]
          refine wpAnyH_take (i := 4) (oi := ⟨some 23, _, _, _, _, _⟩) (v := .agg (evC x)) rfl (by kernel_rfl) (by kernel_rfl) (by kernel_rfl) (fun _ _ _ h => h) (Or.inl ⟨by rfl, ?_⟩) hHeld ?_
          · intro ww hSw
            (try dsimp only at hSw)
            rw [← hx]
            exact exec_load_at _ rfl rfl (evs_load (HLr.out.below hSw) (by omega))
          simp only [Act.put, List.setIfInBounds_toArray, List.set_cons_zero, List.set_cons_succ]
          refine wpAnyH_ready (rs := [5]) (by kernel_rfl) (by simp) ?_
          refine AllReadyH.cons (o := ⟨some 24, _, _, _, _, _⟩) rfl (fun K hK => ?_) AllReadyH.nil
          go_simp
          go_at_call 45
          refine (hck _).mono ?_
          rintro e_r w5 ⟨rfl, hbn⟩
          have hbw5 : Below wr.heap.size wr w5 := bel_on (show Below wr.heap.size wr _ by (repeat' (first | with_reducible exact Below.refl _ _ | with_reducible assumption | with_reducible refine bel_alloc ?_ _ | with_reducible refine bel_set ?_ ?_ _ | with_reducible refine below_drewN ?_ _ | with_reducible refine below_drew ?_ | (simp; done) | (simp; omega) | omega))) hbn
          clear hbn
          go_wp2_with fail
          refine hK.out _ _ ?_ (fun hHeld => ?_)
          · (try dsimp only)
            exact hbw5
          clear hK K
          (try simp only [Act.put, List.setIfInBounds_toArray, List.set_cons_zero, List.set_cons_succ])
          refine wpAnyH_take (i := 6) (oi := ⟨some 10, _, _, _, _, _⟩) (v := ?_) rfl (by kernel_rfl) (by kernel_rfl) (by kernel_rfl) (fun _ _ _ h => h) (Or.inl ⟨by rfl, ?_⟩) hHeld ?_
          rotate_left
          · intro ww hSw
            (try dsimp only at hSw)
            go_simp
            (try with_reducible rfl)
          simp only [Act.put, List.setIfInBounds_toArray, List.set_cons_zero, List.set_cons_succ]
          refine wpAnyH_done (by kernel_rfl) ?_ _
          refine NoPanic.normal ?_
          have HW5 := Lib.hid (bel_on HW.out hbw5)
          have HL5 := Lib.hid (HLr.out.below hbw5)
          obtain ⟨z0, z1, z2, z3, z4⟩ := evs_num HL5.out hlt x hx
          have hz0 := cell_lt z0
          clear z2 z4
          go_wp2
          go_roundw
          case rel => exact ⟨k + 1, B, d, q, by omega, by go_num, rfl, by omega, by rw [HNX.out, hP, List.append_nil]; exact hq, by rw [HNX.out, hP, List.append_nil]; exact HR.out.below hbw5, HW5⟩
          case measure => simp [intOf]; omega
      · have hck := fun W => hCK false (decide_eq_false q1) W
        have hP : (if ofW (mayE pl nE nC nG nR) wk x = true then [x] else []) = [] := by rw [if_neg]; simp [ofW, mayE, q1]
        clear hCK q1
        go_wp2_with fail
        refine wp_region_noPanic ?_
        refine wp_region_held_drew (S := fun w' => Below wr.heap.size wr w') (by kernel_rfl) (below_drew (Below.refl _ _)) (fun hHeld => ?_)
        refine wpAnyH_take (i := 0) (oi := ⟨some 19, _, _, _, _, _⟩) (v := .agg cs) rfl (by kernel_rfl) (by kernel_rfl) (by kernel_rfl) (fun _ _ _ h => h) (Or.inl ⟨by rfl, ?_⟩) hHeld ?_
        · intro ww hSw
          (try dsimp only at hSw)
          exact exec_load_st _ rfl rfl (HGr.out.below hSw) HZ.out
        simp only [Act.put, List.setIfInBounds_toArray, List.set_cons_zero, List.set_cons_succ]
        refine wpAnyH_take (i := 1) (oi := ⟨some 20, _, _, _, _, _⟩) (v := ?_) rfl (by kernel_rfl) (by kernel_rfl) (by kernel_rfl) (fun _ _ _ h => h) (Or.inl ⟨by rfl, ?_⟩) hHeld ?_
        rotate_left
        · intro ww hSw
          (try dsimp only at hSw)
          go_simp
          (try with_reducible rfl)
        simp only [Act.put, List.setIfInBounds_toArray, List.set_cons_zero, List.set_cons_succ]
        refine wpAnyH_take (i := 2) (oi := ⟨some 21, _, _, _, _, _⟩) (v := ?_) rfl (by kernel_rfl) (by kernel_rfl) (by kernel_rfl) (fun _ _ _ h => h) (Or.inl ⟨by rfl, ?_⟩) hHeld ?_
        rotate_left
        · intro ww hSw
          (try dsimp only at hSw)
          go_simp
          (try with_reducible rfl)
        simp only [Act.put, List.setIfInBounds_toArray, List.set_cons_zero, List.set_cons_succ]
        refine wpAnyH_take (i := 3) (oi := ⟨some 22, _, _, _, _, _⟩) (v := .pointer (some ⟨ba, oa + k * 11, none⟩)) rfl (by kernel_rfl) (by kernel_rfl) (by kernel_rfl) (fun _ _ _ h => h) (Or.inl ⟨by rfl, ?_⟩) hHeld ?_
        · intro ww hSw
          (try dsimp only at hSw)
          go_simp
        simp only [Act.put, List.setIfInBounds_toArray, List.set_cons_zero, List.set_cons_succ]
        refine wpAnyH_take (i := 4) (oi := ⟨some 23, _, _, _, _, _⟩) (v := .agg (evC x)) rfl (by kernel_rfl) (by kernel_rfl) (by kernel_rfl) (fun _ _ _ h => h) (Or.inl ⟨by rfl, ?_⟩) hHeld ?_
        · intro ww hSw
          (try dsimp only at hSw)
          rw [← hx]
          exact exec_load_at _ rfl rfl (evs_load (HLr.out.below hSw) (by omega))
        simp only [Act.put, List.setIfInBounds_toArray, List.set_cons_zero, List.set_cons_succ]
        refine wpAnyH_ready (rs := [5]) (by kernel_rfl) (by simp) ?_
        refine AllReadyH.cons (o := ⟨some 24, _, _, _, _, _⟩) rfl (fun K hK => ?_) AllReadyH.nil
        go_simp
        go_at_call 45
        refine (hck _).mono ?_
        rintro e_r w5 ⟨rfl, hbn⟩
        have hbw5 : Below wr.heap.size wr w5 := bel_on (show Below wr.heap.size wr _ by (repeat' (first | with_reducible exact Below.refl _ _ | with_reducible assumption | with_reducible refine bel_alloc ?_ _ | with_reducible refine bel_set ?_ ?_ _ | with_reducible refine below_drewN ?_ _ | with_reducible refine below_drew ?_ | (simp; done) | (simp; omega) | omega))) hbn
        clear hbn
        go_wp2_with fail
        refine hK.out _ _ ?_ (fun hHeld => ?_)
        · (try dsimp only)
          exact hbw5
        clear hK K
        (try simp only [Act.put, List.setIfInBounds_toArray, List.set_cons_zero, List.set_cons_succ])
        refine wpAnyH_take (i := 6) (oi := ⟨some 10, _, _, _, _, _⟩) (v := ?_) rfl (by kernel_rfl) (by kernel_rfl) (by kernel_rfl) (fun _ _ _ h => h) (Or.inl ⟨by rfl, ?_⟩) hHeld ?_
        rotate_left
        · intro ww hSw
          (try dsimp only at hSw)
          go_simp
          (try with_reducible rfl)
        simp only [Act.put, List.setIfInBounds_toArray, List.set_cons_zero, List.set_cons_succ]
        refine wpAnyH_done (by kernel_rfl) ?_ _
        refine NoPanic.normal ?_
        have HW5 := Lib.hid (bel_on HW.out hbw5)
        have HL5 := Lib.hid (HLr.out.below hbw5)
        obtain ⟨z0, z1, z2, z3, z4⟩ := evs_num HL5.out hlt x hx
        have hz0 := cell_lt z0
        clear z2 z4
        go_wp2
        go_roundw
        case rel => exact ⟨k + 1, B, d, q, by omega, by go_num, rfl, by omega, by rw [HNX.out, hP, List.append_nil]; exact hq, by rw [HNX.out, hP, List.append_nil]; exact HR.out.below hbw5, HW5⟩
        case measure => simp [intOf]; omega
    · obtain rfl : k = n := by omega
      have e : S.take k = S := List.take_of_length_le (by omega)
      rw [e, HD.out] at hq HR
      obtain rfl : q = m := by rw [← hq, hm]
      have HBW := Lib.hid (bel_on HB1.out HW.out)
      have HRW := Lib.hid (erow_mono HR.out HB1.out.size)
      go_wp2
      go_ret
      exact ⟨B, d, rfl, HRW.out, HBW.out⟩
end Go.Proofs.YtbijaaglmhoopaaGreat

namespace Go.Proofs.YtbijaaglmhoopaaGreat
open Go.RowKit
set_option linter.unusedVariables false
set_option linter.unusedSimpArgs false
set_option maxRecDepth 20000

theorem wrapst_id {a : Int} (h0 : -9223372036854775808 ≤ a) (h1 : a < 9223372036854775808) : IntKind.i64.wrap a = a := by
  simp [IntKind.wrap, IntKind.bits, IntKind.signed]
  split <;> omega
theorem drop_get {r : List EvP} {j : Nat} (h : j < r.length) : r.drop j = r.getD j EvP.none :: r.drop (j + 1) := by
  rw [List.drop_eq_getElem_cons h]
  congr 1
  simp [List.getD, h]
set_option maxHeartbeats 4000000 in
theorem rend_any (cs : Array Value) (hsz : cs.size = 23) (cap : Int) (h9 : cs[9]? = some (.int .i64 cap)) (A : Option Addr) (n c : Nat) (L : List EvP) (w : World) (h : Evs w A n c L) (a : Nat) (ha : a < n) (e : EvP) (he : L.getD a EvP.none = e) (hb : ∀ x ∈ L, 0 ≤ x.tm ∧ x.tm ≤ 31449599) (hc : 0 ≤ cap ∧ cap ≤ 100000) (hn : n ≤ 1000)
    (k : Nat) (tz fl : Int) (hE : endP (e.tm + cap) (L.drop (a + 1)) = (k, tz, fl)) (P : Nat) (hP : a + 1 + k = P) :
    Calls Tryz.prog 23 #[.agg cs, .slice A n c, .int .i64 (a : Int)] w fun r w' => r = .returned (.tuple #[.int .i64 (P : Int), .int .i64 tz, .int .i64 fl]) ∧ Below w.heap.size w w' := by
  have hlen := h.2
  have hb0 := bel_alloc (Below.refl w.heap.size w) (.cells cs 30)
  have HG0 := Lib.hid (Has.new w 30 cs rfl)
  have HL := Lib.hid (h.below hb0)
  obtain ⟨b, off, rfl⟩ := h.form (by omega)
  have heb : 0 ≤ e.tm ∧ e.tm ≤ 31449599 := hb e (by rw [← he]; simp [List.getD, show a < L.length by omega])
  obtain ⟨top, htop⟩ : ∃ top, e.tm + cap = top := ⟨_, rfl⟩
  have hw : IntKind.i64.wrap (e.tm + cap) = top := by rw [htop]; exact wrapst_id (by omega) (by omega)
  rw [htop] at hE
  have htb : 0 ≤ top ∧ top ≤ 100000000 := by omega
  obtain ⟨r, hr⟩ : ∃ r, L.drop (a + 1) = r := ⟨_, rfl⟩
  rw [hr] at hE
  have hrl : r.length + (a + 1) = n := by rw [← hr, List.length_drop]; omega
  have hget : ∀ j, j < r.length → L.getD (a + 1 + j) EvP.none = r.getD j EvP.none := fun j hj => by
    rw [← hr]
    simp [List.getD, List.getElem?_drop]
  have HB := Lib.hid hb
  have HE := Lib.hid hE
  have HGET := Lib.hid hget
  obtain ⟨-, -, z2, -, -⟩ := evs_num HL.out ha e he
  have hz2 := cell_lt z2
  have q9 := HG0.out.cell 9 h9
  have HBW : ∀ n, Hid (Below w.heap.size w ((w.alloc (.cells cs 30)).drewN n)) := fun n => below_drewN hb0 n
  have HLQ : ∀ m, Hid (Evs ((w.alloc (.cells cs 30)).drewN m) (some ⟨b, off, none⟩) n c L) := fun m => HL.out
  have i0 : (0 : Int) ≤ (a : Int) := by omega
  have i1 : (a : Int) < (n : Int) := by omega
  have HPP := Lib.hid hP
  clear h hE hb hget hr he hb0 HL hP
  go_enter Tryz.func23, Tryz.ntmps23
  go_wp2
  go_quiet (fail)
  have HB1 := HBW nq
  have HL1 := HLQ nq
  clear HBW HLQ HG0 z2 hz2 q9
  generalize (w.alloc (.cells cs 30)).drewN nq = w1 at *
  go_wp2
  go_loopw [10] (fun i wr => ∃ j p : Nat, j ≤ r.length ∧ i = .int .i64 (p : Int) ∧ Hid (a + 1 + j = p) ∧ Hid (k = j + (endP top (r.drop j)).1 ∧ tz = (endP top (r.drop j)).2.1 ∧ fl = (endP top (r.drop j)).2.2) ∧ w1 = wr) (fun i _ => n - (intOf i).toNat)
  case atStart => exact ⟨0, a + 1, Nat.zero_le _, by go_num, rfl, by rw [List.drop_zero, HE.out]; exact ⟨by simp, rfl, rfl⟩, rfl⟩
  case round =>
    obtain ⟨j, p, hj, rfl, HP, HK, rfl⟩ := hrel
    have hp := HP.out
    have hpn : p ≤ n := by omega
    replace hp := Lib.hid hp
    by_cases hlt : j < r.length
    · obtain ⟨x, hx⟩ : ∃ x, r.getD j EvP.none = x := ⟨_, rfl⟩
      obtain ⟨-, -, z2, z3, -⟩ := evs_num HL1.out (i := p) (by have := HP.out; omega) x (by rw [← HP.out, HGET.out j hlt]; exact hx)
      have hz2 := cell_lt z2
      have hxb : 0 ≤ x.tm ∧ x.tm ≤ 31449599 := HB.out x (by rw [← hx, ← HGET.out j hlt]; simp [List.getD, show a + 1 + j < L.length by omega])
      have HD := Lib.hid (drop_get hlt)
      rw [hx] at HD
      have j1 : (p : Int) < (n : Int) := by have := HP.out; omega
      have j0 : (0 : Int) ≤ (p : Int) := by omega
      clear hx
      by_cases q : top < x.tm
      · obtain ⟨rfl, rfl, rfl⟩ : k = j ∧ tz = top ∧ fl = 1 := by
          have := HK.out
          rw [HD.out, endP_over q] at this
          exact ⟨by omega, this.2.1, this.2.2⟩
        clear HK HD
        obtain rfl : p = P := by have := HP.out; have := HPP.out; omega
        go_wp2
        refine bodyPost_ret (v := .tuple #[.int .i64 (p : Int), .int .i64 tz, .int .i64 1]) (by simp [results, Tryz.results23, go_sem]) rfl ⟨rfl, HB1.out⟩
      · by_cases k1 : x.kd = 1
        · obtain ⟨rfl, rfl, rfl⟩ : k = j ∧ tz = x.tm ∧ fl = 2 := by
            have := HK.out
            rw [HD.out, endP_in q k1] at this
            exact ⟨by omega, this.2.1, this.2.2⟩
          have k1' : (x.kd == 1) = true := by simpa using k1
          clear HK HD
          obtain rfl : p = P := by have := HP.out; have := HPP.out; omega
          go_wp2
          go_quiet (fail)
          go_wp2
          refine bodyPost_ret (v := .tuple #[.int .i64 (p : Int), .int .i64 x.tm, .int .i64 2]) (by simp [results, Tryz.results23, go_sem]) rfl ⟨rfl, below_drewN HB1.out _⟩
        · have k1' : (x.kd == 1) = false := beq_eq_false_iff_ne.2 k1
          by_cases k2 : x.kd = 2
          · obtain ⟨rfl, rfl, rfl⟩ : k = j ∧ tz = x.tm ∧ fl = 0 := by
              have := HK.out
              rw [HD.out, endP_out q k2] at this
              exact ⟨by omega, this.2.1, this.2.2⟩
            have k2' : (x.kd == 2) = true := by simpa using k2
            clear HK HD
            obtain rfl : p = P := by have := HP.out; have := HPP.out; omega
            go_wp2
            go_quiet (fail)
            go_wp2
            refine bodyPost_ret (v := .tuple #[.int .i64 (p : Int), .int .i64 x.tm, .int .i64 0]) (by simp [results, Tryz.results23, go_sem]) rfl ⟨rfl, below_drewN HB1.out _⟩
          · have k2' : (x.kd == 2) = false := beq_eq_false_iff_ne.2 k2
            have HK2 : Hid (k = j + 1 + (endP top (r.drop (j + 1))).1 ∧ tz = (endP top (r.drop (j + 1))).2.1 ∧ fl = (endP top (r.drop (j + 1))).2.2) := by
              have := HK.out
              rw [HD.out, endP_on q k1 k2] at this
              exact ⟨by have := this.1; simp only at this; omega, this.2.1, this.2.2⟩
            clear HK HD
            go_wp2
            go_roundw
            case rel => exact ⟨j + 1, p + 1, by omega, by go_num, by have := HP.out; show _ = _; omega, HK2, by first | rfl | trivial⟩
            case measure => simp [intOf]; omega
    · obtain rfl : j = r.length := by omega
      obtain ⟨rfl, rfl, rfl⟩ : k = r.length ∧ tz = top ∧ fl = 1 := by
        have := HK.out
        rw [List.drop_length] at this
        exact ⟨by have h1 := this.1; simp [endP] at h1; exact h1, by have h1 := this.2.1; simpa [endP] using h1, by have h1 := this.2.2; simpa [endP] using h1⟩
      obtain rfl : p = P := by have := HP.out; have := HPP.out; omega
      obtain rfl : p = n := by have := HP.out; omega
      clear HK
      go_wp2
      refine bodyPost_ret (v := .tuple #[.int .i64 (p : Int), .int .i64 tz, .int .i64 1]) (by simp [results, Tryz.results23, go_sem]) rfl ⟨rfl, HB1.out⟩
theorem rkind_any (e : EvP) (w : World) : Calls Tryz.prog 47 #[.agg (evC e)] w fun r w' => r = .returned (.int .i64 (kindP e.kd)) ∧ Below w.heap.size w w' := by
  have q3 := (Has.new w 48 (evC e) rfl).cell 3 (show (evC e)[3]? = some (.int .i64 e.kd) from rfl)
  have hb0 := bel_alloc (Below.refl w.heap.size w) (.cells (evC e) 48)
  have HZ := Lib.hid (evC_size e)
  obtain ⟨k, hk⟩ : ∃ k, e.kd = k := ⟨_, rfl⟩
  rw [hk] at q3 ⊢
  clear hk
  generalize evC e = ce at *
  unfold kindP
  by_cases k3 : k = 3
  · subst k3
    go_enter Tryz.func47, Tryz.ntmps47
    go_wp2
    go_ret
    exact ⟨rfl, hb0⟩
  · have k3' : (k == 3) = false := beq_eq_false_iff_ne.2 k3
    rw [if_neg k3]
    by_cases k4 : k = 4
    · subst k4
      go_enter Tryz.func47, Tryz.ntmps47
      go_wp2
      go_ret
      exact ⟨rfl, hb0⟩
    · have k4' : (k == 4) = false := beq_eq_false_iff_ne.2 k4
      rw [if_neg k4]
      by_cases k5 : k = 5
      · subst k5
        go_enter Tryz.func47, Tryz.ntmps47
        go_wp2
        go_ret
        exact ⟨rfl, hb0⟩
      · have k5' : (k == 5) = false := beq_eq_false_iff_ne.2 k5
        rw [if_neg k5]
        go_enter Tryz.func47, Tryz.ntmps47
        go_wp2
        go_ret
        exact ⟨rfl, hb0⟩
end Go.Proofs.YtbijaaglmhoopaaGreat
