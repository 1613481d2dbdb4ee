/-
  event.Take: the event that bytes begin with.
-/
import Derived.Test.YtgfomfioagblfaaZaf
import Derived.Laws.Tables
import Derived.Laws.CopyOwn
import Derived.Shelf.Abstract
namespace Go.Proofs.Ytgfomfioagblfaa
open Go.RowKit
set_option linter.unusedVariables false
set_option linter.unusedSimpArgs false
set_option maxRecDepth 20000

theorem TakeW.drew {W : World} {g R : Nat} {zs : List Int} {r : List (BitVec 8)} {w : World} (h : TakeW W g R zs r w) : TakeW W g R zs r w.drew := by
  obtain ⟨h1, h2, A, c, h3, h4, h5⟩ := h
  exact ⟨below_drew h1, h2.drew, A, c, h3.drew, h4, h5⟩
theorem TakeW.alloc {W : World} {g R : Nat} {zs : List Int} {r : List (BitVec 8)} {w : World} (h : TakeW W g R zs r w) (o : Obj) : TakeW W g R zs r (w.alloc o) := by
  obtain ⟨h1, h2, A, c, h3, h4, h5⟩ := h
  exact ⟨bel_alloc h1 _, h2.alloc _, A, c, h3.alloc _, h4, h5⟩
theorem take1_no (A : Option Addr) (n c g R B E : Nat) (L : List Nat) (zs : List Int) (b : List (BitVec 8)) (W w : World) (hL : L.length = n) (hn6 : n ≤ 6) (hnc : n ≤ c) (hc6 : c ≤ 6) (hLo : ∀ o ∈ L, o < 11) (hzs : zs.length = 11)
    (hP : PtrsB B E w A g L) (hgB : g < B) (hRB : R < B) (hgR : g ≠ R) (hWg : W.heap.size ≤ g) (hWR : W.heap.size ≤ R) (hE : E ≤ w.heap.size) (h : TakeW W g R zs b w) (hb : b.length ≤ 1000000) (he : eatN n b = none) :
    Calls Try.prog 24 #[.slice A n c, .pointer (some ⟨R, 0, none⟩)] w fun e w' => e = .returned (.bool false) ∧ Below W.heap.size W w' :=
  (take1_any A n c g R B E L zs b W w hL hn6 hnc hc6 hLo hzs hP hgB hRB hgR hWg hWR hE h hb).mono fun e w' hp => by
    unfold TakePost at hp
    rw [he] at hp
    exact hp
theorem take1_yes (A : Option Addr) (n c g R B E : Nat) (L : List Nat) (zs : List Int) (b r : List (BitVec 8)) (ns : List Int) (W w : World) (hL : L.length = n) (hn6 : n ≤ 6) (hnc : n ≤ c) (hc6 : c ≤ 6) (hLo : ∀ o ∈ L, o < 11) (hzs : zs.length = 11)
    (hP : PtrsB B E w A g L) (hgB : g < B) (hRB : R < B) (hgR : g ≠ R) (hWg : W.heap.size ≤ g) (hWR : W.heap.size ≤ R) (hE : E ≤ w.heap.size) (h : TakeW W g R zs b w) (hb : b.length ≤ 1000000) (he : eatN n b = some (ns, r)) :
    Calls Try.prog 24 #[.slice A n c, .pointer (some ⟨R, 0, none⟩)] w fun e w' => e = .returned (.bool true) ∧ TakeW W g R (layL zs L ns) r w' :=
  (take1_any A n c g R B E L zs b W w hL hn6 hnc hc6 hLo hzs hP hgB hRB hgR hWg hWR hE h hb).mono fun e w' hp => by
    unfold TakePost at hp
    rw [he] at hp
    exact hp
theorem ptrs4_of {w : World} {p g : Nat} (h : Has w p #[ptrV g 0, ptrV g 1, ptrV g 2, ptrV g 3]) : PtrsB p w.heap.size w (some ⟨p, 0, none⟩) g [0, 1, 2, 3] :=
  ptrsB_of (ptrs_of_has (L := [0, 1, 2, 3]) (by exact h) (Nat.le_refl _))
/-- In a drawn region: the load of a whole event. -/
theorem exec_load_e {o : Oper} {ρ : Operand → Value} {ww : World} (x : Operand) (ho : o.op = .load 33 x) {g : Nat} (hx : ρ x = .pointer (some ⟨g, 0, none⟩)) {cs : Array Value} (hg : Has ww g cs) (hs : cs.size = 11) : (execOp ρ o).run Try.prog ww = .ok (.value (.agg cs)) ww := by
  obtain ⟨t, hg⟩ := hg
  unfold execOp
  simp only [ho, hx, Instr.loadAt, Instr.sureAddr, Sem.run_bind, Sem.run_pure, Result.andThen_ok, run_loadVar_row (P := Try.prog) ww g t 33 cs (0, 0) _ hg Try.underlying33 rfl (by rw [hs]; kernel_rfl)]

set_option maxHeartbeats 4000000 in
theorem take_a_e (A : Option Addr) (c : Nat) (b : List (BitVec 8)) (W : World) (hx : Sl 1 W A b.length c (bytesV b)) (hmc : b.length ≤ c) (hm : b.length ≤ 1000000) (h4 : eatN 4 b = none) :
    Calls Try.prog 8 #[.slice A b.length c] W fun e w' => e = .returned (.tuple #[.agg (evC EvP.none), .slice none 0 0, .int .i64 80]) ∧ Below W.heap.size W w' := by
  have HX := Lib.hid hx
  have HMC := Lib.hid hmc
  have HM := Lib.hid hm
  clear hx hmc hm
  have H4 := Lib.hid h4
  clear h4
  go_enter Try.func8, Try.ntmps8
  go_wp2_with fail
  obtain ⟨W1, hW1⟩ : ∃ W1, W1 = W.alloc (.cells #[.int .i64 0, .int .i64 0, .int .i64 0, .int .i64 0, .int .i64 0, .int .i64 0, .int .i64 0, .int .i64 0, .int .i64 0, .int .i64 0, .int .i64 0] 33) := ⟨_, rfl⟩
  obtain ⟨w0, hw0⟩ : ∃ w0, w0 = ((W.alloc (.cells #[.int .i64 0, .int .i64 0, .int .i64 0, .int .i64 0, .int .i64 0, .int .i64 0, .int .i64 0, .int .i64 0, .int .i64 0, .int .i64 0, .int .i64 0] 33)).alloc (.cells #[.int .i64 0, .int .i64 0, .int .i64 0, .int .i64 0, .int .i64 0, .int .i64 0, .int .i64 0, .int .i64 0, .int .i64 0, .int .i64 0, .int .i64 0] 33)).alloc (.cells #[.slice A b.length c] 34) := ⟨_, rfl⟩
  rw [← hw0]
  have hWW : W1.heap.size = W.heap.size + 1 := by rw [hW1]; simp
  have HT0 : Hid (TakeW W1 (W.heap.size + 1) (W.heap.size + 1 + 1) zeros11 b w0) := by
    rw [hw0, ← hW1]
    refine Lib.hid ⟨bel_alloc (bel_alloc (Below.refl _ _) _) _, (Has.new W1 33 _ hWW).alloc _, A, c, Has.new _ _ _ (by simp; omega), ?_, HMC.out⟩
    rw [hW1]
    exact HX.out.alloc _
  have HZ0 : Hid (Has W1 W.heap.size (evC EvP.none)) := by rw [hW1]; exact Has.new W 33 _ rfl
  have HBW : Hid (Below W.heap.size W W1) := by rw [hW1]; exact bel_alloc (Below.refl _ _) _
  have hb0 : Below W1.heap.size W1 w0 := HT0.out.1
  have hr2 : W.heap.size < W1.heap.size := by omega
  have hg1 : W1.heap.size ≤ W.heap.size + 1 := by omega
  clear hw0 hW1
  obtain ⟨g, hg⟩ : ∃ g, W.heap.size + 1 = g := ⟨_, rfl⟩
  rw [hg] at HT0 hg1 ⊢
  obtain ⟨RR, hR⟩ : ∃ RR, g + 1 = RR := ⟨_, rfl⟩
  rw [hR] at HT0 ⊢
  have hgR : g ≠ RR := by omega
  have hR1 : W1.heap.size ≤ RR := by omega
  obtain ⟨r0, hr0⟩ : ∃ r0, W.heap.size = r0 := ⟨_, rfl⟩
  have HRW : Hid (W.heap.size ≤ r0) := Lib.hid (by omega)
  rw [hr0] at HZ0 hr2 ⊢
  clear hg hR hr0 hWW HX HMC
  have HC1 : Hid (∀ ww p, TakeW W1 g RR zeros11 b ww → Has ww p #[ptrV g 0, ptrV g 1, ptrV g 2, ptrV g 3] → g < p → RR < p → Calls Try.prog 24 #[.slice (some ⟨p, 0, none⟩) 4 4, .pointer (some ⟨RR, 0, none⟩)] ww fun e w' => e = .returned (.bool false) ∧ Below W1.heap.size W1 w') :=
    Lib.hid (fun ww p h1 h2 h3 h6 => take1_no _ 4 4 g RR p ww.heap.size [0, 1, 2, 3] zeros11 b W1 ww rfl (by omega) (by omega) (by omega) (by simp) rfl (ptrs4_of h2) h3 h6 hgR hg1 hR1 (Nat.le_refl _) h1 HM.out H4.out)
  have hgs := HT0.out.2.1.size
  have hRs : RR < w0.heap.size := by obtain ⟨_, _, _, _, h, _⟩ := HT0.out; exact h.size
  have eg : ∀ args w, (callFunc 24 args).run Try.prog w = .ok (.enter 24 args) w := enters_of Try.func24 (by kernel_rfl) rfl
  refine wp_region_noPanic ?_
  refine wp_region_held_drew (S := fun w' => Below W1.heap.size W1 w') (by kernel_rfl) (below_drew (hb0)) (fun hHeld => ?_)
  refine wpAnyH_take (i := 0) (oi := ⟨some 10, _, _, _, _, _⟩) (v := ?_) rfl (by kernel_rfl) (by kernel_rfl) (by kernel_rfl) (fun _ _ _ h => h) (Or.inl ⟨by rfl, ?_⟩) hHeld ?_
  rotate_left
  · intro ww hSw
    (try dsimp only at hSw)
    go_simp
    (try with_reducible rfl)
  simp only [Act.put, List.setIfInBounds_toArray, List.set_cons_zero, List.set_cons_succ]
  refine wpAnyH_take (i := 1) (oi := ⟨some 11, _, _, _, _, _⟩) (v := ?_) rfl (by kernel_rfl) (by kernel_rfl) (by kernel_rfl) (fun _ _ _ h => h) (Or.inl ⟨by rfl, ?_⟩) hHeld ?_
  rotate_left
  · intro ww hSw
    (try dsimp only at hSw)
    go_simp
    (try with_reducible rfl)
  simp only [Act.put, List.setIfInBounds_toArray, List.set_cons_zero, List.set_cons_succ]
  refine wpAnyH_take (i := 2) (oi := ⟨some 12, _, _, _, _, _⟩) (v := ?_) rfl (by kernel_rfl) (by kernel_rfl) (by kernel_rfl) (fun _ _ _ h => h) (Or.inl ⟨by rfl, ?_⟩) hHeld ?_
  rotate_left
  · intro ww hSw
    (try dsimp only at hSw)
    go_simp
    (try with_reducible rfl)
  simp only [Act.put, List.setIfInBounds_toArray, List.set_cons_zero, List.set_cons_succ]
  refine wpAnyH_take (i := 3) (oi := ⟨some 13, _, _, _, _, _⟩) (v := ?_) rfl (by kernel_rfl) (by kernel_rfl) (by kernel_rfl) (fun _ _ _ h => h) (Or.inl ⟨by rfl, ?_⟩) hHeld ?_
  rotate_left
  · intro ww hSw
    (try dsimp only at hSw)
    go_simp
    (try with_reducible rfl)
  simp only [Act.put, List.setIfInBounds_toArray, List.set_cons_zero, List.set_cons_succ]
  refine wpAnyH_take (i := 4) (oi := ⟨some 14, _, _, _, _, _⟩) (v := ?_) rfl (by kernel_rfl) (by kernel_rfl) (by kernel_rfl) (fun _ _ _ h => h) (Or.inl ⟨by rfl, ?_⟩) hHeld ?_
  rotate_left
  · intro ww hSw
    (try dsimp only at hSw)
    go_simp
    (try with_reducible rfl)
  simp only [Act.put, List.setIfInBounds_toArray, List.set_cons_zero, List.set_cons_succ]
  refine wpAnyH_ready (rs := [5]) (by kernel_rfl) (by simp) ?_
  refine AllReadyH.cons (o := ⟨some 15, _, _, _, _, _⟩) rfl (fun K hK => ?_) AllReadyH.nil
  go_simp
  refine hK.out _ _ ?_ (fun hHeld => ?_)
  · (try dsimp only)
    (repeat' (first | with_reducible exact Below.refl _ _ | with_reducible assumption | with_reducible refine bel_alloc ?_ _ | with_reducible refine bel_set ?_ ?_ _ | with_reducible refine below_drewN ?_ _ | with_reducible refine below_drew ?_ | (simp; done) | (simp; omega) | omega))
  clear hK K
  (try simp only [Act.put, List.setIfInBounds_toArray, List.set_cons_zero, List.set_cons_succ])
  refine wpAnyH_ready (rs := [6]) (by kernel_rfl) (by simp) ?_
  refine AllReadyH.cons (o := ⟨some 16, _, _, _, _, _⟩) rfl (fun K hK => ?_) AllReadyH.nil
  go_simp
  go_at_call 24
  refine (HC1.out _ _ (HT0.out.drew.alloc _) (Has.new _ _ _ rfl) hgs hRs).mono ?_
  rintro e_r w1 ⟨rfl, hb1⟩
  go_wp2_with fail
  refine hK.out _ _ ?_ (fun hHeld => ?_)
  · (try dsimp only)
    exact hb1
  clear hK K
  (try simp only [Act.put, List.setIfInBounds_toArray, List.set_cons_zero, List.set_cons_succ])
  refine wpAnyH_take (i := 7) (oi := ⟨some 17, _, _, _, _, _⟩) (v := ?_) rfl (by kernel_rfl) (by kernel_rfl) (by kernel_rfl) (fun _ _ _ h => h) (Or.inl ⟨by rfl, ?_⟩) hHeld ?_
  rotate_left
  · intro ww hSw
    (try dsimp only at hSw)
    go_simp
    (try with_reducible rfl)
  simp only [Act.put, List.setIfInBounds_toArray, List.set_cons_zero, List.set_cons_succ]
  refine wpAnyH_take (i := 8) (oi := ⟨some 18, _, _, _, _, _⟩) (v := ?_) rfl (by kernel_rfl) (by kernel_rfl) (by kernel_rfl) (fun _ _ _ h => h) (Or.inl ⟨by rfl, ?_⟩) hHeld ?_
  rotate_left
  · intro ww hSw
    (try dsimp only at hSw)
    go_simp
    (try with_reducible rfl)
  simp only [Act.put, List.setIfInBounds_toArray, List.set_cons_zero, List.set_cons_succ]
  refine wpAnyH_take (i := 9) (oi := ⟨some 19, _, _, _, _, _⟩) (v := undef) rfl (by kernel_rfl) (by kernel_rfl) (by kernel_rfl) (fun _ _ _ h => h) (Or.inr ⟨by rfl, rfl⟩) hHeld ?_
  simp only [Act.put, List.setIfInBounds_toArray, List.set_cons_zero, List.set_cons_succ]
  refine wpAnyH_take (i := 10) (oi := ⟨some 20, _, _, _, _, _⟩) (v := undef) rfl (by kernel_rfl) (by kernel_rfl) (by kernel_rfl) (fun _ _ _ h => h) (Or.inr ⟨by rfl, rfl⟩) hHeld ?_
  simp only [Act.put, List.setIfInBounds_toArray, List.set_cons_zero, List.set_cons_succ]
  refine wpAnyH_take (i := 11) (oi := ⟨some 21, _, _, _, _, _⟩) (v := undef) rfl (by kernel_rfl) (by kernel_rfl) (by kernel_rfl) (fun _ _ _ h => h) (Or.inr ⟨by rfl, rfl⟩) hHeld ?_
  simp only [Act.put, List.setIfInBounds_toArray, List.set_cons_zero, List.set_cons_succ]
  refine wpAnyH_take (i := 12) (oi := ⟨some 22, _, _, _, _, _⟩) (v := undef) rfl (by kernel_rfl) (by kernel_rfl) (by kernel_rfl) (fun _ _ _ h => h) (Or.inr ⟨by rfl, rfl⟩) hHeld ?_
  simp only [Act.put, List.setIfInBounds_toArray, List.set_cons_zero, List.set_cons_succ]
  refine wpAnyH_take (i := 13) (oi := ⟨some 23, _, _, _, _, _⟩) (v := undef) rfl (by kernel_rfl) (by kernel_rfl) (by kernel_rfl) (fun _ _ _ h => h) (Or.inr ⟨by rfl, rfl⟩) hHeld ?_
  simp only [Act.put, List.setIfInBounds_toArray, List.set_cons_zero, List.set_cons_succ]
  refine wpAnyH_take (i := 14) (oi := ⟨some 24, _, _, _, _, _⟩) (v := undef) rfl (by kernel_rfl) (by kernel_rfl) (by kernel_rfl) (fun _ _ _ h => h) (Or.inr ⟨by rfl, rfl⟩) hHeld ?_
  simp only [Act.put, List.setIfInBounds_toArray, List.set_cons_zero, List.set_cons_succ]
  refine wpAnyH_take (i := 15) (oi := ⟨some 25, _, _, _, _, _⟩) (v := undef) rfl (by kernel_rfl) (by kernel_rfl) (by kernel_rfl) (fun _ _ _ h => h) (Or.inr ⟨by rfl, rfl⟩) hHeld ?_
  simp only [Act.put, List.setIfInBounds_toArray, List.set_cons_zero, List.set_cons_succ]
  refine wpAnyH_take (i := 16) (oi := ⟨some 26, _, _, _, _, _⟩) (v := ?_) rfl (by kernel_rfl) (by kernel_rfl) (by kernel_rfl) (fun _ _ _ h => h) (Or.inl ⟨by rfl, ?_⟩) hHeld ?_
  rotate_left
  · intro ww hSw
    (try dsimp only at hSw)
    go_simp
    (try with_reducible rfl)
  simp only [Act.put, List.setIfInBounds_toArray, List.set_cons_zero, List.set_cons_succ]
  refine wpAnyH_take (i := 17) (oi := ⟨some 27, _, _, _, _, _⟩) (v := ?_) rfl (by kernel_rfl) (by kernel_rfl) (by kernel_rfl) (fun _ _ _ h => h) (Or.inl ⟨by rfl, ?_⟩) hHeld ?_
  rotate_left
  · intro ww hSw
    (try dsimp only at hSw)
    go_simp
    (try with_reducible rfl)
  simp only [Act.put, List.setIfInBounds_toArray, List.set_cons_zero, List.set_cons_succ]
  refine wpAnyH_take (i := 18) (oi := ⟨some 28, _, _, _, _, _⟩) (v := undef) rfl (by kernel_rfl) (by kernel_rfl) (by kernel_rfl) (fun _ _ _ h => h) (Or.inr ⟨by rfl, rfl⟩) hHeld ?_
  simp only [Act.put, List.setIfInBounds_toArray, List.set_cons_zero, List.set_cons_succ]
  refine wpAnyH_take (i := 19) (oi := ⟨some 29, _, _, _, _, _⟩) (v := undef) rfl (by kernel_rfl) (by kernel_rfl) (by kernel_rfl) (fun _ _ _ h => h) (Or.inr ⟨by rfl, rfl⟩) hHeld ?_
  simp only [Act.put, List.setIfInBounds_toArray, List.set_cons_zero, List.set_cons_succ]
  refine wpAnyH_take (i := 20) (oi := ⟨some 30, _, _, _, _, _⟩) (v := undef) rfl (by kernel_rfl) (by kernel_rfl) (by kernel_rfl) (fun _ _ _ h => h) (Or.inr ⟨by rfl, rfl⟩) hHeld ?_
  simp only [Act.put, List.setIfInBounds_toArray, List.set_cons_zero, List.set_cons_succ]
  refine wpAnyH_take (i := 21) (oi := ⟨some 31, _, _, _, _, _⟩) (v := ?_) rfl (by kernel_rfl) (by kernel_rfl) (by kernel_rfl) (fun _ _ _ h => h) (Or.inl ⟨by rfl, ?_⟩) hHeld ?_
  rotate_left
  · intro ww hSw
    (try dsimp only at hSw)
    go_simp
    (try with_reducible rfl)
  simp only [Act.put, List.setIfInBounds_toArray, List.set_cons_zero, List.set_cons_succ]
  refine wpAnyH_done (by kernel_rfl) ?_ _
  refine NoPanic.normal ?_
  clear hHeld
  have hz0 := HZ0.out.below hb1
  have hbF := (HBW.out).trans (hb1.mono (by have := HBW.out.size; omega))
  go_wp2_with (refine wpList_store_e rfl _ _ rfl r0 (evC EvP.none) rfl rfl (evC EvP.none) hz0 rfl rfl (evC_one _) ?_)
  refine bodyPost_ret (evres_run Try.results8 _ _ r0 (evC EvP.none) _ _ rfl rfl rfl (has_setRow_e hz0) rfl) rfl ?_
  exact ⟨rfl, below_setRow hbF HRW.out _⟩

set_option maxHeartbeats 4000000 in
theorem take_b_e (A : Option Addr) (c : Nat) (b : List (BitVec 8)) (W : World) (hx : Sl 1 W A b.length c (bytesV b)) (hmc : b.length ≤ c) (hm : b.length ≤ 1000000) (q : List Int) (r : List (BitVec 8)) (h4 : eatN 4 b = some (q, r)) (h5 : eatN (ownL (q.getD 3 0)).length r = none) :
    Calls Try.prog 8 #[.slice A b.length c] W fun e w' => e = .returned (.tuple #[.agg (evC EvP.none), .slice none 0 0, .int .i64 80]) ∧ Below W.heap.size W w' := by
  have HX := Lib.hid hx
  have HMC := Lib.hid hmc
  have HM := Lib.hid hm
  clear hx hmc hm
  have hokq := (eat_own 4 h4).1
  have hkd : -9223372036854775808 ≤ q.getD 3 0 ∧ q.getD 3 0 ≤ 9223372036854775807 := by
    have hl := eat_len 4 h4
    match q, hl with
    | [i, w, t, k], _ => have := hokq k (by simp); show _ ≤ k ∧ k ≤ _; omega
  have hql := eat_len 4 h4
  have hrl : r.length ≤ 1000000 := by have := (eat_own 4 h4).2; have h9 := HM.out; rw [this, List.length_append] at h9; omega
  have hev : ∃ zs1, layL zeros11 [0, 1, 2, 3] q = zs1 ∧ zs1.length = 11 ∧ (ints .i64 zs1).toArray[3]? = some (.int .i64 (q.getD 3 0)) := ⟨_, rfl, by rw [layL_len]; rfl, by match q, hql with | [i, w, t, k], _ => rfl⟩
  have HRL := Lib.hid hrl
  obtain ⟨zs1, hz1, hz2, hz3⟩ := hev
  have H4 := Lib.hid h4
  have H5 := Lib.hid h5
  have HKD := Lib.hid hkd
  have HZ1 := Lib.hid hz1
  have HZ2 := Lib.hid hz2
  have HZ3 := Lib.hid hz3
  clear h4 h5 hkd hokq hql hrl hz1 hz2 hz3
  generalize hkk : q.getD 3 0 = kd at *
  clear hkk
  go_enter Try.func8, Try.ntmps8
  go_wp2_with fail
  obtain ⟨W1, hW1⟩ : ∃ W1, W1 = W.alloc (.cells #[.int .i64 0, .int .i64 0, .int .i64 0, .int .i64 0, .int .i64 0, .int .i64 0, .int .i64 0, .int .i64 0, .int .i64 0, .int .i64 0, .int .i64 0] 33) := ⟨_, rfl⟩
  obtain ⟨w0, hw0⟩ : ∃ w0, w0 = ((W.alloc (.cells #[.int .i64 0, .int .i64 0, .int .i64 0, .int .i64 0, .int .i64 0, .int .i64 0, .int .i64 0, .int .i64 0, .int .i64 0, .int .i64 0, .int .i64 0] 33)).alloc (.cells #[.int .i64 0, .int .i64 0, .int .i64 0, .int .i64 0, .int .i64 0, .int .i64 0, .int .i64 0, .int .i64 0, .int .i64 0, .int .i64 0, .int .i64 0] 33)).alloc (.cells #[.slice A b.length c] 34) := ⟨_, rfl⟩
  rw [← hw0]
  have hWW : W1.heap.size = W.heap.size + 1 := by rw [hW1]; simp
  have HT0 : Hid (TakeW W1 (W.heap.size + 1) (W.heap.size + 1 + 1) zeros11 b w0) := by
    rw [hw0, ← hW1]
    refine Lib.hid ⟨bel_alloc (bel_alloc (Below.refl _ _) _) _, (Has.new W1 33 _ hWW).alloc _, A, c, Has.new _ _ _ (by simp; omega), ?_, HMC.out⟩
    rw [hW1]
    exact HX.out.alloc _
  have HZ0 : Hid (Has W1 W.heap.size (evC EvP.none)) := by rw [hW1]; exact Has.new W 33 _ rfl
  have HBW : Hid (Below W.heap.size W W1) := by rw [hW1]; exact bel_alloc (Below.refl _ _) _
  have hb0 : Below W1.heap.size W1 w0 := HT0.out.1
  have hr2 : W.heap.size < W1.heap.size := by omega
  have hg1 : W1.heap.size ≤ W.heap.size + 1 := by omega
  clear hw0 hW1
  obtain ⟨g, hg⟩ : ∃ g, W.heap.size + 1 = g := ⟨_, rfl⟩
  rw [hg] at HT0 hg1 ⊢
  obtain ⟨RR, hR⟩ : ∃ RR, g + 1 = RR := ⟨_, rfl⟩
  rw [hR] at HT0 ⊢
  have hgR : g ≠ RR := by omega
  have hR1 : W1.heap.size ≤ RR := by omega
  obtain ⟨r0, hr0⟩ : ∃ r0, W.heap.size = r0 := ⟨_, rfl⟩
  have HRW : Hid (W.heap.size ≤ r0) := Lib.hid (by omega)
  rw [hr0] at HZ0 hr2 ⊢
  clear hg hR hr0 hWW HX HMC
  have HC1 : Hid (∀ ww p, TakeW W1 g RR zeros11 b ww → Has ww p #[ptrV g 0, ptrV g 1, ptrV g 2, ptrV g 3] → g < p → RR < p → Calls Try.prog 24 #[.slice (some ⟨p, 0, none⟩) 4 4, .pointer (some ⟨RR, 0, none⟩)] ww fun e w' => e = .returned (.bool true) ∧ TakeW W1 g RR zs1 r w') :=
    Lib.hid (fun ww p h1 h2 h3 h6 => by
      have := take1_yes _ 4 4 g RR p ww.heap.size [0, 1, 2, 3] zeros11 b r q W1 ww rfl (by omega) (by omega) (by omega) (by simp) rfl (ptrs4_of h2) h3 h6 hgR hg1 hR1 (Nat.le_refl _) h1 HM.out H4.out
      rw [HZ1.out] at this
      exact this)
  have HC2 : Hid (∀ ww A2 n2 c2 B2, (ownL kd).length = n2 → n2 ≤ 6 → n2 ≤ c2 → c2 ≤ 6 → TakeW W1 g RR zs1 r ww → EPtrsN B2 ww A2 g (ownL kd) → g < B2 → RR < B2 → Calls Try.prog 24 #[.slice A2 n2 c2, .pointer (some ⟨RR, 0, none⟩)] ww fun e w' => e = .returned (.bool false) ∧ Below W1.heap.size W1 w') :=
    Lib.hid (fun ww A2 n2 c2 B2 k1 k2 k3 k4 k5 k6 k7 k8 => take1_no A2 n2 c2 g RR B2 ww.heap.size (ownL kd) zs1 r W1 ww k1 k2 k3 k4 (fun o ho => (ownL_lt ho).2) HZ2.out (ptrsB_of k6) k7 k8 hgR hg1 hR1 (Nat.le_refl _) k5 HRL.out (by subst k1; exact H5.out))
  have hgs := HT0.out.2.1.size
  have hRs : RR < w0.heap.size := by obtain ⟨_, _, _, _, h, _⟩ := HT0.out; exact h.size
  have eg : ∀ args w, (callFunc 24 args).run Try.prog w = .ok (.enter 24 args) w := enters_of Try.func24 (by kernel_rfl) rfl
  refine wp_region_noPanic ?_
  refine wp_region_held_drew (S := fun w' => Below W1.heap.size W1 w') (by kernel_rfl) (below_drew (hb0)) (fun hHeld => ?_)
  refine wpAnyH_take (i := 0) (oi := ⟨some 10, _, _, _, _, _⟩) (v := ?_) rfl (by kernel_rfl) (by kernel_rfl) (by kernel_rfl) (fun _ _ _ h => h) (Or.inl ⟨by rfl, ?_⟩) hHeld ?_
  rotate_left
  · intro ww hSw
    (try dsimp only at hSw)
    go_simp
    (try with_reducible rfl)
  simp only [Act.put, List.setIfInBounds_toArray, List.set_cons_zero, List.set_cons_succ]
  refine wpAnyH_take (i := 1) (oi := ⟨some 11, _, _, _, _, _⟩) (v := ?_) rfl (by kernel_rfl) (by kernel_rfl) (by kernel_rfl) (fun _ _ _ h => h) (Or.inl ⟨by rfl, ?_⟩) hHeld ?_
  rotate_left
  · intro ww hSw
    (try dsimp only at hSw)
    go_simp
    (try with_reducible rfl)
  simp only [Act.put, List.setIfInBounds_toArray, List.set_cons_zero, List.set_cons_succ]
  refine wpAnyH_take (i := 2) (oi := ⟨some 12, _, _, _, _, _⟩) (v := ?_) rfl (by kernel_rfl) (by kernel_rfl) (by kernel_rfl) (fun _ _ _ h => h) (Or.inl ⟨by rfl, ?_⟩) hHeld ?_
  rotate_left
  · intro ww hSw
    (try dsimp only at hSw)
    go_simp
    (try with_reducible rfl)
  simp only [Act.put, List.setIfInBounds_toArray, List.set_cons_zero, List.set_cons_succ]
  refine wpAnyH_take (i := 3) (oi := ⟨some 13, _, _, _, _, _⟩) (v := ?_) rfl (by kernel_rfl) (by kernel_rfl) (by kernel_rfl) (fun _ _ _ h => h) (Or.inl ⟨by rfl, ?_⟩) hHeld ?_
  rotate_left
  · intro ww hSw
    (try dsimp only at hSw)
    go_simp
    (try with_reducible rfl)
  simp only [Act.put, List.setIfInBounds_toArray, List.set_cons_zero, List.set_cons_succ]
  refine wpAnyH_take (i := 4) (oi := ⟨some 14, _, _, _, _, _⟩) (v := ?_) rfl (by kernel_rfl) (by kernel_rfl) (by kernel_rfl) (fun _ _ _ h => h) (Or.inl ⟨by rfl, ?_⟩) hHeld ?_
  rotate_left
  · intro ww hSw
    (try dsimp only at hSw)
    go_simp
    (try with_reducible rfl)
  simp only [Act.put, List.setIfInBounds_toArray, List.set_cons_zero, List.set_cons_succ]
  refine wpAnyH_ready (rs := [5]) (by kernel_rfl) (by simp) ?_
  refine AllReadyH.cons (o := ⟨some 15, _, _, _, _, _⟩) rfl (fun K hK => ?_) AllReadyH.nil
  go_simp
  refine hK.out _ _ ?_ (fun hHeld => ?_)
  · (try dsimp only)
    (repeat' (first | with_reducible exact Below.refl _ _ | with_reducible assumption | with_reducible refine bel_alloc ?_ _ | with_reducible refine bel_set ?_ ?_ _ | with_reducible refine below_drewN ?_ _ | with_reducible refine below_drew ?_ | (simp; done) | (simp; omega) | omega))
  clear hK K
  (try simp only [Act.put, List.setIfInBounds_toArray, List.set_cons_zero, List.set_cons_succ])
  refine wpAnyH_ready (rs := [6]) (by kernel_rfl) (by simp) ?_
  refine AllReadyH.cons (o := ⟨some 16, _, _, _, _, _⟩) rfl (fun K hK => ?_) AllReadyH.nil
  go_simp
  go_at_call 24
  refine (HC1.out _ _ (HT0.out.drew.alloc _) (Has.new _ _ _ rfl) hgs hRs).mono ?_
  rintro e_r w1 ⟨rfl, hT1⟩
  have HT1 := Lib.hid hT1
  have hb1 := HT1.out.1
  clear hT1
  go_wp2_with fail
  refine hK.out _ _ ?_ (fun hHeld => ?_)
  · (try dsimp only)
    exact hb1
  clear hK K
  (try simp only [Act.put, List.setIfInBounds_toArray, List.set_cons_zero, List.set_cons_succ])
  refine wpAnyH_take (i := 7) (oi := ⟨some 17, _, _, _, _, _⟩) (v := ?_) rfl (by kernel_rfl) (by kernel_rfl) (by kernel_rfl) (fun _ _ _ h => h) (Or.inl ⟨by rfl, ?_⟩) hHeld ?_
  rotate_left
  · intro ww hSw
    (try dsimp only at hSw)
    go_simp
    (try with_reducible rfl)
  simp only [Act.put, List.setIfInBounds_toArray, List.set_cons_zero, List.set_cons_succ]
  refine wpAnyH_take (i := 8) (oi := ⟨some 18, _, _, _, _, _⟩) (v := ?_) rfl (by kernel_rfl) (by kernel_rfl) (by kernel_rfl) (fun _ _ _ h => h) (Or.inl ⟨by rfl, ?_⟩) hHeld ?_
  rotate_left
  · intro ww hSw
    (try dsimp only at hSw)
    go_simp
    (try with_reducible rfl)
  simp only [Act.put, List.setIfInBounds_toArray, List.set_cons_zero, List.set_cons_succ]
  refine wpAnyH_take (i := 9) (oi := ⟨some 19, _, _, _, _, _⟩) (v := ?_) rfl (by kernel_rfl) (by kernel_rfl) (by kernel_rfl) (fun _ _ _ h => h) (Or.inl ⟨by rfl, ?_⟩) hHeld ?_
  rotate_left
  · intro ww hSw
    (try dsimp only at hSw)
    go_simp
    (try with_reducible rfl)
  simp only [Act.put, List.setIfInBounds_toArray, List.set_cons_zero, List.set_cons_succ]
  refine wpAnyH_take (i := 11) (oi := ⟨some 21, _, _, _, _, _⟩) (v := ?_) rfl (by kernel_rfl) (by kernel_rfl) (by kernel_rfl) (fun _ _ _ h => h) (Or.inl ⟨by rfl, ?_⟩) hHeld ?_
  rotate_left
  · intro ww hSw
    (try dsimp only at hSw)
    go_simp
    (try with_reducible rfl)
  simp only [Act.put, List.setIfInBounds_toArray, List.set_cons_zero, List.set_cons_succ]
  have hc3 : w1.cell? ⟨g, 3, none⟩ = some (.int .i64 kd) := HT1.out.2.1.cell 3 HZ3.out
  have hgs1 := HT1.out.2.1.size
  have hRs1 : RR < w1.heap.size := by obtain ⟨_, _, _, _, h, _⟩ := HT1.out; exact h.size
  refine wpAnyH_ready (rs := [10, 12]) (by kernel_rfl) (by simp) ?_
  refine AllReadyH.cons (o := ⟨some 20, _, _, _, _, _⟩) rfl (fun K hK => ?_) (AllReadyH.cons (o := ⟨some 22, _, _, _, _, _⟩) rfl (fun K hK => ?_) AllReadyH.nil)
  · skip
    go_simp
    go_at_call 19
    refine (own_c g _).mono ?_
    rintro e_r w2 ⟨m, rfl, hbn, hL⟩
    obtain ⟨A2, n2, c2, hn2, hn6, hnc, hc6, hP2, hq1, hq2⟩ := hL kd HKD.out
    clear hL hq1
    have hb2 := bel_on hb1 hbn
    have HT2 := Lib.hid (HT1.out.below hbn)
    go_wp2_with fail
    refine hK.out _ _ ?_ (fun hHeld => ?_)
    · (try dsimp only)
      exact hb2
    clear hK K
    (try simp only [Act.put, List.setIfInBounds_toArray, List.set_cons_zero, List.set_cons_succ])
    refine wpAnyH_ready (rs := [12]) (by kernel_rfl) (by simp) ?_
    refine AllReadyH.cons (o := ⟨some 22, _, _, _, _, _⟩) rfl (fun K hK => ?_) AllReadyH.nil
    have hc4 : w2.cell? ⟨g, 3, none⟩ = some (.int .i64 kd) := HT2.out.2.1.cell 3 HZ3.out
    have hgs2 := HT2.out.2.1.size
    go_simp
    refine hK.out _ _ ?_ (fun hHeld => ?_)
    · (try dsimp only)
      exact hb2
    clear hK K
    (try simp only [Act.put, List.setIfInBounds_toArray, List.set_cons_zero, List.set_cons_succ])
    clear hc4 hgs2
    refine wpAnyH_ready (rs := [13]) (by kernel_rfl) (by simp) ?_
    refine AllReadyH.cons (o := ⟨some 23, _, _, _, _, _⟩) rfl (fun K hK => ?_) AllReadyH.nil
    go_simp
    refine hK.out _ _ ?_ (fun hHeld => ?_)
    · (try dsimp only)
      exact hb2
    clear hK K
    (try simp only [Act.put, List.setIfInBounds_toArray, List.set_cons_zero, List.set_cons_succ])
    refine wpAnyH_ready (rs := [14]) (by kernel_rfl) (by simp) ?_
    refine AllReadyH.cons (o := ⟨some 24, _, _, _, _, _⟩) rfl (fun K hK => ?_) AllReadyH.nil
    go_simp
    go_at_call 24
    refine (HC2.out _ A2 n2 c2 _ hn2 hn6 hnc hc6 HT2.out hP2 hgs1 hRs1).mono ?_
    rintro e_r w3 ⟨rfl, hb3⟩
    go_wp2_with fail
    refine hK.out _ _ ?_ (fun hHeld => ?_)
    · (try dsimp only)
      exact hb3
    clear hK K
    (try simp only [Act.put, List.setIfInBounds_toArray, List.set_cons_zero, List.set_cons_succ])
    refine wpAnyH_take (i := 15) (oi := ⟨some 25, _, _, _, _, _⟩) (v := ?_) rfl (by kernel_rfl) (by kernel_rfl) (by kernel_rfl) (fun _ _ _ h => h) (Or.inl ⟨by rfl, ?_⟩) hHeld ?_
    rotate_left
    · intro ww hSw
      (try dsimp only at hSw)
      go_simp
      (try with_reducible rfl)
    simp only [Act.put, List.setIfInBounds_toArray, List.set_cons_zero, List.set_cons_succ]
    refine wpAnyH_take (i := 16) (oi := ⟨some 26, _, _, _, _, _⟩) (v := ?_) rfl (by kernel_rfl) (by kernel_rfl) (by kernel_rfl) (fun _ _ _ h => h) (Or.inl ⟨by rfl, ?_⟩) hHeld ?_
    rotate_left
    · intro ww hSw
      (try dsimp only at hSw)
      go_simp
      (try with_reducible rfl)
    simp only [Act.put, List.setIfInBounds_toArray, List.set_cons_zero, List.set_cons_succ]
    refine wpAnyH_take (i := 17) (oi := ⟨some 27, _, _, _, _, _⟩) (v := ?_) rfl (by kernel_rfl) (by kernel_rfl) (by kernel_rfl) (fun _ _ _ h => h) (Or.inl ⟨by rfl, ?_⟩) hHeld ?_
    rotate_left
    · intro ww hSw
      (try dsimp only at hSw)
      go_simp
      (try with_reducible rfl)
    simp only [Act.put, List.setIfInBounds_toArray, List.set_cons_zero, List.set_cons_succ]
    refine wpAnyH_take (i := 18) (oi := ⟨some 28, _, _, _, _, _⟩) (v := undef) rfl (by kernel_rfl) (by kernel_rfl) (by kernel_rfl) (fun _ _ _ h => h) (Or.inr ⟨by rfl, rfl⟩) hHeld ?_
    simp only [Act.put, List.setIfInBounds_toArray, List.set_cons_zero, List.set_cons_succ]
    refine wpAnyH_take (i := 19) (oi := ⟨some 29, _, _, _, _, _⟩) (v := undef) rfl (by kernel_rfl) (by kernel_rfl) (by kernel_rfl) (fun _ _ _ h => h) (Or.inr ⟨by rfl, rfl⟩) hHeld ?_
    simp only [Act.put, List.setIfInBounds_toArray, List.set_cons_zero, List.set_cons_succ]
    refine wpAnyH_take (i := 20) (oi := ⟨some 30, _, _, _, _, _⟩) (v := undef) rfl (by kernel_rfl) (by kernel_rfl) (by kernel_rfl) (fun _ _ _ h => h) (Or.inr ⟨by rfl, rfl⟩) hHeld ?_
    simp only [Act.put, List.setIfInBounds_toArray, List.set_cons_zero, List.set_cons_succ]
    refine wpAnyH_take (i := 21) (oi := ⟨some 31, _, _, _, _, _⟩) (v := ?_) rfl (by kernel_rfl) (by kernel_rfl) (by kernel_rfl) (fun _ _ _ h => h) (Or.inl ⟨by rfl, ?_⟩) hHeld ?_
    rotate_left
    · intro ww hSw
      (try dsimp only at hSw)
      go_simp
      (try with_reducible rfl)
    simp only [Act.put, List.setIfInBounds_toArray, List.set_cons_zero, List.set_cons_succ]
    refine wpAnyH_done (by kernel_rfl) ?_ _
    refine NoPanic.normal ?_
    clear hHeld
    have hz0 := HZ0.out.below hb3
    have hbF := (HBW.out).trans (hb3.mono (by have := HBW.out.size; omega))
    go_wp2_with (refine wpList_store_e rfl _ _ rfl r0 (evC EvP.none) rfl rfl (evC EvP.none) hz0 rfl rfl (evC_one _) ?_)
    refine bodyPost_ret (evres_run Try.results8 _ _ r0 (evC EvP.none) _ _ rfl rfl rfl (has_setRow_e hz0) rfl) rfl ?_
    exact ⟨rfl, below_setRow hbF HRW.out _⟩
  · skip
    go_simp
    refine hK.out _ _ ?_ (fun hHeld => ?_)
    · (try dsimp only)
      exact hb1
    clear hK K
    (try simp only [Act.put, List.setIfInBounds_toArray, List.set_cons_zero, List.set_cons_succ])
    refine wpAnyH_ready (rs := [10]) (by kernel_rfl) (by simp) ?_
    refine AllReadyH.cons (o := ⟨some 20, _, _, _, _, _⟩) rfl (fun K hK => ?_) AllReadyH.nil
    go_simp
    go_at_call 19
    refine (own_c g _).mono ?_
    rintro e_r w2 ⟨m, rfl, hbn, hL⟩
    obtain ⟨A2, n2, c2, hn2, hn6, hnc, hc6, hP2, hq1, hq2⟩ := hL kd HKD.out
    clear hL hq1
    have hb2 := bel_on hb1 hbn
    have HT2 := Lib.hid (HT1.out.below hbn)
    go_wp2_with fail
    refine hK.out _ _ ?_ (fun hHeld => ?_)
    · (try dsimp only)
      exact hb2
    clear hK K
    (try simp only [Act.put, List.setIfInBounds_toArray, List.set_cons_zero, List.set_cons_succ])
    refine wpAnyH_ready (rs := [13]) (by kernel_rfl) (by simp) ?_
    refine AllReadyH.cons (o := ⟨some 23, _, _, _, _, _⟩) rfl (fun K hK => ?_) AllReadyH.nil
    go_simp
    refine hK.out _ _ ?_ (fun hHeld => ?_)
    · (try dsimp only)
      exact hb2
    clear hK K
    (try simp only [Act.put, List.setIfInBounds_toArray, List.set_cons_zero, List.set_cons_succ])
    refine wpAnyH_ready (rs := [14]) (by kernel_rfl) (by simp) ?_
    refine AllReadyH.cons (o := ⟨some 24, _, _, _, _, _⟩) rfl (fun K hK => ?_) AllReadyH.nil
    go_simp
    go_at_call 24
    refine (HC2.out _ A2 n2 c2 _ hn2 hn6 hnc hc6 HT2.out hP2 hgs1 hRs1).mono ?_
    rintro e_r w3 ⟨rfl, hb3⟩
    go_wp2_with fail
    refine hK.out _ _ ?_ (fun hHeld => ?_)
    · (try dsimp only)
      exact hb3
    clear hK K
    (try simp only [Act.put, List.setIfInBounds_toArray, List.set_cons_zero, List.set_cons_succ])
    refine wpAnyH_take (i := 15) (oi := ⟨some 25, _, _, _, _, _⟩) (v := ?_) rfl (by kernel_rfl) (by kernel_rfl) (by kernel_rfl) (fun _ _ _ h => h) (Or.inl ⟨by rfl, ?_⟩) hHeld ?_
    rotate_left
    · intro ww hSw
      (try dsimp only at hSw)
      go_simp
      (try with_reducible rfl)
    simp only [Act.put, List.setIfInBounds_toArray, List.set_cons_zero, List.set_cons_succ]
    refine wpAnyH_take (i := 16) (oi := ⟨some 26, _, _, _, _, _⟩) (v := ?_) rfl (by kernel_rfl) (by kernel_rfl) (by kernel_rfl) (fun _ _ _ h => h) (Or.inl ⟨by rfl, ?_⟩) hHeld ?_
    rotate_left
    · intro ww hSw
      (try dsimp only at hSw)
      go_simp
      (try with_reducible rfl)
    simp only [Act.put, List.setIfInBounds_toArray, List.set_cons_zero, List.set_cons_succ]
    refine wpAnyH_take (i := 17) (oi := ⟨some 27, _, _, _, _, _⟩) (v := ?_) rfl (by kernel_rfl) (by kernel_rfl) (by kernel_rfl) (fun _ _ _ h => h) (Or.inl ⟨by rfl, ?_⟩) hHeld ?_
    rotate_left
    · intro ww hSw
      (try dsimp only at hSw)
      go_simp
      (try with_reducible rfl)
    simp only [Act.put, List.setIfInBounds_toArray, List.set_cons_zero, List.set_cons_succ]
    refine wpAnyH_take (i := 18) (oi := ⟨some 28, _, _, _, _, _⟩) (v := undef) rfl (by kernel_rfl) (by kernel_rfl) (by kernel_rfl) (fun _ _ _ h => h) (Or.inr ⟨by rfl, rfl⟩) hHeld ?_
    simp only [Act.put, List.setIfInBounds_toArray, List.set_cons_zero, List.set_cons_succ]
    refine wpAnyH_take (i := 19) (oi := ⟨some 29, _, _, _, _, _⟩) (v := undef) rfl (by kernel_rfl) (by kernel_rfl) (by kernel_rfl) (fun _ _ _ h => h) (Or.inr ⟨by rfl, rfl⟩) hHeld ?_
    simp only [Act.put, List.setIfInBounds_toArray, List.set_cons_zero, List.set_cons_succ]
    refine wpAnyH_take (i := 20) (oi := ⟨some 30, _, _, _, _, _⟩) (v := undef) rfl (by kernel_rfl) (by kernel_rfl) (by kernel_rfl) (fun _ _ _ h => h) (Or.inr ⟨by rfl, rfl⟩) hHeld ?_
    simp only [Act.put, List.setIfInBounds_toArray, List.set_cons_zero, List.set_cons_succ]
    refine wpAnyH_take (i := 21) (oi := ⟨some 31, _, _, _, _, _⟩) (v := ?_) rfl (by kernel_rfl) (by kernel_rfl) (by kernel_rfl) (fun _ _ _ h => h) (Or.inl ⟨by rfl, ?_⟩) hHeld ?_
    rotate_left
    · intro ww hSw
      (try dsimp only at hSw)
      go_simp
      (try with_reducible rfl)
    simp only [Act.put, List.setIfInBounds_toArray, List.set_cons_zero, List.set_cons_succ]
    refine wpAnyH_done (by kernel_rfl) ?_ _
    refine NoPanic.normal ?_
    clear hHeld
    have hz0 := HZ0.out.below hb3
    have hbF := (HBW.out).trans (hb3.mono (by have := HBW.out.size; omega))
    go_wp2_with (refine wpList_store_e rfl _ _ rfl r0 (evC EvP.none) rfl rfl (evC EvP.none) hz0 rfl rfl (evC_one _) ?_)
    refine bodyPost_ret (evres_run Try.results8 _ _ r0 (evC EvP.none) _ _ rfl rfl rfl (has_setRow_e hz0) rfl) rfl ?_
    exact ⟨rfl, below_setRow hbF HRW.out _⟩

set_option maxHeartbeats 4000000 in
theorem take_c_e (A : Option Addr) (c : Nat) (b : List (BitVec 8)) (W : World) (hx : Sl 1 W A b.length c (bytesV b)) (hmc : b.length ≤ c) (hm : b.length ≤ 1000000) (q : List Int) (r : List (BitVec 8)) (h4 : eatN 4 b = some (q, r)) (ns : List Int) (r2 : List (BitVec 8)) (h5 : eatN (ownL (q.getD 3 0)).length r = some (ns, r2)) (hf : ¬ (evQ q ns).Fair) :
    Calls Try.prog 8 #[.slice A b.length c] W fun e w' => e = .returned (.tuple #[.agg (evC EvP.none), .slice none 0 0, .int .i64 80]) ∧ Below W.heap.size W w' := by
  have HX := Lib.hid hx
  have HMC := Lib.hid hmc
  have HM := Lib.hid hm
  clear hx hmc hm
  have hokq := (eat_own 4 h4).1
  have hkd : -9223372036854775808 ≤ q.getD 3 0 ∧ q.getD 3 0 ≤ 9223372036854775807 := by
    have hl := eat_len 4 h4
    match q, hl with
    | [i, w, t, k], _ => have := hokq k (by simp); show _ ≤ k ∧ k ≤ _; omega
  have hql := eat_len 4 h4
  have hrl : r.length ≤ 1000000 := by have := (eat_own 4 h4).2; have h9 := HM.out; rw [this, List.length_append] at h9; omega
  have hev : ∃ zs1, layL zeros11 [0, 1, 2, 3] q = zs1 ∧ zs1.length = 11 ∧ (ints .i64 zs1).toArray[3]? = some (.int .i64 (q.getD 3 0)) := ⟨_, rfl, by rw [layL_len]; rfl, by match q, hql with | [i, w, t, k], _ => rfl⟩
  have HRL := Lib.hid hrl
  have hsome := takeP_some h4 h5
  have HIN := Lib.hid hsome.1
  have HQL := Lib.hid (evQ_L q ns)
  clear hsome
  obtain ⟨zs1, hz1, hz2, hz3⟩ := hev
  rw [hz1] at HQL
  have HF := Lib.hid hf
  clear hf
  generalize hE : evQ q ns = ev at *
  have HEV := Lib.hid hE
  clear hE
  have H4 := Lib.hid h4
  have H5 := Lib.hid h5
  have HKD := Lib.hid hkd
  have HZ1 := Lib.hid hz1
  have HZ2 := Lib.hid hz2
  have HZ3 := Lib.hid hz3
  clear h4 h5 hkd hokq hql hrl hz1 hz2 hz3
  generalize hkk : q.getD 3 0 = kd at *
  clear hkk
  go_enter Try.func8, Try.ntmps8
  go_wp2_with fail
  obtain ⟨W1, hW1⟩ : ∃ W1, W1 = W.alloc (.cells #[.int .i64 0, .int .i64 0, .int .i64 0, .int .i64 0, .int .i64 0, .int .i64 0, .int .i64 0, .int .i64 0, .int .i64 0, .int .i64 0, .int .i64 0] 33) := ⟨_, rfl⟩
  obtain ⟨w0, hw0⟩ : ∃ w0, w0 = ((W.alloc (.cells #[.int .i64 0, .int .i64 0, .int .i64 0, .int .i64 0, .int .i64 0, .int .i64 0, .int .i64 0, .int .i64 0, .int .i64 0, .int .i64 0, .int .i64 0] 33)).alloc (.cells #[.int .i64 0, .int .i64 0, .int .i64 0, .int .i64 0, .int .i64 0, .int .i64 0, .int .i64 0, .int .i64 0, .int .i64 0, .int .i64 0, .int .i64 0] 33)).alloc (.cells #[.slice A b.length c] 34) := ⟨_, rfl⟩
  rw [← hw0]
  have hWW : W1.heap.size = W.heap.size + 1 := by rw [hW1]; simp
  have HT0 : Hid (TakeW W1 (W.heap.size + 1) (W.heap.size + 1 + 1) zeros11 b w0) := by
    rw [hw0, ← hW1]
    refine Lib.hid ⟨bel_alloc (bel_alloc (Below.refl _ _) _) _, (Has.new W1 33 _ hWW).alloc _, A, c, Has.new _ _ _ (by simp; omega), ?_, HMC.out⟩
    rw [hW1]
    exact HX.out.alloc _
  have HZ0 : Hid (Has W1 W.heap.size (evC EvP.none)) := by rw [hW1]; exact Has.new W 33 _ rfl
  have HBW : Hid (Below W.heap.size W W1) := by rw [hW1]; exact bel_alloc (Below.refl _ _) _
  have hb0 : Below W1.heap.size W1 w0 := HT0.out.1
  have hr2 : W.heap.size < W1.heap.size := by omega
  have hg1 : W1.heap.size ≤ W.heap.size + 1 := by omega
  clear hw0 hW1
  obtain ⟨g, hg⟩ : ∃ g, W.heap.size + 1 = g := ⟨_, rfl⟩
  rw [hg] at HT0 hg1 ⊢
  obtain ⟨RR, hR⟩ : ∃ RR, g + 1 = RR := ⟨_, rfl⟩
  rw [hR] at HT0 ⊢
  have hgR : g ≠ RR := by omega
  have hR1 : W1.heap.size ≤ RR := by omega
  obtain ⟨r0, hr0⟩ : ∃ r0, W.heap.size = r0 := ⟨_, rfl⟩
  have HRW : Hid (W.heap.size ≤ r0) := Lib.hid (by omega)
  rw [hr0] at HZ0 hr2 ⊢
  clear hg hR hr0 hWW HX HMC
  have HC1 : Hid (∀ ww p, TakeW W1 g RR zeros11 b ww → Has ww p #[ptrV g 0, ptrV g 1, ptrV g 2, ptrV g 3] → g < p → RR < p → Calls Try.prog 24 #[.slice (some ⟨p, 0, none⟩) 4 4, .pointer (some ⟨RR, 0, none⟩)] ww fun e w' => e = .returned (.bool true) ∧ TakeW W1 g RR zs1 r w') :=
    Lib.hid (fun ww p h1 h2 h3 h6 => by
      have := take1_yes _ 4 4 g RR p ww.heap.size [0, 1, 2, 3] zeros11 b r q W1 ww rfl (by omega) (by omega) (by omega) (by simp) rfl (ptrs4_of h2) h3 h6 hgR hg1 hR1 (Nat.le_refl _) h1 HM.out H4.out
      rw [HZ1.out] at this
      exact this)
  have HC2 : Hid (∀ ww A2 n2 c2 B2, (ownL kd).length = n2 → n2 ≤ 6 → n2 ≤ c2 → c2 ≤ 6 → TakeW W1 g RR zs1 r ww → EPtrsN B2 ww A2 g (ownL kd) → g < B2 → RR < B2 → Calls Try.prog 24 #[.slice A2 n2 c2, .pointer (some ⟨RR, 0, none⟩)] ww fun e w' => e = .returned (.bool true) ∧ TakeW W1 g RR (evL ev) r2 w') :=
    Lib.hid (fun ww A2 n2 c2 B2 k1 k2 k3 k4 k5 k6 k7 k8 => by
      have := take1_yes A2 n2 c2 g RR B2 ww.heap.size (ownL kd) zs1 r r2 ns W1 ww k1 k2 k3 k4 (fun o ho => (ownL_lt ho).2) HZ2.out (ptrsB_of k6) k7 k8 hgR hg1 hR1 (Nat.le_refl _) k5 HRL.out (by subst k1; exact H5.out)
      rw [← HQL.out] at this
      exact this)
  have hgs := HT0.out.2.1.size
  have hRs : RR < w0.heap.size := by obtain ⟨_, _, _, _, h, _⟩ := HT0.out; exact h.size
  have eg : ∀ args w, (callFunc 24 args).run Try.prog w = .ok (.enter 24 args) w := enters_of Try.func24 (by kernel_rfl) rfl
  refine wp_region_noPanic ?_
  refine wp_region_held_drew (S := fun w' => Below W1.heap.size W1 w') (by kernel_rfl) (below_drew (hb0)) (fun hHeld => ?_)
  refine wpAnyH_take (i := 0) (oi := ⟨some 10, _, _, _, _, _⟩) (v := ?_) rfl (by kernel_rfl) (by kernel_rfl) (by kernel_rfl) (fun _ _ _ h => h) (Or.inl ⟨by rfl, ?_⟩) hHeld ?_
  rotate_left
  · intro ww hSw
    (try dsimp only at hSw)
    go_simp
    (try with_reducible rfl)
  simp only [Act.put, List.setIfInBounds_toArray, List.set_cons_zero, List.set_cons_succ]
  refine wpAnyH_take (i := 1) (oi := ⟨some 11, _, _, _, _, _⟩) (v := ?_) rfl (by kernel_rfl) (by kernel_rfl) (by kernel_rfl) (fun _ _ _ h => h) (Or.inl ⟨by rfl, ?_⟩) hHeld ?_
  rotate_left
  · intro ww hSw
    (try dsimp only at hSw)
    go_simp
    (try with_reducible rfl)
  simp only [Act.put, List.setIfInBounds_toArray, List.set_cons_zero, List.set_cons_succ]
  refine wpAnyH_take (i := 2) (oi := ⟨some 12, _, _, _, _, _⟩) (v := ?_) rfl (by kernel_rfl) (by kernel_rfl) (by kernel_rfl) (fun _ _ _ h => h) (Or.inl ⟨by rfl, ?_⟩) hHeld ?_
  rotate_left
  · intro ww hSw
    (try dsimp only at hSw)
    go_simp
    (try with_reducible rfl)
  simp only [Act.put, List.setIfInBounds_toArray, List.set_cons_zero, List.set_cons_succ]
  refine wpAnyH_take (i := 3) (oi := ⟨some 13, _, _, _, _, _⟩) (v := ?_) rfl (by kernel_rfl) (by kernel_rfl) (by kernel_rfl) (fun _ _ _ h => h) (Or.inl ⟨by rfl, ?_⟩) hHeld ?_
  rotate_left
  · intro ww hSw
    (try dsimp only at hSw)
    go_simp
    (try with_reducible rfl)
  simp only [Act.put, List.setIfInBounds_toArray, List.set_cons_zero, List.set_cons_succ]
  refine wpAnyH_take (i := 4) (oi := ⟨some 14, _, _, _, _, _⟩) (v := ?_) rfl (by kernel_rfl) (by kernel_rfl) (by kernel_rfl) (fun _ _ _ h => h) (Or.inl ⟨by rfl, ?_⟩) hHeld ?_
  rotate_left
  · intro ww hSw
    (try dsimp only at hSw)
    go_simp
    (try with_reducible rfl)
  simp only [Act.put, List.setIfInBounds_toArray, List.set_cons_zero, List.set_cons_succ]
  refine wpAnyH_ready (rs := [5]) (by kernel_rfl) (by simp) ?_
  refine AllReadyH.cons (o := ⟨some 15, _, _, _, _, _⟩) rfl (fun K hK => ?_) AllReadyH.nil
  go_simp
  refine hK.out _ _ ?_ (fun hHeld => ?_)
  · (try dsimp only)
    (repeat' (first | with_reducible exact Below.refl _ _ | with_reducible assumption | with_reducible refine bel_alloc ?_ _ | with_reducible refine bel_set ?_ ?_ _ | with_reducible refine below_drewN ?_ _ | with_reducible refine below_drew ?_ | (simp; done) | (simp; omega) | omega))
  clear hK K
  (try simp only [Act.put, List.setIfInBounds_toArray, List.set_cons_zero, List.set_cons_succ])
  refine wpAnyH_ready (rs := [6]) (by kernel_rfl) (by simp) ?_
  refine AllReadyH.cons (o := ⟨some 16, _, _, _, _, _⟩) rfl (fun K hK => ?_) AllReadyH.nil
  go_simp
  go_at_call 24
  refine (HC1.out _ _ (HT0.out.drew.alloc _) (Has.new _ _ _ rfl) hgs hRs).mono ?_
  rintro e_r w1 ⟨rfl, hT1⟩
  have HT1 := Lib.hid hT1
  have hb1 := HT1.out.1
  clear hT1
  go_wp2_with fail
  refine hK.out _ _ ?_ (fun hHeld => ?_)
  · (try dsimp only)
    exact hb1
  clear hK K
  (try simp only [Act.put, List.setIfInBounds_toArray, List.set_cons_zero, List.set_cons_succ])
  refine wpAnyH_take (i := 7) (oi := ⟨some 17, _, _, _, _, _⟩) (v := ?_) rfl (by kernel_rfl) (by kernel_rfl) (by kernel_rfl) (fun _ _ _ h => h) (Or.inl ⟨by rfl, ?_⟩) hHeld ?_
  rotate_left
  · intro ww hSw
    (try dsimp only at hSw)
    go_simp
    (try with_reducible rfl)
  simp only [Act.put, List.setIfInBounds_toArray, List.set_cons_zero, List.set_cons_succ]
  refine wpAnyH_take (i := 8) (oi := ⟨some 18, _, _, _, _, _⟩) (v := ?_) rfl (by kernel_rfl) (by kernel_rfl) (by kernel_rfl) (fun _ _ _ h => h) (Or.inl ⟨by rfl, ?_⟩) hHeld ?_
  rotate_left
  · intro ww hSw
    (try dsimp only at hSw)
    go_simp
    (try with_reducible rfl)
  simp only [Act.put, List.setIfInBounds_toArray, List.set_cons_zero, List.set_cons_succ]
  refine wpAnyH_take (i := 9) (oi := ⟨some 19, _, _, _, _, _⟩) (v := ?_) rfl (by kernel_rfl) (by kernel_rfl) (by kernel_rfl) (fun _ _ _ h => h) (Or.inl ⟨by rfl, ?_⟩) hHeld ?_
  rotate_left
  · intro ww hSw
    (try dsimp only at hSw)
    go_simp
    (try with_reducible rfl)
  simp only [Act.put, List.setIfInBounds_toArray, List.set_cons_zero, List.set_cons_succ]
  refine wpAnyH_take (i := 11) (oi := ⟨some 21, _, _, _, _, _⟩) (v := ?_) rfl (by kernel_rfl) (by kernel_rfl) (by kernel_rfl) (fun _ _ _ h => h) (Or.inl ⟨by rfl, ?_⟩) hHeld ?_
  rotate_left
  · intro ww hSw
    (try dsimp only at hSw)
    go_simp
    (try with_reducible rfl)
  simp only [Act.put, List.setIfInBounds_toArray, List.set_cons_zero, List.set_cons_succ]
  have hc3 : w1.cell? ⟨g, 3, none⟩ = some (.int .i64 kd) := HT1.out.2.1.cell 3 HZ3.out
  have hgs1 := HT1.out.2.1.size
  have hRs1 : RR < w1.heap.size := by obtain ⟨_, _, _, _, h, _⟩ := HT1.out; exact h.size
  refine wpAnyH_ready (rs := [10, 12]) (by kernel_rfl) (by simp) ?_
  refine AllReadyH.cons (o := ⟨some 20, _, _, _, _, _⟩) rfl (fun K hK => ?_) (AllReadyH.cons (o := ⟨some 22, _, _, _, _, _⟩) rfl (fun K hK => ?_) AllReadyH.nil)
  · skip
    go_simp
    go_at_call 19
    refine (own_c g _).mono ?_
    rintro e_r w2 ⟨m, rfl, hbn, hL⟩
    obtain ⟨A2, n2, c2, hn2, hn6, hnc, hc6, hP2, hq1, hq2⟩ := hL kd HKD.out
    clear hL hq1
    have hb2 := bel_on hb1 hbn
    have HT2 := Lib.hid (HT1.out.below hbn)
    go_wp2_with fail
    refine hK.out _ _ ?_ (fun hHeld => ?_)
    · (try dsimp only)
      exact hb2
    clear hK K
    (try simp only [Act.put, List.setIfInBounds_toArray, List.set_cons_zero, List.set_cons_succ])
    refine wpAnyH_ready (rs := [12]) (by kernel_rfl) (by simp) ?_
    refine AllReadyH.cons (o := ⟨some 22, _, _, _, _, _⟩) rfl (fun K hK => ?_) AllReadyH.nil
    have hc4 : w2.cell? ⟨g, 3, none⟩ = some (.int .i64 kd) := HT2.out.2.1.cell 3 HZ3.out
    have hgs2 := HT2.out.2.1.size
    go_simp
    refine hK.out _ _ ?_ (fun hHeld => ?_)
    · (try dsimp only)
      exact hb2
    clear hK K
    (try simp only [Act.put, List.setIfInBounds_toArray, List.set_cons_zero, List.set_cons_succ])
    clear hc4 hgs2
    refine wpAnyH_ready (rs := [13]) (by kernel_rfl) (by simp) ?_
    refine AllReadyH.cons (o := ⟨some 23, _, _, _, _, _⟩) rfl (fun K hK => ?_) AllReadyH.nil
    go_simp
    refine hK.out _ _ ?_ (fun hHeld => ?_)
    · (try dsimp only)
      exact hb2
    clear hK K
    (try simp only [Act.put, List.setIfInBounds_toArray, List.set_cons_zero, List.set_cons_succ])
    refine wpAnyH_ready (rs := [14]) (by kernel_rfl) (by simp) ?_
    refine AllReadyH.cons (o := ⟨some 24, _, _, _, _, _⟩) rfl (fun K hK => ?_) AllReadyH.nil
    go_simp
    go_at_call 24
    refine (HC2.out _ A2 n2 c2 _ hn2 hn6 hnc hc6 HT2.out hP2 hgs1 hRs1).mono ?_
    rintro e_r w3 ⟨rfl, hT3⟩
    have HT3 := Lib.hid hT3
    have hb3 := HT3.out.1
    clear hT3
    go_wp2_with fail
    refine hK.out _ _ ?_ (fun hHeld => ?_)
    · (try dsimp only)
      exact hb3
    clear hK K
    (try simp only [Act.put, List.setIfInBounds_toArray, List.set_cons_zero, List.set_cons_succ])
    refine wpAnyH_take (i := 15) (oi := ⟨some 25, _, _, _, _, _⟩) (v := ?_) rfl (by kernel_rfl) (by kernel_rfl) (by kernel_rfl) (fun _ _ _ h => h) (Or.inl ⟨by rfl, ?_⟩) hHeld ?_
    rotate_left
    · intro ww hSw
      (try dsimp only at hSw)
      go_simp
      (try with_reducible rfl)
    simp only [Act.put, List.setIfInBounds_toArray, List.set_cons_zero, List.set_cons_succ]
    refine wpAnyH_take (i := 16) (oi := ⟨some 26, _, _, _, _, _⟩) (v := ?_) rfl (by kernel_rfl) (by kernel_rfl) (by kernel_rfl) (fun _ _ _ h => h) (Or.inl ⟨by rfl, ?_⟩) hHeld ?_
    rotate_left
    · intro ww hSw
      (try dsimp only at hSw)
      go_simp
      (try with_reducible rfl)
    simp only [Act.put, List.setIfInBounds_toArray, List.set_cons_zero, List.set_cons_succ]
    refine wpAnyH_take (i := 17) (oi := ⟨some 27, _, _, _, _, _⟩) (v := ?_) rfl (by kernel_rfl) (by kernel_rfl) (by kernel_rfl) (fun _ _ _ h => h) (Or.inl ⟨by rfl, ?_⟩) hHeld ?_
    rotate_left
    · intro ww hSw
      (try dsimp only at hSw)
      go_simp
      (try with_reducible rfl)
    simp only [Act.put, List.setIfInBounds_toArray, List.set_cons_zero, List.set_cons_succ]
    have hG3 : Has w3 g (evC ev) := by rw [evC_L]; exact HT3.out.2.1
    refine wpAnyH_ready (rs := [18]) (by kernel_rfl) (by simp) ?_
    refine AllReadyH.cons (o := ⟨some 28, _, _, _, _, _⟩) rfl (fun K hK => ?_) AllReadyH.nil
    rw [if_pos (by rfl)]
    obtain ⟨tg, hgg⟩ := hG3
    refine wp_load_row 33 _ rfl g (by rfl) tg (evC ev) (0, 0) _ hgg Try.underlying33 rfl (by rw [evC_size]; kernel_rfl) ?_
    refine hK.out _ _ ?_ (fun hHeld => ?_)
    · (try dsimp only)
      exact hb3
    clear hK K
    (try simp only [Act.put, List.setIfInBounds_toArray, List.set_cons_zero, List.set_cons_succ])
    refine wpAnyH_ready (rs := [19]) (by kernel_rfl) (by simp) ?_
    refine AllReadyH.cons (o := ⟨some 29, _, _, _, _, _⟩) rfl (fun K hK => ?_) AllReadyH.nil
    go_simp
    go_at_call 18
    refine (fair_any ev _ HIN.out).mono ?_
    rw [decide_eq_false HF.out]
    rintro e_r w4 ⟨rfl, hbn4⟩
    have hb4 := bel_on hb3 hbn4
    have HT4 := Lib.hid (HT3.out.below hbn4)
    go_wp2_with fail
    refine hK.out _ _ ?_ (fun hHeld => ?_)
    · (try dsimp only)
      exact hb4
    clear hK K
    (try simp only [Act.put, List.setIfInBounds_toArray, List.set_cons_zero, List.set_cons_succ])
    refine wpAnyH_take (i := 20) (oi := ⟨some 30, _, _, _, _, _⟩) (v := ?_) rfl (by kernel_rfl) (by kernel_rfl) (by kernel_rfl) (fun _ _ _ h => h) (Or.inl ⟨by rfl, ?_⟩) hHeld ?_
    rotate_left
    · intro ww hSw
      (try dsimp only at hSw)
      go_simp
      (try with_reducible rfl)
    simp only [Act.put, List.setIfInBounds_toArray, List.set_cons_zero, List.set_cons_succ]
    refine wpAnyH_take (i := 21) (oi := ⟨some 31, _, _, _, _, _⟩) (v := ?_) rfl (by kernel_rfl) (by kernel_rfl) (by kernel_rfl) (fun _ _ _ h => h) (Or.inl ⟨by rfl, ?_⟩) hHeld ?_
    rotate_left
    · intro ww hSw
      (try dsimp only at hSw)
      go_simp
      (try with_reducible rfl)
    simp only [Act.put, List.setIfInBounds_toArray, List.set_cons_zero, List.set_cons_succ]
    refine wpAnyH_done (by kernel_rfl) ?_ _
    refine NoPanic.normal ?_
    clear hHeld
    have hz0 := HZ0.out.below hb4
    have hbF := (HBW.out).trans (hb4.mono (by have := HBW.out.size; omega))
    go_wp2_with (refine wpList_store_e rfl _ _ rfl r0 (evC EvP.none) rfl rfl (evC EvP.none) hz0 rfl rfl (evC_one _) ?_)
    refine bodyPost_ret (evres_run Try.results8 _ _ r0 (evC EvP.none) _ _ rfl rfl rfl (has_setRow_e hz0) rfl) rfl ?_
    exact ⟨rfl, below_setRow hbF HRW.out _⟩
  · skip
    go_simp
    refine hK.out _ _ ?_ (fun hHeld => ?_)
    · (try dsimp only)
      exact hb1
    clear hK K
    (try simp only [Act.put, List.setIfInBounds_toArray, List.set_cons_zero, List.set_cons_succ])
    refine wpAnyH_ready (rs := [10]) (by kernel_rfl) (by simp) ?_
    refine AllReadyH.cons (o := ⟨some 20, _, _, _, _, _⟩) rfl (fun K hK => ?_) AllReadyH.nil
    go_simp
    go_at_call 19
    refine (own_c g _).mono ?_
    rintro e_r w2 ⟨m, rfl, hbn, hL⟩
    obtain ⟨A2, n2, c2, hn2, hn6, hnc, hc6, hP2, hq1, hq2⟩ := hL kd HKD.out
    clear hL hq1
    have hb2 := bel_on hb1 hbn
    have HT2 := Lib.hid (HT1.out.below hbn)
    go_wp2_with fail
    refine hK.out _ _ ?_ (fun hHeld => ?_)
    · (try dsimp only)
      exact hb2
    clear hK K
    (try simp only [Act.put, List.setIfInBounds_toArray, List.set_cons_zero, List.set_cons_succ])
    refine wpAnyH_ready (rs := [13]) (by kernel_rfl) (by simp) ?_
    refine AllReadyH.cons (o := ⟨some 23, _, _, _, _, _⟩) rfl (fun K hK => ?_) AllReadyH.nil
    go_simp
    refine hK.out _ _ ?_ (fun hHeld => ?_)
    · (try dsimp only)
      exact hb2
    clear hK K
    (try simp only [Act.put, List.setIfInBounds_toArray, List.set_cons_zero, List.set_cons_succ])
    refine wpAnyH_ready (rs := [14]) (by kernel_rfl) (by simp) ?_
    refine AllReadyH.cons (o := ⟨some 24, _, _, _, _, _⟩) rfl (fun K hK => ?_) AllReadyH.nil
    go_simp
    go_at_call 24
    refine (HC2.out _ A2 n2 c2 _ hn2 hn6 hnc hc6 HT2.out hP2 hgs1 hRs1).mono ?_
    rintro e_r w3 ⟨rfl, hT3⟩
    have HT3 := Lib.hid hT3
    have hb3 := HT3.out.1
    clear hT3
    go_wp2_with fail
    refine hK.out _ _ ?_ (fun hHeld => ?_)
    · (try dsimp only)
      exact hb3
    clear hK K
    (try simp only [Act.put, List.setIfInBounds_toArray, List.set_cons_zero, List.set_cons_succ])
    refine wpAnyH_take (i := 15) (oi := ⟨some 25, _, _, _, _, _⟩) (v := ?_) rfl (by kernel_rfl) (by kernel_rfl) (by kernel_rfl) (fun _ _ _ h => h) (Or.inl ⟨by rfl, ?_⟩) hHeld ?_
    rotate_left
    · intro ww hSw
      (try dsimp only at hSw)
      go_simp
      (try with_reducible rfl)
    simp only [Act.put, List.setIfInBounds_toArray, List.set_cons_zero, List.set_cons_succ]
    refine wpAnyH_take (i := 16) (oi := ⟨some 26, _, _, _, _, _⟩) (v := ?_) rfl (by kernel_rfl) (by kernel_rfl) (by kernel_rfl) (fun _ _ _ h => h) (Or.inl ⟨by rfl, ?_⟩) hHeld ?_
    rotate_left
    · intro ww hSw
      (try dsimp only at hSw)
      go_simp
      (try with_reducible rfl)
    simp only [Act.put, List.setIfInBounds_toArray, List.set_cons_zero, List.set_cons_succ]
    refine wpAnyH_take (i := 17) (oi := ⟨some 27, _, _, _, _, _⟩) (v := ?_) rfl (by kernel_rfl) (by kernel_rfl) (by kernel_rfl) (fun _ _ _ h => h) (Or.inl ⟨by rfl, ?_⟩) hHeld ?_
    rotate_left
    · intro ww hSw
      (try dsimp only at hSw)
      go_simp
      (try with_reducible rfl)
    simp only [Act.put, List.setIfInBounds_toArray, List.set_cons_zero, List.set_cons_succ]
    have hG3 : Has w3 g (evC ev) := by rw [evC_L]; exact HT3.out.2.1
    refine wpAnyH_ready (rs := [18]) (by kernel_rfl) (by simp) ?_
    refine AllReadyH.cons (o := ⟨some 28, _, _, _, _, _⟩) rfl (fun K hK => ?_) AllReadyH.nil
    rw [if_pos (by rfl)]
    obtain ⟨tg, hgg⟩ := hG3
    refine wp_load_row 33 _ rfl g (by rfl) tg (evC ev) (0, 0) _ hgg Try.underlying33 rfl (by rw [evC_size]; kernel_rfl) ?_
    refine hK.out _ _ ?_ (fun hHeld => ?_)
    · (try dsimp only)
      exact hb3
    clear hK K
    (try simp only [Act.put, List.setIfInBounds_toArray, List.set_cons_zero, List.set_cons_succ])
    refine wpAnyH_ready (rs := [19]) (by kernel_rfl) (by simp) ?_
    refine AllReadyH.cons (o := ⟨some 29, _, _, _, _, _⟩) rfl (fun K hK => ?_) AllReadyH.nil
    go_simp
    go_at_call 18
    refine (fair_any ev _ HIN.out).mono ?_
    rw [decide_eq_false HF.out]
    rintro e_r w4 ⟨rfl, hbn4⟩
    have hb4 := bel_on hb3 hbn4
    have HT4 := Lib.hid (HT3.out.below hbn4)
    go_wp2_with fail
    refine hK.out _ _ ?_ (fun hHeld => ?_)
    · (try dsimp only)
      exact hb4
    clear hK K
    (try simp only [Act.put, List.setIfInBounds_toArray, List.set_cons_zero, List.set_cons_succ])
    refine wpAnyH_take (i := 20) (oi := ⟨some 30, _, _, _, _, _⟩) (v := ?_) rfl (by kernel_rfl) (by kernel_rfl) (by kernel_rfl) (fun _ _ _ h => h) (Or.inl ⟨by rfl, ?_⟩) hHeld ?_
    rotate_left
    · intro ww hSw
      (try dsimp only at hSw)
      go_simp
      (try with_reducible rfl)
    simp only [Act.put, List.setIfInBounds_toArray, List.set_cons_zero, List.set_cons_succ]
    refine wpAnyH_take (i := 21) (oi := ⟨some 31, _, _, _, _, _⟩) (v := ?_) rfl (by kernel_rfl) (by kernel_rfl) (by kernel_rfl) (fun _ _ _ h => h) (Or.inl ⟨by rfl, ?_⟩) hHeld ?_
    rotate_left
    · intro ww hSw
      (try dsimp only at hSw)
      go_simp
      (try with_reducible rfl)
    simp only [Act.put, List.setIfInBounds_toArray, List.set_cons_zero, List.set_cons_succ]
    refine wpAnyH_done (by kernel_rfl) ?_ _
    refine NoPanic.normal ?_
    clear hHeld
    have hz0 := HZ0.out.below hb4
    have hbF := (HBW.out).trans (hb4.mono (by have := HBW.out.size; omega))
    go_wp2_with (refine wpList_store_e rfl _ _ rfl r0 (evC EvP.none) rfl rfl (evC EvP.none) hz0 rfl rfl (evC_one _) ?_)
    refine bodyPost_ret (evres_run Try.results8 _ _ r0 (evC EvP.none) _ _ rfl rfl rfl (has_setRow_e hz0) rfl) rfl ?_
    exact ⟨rfl, below_setRow hbF HRW.out _⟩

set_option maxHeartbeats 4000000 in
theorem take_ok_e (A : Option Addr) (c : Nat) (b : List (BitVec 8)) (W : World) (hx : Sl 1 W A b.length c (bytesV b)) (hmc : b.length ≤ c) (hm : b.length ≤ 1000000) (q : List Int) (r : List (BitVec 8)) (h4 : eatN 4 b = some (q, r)) (ns : List Int) (r2 : List (BitVec 8)) (h5 : eatN (ownL (q.getD 3 0)).length r = some (ns, r2)) (hf : (evQ q ns).Fair) :
    Calls Try.prog 8 #[.slice A b.length c] W fun e w' => ∃ A' c', e = .returned (.tuple #[.agg (evC (evQ q ns)), .slice A' r2.length c', .int .i64 0]) ∧ BRow w' W.heap.size A' c' r2 ∧ Below W.heap.size W w' := by
  have HX := Lib.hid hx
  have HMC := Lib.hid hmc
  have HM := Lib.hid hm
  clear hx hmc hm
  have hokq := (eat_own 4 h4).1
  have hkd : -9223372036854775808 ≤ q.getD 3 0 ∧ q.getD 3 0 ≤ 9223372036854775807 := by
    have hl := eat_len 4 h4
    match q, hl with
    | [i, w, t, k], _ => have := hokq k (by simp); show _ ≤ k ∧ k ≤ _; omega
  have hql := eat_len 4 h4
  have hrl : r.length ≤ 1000000 := by have := (eat_own 4 h4).2; have h9 := HM.out; rw [this, List.length_append] at h9; omega
  have hev : ∃ zs1, layL zeros11 [0, 1, 2, 3] q = zs1 ∧ zs1.length = 11 ∧ (ints .i64 zs1).toArray[3]? = some (.int .i64 (q.getD 3 0)) := ⟨_, rfl, by rw [layL_len]; rfl, by match q, hql with | [i, w, t, k], _ => rfl⟩
  have HRL := Lib.hid hrl
  have hsome := takeP_some h4 h5
  have HIN := Lib.hid hsome.1
  have HQL := Lib.hid (evQ_L q ns)
  clear hsome
  have hr2l : r2.length ≤ 1000000 := by have := (eat_own _ h5).2; rw [this, List.length_append] at hrl; omega
  have HR2L := Lib.hid hr2l
  clear hr2l
  obtain ⟨zs1, hz1, hz2, hz3⟩ := hev
  rw [hz1] at HQL
  have HF := Lib.hid hf
  clear hf
  generalize hE : evQ q ns = ev at *
  have HEV := Lib.hid hE
  clear hE
  have H4 := Lib.hid h4
  have H5 := Lib.hid h5
  have HKD := Lib.hid hkd
  have HZ1 := Lib.hid hz1
  have HZ2 := Lib.hid hz2
  have HZ3 := Lib.hid hz3
  clear h4 h5 hkd hokq hql hrl hz1 hz2 hz3
  generalize hkk : q.getD 3 0 = kd at *
  clear hkk
  go_enter Try.func8, Try.ntmps8
  go_wp2_with fail
  obtain ⟨W1, hW1⟩ : ∃ W1, W1 = W.alloc (.cells #[.int .i64 0, .int .i64 0, .int .i64 0, .int .i64 0, .int .i64 0, .int .i64 0, .int .i64 0, .int .i64 0, .int .i64 0, .int .i64 0, .int .i64 0] 33) := ⟨_, rfl⟩
  obtain ⟨w0, hw0⟩ : ∃ w0, w0 = ((W.alloc (.cells #[.int .i64 0, .int .i64 0, .int .i64 0, .int .i64 0, .int .i64 0, .int .i64 0, .int .i64 0, .int .i64 0, .int .i64 0, .int .i64 0, .int .i64 0] 33)).alloc (.cells #[.int .i64 0, .int .i64 0, .int .i64 0, .int .i64 0, .int .i64 0, .int .i64 0, .int .i64 0, .int .i64 0, .int .i64 0, .int .i64 0, .int .i64 0] 33)).alloc (.cells #[.slice A b.length c] 34) := ⟨_, rfl⟩
  rw [← hw0]
  have hWW : W1.heap.size = W.heap.size + 1 := by rw [hW1]; simp
  have HT0 : Hid (TakeW W1 (W.heap.size + 1) (W.heap.size + 1 + 1) zeros11 b w0) := by
    rw [hw0, ← hW1]
    refine Lib.hid ⟨bel_alloc (bel_alloc (Below.refl _ _) _) _, (Has.new W1 33 _ hWW).alloc _, A, c, Has.new _ _ _ (by simp; omega), ?_, HMC.out⟩
    rw [hW1]
    exact HX.out.alloc _
  have HZ0 : Hid (Has W1 W.heap.size (evC EvP.none)) := by rw [hW1]; exact Has.new W 33 _ rfl
  have HBW : Hid (Below W.heap.size W W1) := by rw [hW1]; exact bel_alloc (Below.refl _ _) _
  have hb0 : Below W1.heap.size W1 w0 := HT0.out.1
  have hr2 : W.heap.size < W1.heap.size := by omega
  have hg1 : W1.heap.size ≤ W.heap.size + 1 := by omega
  clear hw0 hW1
  obtain ⟨g, hg⟩ : ∃ g, W.heap.size + 1 = g := ⟨_, rfl⟩
  rw [hg] at HT0 hg1 ⊢
  obtain ⟨RR, hR⟩ : ∃ RR, g + 1 = RR := ⟨_, rfl⟩
  rw [hR] at HT0 ⊢
  have hgR : g ≠ RR := by omega
  have hR1 : W1.heap.size ≤ RR := by omega
  obtain ⟨r0, hr0⟩ : ∃ r0, W.heap.size = r0 := ⟨_, rfl⟩
  have HRW : Hid (W.heap.size ≤ r0) := Lib.hid (by omega)
  rw [hr0] at HZ0 hr2 ⊢
  clear hg hR hr0 hWW HX HMC
  have HC1 : Hid (∀ ww p, TakeW W1 g RR zeros11 b ww → Has ww p #[ptrV g 0, ptrV g 1, ptrV g 2, ptrV g 3] → g < p → RR < p → Calls Try.prog 24 #[.slice (some ⟨p, 0, none⟩) 4 4, .pointer (some ⟨RR, 0, none⟩)] ww fun e w' => e = .returned (.bool true) ∧ TakeW W1 g RR zs1 r w') :=
    Lib.hid (fun ww p h1 h2 h3 h6 => by
      have := take1_yes _ 4 4 g RR p ww.heap.size [0, 1, 2, 3] zeros11 b r q W1 ww rfl (by omega) (by omega) (by omega) (by simp) rfl (ptrs4_of h2) h3 h6 hgR hg1 hR1 (Nat.le_refl _) h1 HM.out H4.out
      rw [HZ1.out] at this
      exact this)
  have HC2 : Hid (∀ ww A2 n2 c2 B2, (ownL kd).length = n2 → n2 ≤ 6 → n2 ≤ c2 → c2 ≤ 6 → TakeW W1 g RR zs1 r ww → EPtrsN B2 ww A2 g (ownL kd) → g < B2 → RR < B2 → Calls Try.prog 24 #[.slice A2 n2 c2, .pointer (some ⟨RR, 0, none⟩)] ww fun e w' => e = .returned (.bool true) ∧ TakeW W1 g RR (evL ev) r2 w') :=
    Lib.hid (fun ww A2 n2 c2 B2 k1 k2 k3 k4 k5 k6 k7 k8 => by
      have := take1_yes A2 n2 c2 g RR B2 ww.heap.size (ownL kd) zs1 r r2 ns W1 ww k1 k2 k3 k4 (fun o ho => (ownL_lt ho).2) HZ2.out (ptrsB_of k6) k7 k8 hgR hg1 hR1 (Nat.le_refl _) k5 HRL.out (by subst k1; exact H5.out)
      rw [← HQL.out] at this
      exact this)
  have hgs := HT0.out.2.1.size
  have hRs : RR < w0.heap.size := by obtain ⟨_, _, _, _, h, _⟩ := HT0.out; exact h.size
  have eg : ∀ args w, (callFunc 24 args).run Try.prog w = .ok (.enter 24 args) w := enters_of Try.func24 (by kernel_rfl) rfl
  refine wp_region_noPanic ?_
  refine wp_region_held_drew (S := fun w' => Below W1.heap.size W1 w') (by kernel_rfl) (below_drew (hb0)) (fun hHeld => ?_)
  refine wpAnyH_take (i := 0) (oi := ⟨some 10, _, _, _, _, _⟩) (v := ?_) rfl (by kernel_rfl) (by kernel_rfl) (by kernel_rfl) (fun _ _ _ h => h) (Or.inl ⟨by rfl, ?_⟩) hHeld ?_
  rotate_left
  · intro ww hSw
    (try dsimp only at hSw)
    go_simp
    (try with_reducible rfl)
  simp only [Act.put, List.setIfInBounds_toArray, List.set_cons_zero, List.set_cons_succ]
  refine wpAnyH_take (i := 1) (oi := ⟨some 11, _, _, _, _, _⟩) (v := ?_) rfl (by kernel_rfl) (by kernel_rfl) (by kernel_rfl) (fun _ _ _ h => h) (Or.inl ⟨by rfl, ?_⟩) hHeld ?_
  rotate_left
  · intro ww hSw
    (try dsimp only at hSw)
    go_simp
    (try with_reducible rfl)
  simp only [Act.put, List.setIfInBounds_toArray, List.set_cons_zero, List.set_cons_succ]
  refine wpAnyH_take (i := 2) (oi := ⟨some 12, _, _, _, _, _⟩) (v := ?_) rfl (by kernel_rfl) (by kernel_rfl) (by kernel_rfl) (fun _ _ _ h => h) (Or.inl ⟨by rfl, ?_⟩) hHeld ?_
  rotate_left
  · intro ww hSw
    (try dsimp only at hSw)
    go_simp
    (try with_reducible rfl)
  simp only [Act.put, List.setIfInBounds_toArray, List.set_cons_zero, List.set_cons_succ]
  refine wpAnyH_take (i := 3) (oi := ⟨some 13, _, _, _, _, _⟩) (v := ?_) rfl (by kernel_rfl) (by kernel_rfl) (by kernel_rfl) (fun _ _ _ h => h) (Or.inl ⟨by rfl, ?_⟩) hHeld ?_
  rotate_left
  · intro ww hSw
    (try dsimp only at hSw)
    go_simp
    (try with_reducible rfl)
  simp only [Act.put, List.setIfInBounds_toArray, List.set_cons_zero, List.set_cons_succ]
  refine wpAnyH_take (i := 4) (oi := ⟨some 14, _, _, _, _, _⟩) (v := ?_) rfl (by kernel_rfl) (by kernel_rfl) (by kernel_rfl) (fun _ _ _ h => h) (Or.inl ⟨by rfl, ?_⟩) hHeld ?_
  rotate_left
  · intro ww hSw
    (try dsimp only at hSw)
    go_simp
    (try with_reducible rfl)
  simp only [Act.put, List.setIfInBounds_toArray, List.set_cons_zero, List.set_cons_succ]
  refine wpAnyH_ready (rs := [5]) (by kernel_rfl) (by simp) ?_
  refine AllReadyH.cons (o := ⟨some 15, _, _, _, _, _⟩) rfl (fun K hK => ?_) AllReadyH.nil
  go_simp
  refine hK.out _ _ ?_ (fun hHeld => ?_)
  · (try dsimp only)
    (repeat' (first | with_reducible exact Below.refl _ _ | with_reducible assumption | with_reducible refine bel_alloc ?_ _ | with_reducible refine bel_set ?_ ?_ _ | with_reducible refine below_drewN ?_ _ | with_reducible refine below_drew ?_ | (simp; done) | (simp; omega) | omega))
  clear hK K
  (try simp only [Act.put, List.setIfInBounds_toArray, List.set_cons_zero, List.set_cons_succ])
  refine wpAnyH_ready (rs := [6]) (by kernel_rfl) (by simp) ?_
  refine AllReadyH.cons (o := ⟨some 16, _, _, _, _, _⟩) rfl (fun K hK => ?_) AllReadyH.nil
  go_simp
  go_at_call 24
  refine (HC1.out _ _ (HT0.out.drew.alloc _) (Has.new _ _ _ rfl) hgs hRs).mono ?_
  rintro e_r w1 ⟨rfl, hT1⟩
  have HT1 := Lib.hid hT1
  have hb1 := HT1.out.1
  clear hT1
  go_wp2_with fail
  refine hK.out _ _ ?_ (fun hHeld => ?_)
  · (try dsimp only)
    exact hb1
  clear hK K
  (try simp only [Act.put, List.setIfInBounds_toArray, List.set_cons_zero, List.set_cons_succ])
  refine wpAnyH_take (i := 7) (oi := ⟨some 17, _, _, _, _, _⟩) (v := ?_) rfl (by kernel_rfl) (by kernel_rfl) (by kernel_rfl) (fun _ _ _ h => h) (Or.inl ⟨by rfl, ?_⟩) hHeld ?_
  rotate_left
  · intro ww hSw
    (try dsimp only at hSw)
    go_simp
    (try with_reducible rfl)
  simp only [Act.put, List.setIfInBounds_toArray, List.set_cons_zero, List.set_cons_succ]
  refine wpAnyH_take (i := 8) (oi := ⟨some 18, _, _, _, _, _⟩) (v := ?_) rfl (by kernel_rfl) (by kernel_rfl) (by kernel_rfl) (fun _ _ _ h => h) (Or.inl ⟨by rfl, ?_⟩) hHeld ?_
  rotate_left
  · intro ww hSw
    (try dsimp only at hSw)
    go_simp
    (try with_reducible rfl)
  simp only [Act.put, List.setIfInBounds_toArray, List.set_cons_zero, List.set_cons_succ]
  refine wpAnyH_take (i := 9) (oi := ⟨some 19, _, _, _, _, _⟩) (v := ?_) rfl (by kernel_rfl) (by kernel_rfl) (by kernel_rfl) (fun _ _ _ h => h) (Or.inl ⟨by rfl, ?_⟩) hHeld ?_
  rotate_left
  · intro ww hSw
    (try dsimp only at hSw)
    go_simp
    (try with_reducible rfl)
  simp only [Act.put, List.setIfInBounds_toArray, List.set_cons_zero, List.set_cons_succ]
  refine wpAnyH_take (i := 11) (oi := ⟨some 21, _, _, _, _, _⟩) (v := ?_) rfl (by kernel_rfl) (by kernel_rfl) (by kernel_rfl) (fun _ _ _ h => h) (Or.inl ⟨by rfl, ?_⟩) hHeld ?_
  rotate_left
  · intro ww hSw
    (try dsimp only at hSw)
    go_simp
    (try with_reducible rfl)
  simp only [Act.put, List.setIfInBounds_toArray, List.set_cons_zero, List.set_cons_succ]
  have hc3 : w1.cell? ⟨g, 3, none⟩ = some (.int .i64 kd) := HT1.out.2.1.cell 3 HZ3.out
  have hgs1 := HT1.out.2.1.size
  have hRs1 : RR < w1.heap.size := by obtain ⟨_, _, _, _, h, _⟩ := HT1.out; exact h.size
  refine wpAnyH_ready (rs := [10, 12]) (by kernel_rfl) (by simp) ?_
  refine AllReadyH.cons (o := ⟨some 20, _, _, _, _, _⟩) rfl (fun K hK => ?_) (AllReadyH.cons (o := ⟨some 22, _, _, _, _, _⟩) rfl (fun K hK => ?_) AllReadyH.nil)
  · skip
    go_simp
    go_at_call 19
    refine (own_c g _).mono ?_
    rintro e_r w2 ⟨m, rfl, hbn, hL⟩
    obtain ⟨A2, n2, c2, hn2, hn6, hnc, hc6, hP2, hq1, hq2⟩ := hL kd HKD.out
    clear hL hq1
    have hb2 := bel_on hb1 hbn
    have HT2 := Lib.hid (HT1.out.below hbn)
    go_wp2_with fail
    refine hK.out _ _ ?_ (fun hHeld => ?_)
    · (try dsimp only)
      exact hb2
    clear hK K
    (try simp only [Act.put, List.setIfInBounds_toArray, List.set_cons_zero, List.set_cons_succ])
    refine wpAnyH_ready (rs := [12]) (by kernel_rfl) (by simp) ?_
    refine AllReadyH.cons (o := ⟨some 22, _, _, _, _, _⟩) rfl (fun K hK => ?_) AllReadyH.nil
    have hc4 : w2.cell? ⟨g, 3, none⟩ = some (.int .i64 kd) := HT2.out.2.1.cell 3 HZ3.out
    have hgs2 := HT2.out.2.1.size
    go_simp
    refine hK.out _ _ ?_ (fun hHeld => ?_)
    · (try dsimp only)
      exact hb2
    clear hK K
    (try simp only [Act.put, List.setIfInBounds_toArray, List.set_cons_zero, List.set_cons_succ])
    clear hc4 hgs2
    refine wpAnyH_ready (rs := [13]) (by kernel_rfl) (by simp) ?_
    refine AllReadyH.cons (o := ⟨some 23, _, _, _, _, _⟩) rfl (fun K hK => ?_) AllReadyH.nil
    go_simp
    refine hK.out _ _ ?_ (fun hHeld => ?_)
    · (try dsimp only)
      exact hb2
    clear hK K
    (try simp only [Act.put, List.setIfInBounds_toArray, List.set_cons_zero, List.set_cons_succ])
    refine wpAnyH_ready (rs := [14]) (by kernel_rfl) (by simp) ?_
    refine AllReadyH.cons (o := ⟨some 24, _, _, _, _, _⟩) rfl (fun K hK => ?_) AllReadyH.nil
    go_simp
    go_at_call 24
    refine (HC2.out _ A2 n2 c2 _ hn2 hn6 hnc hc6 HT2.out hP2 hgs1 hRs1).mono ?_
    rintro e_r w3 ⟨rfl, hT3⟩
    have HT3 := Lib.hid hT3
    have hb3 := HT3.out.1
    clear hT3
    go_wp2_with fail
    refine hK.out _ _ ?_ (fun hHeld => ?_)
    · (try dsimp only)
      exact hb3
    clear hK K
    (try simp only [Act.put, List.setIfInBounds_toArray, List.set_cons_zero, List.set_cons_succ])
    refine wpAnyH_take (i := 15) (oi := ⟨some 25, _, _, _, _, _⟩) (v := ?_) rfl (by kernel_rfl) (by kernel_rfl) (by kernel_rfl) (fun _ _ _ h => h) (Or.inl ⟨by rfl, ?_⟩) hHeld ?_
    rotate_left
    · intro ww hSw
      (try dsimp only at hSw)
      go_simp
      (try with_reducible rfl)
    simp only [Act.put, List.setIfInBounds_toArray, List.set_cons_zero, List.set_cons_succ]
    refine wpAnyH_take (i := 16) (oi := ⟨some 26, _, _, _, _, _⟩) (v := ?_) rfl (by kernel_rfl) (by kernel_rfl) (by kernel_rfl) (fun _ _ _ h => h) (Or.inl ⟨by rfl, ?_⟩) hHeld ?_
    rotate_left
    · intro ww hSw
      (try dsimp only at hSw)
      go_simp
      (try with_reducible rfl)
    simp only [Act.put, List.setIfInBounds_toArray, List.set_cons_zero, List.set_cons_succ]
    refine wpAnyH_take (i := 17) (oi := ⟨some 27, _, _, _, _, _⟩) (v := ?_) rfl (by kernel_rfl) (by kernel_rfl) (by kernel_rfl) (fun _ _ _ h => h) (Or.inl ⟨by rfl, ?_⟩) hHeld ?_
    rotate_left
    · intro ww hSw
      (try dsimp only at hSw)
      go_simp
      (try with_reducible rfl)
    simp only [Act.put, List.setIfInBounds_toArray, List.set_cons_zero, List.set_cons_succ]
    have hG3 : Has w3 g (evC ev) := by rw [evC_L]; exact HT3.out.2.1
    refine wpAnyH_ready (rs := [18]) (by kernel_rfl) (by simp) ?_
    refine AllReadyH.cons (o := ⟨some 28, _, _, _, _, _⟩) rfl (fun K hK => ?_) AllReadyH.nil
    rw [if_pos (by rfl)]
    obtain ⟨tg, hgg⟩ := hG3
    refine wp_load_row 33 _ rfl g (by rfl) tg (evC ev) (0, 0) _ hgg Try.underlying33 rfl (by rw [evC_size]; kernel_rfl) ?_
    refine hK.out _ _ ?_ (fun hHeld => ?_)
    · (try dsimp only)
      exact hb3
    clear hK K
    (try simp only [Act.put, List.setIfInBounds_toArray, List.set_cons_zero, List.set_cons_succ])
    refine wpAnyH_ready (rs := [19]) (by kernel_rfl) (by simp) ?_
    refine AllReadyH.cons (o := ⟨some 29, _, _, _, _, _⟩) rfl (fun K hK => ?_) AllReadyH.nil
    go_simp
    go_at_call 18
    refine (fair_any ev _ HIN.out).mono ?_
    rw [decide_eq_true HF.out]
    rintro e_r w4 ⟨rfl, hbn4⟩
    have hb4 := bel_on hb3 hbn4
    have HT4 := Lib.hid (HT3.out.below hbn4)
    go_wp2_with fail
    refine hK.out _ _ ?_ (fun hHeld => ?_)
    · (try dsimp only)
      exact hb4
    clear hK K
    (try simp only [Act.put, List.setIfInBounds_toArray, List.set_cons_zero, List.set_cons_succ])
    refine wpAnyH_take (i := 20) (oi := ⟨some 30, _, _, _, _, _⟩) (v := ?_) rfl (by kernel_rfl) (by kernel_rfl) (by kernel_rfl) (fun _ _ _ h => h) (Or.inl ⟨by rfl, ?_⟩) hHeld ?_
    rotate_left
    · intro ww hSw
      (try dsimp only at hSw)
      go_simp
      (try with_reducible rfl)
    simp only [Act.put, List.setIfInBounds_toArray, List.set_cons_zero, List.set_cons_succ]
    refine wpAnyH_take (i := 21) (oi := ⟨some 31, _, _, _, _, _⟩) (v := ?_) rfl (by kernel_rfl) (by kernel_rfl) (by kernel_rfl) (fun _ _ _ h => h) (Or.inl ⟨by rfl, ?_⟩) hHeld ?_
    rotate_left
    · intro ww hSw
      (try dsimp only at hSw)
      go_simp
      (try with_reducible rfl)
    simp only [Act.put, List.setIfInBounds_toArray, List.set_cons_zero, List.set_cons_succ]
    refine wpAnyH_done (by kernel_rfl) ?_ _
    refine NoPanic.normal ?_
    clear hHeld
    have hE4 : Has w4 g (evC ev) := by rw [evC_L]; exact HT4.out.2.1
    obtain ⟨_, _, A4, c4, hR4, hS4, hc4⟩ := HT4.out
    have hz4 := HZ0.out.below hb4
    have hbF := (HBW.out).trans (hb4.mono (by have := HBW.out.size; omega))
    have HS4 := Lib.hid (hS4.below hb4)
    have HE4 := Lib.hid hE4
    have HR4 := Lib.hid hR4
    have HZ4 := Lib.hid hz4
    have HBF := Lib.hid hbF
    have HWZ := Lib.hid hr2
    have hrg : r0 ≠ g := by omega
    have hrR : r0 ≠ RR := by omega
    clear hE4 hR4 hz4 hbF hS4
    go_wp2_with fail
    refine wp_region_noPanic ?_
    refine wp_region_held_drew (S := fun w' => Has w' g (evC ev) ∧ Has w' RR #[.slice A4 r2.length c4]) (by kernel_rfl) ⟨HE4.out.drew, HR4.out.drew⟩ (fun hHeld => ?_)
    refine wpAnyH_take (i := 0) (oi := ⟨some 33, _, _, _, _, _⟩) (v := .agg (evC ev)) rfl (by kernel_rfl) (by kernel_rfl) (by kernel_rfl) (fun _ _ _ h => h) (Or.inl ⟨by rfl, ?_⟩) hHeld ?_
    · intro ww hSw
      (try dsimp only at hSw)
      exact exec_load_e _ rfl rfl hSw.1 rfl
    simp only [Act.put, List.setIfInBounds_toArray, List.set_cons_zero, List.set_cons_succ]
    refine wpAnyH_take (i := 1) (oi := ⟨some 34, _, _, _, _, _⟩) (v := .slice A4 r2.length c4) rfl (by kernel_rfl) (by kernel_rfl) (by kernel_rfl) (fun _ _ _ h => h) (Or.inl ⟨by rfl, ?_⟩) hHeld ?_
    · intro ww hSw
      (try dsimp only at hSw)
      have hcl := hSw.2.cell 0 (v := .slice A4 r2.length c4) rfl
      have hcs := cell_lt hcl
      go_simp
    simp only [Act.put, List.setIfInBounds_toArray, List.set_cons_zero, List.set_cons_succ]
    refine wpAnyH_ready (rs := [2]) (by kernel_rfl) (by simp) ?_
    refine AllReadyH.cons (o := ⟨some 35, _, _, _, _, _⟩) rfl (fun K hK => ?_) AllReadyH.nil
    go_simp
    go_at_call 27
    refine (clone_any A4 r2.length c4 r2 w4.drew (by exact HS4.out.below (below_drew (Below.refl _ _))) (by have := HR2L.out; omega)).mono ?_
    rintro e_r w5 ⟨A5, c5, rfl, hrow5, hb5d⟩
    have hb5 : Below w4.heap.size w4 w5 := bel_on (below_drew (Below.refl _ _)) hb5d
    have HROW := Lib.hid hrow5
    have HZ5 := Lib.hid (HZ4.out.below hb5)
    have hB5 := bel_on HBF.out hb5
    have HE5 := Lib.hid (HE4.out.below hb5)
    have HR5 := Lib.hid (HR4.out.below hb5)
    clear hrow5
    go_wp2_with fail
    refine hK.out _ _ ?_ (fun hHeld => ?_)
    · (try dsimp only)
      exact ⟨HE5.out, HR5.out⟩
    clear hK K
    (try simp only [Act.put, List.setIfInBounds_toArray, List.set_cons_zero, List.set_cons_succ])
    refine wpAnyH_ready (rs := [3]) (by kernel_rfl) (by simp) ?_
    refine AllReadyH.cons (o := ⟨none, _, _, _, _, _⟩) rfl (fun K hK => ?_) AllReadyH.nil
    rw [if_pos (by rfl)]
    obtain ⟨tz, hzz⟩ := HZ5.out
    refine wp_store_row 33 _ _ rfl r0 (evC ev) (by rfl) (by rfl) tz _ hzz (by rw [evC_size]; kernel_rfl) rfl (evC_one _) ?_
    refine hK.out _ _ ?_ (fun hHeld => ?_)
    · (try dsimp only)
      exact ⟨has_setRow_far HE5.out (Ne.symm hrg), has_setRow_far HR5.out (Ne.symm hrR)⟩
    clear hK K
    (try simp only [Act.put, List.setIfInBounds_toArray, List.set_cons_zero, List.set_cons_succ])
    refine wpAnyH_take (i := 4) (oi := ⟨some 3, _, _, _, _, _⟩) (v := ?_) rfl (by kernel_rfl) (by kernel_rfl) (by kernel_rfl) (fun _ _ _ h => h) (Or.inl ⟨by rfl, ?_⟩) hHeld ?_
    rotate_left
    · intro ww hSw
      (try dsimp only at hSw)
      go_simp
      (try with_reducible rfl)
    simp only [Act.put, List.setIfInBounds_toArray, List.set_cons_zero, List.set_cons_succ]
    refine wpAnyH_take (i := 5) (oi := ⟨some 4, _, _, _, _, _⟩) (v := ?_) rfl (by kernel_rfl) (by kernel_rfl) (by kernel_rfl) (fun _ _ _ h => h) (Or.inl ⟨by rfl, ?_⟩) hHeld ?_
    rotate_left
    · intro ww hSw
      (try dsimp only at hSw)
      go_simp
      (try with_reducible rfl)
    simp only [Act.put, List.setIfInBounds_toArray, List.set_cons_zero, List.set_cons_succ]
    refine wpAnyH_done (by kernel_rfl) ?_ _
    refine NoPanic.normal ?_
    clear hHeld
    go_wp2_with fail
    refine bodyPost_ret (evres_run Try.results8 _ _ r0 (evC ev) _ _ rfl rfl rfl (has_setRow_e HZ5.out) rfl) rfl ?_
    refine ⟨A5, c5, rfl, ?_, below_setRow hB5 HRW.out _⟩
    have hsz : W.heap.size ≤ w4.drew.heap.size := HBF.out.size
    refine (HROW.out.mono hsz).keep (fun gg hgg => setRow_other _ _ _ _ ?_)
    have h1 := (HROW.out.lt gg hgg).1
    have h2 : w4.drew.heap.size = w4.heap.size := rfl
    have h3 := HZ4.out.size
    omega
  · skip
    go_simp
    refine hK.out _ _ ?_ (fun hHeld => ?_)
    · (try dsimp only)
      exact hb1
    clear hK K
    (try simp only [Act.put, List.setIfInBounds_toArray, List.set_cons_zero, List.set_cons_succ])
    refine wpAnyH_ready (rs := [10]) (by kernel_rfl) (by simp) ?_
    refine AllReadyH.cons (o := ⟨some 20, _, _, _, _, _⟩) rfl (fun K hK => ?_) AllReadyH.nil
    go_simp
    go_at_call 19
    refine (own_c g _).mono ?_
    rintro e_r w2 ⟨m, rfl, hbn, hL⟩
    obtain ⟨A2, n2, c2, hn2, hn6, hnc, hc6, hP2, hq1, hq2⟩ := hL kd HKD.out
    clear hL hq1
    have hb2 := bel_on hb1 hbn
    have HT2 := Lib.hid (HT1.out.below hbn)
    go_wp2_with fail
    refine hK.out _ _ ?_ (fun hHeld => ?_)
    · (try dsimp only)
      exact hb2
    clear hK K
    (try simp only [Act.put, List.setIfInBounds_toArray, List.set_cons_zero, List.set_cons_succ])
    refine wpAnyH_ready (rs := [13]) (by kernel_rfl) (by simp) ?_
    refine AllReadyH.cons (o := ⟨some 23, _, _, _, _, _⟩) rfl (fun K hK => ?_) AllReadyH.nil
    go_simp
    refine hK.out _ _ ?_ (fun hHeld => ?_)
    · (try dsimp only)
      exact hb2
    clear hK K
    (try simp only [Act.put, List.setIfInBounds_toArray, List.set_cons_zero, List.set_cons_succ])
    refine wpAnyH_ready (rs := [14]) (by kernel_rfl) (by simp) ?_
    refine AllReadyH.cons (o := ⟨some 24, _, _, _, _, _⟩) rfl (fun K hK => ?_) AllReadyH.nil
    go_simp
    go_at_call 24
    refine (HC2.out _ A2 n2 c2 _ hn2 hn6 hnc hc6 HT2.out hP2 hgs1 hRs1).mono ?_
    rintro e_r w3 ⟨rfl, hT3⟩
    have HT3 := Lib.hid hT3
    have hb3 := HT3.out.1
    clear hT3
    go_wp2_with fail
    refine hK.out _ _ ?_ (fun hHeld => ?_)
    · (try dsimp only)
      exact hb3
    clear hK K
    (try simp only [Act.put, List.setIfInBounds_toArray, List.set_cons_zero, List.set_cons_succ])
    refine wpAnyH_take (i := 15) (oi := ⟨some 25, _, _, _, _, _⟩) (v := ?_) rfl (by kernel_rfl) (by kernel_rfl) (by kernel_rfl) (fun _ _ _ h => h) (Or.inl ⟨by rfl, ?_⟩) hHeld ?_
    rotate_left
    · intro ww hSw
      (try dsimp only at hSw)
      go_simp
      (try with_reducible rfl)
    simp only [Act.put, List.setIfInBounds_toArray, List.set_cons_zero, List.set_cons_succ]
    refine wpAnyH_take (i := 16) (oi := ⟨some 26, _, _, _, _, _⟩) (v := ?_) rfl (by kernel_rfl) (by kernel_rfl) (by kernel_rfl) (fun _ _ _ h => h) (Or.inl ⟨by rfl, ?_⟩) hHeld ?_
    rotate_left
    · intro ww hSw
      (try dsimp only at hSw)
      go_simp
      (try with_reducible rfl)
    simp only [Act.put, List.setIfInBounds_toArray, List.set_cons_zero, List.set_cons_succ]
    refine wpAnyH_take (i := 17) (oi := ⟨some 27, _, _, _, _, _⟩) (v := ?_) rfl (by kernel_rfl) (by kernel_rfl) (by kernel_rfl) (fun _ _ _ h => h) (Or.inl ⟨by rfl, ?_⟩) hHeld ?_
    rotate_left
    · intro ww hSw
      (try dsimp only at hSw)
      go_simp
      (try with_reducible rfl)
    simp only [Act.put, List.setIfInBounds_toArray, List.set_cons_zero, List.set_cons_succ]
    have hG3 : Has w3 g (evC ev) := by rw [evC_L]; exact HT3.out.2.1
    refine wpAnyH_ready (rs := [18]) (by kernel_rfl) (by simp) ?_
    refine AllReadyH.cons (o := ⟨some 28, _, _, _, _, _⟩) rfl (fun K hK => ?_) AllReadyH.nil
    rw [if_pos (by rfl)]
    obtain ⟨tg, hgg⟩ := hG3
    refine wp_load_row 33 _ rfl g (by rfl) tg (evC ev) (0, 0) _ hgg Try.underlying33 rfl (by rw [evC_size]; kernel_rfl) ?_
    refine hK.out _ _ ?_ (fun hHeld => ?_)
    · (try dsimp only)
      exact hb3
    clear hK K
    (try simp only [Act.put, List.setIfInBounds_toArray, List.set_cons_zero, List.set_cons_succ])
    refine wpAnyH_ready (rs := [19]) (by kernel_rfl) (by simp) ?_
    refine AllReadyH.cons (o := ⟨some 29, _, _, _, _, _⟩) rfl (fun K hK => ?_) AllReadyH.nil
    go_simp
    go_at_call 18
    refine (fair_any ev _ HIN.out).mono ?_
    rw [decide_eq_true HF.out]
    rintro e_r w4 ⟨rfl, hbn4⟩
    have hb4 := bel_on hb3 hbn4
    have HT4 := Lib.hid (HT3.out.below hbn4)
    go_wp2_with fail
    refine hK.out _ _ ?_ (fun hHeld => ?_)
    · (try dsimp only)
      exact hb4
    clear hK K
    (try simp only [Act.put, List.setIfInBounds_toArray, List.set_cons_zero, List.set_cons_succ])
    refine wpAnyH_take (i := 20) (oi := ⟨some 30, _, _, _, _, _⟩) (v := ?_) rfl (by kernel_rfl) (by kernel_rfl) (by kernel_rfl) (fun _ _ _ h => h) (Or.inl ⟨by rfl, ?_⟩) hHeld ?_
    rotate_left
    · intro ww hSw
      (try dsimp only at hSw)
      go_simp
      (try with_reducible rfl)
    simp only [Act.put, List.setIfInBounds_toArray, List.set_cons_zero, List.set_cons_succ]
    refine wpAnyH_take (i := 21) (oi := ⟨some 31, _, _, _, _, _⟩) (v := ?_) rfl (by kernel_rfl) (by kernel_rfl) (by kernel_rfl) (fun _ _ _ h => h) (Or.inl ⟨by rfl, ?_⟩) hHeld ?_
    rotate_left
    · intro ww hSw
      (try dsimp only at hSw)
      go_simp
      (try with_reducible rfl)
    simp only [Act.put, List.setIfInBounds_toArray, List.set_cons_zero, List.set_cons_succ]
    refine wpAnyH_done (by kernel_rfl) ?_ _
    refine NoPanic.normal ?_
    clear hHeld
    have hE4 : Has w4 g (evC ev) := by rw [evC_L]; exact HT4.out.2.1
    obtain ⟨_, _, A4, c4, hR4, hS4, hc4⟩ := HT4.out
    have hz4 := HZ0.out.below hb4
    have hbF := (HBW.out).trans (hb4.mono (by have := HBW.out.size; omega))
    have HS4 := Lib.hid (hS4.below hb4)
    have HE4 := Lib.hid hE4
    have HR4 := Lib.hid hR4
    have HZ4 := Lib.hid hz4
    have HBF := Lib.hid hbF
    have HWZ := Lib.hid hr2
    have hrg : r0 ≠ g := by omega
    have hrR : r0 ≠ RR := by omega
    clear hE4 hR4 hz4 hbF hS4
    go_wp2_with fail
    refine wp_region_noPanic ?_
    refine wp_region_held_drew (S := fun w' => Has w' g (evC ev) ∧ Has w' RR #[.slice A4 r2.length c4]) (by kernel_rfl) ⟨HE4.out.drew, HR4.out.drew⟩ (fun hHeld => ?_)
    refine wpAnyH_take (i := 0) (oi := ⟨some 33, _, _, _, _, _⟩) (v := .agg (evC ev)) rfl (by kernel_rfl) (by kernel_rfl) (by kernel_rfl) (fun _ _ _ h => h) (Or.inl ⟨by rfl, ?_⟩) hHeld ?_
    · intro ww hSw
      (try dsimp only at hSw)
      exact exec_load_e _ rfl rfl hSw.1 rfl
    simp only [Act.put, List.setIfInBounds_toArray, List.set_cons_zero, List.set_cons_succ]
    refine wpAnyH_take (i := 1) (oi := ⟨some 34, _, _, _, _, _⟩) (v := .slice A4 r2.length c4) rfl (by kernel_rfl) (by kernel_rfl) (by kernel_rfl) (fun _ _ _ h => h) (Or.inl ⟨by rfl, ?_⟩) hHeld ?_
    · intro ww hSw
      (try dsimp only at hSw)
      have hcl := hSw.2.cell 0 (v := .slice A4 r2.length c4) rfl
      have hcs := cell_lt hcl
      go_simp
    simp only [Act.put, List.setIfInBounds_toArray, List.set_cons_zero, List.set_cons_succ]
    refine wpAnyH_ready (rs := [2]) (by kernel_rfl) (by simp) ?_
    refine AllReadyH.cons (o := ⟨some 35, _, _, _, _, _⟩) rfl (fun K hK => ?_) AllReadyH.nil
    go_simp
    go_at_call 27
    refine (clone_any A4 r2.length c4 r2 w4.drew (by exact HS4.out.below (below_drew (Below.refl _ _))) (by have := HR2L.out; omega)).mono ?_
    rintro e_r w5 ⟨A5, c5, rfl, hrow5, hb5d⟩
    have hb5 : Below w4.heap.size w4 w5 := bel_on (below_drew (Below.refl _ _)) hb5d
    have HROW := Lib.hid hrow5
    have HZ5 := Lib.hid (HZ4.out.below hb5)
    have hB5 := bel_on HBF.out hb5
    have HE5 := Lib.hid (HE4.out.below hb5)
    have HR5 := Lib.hid (HR4.out.below hb5)
    clear hrow5
    go_wp2_with fail
    refine hK.out _ _ ?_ (fun hHeld => ?_)
    · (try dsimp only)
      exact ⟨HE5.out, HR5.out⟩
    clear hK K
    (try simp only [Act.put, List.setIfInBounds_toArray, List.set_cons_zero, List.set_cons_succ])
    refine wpAnyH_ready (rs := [3]) (by kernel_rfl) (by simp) ?_
    refine AllReadyH.cons (o := ⟨none, _, _, _, _, _⟩) rfl (fun K hK => ?_) AllReadyH.nil
    rw [if_pos (by rfl)]
    obtain ⟨tz, hzz⟩ := HZ5.out
    refine wp_store_row 33 _ _ rfl r0 (evC ev) (by rfl) (by rfl) tz _ hzz (by rw [evC_size]; kernel_rfl) rfl (evC_one _) ?_
    refine hK.out _ _ ?_ (fun hHeld => ?_)
    · (try dsimp only)
      exact ⟨has_setRow_far HE5.out (Ne.symm hrg), has_setRow_far HR5.out (Ne.symm hrR)⟩
    clear hK K
    (try simp only [Act.put, List.setIfInBounds_toArray, List.set_cons_zero, List.set_cons_succ])
    refine wpAnyH_take (i := 4) (oi := ⟨some 3, _, _, _, _, _⟩) (v := ?_) rfl (by kernel_rfl) (by kernel_rfl) (by kernel_rfl) (fun _ _ _ h => h) (Or.inl ⟨by rfl, ?_⟩) hHeld ?_
    rotate_left
    · intro ww hSw
      (try dsimp only at hSw)
      go_simp
      (try with_reducible rfl)
    simp only [Act.put, List.setIfInBounds_toArray, List.set_cons_zero, List.set_cons_succ]
    refine wpAnyH_take (i := 5) (oi := ⟨some 4, _, _, _, _, _⟩) (v := ?_) rfl (by kernel_rfl) (by kernel_rfl) (by kernel_rfl) (fun _ _ _ h => h) (Or.inl ⟨by rfl, ?_⟩) hHeld ?_
    rotate_left
    · intro ww hSw
      (try dsimp only at hSw)
      go_simp
      (try with_reducible rfl)
    simp only [Act.put, List.setIfInBounds_toArray, List.set_cons_zero, List.set_cons_succ]
    refine wpAnyH_done (by kernel_rfl) ?_ _
    refine NoPanic.normal ?_
    clear hHeld
    go_wp2_with fail
    refine bodyPost_ret (evres_run Try.results8 _ _ r0 (evC ev) _ _ rfl rfl rfl (has_setRow_e HZ5.out) rfl) rfl ?_
    refine ⟨A5, c5, rfl, ?_, below_setRow hB5 HRW.out _⟩
    have hsz : W.heap.size ≤ w4.drew.heap.size := HBF.out.size
    refine (HROW.out.mono hsz).keep (fun gg hgg => setRow_other _ _ _ _ ?_)
    have h1 := (HROW.out.lt gg hgg).1
    have h2 : w4.drew.heap.size = w4.heap.size := rfl
    have h3 := HZ4.out.size
    omega

/-- event.Take where there is none. -/
theorem takeE_bad_c (A : Option Addr) (c : Nat) (b : List (BitVec 8)) (W : World) (hx : Sl 1 W A b.length c (bytesV b)) (hmc : b.length ≤ c) (hm : b.length ≤ 1000000) (h : takeE b = none) :
    Calls Try.prog 8 #[.slice A b.length c] W fun e w' => e = .returned (.tuple #[.agg (evC EvP.none), .slice none 0 0, .int .i64 80]) ∧ Below W.heap.size W w' := by
  cases h4 : eatN 4 b with
  | none => exact take_a_e A c b W hx hmc hm h4
  | some x =>
    obtain ⟨q, r⟩ := x
    cases h5 : eatN (ownL (q.getD 3 0)).length r with
    | none => exact take_b_e A c b W hx hmc hm q r h4 h5
    | some y =>
      obtain ⟨ns, r2⟩ := y
      have h6 := (takeP_some h4 h5).2.2
      refine take_c_e A c b W hx hmc hm q r h4 ns r2 h5 (fun hf => ?_)
      rw [if_pos hf, h] at h6
      cases h6
theorem takeE_ok_c (A : Option Addr) (c : Nat) (b : List (BitVec 8)) (W : World) (hx : Sl 1 W A b.length c (bytesV b)) (hmc : b.length ≤ c) (hm : b.length ≤ 1000000) (e : EvP) (r2 : List (BitVec 8)) (h : takeE b = some (e, r2)) :
    Calls Try.prog 8 #[.slice A b.length c] W fun e0 w' => ∃ A' c', e0 = .returned (.tuple #[.agg (evC e), .slice A' r2.length c', .int .i64 0]) ∧ BRow w' W.heap.size A' c' r2 ∧ Below W.heap.size W w' := by
  cases h4 : eatN 4 b with
  | none => rw [takeP_no h4] at h; cases h
  | some x =>
    obtain ⟨q, r⟩ := x
    cases h5 : eatN (ownL (q.getD 3 0)).length r with
    | none => rw [takeP_no2 h4 h5] at h; cases h
    | some y =>
      obtain ⟨ns, r3⟩ := y
      have h6 := (takeP_some h4 h5).2.2
      by_cases hf : (evQ q ns).Fair
      · rw [if_pos hf, h] at h6
        injection h6 with h6
        injection h6 with h7 h8
        subst h7 h8
        exact take_ok_e A c b W hx hmc hm q r h4 ns r2 h5 hf
      · rw [if_neg hf, h] at h6
        cases h6

end Go.Proofs.Ytgfomfioagblfaa
