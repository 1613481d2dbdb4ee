/-
  event.fair: whether an event is fair.
  Slices of numbers of the call's own: append.
  Package pack: how many bytes a number has; a copy of bytes.
  Package pack: a number's bytes written behind.
  Package pack: numbers, and a text, put behind bytes.
-/
import Derived.Test.YtgfomfioagblfaaZac
import Derived.IntWalk
import Derived.Test.YtgfomfioagblfaaZaa
import Derived.RegionTactic
import Derived.Test.YtgfomfioagblfaaProg
import Derived.Test.YtgfomfioagblfaaZab
import Derived.WalkKit
import Derived.WalkLawsBesides
import Derived.Lib.Hide
import Derived.Lib.SliceRun
namespace Go.Proofs.Ytgfomfioagblfaa
open Go.RowKit
set_option linter.unusedVariables false
set_option linter.unusedSimpArgs false

theorem fair_iff0 (e : EvP) : e.Fair ↔ ((0 ≤ e.id ∧ e.id ≤ 100000) ∧ (0 ≤ e.wk ∧ e.wk ≤ 9223372036854775807) ∧ (0 ≤ e.tm ∧ e.tm ≤ 31449599) ∧ (1 ≤ e.kd ∧ e.kd ≤ 7) ∧ (0 ≤ e.fr ∧ e.fr ≤ 9223372036854775807) ∧ (0 ≤ e.to ∧ e.to ≤ 9223372036854775807) ∧ (0 ≤ e.el ∧ e.el ≤ 9223372036854775807) ∧
    (0 ≤ e.un ∧ e.un ≤ 9223372036854775807) ∧ (0 ≤ e.cl ∧ e.cl ≤ 9223372036854775807) ∧ (0 ≤ e.ge ∧ e.ge ≤ 9223372036854775807) ∧ (0 ≤ e.cd ∧ e.cd ≤ 9223372036854775807) ∧ (e.kd = 3 ∨ (e.fr = 0 ∧ e.to = 0 ∧ e.el = 0 ∧ e.un = 0 ∧ e.cl = 0 ∧ e.ge = 0)) ∧ (e.kd = 4 ∨ e.cd = 0)) :=
  ⟨fun h => ⟨h.id, h.wk, h.tm, h.kd, h.fr, h.to, h.el, h.un, h.cl, h.ge, h.cd, h.task, h.code⟩, fun ⟨a, b, c, d, e, f, g, i, j, k, l, m, n⟩ => ⟨a, b, c, d, e, f, g, i, j, k, l, m, n⟩⟩
instance (e : EvP) : Decidable e.Fair := decidable_of_iff' _ (fair_iff0 e)
/-- What every event has, is as it must be. -/
def EvP.Base (e : EvP) : Prop := 0 ≤ e.id ∧ e.id ≤ 100000 ∧ 0 ≤ e.wk ∧ 0 ≤ e.tm ∧ e.tm ≤ 31449599
instance (e : EvP) : Decidable e.Base := by unfold EvP.Base; infer_instance
/-- Some numbers struck. -/
def zeroL (zs : List Int) (L : List Nat) : List Int := L.foldl (fun z o => z.set o 0) zs
theorem zeroL_snoc (zs : List Int) (L : List Nat) (k : Nat) (h : k < L.length) : zeroL zs (L.take (k + 1)) = (zeroL zs (L.take k)).set (L.getD k 0) 0 := by
  rw [List.take_succ_eq_append_getElem h, zeroL, List.foldl_append]
  simp [zeroL, List.getD, h]
theorem zeroL_len : ∀ (L : List Nat) (zs : List Int), (zeroL zs L).length = zs.length
  | [], zs => rfl
  | o :: L, zs => by
    show (zeroL (zs.set o 0) L).length = _
    rw [zeroL_len L]
    simp
theorem zeroL_far : ∀ (L : List Nat) (zs : List Int) (o : Nat), o ∉ L → (zeroL zs L)[o]? = zs[o]?
  | [], zs, o, _ => rfl
  | p :: L, zs, o, h => by
    show (zeroL (zs.set p 0) L)[o]? = _
    rw [zeroL_far L _ o (fun e => h (by simp [e])), List.getElem?_set_ne (fun e => h (by simp [e]))]
/-- An event without the numbers that all have. -/
def left0 (e : EvP) : List Int := [0, 0, 0, 0, e.fr, e.to, e.el, e.un, e.cl, e.ge, e.cd]
theorem left0_at (e : EvP) {o : Nat} (h : 4 ≤ o ∧ o < 11) : (left0 e)[o]? = some ((evL e).getD o 0) := by
  obtain ⟨h1, h2⟩ := h
  match o, h1, h2 with
  | 4, _, _ | 5, _, _ | 6, _, _ | 7, _, _ | 8, _, _ | 9, _, _ | 10, _, _ => rfl
def zeros11 : List Int := [0, 0, 0, 0, 0, 0, 0, 0, 0, 0, 0]
theorem fair_iff {e : EvP} (h : e.In) : e.Fair ↔ e.Base ∧ (∀ o ∈ ownL e.kd, 0 ≤ (evL e).getD o 0) ∧ knownK e.kd = true ∧ zeroL (left0 e) (ownL e.kd) = zeros11 := by
  obtain ⟨h1, h2, h3, h4, h5, h6, h7, h8, h9, h10, h11⟩ := h
  rw [fair_iff0]
  obtain ⟨i, w, t, k, a, b, c, d, g, j, m⟩ := e
  simp only [EvP.Base, knownK, decide_eq_true_eq] at *
  by_cases k3 : k = 3
  · subst k3
    simp [ownL, evL, left0, zeroL, zeros11]
    omega
  · by_cases k4 : k = 4
    · subst k4
      simp [ownL, evL, left0, zeroL, zeros11]
      omega
    · simp [ownL, evL, left0, zeroL, zeros11, k3, k4]
      omega
theorem fair_bad (e : EvP) (w : World) (hi : e.In) (h : ¬ e.Base) :
    Calls Try.prog 18 #[.agg (evC e)] w fun r w' => r = .returned (.bool false) ∧ Below w.heap.size w w' := by
  have c : e.id < 0 ∨ (0 ≤ e.id ∧ 100000 < e.id) ∨ ((0 ≤ e.id ∧ e.id ≤ 100000) ∧ e.wk < 0) ∨ ((0 ≤ e.id ∧ e.id ≤ 100000) ∧ 0 ≤ e.wk ∧ e.tm < 0) ∨ ((0 ≤ e.id ∧ e.id ≤ 100000) ∧ 0 ≤ e.wk ∧ 0 ≤ e.tm ∧ 31449599 < e.tm) := by
    unfold EvP.Base at h
    omega
  clear hi h
  obtain ⟨i, w, t, k, a, b, c, d, g, j, m⟩ := e
  simp only at c
  simp only [evC]
  rcases c with h | ⟨h1, h⟩ | ⟨⟨h1, h2⟩, h⟩ | ⟨⟨h1, h2⟩, h3, h⟩ | ⟨⟨h1, h2⟩, h3, h4, h⟩
  all_goals
    go_enter Try.func18, Try.ntmps18
    go_wp2
    go_ret
    exact ⟨rfl, by (repeat' (first | with_reducible exact Below.refl _ _ | with_reducible assumption | with_reducible refine bel_alloc ?_ _ | with_reducible refine bel_set ?_ ?_ _ | with_reducible refine below_drewN ?_ _ | with_reducible refine below_drew ?_ | (simp; done) | (simp; omega) | omega))⟩
theorem zero_get {L : List Nat} (zs : List Int) {k : Nat} (h : k < L.length) (hn : L.Nodup) : (zeroL zs (L.take k))[L.getD k 0]? = zs[L.getD k 0]? := by
  refine zeroL_far _ _ _ (fun hm => ?_)
  have e : L.getD k 0 = L[k] := by simp [List.getD, h]
  rw [e] at hm
  obtain ⟨j, hj, hje⟩ := List.getElem_of_mem hm
  rw [List.length_take] at hj
  rw [List.getElem_take] at hje
  have := (List.getElem_inj hn).1 hje
  omega
set_option maxRecDepth 20000 in
set_option maxHeartbeats 1000000 in
theorem fair_on (e : EvP) (W : World) (hi : e.In) (h : e.Base) :
    Calls Try.prog 18 #[.agg (evC e)] W fun r w' => r = .returned (.bool (decide e.Fair)) ∧ Below W.heap.size W w' := by
  obtain ⟨h1, h2, h3, h4, h5⟩ := id h
  have HF : Hid (decide e.Fair = (decide (∀ o ∈ ownL e.kd, 0 ≤ (evL e).getD o 0) && (knownK e.kd && decide (zeroL (left0 e) (ownL e.kd) = zeros11)))) := by
    show _ = _
    rw [Bool.eq_iff_iff]
    simp only [decide_eq_true_eq, Bool.and_eq_true, fair_iff hi]
    exact ⟨fun ⟨_, a, b, c⟩ => ⟨a, b, c⟩, fun ⟨a, b, c⟩ => ⟨h, a, b, c⟩⟩
  have HK := Lib.hid hi.kd
  have HI := Lib.hid hi
  have hC1 := evC_size e
  have HC := Lib.hid (evC_one e)
  clear h hi
  generalize hcs : evC e = cs at *
  have HCS := Lib.hid hcs
  clear hcs
  have c0 : cs[0]? = some (.int .i64 e.id) := by rw [← HCS.out]; rfl
  have c1 : cs[1]? = some (.int .i64 e.wk) := by rw [← HCS.out]; rfl
  have c2 : cs[2]? = some (.int .i64 e.tm) := by rw [← HCS.out]; rfl
  have c3 : cs[3]? = some (.int .i64 e.kd) := by rw [← HCS.out]; rfl
  have HZ := Lib.hid hC1
  clear hC1
  go_enter Try.func18, Try.ntmps18
  go_wp2_with (first | (refine wpList_load_e (by rfl) _ rfl W.heap.size rfl cs (Has.new W _ cs rfl) HZ.out ?_) | (refine wpList_laid_e cs 3 _ _ rfl rfl rfl rfl rfl rfl rfl rfl HZ.out HC.out ?_))
  obtain ⟨w1, hw1⟩ : ∃ w1, w1 = (W.alloc (.cells cs 33)).alloc (.cells ((((cs.setIfInBounds 0 (.int .i64 0)).setIfInBounds 1 (.int .i64 0)).setIfInBounds 2 (.int .i64 0)).setIfInBounds 3 (.int .i64 0)) 33) := ⟨_, rfl⟩
  rw [← hw1]
  have HB : Hid (Has w1 W.heap.size cs) := by rw [hw1]; exact (Has.new W _ cs rfl).alloc _
  have HG : Hid (Has w1 (W.heap.size + 1) (ints .i64 (left0 e)).toArray) := by
    rw [hw1]
    have : (ints .i64 (left0 e)).toArray = ((((cs.setIfInBounds 0 (.int .i64 0)).setIfInBounds 1 (.int .i64 0)).setIfInBounds 2 (.int .i64 0)).setIfInBounds 3 (.int .i64 0)) := by rw [← HCS.out]; rfl
    rw [this]
    exact Has.new _ _ _ (by simp)
  have HW : Hid (Below W.heap.size W w1) := by rw [hw1]; exact bel_alloc (bel_alloc (Below.refl _ _) _) _
  clear hw1
  refine wp_region_noPanic ?_
  refine wp_region_held_drew (S := fun w' => Below w1.heap.size w1 w') (by kernel_rfl) (below_drew (Below.refl _ _)) (fun hHeld => ?_)
  refine wpAnyH_take (i := 1) (oi := ⟨some 38, _, _, _, _, _⟩) (v := ?_) rfl (by kernel_rfl) (by kernel_rfl) (by kernel_rfl) (fun _ _ _ h => h) (Or.inl ⟨by rfl, ?_⟩) hHeld ?_
  rotate_left
  · intro ww hSw
    (try dsimp only at hSw)
    go_simp
    (try with_reducible rfl)
  simp only [Act.put, List.setIfInBounds_toArray, List.set_cons_zero, List.set_cons_succ]
  refine wpAnyH_take (i := 2) (oi := ⟨some 39, _, _, _, _, _⟩) (v := .int .i64 e.kd) rfl (by kernel_rfl) (by kernel_rfl) (by kernel_rfl) (fun _ _ _ h => h) (Or.inl ⟨by rfl, ?_⟩) hHeld ?_
  · intro ww hSw
    (try dsimp only at hSw)
    have hc := (hSw.cell (p := ⟨W.heap.size, 3, none⟩) HB.out.size).trans (HB.out.cell 3 c3)
    go_simp
  simp only [Act.put, List.setIfInBounds_toArray, List.set_cons_zero, List.set_cons_succ]
  refine wpAnyH_ready (rs := [0]) (by kernel_rfl) (by simp) ?_
  refine AllReadyH.cons (o := ⟨some 37, _, _, _, _, _⟩) rfl (fun K hK => ?_) AllReadyH.nil
  go_simp
  go_at_call 19
  refine (own_c _ _).mono ?_
  rintro e_r w2 ⟨m, rfl, hbn, hL⟩
  have hbw2 : Below w1.heap.size w1 w2 := bel_on (show Below w1.heap.size w1 _ by (repeat' (first | with_reducible exact Below.refl _ _ | with_reducible assumption | with_reducible refine bel_alloc ?_ _ | with_reducible refine bel_set ?_ ?_ _ | with_reducible refine below_drewN ?_ _ | with_reducible refine below_drew ?_ | (simp; done) | (simp; omega) | omega))) hbn
  clear hbn
  go_wp2_with fail
  refine hK.out _ _ ?_ (fun hHeld => ?_)
  · (try dsimp only)
    exact hbw2
  clear hK K
  (try simp only [Act.put, List.setIfInBounds_toArray, List.set_cons_zero, List.set_cons_succ])
  obtain ⟨A, n, c, hn, hn6, hnc, hc6, hP, hq1, hq2⟩ := hL e.kd HK.out
  clear hL hq2
  refine wpAnyH_ready (rs := [3]) (by kernel_rfl) (by simp) ?_
  refine AllReadyH.cons (o := ⟨some 40, _, _, _, _, _⟩) rfl (fun K hK => ?_) AllReadyH.nil
  go_simp
  refine hK.out _ _ ?_ (fun hHeld => ?_)
  · (try dsimp only)
    exact hbw2
  clear hK K
  (try simp only [Act.put, List.setIfInBounds_toArray, List.set_cons_zero, List.set_cons_succ])
  refine wpAnyH_take (i := 4) (oi := ⟨some 36, _, _, _, _, _⟩) (v := ?_) rfl (by kernel_rfl) (by kernel_rfl) (by kernel_rfl) (fun _ _ _ h => h) (Or.inl ⟨by rfl, ?_⟩) hHeld ?_
  rotate_left
  · intro ww hSw
    (try dsimp only at hSw)
    go_simp
    (try with_reducible rfl)
  simp only [Act.put, List.setIfInBounds_toArray, List.set_cons_zero, List.set_cons_succ]
  refine wpAnyH_take (i := 5) (oi := ⟨some 41, _, _, _, _, _⟩) (v := ?_) rfl (by kernel_rfl) (by kernel_rfl) (by kernel_rfl) (fun _ _ _ h => h) (Or.inl ⟨by rfl, ?_⟩) hHeld ?_
  rotate_left
  · intro ww hSw
    (try dsimp only at hSw)
    go_simp
    (try with_reducible rfl)
  simp only [Act.put, List.setIfInBounds_toArray, List.set_cons_zero, List.set_cons_succ]
  refine wpAnyH_take (i := 6) (oi := ⟨some 42, _, _, _, _, _⟩) (v := ?_) rfl (by kernel_rfl) (by kernel_rfl) (by kernel_rfl) (fun _ _ _ h => h) (Or.inl ⟨by rfl, ?_⟩) hHeld ?_
  rotate_left
  · intro ww hSw
    (try dsimp only at hSw)
    go_simp
    (try with_reducible rfl)
  simp only [Act.put, List.setIfInBounds_toArray, List.set_cons_zero, List.set_cons_succ]
  refine wpAnyH_take (i := 7) (oi := ⟨some 4, _, _, _, _, _⟩) (v := ?_) rfl (by kernel_rfl) (by kernel_rfl) (by kernel_rfl) (fun _ _ _ h => h) (Or.inl ⟨by rfl, ?_⟩) hHeld ?_
  rotate_left
  · intro ww hSw
    (try dsimp only at hSw)
    go_simp
    (try with_reducible rfl)
  simp only [Act.put, List.setIfInBounds_toArray, List.set_cons_zero, List.set_cons_succ]
  refine wpAnyH_take (i := 8) (oi := ⟨some 5, _, _, _, _, _⟩) (v := ?_) rfl (by kernel_rfl) (by kernel_rfl) (by kernel_rfl) (fun _ _ _ h => h) (Or.inl ⟨by rfl, ?_⟩) hHeld ?_
  rotate_left
  · intro ww hSw
    (try dsimp only at hSw)
    go_simp
    (try with_reducible rfl)
  simp only [Act.put, List.setIfInBounds_toArray, List.set_cons_zero, List.set_cons_succ]
  refine wpAnyH_done (by kernel_rfl) ?_ _
  refine NoPanic.normal ?_
  have hG := HG.out.below hbw2
  have hbW := bel_on HW.out hbw2
  have hgB : W.heap.size + 1 < w1.drew.heap.size := HG.out.size
  generalize w1.drew.heap.size = B at *
  clear HB HG HW hHeld hbw2 hq1 c0 c1 c2 c3 HC
  generalize hg : W.heap.size + 1 = g at *
  have hWg : W.heap.size ≤ g := by omega
  clear hg
  have HL := Lib.hid hn
  have HKN : Hid (∀ o ∈ ownL e.kd, 4 ≤ o ∧ o < 11) := Lib.hid (fun o ho => ownL_lt ho)
  have HND := Lib.hid (ownL_nodup e.kd)
  have HPP := Lib.hid hP
  have HGG := Lib.hid hG
  clear hn hP hG h1 h2 h3 h4 h5
  generalize knownK e.kd = kn at *
  generalize ownL e.kd = L at *
  go_wp2_with fail
  go_loopw [45] (fun i wr => ∃ k : Nat, k ≤ n ∧ i = .int .i64 k ∧ Hid (Has wr g (ints .i64 (zeroL (left0 e) (L.take k))).toArray) ∧ Hid (EPtrsN B wr A g L) ∧ Below W.heap.size W wr ∧ Hid (∀ o ∈ L.take k, 0 ≤ (evL e).getD o 0)) (fun i _ => n - (intOf i).toNat)
  case atStart => exact ⟨0, by omega, rfl, HGG, HPP, hbW, Lib.hid (fun o ho => by simp at ho)⟩
  case round =>
    clear HGG HPP hbW
    obtain ⟨k, hk, rfl, hG, hP, hb, hpos⟩ := hrel
    by_cases hlt : k < n
    · have hkL : k < L.length := by rw [HL.out]; exact hlt
      obtain ⟨b, off, rfl, hBb, hbs, hc⟩ := hP.out k hkL
      have hLk : L.getD k 0 ∈ L := by simp [List.getD, hkL]
      have hget := zero_get (left0 e) hkL HND.out
      rw [left0_at e (HKN.out _ hLk)] at hget
      have hsn := zeroL_snoc (left0 e) L k hkL
      have htk : L.take (k + 1) = L.take k ++ [L.getD k 0] := by rw [List.take_succ_eq_append_getElem hkL]; simp [List.getD, hkL]
      have HSN := Lib.hid hsn
      have HTK := Lib.hid htk
      have HLK := Lib.hid hLk
      clear hsn htk hLk
      generalize L.getD k 0 = o at *
      have hcell := hG.out.cell o (v := .int .i64 ((evL e).getD o 0)) (by simp [ints, hget])
      have hfro := hG.out.frozen o
      clear hget
      unfold ptrV at hc
      have hgb : g ≠ b := by omega
      obtain ⟨z, hze⟩ : ∃ z, (evL e).getD o 0 = z := ⟨_, rfl⟩
      rw [hze] at hcell
      have HZE := Lib.hid hze
      clear hze
      by_cases hz : z < 0
      · have hf : decide e.Fair = false := by
          rw [HF.out, Bool.and_eq_false_iff]
          exact .inl (decide_eq_false (fun h => by have := h o HLK.out; rw [HZE.out] at this; omega))
        have HFF := Lib.hid hf
        clear hf
        go_wp2
        go_ret
        exact ⟨ret_bool HFF.out.symm, hb⟩
      · go_wp2
        go_roundw
        case rel =>
          refine ⟨k + 1, by omega, by go_num, ?_, ?_, ?_, ?_⟩
          · rw [HSN.out]
            have := hG.out.set o (.int .i64 0)
            refine Lib.hid ?_
            have e1 : (ints .i64 ((zeroL (left0 e) (L.take k)).set o 0)).toArray = (ints .i64 (zeroL (left0 e) (L.take k))).toArray.setIfInBounds o (.int .i64 0) := by simp [ints, List.map_set]
            rw [e1]
            exact this
          · exact Lib.hid (hP.out.keep (by simp) (fun p hp _ => World.cell?_setCell_far _ _ _ _ (by show g ≠ p.block; omega)))
          · exact bel_set hb hWg _
          · refine Lib.hid (fun q hq => ?_)
            rw [HTK.out, List.mem_append] at hq
            rcases hq with hq | hq
            · exact hpos.out q hq
            · simp at hq; subst hq; rw [HZE.out]; omega
        case measure => simp [intOf]; omega
    · obtain rfl : k = n := by omega
      have hpos' := hpos.out
      have hG' := hG.out
      rw [show k = L.length from HL.out.symm, List.take_length] at hpos' hG'
      have hfin : decide e.Fair = (kn && decide (zeroL (left0 e) L = zeros11)) := by rw [HF.out, decide_eq_true hpos', Bool.true_and]
      have HFF := Lib.hid hfin
      have hlen : (zeroL (left0 e) L).length = 11 := zeroL_len _ _
      clear hfin hpos' hpos hG hP HKN HND HF HL
      generalize zeroL (left0 e) L = zs at *
      have hx := evL_Of hlen
      have hcs2 : (ints .i64 zs).toArray = evC (evOf zs) := by rw [evC_L, hx]
      rw [hcs2] at hG'
      have hq := fun w => run_ev_eql (evOf zs) EvP.none w
      have hd : decide (evOf zs = EvP.none) = decide (zs = zeros11) := by
        apply decide_eq_decide.2
        constructor
        · intro h; rw [← hx, h]; rfl
        · intro h; rw [h]; rfl
      rw [hd] at hq
      have HQ : Hid (∀ w, (binOp .eql 33 (.agg (evC (evOf zs))) (.agg (evC EvP.none))).run Try.prog w = .ok (.bool (decide (zs = zeros11))) w) := hq
      clear hq hd hx hcs2
      generalize decide (zs = zeros11) = eqb at *
      have HG2 := Lib.hid hG'
      have hz2 := evC_size (evOf zs)
      generalize evC (evOf zs) = cs2 at *
      clear hG'
      have HZ2 := Lib.hid hz2
      clear hz2 hlen
      cases kn
      · go_wp2
        go_ret
        exact ⟨ret_bool (by rw [HFF.out]; rfl), hb⟩
      · have hq := HQ.out
        simp only [evC, EvP.none] at hq
        go_wp2_with (first | (refine wpList_load_e (by rfl) _ rfl g rfl cs2 HG2.out HZ2.out ?_))
        go_ret
        exact ⟨ret_bool (by rw [HFF.out]; rfl), hb⟩
theorem fair_any (e : EvP) (W : World) (hi : e.In) :
    Calls Try.prog 18 #[.agg (evC e)] W fun r w' => r = .returned (.bool (decide e.Fair)) ∧ Below W.heap.size W w' := by
  by_cases h : e.Base
  · exact fair_on e W hi h
  · rw [decide_eq_false (fun hf => h ((fair_iff hi).1 hf).1)]
    exact fair_bad e W hi h
end Go.Proofs.Ytgfomfioagblfaa

namespace Go.Proofs.Ytgfomfioagblfaa
open Go.RowKit
set_option linter.unusedVariables false

/-- A slice of the call's own, that lies at 'base' or behind, and holds the numbers xs. -/
def NRow (w : World) (base : Nat) (A : Option Addr) (c : Nat) (xs : List Int) : Prop :=
  w.ownsRow base 3 1 (.slice A xs.length c) xs.length (ints .i64 xs)
section
variable {w w' : World} {base c : Nat} {A : Option Addr} {xs : List Int}
theorem NRow.nil (w : World) (base : Nat) : NRow w base none 0 [] := World.ownsRow_nil w base _ _
theorem NRow.keep (h : NRow w base A c xs) (hk : ∀ g, A = some g → w'.heap[g.block]? = w.heap[g.block]?) : NRow w' base A c xs := by
  obtain ⟨hl, hn | ⟨g, cap, cur, hv, hg, hh, rest⟩⟩ := h
  · exact ⟨hl, .inl hn⟩
  · injection hv with e1 e2 e3
    subst e1
    exact ⟨hl, .inr ⟨g, cap, cur, by rw [e3], hg, (hk _ rfl).trans hh, rest⟩⟩
theorem NRow.lt (h : NRow w base A c xs) : ∀ g, A = some g → base ≤ g.block ∧ g.block < w.heap.size := by
  rintro g rfl
  exact World.ownsRow.lt h _ rfl
theorem NRow.below (h : NRow w base A c xs) (hb : Below w.heap.size w w') : NRow w' base A c xs :=
  h.keep fun g hg => hb.block _ (h.lt g hg).2
theorem NRow.alloc (h : NRow w base A c xs) (o : Obj) : NRow (w.alloc o) base A c xs := World.ownsRow.alloc h o
theorem NRow.drew (h : NRow w base A c xs) : NRow w.drew base A c xs := h
theorem NRow.mono (h : NRow w base A c xs) {b : Nat} (hb : b ≤ base) : NRow w b A c xs := by
  obtain ⟨hl, hn | ⟨g, cap, cur, hv, hg, rest⟩⟩ := h
  · exact ⟨hl, .inl hn⟩
  · exact ⟨hl, .inr ⟨g, cap, cur, hv, by omega, rest⟩⟩
theorem NRow.sl (h : NRow w base A c xs) : Sl 1 w A xs.length c (ints .i64 xs) := Sl.of_own h
theorem NRow.nums (h : NRow w base A c xs) : Nums w A xs := nums_of_sl h.sl
theorem NRow.cap_le (h : NRow w base A c xs) {n : Nat} (hn : xs.length = n) : n ≤ c := by
  subst hn
  obtain ⟨hl, ⟨hv, hz⟩ | ⟨g, cap, cur, hv, hb, hh, hc, hm, _⟩⟩ := h
  · omega
  · injection hv with e1 e2 e3
    omega
theorem NRow.slAt (h : NRow w base A c xs) {n : Nat} (hn : xs.length = n) : Sl 1 w A n c (ints .i64 xs) := by
  subst hn
  exact h.sl
end
theorem int_info : (Try.prog.info? 3).map (fun i => (i.zero, i.size, i.bytes)) = some (some (.int .i64 0), 1, 8) := by kernel_rfl
theorem nrow_new (w : World) (ys : List Int) {k : Nat} (hk : ys.length = k) (hm : k ≤ 1000000) : NRow (w.alloc (.cells (ints .i64 ys).toArray 3)) w.heap.size (some ⟨w.heap.size, 0, none⟩) k ys := by
  subst hk
  exact own_new w 3 1 ys.length (ints .i64 ys).toArray (by simp [ints]) (by simp only [maxLen]; omega)
end Go.Proofs.Ytgfomfioagblfaa

namespace Go.Proofs.Ytgfomfioagblfaa
open Go.RowKit
set_option linter.unusedVariables false

theorem size_neg (n : Int) (w : World) (h : n < 0) :
    Calls Try.prog 26 #[.int .i64 n] w fun e w' => e = .returned (.int .i64 0) ∧ w = w' := by
  go_enter Try.func26, Try.ntmps26
  go_wp2
  go_ret
  exact ⟨rfl, rfl⟩
theorem digs_step {m : Nat} (h : 0 < m) : (digs m).length = (digs (m / 256)).length + 1 := by
  rw [digs_pos h, List.length_append]
  rfl
theorem size_nat (n : Nat) (w : World) (h : n < 9223372036854775808) :
    Calls Try.prog 26 #[.int .i64 n] w fun e w' => e = .returned (.int .i64 ((digs n).length + 1 : Nat)) ∧ w = w' := by
  have h8 := digs_eight h
  generalize hd : (digs n).length = d at *
  have HD := Lib.hid hd
  clear hd
  go_enter Try.func26, Try.ntmps26
  go_wp2
  go_loop [0, 3] (fun a s => ∃ m k : Nat, m ≤ n ∧ a = .int .i64 m ∧ s = .int .i64 k ∧ k ≤ d + 1 ∧ Hid (k + (digs m).length = d + 1)) (fun a _ => (intOf a).toNat)
  case atStart => exact ⟨n, 1, by omega, rfl, rfl, by omega, by rw [HD.out]; exact Nat.add_comm _ _⟩
  case round =>
    obtain ⟨m, k, hm, rfl, rfl, hk, hs⟩ := hrel
    by_cases h0 : m = 0
    · subst h0
      have e := hs.out
      rw [digs_zero] at e
      go_wp2
      go_ret
      exact ⟨ret_one (by simp at e; omega), rfl⟩
    · have hp : 0 < (m : Int) := by omega
      have e := hs.out
      rw [digs_step (by omega)] at e
      have hk' : k ≤ d := by omega
      have HE := Lib.hid e
      clear e
      go_wp2
      go_round
      case rel => exact ⟨m / 256, k + 1, by omega, by go_num, by go_num, by omega, Lib.hid (by have := HE.out; omega)⟩
      case measure => simp [intOf]; omega

/-- 'bytes.Clone'. -/
theorem clone_any (A : Option Addr) (m c : Nat) (l : List (BitVec 8)) (w : World) (h : Sl 1 w A m c (bytesV l)) (hm : m ≤ 100000000000000) :
    Calls Try.prog 27 #[.slice A m c] w fun e w' => ∃ A' c', e = .returned (.slice A' m c') ∧ BRow w' w.heap.size A' c' l ∧ Below w.heap.size w w' := by
  have qT : ∀ (w : World) (a : Option Addr) (n c n' c' : Nat), (binOp .eql 34 (.slice a n c) (.slice none n' c')).run Try.prog w = .ok (.bool a.isNone) w := fun w a n c n' c' => Lib.run_eql_slice_nil w _ _ a n c n' c' Try.underlying34
  have hl := h.blen
  subst hl
  cases A with
  | none =>
    obtain rfl : l = [] := by
      have := byts_of_sl h
      cases l with
      | nil => rfl
      | cons x r => obtain ⟨b, off, e, _⟩ := this 0 (by simp); cases e
    go_enter Try.func27, Try.ntmps27
    go_wp2
    go_ret
    exact ⟨none, 0, rfl, BRow.nil _ _, Below.refl _ _⟩
  | some ad =>
    have ho : BRow (w.alloc (.cells #[] 5)) w.heap.size (some ⟨w.heap.size, 0, none⟩) 0 [] := own_new w 5 1 0 #[] rfl (by decide)
    obtain ⟨A', c', w', hr, hrow, hb, _⟩ := brow_append ho (h.alloc _) (by simpa using hm) (by simp)
    rw [List.nil_append] at hrow
    simp only [List.length_nil, Nat.zero_add] at hr
    have HR := Lib.hid hr
    have hb' := hb w (Nat.le_refl _) (bel_alloc (Below.refl _ _) _)
    clear hr hb h ho
    go_enter Try.func27, Try.ntmps27
    go_wp2_with (at_builtin; refine wpList_append_run HR.out rfl rfl rfl rfl ?_)
    go_ret
    exact ⟨A', c', rfl, hrow, hb'⟩
end Go.Proofs.Ytgfomfioagblfaa

namespace Go.Proofs.Ytgfomfioagblfaa
open Go.RowKit
set_option linter.unusedVariables false

theorem digs_get (n : Nat) : ∀ j, j < (digs n).length → (digs n).getD j 0 = n / 2 ^ (8 * ((digs n).length - 1 - j)) % 256 := by
  induction n using Nat.strongRecOn with
  | _ n ih =>
    intro j hj
    rcases Nat.eq_zero_or_pos n with rfl | h
    · rw [digs_zero] at hj; simp at hj
    · rw [digs_step h] at hj ⊢
      rw [digs_pos h]
      rcases Nat.lt_or_ge j (digs (n / 256)).length with q | q
      · have e := ih (n / 256) (by omega) j q
        have e1 : (digs (n / 256) ++ [n % 256]).getD j 0 = (digs (n / 256)).getD j 0 := by
          simp [List.getD, List.getElem?_append_left q]
        rw [e1, e, Nat.div_div_eq_div_mul]
        congr 2
        have e2 : 8 * ((digs (n / 256)).length + 1 - 1 - j) = 8 + 8 * ((digs (n / 256)).length - 1 - j) := by omega
        rw [e2, Nat.pow_add]
      · obtain rfl : j = (digs (n / 256)).length := by omega
        simp [List.getD]
/-- The bytes of a number, up to one. -/
def oneTo (n j : Nat) : List (BitVec 8) := BitVec.ofNat 8 (digs n).length :: bytN ((digs n).take j)
theorem oneTo_zero (n : Nat) : oneTo n 0 = [BitVec.ofNat 8 (digs n).length] := rfl
theorem oneTo_all (n : Nat) : oneTo n (digs n).length = oneB n := by unfold oneTo oneB; rw [List.take_length]
theorem oneTo_succ (n j k : Nat) (hj : j < (digs n).length) (hk : (digs n).length - 1 - j = k) : oneTo n (j + 1) = oneTo n j ++ [BitVec.ofNat 8 (n / 2 ^ (8 * k))] := by
  subst hk
  unfold oneTo
  rw [List.take_succ_eq_append_getElem hj, bytN, bytN, List.map_append, List.cons_append]
  congr 2
  have e := digs_get n j hj
  have e1 : (digs n).getD j 0 = (digs n)[j] := by simp [List.getD, hj]
  rw [e1] at e
  simp only [List.map_cons, List.map_nil]
  rw [e]
  congr 1
  apply BitVec.eq_of_toNat_eq
  simp
theorem oneTo_len (n j : Nat) (hj : j ≤ (digs n).length) : (oneTo n j).length = j + 1 := by
  simp [oneTo, bytN_len, List.length_take]
  omega

set_option maxHeartbeats 400000 in
theorem behind_any (A : Option Addr) (m c : Nat) (xs : List (BitVec 8)) (n base : Nat) (w : World) (hx : BRow w base A c xs) (hm : xs.length = m) (hml : m ≤ 10000000000000) (hn : n < 9223372036854775808) (hbase : base ≤ w.heap.size) :
    Calls Try.prog 33 #[.slice A m c, .int .i64 n] w fun e w' => ∃ A' c', e = .returned (.slice A' (m + (oneB n).length) c') ∧ BRow w' base A' c' (xs ++ oneB n) ∧ (∀ a : World, a.heap.size ≤ base → Below a.heap.size a w → Below a.heap.size a w') ∧ w.heap.size ≤ w'.heap.size := by
  have h8 := digs_eight hn
  have HO := Lib.hid (oneTo_succ n)
  have HL := Lib.hid (oneTo_len n)
  have HA := Lib.hid (oneTo_all n)
  have HZ := Lib.hid (oneTo_zero n)
  rw [one_len]
  have hs := fun w => size_nat n w hn
  generalize hd : (digs n).length = d at *
  have HS := Lib.hid hs
  have HX := Lib.hid hx
  clear hs hx
  go_enter Try.func33, Try.ntmps33
  go_wp2_with fail
  refine (HS.out _).mono ?_
  rintro e w1 ⟨rfl, rfl⟩
  subst hm
  obtain ⟨A1, c1, w1, hr1, hrow1, hbel1, hz1⟩ := brow_push HX.out (BitVec.ofNat 8 d) (by omega) hbase (s := w.heap.size) rfl
  have e8 : ((BitVec.ofNat 8 d).toNat : Int) = d := by rw [BitVec.toNat_ofNat]; omega
  rw [v8, e8] at hr1
  have HR1 := Lib.hid hr1
  have HB1 := Lib.hid hbel1
  clear hr1 hbel1
  go_wp2_with (at_builtin; refine wpList_append_run (o := ⟨some 14, _, _, _, _, _⟩) HR1.out rfl rfl rfl rfl ?_)
  go_loopw [0, 6] (fun b i wr => ∃ (j : Nat) (A : Option Addr) (c : Nat) (D : List (BitVec 8)), j ≤ d ∧ i = .int .i64 ((d : Int) - 1 - j) ∧ b = .slice A (xs.length + (j + 1)) c ∧ D.length = xs.length + (j + 1) ∧ Hid (D = xs ++ oneTo n j) ∧ BRow wr base A c D ∧ Hid (∀ v : World, v.heap.size ≤ base → Below v.heap.size v w → Below v.heap.size v wr) ∧ w.heap.size ≤ wr.heap.size) (fun _ i _ => (intOf i + 1).toNat)
  case atStart => exact ⟨0, A1, c1, xs ++ [BitVec.ofNat 8 d], by omega, by go_num, rfl, by simp, by rw [HZ.out]; rfl, hrow1, HB1, hz1⟩
  case round =>
    clear HB1 hrow1 HR1 HZ e8 hz1
    obtain ⟨j, A2, c2, D, hj, rfl, rfl, hDl, hD, hrow, HB, hz⟩ := hrel
    by_cases hlt : j < d
    · obtain ⟨k, hk⟩ : ∃ k : Nat, (d : Int) - 1 - j = (k : Int) := ⟨d - 1 - j, by omega⟩
      have hk7 : k ≤ 7 := by omega
      have HS' := Lib.hid (HO.out j k hlt (by omega))
      obtain ⟨A3, c3, w3, hr3, hrow3, hbel3, hz3⟩ := brow_push hrow (BitVec.ofNat 8 (n / 2 ^ (8 * k))) (by omega) (by omega) (s := wr.heap.size) rfl
      have e8 : ((BitVec.ofNat 8 (n / 2 ^ (8 * k))).toNat : Int) = (n : Int) / (2 ^ (8 * k) : Nat) % 256 := by rw [BitVec.toNat_ofNat]; omega
      rw [v8, e8, hDl] at hr3
      have HR3 := Lib.hid hr3
      have HB3 := Lib.hid hbel3
      clear hr3 hbel3 e8
      rw [hk]
      go_wp2_with (at_builtin; refine wpList_append_run (o := ⟨some 28, _, _, _, _, _⟩) HR3.out rfl rfl rfl rfl ?_)
      go_roundw
      case rel => exact ⟨j + 1, A3, c3, D ++ [BitVec.ofNat 8 (n / 2 ^ (8 * k))], by omega, by go_num, rfl, by rw [List.length_append, hDl]; rfl, Lib.hid (by rw [HS'.out, hD.out, List.append_assoc]), hrow3, Lib.hid (fun v hv hb => HB3.out v hv (HB.out v hv hb)), by omega⟩
      case measure => simp [intOf]
    · obtain rfl : j = d := by omega
      have hDe := hD.out
      rw [HA.out] at hDe
      subst hDe
      go_wp2
      go_ret
      exact ⟨A2, c2, rfl, hrow, HB.out, hz⟩
end Go.Proofs.Ytgfomfioagblfaa

namespace Go.Proofs.Ytgfomfioagblfaa
open Go.RowKit
set_option linter.unusedVariables false

theorem brow_make (w : World) (n : Nat) (hn : n ≤ 100000000000000) :
    ∃ w', (Instr.makeSlice 34 (.int .i64 0) (.int .i64 (n : Int))).run Try.prog w = .ok (.slice (some ⟨w.heap.size, 0, none⟩) 0 n) w' ∧ BRow w' w.heap.size (some ⟨w.heap.size, 0, none⟩) n [] ∧ Below w.heap.size w w' ∧ w.heap.size ≤ w'.heap.size := by
  obtain ⟨i, hi, hz, hsize, hby⟩ := info_parts u8_info
  obtain ⟨w', h1, h2, h3⟩ := run_make_own (P := Try.prog) w w.heap.size 34 5 i _ 1 Try.underlying34 hi hz hsize .i64 .i64 n (by rw [hby]; omega) (by unfold maxLen; omega) (Nat.le_refl _)
  exact ⟨w', h1, h2, (Below.refl _ _).grown h3 (Nat.le_refl _) (fun k hk => by cases hk), h3.size⟩
/-- A copy with room. -/
theorem brow_room (w : World) (n : Nat) (hn : n ≤ 100000000000000) {B : Option Addr} {m d : Nat} {ys : List (BitVec 8)} (hs : Sl 1 w B m d (bytesV ys)) (hm : m ≤ 10000000000000) :
    ∃ w1 A' c' w', (Instr.makeSlice 34 (.int .i64 0) (.int .i64 (n : Int))).run Try.prog w = .ok (.slice (some ⟨w.heap.size, 0, none⟩) 0 n) w1 ∧
      (Builtin.append_ #[34, 34] 34 #[.slice (some ⟨w.heap.size, 0, none⟩) 0 n, .slice B m d]).run Try.prog w1 = .ok (.slice A' m c') w' ∧ BRow w' w.heap.size A' c' ys ∧ Below w.heap.size w w' ∧ w.heap.size ≤ w'.heap.size := by
  obtain ⟨w1, h1, h2, h3, h4⟩ := brow_make w n hn
  have hl := hs.blen
  subst hl
  obtain ⟨A', c', w', hr, hrow, hb, hg, _⟩ := brow_append h2 (hs.below h3) (by simp; omega) h4
  rw [List.nil_append] at hrow
  simp only [List.length_nil, Nat.zero_add] at hr
  exact ⟨w1, A', c', w', h1, hr, hrow, hb w (Nat.le_refl _) h3, by have := hg.size; omega⟩
theorem put_len_le (ns : List Nat) (h : ∀ n ∈ ns, n < 9223372036854775808) : (putB ns).length ≤ 9 * ns.length := by
  induction ns with
  | nil => simp [putB]
  | cons n r ih =>
    have h1 := ih (fun x hx => h x (by simp [hx]))
    have h2 := digs_eight (h n (by simp))
    have e : putB (n :: r) = oneB n ++ putB r := by simp [putB]
    rw [e, List.length_append, one_len, List.length_cons]
    omega
theorem put_snoc (ns : List Nat) (k : Nat) (h : k < ns.length) : putB (ns.take (k + 1)) = putB (ns.take k) ++ oneB (ns.getD k 0) := by
  rw [List.take_succ_eq_append_getElem h, putB, List.map_append, List.flatten_append]
  simp [putB, List.getD, h]
theorem size_at (n : Nat) (w : World) (h : n < 9223372036854775808) :
    Calls Try.prog 26 #[.int .i64 n] w fun e w' => e = .returned (.int .i64 ((oneB n).length : Nat)) ∧ w = w' := by
  rw [one_len]
  exact size_nat n w h

set_option maxHeartbeats 400000 in
theorem put_ok (A : Option Addr) (m c : Nat) (xs : List (BitVec 8)) (B : Option Addr) (k d : Nat) (ns : List Nat) (w : World) (hx : Sl 1 w A m c (bytesV xs)) (hB : Nums w B (ns.map fun n : Nat => (n : Int))) (hk : ns.length = k)
    (hns : ∀ n ∈ ns, n < 9223372036854775808) (hm : m ≤ 1000000000000) (hkl : k ≤ 1000000000000) :
    Calls Try.prog 20 #[.slice A m c, .slice B k d] w fun e w' => ∃ A' c', e = .returned (.tuple #[.slice A' (m + (putB ns).length) c', .int .i64 0]) ∧ BRow w' w.heap.size A' c' (xs ++ putB ns) ∧ Below w.heap.size w w' := by
  subst hk
  have hxl := hx.blen
  have hpl := put_len_le ns hns
  have HB := Lib.hid hB
  have HX := Lib.hid hx
  have HN := Lib.hid hns
  have HPL : Hid (∀ j, (putB (ns.take j)).length ≤ 9 * ns.length) := Lib.hid (fun j => by
    have := put_len_le (ns.take j) (fun n hn => hns n (List.mem_of_mem_take hn))
    rw [List.length_take] at this
    omega)
  have HSN := Lib.hid (put_snoc ns)
  clear hB hx hns
  go_enter Try.func20, Try.ntmps20
  go_wp2
  go_loop [6, 16] (fun r i => ∃ j q : Nat, j ≤ ns.length ∧ i = .int .i64 j ∧ r = .int .i64 q ∧ q ≤ m + 9 * ns.length ∧ Hid (q = m + (putB (ns.take j)).length)) (fun _ i => ns.length - (intOf i).toNat)
  case atStart => exact ⟨0, m, by omega, rfl, rfl, by omega, rfl⟩
  case round =>
    obtain ⟨j, q, hj, rfl, rfl, hq, hqe⟩ := hrel
    by_cases hlt : j < ns.length
    · obtain ⟨b, off, rfl, hc⟩ := HB.out j (by simpa using hlt)
      rw [getD_ints] at hc
      have hs := HSN.out j hlt
      have hl' := HPL.out (j + 1)
      have hn : ns.getD j 0 < 9223372036854775808 := HN.out _ (by simp [List.getD, hlt])
      have hq' : q + (oneB (ns.getD j 0)).length = m + (putB (ns.take (j + 1))).length := by rw [hs, List.length_append, hqe.out]; omega
      have hq9 : q + (oneB (ns.getD j 0)).length ≤ m + 9 * ns.length := by omega
      have HQ := Lib.hid hq'
      clear hs hq' hl'
      generalize ns.getD j 0 = n at *
      have HSZ := Lib.hid (size_at n · hn)
      generalize (oneB n).length = o at *
      go_wp2_with (go_at_call 26; refine (HSZ.out _).mono ?_; rintro e w' ⟨rfl, rfl⟩)
      go_round
      case rel => exact ⟨j + 1, q + o, by omega, by go_num, by go_num, by omega, HQ⟩
      case measure => simp [intOf]; omega
    · obtain rfl : j = ns.length := by omega
      obtain ⟨w1, A2, c2, w2, hr1, hr2, hrow2, hb2, hz2⟩ := brow_room w q (by omega) HX.out (by omega)
      have HR1 := Lib.hid hr1
      have HR2 := Lib.hid hr2
      have HW := Lib.hid hrow2
      have HM := Lib.hid hxl
      clear hr1 hr2 hrow2 hpl hxl
      go_wp2_with (first | (at_make; refine wpList_make_run HR1.out rfl rfl rfl rfl ?_) | (at_builtin; refine wpList_append_run (o := ⟨some 30, _, _, _, _, _⟩) HR2.out rfl rfl rfl rfl ?_))
      clear HR1 HR2
      go_loopw [9, 33] (fun b i wr => ∃ (j : Nat) (A : Option Addr) (c : Nat) (D : List (BitVec 8)) (L : Nat), j ≤ ns.length ∧ i = .int .i64 j ∧ b = .slice A L c ∧ D.length = L ∧ L ≤ m + 9 * ns.length ∧ Hid (D = xs ++ putB (ns.take j)) ∧ BRow wr w.heap.size A c D ∧ Below w.heap.size w wr) (fun _ i _ => ns.length - (intOf i).toNat)
      case atStart => exact ⟨0, A2, c2, xs, m, by omega, rfl, rfl, HM.out, by omega, by simp [putB]; trivial, HW.out, hb2⟩
      case round =>
        clear HW
        obtain ⟨j, A3, c3, D, L, hj, rfl, rfl, hDl, hL, hD, hrow, hb⟩ := hrel
        by_cases hlt : j < ns.length
        · obtain ⟨b, off, rfl, hc⟩ := (HB.out.below hb) j (by simpa using hlt)
          rw [getD_ints] at hc
          have hs := HSN.out j hlt
          have hl' := HPL.out (j + 1)
          have hn : ns.getD j 0 < 9223372036854775808 := HN.out _ (by simp [List.getD, hlt])
          have hD' : D ++ oneB (ns.getD j 0) = xs ++ putB (ns.take (j + 1)) := by rw [hs, hD.out, List.append_assoc]
          have hDl' : (D ++ oneB (ns.getD j 0)).length = L + (oneB (ns.getD j 0)).length := by rw [List.length_append, hDl]
          have hL' : L + (oneB (ns.getD j 0)).length ≤ m + 9 * ns.length := by rw [← hDl', hD', List.length_append, HM.out]; omega
          have HD' := Lib.hid hD'
          have HL' := Lib.hid hDl'
          clear hs hl' hD' hDl'
          generalize ns.getD j 0 = n at *
          go_wp2_with fail
          refine (behind_any A3 L c3 D n w.heap.size _ hrow hDl (by omega) hn hb.size).mono ?_
          rintro e w4 ⟨A4, c4, rfl, hrow4, hbel4, hz4⟩
          go_wp2
          go_roundw
          case rel => exact ⟨j + 1, A4, c4, D ++ oneB n, L + (oneB n).length, by omega, by go_num, rfl, HL'.out, hL', HD', hrow4, hbel4 w (Nat.le_refl _) hb⟩
          case measure => simp [intOf]; omega
        · obtain rfl : j = ns.length := by omega
          have hDe := hD.out
          rw [List.take_length] at hDe
          subst hDe
          rw [List.length_append, HM.out] at hDl
          subst hDl
          go_wp2
          go_ret2
          exact ⟨A3, c3, rfl, hrow, hb⟩
end Go.Proofs.Ytgfomfioagblfaa
