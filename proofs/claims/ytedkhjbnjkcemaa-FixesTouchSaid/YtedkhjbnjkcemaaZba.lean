/-
  Package fixes' order of keys, and the library's sort at keys.
-/
import Derived.Test.YtedkhjbnjkcemaaZau
import Derived.Test.YtedkhjbnjkcemaaZac
import Derived.Test.YtedkhjbnjkcemaaKyLay
import Derived.WalkKit
import Derived.Shelf.Abstract
import Derived.StillTailTactics
import Derived.Deep.Light
import Derived.Deep.RegionHeld3
import Derived.RegionTactic
import Derived.Sort.Grow
namespace Go.Proofs.Ytedkhjbnjkcemaa
open Go.RowKit
set_option linter.unusedVariables false
set_option linter.unusedSimpArgs false
set_option maxRecDepth 20000

instance : Inhabited KeyP := ⟨KeyP.none⟩
def toE (q : KeyP) : EvP := ⟨q.n, 0, q.k, 0, 0, 0, 0, 0, 0, 0, 0⟩
def cfK (a b : KeyP) : Int := cfE (toE a) (toE b)
theorem cfK_lt (a b : KeyP) : ltOf cfK a b = ltK a b := by
  unfold ltOf
  have := cf_less (toE a) (toE b)
  show decide (cfE (toE a) (toE b) < 0) = _
  rw [this]
  unfold lessE ltK toE
  first | rfl | (rw [Bool.eq_iff_iff]; simp)
theorem swo_cfK : Sort.SWO (ltOf cfK) where
  irrefl x := by rw [cfK_lt]; exact ltK_irr x
  trans x y z h1 h2 := by rw [cfK_lt] at *; exact ltK_trans h1 h2
  ntrans x y z h1 h2 := by
    rw [cfK_lt] at *
    simp only [ltK, decide_eq_false_iff_not] at *
    omega
theorem cfK_or (a b : KeyP) : orI (cmpI a.k b.k) (cmpI a.n b.n) = cfK a b := rfl
open Go.Sort in
set_option maxHeartbeats 1000000 in
theorem rise_any (a b : KeyP) (W : World) : Calls Try.prog 52 #[.agg (kyC a), .agg (kyC b)] W fun e w' => e = .returned (.int .i64 (cfK a b)) ∧ ∃ q os, w' = grow (W.drewN q) os := by
  have a0 : (kyC a)[1]? = some (.int .i64 a.n) := rfl
  have a2 : (kyC a)[0]? = some (.int .i64 a.k) := rfl
  have b0 : (kyC b)[1]? = some (.int .i64 b.n) := rfl
  have b2 : (kyC b)[0]? = some (.int .i64 b.k) := rfl
  have HF := Lib.hid (cfK_or a b)
  generalize kyC a = ca at *
  generalize kyC b = cb at *
  generalize cfK a b = cf at *
  generalize a.k = ta at *
  generalize b.k = tb at *
  generalize a.n = ia at *
  generalize b.n = ib at *
  go_enter Try.func52, Try.ntmps52
  go_wp2_with fail
  obtain ⟨w0, hw0⟩ : ∃ w0, w0 = (W.alloc (.cells ca 56)).alloc (.cells cb 56) := ⟨_, rfl⟩
  rw [← hw0]
  have HA : Hid (Has w0 W.heap.size ca) := by rw [hw0]; exact (Has.new W _ ca rfl).alloc _
  have HB : Hid (Has w0 (W.heap.size + 1) cb) := by rw [hw0]; exact Has.new _ _ _ (by simp)
  have HW0 := Lib.hid hw0
  clear hw0
  obtain ⟨ga, hga⟩ : ∃ ga, W.heap.size = ga := ⟨_, rfl⟩
  rw [hga] at HA HB ⊢
  clear hga
  obtain ⟨gb, hgb⟩ : ∃ gb, ga + 1 = gb := ⟨_, rfl⟩
  rw [hgb] at HB ⊢
  clear hgb
  refine wp_region_noPanic ?_
  refine wp_region_held_drew (S := fun w' => Below w0.heap.size w0 w') (by kernel_rfl) (below_drew (Below.refl _ _)) (fun hHeld => ?_)
  refine wpAnyH_take (i := 0) (oi := ⟨some 5, _, _, _, _, _⟩) (v := ?_) rfl (by kernel_rfl) (by kernel_rfl) (by kernel_rfl) (fun _ _ _ h => h) (Or.inl ⟨by rfl, ?_⟩) hHeld ?_
  rotate_left
  · intro ww hSw
    (try dsimp only at hSw)
    go_simp
    (try with_reducible rfl)
  simp only [Act.put, List.setIfInBounds_toArray, List.set_cons_zero, List.set_cons_succ]
  refine wpAnyH_take (i := 1) (oi := ⟨some 6, _, _, _, _, _⟩) (v := .int .i64 ta) rfl (by kernel_rfl) (by kernel_rfl) (by kernel_rfl) (fun _ _ _ h => h) (Or.inl ⟨by rfl, ?_⟩) hHeld ?_
  · intro ww hSw
    (try dsimp only at hSw)
    have hcc := (hSw.cell (p := ⟨ga, 0, none⟩) HA.out.size).trans (HA.out.cell 0 a2)
    have hcs := cell_lt hcc
    go_simp
  simp only [Act.put, List.setIfInBounds_toArray, List.set_cons_zero, List.set_cons_succ]
  refine wpAnyH_take (i := 2) (oi := ⟨some 7, _, _, _, _, _⟩) (v := ?_) rfl (by kernel_rfl) (by kernel_rfl) (by kernel_rfl) (fun _ _ _ h => h) (Or.inl ⟨by rfl, ?_⟩) hHeld ?_
  rotate_left
  · intro ww hSw
    (try dsimp only at hSw)
    go_simp
    (try with_reducible rfl)
  simp only [Act.put, List.setIfInBounds_toArray, List.set_cons_zero, List.set_cons_succ]
  refine wpAnyH_take (i := 3) (oi := ⟨some 8, _, _, _, _, _⟩) (v := .int .i64 tb) rfl (by kernel_rfl) (by kernel_rfl) (by kernel_rfl) (fun _ _ _ h => h) (Or.inl ⟨by rfl, ?_⟩) hHeld ?_
  · intro ww hSw
    (try dsimp only at hSw)
    have hcc := (hSw.cell (p := ⟨gb, 0, none⟩) HB.out.size).trans (HB.out.cell 0 b2)
    have hcs := cell_lt hcc
    go_simp
  simp only [Act.put, List.setIfInBounds_toArray, List.set_cons_zero, List.set_cons_succ]
  refine wpAnyH_take (i := 5) (oi := ⟨some 10, _, _, _, _, _⟩) (v := ?_) rfl (by kernel_rfl) (by kernel_rfl) (by kernel_rfl) (fun _ _ _ h => h) (Or.inl ⟨by rfl, ?_⟩) hHeld ?_
  rotate_left
  · intro ww hSw
    (try dsimp only at hSw)
    go_simp
    (try with_reducible rfl)
  simp only [Act.put, List.setIfInBounds_toArray, List.set_cons_zero, List.set_cons_succ]
  refine wpAnyH_take (i := 6) (oi := ⟨some 11, _, _, _, _, _⟩) (v := .int .i64 ia) rfl (by kernel_rfl) (by kernel_rfl) (by kernel_rfl) (fun _ _ _ h => h) (Or.inl ⟨by rfl, ?_⟩) hHeld ?_
  · intro ww hSw
    (try dsimp only at hSw)
    have hcc := (hSw.cell (p := ⟨ga, 1, none⟩) HA.out.size).trans (HA.out.cell 1 a0)
    have hcs := cell_lt hcc
    go_simp
  simp only [Act.put, List.setIfInBounds_toArray, List.set_cons_zero, List.set_cons_succ]
  refine wpAnyH_take (i := 7) (oi := ⟨some 12, _, _, _, _, _⟩) (v := ?_) rfl (by kernel_rfl) (by kernel_rfl) (by kernel_rfl) (fun _ _ _ h => h) (Or.inl ⟨by rfl, ?_⟩) hHeld ?_
  rotate_left
  · intro ww hSw
    (try dsimp only at hSw)
    go_simp
    (try with_reducible rfl)
  simp only [Act.put, List.setIfInBounds_toArray, List.set_cons_zero, List.set_cons_succ]
  refine wpAnyH_take (i := 8) (oi := ⟨some 13, _, _, _, _, _⟩) (v := .int .i64 ib) rfl (by kernel_rfl) (by kernel_rfl) (by kernel_rfl) (fun _ _ _ h => h) (Or.inl ⟨by rfl, ?_⟩) hHeld ?_
  · intro ww hSw
    (try dsimp only at hSw)
    have hcc := (hSw.cell (p := ⟨gb, 1, none⟩) HB.out.size).trans (HB.out.cell 1 b0)
    have hcs := cell_lt hcc
    go_simp
  simp only [Act.put, List.setIfInBounds_toArray, List.set_cons_zero, List.set_cons_succ]
  refine wpAnyH_ready (rs := [4]) (by kernel_rfl) (by simp) ?_
  refine AllReadyH.cons (o := ⟨some 9, _, _, _, _, _⟩) rfl (fun K hK => ?_) AllReadyH.nil
  go_simp
  go_at_call 54
  refine (compare_any _ _ _).mono ?_
  rintro e_r _ ⟨rfl, rfl⟩
  go_wp2_with fail
  refine hK.out _ _ ?_ (fun hHeld => ?_)
  · (try dsimp only)
    (repeat' (first | with_reducible exact Below.refl _ _ | with_reducible assumption | with_reducible refine bel_alloc ?_ _ | with_reducible refine bel_set ?_ ?_ _ | with_reducible refine below_drewN ?_ _ | with_reducible refine below_drew ?_ | (simp; done) | (simp; omega) | omega))
  clear hK K
  (try simp only [Act.put, List.setIfInBounds_toArray, List.set_cons_zero, List.set_cons_succ])
  refine wpAnyH_ready (rs := [9]) (by kernel_rfl) (by simp) ?_
  refine AllReadyH.cons (o := ⟨some 14, _, _, _, _, _⟩) rfl (fun K hK => ?_) AllReadyH.nil
  go_simp
  go_at_call 54
  refine (compare_any _ _ _).mono ?_
  rintro e_r _ ⟨rfl, rfl⟩
  go_wp2_with fail
  refine hK.out _ _ ?_ (fun hHeld => ?_)
  · (try dsimp only)
    (repeat' (first | with_reducible exact Below.refl _ _ | with_reducible assumption | with_reducible refine bel_alloc ?_ _ | with_reducible refine bel_set ?_ ?_ _ | with_reducible refine below_drewN ?_ _ | with_reducible refine below_drew ?_ | (simp; done) | (simp; omega) | omega))
  clear hK K
  (try simp only [Act.put, List.setIfInBounds_toArray, List.set_cons_zero, List.set_cons_succ])
  refine wpAnyH_ready (rs := [10]) (by kernel_rfl) (by simp) ?_
  refine AllReadyH.cons (o := ⟨some 15, _, _, _, _, _⟩) rfl (fun K hK => ?_) AllReadyH.nil
  go_simp
  refine hK.out _ _ ?_ (fun hHeld => ?_)
  · (try dsimp only)
    (repeat' (first | with_reducible exact Below.refl _ _ | with_reducible assumption | with_reducible refine bel_alloc ?_ _ | with_reducible refine bel_set ?_ ?_ _ | with_reducible refine below_drewN ?_ _ | with_reducible refine below_drew ?_ | (simp; done) | (simp; omega) | omega))
  clear hK K
  (try simp only [Act.put, List.setIfInBounds_toArray, List.set_cons_zero, List.set_cons_succ])
  refine wpAnyH_ready (rs := [11]) (by kernel_rfl) (by simp) ?_
  refine AllReadyH.cons (o := ⟨some 16, _, _, _, _, _⟩) rfl (fun K hK => ?_) AllReadyH.nil
  go_simp
  go_at_call 53
  refine (or_any w0.heap.size _ _ _ (Has.new w0 _ _ rfl).drew).mono ?_
  rintro e_r _ ⟨rfl, rfl⟩
  go_wp2_with fail
  refine hK.out _ _ ?_ (fun hHeld => ?_)
  · (try dsimp only)
    (repeat' (first | with_reducible exact Below.refl _ _ | with_reducible assumption | with_reducible refine bel_alloc ?_ _ | with_reducible refine bel_set ?_ ?_ _ | with_reducible refine below_drewN ?_ _ | with_reducible refine below_drew ?_ | (simp; done) | (simp; omega) | omega))
  clear hK K
  (try simp only [Act.put, List.setIfInBounds_toArray, List.set_cons_zero, List.set_cons_succ])
  refine wpAnyH_take (i := 12) (oi := ⟨some 4, _, _, _, _, _⟩) (v := ?_) rfl (by kernel_rfl) (by kernel_rfl) (by kernel_rfl) (fun _ _ _ h => h) (Or.inl ⟨by rfl, ?_⟩) hHeld ?_
  rotate_left
  · intro ww hSw
    (try dsimp only at hSw)
    go_simp
    (try with_reducible rfl)
  simp only [Act.put, List.setIfInBounds_toArray, List.set_cons_zero, List.set_cons_succ]
  refine wpAnyH_done (by kernel_rfl) ?_ _
  refine NoPanic.normal ?_
  go_wp2
  go_ret
  refine ⟨ret_one HF.out, 1, #[.cells ca 56, .cells cb 56, .cells #[.int .i64 (cmpI ta tb), .int .i64 (cmpI ia ib)] 3], ?_⟩
  rw [HW0.out, alloc_eq_grow, alloc_eq_grow, alloc_eq_grow, grow_grow, grow_grow, drew_grow]
  rfl

def encK (q : KeyP) : List Value := [.int .i64 q.k, .int .i64 q.n]
theorem encK_arr (q : KeyP) : (encK q).toArray = kyC q := rfl
theorem below_sortK {a w : World} {blk off n : Nat} {d : Array KeyP} {os : Array Obj} (h : Below a.heap.size a w) (hb : a.heap.size ≤ blk) : Below a.heap.size a (sortWorldK encK 2 w blk off n d os) := by
  refine ⟨h.os, h.tape, h.output, Nat.le_trans h.size (size_sortWorldK_c encK 2 w blk off n d os), fun k hk => ?_⟩
  have hs := h.size
  rw [← h.block k hk]
  show (Sort.grow _ os).heap[k]? = _
  rw [Sort.heap_grow_old _ _ (by rw [show (Sort.putRowK encK 2 (Sort.ahead w n) blk off d).heap.size = w.heap.size by simp [Sort.putRowK, Sort.putRow, Sort.mapBlock, Sort.ahead]]; omega)]
  show (w.heap.modify blk _)[k]? = _
  rw [Array.getElem?_modify, if_neg (by omega)]
theorem kys_holds {w : World} {blk c : Nat} {d : Array KeyP} (h : Sort.HoldsK encK 2 w blk 0 d) : Kys w (some ⟨blk, 0, none⟩) d.size c d.toList := by
  have hl := ky_len d.toList
  refine ⟨⟨by rw [ints, List.length_map, hl]; simp, .inr ⟨_, rfl, fun j u hu => ?_⟩⟩, by simp⟩
  have hj : j < d.size * 2 := by
    have h2 := (List.getElem?_eq_some_iff.1 hu).1
    rw [ints, List.length_map, hl] at h2
    simpa using h2
  have hi : j / 2 < d.size := by omega
  obtain ⟨k1, k2⟩ := ky_at d.toList (j / 2) (by simpa using hi)
  have e1 : d.toList.getD (j / 2) KeyP.none = d[j / 2]! := by simp [List.getD, hi, getElem!_pos]
  rw [e1] at k1 k2
  have ea : ∀ j, ((⟨blk, 0, none⟩ : Addr).add j) = ⟨blk, j, none⟩ := fun j => by unfold Addr.add; split <;> simp_all
  rw [ea]
  rcases Nat.mod_two_eq_zero_or_one j with m | m
  · have := (h.cell (c := 0) hi (by omega)).1
    rw [show j / 2 * 2 = j by omega] at k1
    rw [hu] at k1
    rw [k1]
    simpa [encK, show 0 + (j / 2 * 2 + 0) = j by omega, show j / 2 * 2 = j by omega] using this
  · have := (h.cell (c := 1) hi (by omega)).1
    rw [show j / 2 * 2 + 1 = j by omega] at k2
    rw [hu] at k2
    rw [k2]
    simpa [encK, show 0 + (j / 2 * 2 + 1) = j by omega, show j / 2 * 2 + 1 = j by omega] using this
theorem krow_holds {w : World} {base g n c : Nat} {l : List KeyP} (h : KRow w base (some ⟨g, 0, none⟩) n c l) (hn : l.length = n) : Sort.HoldsK encK 2 w g 0 l.toArray := by
  intro j hj
  rw [Sort.size_flatK] at hj
  rw [Sort.get_flatK _ _ _ _ hj]
  have hj' : j < l.length * 2 := by simpa using hj
  have hi : j / 2 < l.length := by omega
  obtain ⟨k1, k2⟩ := ky_at l (j / 2) hi
  have hc := World.ownsRow.cellAt h j (by rw [← hn]; exact hj')
  refine ⟨?_, by rw [Nat.zero_add]; exact World.ownsRow.frozenAt h j⟩
  rw [Nat.zero_add]
  have e1 : l.getD (j / 2) KeyP.none = l[j / 2] := by simp [List.getD, hi]
  rw [e1] at k1 k2
  rw [hc]
  rcases Nat.mod_two_eq_zero_or_one j with m | m
  · rw [show j / 2 * 2 = j by omega] at k1
    rw [k1, m]
    simp [encK, hi, getElem!_pos]
  · rw [show j / 2 * 2 + 1 = j by omega] at k2
    rw [k2, m]
    simp [encK, hi, getElem!_pos]
theorem sortk_some (g c n base : Nat) (l : List KeyP) (w : World) (h : KRow w base (some ⟨g, 0, none⟩) n c l) (hn : l.length = n) (hl : n ≤ 1000000) :
    Calls Try.prog 51 #[.slice (some ⟨g, 0, none⟩) n c, .func (.func 52) #[] #[]] w fun e w' => e = .returned (.tuple #[]) ∧ ∃ ys : List KeyP, ys.Perm l ∧ ys.Pairwise (fun x y => ltK y x = false) ∧ Kys w' (some ⟨g, 0, none⟩) n c ys ∧ (∀ v : World, v.heap.size ≤ base → Below v.heap.size v w → Below v.heap.size v w') := by
  subst hn
  have eg : ∀ args w, (callFunc 52 args).run Try.prog w = .ok (.enter 52 args) w := enters_of Try.func52 (by kernel_rfl) rfl
  have hb : base ≤ g ∧ g < w.heap.size := h.lt _ rfl
  have hH := krow_holds h rfl
  have hcon := AnyQ.slices_SortFunc Try.sortKy 2 Try.isAgg56 Try.sizeOf56 encK (fun _ => rfl) (fun x v hv => by simp [encK] at hv; rcases hv with rfl | rfl <;> rfl) cfK swo_cfK 52 #[] g 0 c l.toArray w eg (fun _ _ _ _ x y => rise_any x y _) hH hb.2 (by simp; omega)
  change Calls Try.prog 51 _ _ _ at hcon
  simp only [List.size_toArray] at hcon
  refine hcon.mono ?_
  rintro e w' ⟨rfl, d, n, os, hp, hs, rfl⟩
  obtain ⟨p1, p2, p3⟩ := hp
  have hsz : d.size = l.length := by simpa using p1
  have hperm : d.toList.Perm l := by
    have e1 : d.extract 0 l.length = d := by rw [← hsz]; simp
    have e2 : l.toArray.extract 0 l.length = l.toArray := by simp
    rw [e1, e2] at p3
    exact p3
  refine ⟨rfl, d.toList, hperm, ?_, ?_, fun v hv hbv => below_sortK hbv (by omega)⟩
  · rw [List.pairwise_iff_getElem]
    intro i j hi hj hij
    have hi' : i < d.size := by simpa using hi
    have hj' : j < d.size := by simpa using hj
    have := hs i j (Nat.zero_le _) hij (by omega)
    rw [cfK_lt, getElem!_pos d j hj', getElem!_pos d i hi'] at this
    simpa using this
  · have := kys_holds (c := c) (holdsK_sortWorldK_c encK 2 w g 0 l.toArray d n os hH hb.2 (by simpa using hsz))
    rwa [hsz] at this
theorem len_zerok (w : World) : Calls Try.prog 75 #[.int .u64 0] w fun e w' => e = .returned (.int .i64 0) ∧ w = w' := by
  have h := Any.bits_Len (SlLaysF0.n15.bits (P := Try.prog) (ρ := Try.sortKy_ren) { Try.sortKy with }) 0 w (by omega) (by omega)
  change Calls Try.prog 75 _ _ _ at h
  refine h.mono ?_
  rintro e w' ⟨rfl, rfl⟩
  exact ⟨rfl, rfl⟩
set_option maxHeartbeats 2000000 in
theorem insk_none (p : Option Addr) (cap : Nat) (fv : Value) (w : World) :
    Calls Try.prog 94 #[.slice p 0 cap, .int .i64 0, .int .i64 0, fv] w fun e w' => e = .returned (.tuple #[]) ∧ w = w' := by
  go_enter Try.func94, Try.ntmps94
  go_wp2
  refine wp_loop_rounds 1 ?_
  rw [rounds_succ]
  go_wp2
  go_end0
  exact ⟨rfl, rfl⟩
set_option maxHeartbeats 2000000 in
theorem pdqk_none (p : Option Addr) (cap : Nat) (lim : Int) (fv : Value) (w : World) :
    Calls Try.prog 74 #[.slice p 0 cap, .int .i64 0, .int .i64 0, .int .i64 lim, fv] w fun e w' => e = .returned (.tuple #[]) ∧ w = w' := by
  go_enter Try.func74, Try.ntmps74
  go_wp2
  refine wp_loop_rounds 1 ?_
  rw [rounds_succ]
  go_wp2_with (go_at_call 94; refine (insk_none p cap fv _).mono ?_; rintro e w' ⟨rfl, rfl⟩)
  (try simp only [Exit.inBlock, Exit.then]); refine bodyPost_ret (results_none rfl _ _ _) rfl ?_
  exact ⟨rfl, rfl⟩
theorem sortk_none (p : Option Addr) (cap : Nat) (fv : Value) (w : World) :
    Calls Try.prog 51 #[.slice p 0 cap, fv] w fun e w' => e = .returned (.tuple #[]) ∧ w = w' := by
  go_enter Try.func51, Try.ntmps51
  go_wp2_with (first | (go_at_call 75; refine (len_zerok _).mono ?_; rintro e w' ⟨rfl, rfl⟩) | (go_at_call 74; refine (pdqk_none p cap _ fv _).mono ?_; rintro e w' ⟨rfl, rfl⟩))
  go_end0
  exact ⟨rfl, rfl⟩

/-- slices.SortFunc, at every slice of keys of the call's own. -/
theorem sortk_any (A : Option Addr) (c n base : Nat) (l : List KeyP) (w : World) (h : KRow w base A n c l) (hn : l.length = n) (hl : n ≤ 1000000) :
    Calls Try.prog 51 #[.slice A n c, .func (.func 52) #[] #[]] w fun e w' => e = .returned (.tuple #[]) ∧ ∃ ys : List KeyP, ys.Perm l ∧ ys.Pairwise (fun x y => ltK y x = false) ∧ Kys w' A n c ys ∧ (∀ v : World, v.heap.size ≤ base → Below v.heap.size v w → Below v.heap.size v w') := by
  have h0 := h
  obtain ⟨hl', ⟨hv, hz⟩ | ⟨g, cap, cur, hv, hbg, hh, _⟩⟩ := h
  · injection hv with e1 e2 e3
    subst e1 e2 e3
    obtain rfl : l = [] := List.eq_nil_of_length_eq_zero hn
    refine (sortk_none none 0 _ w).mono ?_
    rintro e w' ⟨rfl, rfl⟩
    exact ⟨rfl, [], List.Perm.nil, List.Pairwise.nil, ⟨Sl.nil_, rfl⟩, fun _ _ h => h⟩
  · injection hv with e1 e2 e3
    subst e1
    exact sortk_some g c n base l w h0 hn hl
end Go.Proofs.Ytedkhjbnjkcemaa
