/-
  Package split's order of parts, and the library's sort at parts.
-/
import Derived.Test.YtdlimgpmmkcgmaaGreatZbg
import Derived.Test.YtdlimgpmmkcgmaaGreatZaq
import Derived.Test.YtdlimgpmmkcgmaaGreatPaLay
namespace Go.Proofs.YtdlimgpmmkcgmaaGreat
open Go.RowKit
set_option linter.unusedVariables false
set_option linter.unusedSimpArgs false
set_option maxRecDepth 20000

def cmpP (x y : PartP) : Int := if x.1 < y.1 then -1 else if y.1 < x.1 then 1 else 0
def encP (x : PartP) : List Value := [.int .i64 x.1, .int .i64 x.2.1, .int .i64 x.2.2]
theorem prise_any (x y : PartP) (w : World) : Calls Tryz.prog 29 #[.agg (pC x), .agg (pC y)] w fun e w' => e = .returned (.int .i64 (cmpP x y)) ∧ ∃ q os', w' = Sort.grow (w.drewN q) os' := by
  have hcon := fun W' => cmp_any x.1 y.1 W'
  unfold cmpP pC
  generalize (if x.1 < y.1 then (-1 : Int) else if y.1 < x.1 then 1 else 0) = r at hcon ⊢
  go_enter Tryz.func29, Tryz.ntmps29
  go_wp2_with (go_at_call 30; refine (hcon _).mono ?_; rintro e w' ⟨rfl, rfl⟩)
  go_ret
  exact ⟨rfl, 0, _, by rw [Sort.alloc_eq_grow, Sort.alloc_eq_grow, Sort.grow_grow]; rfl⟩
theorem lt_cmpP (x y : PartP) : ltOf cmpP x y = decide (x.1 < y.1) := by
  unfold ltOf cmpP
  by_cases h1 : x.1 < y.1
  · simp [h1]
  · by_cases h2 : y.1 < x.1 <;> simp [h1, h2]
theorem swo_cmpP : Sort.SWO (ltOf cmpP) where
  irrefl x := by rw [lt_cmpP]; simp
  trans x y z h1 h2 := by rw [lt_cmpP] at *; simp at *; omega
  ntrans x y z h1 h2 := by rw [lt_cmpP] at *; simp at *; omega
theorem kept_sortP {w : World} {blk off n : Nat} {d : Array PartP} {os : Array Obj} : Kept (fun b => b < w.heap.size ∧ b ≠ blk) w (sortWorldK encP 3 w blk off n d os) := by
  refine ⟨rfl, rfl, rfl, size_sortWorldK_c encP 3 w blk off n d os, fun k hk => ?_⟩
  show (Sort.grow _ os).heap[k]? = _
  rw [Sort.heap_grow_old _ _ (by rw [show (Sort.putRowK encP 3 (Sort.ahead w n) blk off d).heap.size = w.heap.size by simp [Sort.putRowK, Sort.putRow, Sort.mapBlock, Sort.ahead]]; exact hk.1)]
  show (w.heap.modify blk _)[k]? = _
  rw [Array.getElem?_modify, if_neg (fun e => hk.2 e.symm)]
theorem flatP_at : ∀ (l : List PartP) (i : Nat), i < l.length → ∀ j, j < 3 → (ints .i64 (l.map partL).flatten)[i * 3 + j]? = (encP (l.getD i PartP.nil))[j]?
  | [], i, h, _, _ => by simp at h
  | x :: l, 0, _, j, hj => by
    have : j = 0 ∨ j = 1 ∨ j = 2 := by omega
    rcases this with rfl | rfl | rfl <;> simp [ints, partL, encP]
  | x :: l, i + 1, h, j, hj => by
    have := flatP_at l i (by simpa using h) j hj
    rw [show (i + 1) * 3 + j = i * 3 + j + 3 by omega]
    simpa [ints, partL] using this
theorem prts_holds {w : World} {blk c : Nat} {d : Array PartP} (h : Sort.HoldsK encP 3 w blk 0 d) : Prts w (some ⟨blk, 0, none⟩) d.size c d.toList := by
  have hl := prts_len (l := d.toList)
  refine ⟨⟨by rw [hl]; simp, .inr ⟨_, rfl, fun j u hu => ?_⟩⟩, by simp⟩
  have hj : j < d.size * 3 := by
    have h2 := (List.getElem?_eq_some_iff.1 hu).1
    rw [hl] at h2
    simpa using h2
  have hi : j / 3 < d.size := by omega
  have k1 := flatP_at d.toList (j / 3) (by simpa using hi) (j % 3) (by omega)
  have e1 : d.toList.getD (j / 3) PartP.nil = d[j / 3]! := by simp [List.getD, hi, getElem!_pos]
  rw [e1, show j / 3 * 3 + j % 3 = j by omega, hu] at k1
  have ea : ∀ j, ((⟨blk, 0, none⟩ : Addr).add j) = ⟨blk, j, none⟩ := fun j => by unfold Addr.add; split <;> simp_all
  rw [ea]
  have := (h.cell (c := j % 3) hi (by omega)).1
  rw [show 0 + j / 3 * 3 + j % 3 = j by omega] at this
  rw [this]
  have h3 : j % 3 = 0 ∨ j % 3 = 1 ∨ j % 3 = 2 := by omega
  rcases h3 with q | q | q <;> rw [q] at k1 ⊢ <;> simp [encP] at k1 ⊢ <;> exact k1.symm
theorem qrow_holds {w : World} {base g n c : Nat} {l : List PartP} (h : QRow w base (some ⟨g, 0, none⟩) n c l) (hn : l.length = n) : Sort.HoldsK encP 3 w g 0 l.toArray := by
  intro j hj
  rw [Sort.size_flatK] at hj
  rw [Sort.get_flatK _ _ _ _ hj]
  have hj' : j < l.length * 3 := by simpa using hj
  have hi : j / 3 < l.length := by omega
  have k1 := flatP_at l (j / 3) hi (j % 3) (by omega)
  have hc := World.ownsRow.cellAt h j (by rw [← hn]; exact hj')
  refine ⟨?_, by rw [Nat.zero_add]; exact World.ownsRow.frozenAt h j⟩
  rw [Nat.zero_add]
  have e1 : l.getD (j / 3) PartP.nil = l[j / 3] := by simp [List.getD, hi]
  rw [e1, show j / 3 * 3 + j % 3 = j by omega] at k1
  rw [hc]
  have h3 : j % 3 = 0 ∨ j % 3 = 1 ∨ j % 3 = 2 := by omega
  rcases h3 with q | q | q <;> rw [q] at k1 ⊢ <;> rw [k1] <;> simp [encP, hi, getElem!_pos]
theorem psort_some (g c n base : Nat) (l : List PartP) (w : World) (h : QRow w base (some ⟨g, 0, none⟩) n c l) (hn : l.length = n) (hl : n ≤ 1000000000) :
    Calls Tryz.prog 28 #[.slice (some ⟨g, 0, none⟩) n c, .func (.func 29) #[] #[]] w fun e w' => e = .returned (.tuple #[]) ∧ ∃ ys : List PartP, ys.Perm l ∧ ys.Pairwise (fun x y => x.1 ≤ y.1) ∧ Prts w' (some ⟨g, 0, none⟩) n c ys ∧ Kept (fun b => b < w.heap.size ∧ ∀ x, some (⟨g, 0, none⟩ : Addr) = some x → x.block ≠ b) w w' := by
  subst hn
  have eg : ∀ args w, (callFunc 29 args).run Tryz.prog w = .ok (.enter 29 args) w := enters_of Tryz.func29 (by kernel_rfl) rfl
  have hb : base ≤ g ∧ g < w.heap.size := h.lt _ rfl
  have hH := qrow_holds h rfl
  have hcon := AnyQ.slices_SortFunc Tryz.sortPa 3 Tryz.isAgg42 Tryz.sizeOf42 encP (fun _ => rfl) (fun x v hv => by simp [encP] at hv; rcases hv with rfl | rfl | rfl <;> rfl) cmpP swo_cmpP 29 #[] g 0 c l.toArray w eg (fun _ _ _ _ x y => prise_any x y _) hH hb.2 (by simp; omega)
  change Calls Tryz.prog 28 _ _ _ at hcon
  simp only [List.size_toArray] at hcon
  refine hcon.mono ?_
  rintro e w' ⟨rfl, d, n, os, hp, hs, rfl⟩
  obtain ⟨p1, p2, p3⟩ := hp
  have hsz : d.size = l.length := by simpa using p1
  have hperm : d.toList.Perm l := by
    have e1 : d.extract 0 l.length = d := by rw [← hsz]; simp
    have e2 : l.toArray.extract 0 l.length = l.toArray := by simp
    rw [e1, e2] at p3
    exact p3
  refine ⟨rfl, d.toList, hperm, ?_, ?_, kept_sortP.less fun i hi => ⟨hi.1, fun e => hi.2 _ rfl e.symm⟩⟩
  · rw [List.pairwise_iff_getElem]
    intro i j hi hj hij
    have hi' : i < d.size := by simpa using hi
    have hj' : j < d.size := by simpa using hj
    have := hs i j (Nat.zero_le _) hij (by omega)
    rw [lt_cmpP, getElem!_pos d j hj', getElem!_pos d i hi'] at this
    simp at this
    simpa using this
  · have := prts_holds (c := c) (holdsK_sortWorldK_c encP 3 w g 0 l.toArray d n os hH hb.2 (by simpa using hsz))
    rwa [hsz] at this
set_option maxHeartbeats 2000000 in
theorem insp_none (p : Option Addr) (cap : Nat) (fv : Value) (w : World) :
    Calls Tryz.prog 107 #[.slice p 0 cap, .int .i64 0, .int .i64 0, fv] w fun e w' => e = .returned (.tuple #[]) ∧ w = w' := by
  go_enter Tryz.func107, Tryz.ntmps107
  go_wp2
  refine wp_loop_rounds 1 ?_
  rw [rounds_succ]
  go_wp2
  go_end0
  exact ⟨rfl, rfl⟩
set_option maxHeartbeats 2000000 in
theorem pdqp_none (p : Option Addr) (cap : Nat) (lim : Int) (fv : Value) (w : World) :
    Calls Tryz.prog 61 #[.slice p 0 cap, .int .i64 0, .int .i64 0, .int .i64 lim, fv] w fun e w' => e = .returned (.tuple #[]) ∧ w = w' := by
  go_enter Tryz.func61, Tryz.ntmps61
  go_wp2
  refine wp_loop_rounds 1 ?_
  rw [rounds_succ]
  go_wp2_with (go_at_call 107; refine (insp_none p cap fv _).mono ?_; rintro e w' ⟨rfl, rfl⟩)
  (try simp only [Exit.inBlock, Exit.then]); refine bodyPost_ret (results_none rfl _ _ _) rfl ?_
  exact ⟨rfl, rfl⟩
theorem psort_none (p : Option Addr) (cap : Nat) (fv : Value) (w : World) :
    Calls Tryz.prog 28 #[.slice p 0 cap, fv] w fun e w' => e = .returned (.tuple #[]) ∧ w = w' := by
  go_enter Tryz.func28, Tryz.ntmps28
  go_wp2_with (first | (go_at_call 62; refine (len_zero _).mono ?_; rintro e w' ⟨rfl, rfl⟩) | (go_at_call 61; refine (pdqp_none p cap _ fv _).mono ?_; rintro e w' ⟨rfl, rfl⟩))
  go_end0
  exact ⟨rfl, rfl⟩

/-- slices.SortFunc, at every slice of parts of the call's own. -/
theorem psort_any (A : Option Addr) (c n base : Nat) (l : List PartP) (w : World) (h : QRow w base A n c l) (hn : l.length = n) (hl : n ≤ 1000000000) :
    Calls Tryz.prog 28 #[.slice A n c, .func (.func 29) #[] #[]] w fun e w' => e = .returned (.tuple #[]) ∧ ∃ ys : List PartP, ys.Perm l ∧ ys.Pairwise (fun x y => x.1 ≤ y.1) ∧ Prts w' A n c ys ∧ Kept (fun b => b < w.heap.size ∧ ∀ x, A = some x → x.block ≠ b) w w' := by
  have h0 := h
  obtain ⟨hl', ⟨hv, hz⟩ | ⟨g, cap, cur, hv, hbg, hh, _⟩⟩ := h
  · injection hv with e1 e2 e3
    subst e1 e2 e3
    obtain rfl : l = [] := List.eq_nil_of_length_eq_zero hn
    refine (psort_none none 0 _ w).mono ?_
    rintro e w' ⟨rfl, rfl⟩
    exact ⟨rfl, [], List.Perm.nil, List.Pairwise.nil, ⟨⟨by simp [ints], .inl ⟨rfl, rfl, rfl⟩⟩, rfl⟩, Kept.refl _ _⟩
  · injection hv with e1 e2 e3
    subst e1
    exact psort_some g c n base l w h0 hn hl
end Go.Proofs.YtdlimgpmmkcgmaaGreat
