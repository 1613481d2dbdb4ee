/-
  slices.SortFunc at spans, as package span calls it: the slice holds the same spans, by their From.
-/
import Derived.Test.YtpgncbhahocmbaaGreatSpA
namespace Go.Proofs.YtpgncbhahocmbaaGreat
open Go.RowKit
set_option linter.unusedVariables false

theorem below_sort {a w : World} {blk off n : Nat} {d : Array (Int × Int)} {os : Array Obj} (h : Below a.heap.size a w) (hb : a.heap.size ≤ blk) : Below a.heap.size a (sortWorldK enc2 2 w blk off n d os) := by
  refine ⟨h.os, h.tape, h.output, Nat.le_trans h.size (size_sortWorldK_c enc2 2 w blk off n d os), fun k hk => ?_⟩
  have hs := h.size
  rw [← h.block k hk]
  show (Sort.grow _ os).heap[k]? = _
  rw [Sort.heap_grow_old _ _ (by rw [show (Sort.putRowK enc2 2 (Sort.ahead w n) blk off d).heap.size = w.heap.size by simp [Sort.putRowK, Sort.putRow, Sort.mapBlock, Sort.ahead]]; omega)]
  show (w.heap.modify blk _)[k]? = _
  rw [Array.getElem?_modify, if_neg (by omega)]

theorem spans_holds {w : World} {blk : Nat} {d : Array (Int × Int)} (h : Sort.HoldsK enc2 2 w blk 0 d) (hb : blk < w.heap.size) (hf : Fits d.toList) : Spans w (some ⟨blk, 0, none⟩) d.toList := by
  refine ⟨hf, fun k hk => ⟨blk, 0, rfl, hb, ?_, ?_⟩⟩
  · have hk' : k < d.size := by simpa using hk
    have := (h.cell (c := 0) hk' (by omega)).1
    simpa [enc2, List.getD, hk', getElem!_pos] using this
  · have hk' : k < d.size := by simpa using hk
    have := (h.cell (c := 1) hk' (by omega)).1
    simpa [enc2, List.getD, hk', getElem!_pos] using this
theorem row_holds {w : World} {base g c : Nat} {xs : List (Int × Int)} (h : Row w base (some ⟨g, 0, none⟩) c xs) : Sort.HoldsK enc2 2 w g 0 xs.toArray := by
  intro j hj
  rw [Sort.size_flatK] at hj
  rw [Sort.get_flatK _ _ _ _ hj]
  have hj' : j < xs.length * 2 := by simpa using hj
  obtain ⟨h1, h2⟩ := h.cellAt (k := j / 2) (by omega)
  refine ⟨?_, h.frozenAt _⟩
  have hd : j / 2 < xs.length := by omega
  rw [Nat.zero_add]
  rcases Nat.mod_two_eq_zero_or_one j with m | m
  · rw [show j / 2 * 2 = j by omega] at h1
    rw [h1, m]
    simp [enc2, List.getD, hd]
  · rw [show j / 2 * 2 + 1 = j by omega] at h2
    rw [h2, m]
    simp [enc2, List.getD, hd]

theorem sort_some (g c base : Nat) (xs : List (Int × Int)) (w : World) (h : Row w base (some ⟨g, 0, none⟩) c xs) (hf : Fits xs) (hl : xs.length ≤ 1000000000) :
    Calls Tryz.prog 134 #[.slice (some ⟨g, 0, none⟩) xs.length c, .func (.func 135) #[] #[]] w fun e w' => e = .returned (.tuple #[]) ∧ ∃ ys : List (Int × Int), ys.Perm xs ∧ ys.Pairwise (fun x y => x.1 ≤ y.1) ∧ Spans w' (some ⟨g, 0, none⟩) ys ∧ (∀ v : World, v.heap.size ≤ base → Below v.heap.size v w → Below v.heap.size v w') := by
  have eg : ∀ args w, (callFunc 135 args).run Tryz.prog w = .ok (.enter 135 args) w := enters_of Tryz.func135 (by kernel_rfl) rfl
  have hb : base ≤ g ∧ g < w.heap.size := h.lt _ rfl
  have hH := row_holds h
  have hcon := AnyQ.slices_SortFunc Tryz.sortSp 2 Tryz.isAgg95 Tryz.sizeOf95 enc2 (fun _ => rfl) (fun x v hv => by simp [enc2] at hv; rcases hv with rfl | rfl <;> rfl) cmpF swo_cmpF 135 #[] g 0 c xs.toArray w eg (fun _ _ _ _ x y => rise1_any x y _) hH hb.2 (by simp; omega)
  change Calls Tryz.prog 134 _ _ _ at hcon
  simp only [List.size_toArray] at hcon
  refine hcon.mono ?_
  rintro e w' ⟨rfl, d, n, os, hp, hs, rfl⟩
  obtain ⟨p1, p2, p3⟩ := hp
  have hsz : d.size = xs.length := by simpa using p1
  have hperm : d.toList.Perm xs := by
    have e1 : d.extract 0 xs.length = d := by rw [← hsz]; simp
    have e2 : xs.toArray.extract 0 xs.length = xs.toArray := by simp
    rw [e1, e2] at p3
    exact p3
  refine ⟨rfl, d.toList, hperm, ?_, ?_, fun v hv hbv => below_sort hbv (by omega)⟩
  · rw [List.pairwise_iff_getElem]
    intro i j hi hj hij
    have hi' : i < d.size := by simpa using hi
    have hj' : j < d.size := by simpa using hj
    have := hs i j (Nat.zero_le _) hij (by omega)
    rw [lt_cmpF, getElem!_pos d j hj', getElem!_pos d i hi'] at this
    simp at this
    simpa using this
  · exact spans_holds (holdsK_sortWorldK_c enc2 2 w g 0 xs.toArray d n os hH hb.2 (by simpa using hsz)) (Nat.lt_of_lt_of_le hb.2 (size_sortWorldK_c enc2 2 w g 0 n d os)) (fun x hx => hf x (hperm.mem_iff.1 hx))

theorem len_zero (w : World) : Calls Tryz.prog 152 #[.int .u64 0] w fun e w' => e = .returned (.int .i64 0) ∧ w = w' := by
  have h := Any.bits_Len (SlLaysF0.n15.bits (P := Tryz.prog) (ρ := Tryz.sortSp_ren) { Tryz.sortSp with }) 0 w (by omega) (by omega)
  change Calls Tryz.prog 152 _ _ _ at h
  refine h.mono ?_
  rintro e w' ⟨rfl, rfl⟩
  exact ⟨rfl, rfl⟩
set_option maxHeartbeats 2000000 in
theorem ins_none (p : Option Addr) (cap : Nat) (fv : Value) (w : World) :
    Calls Tryz.prog 160 #[.slice p 0 cap, .int .i64 0, .int .i64 0, fv] w fun e w' => e = .returned (.tuple #[]) ∧ w = w' := by
  go_enter Tryz.func160, Tryz.ntmps160
  go_wp2
  refine wp_loop_rounds 1 ?_
  rw [rounds_succ]
  go_wp2
  go_end0
  exact ⟨rfl, rfl⟩
set_option maxHeartbeats 2000000 in
theorem pdq_none (p : Option Addr) (cap : Nat) (lim : Int) (fv : Value) (w : World) :
    Calls Tryz.prog 151 #[.slice p 0 cap, .int .i64 0, .int .i64 0, .int .i64 lim, fv] w fun e w' => e = .returned (.tuple #[]) ∧ w = w' := by
  go_enter Tryz.func151, Tryz.ntmps151
  go_wp2
  refine wp_loop_rounds 1 ?_
  rw [rounds_succ]
  go_wp2_with (go_at_call 160; refine (ins_none p cap fv _).mono ?_; rintro e w' ⟨rfl, rfl⟩)
  (try simp only [Exit.inBlock, Exit.then]); refine bodyPost_ret (results_none rfl _ _ _) rfl ?_
  exact ⟨rfl, rfl⟩
theorem sort_none (p : Option Addr) (cap : Nat) (fv : Value) (w : World) :
    Calls Tryz.prog 134 #[.slice p 0 cap, fv] w fun e w' => e = .returned (.tuple #[]) ∧ w = w' := by
  go_enter Tryz.func134, Tryz.ntmps134
  go_wp2_with (first | (go_at_call 152; refine (len_zero _).mono ?_; rintro e w' ⟨rfl, rfl⟩) | (go_at_call 151; refine (pdq_none p cap _ fv _).mono ?_; rintro e w' ⟨rfl, rfl⟩))
  go_end0
  exact ⟨rfl, rfl⟩

/-- slices.SortFunc, at every slice of the call's own. -/
theorem sort_any (A : Option Addr) (c base : Nat) (xs : List (Int × Int)) (w : World) (h : Row w base A c xs) (hf : Fits xs) (hl : xs.length ≤ 1000000000) :
    Calls Tryz.prog 134 #[.slice A xs.length c, .func (.func 135) #[] #[]] w fun e w' => e = .returned (.tuple #[]) ∧ ∃ ys : List (Int × Int), ys.Perm xs ∧ ys.Pairwise (fun x y => x.1 ≤ y.1) ∧ Spans w' A ys ∧ (∀ v : World, v.heap.size ≤ base → Below v.heap.size v w → Below v.heap.size v w') := by
  rcases h.forms with ⟨rfl, rfl, rfl⟩ | ⟨g, rfl, _⟩
  · refine (sort_none none 0 _ w).mono ?_
    rintro e w' ⟨rfl, rfl⟩
    exact ⟨rfl, [], List.Perm.nil, List.Pairwise.nil, Spans.nil _ _, fun _ _ h => h⟩
  · exact sort_some g c base xs w h hf hl
end Go.Proofs.YtpgncbhahocmbaaGreat
