/-
  The contracts of package span's functions: what each call answers, at every input; what was there is left as it was.
  slices.SortFunc at spans, as package span calls it: the slice holds the same spans, by their From.
  The contracts of package span's functions, continued: rising.
-/
import Derived.Test.YtdlimgpmmkcgmaaGreatZac
import Derived.Test.YtdlimgpmmkcgmaaGreatSpLay
import Derived.WalkKit
import Derived.Shelf.Abstract
import Derived.StillTailTactics
import Derived.Deep.Light
import Derived.Deep.RegionHeld3
import Derived.Deep.RegionWith
namespace Go.Proofs.YtdlimgpmmkcgmaaGreat
open Go.RowKit
set_option linter.unusedVariables false

theorem allTime_any (w : World) : Calls Tryz.prog 93 #[] w fun e w' => e = .returned (.agg #[.int .i64 0, .int .i64 32054400]) ∧ Below w.heap.size w w' := by
  go_enter Tryz.func93, Tryz.ntmps93
  go_wp2
  refine bodyPost_ret (v := .agg #[.int .i64 0, .int .i64 32054400]) (by simp [results, Tryz.results93, go_sem]) rfl ⟨rfl, ?_⟩
  (repeat' (first | with_reducible exact Below.refl _ _ | with_reducible assumption | with_reducible refine bel_alloc ?_ _ | with_reducible refine bel_set ?_ ?_ _ | with_reducible refine below_drewN ?_ _ | with_reducible refine below_drew ?_ | (simp; done) | (simp; omega) | omega))

theorem common_any (a b c d : Int) (w : World) : Calls Tryz.prog 92 #[.agg #[.int .i64 a, .int .i64 b], .agg #[.int .i64 c, .int .i64 d]] w fun e w' => e = .returned (.agg #[.int .i64 (max a c), .int .i64 (min b d)]) ∧ Below w.heap.size w w' := by
  go_enter Tryz.func92, Tryz.ntmps92
  go_wp2
  refine bodyPost_ret (v := .agg #[.int .i64 (max a c), .int .i64 (min b d)]) (by simp [results, Tryz.results92, go_sem]) rfl ⟨rfl, ?_⟩
  (repeat' (first | with_reducible exact Below.refl _ _ | with_reducible assumption | with_reducible refine bel_alloc ?_ _ | with_reducible refine bel_set ?_ ?_ _ | with_reducible refine below_drewN ?_ _ | with_reducible refine below_drew ?_ | (simp; done) | (simp; omega) | omega))

theorem allTime_at (w : World) : Calls Tryz.prog 93 #[] w fun e w' => e = .returned (.agg #[.int .i64 0, .int .i64 32054400]) ∧ w' = w.alloc (.cells #[.int .i64 0, .int .i64 32054400] 44) := by
  go_enter Tryz.func93, Tryz.ntmps93
  go_wp2
  exact bodyPost_ret (v := .agg #[.int .i64 0, .int .i64 32054400]) (by simp [results, Tryz.results93, go_sem]) rfl ⟨rfl, rfl⟩
theorem common_at (a b c d : Int) (w : World) : Calls Tryz.prog 92 #[.agg #[.int .i64 a, .int .i64 b], .agg #[.int .i64 c, .int .i64 d]] w fun e w' => e = .returned (.agg #[.int .i64 (max a c), .int .i64 (min b d)]) ∧
    w' = ((w.alloc (.cells #[.int .i64 a, .int .i64 b] 44)).alloc (.cells #[.int .i64 c, .int .i64 d] 44)).alloc (.cells #[.int .i64 (max a c), .int .i64 (min b d)] 44) := by
  go_enter Tryz.func92, Tryz.ntmps92
  go_wp2
  exact bodyPost_ret (v := .agg #[.int .i64 (max a c), .int .i64 (min b d)]) (by simp [results, Tryz.results92, go_sem]) rfl ⟨rfl, rfl⟩

theorem cmp_any (x y : Int) (w : World) : Calls Tryz.prog 30 #[.int .i64 x, .int .i64 y] w fun e w' => e = .returned (.int .i64 (if x < y then -1 else if y < x then 1 else 0)) ∧ w = w' := by
  go_enter Tryz.func30, Tryz.ntmps30
  go_wp2
  all_goals
    go_ret
    refine ⟨ret_one ?_, rfl⟩
    first | rfl | (split <;> first | omega | (split <;> omega))

def cmpF (x y : Int × Int) : Int := if x.1 < y.1 then -1 else if y.1 < x.1 then 1 else 0
def enc2 (x : Int × Int) : List Value := [.int .i64 x.1, .int .i64 x.2]

theorem rise1_any (x y : Int × Int) (w : World) : Calls Tryz.prog 95 #[.agg #[.int .i64 x.1, .int .i64 x.2], .agg #[.int .i64 y.1, .int .i64 y.2]] w fun e w' => e = .returned (.int .i64 (cmpF x y)) ∧ ∃ q os', w' = Sort.grow (w.drewN q) os' := by
  have hcon := fun W' => cmp_any x.1 y.1 W'
  unfold cmpF
  generalize (if x.1 < y.1 then (-1 : Int) else if y.1 < x.1 then 1 else 0) = r at hcon ⊢
  go_enter Tryz.func95, Tryz.ntmps95
  go_wp2_with (go_at_call 30; refine (hcon _).mono ?_; rintro e w' ⟨rfl, rfl⟩)
  go_ret
  exact ⟨rfl, 0, _, by rw [Sort.alloc_eq_grow, Sort.alloc_eq_grow, Sort.grow_grow]; rfl⟩

theorem lt_cmpF (x y : Int × Int) : ltOf cmpF x y = decide (x.1 < y.1) := by
  unfold ltOf cmpF
  by_cases h1 : x.1 < y.1
  · simp [h1]
  · by_cases h2 : y.1 < x.1 <;> simp [h1, h2]
theorem swo_cmpF : Sort.SWO (ltOf cmpF) where
  irrefl x := by rw [lt_cmpF]; simp
  trans x y z h1 h2 := by rw [lt_cmpF] at *; simp at *; omega
  ntrans x y z h1 h2 := by rw [lt_cmpF] at *; simp at *; omega
end Go.Proofs.YtdlimgpmmkcgmaaGreat

namespace Go.Proofs.YtdlimgpmmkcgmaaGreat
open Go.RowKit
set_option linter.unusedVariables false

theorem below_sort {a w : World} {blk off n : Nat} {d : Array (Int × Int)} {os : Array Obj} (h : Below a.heap.size a w) (hb : a.heap.size ≤ blk) : Below a.heap.size a (sortWorldK enc2 2 w blk off n d os) := by
  refine ⟨h.os, h.tape, h.output, Nat.le_trans h.size (size_sortWorldK_c enc2 2 w blk off n d os), fun k hk => ?_⟩
  have hs := h.size
  rw [← h.block k hk]
  show (Sort.grow _ os).heap[k]? = _
  rw [Sort.heap_grow_old _ _ (by rw [show (Sort.putRowK enc2 2 (Sort.ahead w n) blk off d).heap.size = w.heap.size by simp [Sort.putRowK, Sort.putRow, Sort.mapBlock, Sort.ahead]]; omega)]
  show (w.heap.modify blk _)[k]? = _
  rw [Array.getElem?_modify, if_neg (by omega)]

theorem spans_holds {w : World} {blk : Nat} {d : Array (Int × Int)} (h : Sort.HoldsK enc2 2 w blk 0 d) (hb : blk < w.heap.size) (hf : Fits d.toList) : Spans w (some ⟨blk, 0, none⟩) d.toList := by
  refine ⟨hf, fun k hk => ⟨blk, 0, rfl, hb, ?_, ?_⟩⟩
  · have hk' : k < d.size := by simpa using hk
    have := (h.cell (c := 0) hk' (by omega)).1
    simpa [enc2, List.getD, hk', getElem!_pos] using this
  · have hk' : k < d.size := by simpa using hk
    have := (h.cell (c := 1) hk' (by omega)).1
    simpa [enc2, List.getD, hk', getElem!_pos] using this
theorem row_holds {w : World} {base g c : Nat} {xs : List (Int × Int)} (h : Row w base (some ⟨g, 0, none⟩) c xs) : Sort.HoldsK enc2 2 w g 0 xs.toArray := by
  intro j hj
  rw [Sort.size_flatK] at hj
  rw [Sort.get_flatK _ _ _ _ hj]
  have hj' : j < xs.length * 2 := by simpa using hj
  obtain ⟨h1, h2⟩ := h.cellAt (k := j / 2) (by omega)
  refine ⟨?_, h.frozenAt _⟩
  have hd : j / 2 < xs.length := by omega
  rw [Nat.zero_add]
  rcases Nat.mod_two_eq_zero_or_one j with m | m
  · rw [show j / 2 * 2 = j by omega] at h1
    rw [h1, m]
    simp [enc2, List.getD, hd]
  · rw [show j / 2 * 2 + 1 = j by omega] at h2
    rw [h2, m]
    simp [enc2, List.getD, hd]

theorem sort_some (g c base : Nat) (xs : List (Int × Int)) (w : World) (h : Row w base (some ⟨g, 0, none⟩) c xs) (hf : Fits xs) (hl : xs.length ≤ 1000000000) :
    Calls Tryz.prog 94 #[.slice (some ⟨g, 0, none⟩) xs.length c, .func (.func 95) #[] #[]] w fun e w' => e = .returned (.tuple #[]) ∧ ∃ ys : List (Int × Int), ys.Perm xs ∧ ys.Pairwise (fun x y => x.1 ≤ y.1) ∧ Spans w' (some ⟨g, 0, none⟩) ys ∧ (∀ v : World, v.heap.size ≤ base → Below v.heap.size v w → Below v.heap.size v w') := by
  have eg : ∀ args w, (callFunc 95 args).run Tryz.prog w = .ok (.enter 95 args) w := enters_of Tryz.func95 (by kernel_rfl) rfl
  have hb : base ≤ g ∧ g < w.heap.size := h.lt _ rfl
  have hH := row_holds h
  have hcon := AnyQ.slices_SortFunc Tryz.sortSp 2 Tryz.isAgg44 Tryz.sizeOf44 enc2 (fun _ => rfl) (fun x v hv => by simp [enc2] at hv; rcases hv with rfl | rfl <;> rfl) cmpF swo_cmpF 95 #[] g 0 c xs.toArray w eg (fun _ _ _ _ x y => rise1_any x y _) hH hb.2 (by simp; omega)
  change Calls Tryz.prog 94 _ _ _ at hcon
  simp only [List.size_toArray] at hcon
  refine hcon.mono ?_
  rintro e w' ⟨rfl, d, n, os, hp, hs, rfl⟩
  obtain ⟨p1, p2, p3⟩ := hp
  have hsz : d.size = xs.length := by simpa using p1
  have hperm : d.toList.Perm xs := by
    have e1 : d.extract 0 xs.length = d := by rw [← hsz]; simp
    have e2 : xs.toArray.extract 0 xs.length = xs.toArray := by simp
    rw [e1, e2] at p3
    exact p3
  refine ⟨rfl, d.toList, hperm, ?_, ?_, fun v hv hbv => below_sort hbv (by omega)⟩
  · rw [List.pairwise_iff_getElem]
    intro i j hi hj hij
    have hi' : i < d.size := by simpa using hi
    have hj' : j < d.size := by simpa using hj
    have := hs i j (Nat.zero_le _) hij (by omega)
    rw [lt_cmpF, getElem!_pos d j hj', getElem!_pos d i hi'] at this
    simp at this
    simpa using this
  · exact spans_holds (holdsK_sortWorldK_c enc2 2 w g 0 xs.toArray d n os hH hb.2 (by simpa using hsz)) (Nat.lt_of_lt_of_le hb.2 (size_sortWorldK_c enc2 2 w g 0 n d os)) (fun x hx => hf x (hperm.mem_iff.1 hx))

theorem len_zero (w : World) : Calls Tryz.prog 62 #[.int .u64 0] w fun e w' => e = .returned (.int .i64 0) ∧ w = w' := by
  have h := Any.bits_Len (SlLaysF0.n15.bits (P := Tryz.prog) (ρ := Tryz.sortSp_ren) { Tryz.sortSp with }) 0 w (by omega) (by omega)
  change Calls Tryz.prog 62 _ _ _ at h
  refine h.mono ?_
  rintro e w' ⟨rfl, rfl⟩
  exact ⟨rfl, rfl⟩
set_option maxHeartbeats 2000000 in
theorem ins_none (p : Option Addr) (cap : Nat) (fv : Value) (w : World) :
    Calls Tryz.prog 156 #[.slice p 0 cap, .int .i64 0, .int .i64 0, fv] w fun e w' => e = .returned (.tuple #[]) ∧ w = w' := by
  go_enter Tryz.func156, Tryz.ntmps156
  go_wp2
  refine wp_loop_rounds 1 ?_
  rw [rounds_succ]
  go_wp2
  go_end0
  exact ⟨rfl, rfl⟩
set_option maxHeartbeats 2000000 in
theorem pdq_none (p : Option Addr) (cap : Nat) (lim : Int) (fv : Value) (w : World) :
    Calls Tryz.prog 136 #[.slice p 0 cap, .int .i64 0, .int .i64 0, .int .i64 lim, fv] w fun e w' => e = .returned (.tuple #[]) ∧ w = w' := by
  go_enter Tryz.func136, Tryz.ntmps136
  go_wp2
  refine wp_loop_rounds 1 ?_
  rw [rounds_succ]
  go_wp2_with (go_at_call 156; refine (ins_none p cap fv _).mono ?_; rintro e w' ⟨rfl, rfl⟩)
  (try simp only [Exit.inBlock, Exit.then]); refine bodyPost_ret (results_none rfl _ _ _) rfl ?_
  exact ⟨rfl, rfl⟩
theorem sort_none (p : Option Addr) (cap : Nat) (fv : Value) (w : World) :
    Calls Tryz.prog 94 #[.slice p 0 cap, fv] w fun e w' => e = .returned (.tuple #[]) ∧ w = w' := by
  go_enter Tryz.func94, Tryz.ntmps94
  go_wp2_with (first | (go_at_call 62; refine (len_zero _).mono ?_; rintro e w' ⟨rfl, rfl⟩) | (go_at_call 136; refine (pdq_none p cap _ fv _).mono ?_; rintro e w' ⟨rfl, rfl⟩))
  go_end0
  exact ⟨rfl, rfl⟩

/-- slices.SortFunc, at every slice of the call's own. -/
theorem sort_any (A : Option Addr) (c base : Nat) (xs : List (Int × Int)) (w : World) (h : Row w base A c xs) (hf : Fits xs) (hl : xs.length ≤ 1000000000) :
    Calls Tryz.prog 94 #[.slice A xs.length c, .func (.func 95) #[] #[]] w fun e w' => e = .returned (.tuple #[]) ∧ ∃ ys : List (Int × Int), ys.Perm xs ∧ ys.Pairwise (fun x y => x.1 ≤ y.1) ∧ Spans w' A ys ∧ (∀ v : World, v.heap.size ≤ base → Below v.heap.size v w → Below v.heap.size v w') := by
  rcases h.forms with ⟨rfl, rfl, rfl⟩ | ⟨g, rfl, _⟩
  · refine (sort_none none 0 _ w).mono ?_
    rintro e w' ⟨rfl, rfl⟩
    exact ⟨rfl, [], List.Perm.nil, List.Pairwise.nil, Spans.nil _ _, fun _ _ h => h⟩
  · exact sort_some g c base xs w h hf hl
end Go.Proofs.YtdlimgpmmkcgmaaGreat

namespace Go.Proofs.YtdlimgpmmkcgmaaGreat
open Go.RowKit
set_option linter.unusedVariables false

theorem ret_slice {A : Option Addr} {a b c : Nat} (h : a = b) : Ending.returned (.slice A a c) = .returned (.slice A b c) := by rw [h]
/-- What a span has of all time, if that is anything. -/
def clip (s : Int × Int) : List (Int × Int) := if max s.1 0 < min s.2 32054400 then [(max s.1 0, min s.2 32054400)] else []
def keptL (l : List (Int × Int)) : List (Int × Int) := l.flatMap clip
theorem keptL_snoc (xs : List (Int × Int)) (k : Nat) (h : k < xs.length) : keptL (xs.take (k + 1)) = keptL (xs.take k) ++ clip (xs.getD k (0, 0)) := by
  unfold keptL
  rw [List.take_succ_eq_append_getElem h, List.flatMap_append]
  simp [List.getD, h]
theorem clip_len (s : Int × Int) : (clip s).length ≤ 1 := by unfold clip; split <;> simp
theorem keptL_len : ∀ l : List (Int × Int), (keptL l).length ≤ l.length
  | [] => by simp [keptL]
  | s :: l => by
    have := keptL_len l
    have := clip_len s
    simp only [keptL, List.flatMap_cons, List.length_append, List.length_cons] at *
    omega
theorem clip_ok (s x : Int × Int) (h : x ∈ clip s) : 0 ≤ x.1 ∧ x.1 < x.2 ∧ x.2 ≤ 32054400 := by
  unfold clip at h
  split at h
  · rw [List.mem_singleton.1 h]; simp only []; omega
  · cases h
theorem keptL_ok (l : List (Int × Int)) (x : Int × Int) (h : x ∈ keptL l) : 0 ≤ x.1 ∧ x.1 < x.2 ∧ x.2 ≤ 32054400 := by
  unfold keptL at h
  obtain ⟨s, _, hs⟩ := List.mem_flatMap.1 h
  exact clip_ok s x hs
theorem clip_in (s : Int × Int) (t : Int) : In (clip s) t ↔ 0 ≤ t ∧ t < 32054400 ∧ s.1 ≤ t ∧ t < s.2 := by
  unfold clip
  split
  · rw [in_one]; simp only []; omega
  · simp only [in_nil, false_iff]; omega
theorem keptL_in : ∀ (l : List (Int × Int)) (t : Int), In (keptL l) t ↔ 0 ≤ t ∧ t < 32054400 ∧ In l t
  | [], t => by simp [keptL, in_nil]
  | s :: l, t => by
    have e : keptL (s :: l) = clip s ++ keptL l := rfl
    rw [e, in_append, clip_in, keptL_in l t, in_cons]
    constructor
    · rintro (⟨a, b, c⟩ | ⟨a, b, c⟩)
      · exact ⟨a, b, .inl c⟩
      · exact ⟨a, b, .inr c⟩
    · rintro ⟨a, b, c | c⟩
      · exact .inl ⟨a, b, c⟩
      · exact .inr ⟨a, b, c⟩
theorem keptL_fits (l : List (Int × Int)) : Fits (keptL l) := fun x hx => by
  have := keptL_ok l x hx
  exact ⟨⟨by omega, by omega⟩, ⟨by omega, by omega⟩⟩

/-- The spans ys rise, lie within all time, and have xs's seconds. -/
def Rises (xs ys : List (Int × Int)) : Prop := ys.Pairwise (fun x y => x.1 ≤ y.1) ∧ (∀ y ∈ ys, 0 ≤ y.1 ∧ y.1 < y.2 ∧ y.2 ≤ 32054400) ∧ ys.length ≤ xs.length ∧ ∀ t, In ys t ↔ 0 ≤ t ∧ t < 32054400 ∧ In xs t
theorem rises_kept {xs ys : List (Int × Int)} (hp : ys.Perm (keptL xs)) (hs : ys.Pairwise (fun x y => x.1 ≤ y.1)) : Rises xs ys :=
  ⟨hs, fun y hy => keptL_ok xs y (hp.mem_iff.1 hy), by rw [hp.length_eq]; exact keptL_len xs, fun t => by
    rw [← keptL_in]
    constructor
    · rintro ⟨s, h1, h2⟩; exact ⟨s, hp.mem_iff.1 h1, h2⟩
    · rintro ⟨s, h1, h2⟩; exact ⟨s, hp.mem_iff.2 h1, h2⟩⟩

def Told (w : World) (xs : List (Int × Int)) (e : Ending) (w' : World) : Prop := ∃ B d ys, e = .returned (.slice B ys.length d) ∧ Rises xs ys ∧ Spans w' B ys ∧ Below w.heap.size w w'

theorem rising_any (A : Option Addr) (cap : Nat) (xs : List (Int × Int)) (w : World) (hx : Spans w A xs) (hl : xs.length ≤ 100000000) :
    Calls Tryz.prog 45 #[.slice A xs.length cap] w (Told w xs) := by
  have HX := Lib.hid hx
  clear hx
  go_enter Tryz.func45, Tryz.ntmps45
  go_wp2
  go_loopw [3, 8] (fun s i wr => ∃ (k : Nat) (B : Option Addr) (d : Nat) (L : List (Int × Int)), k ≤ xs.length ∧ i = .int .i64 k ∧ s = .slice B L.length d ∧ L.length ≤ k ∧ Hid (L = keptL (xs.take k)) ∧ Row wr w.heap.size B d L ∧ Below w.heap.size w wr) (fun _ i _ => xs.length - (intOf i).toNat)
  case atStart => exact ⟨0, none, 0, [], Nat.zero_le _, rfl, rfl, Nat.le_refl _, rfl, Row.nil _ _, Below.refl _ _⟩
  case round =>
    obtain ⟨k, B, d, L, hk, rfl, rfl, hnk, hn, hr, hbw⟩ := hrel
    by_cases hlt : k < xs.length
    · obtain ⟨b, off, rfl, hblt, c1, c2⟩ := (HX.out.below hbw).2 k hlt
      have HF := HX.out.1.at hlt
      have HS := Lib.hid (keptL_snoc xs k hlt)
      have hne : ∀ g, B = some g → g.block ≠ wr.heap.size := fun g hg => by have := (hr.lt g hg).2; omega
      have HN := Lib.hid hne
      have hws := hbw.size
      clear hne
      generalize xs.getD k (0, 0) = z at *
      obtain ⟨p, q⟩ := z
      simp only [] at *
      go_wp2
      go_region_with (first
        | (go_at_call 93; refine (allTime_any _).mono ?_; rintro e w1 ⟨rfl, hb1⟩; have R1 : Has w1 wr.heap.size #[.int .i64 p, .int .i64 q] := Has.below (show Has _ _ _ by (repeat' (first | with_reducible assumption | ((with_reducible refine Has.new _ _ _ ?_); (first | (with_reducible rfl) | (simp; done))) | with_reducible refine Has.alloc ?_ _ | with_reducible refine Has.drewN ?_ _ | with_reducible refine Has.drew ?_))) hb1; have hr1 := Row.below (show Row _ w.heap.size B d L by (repeat' (first | with_reducible assumption | with_reducible refine Row.alloc ?_ _ | with_reducible refine Row.drewN ?_ _ | with_reducible refine Row.drew ?_))) hb1; obtain ⟨e0, e1, e2, e3⟩ := R1.two; have z1 := R1.size; replace hb1 := bel_on (show Below w.heap.size w _ by (repeat' (first | with_reducible exact Below.refl _ _ | with_reducible assumption | with_reducible refine bel_alloc ?_ _ | with_reducible refine bel_set ?_ ?_ _ | with_reducible refine below_drewN ?_ _ | with_reducible refine below_drew ?_ | (simp; done) | (simp; omega) | omega))) hb1)
        | (go_at_call 92; refine (common_any _ _ _ _ _).mono ?_; rintro e w2 ⟨rfl, hb2⟩; have R2 : Has w2 wr.heap.size #[.int .i64 p, .int .i64 q] := Has.below (show Has _ _ _ by (repeat' (first | with_reducible assumption | ((with_reducible refine Has.new _ _ _ ?_); (first | (with_reducible rfl) | (simp; done))) | with_reducible refine Has.alloc ?_ _ | with_reducible refine Has.drewN ?_ _ | with_reducible refine Has.drew ?_))) hb2; have hr2 := Row.below (show Row _ w.heap.size B d L by (repeat' (first | with_reducible assumption | with_reducible refine Row.alloc ?_ _ | with_reducible refine Row.drewN ?_ _ | with_reducible refine Row.drew ?_))) hb2; obtain ⟨e4, e5, e6, e7⟩ := R2.two; have z2 := R2.size; replace hb2 := bel_on (show Below w.heap.size w _ by (repeat' (first | with_reducible exact Below.refl _ _ | with_reducible assumption | with_reducible refine bel_alloc ?_ _ | with_reducible refine bel_set ?_ ?_ _ | with_reducible refine below_drewN ?_ _ | with_reducible refine below_drew ?_ | (simp; done) | (simp; omega) | omega))) hb2))
      all_goals
        have R3 := (R2.set 0 (.int .i64 (max p 0))).set 1 (.int .i64 (min q 32054400))
        have hr3 := (hr2.far (p := ⟨wr.heap.size, 0, none⟩) HN.out (.int .i64 (max p 0))).far (p := ⟨wr.heap.size, 1, none⟩) HN.out (.int .i64 (min q 32054400))
        have hb3 := bel_set (bel_set hb2 (p := ⟨wr.heap.size, 0, none⟩) hws (.int .i64 (max p 0))) (p := ⟨wr.heap.size, 1, none⟩) hws (.int .i64 (min q 32054400))
        clear R2 hr2 hb2 e4 e5 e6 e7 z2 R1 hr1 hb1 e0 e1 e2 e3 z1 c1 c2 hblt hr HN
        generalize (w2.setCell ⟨wr.heap.size, 0, none⟩ (.int .i64 (max p 0))).setCell ⟨wr.heap.size, 1, none⟩ (.int .i64 (min q 32054400)) = w3 at *
        replace R3 : Has w3 wr.heap.size #[.int .i64 (max p 0), .int .i64 (min q 32054400)] := R3
        obtain ⟨e0, e1, e2, e3⟩ := R3.two
        have z3 := R3.size
        have hws3 := hb3.size
        by_cases hc : max p 0 < min q 32054400
        · have HC := Lib.hid (show clip (p, q) = [(max p 0, min q 32054400)] by unfold clip; rw [if_pos hc])
          obtain ⟨B', d', w4, hrun, hr4, hb4, hz4, _, _⟩ := row_push hr3 (max p 0) (min q 32054400) (by omega) hws3 rfl
          have HR := Lib.hid hrun
          have hb5 := hb4 w (Nat.le_refl _) hb3
          clear hrun hb4
          go_wp2_with (at_builtin; refine wpList_append_run HR.out rfl rfl rfl rfl ?_)
          go_roundw
          case rel => exact ⟨k + 1, B', d', _, by omega, by go_num, by rw [List.length_append]; rfl, by simp; omega, by show _ = _; rw [HS.out, HC.out, hn.out], hr4, hb5⟩
          case measure => simp [intOf]; omega
        · have HC := Lib.hid (show clip (p, q) = [] by unfold clip; rw [if_neg hc])
          go_wp2
          go_roundw
          case rel => exact ⟨k + 1, B, d, L, by omega, by go_num, rfl, by omega, by show _ = _; rw [HS.out, HC.out, hn.out, List.append_nil], hr3, hb3⟩
          case measure => simp [intOf]; omega
    · obtain rfl : k = xs.length := by omega
      have hn' := hn.out
      rw [List.take_length] at hn'
      have HN := Lib.hid hn'
      have hfit : Fits L := by rw [hn']; exact keptL_fits xs
      clear hn hn'
      go_wp2_with fail
      refine (sort_any B d w.heap.size L wr hr hfit (by omega)).mono ?_
      rintro e w2 ⟨rfl, ys, hp, hs, hsp, hb⟩
      have HB := Lib.hid (hb w (Nat.le_refl _) hbw)
      have HP := Lib.hid hp
      have HQ := Lib.hid hs
      have hlen : L.length = ys.length := hp.length_eq.symm
      have HL := Lib.hid hlen
      clear hb hp hs hlen
      go_wp2
      go_ret
      exact ⟨B, d, ys, ret_slice HL.out, rises_kept (by rw [← HN.out]; exact HP.out) HQ.out, hsp, HB.out⟩
end Go.Proofs.YtdlimgpmmkcgmaaGreat
