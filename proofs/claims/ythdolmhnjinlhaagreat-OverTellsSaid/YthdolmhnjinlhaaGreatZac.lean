/-
  The contracts of package span's functions: what each call answers, at every input; what was there is left as it was.
  slices.SortFunc at spans, as package span calls it: the slice holds the same spans, by their From.
  The contracts of package span's functions, continued: rising.
  Plain facts on numbers through others: lowest terms, which of them may be, what is as much. No program is named here.
  Setups: which may be, their numbers, and that they are read in one way. No program here.
  Setups read off a list of numbers, place by place. No program here.
  A region that draws its order, by one word that holds whatever has come up: each operation keeps it, and where all have come up it gives what is asked. Over any program.
  Slices of bytes of the call's own: append, store, cut.
  Bytes turned into texts, whatever their number; texts held against each other.
  Sessions: what a worker's events, gone through one by one, are made of: items, parts, flags. No program here.
-/
import Derived.Test.YthdolmhnjinlhaaGreatZab
import Derived.Test.YthdolmhnjinlhaaGreatSpLay
import Derived.WalkKit
import Derived.Shelf.Abstract
import Derived.StillTailTactics
import Derived.Deep.Light
import Derived.Deep.RegionHeld3
import Derived.Deep.RegionWith
import Derived.RowKit
import Derived.IntWalk
import Derived.Test.YthdolmhnjinlhaaGreatZaa
import Derived.Test.YthdolmhnjinlhaaGreatProg
import Derived.Laws.BytesArg
namespace Go.Proofs.YthdolmhnjinlhaaGreat
open Go.RowKit
set_option linter.unusedVariables false

theorem allTime_any (w : World) : Calls Tryz.prog 64 #[] w fun e w' => e = .returned (.agg #[.int .i64 0, .int .i64 32054400]) ∧ Below w.heap.size w w' := by
  go_enter Tryz.func64, Tryz.ntmps64
  go_wp2
  refine bodyPost_ret (v := .agg #[.int .i64 0, .int .i64 32054400]) (by simp [results, Tryz.results64, go_sem]) rfl ⟨rfl, ?_⟩
  (repeat' (first | with_reducible exact Below.refl _ _ | with_reducible assumption | with_reducible refine bel_alloc ?_ _ | with_reducible refine bel_set ?_ ?_ _ | with_reducible refine below_drewN ?_ _ | with_reducible refine below_drew ?_ | (simp; done) | (simp; omega) | omega))

theorem common_any (a b c d : Int) (w : World) : Calls Tryz.prog 62 #[.agg #[.int .i64 a, .int .i64 b], .agg #[.int .i64 c, .int .i64 d]] w fun e w' => e = .returned (.agg #[.int .i64 (max a c), .int .i64 (min b d)]) ∧ Below w.heap.size w w' := by
  go_enter Tryz.func62, Tryz.ntmps62
  go_wp2
  refine bodyPost_ret (v := .agg #[.int .i64 (max a c), .int .i64 (min b d)]) (by simp [results, Tryz.results62, go_sem]) rfl ⟨rfl, ?_⟩
  (repeat' (first | with_reducible exact Below.refl _ _ | with_reducible assumption | with_reducible refine bel_alloc ?_ _ | with_reducible refine bel_set ?_ ?_ _ | with_reducible refine below_drewN ?_ _ | with_reducible refine below_drew ?_ | (simp; done) | (simp; omega) | omega))

theorem allTime_at (w : World) : Calls Tryz.prog 64 #[] w fun e w' => e = .returned (.agg #[.int .i64 0, .int .i64 32054400]) ∧ w' = w.alloc (.cells #[.int .i64 0, .int .i64 32054400] 42) := by
  go_enter Tryz.func64, Tryz.ntmps64
  go_wp2
  exact bodyPost_ret (v := .agg #[.int .i64 0, .int .i64 32054400]) (by simp [results, Tryz.results64, go_sem]) rfl ⟨rfl, rfl⟩
theorem common_at (a b c d : Int) (w : World) : Calls Tryz.prog 62 #[.agg #[.int .i64 a, .int .i64 b], .agg #[.int .i64 c, .int .i64 d]] w fun e w' => e = .returned (.agg #[.int .i64 (max a c), .int .i64 (min b d)]) ∧
    w' = ((w.alloc (.cells #[.int .i64 a, .int .i64 b] 42)).alloc (.cells #[.int .i64 c, .int .i64 d] 42)).alloc (.cells #[.int .i64 (max a c), .int .i64 (min b d)] 42) := by
  go_enter Tryz.func62, Tryz.ntmps62
  go_wp2
  exact bodyPost_ret (v := .agg #[.int .i64 (max a c), .int .i64 (min b d)]) (by simp [results, Tryz.results62, go_sem]) rfl ⟨rfl, rfl⟩

theorem cmp_any (x y : Int) (w : World) : Calls Tryz.prog 67 #[.int .i64 x, .int .i64 y] w fun e w' => e = .returned (.int .i64 (if x < y then -1 else if y < x then 1 else 0)) ∧ w = w' := by
  go_enter Tryz.func67, Tryz.ntmps67
  go_wp2
  all_goals
    go_ret
    refine ⟨ret_one ?_, rfl⟩
    first | rfl | (split <;> first | omega | (split <;> omega))

def cmpF (x y : Int × Int) : Int := if x.1 < y.1 then -1 else if y.1 < x.1 then 1 else 0
def enc2 (x : Int × Int) : List Value := [.int .i64 x.1, .int .i64 x.2]

theorem rise1_any (x y : Int × Int) (w : World) : Calls Tryz.prog 66 #[.agg #[.int .i64 x.1, .int .i64 x.2], .agg #[.int .i64 y.1, .int .i64 y.2]] w fun e w' => e = .returned (.int .i64 (cmpF x y)) ∧ ∃ q os', w' = Sort.grow (w.drewN q) os' := by
  have hcon := fun W' => cmp_any x.1 y.1 W'
  unfold cmpF
  generalize (if x.1 < y.1 then (-1 : Int) else if y.1 < x.1 then 1 else 0) = r at hcon ⊢
  go_enter Tryz.func66, Tryz.ntmps66
  go_wp2_with (go_at_call 67; refine (hcon _).mono ?_; rintro e w' ⟨rfl, rfl⟩)
  go_ret
  exact ⟨rfl, 0, _, by rw [Sort.alloc_eq_grow, Sort.alloc_eq_grow, Sort.grow_grow]; rfl⟩

theorem lt_cmpF (x y : Int × Int) : ltOf cmpF x y = decide (x.1 < y.1) := by
  unfold ltOf cmpF
  by_cases h1 : x.1 < y.1
  · simp [h1]
  · by_cases h2 : y.1 < x.1 <;> simp [h1, h2]
theorem swo_cmpF : Sort.SWO (ltOf cmpF) where
  irrefl x := by rw [lt_cmpF]; simp
  trans x y z h1 h2 := by rw [lt_cmpF] at *; simp at *; omega
  ntrans x y z h1 h2 := by rw [lt_cmpF] at *; simp at *; omega
end Go.Proofs.YthdolmhnjinlhaaGreat

namespace Go.Proofs.YthdolmhnjinlhaaGreat
open Go.RowKit
set_option linter.unusedVariables false

theorem below_sort {a w : World} {blk off n : Nat} {d : Array (Int × Int)} {os : Array Obj} (h : Below a.heap.size a w) (hb : a.heap.size ≤ blk) : Below a.heap.size a (sortWorldK enc2 2 w blk off n d os) := by
  refine ⟨h.os, h.tape, h.output, Nat.le_trans h.size (size_sortWorldK_c enc2 2 w blk off n d os), fun k hk => ?_⟩
  have hs := h.size
  rw [← h.block k hk]
  show (Sort.grow _ os).heap[k]? = _
  rw [Sort.heap_grow_old _ _ (by rw [show (Sort.putRowK enc2 2 (Sort.ahead w n) blk off d).heap.size = w.heap.size by simp [Sort.putRowK, Sort.putRow, Sort.mapBlock, Sort.ahead]]; omega)]
  show (w.heap.modify blk _)[k]? = _
  rw [Array.getElem?_modify, if_neg (by omega)]

theorem spans_holds {w : World} {blk : Nat} {d : Array (Int × Int)} (h : Sort.HoldsK enc2 2 w blk 0 d) (hb : blk < w.heap.size) (hf : Fits d.toList) : Spans w (some ⟨blk, 0, none⟩) d.toList := by
  refine ⟨hf, fun k hk => ⟨blk, 0, rfl, hb, ?_, ?_⟩⟩
  · have hk' : k < d.size := by simpa using hk
    have := (h.cell (c := 0) hk' (by omega)).1
    simpa [enc2, List.getD, hk', getElem!_pos] using this
  · have hk' : k < d.size := by simpa using hk
    have := (h.cell (c := 1) hk' (by omega)).1
    simpa [enc2, List.getD, hk', getElem!_pos] using this
theorem row_holds {w : World} {base g c : Nat} {xs : List (Int × Int)} (h : Row w base (some ⟨g, 0, none⟩) c xs) : Sort.HoldsK enc2 2 w g 0 xs.toArray := by
  intro j hj
  rw [Sort.size_flatK] at hj
  rw [Sort.get_flatK _ _ _ _ hj]
  have hj' : j < xs.length * 2 := by simpa using hj
  obtain ⟨h1, h2⟩ := h.cellAt (k := j / 2) (by omega)
  refine ⟨?_, h.frozenAt _⟩
  have hd : j / 2 < xs.length := by omega
  rw [Nat.zero_add]
  rcases Nat.mod_two_eq_zero_or_one j with m | m
  · rw [show j / 2 * 2 = j by omega] at h1
    rw [h1, m]
    simp [enc2, List.getD, hd]
  · rw [show j / 2 * 2 + 1 = j by omega] at h2
    rw [h2, m]
    simp [enc2, List.getD, hd]

theorem sort_some (g c base : Nat) (xs : List (Int × Int)) (w : World) (h : Row w base (some ⟨g, 0, none⟩) c xs) (hf : Fits xs) (hl : xs.length ≤ 1000000000) :
    Calls Tryz.prog 65 #[.slice (some ⟨g, 0, none⟩) xs.length c, .func (.func 66) #[] #[]] w fun e w' => e = .returned (.tuple #[]) ∧ ∃ ys : List (Int × Int), ys.Perm xs ∧ ys.Pairwise (fun x y => x.1 ≤ y.1) ∧ Spans w' (some ⟨g, 0, none⟩) ys ∧ (∀ v : World, v.heap.size ≤ base → Below v.heap.size v w → Below v.heap.size v w') := by
  have eg : ∀ args w, (callFunc 66 args).run Tryz.prog w = .ok (.enter 66 args) w := enters_of Tryz.func66 (by kernel_rfl) rfl
  have hb : base ≤ g ∧ g < w.heap.size := h.lt _ rfl
  have hH := row_holds h
  have hcon := AnyQ.slices_SortFunc Tryz.sortSp 2 Tryz.isAgg42 Tryz.sizeOf42 enc2 (fun _ => rfl) (fun x v hv => by simp [enc2] at hv; rcases hv with rfl | rfl <;> rfl) cmpF swo_cmpF 66 #[] g 0 c xs.toArray w eg (fun _ _ _ _ x y => rise1_any x y _) hH hb.2 (by simp; omega)
  change Calls Tryz.prog 65 _ _ _ at hcon
  simp only [List.size_toArray] at hcon
  refine hcon.mono ?_
  rintro e w' ⟨rfl, d, n, os, hp, hs, rfl⟩
  obtain ⟨p1, p2, p3⟩ := hp
  have hsz : d.size = xs.length := by simpa using p1
  have hperm : d.toList.Perm xs := by
    have e1 : d.extract 0 xs.length = d := by rw [← hsz]; simp
    have e2 : xs.toArray.extract 0 xs.length = xs.toArray := by simp
    rw [e1, e2] at p3
    exact p3
  refine ⟨rfl, d.toList, hperm, ?_, ?_, fun v hv hbv => below_sort hbv (by omega)⟩
  · rw [List.pairwise_iff_getElem]
    intro i j hi hj hij
    have hi' : i < d.size := by simpa using hi
    have hj' : j < d.size := by simpa using hj
    have := hs i j (Nat.zero_le _) hij (by omega)
    rw [lt_cmpF, getElem!_pos d j hj', getElem!_pos d i hi'] at this
    simp at this
    simpa using this
  · exact spans_holds (holdsK_sortWorldK_c enc2 2 w g 0 xs.toArray d n os hH hb.2 (by simpa using hsz)) (Nat.lt_of_lt_of_le hb.2 (size_sortWorldK_c enc2 2 w g 0 n d os)) (fun x hx => hf x (hperm.mem_iff.1 hx))

theorem len_zero (w : World) : Calls Tryz.prog 88 #[.int .u64 0] w fun e w' => e = .returned (.int .i64 0) ∧ w = w' := by
  have h := Any.bits_Len (SlLaysF0.n15.bits (P := Tryz.prog) (ρ := Tryz.sortSp_ren) { Tryz.sortSp with }) 0 w (by omega) (by omega)
  change Calls Tryz.prog 88 _ _ _ at h
  refine h.mono ?_
  rintro e w' ⟨rfl, rfl⟩
  exact ⟨rfl, rfl⟩
set_option maxHeartbeats 2000000 in
theorem ins_none (p : Option Addr) (cap : Nat) (fv : Value) (w : World) :
    Calls Tryz.prog 100 #[.slice p 0 cap, .int .i64 0, .int .i64 0, fv] w fun e w' => e = .returned (.tuple #[]) ∧ w = w' := by
  go_enter Tryz.func100, Tryz.ntmps100
  go_wp2
  refine wp_loop_rounds 1 ?_
  rw [rounds_succ]
  go_wp2
  go_end0
  exact ⟨rfl, rfl⟩
set_option maxHeartbeats 2000000 in
theorem pdq_none (p : Option Addr) (cap : Nat) (lim : Int) (fv : Value) (w : World) :
    Calls Tryz.prog 87 #[.slice p 0 cap, .int .i64 0, .int .i64 0, .int .i64 lim, fv] w fun e w' => e = .returned (.tuple #[]) ∧ w = w' := by
  go_enter Tryz.func87, Tryz.ntmps87
  go_wp2
  refine wp_loop_rounds 1 ?_
  rw [rounds_succ]
  go_wp2_with (go_at_call 100; refine (ins_none p cap fv _).mono ?_; rintro e w' ⟨rfl, rfl⟩)
  (try simp only [Exit.inBlock, Exit.then]); refine bodyPost_ret (results_none rfl _ _ _) rfl ?_
  exact ⟨rfl, rfl⟩
theorem sort_none (p : Option Addr) (cap : Nat) (fv : Value) (w : World) :
    Calls Tryz.prog 65 #[.slice p 0 cap, fv] w fun e w' => e = .returned (.tuple #[]) ∧ w = w' := by
  go_enter Tryz.func65, Tryz.ntmps65
  go_wp2_with (first | (go_at_call 88; refine (len_zero _).mono ?_; rintro e w' ⟨rfl, rfl⟩) | (go_at_call 87; refine (pdq_none p cap _ fv _).mono ?_; rintro e w' ⟨rfl, rfl⟩))
  go_end0
  exact ⟨rfl, rfl⟩

/-- slices.SortFunc, at every slice of the call's own. -/
theorem sort_any (A : Option Addr) (c base : Nat) (xs : List (Int × Int)) (w : World) (h : Row w base A c xs) (hf : Fits xs) (hl : xs.length ≤ 1000000000) :
    Calls Tryz.prog 65 #[.slice A xs.length c, .func (.func 66) #[] #[]] w fun e w' => e = .returned (.tuple #[]) ∧ ∃ ys : List (Int × Int), ys.Perm xs ∧ ys.Pairwise (fun x y => x.1 ≤ y.1) ∧ Spans w' A ys ∧ (∀ v : World, v.heap.size ≤ base → Below v.heap.size v w → Below v.heap.size v w') := by
  rcases h.forms with ⟨rfl, rfl, rfl⟩ | ⟨g, rfl, _⟩
  · refine (sort_none none 0 _ w).mono ?_
    rintro e w' ⟨rfl, rfl⟩
    exact ⟨rfl, [], List.Perm.nil, List.Pairwise.nil, Spans.nil _ _, fun _ _ h => h⟩
  · exact sort_some g c base xs w h hf hl
end Go.Proofs.YthdolmhnjinlhaaGreat

namespace Go.Proofs.YthdolmhnjinlhaaGreat
open Go.RowKit
set_option linter.unusedVariables false

theorem ret_slice {A : Option Addr} {a b c : Nat} (h : a = b) : Ending.returned (.slice A a c) = .returned (.slice A b c) := by rw [h]
/-- What a span has of all time, if that is anything. -/
def clip (s : Int × Int) : List (Int × Int) := if max s.1 0 < min s.2 32054400 then [(max s.1 0, min s.2 32054400)] else []
def keptL (l : List (Int × Int)) : List (Int × Int) := l.flatMap clip
theorem keptL_snoc (xs : List (Int × Int)) (k : Nat) (h : k < xs.length) : keptL (xs.take (k + 1)) = keptL (xs.take k) ++ clip (xs.getD k (0, 0)) := by
  unfold keptL
  rw [List.take_succ_eq_append_getElem h, List.flatMap_append]
  simp [List.getD, h]
theorem clip_len (s : Int × Int) : (clip s).length ≤ 1 := by unfold clip; split <;> simp
theorem keptL_len : ∀ l : List (Int × Int), (keptL l).length ≤ l.length
  | [] => by simp [keptL]
  | s :: l => by
    have := keptL_len l
    have := clip_len s
    simp only [keptL, List.flatMap_cons, List.length_append, List.length_cons] at *
    omega
theorem clip_ok (s x : Int × Int) (h : x ∈ clip s) : 0 ≤ x.1 ∧ x.1 < x.2 ∧ x.2 ≤ 32054400 := by
  unfold clip at h
  split at h
  · rw [List.mem_singleton.1 h]; simp only []; omega
  · cases h
theorem keptL_ok (l : List (Int × Int)) (x : Int × Int) (h : x ∈ keptL l) : 0 ≤ x.1 ∧ x.1 < x.2 ∧ x.2 ≤ 32054400 := by
  unfold keptL at h
  obtain ⟨s, _, hs⟩ := List.mem_flatMap.1 h
  exact clip_ok s x hs
theorem clip_in (s : Int × Int) (t : Int) : In (clip s) t ↔ 0 ≤ t ∧ t < 32054400 ∧ s.1 ≤ t ∧ t < s.2 := by
  unfold clip
  split
  · rw [in_one]; simp only []; omega
  · simp only [in_nil, false_iff]; omega
theorem keptL_in : ∀ (l : List (Int × Int)) (t : Int), In (keptL l) t ↔ 0 ≤ t ∧ t < 32054400 ∧ In l t
  | [], t => by simp [keptL, in_nil]
  | s :: l, t => by
    have e : keptL (s :: l) = clip s ++ keptL l := rfl
    rw [e, in_append, clip_in, keptL_in l t, in_cons]
    constructor
    · rintro (⟨a, b, c⟩ | ⟨a, b, c⟩)
      · exact ⟨a, b, .inl c⟩
      · exact ⟨a, b, .inr c⟩
    · rintro ⟨a, b, c | c⟩
      · exact .inl ⟨a, b, c⟩
      · exact .inr ⟨a, b, c⟩
theorem keptL_fits (l : List (Int × Int)) : Fits (keptL l) := fun x hx => by
  have := keptL_ok l x hx
  exact ⟨⟨by omega, by omega⟩, ⟨by omega, by omega⟩⟩

/-- The spans ys rise, lie within all time, and have xs's seconds. -/
def Rises (xs ys : List (Int × Int)) : Prop := ys.Pairwise (fun x y => x.1 ≤ y.1) ∧ (∀ y ∈ ys, 0 ≤ y.1 ∧ y.1 < y.2 ∧ y.2 ≤ 32054400) ∧ ys.length ≤ xs.length ∧ ∀ t, In ys t ↔ 0 ≤ t ∧ t < 32054400 ∧ In xs t
theorem rises_kept {xs ys : List (Int × Int)} (hp : ys.Perm (keptL xs)) (hs : ys.Pairwise (fun x y => x.1 ≤ y.1)) : Rises xs ys :=
  ⟨hs, fun y hy => keptL_ok xs y (hp.mem_iff.1 hy), by rw [hp.length_eq]; exact keptL_len xs, fun t => by
    rw [← keptL_in]
    constructor
    · rintro ⟨s, h1, h2⟩; exact ⟨s, hp.mem_iff.1 h1, h2⟩
    · rintro ⟨s, h1, h2⟩; exact ⟨s, hp.mem_iff.2 h1, h2⟩⟩

def Told (w : World) (xs : List (Int × Int)) (e : Ending) (w' : World) : Prop := ∃ B d ys, e = .returned (.slice B ys.length d) ∧ Rises xs ys ∧ Spans w' B ys ∧ Below w.heap.size w w'

theorem rising_any (A : Option Addr) (cap : Nat) (xs : List (Int × Int)) (w : World) (hx : Spans w A xs) (hl : xs.length ≤ 100000000) :
    Calls Tryz.prog 35 #[.slice A xs.length cap] w (Told w xs) := by
  have HX := Lib.hid hx
  clear hx
  go_enter Tryz.func35, Tryz.ntmps35
  go_wp2
  go_loopw [3, 8] (fun s i wr => ∃ (k : Nat) (B : Option Addr) (d : Nat) (L : List (Int × Int)), k ≤ xs.length ∧ i = .int .i64 k ∧ s = .slice B L.length d ∧ L.length ≤ k ∧ Hid (L = keptL (xs.take k)) ∧ Row wr w.heap.size B d L ∧ Below w.heap.size w wr) (fun _ i _ => xs.length - (intOf i).toNat)
  case atStart => exact ⟨0, none, 0, [], Nat.zero_le _, rfl, rfl, Nat.le_refl _, rfl, Row.nil _ _, Below.refl _ _⟩
  case round =>
    obtain ⟨k, B, d, L, hk, rfl, rfl, hnk, hn, hr, hbw⟩ := hrel
    by_cases hlt : k < xs.length
    · obtain ⟨b, off, rfl, hblt, c1, c2⟩ := (HX.out.below hbw).2 k hlt
      have HF := HX.out.1.at hlt
      have HS := Lib.hid (keptL_snoc xs k hlt)
      have hne : ∀ g, B = some g → g.block ≠ wr.heap.size := fun g hg => by have := (hr.lt g hg).2; omega
      have HN := Lib.hid hne
      have hws := hbw.size
      clear hne
      generalize xs.getD k (0, 0) = z at *
      obtain ⟨p, q⟩ := z
      simp only [] at *
      go_wp2
      go_region_with (first
        | (go_at_call 64; refine (allTime_any _).mono ?_; rintro e w1 ⟨rfl, hb1⟩; have R1 : Has w1 wr.heap.size #[.int .i64 p, .int .i64 q] := Has.below (show Has _ _ _ by (repeat' (first | with_reducible assumption | ((with_reducible refine Has.new _ _ _ ?_); (first | (with_reducible rfl) | (simp; done))) | with_reducible refine Has.alloc ?_ _ | with_reducible refine Has.drewN ?_ _ | with_reducible refine Has.drew ?_))) hb1; have hr1 := Row.below (show Row _ w.heap.size B d L by (repeat' (first | with_reducible assumption | with_reducible refine Row.alloc ?_ _ | with_reducible refine Row.drewN ?_ _ | with_reducible refine Row.drew ?_))) hb1; obtain ⟨e0, e1, e2, e3⟩ := R1.two; have z1 := R1.size; replace hb1 := bel_on (show Below w.heap.size w _ by (repeat' (first | with_reducible exact Below.refl _ _ | with_reducible assumption | with_reducible refine bel_alloc ?_ _ | with_reducible refine bel_set ?_ ?_ _ | with_reducible refine below_drewN ?_ _ | with_reducible refine below_drew ?_ | (simp; done) | (simp; omega) | omega))) hb1)
        | (go_at_call 62; refine (common_any _ _ _ _ _).mono ?_; rintro e w2 ⟨rfl, hb2⟩; have R2 : Has w2 wr.heap.size #[.int .i64 p, .int .i64 q] := Has.below (show Has _ _ _ by (repeat' (first | with_reducible assumption | ((with_reducible refine Has.new _ _ _ ?_); (first | (with_reducible rfl) | (simp; done))) | with_reducible refine Has.alloc ?_ _ | with_reducible refine Has.drewN ?_ _ | with_reducible refine Has.drew ?_))) hb2; have hr2 := Row.below (show Row _ w.heap.size B d L by (repeat' (first | with_reducible assumption | with_reducible refine Row.alloc ?_ _ | with_reducible refine Row.drewN ?_ _ | with_reducible refine Row.drew ?_))) hb2; obtain ⟨e4, e5, e6, e7⟩ := R2.two; have z2 := R2.size; replace hb2 := bel_on (show Below w.heap.size w _ by (repeat' (first | with_reducible exact Below.refl _ _ | with_reducible assumption | with_reducible refine bel_alloc ?_ _ | with_reducible refine bel_set ?_ ?_ _ | with_reducible refine below_drewN ?_ _ | with_reducible refine below_drew ?_ | (simp; done) | (simp; omega) | omega))) hb2))
      all_goals
        have R3 := (R2.set 0 (.int .i64 (max p 0))).set 1 (.int .i64 (min q 32054400))
        have hr3 := (hr2.far (p := ⟨wr.heap.size, 0, none⟩) HN.out (.int .i64 (max p 0))).far (p := ⟨wr.heap.size, 1, none⟩) HN.out (.int .i64 (min q 32054400))
        have hb3 := bel_set (bel_set hb2 (p := ⟨wr.heap.size, 0, none⟩) hws (.int .i64 (max p 0))) (p := ⟨wr.heap.size, 1, none⟩) hws (.int .i64 (min q 32054400))
        clear R2 hr2 hb2 e4 e5 e6 e7 z2 R1 hr1 hb1 e0 e1 e2 e3 z1 c1 c2 hblt hr HN
        generalize (w2.setCell ⟨wr.heap.size, 0, none⟩ (.int .i64 (max p 0))).setCell ⟨wr.heap.size, 1, none⟩ (.int .i64 (min q 32054400)) = w3 at *
        replace R3 : Has w3 wr.heap.size #[.int .i64 (max p 0), .int .i64 (min q 32054400)] := R3
        obtain ⟨e0, e1, e2, e3⟩ := R3.two
        have z3 := R3.size
        have hws3 := hb3.size
        by_cases hc : max p 0 < min q 32054400
        · have HC := Lib.hid (show clip (p, q) = [(max p 0, min q 32054400)] by unfold clip; rw [if_pos hc])
          obtain ⟨B', d', w4, hrun, hr4, hb4, hz4, _, _⟩ := row_push hr3 (max p 0) (min q 32054400) (by omega) hws3 rfl
          have HR := Lib.hid hrun
          have hb5 := hb4 w (Nat.le_refl _) hb3
          clear hrun hb4
          go_wp2_with (at_builtin; refine wpList_append_run HR.out rfl rfl rfl rfl ?_)
          go_roundw
          case rel => exact ⟨k + 1, B', d', _, by omega, by go_num, by rw [List.length_append]; rfl, by simp; omega, by show _ = _; rw [HS.out, HC.out, hn.out], hr4, hb5⟩
          case measure => simp [intOf]; omega
        · have HC := Lib.hid (show clip (p, q) = [] by unfold clip; rw [if_neg hc])
          go_wp2
          go_roundw
          case rel => exact ⟨k + 1, B, d, L, by omega, by go_num, rfl, by omega, by show _ = _; rw [HS.out, HC.out, hn.out, List.append_nil], hr3, hb3⟩
          case measure => simp [intOf]; omega
    · obtain rfl : k = xs.length := by omega
      have hn' := hn.out
      rw [List.take_length] at hn'
      have HN := Lib.hid hn'
      have hfit : Fits L := by rw [hn']; exact keptL_fits xs
      clear hn hn'
      go_wp2_with fail
      refine (sort_any B d w.heap.size L wr hr hfit (by omega)).mono ?_
      rintro e w2 ⟨rfl, ys, hp, hs, hsp, hb⟩
      have HB := Lib.hid (hb w (Nat.le_refl _) hbw)
      have HP := Lib.hid hp
      have HQ := Lib.hid hs
      have hlen : L.length = ys.length := hp.length_eq.symm
      have HL := Lib.hid hlen
      clear hb hp hs hlen
      go_wp2
      go_ret
      exact ⟨B, d, ys, ret_slice HL.out, rises_kept (by rw [← HN.out]; exact HP.out) HQ.out, hsp, HB.out⟩
end Go.Proofs.YthdolmhnjinlhaaGreat

namespace Go.Proofs.YthdolmhnjinlhaaGreat

/-- The ratio may be. -/
def mayB (n d : Int) : Bool := decide (-2147483647 ≤ n ∧ n ≤ 2147483647 ∧ 1 ≤ d ∧ d ≤ 2147483647 ∧ Int.gcd n d = 1)
/-- What Make tells: the error, and the two parts. -/
def mkC (n d : Int) : Int := if d ≤ 0 then 20 else if -2147483647 ≤ n / (Int.gcd n d : Int) ∧ n / (Int.gcd n d : Int) ≤ 2147483647 ∧ d / (Int.gcd n d : Int) ≤ 2147483647 then 0 else 10
def mkN (n d : Int) : Int := if mkC n d = 0 then n / (Int.gcd n d : Int) else 0
def mkD (n d : Int) : Int := if mkC n d = 0 then d / (Int.gcd n d : Int) else 0

theorem gcd_pos' {n d : Int} (h : 0 < d) : 0 < (Int.gcd n d : Int) := by
  have : 0 < Int.gcd n d := Int.gcd_pos_of_ne_zero_right n (by omega)
  omega
theorem gcd_n (n d : Int) : (Int.gcd n d : Int) * (n / (Int.gcd n d : Int)) = n := Int.mul_ediv_cancel' (Int.gcd_dvd_left n d)
theorem gcd_d (n d : Int) : (Int.gcd n d : Int) * (d / (Int.gcd n d : Int)) = d := Int.mul_ediv_cancel' (Int.gcd_dvd_right n d)
theorem low_d {n d : Int} (h : 0 < d) : 0 < d / (Int.gcd n d : Int) := by
  have h1 := gcd_d n d
  have h2 := gcd_pos' (n := n) h
  generalize hq : d / (Int.gcd n d : Int) = q at *
  generalize (Int.gcd n d : Int) = g at *
  rcases Int.lt_or_le 0 q with h3 | h3
  · exact h3
  · exfalso
    have : g * q ≤ g * 0 := Int.mul_le_mul_of_nonneg_left h3 (by omega)
    omega
theorem low_gcd {n d : Int} (h : 0 < d) : Int.gcd (n / (Int.gcd n d : Int)) (d / (Int.gcd n d : Int)) = 1 := by
  have h0 : 0 < Int.gcd n d := Int.gcd_pos_of_ne_zero_right n (by omega)
  rw [Int.gcd_ediv (Int.gcd_dvd_left n d) (Int.gcd_dvd_right n d)]
  simp
  exact Nat.div_self h0

theorem mkC_pos {n d : Int} (h : mkC n d = 0) : 0 < d := by
  unfold mkC at h
  split at h
  · omega
  · omega
theorem mk_may {n d : Int} (h : mkC n d = 0) : mayB (mkN n d) (mkD n d) = true := by
  have hd := mkC_pos h
  unfold mayB mkN mkD
  rw [if_pos h, if_pos h]
  have h' := h
  unfold mkC at h'
  rw [if_neg (by omega)] at h'
  split at h'
  · rename_i hb
    have := low_d (n := n) hd
    exact decide_eq_true ⟨hb.1, hb.2.1, by omega, hb.2.2, low_gcd hd⟩
  · omega
theorem mk_bad {n d : Int} (h : mkC n d ≠ 0) : mkN n d = 0 ∧ mkD n d = 0 := by
  unfold mkN mkD
  rw [if_neg h, if_neg h]
  exact ⟨rfl, rfl⟩
theorem may_bd {n d : Int} (h : mayB n d = true) : -2147483647 ≤ n ∧ n ≤ 2147483647 ∧ 1 ≤ d ∧ d ≤ 2147483647 ∧ Int.gcd n d = 1 := of_decide_eq_true h

theorem dvd_low {k n m : Int} (h : k ∣ n * m) (hg : Int.gcd k n = 1) : k ∣ m := by
  have h1 := Int.dvd_gcd_mul_iff_dvd_mul.2 h
  rw [hg] at h1
  simpa using h1
/-- What is as much, in lowest terms, is one. -/
theorem low_unique {x y p q : Int} (hy : 0 < y) (hq : 0 < q) (h1 : Int.gcd x y = 1) (h2 : Int.gcd p q = 1) (h : x * q = p * y) : x = p ∧ y = q := by
  have d1 : y ∣ q := by
    have : y ∣ x * q := ⟨p, by rw [h, Int.mul_comm]⟩
    exact dvd_low this (by rw [Int.gcd_comm]; exact h1)
  have d2 : q ∣ y := by
    have : q ∣ p * y := ⟨x, by rw [← h, Int.mul_comm]⟩
    exact dvd_low this (by rw [Int.gcd_comm]; exact h2)
  have e : y = q := Int.dvd_antisymm (by omega) (by omega) d1 d2
  subst e
  exact ⟨Int.eq_of_mul_eq_mul_right (by omega) h, rfl⟩

/-- A ratio that may be, and is as much as n through d, is what is told. -/
theorem mk_of {x y n d : Int} (hm : mayB x y = true) (hd : 0 < d) (h : x * d = n * y) : mkC n d = 0 ∧ mkN n d = x ∧ mkD n d = y := by
  obtain ⟨b1, b2, b3, b4, b5⟩ := may_bd hm
  have g1 := gcd_n n d
  have g2 := gcd_d n d
  have g3 := gcd_pos' (n := n) hd
  have g4 := low_gcd (n := n) hd
  have g5 := low_d (n := n) hd
  have hx : x * (d / (Int.gcd n d : Int)) = (n / (Int.gcd n d : Int)) * y := by
    generalize d / (Int.gcd n d : Int) = q at *
    generalize n / (Int.gcd n d : Int) = p at *
    generalize (Int.gcd n d : Int) = g at *
    rw [← g1, ← g2] at h
    have : g * (x * q) = g * (p * y) := by rw [Int.mul_left_comm, h, Int.mul_assoc]
    exact Int.eq_of_mul_eq_mul_left (by omega) this
  obtain ⟨e1, e2⟩ := low_unique (by omega) g5 b5 g4 hx
  have hc : mkC n d = 0 := by
    unfold mkC
    rw [if_neg (by omega), ← e1, ← e2, if_pos ⟨b1, b2, b4⟩]
  refine ⟨hc, ?_, ?_⟩
  · unfold mkN; rw [if_pos hc, ← e1]
  · unfold mkD; rw [if_pos hc, ← e2]
theorem mk_self {x y : Int} (hm : mayB x y = true) : mkC x y = 0 ∧ mkN x y = x ∧ mkD x y = y := mk_of hm (by have := may_bd hm; omega) rfl
end Go.Proofs.YthdolmhnjinlhaaGreat

namespace Go.Proofs.YthdolmhnjinlhaaGreat
set_option linter.unusedVariables false
set_option linter.unusedSimpArgs false

/-- A setup: its lists as rows of numbers. -/
structure SetP where
  places : Int
  ways : Rows2
  pn : Int
  pd : Int
  elements : Rows2
  classes : Rows2
  gears : Rows2
  allow : Int
  unit : Int
  cap : Int
  paid : Int
  aft : Int
  brk : Int
  reg : Int
  over : Int
  week : Int
  nfrom : Int
  nto : Int
  rates : List Int
  diff : Int
  least : Int
  fault : Int
  tiers : Rows2
def SetP.none : SetP := ⟨0, [], 0, 0, [], [], [], 0, 0, 0, 0, 0, 0, 0, 0, 0, 0, 0, [], 0, 0, 0, []⟩
/-- Its rows are as wide as they should. -/
structure SetP.Wide (s : SetP) : Prop where
  ways : ∀ r ∈ s.ways, r.length = 3
  elements : ∀ r ∈ s.elements, r.length = 4
  classes : ∀ r ∈ s.classes, r.length = 2
  gears : ∀ r ∈ s.gears, r.length = 2
  tiers : ∀ r ∈ s.tiers, r.length = 2
/-- A setup's numbers. -/
def SetP.nums (s : SetP) : List Int :=
  s.places :: (s.ways.length : Int) :: (s.ways.flatten ++ (s.pn :: s.pd :: (s.elements.length : Int) :: (s.elements.flatten ++ ((s.classes.length : Int) :: (s.classes.flatten ++ ((s.gears.length : Int) :: (s.gears.flatten ++
    (s.allow :: s.unit :: s.cap :: s.paid :: s.aft :: s.brk :: s.reg :: s.over :: s.week :: s.nfrom :: s.nto :: (s.rates.length : Int) :: (s.rates ++ (s.diff :: s.least :: s.fault :: (s.tiers.length : Int) :: s.tiers.flatten))))))))))
theorem flat_ones : ∀ l : List Int, (l.map fun n => [n]).flatten = l
  | [] => rfl
  | n :: l => by simp [flat_ones l]
/-! ### Which may be -/
def shareB (n d : Int) : Bool := mayB n d && decide (0 ≤ n)
def wayP (p : Int) (r : List Int) : Prop := 0 ≤ r.getD 0 0 ∧ 0 ≤ r.getD 1 0 ∧ r.getD 0 0 < p ∧ r.getD 1 0 < p ∧ r.getD 0 0 ≠ r.getD 1 0 ∧ 1 ≤ r.getD 2 0 ∧ r.getD 2 0 ≤ 10000
def eleP (r : List Int) : Prop := shareB (r.getD 0 0) (r.getD 1 0) = true ∧ shareB (r.getD 2 0) (r.getD 3 0) = true
def ratP (r : List Int) : Prop := shareB (r.getD 0 0) (r.getD 1 0) = true
def rateP (n : Int) : Prop := 0 ≤ n ∧ n ≤ 100000
def tierP (l : Rows2) (i : Nat) : Prop := 0 ≤ (l.getD i []).getD 0 0 ∧ (l.getD i []).getD 0 0 ≤ 1000 ∧ 0 ≤ (l.getD i []).getD 1 0 ∧ (l.getD i []).getD 1 0 ≤ 100000 ∧ (0 < i → (l.getD (i - 1) []).getD 0 0 < (l.getD i []).getD 0 0)
structure SetP.May (s : SetP) : Prop where
  places : 1 ≤ s.places ∧ s.places ≤ 16
  ways : s.ways.length ≤ 64 ∧ ∀ r ∈ s.ways, wayP s.places r
  pace : shareB s.pn s.pd = true
  elements : s.elements.length ≤ 8 ∧ ∀ r ∈ s.elements, eleP r
  classes : s.classes.length ≤ 8 ∧ ∀ r ∈ s.classes, ratP r
  gears : s.gears.length ≤ 8 ∧ ∀ r ∈ s.gears, ratP r
  allow : 0 ≤ s.allow ∧ s.allow ≤ 100
  unit : 1 ≤ s.unit ∧ s.unit ≤ 3600
  cap : 60 ≤ s.cap ∧ s.cap ≤ 57600
  paid : 0 ≤ s.paid ∧ s.paid ≤ 86400
  aft : 0 ≤ s.aft ∧ s.aft ≤ 86400
  brk : 0 ≤ s.brk ∧ s.brk ≤ 86400
  nfrom : 0 ≤ s.nfrom ∧ s.nfrom ≤ 86400
  nto : 0 ≤ s.nto ∧ s.nto ≤ 86400
  fault : 0 ≤ s.fault ∧ s.fault ≤ 86400
  reg : 0 ≤ s.reg ∧ s.reg ≤ s.over
  over : s.over ≤ 86400
  week : 0 ≤ s.week ∧ s.week ≤ 604800
  rates : 1 ≤ s.rates.length ∧ s.rates.length ≤ 16 ∧ ∀ n ∈ s.rates, rateP n
  diff : 0 ≤ s.diff ∧ s.diff ≤ 100000
  least : 0 ≤ s.least ∧ s.least ≤ 100000
  tiers : s.tiers.length ≤ 8 ∧ ∀ i, i < s.tiers.length → tierP s.tiers i
/-! ### As bytes -/
/-! ### Read -/
end Go.Proofs.YthdolmhnjinlhaaGreat

namespace Go.Proofs.YthdolmhnjinlhaaGreat
set_option linter.unusedVariables false
set_option linter.unusedSimpArgs false

theorem rows_len {k : Nat} : ∀ (t : Rows2), (∀ r ∈ t, r.length = k) → t.flatten.length = k * t.length
  | [], _ => by simp
  | r :: t, h => by
    have h1 := rows_len t (fun q hq => h q (by simp [hq]))
    have h2 := h r (by simp)
    rw [List.flatten_cons, List.length_append, h1, h2, List.length_cons, Nat.mul_add]
    omega
theorem rows_get {k : Nat} : ∀ (t : Rows2), (∀ r ∈ t, r.length = k) → ∀ i j, i < t.length → j < k → ∀ v : List Int, (t.flatten ++ v).getD (k * i + j) 0 = (t.getD i []).getD j 0
  | [], _, i, j, hi, _, v => by simp at hi
  | r :: t, h, i, j, hi, hj, v => by
    have h2 := h r (by simp)
    rw [List.flatten_cons, List.append_assoc]
    rcases i with _ | i
    · rw [Nat.mul_zero, Nat.zero_add, List.getD_eq_getElem?_getD, List.getElem?_append_left (by omega)]
      simp [List.getD]
    · have h3 := rows_get t (fun q hq => h q (by simp [hq])) i j (by simpa using hi) hj v
      rw [List.getD_eq_getElem?_getD, List.getElem?_append_right (by rw [h2, Nat.mul_add]; omega), h2, show k * (i + 1) + j - k = k * i + j by rw [Nat.mul_add]; omega, ← List.getD_eq_getElem?_getD, h3]
      simp [List.getD]
end Go.Proofs.YthdolmhnjinlhaaGreat

namespace Go.Proofs.YthdolmhnjinlhaaGreat
open Go.RowKit
set_option linter.unusedVariables false
/-- A slot that holds a value known. -/
def Fix (v x : Value) (w : World) : Prop := v = x
theorem Fix.below {v x : Value} {w w' : World} (h : Fix v x w) (_ : Below w.heap.size w w') : Fix v x w' := h

section
variable {P : Program} {ops : Array Oper} {Q : Exit → Act → World → Prop} {md : Region.Mode} {S : World → Prop}

/-- What the word I asks of one operation. -/
def StepAt (P : Program) (md : Region.Mode) (ops : Array Oper) (Q : Exit → Act → World → Prop) (I : Array Bool → Act → World → Prop) (i : Nat) (o : Oper) : Prop :=
  ∀ listed a w, I listed a w → listed.getD i true = false → (∀ e ∈ o.after.toList, Region.binds md e = true → listed.getD e.on false = true) →
    ∀ K' : Act → World → Prop, Shut (∀ a w, I (listed.setIfInBounds i true) a w → K' a w) → if Region.wanted o (yielded ops a.tmps) = true then Oper.wp P o a w K' Q else K' (a.put o.dst undef) w
def StepsFrom (P : Program) (md : Region.Mode) (ops : Array Oper) (Q : Exit → Act → World → Prop) (I : Array Bool → Act → World → Prop) (k : Nat) (os : List Oper) : Prop :=
  ∀ j o, os[j]? = some o → StepAt P md ops Q I (k + j) o
theorem StepsFrom.nil {I : Array Bool → Act → World → Prop} {k : Nat} : StepsFrom P md ops Q I k [] := fun j o h => by simp at h
theorem StepsFrom.cons {I : Array Bool → Act → World → Prop} {k : Nat} {o : Oper} {os : List Oper} (h : StepAt P md ops Q I k o) (hs : StepsFrom P md ops Q I (k + 1) os) : StepsFrom P md ops Q I k (o :: os) := fun j p hp => by
  rcases j with _ | j
  · simp at hp; subst hp; exact h
  · have := hs j p (by simpa using hp)
    rwa [Nat.add_right_comm] at this

end
end Go.Proofs.YthdolmhnjinlhaaGreat

namespace Go.Proofs.YthdolmhnjinlhaaGreat
open Go.RowKit
set_option linter.unusedVariables false

/-- A slice of the call's own, that lies at 'base' or behind, and holds the bytes xs. -/
def BRow (w : World) (base : Nat) (A : Option Addr) (c : Nat) (xs : List (BitVec 8)) : Prop :=
  w.ownsRow base 5 1 (.slice A xs.length c) xs.length (bytesV xs)
section
variable {w w' : World} {base c : Nat} {A : Option Addr} {xs : List (BitVec 8)}
theorem BRow.nil (w : World) (base : Nat) : BRow w base none 0 [] := World.ownsRow_nil w base _ _
theorem BRow.keep (h : BRow w base A c xs) (hk : ∀ g, A = some g → w'.heap[g.block]? = w.heap[g.block]?) : BRow w' base A c xs := by
  obtain ⟨hl, hn | ⟨g, cap, cur, hv, hg, hh, rest⟩⟩ := h
  · exact ⟨hl, .inl hn⟩
  · injection hv with e1 e2 e3
    subst e1
    exact ⟨hl, .inr ⟨g, cap, cur, by rw [e3], hg, (hk _ rfl).trans hh, rest⟩⟩
theorem BRow.lt (h : BRow w base A c xs) : ∀ g, A = some g → base ≤ g.block ∧ g.block < w.heap.size := by
  rintro g rfl
  exact World.ownsRow.lt h _ rfl
theorem BRow.below (h : BRow w base A c xs) (hb : Below w.heap.size w w') : BRow w' base A c xs :=
  h.keep fun g hg => hb.block _ (h.lt g hg).2
theorem BRow.alloc (h : BRow w base A c xs) (o : Obj) : BRow (w.alloc o) base A c xs := World.ownsRow.alloc h o
theorem BRow.drewN (h : BRow w base A c xs) (n : Nat) : BRow (w.drewN n) base A c xs := h
theorem BRow.drew (h : BRow w base A c xs) : BRow w.drew base A c xs := h
theorem BRow.mono (h : BRow w base A c xs) {b : Nat} (hb : b ≤ base) : BRow w b A c xs := by
  obtain ⟨hl, hn | ⟨g, cap, cur, hv, hg, rest⟩⟩ := h
  · exact ⟨hl, .inl hn⟩
  · exact ⟨hl, .inr ⟨g, cap, cur, hv, by omega, rest⟩⟩
theorem BRow.forms (h : BRow w base A c xs) : (A = none ∧ xs = [] ∧ c = 0) ∨ ∃ g, A = some ⟨g, 0, none⟩ ∧ base ≤ g ∧ g < w.heap.size ∧ xs.length ≤ c ∧ c ≤ maxLen := by
  have hlt := h.lt
  obtain ⟨hl, ⟨hv, hz⟩ | ⟨g, cap, cur, hv, hb, hh, hc, hm, _⟩⟩ := h
  · injection hv with e1 e2 e3
    exact .inl ⟨e1, List.eq_nil_of_length_eq_zero hz, e3⟩
  · injection hv with e1 e2 e3
    subst e1 e3
    exact .inr ⟨g, rfl, hb, (hlt _ rfl).2, hc, hm⟩
theorem BRow.form (h : BRow w base A c xs) (hn : xs ≠ []) : ∃ g, A = some ⟨g, 0, none⟩ := by
  rcases h.forms with ⟨_, e, _⟩ | ⟨g, e, _⟩
  · exact absurd e hn
  · exact ⟨g, e⟩
theorem BRow.sl (h : BRow w base A c xs) : Sl 1 w A xs.length c (bytesV xs) := Sl.of_own h
theorem BRow.set {g : Nat} (h : BRow w base (some ⟨g, 0, none⟩) c xs) {k : Nat} (hk : k < xs.length) (x : BitVec 8) : BRow (w.setCell ⟨g, k, none⟩ (v8 x)) base (some ⟨g, 0, none⟩) c (xs.set k x) := by
  have := (World.ownsRow.stored h k (v8 x)).1
  unfold BRow
  rw [List.length_set]
  have e : bytesV (xs.set k x) = (bytesV xs).set k (v8 x) := by simp [bytesV, List.map_set]
  rw [e]
  exact this
end

theorem BRow.cap_le {w : World} {base c : Nat} {A : Option Addr} {xs : List (BitVec 8)} (h : BRow w base A c xs) {n : Nat} (hn : xs.length = n) : n ≤ c := by
  subst hn
  rcases h.forms with ⟨_, rfl, _⟩ | ⟨g, _, _, _, h, _⟩
  · simp
  · exact h
theorem BRow.slAt {w : World} {base c : Nat} {A : Option Addr} {xs : List (BitVec 8)} (h : BRow w base A c xs) {n : Nat} (hn : xs.length = n) : Sl 1 w A n c (bytesV xs) := by
  subst hn
  exact h.sl
end Go.Proofs.YthdolmhnjinlhaaGreat

namespace Go.Proofs.YthdolmhnjinlhaaGreat
open Go.RowKit
set_option linter.unusedVariables false

/-- What a call that tells bytes answers: a slice of its own. -/
def TellsB (w : World) (xs : List (BitVec 8)) (v : Value) (w' : World) : Prop := ∃ A c, v = .slice A xs.length c ∧ BRow w' w.heap.size A c xs
theorem TellsB.below {w w' w'' : World} {xs : List (BitVec 8)} {v : Value} (h : TellsB w xs v w') (hb : Below w'.heap.size w' w'') : TellsB w xs v w'' := by
  obtain ⟨A, c, e, hr⟩ := h
  exact ⟨A, c, e, hr.below hb⟩
end Go.Proofs.YthdolmhnjinlhaaGreat

namespace Go.Proofs.YthdolmhnjinlhaaGreat
set_option linter.unusedVariables false
set_option linter.unusedSimpArgs false

structure SegP where
  fr : Int
  to : Int
  kd : Int
  id : Int
  cd : Int
  deriving DecidableEq
/-! ### Sessions rise -/
/-! ### Parts -/
end Go.Proofs.YthdolmhnjinlhaaGreat
