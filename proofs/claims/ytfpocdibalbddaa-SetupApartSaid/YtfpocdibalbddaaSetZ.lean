/-
  lumperlaw07.with: a setup with one of its numbers another one.
-/
import Derived.Test.YtfpocdibalbddaaSetY
namespace Go.Proofs.Ytfpocdibalbddaa
open Go.RowKit
set_option linter.unusedVariables false
set_option linter.unusedSimpArgs false
set_option maxRecDepth 20000

def SetP.put (s : SetP) (k : Nat) (n : Int) : SetP :=
  match k with
  | 0 => { s with places := n }
  | 1 => { s with allow := n }
  | 2 => { s with unit := n }
  | 3 => { s with cap := n }
  | 4 => { s with paid := n }
  | 5 => { s with aft := n }
  | 6 => { s with brk := n }
  | 7 => { s with reg := n }
  | 8 => { s with over := n }
  | 9 => { s with week := n }
  | 10 => { s with nfrom := n }
  | 11 => { s with nto := n }
  | 12 => { s with diff := n }
  | 13 => { s with least := n }
  | _ => { s with fault := n }
theorem put_at {w : World} {s : SetP} {A1 A2 A3 A4 A5 A6 : Option Addr} {c1 c2 c3 c4 c5 c6 : Nat} (h : SetAt w s A1 A2 A3 A4 A5 A6 c1 c2 c3 c4 c5 c6) (k : Nat) (n : Int) : SetAt w (s.put k n) A1 A2 A3 A4 A5 A6 c1 c2 c3 c4 c5 c6 := by
  unfold SetP.put
  split <;> exact ⟨h.ways, h.elements, h.classes, h.gears, h.rates, h.tiers⟩
theorem put_fit {s : SetP} (h : s.Fit) (k : Nat) {n : Int} (hn : In64 n) : (s.put k n).Fit := by
  obtain ⟨h0, h1, h2, h3, h4, h5, h6, h7, h8, h9, h10, h11, h12, h13, h14, h15, h16⟩ := h
  unfold SetP.put
  split <;> (constructor <;> assumption)
theorem sput_bad {s : SetP} (h : s.May) (k : Nat) (hk : k < 15) {n : Int} (hn : n = -1 ∨ n = 604801) : ¬ (s.put k n).May := by
  intro hm
  rcases (show k = 0 ∨ k = 1 ∨ k = 2 ∨ k = 3 ∨ k = 4 ∨ k = 5 ∨ k = 6 ∨ k = 7 ∨ k = 8 ∨ k = 9 ∨ k = 10 ∨ k = 11 ∨ k = 12 ∨ k = 13 ∨ k = 14 by omega) with rfl | rfl | rfl | rfl | rfl | rfl | rfl | rfl | rfl | rfl | rfl | rfl | rfl | rfl | rfl
  · have q0 := hm.places.1; have q1 := hm.places.2; simp only [SetP.put] at q0 q1; omega
  · have q0 := hm.allow.1; have q1 := hm.allow.2; simp only [SetP.put] at q0 q1; omega
  · have q0 := hm.unit.1; have q1 := hm.unit.2; simp only [SetP.put] at q0 q1; omega
  · have q0 := hm.cap.1; have q1 := hm.cap.2; simp only [SetP.put] at q0 q1; omega
  · have q0 := hm.paid.1; have q1 := hm.paid.2; simp only [SetP.put] at q0 q1; omega
  · have q0 := hm.aft.1; have q1 := hm.aft.2; simp only [SetP.put] at q0 q1; omega
  · have q0 := hm.brk.1; have q1 := hm.brk.2; simp only [SetP.put] at q0 q1; omega
  · have q0 := hm.reg.1; have q1 := hm.reg.2; have q2 := hm.over; simp only [SetP.put] at q0 q1 q2; omega
  · have q0 := hm.over; have q1 := Int.le_trans hm.reg.1 hm.reg.2; simp only [SetP.put] at q0 q1; omega
  · have q0 := hm.week.1; have q1 := hm.week.2; simp only [SetP.put] at q0 q1; omega
  · have q0 := hm.nfrom.1; have q1 := hm.nfrom.2; simp only [SetP.put] at q0 q1; omega
  · have q0 := hm.nto.1; have q1 := hm.nto.2; simp only [SetP.put] at q0 q1; omega
  · have q0 := hm.diff.1; have q1 := hm.diff.2; simp only [SetP.put] at q0 q1; omega
  · have q0 := hm.least.1; have q1 := hm.least.2; simp only [SetP.put] at q0 q1; omega
  · have q0 := hm.fault.1; have q1 := hm.fault.2; simp only [SetP.put] at q0 q1; omega
set_option maxHeartbeats 2000000 in
theorem with_places {w : World} {s : SetP} {cs : Array Value} (h : SetC w s cs) (x n : Int) (hx : x.tmod 15 = 0) :
    Calls Try.prog 18 #[.agg cs, .int .u8 x, .int .i64 n] w fun e w' => ∃ cs, e = .returned (.agg cs) ∧ SetC w' (s.put 0 n) cs ∧ Below w.heap.size w w' := by
  obtain ⟨A1, A2, A3, A4, A5, A6, c1, c2, c3, c4, c5, c6, h1, h2⟩ := h
  unfold setV at h1
  injection h1 with h1
  subst h1
  have H2 := Lib.hid h2
  obtain ⟨cs, hcs⟩ : ∃ cs, setV (s.put 0 n) A1 A2 A3 A4 A5 A6 c1 c2 c3 c4 c5 c6 = .agg cs := ⟨_, rfl⟩
  have HC := Lib.hid hcs
  obtain ⟨hz1, hz2⟩ := setV_cells _ _ _ _ _ _ _ _ _ _ _ _ _ _ hcs
  have HZ1 := Lib.hid hz1
  have HZ2 := Lib.hid hz2
  unfold setV at hcs
  injection hcs with hcs
  have HE := Lib.hid hcs
  clear h2 hz1 hz2 hcs
  go_enter Try.func18, Try.ntmps18
  go_wp2_with (first | refine wpList_load_has (by rfl) _ rfl w.heap.size rfl cs (by rw [← HE.out]; exact (Has.new _ _ _ rfl).alloc _) HZ1.out ?_ | refine wpList_store_has rfl _ _ rfl (w.heap.size + 1) cs rfl rfl z23 (Has.new _ _ _ (by simp)) rfl HZ1.out HZ2.out ?_)
  refine bodyPost_ret (agg_run Try.results18 _ _ (w.heap.size + 1) cs rfl (has_setRow (Has.new _ _ z23 (by simp))) HZ1.out) rfl ?_
  refine ⟨cs, rfl, ⟨A1, A2, A3, A4, A5, A6, c1, c2, c3, c4, c5, c6, HC.out, put_at (H2.out.below ?_) 0 n⟩, ?_⟩ <;>
    exact below_setRow (bel_alloc (bel_alloc (Below.refl _ _) _) _) (Nat.le_succ _) _
set_option maxHeartbeats 2000000 in
theorem with_allow {w : World} {s : SetP} {cs : Array Value} (h : SetC w s cs) (x n : Int) (hx : x.tmod 15 = 1) :
    Calls Try.prog 18 #[.agg cs, .int .u8 x, .int .i64 n] w fun e w' => ∃ cs, e = .returned (.agg cs) ∧ SetC w' (s.put 1 n) cs ∧ Below w.heap.size w w' := by
  obtain ⟨A1, A2, A3, A4, A5, A6, c1, c2, c3, c4, c5, c6, h1, h2⟩ := h
  unfold setV at h1
  injection h1 with h1
  subst h1
  have H2 := Lib.hid h2
  obtain ⟨cs, hcs⟩ : ∃ cs, setV (s.put 1 n) A1 A2 A3 A4 A5 A6 c1 c2 c3 c4 c5 c6 = .agg cs := ⟨_, rfl⟩
  have HC := Lib.hid hcs
  obtain ⟨hz1, hz2⟩ := setV_cells _ _ _ _ _ _ _ _ _ _ _ _ _ _ hcs
  have HZ1 := Lib.hid hz1
  have HZ2 := Lib.hid hz2
  unfold setV at hcs
  injection hcs with hcs
  have HE := Lib.hid hcs
  clear h2 hz1 hz2 hcs
  go_enter Try.func18, Try.ntmps18
  go_wp2_with (first | refine wpList_load_has (by rfl) _ rfl w.heap.size rfl cs (by rw [← HE.out]; exact (Has.new _ _ _ rfl).alloc _) HZ1.out ?_ | refine wpList_store_has rfl _ _ rfl (w.heap.size + 1) cs rfl rfl z23 (Has.new _ _ _ (by simp)) rfl HZ1.out HZ2.out ?_)
  refine bodyPost_ret (agg_run Try.results18 _ _ (w.heap.size + 1) cs rfl (has_setRow (Has.new _ _ z23 (by simp))) HZ1.out) rfl ?_
  refine ⟨cs, rfl, ⟨A1, A2, A3, A4, A5, A6, c1, c2, c3, c4, c5, c6, HC.out, put_at (H2.out.below ?_) 1 n⟩, ?_⟩ <;>
    exact below_setRow (bel_alloc (bel_alloc (Below.refl _ _) _) _) (Nat.le_succ _) _
set_option maxHeartbeats 2000000 in
theorem with_unit {w : World} {s : SetP} {cs : Array Value} (h : SetC w s cs) (x n : Int) (hx : x.tmod 15 = 2) :
    Calls Try.prog 18 #[.agg cs, .int .u8 x, .int .i64 n] w fun e w' => ∃ cs, e = .returned (.agg cs) ∧ SetC w' (s.put 2 n) cs ∧ Below w.heap.size w w' := by
  obtain ⟨A1, A2, A3, A4, A5, A6, c1, c2, c3, c4, c5, c6, h1, h2⟩ := h
  unfold setV at h1
  injection h1 with h1
  subst h1
  have H2 := Lib.hid h2
  obtain ⟨cs, hcs⟩ : ∃ cs, setV (s.put 2 n) A1 A2 A3 A4 A5 A6 c1 c2 c3 c4 c5 c6 = .agg cs := ⟨_, rfl⟩
  have HC := Lib.hid hcs
  obtain ⟨hz1, hz2⟩ := setV_cells _ _ _ _ _ _ _ _ _ _ _ _ _ _ hcs
  have HZ1 := Lib.hid hz1
  have HZ2 := Lib.hid hz2
  unfold setV at hcs
  injection hcs with hcs
  have HE := Lib.hid hcs
  clear h2 hz1 hz2 hcs
  go_enter Try.func18, Try.ntmps18
  go_wp2_with (first | refine wpList_load_has (by rfl) _ rfl w.heap.size rfl cs (by rw [← HE.out]; exact (Has.new _ _ _ rfl).alloc _) HZ1.out ?_ | refine wpList_store_has rfl _ _ rfl (w.heap.size + 1) cs rfl rfl z23 (Has.new _ _ _ (by simp)) rfl HZ1.out HZ2.out ?_)
  refine bodyPost_ret (agg_run Try.results18 _ _ (w.heap.size + 1) cs rfl (has_setRow (Has.new _ _ z23 (by simp))) HZ1.out) rfl ?_
  refine ⟨cs, rfl, ⟨A1, A2, A3, A4, A5, A6, c1, c2, c3, c4, c5, c6, HC.out, put_at (H2.out.below ?_) 2 n⟩, ?_⟩ <;>
    exact below_setRow (bel_alloc (bel_alloc (Below.refl _ _) _) _) (Nat.le_succ _) _
set_option maxHeartbeats 2000000 in
theorem with_cap {w : World} {s : SetP} {cs : Array Value} (h : SetC w s cs) (x n : Int) (hx : x.tmod 15 = 3) :
    Calls Try.prog 18 #[.agg cs, .int .u8 x, .int .i64 n] w fun e w' => ∃ cs, e = .returned (.agg cs) ∧ SetC w' (s.put 3 n) cs ∧ Below w.heap.size w w' := by
  obtain ⟨A1, A2, A3, A4, A5, A6, c1, c2, c3, c4, c5, c6, h1, h2⟩ := h
  unfold setV at h1
  injection h1 with h1
  subst h1
  have H2 := Lib.hid h2
  obtain ⟨cs, hcs⟩ : ∃ cs, setV (s.put 3 n) A1 A2 A3 A4 A5 A6 c1 c2 c3 c4 c5 c6 = .agg cs := ⟨_, rfl⟩
  have HC := Lib.hid hcs
  obtain ⟨hz1, hz2⟩ := setV_cells _ _ _ _ _ _ _ _ _ _ _ _ _ _ hcs
  have HZ1 := Lib.hid hz1
  have HZ2 := Lib.hid hz2
  unfold setV at hcs
  injection hcs with hcs
  have HE := Lib.hid hcs
  clear h2 hz1 hz2 hcs
  go_enter Try.func18, Try.ntmps18
  go_wp2_with (first | refine wpList_load_has (by rfl) _ rfl w.heap.size rfl cs (by rw [← HE.out]; exact (Has.new _ _ _ rfl).alloc _) HZ1.out ?_ | refine wpList_store_has rfl _ _ rfl (w.heap.size + 1) cs rfl rfl z23 (Has.new _ _ _ (by simp)) rfl HZ1.out HZ2.out ?_)
  refine bodyPost_ret (agg_run Try.results18 _ _ (w.heap.size + 1) cs rfl (has_setRow (Has.new _ _ z23 (by simp))) HZ1.out) rfl ?_
  refine ⟨cs, rfl, ⟨A1, A2, A3, A4, A5, A6, c1, c2, c3, c4, c5, c6, HC.out, put_at (H2.out.below ?_) 3 n⟩, ?_⟩ <;>
    exact below_setRow (bel_alloc (bel_alloc (Below.refl _ _) _) _) (Nat.le_succ _) _
set_option maxHeartbeats 2000000 in
theorem with_paid {w : World} {s : SetP} {cs : Array Value} (h : SetC w s cs) (x n : Int) (hx : x.tmod 15 = 4) :
    Calls Try.prog 18 #[.agg cs, .int .u8 x, .int .i64 n] w fun e w' => ∃ cs, e = .returned (.agg cs) ∧ SetC w' (s.put 4 n) cs ∧ Below w.heap.size w w' := by
  obtain ⟨A1, A2, A3, A4, A5, A6, c1, c2, c3, c4, c5, c6, h1, h2⟩ := h
  unfold setV at h1
  injection h1 with h1
  subst h1
  have H2 := Lib.hid h2
  obtain ⟨cs, hcs⟩ : ∃ cs, setV (s.put 4 n) A1 A2 A3 A4 A5 A6 c1 c2 c3 c4 c5 c6 = .agg cs := ⟨_, rfl⟩
  have HC := Lib.hid hcs
  obtain ⟨hz1, hz2⟩ := setV_cells _ _ _ _ _ _ _ _ _ _ _ _ _ _ hcs
  have HZ1 := Lib.hid hz1
  have HZ2 := Lib.hid hz2
  unfold setV at hcs
  injection hcs with hcs
  have HE := Lib.hid hcs
  clear h2 hz1 hz2 hcs
  go_enter Try.func18, Try.ntmps18
  go_wp2_with (first | refine wpList_load_has (by rfl) _ rfl w.heap.size rfl cs (by rw [← HE.out]; exact (Has.new _ _ _ rfl).alloc _) HZ1.out ?_ | refine wpList_store_has rfl _ _ rfl (w.heap.size + 1) cs rfl rfl z23 (Has.new _ _ _ (by simp)) rfl HZ1.out HZ2.out ?_)
  refine bodyPost_ret (agg_run Try.results18 _ _ (w.heap.size + 1) cs rfl (has_setRow (Has.new _ _ z23 (by simp))) HZ1.out) rfl ?_
  refine ⟨cs, rfl, ⟨A1, A2, A3, A4, A5, A6, c1, c2, c3, c4, c5, c6, HC.out, put_at (H2.out.below ?_) 4 n⟩, ?_⟩ <;>
    exact below_setRow (bel_alloc (bel_alloc (Below.refl _ _) _) _) (Nat.le_succ _) _
set_option maxHeartbeats 2000000 in
theorem with_aft {w : World} {s : SetP} {cs : Array Value} (h : SetC w s cs) (x n : Int) (hx : x.tmod 15 = 5) :
    Calls Try.prog 18 #[.agg cs, .int .u8 x, .int .i64 n] w fun e w' => ∃ cs, e = .returned (.agg cs) ∧ SetC w' (s.put 5 n) cs ∧ Below w.heap.size w w' := by
  obtain ⟨A1, A2, A3, A4, A5, A6, c1, c2, c3, c4, c5, c6, h1, h2⟩ := h
  unfold setV at h1
  injection h1 with h1
  subst h1
  have H2 := Lib.hid h2
  obtain ⟨cs, hcs⟩ : ∃ cs, setV (s.put 5 n) A1 A2 A3 A4 A5 A6 c1 c2 c3 c4 c5 c6 = .agg cs := ⟨_, rfl⟩
  have HC := Lib.hid hcs
  obtain ⟨hz1, hz2⟩ := setV_cells _ _ _ _ _ _ _ _ _ _ _ _ _ _ hcs
  have HZ1 := Lib.hid hz1
  have HZ2 := Lib.hid hz2
  unfold setV at hcs
  injection hcs with hcs
  have HE := Lib.hid hcs
  clear h2 hz1 hz2 hcs
  go_enter Try.func18, Try.ntmps18
  go_wp2_with (first | refine wpList_load_has (by rfl) _ rfl w.heap.size rfl cs (by rw [← HE.out]; exact (Has.new _ _ _ rfl).alloc _) HZ1.out ?_ | refine wpList_store_has rfl _ _ rfl (w.heap.size + 1) cs rfl rfl z23 (Has.new _ _ _ (by simp)) rfl HZ1.out HZ2.out ?_)
  refine bodyPost_ret (agg_run Try.results18 _ _ (w.heap.size + 1) cs rfl (has_setRow (Has.new _ _ z23 (by simp))) HZ1.out) rfl ?_
  refine ⟨cs, rfl, ⟨A1, A2, A3, A4, A5, A6, c1, c2, c3, c4, c5, c6, HC.out, put_at (H2.out.below ?_) 5 n⟩, ?_⟩ <;>
    exact below_setRow (bel_alloc (bel_alloc (Below.refl _ _) _) _) (Nat.le_succ _) _
set_option maxHeartbeats 2000000 in
theorem with_brk {w : World} {s : SetP} {cs : Array Value} (h : SetC w s cs) (x n : Int) (hx : x.tmod 15 = 6) :
    Calls Try.prog 18 #[.agg cs, .int .u8 x, .int .i64 n] w fun e w' => ∃ cs, e = .returned (.agg cs) ∧ SetC w' (s.put 6 n) cs ∧ Below w.heap.size w w' := by
  obtain ⟨A1, A2, A3, A4, A5, A6, c1, c2, c3, c4, c5, c6, h1, h2⟩ := h
  unfold setV at h1
  injection h1 with h1
  subst h1
  have H2 := Lib.hid h2
  obtain ⟨cs, hcs⟩ : ∃ cs, setV (s.put 6 n) A1 A2 A3 A4 A5 A6 c1 c2 c3 c4 c5 c6 = .agg cs := ⟨_, rfl⟩
  have HC := Lib.hid hcs
  obtain ⟨hz1, hz2⟩ := setV_cells _ _ _ _ _ _ _ _ _ _ _ _ _ _ hcs
  have HZ1 := Lib.hid hz1
  have HZ2 := Lib.hid hz2
  unfold setV at hcs
  injection hcs with hcs
  have HE := Lib.hid hcs
  clear h2 hz1 hz2 hcs
  go_enter Try.func18, Try.ntmps18
  go_wp2_with (first | refine wpList_load_has (by rfl) _ rfl w.heap.size rfl cs (by rw [← HE.out]; exact (Has.new _ _ _ rfl).alloc _) HZ1.out ?_ | refine wpList_store_has rfl _ _ rfl (w.heap.size + 1) cs rfl rfl z23 (Has.new _ _ _ (by simp)) rfl HZ1.out HZ2.out ?_)
  refine bodyPost_ret (agg_run Try.results18 _ _ (w.heap.size + 1) cs rfl (has_setRow (Has.new _ _ z23 (by simp))) HZ1.out) rfl ?_
  refine ⟨cs, rfl, ⟨A1, A2, A3, A4, A5, A6, c1, c2, c3, c4, c5, c6, HC.out, put_at (H2.out.below ?_) 6 n⟩, ?_⟩ <;>
    exact below_setRow (bel_alloc (bel_alloc (Below.refl _ _) _) _) (Nat.le_succ _) _
set_option maxHeartbeats 2000000 in
theorem with_reg {w : World} {s : SetP} {cs : Array Value} (h : SetC w s cs) (x n : Int) (hx : x.tmod 15 = 7) :
    Calls Try.prog 18 #[.agg cs, .int .u8 x, .int .i64 n] w fun e w' => ∃ cs, e = .returned (.agg cs) ∧ SetC w' (s.put 7 n) cs ∧ Below w.heap.size w w' := by
  obtain ⟨A1, A2, A3, A4, A5, A6, c1, c2, c3, c4, c5, c6, h1, h2⟩ := h
  unfold setV at h1
  injection h1 with h1
  subst h1
  have H2 := Lib.hid h2
  obtain ⟨cs, hcs⟩ : ∃ cs, setV (s.put 7 n) A1 A2 A3 A4 A5 A6 c1 c2 c3 c4 c5 c6 = .agg cs := ⟨_, rfl⟩
  have HC := Lib.hid hcs
  obtain ⟨hz1, hz2⟩ := setV_cells _ _ _ _ _ _ _ _ _ _ _ _ _ _ hcs
  have HZ1 := Lib.hid hz1
  have HZ2 := Lib.hid hz2
  unfold setV at hcs
  injection hcs with hcs
  have HE := Lib.hid hcs
  clear h2 hz1 hz2 hcs
  go_enter Try.func18, Try.ntmps18
  go_wp2_with (first | refine wpList_load_has (by rfl) _ rfl w.heap.size rfl cs (by rw [← HE.out]; exact (Has.new _ _ _ rfl).alloc _) HZ1.out ?_ | refine wpList_store_has rfl _ _ rfl (w.heap.size + 1) cs rfl rfl z23 (Has.new _ _ _ (by simp)) rfl HZ1.out HZ2.out ?_)
  refine bodyPost_ret (agg_run Try.results18 _ _ (w.heap.size + 1) cs rfl (has_setRow (Has.new _ _ z23 (by simp))) HZ1.out) rfl ?_
  refine ⟨cs, rfl, ⟨A1, A2, A3, A4, A5, A6, c1, c2, c3, c4, c5, c6, HC.out, put_at (H2.out.below ?_) 7 n⟩, ?_⟩ <;>
    exact below_setRow (bel_alloc (bel_alloc (Below.refl _ _) _) _) (Nat.le_succ _) _
set_option maxHeartbeats 2000000 in
theorem with_over {w : World} {s : SetP} {cs : Array Value} (h : SetC w s cs) (x n : Int) (hx : x.tmod 15 = 8) :
    Calls Try.prog 18 #[.agg cs, .int .u8 x, .int .i64 n] w fun e w' => ∃ cs, e = .returned (.agg cs) ∧ SetC w' (s.put 8 n) cs ∧ Below w.heap.size w w' := by
  obtain ⟨A1, A2, A3, A4, A5, A6, c1, c2, c3, c4, c5, c6, h1, h2⟩ := h
  unfold setV at h1
  injection h1 with h1
  subst h1
  have H2 := Lib.hid h2
  obtain ⟨cs, hcs⟩ : ∃ cs, setV (s.put 8 n) A1 A2 A3 A4 A5 A6 c1 c2 c3 c4 c5 c6 = .agg cs := ⟨_, rfl⟩
  have HC := Lib.hid hcs
  obtain ⟨hz1, hz2⟩ := setV_cells _ _ _ _ _ _ _ _ _ _ _ _ _ _ hcs
  have HZ1 := Lib.hid hz1
  have HZ2 := Lib.hid hz2
  unfold setV at hcs
  injection hcs with hcs
  have HE := Lib.hid hcs
  clear h2 hz1 hz2 hcs
  go_enter Try.func18, Try.ntmps18
  go_wp2_with (first | refine wpList_load_has (by rfl) _ rfl w.heap.size rfl cs (by rw [← HE.out]; exact (Has.new _ _ _ rfl).alloc _) HZ1.out ?_ | refine wpList_store_has rfl _ _ rfl (w.heap.size + 1) cs rfl rfl z23 (Has.new _ _ _ (by simp)) rfl HZ1.out HZ2.out ?_)
  refine bodyPost_ret (agg_run Try.results18 _ _ (w.heap.size + 1) cs rfl (has_setRow (Has.new _ _ z23 (by simp))) HZ1.out) rfl ?_
  refine ⟨cs, rfl, ⟨A1, A2, A3, A4, A5, A6, c1, c2, c3, c4, c5, c6, HC.out, put_at (H2.out.below ?_) 8 n⟩, ?_⟩ <;>
    exact below_setRow (bel_alloc (bel_alloc (Below.refl _ _) _) _) (Nat.le_succ _) _
set_option maxHeartbeats 2000000 in
theorem with_week {w : World} {s : SetP} {cs : Array Value} (h : SetC w s cs) (x n : Int) (hx : x.tmod 15 = 9) :
    Calls Try.prog 18 #[.agg cs, .int .u8 x, .int .i64 n] w fun e w' => ∃ cs, e = .returned (.agg cs) ∧ SetC w' (s.put 9 n) cs ∧ Below w.heap.size w w' := by
  obtain ⟨A1, A2, A3, A4, A5, A6, c1, c2, c3, c4, c5, c6, h1, h2⟩ := h
  unfold setV at h1
  injection h1 with h1
  subst h1
  have H2 := Lib.hid h2
  obtain ⟨cs, hcs⟩ : ∃ cs, setV (s.put 9 n) A1 A2 A3 A4 A5 A6 c1 c2 c3 c4 c5 c6 = .agg cs := ⟨_, rfl⟩
  have HC := Lib.hid hcs
  obtain ⟨hz1, hz2⟩ := setV_cells _ _ _ _ _ _ _ _ _ _ _ _ _ _ hcs
  have HZ1 := Lib.hid hz1
  have HZ2 := Lib.hid hz2
  unfold setV at hcs
  injection hcs with hcs
  have HE := Lib.hid hcs
  clear h2 hz1 hz2 hcs
  go_enter Try.func18, Try.ntmps18
  go_wp2_with (first | refine wpList_load_has (by rfl) _ rfl w.heap.size rfl cs (by rw [← HE.out]; exact (Has.new _ _ _ rfl).alloc _) HZ1.out ?_ | refine wpList_store_has rfl _ _ rfl (w.heap.size + 1) cs rfl rfl z23 (Has.new _ _ _ (by simp)) rfl HZ1.out HZ2.out ?_)
  refine bodyPost_ret (agg_run Try.results18 _ _ (w.heap.size + 1) cs rfl (has_setRow (Has.new _ _ z23 (by simp))) HZ1.out) rfl ?_
  refine ⟨cs, rfl, ⟨A1, A2, A3, A4, A5, A6, c1, c2, c3, c4, c5, c6, HC.out, put_at (H2.out.below ?_) 9 n⟩, ?_⟩ <;>
    exact below_setRow (bel_alloc (bel_alloc (Below.refl _ _) _) _) (Nat.le_succ _) _
set_option maxHeartbeats 2000000 in
theorem with_nfrom {w : World} {s : SetP} {cs : Array Value} (h : SetC w s cs) (x n : Int) (hx : x.tmod 15 = 10) :
    Calls Try.prog 18 #[.agg cs, .int .u8 x, .int .i64 n] w fun e w' => ∃ cs, e = .returned (.agg cs) ∧ SetC w' (s.put 10 n) cs ∧ Below w.heap.size w w' := by
  obtain ⟨A1, A2, A3, A4, A5, A6, c1, c2, c3, c4, c5, c6, h1, h2⟩ := h
  unfold setV at h1
  injection h1 with h1
  subst h1
  have H2 := Lib.hid h2
  obtain ⟨cs, hcs⟩ : ∃ cs, setV (s.put 10 n) A1 A2 A3 A4 A5 A6 c1 c2 c3 c4 c5 c6 = .agg cs := ⟨_, rfl⟩
  have HC := Lib.hid hcs
  obtain ⟨hz1, hz2⟩ := setV_cells _ _ _ _ _ _ _ _ _ _ _ _ _ _ hcs
  have HZ1 := Lib.hid hz1
  have HZ2 := Lib.hid hz2
  unfold setV at hcs
  injection hcs with hcs
  have HE := Lib.hid hcs
  clear h2 hz1 hz2 hcs
  go_enter Try.func18, Try.ntmps18
  go_wp2_with (first | refine wpList_load_has (by rfl) _ rfl w.heap.size rfl cs (by rw [← HE.out]; exact (Has.new _ _ _ rfl).alloc _) HZ1.out ?_ | refine wpList_store_has rfl _ _ rfl (w.heap.size + 1) cs rfl rfl z23 (Has.new _ _ _ (by simp)) rfl HZ1.out HZ2.out ?_)
  refine bodyPost_ret (agg_run Try.results18 _ _ (w.heap.size + 1) cs rfl (has_setRow (Has.new _ _ z23 (by simp))) HZ1.out) rfl ?_
  refine ⟨cs, rfl, ⟨A1, A2, A3, A4, A5, A6, c1, c2, c3, c4, c5, c6, HC.out, put_at (H2.out.below ?_) 10 n⟩, ?_⟩ <;>
    exact below_setRow (bel_alloc (bel_alloc (Below.refl _ _) _) _) (Nat.le_succ _) _
set_option maxHeartbeats 2000000 in
theorem with_nto {w : World} {s : SetP} {cs : Array Value} (h : SetC w s cs) (x n : Int) (hx : x.tmod 15 = 11) :
    Calls Try.prog 18 #[.agg cs, .int .u8 x, .int .i64 n] w fun e w' => ∃ cs, e = .returned (.agg cs) ∧ SetC w' (s.put 11 n) cs ∧ Below w.heap.size w w' := by
  obtain ⟨A1, A2, A3, A4, A5, A6, c1, c2, c3, c4, c5, c6, h1, h2⟩ := h
  unfold setV at h1
  injection h1 with h1
  subst h1
  have H2 := Lib.hid h2
  obtain ⟨cs, hcs⟩ : ∃ cs, setV (s.put 11 n) A1 A2 A3 A4 A5 A6 c1 c2 c3 c4 c5 c6 = .agg cs := ⟨_, rfl⟩
  have HC := Lib.hid hcs
  obtain ⟨hz1, hz2⟩ := setV_cells _ _ _ _ _ _ _ _ _ _ _ _ _ _ hcs
  have HZ1 := Lib.hid hz1
  have HZ2 := Lib.hid hz2
  unfold setV at hcs
  injection hcs with hcs
  have HE := Lib.hid hcs
  clear h2 hz1 hz2 hcs
  go_enter Try.func18, Try.ntmps18
  go_wp2_with (first | refine wpList_load_has (by rfl) _ rfl w.heap.size rfl cs (by rw [← HE.out]; exact (Has.new _ _ _ rfl).alloc _) HZ1.out ?_ | refine wpList_store_has rfl _ _ rfl (w.heap.size + 1) cs rfl rfl z23 (Has.new _ _ _ (by simp)) rfl HZ1.out HZ2.out ?_)
  refine bodyPost_ret (agg_run Try.results18 _ _ (w.heap.size + 1) cs rfl (has_setRow (Has.new _ _ z23 (by simp))) HZ1.out) rfl ?_
  refine ⟨cs, rfl, ⟨A1, A2, A3, A4, A5, A6, c1, c2, c3, c4, c5, c6, HC.out, put_at (H2.out.below ?_) 11 n⟩, ?_⟩ <;>
    exact below_setRow (bel_alloc (bel_alloc (Below.refl _ _) _) _) (Nat.le_succ _) _
set_option maxHeartbeats 2000000 in
theorem with_diff {w : World} {s : SetP} {cs : Array Value} (h : SetC w s cs) (x n : Int) (hx : x.tmod 15 = 12) :
    Calls Try.prog 18 #[.agg cs, .int .u8 x, .int .i64 n] w fun e w' => ∃ cs, e = .returned (.agg cs) ∧ SetC w' (s.put 12 n) cs ∧ Below w.heap.size w w' := by
  obtain ⟨A1, A2, A3, A4, A5, A6, c1, c2, c3, c4, c5, c6, h1, h2⟩ := h
  unfold setV at h1
  injection h1 with h1
  subst h1
  have H2 := Lib.hid h2
  obtain ⟨cs, hcs⟩ : ∃ cs, setV (s.put 12 n) A1 A2 A3 A4 A5 A6 c1 c2 c3 c4 c5 c6 = .agg cs := ⟨_, rfl⟩
  have HC := Lib.hid hcs
  obtain ⟨hz1, hz2⟩ := setV_cells _ _ _ _ _ _ _ _ _ _ _ _ _ _ hcs
  have HZ1 := Lib.hid hz1
  have HZ2 := Lib.hid hz2
  unfold setV at hcs
  injection hcs with hcs
  have HE := Lib.hid hcs
  clear h2 hz1 hz2 hcs
  go_enter Try.func18, Try.ntmps18
  go_wp2_with (first | refine wpList_load_has (by rfl) _ rfl w.heap.size rfl cs (by rw [← HE.out]; exact (Has.new _ _ _ rfl).alloc _) HZ1.out ?_ | refine wpList_store_has rfl _ _ rfl (w.heap.size + 1) cs rfl rfl z23 (Has.new _ _ _ (by simp)) rfl HZ1.out HZ2.out ?_)
  refine bodyPost_ret (agg_run Try.results18 _ _ (w.heap.size + 1) cs rfl (has_setRow (Has.new _ _ z23 (by simp))) HZ1.out) rfl ?_
  refine ⟨cs, rfl, ⟨A1, A2, A3, A4, A5, A6, c1, c2, c3, c4, c5, c6, HC.out, put_at (H2.out.below ?_) 12 n⟩, ?_⟩ <;>
    exact below_setRow (bel_alloc (bel_alloc (Below.refl _ _) _) _) (Nat.le_succ _) _
set_option maxHeartbeats 2000000 in
theorem with_least {w : World} {s : SetP} {cs : Array Value} (h : SetC w s cs) (x n : Int) (hx : x.tmod 15 = 13) :
    Calls Try.prog 18 #[.agg cs, .int .u8 x, .int .i64 n] w fun e w' => ∃ cs, e = .returned (.agg cs) ∧ SetC w' (s.put 13 n) cs ∧ Below w.heap.size w w' := by
  obtain ⟨A1, A2, A3, A4, A5, A6, c1, c2, c3, c4, c5, c6, h1, h2⟩ := h
  unfold setV at h1
  injection h1 with h1
  subst h1
  have H2 := Lib.hid h2
  obtain ⟨cs, hcs⟩ : ∃ cs, setV (s.put 13 n) A1 A2 A3 A4 A5 A6 c1 c2 c3 c4 c5 c6 = .agg cs := ⟨_, rfl⟩
  have HC := Lib.hid hcs
  obtain ⟨hz1, hz2⟩ := setV_cells _ _ _ _ _ _ _ _ _ _ _ _ _ _ hcs
  have HZ1 := Lib.hid hz1
  have HZ2 := Lib.hid hz2
  unfold setV at hcs
  injection hcs with hcs
  have HE := Lib.hid hcs
  clear h2 hz1 hz2 hcs
  go_enter Try.func18, Try.ntmps18
  go_wp2_with (first | refine wpList_load_has (by rfl) _ rfl w.heap.size rfl cs (by rw [← HE.out]; exact (Has.new _ _ _ rfl).alloc _) HZ1.out ?_ | refine wpList_store_has rfl _ _ rfl (w.heap.size + 1) cs rfl rfl z23 (Has.new _ _ _ (by simp)) rfl HZ1.out HZ2.out ?_)
  refine bodyPost_ret (agg_run Try.results18 _ _ (w.heap.size + 1) cs rfl (has_setRow (Has.new _ _ z23 (by simp))) HZ1.out) rfl ?_
  refine ⟨cs, rfl, ⟨A1, A2, A3, A4, A5, A6, c1, c2, c3, c4, c5, c6, HC.out, put_at (H2.out.below ?_) 13 n⟩, ?_⟩ <;>
    exact below_setRow (bel_alloc (bel_alloc (Below.refl _ _) _) _) (Nat.le_succ _) _
set_option maxHeartbeats 2000000 in
theorem with_fault {w : World} {s : SetP} {cs : Array Value} (h : SetC w s cs) (x n : Int) (hx : x.tmod 15 = 14) :
    Calls Try.prog 18 #[.agg cs, .int .u8 x, .int .i64 n] w fun e w' => ∃ cs, e = .returned (.agg cs) ∧ SetC w' (s.put 14 n) cs ∧ Below w.heap.size w w' := by
  obtain ⟨A1, A2, A3, A4, A5, A6, c1, c2, c3, c4, c5, c6, h1, h2⟩ := h
  unfold setV at h1
  injection h1 with h1
  subst h1
  have H2 := Lib.hid h2
  obtain ⟨cs, hcs⟩ : ∃ cs, setV (s.put 14 n) A1 A2 A3 A4 A5 A6 c1 c2 c3 c4 c5 c6 = .agg cs := ⟨_, rfl⟩
  have HC := Lib.hid hcs
  obtain ⟨hz1, hz2⟩ := setV_cells _ _ _ _ _ _ _ _ _ _ _ _ _ _ hcs
  have HZ1 := Lib.hid hz1
  have HZ2 := Lib.hid hz2
  unfold setV at hcs
  injection hcs with hcs
  have HE := Lib.hid hcs
  clear h2 hz1 hz2 hcs
  go_enter Try.func18, Try.ntmps18
  go_wp2_with (first | refine wpList_load_has (by rfl) _ rfl w.heap.size rfl cs (by rw [← HE.out]; exact (Has.new _ _ _ rfl).alloc _) HZ1.out ?_ | refine wpList_store_has rfl _ _ rfl (w.heap.size + 1) cs rfl rfl z23 (Has.new _ _ _ (by simp)) rfl HZ1.out HZ2.out ?_)
  refine bodyPost_ret (agg_run Try.results18 _ _ (w.heap.size + 1) cs rfl (has_setRow (Has.new _ _ z23 (by simp))) HZ1.out) rfl ?_
  refine ⟨cs, rfl, ⟨A1, A2, A3, A4, A5, A6, c1, c2, c3, c4, c5, c6, HC.out, put_at (H2.out.below ?_) 14 n⟩, ?_⟩ <;>
    exact below_setRow (bel_alloc (bel_alloc (Below.refl _ _) _) _) (Nat.le_succ _) _
theorem with_c {w : World} {s : SetP} {cs : Array Value} (h : SetC w s cs) (x n : Int) (k : Nat) (hk : x.tmod 15 = (k : Int)) (hk2 : k < 15) :
    Calls Try.prog 18 #[.agg cs, .int .u8 x, .int .i64 n] w fun e w' => ∃ cs, e = .returned (.agg cs) ∧ SetC w' (s.put k n) cs ∧ Below w.heap.size w w' := by
  rcases (show k = 0 ∨ k = 1 ∨ k = 2 ∨ k = 3 ∨ k = 4 ∨ k = 5 ∨ k = 6 ∨ k = 7 ∨ k = 8 ∨ k = 9 ∨ k = 10 ∨ k = 11 ∨ k = 12 ∨ k = 13 ∨ k = 14 by omega) with rfl | rfl | rfl | rfl | rfl | rfl | rfl | rfl | rfl | rfl | rfl | rfl | rfl | rfl | rfl
  · exact with_places h x n hk
  · exact with_allow h x n hk
  · exact with_unit h x n hk
  · exact with_cap h x n hk
  · exact with_paid h x n hk
  · exact with_aft h x n hk
  · exact with_brk h x n hk
  · exact with_reg h x n hk
  · exact with_over h x n hk
  · exact with_week h x n hk
  · exact with_nfrom h x n hk
  · exact with_nto h x n hk
  · exact with_diff h x n hk
  · exact with_least h x n hk
  · exact with_fault h x n hk
end Go.Proofs.Ytfpocdibalbddaa
