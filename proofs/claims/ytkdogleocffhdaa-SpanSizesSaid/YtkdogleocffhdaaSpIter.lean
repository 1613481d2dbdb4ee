/-
  The two functions that package span's loops range over: slices.Values, and what is between plain spans.
-/
import Derived.Test.YtkdogleocffhdaaSpE
import Derived.Test.YtkdogleocffhdaaSpRange
import Derived.Shelf.RegionOpen
import Derived.OwnWalkIn
import Derived.TacticsInMore
import Derived.LoopNIn
import Derived.LoopIn
namespace Go.Proofs.Ytkdogleocffhdaa
open Go.RowKit
set_option linter.unusedVariables false
attribute [local go_sem] Oper.semAt_some

/-- A slice value over A reads as the spans xs, from below n. -/
def Lies (n : Nat) (w : World) (A : Option Addr) (xs : List (Int × Int)) : Prop :=
  ∀ k, k < xs.length → ∃ b off, A = some ⟨b, off, none⟩ ∧ b < n ∧ w.cell? ⟨b, off + k * 2, none⟩ = some (.int .i64 (xs.getD k (0, 0)).1) ∧ w.cell? ⟨b, off + k * 2 + 1, none⟩ = some (.int .i64 (xs.getD k (0, 0)).2)
theorem Lies.below {n : Nat} {w w' : World} {A : Option Addr} {xs : List (Int × Int)} (h : Lies n w A xs) (hb : Below n w w') : Lies n w' A xs := fun k hk => by
  obtain ⟨b, off, e, h0, h1, h2⟩ := h k hk
  exact ⟨b, off, e, h0, (hb.cell h0).trans h1, (hb.cell h0).trans h2⟩
theorem Spans.lies {w : World} {A : Option Addr} {xs : List (Int × Int)} (h : Spans w A xs) : Lies w.heap.size w A xs := h.2
theorem take_snoc (xs : List (Int × Int)) (k : Nat) (h : k < xs.length) : xs.take (k + 1) = xs.take k ++ [xs.getD k (0, 0)] := by
  rw [List.take_succ_eq_append_getElem h]; simp [List.getD, h]

set_option maxHeartbeats 2000000 in
theorem values_seq (Bn n₀ cap : Nat) (A : Option Addr) (xs : List (Int × Int)) (w : World) (hB : Bn < w.heap.size) (hc : w.cell? ⟨Bn, 0, none⟩ = some (.slice A xs.length cap)) (hx : Lies n₀ w A xs) (hn : n₀ ≤ w.heap.size) (hl : xs.length ≤ 100000000) :
    SeqOf Try.prog 42 #[.pointer (some ⟨Bn, 0, none⟩)] n₀ xs w := by
  intro l J Jx W hW hJ hY h0
  have hc' := (hW.cell (p := ⟨Bn, 0, none⟩) hB).trans hc
  have HX := Lib.hid (hx.below (hW.mono hn))
  have HY := Lib.hid hY
  have hnW : n₀ ≤ W.heap.size := Nat.le_trans hn hW.size
  clear hY hx hc hW
  refine callsIn_of_wp Try.func42 rfl trivial ?_ rfl
  simp only [Try.ntmps42, List.size_toArray, List.length_cons, List.length_nil, Nat.reduceAdd, Nat.reduceSub, Array.replicate_succ, Array.replicate_zero, List.push_toArray, List.append_toArray, List.nil_append, List.cons_append]
  gi_wp2
  gi_loopw [7] (fun i wr => ∃ k : Nat, k ≤ xs.length ∧ i = .int .i64 k ∧ Hid (J [] (xs.take k) wr) ∧ Below n₀ W wr) (fun i _ => xs.length - (intOf i).toNat)
  case atStart => exact ⟨0, Nat.zero_le _, rfl, h0, Below.refl _ _⟩
  case round =>
    obtain ⟨k, hk, rfl, hJs, hnx⟩ := hrel
    by_cases hlt : k < xs.length
    · obtain ⟨b, off, rfl, hb, c1, c2⟩ := (HX.out.below hnx) k hlt
      have ht := take_snoc xs k hlt
      have HT := Lib.hid ht
      have hpre : xs.take k ++ [xs.getD k (0, 0)] <+: xs := by rw [← ht]; exact List.take_prefix _ _
      obtain ⟨fn, tmps, assign, body, hy, hR⟩ := HY.out [] (xs.take k) (xs.getD k (0, 0)) _ (hJ.alloc _ _ wr (.cells #[.int .i64 (xs.getD k (0, 0)).1, .int .i64 (xs.getD k (0, 0)).2] 35) hJs.out) hpre
      clear ht hpre
      generalize xs.getD k (0, 0) = z at *
      obtain ⟨p, q⟩ := z
      simp only [agg2] at c1 c2 hy hR
      gi_wp2
      refine ⟨rfl, hR.mono ?_⟩
      rintro e W3 (⟨rfl, hJ3, _, hk3⟩ | ⟨rfl, hJx3⟩)
      · have HJ3 := Lib.hid hJ3
        have hbb := hnx.trans (((Below.refl _ wr).alloc (Nat.le_trans hnW hnx.size) _).trans hk3)
        clear hJ3
        gi_wp2
        go_roundw
        case rel => exact ⟨k + 1, by omega, by go_num, by show J _ _ _; rw [HT.out]; exact HJ3.out, hbb⟩
        case measure => simp [intOf]; omega
      · have HJ3 := Lib.hid hJx3
        clear hJx3
        gi_wp2
        refine bodyPost_ret (results_none rfl _ _ _) rfl ?_
        exact ⟨⟨_, rfl⟩, .inr ⟨_, by rw [← HT.out]; exact List.take_prefix _ _, HJ3.out⟩⟩
    · obtain rfl : k = xs.length := by omega
      have hJ' := hJs.out
      rw [List.take_length] at hJ'
      have HJ3 := Lib.hid hJ'
      clear hJ' hJs
      gi_wp2
      go_end0
      exact ⟨⟨_, rfl⟩, .inl ⟨[], HJ3.out⟩⟩

theorem Has.of_heap {w w' : World} {g : Nat} {cs : Array Value} (h : Has w g cs) (e : w'.heap[g]? = w.heap[g]?) : Has w' g cs := by
  obtain ⟨t, h⟩ := h
  exact ⟨t, e.trans h⟩
theorem gapsL_cons (a : Int) (s : Int × Int) (l : List (Int × Int)) : gapsL a (s :: l) = if a < s.1 then (a, s.1) :: gapsL s.2 l else gapsL s.2 l := rfl
theorem drop_getD (xs : List (Int × Int)) (k : Nat) (h : k < xs.length) : xs.drop k = xs.getD k (0, 0) :: xs.drop (k + 1) := by
  rw [List.drop_eq_getElem_cons h]; simp [List.getD, h]
theorem gaps_hit {xs pre : List (Int × Int)} {k : Nat} {a : Int} (h : k < xs.length) (he : pre ++ gapsL a (xs.drop k) = gapsL 0 xs) (hc : a < (xs.getD k (0, 0)).1) : (pre ++ [(a, (xs.getD k (0, 0)).1)]) ++ gapsL (xs.getD k (0, 0)).2 (xs.drop (k + 1)) = gapsL 0 xs := by
  rw [← he, drop_getD xs k h, gapsL_cons, if_pos hc, List.append_assoc]; rfl
theorem gaps_miss {xs pre : List (Int × Int)} {k : Nat} {a : Int} (h : k < xs.length) (he : pre ++ gapsL a (xs.drop k) = gapsL 0 xs) (hc : ¬ a < (xs.getD k (0, 0)).1) : pre ++ gapsL (xs.getD k (0, 0)).2 (xs.drop (k + 1)) = gapsL 0 xs := by
  rw [← he, drop_getD xs k h, gapsL_cons, if_neg hc]

set_option maxHeartbeats 4000000 in
theorem gaps_seq (Bn n₀ cap : Nat) (A : Option Addr) (xs : List (Int × Int)) (w : World) (hB : Bn < w.heap.size) (hc : w.cell? ⟨Bn, 0, none⟩ = some (.slice A xs.length cap)) (hx : Lies n₀ w A xs) (hn : n₀ ≤ w.heap.size) (hl : xs.length ≤ 100000000) :
    SeqOf Try.prog 43 #[.pointer (some ⟨Bn, 0, none⟩)] n₀ (gapsL 0 xs) w := by
  intro l J Jx W hW hJ hY h0
  have hcB := (hW.cell (p := ⟨Bn, 0, none⟩) hB).trans hc
  have hBW : Bn < W.heap.size := Nat.lt_of_lt_of_le hB hW.size
  have HX := Lib.hid (hx.below (hW.mono hn))
  have HY := Lib.hid hY
  have hnW : n₀ ≤ W.heap.size := Nat.le_trans hn hW.size
  clear hY hx hc hW
  have hne1 : Bn ≠ W.heap.size := by omega
  have hne2 : Bn ≠ W.heap.size + 1 := by omega
  have HB : Hid (n₀ ≤ W.heap.size + 1) := by show _ ≤ _; omega
  have J1 := hJ.own _ _ _ (.cells #[.int .i64 0, .int .i64 32054400] 35) (hJ.alloc _ _ _ (.cells #[.int .i64 0, .int .i64 32054400] 35) h0)
  have H1 : Has ((W.alloc (.cells #[.int .i64 0, .int .i64 32054400] 35)).alloc (.cells #[.int .i64 0, .int .i64 32054400] 35)) (W.heap.size + 1) #[.int .i64 0, .int .i64 32054400] := Has.new _ _ _ (by simp)
  have b1 : Below n₀ W ((W.alloc (.cells #[.int .i64 0, .int .i64 32054400] 35)).alloc (.cells #[.int .i64 0, .int .i64 32054400] 35)) := ((Below.refl _ _).alloc hnW _).alloc (by simp; omega) _
  rw [World.size_alloc] at J1
  have HJ1 := Lib.hid J1
  clear J1 h0
  refine callsIn_of_wp Try.func43 rfl trivial ?_ rfl
  simp only [Try.ntmps43, List.size_toArray, List.length_cons, List.length_nil, Nat.reduceAdd, Nat.reduceSub, Array.replicate_succ, Array.replicate_zero, List.push_toArray, List.append_toArray, List.nil_append, List.cons_append]
  gi_wp2_with fail
  refine ⟨trivial, rfl, (callsIn_wide.2 (allTime_at _)).mono ?_⟩
  rintro e w1 ⟨rfl, rfl⟩
  gi_wp2
  generalize (W.alloc (.cells #[.int .i64 0, .int .i64 32054400] 35)).alloc (.cells #[.int .i64 0, .int .i64 32054400] 35) = w1 at *
  generalize W.heap.size + 1 = B at *
  gi_loopw [9] (fun i wr => ∃ (k : Nat) (a v : Int) (pre : List (Int × Int)), k ≤ xs.length ∧ i = .int .i64 k ∧ Hid (pre ++ gapsL a (xs.drop k) = gapsL 0 xs) ∧ Hid (J [B] pre wr) ∧ Has wr B #[.int .i64 a, .int .i64 v] ∧ Below n₀ W wr) (fun i _ => xs.length - (intOf i).toNat)
  case atStart => exact ⟨0, 0, 32054400, [], Nat.zero_le _, rfl, rfl, HJ1, H1, b1⟩
  case round =>
    obtain ⟨k, a, v, pre, hk, rfl, hpre, hJs, hH, hnx⟩ := hrel
    have hnr : n₀ ≤ wr.heap.size := Nat.le_trans hnW hnx.size
    clear H1 b1 HJ1
    by_cases hlt : k < xs.length
    · obtain ⟨b, off, rfl, hb, c1, c2⟩ := (HX.out.below hnx) k hlt
      have G1 := Lib.hid (fun h => gaps_hit hlt hpre.out h)
      have G2 := Lib.hid (fun h => gaps_miss hlt hpre.out h)
      generalize xs.getD k (0, 0) = z at *
      obtain ⟨p, q⟩ := z
      simp only [] at c1 c2 G1 G2
      have hBr := hH.size
      have hne : B ≠ wr.heap.size := by omega
      have hbr : b < wr.heap.size := by omega
      obtain ⟨f0, f1, f2, f3⟩ := hH.two
      have e5 : (wr.setCell ⟨B, 1, none⟩ (.int .i64 p)).heap.size = wr.heap.size := by simp
      have J5 := hJ.own _ _ _ (.cells #[.int .i64 p, .int .i64 q] 35) (hJ.set _ _ _ B 1 (.int .i64 p) hJs.out (by simp))
      rw [e5] at J5
      have H5 : Has ((wr.setCell ⟨B, 1, none⟩ (.int .i64 p)).alloc (.cells #[.int .i64 p, .int .i64 q] 35)) B #[.int .i64 a, .int .i64 p] := (hH.set 1 _).alloc _
      have S5 : Has ((wr.setCell ⟨B, 1, none⟩ (.int .i64 p)).alloc (.cells #[.int .i64 p, .int .i64 q] 35)) wr.heap.size #[.int .i64 p, .int .i64 q] := Has.new _ _ _ e5
      have b5 : Below n₀ wr ((wr.setCell ⟨B, 1, none⟩ (.int .i64 p)).alloc (.cells #[.int .i64 p, .int .i64 q] 35)) := ((Below.refl _ _).setCell (p := ⟨B, 1, none⟩) HB.out _).alloc (by rw [e5]; exact hnr) _
      have HJ5 := Lib.hid J5
      clear J5 e5
      by_cases hc : a < p
      · have HP := Lib.hid (G1.out hc)
        obtain ⟨fn, tmps, assign, body, hy, hR⟩ := HY.out _ pre (a, p) _ HJ5.out ⟨_, HP.out⟩
        simp only [agg2] at hy
        gi_wp2
        refine ⟨rfl, hR.mono ?_⟩
        rintro e W7 (⟨rfl, J7, hks, hk7⟩ | ⟨rfl, hJx7⟩)
        · have H7 := H5.of_heap (hks B (by simp))
          have S7 := S5.of_heap (hks wr.heap.size (by simp))
          have K7 := Lib.hid (hJ.less _ _ _ _ (hJ.set _ _ _ B 0 (.int .i64 q) J7 (by simp)))
          have b7 := (hnx.trans (b5.trans hk7)).setCell (p := ⟨B, 0, none⟩) HB.out (.int .i64 q)
          have T7 : Has (W7.setCell ⟨B, 0, none⟩ (.int .i64 q)) B #[.int .i64 q, .int .i64 p] := H7.set 0 _
          obtain ⟨d0, d1, d2, d3⟩ := H7.two
          obtain ⟨s0, s1, s2, s3⟩ := S7.two
          clear J7 hks f0 f1 f2 f3 H5 S5 b5 c1 c2
          gi_wp2
          go_roundw
          case rel => exact ⟨k + 1, q, p, _, by omega, by go_num, HP, K7, T7, b7⟩
          case measure => simp [intOf]; omega
        · have K7 := Lib.hid hJx7
          clear hJx7
          gi_wp2
          refine bodyPost_ret (results_none rfl _ _ _) rfl ?_
          exact ⟨⟨_, rfl⟩, .inr ⟨_, ⟨_, HP.out⟩, K7.out⟩⟩
      · have HP := Lib.hid (G2.out hc)
        have e6 : ((wr.setCell ⟨B, 1, none⟩ (.int .i64 p)).setCell ⟨B, 0, none⟩ (.int .i64 q)).heap.size = wr.heap.size := by simp
        have K7 := hJ.alloc _ _ _ (.cells #[.int .i64 p, .int .i64 q] 35) (hJ.set _ _ _ B 0 (.int .i64 q) (hJ.set _ _ _ B 1 (.int .i64 p) hJs.out (by simp)) (by simp))
        have T7 : Has (((wr.setCell ⟨B, 1, none⟩ (.int .i64 p)).setCell ⟨B, 0, none⟩ (.int .i64 q)).alloc (.cells #[.int .i64 p, .int .i64 q] 35)) B #[.int .i64 q, .int .i64 p] := ((hH.set 1 _).set 0 _).alloc _
        have b7 : Below n₀ wr (((wr.setCell ⟨B, 1, none⟩ (.int .i64 p)).setCell ⟨B, 0, none⟩ (.int .i64 q)).alloc (.cells #[.int .i64 p, .int .i64 q] 35)) := (((Below.refl _ _).setCell (p := ⟨B, 1, none⟩) HB.out _).setCell (p := ⟨B, 0, none⟩) HB.out _).alloc (by rw [e6]; exact hnr) _
        have HK := Lib.hid K7
        clear K7 e6
        gi_wp2
        refine ⟨fun _ h => (by cases h), ?_⟩
        gi_wp2
        go_roundw
        case rel => exact ⟨k + 1, q, p, _, by omega, by go_num, HP, HK, T7, hnx.trans b7⟩
        case measure => simp [intOf]; omega
    · obtain rfl : k = xs.length := by omega
      have hpre' := hpre.out
      rw [List.drop_length] at hpre'
      have HP := Lib.hid hpre'
      clear hpre hpre'
      obtain ⟨f0, f1, f2, f3⟩ := hH.two
      have K5 := Lib.hid (hJ.set _ _ _ B 1 (.int .i64 32054400) hJs.out (by simp))
      by_cases hc : a < 32054400
      · have HE : Hid (pre ++ [(a, 32054400)] = gapsL 0 xs) := by
          show _ = _
          rw [← HP.out]; simp [gapsL, hc]
        obtain ⟨fn, tmps, assign, body, hy, hR⟩ := HY.out _ pre (a, 32054400) _ K5.out (by rw [HE.out]; exact List.prefix_refl _)
        simp only [agg2] at hy
        gi_wp2
        refine ⟨rfl, hR.mono ?_⟩
        rintro e W7 (⟨rfl, J7, hks, hk7⟩ | ⟨rfl, hJx7⟩)
        · have K7 := Lib.hid J7
          clear J7 hks
          gi_wp2
          go_end0
          exact ⟨⟨_, rfl⟩, .inl ⟨_, by rw [← HE.out]; exact K7.out⟩⟩
        · have K7 := Lib.hid hJx7
          clear hJx7
          gi_wp2
          go_end0
          exact ⟨⟨_, rfl⟩, .inr ⟨_, by rw [HE.out]; exact List.prefix_refl _, K7.out⟩⟩
      · have HE : Hid (pre = gapsL 0 xs) := by
          show _ = _
          rw [← HP.out]; simp [gapsL, hc]
        gi_wp2
        go_end0
        exact ⟨⟨_, rfl⟩, .inl ⟨_, by rw [← HE.out]; exact K5.out⟩⟩
end Go.Proofs.Ytkdogleocffhdaa
