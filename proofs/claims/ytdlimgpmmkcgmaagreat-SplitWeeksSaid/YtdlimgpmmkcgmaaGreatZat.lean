/-
  The two functions that package span's loops range over: slices.Values, and what is between plain spans.
  The contract of package span's within: what plain spans have of the parts that a function hands out.
  The hours by night of a day, those of all days, and what they have in common with a set: no program here.
-/
import Derived.Test.YtdlimgpmmkcgmaaGreatZas
import Derived.Test.YtdlimgpmmkcgmaaGreatZac
import Derived.Shelf.RegionOpen
import Derived.OwnWalkIn
import Derived.TacticsInMore
import Derived.LoopNIn
import Derived.LoopIn
import Derived.Test.YtdlimgpmmkcgmaaGreatZaa
import Derived.Test.YtdlimgpmmkcgmaaGreatZab
namespace Go.Proofs.YtdlimgpmmkcgmaaGreat
open Go.RowKit
set_option linter.unusedVariables false
attribute [local go_sem] Oper.semAt_some

/-- A slice value over A reads as the spans xs, from below n. -/
def Lies (n : Nat) (w : World) (A : Option Addr) (xs : List (Int × Int)) : Prop :=
  ∀ k, k < xs.length → ∃ b off, A = some ⟨b, off, none⟩ ∧ b < n ∧ w.cell? ⟨b, off + k * 2, none⟩ = some (.int .i64 (xs.getD k (0, 0)).1) ∧ w.cell? ⟨b, off + k * 2 + 1, none⟩ = some (.int .i64 (xs.getD k (0, 0)).2)
theorem Lies.below {n : Nat} {w w' : World} {A : Option Addr} {xs : List (Int × Int)} (h : Lies n w A xs) (hb : Below n w w') : Lies n w' A xs := fun k hk => by
  obtain ⟨b, off, e, h0, h1, h2⟩ := h k hk
  exact ⟨b, off, e, h0, (hb.cell h0).trans h1, (hb.cell h0).trans h2⟩
theorem Spans.lies {w : World} {A : Option Addr} {xs : List (Int × Int)} (h : Spans w A xs) : Lies w.heap.size w A xs := h.2
theorem take_snoc (xs : List (Int × Int)) (k : Nat) (h : k < xs.length) : xs.take (k + 1) = xs.take k ++ [xs.getD k (0, 0)] := by
  rw [List.take_succ_eq_append_getElem h]; simp [List.getD, h]

set_option maxHeartbeats 2000000 in
theorem values_seq (Bn n₀ cap : Nat) (A : Option Addr) (xs : List (Int × Int)) (w : World) (hB : Bn < w.heap.size) (hc : w.cell? ⟨Bn, 0, none⟩ = some (.slice A xs.length cap)) (hx : Lies n₀ w A xs) (hn : n₀ ≤ w.heap.size) (hl : xs.length ≤ 100000000) :
    SeqOf Tryz.prog 139 #[.pointer (some ⟨Bn, 0, none⟩)] n₀ xs w := by
  intro l J Jx W hW hJ hY h0
  have hc' := (hW.cell (p := ⟨Bn, 0, none⟩) hB).trans hc
  have HX := Lib.hid (hx.below (hW.mono hn))
  have HY := Lib.hid hY
  have hnW : n₀ ≤ W.heap.size := Nat.le_trans hn hW.size
  clear hY hx hc hW
  refine callsIn_of_wp Tryz.func139 rfl trivial ?_ rfl
  simp only [Tryz.ntmps139, List.size_toArray, List.length_cons, List.length_nil, Nat.reduceAdd, Nat.reduceSub, Array.replicate_succ, Array.replicate_zero, List.push_toArray, List.append_toArray, List.nil_append, List.cons_append]
  gi_wp2
  gi_loopw [7] (fun i wr => ∃ k : Nat, k ≤ xs.length ∧ i = .int .i64 k ∧ Hid (J [] (xs.take k) wr) ∧ Below n₀ W wr) (fun i _ => xs.length - (intOf i).toNat)
  case atStart => exact ⟨0, Nat.zero_le _, rfl, h0, Below.refl _ _⟩
  case round =>
    obtain ⟨k, hk, rfl, hJs, hnx⟩ := hrel
    by_cases hlt : k < xs.length
    · obtain ⟨b, off, rfl, hb, c1, c2⟩ := (HX.out.below hnx) k hlt
      have ht := take_snoc xs k hlt
      have HT := Lib.hid ht
      have hpre : xs.take k ++ [xs.getD k (0, 0)] <+: xs := by rw [← ht]; exact List.take_prefix _ _
      obtain ⟨fn, tmps, assign, body, hy, hR⟩ := HY.out [] (xs.take k) (xs.getD k (0, 0)) _ (hJ.alloc _ _ wr (.cells #[.int .i64 (xs.getD k (0, 0)).1, .int .i64 (xs.getD k (0, 0)).2] 44) hJs.out) hpre
      clear ht hpre
      generalize xs.getD k (0, 0) = z at *
      obtain ⟨p, q⟩ := z
      simp only [agg2] at c1 c2 hy hR
      gi_wp2
      refine ⟨rfl, hR.mono ?_⟩
      rintro e W3 (⟨rfl, hJ3, _, hk3⟩ | ⟨rfl, hJx3⟩)
      · have HJ3 := Lib.hid hJ3
        have hbb := hnx.trans (((Below.refl _ wr).alloc (Nat.le_trans hnW hnx.size) _).trans hk3)
        clear hJ3
        gi_wp2
        go_roundw
        case rel => exact ⟨k + 1, by omega, by go_num, by show J _ _ _; rw [HT.out]; exact HJ3.out, hbb⟩
        case measure => simp [intOf]; omega
      · have HJ3 := Lib.hid hJx3
        clear hJx3
        gi_wp2
        refine bodyPost_ret (results_none rfl _ _ _) rfl ?_
        exact ⟨⟨_, rfl⟩, .inr ⟨_, by rw [← HT.out]; exact List.take_prefix _ _, HJ3.out⟩⟩
    · obtain rfl : k = xs.length := by omega
      have hJ' := hJs.out
      rw [List.take_length] at hJ'
      have HJ3 := Lib.hid hJ'
      clear hJ' hJs
      gi_wp2
      go_end0
      exact ⟨⟨_, rfl⟩, .inl ⟨[], HJ3.out⟩⟩

theorem Has.of_heap {w w' : World} {g : Nat} {cs : Array Value} (h : Has w g cs) (e : w'.heap[g]? = w.heap[g]?) : Has w' g cs := by
  obtain ⟨t, h⟩ := h
  exact ⟨t, e.trans h⟩
theorem gapsL_cons (a : Int) (s : Int × Int) (l : List (Int × Int)) : gapsL a (s :: l) = if a < s.1 then (a, s.1) :: gapsL s.2 l else gapsL s.2 l := rfl
theorem drop_getD (xs : List (Int × Int)) (k : Nat) (h : k < xs.length) : xs.drop k = xs.getD k (0, 0) :: xs.drop (k + 1) := by
  rw [List.drop_eq_getElem_cons h]; simp [List.getD, h]
theorem gaps_hit {xs pre : List (Int × Int)} {k : Nat} {a : Int} (h : k < xs.length) (he : pre ++ gapsL a (xs.drop k) = gapsL 0 xs) (hc : a < (xs.getD k (0, 0)).1) : (pre ++ [(a, (xs.getD k (0, 0)).1)]) ++ gapsL (xs.getD k (0, 0)).2 (xs.drop (k + 1)) = gapsL 0 xs := by
  rw [← he, drop_getD xs k h, gapsL_cons, if_pos hc, List.append_assoc]; rfl
theorem gaps_miss {xs pre : List (Int × Int)} {k : Nat} {a : Int} (h : k < xs.length) (he : pre ++ gapsL a (xs.drop k) = gapsL 0 xs) (hc : ¬ a < (xs.getD k (0, 0)).1) : pre ++ gapsL (xs.getD k (0, 0)).2 (xs.drop (k + 1)) = gapsL 0 xs := by
  rw [← he, drop_getD xs k h, gapsL_cons, if_neg hc]

set_option maxHeartbeats 4000000 in
theorem gaps_seq (Bn n₀ cap : Nat) (A : Option Addr) (xs : List (Int × Int)) (w : World) (hB : Bn < w.heap.size) (hc : w.cell? ⟨Bn, 0, none⟩ = some (.slice A xs.length cap)) (hx : Lies n₀ w A xs) (hn : n₀ ≤ w.heap.size) (hl : xs.length ≤ 100000000) :
    SeqOf Tryz.prog 106 #[.pointer (some ⟨Bn, 0, none⟩)] n₀ (gapsL 0 xs) w := by
  intro l J Jx W hW hJ hY h0
  have hcB := (hW.cell (p := ⟨Bn, 0, none⟩) hB).trans hc
  have hBW : Bn < W.heap.size := Nat.lt_of_lt_of_le hB hW.size
  have HX := Lib.hid (hx.below (hW.mono hn))
  have HY := Lib.hid hY
  have hnW : n₀ ≤ W.heap.size := Nat.le_trans hn hW.size
  clear hY hx hc hW
  have hne1 : Bn ≠ W.heap.size := by omega
  have hne2 : Bn ≠ W.heap.size + 1 := by omega
  have HB : Hid (n₀ ≤ W.heap.size + 1) := by show _ ≤ _; omega
  have J1 := hJ.own _ _ _ (.cells #[.int .i64 0, .int .i64 32054400] 44) (hJ.alloc _ _ _ (.cells #[.int .i64 0, .int .i64 32054400] 44) h0)
  have H1 : Has ((W.alloc (.cells #[.int .i64 0, .int .i64 32054400] 44)).alloc (.cells #[.int .i64 0, .int .i64 32054400] 44)) (W.heap.size + 1) #[.int .i64 0, .int .i64 32054400] := Has.new _ _ _ (by simp)
  have b1 : Below n₀ W ((W.alloc (.cells #[.int .i64 0, .int .i64 32054400] 44)).alloc (.cells #[.int .i64 0, .int .i64 32054400] 44)) := ((Below.refl _ _).alloc hnW _).alloc (by simp; omega) _
  rw [World.size_alloc] at J1
  have HJ1 := Lib.hid J1
  clear J1 h0
  refine callsIn_of_wp Tryz.func106 rfl trivial ?_ rfl
  simp only [Tryz.ntmps106, List.size_toArray, List.length_cons, List.length_nil, Nat.reduceAdd, Nat.reduceSub, Array.replicate_succ, Array.replicate_zero, List.push_toArray, List.append_toArray, List.nil_append, List.cons_append]
  gi_wp2_with fail
  refine ⟨trivial, rfl, (callsIn_wide.2 (allTime_at _)).mono ?_⟩
  rintro e w1 ⟨rfl, rfl⟩
  gi_wp2
  generalize (W.alloc (.cells #[.int .i64 0, .int .i64 32054400] 44)).alloc (.cells #[.int .i64 0, .int .i64 32054400] 44) = w1 at *
  generalize W.heap.size + 1 = B at *
  gi_loopw [9] (fun i wr => ∃ (k : Nat) (a v : Int) (pre : List (Int × Int)), k ≤ xs.length ∧ i = .int .i64 k ∧ Hid (pre ++ gapsL a (xs.drop k) = gapsL 0 xs) ∧ Hid (J [B] pre wr) ∧ Has wr B #[.int .i64 a, .int .i64 v] ∧ Below n₀ W wr) (fun i _ => xs.length - (intOf i).toNat)
  case atStart => exact ⟨0, 0, 32054400, [], Nat.zero_le _, rfl, rfl, HJ1, H1, b1⟩
  case round =>
    obtain ⟨k, a, v, pre, hk, rfl, hpre, hJs, hH, hnx⟩ := hrel
    have hnr : n₀ ≤ wr.heap.size := Nat.le_trans hnW hnx.size
    clear H1 b1 HJ1
    by_cases hlt : k < xs.length
    · obtain ⟨b, off, rfl, hb, c1, c2⟩ := (HX.out.below hnx) k hlt
      have G1 := Lib.hid (fun h => gaps_hit hlt hpre.out h)
      have G2 := Lib.hid (fun h => gaps_miss hlt hpre.out h)
      generalize xs.getD k (0, 0) = z at *
      obtain ⟨p, q⟩ := z
      simp only [] at c1 c2 G1 G2
      have hBr := hH.size
      have hne : B ≠ wr.heap.size := by omega
      have hbr : b < wr.heap.size := by omega
      obtain ⟨f0, f1, f2, f3⟩ := hH.two
      have e5 : (wr.setCell ⟨B, 1, none⟩ (.int .i64 p)).heap.size = wr.heap.size := by simp
      have J5 := hJ.own _ _ _ (.cells #[.int .i64 p, .int .i64 q] 44) (hJ.set _ _ _ B 1 (.int .i64 p) hJs.out (by simp))
      rw [e5] at J5
      have H5 : Has ((wr.setCell ⟨B, 1, none⟩ (.int .i64 p)).alloc (.cells #[.int .i64 p, .int .i64 q] 44)) B #[.int .i64 a, .int .i64 p] := (hH.set 1 _).alloc _
      have S5 : Has ((wr.setCell ⟨B, 1, none⟩ (.int .i64 p)).alloc (.cells #[.int .i64 p, .int .i64 q] 44)) wr.heap.size #[.int .i64 p, .int .i64 q] := Has.new _ _ _ e5
      have b5 : Below n₀ wr ((wr.setCell ⟨B, 1, none⟩ (.int .i64 p)).alloc (.cells #[.int .i64 p, .int .i64 q] 44)) := ((Below.refl _ _).setCell (p := ⟨B, 1, none⟩) HB.out _).alloc (by rw [e5]; exact hnr) _
      have HJ5 := Lib.hid J5
      clear J5 e5
      by_cases hc : a < p
      · have HP := Lib.hid (G1.out hc)
        obtain ⟨fn, tmps, assign, body, hy, hR⟩ := HY.out _ pre (a, p) _ HJ5.out ⟨_, HP.out⟩
        simp only [agg2] at hy
        gi_wp2
        refine ⟨rfl, hR.mono ?_⟩
        rintro e W7 (⟨rfl, J7, hks, hk7⟩ | ⟨rfl, hJx7⟩)
        · have H7 := H5.of_heap (hks B (by simp))
          have S7 := S5.of_heap (hks wr.heap.size (by simp))
          have K7 := Lib.hid (hJ.less _ _ _ _ (hJ.set _ _ _ B 0 (.int .i64 q) J7 (by simp)))
          have b7 := (hnx.trans (b5.trans hk7)).setCell (p := ⟨B, 0, none⟩) HB.out (.int .i64 q)
          have T7 : Has (W7.setCell ⟨B, 0, none⟩ (.int .i64 q)) B #[.int .i64 q, .int .i64 p] := H7.set 0 _
          obtain ⟨d0, d1, d2, d3⟩ := H7.two
          obtain ⟨s0, s1, s2, s3⟩ := S7.two
          clear J7 hks f0 f1 f2 f3 H5 S5 b5 c1 c2
          gi_wp2
          go_roundw
          case rel => exact ⟨k + 1, q, p, _, by omega, by go_num, HP, K7, T7, b7⟩
          case measure => simp [intOf]; omega
        · have K7 := Lib.hid hJx7
          clear hJx7
          gi_wp2
          refine bodyPost_ret (results_none rfl _ _ _) rfl ?_
          exact ⟨⟨_, rfl⟩, .inr ⟨_, ⟨_, HP.out⟩, K7.out⟩⟩
      · have HP := Lib.hid (G2.out hc)
        have e6 : ((wr.setCell ⟨B, 1, none⟩ (.int .i64 p)).setCell ⟨B, 0, none⟩ (.int .i64 q)).heap.size = wr.heap.size := by simp
        have K7 := hJ.alloc _ _ _ (.cells #[.int .i64 p, .int .i64 q] 44) (hJ.set _ _ _ B 0 (.int .i64 q) (hJ.set _ _ _ B 1 (.int .i64 p) hJs.out (by simp)) (by simp))
        have T7 : Has (((wr.setCell ⟨B, 1, none⟩ (.int .i64 p)).setCell ⟨B, 0, none⟩ (.int .i64 q)).alloc (.cells #[.int .i64 p, .int .i64 q] 44)) B #[.int .i64 q, .int .i64 p] := ((hH.set 1 _).set 0 _).alloc _
        have b7 : Below n₀ wr (((wr.setCell ⟨B, 1, none⟩ (.int .i64 p)).setCell ⟨B, 0, none⟩ (.int .i64 q)).alloc (.cells #[.int .i64 p, .int .i64 q] 44)) := (((Below.refl _ _).setCell (p := ⟨B, 1, none⟩) HB.out _).setCell (p := ⟨B, 0, none⟩) HB.out _).alloc (by rw [e6]; exact hnr) _
        have HK := Lib.hid K7
        clear K7 e6
        gi_wp2
        refine ⟨fun _ h => (by cases h), ?_⟩
        gi_wp2
        go_roundw
        case rel => exact ⟨k + 1, q, p, _, by omega, by go_num, HP, HK, T7, hnx.trans b7⟩
        case measure => simp [intOf]; omega
    · obtain rfl : k = xs.length := by omega
      have hpre' := hpre.out
      rw [List.drop_length] at hpre'
      have HP := Lib.hid hpre'
      clear hpre hpre'
      obtain ⟨f0, f1, f2, f3⟩ := hH.two
      have K5 := Lib.hid (hJ.set _ _ _ B 1 (.int .i64 32054400) hJs.out (by simp))
      by_cases hc : a < 32054400
      · have HE : Hid (pre ++ [(a, 32054400)] = gapsL 0 xs) := by
          show _ = _
          rw [← HP.out]; simp [gapsL, hc]
        obtain ⟨fn, tmps, assign, body, hy, hR⟩ := HY.out _ pre (a, 32054400) _ K5.out (by rw [HE.out]; exact List.prefix_refl _)
        simp only [agg2] at hy
        gi_wp2
        refine ⟨rfl, hR.mono ?_⟩
        rintro e W7 (⟨rfl, J7, hks, hk7⟩ | ⟨rfl, hJx7⟩)
        · have K7 := Lib.hid J7
          clear J7 hks
          gi_wp2
          go_end0
          exact ⟨⟨_, rfl⟩, .inl ⟨_, by rw [← HE.out]; exact K7.out⟩⟩
        · have K7 := Lib.hid hJx7
          clear hJx7
          gi_wp2
          go_end0
          exact ⟨⟨_, rfl⟩, .inr ⟨_, by rw [HE.out]; exact List.prefix_refl _, K7.out⟩⟩
      · have HE : Hid (pre = gapsL 0 xs) := by
          show _ = _
          rw [← HP.out]; simp [gapsL, hc]
        gi_wp2
        go_end0
        exact ⟨⟨_, rfl⟩, .inl ⟨_, by rw [← HE.out]; exact K5.out⟩⟩
end Go.Proofs.YtdlimgpmmkcgmaaGreat

namespace Go.Proofs.YtdlimgpmmkcgmaaGreat
open Go.RowKit
set_option linter.unusedVariables false

theorem stepW_len (p : Int × Int) : ∀ l : List (Int × Int), (stepW p l).2.length + (stepW p l).1.length ≤ l.length + 1
  | [] => by simp [stepW]
  | x :: l => by
    have := stepW_len p l
    unfold stepW
    split
    · split
      · split <;> simp <;> omega
      · simp only [List.length_append, List.length_cons]
        split <;> simp <;> omega
    · simp
theorem runW_len (l : List (Int × Int)) : ∀ (n : Nat) (ps : List (Int × Int)), ps.length = n → (runW l ps).2.length + (runW l ps).1.length ≤ l.length + ps.length
  | 0, ps, hn => by
    obtain rfl : ps = [] := List.eq_nil_of_length_eq_zero hn
    simp [runW]
  | n + 1, ps, hn => by
    obtain ⟨pre, x, rfl⟩ : ∃ pre x, ps = pre ++ [x] := ⟨ps.dropLast, ps.getLast (by intro e; simp [e] at hn), (List.dropLast_concat_getLast _).symm⟩
    have h1 := runW_len l n pre (by simpa using hn)
    have h2 := stepW_len x (runW l pre).1
    rw [runW_snoc]
    simp only [List.length_append, List.length_cons, List.length_nil]
    omega

/-- The loop's variables: block n holds what is left of the plain spans, block n + 1 what was found; the blocks ks are others'. -/
structure Two (n : Nat) (ks : List Nat) (rest bo : List (Int × Int)) (W : World) (A : Option Addr) (c : Nat) (D : Option Addr) (d : Nat) : Prop where
  left : Has W n #[.slice A rest.length c]
  found : Has W (n + 1) #[.slice D bo.length d]
  row : Row W (n + 2) D d bo
  lies : Lies n W A rest
  cap : rest.length ≤ c
  max : c ≤ 9223372036854775807
  far : ∀ k ∈ ks, n + 2 ≤ k ∧ k < W.heap.size ∧ ∀ a, D = some a → a.block ≠ k

section
variable {n : Nat} {ks : List Nat} {rest bo : List (Int × Int)} {W W' : World} {A : Option Addr} {c : Nat} {D : Option Addr} {d : Nat}
/-- It is kept where the two, the row, and what is below n, are. -/
theorem Two.keep (h : Two n ks rest bo W A c D d) (hs : W.heap.size ≤ W'.heap.size) (hb : Below n W W') (h0 : W'.heap[n]? = W.heap[n]?) (h1 : W'.heap[n + 1]? = W.heap[n + 1]?) (h2 : ∀ g, D = some g → W'.heap[g.block]? = W.heap[g.block]?) : Two n ks rest bo W' A c D d :=
  ⟨h.left.of_heap h0, h.found.of_heap h1, h.row.keep h2, h.lies.below hb, h.cap, h.max, fun k hk => ⟨(h.far k hk).1, by have := (h.far k hk).2.1; omega, (h.far k hk).2.2⟩⟩
theorem Two.alloc (h : Two n ks rest bo W A c D d) (o : Obj) : Two n ks rest bo (W.alloc o) A c D d := by
  have hl := h.left.size
  have hf := h.found.size
  exact h.keep (by simp) ((Below.refl _ _).alloc (by omega) _) (Below.heap_alloc W o _ hl) (Below.heap_alloc W o _ hf) (fun g hg => Below.heap_alloc W o _ (h.row.lt g hg).2)
theorem Two.own (h : Two n ks rest bo W A c D d) (o : Obj) : Two n (W.heap.size :: ks) rest bo (W.alloc o) A c D d := by
  have h' := h.alloc o
  refine ⟨h'.left, h'.found, h'.row, h'.lies, h'.cap, h'.max, fun k hk => ?_⟩
  rcases List.mem_cons.1 hk with rfl | hk
  · have := h.found.size
    exact ⟨by omega, by simp, fun a ha => by have := (h.row.lt a ha).2; omega⟩
  · exact h'.far k hk
theorem Two.set (h : Two n ks rest bo W A c D d) {k : Nat} (hk : k ∈ ks) (i : Nat) (v : Value) : Two n ks rest bo (W.setCell ⟨k, i, none⟩ v) A c D d := by
  obtain ⟨h1, h2, h3⟩ := h.far k hk
  exact h.keep (grownBy_setCell W ⟨k, i, none⟩ v).size ((Below.refl _ _).setCell (p := ⟨k, i, none⟩) (by simp only []; omega) _) (Below.heap_setCell W _ v _ (by simp only []; omega)) (Below.heap_setCell W _ v _ (by simp only []; omega)) (fun g hg => Below.heap_setCell W _ v _ (h3 g hg))
theorem Two.less (h : Two n ks rest bo W A c D d) {ks' : List Nat} (hk : ∀ k ∈ ks', k ∈ ks) : Two n ks' rest bo W A c D d := ⟨h.left, h.found, h.row, h.lies, h.cap, h.max, fun k q => h.far k (hk k q)⟩
theorem Two.put (h : Two n ks rest bo W A c D d) {l : Nat} {o : Obj} (o' : Obj) (hl : n + 2 ≤ l) (ho : W.heap[l]? = some o) (hc : o.isCells = false) : Two n ks rest bo (W.putObj l o') A c D d := by
  refine h.keep (by simp) (below_putObj _ (by omega)) (World.putObj_heap_other (by omega)) (World.putObj_heap_other (by omega)) (fun g hg => World.putObj_heap_other ?_)
  rintro e
  subst hg
  rcases h.row.2 with ⟨hv, _⟩ | ⟨g', cap, cur, hv, _, hh, _⟩
  · cases hv
  · injection hv with e1
    simp only [Option.some.injEq] at e1
    subst e1
    rw [show (⟨g', 0, none⟩ : Addr).block = g' from rfl] at e
    rw [e] at hh
    rw [hh] at ho
    cases ho
    cases hc
/-- The variable of what is left takes another value. -/
theorem Two.setLeft (h : Two n ks rest bo W A c D d) {rest' : List (Int × Int)} {A' : Option Addr} {c' : Nat} (hl : Lies n W A' rest') (hc : rest'.length ≤ c') (hm : c' ≤ 9223372036854775807) : Two n ks rest' bo (W.setCell ⟨n, 0, none⟩ (.slice A' rest'.length c')) A' c' D d ∧ KeepsOthers W (W.setCell ⟨n, 0, none⟩ (.slice A' rest'.length c')) ∧ (∀ k ∈ ks, (W.setCell ⟨n, 0, none⟩ (.slice A' rest'.length c')).heap[k]? = W.heap[k]?) ∧ Below n W (W.setCell ⟨n, 0, none⟩ (.slice A' rest'.length c')) := by
  have hb : Below n W (W.setCell ⟨n, 0, none⟩ (.slice A' rest'.length c')) := (Below.refl _ _).setCell (p := ⟨n, 0, none⟩) (Nat.le_refl _) _
  refine ⟨⟨h.left.set 0 _, h.found.far (by simp only []; omega) _, h.row.far (fun g hg => by have := (h.row.lt g hg).1; simp only []; omega) _, hl.below hb, hc, hm, fun k hk => ⟨(h.far k hk).1, by have := (h.far k hk).2.1; have := (grownBy_setCell W ⟨n, 0, none⟩ (.slice A' rest'.length c')).size; omega, (h.far k hk).2.2⟩⟩, KeepsOthers.setCell _ _ _, fun k hk => Below.heap_setCell W _ _ _ (by have := (h.far k hk).1; simp only []; omega), hb⟩
end

/-- What was found takes one more. -/
theorem Two.push {n : Nat} {ks : List Nat} {rest bo : List (Int × Int)} {W : World} {A : Option Addr} {c : Nat} {D : Option Addr} {d : Nat} (h : Two n ks rest bo W A c D d) (p q : Int) (hl : bo.length < 1000000000) {s : Nat} (hs : W.heap.size = s) :
    ∃ D' d' w1, (Builtin.append_ #[40, 40] 40 #[.slice D bo.length d, .slice (some ⟨s, 0, none⟩) 1 1]).run Tryz.prog (W.alloc (.cells #[.int .i64 p, .int .i64 q] 44)) = .ok (.slice D' (bo.length + 1) d') w1 ∧
      Has w1 (n + 1) #[.slice D bo.length d] ∧ Two n ks rest (bo ++ [(p, q)]) (w1.setCell ⟨n + 1, 0, none⟩ (.slice D' (bo.length + 1) d')) A c D' d' ∧ KeepsOthers W (w1.setCell ⟨n + 1, 0, none⟩ (.slice D' (bo.length + 1) d')) ∧
      (∀ k ∈ ks, (w1.setCell ⟨n + 1, 0, none⟩ (.slice D' (bo.length + 1) d')).heap[k]? = W.heap[k]?) ∧ Below n W (w1.setCell ⟨n + 1, 0, none⟩ (.slice D' (bo.length + 1) d')) := by
  have hfs := h.found.size
  obtain ⟨D', d', w1, hr, hrow, hb, hz, hg, ho⟩ := row_push h.row p q hl (by omega) hs
  have hown : ∀ k, (Value.slice D bo.length d).ownBlock = some k → n + 2 ≤ k ∧ k < W.heap.size := fun k hk => World.ownsRow.lt h.row k hk
  have keepB : ∀ k, k < W.heap.size → some k ≠ (Value.slice D bo.length d).ownBlock → w1.heap[k]? = W.heap[k]? := fun k hk hne => (hg.block k (by simp; omega) hne).trans (Below.heap_alloc W _ k hk)
  have ne : ∀ k, k < n + 2 → some k ≠ (Value.slice D bo.length d).ownBlock := fun k hk e => by have := (hown k e.symm).1; omega
  have hF : Has w1 (n + 1) #[.slice D bo.length d] := h.found.of_heap (keepB _ (by omega) (ne _ (by omega)))
  have kfar : ∀ k ∈ ks, some k ≠ (Value.slice D bo.length d).ownBlock := fun k hk e => by
    cases D with
    | none => simp [Value.ownBlock] at e
    | some a => simp only [Value.ownBlock, Option.some.injEq] at e; exact (h.far k hk).2.2 a rfl e.symm
  have hb1 : Below n W w1 := ⟨hg.os, hg.tape, hg.output, by have := hg.size; simp at this; omega, fun k hk => keepB k (by omega) (ne k (by omega))⟩
  have hb2 : Below n W (w1.setCell ⟨n + 1, 0, none⟩ (.slice D' (bo.length + 1) d')) := hb1.setCell (p := ⟨n + 1, 0, none⟩) (by simp only []; omega) _
  have hsz := (grownBy_setCell w1 ⟨n + 1, 0, none⟩ (.slice D' (bo.length + 1) d')).size
  have hks : ∀ k ∈ ks, (w1.setCell ⟨n + 1, 0, none⟩ (.slice D' (bo.length + 1) d')).heap[k]? = W.heap[k]? := fun k hk => by
    have := h.far k hk
    rw [Below.heap_setCell w1 _ _ _ (by simp only []; omega)]
    exact keepB k (by omega) (kfar k hk)
  refine ⟨D', d', w1, hr, hF, ⟨?_, ?_, ?_, h.lies.below hb2, h.cap, h.max, fun k hk => ⟨(h.far k hk).1, ?_, fun a ha e => ?_⟩⟩, ?_, hks, hb2⟩
  · exact (h.left.of_heap (keepB _ (by omega) (ne _ (by omega)))).far (by simp only []; omega) _
  · have := hF.set 0 (.slice D' (bo.length + 1) d')
    rw [List.length_append]
    exact this
  · exact hrow.far (fun g hg' => by have := (hrow.lt g hg').1; simp only []; omega) _
  · have := (h.far k hk).2.1; omega
  · subst ha
    have hk2 := (h.far k hk).2
    rcases ho with ho | ho
    · exact kfar k hk (by rw [← ho]; simp [Value.ownBlock, e])
    · simp only [Value.ownBlock, Option.some.injEq] at ho; omega
  · refine ((KeepsOthers.alloc W _).trans (KeepsOthers.of_grownBy hg fun j o ej hj => ?_)).trans (KeepsOthers.setCell _ _ _)
    rcases (h.row.alloc (.cells #[.int .i64 p, .int .i64 q] 44)).2 with ⟨hv, _⟩ | ⟨g, cap, cur, hv, _, hgb, _⟩
    · rw [hv] at ej; simp [Value.ownBlock] at ej
    · rw [hv] at ej
      simp only [Value.ownBlock, Option.some.injEq] at ej
      rw [← ej, hgb] at hj
      cases hj; rfl

/-- Within a round: the loop's own variable in block B, all else as the round found it. -/
structure Rnd (n : Nat) (W : World) (ks : List Nat) (B : Nat) (x : Int × Int) (rest bo : List (Int × Int)) (wr : World) (A : Option Addr) (c : Nat) (D : Option Addr) (d : Nat) : Prop where
  two : Two n (B :: ks) rest bo wr A c D d
  var : Has wr B #[.int .i64 x.1, .int .i64 x.2]
  ko : KeepsOthers W wr
  own : ∀ k ∈ ks, wr.heap[k]? = W.heap[k]?
  bel : Below n W wr
section
variable {n : Nat} {W : World} {ks : List Nat} {B : Nat} {x : Int × Int} {rest bo : List (Int × Int)} {wr : World} {A : Option Addr} {c : Nat} {D : Option Addr} {d : Nat}
theorem Rnd.alloc (h : Rnd n W ks B x rest bo wr A c D d) (o : Obj) : Rnd n W ks B x rest bo (wr.alloc o) A c D d :=
  ⟨h.two.alloc o, h.var.alloc o, h.ko.trans (KeepsOthers.alloc _ _), fun k hk => (Below.heap_alloc wr o k (h.two.far k (List.mem_cons_of_mem _ hk)).2.1).trans (h.own k hk), h.bel.alloc (Nat.le_of_lt h.two.left.size) o⟩
theorem Two.drew {ks : List Nat} (h : Two n ks rest bo wr A c D d) : Two n ks rest bo wr.drew A c D d := ⟨h.left, h.found, h.row, h.lies, h.cap, h.max, h.far⟩
theorem Rnd.drew (h : Rnd n W ks B x rest bo wr A c D d) : Rnd n W ks B x rest bo wr.drew A c D d := ⟨h.two.drew, h.var, ⟨h.ko.size, h.ko.same⟩, h.own, ⟨h.bel.os, h.bel.tape, h.bel.output, h.bel.size, h.bel.block⟩⟩
theorem Rnd.drewN (h : Rnd n W ks B x rest bo wr A c D d) (m : Nat) : Rnd n W ks B x rest bo (wr.drewN m) A c D d := ⟨⟨h.two.left, h.two.found, h.two.row, h.two.lies, h.two.cap, h.two.max, h.two.far⟩, h.var, ⟨h.ko.size, h.ko.same⟩, h.own, ⟨h.bel.os, h.bel.tape, h.bel.output, h.bel.size, h.bel.block⟩⟩
theorem Rnd.setLeft (h : Rnd n W ks B x rest bo wr A c D d) {rest' : List (Int × Int)} {A' : Option Addr} {c' : Nat} (hl : Lies n wr A' rest') (hc : rest'.length ≤ c') (hm : c' ≤ 9223372036854775807) : Rnd n W ks B x rest' bo (wr.setCell ⟨n, 0, none⟩ (.slice A' rest'.length c')) A' c' D d := by
  obtain ⟨h1, h2, h3, h4⟩ := h.two.setLeft hl hc hm
  exact ⟨h1, h.var.of_heap (h3 B (by simp)), h.ko.trans h2, fun k hk => (h3 k (List.mem_cons_of_mem _ hk)).trans (h.own k hk), h.bel.trans h4⟩
end
theorem Rnd.push {n : Nat} {W : World} {ks : List Nat} {B : Nat} {x : Int × Int} {rest bo : List (Int × Int)} {wr : World} {A : Option Addr} {c : Nat} {D : Option Addr} {d : Nat} (h : Rnd n W ks B x rest bo wr A c D d) (p q : Int) (hl : bo.length < 1000000000) {s : Nat} (hs : wr.heap.size = s) :
    ∃ D' d' w1, (Builtin.append_ #[40, 40] 40 #[.slice D bo.length d, .slice (some ⟨s, 0, none⟩) 1 1]).run Tryz.prog (wr.alloc (.cells #[.int .i64 p, .int .i64 q] 44)) = .ok (.slice D' (bo.length + 1) d') w1 ∧
      Has w1 (n + 1) #[.slice D bo.length d] ∧ Rnd n W ks B x rest (bo ++ [(p, q)]) (w1.setCell ⟨n + 1, 0, none⟩ (.slice D' (bo.length + 1) d')) A c D' d' := by
  obtain ⟨D', d', w1, hr, hF, h1, h2, h3, h4⟩ := h.two.push p q hl hs
  exact ⟨D', d', w1, hr, hF, h1, h.var.of_heap (h3 B (by simp)), h.ko.trans h2, fun k hk => (h3 k (List.mem_cons_of_mem _ hk)).trans (h.own k hk), h.bel.trans h4⟩

/-- In a fenced walk: an append whose run is known. -/
theorem wpListIn_append_run {F : Fence} {n : Nat} {P : Program} {ops : Array Oper} {rest : List Oper} {o : Oper} {a : Act} {w w' : World} {Q : Exit → Act → World → Prop} {s x : Operand} {t : TypeId} {v u v' : Value}
    (hr : (Builtin.append_ #[t, t] o.type #[v, u]).run P w = .ok v' w') (hgd : o.guard = none)
    (ho : o.op = .call { callee := .builtin .append, args := #[s, x], argTypes := #[t, t] }) (hs : a.eval s = v) (hx : a.eval x = u)
    (h : wpListIn F n P ops Q rest (a.put o.dst v') w') : wpListIn F n P ops Q (o :: rest) a w := by
  refine wpListIn_plain hgd fun K hK => ⟨?_, ?_⟩
  · simp [Oper.about, ho, resolve, Target.leads, Sem.run_pure]
  · rw [Oper.semAt_plain F _ _ (by rw [ho]; intro c hc; cases hc)]
    simp [execOp, ho, resolve, invoke, builtin, hs, hx, hr, Result.andThen]
    exact hK _ _ h
end Go.Proofs.YtdlimgpmmkcgmaaGreat

namespace Go.Proofs.YtdlimgpmmkcgmaaGreat
open Go.RowKit
set_option linter.unusedVariables false
set_option linter.unusedSimpArgs false

/-- By night, of a setup that may be. -/
def NB (b : Bool) (f g t : Int) : Prop := b = true ∧ nightP f g t
instance (b : Bool) (f g t : Int) : Decidable (NB b f g t) := by unfold NB; infer_instance
def isB (b : Bool) (f g t : Int) : Bool := decide (0 ≤ t ∧ t < 32054400 ∧ NB b f g t)
/-- A night within a day. -/
def NW (b : Bool) (f g : Int) : Prop := b = true → (0 ≤ f ∧ f ≤ 86400) ∧ (0 ≤ g ∧ g ≤ 86400)
def hoursL (b : Bool) (f g : Int) : List (Int × Int) := if b = true then (if g < f then [(0, g), (f, 86400)] else [(f, g)]) else []
theorem hours_in {b : Bool} {f g : Int} (h : NW b f g) (n : Int) : In (hoursL b f g) n ↔ (0 ≤ n ∧ n < 86400) ∧ b = true ∧ (if g < f then f ≤ n ∨ n < g else f ≤ n ∧ n < g) := by
  unfold hoursL
  cases b with
  | false => simp [in_nil]
  | true =>
    obtain ⟨h1, h2⟩ := h rfl
    rw [if_pos rfl]
    by_cases q : g < f
    · rw [if_pos q, if_pos q, in_cons, in_one]
      simp only [true_and]
      constructor
      · rintro (k | k) <;> omega
      · rintro ⟨k1, k2 | k2⟩
        · exact .inr (by omega)
        · exact .inl (by omega)
    · rw [if_neg q, if_neg q, in_one]
      simp only [true_and]
      constructor
      · intro k; omega
      · intro k; omega
theorem hours_len (b : Bool) (f g : Int) : (hoursL b f g).length ≤ 2 := by
  unfold hoursL
  split
  · split <;> simp
  · simp
theorem hours_bd {b : Bool} {f g : Int} (h : NW b f g) : ∀ x ∈ hoursL b f g, (0 ≤ x.1 ∧ x.1 ≤ 86400) ∧ (0 ≤ x.2 ∧ x.2 ≤ 86400) := fun x hx => by
  unfold hoursL at hx
  cases b with
  | false => simp at hx
  | true =>
    obtain ⟨h1, h2⟩ := h rfl
    rw [if_pos rfl] at hx
    split at hx
    · rcases List.mem_cons.1 hx with rfl | hx
      · simp; omega
      · rw [List.mem_singleton.1 hx]; simp; omega
    · rw [List.mem_singleton.1 hx]; simp; omega
theorem hours_fits {b : Bool} {f g : Int} (h : NW b f g) : Fits (hoursL b f g) := fun x hx => by
  have := hours_bd h x hx
  exact ⟨⟨by omega, by omega⟩, ⟨by omega, by omega⟩⟩
def shiftL (m : Int) (l : List (Int × Int)) : List (Int × Int) := l.map fun x => (m + x.1, m + x.2)
theorem shift_in (m : Int) (l : List (Int × Int)) (t : Int) : In (shiftL m l) t ↔ In l (t - m) := by
  unfold In shiftL
  constructor
  · rintro ⟨s, hs, h1, h2⟩
    obtain ⟨x, hx, rfl⟩ := List.mem_map.1 hs
    exact ⟨x, hx, by simp at h1; omega, by simp at h2; omega⟩
  · rintro ⟨x, hx, h1, h2⟩
    exact ⟨_, List.mem_map.2 ⟨x, hx, rfl⟩, by simp; omega, by simp; omega⟩
theorem shift_len (m : Int) (l : List (Int × Int)) : (shiftL m l).length = l.length := by simp [shiftL]
theorem shift_snoc (m : Int) (l : List (Int × Int)) (k : Nat) (h : k < l.length) : shiftL m (l.take (k + 1)) = shiftL m (l.take k) ++ [(m + (l.getD k (0, 0)).1, m + (l.getD k (0, 0)).2)] := by
  unfold shiftL
  rw [List.take_succ_eq_append_getElem h, List.map_append]
  simp [List.getD, h, -List.map_take]
/-- The hours by night of the first k days. -/
def daysL (b : Bool) (f g : Int) (k : Nat) : List (Int × Int) := (List.range k).flatMap fun d : Nat => shiftL ((d : Int) * 86400) (hoursL b f g)
theorem daysL_snoc (b : Bool) (f g : Int) (k : Nat) : daysL b f g (k + 1) = daysL b f g k ++ shiftL ((k : Int) * 86400) (hoursL b f g) := by
  unfold daysL
  rw [List.range_succ, List.flatMap_append]
  simp
theorem daysL_len (b : Bool) (f g : Int) : ∀ k, (daysL b f g k).length ≤ 2 * k
  | 0 => by simp [daysL]
  | k + 1 => by
    have := daysL_len b f g k
    have h2 := hours_len b f g
    rw [daysL_snoc, List.length_append, shift_len]
    omega
theorem daysL_fits {b : Bool} {f g : Int} (h : NW b f g) {k : Nat} (hk : k ≤ 371) : Fits (daysL b f g k) := fun x hx => by
  unfold daysL at hx
  obtain ⟨d, hd, hx⟩ := List.mem_flatMap.1 hx
  have hd' := List.mem_range.1 hd
  unfold shiftL at hx
  obtain ⟨y, hy, rfl⟩ := List.mem_map.1 hx
  have := hours_bd h y hy
  simp only []
  exact ⟨⟨by omega, by omega⟩, ⟨by omega, by omega⟩⟩
theorem daysL_in {b : Bool} {f g : Int} (h : NW b f g) {t : Int} (h0 : 0 ≤ t) (h1 : t < 32054400) : In (daysL b f g 371) t ↔ NB b f g t := by
  have key : ∀ d : Nat, In (shiftL ((d : Int) * 86400) (hoursL b f g)) t ↔ (d : Int) = t / 86400 ∧ NB b f g t := fun d => by
    rw [shift_in, hours_in h]
    unfold NB nightP
    constructor
    · rintro ⟨⟨k1, k2⟩, k3, k4⟩
      have e : t % 86400 = t - d * 86400 := by omega
      rw [e]
      exact ⟨by omega, k3, k4⟩
    · rintro ⟨k1, k3, k4⟩
      have e : t - d * 86400 = t % 86400 := by omega
      rw [e]
      exact ⟨by omega, k3, k4⟩
  constructor
  · rintro ⟨s, hs, q1, q2⟩
    unfold daysL at hs
    obtain ⟨d, hd, hx⟩ := List.mem_flatMap.1 hs
    exact ((key d).1 ⟨s, hx, q1, q2⟩).2
  · intro hn
    obtain ⟨d, hd⟩ : ∃ d : Nat, (d : Int) = t / 86400 := ⟨(t / 86400).toNat, by omega⟩
    obtain ⟨s, hs, q1, q2⟩ := (key d).2 ⟨hd, hn⟩
    exact ⟨s, List.mem_flatMap.2 ⟨d, List.mem_range.2 (by omega), hs⟩, q1, q2⟩
theorem night_and {b : Bool} {f g : Int} (h : NW b f g) (l : List (Int × Int)) : (canon fun t => In l t ∧ In (daysL b f g 371) t) = canon fun t => In l t ∧ NB b f g t :=
  canon_congr fun t h0 h1 => by rw [daysL_in h h0 h1]
/-! ### The document's own -/
/-- What is told of the first k plain spans, and of the next one's seconds below T. -/
def TellN (b : Bool) (f g : Int) (p : List (Int × Int)) (k : Nat) (T : Int) (o : List (Int × Int)) : Prop :=
  Fits o ∧ (o.length : Int) ≤ T ∧ ∀ t, In o t ↔ NB b f g t ∧ (In (p.take k) t ∨ ((p.getD k (0, 0)).1 ≤ t ∧ t < (p.getD k (0, 0)).2 ∧ t < T))
/-- The first k, and nothing of the next one. -/
def TellK (b : Bool) (f g : Int) (p : List (Int × Int)) (k : Nat) (T : Int) (o : List (Int × Int)) : Prop :=
  Fits o ∧ (o.length : Int) ≤ T ∧ ∀ t, In o t ↔ NB b f g t ∧ In (p.take k) t
/-- Up to where the plain spans have been told. -/
def ahead (p : List (Int × Int)) : Nat → Int
  | 0 => 0
  | k + 1 => (p.getD k (0, 0)).2
theorem ahead_le {p : List (Int × Int)} (h : PlainFrom 0 p) {k : Nat} (hk : k < p.length) : 0 ≤ ahead p k ∧ ahead p k ≤ (p.getD k (0, 0)).1 := by
  have hq := plain_pairs.1 h
  have e : ∀ i, (hi : i < p.length) → p.getD i (0, 0) = p[i] := fun i hi => by simp [List.getD, hi]
  cases k with
  | zero =>
    have := hq.1 p[0] (List.getElem_mem hk)
    show (0 : Int) ≤ 0 ∧ (0 : Int) ≤ _
    rw [e 0 hk]; omega
  | succ k =>
    have h1 := hq.1 p[k] (List.getElem_mem (by omega))
    have h2 := List.pairwise_iff_getElem.1 hq.2 k (k + 1) (by omega) hk (by omega)
    show 0 ≤ (p.getD k (0, 0)).2 ∧ (p.getD k (0, 0)).2 ≤ _
    rw [e k (by omega), e (k + 1) hk]; omega
theorem ahead_top {p : List (Int × Int)} (h : PlainFrom 0 p) {k : Nat} (hk : k ≤ p.length) : ahead p k ≤ 32054400 := by
  cases k with
  | zero => show (0 : Int) ≤ _; omega
  | succ k =>
    have h1 := (plain_pairs.1 h).1 p[k] (List.getElem_mem (by omega))
    have e : p.getD k (0, 0) = p[k] := by simp [List.getD, show k < p.length by omega]
    show (p.getD k (0, 0)).2 ≤ _
    rw [e]; omega
theorem tell_nil (b : Bool) (f g : Int) (p : List (Int × Int)) : TellK b f g p 0 0 [] :=
  ⟨Fits.nil, by simp, fun t => by simp [in_nil]⟩
theorem tell_first {b : Bool} {f g : Int} {p o : List (Int × Int)} {k : Nat} (h : PlainFrom 0 p) (hk : k < p.length) (ho : TellK b f g p k (ahead p k) o) : TellN b f g p k (p.getD k (0, 0)).1 o :=
  ⟨ho.1, by have := ho.2.1; have := ahead_le h hk; omega, fun t => by
    rw [ho.2.2]
    constructor
    · rintro ⟨q1, q2⟩; exact ⟨q1, .inl q2⟩
    · rintro ⟨q1, q2 | q2⟩
      · exact ⟨q1, q2⟩
      · omega⟩
theorem tell_last {b : Bool} {f g : Int} {p o : List (Int × Int)} {k : Nat} {T : Int} (hk : k < p.length) (hT : T = (p.getD k (0, 0)).2) (ho : TellN b f g p k T o) : TellK b f g p (k + 1) (ahead p (k + 1)) o :=
  ⟨ho.1, by have := ho.2.1; subst hT; exact this, fun t => by
    rw [ho.2.2, List.take_succ_eq_append_getElem hk, in_append, in_one]
    have e : p.getD k (0, 0) = p[k] := by simp [List.getD, hk]
    rw [e] at hT ⊢
    constructor
    · rintro ⟨q1, q2 | q2⟩
      · exact ⟨q1, .inl q2⟩
      · exact ⟨q1, .inr ⟨q2.1, q2.2.1⟩⟩
    · rintro ⟨q1, q2 | q2⟩
      · exact ⟨q1, .inl q2⟩
      · exact ⟨q1, .inr ⟨q2.1, q2.2, by omega⟩⟩⟩
/-- From T up to U nothing changes. -/
theorem tell_yes {b : Bool} {f g : Int} {p o : List (Int × Int)} {k : Nat} {T U : Int} (ho : TellN b f g p k T o) (h0 : 0 ≤ T) (hT : T < U) (hU : U ≤ (p.getD k (0, 0)).2) (hU2 : U ≤ 32054400) (hf : (p.getD k (0, 0)).1 ≤ T) (hs : ∀ u, T ≤ u → u < U → (NB b f g u ↔ NB b f g T)) (hn : NB b f g T) : TellN b f g p k U (o ++ [(T, U)]) :=
  ⟨ho.1.append (fun x hx => by rw [List.mem_singleton.1 hx]; exact ⟨⟨by simp only []; omega, by simp only []; omega⟩, ⟨by simp only []; omega, by simp only []; omega⟩⟩), by have := ho.2.1; simp; omega, fun t => by
    rw [in_append, ho.2.2, in_one]
    simp only []
    constructor
    · rintro (⟨q1, q2 | q2⟩ | q)
      · exact ⟨q1, .inl q2⟩
      · exact ⟨q1, .inr ⟨q2.1, q2.2.1, by omega⟩⟩
      · exact ⟨(hs t q.1 q.2).2 hn, .inr ⟨by omega, by omega, q.2⟩⟩
    · rintro ⟨q1, q2 | q2⟩
      · exact .inl ⟨q1, .inl q2⟩
      · by_cases q : t < T
        · exact .inl ⟨q1, .inr ⟨q2.1, q2.2.1, q⟩⟩
        · exact .inr ⟨by omega, q2.2.2⟩⟩
theorem tell_no {b : Bool} {f g : Int} {p o : List (Int × Int)} {k : Nat} {T U : Int} (ho : TellN b f g p k T o) (hT : T < U) (hs : ∀ u, T ≤ u → u < U → (NB b f g u ↔ NB b f g T)) (hn : ¬ NB b f g T) : TellN b f g p k U o :=
  ⟨ho.1, by have := ho.2.1; omega, fun t => by
    rw [ho.2.2]
    constructor
    · rintro ⟨q1, q2 | q2⟩
      · exact ⟨q1, .inl q2⟩
      · exact ⟨q1, .inr ⟨q2.1, q2.2.1, by omega⟩⟩
    · rintro ⟨q1, q2 | q2⟩
      · exact ⟨q1, .inl q2⟩
      · by_cases q : t < T
        · exact ⟨q1, .inr ⟨q2.1, q2.2.1, q⟩⟩
        · exact absurd q1 (fun z => hn ((hs t (by omega) q2.2.2).1 z))⟩
theorem tell_end {b : Bool} {f g : Int} {p l o : List (Int × Int)} {T : Int} (hp : canon (In l) = p) (ho : TellK b f g p p.length T o) : canon (In o) = canon fun t => In l t ∧ NB b f g t :=
  canon_congr fun t h0 h1 => by
    rw [ho.2.2, List.take_length, ← hp, canon_in]
    exact ⟨fun q => ⟨q.2.2.2, q.1⟩, fun q => ⟨q.2, h0, h1, q.1⟩⟩
/-- Up to the next place where a night begins, or ends, or a day. -/
theorem next_still {b : Bool} {f g T U : Int} (hU : U ≤ T - T % 86400 + 86400) (hf : b = true → T < T - T % 86400 + f → U ≤ T - T % 86400 + f) (hg : b = true → T < T - T % 86400 + g → U ≤ T - T % 86400 + g) : ∀ u, T ≤ u → u < U → (NB b f g u ↔ NB b f g T) := fun u h0 h1 => by
  unfold NB
  constructor
  · rintro ⟨q1, q2⟩
    exact ⟨q1, (night_still h0 (by omega) (fun z => by have := hf q1 z; omega) (fun z => by have := hg q1 z; omega)).1 q2⟩
  · rintro ⟨q1, q2⟩
    exact ⟨q1, (night_still h0 (by omega) (fun z => by have := hf q1 z; omega) (fun z => by have := hg q1 z; omega)).2 q2⟩
end Go.Proofs.YtdlimgpmmkcgmaaGreat
