/-
  The two functions that package span's loops range over: slices.Values, and what is between plain spans.
-/
import Derived.Test.YtojhecllgkoclaaSpD
import Derived.Test.YtojhecllgkoclaaSpRange
import Derived.Shelf.RegionOpen
import Derived.OwnWalkIn
import Derived.TacticsInMore
import Derived.LoopNIn
import Derived.LoopIn
namespace Go.Proofs.Ytojhecllgkoclaa
open Go.RowKit
set_option linter.unusedVariables false
attribute [local go_sem] Oper.semAt_some

/-- A slice value over A reads as the spans xs, from below n. -/
def Lies (n : Nat) (w : World) (A : Option Addr) (xs : List (Int × Int)) : Prop :=
  ∀ k, k < xs.length → ∃ b off, A = some ⟨b, off, none⟩ ∧ b < n ∧ w.cell? ⟨b, off + k * 2, none⟩ = some (.int .i64 (xs.getD k (0, 0)).1) ∧ w.cell? ⟨b, off + k * 2 + 1, none⟩ = some (.int .i64 (xs.getD k (0, 0)).2)
theorem Lies.below {n : Nat} {w w' : World} {A : Option Addr} {xs : List (Int × Int)} (h : Lies n w A xs) (hb : Below n w w') : Lies n w' A xs := fun k hk => by
  obtain ⟨b, off, e, h0, h1, h2⟩ := h k hk
  exact ⟨b, off, e, h0, (hb.cell h0).trans h1, (hb.cell h0).trans h2⟩
theorem Spans.lies {w : World} {A : Option Addr} {xs : List (Int × Int)} (h : Spans w A xs) : Lies w.heap.size w A xs := h.2
theorem take_snoc (xs : List (Int × Int)) (k : Nat) (h : k < xs.length) : xs.take (k + 1) = xs.take k ++ [xs.getD k (0, 0)] := by
  rw [List.take_succ_eq_append_getElem h]; simp [List.getD, h]

set_option maxHeartbeats 2000000 in
theorem values_seq (Bn n₀ cap : Nat) (A : Option Addr) (xs : List (Int × Int)) (w : World) (hB : Bn < w.heap.size) (hc : w.cell? ⟨Bn, 0, none⟩ = some (.slice A xs.length cap)) (hx : Lies n₀ w A xs) (hn : n₀ ≤ w.heap.size) (hl : xs.length ≤ 100000000) :
    SeqOf Try.prog 54 #[.pointer (some ⟨Bn, 0, none⟩)] n₀ xs w := by
  intro l J Jx W hW hJ hY h0
  have hc' := (hW.cell (p := ⟨Bn, 0, none⟩) hB).trans hc
  have HX := Lib.hid (hx.below (hW.mono hn))
  have HY := Lib.hid hY
  have hnW : n₀ ≤ W.heap.size := Nat.le_trans hn hW.size
  clear hY hx hc hW
  refine callsIn_of_wp Try.func54 rfl trivial ?_ rfl
  simp only [Try.ntmps54, List.size_toArray, List.length_cons, List.length_nil, Nat.reduceAdd, Nat.reduceSub, Array.replicate_succ, Array.replicate_zero, List.push_toArray, List.append_toArray, List.nil_append, List.cons_append]
  gi_wp2
  gi_loopw [7] (fun i wr => ∃ k : Nat, k ≤ xs.length ∧ i = .int .i64 k ∧ Hid (J [] (xs.take k) wr) ∧ Below n₀ W wr) (fun i _ => xs.length - (intOf i).toNat)
  case atStart => exact ⟨0, Nat.zero_le _, rfl, h0, Below.refl _ _⟩
  case round =>
    obtain ⟨k, hk, rfl, hJs, hnx⟩ := hrel
    by_cases hlt : k < xs.length
    · obtain ⟨b, off, rfl, hb, c1, c2⟩ := (HX.out.below hnx) k hlt
      have ht := take_snoc xs k hlt
      have HT := Lib.hid ht
      have hpre : xs.take k ++ [xs.getD k (0, 0)] <+: xs := by rw [← ht]; exact List.take_prefix _ _
      obtain ⟨fn, tmps, assign, body, hy, hR⟩ := HY.out [] (xs.take k) (xs.getD k (0, 0)) _ (hJ.alloc _ _ wr (.cells #[.int .i64 (xs.getD k (0, 0)).1, .int .i64 (xs.getD k (0, 0)).2] 47) hJs.out) hpre
      clear ht hpre
      generalize xs.getD k (0, 0) = z at *
      obtain ⟨p, q⟩ := z
      simp only [agg2] at c1 c2 hy hR
      gi_wp2
      refine ⟨rfl, hR.mono ?_⟩
      rintro e W3 (⟨rfl, hJ3, _, hk3⟩ | ⟨rfl, hJx3⟩)
      · have HJ3 := Lib.hid hJ3
        have hbb := hnx.trans (((Below.refl _ wr).alloc (Nat.le_trans hnW hnx.size) _).trans hk3)
        clear hJ3
        gi_wp2
        go_roundw
        case rel => exact ⟨k + 1, by omega, by go_num, by show J _ _ _; rw [HT.out]; exact HJ3.out, hbb⟩
        case measure => simp [intOf]; omega
      · have HJ3 := Lib.hid hJx3
        clear hJx3
        gi_wp2
        refine bodyPost_ret (results_none rfl _ _ _) rfl ?_
        exact ⟨⟨_, rfl⟩, .inr ⟨_, by rw [← HT.out]; exact List.take_prefix _ _, HJ3.out⟩⟩
    · obtain rfl : k = xs.length := by omega
      have hJ' := hJs.out
      rw [List.take_length] at hJ'
      have HJ3 := Lib.hid hJ'
      clear hJ' hJs
      gi_wp2
      go_end0
      exact ⟨⟨_, rfl⟩, .inl ⟨[], HJ3.out⟩⟩

theorem Has.of_heap {w w' : World} {g : Nat} {cs : Array Value} (h : Has w g cs) (e : w'.heap[g]? = w.heap[g]?) : Has w' g cs := by
  obtain ⟨t, h⟩ := h
  exact ⟨t, e.trans h⟩
end Go.Proofs.Ytojhecllgkoclaa
