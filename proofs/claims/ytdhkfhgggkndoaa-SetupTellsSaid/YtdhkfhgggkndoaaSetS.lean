/-
  Package setup: what reads, and numbers one behind the other.
-/
import Derived.Test.YtdhkfhgggkndoaaSetR
namespace Go.Proofs.Ytdhkfhgggkndoaa
open Go.RowKit
set_option linter.unusedVariables false
set_option linter.unusedSimpArgs false
set_option maxRecDepth 20000

/-- Numbers off bytes, one behind the other. -/
def rdk : Nat → List (BitVec 8) → List Nat × List (BitVec 8)
  | 0, l => ([], l)
  | k + 1, l => ((rdk k l).1 ++ [(rd1 (rdk k l).2).1], (rd1 (rdk k l).2).2)
theorem rdk_len (k : Nat) (l : List (BitVec 8)) : (rdk k l).1.length = k ∧ (rdk k l).2.length ≤ l.length := by
  induction k with
  | zero => exact ⟨rfl, Nat.le_refl _⟩
  | succ k ih =>
    refine ⟨by simp [rdk, ih.1], ?_⟩
    have := rd1_len (rdk k l).2
    simp only [rdk]
    omega
theorem rdk_ok : ∀ (ns : List Nat), (∀ n ∈ ns, n < 9223372036854775808) → ∀ r, rdk ns.length (putB ns ++ r) = (ns, r) := by
  intro ns
  suffices h : ∀ (k : Nat) (ns : List Nat), ns.length = k → (∀ n ∈ ns, n < 9223372036854775808) → ∀ r, rdk k (putB ns ++ r) = (ns, r) by
    intro hn r; exact h _ ns rfl hn r
  intro k
  induction k with
  | zero =>
    intro ns hl hn r
    obtain rfl := List.eq_nil_of_length_eq_zero hl
    simp [rdk, putB]
  | succ k ih =>
    intro ns hl hn r
    have hne : ns ≠ [] := by rintro rfl; simp at hl
    obtain ⟨ms, m, rfl⟩ : ∃ ms m, ns = ms ++ [m] := ⟨ns.dropLast, ns.getLast hne, (List.dropLast_concat_getLast hne).symm⟩
    have hk : ms.length = k := by simpa using hl
    have e : putB (ms ++ [m]) ++ r = putB ms ++ (oneB m ++ r) := by simp [putB]
    rw [e, rdk, ih ms hk (fun n h => hn n (by simp [h])) (oneB m ++ r)]
    simp only
    rw [rd1_ok (hn m (by simp)) r]
/-- Cells with numbers laid at o and behind. -/
def setN (cs : Array Value) (o : Nat) : List Nat → Array Value
  | [] => cs
  | m :: ns => setN (cs.setIfInBounds o (.int .i64 m)) (o + 1) ns
theorem setN_snoc : ∀ (ns : List Nat) (cs : Array Value) (o m : Nat), setN cs o (ns ++ [m]) = (setN cs o ns).setIfInBounds (o + ns.length) (.int .i64 m)
  | [], cs, o, m => rfl
  | n :: ns, cs, o, m => by
    show setN _ _ (ns ++ [m]) = _
    rw [setN_snoc ns]
    simp only [setN, List.length_cons]
    congr 1
    omega
theorem setN_get : ∀ (ns : List Nat) (cs : Array Value) (o i : Nat), o + ns.length ≤ i → (setN cs o ns)[i]? = cs[i]?
  | [], cs, o, i, h => rfl
  | n :: ns, cs, o, i, h => by
    simp only [List.length_cons] at h
    show (setN _ _ ns)[i]? = _
    rw [setN_get ns _ _ i (by omega), Array.getElem?_setIfInBounds_ne (by omega)]
theorem setN_mid : ∀ (ns : List Nat) (pre mid post : List Value), mid.length = ns.length → setN (pre ++ (mid ++ post)).toArray pre.length ns = (pre ++ (ns.map (fun n : Nat => Value.int .i64 n) ++ post)).toArray
  | [], pre, mid, post, h => by
    obtain rfl := List.eq_nil_of_length_eq_zero h
    rfl
  | n :: ns, pre, [], post, h => by simp at h
  | n :: ns, pre, x :: mid, post, h => by
    have e : ((pre ++ (x :: mid ++ post)).toArray.setIfInBounds pre.length (.int .i64 n)) = ((pre ++ [Value.int .i64 n]) ++ (mid ++ post)).toArray := by
      simp
    have := setN_mid ns (pre ++ [Value.int .i64 n]) mid post (by simpa using h)
    rw [List.length_append] at this
    show setN _ _ ns = _
    rw [e, show pre.length + 1 = pre.length + [Value.int .i64 (n : Int)].length from rfl, this]
    simp
theorem setN_append : ∀ (xs ys : List Nat) (cs : Array Value) (o : Nat), setN cs o (xs ++ ys) = setN (setN cs o xs) (o + xs.length) ys
  | [], ys, cs, o => rfl
  | x :: xs, ys, cs, o => by
    show setN _ _ (xs ++ ys) = _
    rw [setN_append xs ys]
    simp only [setN, List.length_cons]
    congr 1
    omega
theorem rdk_add (a b : Nat) (l : List (BitVec 8)) : rdk (a + b) l = ((rdk a l).1 ++ (rdk b (rdk a l).2).1, (rdk b (rdk a l).2).2) := by
  induction b with
  | zero => simp [rdk]
  | succ b ih => rw [← Nat.add_assoc, rdk, ih]; simp [rdk]
theorem method_r (a : Addr) (w : World) : (method 244 65 (.pointer (some a)) "lumper/setup.number").run Try.prog w = .ok (136, .pointer (some a)) w := by kernel_rfl
set_option maxHeartbeats 1000000 in
theorem rnums_any (R0 : World) (F : Nat → Prop) (g b k p2 q o : Nat) (cs : Array Value) (l : List (BitVec 8)) (w : World) (hk2 : k ≤ 1000)
    (hP : Ptrs w b k (fun j => ⟨q, o + j, none⟩)) (hcs : Has w q cs) (hz : ∀ j, j < k → cs[o + j]? = some (.int .i64 0)) (hFb : F b) (hbq : b ≠ q) (hq : F q) (hqo : R0.heap.size ≤ q) (hF2 : F p2) (h2q : p2 ≠ q) (h2 : w.cell? ⟨p2, 0, none⟩ = some (.iface 65 (.pointer (some ⟨g, 0, none⟩))))
    (h : RPen R0 F g l w) (hl : l.length ≤ 1000000) :
    Calls Try.prog 61 #[.slice (some ⟨b, 0, none⟩) k k, .pointer (some ⟨p2, 0, none⟩)] w fun e w' => e = .returned (.tuple #[]) ∧ Kept (fun b => F b ∧ b ≠ q) w w' ∧ Has w' q (setN cs o (rdk k l).1) ∧ RPen R0 F g (rdk k l).2 w' := by
  have HP := Lib.hid hP
  have HZ := Lib.hid hz
  have HW := Lib.hid h
  have H2 := Lib.hid h2
  have HC := Lib.hid hcs
  clear hP hz h h2 hcs
  go_enter Try.func61, Try.ntmps61
  go_wp2
  go_loopw [7] (fun i wr => ∃ (j : Nat), j ≤ k ∧ i = .int .i64 j ∧ Kept (fun b => F b ∧ b ≠ q) w wr ∧ Hid (Has wr q (setN cs o (rdk j l).1)) ∧ Hid (RPen R0 F g (rdk j l).2 wr)) (fun i _ => k - (intOf i).toNat)
  case atStart => exact ⟨0, Nat.zero_le _, rfl, Kept.refl _ _, HC, HW⟩
  case round =>
    obtain ⟨j, hj, rfl, hkw, hh, hw⟩ := hrel
    by_cases hlt : j < k
    · have q1 := (cell_kept hkw (p := ⟨b, j, none⟩) ⟨hFb, hbq⟩).trans (HP.out j hlt)
      have q2 := (cell_kept hkw (p := ⟨p2, 0, none⟩) ⟨hF2, h2q⟩).trans H2.out
      have hb1 := cell_lt q1
      have hb2 := cell_lt q2
      obtain ⟨hl1, hl2⟩ := rdk_len j l
      have hzj : (setN cs o (rdk j l).1)[o + j]? = some (.int .i64 0) := by rw [setN_get _ _ _ _ (by omega)]; exact HZ.out j hlt
      have HR := Lib.hid (rnum_any R0 F g q (o + j) _ _ wr hq hqo hh.out hzj hw.out (by omega))
      have E1 : Hid ((setN cs o (rdk j l).1).setIfInBounds (o + j) (.int .i64 (rd1 (rdk j l).2).1) = setN cs o (rdk (j + 1) l).1) := by
        show _ = _
        have := setN_snoc (rdk j l).1 cs o (rd1 (rdk j l).2).1
        rw [hl1] at this
        exact this.symm
      have hm := method_r
      clear hl1 hl2 hzj
      go_wp2_with fail
      refine HR.out.mono ?_
      rintro e w2 ⟨rfl, hk3, hh3, hw3⟩
      rw [E1.out] at hh3
      have HH3 := Lib.hid hh3
      have HW3 : Hid (RPen R0 F g (rdk (j + 1) l).2 w2) := hw3
      clear hh3 hw3 hw hh hm q1 q2 HR E1
      go_wp2
      go_roundw
      case rel => exact ⟨j + 1, by omega, by go_num, hkw.on hk3, HH3, HW3⟩
      case measure => simp [intOf]; omega
    · obtain rfl : j = k := by omega
      go_wp2
      refine bodyPost_end (v := .tuple #[]) (by simp [results, Try.results61]) rfl ⟨rfl, hkw, hh.out, hw.out⟩
theorem rnums_new (R0 : World) (F : Nat → Prop) (g q o k p2 : Nat) (cs : Array Value) (l : List (BitVec 8)) (w : World) (cells : Array Value) (t : TypeId) (hcl : ∀ j, j < k → cells[j]? = some (.pointer (some ⟨q, o + j, none⟩))) (hk2 : k ≤ 1000)
    (hcs : Has w q cs) (hz : ∀ j, j < k → cs[o + j]? = some (.int .i64 0)) (hq : F q) (hqo : R0.heap.size ≤ q) (hF2 : F p2) (h2q : p2 ≠ q) (h2 : w.cell? ⟨p2, 0, none⟩ = some (.iface 65 (.pointer (some ⟨g, 0, none⟩))))
    (h : RPen R0 F g l w) (hl : l.length ≤ 1000000) :
    Calls Try.prog 61 #[.slice (some ⟨w.heap.size, 0, none⟩) k k, .pointer (some ⟨p2, 0, none⟩)] (w.alloc (.cells cells t)) fun e w' => e = .returned (.tuple #[]) ∧ Kept (fun b => F b ∧ b ≠ q) w w' ∧ Has w' q (setN cs o (rdk k l).1) ∧ RPen R0 F g (rdk k l).2 w' := by
  have hqs := h.low q hq
  have h2s := h.low p2 hF2
  refine (rnums_any R0 (fun b => F b ∨ b = w.heap.size) g w.heap.size k p2 q o cs l _ hk2 (fun j hj => ?_) (hcs.alloc _) hz (.inr rfl) (by omega) (.inl hq) hqo (.inl hF2) h2q ((World.cell?_alloc_lt w _ _ h2s).trans h2) (h.grow _) hl).mono ?_
  · rw [cell_of_row _ _ _ _ _ _ (heap_alloc_new w _)]
    exact hcl j hj
  · rintro e w' ⟨h1, h2, h3, h4⟩
    exact ⟨h1, (Kept.of_below (bel_alloc (Below.refl _ _) _) fun b hb => h.low b hb.1).on (h2.less fun b hb => ⟨.inl hb.1, hb.2⟩), h3, h4.less fun b hb => .inl hb⟩
end Go.Proofs.Ytdhkfhgggkndoaa
