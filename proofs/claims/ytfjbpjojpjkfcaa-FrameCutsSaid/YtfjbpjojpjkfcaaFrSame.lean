/-
  Two lists of bytes held against each other; few payloads.
-/
import Derived.Test.YtfjbpjojpjkfcaaBss
import Derived.Test.YtfjbpjojpjkfcaaByStr
import Derived.Test.YtfjbpjojpjkfcaaOrders
import Derived.RegionTactic
import Derived.WalkKit
import Derived.WalkLawsBesides
import Derived.Lib.Hide
import Derived.IntWalk
namespace Go.Proofs.Ytfjbpjojpjkfcaa
open Go.RowKit
set_option linter.unusedVariables false
set_option linter.unusedSimpArgs false

theorem same_less (A : Option Addr) (m c : Nat) (B : Option Addr) (n d : Nat) (w : World) (h : m ≠ n) :
    Calls Try.prog 15 #[.slice A m c, .slice B n d] w fun e w' => e = .returned (.bool false) ∧ Below w.heap.size w w' := by
  have h1 : ((m : Int) == (n : Int)) = false := by simp; omega
  go_enter Try.func15, Try.ntmps15
  go_wp2
  go_ret
  exact ⟨rfl, Below.refl _ _⟩
set_option maxHeartbeats 1000000 in
theorem same_long (A : Option Addr) (m c : Nat) (ps : List (List (BitVec 8))) (B : Option Addr) (d : Nat) (qs : List (List (BitVec 8))) (t : Bool) (w : World) (hp : Bss w A m c ps) (hq : Bss w B m d qs) (hm : m ≤ 1000000000000) (ht : decide (ps = qs) = t) :
    Calls Try.prog 15 #[.slice A m c, .slice B m d] w fun e w' => e = .returned (.bool t) ∧ Below w.heap.size w w' := by
  have l1 := hp.len
  have l2 := hq.len
  have HP := Lib.hid hp
  have HQ := Lib.hid hq
  have HL1 := Lib.hid l1
  have HL2 := Lib.hid l2
  have HT := Lib.hid ht
  have h1 : ((m : Int) == (m : Int)) = true := by simp
  clear hp hq l1 l2 ht
  go_enter Try.func15, Try.ntmps15
  go_wp2
  go_loopw [5] (fun i wr => ∃ k : Nat, k ≤ m ∧ i = .int .i64 k ∧ Hid (∀ j, j < k → ps.getD j [] = qs.getD j []) ∧ Below w.heap.size w wr) (fun i _ => m - (intOf i).toNat)
  case atStart => exact ⟨0, by omega, rfl, Lib.hid (fun j hj => by omega), Below.refl _ _⟩
  case round =>
    obtain ⟨k, hk, rfl, hsame, hb⟩ := hrel
    by_cases hlt : k < m
    · obtain ⟨b, off, X, e, rfl, c1, s1, _⟩ := (HP.out.below hb).at (k := k) (by rw [HL1.out]; exact hlt)
      obtain ⟨b2, off2, Y, e2, rfl, c2, s2, _⟩ := (HQ.out.below hb).at (k := k) (by rw [HL2.out]; exact hlt)
      have HS1 := Lib.hid s1
      have HS2 := Lib.hid s2
      have HC1 := Lib.hid c1
      have HC2 := Lib.hid c2
      have HY : Hid (ps.getD k [] = qs.getD k [] → ∀ j, j < k + 1 → ps.getD j [] = qs.getD j []) := Lib.hid (fun h j hj => by
        rcases Nat.lt_or_ge j k with q | q
        · exact hsame.out j q
        · obtain rfl : j = k := by omega
          exact h)
      have HN : Hid (ps.getD k [] ≠ qs.getD k [] → t = false) := Lib.hid (fun h => by
        rw [← HT.out]
        simp only [decide_eq_false_iff_not]
        rintro rfl
        exact h rfl)
      clear s1 s2 c1 c2
      generalize hx : ps.getD k [] = x at *
      generalize hy : qs.getD k [] = y at *
      generalize x.length = xl at *
      generalize y.length = yl at *
      obtain ⟨T, hT⟩ : ∃ T, decide (x = y) = T := ⟨_, rfl⟩
      have hte : ((txtB x).toList == (txtB y).toList) = T := by rw [txt_eq, hT]
      clear hx hy
      go_wp2
      refine wp_region_noPanic ?_
      refine wp_region_held_drew (S := fun w' => Below wr.heap.size wr w') (by kernel_rfl) (below_drew (Below.refl _ _)) (fun hHeld => ?_)
      refine wpAnyH_take (i := 0) (oi := ⟨some 17, _, _, _, _, _⟩) (v := ?_) rfl (by kernel_rfl) (by kernel_rfl) (by kernel_rfl) (fun _ _ _ h => h) (Or.inl ⟨by rfl, ?_⟩) hHeld ?_
      rotate_left
      · intro ww hSw
        (try dsimp only at hSw)
        go_simp
        (try with_reducible rfl)
      simp only [Act.put, List.setIfInBounds_toArray, List.set_cons_zero, List.set_cons_succ]
      refine wpAnyH_take (i := 1) (oi := ⟨some 18, _, _, _, _, _⟩) (v := ?_) rfl (by kernel_rfl) (by kernel_rfl) (by kernel_rfl) (fun _ _ _ h => h) (Or.inl ⟨by rfl, ?_⟩) hHeld ?_
      rotate_left
      · intro ww hSw
        (try dsimp only at hSw)
        go_simp
        (try with_reducible rfl)
      simp only [Act.put, List.setIfInBounds_toArray, List.set_cons_zero, List.set_cons_succ]
      refine wpAnyH_take (i := 2) (oi := ⟨some 19, _, _, _, _, _⟩) (v := ?_) rfl (by kernel_rfl) (by kernel_rfl) (by kernel_rfl) (fun _ _ _ h => h) (Or.inl ⟨by rfl, ?_⟩) hHeld ?_
      rotate_left
      · intro ww hSw
        (try dsimp only at hSw)
        go_simp
        (try with_reducible rfl)
      simp only [Act.put, List.setIfInBounds_toArray, List.set_cons_zero, List.set_cons_succ]
      refine wpAnyH_take (i := 3) (oi := ⟨some 20, _, _, _, _, _⟩) (v := .slice X xl e) rfl (by kernel_rfl) (by kernel_rfl) (by kernel_rfl) (fun _ _ _ h => h) (Or.inl ⟨by rfl, ?_⟩) hHeld ?_
      · intro ww hSw
        (try dsimp only at hSw)
        have hcv := (hSw.cell (cell_lt HC1.out)).trans HC1.out
        go_simp
      simp only [Act.put, List.setIfInBounds_toArray, List.set_cons_zero, List.set_cons_succ]
      refine wpAnyH_take (i := 4) (oi := ⟨some 21, _, _, _, _, _⟩) (v := .string (txtB x)) rfl (by kernel_rfl) (by kernel_rfl) (by kernel_rfl) (fun _ _ _ h => h) (Or.inl ⟨by rfl, ?_⟩) hHeld ?_
      · intro ww hSw
        (try dsimp only at hSw)
        have hcv := conv_sl (HS1.out.below hSw)
        go_simp
      simp only [Act.put, List.setIfInBounds_toArray, List.set_cons_zero, List.set_cons_succ]
      refine wpAnyH_take (i := 5) (oi := ⟨some 22, _, _, _, _, _⟩) (v := ?_) rfl (by kernel_rfl) (by kernel_rfl) (by kernel_rfl) (fun _ _ _ h => h) (Or.inl ⟨by rfl, ?_⟩) hHeld ?_
      rotate_left
      · intro ww hSw
        (try dsimp only at hSw)
        go_simp
        (try with_reducible rfl)
      simp only [Act.put, List.setIfInBounds_toArray, List.set_cons_zero, List.set_cons_succ]
      refine wpAnyH_take (i := 6) (oi := ⟨some 23, _, _, _, _, _⟩) (v := ?_) rfl (by kernel_rfl) (by kernel_rfl) (by kernel_rfl) (fun _ _ _ h => h) (Or.inl ⟨by rfl, ?_⟩) hHeld ?_
      rotate_left
      · intro ww hSw
        (try dsimp only at hSw)
        go_simp
        (try with_reducible rfl)
      simp only [Act.put, List.setIfInBounds_toArray, List.set_cons_zero, List.set_cons_succ]
      refine wpAnyH_take (i := 7) (oi := ⟨some 24, _, _, _, _, _⟩) (v := ?_) rfl (by kernel_rfl) (by kernel_rfl) (by kernel_rfl) (fun _ _ _ h => h) (Or.inl ⟨by rfl, ?_⟩) hHeld ?_
      rotate_left
      · intro ww hSw
        (try dsimp only at hSw)
        go_simp
        (try with_reducible rfl)
      simp only [Act.put, List.setIfInBounds_toArray, List.set_cons_zero, List.set_cons_succ]
      refine wpAnyH_take (i := 8) (oi := ⟨some 25, _, _, _, _, _⟩) (v := .slice Y yl e2) rfl (by kernel_rfl) (by kernel_rfl) (by kernel_rfl) (fun _ _ _ h => h) (Or.inl ⟨by rfl, ?_⟩) hHeld ?_
      · intro ww hSw
        (try dsimp only at hSw)
        have hcv := (hSw.cell (cell_lt HC2.out)).trans HC2.out
        go_simp
      simp only [Act.put, List.setIfInBounds_toArray, List.set_cons_zero, List.set_cons_succ]
      refine wpAnyH_take (i := 9) (oi := ⟨some 26, _, _, _, _, _⟩) (v := .string (txtB y)) rfl (by kernel_rfl) (by kernel_rfl) (by kernel_rfl) (fun _ _ _ h => h) (Or.inl ⟨by rfl, ?_⟩) hHeld ?_
      · intro ww hSw
        (try dsimp only at hSw)
        have hcv := conv_sl (HS2.out.below hSw)
        go_simp
      simp only [Act.put, List.setIfInBounds_toArray, List.set_cons_zero, List.set_cons_succ]
      refine wpAnyH_take (i := 10) (oi := ⟨some 27, _, _, _, _, _⟩) (v := .bool (!T)) rfl (by kernel_rfl) (by kernel_rfl) (by kernel_rfl) (fun _ _ _ h => h) (Or.inl ⟨by rfl, ?_⟩) hHeld ?_
      · intro ww hSw
        (try dsimp only at hSw)
        go_simp
        (try simp [bne])
      simp only [Act.put, List.setIfInBounds_toArray, List.set_cons_zero, List.set_cons_succ]
      refine wpAnyH_done (by kernel_rfl) ?_ _
      refine NoPanic.normal ?_
      cases T with
      | false =>
        have hne : x ≠ y := by simpa using hT
        have HF := Lib.hid (HN.out hne)
        clear hne
        go_wp2
        go_ret
        exact ⟨ret_bool HF.out.symm, below_drew hb⟩
      | true =>
        have heq : x = y := by simpa using hT
        have HF := Lib.hid (HY.out heq)
        clear heq
        go_wp2
        go_roundw
        case rel => exact ⟨k + 1, by omega, by go_num, HF, below_drew hb⟩
        case measure => simp [intOf]; omega
    · obtain rfl : k = m := by omega
      have HF : Hid (t = true) := by
        show t = true
        rw [← HT.out]
        simp only [decide_eq_true_eq]
        apply List.ext_getElem
        · rw [HL1.out, HL2.out]
        · intro j h1 h2
          have := hsame.out j (by rw [← HL1.out]; exact h1)
          simpa [List.getD, h1, h2] using this
      go_wp2
      go_ret
      exact ⟨ret_bool HF.out.symm, hb⟩
theorem same_any (A : Option Addr) (m c : Nat) (ps : List (List (BitVec 8))) (B : Option Addr) (n d : Nat) (qs : List (List (BitVec 8))) (w : World) (hp : Bss w A m c ps) (hq : Bss w B n d qs) (hm : m ≤ 1000000000000) :
    Calls Try.prog 15 #[.slice A m c, .slice B n d] w fun e w' => e = .returned (.bool (decide (ps = qs))) ∧ Below w.heap.size w w' := by
  by_cases h : m = n
  · subst h
    exact same_long A m c ps B d qs _ w hp hq hm rfl
  · have e : decide (ps = qs) = false := by
      simp only [decide_eq_false_iff_not]
      rintro rfl
      exact h (hp.len.symm.trans hq.len)
    rw [e]
    exact same_less A m c B n d w h
def fewB (ps : List (List (BitVec 8))) : Bool := decide (ps.length ≤ 100 ∧ ∀ p ∈ ps, p.length ≤ 1000)
set_option maxHeartbeats 400000 in
theorem few_any (A : Option Addr) (m c : Nat) (ps : List (List (BitVec 8))) (t : Bool) (w : World) (hp : Bss w A m c ps) (hm : m ≤ 9223372036854775807) (ht : fewB ps = t) :
    Calls Try.prog 16 #[.slice A m c] w fun e w' => e = .returned (.bool t) ∧ w = w' := by
  have l1 := hp.len
  have HP := Lib.hid hp
  have HL1 := Lib.hid l1
  have HT := Lib.hid ht
  clear hp l1 ht
  go_enter Try.func16, Try.ntmps16
  go_wp2
  go_loop [3] (fun i => ∃ k : Nat, k ≤ m ∧ i = .int .i64 k ∧ Hid (∀ j, j < k → (ps.getD j []).length ≤ 1000)) (fun i => m - (intOf i).toNat)
  case atStart => exact ⟨0, by omega, rfl, Lib.hid (fun j hj => by omega)⟩
  case round =>
    obtain ⟨k, hk, rfl, hsame⟩ := hrel
    by_cases hlt : k < m
    · obtain ⟨b, off, X, e, rfl, c1, _, _⟩ := HP.out.at (k := k) (by rw [HL1.out]; exact hlt)
      by_cases hl : 1000 < (ps.getD k []).length
      · have HF : Hid (t = false) := by
          show t = false
          rw [← HT.out]
          unfold fewB
          simp only [decide_eq_false_iff_not]
          rintro ⟨_, h2⟩
          have hkl : k < ps.length := by rw [HL1.out]; exact hlt
          have := h2 (ps.getD k []) (by simp [List.getD, hkl])
          omega
        generalize (ps.getD k []).length = xl at *
        have hl' : (1000 : Int) < (xl : Int) := by omega
        go_wp2
        go_ret
        exact ⟨ret_bool HF.out.symm, rfl⟩
      · have HF : Hid (∀ j, j < k + 1 → (ps.getD j []).length ≤ 1000) := Lib.hid (fun j hj => by
          rcases Nat.lt_or_ge j k with q | q
          · exact hsame.out j q
          · obtain rfl : j = k := by omega
            omega)
        generalize (ps.getD k []).length = xl at *
        have hl' : ¬ (1000 : Int) < (xl : Int) := by omega
        go_wp2
        go_round
        case rel => exact ⟨k + 1, by omega, by go_num, HF⟩
        case measure => simp [intOf]; omega
    · obtain rfl : k = m := by omega
      have HF : Hid (t = decide (ps.length ≤ 100)) := by
        show _ = _
        rw [← HT.out]
        unfold fewB
        have : ∀ p ∈ ps, p.length ≤ 1000 := by
          intro p hp
          obtain ⟨j, hj, rfl⟩ := List.getElem_of_mem hp
          have := hsame.out j (by rw [← HL1.out]; exact hj)
          simpa [List.getD, hj] using this
        simp
        exact fun _ => this
      rw [HL1.out] at HF
      go_wp2
      go_ret
      refine ⟨ret_bool ?_, rfl⟩
      rw [HF.out]
      simp
      try omega
end Go.Proofs.Ytfjbpjojpjkfcaa
