/-
  The document's own weeks that are touched, and lists of keys that are the same.
-/
import Derived.Test.YtedkhjbnjkcemaaZaz
import Derived.Test.YtedkhjbnjkcemaaZbc
import Derived.Test.YtedkhjbnjkcemaaZav
namespace Go.Proofs.Ytedkhjbnjkcemaa
open Go.RowKit Go.Sort
set_option linter.unusedVariables false
set_option linter.unusedSimpArgs false
set_option maxRecDepth 20000

theorem take_snoc_k {l : List KeyP} {i : Nat} (h : i < l.length) : l.take (i + 1) = l.take i ++ [l.getD i KeyP.none] := by
  rw [List.take_add_one, List.getElem?_eq_getElem h, List.getD_eq_getElem?_getD, List.getElem?_eq_getElem h]
  rfl
set_option maxHeartbeats 8000000 in
theorem rsamek_any (A B : Option Addr) (n m c d : Nat) (l l' : List KeyP) (w : World) (h : Kys w A n c l) (h' : Kys w B m d l') (hn : n ≤ 1000000) (hm : m ≤ 1000000) (b : Bool) (hb : decide (l = l') = b) :
    Calls Try.prog 15 #[.slice A n c, .slice B m d] w fun e w' => e = .returned (.bool b) ∧ Below w.heap.size w w' := by
  have hl := h.2
  have hl' := h'.2
  have HA := Lib.hid h
  have HB := Lib.hid h'
  have HBB := Lib.hid hb
  clear h h' hb
  by_cases hnm : n = m
  · subst hnm
    go_enter Try.func15, Try.ntmps15
    go_wp2
    go_loopg [5] n (fun kx s5 wr => ∃ i : Nat, s5 = .int .i64 i ∧ i + kx = n ∧ Hid (l.take i = l'.take i) ∧ Hid (Below w.heap.size w wr))
    case atStart => exact ⟨0, rfl, by omega, rfl, Lib.hid (Below.refl _ _)⟩
    case round =>
      obtain ⟨i, rfl, hi, HT, HW⟩ := hrel
      have HA2 := Lib.hid (HA.out.below HW.out)
      have HB2 := Lib.hid (HB.out.below HW.out)
      by_cases hlt : i < n
      · have hlt2 : (i : Int) < (n : Int) := by omega
        have hi0 : (0 : Int) ≤ (i : Int) := by omega
        have hi1 : ((i : Int)).toNat = i := by omega
        obtain ⟨ba, oa, rfl⟩ := HA2.out.form (by omega)
        obtain ⟨bb, ob, rfl⟩ := HB2.out.form (by omega)
        obtain ⟨x, hx⟩ : ∃ x, l.getD i KeyP.none = x := ⟨_, rfl⟩
        obtain ⟨y, hy⟩ : ∃ y, l'.getD i KeyP.none = y := ⟨_, rfl⟩
        go_wp2_with fail
        by_cases hxy : x = y
        · have hq : ∀ ww, (binOp .neq 56 (.agg (kyC x)) (.agg (kyC y))).run Try.prog ww = .ok (.bool false) ww := fun ww => by rw [run_ky_neq, hxy]; simp
          have HXY := Lib.hid hxy
          clear hxy
          have hq2 := hq
          refine wp_region_noPanic ?_
          refine wp_region_held_drew (S := fun w' => Below wr.heap.size wr w') (by kernel_rfl) (below_drew (Below.refl _ _)) (fun hHeld => ?_)
          refine wpAnyH_take (i := 0) (oi := ⟨some 17, _, _, _, _, _⟩) (v := ?_) rfl (by kernel_rfl) (by kernel_rfl) (by kernel_rfl) (fun _ _ _ h => h) (Or.inl ⟨by rfl, ?_⟩) hHeld ?_
          rotate_left
          · intro ww hSw
            (try dsimp only at hSw)
            go_simp
            (try with_reducible rfl)
          simp only [Act.put, List.setIfInBounds_toArray, List.set_cons_zero, List.set_cons_succ]
          refine wpAnyH_take (i := 1) (oi := ⟨some 18, _, _, _, _, _⟩) (v := ?_) rfl (by kernel_rfl) (by kernel_rfl) (by kernel_rfl) (fun _ _ _ h => h) (Or.inl ⟨by rfl, ?_⟩) hHeld ?_
          rotate_left
          · intro ww hSw
            (try dsimp only at hSw)
            go_simp
            (try with_reducible rfl)
          simp only [Act.put, List.setIfInBounds_toArray, List.set_cons_zero, List.set_cons_succ]
          refine wpAnyH_take (i := 2) (oi := ⟨some 19, _, _, _, _, _⟩) (v := .pointer (some ⟨ba, oa + i * 2, none⟩)) rfl (by kernel_rfl) (by kernel_rfl) (by kernel_rfl) (fun _ _ _ h => h) (Or.inl ⟨by rfl, ?_⟩) hHeld ?_
          · intro ww hSw
            (try dsimp only at hSw)
            go_simp
          simp only [Act.put, List.setIfInBounds_toArray, List.set_cons_zero, List.set_cons_succ]
          refine wpAnyH_take (i := 3) (oi := ⟨some 20, _, _, _, _, _⟩) (v := .agg (kyC x)) rfl (by kernel_rfl) (by kernel_rfl) (by kernel_rfl) (fun _ _ _ h => h) (Or.inl ⟨by rfl, ?_⟩) hHeld ?_
          · intro ww hSw
            (try dsimp only at hSw)
            exact exec_loadKey_at _ rfl rfl (kys_load (HA2.out.below hSw) (by omega) hx)
          simp only [Act.put, List.setIfInBounds_toArray, List.set_cons_zero, List.set_cons_succ]
          refine wpAnyH_take (i := 4) (oi := ⟨some 21, _, _, _, _, _⟩) (v := ?_) rfl (by kernel_rfl) (by kernel_rfl) (by kernel_rfl) (fun _ _ _ h => h) (Or.inl ⟨by rfl, ?_⟩) hHeld ?_
          rotate_left
          · intro ww hSw
            (try dsimp only at hSw)
            go_simp
            (try with_reducible rfl)
          simp only [Act.put, List.setIfInBounds_toArray, List.set_cons_zero, List.set_cons_succ]
          refine wpAnyH_take (i := 5) (oi := ⟨some 22, _, _, _, _, _⟩) (v := ?_) rfl (by kernel_rfl) (by kernel_rfl) (by kernel_rfl) (fun _ _ _ h => h) (Or.inl ⟨by rfl, ?_⟩) hHeld ?_
          rotate_left
          · intro ww hSw
            (try dsimp only at hSw)
            go_simp
            (try with_reducible rfl)
          simp only [Act.put, List.setIfInBounds_toArray, List.set_cons_zero, List.set_cons_succ]
          refine wpAnyH_take (i := 6) (oi := ⟨some 23, _, _, _, _, _⟩) (v := .pointer (some ⟨bb, ob + i * 2, none⟩)) rfl (by kernel_rfl) (by kernel_rfl) (by kernel_rfl) (fun _ _ _ h => h) (Or.inl ⟨by rfl, ?_⟩) hHeld ?_
          · intro ww hSw
            (try dsimp only at hSw)
            go_simp
          simp only [Act.put, List.setIfInBounds_toArray, List.set_cons_zero, List.set_cons_succ]
          refine wpAnyH_take (i := 7) (oi := ⟨some 24, _, _, _, _, _⟩) (v := .agg (kyC y)) rfl (by kernel_rfl) (by kernel_rfl) (by kernel_rfl) (fun _ _ _ h => h) (Or.inl ⟨by rfl, ?_⟩) hHeld ?_
          · intro ww hSw
            (try dsimp only at hSw)
            exact exec_loadKey_at _ rfl rfl (kys_load (HB2.out.below hSw) (by omega) hy)
          simp only [Act.put, List.setIfInBounds_toArray, List.set_cons_zero, List.set_cons_succ]
          refine wpAnyH_take (i := 8) (oi := ⟨some 25, _, _, _, _, _⟩) (v := .bool false) rfl (by kernel_rfl) (by kernel_rfl) (by kernel_rfl) (fun _ _ _ h => h) (Or.inl ⟨by rfl, ?_⟩) hHeld ?_
          · intro ww hSw
            (try dsimp only at hSw)
            exact exec_neq_k rfl rfl rfl (hq ww)
          simp only [Act.put, List.setIfInBounds_toArray, List.set_cons_zero, List.set_cons_succ]
          refine wpAnyH_done (by kernel_rfl) ?_ _
          refine NoPanic.normal ?_
          go_wp2
          go_roundg (n - (i + 1))
          case measure => omega
          case rel => exact ⟨i + 1, by simp, by omega, Lib.hid (by rw [take_snoc_k (by omega), take_snoc_k (by omega), HT.out, hx, hy, HXY.out]), Lib.hid (below_drew HW.out)⟩
        · have hq : ∀ ww, (binOp .neq 56 (.agg (kyC x)) (.agg (kyC y))).run Try.prog ww = .ok (.bool true) ww := fun ww => by rw [run_ky_neq]; simp [hxy]
          obtain rfl : b = false := by
            rw [← HBB.out]
            refine decide_eq_false (fun e => hxy ?_)
            rw [← hx, ← hy, e]
          have hq2 := hq
          refine wp_region_noPanic ?_
          refine wp_region_held_drew (S := fun w' => Below wr.heap.size wr w') (by kernel_rfl) (below_drew (Below.refl _ _)) (fun hHeld => ?_)
          refine wpAnyH_take (i := 0) (oi := ⟨some 17, _, _, _, _, _⟩) (v := ?_) rfl (by kernel_rfl) (by kernel_rfl) (by kernel_rfl) (fun _ _ _ h => h) (Or.inl ⟨by rfl, ?_⟩) hHeld ?_
          rotate_left
          · intro ww hSw
            (try dsimp only at hSw)
            go_simp
            (try with_reducible rfl)
          simp only [Act.put, List.setIfInBounds_toArray, List.set_cons_zero, List.set_cons_succ]
          refine wpAnyH_take (i := 1) (oi := ⟨some 18, _, _, _, _, _⟩) (v := ?_) rfl (by kernel_rfl) (by kernel_rfl) (by kernel_rfl) (fun _ _ _ h => h) (Or.inl ⟨by rfl, ?_⟩) hHeld ?_
          rotate_left
          · intro ww hSw
            (try dsimp only at hSw)
            go_simp
            (try with_reducible rfl)
          simp only [Act.put, List.setIfInBounds_toArray, List.set_cons_zero, List.set_cons_succ]
          refine wpAnyH_take (i := 2) (oi := ⟨some 19, _, _, _, _, _⟩) (v := .pointer (some ⟨ba, oa + i * 2, none⟩)) rfl (by kernel_rfl) (by kernel_rfl) (by kernel_rfl) (fun _ _ _ h => h) (Or.inl ⟨by rfl, ?_⟩) hHeld ?_
          · intro ww hSw
            (try dsimp only at hSw)
            go_simp
          simp only [Act.put, List.setIfInBounds_toArray, List.set_cons_zero, List.set_cons_succ]
          refine wpAnyH_take (i := 3) (oi := ⟨some 20, _, _, _, _, _⟩) (v := .agg (kyC x)) rfl (by kernel_rfl) (by kernel_rfl) (by kernel_rfl) (fun _ _ _ h => h) (Or.inl ⟨by rfl, ?_⟩) hHeld ?_
          · intro ww hSw
            (try dsimp only at hSw)
            exact exec_loadKey_at _ rfl rfl (kys_load (HA2.out.below hSw) (by omega) hx)
          simp only [Act.put, List.setIfInBounds_toArray, List.set_cons_zero, List.set_cons_succ]
          refine wpAnyH_take (i := 4) (oi := ⟨some 21, _, _, _, _, _⟩) (v := ?_) rfl (by kernel_rfl) (by kernel_rfl) (by kernel_rfl) (fun _ _ _ h => h) (Or.inl ⟨by rfl, ?_⟩) hHeld ?_
          rotate_left
          · intro ww hSw
            (try dsimp only at hSw)
            go_simp
            (try with_reducible rfl)
          simp only [Act.put, List.setIfInBounds_toArray, List.set_cons_zero, List.set_cons_succ]
          refine wpAnyH_take (i := 5) (oi := ⟨some 22, _, _, _, _, _⟩) (v := ?_) rfl (by kernel_rfl) (by kernel_rfl) (by kernel_rfl) (fun _ _ _ h => h) (Or.inl ⟨by rfl, ?_⟩) hHeld ?_
          rotate_left
          · intro ww hSw
            (try dsimp only at hSw)
            go_simp
            (try with_reducible rfl)
          simp only [Act.put, List.setIfInBounds_toArray, List.set_cons_zero, List.set_cons_succ]
          refine wpAnyH_take (i := 6) (oi := ⟨some 23, _, _, _, _, _⟩) (v := .pointer (some ⟨bb, ob + i * 2, none⟩)) rfl (by kernel_rfl) (by kernel_rfl) (by kernel_rfl) (fun _ _ _ h => h) (Or.inl ⟨by rfl, ?_⟩) hHeld ?_
          · intro ww hSw
            (try dsimp only at hSw)
            go_simp
          simp only [Act.put, List.setIfInBounds_toArray, List.set_cons_zero, List.set_cons_succ]
          refine wpAnyH_take (i := 7) (oi := ⟨some 24, _, _, _, _, _⟩) (v := .agg (kyC y)) rfl (by kernel_rfl) (by kernel_rfl) (by kernel_rfl) (fun _ _ _ h => h) (Or.inl ⟨by rfl, ?_⟩) hHeld ?_
          · intro ww hSw
            (try dsimp only at hSw)
            exact exec_loadKey_at _ rfl rfl (kys_load (HB2.out.below hSw) (by omega) hy)
          simp only [Act.put, List.setIfInBounds_toArray, List.set_cons_zero, List.set_cons_succ]
          refine wpAnyH_take (i := 8) (oi := ⟨some 25, _, _, _, _, _⟩) (v := .bool true) rfl (by kernel_rfl) (by kernel_rfl) (by kernel_rfl) (fun _ _ _ h => h) (Or.inl ⟨by rfl, ?_⟩) hHeld ?_
          · intro ww hSw
            (try dsimp only at hSw)
            exact exec_neq_k rfl rfl rfl (hq ww)
          simp only [Act.put, List.setIfInBounds_toArray, List.set_cons_zero, List.set_cons_succ]
          refine wpAnyH_done (by kernel_rfl) ?_ _
          refine NoPanic.normal ?_
          go_wp2
          go_ret
          exact ⟨rfl, below_drew HW.out⟩
      · have hlt2 : ¬ (i : Int) < (n : Int) := by omega
        obtain rfl : b = true := by
          rw [← HBB.out]
          have e := HT.out
          rw [List.take_of_length_le (by omega), List.take_of_length_le (by omega)] at e
          exact decide_eq_true e
        go_wp2
        go_ret
        exact ⟨rfl, HW.out⟩
  · have hne : ¬ (n : Int) = (m : Int) := by omega
    obtain rfl : b = false := by
      rw [← HBB.out]
      refine decide_eq_false (fun e => hnm ?_)
      rw [← hl, ← hl', e]
    go_enter Try.func15, Try.ntmps15
    go_wp2
    go_ret
    exact ⟨rfl, Below.refl _ _⟩
set_option maxHeartbeats 4000000 in
theorem rtch_any {cs : Array Value} {u d0 : Int} (hs : cs.size = 23) (h8 : cs[8]? = some (.int .i64 u)) (h9 : cs[9]? = some (.int .i64 d0)) (A : Option Addr) (n cl : Nat) (l : List KeyP) (x : EvP) (hi : x.In) (W : World) (h : Kys W A n cl l) (hnc : n ≤ cl ∧ cl ≤ 9223372036854775807) (hn : n ≤ 100) :
    Calls Try.prog 31 #[.agg cs, .slice A n cl, .agg (evC x)] W (GotP W (touchK u d0 l x)) := by
  have hbd := touch_bd u d0 x.tm
  have hmb := many_bd u d0 x
  have hmd : ((touchP u d0 x.tm).1 + (manyW u d0 x : Int) = (touchP u d0 x.tm).2 + 1) := by unfold manyW; omega
  have HT := Lib.hid (fun W => rtouch_any cs u d0 x.tm W hs h8 h9)
  have HW0 := Lib.hid (bel_alloc (bel_alloc (Below.refl W.heap.size W) (.cells cs 30)) (.cells (evC x) 33))
  have HC := Lib.hid ((Has.new W 30 cs rfl).alloc (.cells (evC x) 33))
  have HE := Lib.hid (Has.new (W.alloc (.cells cs 30)) 33 (evC x) (s := W.heap.size + 1) (by simp))
  have HL := Lib.hid (h.below HW0.out)
  have e2 := HE.out.cell 2 (show (evC x)[2]? = some (.int .i64 x.tm) from rfl)
  have HE1 := Lib.hid (show (evC x)[1]? = some (.int .i64 x.wk) from rfl)
  have HS := Lib.hid hs
  have hxw := hi.wk
  have HM := Lib.hid (fun k => weeksK_length (l := l) (x := x.wk) (a := (touchP u d0 x.tm).1) k)
  have hll := h.2
  obtain ⟨RR, hRR⟩ : ∃ RR, touchK u d0 l x = RR := ⟨_, rfl⟩
  rw [hRR]
  have HRR : Hid (weeksK l x.wk (touchP u d0 x.tm).1 (manyW u d0 x) = RR) := Lib.hid hRR
  clear h hs h8 h9 hRR hi
  generalize evC x = ce at *
  generalize (touchP u d0 x.tm).1 = a at *
  generalize (touchP u d0 x.tm).2 = z at *
  generalize manyW u d0 x = m at *
  generalize x.wk = wk at *
  generalize x.tm = tm at *
  have HUU := Lib.hid hnc
  clear hnc
  go_enter Try.func31, Try.ntmps31
  go_wp2_with (first | refine wpList_load_has (by rfl) _ rfl W.heap.size rfl cs HC.out HS.out ?_ | fail)
  refine (HT.out _).mono ?_
  rintro e w2 ⟨rfl, hb2⟩
  have HE2 := Lib.hid (HE.out.below hb2)
  have HL2 := Lib.hid (HL.out.below hb2)
  have HB2 := Lib.hid (bel_on HW0.out hb2)
  clear e2 HE HL HC HW0 HT hb2 HS
  go_wp2
  go_loopw [1, 9] (fun v1 v9 wr => ∃ (k : Nat) (A' : Option Addr) (m' c' : Nat), v1 = .slice A' m' c' ∧ v9 = .int .i64 (a + k) ∧ k ≤ m ∧ m' ≤ c' ∧ c' ≤ 9223372036854775807 ∧ m' ≤ n + k ∧ Hid (Kys wr A' m' c' (weeksK l wk a k)) ∧ Hid (Below w2.heap.size w2 wr)) (fun _ v _ => (z + 1 - intOf v).toNat)
  case atStart => exact ⟨0, A, n, cl, rfl, by go_num, Nat.zero_le _, HUU.out.1, HUU.out.2, by omega, HL2, Lib.hid (Below.refl _ _)⟩
  case round =>
    obtain ⟨k, A', m', c', rfl, rfl, hk, hc1, hc2, hmk, hky, hbw⟩ := hrel
    by_cases hlt : k < m
    · have he := HE2.out.below hbw.out
      have c1 := he.cell 1 HE1.out
      have c1z := cell_lt c1
      have hle : a + (k : Int) ≤ z := by omega
      have hw1 : IntKind.i64.wrap (a + (k : Int) + 1) = a + ((k + 1 : Nat) : Int) := by rw [wrapp_id (by omega) (by omega)]; omega
      have HP := Lib.hid (putk_any A' m' c' (weeksK l wk a k) ⟨wk, a + k⟩ wr hky.out ⟨hc1, hc2⟩ (by omega))
      have hlen2 := HM.out (k + 1)
      clear he
      go_wp2_with fail
      refine HP.out.mono ?_
      rintro e w5 ⟨A5, m5, c5, rfl, hk5, hc5, hd5, hb5⟩
      have HK5 := Lib.hid (show Kys w5 A5 m5 c5 (weeksK l wk a (k + 1)) from hk5)
      have HB5 := Lib.hid (bel_on hbw.out hb5)
      have hm5 : m5 ≤ n + (k + 1) := by have := HK5.out.2; omega
      clear c1 c1z HP hk5 hb5 hky hbw
      go_wp2
      go_roundw
      case rel => exact ⟨k + 1, A5, m5, c5, rfl, by first | go_num | (rw [hw1]), by omega, hc5, hd5, hm5, HK5, HB5⟩
      case measure => simp only [intOf]; omega
    · obtain rfl : k = m := by omega
      have hle : ¬ a + (k : Int) ≤ z := by omega
      have hle' : decide (a + (k : Int) ≤ z) = false := decide_eq_false hle
      have HF := Lib.hid (show GotP W RR (.returned (.slice A' m' c')) wr from ⟨A', m', c', rfl, by rw [← HRR.out]; exact hky.out, hc1, hc2, bel_on HB2.out hbw.out⟩)
      go_wp2
      go_ret
      exact HF.out
set_option maxHeartbeats 8000000 in
theorem rtouched_1n {cs : Array Value} {u d0 : Int} (hs23 : cs.size = 23) (h8 : cs[8]? = some (.int .i64 u)) (h9 : cs[9]? = some (.int .i64 d0)) (A : Option Addr) (n c : Nat) (l : List EvP) (x : EvP) (W : World) (h : Evs W A n c l) (hnc : n ≤ c ∧ c ≤ 9223372036854775807) (hn : n ≤ 500) (hi : x.In) (hl : ∀ e ∈ l, e.In) (hx : ixE l x.id = none) :
    Calls Try.prog 17 #[.agg cs, .slice A n c, .agg (fixC 1 x)] W (GotP W (touchedK u d0 (movedE l 1 x))) := by
  have mixed : Try.prog.follows Departure.mixedOrders = true := by kernel_rfl
  obtain ⟨w0, hw0⟩ : ∃ w0, (W.alloc (.cells cs 30)).alloc (.cells (fixC 1 x) 35) = w0 := ⟨_, rfl⟩
  have hB0 : Below W.heap.size W w0 := by rw [← hw0]; exact bel_alloc (bel_alloc (Below.refl _ _) _) _
  have hC0 : Has w0 W.heap.size cs := by rw [← hw0]; exact (Has.new _ _ _ rfl).alloc _
  have hF0 : Has w0 (W.heap.size + 1) (fixC 1 x) := by rw [← hw0]; exact Has.new _ _ _ (by simp)
  have HC := Lib.hid hC0
  have HF := Lib.hid hF0
  have HB := Lib.hid hB0
  have HE := Lib.hid (h.below hB0)
  have HS23 := Lib.hid hs23
  have H8 := Lib.hid h8
  have H9 := Lib.hid h9
  have HI := Lib.hid hi
  have HN := Lib.hid h.2
  have HW0 := Lib.hid hw0
  have q0 := hF0.cell 0 (v := .int .i64 1) rfl
  have q1 := hF0.cell 1 (v := .int .i64 x.id) rfl
  have qz := cell_lt q0
  have HAT := Lib.hid (rat13_any A n c l x.id w0 HE.out (by omega))
  obtain ⟨R, hR⟩ : ∃ R, movedE l 1 x = R := ⟨_, rfl⟩
  rw [hR]
  rw [show ixZ l x.id = -1 by unfold ixZ; rw [hx]] at HAT
  obtain rfl : R = [x] := by rw [← hR]; simp [movedE, hx]
  clear h hw0 hR hx hs23 h8 h9 hi hl hB0 hC0 hF0
  go_enter Try.func17, Try.ntmps17
  go_upto_region 1 with fail
  rw [HW0.out]
  go_wp2_with fail
  refine HAT.out.mono ?_
  rintro e w3 ⟨rfl, rfl⟩
  have HC3 := HC
  have HE3 := HE
  clear HAT HW0
  have HC5 := HC
  have HL5 := Lib.hid (fix_loadE (k := 1) HF.out)
  have HB6 := HB
  go_wp2_with (first | refine wpList_load_has (by rfl) _ rfl W.heap.size rfl cs HC5.out HS23.out ?_ | refine wpList_exec (o := ⟨some 44, _, _, _, _, _⟩) rfl (exec_load_at _ rfl rfl HL5.out) ?_ | fail)
  refine (rtch_any HS23.out H8.out H9.out none 0 0 [] x HI.out _ ⟨Sl.nil_, rfl⟩ ⟨by omega, by omega⟩ (by omega)).mono ?_
  rintro e w9 ⟨A9, m9, c9, rfl, hk9, hc9, hd9, hb9⟩
  have HF9 := Lib.hid (show GotP W (touchedK u d0 [x]) (.returned (.slice A9 m9 c9)) w9 from ⟨A9, m9, c9, rfl, hk9, hc9, hd9, bel_on HB6.out hb9⟩)
  clear hk9 hb9
  go_wp2
  go_ret
  exact HF9.out
set_option maxHeartbeats 8000000 in
theorem rtouched_1s {cs : Array Value} {u d0 : Int} (hs23 : cs.size = 23) (h8 : cs[8]? = some (.int .i64 u)) (h9 : cs[9]? = some (.int .i64 d0)) (A : Option Addr) (n c : Nat) (l : List EvP) (x : EvP) (W : World) (h : Evs W A n c l) (hnc : n ≤ c ∧ c ≤ 9223372036854775807) (hn : n ≤ 500) (hi : x.In) (hl : ∀ e ∈ l, e.In) (i : Nat) (hx : ixE l x.id = some i) :
    Calls Try.prog 17 #[.agg cs, .slice A n c, .agg (fixC 1 x)] W (GotP W (touchedK u d0 (movedE l 1 x))) := by
  have mixed : Try.prog.follows Departure.mixedOrders = true := by kernel_rfl
  obtain ⟨w0, hw0⟩ : ∃ w0, (W.alloc (.cells cs 30)).alloc (.cells (fixC 1 x) 35) = w0 := ⟨_, rfl⟩
  have hB0 : Below W.heap.size W w0 := by rw [← hw0]; exact bel_alloc (bel_alloc (Below.refl _ _) _) _
  have hC0 : Has w0 W.heap.size cs := by rw [← hw0]; exact (Has.new _ _ _ rfl).alloc _
  have hF0 : Has w0 (W.heap.size + 1) (fixC 1 x) := by rw [← hw0]; exact Has.new _ _ _ (by simp)
  have HC := Lib.hid hC0
  have HF := Lib.hid hF0
  have HB := Lib.hid hB0
  have HE := Lib.hid (h.below hB0)
  have HS23 := Lib.hid hs23
  have H8 := Lib.hid h8
  have H9 := Lib.hid h9
  have HI := Lib.hid hi
  have HN := Lib.hid h.2
  have HW0 := Lib.hid hw0
  have q0 := hF0.cell 0 (v := .int .i64 1) rfl
  have q1 := hF0.cell 1 (v := .int .i64 x.id) rfl
  have qz := cell_lt q0
  have HAT := Lib.hid (rat13_any A n c l x.id w0 HE.out (by omega))
  obtain ⟨R, hR⟩ : ∃ R, movedE l 1 x = R := ⟨_, rfl⟩
  rw [hR]
  have hil := (ixE_some hx).1
  rw [h.2] at hil
  rw [show ixZ l x.id = (i : Int) by unfold ixZ; rw [hx]] at HAT
  obtain ⟨y, hy⟩ : ∃ y, l.getD i EvP.none = y := ⟨_, rfl⟩
  have HYY := Lib.hid hy
  have HY : Hid y.In := Lib.hid (by rw [← hy, List.getD_eq_getElem?_getD, List.getElem?_eq_getElem (by rw [h.2]; exact hil), Option.getD_some]; exact hl _ (List.getElem_mem _))
  have hi0 : (0 : Int) ≤ (i : Int) := by omega
  have hi0' : decide ((0 : Int) ≤ (i : Int)) = true := decide_eq_true hi0
  have hiN : (i : Int) ≤ 1000 := by omega
  obtain rfl : R = [x] := by rw [← hR]; simp [movedE, hx]
  clear h hw0 hR hx hs23 h8 h9 hi hl hB0 hC0 hF0 hy
  go_enter Try.func17, Try.ntmps17
  go_upto_region 1 with fail
  rw [HW0.out]
  go_wp2_with fail
  refine HAT.out.mono ?_
  rintro e w3 ⟨rfl, rfl⟩
  have HC3 := HC
  have HE3 := HE
  clear HAT HW0
  have HC5 := HC
  have HL5 := Lib.hid (fix_loadE (k := 1) HF.out)
  have HB6 := HB
  go_wp2_with (first | refine wpList_load_has (by rfl) _ rfl W.heap.size rfl cs HC5.out HS23.out ?_ | refine wpList_exec (o := ⟨some 44, _, _, _, _, _⟩) rfl (exec_load_at _ rfl rfl HL5.out) ?_ | fail)
  refine (rtch_any HS23.out H8.out H9.out none 0 0 [] x HI.out _ ⟨Sl.nil_, rfl⟩ ⟨by omega, by omega⟩ (by omega)).mono ?_
  rintro e w9 ⟨A9, m9, c9, rfl, hk9, hc9, hd9, hb9⟩
  have HF9 := Lib.hid (show GotP W (touchedK u d0 [x]) (.returned (.slice A9 m9 c9)) w9 from ⟨A9, m9, c9, rfl, hk9, hc9, hd9, bel_on HB6.out hb9⟩)
  clear hk9 hb9
  go_wp2
  go_ret
  exact HF9.out
set_option maxHeartbeats 8000000 in
theorem rtouched_2n {cs : Array Value} {u d0 : Int} (hs23 : cs.size = 23) (h8 : cs[8]? = some (.int .i64 u)) (h9 : cs[9]? = some (.int .i64 d0)) (A : Option Addr) (n c : Nat) (l : List EvP) (x : EvP) (W : World) (h : Evs W A n c l) (hnc : n ≤ c ∧ c ≤ 9223372036854775807) (hn : n ≤ 500) (hi : x.In) (hl : ∀ e ∈ l, e.In) (hx : ixE l x.id = none) :
    Calls Try.prog 17 #[.agg cs, .slice A n c, .agg (fixC 2 x)] W (GotP W (touchedK u d0 (movedE l 2 x))) := by
  have mixed : Try.prog.follows Departure.mixedOrders = true := by kernel_rfl
  obtain ⟨w0, hw0⟩ : ∃ w0, (W.alloc (.cells cs 30)).alloc (.cells (fixC 2 x) 35) = w0 := ⟨_, rfl⟩
  have hB0 : Below W.heap.size W w0 := by rw [← hw0]; exact bel_alloc (bel_alloc (Below.refl _ _) _) _
  have hC0 : Has w0 W.heap.size cs := by rw [← hw0]; exact (Has.new _ _ _ rfl).alloc _
  have hF0 : Has w0 (W.heap.size + 1) (fixC 2 x) := by rw [← hw0]; exact Has.new _ _ _ (by simp)
  have HC := Lib.hid hC0
  have HF := Lib.hid hF0
  have HB := Lib.hid hB0
  have HE := Lib.hid (h.below hB0)
  have HS23 := Lib.hid hs23
  have H8 := Lib.hid h8
  have H9 := Lib.hid h9
  have HI := Lib.hid hi
  have HN := Lib.hid h.2
  have HW0 := Lib.hid hw0
  have q0 := hF0.cell 0 (v := .int .i64 2) rfl
  have q1 := hF0.cell 1 (v := .int .i64 x.id) rfl
  have qz := cell_lt q0
  have HAT := Lib.hid (rat13_any A n c l x.id w0 HE.out (by omega))
  obtain ⟨R, hR⟩ : ∃ R, movedE l 2 x = R := ⟨_, rfl⟩
  rw [hR]
  rw [show ixZ l x.id = -1 by unfold ixZ; rw [hx]] at HAT
  obtain rfl : R = [] := by rw [← hR]; simp [movedE, hx]
  clear h hw0 hR hx hs23 h8 h9 hi hl hB0 hC0 hF0
  go_enter Try.func17, Try.ntmps17
  go_upto_region 1 with fail
  rw [HW0.out]
  go_wp2_with fail
  refine HAT.out.mono ?_
  rintro e w3 ⟨rfl, rfl⟩
  have HC3 := HC
  have HE3 := HE
  clear HAT HW0
  have HC5 := HC
  have HL5 := Lib.hid (fix_loadE (k := 2) HF.out)
  have HB6 := HB
  have HF9 := Lib.hid (show GotP W (touchedK u d0 []) (.returned (.slice none 0 0)) w0 from ⟨none, 0, 0, rfl, ⟨Sl.nil_, rfl⟩, by omega, by omega, HB6.out⟩)
  go_wp2
  go_ret
  exact HF9.out
set_option maxHeartbeats 8000000 in
theorem rtouched_2s {cs : Array Value} {u d0 : Int} (hs23 : cs.size = 23) (h8 : cs[8]? = some (.int .i64 u)) (h9 : cs[9]? = some (.int .i64 d0)) (A : Option Addr) (n c : Nat) (l : List EvP) (x : EvP) (W : World) (h : Evs W A n c l) (hnc : n ≤ c ∧ c ≤ 9223372036854775807) (hn : n ≤ 500) (hi : x.In) (hl : ∀ e ∈ l, e.In) (i : Nat) (hx : ixE l x.id = some i) :
    Calls Try.prog 17 #[.agg cs, .slice A n c, .agg (fixC 2 x)] W (GotP W (touchedK u d0 (movedE l 2 x))) := by
  have mixed : Try.prog.follows Departure.mixedOrders = true := by kernel_rfl
  obtain ⟨w0, hw0⟩ : ∃ w0, (W.alloc (.cells cs 30)).alloc (.cells (fixC 2 x) 35) = w0 := ⟨_, rfl⟩
  have hB0 : Below W.heap.size W w0 := by rw [← hw0]; exact bel_alloc (bel_alloc (Below.refl _ _) _) _
  have hC0 : Has w0 W.heap.size cs := by rw [← hw0]; exact (Has.new _ _ _ rfl).alloc _
  have hF0 : Has w0 (W.heap.size + 1) (fixC 2 x) := by rw [← hw0]; exact Has.new _ _ _ (by simp)
  have HC := Lib.hid hC0
  have HF := Lib.hid hF0
  have HB := Lib.hid hB0
  have HE := Lib.hid (h.below hB0)
  have HS23 := Lib.hid hs23
  have H8 := Lib.hid h8
  have H9 := Lib.hid h9
  have HI := Lib.hid hi
  have HN := Lib.hid h.2
  have HW0 := Lib.hid hw0
  have q0 := hF0.cell 0 (v := .int .i64 2) rfl
  have q1 := hF0.cell 1 (v := .int .i64 x.id) rfl
  have qz := cell_lt q0
  have HAT := Lib.hid (rat13_any A n c l x.id w0 HE.out (by omega))
  obtain ⟨R, hR⟩ : ∃ R, movedE l 2 x = R := ⟨_, rfl⟩
  rw [hR]
  have hil := (ixE_some hx).1
  rw [h.2] at hil
  rw [show ixZ l x.id = (i : Int) by unfold ixZ; rw [hx]] at HAT
  obtain ⟨y, hy⟩ : ∃ y, l.getD i EvP.none = y := ⟨_, rfl⟩
  have HYY := Lib.hid hy
  have HY : Hid y.In := Lib.hid (by rw [← hy, List.getD_eq_getElem?_getD, List.getElem?_eq_getElem (by rw [h.2]; exact hil), Option.getD_some]; exact hl _ (List.getElem_mem _))
  have hi0 : (0 : Int) ≤ (i : Int) := by omega
  have hi0' : decide ((0 : Int) ≤ (i : Int)) = true := decide_eq_true hi0
  have hiN : (i : Int) ≤ 1000 := by omega
  obtain rfl : R = [y] := by rw [← hR]; simp only [movedE, hx, HYY.out]; rfl
  clear h hw0 hR hx hs23 h8 h9 hi hl hB0 hC0 hF0 hy
  go_enter Try.func17, Try.ntmps17
  go_upto_region 1 with fail
  rw [HW0.out]
  go_wp2_with fail
  refine HAT.out.mono ?_
  rintro e w3 ⟨rfl, rfl⟩
  have HC3 := HC
  have HE3 := HE
  clear HAT HW0
  obtain ⟨b0, off0, rfl⟩ := HE3.out.form (by omega)
  go_wp2_with fail
  refine wp_region_noPanic ?_
  refine wp_region_held_drew (S := fun w' => Below w0.heap.size w0 w') (by kernel_rfl) (below_drew (Below.refl _ _)) (fun hHeld => ?_)
  refine wpAnyH_take (i := 0) (oi := ⟨some 26, _, _, _, _, _⟩) (v := .agg cs) rfl (by kernel_rfl) (by kernel_rfl) (by kernel_rfl) (fun _ _ _ h => h) (Or.inl ⟨by rfl, ?_⟩) hHeld ?_
  · intro ww hSw
    (try dsimp only at hSw)
    exact exec_loadSet_at _ rfl rfl (run_loadSet_at HS23.out fun j hj => by rw [has_at (HC3.out.below hSw), Nat.zero_add])
  simp only [Act.put, List.setIfInBounds_toArray, List.set_cons_zero, List.set_cons_succ]
  refine wpAnyH_take (i := 1) (oi := ⟨some 27, _, _, _, _, _⟩) (v := ?_) rfl (by kernel_rfl) (by kernel_rfl) (by kernel_rfl) (fun _ _ _ h => h) (Or.inl ⟨by rfl, ?_⟩) hHeld ?_
  rotate_left
  · intro ww hSw
    (try dsimp only at hSw)
    go_simp
    (try with_reducible rfl)
  simp only [Act.put, List.setIfInBounds_toArray, List.set_cons_zero, List.set_cons_succ]
  refine wpAnyH_take (i := 2) (oi := ⟨some 28, _, _, _, _, _⟩) (v := ?_) rfl (by kernel_rfl) (by kernel_rfl) (by kernel_rfl) (fun _ _ _ h => h) (Or.inl ⟨by rfl, ?_⟩) hHeld ?_
  rotate_left
  · intro ww hSw
    (try dsimp only at hSw)
    go_simp
    (try with_reducible rfl)
  simp only [Act.put, List.setIfInBounds_toArray, List.set_cons_zero, List.set_cons_succ]
  refine wpAnyH_take (i := 3) (oi := ⟨some 29, _, _, _, _, _⟩) (v := ?_) rfl (by kernel_rfl) (by kernel_rfl) (by kernel_rfl) (fun _ _ _ h => h) (Or.inl ⟨by rfl, ?_⟩) hHeld ?_
  rotate_left
  · intro ww hSw
    (try dsimp only at hSw)
    go_simp
    (try with_reducible rfl)
  simp only [Act.put, List.setIfInBounds_toArray, List.set_cons_zero, List.set_cons_succ]
  refine wpAnyH_take (i := 4) (oi := ⟨some 30, _, _, _, _, _⟩) (v := .pointer (some ⟨b0, off0 + i * 11, none⟩)) rfl (by kernel_rfl) (by kernel_rfl) (by kernel_rfl) (fun _ _ _ h => h) (Or.inl ⟨by rfl, ?_⟩) hHeld ?_
  · intro ww hSw
    (try dsimp only at hSw)
    go_simp
  simp only [Act.put, List.setIfInBounds_toArray, List.set_cons_zero, List.set_cons_succ]
  refine wpAnyH_take (i := 5) (oi := ⟨some 31, _, _, _, _, _⟩) (v := .agg (evC y)) rfl (by kernel_rfl) (by kernel_rfl) (by kernel_rfl) (fun _ _ _ h => h) (Or.inl ⟨by rfl, ?_⟩) hHeld ?_
  · intro ww hSw
    (try dsimp only at hSw)
    rw [← HYY.out]
    exact exec_load_at _ rfl rfl (evs_load (HE3.out.below hSw) hil)
  simp only [Act.put, List.setIfInBounds_toArray, List.set_cons_zero, List.set_cons_succ]
  refine wpAnyH_ready (rs := [6]) (by kernel_rfl) (by simp) ?_
  refine AllReadyH.cons (o := ⟨some 32, _, _, _, _, _⟩) rfl (fun K hK => ?_) AllReadyH.nil
  go_simp
  go_at_call 31
  refine (rtch_any HS23.out H8.out H9.out none 0 0 [] y HY.out _ ⟨Sl.nil_, rfl⟩ ⟨by omega, by omega⟩ (by omega)).mono ?_
  rintro e_r w5 ⟨A5, m5, c5, rfl, hk5, hc5, hd5, hb5⟩
  have HK5 := Lib.hid hk5
  have hb5' : Below w0.heap.size w0 w5 := bel_on (below_drew (Below.refl _ _)) hb5
  have HB5 := Lib.hid hb5'
  have hm5 : m5 ≤ 6 := by have h1 := hk5.2; have h2 := touchK_length (u := u) (c := d0) (l := []) (e := y); have h3 := many_bd u d0 y; simp at h2; omega
  clear hk5 hb5
  go_wp2_with fail
  refine hK.out _ _ ?_ (fun hHeld => ?_)
  · (try dsimp only)
    exact hb5'
  clear hK K
  (try simp only [Act.put, List.setIfInBounds_toArray, List.set_cons_zero, List.set_cons_succ])
  clear hb5'
  refine wpAnyH_take (i := 7) (oi := ⟨some 7, _, _, _, _, _⟩) (v := ?_) rfl (by kernel_rfl) (by kernel_rfl) (by kernel_rfl) (fun _ _ _ h => h) (Or.inl ⟨by rfl, ?_⟩) hHeld ?_
  rotate_left
  · intro ww hSw
    (try dsimp only at hSw)
    go_simp
    (try with_reducible rfl)
  simp only [Act.put, List.setIfInBounds_toArray, List.set_cons_zero, List.set_cons_succ]
  refine wpAnyH_done (by kernel_rfl) ?_ _
  refine NoPanic.normal ?_
  have hF5 := HF.out.below HB5.out
  have p0 := hF5.cell 0 (v := .int .i64 2) rfl
  have pz := cell_lt p0
  have HC5 := Lib.hid (HC.out.below HB5.out)
  have HL5 := Lib.hid (fix_loadE (k := 2) hF5)
  have HB6 := Lib.hid (bel_on HB.out HB5.out)
  clear q0 q1 qz hF5
  have HF9 := Lib.hid (show GotP W (touchedK u d0 [y]) (.returned (.slice A5 m5 c5)) w5 from ⟨A5, m5, c5, rfl, HK5.out, hc5, hd5, HB6.out⟩)
  go_wp2
  go_ret
  exact HF9.out
set_option maxHeartbeats 8000000 in
theorem rtouched_3n {cs : Array Value} {u d0 : Int} (hs23 : cs.size = 23) (h8 : cs[8]? = some (.int .i64 u)) (h9 : cs[9]? = some (.int .i64 d0)) (A : Option Addr) (n c : Nat) (l : List EvP) (x : EvP) (W : World) (h : Evs W A n c l) (hnc : n ≤ c ∧ c ≤ 9223372036854775807) (hn : n ≤ 500) (hi : x.In) (hl : ∀ e ∈ l, e.In) (hx : ixE l x.id = none) :
    Calls Try.prog 17 #[.agg cs, .slice A n c, .agg (fixC 3 x)] W (GotP W (touchedK u d0 (movedE l 3 x))) := by
  have mixed : Try.prog.follows Departure.mixedOrders = true := by kernel_rfl
  obtain ⟨w0, hw0⟩ : ∃ w0, (W.alloc (.cells cs 30)).alloc (.cells (fixC 3 x) 35) = w0 := ⟨_, rfl⟩
  have hB0 : Below W.heap.size W w0 := by rw [← hw0]; exact bel_alloc (bel_alloc (Below.refl _ _) _) _
  have hC0 : Has w0 W.heap.size cs := by rw [← hw0]; exact (Has.new _ _ _ rfl).alloc _
  have hF0 : Has w0 (W.heap.size + 1) (fixC 3 x) := by rw [← hw0]; exact Has.new _ _ _ (by simp)
  have HC := Lib.hid hC0
  have HF := Lib.hid hF0
  have HB := Lib.hid hB0
  have HE := Lib.hid (h.below hB0)
  have HS23 := Lib.hid hs23
  have H8 := Lib.hid h8
  have H9 := Lib.hid h9
  have HI := Lib.hid hi
  have HN := Lib.hid h.2
  have HW0 := Lib.hid hw0
  have q0 := hF0.cell 0 (v := .int .i64 3) rfl
  have q1 := hF0.cell 1 (v := .int .i64 x.id) rfl
  have qz := cell_lt q0
  have HAT := Lib.hid (rat13_any A n c l x.id w0 HE.out (by omega))
  obtain ⟨R, hR⟩ : ∃ R, movedE l 3 x = R := ⟨_, rfl⟩
  rw [hR]
  rw [show ixZ l x.id = -1 by unfold ixZ; rw [hx]] at HAT
  obtain rfl : R = [x] := by rw [← hR]; simp [movedE, hx]
  clear h hw0 hR hx hs23 h8 h9 hi hl hB0 hC0 hF0
  go_enter Try.func17, Try.ntmps17
  go_upto_region 1 with fail
  rw [HW0.out]
  go_wp2_with fail
  refine HAT.out.mono ?_
  rintro e w3 ⟨rfl, rfl⟩
  have HC3 := HC
  have HE3 := HE
  clear HAT HW0
  have HC5 := HC
  have HL5 := Lib.hid (fix_loadE (k := 3) HF.out)
  have HB6 := HB
  go_wp2_with (first | refine wpList_load_has (by rfl) _ rfl W.heap.size rfl cs HC5.out HS23.out ?_ | refine wpList_exec (o := ⟨some 44, _, _, _, _, _⟩) rfl (exec_load_at _ rfl rfl HL5.out) ?_ | fail)
  refine (rtch_any HS23.out H8.out H9.out none 0 0 [] x HI.out _ ⟨Sl.nil_, rfl⟩ ⟨by omega, by omega⟩ (by omega)).mono ?_
  rintro e w9 ⟨A9, m9, c9, rfl, hk9, hc9, hd9, hb9⟩
  have HF9 := Lib.hid (show GotP W (touchedK u d0 [x]) (.returned (.slice A9 m9 c9)) w9 from ⟨A9, m9, c9, rfl, hk9, hc9, hd9, bel_on HB6.out hb9⟩)
  clear hk9 hb9
  go_wp2
  go_ret
  exact HF9.out
set_option maxHeartbeats 8000000 in
theorem rtouched_3s {cs : Array Value} {u d0 : Int} (hs23 : cs.size = 23) (h8 : cs[8]? = some (.int .i64 u)) (h9 : cs[9]? = some (.int .i64 d0)) (A : Option Addr) (n c : Nat) (l : List EvP) (x : EvP) (W : World) (h : Evs W A n c l) (hnc : n ≤ c ∧ c ≤ 9223372036854775807) (hn : n ≤ 500) (hi : x.In) (hl : ∀ e ∈ l, e.In) (i : Nat) (hx : ixE l x.id = some i) :
    Calls Try.prog 17 #[.agg cs, .slice A n c, .agg (fixC 3 x)] W (GotP W (touchedK u d0 (movedE l 3 x))) := by
  have mixed : Try.prog.follows Departure.mixedOrders = true := by kernel_rfl
  obtain ⟨w0, hw0⟩ : ∃ w0, (W.alloc (.cells cs 30)).alloc (.cells (fixC 3 x) 35) = w0 := ⟨_, rfl⟩
  have hB0 : Below W.heap.size W w0 := by rw [← hw0]; exact bel_alloc (bel_alloc (Below.refl _ _) _) _
  have hC0 : Has w0 W.heap.size cs := by rw [← hw0]; exact (Has.new _ _ _ rfl).alloc _
  have hF0 : Has w0 (W.heap.size + 1) (fixC 3 x) := by rw [← hw0]; exact Has.new _ _ _ (by simp)
  have HC := Lib.hid hC0
  have HF := Lib.hid hF0
  have HB := Lib.hid hB0
  have HE := Lib.hid (h.below hB0)
  have HS23 := Lib.hid hs23
  have H8 := Lib.hid h8
  have H9 := Lib.hid h9
  have HI := Lib.hid hi
  have HN := Lib.hid h.2
  have HW0 := Lib.hid hw0
  have q0 := hF0.cell 0 (v := .int .i64 3) rfl
  have q1 := hF0.cell 1 (v := .int .i64 x.id) rfl
  have qz := cell_lt q0
  have HAT := Lib.hid (rat13_any A n c l x.id w0 HE.out (by omega))
  obtain ⟨R, hR⟩ : ∃ R, movedE l 3 x = R := ⟨_, rfl⟩
  rw [hR]
  have hil := (ixE_some hx).1
  rw [h.2] at hil
  rw [show ixZ l x.id = (i : Int) by unfold ixZ; rw [hx]] at HAT
  obtain ⟨y, hy⟩ : ∃ y, l.getD i EvP.none = y := ⟨_, rfl⟩
  have HYY := Lib.hid hy
  have HY : Hid y.In := Lib.hid (by rw [← hy, List.getD_eq_getElem?_getD, List.getElem?_eq_getElem (by rw [h.2]; exact hil), Option.getD_some]; exact hl _ (List.getElem_mem _))
  have hi0 : (0 : Int) ≤ (i : Int) := by omega
  have hi0' : decide ((0 : Int) ≤ (i : Int)) = true := decide_eq_true hi0
  have hiN : (i : Int) ≤ 1000 := by omega
  obtain rfl : R = [y, x] := by rw [← hR]; simp only [movedE, hx, HYY.out]; rfl
  clear h hw0 hR hx hs23 h8 h9 hi hl hB0 hC0 hF0 hy
  go_enter Try.func17, Try.ntmps17
  go_upto_region 1 with fail
  rw [HW0.out]
  go_wp2_with fail
  refine HAT.out.mono ?_
  rintro e w3 ⟨rfl, rfl⟩
  have HC3 := HC
  have HE3 := HE
  clear HAT HW0
  obtain ⟨b0, off0, rfl⟩ := HE3.out.form (by omega)
  go_wp2_with fail
  refine wp_region_noPanic ?_
  refine wp_region_held_drew (S := fun w' => Below w0.heap.size w0 w') (by kernel_rfl) (below_drew (Below.refl _ _)) (fun hHeld => ?_)
  refine wpAnyH_take (i := 0) (oi := ⟨some 26, _, _, _, _, _⟩) (v := .agg cs) rfl (by kernel_rfl) (by kernel_rfl) (by kernel_rfl) (fun _ _ _ h => h) (Or.inl ⟨by rfl, ?_⟩) hHeld ?_
  · intro ww hSw
    (try dsimp only at hSw)
    exact exec_loadSet_at _ rfl rfl (run_loadSet_at HS23.out fun j hj => by rw [has_at (HC3.out.below hSw), Nat.zero_add])
  simp only [Act.put, List.setIfInBounds_toArray, List.set_cons_zero, List.set_cons_succ]
  refine wpAnyH_take (i := 1) (oi := ⟨some 27, _, _, _, _, _⟩) (v := ?_) rfl (by kernel_rfl) (by kernel_rfl) (by kernel_rfl) (fun _ _ _ h => h) (Or.inl ⟨by rfl, ?_⟩) hHeld ?_
  rotate_left
  · intro ww hSw
    (try dsimp only at hSw)
    go_simp
    (try with_reducible rfl)
  simp only [Act.put, List.setIfInBounds_toArray, List.set_cons_zero, List.set_cons_succ]
  refine wpAnyH_take (i := 2) (oi := ⟨some 28, _, _, _, _, _⟩) (v := ?_) rfl (by kernel_rfl) (by kernel_rfl) (by kernel_rfl) (fun _ _ _ h => h) (Or.inl ⟨by rfl, ?_⟩) hHeld ?_
  rotate_left
  · intro ww hSw
    (try dsimp only at hSw)
    go_simp
    (try with_reducible rfl)
  simp only [Act.put, List.setIfInBounds_toArray, List.set_cons_zero, List.set_cons_succ]
  refine wpAnyH_take (i := 3) (oi := ⟨some 29, _, _, _, _, _⟩) (v := ?_) rfl (by kernel_rfl) (by kernel_rfl) (by kernel_rfl) (fun _ _ _ h => h) (Or.inl ⟨by rfl, ?_⟩) hHeld ?_
  rotate_left
  · intro ww hSw
    (try dsimp only at hSw)
    go_simp
    (try with_reducible rfl)
  simp only [Act.put, List.setIfInBounds_toArray, List.set_cons_zero, List.set_cons_succ]
  refine wpAnyH_take (i := 4) (oi := ⟨some 30, _, _, _, _, _⟩) (v := .pointer (some ⟨b0, off0 + i * 11, none⟩)) rfl (by kernel_rfl) (by kernel_rfl) (by kernel_rfl) (fun _ _ _ h => h) (Or.inl ⟨by rfl, ?_⟩) hHeld ?_
  · intro ww hSw
    (try dsimp only at hSw)
    go_simp
  simp only [Act.put, List.setIfInBounds_toArray, List.set_cons_zero, List.set_cons_succ]
  refine wpAnyH_take (i := 5) (oi := ⟨some 31, _, _, _, _, _⟩) (v := .agg (evC y)) rfl (by kernel_rfl) (by kernel_rfl) (by kernel_rfl) (fun _ _ _ h => h) (Or.inl ⟨by rfl, ?_⟩) hHeld ?_
  · intro ww hSw
    (try dsimp only at hSw)
    rw [← HYY.out]
    exact exec_load_at _ rfl rfl (evs_load (HE3.out.below hSw) hil)
  simp only [Act.put, List.setIfInBounds_toArray, List.set_cons_zero, List.set_cons_succ]
  refine wpAnyH_ready (rs := [6]) (by kernel_rfl) (by simp) ?_
  refine AllReadyH.cons (o := ⟨some 32, _, _, _, _, _⟩) rfl (fun K hK => ?_) AllReadyH.nil
  go_simp
  go_at_call 31
  refine (rtch_any HS23.out H8.out H9.out none 0 0 [] y HY.out _ ⟨Sl.nil_, rfl⟩ ⟨by omega, by omega⟩ (by omega)).mono ?_
  rintro e_r w5 ⟨A5, m5, c5, rfl, hk5, hc5, hd5, hb5⟩
  have HK5 := Lib.hid hk5
  have hb5' : Below w0.heap.size w0 w5 := bel_on (below_drew (Below.refl _ _)) hb5
  have HB5 := Lib.hid hb5'
  have hm5 : m5 ≤ 6 := by have h1 := hk5.2; have h2 := touchK_length (u := u) (c := d0) (l := []) (e := y); have h3 := many_bd u d0 y; simp at h2; omega
  clear hk5 hb5
  go_wp2_with fail
  refine hK.out _ _ ?_ (fun hHeld => ?_)
  · (try dsimp only)
    exact hb5'
  clear hK K
  (try simp only [Act.put, List.setIfInBounds_toArray, List.set_cons_zero, List.set_cons_succ])
  clear hb5'
  refine wpAnyH_take (i := 7) (oi := ⟨some 7, _, _, _, _, _⟩) (v := ?_) rfl (by kernel_rfl) (by kernel_rfl) (by kernel_rfl) (fun _ _ _ h => h) (Or.inl ⟨by rfl, ?_⟩) hHeld ?_
  rotate_left
  · intro ww hSw
    (try dsimp only at hSw)
    go_simp
    (try with_reducible rfl)
  simp only [Act.put, List.setIfInBounds_toArray, List.set_cons_zero, List.set_cons_succ]
  refine wpAnyH_done (by kernel_rfl) ?_ _
  refine NoPanic.normal ?_
  have hF5 := HF.out.below HB5.out
  have p0 := hF5.cell 0 (v := .int .i64 3) rfl
  have pz := cell_lt p0
  have HC5 := Lib.hid (HC.out.below HB5.out)
  have HL5 := Lib.hid (fix_loadE (k := 3) hF5)
  have HB6 := Lib.hid (bel_on HB.out HB5.out)
  clear q0 q1 qz hF5
  go_wp2_with (first | refine wpList_load_has (by rfl) _ rfl W.heap.size rfl cs HC5.out HS23.out ?_ | refine wpList_exec (o := ⟨some 44, _, _, _, _, _⟩) rfl (exec_load_at _ rfl rfl HL5.out) ?_ | fail)
  refine (rtch_any HS23.out H8.out H9.out A5 m5 c5 (touchK u d0 [] y) x HI.out _ HK5.out ⟨by omega, by omega⟩ (by omega)).mono ?_
  rintro e w9 ⟨A9, m9, c9, rfl, hk9, hc9, hd9, hb9⟩
  have HF9 := Lib.hid (show GotP W (touchedK u d0 [y, x]) (.returned (.slice A9 m9 c9)) w9 from ⟨A9, m9, c9, rfl, hk9, hc9, hd9, bel_on HB6.out hb9⟩)
  clear hk9 hb9
  go_wp2
  go_ret
  exact HF9.out
set_option maxHeartbeats 4000000 in
theorem rtouched_0 {cs : Array Value} {u d0 : Int} (A : Option Addr) (n c : Nat) (l : List EvP) (k : Int) (x : EvP) (W : World) (h : Evs W A n c l) (hn : n ≤ 500) (h1 : k ≠ 1) (h2 : k ≠ 2) (h3 : k ≠ 3) :
    Calls Try.prog 17 #[.agg cs, .slice A n c, .agg (fixC k x)] W (GotP W (touchedK u d0 (movedE l k x))) := by
  obtain ⟨w0, hw0⟩ : ∃ w0, (W.alloc (.cells cs 30)).alloc (.cells (fixC k x) 35) = w0 := ⟨_, rfl⟩
  have hB0 : Below W.heap.size W w0 := by rw [← hw0]; exact bel_alloc (bel_alloc (Below.refl _ _) _) _
  have hF0 : Has w0 (W.heap.size + 1) (fixC k x) := by rw [← hw0]; exact Has.new _ _ _ (by simp)
  have HB := Lib.hid hB0
  have HW0 := Lib.hid hw0
  have q0 := hF0.cell 0 (v := .int .i64 k) rfl
  have q1 := hF0.cell 1 (v := .int .i64 x.id) rfl
  have qz := cell_lt q0
  have HAT := Lib.hid (rat13_any A n c l x.id w0 (h.below hB0) (by omega))
  have hm : movedE l k x = [] := by simp [movedE, h1, h2, h3]
  have HF9 := Lib.hid (show GotP W (touchedK u d0 (movedE l k x)) (.returned (.slice none 0 0)) w0 from ⟨none, 0, 0, rfl, by rw [hm]; exact ⟨Sl.nil_, rfl⟩, by omega, by omega, hB0⟩)
  have g1 : (k == 1) = false := beq_eq_false_iff_ne.2 h1
  have g2 : (k == 2) = false := beq_eq_false_iff_ne.2 h2
  have g3 : (k == 3) = false := beq_eq_false_iff_ne.2 h3
  generalize ixZ l x.id = z at *
  clear h hw0 hB0 hF0 hm h1 h2 h3
  go_enter Try.func17, Try.ntmps17
  go_upto_region 1 with fail
  rw [HW0.out]
  go_wp2_with fail
  refine HAT.out.mono ?_
  rintro e w3 ⟨rfl, rfl⟩
  clear HAT HW0
  go_wp2
  go_ret
  exact HF9.out
theorem rtouched_any {cs : Array Value} {u d0 : Int} (hs : cs.size = 23) (h8 : cs[8]? = some (.int .i64 u)) (h9 : cs[9]? = some (.int .i64 d0)) (A : Option Addr) (n c : Nat) (l : List EvP) (k : Int) (x : EvP) (W : World) (h : Evs W A n c l) (hnc : n ≤ c ∧ c ≤ 9223372036854775807) (hn : n ≤ 500) (hi : x.In) (hl : ∀ e ∈ l, e.In) :
    Calls Try.prog 17 #[.agg cs, .slice A n c, .agg (fixC k x)] W (GotP W (touchedK u d0 (movedE l k x))) := by
  cases hx : ixE l x.id with
  | none =>
    by_cases h1 : k = 1
    · subst h1; exact rtouched_1n hs h8 h9 A n c l x W h hnc hn hi hl hx
    · by_cases h2 : k = 2
      · subst h2; exact rtouched_2n hs h8 h9 A n c l x W h hnc hn hi hl hx
      · by_cases h3 : k = 3
        · subst h3; exact rtouched_3n hs h8 h9 A n c l x W h hnc hn hi hl hx
        · exact rtouched_0 A n c l k x W h hn h1 h2 h3
  | some i =>
    by_cases h1 : k = 1
    · subst h1; exact rtouched_1s hs h8 h9 A n c l x W h hnc hn hi hl i hx
    · by_cases h2 : k = 2
      · subst h2; exact rtouched_2s hs h8 h9 A n c l x W h hnc hn hi hl i hx
      · by_cases h3 : k = 3
        · subst h3; exact rtouched_3s hs h8 h9 A n c l x W h hnc hn hi hl i hx
        · exact rtouched_0 A n c l k x W h hn h1 h2 h3
end Go.Proofs.Ytedkhjbnjkcemaa
