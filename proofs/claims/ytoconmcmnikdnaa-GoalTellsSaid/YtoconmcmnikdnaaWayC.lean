/-
  Package way: what tells whether it is nearer.
-/
import Derived.Test.YtoconmcmnikdnaaWayB
import Derived.Test.YtoconmcmnikdnaaSetY
import Derived.Test.YtoconmcmnikdnaaSetMay
import Derived.Deep.LoopGhost
namespace Go.Proofs.Ytoconmcmnikdnaa
open Go.RowKit
set_option linter.unusedVariables false
set_option linter.unusedSimpArgs false
set_option maxRecDepth 20000

theorem nearer_c (T G P : Nat) (gs : Nat → Nat) (t : TabF) (a b : Nat) (m x : Int) (w : World) (hT : Has w T #[.slice (some ⟨G, 0, none⟩) P P]) (hM : TabM w G P gs t) (ha : a < P) (hb : b < P) (hP : P ≤ 16) (hx : t a b = x) (q : Bool) (hq : decide (x = -1 ∨ m < x) = q) :
    Calls Try.prog 69 #[.int .i64 a, .int .i64 b, .int .i64 m, .pointer (some ⟨T, 0, none⟩)] w fun e w' => e = .returned (.bool q) ∧ w' = w := by
  have c0 := hT.cell 0 rfl
  have c1 := hM.ptr ha
  have c2 := hM.at ha hb
  rw [hx] at c2
  have a0 : (a : Int) < (P : Int) := by omega
  have b0 : (b : Int) < (P : Int) := by omega
  clear hM hT hx
  subst hq
  go_enter Try.func69, Try.ntmps69
  by_cases h1 : x = -1
  · subst h1
    go_wp2
    go_ret
    simp
  · go_wp2
    go_ret
    simp [h1]
/-- What the walk keeps: block N is the setup, block T the table's variable. -/
structure WayI (w wr : World) (N T G P : Nat) (gs : Nat → Nat) (cs : Array Value) (t : TabF) : Prop where
  bel : Below w.heap.size w wr
  set : Has wr N cs
  var : Has wr T #[.slice (some ⟨G, 0, none⟩) P P]
  tab : TabM wr G P gs t
  lie : ∀ i, i < P → w.heap.size ≤ gs i ∧ gs i ≠ N ∧ gs i ≠ T
section
variable {w wr w' : World} {N T G P : Nat} {gs : Nat → Nat} {cs : Array Value} {t : TabF}
theorem WayI.below (h : WayI w wr N T G P gs cs t) (hb : Below wr.heap.size wr w') : WayI w w' N T G P gs cs t := ⟨bel_on h.bel hb, h.set.below hb, h.var.below hb, h.tab.below hb, h.lie⟩
theorem WayI.alloc (h : WayI w wr N T G P gs cs t) (o : Obj) : WayI w (wr.alloc o) N T G P gs cs t := ⟨bel_alloc h.bel _, h.set.alloc _, h.var.alloc _, h.tab.alloc _, h.lie⟩
theorem WayI.drew (h : WayI w wr N T G P gs cs t) : WayI w wr.drew N T G P gs cs t := ⟨below_drew h.bel, h.set.drew, h.var.drew, h.tab.drew, h.lie⟩
theorem WayI.drewN (h : WayI w wr N T G P gs cs t) (n : Nat) : WayI w (wr.drewN n) N T G P gs cs t := ⟨⟨h.bel.os, h.bel.tape, h.bel.output, h.bel.size, h.bel.block⟩, h.set.drewN n, h.var.drewN n, ⟨h.tab.top, h.tab.row, h.tab.off, h.tab.inj⟩, h.lie⟩
theorem WayI.store (h : WayI w wr N T G P gs cs t) {a b : Nat} (ha : a < P) (hb : b < P) (v : Int) : WayI w (wr.setCell ⟨gs a, b, none⟩ (.int .i64 v)) N T G P gs cs (setF t a b v) := by
  obtain ⟨l1, l2, l3⟩ := h.lie a ha
  exact ⟨bel_set h.bel l1 _, h.set.far (fun e => l2 e.symm) _, h.var.far (fun e => l3 e.symm) _, h.tab.set ha hb v, h.lie⟩
end
/-- What a store into the table leaves as it was. -/
def WayS (T G P : Nat) (gs : Nat → Nat) (L A B M : Nat) (w : World) : Prop := Has w T #[.slice (some ⟨G, 0, none⟩) P P] ∧ Has w L #[.int .i64 A, .int .i64 B, .int .i64 M] ∧ w.rowIs G 27 P (fun i => .slice (some ⟨gs i, 0, none⟩) P P)
theorem wayS_of {w wr : World} {N T G P : Nat} {gs : Nat → Nat} {cs : Array Value} {t : TabF} (h : WayI w wr N T G P gs cs t) {L : Nat} (A B M : Nat) (hL : wr.heap.size = L) : WayS T G P gs L A B M (wr.alloc (.cells #[.int .i64 A, .int .i64 B, .int .i64 M] 45)).drew :=
  ⟨(h.var.alloc _).drew, (Has.new _ _ _ hL).drew, (h.tab.top.alloc _).drew⟩
theorem WayS.store {T G P : Nat} {gs : Nat → Nat} {L A B M : Nat} {w : World} (h : WayS T G P gs L A B M w) {a : Addr} (h1 : a.block ≠ T) (h2 : a.block ≠ L) (h3 : a.block ≠ G) (v : Value) : WayS T G P gs L A B M (w.setCell a v) :=
  ⟨h.1.far (fun e => h1 e.symm) v, h.2.1.far (fun e => h2 e.symm) v, h.2.2.setOther (fun e => h3 e.symm) v⟩
set_option maxHeartbeats 4000000 in
theorem wtable_may {w : World} {s : SetP} {cs : Array Value} (h : SetC w s cs) (hf : s.Fit) (hm : s.May) (P : Nat) (hP : s.places = P) (E : List Edge) (hE : edgesOf s.ways = E) :
    Calls Try.prog 36 #[.agg cs] w fun e w' => ∃ G, e = .returned (.slice (some ⟨G, 0, none⟩) P P) ∧ w.heap.size ≤ G ∧ TabOwn w' w.heap.size G P (distI E) ∧ Below w.heap.size w w' := by
  have HZ := Lib.hid h.size
  have HS := Lib.hid h
  have hchk : checkB s = true := check_iff.2 hm
  obtain ⟨hp1, hp2⟩ := hm.places
  rw [hP] at hp1 hp2
  have HW := Lib.hid hm.ways.2
  obtain ⟨A1, A2, A3, A4, A5, A6, c1, c2, c3, c4, c5, c6, h1, h2⟩ := h
  obtain ⟨W, hW⟩ : ∃ W, s.ways.length = W := ⟨_, rfl⟩
  have HT := Lib.hid h2.ways
  rw [hW] at HT
  have hW6 : W ≤ 64 := by rw [← hW]; exact hm.ways.1
  have g01 : Hid (cs[0]? = some (.int .i64 P) ∧ cs[1]? = some (.slice A1 W c1)) := by
    unfold setV at h1
    injection h1 with h1
    subst h1
    subst hW
    refine ⟨?_, rfl⟩
    rw [← hP]
    rfl
  have cC := Lib.hid (fun wx (hs : SetC wx s cs) => scheck_c hs hf true hchk)
  clear h1 h2 hm hf hchk
  go_enter Try.func36, Try.ntmps36
  go_wp2_with (refine wpList_load_has (by rfl) _ rfl w.heap.size rfl cs (Has.new _ _ _ rfl) HZ.out ?_)
  refine (cC.out _ (HS.out.below (bel_alloc (Below.refl _ _) _))).mono ?_
  rintro e w1 ⟨rfl, b1⟩
  have HB := Lib.hid ((Has.new w 30 cs rfl).below b1)
  replace b1 := bel_on (bel_alloc (Below.refl _ _) _) b1
  have r0 := HB.out.cell 0 g01.out.1
  have hs0 := cell_lt r0
  go_wp2_with fail
  refine (apart_c P (by omega) (by omega) w1).mono ?_
  rintro e w2 ⟨G, rfl, hG, ⟨gs, hgs, hTM⟩, b2⟩
  have hN2 := b2.size
  have HW0 : Hid (WayI w (w2.alloc (.cells #[.slice (some ⟨G, 0, none⟩) P P] 55)) w.heap.size w2.heap.size G P gs cs startF) :=
    ⟨bel_alloc (bel_on b1 b2) _, (HB.out.below b2).alloc _, Has.new _ _ _ rfl, hTM.alloc _, fun i hi => by have := hgs i hi; have := hTM.rsize hi; omega⟩
  have r1 := HW0.out.set.cell 1 g01.out.2
  have hs2 : w.heap.size < w2.heap.size := by omega
  have hGw : Hid (w.heap.size ≤ G) := by show _ ≤ _; omega
  clear hTM hgs hG b1 b2 r0 HS
  go_wp2
  clear r1
  have HEL : Hid (E.length = W) := by show _ = _; rw [← hE, ← hW]; simp [edgesOf]
  have HEA : Hid (Among P E) := by rw [← hE]; exact edges_among hP HW.out
  have HEG : Hid (∀ i, i < W → ∃ A B M : Nat, E[i]? = some (A, B, M) ∧ (s.ways.getD i []).getD 0 0 = A ∧ (s.ways.getD i []).getD 1 0 = B ∧ (s.ways.getD i []).getD 2 0 = M ∧ (A : Int) < s.places ∧ (B : Int) < s.places ∧ A ≠ B ∧ 1 ≤ M ∧ M ≤ 10000) := by
    intro i hi
    rw [← hE]
    exact edges_get (by omega) HW.out
  rw [hP] at HEG
  clear hE HW
  generalize w2.heap.size = T at *
  go_loopw [22] (fun s22 wr => ∃ (i : Nat) (t : TabF), i ≤ W ∧ s22 = .int .i64 i ∧ Hid (WaysF E P i t) ∧ Hid (WayI w wr w.heap.size T G P gs cs t)) (fun s22 _ => W - (intOf s22).toNat)
  case atStart => exact ⟨0, startF, by omega, rfl, ways_start E P, HW0⟩
  case round =>
    clear HW0
    obtain ⟨i, t, hi, rfl, hF, hI⟩ := hrel
    by_cases hlt : i < W
    · have hlt' : (i : Int) < (W : Int) := by omega
      obtain ⟨A, B, M, he, e0, e1, e2, hA, hB, hAB, hM1, hM2⟩ := HEG.out i hlt
      obtain ⟨bb, oo, rfl⟩ := HT.out.form (by decide) (by omega)
      have z0 := ((HT.out.below hI.out.bel).cell (i := i) (j := 0) hlt (by decide))
      have z1 := ((HT.out.below hI.out.bel).cell (i := i) (j := 1) hlt (by decide))
      have z2 := ((HT.out.below hI.out.bel).cell (i := i) (j := 2) hlt (by decide))
      rw [e0] at z0
      rw [e1] at z1
      rw [e2] at z2
      simp only [Nat.add_zero] at z0
      have hsz := cell_lt z0
      have HE := Lib.hid he
      have HAB := Lib.hid hAB
      clear e0 e1 e2 he hAB
      have HI2 := Lib.hid (hI.out.alloc (.cells #[.int .i64 A, .int .i64 B, .int .i64 M] 45))
      obtain ⟨x, hx⟩ : ∃ x, t A B = x := ⟨_, rfl⟩
      obtain ⟨q, hq⟩ : ∃ q, decide (x = -1 ∨ (M : Int) < x) = q := ⟨_, rfl⟩
      have cN := nearer_c T G P gs t A B M x _ HI2.out.var HI2.out.tab (by omega) (by omega) (by omega) hx q hq
      go_wp2_with fail
      refine cN.mono ?_
      rintro e w3 ⟨rfl, rfl⟩
      have hx9 := hF.out.sound.far (x := A) (y := B) (by omega) (by omega)
      cases q with
      | false =>
        have hk : Hid (WaysF E P (i + 1) t) := by
          have := of_decide_eq_false hq
          exact ways_keep hF.out HE.out (by omega) (by omega)
        clear hF hq cN hx hx9
        go_wp2
        go_roundw
        case rel => exact ⟨i + 1, t, by omega, by go_num, hk, HI2⟩
        case measure => simp [intOf]; omega
      | true =>
        have hk : Hid (WaysF E P (i + 1) (setF (setF t A B M) B A M)) := by
          have := of_decide_eq_true hq
          exact ways_set hF.out HE.out HAB.out hM2 (by omega)
        have hlA := hI.out.lie A (by omega)
        have hlB := hI.out.lie B (by omega)
        have hsA := hI.out.tab.rsize (i := A) (by omega)
        have hsB := hI.out.tab.rsize (i := B) (by omega)
        have hsG := hI.out.tab.size
        have hgA := hI.out.tab.off A (by omega)
        have hgB := hI.out.tab.off B (by omega)
        have hgAB : gs A ≠ gs B := fun e => HAB.out (hI.out.tab.inj A B (by omega) (by omega) e)
        have HSS := Lib.hid (show WayS T G P gs wr.heap.size A B M (wr.alloc (.cells #[.int .i64 A, .int .i64 B, .int .i64 M] 45)) from ⟨HI2.out.var, Has.new _ _ _ rfl, HI2.out.tab.top⟩)
        have HI3 := Lib.hid (hI.out.store (a := A) (b := B) (by omega) (by omega) M)
        have HI4 := Lib.hid (HI3.out.store (a := B) (b := A) (by omega) (by omega) M)
        have HS1 := Lib.hid (wayS_of HI3.out (L := wr.heap.size) A B M (by simp))
        have HS2 := Lib.hid (wayS_of HI4.out (L := wr.heap.size) A B M (by simp))
        have HEND := Lib.hid ((HI4.out.alloc (.cells #[.int .i64 A, .int .i64 B, .int .i64 M] 45)).drew)
        have s1 := hI.out.tab.at (i := A) (j := B) (by omega) (by omega)
        have s2 := hI.out.tab.at (i := B) (j := A) (by omega) (by omega)
        have f1 := hI.out.tab.frozen (i := A) (by omega) B
        have f2 := hI.out.tab.frozen (i := B) (by omega) A
        clear hF hq cN hx hx9 hI HI2 HI3 HI4 hlA hlB
        go_wp2_with fail
        refine wp_region_noPanic ?_
        refine wp_region_held_drew (S := WayS T G P gs wr.heap.size A B M) (by kernel_rfl) (HSS.out) (fun hHeld => ?_)
        refine wpAnyH_take (i := 0) (oi := ⟨some 34, _, _, _, _, _⟩) (v := .slice (some ⟨G, 0, none⟩) P P) rfl (by kernel_rfl) (by kernel_rfl) (by kernel_rfl) (fun _ _ _ h => h) (Or.inl ⟨by rfl, ?_⟩) hHeld ?_
        · intro ww hSw
          (try dsimp only at hSw)
          have c_ := hSw.1.cell 0 rfl
          have cl_ := cell_lt c_
          go_simp
        simp only [Act.put, List.setIfInBounds_toArray, List.set_cons_zero, List.set_cons_succ]
        refine wpAnyH_take (i := 1) (oi := ⟨some 35, _, _, _, _, _⟩) (v := ?_) rfl (by kernel_rfl) (by kernel_rfl) (by kernel_rfl) (fun _ _ _ h => h) (Or.inl ⟨by rfl, ?_⟩) hHeld ?_
        rotate_left
        · intro ww hSw
          (try dsimp only at hSw)
          go_simp
          (try with_reducible rfl)
        simp only [Act.put, List.setIfInBounds_toArray, List.set_cons_zero, List.set_cons_succ]
        refine wpAnyH_take (i := 2) (oi := ⟨some 36, _, _, _, _, _⟩) (v := .int .i64 A) rfl (by kernel_rfl) (by kernel_rfl) (by kernel_rfl) (fun _ _ _ h => h) (Or.inl ⟨by rfl, ?_⟩) hHeld ?_
        · intro ww hSw
          (try dsimp only at hSw)
          have c_ := hSw.2.1.cell 0 rfl
          have cl_ := cell_lt c_
          go_simp
        simp only [Act.put, List.setIfInBounds_toArray, List.set_cons_zero, List.set_cons_succ]
        refine wpAnyH_take (i := 3) (oi := ⟨some 37, _, _, _, _, _⟩) (v := ?_) rfl (by kernel_rfl) (by kernel_rfl) (by kernel_rfl) (fun _ _ _ h => h) (Or.inl ⟨by rfl, ?_⟩) hHeld ?_
        rotate_left
        · intro ww hSw
          (try dsimp only at hSw)
          go_simp
          (try with_reducible rfl)
        simp only [Act.put, List.setIfInBounds_toArray, List.set_cons_zero, List.set_cons_succ]
        refine wpAnyH_take (i := 4) (oi := ⟨some 38, _, _, _, _, _⟩) (v := .slice (some ⟨gs A, 0, none⟩) P P) rfl (by kernel_rfl) (by kernel_rfl) (by kernel_rfl) (fun _ _ _ h => h) (Or.inl ⟨by rfl, ?_⟩) hHeld ?_
        · intro ww hSw
          (try dsimp only at hSw)
          have c_ := hSw.2.2.cell (i := A) (by omega)
          have cl_ := cell_lt c_
          go_simp
        simp only [Act.put, List.setIfInBounds_toArray, List.set_cons_zero, List.set_cons_succ]
        refine wpAnyH_take (i := 5) (oi := ⟨some 39, _, _, _, _, _⟩) (v := ?_) rfl (by kernel_rfl) (by kernel_rfl) (by kernel_rfl) (fun _ _ _ h => h) (Or.inl ⟨by rfl, ?_⟩) hHeld ?_
        rotate_left
        · intro ww hSw
          (try dsimp only at hSw)
          go_simp
          (try with_reducible rfl)
        simp only [Act.put, List.setIfInBounds_toArray, List.set_cons_zero, List.set_cons_succ]
        refine wpAnyH_take (i := 6) (oi := ⟨some 40, _, _, _, _, _⟩) (v := .int .i64 B) rfl (by kernel_rfl) (by kernel_rfl) (by kernel_rfl) (fun _ _ _ h => h) (Or.inl ⟨by rfl, ?_⟩) hHeld ?_
        · intro ww hSw
          (try dsimp only at hSw)
          have c_ := hSw.2.1.cell 1 rfl
          have cl_ := cell_lt c_
          go_simp
        simp only [Act.put, List.setIfInBounds_toArray, List.set_cons_zero, List.set_cons_succ]
        refine wpAnyH_take (i := 7) (oi := ⟨some 41, _, _, _, _, _⟩) (v := .slice (some ⟨G, 0, none⟩) P P) rfl (by kernel_rfl) (by kernel_rfl) (by kernel_rfl) (fun _ _ _ h => h) (Or.inl ⟨by rfl, ?_⟩) hHeld ?_
        · intro ww hSw
          (try dsimp only at hSw)
          have c_ := hSw.1.cell 0 rfl
          have cl_ := cell_lt c_
          go_simp
        simp only [Act.put, List.setIfInBounds_toArray, List.set_cons_zero, List.set_cons_succ]
        refine wpAnyH_take (i := 8) (oi := ⟨some 42, _, _, _, _, _⟩) (v := ?_) rfl (by kernel_rfl) (by kernel_rfl) (by kernel_rfl) (fun _ _ _ h => h) (Or.inl ⟨by rfl, ?_⟩) hHeld ?_
        rotate_left
        · intro ww hSw
          (try dsimp only at hSw)
          go_simp
          (try with_reducible rfl)
        simp only [Act.put, List.setIfInBounds_toArray, List.set_cons_zero, List.set_cons_succ]
        refine wpAnyH_take (i := 9) (oi := ⟨some 43, _, _, _, _, _⟩) (v := .int .i64 B) rfl (by kernel_rfl) (by kernel_rfl) (by kernel_rfl) (fun _ _ _ h => h) (Or.inl ⟨by rfl, ?_⟩) hHeld ?_
        · intro ww hSw
          (try dsimp only at hSw)
          have c_ := hSw.2.1.cell 1 rfl
          have cl_ := cell_lt c_
          go_simp
        simp only [Act.put, List.setIfInBounds_toArray, List.set_cons_zero, List.set_cons_succ]
        refine wpAnyH_take (i := 10) (oi := ⟨some 44, _, _, _, _, _⟩) (v := ?_) rfl (by kernel_rfl) (by kernel_rfl) (by kernel_rfl) (fun _ _ _ h => h) (Or.inl ⟨by rfl, ?_⟩) hHeld ?_
        rotate_left
        · intro ww hSw
          (try dsimp only at hSw)
          go_simp
          (try with_reducible rfl)
        simp only [Act.put, List.setIfInBounds_toArray, List.set_cons_zero, List.set_cons_succ]
        refine wpAnyH_take (i := 11) (oi := ⟨some 45, _, _, _, _, _⟩) (v := .slice (some ⟨gs B, 0, none⟩) P P) rfl (by kernel_rfl) (by kernel_rfl) (by kernel_rfl) (fun _ _ _ h => h) (Or.inl ⟨by rfl, ?_⟩) hHeld ?_
        · intro ww hSw
          (try dsimp only at hSw)
          have c_ := hSw.2.2.cell (i := B) (by omega)
          have cl_ := cell_lt c_
          go_simp
        simp only [Act.put, List.setIfInBounds_toArray, List.set_cons_zero, List.set_cons_succ]
        refine wpAnyH_take (i := 12) (oi := ⟨some 46, _, _, _, _, _⟩) (v := ?_) rfl (by kernel_rfl) (by kernel_rfl) (by kernel_rfl) (fun _ _ _ h => h) (Or.inl ⟨by rfl, ?_⟩) hHeld ?_
        rotate_left
        · intro ww hSw
          (try dsimp only at hSw)
          go_simp
          (try with_reducible rfl)
        simp only [Act.put, List.setIfInBounds_toArray, List.set_cons_zero, List.set_cons_succ]
        refine wpAnyH_take (i := 13) (oi := ⟨some 47, _, _, _, _, _⟩) (v := .int .i64 A) rfl (by kernel_rfl) (by kernel_rfl) (by kernel_rfl) (fun _ _ _ h => h) (Or.inl ⟨by rfl, ?_⟩) hHeld ?_
        · intro ww hSw
          (try dsimp only at hSw)
          have c_ := hSw.2.1.cell 0 rfl
          have cl_ := cell_lt c_
          go_simp
        simp only [Act.put, List.setIfInBounds_toArray, List.set_cons_zero, List.set_cons_succ]
        refine wpAnyH_take (i := 14) (oi := ⟨some 48, _, _, _, _, _⟩) (v := ?_) rfl (by kernel_rfl) (by kernel_rfl) (by kernel_rfl) (fun _ _ _ h => h) (Or.inl ⟨by rfl, ?_⟩) hHeld ?_
        rotate_left
        · intro ww hSw
          (try dsimp only at hSw)
          go_simp
          (try with_reducible rfl)
        simp only [Act.put, List.setIfInBounds_toArray, List.set_cons_zero, List.set_cons_succ]
        refine wpAnyH_take (i := 15) (oi := ⟨some 49, _, _, _, _, _⟩) (v := .int .i64 M) rfl (by kernel_rfl) (by kernel_rfl) (by kernel_rfl) (fun _ _ _ h => h) (Or.inl ⟨by rfl, ?_⟩) hHeld ?_
        · intro ww hSw
          (try dsimp only at hSw)
          have c_ := hSw.2.1.cell 2 rfl
          have cl_ := cell_lt c_
          go_simp
        simp only [Act.put, List.setIfInBounds_toArray, List.set_cons_zero, List.set_cons_succ]
        refine wpAnyH_take (i := 16) (oi := ⟨some 50, _, _, _, _, _⟩) (v := ?_) rfl (by kernel_rfl) (by kernel_rfl) (by kernel_rfl) (fun _ _ _ h => h) (Or.inl ⟨by rfl, ?_⟩) hHeld ?_
        rotate_left
        · intro ww hSw
          (try dsimp only at hSw)
          go_simp
          (try with_reducible rfl)
        simp only [Act.put, List.setIfInBounds_toArray, List.set_cons_zero, List.set_cons_succ]
        refine wpAnyH_take (i := 17) (oi := ⟨some 51, _, _, _, _, _⟩) (v := .int .i64 M) rfl (by kernel_rfl) (by kernel_rfl) (by kernel_rfl) (fun _ _ _ h => h) (Or.inl ⟨by rfl, ?_⟩) hHeld ?_
        · intro ww hSw
          (try dsimp only at hSw)
          have c_ := hSw.2.1.cell 2 rfl
          have cl_ := cell_lt c_
          go_simp
        simp only [Act.put, List.setIfInBounds_toArray, List.set_cons_zero, List.set_cons_succ]
        refine wpAnyH_take (i := 18) (oi := ⟨some 52, _, _, _, _, _⟩) (v := ?_) rfl (by kernel_rfl) (by kernel_rfl) (by kernel_rfl) (fun _ _ _ h => h) (Or.inl ⟨by rfl, ?_⟩) hHeld ?_
        rotate_left
        · intro ww hSw
          (try dsimp only at hSw)
          go_simp
          (try with_reducible rfl)
        simp only [Act.put, List.setIfInBounds_toArray, List.set_cons_zero, List.set_cons_succ]
        refine wpAnyH_ready (rs := [19]) (by kernel_rfl) (by simp) ?_
        refine AllReadyH.cons (o := ⟨none, _, _, _, _, _⟩) rfl (fun K hK => ?_) AllReadyH.nil
        go_simp
        refine hK.out _ _ ?_ (fun hHeld => ?_)
        · (try dsimp only)
          exact HS1.out
        clear hK K
        (try simp only [Act.put, List.setIfInBounds_toArray, List.set_cons_zero, List.set_cons_succ])
        refine wpAnyH_take (i := 20) (oi := ⟨some 53, _, _, _, _, _⟩) (v := ?_) rfl (by kernel_rfl) (by kernel_rfl) (by kernel_rfl) (fun _ _ _ h => h) (Or.inl ⟨by rfl, ?_⟩) hHeld ?_
        rotate_left
        · intro ww hSw
          (try dsimp only at hSw)
          go_simp
          (try with_reducible rfl)
        simp only [Act.put, List.setIfInBounds_toArray, List.set_cons_zero, List.set_cons_succ]
        refine wpAnyH_ready (rs := [21]) (by kernel_rfl) (by simp) ?_
        refine AllReadyH.cons (o := ⟨none, _, _, _, _, _⟩) rfl (fun K hK => ?_) AllReadyH.nil
        go_simp
        refine hK.out _ _ ?_ (fun hHeld => ?_)
        · (try dsimp only)
          exact HS2.out
        clear hK K
        (try simp only [Act.put, List.setIfInBounds_toArray, List.set_cons_zero, List.set_cons_succ])
        refine wpAnyH_done (by kernel_rfl) ?_ _
        refine NoPanic.normal ?_
        go_wp2
        go_roundw
        case rel => exact ⟨i + 1, _, by omega, by go_num, hk, HEND⟩
        case measure => simp [intOf]; omega
    · have hlt' : ¬ (i : Int) < (W : Int) := by omega
      obtain rfl : i = W := by omega
      have hC0 := Lib.hid (ways_end (by rw [HEL.out]; exact hF.out))
      have q0 := hI.out.set.cell 0 g01.out.1
      have hq0 := cell_lt q0
      have HI0 : Hid (SoundF E P t ∧ CompF E P 0 t ∧ UnderF P (bndF 0) t) := ⟨hF.out.sound, hC0.out, hF.out.under⟩
      have g0 := Lib.hid g01.out.1
      clear hF hC0 HEG HT HEL g01 cC HB
      go_wp2
      clear q0 hq0
      go_loopg [57] P (fun g s57 wx => ∃ (K : Nat) (t : TabF), K + g = P ∧ s57 = .int .i64 K ∧ Hid (SoundF E P t ∧ CompF E P K t ∧ UnderF P (bndF K) t) ∧ Hid (WayI w wx w.heap.size T G P gs cs t))
      case atStart => exact ⟨0, t, by omega, rfl, HI0, hI⟩
      case round =>
        clear HI0 hI
        obtain ⟨K, t0, hKg, rfl, hT0, hI⟩ := hrel
        have q0 := hI.out.set.cell 0 g0.out
        have hq0 := cell_lt q0
        cases gk with
        | zero =>
          obtain rfl : K = P := by omega
          have hlt : ¬ (K : Int) < (K : Int) := by omega
          have HD : Hid (TabOwn wr w.heap.size G K (distI E)) := ⟨gs, fun i hi => (hI.out.lie i hi).1, hI.out.tab.congr fun i j hi hj => fw_done HEA.out hT0.out.1 hT0.out.2.1 hi hj⟩
          have k0 := hI.out.var.cell 0 rfl
          have hk0 := cell_lt k0
          have HB := Lib.hid hI.out.bel
          clear hT0 hI
          go_wp2
          go_ret
          exact ⟨_, rfl, hGw.out, HD.out, HB.out⟩
        | succ g =>
          have hlt : (K : Int) < (P : Int) := by omega
          have HPS := Lib.hid (phase_start (K := K) hT0.out.1 (bnd_pos K) hT0.out.2.2)
          go_wp2
          go_step3
          go_wp2
          go_step3
          go_wp2
          clear q0 hq0
          go_loopg [62] P (fun g s62 wy => ∃ (a : Nat) (t : TabF), a + g = P ∧ s62 = .int .i64 a ∧ Hid (PhaseF E P K (bndF K) t0 t a 0) ∧ Hid (WayI w wy w.heap.size T G P gs cs t))
          case atStart => exact ⟨0, t0, by omega, rfl, HPS, hI⟩
          case round =>
            clear HPS hI
            obtain ⟨a, t, hag, rfl, hPh, hI⟩ := hrel
            have q0 := hI.out.set.cell 0 g0.out
            have hq0 := cell_lt q0
            cases gk with
            | zero =>
              obtain rfl : a = P := by omega
              have hlt2 : ¬ (a : Int) < (a : Int) := by omega
              have HN : Hid (SoundF E a t ∧ CompF E a (K + 1) t ∧ UnderF a (bndF (K + 1)) t) := ⟨hPh.out.sound, phase_end hPh.out (by omega) hT0.out.2.1, by rw [bnd_succ]; exact hPh.out.under⟩
              clear hPh hT0
              go_wp2
              go_roundg g
              case measure => omega
              case rel => exact ⟨K + 1, t, by omega, by go_num, HN, hI⟩
            | succ g1 =>
              have hlt2 : (a : Int) < (P : Int) := by omega
              go_wp2
              clear q0 hq0
              go_loopg [67] P (fun g s67 wz => ∃ (b : Nat) (t : TabF), b + g = P ∧ s67 = .int .i64 b ∧ Hid (PhaseF E P K (bndF K) t0 t a b) ∧ Hid (WayI w wz w.heap.size T G P gs cs t))
              case atStart => exact ⟨0, t, by omega, rfl, hPh, hI⟩
              case round =>
                clear hPh hI
                obtain ⟨b, t, hbg, rfl, hPh, hI⟩ := hrel
                cases gk with
                | zero =>
                  obtain rfl : b = P := by omega
                  have hlt3 : ¬ (b : Int) < (b : Int) := by omega
                  have HN := Lib.hid (phase_row hPh.out)
                  clear hPh hT0
                  go_wp2
                  go_roundg g1
                  case measure => omega
                  case rel => exact ⟨a + 1, t, by omega, by go_num, HN, hI⟩
                | succ g2 =>
                  have hlt3 : (b : Int) < (P : Int) := by omega
                  obtain ⟨x, hx⟩ : ∃ x, t a K = x := ⟨_, rfl⟩
                  obtain ⟨y, hy⟩ : ∃ y, t K b = y := ⟨_, rfl⟩
                  obtain ⟨z, hz⟩ : ∃ z, t a b = z := ⟨_, rfl⟩
                  have k0 := hI.out.var.cell 0 rfl
                  have k1 := hI.out.tab.ptr (i := a) (by omega)
                  have k2 := hI.out.tab.at (i := a) (j := K) (by omega) (by omega)
                  have k3 := hI.out.tab.ptr (i := K) (by omega)
                  have k4 := hI.out.tab.at (i := K) (j := b) (by omega) (by omega)
                  rw [hx] at k2
                  rw [hy] at k4
                  have hk0 := cell_lt k0
                  have hk1 := cell_lt k1
                  have hk2 := cell_lt k2
                  have hk4 := cell_lt k4
                  have fx := hPh.out.sound.far (x := a) (y := K) (by omega) (by omega)
                  have fy := hPh.out.sound.far (x := K) (y := b) (by omega) (by omega)
                  have fz := hPh.out.sound.far (x := a) (y := b) (by omega) (by omega)
                  have bm := bnd_most (K := K + 1) (by omega)
                  rw [bnd_succ] at bm
                  have ux := hPh.out.under a K (by omega) (by omega)
                  have uy := hPh.out.under K b (by omega) (by omega)
                  rw [hx] at fx ux
                  rw [hy] at fy uy
                  rw [hz] at fz
                  replace ux : x ≤ 1310720000 := by omega
                  replace uy : y ≤ 1310720000 := by omega
                  clear bm
                  by_cases hx1 : x = -1
                  · have HN := Lib.hid (phase_skip hPh.out (by omega) (by omega) (by rw [hx, hx1]; omega))
                    subst hx1
                    clear hPh hT0 fx fy fz ux uy hx hy hz
                    go_wp2_with fail
                    go_quiet (fail)
                    go_wp2
                    go_roundg g1
                    case measure => omega
                    case rel => exact ⟨a + 1, t, by omega, by go_num, HN, hI.out.drewN _⟩
                  · have HI2 := Lib.hid (fun n => hI.out.drewN n)
                    by_cases hy1 : y = -1
                    · have HN := Lib.hid (phase_none hPh.out (by omega) (by omega) (by omega) (.inr (.inl (by rw [hy, hy1]; omega))))
                      subst hy1
                      clear hPh hT0 fx fy fz ux uy hx hy hz hI
                      go_wp2_with fail
                      go_quiet (fail)
                      go_wp2
                      go_roundg g2
                      case measure => omega
                      case rel => exact ⟨b + 1, t, by omega, by go_num, HN, HI2.out _⟩
                    · have hx0 : 0 ≤ x := by omega
                      have hy0 : 0 ≤ y := by omega
                      obtain ⟨q, hq⟩ : ∃ q, decide (z = -1 ∨ x + y < z) = q := ⟨_, rfl⟩
                      have cN := fun n => nearer_c T G P gs t a b (x + y) z _ (HI2.out n).var (HI2.out n).tab (by omega) (by omega) (by omega) hz q hq
                      cases q with
                      | false =>
                        have HN := Lib.hid (phase_none hPh.out (by omega) (by omega) (by omega) (.inr (.inr (by have := of_decide_eq_false hq; rw [hx, hy, hz]; omega))))
                        clear hPh hT0 fx fy fz hx hy hz hI hq
                        go_wp2_with fail
                        go_quiet (fail)
                        go_wp2_with fail
                        refine (cN _).mono ?_
                        rintro e w3 ⟨rfl, rfl⟩
                        go_wp2
                        go_roundg g2
                        case measure => omega
                        case rel => exact ⟨b + 1, t, by omega, by go_num, HN, HI2.out _⟩
                      | true =>
                        have HN := Lib.hid (phase_set hPh.out (by omega) (by omega) (by omega) hT0.out.2.2 (by rw [hx]; exact hx0) (by rw [hy]; exact hy0) (by have := of_decide_eq_true hq; rw [hx, hy, hz]; omega))
                        rw [hx, hy] at HN
                        have HI3 := Lib.hid (fun n => (hI.out.store (a := a) (b := b) (by omega) (by omega) (x + y)).drewN n)
                        have k5 := hI.out.tab.at (i := a) (j := b) (by omega) (by omega)
                        have k6 := hI.out.tab.frozen (i := a) (by omega) b
                        clear hPh hT0 fx fy fz hx hy hz hI hq
                        go_wp2_with fail
                        go_quiet (fail)
                        go_wp2_with fail
                        refine (cN _).mono ?_
                        rintro e w3 ⟨rfl, rfl⟩
                        go_wp2
                        go_roundg g2
                        case measure => omega
                        case rel => exact ⟨b + 1, _, by omega, by go_num, HN, HI3.out _⟩
end Go.Proofs.Ytoconmcmnikdnaa
