/-
  Package way: what tells whether it is nearer.
  Package way: Table of a setup that may not be; Dist. The laws' own 'square'.
  The calls whose answers the document fixes, at the head of layer 9's laws.
  What layer 9's laws are walked by, beyond package way: a setup's first fields; sums of ways.
  How long a task is to take: seven steps one after the other, each taken whatever the one ahead was, are the goal.
-/
import Derived.Test.YtpgncbhahocmbaaGreatQax
import Derived.Test.YtpgncbhahocmbaaGreatQao
import Derived.Test.YtpgncbhahocmbaaGreatQan
import Derived.Deep.LoopGhost
import Derived.Test.YtpgncbhahocmbaaGreatQaw
import Derived.Test.YtpgncbhahocmbaaGreatQaa
import Derived.Test.YtpgncbhahocmbaaGreatQak
import Derived.Test.YtpgncbhahocmbaaGreatQah
namespace Go.Proofs.YtpgncbhahocmbaaGreat
open Go.RowKit
set_option linter.unusedVariables false
set_option linter.unusedSimpArgs false
set_option maxRecDepth 20000

theorem nearer_c (T G P : Nat) (gs : Nat → Nat) (t : TabF) (a b : Nat) (m x : Int) (w : World) (hT : Has w T #[.slice (some ⟨G, 0, none⟩) P P]) (hM : TabM w G P gs t) (ha : a < P) (hb : b < P) (hP : P ≤ 16) (hx : t a b = x) (q : Bool) (hq : decide (x = -1 ∨ m < x) = q) :
    Calls Tryz.prog 138 #[.int .i64 a, .int .i64 b, .int .i64 m, .pointer (some ⟨T, 0, none⟩)] w fun e w' => e = .returned (.bool q) ∧ w' = w := by
  have c0 := hT.cell 0 rfl
  have c1 := hM.ptr ha
  have c2 := hM.at ha hb
  rw [hx] at c2
  have a0 : (a : Int) < (P : Int) := by omega
  have b0 : (b : Int) < (P : Int) := by omega
  clear hM hT hx
  subst hq
  go_enter Tryz.func138, Tryz.ntmps138
  by_cases h1 : x = -1
  · subst h1
    go_wp2
    go_ret
    simp
  · go_wp2
    go_ret
    simp [h1]
/-- What the walk keeps: block N is the setup, block T the table's variable. -/
structure WayI (w wr : World) (N T G P : Nat) (gs : Nat → Nat) (cs : Array Value) (t : TabF) : Prop where
  bel : Below w.heap.size w wr
  set : Has wr N cs
  var : Has wr T #[.slice (some ⟨G, 0, none⟩) P P]
  tab : TabM wr G P gs t
  lie : ∀ i, i < P → w.heap.size ≤ gs i ∧ gs i ≠ N ∧ gs i ≠ T
section
variable {w wr w' : World} {N T G P : Nat} {gs : Nat → Nat} {cs : Array Value} {t : TabF}
theorem WayI.below (h : WayI w wr N T G P gs cs t) (hb : Below wr.heap.size wr w') : WayI w w' N T G P gs cs t := ⟨bel_on h.bel hb, h.set.below hb, h.var.below hb, h.tab.below hb, h.lie⟩
theorem WayI.alloc (h : WayI w wr N T G P gs cs t) (o : Obj) : WayI w (wr.alloc o) N T G P gs cs t := ⟨bel_alloc h.bel _, h.set.alloc _, h.var.alloc _, h.tab.alloc _, h.lie⟩
theorem WayI.drew (h : WayI w wr N T G P gs cs t) : WayI w wr.drew N T G P gs cs t := ⟨below_drew h.bel, h.set.drew, h.var.drew, h.tab.drew, h.lie⟩
theorem WayI.drewN (h : WayI w wr N T G P gs cs t) (n : Nat) : WayI w (wr.drewN n) N T G P gs cs t := ⟨⟨h.bel.os, h.bel.tape, h.bel.output, h.bel.size, h.bel.block⟩, h.set.drewN n, h.var.drewN n, ⟨h.tab.top, h.tab.row, h.tab.off, h.tab.inj⟩, h.lie⟩
theorem WayI.store (h : WayI w wr N T G P gs cs t) {a b : Nat} (ha : a < P) (hb : b < P) (v : Int) : WayI w (wr.setCell ⟨gs a, b, none⟩ (.int .i64 v)) N T G P gs cs (setF t a b v) := by
  obtain ⟨l1, l2, l3⟩ := h.lie a ha
  exact ⟨bel_set h.bel l1 _, h.set.far (fun e => l2 e.symm) _, h.var.far (fun e => l3 e.symm) _, h.tab.set ha hb v, h.lie⟩
end
/-- What a store into the table leaves as it was. -/
def WayS (T G P : Nat) (gs : Nat → Nat) (L A B M : Nat) (w : World) : Prop := Has w T #[.slice (some ⟨G, 0, none⟩) P P] ∧ Has w L #[.int .i64 A, .int .i64 B, .int .i64 M] ∧ w.rowIs G 27 P (fun i => .slice (some ⟨gs i, 0, none⟩) P P)
theorem wayS_of {w wr : World} {N T G P : Nat} {gs : Nat → Nat} {cs : Array Value} {t : TabF} (h : WayI w wr N T G P gs cs t) {L : Nat} (A B M : Nat) (hL : wr.heap.size = L) : WayS T G P gs L A B M (wr.alloc (.cells #[.int .i64 A, .int .i64 B, .int .i64 M] 125)).drew :=
  ⟨(h.var.alloc _).drew, (Has.new _ _ _ hL).drew, (h.tab.top.alloc _).drew⟩
theorem WayS.store {T G P : Nat} {gs : Nat → Nat} {L A B M : Nat} {w : World} (h : WayS T G P gs L A B M w) {a : Addr} (h1 : a.block ≠ T) (h2 : a.block ≠ L) (h3 : a.block ≠ G) (v : Value) : WayS T G P gs L A B M (w.setCell a v) :=
  ⟨h.1.far (fun e => h1 e.symm) v, h.2.1.far (fun e => h2 e.symm) v, h.2.2.setOther (fun e => h3 e.symm) v⟩
set_option maxHeartbeats 4000000 in
theorem wtable_may {w : World} {s : SetP} {cs : Array Value} (h : SetC w s cs) (hf : s.Fit) (hm : s.May) (P : Nat) (hP : s.places = P) (E : List Edge) (hE : edgesOf s.ways = E) :
    Calls Tryz.prog 105 #[.agg cs] w fun e w' => ∃ G, e = .returned (.slice (some ⟨G, 0, none⟩) P P) ∧ w.heap.size ≤ G ∧ TabOwn w' w.heap.size G P (distI E) ∧ Below w.heap.size w w' := by
  have HZ := Lib.hid h.size
  have HS := Lib.hid h
  have hchk : checkB s = true := check_iff.2 hm
  obtain ⟨hp1, hp2⟩ := hm.places
  rw [hP] at hp1 hp2
  have HW := Lib.hid hm.ways.2
  obtain ⟨A1, A2, A3, A4, A5, A6, c1, c2, c3, c4, c5, c6, h1, h2⟩ := h
  obtain ⟨W, hW⟩ : ∃ W, s.ways.length = W := ⟨_, rfl⟩
  have HT := Lib.hid h2.ways
  rw [hW] at HT
  have hW6 : W ≤ 64 := by rw [← hW]; exact hm.ways.1
  have g01 : Hid (cs[0]? = some (.int .i64 P) ∧ cs[1]? = some (.slice A1 W c1)) := by
    unfold setV at h1
    injection h1 with h1
    subst h1
    subst hW
    refine ⟨?_, rfl⟩
    rw [← hP]
    rfl
  have cC := Lib.hid (fun wx (hs : SetC wx s cs) => scheck_c hs hf true hchk)
  clear h1 h2 hm hf hchk
  go_enter Tryz.func105, Tryz.ntmps105
  go_wp2_with (refine wpList_load_has (by rfl) _ rfl w.heap.size rfl cs (Has.new _ _ _ rfl) HZ.out ?_)
  refine (cC.out _ (HS.out.below (bel_alloc (Below.refl _ _) _))).mono ?_
  rintro e w1 ⟨rfl, b1⟩
  have HB := Lib.hid ((Has.new w 30 cs rfl).below b1)
  replace b1 := bel_on (bel_alloc (Below.refl _ _) _) b1
  have r0 := HB.out.cell 0 g01.out.1
  have hs0 := cell_lt r0
  go_wp2_with fail
  refine (apart_c P (by omega) (by omega) w1).mono ?_
  rintro e w2 ⟨G, rfl, hG, ⟨gs, hgs, hTM⟩, b2⟩
  have hN2 := b2.size
  have HW0 : Hid (WayI w (w2.alloc (.cells #[.slice (some ⟨G, 0, none⟩) P P] 139)) w.heap.size w2.heap.size G P gs cs startF) :=
    ⟨bel_alloc (bel_on b1 b2) _, (HB.out.below b2).alloc _, Has.new _ _ _ rfl, hTM.alloc _, fun i hi => by have := hgs i hi; have := hTM.rsize hi; omega⟩
  have r1 := HW0.out.set.cell 1 g01.out.2
  have hs2 : w.heap.size < w2.heap.size := by omega
  have hGw : Hid (w.heap.size ≤ G) := by show _ ≤ _; omega
  clear hTM hgs hG b1 b2 r0 HS
  go_wp2
  clear r1
  have HEL : Hid (E.length = W) := by show _ = _; rw [← hE, ← hW]; simp [edgesOf]
  have HEA : Hid (Among P E) := by rw [← hE]; exact edges_among hP HW.out
  have HEG : Hid (∀ i, i < W → ∃ A B M : Nat, E[i]? = some (A, B, M) ∧ (s.ways.getD i []).getD 0 0 = A ∧ (s.ways.getD i []).getD 1 0 = B ∧ (s.ways.getD i []).getD 2 0 = M ∧ (A : Int) < s.places ∧ (B : Int) < s.places ∧ A ≠ B ∧ 1 ≤ M ∧ M ≤ 10000) := by
    intro i hi
    rw [← hE]
    exact edges_get (by omega) HW.out
  rw [hP] at HEG
  clear hE HW
  generalize w2.heap.size = T at *
  go_loopw [22] (fun s22 wr => ∃ (i : Nat) (t : TabF), i ≤ W ∧ s22 = .int .i64 i ∧ Hid (WaysF E P i t) ∧ Hid (WayI w wr w.heap.size T G P gs cs t)) (fun s22 _ => W - (intOf s22).toNat)
  case atStart => exact ⟨0, startF, by omega, rfl, ways_start E P, HW0⟩
  case round =>
    clear HW0
    obtain ⟨i, t, hi, rfl, hF, hI⟩ := hrel
    by_cases hlt : i < W
    · have hlt' : (i : Int) < (W : Int) := by omega
      obtain ⟨A, B, M, he, e0, e1, e2, hA, hB, hAB, hM1, hM2⟩ := HEG.out i hlt
      obtain ⟨bb, oo, rfl⟩ := HT.out.form (by decide) (by omega)
      have z0 := ((HT.out.below hI.out.bel).cell (i := i) (j := 0) hlt (by decide))
      have z1 := ((HT.out.below hI.out.bel).cell (i := i) (j := 1) hlt (by decide))
      have z2 := ((HT.out.below hI.out.bel).cell (i := i) (j := 2) hlt (by decide))
      rw [e0] at z0
      rw [e1] at z1
      rw [e2] at z2
      simp only [Nat.add_zero] at z0
      have hsz := cell_lt z0
      have HE := Lib.hid he
      have HAB := Lib.hid hAB
      clear e0 e1 e2 he hAB
      have HI2 := Lib.hid (hI.out.alloc (.cells #[.int .i64 A, .int .i64 B, .int .i64 M] 125))
      obtain ⟨x, hx⟩ : ∃ x, t A B = x := ⟨_, rfl⟩
      obtain ⟨q, hq⟩ : ∃ q, decide (x = -1 ∨ (M : Int) < x) = q := ⟨_, rfl⟩
      have cN := nearer_c T G P gs t A B M x _ HI2.out.var HI2.out.tab (by omega) (by omega) (by omega) hx q hq
      go_wp2_with fail
      refine cN.mono ?_
      rintro e w3 ⟨rfl, rfl⟩
      have hx9 := hF.out.sound.far (x := A) (y := B) (by omega) (by omega)
      cases q with
      | false =>
        have hk : Hid (WaysF E P (i + 1) t) := by
          have := of_decide_eq_false hq
          exact ways_keep hF.out HE.out (by omega) (by omega)
        clear hF hq cN hx hx9
        go_wp2
        go_roundw
        case rel => exact ⟨i + 1, t, by omega, by go_num, hk, HI2⟩
        case measure => simp [intOf]; omega
      | true =>
        have hk : Hid (WaysF E P (i + 1) (setF (setF t A B M) B A M)) := by
          have := of_decide_eq_true hq
          exact ways_set hF.out HE.out HAB.out hM2 (by omega)
        have hlA := hI.out.lie A (by omega)
        have hlB := hI.out.lie B (by omega)
        have hsA := hI.out.tab.rsize (i := A) (by omega)
        have hsB := hI.out.tab.rsize (i := B) (by omega)
        have hsG := hI.out.tab.size
        have hgA := hI.out.tab.off A (by omega)
        have hgB := hI.out.tab.off B (by omega)
        have hgAB : gs A ≠ gs B := fun e => HAB.out (hI.out.tab.inj A B (by omega) (by omega) e)
        have HSS := Lib.hid (show WayS T G P gs wr.heap.size A B M (wr.alloc (.cells #[.int .i64 A, .int .i64 B, .int .i64 M] 125)) from ⟨HI2.out.var, Has.new _ _ _ rfl, HI2.out.tab.top⟩)
        have HI3 := Lib.hid (hI.out.store (a := A) (b := B) (by omega) (by omega) M)
        have HI4 := Lib.hid (HI3.out.store (a := B) (b := A) (by omega) (by omega) M)
        have HS1 := Lib.hid (wayS_of HI3.out (L := wr.heap.size) A B M (by simp))
        have HS2 := Lib.hid (wayS_of HI4.out (L := wr.heap.size) A B M (by simp))
        have HEND := Lib.hid ((HI4.out.alloc (.cells #[.int .i64 A, .int .i64 B, .int .i64 M] 125)).drew)
        have s1 := hI.out.tab.at (i := A) (j := B) (by omega) (by omega)
        have s2 := hI.out.tab.at (i := B) (j := A) (by omega) (by omega)
        have f1 := hI.out.tab.frozen (i := A) (by omega) B
        have f2 := hI.out.tab.frozen (i := B) (by omega) A
        clear hF hq cN hx hx9 hI HI2 HI3 HI4 hlA hlB
        go_wp2_with fail
        refine wp_region_noPanic ?_
        refine wp_region_held_drew (S := WayS T G P gs wr.heap.size A B M) (by kernel_rfl) (HSS.out) (fun hHeld => ?_)
        refine wpAnyH_take (i := 0) (oi := ⟨some 34, _, _, _, _, _⟩) (v := .slice (some ⟨G, 0, none⟩) P P) rfl (by kernel_rfl) (by kernel_rfl) (by kernel_rfl) (fun _ _ _ h => h) (Or.inl ⟨by rfl, ?_⟩) hHeld ?_
        · intro ww hSw
          (try dsimp only at hSw)
          have c_ := hSw.1.cell 0 rfl
          have cl_ := cell_lt c_
          go_simp
        simp only [Act.put, List.setIfInBounds_toArray, List.set_cons_zero, List.set_cons_succ]
        refine wpAnyH_take (i := 1) (oi := ⟨some 35, _, _, _, _, _⟩) (v := ?_) rfl (by kernel_rfl) (by kernel_rfl) (by kernel_rfl) (fun _ _ _ h => h) (Or.inl ⟨by rfl, ?_⟩) hHeld ?_
        rotate_left
        · intro ww hSw
          (try dsimp only at hSw)
          go_simp
          (try with_reducible rfl)
        simp only [Act.put, List.setIfInBounds_toArray, List.set_cons_zero, List.set_cons_succ]
        refine wpAnyH_take (i := 2) (oi := ⟨some 36, _, _, _, _, _⟩) (v := .int .i64 A) rfl (by kernel_rfl) (by kernel_rfl) (by kernel_rfl) (fun _ _ _ h => h) (Or.inl ⟨by rfl, ?_⟩) hHeld ?_
        · intro ww hSw
          (try dsimp only at hSw)
          have c_ := hSw.2.1.cell 0 rfl
          have cl_ := cell_lt c_
          go_simp
        simp only [Act.put, List.setIfInBounds_toArray, List.set_cons_zero, List.set_cons_succ]
        refine wpAnyH_take (i := 3) (oi := ⟨some 37, _, _, _, _, _⟩) (v := ?_) rfl (by kernel_rfl) (by kernel_rfl) (by kernel_rfl) (fun _ _ _ h => h) (Or.inl ⟨by rfl, ?_⟩) hHeld ?_
        rotate_left
        · intro ww hSw
          (try dsimp only at hSw)
          go_simp
          (try with_reducible rfl)
        simp only [Act.put, List.setIfInBounds_toArray, List.set_cons_zero, List.set_cons_succ]
        refine wpAnyH_take (i := 4) (oi := ⟨some 38, _, _, _, _, _⟩) (v := .slice (some ⟨gs A, 0, none⟩) P P) rfl (by kernel_rfl) (by kernel_rfl) (by kernel_rfl) (fun _ _ _ h => h) (Or.inl ⟨by rfl, ?_⟩) hHeld ?_
        · intro ww hSw
          (try dsimp only at hSw)
          have c_ := hSw.2.2.cell (i := A) (by omega)
          have cl_ := cell_lt c_
          go_simp
        simp only [Act.put, List.setIfInBounds_toArray, List.set_cons_zero, List.set_cons_succ]
        refine wpAnyH_take (i := 5) (oi := ⟨some 39, _, _, _, _, _⟩) (v := ?_) rfl (by kernel_rfl) (by kernel_rfl) (by kernel_rfl) (fun _ _ _ h => h) (Or.inl ⟨by rfl, ?_⟩) hHeld ?_
        rotate_left
        · intro ww hSw
          (try dsimp only at hSw)
          go_simp
          (try with_reducible rfl)
        simp only [Act.put, List.setIfInBounds_toArray, List.set_cons_zero, List.set_cons_succ]
        refine wpAnyH_take (i := 6) (oi := ⟨some 40, _, _, _, _, _⟩) (v := .int .i64 B) rfl (by kernel_rfl) (by kernel_rfl) (by kernel_rfl) (fun _ _ _ h => h) (Or.inl ⟨by rfl, ?_⟩) hHeld ?_
        · intro ww hSw
          (try dsimp only at hSw)
          have c_ := hSw.2.1.cell 1 rfl
          have cl_ := cell_lt c_
          go_simp
        simp only [Act.put, List.setIfInBounds_toArray, List.set_cons_zero, List.set_cons_succ]
        refine wpAnyH_take (i := 7) (oi := ⟨some 41, _, _, _, _, _⟩) (v := .slice (some ⟨G, 0, none⟩) P P) rfl (by kernel_rfl) (by kernel_rfl) (by kernel_rfl) (fun _ _ _ h => h) (Or.inl ⟨by rfl, ?_⟩) hHeld ?_
        · intro ww hSw
          (try dsimp only at hSw)
          have c_ := hSw.1.cell 0 rfl
          have cl_ := cell_lt c_
          go_simp
        simp only [Act.put, List.setIfInBounds_toArray, List.set_cons_zero, List.set_cons_succ]
        refine wpAnyH_take (i := 8) (oi := ⟨some 42, _, _, _, _, _⟩) (v := ?_) rfl (by kernel_rfl) (by kernel_rfl) (by kernel_rfl) (fun _ _ _ h => h) (Or.inl ⟨by rfl, ?_⟩) hHeld ?_
        rotate_left
        · intro ww hSw
          (try dsimp only at hSw)
          go_simp
          (try with_reducible rfl)
        simp only [Act.put, List.setIfInBounds_toArray, List.set_cons_zero, List.set_cons_succ]
        refine wpAnyH_take (i := 9) (oi := ⟨some 43, _, _, _, _, _⟩) (v := .int .i64 B) rfl (by kernel_rfl) (by kernel_rfl) (by kernel_rfl) (fun _ _ _ h => h) (Or.inl ⟨by rfl, ?_⟩) hHeld ?_
        · intro ww hSw
          (try dsimp only at hSw)
          have c_ := hSw.2.1.cell 1 rfl
          have cl_ := cell_lt c_
          go_simp
        simp only [Act.put, List.setIfInBounds_toArray, List.set_cons_zero, List.set_cons_succ]
        refine wpAnyH_take (i := 10) (oi := ⟨some 44, _, _, _, _, _⟩) (v := ?_) rfl (by kernel_rfl) (by kernel_rfl) (by kernel_rfl) (fun _ _ _ h => h) (Or.inl ⟨by rfl, ?_⟩) hHeld ?_
        rotate_left
        · intro ww hSw
          (try dsimp only at hSw)
          go_simp
          (try with_reducible rfl)
        simp only [Act.put, List.setIfInBounds_toArray, List.set_cons_zero, List.set_cons_succ]
        refine wpAnyH_take (i := 11) (oi := ⟨some 45, _, _, _, _, _⟩) (v := .slice (some ⟨gs B, 0, none⟩) P P) rfl (by kernel_rfl) (by kernel_rfl) (by kernel_rfl) (fun _ _ _ h => h) (Or.inl ⟨by rfl, ?_⟩) hHeld ?_
        · intro ww hSw
          (try dsimp only at hSw)
          have c_ := hSw.2.2.cell (i := B) (by omega)
          have cl_ := cell_lt c_
          go_simp
        simp only [Act.put, List.setIfInBounds_toArray, List.set_cons_zero, List.set_cons_succ]
        refine wpAnyH_take (i := 12) (oi := ⟨some 46, _, _, _, _, _⟩) (v := ?_) rfl (by kernel_rfl) (by kernel_rfl) (by kernel_rfl) (fun _ _ _ h => h) (Or.inl ⟨by rfl, ?_⟩) hHeld ?_
        rotate_left
        · intro ww hSw
          (try dsimp only at hSw)
          go_simp
          (try with_reducible rfl)
        simp only [Act.put, List.setIfInBounds_toArray, List.set_cons_zero, List.set_cons_succ]
        refine wpAnyH_take (i := 13) (oi := ⟨some 47, _, _, _, _, _⟩) (v := .int .i64 A) rfl (by kernel_rfl) (by kernel_rfl) (by kernel_rfl) (fun _ _ _ h => h) (Or.inl ⟨by rfl, ?_⟩) hHeld ?_
        · intro ww hSw
          (try dsimp only at hSw)
          have c_ := hSw.2.1.cell 0 rfl
          have cl_ := cell_lt c_
          go_simp
        simp only [Act.put, List.setIfInBounds_toArray, List.set_cons_zero, List.set_cons_succ]
        refine wpAnyH_take (i := 14) (oi := ⟨some 48, _, _, _, _, _⟩) (v := ?_) rfl (by kernel_rfl) (by kernel_rfl) (by kernel_rfl) (fun _ _ _ h => h) (Or.inl ⟨by rfl, ?_⟩) hHeld ?_
        rotate_left
        · intro ww hSw
          (try dsimp only at hSw)
          go_simp
          (try with_reducible rfl)
        simp only [Act.put, List.setIfInBounds_toArray, List.set_cons_zero, List.set_cons_succ]
        refine wpAnyH_take (i := 15) (oi := ⟨some 49, _, _, _, _, _⟩) (v := .int .i64 M) rfl (by kernel_rfl) (by kernel_rfl) (by kernel_rfl) (fun _ _ _ h => h) (Or.inl ⟨by rfl, ?_⟩) hHeld ?_
        · intro ww hSw
          (try dsimp only at hSw)
          have c_ := hSw.2.1.cell 2 rfl
          have cl_ := cell_lt c_
          go_simp
        simp only [Act.put, List.setIfInBounds_toArray, List.set_cons_zero, List.set_cons_succ]
        refine wpAnyH_take (i := 16) (oi := ⟨some 50, _, _, _, _, _⟩) (v := ?_) rfl (by kernel_rfl) (by kernel_rfl) (by kernel_rfl) (fun _ _ _ h => h) (Or.inl ⟨by rfl, ?_⟩) hHeld ?_
        rotate_left
        · intro ww hSw
          (try dsimp only at hSw)
          go_simp
          (try with_reducible rfl)
        simp only [Act.put, List.setIfInBounds_toArray, List.set_cons_zero, List.set_cons_succ]
        refine wpAnyH_take (i := 17) (oi := ⟨some 51, _, _, _, _, _⟩) (v := .int .i64 M) rfl (by kernel_rfl) (by kernel_rfl) (by kernel_rfl) (fun _ _ _ h => h) (Or.inl ⟨by rfl, ?_⟩) hHeld ?_
        · intro ww hSw
          (try dsimp only at hSw)
          have c_ := hSw.2.1.cell 2 rfl
          have cl_ := cell_lt c_
          go_simp
        simp only [Act.put, List.setIfInBounds_toArray, List.set_cons_zero, List.set_cons_succ]
        refine wpAnyH_take (i := 18) (oi := ⟨some 52, _, _, _, _, _⟩) (v := ?_) rfl (by kernel_rfl) (by kernel_rfl) (by kernel_rfl) (fun _ _ _ h => h) (Or.inl ⟨by rfl, ?_⟩) hHeld ?_
        rotate_left
        · intro ww hSw
          (try dsimp only at hSw)
          go_simp
          (try with_reducible rfl)
        simp only [Act.put, List.setIfInBounds_toArray, List.set_cons_zero, List.set_cons_succ]
        refine wpAnyH_ready (rs := [19]) (by kernel_rfl) (by simp) ?_
        refine AllReadyH.cons (o := ⟨none, _, _, _, _, _⟩) rfl (fun K hK => ?_) AllReadyH.nil
        go_simp
        refine hK.out _ _ ?_ (fun hHeld => ?_)
        · (try dsimp only)
          exact HS1.out
        clear hK K
        (try simp only [Act.put, List.setIfInBounds_toArray, List.set_cons_zero, List.set_cons_succ])
        refine wpAnyH_take (i := 20) (oi := ⟨some 53, _, _, _, _, _⟩) (v := ?_) rfl (by kernel_rfl) (by kernel_rfl) (by kernel_rfl) (fun _ _ _ h => h) (Or.inl ⟨by rfl, ?_⟩) hHeld ?_
        rotate_left
        · intro ww hSw
          (try dsimp only at hSw)
          go_simp
          (try with_reducible rfl)
        simp only [Act.put, List.setIfInBounds_toArray, List.set_cons_zero, List.set_cons_succ]
        refine wpAnyH_ready (rs := [21]) (by kernel_rfl) (by simp) ?_
        refine AllReadyH.cons (o := ⟨none, _, _, _, _, _⟩) rfl (fun K hK => ?_) AllReadyH.nil
        go_simp
        refine hK.out _ _ ?_ (fun hHeld => ?_)
        · (try dsimp only)
          exact HS2.out
        clear hK K
        (try simp only [Act.put, List.setIfInBounds_toArray, List.set_cons_zero, List.set_cons_succ])
        refine wpAnyH_done (by kernel_rfl) ?_ _
        refine NoPanic.normal ?_
        go_wp2
        go_roundw
        case rel => exact ⟨i + 1, _, by omega, by go_num, hk, HEND⟩
        case measure => simp [intOf]; omega
    · have hlt' : ¬ (i : Int) < (W : Int) := by omega
      obtain rfl : i = W := by omega
      have hC0 := Lib.hid (ways_end (by rw [HEL.out]; exact hF.out))
      have q0 := hI.out.set.cell 0 g01.out.1
      have hq0 := cell_lt q0
      have HI0 : Hid (SoundF E P t ∧ CompF E P 0 t ∧ UnderF P (bndF 0) t) := ⟨hF.out.sound, hC0.out, hF.out.under⟩
      have g0 := Lib.hid g01.out.1
      clear hF hC0 HEG HT HEL g01 cC HB
      go_wp2
      clear q0 hq0
      go_loopg [57] P (fun g s57 wx => ∃ (K : Nat) (t : TabF), K + g = P ∧ s57 = .int .i64 K ∧ Hid (SoundF E P t ∧ CompF E P K t ∧ UnderF P (bndF K) t) ∧ Hid (WayI w wx w.heap.size T G P gs cs t))
      case atStart => exact ⟨0, t, by omega, rfl, HI0, hI⟩
      case round =>
        clear HI0 hI
        obtain ⟨K, t0, hKg, rfl, hT0, hI⟩ := hrel
        have q0 := hI.out.set.cell 0 g0.out
        have hq0 := cell_lt q0
        cases gk with
        | zero =>
          obtain rfl : K = P := by omega
          have hlt : ¬ (K : Int) < (K : Int) := by omega
          have HD : Hid (TabOwn wr w.heap.size G K (distI E)) := ⟨gs, fun i hi => (hI.out.lie i hi).1, hI.out.tab.congr fun i j hi hj => fw_done HEA.out hT0.out.1 hT0.out.2.1 hi hj⟩
          have k0 := hI.out.var.cell 0 rfl
          have hk0 := cell_lt k0
          have HB := Lib.hid hI.out.bel
          clear hT0 hI
          go_wp2
          go_ret
          exact ⟨_, rfl, hGw.out, HD.out, HB.out⟩
        | succ g =>
          have hlt : (K : Int) < (P : Int) := by omega
          have HPS := Lib.hid (phase_start (K := K) hT0.out.1 (bnd_pos K) hT0.out.2.2)
          go_wp2
          go_step3
          go_wp2
          go_step3
          go_wp2
          clear q0 hq0
          go_loopg [62] P (fun g s62 wy => ∃ (a : Nat) (t : TabF), a + g = P ∧ s62 = .int .i64 a ∧ Hid (PhaseF E P K (bndF K) t0 t a 0) ∧ Hid (WayI w wy w.heap.size T G P gs cs t))
          case atStart => exact ⟨0, t0, by omega, rfl, HPS, hI⟩
          case round =>
            clear HPS hI
            obtain ⟨a, t, hag, rfl, hPh, hI⟩ := hrel
            have q0 := hI.out.set.cell 0 g0.out
            have hq0 := cell_lt q0
            cases gk with
            | zero =>
              obtain rfl : a = P := by omega
              have hlt2 : ¬ (a : Int) < (a : Int) := by omega
              have HN : Hid (SoundF E a t ∧ CompF E a (K + 1) t ∧ UnderF a (bndF (K + 1)) t) := ⟨hPh.out.sound, phase_end hPh.out (by omega) hT0.out.2.1, by rw [bnd_succ]; exact hPh.out.under⟩
              clear hPh hT0
              go_wp2
              go_roundg g
              case measure => omega
              case rel => exact ⟨K + 1, t, by omega, by go_num, HN, hI⟩
            | succ g1 =>
              have hlt2 : (a : Int) < (P : Int) := by omega
              go_wp2
              clear q0 hq0
              go_loopg [67] P (fun g s67 wz => ∃ (b : Nat) (t : TabF), b + g = P ∧ s67 = .int .i64 b ∧ Hid (PhaseF E P K (bndF K) t0 t a b) ∧ Hid (WayI w wz w.heap.size T G P gs cs t))
              case atStart => exact ⟨0, t, by omega, rfl, hPh, hI⟩
              case round =>
                clear hPh hI
                obtain ⟨b, t, hbg, rfl, hPh, hI⟩ := hrel
                cases gk with
                | zero =>
                  obtain rfl : b = P := by omega
                  have hlt3 : ¬ (b : Int) < (b : Int) := by omega
                  have HN := Lib.hid (phase_row hPh.out)
                  clear hPh hT0
                  go_wp2
                  go_roundg g1
                  case measure => omega
                  case rel => exact ⟨a + 1, t, by omega, by go_num, HN, hI⟩
                | succ g2 =>
                  have hlt3 : (b : Int) < (P : Int) := by omega
                  obtain ⟨x, hx⟩ : ∃ x, t a K = x := ⟨_, rfl⟩
                  obtain ⟨y, hy⟩ : ∃ y, t K b = y := ⟨_, rfl⟩
                  obtain ⟨z, hz⟩ : ∃ z, t a b = z := ⟨_, rfl⟩
                  have k0 := hI.out.var.cell 0 rfl
                  have k1 := hI.out.tab.ptr (i := a) (by omega)
                  have k2 := hI.out.tab.at (i := a) (j := K) (by omega) (by omega)
                  have k3 := hI.out.tab.ptr (i := K) (by omega)
                  have k4 := hI.out.tab.at (i := K) (j := b) (by omega) (by omega)
                  rw [hx] at k2
                  rw [hy] at k4
                  have hk0 := cell_lt k0
                  have hk1 := cell_lt k1
                  have hk2 := cell_lt k2
                  have hk4 := cell_lt k4
                  have fx := hPh.out.sound.far (x := a) (y := K) (by omega) (by omega)
                  have fy := hPh.out.sound.far (x := K) (y := b) (by omega) (by omega)
                  have fz := hPh.out.sound.far (x := a) (y := b) (by omega) (by omega)
                  have bm := bnd_most (K := K + 1) (by omega)
                  rw [bnd_succ] at bm
                  have ux := hPh.out.under a K (by omega) (by omega)
                  have uy := hPh.out.under K b (by omega) (by omega)
                  rw [hx] at fx ux
                  rw [hy] at fy uy
                  rw [hz] at fz
                  replace ux : x ≤ 1310720000 := by omega
                  replace uy : y ≤ 1310720000 := by omega
                  clear bm
                  by_cases hx1 : x = -1
                  · have HN := Lib.hid (phase_skip hPh.out (by omega) (by omega) (by rw [hx, hx1]; omega))
                    subst hx1
                    clear hPh hT0 fx fy fz ux uy hx hy hz
                    go_wp2_with fail
                    go_quiet (fail)
                    go_wp2
                    go_roundg g1
                    case measure => omega
                    case rel => exact ⟨a + 1, t, by omega, by go_num, HN, hI.out.drewN _⟩
                  · have HI2 := Lib.hid (fun n => hI.out.drewN n)
                    by_cases hy1 : y = -1
                    · have HN := Lib.hid (phase_none hPh.out (by omega) (by omega) (by omega) (.inr (.inl (by rw [hy, hy1]; omega))))
                      subst hy1
                      clear hPh hT0 fx fy fz ux uy hx hy hz hI
                      go_wp2_with fail
                      go_quiet (fail)
                      go_wp2
                      go_roundg g2
                      case measure => omega
                      case rel => exact ⟨b + 1, t, by omega, by go_num, HN, HI2.out _⟩
                    · have hx0 : 0 ≤ x := by omega
                      have hy0 : 0 ≤ y := by omega
                      obtain ⟨q, hq⟩ : ∃ q, decide (z = -1 ∨ x + y < z) = q := ⟨_, rfl⟩
                      have cN := fun n => nearer_c T G P gs t a b (x + y) z _ (HI2.out n).var (HI2.out n).tab (by omega) (by omega) (by omega) hz q hq
                      cases q with
                      | false =>
                        have HN := Lib.hid (phase_none hPh.out (by omega) (by omega) (by omega) (.inr (.inr (by have := of_decide_eq_false hq; rw [hx, hy, hz]; omega))))
                        clear hPh hT0 fx fy fz hx hy hz hI hq
                        go_wp2_with fail
                        go_quiet (fail)
                        go_wp2_with fail
                        refine (cN _).mono ?_
                        rintro e w3 ⟨rfl, rfl⟩
                        go_wp2
                        go_roundg g2
                        case measure => omega
                        case rel => exact ⟨b + 1, t, by omega, by go_num, HN, HI2.out _⟩
                      | true =>
                        have HN := Lib.hid (phase_set hPh.out (by omega) (by omega) (by omega) hT0.out.2.2 (by rw [hx]; exact hx0) (by rw [hy]; exact hy0) (by have := of_decide_eq_true hq; rw [hx, hy, hz]; omega))
                        rw [hx, hy] at HN
                        have HI3 := Lib.hid (fun n => (hI.out.store (a := a) (b := b) (by omega) (by omega) (x + y)).drewN n)
                        have k5 := hI.out.tab.at (i := a) (j := b) (by omega) (by omega)
                        have k6 := hI.out.tab.frozen (i := a) (by omega) b
                        clear hPh hT0 fx fy fz hx hy hz hI hq
                        go_wp2_with fail
                        go_quiet (fail)
                        go_wp2_with fail
                        refine (cN _).mono ?_
                        rintro e w3 ⟨rfl, rfl⟩
                        go_wp2
                        go_roundg g2
                        case measure => omega
                        case rel => exact ⟨b + 1, _, by omega, by go_num, HN, HI3.out _⟩
end Go.Proofs.YtpgncbhahocmbaaGreat

namespace Go.Proofs.YtpgncbhahocmbaaGreat
open Go.RowKit
set_option linter.unusedVariables false
set_option linter.unusedSimpArgs false
set_option maxRecDepth 20000

set_option maxHeartbeats 2000000 in
theorem wtable_bad {w : World} {s : SetP} {cs : Array Value} (h : SetC w s cs) (hf : s.Fit) (hm : ¬ s.May) :
    Calls Tryz.prog 105 #[.agg cs] w fun e w' => e = .returned (.slice none 0 0) ∧ Below w.heap.size w w' := by
  have HZ := Lib.hid h.size
  have HS := Lib.hid h
  have hchk : checkB s = false := by
    cases hc : checkB s with
    | false => rfl
    | true => exact absurd (check_iff.1 hc) hm
  have cC := Lib.hid (fun wx (hs : SetC wx s cs) => scheck_c hs hf false hchk)
  clear h hm hf hchk
  go_enter Tryz.func105, Tryz.ntmps105
  go_wp2_with (refine wpList_load_has (by rfl) _ rfl w.heap.size rfl cs (Has.new _ _ _ rfl) HZ.out ?_)
  refine (cC.out _ (HS.out.below (bel_alloc (Below.refl _ _) _))).mono ?_
  rintro e w1 ⟨rfl, b1⟩
  replace b1 := bel_on (bel_alloc (Below.refl _ _) _) b1
  go_wp2
  go_ret
  exact ⟨rfl, b1⟩
open Classical in
/-- How far two places are; Far, if one of them is not there. -/
noncomputable def farV (s : SetP) (a b : Int) : Int := if s.May ∧ 0 ≤ a ∧ a < s.places ∧ 0 ≤ b ∧ b < s.places then distI (edgesOf s.ways) a.toNat b.toNat else -1
theorem farV_in {s : SetP} {P a b : Nat} (hm : s.May) (hP : s.places = P) (ha : a < P) (hb : b < P) : farV s a b = distI (edgesOf s.ways) a b := by
  unfold farV
  rw [if_pos ⟨hm, by omega, by omega, by omega, by omega⟩]
  rfl
theorem farV_out {s : SetP} {a b : Int} (h : ¬ s.May ∨ a < 0 ∨ s.places ≤ a ∨ b < 0 ∨ s.places ≤ b) : farV s a b = -1 := by
  unfold farV
  rw [if_neg]
  rintro ⟨h1, h2, h3, h4, h5⟩
  rcases h with h | h | h | h | h
  · exact h h1
  all_goals omega
set_option maxHeartbeats 2000000 in
theorem wdist_bad {w : World} {s : SetP} {cs : Array Value} (h : SetC w s cs) (hf : s.Fit) (hm : ¬ s.May) (a b : Int) :
    Calls Tryz.prog 61 #[.agg cs, .int .i64 a, .int .i64 b] w fun e w' => e = .returned (.int .i64 (-1)) ∧ Below w.heap.size w w' := by
  have HZ := Lib.hid h.size
  have HS := Lib.hid h
  have cC := Lib.hid (fun wx (hs : SetC wx s cs) => wtable_bad hs hf hm)
  clear h hm hf
  by_cases ha : a < 0
  · go_enter Tryz.func61, Tryz.ntmps61
    go_wp2_with (refine wpList_load_has (by rfl) _ rfl w.heap.size rfl cs (Has.new _ _ _ rfl) HZ.out ?_)
    refine (cC.out _ (HS.out.below (bel_alloc (Below.refl _ _) _))).mono ?_
    rintro e w1 ⟨rfl, b1⟩
    replace b1 := bel_on (bel_alloc (Below.refl _ _) _) b1
    go_wp2
    go_ret
    exact ⟨rfl, b1⟩
  · have ha2 : 0 ≤ a := by omega
    go_enter Tryz.func61, Tryz.ntmps61
    go_wp2_with (refine wpList_load_has (by rfl) _ rfl w.heap.size rfl cs (Has.new _ _ _ rfl) HZ.out ?_)
    refine (cC.out _ (HS.out.below (bel_alloc (Below.refl _ _) _))).mono ?_
    rintro e w1 ⟨rfl, b1⟩
    replace b1 := bel_on (bel_alloc (Below.refl _ _) _) b1
    go_wp2
    go_ret
    exact ⟨rfl, b1⟩
set_option maxHeartbeats 4000000 in
theorem wdist_out {w : World} {s : SetP} {cs : Array Value} (h : SetC w s cs) (hf : s.Fit) (hm : s.May) (P : Nat) (hP : s.places = P) (a b : Int) (ho : a < 0 ∨ (P : Int) ≤ a ∨ b < 0 ∨ (P : Int) ≤ b) :
    Calls Tryz.prog 61 #[.agg cs, .int .i64 a, .int .i64 b] w fun e w' => e = .returned (.int .i64 (-1)) ∧ Below w.heap.size w w' := by
  have HZ := Lib.hid h.size
  have HS := Lib.hid h
  have cC := Lib.hid (fun wx (hs : SetC wx s cs) => wtable_may hs hf hm P hP _ rfl)
  have hp := hm.places
  rw [hP] at hp
  clear h hm hf
  go_enter Tryz.func61, Tryz.ntmps61
  go_wp2_with (refine wpList_load_has (by rfl) _ rfl w.heap.size rfl cs (Has.new _ _ _ rfl) HZ.out ?_)
  refine (cC.out _ (HS.out.below (bel_alloc (Below.refl _ _) _))).mono ?_
  rintro e w1 ⟨G, rfl, hG, hT, b1⟩
  replace b1 := bel_on (bel_alloc (Below.refl _ _) _) b1
  clear hT hG
  by_cases h1 : a < 0
  · go_wp2
    go_ret
    exact ⟨rfl, b1⟩
  by_cases h2 : (P : Int) ≤ a
  · go_wp2
    go_ret
    exact ⟨rfl, b1⟩
  by_cases h3 : b < 0
  · go_wp2
    go_ret
    exact ⟨rfl, b1⟩
  · have h4 : (P : Int) ≤ b := by omega
    go_wp2
    go_ret
    exact ⟨rfl, b1⟩
set_option maxHeartbeats 4000000 in
theorem wdist_in {w : World} {s : SetP} {cs : Array Value} (h : SetC w s cs) (hf : s.Fit) (hm : s.May) (P : Nat) (hP : s.places = P) (a b : Nat) (ha : a < P) (hb : b < P) (x : Int) (hx : distI (edgesOf s.ways) a b = x) :
    Calls Tryz.prog 61 #[.agg cs, .int .i64 a, .int .i64 b] w fun e w' => e = .returned (.int .i64 x) ∧ Below w.heap.size w w' := by
  have HZ := Lib.hid h.size
  have HS := Lib.hid h
  have cC := Lib.hid (fun wx (hs : SetC wx s cs) => wtable_may hs hf hm P hP _ rfl)
  have hp := hm.places
  rw [hP] at hp
  clear h hm hf
  go_enter Tryz.func61, Tryz.ntmps61
  go_wp2_with (refine wpList_load_has (by rfl) _ rfl w.heap.size rfl cs (Has.new _ _ _ rfl) HZ.out ?_)
  refine (cC.out _ (HS.out.below (bel_alloc (Below.refl _ _) _))).mono ?_
  rintro e w1 ⟨G, rfl, hG, ⟨gs, hgs, hT⟩, b1⟩
  replace b1 := bel_on (bel_alloc (Below.refl _ _) _) b1
  have k1 := hT.ptr ha
  have k2 := hT.at ha hb
  rw [hx] at k2
  have hk1 := cell_lt k1
  have hk2 := cell_lt k2
  clear hT hG hgs hx
  have a0 : (a : Int) < (P : Int) := by omega
  have a1 : (b : Int) < (P : Int) := by omega
  go_wp2
  go_ret
  exact ⟨rfl, b1⟩
theorem wdist_c {w : World} {s : SetP} {cs : Array Value} (h : SetC w s cs) (hf : s.Fit) (a b x : Int) (hx : farV s a b = x) :
    Calls Tryz.prog 61 #[.agg cs, .int .i64 a, .int .i64 b] w fun e w' => e = .returned (.int .i64 x) ∧ Below w.heap.size w w' := by
  subst hx
  by_cases hm : s.May
  · obtain ⟨P, hP⟩ : ∃ P : Nat, s.places = P := ⟨s.places.toNat, by have := hm.places; omega⟩
    by_cases ho : a < 0 ∨ (P : Int) ≤ a ∨ b < 0 ∨ (P : Int) ≤ b
    · rw [farV_out (.inr (by rw [hP]; exact ho))]
      exact wdist_out h hf hm P hP a b ho
    · obtain ⟨a', rfl⟩ : ∃ a' : Nat, a = a' := ⟨a.toNat, by omega⟩
      obtain ⟨b', rfl⟩ : ∃ b' : Nat, b = b' := ⟨b.toNat, by omega⟩
      rw [farV_in hm hP (by omega) (by omega)]
      exact wdist_in h hf hm P hP a' b' (by omega) (by omega) _ rfl
  · rw [farV_out (.inl hm)]
    exact wdist_bad h hf hm a b
end Go.Proofs.YtpgncbhahocmbaaGreat

namespace Go.Proofs.YtpgncbhahocmbaaGreat
open Go.RowKit
set_option linter.unusedVariables false
set_option linter.unusedSimpArgs false
set_option maxRecDepth 20000

theorem wpList_load_sg {ops : Array Oper} {rest : List Oper} {o : Oper} {a : Act} {w : World} {Q : Exit → Act → World → Prop} (hgd : Region.wanted o (yielded ops a.tmps) = true) (x : Operand) (ho : o.op = .load 30 x)
    (g : Nat) (hx : a.eval x = .pointer (some ⟨g, 0, none⟩)) (cs : Array Value) (hg : Has w g cs) (hs : cs.size = 23)
    (h : wpList Tryz.prog ops Q rest (a.put o.dst (.agg cs)) w) : wpList Tryz.prog ops Q (o :: rest) a w := by
  refine wpList_step fun K hK => ?_
  rw [if_pos hgd]
  obtain ⟨t, hg⟩ := hg
  exact wp_load_row _ x ho g hx t cs (0, 0) _ hg Tryz.underlying30 rfl (by rw [hs]; kernel_rfl) (hK _ _ h)
theorem tab_rows {w : World} {g k n : Nat} {t : Rows2} (h : Has w g (ints .i64 t.flatten).toArray) (hk : ∀ r ∈ t, r.length = k) (hn : t.length = n) (h6 : n ≤ 1000) (hz : ∀ r ∈ t, ∀ z ∈ r, In64 z) : Tab k w (some ⟨g, 0, none⟩) n n t := by
  refine ⟨⟨?_, .inr ⟨_, rfl, fun j u hu => ?_⟩⟩, hn, hk, hz, by omega, by omega⟩
  · rw [ints, List.length_map, rows_len t hk, hn, Nat.mul_comm]
  · rw [tab_add, Nat.zero_add]
    refine h.cell j ?_
    simpa using hu
end Go.Proofs.YtpgncbhahocmbaaGreat

namespace Go.Proofs.YtpgncbhahocmbaaGreat
open Go.RowKit
set_option linter.unusedVariables false
set_option linter.unusedSimpArgs false
set_option maxRecDepth 20000

/-- How long the first i ways are together. -/
def sumE (E : List Edge) (i : Nat) : Nat := ((E.take i).map fun e => e.2.2).sum
theorem sumE_succ {E : List Edge} {i A B M : Nat} (h : E[i]? = some (A, B, M)) : sumE E (i + 1) = sumE E i + M := by
  unfold sumE
  rw [List.take_add_one, h]
  simp
theorem sumE_le {E : List Edge} {m : Nat} (h : ∀ e ∈ E, e.2.2 ≤ m) : ∀ i, sumE E i ≤ i * m
  | 0 => by simp [sumE]
  | i + 1 => by
    have ih := sumE_le h i
    cases hE : E[i]? with
    | none =>
      have e : sumE E (i + 1) = sumE E i := by unfold sumE; rw [List.take_add_one, hE]; simp
      rw [e, Nat.succ_mul]
      omega
    | some x =>
      obtain ⟨A, B, M⟩ := x
      rw [sumE_succ hE, Nat.succ_mul]
      have : M ≤ m := h _ (List.mem_of_getElem? hE)
      omega
theorem sumE_all {E : List Edge} {n : Nat} (h : E.length = n) : sumE E n = (E.map fun e => e.2.2).sum := by
  subst h
  unfold sumE
  rw [List.take_length]
theorem edges_small {p : Int} {l : List (List Int)} (h : ∀ r ∈ l, wayP p r) : ∀ e ∈ edgesOf l, e.2.2 ≤ 10000 := by
  intro e he
  obtain ⟨r, hr, rfl⟩ := List.mem_map.1 he
  have := h r hr
  unfold wayP at this
  simp only [edgeOf]
  omega
theorem dist_le64 {E : List Edge} {n : Nat} (hE : Longs E) (hs : ∀ e ∈ E, e.2.2 ≤ 10000) (hn : E.length = n) (h6 : n ≤ 101) (a b : Nat) : -1 ≤ distI E a b ∧ distI E a b ≤ 1010000 := by
  have h1 := distI_ge E a b
  have h2 := distI_sum hE a b
  have h3 := sumE_le hs n
  rw [sumE_all hn] at h3
  have h4 : n * 10000 ≤ 101 * 10000 := Nat.mul_le_mul_right _ h6
  omega
end Go.Proofs.YtpgncbhahocmbaaGreat

namespace Go.Proofs.YtpgncbhahocmbaaGreat
open Go.RowKit
set_option linter.unusedVariables false
set_option linter.unusedSimpArgs false
set_option maxRecDepth 20000

/-- A number of a row. -/
def rowN (t : Rows2) (i j : Nat) : Int := (t.getD i []).getD j 0
def goalC (s : SetP) (e : EvP) (D : Int) : Rat2 :=
  goalR D s.pn s.pd (rowN s.gears e.ge.toNat 0) (rowN s.gears e.ge.toNat 1) e.un (rowN s.elements e.el.toNat 0) (rowN s.elements e.el.toNat 1) (rowN s.elements e.el.toNat 2) (rowN s.elements e.el.toNat 3)
    (rowN s.classes e.cl.toNat 0) (rowN s.classes e.cl.toNat 1) s.allow
/-- An event may be in a setup. -/
def EvIn (s : SetP) (e : EvP) : Prop := e.May s.places s.elements.length s.classes.length s.gears.length s.rates.length
instance (s : SetP) (e : EvP) : Decidable (EvIn s e) := by unfold EvIn; infer_instance
/-- It is a task whose places are joined. -/
def TaskP (s : SetP) (e : EvP) : Prop := checkB s = true ∧ EvIn s e ∧ e.kd = 3 ∧ farV s e.fr e.to ≠ -1
noncomputable instance (s : SetP) (e : EvP) : Decidable (TaskP s e) := by unfold TaskP; infer_instance
noncomputable def goalE (s : SetP) (e : EvP) : Rat2 := if TaskP s e then goalC s e (farV s e.fr e.to) else ⟨0, 0, 100⟩
theorem goalE_yes {s : SetP} {e : EvP} (h : TaskP s e) : goalE s e = goalC s e (farV s e.fr e.to) := if_pos h
theorem goalE_no {s : SetP} {e : EvP} (h : ¬ TaskP s e) : goalE s e = ⟨0, 0, 100⟩ := if_neg h
theorem mul_z1 (c d : Int) : mulR 0 0 c d = ⟨0, 0, 20⟩ := by
  unfold mulR
  rw [show mayB 0 0 = false by decide, Bool.false_and]
  rfl
theorem plus_z1 (c d : Int) : plusR 0 0 c d = ⟨0, 0, 20⟩ := by
  unfold plusR
  rw [show mayB 0 0 = false by decide, Bool.false_and]
  rfl
theorem plus_z2 (a b : Int) : plusR a b 0 0 = ⟨0, 0, 20⟩ := by rw [plusR_comm, plus_z1]
theorem rat2_ext {r : Rat2} {n d c : Int} (h1 : r.n = n) (h2 : r.d = d) (h3 : r.c = c) : r = ⟨n, d, c⟩ := by
  obtain ⟨a, b, e⟩ := r
  simp only at h1 h2 h3
  rw [h1, h2, h3]
theorem on_no {r : Rat2} {f : Int → Int → Rat2} (h : r.c ≠ 0) : onR r f = ⟨0, 0, r.c⟩ := if_neg h
theorem on_yes {r : Rat2} {f : Int → Int → Rat2} (h : r.c = 0) : onR r f = f r.n r.d := if_pos h
theorem fst_no {e c : Int} (h : e ≠ 0) : fstC e c = e := if_neg h
/-- The seven steps. -/
theorem goal_chain {D pn pd gn gd U fn fd un ud cn cd al : Int} {r1 r2 r3 r4 r5 r6 r7 : Rat2} (h1 : mulR pn pd D 1 = r1) (h2 : mulR r1.n r1.d gn gd = r2) (h3 : mulR un ud U 1 = r3) (h4 : plusR fn fd r3.n r3.d = r4) (h5 : mulR r4.n r4.d cn cd = r5)
    (h6 : plusR r2.n r2.d r5.n r5.d = r6) (h7 : mulR r6.n r6.d (mkN (100 + al) 100) (mkD (100 + al) 100) = r7) :
    goalR D pn pd gn gd U fn fd un ud cn cd al = ⟨r7.n, r7.d, fstC (fstC (fstC (fstC (fstC (fstC r1.c r2.c) r3.c) r4.c) r5.c) r6.c) r7.c⟩ := by
  rw [mulR_comm] at h1
  have z1 := mulR_z D 1 pn pd
  have z2 := mulR_z r1.n r1.d gn gd
  have z3 := mulR_z un ud U 1
  have z4 := plusR_z fn fd r3.n r3.d
  have z5 := mulR_z r4.n r4.d cn cd
  have z6 := plusR_z r2.n r2.d r5.n r5.d
  rw [h1] at z1
  rw [h2] at z2
  rw [h3] at z3
  rw [h4] at z4
  rw [h5] at z5
  rw [h6] at z6
  unfold goalR
  rw [h1]
  by_cases c6 : r6.c = 0
  rotate_left
  · have k7 : r7 = ⟨0, 0, 20⟩ := by rw [← h7, (z6 c6).1, (z6 c6).2, mul_z1]
    subst k7
    by_cases c1 : r1.c = 0
    · rw [on_yes c1, h2]
      by_cases c2 : r2.c = 0
      · rw [on_yes c2, h3]
        by_cases c3 : r3.c = 0
        · rw [on_yes c3, h4]
          by_cases c4 : r4.c = 0
          · rw [on_yes c4, h5]
            by_cases c5 : r5.c = 0
            · rw [on_yes c5, h6, on_no c6, c1, c2, c3, c4, c5]
              simp only [zero_fstC, fst_no c6]
            · rw [on_no c5, c1, c2, c3, c4]
              simp only [zero_fstC, fst_no c5]
          · rw [on_no c4, c1, c2, c3]
            simp only [zero_fstC, fst_no c4]
        · rw [on_no c3, c1, c2]
          simp only [zero_fstC, fst_no c3]
      · rw [on_no c2, c1]
        simp only [zero_fstC, fst_no c2]
    · rw [on_no c1]
      simp only [fst_no c1]
  · by_cases c2 : r2.c = 0
    rotate_left
    · rw [(z2 c2).1, (z2 c2).2, plus_z1] at h6
      rw [← h6] at c6
      cases c6
    by_cases c5 : r5.c = 0
    rotate_left
    · rw [(z5 c5).1, (z5 c5).2, plus_z2] at h6
      rw [← h6] at c6
      cases c6
    by_cases c4 : r4.c = 0
    rotate_left
    · rw [(z4 c4).1, (z4 c4).2, mul_z1] at h5
      rw [← h5] at c5
      cases c5
    by_cases c3 : r3.c = 0
    rotate_left
    · rw [(z3 c3).1, (z3 c3).2, plus_z2] at h4
      rw [← h4] at c4
      cases c4
    by_cases c1 : r1.c = 0
    rotate_left
    · rw [(z1 c1).1, (z1 c1).2, mul_z1] at h2
      rw [← h2] at c2
      cases c2
    rw [on_yes c1, h2, on_yes c2, h3, on_yes c3, h4, on_yes c4, h5, on_yes c5, h6, on_yes c6, h7]
    rw [c1, c2, c3, c4, c5, c6]
    simp only [zero_fstC]
theorem mk_int {m : Int} (h : 0 ≤ m ∧ m ≤ 2147483647) : mkR m 1 = ⟨m, 1, 0⟩ := by
  have hm : mayB m 1 = true := by
    unfold mayB
    simp only [decide_eq_true_eq]
    exact ⟨by omega, by omega, by omega, by omega, Int.gcd_one_right _⟩
  have := may_mk m 1
  rw [hm] at this
  simp only [Bool.true_eq, Bool.and_eq_true, decide_eq_true_eq] at this
  unfold mkR
  rw [this.1, this.2.1, this.2.2]
theorem mk_allow {al : Int} (h : 0 ≤ al ∧ al ≤ 100) : mkR (100 + al) 100 = ⟨mkN (100 + al) 100, mkD (100 + al) 100, 0⟩ := by
  unfold mkR
  rw [allow_mk h]
theorem far_bd {s : SetP} (hM : s.May) (a b : Int) : -1 ≤ farV s a b ∧ farV s a b ≤ 1010000 := by
  unfold farV
  split
  · have hw := hM.ways
    exact dist_le64 (edges_long hw.2) (edges_small hw.2) (n := s.ways.length) (by simp [edgesOf]) (by omega) _ _
  · omega
theorem mul64 (a b c d : Int) : In64 (mulR a b c d).n ∧ In64 (mulR a b c d).d := rat_i64 _ (mulR_may a b c d) (mulR_z a b c d)
theorem plus64 (a b c d : Int) : In64 (plusR a b c d).n ∧ In64 (plusR a b c d).d := rat_i64 _ (plusR_may a b c d) (plusR_z a b c d)
theorem share64 {n d : Int} (h : shareB n d = true) : In64 n ∧ In64 d := by
  have := share_bd h
  unfold In64
  omega
theorem row_in {P : List Int → Prop} {t : Rows2} (h : ∀ r ∈ t, P r) {k : Nat} (hk : k < t.length) : P (t.getD k []) := by
  refine h _ ?_
  simp [List.getD, hk]
theorem setS_of {w : World} {s : SetP} {cs : Array Value} (h : SetC w s cs) : SetS cs s.places s.elements.length s.classes.length s.gears.length s.rates.length := by
  refine ⟨h.size, h.one, ?_, ?_, ?_, ?_, ?_⟩
  all_goals
    obtain ⟨A1, A2, A3, A4, A5, A6, c1, c2, c3, c4, c5, c6, h1, h2⟩ := h
    unfold setV at h1
    injection h1 with h1
    subst h1
  · rfl
  · exact ⟨_, _, rfl⟩
  · exact ⟨_, _, rfl⟩
  · exact ⟨_, _, rfl⟩
  · exact ⟨_, _, rfl⟩
theorem setC_goal {w : World} {s : SetP} {cs : Array Value} (h : SetC w s cs) : ∃ A2 c2 A3 c3 A4 c4, cs[2]? = some (.int .i64 s.pn) ∧ cs[3]? = some (.int .i64 s.pd) ∧ cs[4]? = some (.slice A2 s.elements.length c2) ∧ cs[5]? = some (.slice A3 s.classes.length c3) ∧
    cs[6]? = some (.slice A4 s.gears.length c4) ∧ cs[7]? = some (.int .i64 s.allow) ∧ Tab 4 w A2 s.elements.length c2 s.elements ∧ Tab 2 w A3 s.classes.length c3 s.classes ∧ Tab 2 w A4 s.gears.length c4 s.gears := by
  obtain ⟨A1, A2, A3, A4, A5, A6, c1, c2, c3, c4, c5, c6, h1, h2⟩ := h
  unfold setV at h1
  injection h1 with h1
  subst h1
  exact ⟨A2, c2, A3, c3, A4, c4, rfl, rfl, rfl, rfl, rfl, rfl, h2.elements, h2.classes, h2.gears⟩
/-- What a task has. -/
structure TaskIn (s : SetP) (e : EvP) : Prop where
  frm : 0 ≤ e.fr ∧ e.fr < s.places
  too : 0 ≤ e.to ∧ e.to < s.places
  el : 0 ≤ e.el ∧ e.el < s.elements.length
  cl : 0 ≤ e.cl ∧ e.cl < s.classes.length
  ge : 0 ≤ e.ge ∧ e.ge < s.gears.length
  un : 0 ≤ e.un ∧ e.un ≤ 10000
theorem task_in {s : SetP} {e : EvP} (h : EvIn s e) (h3 : e.kd = 3) : TaskIn s e := by
  obtain ⟨hf, -, h, -⟩ := h
  obtain ⟨a, b, c, d, f, g⟩ := h h3
  exact ⟨⟨hf.fr.1, a⟩, ⟨hf.to.1, b⟩, ⟨hf.el.1, c⟩, ⟨hf.cl.1, d⟩, ⟨hf.ge.1, f⟩, ⟨hf.un.1, g⟩⟩
end Go.Proofs.YtpgncbhahocmbaaGreat
