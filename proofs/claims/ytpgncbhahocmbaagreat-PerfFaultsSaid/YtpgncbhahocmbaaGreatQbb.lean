/-
  The sum that goes on: its methods.
-/
import Derived.Test.YtpgncbhahocmbaaGreatQaw
import Derived.Test.YtpgncbhahocmbaaGreatQak
import Derived.Test.YtpgncbhahocmbaaGreatQad
import Derived.Test.YtpgncbhahocmbaaGreatQab
import Derived.Lib.Hide
import Derived.Deep.RegionHeld3
import Derived.Deep.DeepCutAuto
namespace Go.Proofs.YtpgncbhahocmbaaGreat
open Go.RowKit
set_option linter.unusedVariables false
set_option linter.unusedSimpArgs false
set_option maxRecDepth 20000

theorem skeep_c (n d e c e' : Int) (K : Nat) (w : World) (he : fstC e c = e') (hK : Has w K #[.int .i64 n, .int .i64 d, .int .i64 e]) :
    Calls Tryz.prog 67 #[.pointer (some ⟨K, 0, none⟩), .int .i64 c] w fun r w' =>
      r = .returned (.tuple #[]) ∧ Has w' K #[.int .i64 n, .int .i64 d, .int .i64 e'] ∧ Chg (fun b => b = K) w w' := by
  have hs := hK.size
  have k0 := hK.cell 2 rfl
  have kf := hK.frozen 2
  have HK := Lib.hid hK
  clear hK
  by_cases h0 : e = 0
  · subst h0
    rw [zero_fstC] at he
    subst he
    go_enter Tryz.func67, Tryz.ntmps67
    go_wp2
    go_end0
    exact ⟨rfl, HK.out.set 2 _, (Chg.refl (fun b => b = K) w).set (p := ⟨K, 2, none⟩) (.inr rfl) _⟩
  · have hE : e' = e := by rw [← he]; unfold fstC; rw [if_neg h0]
    subst hE
    go_enter Tryz.func67, Tryz.ntmps67
    go_wp2
    go_end0
    exact ⟨rfl, HK.out, Chg.refl _ _⟩
theorem sto_c (n d e p q c e' : Int) (K : Nat) (w : World) (he : fstC e c = e') (hK : Has w K #[.int .i64 n, .int .i64 d, .int .i64 e]) :
    Calls Tryz.prog 68 #[.pointer (some ⟨K, 0, none⟩), .agg #[.int .i64 p, .int .i64 q], .int .i64 c] w fun r w' =>
      r = .returned (.tuple #[]) ∧ Has w' K #[.int .i64 p, .int .i64 q, .int .i64 e'] ∧ Chg (fun b => b = K) w w' := by
  have hs := hK.size
  have HK0 := Lib.hid (hK.alloc (.cells #[.int .i64 p, .int .i64 q] 24))
  have HR0 : Hid (Has (w.alloc (.cells #[.int .i64 p, .int .i64 q] 24)) w.heap.size #[.int .i64 p, .int .i64 q]) := Has.new _ _ _ rfl
  have HC0 : Hid (Chg (fun b => b = K) w (w.alloc (.cells #[.int .i64 p, .int .i64 q] 24))) := (Chg.refl _ _).alloc _
  have HE := Lib.hid he
  clear hK he
  go_enter Tryz.func68, Tryz.ntmps68
  go_wp2_with fail
  refine (skeep_c n d e c e' K _ HE.out HK0.out).mono ?_
  rintro e_r w1 ⟨rfl, HK1, hc1⟩
  obtain ⟨c0, c1, -, -⟩ := (HR0.out.chg (by omega) hc1).two
  have z0 := cell_lt c0
  have k0 := HK1.cell 0 rfl
  have k1 := HK1.cell 1 rfl
  have f0 := HK1.frozen 0
  have f1 := HK1.frozen 1
  have zk := cell_lt k0
  have HC1 := Lib.hid (HC0.out.on (Kept.less hc1 fun i hi => hi))
  have HKK := Lib.hid HK1
  clear hc1 HK1 HK0 HR0 HC0
  go_wp2
  go_end0
  exact ⟨rfl, (HKK.out.set 0 _).set 1 _, (HC1.out.set (p := ⟨K, 0, none⟩) (.inr rfl) _).set (p := ⟨K, 1, none⟩) (.inr rfl) _⟩
/-- The sum that goes on, by ratios one by one. -/
def addR : Rat2 → List (Int × Int) → Rat2
  | s, [] => s
  | s, x :: t => addR ⟨(plusR s.n s.d x.1 x.2).n, (plusR s.n s.d x.1 x.2).d, fstC s.c (plusR s.n s.d x.1 x.2).c⟩ t
theorem addR_append : ∀ (l m : List (Int × Int)) (s : Rat2), addR s (l ++ m) = addR (addR s l) m
  | [], m, s => rfl
  | x :: l, m, s => by rw [List.cons_append]; simp only [addR]; exact addR_append l m _
theorem addR_snoc (s : Rat2) (xs : List (Int × Int)) (k : Nat) (h : k < xs.length) (n d e : Int) (hs : addR s (xs.take k) = ⟨n, d, e⟩) :
    addR s (xs.take (k + 1)) = ⟨(plusR n d (xs.getD k (0, 0)).1 (xs.getD k (0, 0)).2).n, (plusR n d (xs.getD k (0, 0)).1 (xs.getD k (0, 0)).2).d, fstC e (plusR n d (xs.getD k (0, 0)).1 (xs.getD k (0, 0)).2).c⟩ := by
  rw [List.take_succ_eq_append_getElem h, addR_append, hs]
  simp [addR, List.getD, h]
theorem addR_bad : ∀ (l : List (Int × Int)) (s : Rat2), s.c ≠ 0 → (addR s l).c = s.c
  | [], s, h => rfl
  | x :: l, s, h => by
    simp only [addR]
    rw [addR_bad l _ (by simp only [fstC, if_neg h]; exact h)]
    simp only [fstC, if_neg h]
/-- It is the sum, or has the sum's error. -/
theorem addR_go : ∀ (l : List (Int × Int)) (s : Rat2), s.c = 0 → (addR s l).c = (sumRGo s l).c ∧ ((sumRGo s l).c = 0 → addR s l = sumRGo s l)
  | [], s, h => ⟨rfl, fun _ => rfl⟩
  | x :: l, s, h => by
    simp only [addR, sumRGo]
    rw [if_pos (by simpa using h)]
    have e : fstC s.c (plusR s.n s.d x.1 x.2).c = (plusR s.n s.d x.1 x.2).c := by rw [h, zero_fstC]
    rw [e]
    by_cases hc : (plusR s.n s.d x.1 x.2).c = 0
    · exact addR_go l _ hc
    · rw [addR_bad l _ hc, sumRGo_bad hc]
      exact ⟨rfl, fun h0 => absurd h0 hc⟩
theorem Rats.chg {w w' : World} {A : Option Addr} {xs : List (Int × Int)} {M : Nat → Prop} (h : Rats w A xs) (hM : ∀ ad, A = some ad → ¬ M ad.block) (k : Chg M w w') : Rats w' A xs := by
  intro i hi
  obtain ⟨b, off, e, h1, h2, h3⟩ := h i hi
  have hb : w'.heap[b]? = w.heap[b]? := Kept.block k b ⟨cell_lt h1, hM _ e⟩
  exact ⟨b, off, e, (World.cell?_of_block hb).trans h1, (World.cell?_of_block hb).trans h2, h3⟩
theorem plus64' (a b c d : Int) : (-9223372036854775808 ≤ (plusR a b c d).n ∧ (plusR a b c d).n ≤ 9223372036854775807) ∧ (-9223372036854775808 ≤ (plusR a b c d).d ∧ (plusR a b c d).d ≤ 9223372036854775807) := rat_i64 _ (plusR_may a b c d) (plusR_z a b c d)
theorem psum_two (a b c d : Int) (w : World) (t : TypeId) (s : Nat) (hs : w.heap.size = s) (ha : -9223372036854775808 ≤ a ∧ a ≤ 9223372036854775807) (hb : -9223372036854775808 ≤ b ∧ b ≤ 9223372036854775807) (hc : -9223372036854775808 ≤ c ∧ c ≤ 9223372036854775807) (hd : -9223372036854775808 ≤ d ∧ d ≤ 9223372036854775807) :
    Calls Tryz.prog 25 #[.slice (some ⟨s, 0, none⟩) 2 2] (w.alloc (.cells #[.int .i64 a, .int .i64 b, .int .i64 c, .int .i64 d] t)) fun e w' =>
      e = .returned (.tuple #[.agg #[.int .i64 (plusR a b c d).n, .int .i64 (plusR a b c d).d], .int .i64 (plusR a b c d).c]) ∧ Below w.heap.size w w' := by
  subst hs
  have h := ratsum_any (some ⟨w.heap.size, 0, none⟩) 2 [(a, b), (c, d)] (w.alloc (.cells #[.int .i64 a, .int .i64 b, .int .i64 c, .int .i64 d] t))
    (rats_new w [(a, b), (c, d)] t _ rfl (by simp; omega)) (by simp)
  refine h.mono ?_
  rintro e w' ⟨rfl, hb⟩
  exact ⟨ret_rr (sumR_two a b c d), bel_on (bel_alloc (Below.refl _ _) _) hb⟩
set_option maxHeartbeats 2000000 in
theorem sby_minus (n d m e0 e1 e2 : Int) (M X : Rat2) (gt : Nat) (w : World) (hm : -9223372036854775808 ≤ m ∧ m ≤ 9223372036854775807) (hM : mkR m 1 = M) (hX : minusR n d M.n M.d = X) (h1 : fstC e0 M.c = e1) (h2 : fstC e1 X.c = e2)
    (hn : -9223372036854775808 ≤ n ∧ n ≤ 9223372036854775807) (hd : -9223372036854775808 ≤ d ∧ d ≤ 9223372036854775807) (hK : Has w gt #[.int .i64 n, .int .i64 d, .int .i64 e0]) :
    Calls Tryz.prog 35 #[.pointer (some ⟨gt, 0, none⟩), .func (.func 22) #[] #[], .int .i64 m] w fun r w' =>
      r = .returned (.tuple #[]) ∧ Has w' gt #[.int .i64 X.n, .int .i64 X.d, .int .i64 e2] ∧ Chg (fun b => b = gt) w w' := by
  have hs := hK.size
  have HK := Lib.hid hK
  have HM := Lib.hid hM
  have H1 := Lib.hid h1
  have H2 := Lib.hid h2
  have HPQ := Lib.hid (show (-9223372036854775808 ≤ M.n ∧ M.n ≤ 9223372036854775807) ∧ (-9223372036854775808 ≤ M.d ∧ M.d ≤ 9223372036854775807) by rw [← hM]; exact rat_i64 _ (mkR_may m 1) (mkR_z m 1))
  have HX := Lib.hid (show minusR n d M.n M.d = X from hX)
  have HMK : Hid (∀ W : World, Calls Tryz.prog 21 #[.int .i64 m, .int .i64 1] W fun e w' => e = .returned (.tuple #[.agg #[.int .i64 M.n, .int .i64 M.d], .int .i64 M.c]) ∧ Below W.heap.size W w') := fun W => by
    rw [← hM]
    exact make_any m 1 W hm.1 hm.2 (by omega) (by omega)
  obtain ⟨p, q, c⟩ := M
  simp only at HX HMK HPQ H1
  clear hK hM h1 h2 hX HM
  go_enter Tryz.func35, Tryz.ntmps35
  go_wp2_with fail
  refine (HMK.out _).mono ?_
  rintro e_r w1 ⟨rfl, b1⟩
  have HKa := HK.out.below b1
  go_upto_region 1 with fail
  have HKb := Lib.hid (HKa.alloc (.cells #[.int .i64 p, .int .i64 q] 24))
  have HR1 : Hid (Has (w1.alloc (.cells #[.int .i64 p, .int .i64 q] 24)) w1.heap.size #[.int .i64 p, .int .i64 q]) := Has.new _ _ _ rfl
  have HC1 : Hid (Chg (fun b => b = gt) w (w1.alloc (.cells #[.int .i64 p, .int .i64 q] 24))) := ((Chg.of_below b1).alloc _)
  have hgt : gt < w1.heap.size := HKa.size
  generalize w1.alloc (.cells #[.int .i64 p, .int .i64 q] 24) = wa at *
  obtain ⟨gr, hgr⟩ : ∃ gr, w1.heap.size = gr := ⟨_, rfl⟩
  rw [hgr] at HR1 hgt
  rw [hgr]
  clear HKa HK b1 HMK hgr
  go_wp2_with fail
  refine (skeep_c n d e0 c e1 gt _ H1.out HKb.out).mono ?_
  rintro e_r wc ⟨rfl, hk2, hc2⟩
  have HK2 := Lib.hid hk2
  have HR := Lib.hid (HR1.out.chg (by omega) hc2)
  have HC2 := Lib.hid (HC1.out.on hc2)
  clear hk2 hc2 HKb HR1 HC1 H1
  go_wp2_with fail
  refine wp_region_noPanic ?_
  refine wp_region_held_drew (S := fun w' => Chg (fun b => b = gt) wc w') (by kernel_rfl) (Chg.of_below (below_drew (Below.refl _ _))) (fun hHeld => ?_)
  refine wpAnyH_take (i := 0) (oi := ⟨some 16, _, _, _, _, _⟩) (v := ?_) rfl (by kernel_rfl) (by kernel_rfl) (by kernel_rfl) (fun _ _ _ h => h) (Or.inl ⟨by rfl, ?_⟩) hHeld ?_
  rotate_left
  · intro ww hSw
    (try dsimp only at hSw)
    go_simp
    (try with_reducible rfl)
  simp only [Act.put, List.setIfInBounds_toArray, List.set_cons_zero, List.set_cons_succ]
  refine wpAnyH_take (i := 1) (oi := ⟨some 17, _, _, _, _, _⟩) (v := ?_) rfl (by kernel_rfl) (by kernel_rfl) (by kernel_rfl) (fun _ _ _ h => h) (Or.inl ⟨by rfl, ?_⟩) hHeld ?_
  rotate_left
  · intro ww hSw
    (try dsimp only at hSw)
    go_simp
    (try with_reducible rfl)
  simp only [Act.put, List.setIfInBounds_toArray, List.set_cons_zero, List.set_cons_succ]
  refine wpAnyH_take (i := 2) (oi := ⟨some 18, _, _, _, _, _⟩) (v := ?_) rfl (by kernel_rfl) (by kernel_rfl) (by kernel_rfl) (fun _ _ _ h => h) (Or.inl ⟨by rfl, ?_⟩) hHeld ?_
  rotate_left
  · intro ww hSw
    (try dsimp only at hSw)
    go_simp
    (try with_reducible rfl)
  simp only [Act.put, List.setIfInBounds_toArray, List.set_cons_zero, List.set_cons_succ]
  refine wpAnyH_take (i := 6) (oi := ⟨some 22, _, _, _, _, _⟩) (v := .agg #[.int .i64 p, .int .i64 q]) rfl (by kernel_rfl) (by kernel_rfl) (by kernel_rfl) (fun _ _ _ h => h) (Or.inl ⟨by rfl, ?_⟩) hHeld ?_
  · intro ww hSw
    (try dsimp only at hSw)
    obtain ⟨c0, c1, -, -⟩ := (HR.out.chg (by omega) hSw).two
    have z0 := cell_lt c0
    go_simp
  simp only [Act.put, List.setIfInBounds_toArray, List.set_cons_zero, List.set_cons_succ]
  refine wpAnyH_take (i := 3) (oi := ⟨some 19, _, _, _, _, _⟩) (v := ?_) rfl (by kernel_rfl) (by kernel_rfl) (by kernel_rfl) (fun _ _ _ h => h) (Or.inl ⟨by rfl, ?_⟩) hHeld ?_
  rotate_left
  · intro ww hSw
    (try dsimp only at hSw)
    go_simp
    (try with_reducible rfl)
  simp only [Act.put, List.setIfInBounds_toArray, List.set_cons_zero, List.set_cons_succ]
  refine wpAnyH_take (i := 4) (oi := ⟨some 20, _, _, _, _, _⟩) (v := ?_) rfl (by kernel_rfl) (by kernel_rfl) (by kernel_rfl) (fun _ _ _ h => h) (Or.inl ⟨by rfl, ?_⟩) hHeld ?_
  rotate_left
  · intro ww hSw
    (try dsimp only at hSw)
    go_simp
    (try with_reducible rfl)
  simp only [Act.put, List.setIfInBounds_toArray, List.set_cons_zero, List.set_cons_succ]
  have k0 := HK2.out.drew.cell 0 rfl
  have k1 := HK2.out.drew.cell 1 rfl
  have kz := cell_lt k0
  refine wpAnyH_ready (rs := [5]) (by kernel_rfl) (by simp) ?_
  refine AllReadyH.cons (o := ⟨some 21, _, _, _, _, _⟩) rfl (fun K hK => ?_) AllReadyH.nil
  go_simp
  refine hK.out _ _ ?_ (fun hHeld => ?_)
  · (try dsimp only)
    exact hHeld
  clear hK K
  (try simp only [Act.put, List.setIfInBounds_toArray, List.set_cons_zero, List.set_cons_succ])
  refine wpAnyH_ready (rs := [7]) (by kernel_rfl) (by simp) ?_
  refine AllReadyH.cons (o := ⟨some 23, _, _, _, _, _⟩) rfl (fun K hK => ?_) AllReadyH.nil
  go_simp
  go_at_call 22
  refine (qminus_any n d p q _ hn hd HPQ.out.1 HPQ.out.2).mono ?_
  rintro e_r w7 ⟨rfl, hb7⟩
  rw [HX.out]
  have HK7 := Lib.hid (HK2.out.drew.below hb7)
  have hc7 := hHeld.onB hb7
  clear hb7 k0 k1 kz
  go_wp2_with fail
  refine hK.out _ _ ?_ (fun hHeld => ?_)
  · (try dsimp only)
    exact hc7
  clear hK K
  (try simp only [Act.put, List.setIfInBounds_toArray, List.set_cons_zero, List.set_cons_succ])
  refine wpAnyH_take (i := 8) (oi := ⟨some 24, _, _, _, _, _⟩) (v := ?_) rfl (by kernel_rfl) (by kernel_rfl) (by kernel_rfl) (fun _ _ _ h => h) (Or.inl ⟨by rfl, ?_⟩) hHeld ?_
  rotate_left
  · intro ww hSw
    (try dsimp only at hSw)
    go_simp
    (try with_reducible rfl)
  simp only [Act.put, List.setIfInBounds_toArray, List.set_cons_zero, List.set_cons_succ]
  refine wpAnyH_take (i := 9) (oi := ⟨some 25, _, _, _, _, _⟩) (v := ?_) rfl (by kernel_rfl) (by kernel_rfl) (by kernel_rfl) (fun _ _ _ h => h) (Or.inl ⟨by rfl, ?_⟩) hHeld ?_
  rotate_left
  · intro ww hSw
    (try dsimp only at hSw)
    go_simp
    (try with_reducible rfl)
  simp only [Act.put, List.setIfInBounds_toArray, List.set_cons_zero, List.set_cons_succ]
  refine wpAnyH_ready (rs := [10]) (by kernel_rfl) (by simp) ?_
  refine AllReadyH.cons (o := ⟨some 26, _, _, _, _, _⟩) rfl (fun K hK => ?_) AllReadyH.nil
  go_simp
  go_at_call 68
  refine (sto_c n d e1 X.n X.d X.c e2 gt _ H2.out HK7.out).mono ?_
  rintro e_r w8 ⟨rfl, HK8, hc8⟩
  have hc9 := Chg.on hc7 hc8
  have HK9 := Lib.hid HK8
  clear hc8 HK8
  go_wp2_with fail
  refine hK.out _ _ ?_ (fun hHeld => ?_)
  · (try dsimp only)
    exact hc9
  clear hK K
  (try simp only [Act.put, List.setIfInBounds_toArray, List.set_cons_zero, List.set_cons_succ])
  refine wpAnyH_done (by kernel_rfl) ?_ _
  refine NoPanic.normal ?_
  have HE := Lib.hid (HC2.out.on hc9)
  clear hc9 hc7 hHeld HC2 HK7
  go_wp2
  go_end0
  exact ⟨rfl, HK9.out, HE.out⟩
set_option maxHeartbeats 2000000 in
theorem sby_div (n d m e0 e1 e2 : Int) (M X : Rat2) (gt : Nat) (w : World) (hm : -9223372036854775808 ≤ m ∧ m ≤ 9223372036854775807) (hM : mkR m 1 = M) (hX : divR n d M.n M.d = X) (h1 : fstC e0 M.c = e1) (h2 : fstC e1 X.c = e2)
    (hn : -9223372036854775808 ≤ n ∧ n ≤ 9223372036854775807) (hd : -9223372036854775808 ≤ d ∧ d ≤ 9223372036854775807) (hK : Has w gt #[.int .i64 n, .int .i64 d, .int .i64 e0]) :
    Calls Tryz.prog 35 #[.pointer (some ⟨gt, 0, none⟩), .func (.func 37) #[] #[], .int .i64 m] w fun r w' =>
      r = .returned (.tuple #[]) ∧ Has w' gt #[.int .i64 X.n, .int .i64 X.d, .int .i64 e2] ∧ Chg (fun b => b = gt) w w' := by
  have hs := hK.size
  have HK := Lib.hid hK
  have HM := Lib.hid hM
  have H1 := Lib.hid h1
  have H2 := Lib.hid h2
  have HPQ := Lib.hid (show (-9223372036854775808 ≤ M.n ∧ M.n ≤ 9223372036854775807) ∧ (-9223372036854775808 ≤ M.d ∧ M.d ≤ 9223372036854775807) by rw [← hM]; exact rat_i64 _ (mkR_may m 1) (mkR_z m 1))
  have HX := Lib.hid (show divR n d M.n M.d = X from hX)
  have HMK : Hid (∀ W : World, Calls Tryz.prog 21 #[.int .i64 m, .int .i64 1] W fun e w' => e = .returned (.tuple #[.agg #[.int .i64 M.n, .int .i64 M.d], .int .i64 M.c]) ∧ Below W.heap.size W w') := fun W => by
    rw [← hM]
    exact make_any m 1 W hm.1 hm.2 (by omega) (by omega)
  obtain ⟨p, q, c⟩ := M
  simp only at HX HMK HPQ H1
  clear hK hM h1 h2 hX HM
  go_enter Tryz.func35, Tryz.ntmps35
  go_wp2_with fail
  refine (HMK.out _).mono ?_
  rintro e_r w1 ⟨rfl, b1⟩
  have HKa := HK.out.below b1
  go_upto_region 1 with fail
  have HKb := Lib.hid (HKa.alloc (.cells #[.int .i64 p, .int .i64 q] 24))
  have HR1 : Hid (Has (w1.alloc (.cells #[.int .i64 p, .int .i64 q] 24)) w1.heap.size #[.int .i64 p, .int .i64 q]) := Has.new _ _ _ rfl
  have HC1 : Hid (Chg (fun b => b = gt) w (w1.alloc (.cells #[.int .i64 p, .int .i64 q] 24))) := ((Chg.of_below b1).alloc _)
  have hgt : gt < w1.heap.size := HKa.size
  generalize w1.alloc (.cells #[.int .i64 p, .int .i64 q] 24) = wa at *
  obtain ⟨gr, hgr⟩ : ∃ gr, w1.heap.size = gr := ⟨_, rfl⟩
  rw [hgr] at HR1 hgt
  rw [hgr]
  clear HKa HK b1 HMK hgr
  go_wp2_with fail
  refine (skeep_c n d e0 c e1 gt _ H1.out HKb.out).mono ?_
  rintro e_r wc ⟨rfl, hk2, hc2⟩
  have HK2 := Lib.hid hk2
  have HR := Lib.hid (HR1.out.chg (by omega) hc2)
  have HC2 := Lib.hid (HC1.out.on hc2)
  clear hk2 hc2 HKb HR1 HC1 H1
  go_wp2_with fail
  refine wp_region_noPanic ?_
  refine wp_region_held_drew (S := fun w' => Chg (fun b => b = gt) wc w') (by kernel_rfl) (Chg.of_below (below_drew (Below.refl _ _))) (fun hHeld => ?_)
  refine wpAnyH_take (i := 0) (oi := ⟨some 16, _, _, _, _, _⟩) (v := ?_) rfl (by kernel_rfl) (by kernel_rfl) (by kernel_rfl) (fun _ _ _ h => h) (Or.inl ⟨by rfl, ?_⟩) hHeld ?_
  rotate_left
  · intro ww hSw
    (try dsimp only at hSw)
    go_simp
    (try with_reducible rfl)
  simp only [Act.put, List.setIfInBounds_toArray, List.set_cons_zero, List.set_cons_succ]
  refine wpAnyH_take (i := 1) (oi := ⟨some 17, _, _, _, _, _⟩) (v := ?_) rfl (by kernel_rfl) (by kernel_rfl) (by kernel_rfl) (fun _ _ _ h => h) (Or.inl ⟨by rfl, ?_⟩) hHeld ?_
  rotate_left
  · intro ww hSw
    (try dsimp only at hSw)
    go_simp
    (try with_reducible rfl)
  simp only [Act.put, List.setIfInBounds_toArray, List.set_cons_zero, List.set_cons_succ]
  refine wpAnyH_take (i := 2) (oi := ⟨some 18, _, _, _, _, _⟩) (v := ?_) rfl (by kernel_rfl) (by kernel_rfl) (by kernel_rfl) (fun _ _ _ h => h) (Or.inl ⟨by rfl, ?_⟩) hHeld ?_
  rotate_left
  · intro ww hSw
    (try dsimp only at hSw)
    go_simp
    (try with_reducible rfl)
  simp only [Act.put, List.setIfInBounds_toArray, List.set_cons_zero, List.set_cons_succ]
  refine wpAnyH_take (i := 6) (oi := ⟨some 22, _, _, _, _, _⟩) (v := .agg #[.int .i64 p, .int .i64 q]) rfl (by kernel_rfl) (by kernel_rfl) (by kernel_rfl) (fun _ _ _ h => h) (Or.inl ⟨by rfl, ?_⟩) hHeld ?_
  · intro ww hSw
    (try dsimp only at hSw)
    obtain ⟨c0, c1, -, -⟩ := (HR.out.chg (by omega) hSw).two
    have z0 := cell_lt c0
    go_simp
  simp only [Act.put, List.setIfInBounds_toArray, List.set_cons_zero, List.set_cons_succ]
  refine wpAnyH_take (i := 3) (oi := ⟨some 19, _, _, _, _, _⟩) (v := ?_) rfl (by kernel_rfl) (by kernel_rfl) (by kernel_rfl) (fun _ _ _ h => h) (Or.inl ⟨by rfl, ?_⟩) hHeld ?_
  rotate_left
  · intro ww hSw
    (try dsimp only at hSw)
    go_simp
    (try with_reducible rfl)
  simp only [Act.put, List.setIfInBounds_toArray, List.set_cons_zero, List.set_cons_succ]
  refine wpAnyH_take (i := 4) (oi := ⟨some 20, _, _, _, _, _⟩) (v := ?_) rfl (by kernel_rfl) (by kernel_rfl) (by kernel_rfl) (fun _ _ _ h => h) (Or.inl ⟨by rfl, ?_⟩) hHeld ?_
  rotate_left
  · intro ww hSw
    (try dsimp only at hSw)
    go_simp
    (try with_reducible rfl)
  simp only [Act.put, List.setIfInBounds_toArray, List.set_cons_zero, List.set_cons_succ]
  have k0 := HK2.out.drew.cell 0 rfl
  have k1 := HK2.out.drew.cell 1 rfl
  have kz := cell_lt k0
  refine wpAnyH_ready (rs := [5]) (by kernel_rfl) (by simp) ?_
  refine AllReadyH.cons (o := ⟨some 21, _, _, _, _, _⟩) rfl (fun K hK => ?_) AllReadyH.nil
  go_simp
  refine hK.out _ _ ?_ (fun hHeld => ?_)
  · (try dsimp only)
    exact hHeld
  clear hK K
  (try simp only [Act.put, List.setIfInBounds_toArray, List.set_cons_zero, List.set_cons_succ])
  refine wpAnyH_ready (rs := [7]) (by kernel_rfl) (by simp) ?_
  refine AllReadyH.cons (o := ⟨some 23, _, _, _, _, _⟩) rfl (fun K hK => ?_) AllReadyH.nil
  go_simp
  go_at_call 37
  refine (qdiv_any n d p q _ hn hd HPQ.out.1 HPQ.out.2).mono ?_
  rintro e_r w7 ⟨rfl, hb7⟩
  rw [HX.out]
  have HK7 := Lib.hid (HK2.out.drew.below hb7)
  have hc7 := hHeld.onB hb7
  clear hb7 k0 k1 kz
  go_wp2_with fail
  refine hK.out _ _ ?_ (fun hHeld => ?_)
  · (try dsimp only)
    exact hc7
  clear hK K
  (try simp only [Act.put, List.setIfInBounds_toArray, List.set_cons_zero, List.set_cons_succ])
  refine wpAnyH_take (i := 8) (oi := ⟨some 24, _, _, _, _, _⟩) (v := ?_) rfl (by kernel_rfl) (by kernel_rfl) (by kernel_rfl) (fun _ _ _ h => h) (Or.inl ⟨by rfl, ?_⟩) hHeld ?_
  rotate_left
  · intro ww hSw
    (try dsimp only at hSw)
    go_simp
    (try with_reducible rfl)
  simp only [Act.put, List.setIfInBounds_toArray, List.set_cons_zero, List.set_cons_succ]
  refine wpAnyH_take (i := 9) (oi := ⟨some 25, _, _, _, _, _⟩) (v := ?_) rfl (by kernel_rfl) (by kernel_rfl) (by kernel_rfl) (fun _ _ _ h => h) (Or.inl ⟨by rfl, ?_⟩) hHeld ?_
  rotate_left
  · intro ww hSw
    (try dsimp only at hSw)
    go_simp
    (try with_reducible rfl)
  simp only [Act.put, List.setIfInBounds_toArray, List.set_cons_zero, List.set_cons_succ]
  refine wpAnyH_ready (rs := [10]) (by kernel_rfl) (by simp) ?_
  refine AllReadyH.cons (o := ⟨some 26, _, _, _, _, _⟩) rfl (fun K hK => ?_) AllReadyH.nil
  go_simp
  go_at_call 68
  refine (sto_c n d e1 X.n X.d X.c e2 gt _ H2.out HK7.out).mono ?_
  rintro e_r w8 ⟨rfl, HK8, hc8⟩
  have hc9 := Chg.on hc7 hc8
  have HK9 := Lib.hid HK8
  clear hc8 HK8
  go_wp2_with fail
  refine hK.out _ _ ?_ (fun hHeld => ?_)
  · (try dsimp only)
    exact hc9
  clear hK K
  (try simp only [Act.put, List.setIfInBounds_toArray, List.set_cons_zero, List.set_cons_succ])
  refine wpAnyH_done (by kernel_rfl) ?_ _
  refine NoPanic.normal ?_
  have HE := Lib.hid (HC2.out.on hc9)
  clear hc9 hc7 hHeld HC2 HK7
  go_wp2
  go_end0
  exact ⟨rfl, HK9.out, HE.out⟩
set_option maxHeartbeats 4000000 in
theorem sadd_c (A : Option Addr) (cap : Nat) (xs : List (Int × Int)) (n0 d0 e0 c : Int) (gt : Nat) (w : World) (hn0 : -9223372036854775808 ≤ n0 ∧ n0 ≤ 9223372036854775807) (hd0 : -9223372036854775808 ≤ d0 ∧ d0 ≤ 9223372036854775807)
    (hK : Has w gt #[.int .i64 n0, .int .i64 d0, .int .i64 e0]) (hx : Rats w A xs) (hl : xs.length ≤ 1000) (hne : ∀ ad, A = some ad → ad.block ≠ gt) (X : Rat2) (hX : addR ⟨n0, d0, fstC e0 c⟩ xs = X) :
    Calls Tryz.prog 33 #[.pointer (some ⟨gt, 0, none⟩), .slice A xs.length cap, .int .i64 c] w fun r w' =>
      r = .returned (.tuple #[]) ∧ Has w' gt #[.int .i64 X.n, .int .i64 X.d, .int .i64 X.c] ∧ Chg (fun b => b = gt) w w' := by
  have HK := Lib.hid hK
  have HXX := Lib.hid hX
  have HRX := Lib.hid hx
  have HNE := Lib.hid hne
  have hgt := hK.size
  clear hK hX hx hne
  go_enter Tryz.func33, Tryz.ntmps33
  go_wp2_with fail
  refine (skeep_c n0 d0 e0 c _ gt _ rfl HK.out).mono ?_
  rintro e_r w1 ⟨rfl, hk1, hc1⟩
  have HR1 := Lib.hid (HRX.out.chg (M := fun b => b = gt) (fun ad ha => HNE.out ad ha) hc1)
  have HC1 := Lib.hid hc1
  have HK1 := Lib.hid hk1
  have hg1 := hk1.size
  clear hk1 hc1 HK HRX
  go_wp2
  go_loopw [13] (fun i wr => ∃ (k : Nat) (n d e : Int), k ≤ xs.length ∧ i = .int .i64 k ∧ (-9223372036854775808 ≤ n ∧ n ≤ 9223372036854775807) ∧ (-9223372036854775808 ≤ d ∧ d ≤ 9223372036854775807) ∧ Hid (addR ⟨n0, d0, fstC e0 c⟩ (xs.take k) = ⟨n, d, e⟩) ∧ Hid (Has wr gt #[.int .i64 n, .int .i64 d, .int .i64 e]) ∧ Hid (Chg (fun b => b = gt) w1 wr)) (fun i _ => xs.length - (intOf i).toNat)
  case atStart => exact ⟨0, n0, d0, fstC e0 c, Nat.zero_le _, rfl, hn0, hd0, rfl, HK1.out, Chg.refl _ _⟩
  case round =>
    clear HK1
    obtain ⟨k, n, d, e, hk, rfl, hn, hd, HS, HKr, HCr⟩ := hrel
    by_cases hlt : k < xs.length
    · have HRr := HR1.out.chg (M := fun b => b = gt) (fun ad ha => HNE.out ad ha) HCr.out
      obtain ⟨b, off, rfl, c1, c2, b1, b2, b3, b4⟩ := HRr k hlt
      have S1 := Lib.hid (addR_snoc ⟨n0, d0, fstC e0 c⟩ xs k hlt n d e HS.out)
      generalize (xs.getD k (0, 0)).1 = p at *
      generalize (xs.getD k (0, 0)).2 = q at *
      have z1 := cell_lt c1
      have HPQ := Lib.hid (And.intro (And.intro b1 b2) (And.intro b3 b4))
      clear HRr b1 b2 b3 b4 HS
      go_upto_region 4 with fail
      have HR : Hid (Has (wr.alloc (.cells #[.int .i64 p, .int .i64 q] 24)) wr.heap.size #[.int .i64 p, .int .i64 q]) := Has.new _ _ _ rfl
      have HK2 := Lib.hid (HKr.out.alloc (.cells #[.int .i64 p, .int .i64 q] 24))
      have HC2 := Lib.hid (HCr.out.alloc (.cells #[.int .i64 p, .int .i64 q] 24))
      have hgr := HKr.out.size
      generalize wr.alloc (.cells #[.int .i64 p, .int .i64 q] 24) = wc at *
      obtain ⟨gr, hgr'⟩ : ∃ gr, wr.heap.size = gr := ⟨_, rfl⟩
      rw [hgr'] at HR hgr
      rw [hgr']
      clear c1 c2 z1 HKr HCr hgr'
      go_wp2_with fail
      refine wp_region_noPanic ?_
      refine wp_region_held_drew (S := fun w' => Chg (fun b => b = gt) wc w') (by kernel_rfl) (Chg.of_below (below_drew (Below.refl _ _))) (fun hHeld => ?_)
      refine wpAnyH_take (i := 0) (oi := ⟨some 17, _, _, _, _, _⟩) (v := ?_) rfl (by kernel_rfl) (by kernel_rfl) (by kernel_rfl) (fun _ _ _ h => h) (Or.inl ⟨by rfl, ?_⟩) hHeld ?_
      rotate_left
      · intro ww hSw
        (try dsimp only at hSw)
        go_simp
        (try with_reducible rfl)
      simp only [Act.put, List.setIfInBounds_toArray, List.set_cons_zero, List.set_cons_succ]
      refine wpAnyH_take (i := 1) (oi := ⟨some 18, _, _, _, _, _⟩) (v := ?_) rfl (by kernel_rfl) (by kernel_rfl) (by kernel_rfl) (fun _ _ _ h => h) (Or.inl ⟨by rfl, ?_⟩) hHeld ?_
      rotate_left
      · intro ww hSw
        (try dsimp only at hSw)
        go_simp
        (try with_reducible rfl)
      simp only [Act.put, List.setIfInBounds_toArray, List.set_cons_zero, List.set_cons_succ]
      refine wpAnyH_take (i := 5) (oi := ⟨some 22, _, _, _, _, _⟩) (v := .agg #[.int .i64 p, .int .i64 q]) rfl (by kernel_rfl) (by kernel_rfl) (by kernel_rfl) (fun _ _ _ h => h) (Or.inl ⟨by rfl, ?_⟩) hHeld ?_
      · intro ww hSw
        (try dsimp only at hSw)
        obtain ⟨c0, c1, -, -⟩ := (HR.out.chg (by omega) hSw).two
        have z0 := cell_lt c0
        go_simp
      simp only [Act.put, List.setIfInBounds_toArray, List.set_cons_zero, List.set_cons_succ]
      refine wpAnyH_take (i := 2) (oi := ⟨some 19, _, _, _, _, _⟩) (v := ?_) rfl (by kernel_rfl) (by kernel_rfl) (by kernel_rfl) (fun _ _ _ h => h) (Or.inl ⟨by rfl, ?_⟩) hHeld ?_
      rotate_left
      · intro ww hSw
        (try dsimp only at hSw)
        go_simp
        (try with_reducible rfl)
      simp only [Act.put, List.setIfInBounds_toArray, List.set_cons_zero, List.set_cons_succ]
      refine wpAnyH_take (i := 3) (oi := ⟨some 20, _, _, _, _, _⟩) (v := ?_) rfl (by kernel_rfl) (by kernel_rfl) (by kernel_rfl) (fun _ _ _ h => h) (Or.inl ⟨by rfl, ?_⟩) hHeld ?_
      rotate_left
      · intro ww hSw
        (try dsimp only at hSw)
        go_simp
        (try with_reducible rfl)
      simp only [Act.put, List.setIfInBounds_toArray, List.set_cons_zero, List.set_cons_succ]
      have k0 := HK2.out.drew.cell 0 rfl
      have k1 := HK2.out.drew.cell 1 rfl
      have kz := cell_lt k0
      refine wpAnyH_ready (rs := [4]) (by kernel_rfl) (by simp) ?_
      refine AllReadyH.cons (o := ⟨some 21, _, _, _, _, _⟩) rfl (fun K hK => ?_) AllReadyH.nil
      go_simp
      refine hK.out _ _ ?_ (fun hHeld => ?_)
      · (try dsimp only)
        exact hHeld
      clear hK K
      (try simp only [Act.put, List.setIfInBounds_toArray, List.set_cons_zero, List.set_cons_succ])
      have HKd := HK2.out.drew
      have hcd := hHeld
      clear k0 k1 kz hHeld
      generalize wc.drew = wd at *
      refine wpAnyH_ready (rs := [6]) (by kernel_rfl) (by simp) ?_
      refine AllReadyH.cons (o := ⟨some 23, _, _, _, _, _⟩) rfl (fun K hK => ?_) AllReadyH.nil
      go_simp
      refine hK.out _ _ ?_ (fun hHeld => ?_)
      · (try dsimp only)
        exact hcd.alloc _
      clear hK K
      (try simp only [Act.put, List.setIfInBounds_toArray, List.set_cons_zero, List.set_cons_succ])
      refine wpAnyH_ready (rs := [7]) (by kernel_rfl) (by simp) ?_
      refine AllReadyH.cons (o := ⟨some 24, _, _, _, _, _⟩) rfl (fun K hK => ?_) AllReadyH.nil
      go_simp
      go_at_call 25
      refine (psum_two n d p q wd _ _ rfl hn hd HPQ.out.1 HPQ.out.2).mono ?_
      rintro e_r w7 ⟨rfl, hb7⟩
      have HK7 := Lib.hid (HKd.below hb7)
      have hc7 := hcd.onB hb7
      clear hb7 HKd hcd hHeld
      go_wp2_with fail
      refine hK.out _ _ ?_ (fun hHeld => ?_)
      · (try dsimp only)
        exact hc7
      clear hK K
      (try simp only [Act.put, List.setIfInBounds_toArray, List.set_cons_zero, List.set_cons_succ])
      refine wpAnyH_take (i := 8) (oi := ⟨some 25, _, _, _, _, _⟩) (v := ?_) rfl (by kernel_rfl) (by kernel_rfl) (by kernel_rfl) (fun _ _ _ h => h) (Or.inl ⟨by rfl, ?_⟩) hHeld ?_
      rotate_left
      · intro ww hSw
        (try dsimp only at hSw)
        go_simp
        (try with_reducible rfl)
      simp only [Act.put, List.setIfInBounds_toArray, List.set_cons_zero, List.set_cons_succ]
      refine wpAnyH_take (i := 9) (oi := ⟨some 26, _, _, _, _, _⟩) (v := ?_) rfl (by kernel_rfl) (by kernel_rfl) (by kernel_rfl) (fun _ _ _ h => h) (Or.inl ⟨by rfl, ?_⟩) hHeld ?_
      rotate_left
      · intro ww hSw
        (try dsimp only at hSw)
        go_simp
        (try with_reducible rfl)
      simp only [Act.put, List.setIfInBounds_toArray, List.set_cons_zero, List.set_cons_succ]
      refine wpAnyH_ready (rs := [10]) (by kernel_rfl) (by simp) ?_
      refine AllReadyH.cons (o := ⟨some 27, _, _, _, _, _⟩) rfl (fun K hK => ?_) AllReadyH.nil
      go_simp
      go_at_call 68
      refine (sto_c n d e (plusR n d p q).n (plusR n d p q).d (plusR n d p q).c _ gt _ rfl HK7.out).mono ?_
      rintro e_r w8 ⟨rfl, HK8, hc8⟩
      have hc9 := Chg.on hc7 hc8
      have HK9 := Lib.hid HK8
      clear hc8 HK8
      go_wp2_with fail
      refine hK.out _ _ ?_ (fun hHeld => ?_)
      · (try dsimp only)
        exact hc9
      clear hK K
      (try simp only [Act.put, List.setIfInBounds_toArray, List.set_cons_zero, List.set_cons_succ])
      refine wpAnyH_done (by kernel_rfl) ?_ _
      refine NoPanic.normal ?_
      have hp6 := plus64' n d p q
      have HE := Lib.hid (HC2.out.on hc9)
      clear hHeld hc9 hc7 HC2 HK7 HK2 HR
      go_wp2
      go_roundw
      case rel => exact ⟨k + 1, _, _, _, by omega, by go_num, hp6.1, hp6.2, S1, HK9, HE⟩
      case measure => simp [intOf]; omega
    · obtain rfl : k = xs.length := by omega
      have hs := HS.out
      rw [List.take_length, HXX.out] at hs
      subst hs
      have HE := Lib.hid (HC1.out.on HCr.out)
      have HKE := Lib.hid HKr.out
      clear HC1 HCr HKr HXX HS HR1
      go_wp2
      go_end0
      exact ⟨rfl, HKE.out, HE.out⟩
end Go.Proofs.YtpgncbhahocmbaaGreat
