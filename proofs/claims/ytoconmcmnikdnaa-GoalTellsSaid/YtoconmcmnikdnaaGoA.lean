/-
  goal.Of's closures: what is wrong is kept.
-/
import Derived.Test.YtoconmcmnikdnaaRatD
import Derived.Test.YtoconmcmnikdnaaMWayP
import Derived.Test.YtoconmcmnikdnaaMTab
import Derived.Lib.Hide
import Derived.Deep.RegionHeld3
import Derived.Test.YtoconmcmnikdnaaMLow
namespace Go.Proofs.Ytoconmcmnikdnaa
open Go.RowKit
set_option linter.unusedVariables false
set_option linter.unusedSimpArgs false
set_option maxRecDepth 20000

/-- The first error of two. -/
def fstC (e c : Int) : Int := if e = 0 then c else e
theorem fstC_zero (e : Int) : fstC e 0 = e := by unfold fstC; split <;> omega
theorem zero_fstC (c : Int) : fstC 0 c = c := by unfold fstC; rw [if_pos rfl]
theorem Chg.more {M N : Nat → Prop} {a w w' : World} (h : Chg M a w) (k : Chg N w w') (hN : ∀ b, b < a.heap.size → N b → M b) : Chg M a w' :=
  Kept.on h (Kept.less k fun i hi => ⟨Nat.lt_of_lt_of_le hi.1 (Kept.size h), fun hn => hi.2 (hN i hi.1 hn)⟩)
theorem Chg.bel {M : Nat → Prop} {a w w' : World} (h : Chg M a w) {B : Nat} (k : Below B w w') (hB : w.heap.size ≤ B) : Chg M a w' :=
  h.onB ⟨k.os, k.tape, k.output, k.size, fun b hb => k.block b (by omega)⟩
theorem keep_c (n d c e e' : Int) (K : Nat) (w : World) (he : fstC e c = e') (hK : Has w K #[.int .i64 e]) :
    Calls Try.prog 19 #[.agg #[.int .i64 n, .int .i64 d], .int .i64 c, .pointer (some ⟨K, 0, none⟩)] w fun r w' =>
      r = .returned (.agg #[.int .i64 n, .int .i64 d]) ∧ Has w' K #[.int .i64 e'] ∧ Chg (fun b => b = K) w w' := by
  have hs := hK.size
  have k0 := hK.cell 0 rfl
  have kf := hK.frozen 0
  have HK := Lib.hid hK
  clear hK
  by_cases h0 : e = 0
  · subst h0
    rw [zero_fstC] at he
    subst he
    go_enter Try.func19, Try.ntmps19
    go_wp2
    have R2 : Has (((w.setCell ⟨K, 0, none⟩ (.int .i64 c)).alloc (.cells #[.int .i64 n, .int .i64 d] 24)).alloc (.cells #[.int .i64 n, .int .i64 d] 24)) (w.heap.size + 1) #[.int .i64 n, .int .i64 d] := Has.new _ _ _ (by simp)
    obtain ⟨c0, c1, f0, f1⟩ := R2.two
    refine bodyPost_ret (v := .agg #[.int .i64 n, .int .i64 d]) (by simp [results, Try.results19, go_sem, c0, c1]) rfl ⟨rfl, ?_, ?_⟩
    · exact ((HK.out.set 0 _).alloc _).alloc _
    · exact (((Chg.refl (fun b => b = K) w).set (p := ⟨K, 0, none⟩) (.inr rfl) _).alloc _).alloc _
  · have hE : e' = e := by rw [← he]; unfold fstC; rw [if_neg h0]
    subst hE
    go_enter Try.func19, Try.ntmps19
    go_wp2
    have R2 : Has ((w.alloc (.cells #[.int .i64 n, .int .i64 d] 24)).alloc (.cells #[.int .i64 n, .int .i64 d] 24)) (w.heap.size + 1) #[.int .i64 n, .int .i64 d] := Has.new _ _ _ (by simp)
    obtain ⟨c0, c1, f0, f1⟩ := R2.two
    refine bodyPost_ret (v := .agg #[.int .i64 n, .int .i64 d]) (by simp [results, Try.results19, go_sem, c0, c1]) rfl ⟨rfl, ?_, ?_⟩
    · exact (HK.out.alloc _).alloc _
    · exact ((Chg.refl _ _).alloc _).alloc _

theorem make_one (m : Int) (w : World) (hm : mkR m 1 = ⟨m, 1, 0⟩) (hb : -9223372036854775808 ≤ m ∧ m ≤ 9223372036854775807) :
    Calls Try.prog 22 #[.int .i64 m, .int .i64 1] w fun e w' => e = .returned (.tuple #[.agg #[.int .i64 m, .int .i64 1], .int .i64 0]) ∧ Below w.heap.size w w' := by
  refine (make_any m 1 w hb.1 hb.2 (by omega) (by omega)).mono ?_
  rintro e w' ⟨rfl, h⟩
  refine ⟨?_, h⟩
  unfold mkR at hm
  simp only [Rat2.mk.injEq] at hm
  rw [hm.1, hm.2.1, hm.2.2]
theorem qmul_x (a b c d : Int) (X : Rat2) (w : World) (hX : mulR a b c d = X) (ha : -9223372036854775808 ≤ a ∧ a ≤ 9223372036854775807) (hb : -9223372036854775808 ≤ b ∧ b ≤ 9223372036854775807) (hc : -9223372036854775808 ≤ c ∧ c ≤ 9223372036854775807) (hd : -9223372036854775808 ≤ d ∧ d ≤ 9223372036854775807) :
    Calls Try.prog 21 #[.agg #[.int .i64 a, .int .i64 b], .agg #[.int .i64 c, .int .i64 d]] w fun e w' => e = .returned (.tuple #[.agg #[.int .i64 X.n, .int .i64 X.d], .int .i64 X.c]) ∧ Below w.heap.size w w' := by
  subst hX
  exact qmul_any a b c d w ha hb hc hd
theorem Chg.self {M : Nat → Prop} {a w w' : World} (h : Chg M a w) (k : Below w.heap.size w w') : Chg M a w' := h.onB k
set_option maxHeartbeats 2000000 in
theorem times_c (n d m e e' : Int) (X : Rat2) (K T : Nat) (w : World) (hm : mkR m 1 = ⟨m, 1, 0⟩) (hmb : -9223372036854775808 ≤ m ∧ m ≤ 9223372036854775807) (hn : -9223372036854775808 ≤ n ∧ n ≤ 9223372036854775807) (hd : -9223372036854775808 ≤ d ∧ d ≤ 9223372036854775807)
    (hX : mulR n d m 1 = X) (he : fstC e X.c = e') (hK : Has w K #[.int .i64 e]) (hT : Has w T #[.func (.func 19) #[] #[.pointer (some ⟨K, 0, none⟩)]]) (hne : T ≠ K) :
    Calls Try.prog 20 #[.agg #[.int .i64 n, .int .i64 d], .int .i64 m, .pointer (some ⟨T, 0, none⟩)] w fun r w' =>
      r = .returned (.agg #[.int .i64 X.n, .int .i64 X.d]) ∧ Has w' K #[.int .i64 e'] ∧ Chg (fun b => b = K) w w' := by
  have hsK := hK.size
  have hsT := hT.size
  have HK := Lib.hid hK
  have HT := Lib.hid hT
  have HM := Lib.hid hm
  have HX := Lib.hid hX
  have HE := Lib.hid he
  clear hm hX he
  have hne' : K ≠ T := fun h => hne h.symm
  go_enter Try.func20, Try.ntmps20
  go_upto_region 1 with fail
  have H3 : Hid (Has ((w.alloc (.cells #[.int .i64 n, .int .i64 d] 24)).alloc (.cells #[.int .i64 0, .int .i64 0] 24)) w.heap.size #[.int .i64 n, .int .i64 d]) := (Has.new _ _ _ rfl).alloc _
  have H5 : Hid (Has ((w.alloc (.cells #[.int .i64 n, .int .i64 d] 24)).alloc (.cells #[.int .i64 0, .int .i64 0] 24)) (w.heap.size + 1) #[.int .i64 0, .int .i64 0]) := Has.new _ _ _ (by simp)
  have H0 : Hid (Chg (fun b => b = K) w ((w.alloc (.cells #[.int .i64 n, .int .i64 d] 24)).alloc (.cells #[.int .i64 0, .int .i64 0] 24))) := ((Chg.refl _ _).alloc _).alloc _
  replace HK := Lib.hid ((HK.out.alloc (.cells #[.int .i64 n, .int .i64 d] 24)).alloc (.cells #[.int .i64 0, .int .i64 0] 24))
  replace HT := Lib.hid ((HT.out.alloc (.cells #[.int .i64 n, .int .i64 d] 24)).alloc (.cells #[.int .i64 0, .int .i64 0] 24))
  clear hK hT
  generalize (w.alloc (.cells #[.int .i64 n, .int .i64 d] 24)).alloc (.cells #[.int .i64 0, .int .i64 0] 24) = W at *
  have HG : Hid (w.heap.size = w.heap.size) := Lib.hid rfl
  obtain ⟨g, hg⟩ : ∃ g, w.heap.size = g := ⟨_, rfl⟩
  rw [hg] at H3 H5 hsK hsT
  simp only [hg]
  have HTW := HT
  have H3W := H3
  have n_HT : ¬ T = K := hne
  have n_H3 : ¬ g = K := by omega
  have n_H5 : ¬ g + 1 = K := by omega
  refine wp_region_noPanic ?_
  refine wp_region_held_drew (S := fun w' => Chg (fun b => b = K ∨ b = g + 1) W w') (by kernel_rfl) (Chg.of_below (below_drew (Below.refl _ _))) (fun hHeld => ?_)
  have HC : Hid (Chg (fun b => b = K ∨ b = g + 1) W W.drew) := Lib.hid hHeld
  replace HT := Lib.hid (HT.out.drew)
  replace H3 := Lib.hid (H3.out.drew)
  replace H5 := Lib.hid (H5.out.drew)
  replace HK := Lib.hid (HK.out.drew)
  generalize W.drew = w1 at *
  refine wpAnyH_take (i := 0) (oi := ⟨some 6, _, _, _, _, _⟩) (v := (.func (.func 19) #[] #[.pointer (some ⟨K, 0, none⟩)])) rfl (by kernel_rfl) (by kernel_rfl) (by kernel_rfl) (fun _ _ _ h => h) (Or.inl ⟨by rfl, ?_⟩) hHeld ?_
  · intro ww hSw
    (try dsimp only at hSw)
    have c0 := (HTW.out.chg (by omega) hSw).cell 0 rfl
    have z0 := cell_lt c0
    go_simp
  simp only [Act.put, List.setIfInBounds_toArray, List.set_cons_zero, List.set_cons_succ]
  refine wpAnyH_take (i := 1) (oi := ⟨some 7, _, _, _, _, _⟩) (v := (.agg #[.int .i64 n, .int .i64 d])) rfl (by kernel_rfl) (by kernel_rfl) (by kernel_rfl) (fun _ _ _ h => h) (Or.inl ⟨by rfl, ?_⟩) hHeld ?_
  · intro ww hSw
    (try dsimp only at hSw)
    obtain ⟨c0, c1, -, -⟩ := (H3W.out.chg (by omega) hSw).two
    have z0 := cell_lt c0
    go_simp
  simp only [Act.put, List.setIfInBounds_toArray, List.set_cons_zero, List.set_cons_succ]
  refine wpAnyH_take (i := 2) (oi := ⟨some 8, _, _, _, _, _⟩) (v := (.func (.func 19) #[] #[.pointer (some ⟨K, 0, none⟩)])) rfl (by kernel_rfl) (by kernel_rfl) (by kernel_rfl) (fun _ _ _ h => h) (Or.inl ⟨by rfl, ?_⟩) hHeld ?_
  · intro ww hSw
    (try dsimp only at hSw)
    have c0 := (HTW.out.chg (by omega) hSw).cell 0 rfl
    have z0 := cell_lt c0
    go_simp
  simp only [Act.put, List.setIfInBounds_toArray, List.set_cons_zero, List.set_cons_succ]
  refine wpAnyH_take (i := 3) (oi := ⟨some 9, _, _, _, _, _⟩) (v := (.int .i64 m)) rfl (by kernel_rfl) (by kernel_rfl) (by kernel_rfl) (fun _ _ _ h => h) (Or.inl ⟨by rfl, ?_⟩) hHeld ?_
  · intro ww hSw
    clear hSw
    go_simp
  simp only [Act.put, List.setIfInBounds_toArray, List.set_cons_zero, List.set_cons_succ]
  refine wpAnyH_ready (rs := [4]) (by kernel_rfl) (by simp) ?_
  refine AllReadyH.cons (o := ⟨some 10, _, _, _, _, _⟩) rfl (fun Kx hKx => ?_) AllReadyH.nil
  go_simp
  go_at_call 22
  refine (make_one m _ HM.out hmb).mono ?_
  rintro e_r w2 ⟨rfl, b_⟩
  replace HT := Lib.hid (HT.out.below b_)
  replace H3 := Lib.hid (H3.out.below b_)
  replace H5 := Lib.hid (H5.out.below b_)
  replace HK := Lib.hid (HK.out.below b_)
  replace HC := Lib.hid (HC.out.onB b_)
  clear b_ hHeld
  go_wp2_with fail
  refine hKx.out _ _ ?_ (fun hHeld => ?_)
  · (try dsimp only)
    exact HC.out
  clear hKx Kx
  (try simp only [Act.put, List.setIfInBounds_toArray, List.set_cons_zero, List.set_cons_succ])
  refine wpAnyH_take (i := 5) (oi := ⟨some 11, _, _, _, _, _⟩) (v := (.agg #[.int .i64 m, .int .i64 1])) rfl (by kernel_rfl) (by kernel_rfl) (by kernel_rfl) (fun _ _ _ h => h) (Or.inl ⟨by rfl, ?_⟩) hHeld ?_
  · intro ww hSw
    clear hSw
    go_simp
  simp only [Act.put, List.setIfInBounds_toArray, List.set_cons_zero, List.set_cons_succ]
  refine wpAnyH_take (i := 6) (oi := ⟨some 12, _, _, _, _, _⟩) (v := (.int .i64 0)) rfl (by kernel_rfl) (by kernel_rfl) (by kernel_rfl) (fun _ _ _ h => h) (Or.inl ⟨by rfl, ?_⟩) hHeld ?_
  · intro ww hSw
    clear hSw
    go_simp
  simp only [Act.put, List.setIfInBounds_toArray, List.set_cons_zero, List.set_cons_succ]
  refine wpAnyH_ready (rs := [7]) (by kernel_rfl) (by simp) ?_
  refine AllReadyH.cons (o := ⟨some 13, _, _, _, _, _⟩) rfl (fun Kx hKx => ?_) AllReadyH.nil
  go_simp
  go_at_call 19
  refine (keep_c m 1 0 e e K _ (fstC_zero e) HK.out).mono ?_
  rintro e_r w3 ⟨rfl, k_, b_⟩
  replace HT := Lib.hid (HT.out.chg n_HT b_)
  replace H3 := Lib.hid (H3.out.chg n_H3 b_)
  replace H5 := Lib.hid (H5.out.chg n_H5 b_)
  clear HK
  have HK := Lib.hid k_
  replace HC := Lib.hid (HC.out.more b_ (fun _ _ h => .inl h))
  clear b_ k_ hHeld
  go_wp2_with fail
  refine hKx.out _ _ ?_ (fun hHeld => ?_)
  · (try dsimp only)
    exact HC.out
  clear hKx Kx
  (try simp only [Act.put, List.setIfInBounds_toArray, List.set_cons_zero, List.set_cons_succ])
  refine wpAnyH_ready (rs := [8]) (by kernel_rfl) (by simp) ?_
  refine AllReadyH.cons (o := ⟨some 14, _, _, _, _, _⟩) rfl (fun Kx hKx => ?_) AllReadyH.nil
  go_simp
  go_at_call 21
  refine (qmul_x n d m 1 X _ HX.out hn hd hmb (by omega)).mono ?_
  rintro e_r w4 ⟨rfl, b_⟩
  replace HT := Lib.hid (HT.out.below b_)
  replace H3 := Lib.hid (H3.out.below b_)
  replace H5 := Lib.hid (H5.out.below b_)
  replace HK := Lib.hid (HK.out.below b_)
  replace HC := Lib.hid (HC.out.onB b_)
  clear b_ hHeld
  go_wp2_with fail
  refine hKx.out _ _ ?_ (fun hHeld => ?_)
  · (try dsimp only)
    exact HC.out
  clear hKx Kx
  (try simp only [Act.put, List.setIfInBounds_toArray, List.set_cons_zero, List.set_cons_succ])
  refine wpAnyH_take (i := 9) (oi := ⟨some 15, _, _, _, _, _⟩) (v := (.agg #[.int .i64 X.n, .int .i64 X.d])) rfl (by kernel_rfl) (by kernel_rfl) (by kernel_rfl) (fun _ _ _ h => h) (Or.inl ⟨by rfl, ?_⟩) hHeld ?_
  · intro ww hSw
    clear hSw
    go_simp
  simp only [Act.put, List.setIfInBounds_toArray, List.set_cons_zero, List.set_cons_succ]
  refine wpAnyH_take (i := 10) (oi := ⟨some 16, _, _, _, _, _⟩) (v := (.int .i64 X.c)) rfl (by kernel_rfl) (by kernel_rfl) (by kernel_rfl) (fun _ _ _ h => h) (Or.inl ⟨by rfl, ?_⟩) hHeld ?_
  · intro ww hSw
    clear hSw
    go_simp
  simp only [Act.put, List.setIfInBounds_toArray, List.set_cons_zero, List.set_cons_succ]
  refine wpAnyH_ready (rs := [11]) (by kernel_rfl) (by simp) ?_
  refine AllReadyH.cons (o := ⟨some 17, _, _, _, _, _⟩) rfl (fun Kx hKx => ?_) AllReadyH.nil
  go_simp
  go_at_call 19
  refine (keep_c X.n X.d X.c e e' K _ HE.out HK.out).mono ?_
  rintro e_r w5 ⟨rfl, k_, b_⟩
  replace HT := Lib.hid (HT.out.chg n_HT b_)
  replace H3 := Lib.hid (H3.out.chg n_H3 b_)
  replace H5 := Lib.hid (H5.out.chg n_H5 b_)
  clear HK
  have HK := Lib.hid k_
  replace HC := Lib.hid (HC.out.more b_ (fun _ _ h => .inl h))
  clear b_ k_ hHeld
  go_wp2_with fail
  refine hKx.out _ _ ?_ (fun hHeld => ?_)
  · (try dsimp only)
    exact HC.out
  clear hKx Kx
  (try simp only [Act.put, List.setIfInBounds_toArray, List.set_cons_zero, List.set_cons_succ])
  refine wpAnyH_ready (rs := [12]) (by kernel_rfl) (by simp) ?_
  refine AllReadyH.cons (o := ⟨none, _, _, _, _, _⟩) rfl (fun Kx hKx => ?_) AllReadyH.nil
  obtain ⟨c0, c1, f0, f1⟩ := H5.out.two
  have z0 := H5.out.size
  go_simp
  replace HC := Lib.hid ((HC.out.set (p := ⟨g + 1, 0, none⟩) (.inr (.inr rfl)) (.int .i64 X.n)).set (p := ⟨g + 1, 1, none⟩) (.inr (.inr rfl)) (.int .i64 X.d))
  replace HK := Lib.hid ((HK.out.far (p := ⟨g + 1, 0, none⟩) (by simp; omega) (.int .i64 X.n)).far (p := ⟨g + 1, 1, none⟩) (by simp; omega) (.int .i64 X.d))
  replace H5 := Lib.hid ((H5.out.set 0 (.int .i64 X.n)).set 1 (.int .i64 X.d))
  clear c0 c1 f0 f1 z0 hHeld
  refine hKx.out _ _ ?_ (fun hHeld => ?_)
  · (try dsimp only)
    exact HC.out
  clear hKx Kx
  (try simp only [Act.put, List.setIfInBounds_toArray, List.set_cons_zero, List.set_cons_succ])
  refine wpAnyH_done (by kernel_rfl) ?_ _
  refine NoPanic.normal ?_
  go_wp2
  obtain ⟨c0, c1, f0, f1⟩ := (show Has _ (g + 1) #[.int .i64 X.n, .int .i64 X.d] from H5.out).two
  refine bodyPost_ret (v := .agg #[.int .i64 X.n, .int .i64 X.d]) (by simp [results, Try.results20, go_sem, c0, c1]) rfl ⟨rfl, HK.out, ?_⟩
  exact H0.out.more HC.out (fun b hb h => by rcases h with h | h; exact h; omega)
end Go.Proofs.Ytoconmcmnikdnaa
