/-
  The document's own answer, how long a task is to take.
-/
import Derived.Test.YtoconmcmnikdnaaGoP
import Derived.Test.YtoconmcmnikdnaaEvRef
import Derived.Test.YtoconmcmnikdnaaRatRefC
import Derived.Test.YtoconmcmnikdnaaWayS
import Derived.Test.YtoconmcmnikdnaaSetRefD
namespace Go.Proofs.Ytoconmcmnikdnaa
open Go.RowKit
set_option linter.unusedVariables false
set_option linter.unusedSimpArgs false
set_option maxRecDepth 20000

theorem rmul_x (a b c d : Int) (X : Rat2) (w : World) (hX : mulR a b c d = X) (ha : In64 a) (hb : In64 b) (hc : In64 c) (hd : In64 d) :
    Calls Try.prog 27 #[.agg #[.int .i64 a, .int .i64 b], .agg #[.int .i64 c, .int .i64 d]] w fun e w' => e = .returned (.tuple #[.agg #[.int .i64 X.n, .int .i64 X.d], .int .i64 X.c]) ∧ Below w.heap.size w w' := by
  subst hX
  exact rmul_q a b c d w ha hb hc hd
theorem rsum_x (a b c d : Int) (X : Rat2) (A : Option Addr) (cap : Nat) (w : World) (hX : plusR a b c d = X) (hx : Rats w A [(a, b), (c, d)]) :
    Calls Try.prog 29 #[.slice A 2 cap] w fun e w' => e = .returned (.tuple #[.agg #[.int .i64 X.n, .int .i64 X.d], .int .i64 X.c]) ∧ Below w.heap.size w w' := by
  subst hX
  refine (rsum_q A cap [(a, b), (c, d)] w hx (by simp)).mono ?_
  rintro e w' ⟨rfl, hb⟩
  exact ⟨ret_rr (sumR_two a b c d), hb⟩
theorem rmake_x (n d : Int) (x y : Int) (w : World) (hX : mkR n d = ⟨x, y, 0⟩) (hn : -9223372036854775808 ≤ n ∧ n ≤ 9223372036854775807) (hd : -9223372036854775808 ≤ d ∧ d ≤ 9223372036854775807) :
    Calls Try.prog 30 #[.int .i64 n, .int .i64 d] w fun e w' => e = .returned (.tuple #[.agg #[.int .i64 x, .int .i64 y], .int .i64 0]) ∧ Below w.heap.size w w' := by
  refine (rmake_any n d w hn.1 hn.2 hd.1 hd.2).mono ?_
  rintro e w' ⟨rfl, h⟩
  refine ⟨?_, h⟩
  unfold mkR at hX
  simp only [Rat2.mk.injEq] at hX
  rw [hX.1, hX.2.1, hX.2.2]
/-- lumperref10.times. -/
theorem rgtimes_c (r X : Rat2) (c d : Int) (w : World) (hX : onR r (fun a b => mulR a b c d) = X) (ha : In64 r.n) (hb : In64 r.d) (hc : In64 c) (hd : In64 d) :
    Calls Try.prog 28 #[.agg #[.int .i64 r.n, .int .i64 r.d], .int .i64 r.c, .agg #[.int .i64 c, .int .i64 d]] w fun e w' => e = .returned (.tuple #[.agg #[.int .i64 X.n, .int .i64 X.d], .int .i64 X.c]) ∧ Below w.heap.size w w' := by
  obtain ⟨n, m, e⟩ := r
  simp only at ha hb hX ⊢
  by_cases h0 : e = 0
  · subst h0
    have hX' : mulR n m c d = X := hX
    have HX := Lib.hid hX'
    clear hX hX'
    go_enter Try.func28, Try.ntmps28
    go_wp2_with fail
    refine (rmul_x n m c d X _ HX.out ha hb hc hd).mono ?_
    rintro x w1 ⟨rfl, b1⟩
    have R2 : Has w1 (w.heap.size + 1 + 1) #[.int .i64 0, .int .i64 0] := (Has.new _ _ _ (by simp)).below b1
    replace b1 := bel_on (show Below w.heap.size w _ by (repeat' (first | with_reducible exact Below.refl _ _ | with_reducible assumption | with_reducible refine bel_alloc ?_ _ | with_reducible refine bel_set ?_ ?_ _ | with_reducible refine below_drewN ?_ _ | with_reducible refine below_drew ?_ | (simp; done) | (simp; omega) | omega))) b1
    obtain ⟨c0, c1, f0, f1⟩ := R2.two
    have z0 := R2.size
    go_wp2
    obtain ⟨g0, g1, -, -⟩ := (show Has _ _ #[.int .i64 X.n, .int .i64 X.d] from (R2.set 0 (.int .i64 X.n)).set 1 (.int .i64 X.d)).two
    refine bodyPost_ret (v := .tuple #[.agg #[.int .i64 X.n, .int .i64 X.d], .int .i64 X.c]) (by simp [results, Try.results28, go_sem, g0, g1]) rfl ⟨rfl, ?_⟩
    exact bel_set (bel_set b1 (by simp; omega) _) (by simp; omega) _
  · obtain rfl : X = ⟨0, 0, e⟩ := by rw [← hX]; exact if_neg h0
    clear hX
    go_enter Try.func28, Try.ntmps28
    go_wp2
    have R2 : Has (((w.alloc (.cells #[.int .i64 n, .int .i64 m] 24)).alloc (.cells #[.int .i64 c, .int .i64 d] 24)).alloc (.cells #[.int .i64 0, .int .i64 0] 24)) (w.heap.size + 1 + 1) #[.int .i64 0, .int .i64 0] := Has.new _ _ _ (by simp)
    obtain ⟨g0, g1, -, -⟩ := R2.two
    refine bodyPost_ret (v := .tuple #[.agg #[.int .i64 0, .int .i64 0], .int .i64 e]) (by simp [results, Try.results28, go_sem, g0, g1]) rfl ⟨rfl, ?_⟩
    (repeat' (first | with_reducible exact Below.refl _ _ | with_reducible assumption | with_reducible refine bel_alloc ?_ _ | with_reducible refine bel_set ?_ ?_ _ | with_reducible refine below_drewN ?_ _ | with_reducible refine below_drew ?_ | (simp; done) | (simp; omega) | omega))
theorem wrapr_id {a : Int} (h0 : -9223372036854775808 ≤ a) (h1 : a < 9223372036854775808) : IntKind.i64.wrap a = a := by
  simp [IntKind.wrap, IntKind.bits, IntKind.signed]
  split <;> omega
theorem on64 {r : Rat2} {f : Int → Int → Rat2} (h : ∀ a b, In64 (f a b).n ∧ In64 (f a b).d) : In64 (onR r f).n ∧ In64 (onR r f).d := by
  unfold onR
  split
  · exact h _ _
  · unfold In64; simp only; omega
/-- The call on a task that may be, as the document reckons it. -/
structure GoQ (s : SetP) (e : EvP) (D : Int) (r1 r2 r3 r4 r5 r6 r7 : Rat2) (an ad : Int) : Prop where
  h1 : mulR D 1 s.pn s.pd = r1
  h2 : onR r1 (fun a b => mulR a b (rowN s.gears e.ge.toNat 0) (rowN s.gears e.ge.toNat 1)) = r2
  h3 : mulR (rowN s.elements e.el.toNat 2) (rowN s.elements e.el.toNat 3) e.un 1 = r3
  h4 : plusR (rowN s.elements e.el.toNat 0) (rowN s.elements e.el.toNat 1) r3.n r3.d = r4
  h5 : onR r4 (fun a b => mulR a b (rowN s.classes e.cl.toNat 0) (rowN s.classes e.cl.toNat 1)) = r5
  h6 : plusR r2.n r2.d r5.n r5.d = r6
  h7 : onR r6 (fun a b => mulR a b an ad) = r7
def refX (r2 r3 r5 r7 : Rat2) : Rat2 := if r2.c ≠ 0 then ⟨0, 0, r2.c⟩ else if r3.c ≠ 0 then ⟨0, 0, r3.c⟩ else if r5.c ≠ 0 then ⟨0, 0, r5.c⟩ else r7
theorem ref_chain {s : SetP} {e : EvP} {D an ad : Int} {r1 r2 r3 r4 r5 r6 r7 : Rat2} (h : GoQ s e D r1 r2 r3 r4 r5 r6 r7 an ad) (han : mkN (100 + s.allow) 100 = an) (had : mkD (100 + s.allow) 100 = ad) : goalC s e D = refX r2 r3 r5 r7 := by
  obtain ⟨h1, h2, h3, h4, h5, h6, h7⟩ := h
  unfold goalC goalR
  rw [h1, han, had]
  by_cases c1 : r1.c = 0
  · rw [on_yes c1] at h2 ⊢
    rw [h2]
    by_cases c2 : r2.c = 0
    · rw [on_yes c2, h3]
      by_cases c3 : r3.c = 0
      · rw [on_yes c3, h4]
        by_cases c4 : r4.c = 0
        · rw [on_yes c4] at h5 ⊢
          rw [h5]
          by_cases c5 : r5.c = 0
          · rw [on_yes c5, h6, h7]
            simp [refX, c2, c3, c5]
          · rw [on_no c5]
            simp [refX, c2, c3, c5]
        · rw [on_no c4] at h5 ⊢
          subst h5
          simp [refX, c2, c3, c4]
      · rw [on_no c3]
        simp [refX, c2, c3]
    · rw [on_no c2]
      simp [refX, c2]
  · rw [on_no c1] at h2 ⊢
    subst h2
    simp [refX, c1]
set_option maxHeartbeats 16000000 in
theorem rof_set {w : World} {s : SetP} {cs : Array Value} (h : SetC w s cs) (hf : s.Fit) (e : EvP) (hi : e.In) (hc : checkB s = false) :
    Calls Try.prog 11 #[.agg cs, .agg (evC e)] w fun x w' => x = .returned (.tuple #[.agg #[.int .i64 0, .int .i64 0], .int .i64 100]) ∧ Below w.heap.size w w' := by
  obtain ⟨b2, hb2⟩ : ∃ b, decide (EvIn s e) = b := ⟨_, rfl⟩
  have HZ := Lib.hid h.size
  have HZE := Lib.hid (evC_size e)
  have cC : Hid (∀ wx, SetC wx s cs → Calls Try.prog 24 #[.agg cs] wx fun x w' => x = .returned (.bool false) ∧ Below wx.heap.size wx w') := Lib.hid (fun wx hs => rsetcheck_c hs hf _ hc)
  have cE : Hid (∀ wx, Calls Try.prog 25 #[.agg cs, .agg (evC e)] wx fun x w' => x = .returned (.bool b2) ∧ Below wx.heap.size wx w') := Lib.hid (fun wx => rcheck8_any cs _ _ _ _ _ (setS_of h) e hi wx _ hb2)
  have HS := Lib.hid h
  generalize evC e = es at *
  clear h hf hi hb2
  go_enter Try.func11, Try.ntmps11
  go_upto_region 1 with fail
  have HB : Hid (Has (((w.alloc (.cells cs 30)).alloc (.cells es 32)).alloc (.cells #[.int .i64 0, .int .i64 0] 24)) w.heap.size cs) := ((Has.new _ _ _ rfl).alloc _).alloc _
  have HV : Hid (Has (((w.alloc (.cells cs 30)).alloc (.cells es 32)).alloc (.cells #[.int .i64 0, .int .i64 0] 24)) (w.heap.size + 1) es) := (Has.new _ _ _ (by simp)).alloc _
  have HR : Hid (Has (((w.alloc (.cells cs 30)).alloc (.cells es 32)).alloc (.cells #[.int .i64 0, .int .i64 0] 24)) (w.heap.size + 1 + 1) #[.int .i64 0, .int .i64 0]) := Has.new _ _ _ (by simp)
  have HBW : Hid (Below w.heap.size w (((w.alloc (.cells cs 30)).alloc (.cells es 32)).alloc (.cells #[.int .i64 0, .int .i64 0] 24))) := bel_alloc (bel_alloc (bel_alloc (Below.refl _ _) _) _) _
  replace HS := Lib.hid (HS.out.below (bel_alloc (bel_alloc (bel_alloc (Below.refl _ _) (.cells cs 30)) (.cells es 32)) (.cells #[.int .i64 0, .int .i64 0] 24)))
  generalize ((w.alloc (.cells cs 30)).alloc (.cells es 32)).alloc (.cells #[.int .i64 0, .int .i64 0] 24) = W at *
  refine wp_region_lit ?_
  refine wpList_load_sg (by rfl) _ rfl w.heap.size rfl cs HB.out HZ.out ?_
  (try simp only [Act.put, List.setIfInBounds_toArray, List.set_cons_zero, List.set_cons_succ])
  refine wpList_step (fun K hK => ?_)
  go_simp
  go_at_call 24
  refine (cC.out _ HS.out).mono ?_
  rintro e_r w1 ⟨rfl, b_⟩
  replace HS := Lib.hid (HS.out.below b_)
  replace HB := Lib.hid (HB.out.below b_)
  replace HV := Lib.hid (HV.out.below b_)
  replace HR := Lib.hid (HR.out.below b_)
  replace HBW := Lib.hid (bel_on HBW.out b_)
  clear b_
  refine hK _ _ ?_
  clear hK K
  (try simp only [Act.put, List.setIfInBounds_toArray, List.set_cons_zero, List.set_cons_succ])
  iterate 1 (refine wpList_step (fun K hK => ?_); go_simp; refine hK _ _ ?_; clear hK K; (try simp only [Act.put, List.setIfInBounds_toArray, List.set_cons_zero, List.set_cons_succ]))
  refine wpList_nil ?_
  go_upto_region 2 with fail
  refine wp_region_lit ?_
  refine wpList_load_sg (by rfl) _ rfl w.heap.size rfl cs HB.out HZ.out ?_
  (try simp only [Act.put, List.setIfInBounds_toArray, List.set_cons_zero, List.set_cons_succ])
  refine wpList_load_e (by rfl) _ rfl (w.heap.size + 1) rfl es HV.out HZE.out ?_
  (try simp only [Act.put, List.setIfInBounds_toArray, List.set_cons_zero, List.set_cons_succ])
  refine wpList_step (fun K hK => ?_)
  go_simp
  go_at_call 25
  refine (cE.out _).mono ?_
  rintro e_r w2 ⟨rfl, b_⟩
  replace HS := Lib.hid (HS.out.below b_)
  replace HB := Lib.hid (HB.out.below b_)
  replace HV := Lib.hid (HV.out.below b_)
  replace HR := Lib.hid (HR.out.below b_)
  replace HBW := Lib.hid (bel_on HBW.out b_)
  clear b_
  refine hK _ _ ?_
  clear hK K
  (try simp only [Act.put, List.setIfInBounds_toArray, List.set_cons_zero, List.set_cons_succ])
  iterate 1 (refine wpList_step (fun K hK => ?_); go_simp; refine hK _ _ ?_; clear hK K; (try simp only [Act.put, List.setIfInBounds_toArray, List.set_cons_zero, List.set_cons_succ]))
  refine wpList_nil ?_
  obtain ⟨c0, c1, f0, f1⟩ := HR.out.two
  have z0 := cell_lt c0
  go_wp2
  obtain ⟨g0, g1, -, -⟩ := (HR.out.set 0 (.int .i64 0)).set 1 (.int .i64 0) |>.two
  refine bodyPost_ret (v := .tuple #[.agg #[.int .i64 0, .int .i64 0], .int .i64 100]) (by simp [results, Try.results11, go_sem, g0, g1]) rfl ⟨rfl, ?_⟩
  exact bel_set (bel_set HBW.out (by simp; omega) _) (by simp; omega) _
set_option maxHeartbeats 16000000 in
theorem rof_ev {w : World} {s : SetP} {cs : Array Value} (h : SetC w s cs) (hf : s.Fit) (e : EvP) (hi : e.In) (hc : checkB s = true) (hE : ¬ EvIn s e) :
    Calls Try.prog 11 #[.agg cs, .agg (evC e)] w fun x w' => x = .returned (.tuple #[.agg #[.int .i64 0, .int .i64 0], .int .i64 100]) ∧ Below w.heap.size w w' := by
  have HZ := Lib.hid h.size
  have HZE := Lib.hid (evC_size e)
  have cC : Hid (∀ wx, SetC wx s cs → Calls Try.prog 24 #[.agg cs] wx fun x w' => x = .returned (.bool true) ∧ Below wx.heap.size wx w') := Lib.hid (fun wx hs => rsetcheck_c hs hf _ hc)
  have cE : Hid (∀ wx, Calls Try.prog 25 #[.agg cs, .agg (evC e)] wx fun x w' => x = .returned (.bool false) ∧ Below wx.heap.size wx w') := Lib.hid (fun wx => rcheck8_any cs _ _ _ _ _ (setS_of h) e hi wx _ (decide_eq_false hE))
  have HS := Lib.hid h
  generalize evC e = es at *
  clear h hf hi hE
  go_enter Try.func11, Try.ntmps11
  go_upto_region 1 with fail
  have HB : Hid (Has (((w.alloc (.cells cs 30)).alloc (.cells es 32)).alloc (.cells #[.int .i64 0, .int .i64 0] 24)) w.heap.size cs) := ((Has.new _ _ _ rfl).alloc _).alloc _
  have HV : Hid (Has (((w.alloc (.cells cs 30)).alloc (.cells es 32)).alloc (.cells #[.int .i64 0, .int .i64 0] 24)) (w.heap.size + 1) es) := (Has.new _ _ _ (by simp)).alloc _
  have HR : Hid (Has (((w.alloc (.cells cs 30)).alloc (.cells es 32)).alloc (.cells #[.int .i64 0, .int .i64 0] 24)) (w.heap.size + 1 + 1) #[.int .i64 0, .int .i64 0]) := Has.new _ _ _ (by simp)
  have HBW : Hid (Below w.heap.size w (((w.alloc (.cells cs 30)).alloc (.cells es 32)).alloc (.cells #[.int .i64 0, .int .i64 0] 24))) := bel_alloc (bel_alloc (bel_alloc (Below.refl _ _) _) _) _
  replace HS := Lib.hid (HS.out.below (bel_alloc (bel_alloc (bel_alloc (Below.refl _ _) (.cells cs 30)) (.cells es 32)) (.cells #[.int .i64 0, .int .i64 0] 24)))
  generalize ((w.alloc (.cells cs 30)).alloc (.cells es 32)).alloc (.cells #[.int .i64 0, .int .i64 0] 24) = W at *
  refine wp_region_lit ?_
  refine wpList_load_sg (by rfl) _ rfl w.heap.size rfl cs HB.out HZ.out ?_
  (try simp only [Act.put, List.setIfInBounds_toArray, List.set_cons_zero, List.set_cons_succ])
  refine wpList_step (fun K hK => ?_)
  go_simp
  go_at_call 24
  refine (cC.out _ HS.out).mono ?_
  rintro e_r w1 ⟨rfl, b_⟩
  replace HS := Lib.hid (HS.out.below b_)
  replace HB := Lib.hid (HB.out.below b_)
  replace HV := Lib.hid (HV.out.below b_)
  replace HR := Lib.hid (HR.out.below b_)
  replace HBW := Lib.hid (bel_on HBW.out b_)
  clear b_
  refine hK _ _ ?_
  clear hK K
  (try simp only [Act.put, List.setIfInBounds_toArray, List.set_cons_zero, List.set_cons_succ])
  iterate 1 (refine wpList_step (fun K hK => ?_); go_simp; refine hK _ _ ?_; clear hK K; (try simp only [Act.put, List.setIfInBounds_toArray, List.set_cons_zero, List.set_cons_succ]))
  refine wpList_nil ?_
  go_upto_region 2 with fail
  refine wp_region_lit ?_
  refine wpList_load_sg (by rfl) _ rfl w.heap.size rfl cs HB.out HZ.out ?_
  (try simp only [Act.put, List.setIfInBounds_toArray, List.set_cons_zero, List.set_cons_succ])
  refine wpList_load_e (by rfl) _ rfl (w.heap.size + 1) rfl es HV.out HZE.out ?_
  (try simp only [Act.put, List.setIfInBounds_toArray, List.set_cons_zero, List.set_cons_succ])
  refine wpList_step (fun K hK => ?_)
  go_simp
  go_at_call 25
  refine (cE.out _).mono ?_
  rintro e_r w2 ⟨rfl, b_⟩
  replace HS := Lib.hid (HS.out.below b_)
  replace HB := Lib.hid (HB.out.below b_)
  replace HV := Lib.hid (HV.out.below b_)
  replace HR := Lib.hid (HR.out.below b_)
  replace HBW := Lib.hid (bel_on HBW.out b_)
  clear b_
  refine hK _ _ ?_
  clear hK K
  (try simp only [Act.put, List.setIfInBounds_toArray, List.set_cons_zero, List.set_cons_succ])
  iterate 1 (refine wpList_step (fun K hK => ?_); go_simp; refine hK _ _ ?_; clear hK K; (try simp only [Act.put, List.setIfInBounds_toArray, List.set_cons_zero, List.set_cons_succ]))
  refine wpList_nil ?_
  obtain ⟨c0, c1, f0, f1⟩ := HR.out.two
  have z0 := cell_lt c0
  go_wp2
  obtain ⟨g0, g1, -, -⟩ := (HR.out.set 0 (.int .i64 0)).set 1 (.int .i64 0) |>.two
  refine bodyPost_ret (v := .tuple #[.agg #[.int .i64 0, .int .i64 0], .int .i64 100]) (by simp [results, Try.results11, go_sem, g0, g1]) rfl ⟨rfl, ?_⟩
  exact bel_set (bel_set HBW.out (by simp; omega) _) (by simp; omega) _
set_option maxHeartbeats 16000000 in
theorem rof_kind {w : World} {s : SetP} {cs : Array Value} (h : SetC w s cs) (hf : s.Fit) (e : EvP) (hi : e.In) (hc : checkB s = true) (hE : EvIn s e) (h3 : ¬ e.kd = 3) :
    Calls Try.prog 11 #[.agg cs, .agg (evC e)] w fun x w' => x = .returned (.tuple #[.agg #[.int .i64 0, .int .i64 0], .int .i64 100]) ∧ Below w.heap.size w w' := by
  have HZ := Lib.hid h.size
  have HZE := Lib.hid (evC_size e)
  have cC : Hid (∀ wx, SetC wx s cs → Calls Try.prog 24 #[.agg cs] wx fun x w' => x = .returned (.bool true) ∧ Below wx.heap.size wx w') := Lib.hid (fun wx hs => rsetcheck_c hs hf _ hc)
  have cE : Hid (∀ wx, Calls Try.prog 25 #[.agg cs, .agg (evC e)] wx fun x w' => x = .returned (.bool true) ∧ Below wx.heap.size wx w') := Lib.hid (fun wx => rcheck8_any cs _ _ _ _ _ (setS_of h) e hi wx _ (decide_eq_true hE))
  have HS := Lib.hid h
  have d3 : (evC e)[3]? = some (.int .i64 e.kd) := rfl
  generalize evC e = es at *
  generalize e.kd = kd at *
  clear h hf hi hE
  go_enter Try.func11, Try.ntmps11
  go_upto_region 1 with fail
  have HB : Hid (Has (((w.alloc (.cells cs 30)).alloc (.cells es 32)).alloc (.cells #[.int .i64 0, .int .i64 0] 24)) w.heap.size cs) := ((Has.new _ _ _ rfl).alloc _).alloc _
  have HV : Hid (Has (((w.alloc (.cells cs 30)).alloc (.cells es 32)).alloc (.cells #[.int .i64 0, .int .i64 0] 24)) (w.heap.size + 1) es) := (Has.new _ _ _ (by simp)).alloc _
  have HR : Hid (Has (((w.alloc (.cells cs 30)).alloc (.cells es 32)).alloc (.cells #[.int .i64 0, .int .i64 0] 24)) (w.heap.size + 1 + 1) #[.int .i64 0, .int .i64 0]) := Has.new _ _ _ (by simp)
  have HBW : Hid (Below w.heap.size w (((w.alloc (.cells cs 30)).alloc (.cells es 32)).alloc (.cells #[.int .i64 0, .int .i64 0] 24))) := bel_alloc (bel_alloc (bel_alloc (Below.refl _ _) _) _) _
  replace HS := Lib.hid (HS.out.below (bel_alloc (bel_alloc (bel_alloc (Below.refl _ _) (.cells cs 30)) (.cells es 32)) (.cells #[.int .i64 0, .int .i64 0] 24)))
  generalize ((w.alloc (.cells cs 30)).alloc (.cells es 32)).alloc (.cells #[.int .i64 0, .int .i64 0] 24) = W at *
  refine wp_region_lit ?_
  refine wpList_load_sg (by rfl) _ rfl w.heap.size rfl cs HB.out HZ.out ?_
  (try simp only [Act.put, List.setIfInBounds_toArray, List.set_cons_zero, List.set_cons_succ])
  refine wpList_step (fun K hK => ?_)
  go_simp
  go_at_call 24
  refine (cC.out _ HS.out).mono ?_
  rintro e_r w1 ⟨rfl, b_⟩
  replace HS := Lib.hid (HS.out.below b_)
  replace HB := Lib.hid (HB.out.below b_)
  replace HV := Lib.hid (HV.out.below b_)
  replace HR := Lib.hid (HR.out.below b_)
  replace HBW := Lib.hid (bel_on HBW.out b_)
  clear b_
  refine hK _ _ ?_
  clear hK K
  (try simp only [Act.put, List.setIfInBounds_toArray, List.set_cons_zero, List.set_cons_succ])
  iterate 1 (refine wpList_step (fun K hK => ?_); go_simp; refine hK _ _ ?_; clear hK K; (try simp only [Act.put, List.setIfInBounds_toArray, List.set_cons_zero, List.set_cons_succ]))
  refine wpList_nil ?_
  go_upto_region 2 with fail
  refine wp_region_lit ?_
  refine wpList_load_sg (by rfl) _ rfl w.heap.size rfl cs HB.out HZ.out ?_
  (try simp only [Act.put, List.setIfInBounds_toArray, List.set_cons_zero, List.set_cons_succ])
  refine wpList_load_e (by rfl) _ rfl (w.heap.size + 1) rfl es HV.out HZE.out ?_
  (try simp only [Act.put, List.setIfInBounds_toArray, List.set_cons_zero, List.set_cons_succ])
  refine wpList_step (fun K hK => ?_)
  go_simp
  go_at_call 25
  refine (cE.out _).mono ?_
  rintro e_r w2 ⟨rfl, b_⟩
  replace HS := Lib.hid (HS.out.below b_)
  replace HB := Lib.hid (HB.out.below b_)
  replace HV := Lib.hid (HV.out.below b_)
  replace HR := Lib.hid (HR.out.below b_)
  replace HBW := Lib.hid (bel_on HBW.out b_)
  clear b_
  refine hK _ _ ?_
  clear hK K
  (try simp only [Act.put, List.setIfInBounds_toArray, List.set_cons_zero, List.set_cons_succ])
  iterate 1 (refine wpList_step (fun K hK => ?_); go_simp; refine hK _ _ ?_; clear hK K; (try simp only [Act.put, List.setIfInBounds_toArray, List.set_cons_zero, List.set_cons_succ]))
  refine wpList_nil ?_
  have y3 := HV.out.cell 3 d3
  have y3l := cell_lt y3
  obtain ⟨c0, c1, f0, f1⟩ := HR.out.two
  have z0 := cell_lt c0
  go_wp2
  obtain ⟨g0, g1, -, -⟩ := (HR.out.set 0 (.int .i64 0)).set 1 (.int .i64 0) |>.two
  refine bodyPost_ret (v := .tuple #[.agg #[.int .i64 0, .int .i64 0], .int .i64 100]) (by simp [results, Try.results11, go_sem, g0, g1]) rfl ⟨rfl, ?_⟩
  exact bel_set (bel_set HBW.out (by simp; omega) _) (by simp; omega) _
set_option maxHeartbeats 16000000 in
theorem rof_far {w : World} {s : SetP} {cs : Array Value} (h : SetC w s cs) (hf : s.Fit) (e : EvP) (hi : e.In) (hc : checkB s = true) (hE : EvIn s e) (h3 : e.kd = 3) (hD : farV s e.fr e.to = -1) :
    Calls Try.prog 11 #[.agg cs, .agg (evC e)] w fun x w' => x = .returned (.tuple #[.agg #[.int .i64 0, .int .i64 0], .int .i64 100]) ∧ Below w.heap.size w w' := by
  have HZ := Lib.hid h.size
  have HZE := Lib.hid (evC_size e)
  have cC : Hid (∀ wx, SetC wx s cs → Calls Try.prog 24 #[.agg cs] wx fun x w' => x = .returned (.bool true) ∧ Below wx.heap.size wx w') := Lib.hid (fun wx hs => rsetcheck_c hs hf _ hc)
  have cE : Hid (∀ wx, Calls Try.prog 25 #[.agg cs, .agg (evC e)] wx fun x w' => x = .returned (.bool true) ∧ Below wx.heap.size wx w') := Lib.hid (fun wx => rcheck8_any cs _ _ _ _ _ (setS_of h) e hi wx _ (decide_eq_true hE))
  have HS := Lib.hid h
  have cD : Hid (∀ wx, SetC wx s cs → Calls Try.prog 26 #[.agg cs, .int .i64 e.fr, .int .i64 e.to] wx fun x w' => x = .returned (.int .i64 (-1)) ∧ Below wx.heap.size wx w') := Lib.hid (fun wx hs => rdist_c hs hf e.fr e.to _ hD)
  have d3 : (evC e)[3]? = some (.int .i64 3) := by show some (Value.int .i64 e.kd) = _; rw [h3]
  have d4 : (evC e)[4]? = some (.int .i64 e.fr) := rfl
  have d5 : (evC e)[5]? = some (.int .i64 e.to) := rfl
  generalize evC e = es at *
  generalize e.fr = fr at *
  generalize e.to = too at *
  clear h hf hi hE h3 hD
  go_enter Try.func11, Try.ntmps11
  go_upto_region 1 with fail
  have HB : Hid (Has (((w.alloc (.cells cs 30)).alloc (.cells es 32)).alloc (.cells #[.int .i64 0, .int .i64 0] 24)) w.heap.size cs) := ((Has.new _ _ _ rfl).alloc _).alloc _
  have HV : Hid (Has (((w.alloc (.cells cs 30)).alloc (.cells es 32)).alloc (.cells #[.int .i64 0, .int .i64 0] 24)) (w.heap.size + 1) es) := (Has.new _ _ _ (by simp)).alloc _
  have HR : Hid (Has (((w.alloc (.cells cs 30)).alloc (.cells es 32)).alloc (.cells #[.int .i64 0, .int .i64 0] 24)) (w.heap.size + 1 + 1) #[.int .i64 0, .int .i64 0]) := Has.new _ _ _ (by simp)
  have HBW : Hid (Below w.heap.size w (((w.alloc (.cells cs 30)).alloc (.cells es 32)).alloc (.cells #[.int .i64 0, .int .i64 0] 24))) := bel_alloc (bel_alloc (bel_alloc (Below.refl _ _) _) _) _
  replace HS := Lib.hid (HS.out.below (bel_alloc (bel_alloc (bel_alloc (Below.refl _ _) (.cells cs 30)) (.cells es 32)) (.cells #[.int .i64 0, .int .i64 0] 24)))
  generalize ((w.alloc (.cells cs 30)).alloc (.cells es 32)).alloc (.cells #[.int .i64 0, .int .i64 0] 24) = W at *
  refine wp_region_lit ?_
  refine wpList_load_sg (by rfl) _ rfl w.heap.size rfl cs HB.out HZ.out ?_
  (try simp only [Act.put, List.setIfInBounds_toArray, List.set_cons_zero, List.set_cons_succ])
  refine wpList_step (fun K hK => ?_)
  go_simp
  go_at_call 24
  refine (cC.out _ HS.out).mono ?_
  rintro e_r w1 ⟨rfl, b_⟩
  replace HS := Lib.hid (HS.out.below b_)
  replace HB := Lib.hid (HB.out.below b_)
  replace HV := Lib.hid (HV.out.below b_)
  replace HR := Lib.hid (HR.out.below b_)
  replace HBW := Lib.hid (bel_on HBW.out b_)
  clear b_
  refine hK _ _ ?_
  clear hK K
  (try simp only [Act.put, List.setIfInBounds_toArray, List.set_cons_zero, List.set_cons_succ])
  iterate 1 (refine wpList_step (fun K hK => ?_); go_simp; refine hK _ _ ?_; clear hK K; (try simp only [Act.put, List.setIfInBounds_toArray, List.set_cons_zero, List.set_cons_succ]))
  refine wpList_nil ?_
  go_upto_region 2 with fail
  refine wp_region_lit ?_
  refine wpList_load_sg (by rfl) _ rfl w.heap.size rfl cs HB.out HZ.out ?_
  (try simp only [Act.put, List.setIfInBounds_toArray, List.set_cons_zero, List.set_cons_succ])
  refine wpList_load_e (by rfl) _ rfl (w.heap.size + 1) rfl es HV.out HZE.out ?_
  (try simp only [Act.put, List.setIfInBounds_toArray, List.set_cons_zero, List.set_cons_succ])
  refine wpList_step (fun K hK => ?_)
  go_simp
  go_at_call 25
  refine (cE.out _).mono ?_
  rintro e_r w2 ⟨rfl, b_⟩
  replace HS := Lib.hid (HS.out.below b_)
  replace HB := Lib.hid (HB.out.below b_)
  replace HV := Lib.hid (HV.out.below b_)
  replace HR := Lib.hid (HR.out.below b_)
  replace HBW := Lib.hid (bel_on HBW.out b_)
  clear b_
  refine hK _ _ ?_
  clear hK K
  (try simp only [Act.put, List.setIfInBounds_toArray, List.set_cons_zero, List.set_cons_succ])
  iterate 1 (refine wpList_step (fun K hK => ?_); go_simp; refine hK _ _ ?_; clear hK K; (try simp only [Act.put, List.setIfInBounds_toArray, List.set_cons_zero, List.set_cons_succ]))
  refine wpList_nil ?_
  have y3 := HV.out.cell 3 d3
  have y3l := cell_lt y3
  go_upto_region 5 with fail
  refine wp_region_lit ?_
  refine wpList_load_sg (by rfl) _ rfl w.heap.size rfl cs HB.out HZ.out ?_
  (try simp only [Act.put, List.setIfInBounds_toArray, List.set_cons_zero, List.set_cons_succ])
  have y4 := HV.out.cell 4 d4
  have y5 := HV.out.cell 5 d5
  have y4l := cell_lt y4
  iterate 4 (refine wpList_step (fun K hK => ?_); go_simp; refine hK _ _ ?_; clear hK K; (try simp only [Act.put, List.setIfInBounds_toArray, List.set_cons_zero, List.set_cons_succ]))
  refine wpList_step (fun K hK => ?_)
  go_simp
  go_at_call 26
  refine (cD.out _ HS.out).mono ?_
  rintro e_r w3 ⟨rfl, b_⟩
  clear y3 y3l y4 y5 y4l
  replace HS := Lib.hid (HS.out.below b_)
  replace HB := Lib.hid (HB.out.below b_)
  replace HV := Lib.hid (HV.out.below b_)
  replace HR := Lib.hid (HR.out.below b_)
  replace HBW := Lib.hid (bel_on HBW.out b_)
  clear b_
  refine hK _ _ ?_
  clear hK K
  (try simp only [Act.put, List.setIfInBounds_toArray, List.set_cons_zero, List.set_cons_succ])
  iterate 1 (refine wpList_step (fun K hK => ?_); go_simp; refine hK _ _ ?_; clear hK K; (try simp only [Act.put, List.setIfInBounds_toArray, List.set_cons_zero, List.set_cons_succ]))
  refine wpList_nil ?_
  obtain ⟨c0, c1, f0, f1⟩ := HR.out.two
  have z0 := cell_lt c0
  go_wp2
  obtain ⟨g0, g1, -, -⟩ := (HR.out.set 0 (.int .i64 0)).set 1 (.int .i64 0) |>.two
  refine bodyPost_ret (v := .tuple #[.agg #[.int .i64 0, .int .i64 0], .int .i64 100]) (by simp [results, Try.results11, go_sem, g0, g1]) rfl ⟨rfl, ?_⟩
  exact bel_set (bel_set HBW.out (by simp; omega) _) (by simp; omega) _
set_option maxHeartbeats 32000000 in
theorem rof_main {w : World} {s : SetP} {cs : Array Value} (h : SetC w s cs) (hf : s.Fit) (e : EvP) (hi : e.In) (hc : checkB s = true) (hE : EvIn s e) (h3 : e.kd = 3) (D : Int) (hD : farV s e.fr e.to = D) (hD1 : ¬ D = -1)
    (r1 r2 r3 r4 r5 r6 r7 : Rat2) (an ad : Int) (hG : GoQ s e D r1 r2 r3 r4 r5 r6 r7 an ad) (han : mkN (100 + s.allow) 100 = an) (had : mkD (100 + s.allow) 100 = ad) (XR : Rat2) (hX : refX r2 r3 r5 r7 = XR) :
    Calls Try.prog 11 #[.agg cs, .agg (evC e)] w fun x w' => x = .returned (.tuple #[.agg #[.int .i64 XR.n, .int .i64 XR.d], .int .i64 XR.c]) ∧ Below w.heap.size w w' := by
  have HRX := Lib.hid hX
  clear hX
  have hM := check_iff.1 hc
  have hT := task_in hE h3
  have hDb := far_bd hM e.fr e.to
  rw [hD] at hDb
  have hU := hT.un
  have hA := hM.allow
  obtain ⟨A2, c2, A3, c3, A4, c4, q2, q3, q4, q5, q6, q7, t2, t3, t4⟩ := setC_goal h
  obtain ⟨j, hj⟩ : ∃ j : Nat, e.ge = j := ⟨e.ge.toNat, by have := hT.ge; omega⟩
  obtain ⟨c, hcl⟩ : ∃ c : Nat, e.cl = c := ⟨e.cl.toNat, by have := hT.cl; omega⟩
  obtain ⟨l, hel⟩ : ∃ l : Nat, e.el = l := ⟨e.el.toNat, by have := hT.el; omega⟩
  have hjn : j < s.gears.length := by have := hT.ge; omega
  have hcn : c < s.classes.length := by have := hT.cl; omega
  have hln : l < s.elements.length := by have := hT.el; omega
  obtain ⟨h1, h2, h4, h5, h6, h7, h8⟩ := hG
  rw [show e.ge.toNat = j by omega] at h2
  rw [show e.el.toNat = l by omega] at h4 h5
  rw [show e.cl.toNat = c by omega] at h6
  have sp := share64 hM.pace
  have sg := share64 (show shareB (rowN s.gears j 0) (rowN s.gears j 1) = true from row_in hM.gears.2 hjn)
  have sc := share64 (show shareB (rowN s.classes c 0) (rowN s.classes c 1) = true from row_in hM.classes.2 hcn)
  have sf := share64 (show shareB (rowN s.elements l 0) (rowN s.elements l 1) = true from (row_in hM.elements.2 hln).1)
  have su := share64 (show shareB (rowN s.elements l 2) (rowN s.elements l 3) = true from (row_in hM.elements.2 hln).2)
  obtain ⟨b2, o2, rfl⟩ := t2.form (by decide) (by omega)
  obtain ⟨b3, o3, rfl⟩ := t3.form (by decide) (by omega)
  obtain ⟨b4, o4, rfl⟩ := t4.form (by decide) (by omega)
  have X : Hid (∀ wx, Below w.heap.size w wx → (wx.cell? ⟨b2, o2 + l * 4, none⟩ = some (.int .i64 (rowN s.elements l 0)) ∧ wx.cell? ⟨b2, o2 + l * 4 + 1, none⟩ = some (.int .i64 (rowN s.elements l 1)) ∧
      wx.cell? ⟨b2, o2 + l * 4 + 2, none⟩ = some (.int .i64 (rowN s.elements l 2)) ∧ wx.cell? ⟨b2, o2 + l * 4 + 3, none⟩ = some (.int .i64 (rowN s.elements l 3))) ∧
      (wx.cell? ⟨b3, o3 + c * 2, none⟩ = some (.int .i64 (rowN s.classes c 0)) ∧ wx.cell? ⟨b3, o3 + c * 2 + 1, none⟩ = some (.int .i64 (rowN s.classes c 1))) ∧
      (wx.cell? ⟨b4, o4 + j * 2, none⟩ = some (.int .i64 (rowN s.gears j 0)) ∧ wx.cell? ⟨b4, o4 + j * 2 + 1, none⟩ = some (.int .i64 (rowN s.gears j 1)))) :=
    fun wx hb => ⟨⟨(t2.below hb).cell (j := 0) hln (by decide), (t2.below hb).cell (j := 1) hln (by decide), (t2.below hb).cell (j := 2) hln (by decide), (t2.below hb).cell (j := 3) hln (by decide)⟩, ⟨(t3.below hb).cell (j := 0) hcn (by decide), (t3.below hb).cell (j := 1) hcn (by decide)⟩, (t4.below hb).cell (j := 0) hjn (by decide), (t4.below hb).cell (j := 1) hjn (by decide)⟩
  have HZ := Lib.hid h.size
  have HZE := Lib.hid (evC_size e)
  have cC : Hid (∀ wx, SetC wx s cs → Calls Try.prog 24 #[.agg cs] wx fun x w' => x = .returned (.bool true) ∧ Below wx.heap.size wx w') := Lib.hid (fun wx hs => rsetcheck_c hs hf _ hc)
  have cE : Hid (∀ wx, Calls Try.prog 25 #[.agg cs, .agg (evC e)] wx fun x w' => x = .returned (.bool true) ∧ Below wx.heap.size wx w') := Lib.hid (fun wx => rcheck8_any cs _ _ _ _ _ (setS_of h) e hi wx _ (decide_eq_true hE))
  have HS := Lib.hid h
  have cD : Hid (∀ wx, SetC wx s cs → Calls Try.prog 26 #[.agg cs, .int .i64 e.fr, .int .i64 e.to] wx fun x w' => x = .returned (.int .i64 D) ∧ Below wx.heap.size wx w') := Lib.hid (fun wx hs => rdist_c hs hf e.fr e.to _ hD)
  have d3 : (evC e)[3]? = some (.int .i64 3) := by show some (Value.int .i64 e.kd) = _; rw [h3]
  have d4 : (evC e)[4]? = some (.int .i64 e.fr) := rfl
  have d5 : (evC e)[5]? = some (.int .i64 e.to) := rfl
  have d6 : (evC e)[6]? = some (.int .i64 (l : Int)) := by show some (Value.int .i64 e.el) = _; rw [hel]
  have d7 : (evC e)[7]? = some (.int .i64 e.un) := rfl
  have d8 : (evC e)[8]? = some (.int .i64 (c : Int)) := by show some (Value.int .i64 e.cl) = _; rw [hcl]
  have d9 : (evC e)[9]? = some (.int .i64 (j : Int)) := by show some (Value.int .i64 e.ge) = _; rw [hj]
  generalize evC e = es at *
  generalize e.fr = fr at *
  generalize e.to = too at *
  generalize e.un = un at *
  have H1 := Lib.hid h1
  have H2 := Lib.hid h2
  have H3 := Lib.hid h4
  have H4 := Lib.hid h5
  have H5 := Lib.hid h6
  have H6 := Lib.hid h7
  have H7 := Lib.hid h8
  have M3 : Hid (mkR (100 + s.allow) 100 = ⟨an, ad, 0⟩) := Lib.hid (by rw [mk_allow hA, han, had])
  have s1 := mul64 D 1 s.pn s.pd
  rw [h1] at s1
  have s2 := on64 (r := r1) (fun a b => mul64 a b (rowN s.gears j 0) (rowN s.gears j 1))
  rw [h2] at s2
  have s3 := mul64 (rowN s.elements l 2) (rowN s.elements l 3) un 1
  rw [h4] at s3
  have s4 := plus64 (rowN s.elements l 0) (rowN s.elements l 1) r3.n r3.d
  rw [h5] at s4
  have s5 := on64 (r := r4) (fun a b => mul64 a b (rowN s.classes c 0) (rowN s.classes c 1))
  rw [h6] at s5
  have s6 := plus64 r2.n r2.d r5.n r5.d
  rw [h7] at s6
  have sa : In64 an ∧ In64 ad := by
    have := rat_i64 (mkR (100 + s.allow) 100) (by rw [M3.out]; have := mk_may (allow_mk hA); rw [han, had] at this; exact this) (fun h0 => by rw [M3.out] at h0; exact absurd rfl h0)
    rw [M3.out] at this
    exact this
  generalize rowN s.elements l 0 = fn at *
  generalize rowN s.elements l 1 = fd at *
  generalize rowN s.elements l 2 = un1 at *
  generalize rowN s.elements l 3 = ud1 at *
  generalize rowN s.classes c 0 = cn1 at *
  generalize rowN s.classes c 1 = cd1 at *
  generalize rowN s.gears j 0 = gn at *
  generalize rowN s.gears j 1 = gd at *
  clear h1 h2 h4 h5 h6 h7 h8 t2 t3 t4 hM hT hf hi hE h3 hD hc h han had hj hcl hel
  have B2 := Lib.hid (And.intro sp (And.intro sg (And.intro sc (And.intro sf (And.intro su sa)))))
  have B3 := Lib.hid (And.intro s1 (And.intro s2 (And.intro s3 (And.intro s4 (And.intro s5 s6)))))
  clear sp sg sc sf su s1 s2 s3 s4 s5 s6 sa
  generalize s.pn = pn at *
  generalize s.pd = pd at *
  generalize s.allow = al at *
  generalize s.elements.length = nE at *
  generalize s.classes.length = nC at *
  generalize s.gears.length = nG at *
  go_enter Try.func11, Try.ntmps11
  go_upto_region 1 with fail
  have HB : Hid (Has (((w.alloc (.cells cs 30)).alloc (.cells es 32)).alloc (.cells #[.int .i64 0, .int .i64 0] 24)) w.heap.size cs) := ((Has.new _ _ _ rfl).alloc _).alloc _
  have HV : Hid (Has (((w.alloc (.cells cs 30)).alloc (.cells es 32)).alloc (.cells #[.int .i64 0, .int .i64 0] 24)) (w.heap.size + 1) es) := (Has.new _ _ _ (by simp)).alloc _
  have HR : Hid (Has (((w.alloc (.cells cs 30)).alloc (.cells es 32)).alloc (.cells #[.int .i64 0, .int .i64 0] 24)) (w.heap.size + 1 + 1) #[.int .i64 0, .int .i64 0]) := Has.new _ _ _ (by simp)
  have HBW : Hid (Below w.heap.size w (((w.alloc (.cells cs 30)).alloc (.cells es 32)).alloc (.cells #[.int .i64 0, .int .i64 0] 24))) := bel_alloc (bel_alloc (bel_alloc (Below.refl _ _) _) _) _
  replace HS := Lib.hid (HS.out.below (bel_alloc (bel_alloc (bel_alloc (Below.refl _ _) (.cells cs 30)) (.cells es 32)) (.cells #[.int .i64 0, .int .i64 0] 24)))
  generalize ((w.alloc (.cells cs 30)).alloc (.cells es 32)).alloc (.cells #[.int .i64 0, .int .i64 0] 24) = W at *
  refine wp_region_lit ?_
  refine wpList_load_sg (by rfl) _ rfl w.heap.size rfl cs HB.out HZ.out ?_
  (try simp only [Act.put, List.setIfInBounds_toArray, List.set_cons_zero, List.set_cons_succ])
  refine wpList_step (fun K hK => ?_)
  go_simp
  go_at_call 24
  refine (cC.out _ HS.out).mono ?_
  rintro e_r w1 ⟨rfl, b_⟩
  replace HS := Lib.hid (HS.out.below b_)
  replace HB := Lib.hid (HB.out.below b_)
  replace HV := Lib.hid (HV.out.below b_)
  replace HR := Lib.hid (HR.out.below b_)
  replace HBW := Lib.hid (bel_on HBW.out b_)
  clear b_
  refine hK _ _ ?_
  clear hK K
  (try simp only [Act.put, List.setIfInBounds_toArray, List.set_cons_zero, List.set_cons_succ])
  iterate 1 (refine wpList_step (fun K hK => ?_); go_simp; refine hK _ _ ?_; clear hK K; (try simp only [Act.put, List.setIfInBounds_toArray, List.set_cons_zero, List.set_cons_succ]))
  refine wpList_nil ?_
  go_upto_region 2 with fail
  refine wp_region_lit ?_
  refine wpList_load_sg (by rfl) _ rfl w.heap.size rfl cs HB.out HZ.out ?_
  (try simp only [Act.put, List.setIfInBounds_toArray, List.set_cons_zero, List.set_cons_succ])
  refine wpList_load_e (by rfl) _ rfl (w.heap.size + 1) rfl es HV.out HZE.out ?_
  (try simp only [Act.put, List.setIfInBounds_toArray, List.set_cons_zero, List.set_cons_succ])
  refine wpList_step (fun K hK => ?_)
  go_simp
  go_at_call 25
  refine (cE.out _).mono ?_
  rintro e_r w2 ⟨rfl, b_⟩
  replace HS := Lib.hid (HS.out.below b_)
  replace HB := Lib.hid (HB.out.below b_)
  replace HV := Lib.hid (HV.out.below b_)
  replace HR := Lib.hid (HR.out.below b_)
  replace HBW := Lib.hid (bel_on HBW.out b_)
  clear b_
  refine hK _ _ ?_
  clear hK K
  (try simp only [Act.put, List.setIfInBounds_toArray, List.set_cons_zero, List.set_cons_succ])
  iterate 1 (refine wpList_step (fun K hK => ?_); go_simp; refine hK _ _ ?_; clear hK K; (try simp only [Act.put, List.setIfInBounds_toArray, List.set_cons_zero, List.set_cons_succ]))
  refine wpList_nil ?_
  have y3 := HV.out.cell 3 d3
  have y3l := cell_lt y3
  go_upto_region 5 with fail
  refine wp_region_lit ?_
  refine wpList_load_sg (by rfl) _ rfl w.heap.size rfl cs HB.out HZ.out ?_
  (try simp only [Act.put, List.setIfInBounds_toArray, List.set_cons_zero, List.set_cons_succ])
  have y4 := HV.out.cell 4 d4
  have y5 := HV.out.cell 5 d5
  have y4l := cell_lt y4
  iterate 4 (refine wpList_step (fun K hK => ?_); go_simp; refine hK _ _ ?_; clear hK K; (try simp only [Act.put, List.setIfInBounds_toArray, List.set_cons_zero, List.set_cons_succ]))
  refine wpList_step (fun K hK => ?_)
  go_simp
  go_at_call 26
  refine (cD.out _ HS.out).mono ?_
  rintro e_r w3 ⟨rfl, b_⟩
  clear y3 y3l y4 y5 y4l
  replace HS := Lib.hid (HS.out.below b_)
  replace HB := Lib.hid (HB.out.below b_)
  replace HV := Lib.hid (HV.out.below b_)
  replace HR := Lib.hid (HR.out.below b_)
  replace HBW := Lib.hid (bel_on HBW.out b_)
  clear b_
  refine hK _ _ ?_
  clear hK K
  (try simp only [Act.put, List.setIfInBounds_toArray, List.set_cons_zero, List.set_cons_succ])
  iterate 1 (refine wpList_step (fun K hK => ?_); go_simp; refine hK _ _ ?_; clear hK K; (try simp only [Act.put, List.setIfInBounds_toArray, List.set_cons_zero, List.set_cons_succ]))
  refine wpList_nil ?_
  have Q := Lib.hid (And.intro q2 (And.intro q3 (And.intro q4 (And.intro q5 (And.intro q6 q7)))))
  have DD := Lib.hid (And.intro d6 (And.intro d7 (And.intro d8 d9)))
  clear cC cE cD HS q2 q3 q4 q5 q6 q7 d3 d4 d5 d6 d7 d8 d9
  have hDn : ¬ D < 0 := by omega
  have y2 := HB.out.cell 2 Q.out.1
  have y3 := HB.out.cell 3 Q.out.2.1
  have yl := cell_lt y2
  go_wp2_with fail
  refine (rmul_x D 1 pn pd r1 _ H1.out (by unfold In64; omega) (by unfold In64; omega) B2.out.1.1 B2.out.1.2).mono ?_
  rintro x4 w4 ⟨rfl, b_⟩
  clear y2 y3 yl
  replace HB := Lib.hid (HB.out.below b_)
  replace HV := Lib.hid (HV.out.below b_)
  replace HR := Lib.hid (HR.out.below b_)
  replace HBW := Lib.hid (bel_on HBW.out b_)
  clear b_
  go_upto_region 9 with fail
  have hNew := Lib.hid (Has.new w4 24 #[.int .i64 r1.n, .int .i64 r1.d] rfl)
  have l_new := HBW.out.size
  have s_HB := HB.out.size
  have s_HV := HV.out.size
  have s_HR := HR.out.size
  replace HB := Lib.hid (HB.out.alloc (.cells #[.int .i64 r1.n, .int .i64 r1.d] 24))
  replace HV := Lib.hid (HV.out.alloc (.cells #[.int .i64 r1.n, .int .i64 r1.d] 24))
  replace HR := Lib.hid (HR.out.alloc (.cells #[.int .i64 r1.n, .int .i64 r1.d] 24))
  replace HBW := Lib.hid (bel_alloc HBW.out (.cells #[.int .i64 r1.n, .int .i64 r1.d] 24))
  have HK := hNew
  clear hNew
  generalize w4.alloc (.cells #[.int .i64 r1.n, .int .i64 r1.d] 24) = wd at *
  generalize w4.heap.size = g9 at *
  have n_HB : ¬ w.heap.size = g9 := by omega
  have n_HV : ¬ w.heap.size + 1 = g9 := by omega
  have n_HR : ¬ w.heap.size + 1 + 1 = g9 := by omega
  clear s_HB s_HV s_HR
  have HB0 := HB
  have HV0 := HV
  have HR0 := HR
  have HK0 := HK
  have HBW0 := HBW
  refine wp_region_noPanic ?_
  refine wp_region_held_drew (S := fun w' => Chg (fun b => b = g9) wd w') (by kernel_rfl) (Chg.of_below (below_drew (Below.refl _ _))) (fun hHeld => ?_)
  have HC : Hid (Chg (fun b => b = g9) wd wd.drew) := Lib.hid hHeld
  replace HB := Lib.hid (HB.out.drew)
  replace HV := Lib.hid (HV.out.drew)
  replace HR := Lib.hid (HR.out.drew)
  replace HK := Lib.hid (HK.out.drew)
  replace HBW := Lib.hid (below_drew HBW.out)
  generalize wd.drew = v0 at *
  refine wpAnyH_take (i := 1) (oi := ⟨some 53, _, _, _, _, _⟩) (v := (.int .i64 r1.c)) rfl (by kernel_rfl) (by kernel_rfl) (by kernel_rfl) (fun _ _ _ h => h) (Or.inl ⟨by rfl, ?_⟩) hHeld ?_
  · intro ww hSw
    clear hSw
    go_simp
  simp only [Act.put, List.setIfInBounds_toArray, List.set_cons_zero, List.set_cons_succ]
  refine wpAnyH_take (i := 2) (oi := ⟨some 54, _, _, _, _, _⟩) (v := (.pointer (some ⟨w.heap.size, 6, none⟩))) rfl (by kernel_rfl) (by kernel_rfl) (by kernel_rfl) (fun _ _ _ h => h) (Or.inl ⟨by rfl, ?_⟩) hHeld ?_
  · intro ww hSw
    clear hSw
    go_simp
  simp only [Act.put, List.setIfInBounds_toArray, List.set_cons_zero, List.set_cons_succ]
  refine wpAnyH_take (i := 3) (oi := ⟨some 55, _, _, _, _, _⟩) (v := (.slice (some ⟨b4, o4, none⟩) nG c4)) rfl (by kernel_rfl) (by kernel_rfl) (by kernel_rfl) (fun _ _ _ h => h) (Or.inl ⟨by rfl, ?_⟩) hHeld ?_
  · intro ww hSw
    (try dsimp only at hSw)
    have c0 := (HB0.out.chg n_HB hSw).cell 6 Q.out.2.2.2.2.1
    have z0 := cell_lt c0
    go_simp
  simp only [Act.put, List.setIfInBounds_toArray, List.set_cons_zero, List.set_cons_succ]
  refine wpAnyH_take (i := 4) (oi := ⟨some 56, _, _, _, _, _⟩) (v := (.pointer (some ⟨(w.heap.size + 1), 9, none⟩))) rfl (by kernel_rfl) (by kernel_rfl) (by kernel_rfl) (fun _ _ _ h => h) (Or.inl ⟨by rfl, ?_⟩) hHeld ?_
  · intro ww hSw
    clear hSw
    go_simp
  simp only [Act.put, List.setIfInBounds_toArray, List.set_cons_zero, List.set_cons_succ]
  refine wpAnyH_take (i := 5) (oi := ⟨some 57, _, _, _, _, _⟩) (v := (.int .i64 (j : Int))) rfl (by kernel_rfl) (by kernel_rfl) (by kernel_rfl) (fun _ _ _ h => h) (Or.inl ⟨by rfl, ?_⟩) hHeld ?_
  · intro ww hSw
    (try dsimp only at hSw)
    have c0 := (HV0.out.chg n_HV hSw).cell 9 DD.out.2.2.2
    have z0 := cell_lt c0
    go_simp
  simp only [Act.put, List.setIfInBounds_toArray, List.set_cons_zero, List.set_cons_succ]
  refine wpAnyH_take (i := 6) (oi := ⟨some 58, _, _, _, _, _⟩) (v := (.pointer (some ⟨b4, o4 + j * 2, none⟩))) rfl (by kernel_rfl) (by kernel_rfl) (by kernel_rfl) (fun _ _ _ h => h) (Or.inl ⟨by rfl, ?_⟩) hHeld ?_
  · intro ww hSw
    clear hSw
    go_simp
  simp only [Act.put, List.setIfInBounds_toArray, List.set_cons_zero, List.set_cons_succ]
  refine wpAnyH_take (i := 7) (oi := ⟨some 59, _, _, _, _, _⟩) (v := (.agg #[.int .i64 gn, .int .i64 gd])) rfl (by kernel_rfl) (by kernel_rfl) (by kernel_rfl) (fun _ _ _ h => h) (Or.inl ⟨by rfl, ?_⟩) hHeld ?_
  · intro ww hSw
    (try dsimp only at hSw)
    obtain ⟨-, -, c0, c1⟩ := X.out ww (HBW0.out.trans (hSw.below HBW0.out.size (fun i hi => by omega)))
    have z0 := cell_lt c0
    go_simp
  simp only [Act.put, List.setIfInBounds_toArray, List.set_cons_zero, List.set_cons_succ]
  refine wpAnyH_ready (rs := [0]) (by kernel_rfl) (by simp) ?_
  refine AllReadyH.cons (o := ⟨some 52, _, _, _, _, _⟩) rfl (fun Kx hKx => ?_) AllReadyH.nil
  obtain ⟨c0, c1, -, -⟩ := HK.out.two
  have z0 := HK.out.size
  go_simp
  clear c0 c1 z0 hHeld
  refine hKx.out _ _ ?_ (fun hHeld => ?_)
  · (try dsimp only)
    exact HC.out
  clear hKx Kx
  (try simp only [Act.put, List.setIfInBounds_toArray, List.set_cons_zero, List.set_cons_succ])
  refine wpAnyH_ready (rs := [8]) (by kernel_rfl) (by simp) ?_
  refine AllReadyH.cons (o := ⟨some 60, _, _, _, _, _⟩) rfl (fun Kx hKx => ?_) AllReadyH.nil
  go_simp
  go_at_call 28
  refine (rgtimes_c r1 r2 gn gd _ H2.out B3.out.1.1 B3.out.1.2 B2.out.2.1.1 B2.out.2.1.2).mono ?_
  rintro e_r v1 ⟨rfl, b_⟩
  replace HB := Lib.hid (HB.out.below b_)
  replace HV := Lib.hid (HV.out.below b_)
  replace HR := Lib.hid (HR.out.below b_)
  replace HK := Lib.hid (HK.out.below b_)
  replace HBW := Lib.hid (bel_on HBW.out b_)
  replace HC := Lib.hid (HC.out.onB b_)
  clear b_ hHeld
  go_wp2_with fail
  refine hKx.out _ _ ?_ (fun hHeld => ?_)
  · (try dsimp only)
    exact HC.out
  clear hKx Kx
  (try simp only [Act.put, List.setIfInBounds_toArray, List.set_cons_zero, List.set_cons_succ])
  refine wpAnyH_take (i := 9) (oi := ⟨some 51, _, _, _, _, _⟩) (v := (.tuple #[.agg #[.int .i64 r2.n, .int .i64 r2.d], .int .i64 r2.c])) rfl (by kernel_rfl) (by kernel_rfl) (by kernel_rfl) (fun _ _ _ h => h) (Or.inl ⟨by rfl, ?_⟩) hHeld ?_
  · intro ww hSw
    clear hSw
    go_simp
  simp only [Act.put, List.setIfInBounds_toArray, List.set_cons_zero, List.set_cons_succ]
  refine wpAnyH_take (i := 10) (oi := ⟨some 61, _, _, _, _, _⟩) (v := (.agg #[.int .i64 r2.n, .int .i64 r2.d])) rfl (by kernel_rfl) (by kernel_rfl) (by kernel_rfl) (fun _ _ _ h => h) (Or.inl ⟨by rfl, ?_⟩) hHeld ?_
  · intro ww hSw
    clear hSw
    go_simp
  simp only [Act.put, List.setIfInBounds_toArray, List.set_cons_zero, List.set_cons_succ]
  refine wpAnyH_take (i := 11) (oi := ⟨some 62, _, _, _, _, _⟩) (v := (.int .i64 r2.c)) rfl (by kernel_rfl) (by kernel_rfl) (by kernel_rfl) (fun _ _ _ h => h) (Or.inl ⟨by rfl, ?_⟩) hHeld ?_
  · intro ww hSw
    clear hSw
    go_simp
  simp only [Act.put, List.setIfInBounds_toArray, List.set_cons_zero, List.set_cons_succ]
  refine wpAnyH_ready (rs := [12]) (by kernel_rfl) (by simp) ?_
  refine AllReadyH.cons (o := ⟨none, _, _, _, _, _⟩) rfl (fun Kx hKx => ?_) AllReadyH.nil
  obtain ⟨c0, c1, f0, f1⟩ := HK.out.two
  have z0 := HK.out.size
  go_simp
  replace HC := Lib.hid (HC.out.set (p := ⟨g9, 0, none⟩) (.inr rfl) (.int .i64 r2.n))
  replace HBW := Lib.hid (bel_set HBW.out (p := ⟨g9, 0, none⟩) (by simp; omega) (.int .i64 r2.n))
  replace HB := Lib.hid (HB.out.far (p := ⟨g9, 0, none⟩) (by simp; omega) (.int .i64 r2.n))
  replace HV := Lib.hid (HV.out.far (p := ⟨g9, 0, none⟩) (by simp; omega) (.int .i64 r2.n))
  replace HR := Lib.hid (HR.out.far (p := ⟨g9, 0, none⟩) (by simp; omega) (.int .i64 r2.n))
  replace HK := Lib.hid (HK.out.set 0 (.int .i64 r2.n))
  replace HC := Lib.hid (HC.out.set (p := ⟨g9, 1, none⟩) (.inr rfl) (.int .i64 r2.d))
  replace HBW := Lib.hid (bel_set HBW.out (p := ⟨g9, 1, none⟩) (by simp; omega) (.int .i64 r2.d))
  replace HB := Lib.hid (HB.out.far (p := ⟨g9, 1, none⟩) (by simp; omega) (.int .i64 r2.d))
  replace HV := Lib.hid (HV.out.far (p := ⟨g9, 1, none⟩) (by simp; omega) (.int .i64 r2.d))
  replace HR := Lib.hid (HR.out.far (p := ⟨g9, 1, none⟩) (by simp; omega) (.int .i64 r2.d))
  replace HK := Lib.hid (HK.out.set 1 (.int .i64 r2.d))
  clear c0 c1 f0 f1 z0 hHeld
  refine hKx.out _ _ ?_ (fun hHeld => ?_)
  · (try dsimp only)
    exact HC.out
  clear hKx Kx
  (try simp only [Act.put, List.setIfInBounds_toArray, List.set_cons_zero, List.set_cons_succ])
  refine wpAnyH_take (i := 13) (oi := ⟨some 10, _, _, _, _, _⟩) (v := (.int .i64 r2.c)) rfl (by kernel_rfl) (by kernel_rfl) (by kernel_rfl) (fun _ _ _ h => h) (Or.inl ⟨by rfl, ?_⟩) hHeld ?_
  · intro ww hSw
    clear hSw
    go_simp
  simp only [Act.put, List.setIfInBounds_toArray, List.set_cons_zero, List.set_cons_succ]
  refine wpAnyH_done (by kernel_rfl) ?_ _
  refine NoPanic.normal ?_
  clear HC hHeld HB0 HV0 HR0 HK0 HBW0
  have HK : Hid (Has _ g9 #[.int .i64 r2.n, .int .i64 r2.d]) := HK
  obtain ⟨kr2, he2⟩ : ∃ k, r2.c = k := ⟨_, rfl⟩
  rw [he2]
  have E2 := Lib.hid he2
  clear he2
  by_cases e2 : kr2 = 0
  rotate_left
  · skip
    obtain rfl : XR = ⟨0, 0, kr2⟩ := by rw [← HRX.out]; simp [refX, E2.out, e2]
    obtain ⟨c0, c1, f0, f1⟩ := HR.out.two
    have z0 := cell_lt c0
    go_wp2
    obtain ⟨g0, g1, -, -⟩ := (HR.out.set 0 (.int .i64 0)).set 1 (.int .i64 0) |>.two
    refine bodyPost_ret (v := .tuple #[.agg #[.int .i64 0, .int .i64 0], .int .i64 kr2]) (by simp [results, Try.results11, go_sem, g0, g1]) rfl ⟨rfl, ?_⟩
    exact bel_set (bel_set HBW.out (by simp; omega) _) (by simp; omega) _
  subst e2
  go_upto_region 12 with fail
  have s_K := HK.out.size
  have s_V := HV.out.size
  have s_R := HR.out.size
  have s_B := HB.out.size
  go_cut [11, 12] (fun v11 v12 wx => ∃ g11 : Nat, v11 = .pointer (some ⟨g11, 0, none⟩) ∧ v12 = .int .i64 r3.c ∧ (w.heap.size ≤ g11 ∧ ¬ w.heap.size = g11 ∧ ¬ w.heap.size + 1 = g11 ∧ ¬ w.heap.size + 1 + 1 = g11 ∧ ¬ g9 = g11) ∧ Hid (Has wx g11 #[.int .i64 r3.n, .int .i64 r3.d]) ∧ Hid (Has wx g9 #[.int .i64 r2.n, .int .i64 r2.d]) ∧ Hid (Has wx w.heap.size cs) ∧ Hid (Has wx (w.heap.size + 1) es) ∧ Hid (Has wx (w.heap.size + 1 + 1) #[.int .i64 0, .int .i64 0]) ∧ Hid (Below w.heap.size w wx))
  case first =>
    generalize (v1.setCell ⟨g9, 0, none⟩ (.int .i64 r2.n)).setCell ⟨g9, 1, none⟩ (.int .i64 r2.d) = wd at *
    have HB0 := HB
    have HV0 := HV
    have HR0 := HR
    have HK0 := HK
    have HBW0 := HBW
    refine wp_region_noPanic ?_
    refine wp_region_held_drew (S := fun w' => Chg (fun b => b = g9) wd w') (by kernel_rfl) (Chg.of_below (below_drew (Below.refl _ _))) (fun hHeld => ?_)
    have HC : Hid (Chg (fun b => b = g9) wd wd.drew) := Lib.hid hHeld
    replace HB := Lib.hid (HB.out.drew)
    replace HV := Lib.hid (HV.out.drew)
    replace HR := Lib.hid (HR.out.drew)
    replace HK := Lib.hid (HK.out.drew)
    replace HBW := Lib.hid (below_drew HBW.out)
    generalize wd.drew = v0 at *
    refine wpAnyH_take (i := 0) (oi := ⟨some 68, _, _, _, _, _⟩) (v := (.pointer (some ⟨w.heap.size, 4, none⟩))) rfl (by kernel_rfl) (by kernel_rfl) (by kernel_rfl) (fun _ _ _ h => h) (Or.inl ⟨by rfl, ?_⟩) hHeld ?_
    · intro ww hSw
      clear hSw
      go_simp
    simp only [Act.put, List.setIfInBounds_toArray, List.set_cons_zero, List.set_cons_succ]
    refine wpAnyH_take (i := 1) (oi := ⟨some 69, _, _, _, _, _⟩) (v := (.slice (some ⟨b2, o2, none⟩) nE c2)) rfl (by kernel_rfl) (by kernel_rfl) (by kernel_rfl) (fun _ _ _ h => h) (Or.inl ⟨by rfl, ?_⟩) hHeld ?_
    · intro ww hSw
      (try dsimp only at hSw)
      have c0 := (HB0.out.chg n_HB hSw).cell 4 Q.out.2.2.1
      have z0 := cell_lt c0
      go_simp
    simp only [Act.put, List.setIfInBounds_toArray, List.set_cons_zero, List.set_cons_succ]
    refine wpAnyH_take (i := 2) (oi := ⟨some 70, _, _, _, _, _⟩) (v := (.pointer (some ⟨(w.heap.size + 1), 6, none⟩))) rfl (by kernel_rfl) (by kernel_rfl) (by kernel_rfl) (fun _ _ _ h => h) (Or.inl ⟨by rfl, ?_⟩) hHeld ?_
    · intro ww hSw
      clear hSw
      go_simp
    simp only [Act.put, List.setIfInBounds_toArray, List.set_cons_zero, List.set_cons_succ]
    refine wpAnyH_take (i := 3) (oi := ⟨some 71, _, _, _, _, _⟩) (v := (.int .i64 (l : Int))) rfl (by kernel_rfl) (by kernel_rfl) (by kernel_rfl) (fun _ _ _ h => h) (Or.inl ⟨by rfl, ?_⟩) hHeld ?_
    · intro ww hSw
      (try dsimp only at hSw)
      have c0 := (HV0.out.chg n_HV hSw).cell 6 DD.out.1
      have z0 := cell_lt c0
      go_simp
    simp only [Act.put, List.setIfInBounds_toArray, List.set_cons_zero, List.set_cons_succ]
    refine wpAnyH_take (i := 4) (oi := ⟨some 72, _, _, _, _, _⟩) (v := (.pointer (some ⟨b2, o2 + l * 4, none⟩))) rfl (by kernel_rfl) (by kernel_rfl) (by kernel_rfl) (fun _ _ _ h => h) (Or.inl ⟨by rfl, ?_⟩) hHeld ?_
    · intro ww hSw
      clear hSw
      go_simp
    simp only [Act.put, List.setIfInBounds_toArray, List.set_cons_zero, List.set_cons_succ]
    refine wpAnyH_take (i := 5) (oi := ⟨some 73, _, _, _, _, _⟩) (v := (.pointer (some ⟨b2, o2 + l * 4 + 2, none⟩))) rfl (by kernel_rfl) (by kernel_rfl) (by kernel_rfl) (fun _ _ _ h => h) (Or.inl ⟨by rfl, ?_⟩) hHeld ?_
    · intro ww hSw
      clear hSw
      go_simp
    simp only [Act.put, List.setIfInBounds_toArray, List.set_cons_zero, List.set_cons_succ]
    refine wpAnyH_take (i := 6) (oi := ⟨some 74, _, _, _, _, _⟩) (v := (.agg #[.int .i64 un1, .int .i64 ud1])) rfl (by kernel_rfl) (by kernel_rfl) (by kernel_rfl) (fun _ _ _ h => h) (Or.inl ⟨by rfl, ?_⟩) hHeld ?_
    · intro ww hSw
      (try dsimp only at hSw)
      obtain ⟨⟨-, -, c0, c1⟩, -⟩ := X.out ww (HBW0.out.trans (hSw.below HBW0.out.size (fun i hi => by omega)))
      have z0 := cell_lt c0
      go_simp
    simp only [Act.put, List.setIfInBounds_toArray, List.set_cons_zero, List.set_cons_succ]
    refine wpAnyH_take (i := 7) (oi := ⟨some 75, _, _, _, _, _⟩) (v := (.pointer (some ⟨(w.heap.size + 1), 7, none⟩))) rfl (by kernel_rfl) (by kernel_rfl) (by kernel_rfl) (fun _ _ _ h => h) (Or.inl ⟨by rfl, ?_⟩) hHeld ?_
    · intro ww hSw
      clear hSw
      go_simp
    simp only [Act.put, List.setIfInBounds_toArray, List.set_cons_zero, List.set_cons_succ]
    refine wpAnyH_take (i := 8) (oi := ⟨some 76, _, _, _, _, _⟩) (v := (.int .i64 un)) rfl (by kernel_rfl) (by kernel_rfl) (by kernel_rfl) (fun _ _ _ h => h) (Or.inl ⟨by rfl, ?_⟩) hHeld ?_
    · intro ww hSw
      (try dsimp only at hSw)
      have c0 := (HV0.out.chg n_HV hSw).cell 7 DD.out.2.1
      have z0 := cell_lt c0
      go_simp
    simp only [Act.put, List.setIfInBounds_toArray, List.set_cons_zero, List.set_cons_succ]
    refine wpAnyH_take (i := 9) (oi := ⟨some 77, _, _, _, _, _⟩) (v := (.agg #[.int .i64 un, .int .i64 1])) rfl (by kernel_rfl) (by kernel_rfl) (by kernel_rfl) (fun _ _ _ h => h) (Or.inl ⟨by rfl, ?_⟩) hHeld ?_
    · intro ww hSw
      clear hSw
      go_simp
    simp only [Act.put, List.setIfInBounds_toArray, List.set_cons_zero, List.set_cons_succ]
    refine wpAnyH_ready (rs := [10, 14]) (by kernel_rfl) (by simp) ?_
    refine AllReadyH.cons (o := ⟨some 78, _, _, _, _, _⟩) rfl (fun Kx hKx => ?_) (AllReadyH.cons (o := ⟨some 11, _, _, _, _, _⟩) rfl (fun Kx hKx => ?_) AllReadyH.nil)
    · go_simp
      go_at_call 27
      refine (rmul_x un1 ud1 un 1 r3 _ H3.out B2.out.2.2.2.2.1.1 B2.out.2.2.2.2.1.2 (by unfold In64; omega) (by unfold In64; omega)).mono ?_
      rintro e_r v1 ⟨rfl, b_⟩
      replace HB := Lib.hid (HB.out.below b_)
      replace HV := Lib.hid (HV.out.below b_)
      replace HR := Lib.hid (HR.out.below b_)
      replace HK := Lib.hid (HK.out.below b_)
      replace HBW := Lib.hid (bel_on HBW.out b_)
      replace HC := Lib.hid (HC.out.onB b_)
      clear b_ hHeld
      go_wp2_with fail
      refine hKx.out _ _ ?_ (fun hHeld => ?_)
      · (try dsimp only)
        exact HC.out
      clear hKx Kx
      (try simp only [Act.put, List.setIfInBounds_toArray, List.set_cons_zero, List.set_cons_succ])
      refine wpAnyH_take (i := 11) (oi := ⟨some 67, _, _, _, _, _⟩) (v := (.tuple #[.agg #[.int .i64 r3.n, .int .i64 r3.d], .int .i64 r3.c])) rfl (by kernel_rfl) (by kernel_rfl) (by kernel_rfl) (fun _ _ _ h => h) (Or.inl ⟨by rfl, ?_⟩) hHeld ?_
      · intro ww hSw
        clear hSw
        go_simp
      simp only [Act.put, List.setIfInBounds_toArray, List.set_cons_zero, List.set_cons_succ]
      refine wpAnyH_take (i := 12) (oi := ⟨some 79, _, _, _, _, _⟩) (v := (.agg #[.int .i64 r3.n, .int .i64 r3.d])) rfl (by kernel_rfl) (by kernel_rfl) (by kernel_rfl) (fun _ _ _ h => h) (Or.inl ⟨by rfl, ?_⟩) hHeld ?_
      · intro ww hSw
        clear hSw
        go_simp
      simp only [Act.put, List.setIfInBounds_toArray, List.set_cons_zero, List.set_cons_succ]
      refine wpAnyH_take (i := 13) (oi := ⟨some 80, _, _, _, _, _⟩) (v := (.int .i64 r3.c)) rfl (by kernel_rfl) (by kernel_rfl) (by kernel_rfl) (fun _ _ _ h => h) (Or.inl ⟨by rfl, ?_⟩) hHeld ?_
      · intro ww hSw
        clear hSw
        go_simp
      simp only [Act.put, List.setIfInBounds_toArray, List.set_cons_zero, List.set_cons_succ]
      refine wpAnyH_ready (rs := [14]) (by kernel_rfl) (by simp) ?_
      refine AllReadyH.cons (o := ⟨some 11, _, _, _, _, _⟩) rfl (fun Kx hKx => ?_) AllReadyH.nil
      go_simp
      have HN := Lib.hid (Has.new v1 24 #[.int .i64 0, .int .i64 0] rfl)
      have l_HN : wd.heap.size ≤ v1.heap.size := HC.out.size
      replace HB := Lib.hid (HB.out.alloc (.cells #[.int .i64 0, .int .i64 0] 24))
      replace HV := Lib.hid (HV.out.alloc (.cells #[.int .i64 0, .int .i64 0] 24))
      replace HR := Lib.hid (HR.out.alloc (.cells #[.int .i64 0, .int .i64 0] 24))
      replace HK := Lib.hid (HK.out.alloc (.cells #[.int .i64 0, .int .i64 0] 24))
      replace HBW := Lib.hid (bel_alloc HBW.out (.cells #[.int .i64 0, .int .i64 0] 24))
      replace HC := Lib.hid (HC.out.alloc (.cells #[.int .i64 0, .int .i64 0] 24))
      clear hHeld
      refine hKx.out _ _ ?_ (fun hHeld => ?_)
      · (try dsimp only)
        exact HC.out
      clear hKx Kx
      (try simp only [Act.put, List.setIfInBounds_toArray, List.set_cons_zero, List.set_cons_succ])
      generalize v1.alloc (.cells #[.int .i64 0, .int .i64 0] 24) = v2 at *
      generalize v1.heap.size = g11 at *
      refine wpAnyH_ready (rs := [15]) (by kernel_rfl) (by simp) ?_
      refine AllReadyH.cons (o := ⟨none, _, _, _, _, _⟩) rfl (fun Kx hKx => ?_) AllReadyH.nil
      obtain ⟨c0, c1, f0, f1⟩ := HN.out.two
      have z0 := HN.out.size
      go_simp
      replace HC := Lib.hid (HC.out.set (p := ⟨g11, 0, none⟩) (.inl (by simp; omega)) (.int .i64 r3.n))
      replace HBW := Lib.hid (bel_set HBW.out (p := ⟨g11, 0, none⟩) (by simp; omega) (.int .i64 r3.n))
      replace HB := Lib.hid (HB.out.far (p := ⟨g11, 0, none⟩) (by simp; omega) (.int .i64 r3.n))
      replace HV := Lib.hid (HV.out.far (p := ⟨g11, 0, none⟩) (by simp; omega) (.int .i64 r3.n))
      replace HR := Lib.hid (HR.out.far (p := ⟨g11, 0, none⟩) (by simp; omega) (.int .i64 r3.n))
      replace HK := Lib.hid (HK.out.far (p := ⟨g11, 0, none⟩) (by simp; omega) (.int .i64 r3.n))
      replace HN := Lib.hid (HN.out.set 0 (.int .i64 r3.n))
      replace HC := Lib.hid (HC.out.set (p := ⟨g11, 1, none⟩) (.inl (by simp; omega)) (.int .i64 r3.d))
      replace HBW := Lib.hid (bel_set HBW.out (p := ⟨g11, 1, none⟩) (by simp; omega) (.int .i64 r3.d))
      replace HB := Lib.hid (HB.out.far (p := ⟨g11, 1, none⟩) (by simp; omega) (.int .i64 r3.d))
      replace HV := Lib.hid (HV.out.far (p := ⟨g11, 1, none⟩) (by simp; omega) (.int .i64 r3.d))
      replace HR := Lib.hid (HR.out.far (p := ⟨g11, 1, none⟩) (by simp; omega) (.int .i64 r3.d))
      replace HK := Lib.hid (HK.out.far (p := ⟨g11, 1, none⟩) (by simp; omega) (.int .i64 r3.d))
      replace HN := Lib.hid (HN.out.set 1 (.int .i64 r3.d))
      clear c0 c1 f0 f1 z0 hHeld
      refine hKx.out _ _ ?_ (fun hHeld => ?_)
      · (try dsimp only)
        exact HC.out
      clear hKx Kx
      (try simp only [Act.put, List.setIfInBounds_toArray, List.set_cons_zero, List.set_cons_succ])
      refine wpAnyH_take (i := 16) (oi := ⟨some 12, _, _, _, _, _⟩) (v := (.int .i64 r3.c)) rfl (by kernel_rfl) (by kernel_rfl) (by kernel_rfl) (fun _ _ _ h => h) (Or.inl ⟨by rfl, ?_⟩) hHeld ?_
      · intro ww hSw
        clear hSw
        go_simp
      simp only [Act.put, List.setIfInBounds_toArray, List.set_cons_zero, List.set_cons_succ]
      refine wpAnyH_done (by kernel_rfl) ?_ _
      refine NoPanic.normal ?_
      go_wp2_with fail
      go_meet
      exact ⟨g11, rfl, rfl, ⟨by omega, by omega, by omega, by omega, by omega⟩, HN, HK, HB, HV, HR, HBW⟩
    · go_simp
      have HN := Lib.hid (Has.new v0 24 #[.int .i64 0, .int .i64 0] rfl)
      have l_HN : wd.heap.size ≤ v0.heap.size := HC.out.size
      replace HB := Lib.hid (HB.out.alloc (.cells #[.int .i64 0, .int .i64 0] 24))
      replace HV := Lib.hid (HV.out.alloc (.cells #[.int .i64 0, .int .i64 0] 24))
      replace HR := Lib.hid (HR.out.alloc (.cells #[.int .i64 0, .int .i64 0] 24))
      replace HK := Lib.hid (HK.out.alloc (.cells #[.int .i64 0, .int .i64 0] 24))
      replace HBW := Lib.hid (bel_alloc HBW.out (.cells #[.int .i64 0, .int .i64 0] 24))
      replace HC := Lib.hid (HC.out.alloc (.cells #[.int .i64 0, .int .i64 0] 24))
      clear hHeld
      refine hKx.out _ _ ?_ (fun hHeld => ?_)
      · (try dsimp only)
        exact HC.out
      clear hKx Kx
      (try simp only [Act.put, List.setIfInBounds_toArray, List.set_cons_zero, List.set_cons_succ])
      generalize v0.alloc (.cells #[.int .i64 0, .int .i64 0] 24) = v1 at *
      generalize v0.heap.size = g11 at *
      refine wpAnyH_ready (rs := [10]) (by kernel_rfl) (by simp) ?_
      refine AllReadyH.cons (o := ⟨some 78, _, _, _, _, _⟩) rfl (fun Kx hKx => ?_) AllReadyH.nil
      go_simp
      go_at_call 27
      refine (rmul_x un1 ud1 un 1 r3 _ H3.out B2.out.2.2.2.2.1.1 B2.out.2.2.2.2.1.2 (by unfold In64; omega) (by unfold In64; omega)).mono ?_
      rintro e_r v2 ⟨rfl, b_⟩
      replace HB := Lib.hid (HB.out.below b_)
      replace HV := Lib.hid (HV.out.below b_)
      replace HR := Lib.hid (HR.out.below b_)
      replace HN := Lib.hid (HN.out.below b_)
      replace HK := Lib.hid (HK.out.below b_)
      replace HBW := Lib.hid (bel_on HBW.out b_)
      replace HC := Lib.hid (HC.out.onB b_)
      clear b_ hHeld
      go_wp2_with fail
      refine hKx.out _ _ ?_ (fun hHeld => ?_)
      · (try dsimp only)
        exact HC.out
      clear hKx Kx
      (try simp only [Act.put, List.setIfInBounds_toArray, List.set_cons_zero, List.set_cons_succ])
      refine wpAnyH_take (i := 11) (oi := ⟨some 67, _, _, _, _, _⟩) (v := (.tuple #[.agg #[.int .i64 r3.n, .int .i64 r3.d], .int .i64 r3.c])) rfl (by kernel_rfl) (by kernel_rfl) (by kernel_rfl) (fun _ _ _ h => h) (Or.inl ⟨by rfl, ?_⟩) hHeld ?_
      · intro ww hSw
        clear hSw
        go_simp
      simp only [Act.put, List.setIfInBounds_toArray, List.set_cons_zero, List.set_cons_succ]
      refine wpAnyH_take (i := 12) (oi := ⟨some 79, _, _, _, _, _⟩) (v := (.agg #[.int .i64 r3.n, .int .i64 r3.d])) rfl (by kernel_rfl) (by kernel_rfl) (by kernel_rfl) (fun _ _ _ h => h) (Or.inl ⟨by rfl, ?_⟩) hHeld ?_
      · intro ww hSw
        clear hSw
        go_simp
      simp only [Act.put, List.setIfInBounds_toArray, List.set_cons_zero, List.set_cons_succ]
      refine wpAnyH_take (i := 13) (oi := ⟨some 80, _, _, _, _, _⟩) (v := (.int .i64 r3.c)) rfl (by kernel_rfl) (by kernel_rfl) (by kernel_rfl) (fun _ _ _ h => h) (Or.inl ⟨by rfl, ?_⟩) hHeld ?_
      · intro ww hSw
        clear hSw
        go_simp
      simp only [Act.put, List.setIfInBounds_toArray, List.set_cons_zero, List.set_cons_succ]
      refine wpAnyH_ready (rs := [15]) (by kernel_rfl) (by simp) ?_
      refine AllReadyH.cons (o := ⟨none, _, _, _, _, _⟩) rfl (fun Kx hKx => ?_) AllReadyH.nil
      obtain ⟨c0, c1, f0, f1⟩ := HN.out.two
      have z0 := HN.out.size
      go_simp
      replace HC := Lib.hid (HC.out.set (p := ⟨g11, 0, none⟩) (.inl (by simp; omega)) (.int .i64 r3.n))
      replace HBW := Lib.hid (bel_set HBW.out (p := ⟨g11, 0, none⟩) (by simp; omega) (.int .i64 r3.n))
      replace HB := Lib.hid (HB.out.far (p := ⟨g11, 0, none⟩) (by simp; omega) (.int .i64 r3.n))
      replace HV := Lib.hid (HV.out.far (p := ⟨g11, 0, none⟩) (by simp; omega) (.int .i64 r3.n))
      replace HR := Lib.hid (HR.out.far (p := ⟨g11, 0, none⟩) (by simp; omega) (.int .i64 r3.n))
      replace HK := Lib.hid (HK.out.far (p := ⟨g11, 0, none⟩) (by simp; omega) (.int .i64 r3.n))
      replace HN := Lib.hid (HN.out.set 0 (.int .i64 r3.n))
      replace HC := Lib.hid (HC.out.set (p := ⟨g11, 1, none⟩) (.inl (by simp; omega)) (.int .i64 r3.d))
      replace HBW := Lib.hid (bel_set HBW.out (p := ⟨g11, 1, none⟩) (by simp; omega) (.int .i64 r3.d))
      replace HB := Lib.hid (HB.out.far (p := ⟨g11, 1, none⟩) (by simp; omega) (.int .i64 r3.d))
      replace HV := Lib.hid (HV.out.far (p := ⟨g11, 1, none⟩) (by simp; omega) (.int .i64 r3.d))
      replace HR := Lib.hid (HR.out.far (p := ⟨g11, 1, none⟩) (by simp; omega) (.int .i64 r3.d))
      replace HK := Lib.hid (HK.out.far (p := ⟨g11, 1, none⟩) (by simp; omega) (.int .i64 r3.d))
      replace HN := Lib.hid (HN.out.set 1 (.int .i64 r3.d))
      clear c0 c1 f0 f1 z0 hHeld
      refine hKx.out _ _ ?_ (fun hHeld => ?_)
      · (try dsimp only)
        exact HC.out
      clear hKx Kx
      (try simp only [Act.put, List.setIfInBounds_toArray, List.set_cons_zero, List.set_cons_succ])
      refine wpAnyH_take (i := 16) (oi := ⟨some 12, _, _, _, _, _⟩) (v := (.int .i64 r3.c)) rfl (by kernel_rfl) (by kernel_rfl) (by kernel_rfl) (fun _ _ _ h => h) (Or.inl ⟨by rfl, ?_⟩) hHeld ?_
      · intro ww hSw
        clear hSw
        go_simp
      simp only [Act.put, List.setIfInBounds_toArray, List.set_cons_zero, List.set_cons_succ]
      refine wpAnyH_done (by kernel_rfl) ?_ _
      refine NoPanic.normal ?_
      go_wp2_with fail
      go_meet
      exact ⟨g11, rfl, rfl, ⟨by omega, by omega, by omega, by omega, by omega⟩, HN, HK, HB, HV, HR, HBW⟩
  case rest =>
    clear HK HB HV HR HBW s_K s_V s_R s_B
    obtain ⟨g11, rfl, rfl, ⟨l_11, m_HB, m_HV, m_HR, m_H9⟩, HK, H9, HB, HV, HR, HBW⟩ := hcut
    obtain ⟨kr3, he3⟩ : ∃ k, r3.c = k := ⟨_, rfl⟩
    rw [he3]
    have E3 := Lib.hid he3
    clear he3
    by_cases e3 : kr3 = 0
    rotate_left
    · skip
      obtain rfl : XR = ⟨0, 0, kr3⟩ := by rw [← HRX.out]; simp [refX, E2.out, E3.out, e3]
      obtain ⟨c0, c1, f0, f1⟩ := HR.out.two
      have z0 := cell_lt c0
      go_wp2
      obtain ⟨g0, g1, -, -⟩ := (HR.out.set 0 (.int .i64 0)).set 1 (.int .i64 0) |>.two
      refine bodyPost_ret (v := .tuple #[.agg #[.int .i64 0, .int .i64 0], .int .i64 kr3]) (by simp [results, Try.results11, go_sem, g0, g1]) rfl ⟨rfl, ?_⟩
      exact bel_set (bel_set HBW.out (by simp; omega) _) (by simp; omega) _
    subst e3
    clear n_HB n_HV n_HR
    have n_HB := m_HB
    have n_HV := m_HV
    have n_HR := m_HR
    have n_H9 := m_H9
    go_upto_region 15 with fail
    generalize hwd : wc = wd at *
    clear hwd
    have HB0 := HB
    have HV0 := HV
    have HR0 := HR
    have H90 := H9
    have HK0 := HK
    have HBW0 := HBW
    refine wp_region_noPanic ?_
    refine wp_region_held_drew (S := fun w' => Chg (fun b => b = g11) wd w') (by kernel_rfl) (Chg.of_below (below_drew (Below.refl _ _))) (fun hHeld => ?_)
    have HC : Hid (Chg (fun b => b = g11) wd wd.drew) := Lib.hid hHeld
    replace HB := Lib.hid (HB.out.drew)
    replace HV := Lib.hid (HV.out.drew)
    replace HR := Lib.hid (HR.out.drew)
    replace H9 := Lib.hid (H9.out.drew)
    replace HK := Lib.hid (HK.out.drew)
    replace HBW := Lib.hid (below_drew HBW.out)
    generalize wd.drew = v0 at *
    refine wpAnyH_take (i := 0) (oi := ⟨some 86, _, _, _, _, _⟩) (v := (.pointer (some ⟨w.heap.size, 4, none⟩))) rfl (by kernel_rfl) (by kernel_rfl) (by kernel_rfl) (fun _ _ _ h => h) (Or.inl ⟨by rfl, ?_⟩) hHeld ?_
    · intro ww hSw
      clear hSw
      go_simp
    simp only [Act.put, List.setIfInBounds_toArray, List.set_cons_zero, List.set_cons_succ]
    refine wpAnyH_take (i := 1) (oi := ⟨some 87, _, _, _, _, _⟩) (v := (.slice (some ⟨b2, o2, none⟩) nE c2)) rfl (by kernel_rfl) (by kernel_rfl) (by kernel_rfl) (fun _ _ _ h => h) (Or.inl ⟨by rfl, ?_⟩) hHeld ?_
    · intro ww hSw
      (try dsimp only at hSw)
      have c0 := (HB0.out.chg n_HB hSw).cell 4 Q.out.2.2.1
      have z0 := cell_lt c0
      go_simp
    simp only [Act.put, List.setIfInBounds_toArray, List.set_cons_zero, List.set_cons_succ]
    refine wpAnyH_take (i := 2) (oi := ⟨some 88, _, _, _, _, _⟩) (v := (.pointer (some ⟨(w.heap.size + 1), 6, none⟩))) rfl (by kernel_rfl) (by kernel_rfl) (by kernel_rfl) (fun _ _ _ h => h) (Or.inl ⟨by rfl, ?_⟩) hHeld ?_
    · intro ww hSw
      clear hSw
      go_simp
    simp only [Act.put, List.setIfInBounds_toArray, List.set_cons_zero, List.set_cons_succ]
    refine wpAnyH_take (i := 3) (oi := ⟨some 89, _, _, _, _, _⟩) (v := (.int .i64 (l : Int))) rfl (by kernel_rfl) (by kernel_rfl) (by kernel_rfl) (fun _ _ _ h => h) (Or.inl ⟨by rfl, ?_⟩) hHeld ?_
    · intro ww hSw
      (try dsimp only at hSw)
      have c0 := (HV0.out.chg n_HV hSw).cell 6 DD.out.1
      have z0 := cell_lt c0
      go_simp
    simp only [Act.put, List.setIfInBounds_toArray, List.set_cons_zero, List.set_cons_succ]
    refine wpAnyH_take (i := 4) (oi := ⟨some 90, _, _, _, _, _⟩) (v := (.pointer (some ⟨b2, o2 + l * 4, none⟩))) rfl (by kernel_rfl) (by kernel_rfl) (by kernel_rfl) (fun _ _ _ h => h) (Or.inl ⟨by rfl, ?_⟩) hHeld ?_
    · intro ww hSw
      clear hSw
      go_simp
    simp only [Act.put, List.setIfInBounds_toArray, List.set_cons_zero, List.set_cons_succ]
    refine wpAnyH_take (i := 5) (oi := ⟨some 91, _, _, _, _, _⟩) (v := (.pointer (some ⟨b2, o2 + l * 4, none⟩))) rfl (by kernel_rfl) (by kernel_rfl) (by kernel_rfl) (fun _ _ _ h => h) (Or.inl ⟨by rfl, ?_⟩) hHeld ?_
    · intro ww hSw
      clear hSw
      go_simp
    simp only [Act.put, List.setIfInBounds_toArray, List.set_cons_zero, List.set_cons_succ]
    refine wpAnyH_take (i := 6) (oi := ⟨some 92, _, _, _, _, _⟩) (v := (.agg #[.int .i64 fn, .int .i64 fd])) rfl (by kernel_rfl) (by kernel_rfl) (by kernel_rfl) (fun _ _ _ h => h) (Or.inl ⟨by rfl, ?_⟩) hHeld ?_
    · intro ww hSw
      (try dsimp only at hSw)
      obtain ⟨⟨c0, c1, -, -⟩, -⟩ := X.out ww (HBW0.out.trans (hSw.below HBW0.out.size (fun i hi => by omega)))
      have z0 := cell_lt c0
      go_simp
    simp only [Act.put, List.setIfInBounds_toArray, List.set_cons_zero, List.set_cons_succ]
    refine wpAnyH_ready (rs := [7]) (by kernel_rfl) (by simp) ?_
    refine AllReadyH.cons (o := ⟨some 93, _, _, _, _, _⟩) rfl (fun Kx hKx => ?_) AllReadyH.nil
    obtain ⟨c0, c1, -, -⟩ := HK.out.two
    have z0 := HK.out.size
    go_simp
    clear c0 c1 z0 hHeld
    refine hKx.out _ _ ?_ (fun hHeld => ?_)
    · (try dsimp only)
      exact HC.out
    clear hKx Kx
    (try simp only [Act.put, List.setIfInBounds_toArray, List.set_cons_zero, List.set_cons_succ])
    refine wpAnyH_ready (rs := [8]) (by kernel_rfl) (by simp) ?_
    refine AllReadyH.cons (o := ⟨some 94, _, _, _, _, _⟩) rfl (fun Kx hKx => ?_) AllReadyH.nil
    go_simp
    have RB := Lib.hid (rats_new v0 [(fn, fd), (r3.n, r3.d)] 24 #[.int .i64 fn, .int .i64 fd, .int .i64 r3.n, .int .i64 r3.d] rfl (by simp only [List.mem_cons, List.not_mem_nil, or_false]; rintro x (rfl | rfl); all_goals (have := B2.out; have := B3.out; simp only [In64] at *; omega)))
    replace HB := Lib.hid (HB.out.alloc (.cells #[.int .i64 fn, .int .i64 fd, .int .i64 r3.n, .int .i64 r3.d] 24))
    replace HV := Lib.hid (HV.out.alloc (.cells #[.int .i64 fn, .int .i64 fd, .int .i64 r3.n, .int .i64 r3.d] 24))
    replace HR := Lib.hid (HR.out.alloc (.cells #[.int .i64 fn, .int .i64 fd, .int .i64 r3.n, .int .i64 r3.d] 24))
    replace H9 := Lib.hid (H9.out.alloc (.cells #[.int .i64 fn, .int .i64 fd, .int .i64 r3.n, .int .i64 r3.d] 24))
    replace HK := Lib.hid (HK.out.alloc (.cells #[.int .i64 fn, .int .i64 fd, .int .i64 r3.n, .int .i64 r3.d] 24))
    replace HBW := Lib.hid (bel_alloc HBW.out (.cells #[.int .i64 fn, .int .i64 fd, .int .i64 r3.n, .int .i64 r3.d] 24))
    replace HC := Lib.hid (HC.out.alloc (.cells #[.int .i64 fn, .int .i64 fd, .int .i64 r3.n, .int .i64 r3.d] 24))
    clear hHeld
    refine hKx.out _ _ ?_ (fun hHeld => ?_)
    · (try dsimp only)
      exact HC.out
    clear hKx Kx
    (try simp only [Act.put, List.setIfInBounds_toArray, List.set_cons_zero, List.set_cons_succ])
    generalize v0.alloc (.cells #[.int .i64 fn, .int .i64 fd, .int .i64 r3.n, .int .i64 r3.d] 24) = v1 at *
    generalize v0.heap.size = A94 at *
    refine wpAnyH_ready (rs := [9]) (by kernel_rfl) (by simp) ?_
    refine AllReadyH.cons (o := ⟨some 95, _, _, _, _, _⟩) rfl (fun Kx hKx => ?_) AllReadyH.nil
    go_simp
    go_at_call 29
    refine (rsum_x fn fd r3.n r3.d r4 _ 2 _ H4.out RB.out).mono ?_
    rintro e_r v2 ⟨rfl, b_⟩
    replace HB := Lib.hid (HB.out.below b_)
    replace HV := Lib.hid (HV.out.below b_)
    replace HR := Lib.hid (HR.out.below b_)
    replace H9 := Lib.hid (H9.out.below b_)
    replace HK := Lib.hid (HK.out.below b_)
    replace HBW := Lib.hid (bel_on HBW.out b_)
    replace HC := Lib.hid (HC.out.onB b_)
    clear b_ hHeld RB
    go_wp2_with fail
    refine hKx.out _ _ ?_ (fun hHeld => ?_)
    · (try dsimp only)
      exact HC.out
    clear hKx Kx
    (try simp only [Act.put, List.setIfInBounds_toArray, List.set_cons_zero, List.set_cons_succ])
    refine wpAnyH_take (i := 10) (oi := ⟨some 85, _, _, _, _, _⟩) (v := (.tuple #[.agg #[.int .i64 r4.n, .int .i64 r4.d], .int .i64 r4.c])) rfl (by kernel_rfl) (by kernel_rfl) (by kernel_rfl) (fun _ _ _ h => h) (Or.inl ⟨by rfl, ?_⟩) hHeld ?_
    · intro ww hSw
      clear hSw
      go_simp
    simp only [Act.put, List.setIfInBounds_toArray, List.set_cons_zero, List.set_cons_succ]
    refine wpAnyH_take (i := 11) (oi := ⟨some 96, _, _, _, _, _⟩) (v := (.agg #[.int .i64 r4.n, .int .i64 r4.d])) rfl (by kernel_rfl) (by kernel_rfl) (by kernel_rfl) (fun _ _ _ h => h) (Or.inl ⟨by rfl, ?_⟩) hHeld ?_
    · intro ww hSw
      clear hSw
      go_simp
    simp only [Act.put, List.setIfInBounds_toArray, List.set_cons_zero, List.set_cons_succ]
    refine wpAnyH_take (i := 12) (oi := ⟨some 97, _, _, _, _, _⟩) (v := (.int .i64 r4.c)) rfl (by kernel_rfl) (by kernel_rfl) (by kernel_rfl) (fun _ _ _ h => h) (Or.inl ⟨by rfl, ?_⟩) hHeld ?_
    · intro ww hSw
      clear hSw
      go_simp
    simp only [Act.put, List.setIfInBounds_toArray, List.set_cons_zero, List.set_cons_succ]
    refine wpAnyH_ready (rs := [13]) (by kernel_rfl) (by simp) ?_
    refine AllReadyH.cons (o := ⟨none, _, _, _, _, _⟩) rfl (fun Kx hKx => ?_) AllReadyH.nil
    obtain ⟨c0, c1, f0, f1⟩ := HK.out.two
    have z0 := HK.out.size
    go_simp
    replace HC := Lib.hid (HC.out.set (p := ⟨g11, 0, none⟩) (.inr rfl) (.int .i64 r4.n))
    replace HBW := Lib.hid (bel_set HBW.out (p := ⟨g11, 0, none⟩) (by simp; omega) (.int .i64 r4.n))
    replace HB := Lib.hid (HB.out.far (p := ⟨g11, 0, none⟩) (by simp; omega) (.int .i64 r4.n))
    replace HV := Lib.hid (HV.out.far (p := ⟨g11, 0, none⟩) (by simp; omega) (.int .i64 r4.n))
    replace HR := Lib.hid (HR.out.far (p := ⟨g11, 0, none⟩) (by simp; omega) (.int .i64 r4.n))
    replace H9 := Lib.hid (H9.out.far (p := ⟨g11, 0, none⟩) (by simp; omega) (.int .i64 r4.n))
    replace HK := Lib.hid (HK.out.set 0 (.int .i64 r4.n))
    replace HC := Lib.hid (HC.out.set (p := ⟨g11, 1, none⟩) (.inr rfl) (.int .i64 r4.d))
    replace HBW := Lib.hid (bel_set HBW.out (p := ⟨g11, 1, none⟩) (by simp; omega) (.int .i64 r4.d))
    replace HB := Lib.hid (HB.out.far (p := ⟨g11, 1, none⟩) (by simp; omega) (.int .i64 r4.d))
    replace HV := Lib.hid (HV.out.far (p := ⟨g11, 1, none⟩) (by simp; omega) (.int .i64 r4.d))
    replace HR := Lib.hid (HR.out.far (p := ⟨g11, 1, none⟩) (by simp; omega) (.int .i64 r4.d))
    replace H9 := Lib.hid (H9.out.far (p := ⟨g11, 1, none⟩) (by simp; omega) (.int .i64 r4.d))
    replace HK := Lib.hid (HK.out.set 1 (.int .i64 r4.d))
    clear c0 c1 f0 f1 z0 hHeld
    refine hKx.out _ _ ?_ (fun hHeld => ?_)
    · (try dsimp only)
      exact HC.out
    clear hKx Kx
    (try simp only [Act.put, List.setIfInBounds_toArray, List.set_cons_zero, List.set_cons_succ])
    refine wpAnyH_take (i := 14) (oi := ⟨some 12, _, _, _, _, _⟩) (v := (.int .i64 r4.c)) rfl (by kernel_rfl) (by kernel_rfl) (by kernel_rfl) (fun _ _ _ h => h) (Or.inl ⟨by rfl, ?_⟩) hHeld ?_
    · intro ww hSw
      clear hSw
      go_simp
    simp only [Act.put, List.setIfInBounds_toArray, List.set_cons_zero, List.set_cons_succ]
    refine wpAnyH_done (by kernel_rfl) ?_ _
    refine NoPanic.normal ?_
    clear HC hHeld HB0 HV0 HR0 H90 HK0 HBW0
    have HK : Hid (Has _ g11 #[.int .i64 r4.n, .int .i64 r4.d]) := HK
    go_upto_region 16 with fail
    generalize (v2.setCell ⟨g11, 0, none⟩ (.int .i64 r4.n)).setCell ⟨g11, 1, none⟩ (.int .i64 r4.d) = wd at *
    have HB0 := HB
    have HV0 := HV
    have HR0 := HR
    have H90 := H9
    have HK0 := HK
    have HBW0 := HBW
    refine wp_region_noPanic ?_
    refine wp_region_held_drew (S := fun w' => Chg (fun b => b = g11) wd w') (by kernel_rfl) (Chg.of_below (below_drew (Below.refl _ _))) (fun hHeld => ?_)
    have HC : Hid (Chg (fun b => b = g11) wd wd.drew) := Lib.hid hHeld
    replace HB := Lib.hid (HB.out.drew)
    replace HV := Lib.hid (HV.out.drew)
    replace HR := Lib.hid (HR.out.drew)
    replace H9 := Lib.hid (H9.out.drew)
    replace HK := Lib.hid (HK.out.drew)
    replace HBW := Lib.hid (below_drew HBW.out)
    generalize wd.drew = v0 at *
    refine wpAnyH_take (i := 1) (oi := ⟨some 100, _, _, _, _, _⟩) (v := (.int .i64 r4.c)) rfl (by kernel_rfl) (by kernel_rfl) (by kernel_rfl) (fun _ _ _ h => h) (Or.inl ⟨by rfl, ?_⟩) hHeld ?_
    · intro ww hSw
      clear hSw
      go_simp
    simp only [Act.put, List.setIfInBounds_toArray, List.set_cons_zero, List.set_cons_succ]
    refine wpAnyH_take (i := 2) (oi := ⟨some 101, _, _, _, _, _⟩) (v := (.pointer (some ⟨w.heap.size, 5, none⟩))) rfl (by kernel_rfl) (by kernel_rfl) (by kernel_rfl) (fun _ _ _ h => h) (Or.inl ⟨by rfl, ?_⟩) hHeld ?_
    · intro ww hSw
      clear hSw
      go_simp
    simp only [Act.put, List.setIfInBounds_toArray, List.set_cons_zero, List.set_cons_succ]
    refine wpAnyH_take (i := 3) (oi := ⟨some 102, _, _, _, _, _⟩) (v := (.slice (some ⟨b3, o3, none⟩) nC c3)) rfl (by kernel_rfl) (by kernel_rfl) (by kernel_rfl) (fun _ _ _ h => h) (Or.inl ⟨by rfl, ?_⟩) hHeld ?_
    · intro ww hSw
      (try dsimp only at hSw)
      have c0 := (HB0.out.chg n_HB hSw).cell 5 Q.out.2.2.2.1
      have z0 := cell_lt c0
      go_simp
    simp only [Act.put, List.setIfInBounds_toArray, List.set_cons_zero, List.set_cons_succ]
    refine wpAnyH_take (i := 4) (oi := ⟨some 103, _, _, _, _, _⟩) (v := (.pointer (some ⟨(w.heap.size + 1), 8, none⟩))) rfl (by kernel_rfl) (by kernel_rfl) (by kernel_rfl) (fun _ _ _ h => h) (Or.inl ⟨by rfl, ?_⟩) hHeld ?_
    · intro ww hSw
      clear hSw
      go_simp
    simp only [Act.put, List.setIfInBounds_toArray, List.set_cons_zero, List.set_cons_succ]
    refine wpAnyH_take (i := 5) (oi := ⟨some 104, _, _, _, _, _⟩) (v := (.int .i64 (c : Int))) rfl (by kernel_rfl) (by kernel_rfl) (by kernel_rfl) (fun _ _ _ h => h) (Or.inl ⟨by rfl, ?_⟩) hHeld ?_
    · intro ww hSw
      (try dsimp only at hSw)
      have c0 := (HV0.out.chg n_HV hSw).cell 8 DD.out.2.2.1
      have z0 := cell_lt c0
      go_simp
    simp only [Act.put, List.setIfInBounds_toArray, List.set_cons_zero, List.set_cons_succ]
    refine wpAnyH_take (i := 6) (oi := ⟨some 105, _, _, _, _, _⟩) (v := (.pointer (some ⟨b3, o3 + c * 2, none⟩))) rfl (by kernel_rfl) (by kernel_rfl) (by kernel_rfl) (fun _ _ _ h => h) (Or.inl ⟨by rfl, ?_⟩) hHeld ?_
    · intro ww hSw
      clear hSw
      go_simp
    simp only [Act.put, List.setIfInBounds_toArray, List.set_cons_zero, List.set_cons_succ]
    refine wpAnyH_take (i := 7) (oi := ⟨some 106, _, _, _, _, _⟩) (v := (.agg #[.int .i64 cn1, .int .i64 cd1])) rfl (by kernel_rfl) (by kernel_rfl) (by kernel_rfl) (fun _ _ _ h => h) (Or.inl ⟨by rfl, ?_⟩) hHeld ?_
    · intro ww hSw
      (try dsimp only at hSw)
      obtain ⟨-, ⟨c0, c1⟩, -⟩ := X.out ww (HBW0.out.trans (hSw.below HBW0.out.size (fun i hi => by omega)))
      have z0 := cell_lt c0
      go_simp
    simp only [Act.put, List.setIfInBounds_toArray, List.set_cons_zero, List.set_cons_succ]
    refine wpAnyH_ready (rs := [0]) (by kernel_rfl) (by simp) ?_
    refine AllReadyH.cons (o := ⟨some 99, _, _, _, _, _⟩) rfl (fun Kx hKx => ?_) AllReadyH.nil
    obtain ⟨c0, c1, -, -⟩ := HK.out.two
    have z0 := HK.out.size
    go_simp
    clear c0 c1 z0 hHeld
    refine hKx.out _ _ ?_ (fun hHeld => ?_)
    · (try dsimp only)
      exact HC.out
    clear hKx Kx
    (try simp only [Act.put, List.setIfInBounds_toArray, List.set_cons_zero, List.set_cons_succ])
    refine wpAnyH_ready (rs := [8]) (by kernel_rfl) (by simp) ?_
    refine AllReadyH.cons (o := ⟨some 107, _, _, _, _, _⟩) rfl (fun Kx hKx => ?_) AllReadyH.nil
    go_simp
    go_at_call 28
    refine (rgtimes_c r4 r5 cn1 cd1 _ H5.out B3.out.2.2.2.1.1 B3.out.2.2.2.1.2 B2.out.2.2.1.1 B2.out.2.2.1.2).mono ?_
    rintro e_r v1 ⟨rfl, b_⟩
    replace HB := Lib.hid (HB.out.below b_)
    replace HV := Lib.hid (HV.out.below b_)
    replace HR := Lib.hid (HR.out.below b_)
    replace H9 := Lib.hid (H9.out.below b_)
    replace HK := Lib.hid (HK.out.below b_)
    replace HBW := Lib.hid (bel_on HBW.out b_)
    replace HC := Lib.hid (HC.out.onB b_)
    clear b_ hHeld
    go_wp2_with fail
    refine hKx.out _ _ ?_ (fun hHeld => ?_)
    · (try dsimp only)
      exact HC.out
    clear hKx Kx
    (try simp only [Act.put, List.setIfInBounds_toArray, List.set_cons_zero, List.set_cons_succ])
    refine wpAnyH_take (i := 9) (oi := ⟨some 98, _, _, _, _, _⟩) (v := (.tuple #[.agg #[.int .i64 r5.n, .int .i64 r5.d], .int .i64 r5.c])) rfl (by kernel_rfl) (by kernel_rfl) (by kernel_rfl) (fun _ _ _ h => h) (Or.inl ⟨by rfl, ?_⟩) hHeld ?_
    · intro ww hSw
      clear hSw
      go_simp
    simp only [Act.put, List.setIfInBounds_toArray, List.set_cons_zero, List.set_cons_succ]
    refine wpAnyH_take (i := 10) (oi := ⟨some 108, _, _, _, _, _⟩) (v := (.agg #[.int .i64 r5.n, .int .i64 r5.d])) rfl (by kernel_rfl) (by kernel_rfl) (by kernel_rfl) (fun _ _ _ h => h) (Or.inl ⟨by rfl, ?_⟩) hHeld ?_
    · intro ww hSw
      clear hSw
      go_simp
    simp only [Act.put, List.setIfInBounds_toArray, List.set_cons_zero, List.set_cons_succ]
    refine wpAnyH_take (i := 11) (oi := ⟨some 109, _, _, _, _, _⟩) (v := (.int .i64 r5.c)) rfl (by kernel_rfl) (by kernel_rfl) (by kernel_rfl) (fun _ _ _ h => h) (Or.inl ⟨by rfl, ?_⟩) hHeld ?_
    · intro ww hSw
      clear hSw
      go_simp
    simp only [Act.put, List.setIfInBounds_toArray, List.set_cons_zero, List.set_cons_succ]
    refine wpAnyH_ready (rs := [12]) (by kernel_rfl) (by simp) ?_
    refine AllReadyH.cons (o := ⟨none, _, _, _, _, _⟩) rfl (fun Kx hKx => ?_) AllReadyH.nil
    obtain ⟨c0, c1, f0, f1⟩ := HK.out.two
    have z0 := HK.out.size
    go_simp
    replace HC := Lib.hid (HC.out.set (p := ⟨g11, 0, none⟩) (.inr rfl) (.int .i64 r5.n))
    replace HBW := Lib.hid (bel_set HBW.out (p := ⟨g11, 0, none⟩) (by simp; omega) (.int .i64 r5.n))
    replace HB := Lib.hid (HB.out.far (p := ⟨g11, 0, none⟩) (by simp; omega) (.int .i64 r5.n))
    replace HV := Lib.hid (HV.out.far (p := ⟨g11, 0, none⟩) (by simp; omega) (.int .i64 r5.n))
    replace HR := Lib.hid (HR.out.far (p := ⟨g11, 0, none⟩) (by simp; omega) (.int .i64 r5.n))
    replace H9 := Lib.hid (H9.out.far (p := ⟨g11, 0, none⟩) (by simp; omega) (.int .i64 r5.n))
    replace HK := Lib.hid (HK.out.set 0 (.int .i64 r5.n))
    replace HC := Lib.hid (HC.out.set (p := ⟨g11, 1, none⟩) (.inr rfl) (.int .i64 r5.d))
    replace HBW := Lib.hid (bel_set HBW.out (p := ⟨g11, 1, none⟩) (by simp; omega) (.int .i64 r5.d))
    replace HB := Lib.hid (HB.out.far (p := ⟨g11, 1, none⟩) (by simp; omega) (.int .i64 r5.d))
    replace HV := Lib.hid (HV.out.far (p := ⟨g11, 1, none⟩) (by simp; omega) (.int .i64 r5.d))
    replace HR := Lib.hid (HR.out.far (p := ⟨g11, 1, none⟩) (by simp; omega) (.int .i64 r5.d))
    replace H9 := Lib.hid (H9.out.far (p := ⟨g11, 1, none⟩) (by simp; omega) (.int .i64 r5.d))
    replace HK := Lib.hid (HK.out.set 1 (.int .i64 r5.d))
    clear c0 c1 f0 f1 z0 hHeld
    refine hKx.out _ _ ?_ (fun hHeld => ?_)
    · (try dsimp only)
      exact HC.out
    clear hKx Kx
    (try simp only [Act.put, List.setIfInBounds_toArray, List.set_cons_zero, List.set_cons_succ])
    refine wpAnyH_take (i := 13) (oi := ⟨some 12, _, _, _, _, _⟩) (v := (.int .i64 r5.c)) rfl (by kernel_rfl) (by kernel_rfl) (by kernel_rfl) (fun _ _ _ h => h) (Or.inl ⟨by rfl, ?_⟩) hHeld ?_
    · intro ww hSw
      clear hSw
      go_simp
    simp only [Act.put, List.setIfInBounds_toArray, List.set_cons_zero, List.set_cons_succ]
    refine wpAnyH_done (by kernel_rfl) ?_ _
    refine NoPanic.normal ?_
    clear HC hHeld HB0 HV0 HR0 H90 HK0 HBW0
    have HK : Hid (Has _ g11 #[.int .i64 r5.n, .int .i64 r5.d]) := HK
    obtain ⟨kr5, he5⟩ : ∃ k, r5.c = k := ⟨_, rfl⟩
    rw [he5]
    have E5 := Lib.hid he5
    clear he5
    by_cases e5 : kr5 = 0
    rotate_left
    · skip
      obtain rfl : XR = ⟨0, 0, kr5⟩ := by rw [← HRX.out]; simp [refX, E2.out, E3.out, E5.out, e5]
      obtain ⟨c0, c1, f0, f1⟩ := HR.out.two
      have z0 := cell_lt c0
      go_wp2
      obtain ⟨g0, g1, -, -⟩ := (HR.out.set 0 (.int .i64 0)).set 1 (.int .i64 0) |>.two
      refine bodyPost_ret (v := .tuple #[.agg #[.int .i64 0, .int .i64 0], .int .i64 kr5]) (by simp [results, Try.results11, go_sem, g0, g1]) rfl ⟨rfl, ?_⟩
      exact bel_set (bel_set HBW.out (by simp; omega) _) (by simp; omega) _
    subst e5
    obtain rfl : r7 = XR := by rw [← HRX.out]; simp [refX, E2.out, E3.out, E5.out]
    go_upto_region 19 with fail
    generalize (v1.setCell ⟨g11, 0, none⟩ (.int .i64 r5.n)).setCell ⟨g11, 1, none⟩ (.int .i64 r5.d) = wd at *
    obtain ⟨c0, c1, -, -⟩ := H9.out.two
    have z0 := H9.out.size
    obtain ⟨c2, c3, -, -⟩ := HK.out.two
    have z2 := HK.out.size
    go_wp2_with fail
    clear c0 c1 c2 c3 z0 z2
    have RB := Lib.hid (rats_new wd [(r2.n, r2.d), (r5.n, r5.d)] 24 #[.int .i64 r2.n, .int .i64 r2.d, .int .i64 r5.n, .int .i64 r5.d] rfl (by simp only [List.mem_cons, List.not_mem_nil, or_false]; rintro x (rfl | rfl); all_goals (have := B2.out; have := B3.out; simp only [In64] at *; omega)))
    refine (rsum_x r2.n r2.d r5.n r5.d r6 _ 2 _ H6.out RB.out).mono ?_
    rintro x6 w6 ⟨rfl, b_⟩
    replace HB := Lib.hid ((HB.out.alloc _).below b_)
    replace HR := Lib.hid ((HR.out.alloc _).below b_)
    replace HBW := Lib.hid (bel_on (bel_alloc HBW.out _) b_)
    clear b_ RB H9 HK HV
    have y7 := HB.out.cell 7 Q.out.2.2.2.2.2
    have y7l := cell_lt y7
    have hw100 : IntKind.i64.wrap (100 + al) = 100 + al := wrapr_id (by omega) (by omega)
    go_wp2_with fail
    clear y7 y7l hw100
    have H13 := Lib.hid (Has.new w6 24 #[.int .i64 r6.n, .int .i64 r6.d] rfl)
    refine (rmake_x (100 + al) 100 an ad _ M3.out (by omega) (by omega)).mono ?_
    rintro x7 w7 ⟨rfl, b_⟩
    replace H13 := Lib.hid (H13.out.below b_)
    replace HR := Lib.hid ((HR.out.alloc _).below b_)
    replace HBW := Lib.hid (bel_on (bel_alloc HBW.out _) b_)
    clear b_ HB
    obtain ⟨c0, c1, -, -⟩ := H13.out.two
    have z0 := H13.out.size
    go_wp2_with fail
    clear c0 c1 z0
    refine (rgtimes_c r6 r7 an ad _ H7.out B3.out.2.2.2.2.2.1 B3.out.2.2.2.2.2.2 B2.out.2.2.2.2.2.1 B2.out.2.2.2.2.2.2).mono ?_
    rintro x8 w8 ⟨rfl, b_⟩
    replace HR := Lib.hid ((HR.out.alloc _).below b_)
    replace HBW := Lib.hid (bel_on (bel_alloc HBW.out _) b_)
    clear b_ H13
    obtain ⟨c0, c1, f0, f1⟩ := HR.out.two
    have z0 := HR.out.size
    go_wp2
    obtain ⟨g0, g1, -, -⟩ := (show Has _ _ #[.int .i64 r7.n, .int .i64 r7.d] from (HR.out.set 0 (.int .i64 r7.n)).set 1 (.int .i64 r7.d)).two
    refine bodyPost_ret (v := .tuple #[.agg #[.int .i64 r7.n, .int .i64 r7.d], .int .i64 r7.c]) (by simp [results, Try.results11, go_sem, g0, g1]) rfl ⟨rfl, ?_⟩
    exact bel_set (bel_set HBW.out (by simp; omega) _) (by simp; omega) _
/-- lumperref10.Of: how long a task is to take. -/
theorem rof_any {w : World} {s : SetP} {cs : Array Value} (h : SetC w s cs) (hf : s.Fit) (e : EvP) (hi : e.In) (X : Rat2) (hX : goalE s e = X) :
    Calls Try.prog 11 #[.agg cs, .agg (evC e)] w fun x w' => x = .returned (.tuple #[.agg #[.int .i64 X.n, .int .i64 X.d], .int .i64 X.c]) ∧ Below w.heap.size w w' := by
  by_cases ht : TaskP s e
  · rw [goalE_yes ht] at hX
    have hq : GoQ s e (farV s e.fr e.to) _ _ _ _ _ _ _ (mkN (100 + s.allow) 100) (mkD (100 + s.allow) 100) := ⟨rfl, rfl, rfl, rfl, rfl, rfl, rfl⟩
    exact rof_main h hf e hi ht.1 ht.2.1 ht.2.2.1 _ rfl ht.2.2.2 _ _ _ _ _ _ _ _ _ hq rfl rfl X (by rw [← hX]; exact (ref_chain hq rfl rfl).symm)
  · rw [goalE_no ht] at hX
    subst hX
    by_cases h1 : checkB s = true
    · by_cases h2 : EvIn s e
      · by_cases h3 : e.kd = 3
        · by_cases h4 : farV s e.fr e.to = -1
          · exact rof_far h hf e hi h1 h2 h3 h4
          · exact absurd ⟨h1, h2, h3, h4⟩ ht
        · exact rof_kind h hf e hi h1 h2 h3
      · exact rof_ev h hf e hi h1 h2
    · exact rof_set h hf e hi (by simpa using h1)
end Go.Proofs.Ytoconmcmnikdnaa
