/-
  goal.Of.
-/
import Derived.Test.YtpgncbhahocmbaaGreatQay
namespace Go.Proofs.YtpgncbhahocmbaaGreat
open Go.RowKit
set_option linter.unusedVariables false
set_option linter.unusedSimpArgs false
set_option maxRecDepth 20000

/-- Where the call's own blocks lie. -/
structure GoN (n L gs ge r4 K T G : Nat) : Prop where
  base : n ≤ gs ∧ n ≤ ge ∧ n ≤ r4 ∧ n ≤ K ∧ n ≤ T ∧ n ≤ G
  lim : gs < L ∧ ge < L ∧ r4 < L ∧ K < L ∧ T < L ∧ G < L
  one : ¬ gs = K ∧ ¬ ge = K ∧ ¬ r4 = K ∧ ¬ T = K ∧ ¬ G = K
  two : ¬ gs = r4 ∧ ¬ ge = r4 ∧ ¬ K = r4 ∧ ¬ T = r4 ∧ ¬ G = r4
/-- What the call keeps: its arguments, its result, what is wrong. -/
structure GoW (w : World) (L gs ge r4 K T G : Nat) (cs es : Array Value) (el : Array Value) (e : Int) (wx : World) : Prop where
  bel : Below w.heap.size w wx
  lim : L ≤ wx.heap.size
  s : Has wx gs cs
  v : Has wx ge es
  r : Has wx r4 #[.int .i64 0, .int .i64 0]
  k : Has wx K #[.int .i64 e]
  t : Has wx T #[.func (.func 62) #[] #[.pointer (some ⟨K, 0, none⟩)]]
  g : Has wx G el
section
variable {w wx wy : World} {L gs ge r4 K T G : Nat} {cs es el : Array Value} {e e' : Int}
theorem GoW.drew (h : GoW w L gs ge r4 K T G cs es el e wx) : GoW w L gs ge r4 K T G cs es el e wx.drew := ⟨below_drew h.bel, h.lim, h.s.drew, h.v.drew, h.r.drew, h.k.drew, h.t.drew, h.g.drew⟩
theorem GoW.below (h : GoW w L gs ge r4 K T G cs es el e wx) (b : Below wx.heap.size wx wy) : GoW w L gs ge r4 K T G cs es el e wy :=
  ⟨bel_on h.bel b, Nat.le_trans h.lim b.size, h.s.below b, h.v.below b, h.r.below b, h.k.below b, h.t.below b, h.g.below b⟩
theorem GoW.alloc (h : GoW w L gs ge r4 K T G cs es el e wx) (o : Obj) : GoW w L gs ge r4 K T G cs es el e (wx.alloc o) := h.below (bel_alloc (Below.refl _ _) o)
theorem GoW.keep (h : GoW w L gs ge r4 K T G cs es el e wx) (n : GoN w.heap.size L gs ge r4 K T G) (k : Has wy K #[.int .i64 e']) (c : Chg (fun b => b = K) wx wy) : GoW w L gs ge r4 K T G cs es el e' wy :=
  ⟨h.bel.trans (c.below (by have := h.lim; have := n.lim; have := n.base; omega) (fun i hi => by have := n.base; omega)), Nat.le_trans h.lim c.size, h.s.chg n.one.1 c, h.v.chg n.one.2.1 c, h.r.chg n.one.2.2.1 c, k, h.t.chg n.one.2.2.2.1 c, h.g.chg n.one.2.2.2.2 c⟩
theorem GoW.far (h : GoW w L gs ge r4 K T G cs es el e wx) (n : GoN w.heap.size L gs ge r4 K T G) {p : Addr} (hp : L ≤ p.block) (u : Value) : GoW w L gs ge r4 K T G cs es el e (wx.setCell p u) := by
  have := n.lim
  have := n.base
  exact ⟨bel_set h.bel (by omega) u, by simp [World.setCell]; exact h.lim, h.s.far (by omega) u, h.v.far (by omega) u, h.r.far (by omega) u, h.k.far (by omega) u, h.t.far (by omega) u, h.g.far (by omega) u⟩
theorem GoW.belc (h : GoW w L gs ge r4 K T G cs es el e wx) (n : GoN w.heap.size L gs ge r4 K T G) (c : Chg (fun b => b = K) wx wy) : Below w.heap.size w wy :=
  h.bel.trans (c.below (by have := h.lim; have := n.lim; have := n.base; omega) (fun i hi => by have := n.base; omega))
end
theorem wrapg_id {a : Int} (h0 : -9223372036854775808 ≤ a) (h1 : a < 9223372036854775808) : IntKind.i64.wrap a = a := by
  simp [IntKind.wrap, IntKind.bits, IntKind.signed]
  split <;> omega
theorem qsum_x (a b c d : Int) (X : Rat2) (A : Option Addr) (cap : Nat) (w : World) (hX : plusR a b c d = X) (hx : Rats w A [(a, b), (c, d)]) :
    Calls Tryz.prog 25 #[.slice A 2 cap] w fun e w' => e = .returned (.tuple #[.agg #[.int .i64 X.n, .int .i64 X.d], .int .i64 X.c]) ∧ Below w.heap.size w w' := by
  subst hX
  refine (ratsum_any A cap [(a, b), (c, d)] w hx (by simp)).mono ?_
  rintro e w' ⟨rfl, hb⟩
  exact ⟨ret_rr (sumR_two a b c d), hb⟩
theorem qmake_x (n d : Int) (x y : Int) (w : World) (hX : mkR n d = ⟨x, y, 0⟩) (hn : -9223372036854775808 ≤ n ∧ n ≤ 9223372036854775807) (hd : -9223372036854775808 ≤ d ∧ d ≤ 9223372036854775807) :
    Calls Tryz.prog 21 #[.int .i64 n, .int .i64 d] w fun e w' => e = .returned (.tuple #[.agg #[.int .i64 x, .int .i64 y], .int .i64 0]) ∧ Below w.heap.size w w' := by
  refine (make_any n d w hn.1 hn.2 hd.1 hd.2).mono ?_
  rintro e w' ⟨rfl, h⟩
  refine ⟨?_, h⟩
  unfold mkR at hX
  simp only [Rat2.mk.injEq] at hX
  rw [hX.1, hX.2.1, hX.2.2]
/-- The call on a task that may be. -/
structure GoH (s : SetP) (e : EvP) (D : Int) (r1 r2 r3 r4 r5 r6 r7 : Rat2) (an ad : Int) : Prop where
  h1 : mulR s.pn s.pd D 1 = r1
  h2 : mulR r1.n r1.d (rowN s.gears e.ge.toNat 0) (rowN s.gears e.ge.toNat 1) = r2
  h3 : mulR (rowN s.elements e.el.toNat 2) (rowN s.elements e.el.toNat 3) e.un 1 = r3
  h4 : plusR (rowN s.elements e.el.toNat 0) (rowN s.elements e.el.toNat 1) r3.n r3.d = r4
  h5 : mulR r4.n r4.d (rowN s.classes e.cl.toNat 0) (rowN s.classes e.cl.toNat 1) = r5
  h6 : plusR r2.n r2.d r5.n r5.d = r6
  h7 : mulR r6.n r6.d an ad = r7
set_option maxHeartbeats 4000000 in
theorem gof_set {w : World} {s : SetP} {cs : Array Value} (h : SetC w s cs) (hf : s.Fit) (e : EvP) (hi : e.In) (hc : checkB s = false) :
    Calls Tryz.prog 24 #[.agg cs, .agg (evC e)] w fun x w' => x = .returned (.tuple #[.agg #[.int .i64 0, .int .i64 0], .int .i64 100]) ∧ Below w.heap.size w w' := by
  have HZ := Lib.hid h.size
  have HZE := Lib.hid (evC_size e)
  have cC : Hid (∀ wx, SetC wx s cs → Calls Tryz.prog 16 #[.agg cs] wx fun x w' => x = .returned (.bool false) ∧ Below wx.heap.size wx w') := Lib.hid (fun wx hs => scheck_c hs hf _ hc)
  have HS := Lib.hid h
  generalize evC e = es at *
  clear h hf hi
  go_enter Tryz.func24, Tryz.ntmps24
  go_upto_region 1 with fail
  have HB : Hid (Has (((w.alloc (.cells cs 30)).alloc (.cells es 43)).alloc (.cells #[.int .i64 0, .int .i64 0] 24)) w.heap.size cs) := ((Has.new _ _ _ rfl).alloc _).alloc _
  have HV : Hid (Has (((w.alloc (.cells cs 30)).alloc (.cells es 43)).alloc (.cells #[.int .i64 0, .int .i64 0] 24)) (w.heap.size + 1) es) := (Has.new _ _ _ (by simp)).alloc _
  have HR : Hid (Has (((w.alloc (.cells cs 30)).alloc (.cells es 43)).alloc (.cells #[.int .i64 0, .int .i64 0] 24)) (w.heap.size + 1 + 1) #[.int .i64 0, .int .i64 0]) := Has.new _ _ _ (by simp)
  have HBW : Hid (Below w.heap.size w (((w.alloc (.cells cs 30)).alloc (.cells es 43)).alloc (.cells #[.int .i64 0, .int .i64 0] 24))) := bel_alloc (bel_alloc (bel_alloc (Below.refl _ _) _) _) _
  replace HS := Lib.hid (HS.out.below (bel_alloc (bel_alloc (bel_alloc (Below.refl _ _) (.cells cs 30)) (.cells es 43)) (.cells #[.int .i64 0, .int .i64 0] 24)))
  generalize ((w.alloc (.cells cs 30)).alloc (.cells es 43)).alloc (.cells #[.int .i64 0, .int .i64 0] 24) = W at *
  refine wp_region_lit ?_
  refine wpList_load_sg (by rfl) _ rfl w.heap.size rfl cs HB.out HZ.out ?_
  (try simp only [Act.put, List.setIfInBounds_toArray, List.set_cons_zero, List.set_cons_succ])
  refine wpList_step (fun K hK => ?_)
  go_simp
  go_at_call 16
  refine (cC.out _ HS.out).mono ?_
  rintro e_r w1 ⟨rfl, b_⟩
  replace HS := Lib.hid (HS.out.below b_)
  replace HB := Lib.hid (HB.out.below b_)
  replace HV := Lib.hid (HV.out.below b_)
  replace HR := Lib.hid (HR.out.below b_)
  replace HBW := Lib.hid (bel_on HBW.out b_)
  clear b_
  refine hK _ _ ?_
  clear hK K
  (try simp only [Act.put, List.setIfInBounds_toArray, List.set_cons_zero, List.set_cons_succ])
  obtain ⟨c0, c1, f0, f1⟩ := HR.out.two
  have z0 := cell_lt c0
  go_wp2
  obtain ⟨g0, g1, -, -⟩ := (HR.out.set 0 (.int .i64 0)).set 1 (.int .i64 0) |>.two
  refine bodyPost_ret (v := .tuple #[.agg #[.int .i64 0, .int .i64 0], .int .i64 100]) (by simp [results, Tryz.results24, go_sem, g0, g1]) rfl ⟨rfl, ?_⟩
  exact bel_set (bel_set HBW.out (by simp; omega) _) (by simp; omega) _
set_option maxHeartbeats 4000000 in
theorem gof_ev {w : World} {s : SetP} {cs : Array Value} (h : SetC w s cs) (hf : s.Fit) (e : EvP) (hi : e.In) (hc : checkB s = true) (hE : ¬ EvIn s e) :
    Calls Tryz.prog 24 #[.agg cs, .agg (evC e)] w fun x w' => x = .returned (.tuple #[.agg #[.int .i64 0, .int .i64 0], .int .i64 100]) ∧ Below w.heap.size w w' := by
  have HZ := Lib.hid h.size
  have HZE := Lib.hid (evC_size e)
  have cC : Hid (∀ wx, SetC wx s cs → Calls Tryz.prog 16 #[.agg cs] wx fun x w' => x = .returned (.bool true) ∧ Below wx.heap.size wx w') := Lib.hid (fun wx hs => scheck_c hs hf _ hc)
  have cE : Hid (∀ wx, Calls Tryz.prog 15 #[.agg cs, .agg (evC e)] wx fun x w' => x = .returned (.bool false) ∧ Below wx.heap.size wx w') := Lib.hid (fun wx => echeck_any cs _ _ _ _ _ (setS_of h) e hi wx _ (decide_eq_false hE))
  have HS := Lib.hid h
  generalize evC e = es at *
  clear h hf hi hE
  go_enter Tryz.func24, Tryz.ntmps24
  go_upto_region 1 with fail
  have HB : Hid (Has (((w.alloc (.cells cs 30)).alloc (.cells es 43)).alloc (.cells #[.int .i64 0, .int .i64 0] 24)) w.heap.size cs) := ((Has.new _ _ _ rfl).alloc _).alloc _
  have HV : Hid (Has (((w.alloc (.cells cs 30)).alloc (.cells es 43)).alloc (.cells #[.int .i64 0, .int .i64 0] 24)) (w.heap.size + 1) es) := (Has.new _ _ _ (by simp)).alloc _
  have HR : Hid (Has (((w.alloc (.cells cs 30)).alloc (.cells es 43)).alloc (.cells #[.int .i64 0, .int .i64 0] 24)) (w.heap.size + 1 + 1) #[.int .i64 0, .int .i64 0]) := Has.new _ _ _ (by simp)
  have HBW : Hid (Below w.heap.size w (((w.alloc (.cells cs 30)).alloc (.cells es 43)).alloc (.cells #[.int .i64 0, .int .i64 0] 24))) := bel_alloc (bel_alloc (bel_alloc (Below.refl _ _) _) _) _
  replace HS := Lib.hid (HS.out.below (bel_alloc (bel_alloc (bel_alloc (Below.refl _ _) (.cells cs 30)) (.cells es 43)) (.cells #[.int .i64 0, .int .i64 0] 24)))
  generalize ((w.alloc (.cells cs 30)).alloc (.cells es 43)).alloc (.cells #[.int .i64 0, .int .i64 0] 24) = W at *
  refine wp_region_lit ?_
  refine wpList_load_sg (by rfl) _ rfl w.heap.size rfl cs HB.out HZ.out ?_
  (try simp only [Act.put, List.setIfInBounds_toArray, List.set_cons_zero, List.set_cons_succ])
  refine wpList_step (fun K hK => ?_)
  go_simp
  go_at_call 16
  refine (cC.out _ HS.out).mono ?_
  rintro e_r w1 ⟨rfl, b_⟩
  replace HS := Lib.hid (HS.out.below b_)
  replace HB := Lib.hid (HB.out.below b_)
  replace HV := Lib.hid (HV.out.below b_)
  replace HR := Lib.hid (HR.out.below b_)
  replace HBW := Lib.hid (bel_on HBW.out b_)
  clear b_
  refine hK _ _ ?_
  clear hK K
  (try simp only [Act.put, List.setIfInBounds_toArray, List.set_cons_zero, List.set_cons_succ])
  iterate 2 (refine wpList_step (fun K hK => ?_); go_simp; refine hK _ _ ?_; clear hK K; (try simp only [Act.put, List.setIfInBounds_toArray, List.set_cons_zero, List.set_cons_succ]))
  refine wpList_load_sg (by rfl) _ rfl w.heap.size rfl cs HB.out HZ.out ?_
  (try simp only [Act.put, List.setIfInBounds_toArray, List.set_cons_zero, List.set_cons_succ])
  refine wpList_load_e (by rfl) _ rfl (w.heap.size + 1) rfl es HV.out HZE.out ?_
  (try simp only [Act.put, List.setIfInBounds_toArray, List.set_cons_zero, List.set_cons_succ])
  refine wpList_step (fun K hK => ?_)
  go_simp
  go_at_call 15
  refine (cE.out _).mono ?_
  rintro e_r w2 ⟨rfl, b_⟩
  replace HS := Lib.hid (HS.out.below b_)
  replace HB := Lib.hid (HB.out.below b_)
  replace HV := Lib.hid (HV.out.below b_)
  replace HR := Lib.hid (HR.out.below b_)
  replace HBW := Lib.hid (bel_on HBW.out b_)
  clear b_
  refine hK _ _ ?_
  clear hK K
  (try simp only [Act.put, List.setIfInBounds_toArray, List.set_cons_zero, List.set_cons_succ])
  obtain ⟨c0, c1, f0, f1⟩ := HR.out.two
  have z0 := cell_lt c0
  go_wp2
  obtain ⟨g0, g1, -, -⟩ := (HR.out.set 0 (.int .i64 0)).set 1 (.int .i64 0) |>.two
  refine bodyPost_ret (v := .tuple #[.agg #[.int .i64 0, .int .i64 0], .int .i64 100]) (by simp [results, Tryz.results24, go_sem, g0, g1]) rfl ⟨rfl, ?_⟩
  exact bel_set (bel_set HBW.out (by simp; omega) _) (by simp; omega) _
set_option maxHeartbeats 4000000 in
theorem gof_kind {w : World} {s : SetP} {cs : Array Value} (h : SetC w s cs) (hf : s.Fit) (e : EvP) (hi : e.In) (hc : checkB s = true) (hE : EvIn s e) (h3 : ¬ e.kd = 3) :
    Calls Tryz.prog 24 #[.agg cs, .agg (evC e)] w fun x w' => x = .returned (.tuple #[.agg #[.int .i64 0, .int .i64 0], .int .i64 100]) ∧ Below w.heap.size w w' := by
  have HZ := Lib.hid h.size
  have HZE := Lib.hid (evC_size e)
  have cC : Hid (∀ wx, SetC wx s cs → Calls Tryz.prog 16 #[.agg cs] wx fun x w' => x = .returned (.bool true) ∧ Below wx.heap.size wx w') := Lib.hid (fun wx hs => scheck_c hs hf _ hc)
  have cE : Hid (∀ wx, Calls Tryz.prog 15 #[.agg cs, .agg (evC e)] wx fun x w' => x = .returned (.bool true) ∧ Below wx.heap.size wx w') := Lib.hid (fun wx => echeck_any cs _ _ _ _ _ (setS_of h) e hi wx _ (decide_eq_true hE))
  have HS := Lib.hid h
  have d3 : (evC e)[3]? = some (.int .i64 e.kd) := rfl
  generalize evC e = es at *
  generalize e.kd = kd at *
  clear h hf hi hE
  go_enter Tryz.func24, Tryz.ntmps24
  go_upto_region 1 with fail
  have HB : Hid (Has (((w.alloc (.cells cs 30)).alloc (.cells es 43)).alloc (.cells #[.int .i64 0, .int .i64 0] 24)) w.heap.size cs) := ((Has.new _ _ _ rfl).alloc _).alloc _
  have HV : Hid (Has (((w.alloc (.cells cs 30)).alloc (.cells es 43)).alloc (.cells #[.int .i64 0, .int .i64 0] 24)) (w.heap.size + 1) es) := (Has.new _ _ _ (by simp)).alloc _
  have HR : Hid (Has (((w.alloc (.cells cs 30)).alloc (.cells es 43)).alloc (.cells #[.int .i64 0, .int .i64 0] 24)) (w.heap.size + 1 + 1) #[.int .i64 0, .int .i64 0]) := Has.new _ _ _ (by simp)
  have HBW : Hid (Below w.heap.size w (((w.alloc (.cells cs 30)).alloc (.cells es 43)).alloc (.cells #[.int .i64 0, .int .i64 0] 24))) := bel_alloc (bel_alloc (bel_alloc (Below.refl _ _) _) _) _
  replace HS := Lib.hid (HS.out.below (bel_alloc (bel_alloc (bel_alloc (Below.refl _ _) (.cells cs 30)) (.cells es 43)) (.cells #[.int .i64 0, .int .i64 0] 24)))
  generalize ((w.alloc (.cells cs 30)).alloc (.cells es 43)).alloc (.cells #[.int .i64 0, .int .i64 0] 24) = W at *
  refine wp_region_lit ?_
  refine wpList_load_sg (by rfl) _ rfl w.heap.size rfl cs HB.out HZ.out ?_
  (try simp only [Act.put, List.setIfInBounds_toArray, List.set_cons_zero, List.set_cons_succ])
  refine wpList_step (fun K hK => ?_)
  go_simp
  go_at_call 16
  refine (cC.out _ HS.out).mono ?_
  rintro e_r w1 ⟨rfl, b_⟩
  replace HS := Lib.hid (HS.out.below b_)
  replace HB := Lib.hid (HB.out.below b_)
  replace HV := Lib.hid (HV.out.below b_)
  replace HR := Lib.hid (HR.out.below b_)
  replace HBW := Lib.hid (bel_on HBW.out b_)
  clear b_
  refine hK _ _ ?_
  clear hK K
  (try simp only [Act.put, List.setIfInBounds_toArray, List.set_cons_zero, List.set_cons_succ])
  iterate 2 (refine wpList_step (fun K hK => ?_); go_simp; refine hK _ _ ?_; clear hK K; (try simp only [Act.put, List.setIfInBounds_toArray, List.set_cons_zero, List.set_cons_succ]))
  refine wpList_load_sg (by rfl) _ rfl w.heap.size rfl cs HB.out HZ.out ?_
  (try simp only [Act.put, List.setIfInBounds_toArray, List.set_cons_zero, List.set_cons_succ])
  refine wpList_load_e (by rfl) _ rfl (w.heap.size + 1) rfl es HV.out HZE.out ?_
  (try simp only [Act.put, List.setIfInBounds_toArray, List.set_cons_zero, List.set_cons_succ])
  refine wpList_step (fun K hK => ?_)
  go_simp
  go_at_call 15
  refine (cE.out _).mono ?_
  rintro e_r w2 ⟨rfl, b_⟩
  replace HS := Lib.hid (HS.out.below b_)
  replace HB := Lib.hid (HB.out.below b_)
  replace HV := Lib.hid (HV.out.below b_)
  replace HR := Lib.hid (HR.out.below b_)
  replace HBW := Lib.hid (bel_on HBW.out b_)
  clear b_
  refine hK _ _ ?_
  clear hK K
  (try simp only [Act.put, List.setIfInBounds_toArray, List.set_cons_zero, List.set_cons_succ])
  have y3 := HV.out.cell 3 d3
  have y3l := cell_lt y3
  iterate 7 (refine wpList_step (fun K hK => ?_); go_simp; refine hK _ _ ?_; clear hK K; (try simp only [Act.put, List.setIfInBounds_toArray, List.set_cons_zero, List.set_cons_succ]))
  refine wpList_nil ?_
  obtain ⟨c0, c1, f0, f1⟩ := HR.out.two
  have z0 := cell_lt c0
  go_wp2
  obtain ⟨g0, g1, -, -⟩ := (HR.out.set 0 (.int .i64 0)).set 1 (.int .i64 0) |>.two
  refine bodyPost_ret (v := .tuple #[.agg #[.int .i64 0, .int .i64 0], .int .i64 100]) (by simp [results, Tryz.results24, go_sem, g0, g1]) rfl ⟨rfl, ?_⟩
  exact bel_set (bel_set HBW.out (by simp; omega) _) (by simp; omega) _
set_option maxHeartbeats 4000000 in
theorem gof_far {w : World} {s : SetP} {cs : Array Value} (h : SetC w s cs) (hf : s.Fit) (e : EvP) (hi : e.In) (hc : checkB s = true) (hE : EvIn s e) (h3 : e.kd = 3) (hD : farV s e.fr e.to = -1) :
    Calls Tryz.prog 24 #[.agg cs, .agg (evC e)] w fun x w' => x = .returned (.tuple #[.agg #[.int .i64 0, .int .i64 0], .int .i64 100]) ∧ Below w.heap.size w w' := by
  have HZ := Lib.hid h.size
  have HZE := Lib.hid (evC_size e)
  have cC : Hid (∀ wx, SetC wx s cs → Calls Tryz.prog 16 #[.agg cs] wx fun x w' => x = .returned (.bool true) ∧ Below wx.heap.size wx w') := Lib.hid (fun wx hs => scheck_c hs hf _ hc)
  have cE : Hid (∀ wx, Calls Tryz.prog 15 #[.agg cs, .agg (evC e)] wx fun x w' => x = .returned (.bool true) ∧ Below wx.heap.size wx w') := Lib.hid (fun wx => echeck_any cs _ _ _ _ _ (setS_of h) e hi wx _ (decide_eq_true hE))
  have HS := Lib.hid h
  have cD : Hid (∀ wx, SetC wx s cs → Calls Tryz.prog 61 #[.agg cs, .int .i64 e.fr, .int .i64 e.to] wx fun x w' => x = .returned (.int .i64 (-1)) ∧ Below wx.heap.size wx w') := Lib.hid (fun wx hs => wdist_c hs hf e.fr e.to _ hD)
  have d3 : (evC e)[3]? = some (.int .i64 3) := by show some (Value.int .i64 e.kd) = _; rw [h3]
  have d4 : (evC e)[4]? = some (.int .i64 e.fr) := rfl
  have d5 : (evC e)[5]? = some (.int .i64 e.to) := rfl
  generalize evC e = es at *
  generalize e.fr = fr at *
  generalize e.to = too at *
  clear h hf hi hE h3 hD
  go_enter Tryz.func24, Tryz.ntmps24
  go_upto_region 1 with fail
  have HB : Hid (Has (((w.alloc (.cells cs 30)).alloc (.cells es 43)).alloc (.cells #[.int .i64 0, .int .i64 0] 24)) w.heap.size cs) := ((Has.new _ _ _ rfl).alloc _).alloc _
  have HV : Hid (Has (((w.alloc (.cells cs 30)).alloc (.cells es 43)).alloc (.cells #[.int .i64 0, .int .i64 0] 24)) (w.heap.size + 1) es) := (Has.new _ _ _ (by simp)).alloc _
  have HR : Hid (Has (((w.alloc (.cells cs 30)).alloc (.cells es 43)).alloc (.cells #[.int .i64 0, .int .i64 0] 24)) (w.heap.size + 1 + 1) #[.int .i64 0, .int .i64 0]) := Has.new _ _ _ (by simp)
  have HBW : Hid (Below w.heap.size w (((w.alloc (.cells cs 30)).alloc (.cells es 43)).alloc (.cells #[.int .i64 0, .int .i64 0] 24))) := bel_alloc (bel_alloc (bel_alloc (Below.refl _ _) _) _) _
  replace HS := Lib.hid (HS.out.below (bel_alloc (bel_alloc (bel_alloc (Below.refl _ _) (.cells cs 30)) (.cells es 43)) (.cells #[.int .i64 0, .int .i64 0] 24)))
  generalize ((w.alloc (.cells cs 30)).alloc (.cells es 43)).alloc (.cells #[.int .i64 0, .int .i64 0] 24) = W at *
  refine wp_region_lit ?_
  refine wpList_load_sg (by rfl) _ rfl w.heap.size rfl cs HB.out HZ.out ?_
  (try simp only [Act.put, List.setIfInBounds_toArray, List.set_cons_zero, List.set_cons_succ])
  refine wpList_step (fun K hK => ?_)
  go_simp
  go_at_call 16
  refine (cC.out _ HS.out).mono ?_
  rintro e_r w1 ⟨rfl, b_⟩
  replace HS := Lib.hid (HS.out.below b_)
  replace HB := Lib.hid (HB.out.below b_)
  replace HV := Lib.hid (HV.out.below b_)
  replace HR := Lib.hid (HR.out.below b_)
  replace HBW := Lib.hid (bel_on HBW.out b_)
  clear b_
  refine hK _ _ ?_
  clear hK K
  (try simp only [Act.put, List.setIfInBounds_toArray, List.set_cons_zero, List.set_cons_succ])
  iterate 2 (refine wpList_step (fun K hK => ?_); go_simp; refine hK _ _ ?_; clear hK K; (try simp only [Act.put, List.setIfInBounds_toArray, List.set_cons_zero, List.set_cons_succ]))
  refine wpList_load_sg (by rfl) _ rfl w.heap.size rfl cs HB.out HZ.out ?_
  (try simp only [Act.put, List.setIfInBounds_toArray, List.set_cons_zero, List.set_cons_succ])
  refine wpList_load_e (by rfl) _ rfl (w.heap.size + 1) rfl es HV.out HZE.out ?_
  (try simp only [Act.put, List.setIfInBounds_toArray, List.set_cons_zero, List.set_cons_succ])
  refine wpList_step (fun K hK => ?_)
  go_simp
  go_at_call 15
  refine (cE.out _).mono ?_
  rintro e_r w2 ⟨rfl, b_⟩
  replace HS := Lib.hid (HS.out.below b_)
  replace HB := Lib.hid (HB.out.below b_)
  replace HV := Lib.hid (HV.out.below b_)
  replace HR := Lib.hid (HR.out.below b_)
  replace HBW := Lib.hid (bel_on HBW.out b_)
  clear b_
  refine hK _ _ ?_
  clear hK K
  (try simp only [Act.put, List.setIfInBounds_toArray, List.set_cons_zero, List.set_cons_succ])
  have y3 := HV.out.cell 3 d3
  have y3l := cell_lt y3
  iterate 7 (refine wpList_step (fun K hK => ?_); go_simp; refine hK _ _ ?_; clear hK K; (try simp only [Act.put, List.setIfInBounds_toArray, List.set_cons_zero, List.set_cons_succ]))
  refine wpList_nil ?_
  go_upto_region 3 with fail
  refine wp_region_lit ?_
  refine wpList_load_sg (by rfl) _ rfl w.heap.size rfl cs HB.out HZ.out ?_
  (try simp only [Act.put, List.setIfInBounds_toArray, List.set_cons_zero, List.set_cons_succ])
  have y4 := HV.out.cell 4 d4
  have y5 := HV.out.cell 5 d5
  have y4l := cell_lt y4
  iterate 4 (refine wpList_step (fun K hK => ?_); go_simp; refine hK _ _ ?_; clear hK K; (try simp only [Act.put, List.setIfInBounds_toArray, List.set_cons_zero, List.set_cons_succ]))
  refine wpList_step (fun K hK => ?_)
  go_simp
  go_at_call 61
  refine (cD.out _ HS.out).mono ?_
  rintro e_r w3 ⟨rfl, b_⟩
  clear y3 y3l y4 y5 y4l
  replace HS := Lib.hid (HS.out.below b_)
  replace HB := Lib.hid (HB.out.below b_)
  replace HV := Lib.hid (HV.out.below b_)
  replace HR := Lib.hid (HR.out.below b_)
  replace HBW := Lib.hid (bel_on HBW.out b_)
  clear b_
  refine hK _ _ ?_
  clear hK K
  (try simp only [Act.put, List.setIfInBounds_toArray, List.set_cons_zero, List.set_cons_succ])
  iterate 1 (refine wpList_step (fun K hK => ?_); go_simp; refine hK _ _ ?_; clear hK K; (try simp only [Act.put, List.setIfInBounds_toArray, List.set_cons_zero, List.set_cons_succ]))
  refine wpList_nil ?_
  obtain ⟨c0, c1, f0, f1⟩ := HR.out.two
  have z0 := cell_lt c0
  go_wp2
  obtain ⟨g0, g1, -, -⟩ := (HR.out.set 0 (.int .i64 0)).set 1 (.int .i64 0) |>.two
  refine bodyPost_ret (v := .tuple #[.agg #[.int .i64 0, .int .i64 0], .int .i64 100]) (by simp [results, Tryz.results24, go_sem, g0, g1]) rfl ⟨rfl, ?_⟩
  exact bel_set (bel_set HBW.out (by simp; omega) _) (by simp; omega) _
set_option maxHeartbeats 64000000 in
theorem gof_main {w : World} {s : SetP} {cs : Array Value} (h : SetC w s cs) (hf : s.Fit) (e : EvP) (hi : e.In) (hc : checkB s = true) (hE : EvIn s e) (h3 : e.kd = 3) (D : Int) (hD : farV s e.fr e.to = D) (hD1 : ¬ D = -1)
    (r1 r2 r3 r4 r5 r6 r7 : Rat2) (an ad e2 e3 e4 e5 e6 e7 : Int) (hG : GoH s e D r1 r2 r3 r4 r5 r6 r7 an ad) (han : mkN (100 + s.allow) 100 = an) (had : mkD (100 + s.allow) 100 = ad)
    (k2 : fstC r1.c r2.c = e2) (k3 : fstC e2 r3.c = e3) (k4 : fstC e3 r4.c = e4) (k5 : fstC e4 r5.c = e5) (k6 : fstC e5 r6.c = e6) (k7 : fstC e6 r7.c = e7) :
    Calls Tryz.prog 24 #[.agg cs, .agg (evC e)] w fun x w' => x = .returned (.tuple #[.agg #[.int .i64 r7.n, .int .i64 r7.d], .int .i64 e7]) ∧ Below w.heap.size w w' := by
  have hM := check_iff.1 hc
  have hT := task_in hE h3
  have hDb := far_bd hM e.fr e.to
  rw [hD] at hDb
  have hU := hT.un
  have hA := hM.allow
  obtain ⟨A2, c2, A3, c3, A4, c4, q2, q3, q4, q5, q6, q7, t2, t3, t4⟩ := setC_goal h
  obtain ⟨j, hj⟩ : ∃ j : Nat, e.ge = j := ⟨e.ge.toNat, by have := hT.ge; omega⟩
  obtain ⟨c, hcl⟩ : ∃ c : Nat, e.cl = c := ⟨e.cl.toNat, by have := hT.cl; omega⟩
  obtain ⟨l, hel⟩ : ∃ l : Nat, e.el = l := ⟨e.el.toNat, by have := hT.el; omega⟩
  have hjn : j < s.gears.length := by have := hT.ge; omega
  have hcn : c < s.classes.length := by have := hT.cl; omega
  have hln : l < s.elements.length := by have := hT.el; omega
  obtain ⟨h1, h2, h4, h5, h6, h7, h8⟩ := hG
  rw [show e.ge.toNat = j by omega] at h2
  rw [show e.el.toNat = l by omega] at h4 h5
  rw [show e.cl.toNat = c by omega] at h6
  have sp := share64 hM.pace
  have sg := share64 (show shareB (rowN s.gears j 0) (rowN s.gears j 1) = true from row_in hM.gears.2 hjn)
  have sc := share64 (show shareB (rowN s.classes c 0) (rowN s.classes c 1) = true from row_in hM.classes.2 hcn)
  have sf := share64 (show shareB (rowN s.elements l 0) (rowN s.elements l 1) = true from (row_in hM.elements.2 hln).1)
  have su := share64 (show shareB (rowN s.elements l 2) (rowN s.elements l 3) = true from (row_in hM.elements.2 hln).2)
  obtain ⟨b2, o2, rfl⟩ := t2.form (by decide) (by omega)
  obtain ⟨b3, o3, rfl⟩ := t3.form (by decide) (by omega)
  obtain ⟨b4, o4, rfl⟩ := t4.form (by decide) (by omega)
  have X : Hid (∀ wx, Below w.heap.size w wx → (wx.cell? ⟨b2, o2 + l * 4, none⟩ = some (.int .i64 (rowN s.elements l 0)) ∧ wx.cell? ⟨b2, o2 + l * 4 + 1, none⟩ = some (.int .i64 (rowN s.elements l 1)) ∧
      wx.cell? ⟨b2, o2 + l * 4 + 2, none⟩ = some (.int .i64 (rowN s.elements l 2)) ∧ wx.cell? ⟨b2, o2 + l * 4 + 3, none⟩ = some (.int .i64 (rowN s.elements l 3))) ∧
      (wx.cell? ⟨b3, o3 + c * 2, none⟩ = some (.int .i64 (rowN s.classes c 0)) ∧ wx.cell? ⟨b3, o3 + c * 2 + 1, none⟩ = some (.int .i64 (rowN s.classes c 1))) ∧
      (wx.cell? ⟨b4, o4 + j * 2, none⟩ = some (.int .i64 (rowN s.gears j 0)) ∧ wx.cell? ⟨b4, o4 + j * 2 + 1, none⟩ = some (.int .i64 (rowN s.gears j 1)))) :=
    fun wx hb => ⟨⟨(t2.below hb).cell (j := 0) hln (by decide), (t2.below hb).cell (j := 1) hln (by decide), (t2.below hb).cell (j := 2) hln (by decide), (t2.below hb).cell (j := 3) hln (by decide)⟩, ⟨(t3.below hb).cell (j := 0) hcn (by decide), (t3.below hb).cell (j := 1) hcn (by decide)⟩, (t4.below hb).cell (j := 0) hjn (by decide), (t4.below hb).cell (j := 1) hjn (by decide)⟩
  have HZ := Lib.hid h.size
  have HZE := Lib.hid (evC_size e)
  have cC : Hid (∀ wx, SetC wx s cs → Calls Tryz.prog 16 #[.agg cs] wx fun x w' => x = .returned (.bool true) ∧ Below wx.heap.size wx w') := Lib.hid (fun wx hs => scheck_c hs hf _ hc)
  have cE : Hid (∀ wx, Calls Tryz.prog 15 #[.agg cs, .agg (evC e)] wx fun x w' => x = .returned (.bool true) ∧ Below wx.heap.size wx w') := Lib.hid (fun wx => echeck_any cs _ _ _ _ _ (setS_of h) e hi wx _ (decide_eq_true hE))
  have HS := Lib.hid h
  have cD : Hid (∀ wx, SetC wx s cs → Calls Tryz.prog 61 #[.agg cs, .int .i64 e.fr, .int .i64 e.to] wx fun x w' => x = .returned (.int .i64 D) ∧ Below wx.heap.size wx w') := Lib.hid (fun wx hs => wdist_c hs hf e.fr e.to _ hD)
  have d3 : (evC e)[3]? = some (.int .i64 3) := by show some (Value.int .i64 e.kd) = _; rw [h3]
  have d4 : (evC e)[4]? = some (.int .i64 e.fr) := rfl
  have d5 : (evC e)[5]? = some (.int .i64 e.to) := rfl
  have d6 : (evC e)[6]? = some (.int .i64 (l : Int)) := by show some (Value.int .i64 e.el) = _; rw [hel]
  have d7 : (evC e)[7]? = some (.int .i64 e.un) := rfl
  have d8 : (evC e)[8]? = some (.int .i64 (c : Int)) := by show some (Value.int .i64 e.cl) = _; rw [hcl]
  have d9 : (evC e)[9]? = some (.int .i64 (j : Int)) := by show some (Value.int .i64 e.ge) = _; rw [hj]
  generalize evC e = es at *
  generalize e.fr = fr at *
  generalize e.to = too at *
  generalize e.un = un at *
  have H1 := Lib.hid h1
  have H2 := Lib.hid h2
  have H3 := Lib.hid h4
  have H4 := Lib.hid h5
  have H5 := Lib.hid h6
  have H6 := Lib.hid h7
  have H7 := Lib.hid h8
  have K2 := Lib.hid k2
  have K3 := Lib.hid k3
  have K4 := Lib.hid k4
  have K5 := Lib.hid k5
  have K6 := Lib.hid k6
  have K7 := Lib.hid k7
  have M1 := Lib.hid (mk_int (m := D) (by omega))
  have M2 := Lib.hid (mk_int (m := un) (by omega))
  have M3 : Hid (mkR (100 + s.allow) 100 = ⟨an, ad, 0⟩) := Lib.hid (by rw [mk_allow hA, han, had])
  have s1 := mul64 s.pn s.pd D 1
  rw [h1] at s1
  have s2 := mul64 r1.n r1.d (rowN s.gears j 0) (rowN s.gears j 1)
  rw [h2] at s2
  have s3 := mul64 (rowN s.elements l 2) (rowN s.elements l 3) un 1
  rw [h4] at s3
  have s4 := plus64 (rowN s.elements l 0) (rowN s.elements l 1) r3.n r3.d
  rw [h5] at s4
  have s5 := mul64 r4.n r4.d (rowN s.classes c 0) (rowN s.classes c 1)
  rw [h6] at s5
  have s6 := plus64 r2.n r2.d r5.n r5.d
  rw [h7] at s6
  have sa : In64 an ∧ In64 ad := by
    have := rat_i64 (mkR (100 + s.allow) 100) (by rw [M3.out]; have := mk_may (allow_mk hA); rw [han, had] at this; exact this) (fun h0 => by rw [M3.out] at h0; exact absurd rfl h0)
    rw [M3.out] at this
    exact this
  generalize rowN s.elements l 0 = fn at *
  generalize rowN s.elements l 1 = fd at *
  generalize rowN s.elements l 2 = un1 at *
  generalize rowN s.elements l 3 = ud1 at *
  generalize rowN s.classes c 0 = cn1 at *
  generalize rowN s.classes c 1 = cd1 at *
  generalize rowN s.gears j 0 = gn at *
  generalize rowN s.gears j 1 = gd at *
  clear h1 h2 h4 h5 h6 h7 h8 k2 k3 k4 k5 k6 k7 t2 t3 t4 hM hT hf hi hE h3 hD hc h han had hj hcl hel
  have B2 := Lib.hid (And.intro sp (And.intro sg (And.intro sc (And.intro sf (And.intro su sa)))))
  have B3 := Lib.hid (And.intro s1 (And.intro s2 (And.intro s3 (And.intro s4 (And.intro s5 s6)))))
  clear sp sg sc sf su s1 s2 s3 s4 s5 s6 sa
  generalize s.pn = pn at *
  generalize s.pd = pd at *
  generalize s.allow = al at *
  generalize s.elements.length = nE at *
  generalize s.classes.length = nC at *
  generalize s.gears.length = nG at *
  go_enter Tryz.func24, Tryz.ntmps24
  go_upto_region 1 with fail
  have HB : Hid (Has (((w.alloc (.cells cs 30)).alloc (.cells es 43)).alloc (.cells #[.int .i64 0, .int .i64 0] 24)) w.heap.size cs) := ((Has.new _ _ _ rfl).alloc _).alloc _
  have HV : Hid (Has (((w.alloc (.cells cs 30)).alloc (.cells es 43)).alloc (.cells #[.int .i64 0, .int .i64 0] 24)) (w.heap.size + 1) es) := (Has.new _ _ _ (by simp)).alloc _
  have HR : Hid (Has (((w.alloc (.cells cs 30)).alloc (.cells es 43)).alloc (.cells #[.int .i64 0, .int .i64 0] 24)) (w.heap.size + 1 + 1) #[.int .i64 0, .int .i64 0]) := Has.new _ _ _ (by simp)
  have HBW : Hid (Below w.heap.size w (((w.alloc (.cells cs 30)).alloc (.cells es 43)).alloc (.cells #[.int .i64 0, .int .i64 0] 24))) := bel_alloc (bel_alloc (bel_alloc (Below.refl _ _) _) _) _
  replace HS := Lib.hid (HS.out.below (bel_alloc (bel_alloc (bel_alloc (Below.refl _ _) (.cells cs 30)) (.cells es 43)) (.cells #[.int .i64 0, .int .i64 0] 24)))
  generalize ((w.alloc (.cells cs 30)).alloc (.cells es 43)).alloc (.cells #[.int .i64 0, .int .i64 0] 24) = W at *
  refine wp_region_lit ?_
  refine wpList_load_sg (by rfl) _ rfl w.heap.size rfl cs HB.out HZ.out ?_
  (try simp only [Act.put, List.setIfInBounds_toArray, List.set_cons_zero, List.set_cons_succ])
  refine wpList_step (fun K hK => ?_)
  go_simp
  go_at_call 16
  refine (cC.out _ HS.out).mono ?_
  rintro e_r w1 ⟨rfl, b_⟩
  replace HS := Lib.hid (HS.out.below b_)
  replace HB := Lib.hid (HB.out.below b_)
  replace HV := Lib.hid (HV.out.below b_)
  replace HR := Lib.hid (HR.out.below b_)
  replace HBW := Lib.hid (bel_on HBW.out b_)
  clear b_
  refine hK _ _ ?_
  clear hK K
  (try simp only [Act.put, List.setIfInBounds_toArray, List.set_cons_zero, List.set_cons_succ])
  iterate 2 (refine wpList_step (fun K hK => ?_); go_simp; refine hK _ _ ?_; clear hK K; (try simp only [Act.put, List.setIfInBounds_toArray, List.set_cons_zero, List.set_cons_succ]))
  refine wpList_load_sg (by rfl) _ rfl w.heap.size rfl cs HB.out HZ.out ?_
  (try simp only [Act.put, List.setIfInBounds_toArray, List.set_cons_zero, List.set_cons_succ])
  refine wpList_load_e (by rfl) _ rfl (w.heap.size + 1) rfl es HV.out HZE.out ?_
  (try simp only [Act.put, List.setIfInBounds_toArray, List.set_cons_zero, List.set_cons_succ])
  refine wpList_step (fun K hK => ?_)
  go_simp
  go_at_call 15
  refine (cE.out _).mono ?_
  rintro e_r w2 ⟨rfl, b_⟩
  replace HS := Lib.hid (HS.out.below b_)
  replace HB := Lib.hid (HB.out.below b_)
  replace HV := Lib.hid (HV.out.below b_)
  replace HR := Lib.hid (HR.out.below b_)
  replace HBW := Lib.hid (bel_on HBW.out b_)
  clear b_
  refine hK _ _ ?_
  clear hK K
  (try simp only [Act.put, List.setIfInBounds_toArray, List.set_cons_zero, List.set_cons_succ])
  have y3 := HV.out.cell 3 d3
  have y3l := cell_lt y3
  iterate 7 (refine wpList_step (fun K hK => ?_); go_simp; refine hK _ _ ?_; clear hK K; (try simp only [Act.put, List.setIfInBounds_toArray, List.set_cons_zero, List.set_cons_succ]))
  refine wpList_nil ?_
  go_upto_region 3 with fail
  refine wp_region_lit ?_
  refine wpList_load_sg (by rfl) _ rfl w.heap.size rfl cs HB.out HZ.out ?_
  (try simp only [Act.put, List.setIfInBounds_toArray, List.set_cons_zero, List.set_cons_succ])
  have y4 := HV.out.cell 4 d4
  have y5 := HV.out.cell 5 d5
  have y4l := cell_lt y4
  iterate 4 (refine wpList_step (fun K hK => ?_); go_simp; refine hK _ _ ?_; clear hK K; (try simp only [Act.put, List.setIfInBounds_toArray, List.set_cons_zero, List.set_cons_succ]))
  refine wpList_step (fun K hK => ?_)
  go_simp
  go_at_call 61
  refine (cD.out _ HS.out).mono ?_
  rintro e_r w3 ⟨rfl, b_⟩
  clear y3 y3l y4 y5 y4l
  replace HS := Lib.hid (HS.out.below b_)
  replace HB := Lib.hid (HB.out.below b_)
  replace HV := Lib.hid (HV.out.below b_)
  replace HR := Lib.hid (HR.out.below b_)
  replace HBW := Lib.hid (bel_on HBW.out b_)
  clear b_
  refine hK _ _ ?_
  clear hK K
  (try simp only [Act.put, List.setIfInBounds_toArray, List.set_cons_zero, List.set_cons_succ])
  iterate 1 (refine wpList_step (fun K hK => ?_); go_simp; refine hK _ _ ?_; clear hK K; (try simp only [Act.put, List.setIfInBounds_toArray, List.set_cons_zero, List.set_cons_succ]))
  refine wpList_nil ?_
  clear cC cE cD HS
  go_upto_region 9 with fail
  have Q := Lib.hid (And.intro q2 (And.intro q3 (And.intro q4 (And.intro q5 (And.intro q6 q7)))))
  have DD := Lib.hid (And.intro d6 (And.intro d7 (And.intro d8 d9)))
  have y4 := HB.out.cell 4 q4
  have y6 := HV.out.cell 6 d6
  clear q2 q3 q4 q5 q6 q7 d3 d4 d5 d6 d7 d8 d9
  obtain ⟨⟨x0, x1, x2, x3⟩, -⟩ := X.out _ HBW.out
  have y4l := cell_lt y4
  have x0l := cell_lt x0
  have y6l := cell_lt y6
  go_cut [7, 8, 9, 10] (fun v7 v8 v9 v10 wx => ∃ K T G : Nat, v7 = .pointer (some ⟨K, 0, none⟩) ∧ v8 = .pointer (some ⟨T, 0, none⟩) ∧ v9 = .func (.func 63) #[] #[.pointer (some ⟨T, 0, none⟩)] ∧ v10 = .pointer (some ⟨G, 0, none⟩) ∧
    Hid (GoN w.heap.size wx.heap.size w.heap.size (w.heap.size + 1) (w.heap.size + 1 + 1) K T G) ∧ Hid (GoW w wx.heap.size w.heap.size (w.heap.size + 1) (w.heap.size + 1 + 1) K T G cs es #[.int .i64 fn, .int .i64 fd, .int .i64 un1, .int .i64 ud1] 0 wx))
  case first =>
    go_wp2_with fail
    go_meet
    have y8 := HR.out.size
    refine ⟨w3.heap.size, w3.heap.size + 1, w3.heap.size + 1 + 1, rfl, rfl, rfl, rfl, ?_, ?_⟩
    · exact Lib.hid ⟨by omega, by simp; omega, by omega, by omega⟩
    · exact Lib.hid ⟨by have hb := HBW.out; (repeat' (first | with_reducible exact Below.refl _ _ | with_reducible assumption | with_reducible refine bel_alloc ?_ _ | with_reducible refine bel_set ?_ ?_ _ | with_reducible refine below_drewN ?_ _ | with_reducible refine below_drew ?_ | (simp; done) | (simp; omega) | omega)), Nat.le_refl _, ((HB.out.alloc _).alloc _).alloc _, ((HV.out.alloc _).alloc _).alloc _, ((HR.out.alloc _).alloc _).alloc _, ((Has.new _ _ _ rfl).alloc _).alloc _, (Has.new _ _ _ (by simp)).alloc _, Has.new _ _ _ (by simp)⟩
  case rest =>
    clear y4 y6 x0 x1 x2 x3 y4l x0l y6l HB HV HR HBW
    obtain ⟨K, T, G, rfl, rfl, rfl, rfl, HN, HW⟩ := hcut
    obtain ⟨L, hL⟩ : ∃ L, wc.heap.size = L := ⟨_, rfl⟩
    have hLw : L ≤ wc.heap.size := by omega
    rw [hL] at HN HW
    clear hL
    go_upto_region 10 with fail
    go_cut [11] (fun v11 wx => ∃ g : Nat, v11 = .pointer (some ⟨g, 0, none⟩) ∧ ¬ g = K ∧ L ≤ g ∧ Hid (GoW w L w.heap.size (w.heap.size + 1) (w.heap.size + 1 + 1) K T G cs es #[.int .i64 fn, .int .i64 fd, .int .i64 un1, .int .i64 ud1] e2 wx) ∧ Hid (Has wx g #[.int .i64 r2.n, .int .i64 r2.d]))
    case first =>
      as_aux_lemma =>
        have HWW := HW
        have hWc := HW.out.lim
        refine wp_region_noPanic ?_
        refine wp_region_held_drew (S := fun w' => Chg (fun b => b = K) wc w') (by kernel_rfl) (Chg.of_below (below_drew (Below.refl _ _))) (fun hHeld => ?_)
        have HC : Hid (Chg (fun b => b = K) wc wc.drew) := Lib.hid hHeld
        replace HW := Lib.hid (HW.out.drew)
        generalize wc.drew = v0 at *
        refine wpAnyH_take (i := 0) (oi := ⟨some 47, _, _, _, _, _⟩) (v := (.func (.func 62) #[] #[.pointer (some ⟨K, 0, none⟩)])) rfl (by kernel_rfl) (by kernel_rfl) (by kernel_rfl) (fun _ _ _ h => h) (Or.inl ⟨by rfl, ?_⟩) hHeld ?_
        · intro ww hSw
          (try dsimp only at hSw)
          have c0 := (HWW.out.t.chg HN.out.one.2.2.2.1 hSw).cell 0 rfl
          have z0 := cell_lt c0
          go_simp
        simp only [Act.put, List.setIfInBounds_toArray, List.set_cons_zero, List.set_cons_succ]
        refine wpAnyH_take (i := 1) (oi := ⟨some 48, _, _, _, _, _⟩) (v := (.func (.func 63) #[] #[.pointer (some ⟨T, 0, none⟩)])) rfl (by kernel_rfl) (by kernel_rfl) (by kernel_rfl) (fun _ _ _ h => h) (Or.inl ⟨by rfl, ?_⟩) hHeld ?_
        · intro ww hSw
          clear hSw
          go_simp
        simp only [Act.put, List.setIfInBounds_toArray, List.set_cons_zero, List.set_cons_succ]
        refine wpAnyH_take (i := 2) (oi := ⟨some 49, _, _, _, _, _⟩) (v := (.pointer (some ⟨w.heap.size, 2, none⟩))) rfl (by kernel_rfl) (by kernel_rfl) (by kernel_rfl) (fun _ _ _ h => h) (Or.inl ⟨by rfl, ?_⟩) hHeld ?_
        · intro ww hSw
          clear hSw
          go_simp
        simp only [Act.put, List.setIfInBounds_toArray, List.set_cons_zero, List.set_cons_succ]
        refine wpAnyH_take (i := 3) (oi := ⟨some 50, _, _, _, _, _⟩) (v := (.agg #[.int .i64 pn, .int .i64 pd])) rfl (by kernel_rfl) (by kernel_rfl) (by kernel_rfl) (fun _ _ _ h => h) (Or.inl ⟨by rfl, ?_⟩) hHeld ?_
        · intro ww hSw
          (try dsimp only at hSw)
          have c0 := (HWW.out.s.chg HN.out.one.1 hSw).cell 2 Q.out.1
          have c1 := (HWW.out.s.chg HN.out.one.1 hSw).cell 3 Q.out.2.1
          have z0 := cell_lt c0
          go_simp
        simp only [Act.put, List.setIfInBounds_toArray, List.set_cons_zero, List.set_cons_succ]
        refine wpAnyH_take (i := 4) (oi := ⟨some 51, _, _, _, _, _⟩) (v := (.int .i64 D)) rfl (by kernel_rfl) (by kernel_rfl) (by kernel_rfl) (fun _ _ _ h => h) (Or.inl ⟨by rfl, ?_⟩) hHeld ?_
        · intro ww hSw
          clear hSw
          go_simp
        simp only [Act.put, List.setIfInBounds_toArray, List.set_cons_zero, List.set_cons_succ]
        refine wpAnyH_take (i := 6) (oi := ⟨some 53, _, _, _, _, _⟩) (v := (.pointer (some ⟨w.heap.size, 6, none⟩))) rfl (by kernel_rfl) (by kernel_rfl) (by kernel_rfl) (fun _ _ _ h => h) (Or.inl ⟨by rfl, ?_⟩) hHeld ?_
        · intro ww hSw
          clear hSw
          go_simp
        simp only [Act.put, List.setIfInBounds_toArray, List.set_cons_zero, List.set_cons_succ]
        refine wpAnyH_take (i := 7) (oi := ⟨some 54, _, _, _, _, _⟩) (v := (.slice (some ⟨b4, o4, none⟩) nG c4)) rfl (by kernel_rfl) (by kernel_rfl) (by kernel_rfl) (fun _ _ _ h => h) (Or.inl ⟨by rfl, ?_⟩) hHeld ?_
        · intro ww hSw
          (try dsimp only at hSw)
          have c0 := (HWW.out.s.chg HN.out.one.1 hSw).cell 6 Q.out.2.2.2.2.1
          have z0 := cell_lt c0
          go_simp
        simp only [Act.put, List.setIfInBounds_toArray, List.set_cons_zero, List.set_cons_succ]
        refine wpAnyH_take (i := 8) (oi := ⟨some 55, _, _, _, _, _⟩) (v := (.pointer (some ⟨(w.heap.size + 1), 9, none⟩))) rfl (by kernel_rfl) (by kernel_rfl) (by kernel_rfl) (fun _ _ _ h => h) (Or.inl ⟨by rfl, ?_⟩) hHeld ?_
        · intro ww hSw
          clear hSw
          go_simp
        simp only [Act.put, List.setIfInBounds_toArray, List.set_cons_zero, List.set_cons_succ]
        refine wpAnyH_take (i := 9) (oi := ⟨some 56, _, _, _, _, _⟩) (v := (.int .i64 (j : Int))) rfl (by kernel_rfl) (by kernel_rfl) (by kernel_rfl) (fun _ _ _ h => h) (Or.inl ⟨by rfl, ?_⟩) hHeld ?_
        · intro ww hSw
          (try dsimp only at hSw)
          have c0 := (HWW.out.v.chg HN.out.one.2.1 hSw).cell 9 DD.out.2.2.2
          have z0 := cell_lt c0
          go_simp
        simp only [Act.put, List.setIfInBounds_toArray, List.set_cons_zero, List.set_cons_succ]
        refine wpAnyH_take (i := 10) (oi := ⟨some 57, _, _, _, _, _⟩) (v := (.pointer (some ⟨b4, o4 + j * 2, none⟩))) rfl (by kernel_rfl) (by kernel_rfl) (by kernel_rfl) (fun _ _ _ h => h) (Or.inl ⟨by rfl, ?_⟩) hHeld ?_
        · intro ww hSw
          clear hSw
          go_simp
        simp only [Act.put, List.setIfInBounds_toArray, List.set_cons_zero, List.set_cons_succ]
        refine wpAnyH_take (i := 11) (oi := ⟨some 58, _, _, _, _, _⟩) (v := (.agg #[.int .i64 gn, .int .i64 gd])) rfl (by kernel_rfl) (by kernel_rfl) (by kernel_rfl) (fun _ _ _ h => h) (Or.inl ⟨by rfl, ?_⟩) hHeld ?_
        · intro ww hSw
          (try dsimp only at hSw)
          obtain ⟨-, -, c0, c1⟩ := X.out ww (HWW.out.belc HN.out hSw)
          have z0 := cell_lt c0
          go_simp
        simp only [Act.put, List.setIfInBounds_toArray, List.set_cons_zero, List.set_cons_succ]
        refine wpAnyH_ready (rs := [5, 16]) (by kernel_rfl) (by simp) ?_
        refine AllReadyH.cons (o := ⟨some 52, _, _, _, _, _⟩) rfl (fun Kx hKx => ?_) (AllReadyH.cons (o := ⟨some 11, _, _, _, _, _⟩) rfl (fun Kx hKx => ?_) AllReadyH.nil)
        · go_simp
          go_at_call 63
          refine (times_c pn pd D 0 r1.c r1 K T _ M1.out (by omega) B2.out.1.1 B2.out.1.2 H1.out (zero_fstC _) HW.out.k HW.out.t HN.out.one.2.2.2.1).mono ?_
          rintro e_r v1 ⟨rfl, k_, b_⟩
          replace HW := Lib.hid (HW.out.keep HN.out k_ b_)
          replace HC := Lib.hid (HC.out.on b_)
          clear b_ k_ hHeld
          go_wp2_with fail
          refine hKx.out _ _ ?_ (fun hHeld => ?_)
          · (try dsimp only)
            exact HC.out
          clear hKx Kx
          (try simp only [Act.put, List.setIfInBounds_toArray, List.set_cons_zero, List.set_cons_succ])
          refine wpAnyH_ready (rs := [12, 16]) (by kernel_rfl) (by simp) ?_
          refine AllReadyH.cons (o := ⟨some 59, _, _, _, _, _⟩) rfl (fun Kx hKx => ?_) (AllReadyH.cons (o := ⟨some 11, _, _, _, _, _⟩) rfl (fun Kx hKx => ?_) AllReadyH.nil)
          · go_simp
            go_at_call 26
            refine (qmul_x r1.n r1.d gn gd r2 _ H2.out B3.out.1.1 B3.out.1.2 B2.out.2.1.1 B2.out.2.1.2).mono ?_
            rintro e_r v2 ⟨rfl, b_⟩
            replace HW := Lib.hid (HW.out.below b_)
            replace HC := Lib.hid (HC.out.onB b_)
            clear b_ hHeld
            go_wp2_with fail
            refine hKx.out _ _ ?_ (fun hHeld => ?_)
            · (try dsimp only)
              exact HC.out
            clear hKx Kx
            (try simp only [Act.put, List.setIfInBounds_toArray, List.set_cons_zero, List.set_cons_succ])
            refine wpAnyH_take (i := 13) (oi := ⟨some 60, _, _, _, _, _⟩) (v := (.agg #[.int .i64 r2.n, .int .i64 r2.d])) rfl (by kernel_rfl) (by kernel_rfl) (by kernel_rfl) (fun _ _ _ h => h) (Or.inl ⟨by rfl, ?_⟩) hHeld ?_
            · intro ww hSw
              clear hSw
              go_simp
            simp only [Act.put, List.setIfInBounds_toArray, List.set_cons_zero, List.set_cons_succ]
            refine wpAnyH_take (i := 14) (oi := ⟨some 61, _, _, _, _, _⟩) (v := (.int .i64 r2.c)) rfl (by kernel_rfl) (by kernel_rfl) (by kernel_rfl) (fun _ _ _ h => h) (Or.inl ⟨by rfl, ?_⟩) hHeld ?_
            · intro ww hSw
              clear hSw
              go_simp
            simp only [Act.put, List.setIfInBounds_toArray, List.set_cons_zero, List.set_cons_succ]
            refine wpAnyH_ready (rs := [15, 16]) (by kernel_rfl) (by simp) ?_
            refine AllReadyH.cons (o := ⟨some 62, _, _, _, _, _⟩) rfl (fun Kx hKx => ?_) (AllReadyH.cons (o := ⟨some 11, _, _, _, _, _⟩) rfl (fun Kx hKx => ?_) AllReadyH.nil)
            · go_simp
              go_at_call 62
              refine (keep_c r2.n r2.d r2.c r1.c e2 K _ K2.out HW.out.k).mono ?_
              rintro e_r v3 ⟨rfl, k_, b_⟩
              replace HW := Lib.hid (HW.out.keep HN.out k_ b_)
              replace HC := Lib.hid (HC.out.on b_)
              clear b_ k_ hHeld
              go_wp2_with fail
              refine hKx.out _ _ ?_ (fun hHeld => ?_)
              · (try dsimp only)
                exact HC.out
              clear hKx Kx
              (try simp only [Act.put, List.setIfInBounds_toArray, List.set_cons_zero, List.set_cons_succ])
              refine wpAnyH_ready (rs := [16]) (by kernel_rfl) (by simp) ?_
              refine AllReadyH.cons (o := ⟨some 11, _, _, _, _, _⟩) rfl (fun Kx hKx => ?_) AllReadyH.nil
              go_simp
              have H11 := Lib.hid (Has.new v3 24 #[.int .i64 0, .int .i64 0] rfl)
              have n_H11 : ¬ v3.heap.size = K := by have := HW.out.k.size; omega
              have l_H11 : wc.heap.size ≤ v3.heap.size := HC.out.size
              replace HW := Lib.hid (HW.out.alloc (.cells #[.int .i64 0, .int .i64 0] 24))
              replace HC := Lib.hid (HC.out.alloc (.cells #[.int .i64 0, .int .i64 0] 24))
              clear hHeld
              refine hKx.out _ _ ?_ (fun hHeld => ?_)
              · (try dsimp only)
                exact HC.out
              clear hKx Kx
              (try simp only [Act.put, List.setIfInBounds_toArray, List.set_cons_zero, List.set_cons_succ])
              generalize v3.alloc (.cells #[.int .i64 0, .int .i64 0] 24) = v4 at *
              generalize v3.heap.size = g11 at *
              refine wpAnyH_ready (rs := [17]) (by kernel_rfl) (by simp) ?_
              refine AllReadyH.cons (o := ⟨none, _, _, _, _, _⟩) rfl (fun Kx hKx => ?_) AllReadyH.nil
              obtain ⟨c0, c1, f0, f1⟩ := H11.out.two
              have z0 := H11.out.size
              go_simp
              replace HC := Lib.hid (HC.out.set (p := ⟨g11, 0, none⟩) (.inl (by simp; omega)) (.int .i64 r2.n))
              replace HW := Lib.hid (HW.out.far HN.out (p := ⟨g11, 0, none⟩) (by simp; omega) (.int .i64 r2.n))
              replace H11 := Lib.hid (H11.out.set 0 (.int .i64 r2.n))
              replace HC := Lib.hid (HC.out.set (p := ⟨g11, 1, none⟩) (.inl (by simp; omega)) (.int .i64 r2.d))
              replace HW := Lib.hid (HW.out.far HN.out (p := ⟨g11, 1, none⟩) (by simp; omega) (.int .i64 r2.d))
              replace H11 := Lib.hid (H11.out.set 1 (.int .i64 r2.d))
              clear c0 c1 f0 f1 z0 hHeld
              refine hKx.out _ _ ?_ (fun hHeld => ?_)
              · (try dsimp only)
                exact HC.out
              clear hKx Kx
              (try simp only [Act.put, List.setIfInBounds_toArray, List.set_cons_zero, List.set_cons_succ])
              refine wpAnyH_done (by kernel_rfl) ?_ _
              refine NoPanic.normal ?_
              go_wp2_with fail
              go_meet
              exact ⟨g11, rfl, n_H11, by omega, HW, H11⟩
            · go_simp
              have H11 := Lib.hid (Has.new v2 24 #[.int .i64 0, .int .i64 0] rfl)
              have n_H11 : ¬ v2.heap.size = K := by have := HW.out.k.size; omega
              have l_H11 : wc.heap.size ≤ v2.heap.size := HC.out.size
              replace HW := Lib.hid (HW.out.alloc (.cells #[.int .i64 0, .int .i64 0] 24))
              replace HC := Lib.hid (HC.out.alloc (.cells #[.int .i64 0, .int .i64 0] 24))
              clear hHeld
              refine hKx.out _ _ ?_ (fun hHeld => ?_)
              · (try dsimp only)
                exact HC.out
              clear hKx Kx
              (try simp only [Act.put, List.setIfInBounds_toArray, List.set_cons_zero, List.set_cons_succ])
              generalize v2.alloc (.cells #[.int .i64 0, .int .i64 0] 24) = v3 at *
              generalize v2.heap.size = g11 at *
              refine wpAnyH_ready (rs := [15]) (by kernel_rfl) (by simp) ?_
              refine AllReadyH.cons (o := ⟨some 62, _, _, _, _, _⟩) rfl (fun Kx hKx => ?_) AllReadyH.nil
              go_simp
              go_at_call 62
              refine (keep_c r2.n r2.d r2.c r1.c e2 K _ K2.out HW.out.k).mono ?_
              rintro e_r v4 ⟨rfl, k_, b_⟩
              replace H11 := Lib.hid (H11.out.chg n_H11 b_)
              replace HW := Lib.hid (HW.out.keep HN.out k_ b_)
              replace HC := Lib.hid (HC.out.on b_)
              clear b_ k_ hHeld
              go_wp2_with fail
              refine hKx.out _ _ ?_ (fun hHeld => ?_)
              · (try dsimp only)
                exact HC.out
              clear hKx Kx
              (try simp only [Act.put, List.setIfInBounds_toArray, List.set_cons_zero, List.set_cons_succ])
              refine wpAnyH_ready (rs := [17]) (by kernel_rfl) (by simp) ?_
              refine AllReadyH.cons (o := ⟨none, _, _, _, _, _⟩) rfl (fun Kx hKx => ?_) AllReadyH.nil
              obtain ⟨c0, c1, f0, f1⟩ := H11.out.two
              have z0 := H11.out.size
              go_simp
              replace HC := Lib.hid (HC.out.set (p := ⟨g11, 0, none⟩) (.inl (by simp; omega)) (.int .i64 r2.n))
              replace HW := Lib.hid (HW.out.far HN.out (p := ⟨g11, 0, none⟩) (by simp; omega) (.int .i64 r2.n))
              replace H11 := Lib.hid (H11.out.set 0 (.int .i64 r2.n))
              replace HC := Lib.hid (HC.out.set (p := ⟨g11, 1, none⟩) (.inl (by simp; omega)) (.int .i64 r2.d))
              replace HW := Lib.hid (HW.out.far HN.out (p := ⟨g11, 1, none⟩) (by simp; omega) (.int .i64 r2.d))
              replace H11 := Lib.hid (H11.out.set 1 (.int .i64 r2.d))
              clear c0 c1 f0 f1 z0 hHeld
              refine hKx.out _ _ ?_ (fun hHeld => ?_)
              · (try dsimp only)
                exact HC.out
              clear hKx Kx
              (try simp only [Act.put, List.setIfInBounds_toArray, List.set_cons_zero, List.set_cons_succ])
              refine wpAnyH_done (by kernel_rfl) ?_ _
              refine NoPanic.normal ?_
              go_wp2_with fail
              go_meet
              exact ⟨g11, rfl, n_H11, by omega, HW, H11⟩
          · go_simp
            have H11 := Lib.hid (Has.new v1 24 #[.int .i64 0, .int .i64 0] rfl)
            have n_H11 : ¬ v1.heap.size = K := by have := HW.out.k.size; omega
            have l_H11 : wc.heap.size ≤ v1.heap.size := HC.out.size
            replace HW := Lib.hid (HW.out.alloc (.cells #[.int .i64 0, .int .i64 0] 24))
            replace HC := Lib.hid (HC.out.alloc (.cells #[.int .i64 0, .int .i64 0] 24))
            clear hHeld
            refine hKx.out _ _ ?_ (fun hHeld => ?_)
            · (try dsimp only)
              exact HC.out
            clear hKx Kx
            (try simp only [Act.put, List.setIfInBounds_toArray, List.set_cons_zero, List.set_cons_succ])
            generalize v1.alloc (.cells #[.int .i64 0, .int .i64 0] 24) = v2 at *
            generalize v1.heap.size = g11 at *
            refine wpAnyH_ready (rs := [12]) (by kernel_rfl) (by simp) ?_
            refine AllReadyH.cons (o := ⟨some 59, _, _, _, _, _⟩) rfl (fun Kx hKx => ?_) AllReadyH.nil
            go_simp
            go_at_call 26
            refine (qmul_x r1.n r1.d gn gd r2 _ H2.out B3.out.1.1 B3.out.1.2 B2.out.2.1.1 B2.out.2.1.2).mono ?_
            rintro e_r v3 ⟨rfl, b_⟩
            replace H11 := Lib.hid (H11.out.below b_)
            replace HW := Lib.hid (HW.out.below b_)
            replace HC := Lib.hid (HC.out.onB b_)
            clear b_ hHeld
            go_wp2_with fail
            refine hKx.out _ _ ?_ (fun hHeld => ?_)
            · (try dsimp only)
              exact HC.out
            clear hKx Kx
            (try simp only [Act.put, List.setIfInBounds_toArray, List.set_cons_zero, List.set_cons_succ])
            refine wpAnyH_take (i := 13) (oi := ⟨some 60, _, _, _, _, _⟩) (v := (.agg #[.int .i64 r2.n, .int .i64 r2.d])) rfl (by kernel_rfl) (by kernel_rfl) (by kernel_rfl) (fun _ _ _ h => h) (Or.inl ⟨by rfl, ?_⟩) hHeld ?_
            · intro ww hSw
              clear hSw
              go_simp
            simp only [Act.put, List.setIfInBounds_toArray, List.set_cons_zero, List.set_cons_succ]
            refine wpAnyH_take (i := 14) (oi := ⟨some 61, _, _, _, _, _⟩) (v := (.int .i64 r2.c)) rfl (by kernel_rfl) (by kernel_rfl) (by kernel_rfl) (fun _ _ _ h => h) (Or.inl ⟨by rfl, ?_⟩) hHeld ?_
            · intro ww hSw
              clear hSw
              go_simp
            simp only [Act.put, List.setIfInBounds_toArray, List.set_cons_zero, List.set_cons_succ]
            refine wpAnyH_ready (rs := [15]) (by kernel_rfl) (by simp) ?_
            refine AllReadyH.cons (o := ⟨some 62, _, _, _, _, _⟩) rfl (fun Kx hKx => ?_) AllReadyH.nil
            go_simp
            go_at_call 62
            refine (keep_c r2.n r2.d r2.c r1.c e2 K _ K2.out HW.out.k).mono ?_
            rintro e_r v4 ⟨rfl, k_, b_⟩
            replace H11 := Lib.hid (H11.out.chg n_H11 b_)
            replace HW := Lib.hid (HW.out.keep HN.out k_ b_)
            replace HC := Lib.hid (HC.out.on b_)
            clear b_ k_ hHeld
            go_wp2_with fail
            refine hKx.out _ _ ?_ (fun hHeld => ?_)
            · (try dsimp only)
              exact HC.out
            clear hKx Kx
            (try simp only [Act.put, List.setIfInBounds_toArray, List.set_cons_zero, List.set_cons_succ])
            refine wpAnyH_ready (rs := [17]) (by kernel_rfl) (by simp) ?_
            refine AllReadyH.cons (o := ⟨none, _, _, _, _, _⟩) rfl (fun Kx hKx => ?_) AllReadyH.nil
            obtain ⟨c0, c1, f0, f1⟩ := H11.out.two
            have z0 := H11.out.size
            go_simp
            replace HC := Lib.hid (HC.out.set (p := ⟨g11, 0, none⟩) (.inl (by simp; omega)) (.int .i64 r2.n))
            replace HW := Lib.hid (HW.out.far HN.out (p := ⟨g11, 0, none⟩) (by simp; omega) (.int .i64 r2.n))
            replace H11 := Lib.hid (H11.out.set 0 (.int .i64 r2.n))
            replace HC := Lib.hid (HC.out.set (p := ⟨g11, 1, none⟩) (.inl (by simp; omega)) (.int .i64 r2.d))
            replace HW := Lib.hid (HW.out.far HN.out (p := ⟨g11, 1, none⟩) (by simp; omega) (.int .i64 r2.d))
            replace H11 := Lib.hid (H11.out.set 1 (.int .i64 r2.d))
            clear c0 c1 f0 f1 z0 hHeld
            refine hKx.out _ _ ?_ (fun hHeld => ?_)
            · (try dsimp only)
              exact HC.out
            clear hKx Kx
            (try simp only [Act.put, List.setIfInBounds_toArray, List.set_cons_zero, List.set_cons_succ])
            refine wpAnyH_done (by kernel_rfl) ?_ _
            refine NoPanic.normal ?_
            go_wp2_with fail
            go_meet
            exact ⟨g11, rfl, n_H11, by omega, HW, H11⟩
        · go_simp
          have H11 := Lib.hid (Has.new v0 24 #[.int .i64 0, .int .i64 0] rfl)
          have n_H11 : ¬ v0.heap.size = K := by have := HW.out.k.size; omega
          have l_H11 : wc.heap.size ≤ v0.heap.size := HC.out.size
          replace HW := Lib.hid (HW.out.alloc (.cells #[.int .i64 0, .int .i64 0] 24))
          replace HC := Lib.hid (HC.out.alloc (.cells #[.int .i64 0, .int .i64 0] 24))
          clear hHeld
          refine hKx.out _ _ ?_ (fun hHeld => ?_)
          · (try dsimp only)
            exact HC.out
          clear hKx Kx
          (try simp only [Act.put, List.setIfInBounds_toArray, List.set_cons_zero, List.set_cons_succ])
          generalize v0.alloc (.cells #[.int .i64 0, .int .i64 0] 24) = v1 at *
          generalize v0.heap.size = g11 at *
          refine wpAnyH_ready (rs := [5]) (by kernel_rfl) (by simp) ?_
          refine AllReadyH.cons (o := ⟨some 52, _, _, _, _, _⟩) rfl (fun Kx hKx => ?_) AllReadyH.nil
          go_simp
          go_at_call 63
          refine (times_c pn pd D 0 r1.c r1 K T _ M1.out (by omega) B2.out.1.1 B2.out.1.2 H1.out (zero_fstC _) HW.out.k HW.out.t HN.out.one.2.2.2.1).mono ?_
          rintro e_r v2 ⟨rfl, k_, b_⟩
          replace H11 := Lib.hid (H11.out.chg n_H11 b_)
          replace HW := Lib.hid (HW.out.keep HN.out k_ b_)
          replace HC := Lib.hid (HC.out.on b_)
          clear b_ k_ hHeld
          go_wp2_with fail
          refine hKx.out _ _ ?_ (fun hHeld => ?_)
          · (try dsimp only)
            exact HC.out
          clear hKx Kx
          (try simp only [Act.put, List.setIfInBounds_toArray, List.set_cons_zero, List.set_cons_succ])
          refine wpAnyH_ready (rs := [12]) (by kernel_rfl) (by simp) ?_
          refine AllReadyH.cons (o := ⟨some 59, _, _, _, _, _⟩) rfl (fun Kx hKx => ?_) AllReadyH.nil
          go_simp
          go_at_call 26
          refine (qmul_x r1.n r1.d gn gd r2 _ H2.out B3.out.1.1 B3.out.1.2 B2.out.2.1.1 B2.out.2.1.2).mono ?_
          rintro e_r v3 ⟨rfl, b_⟩
          replace H11 := Lib.hid (H11.out.below b_)
          replace HW := Lib.hid (HW.out.below b_)
          replace HC := Lib.hid (HC.out.onB b_)
          clear b_ hHeld
          go_wp2_with fail
          refine hKx.out _ _ ?_ (fun hHeld => ?_)
          · (try dsimp only)
            exact HC.out
          clear hKx Kx
          (try simp only [Act.put, List.setIfInBounds_toArray, List.set_cons_zero, List.set_cons_succ])
          refine wpAnyH_take (i := 13) (oi := ⟨some 60, _, _, _, _, _⟩) (v := (.agg #[.int .i64 r2.n, .int .i64 r2.d])) rfl (by kernel_rfl) (by kernel_rfl) (by kernel_rfl) (fun _ _ _ h => h) (Or.inl ⟨by rfl, ?_⟩) hHeld ?_
          · intro ww hSw
            clear hSw
            go_simp
          simp only [Act.put, List.setIfInBounds_toArray, List.set_cons_zero, List.set_cons_succ]
          refine wpAnyH_take (i := 14) (oi := ⟨some 61, _, _, _, _, _⟩) (v := (.int .i64 r2.c)) rfl (by kernel_rfl) (by kernel_rfl) (by kernel_rfl) (fun _ _ _ h => h) (Or.inl ⟨by rfl, ?_⟩) hHeld ?_
          · intro ww hSw
            clear hSw
            go_simp
          simp only [Act.put, List.setIfInBounds_toArray, List.set_cons_zero, List.set_cons_succ]
          refine wpAnyH_ready (rs := [15]) (by kernel_rfl) (by simp) ?_
          refine AllReadyH.cons (o := ⟨some 62, _, _, _, _, _⟩) rfl (fun Kx hKx => ?_) AllReadyH.nil
          go_simp
          go_at_call 62
          refine (keep_c r2.n r2.d r2.c r1.c e2 K _ K2.out HW.out.k).mono ?_
          rintro e_r v4 ⟨rfl, k_, b_⟩
          replace H11 := Lib.hid (H11.out.chg n_H11 b_)
          replace HW := Lib.hid (HW.out.keep HN.out k_ b_)
          replace HC := Lib.hid (HC.out.on b_)
          clear b_ k_ hHeld
          go_wp2_with fail
          refine hKx.out _ _ ?_ (fun hHeld => ?_)
          · (try dsimp only)
            exact HC.out
          clear hKx Kx
          (try simp only [Act.put, List.setIfInBounds_toArray, List.set_cons_zero, List.set_cons_succ])
          refine wpAnyH_ready (rs := [17]) (by kernel_rfl) (by simp) ?_
          refine AllReadyH.cons (o := ⟨none, _, _, _, _, _⟩) rfl (fun Kx hKx => ?_) AllReadyH.nil
          obtain ⟨c0, c1, f0, f1⟩ := H11.out.two
          have z0 := H11.out.size
          go_simp
          replace HC := Lib.hid (HC.out.set (p := ⟨g11, 0, none⟩) (.inl (by simp; omega)) (.int .i64 r2.n))
          replace HW := Lib.hid (HW.out.far HN.out (p := ⟨g11, 0, none⟩) (by simp; omega) (.int .i64 r2.n))
          replace H11 := Lib.hid (H11.out.set 0 (.int .i64 r2.n))
          replace HC := Lib.hid (HC.out.set (p := ⟨g11, 1, none⟩) (.inl (by simp; omega)) (.int .i64 r2.d))
          replace HW := Lib.hid (HW.out.far HN.out (p := ⟨g11, 1, none⟩) (by simp; omega) (.int .i64 r2.d))
          replace H11 := Lib.hid (H11.out.set 1 (.int .i64 r2.d))
          clear c0 c1 f0 f1 z0 hHeld
          refine hKx.out _ _ ?_ (fun hHeld => ?_)
          · (try dsimp only)
            exact HC.out
          clear hKx Kx
          (try simp only [Act.put, List.setIfInBounds_toArray, List.set_cons_zero, List.set_cons_succ])
          refine wpAnyH_done (by kernel_rfl) ?_ _
          refine NoPanic.normal ?_
          go_wp2_with fail
          go_meet
          exact ⟨g11, rfl, n_H11, by omega, HW, H11⟩
    case rest =>
    clear HW
    obtain ⟨g11, rfl, n_H11, l11, HW, H11⟩ := hcut
    go_upto_region 11 with fail
    go_cut [12] (fun v12 wx => ∃ g : Nat, v12 = .pointer (some ⟨g, 0, none⟩) ∧ ¬ g = K ∧ L ≤ g ∧ Hid (GoW w L w.heap.size (w.heap.size + 1) (w.heap.size + 1 + 1) K T G cs es #[.int .i64 fn, .int .i64 fd, .int .i64 un1, .int .i64 ud1] e5 wx) ∧ Hid (Has wx g #[.int .i64 r5.n, .int .i64 r5.d]) ∧ Hid (Has wx g11 #[.int .i64 r2.n, .int .i64 r2.d]))
    case first =>
      as_aux_lemma =>
        have HWW := HW
        have H11W := H11
        have s_H11 := H11.out.size
        have hWc := HW.out.lim
        refine wp_region_noPanic ?_
        refine wp_region_held_drew (S := fun w' => Chg (fun b => b = K) wc w') (by kernel_rfl) (Chg.of_below (below_drew (Below.refl _ _))) (fun hHeld => ?_)
        have HC : Hid (Chg (fun b => b = K) wc wc.drew) := Lib.hid hHeld
        replace H11 := Lib.hid (H11.out.drew)
        replace HW := Lib.hid (HW.out.drew)
        generalize wc.drew = v0 at *
        refine wpAnyH_take (i := 0) (oi := ⟨some 63, _, _, _, _, _⟩) (v := (.func (.func 62) #[] #[.pointer (some ⟨K, 0, none⟩)])) rfl (by kernel_rfl) (by kernel_rfl) (by kernel_rfl) (fun _ _ _ h => h) (Or.inl ⟨by rfl, ?_⟩) hHeld ?_
        · intro ww hSw
          (try dsimp only at hSw)
          have c0 := (HWW.out.t.chg HN.out.one.2.2.2.1 hSw).cell 0 rfl
          have z0 := cell_lt c0
          go_simp
        simp only [Act.put, List.setIfInBounds_toArray, List.set_cons_zero, List.set_cons_succ]
        refine wpAnyH_take (i := 1) (oi := ⟨some 64, _, _, _, _, _⟩) (v := (.func (.func 62) #[] #[.pointer (some ⟨K, 0, none⟩)])) rfl (by kernel_rfl) (by kernel_rfl) (by kernel_rfl) (fun _ _ _ h => h) (Or.inl ⟨by rfl, ?_⟩) hHeld ?_
        · intro ww hSw
          (try dsimp only at hSw)
          have c0 := (HWW.out.t.chg HN.out.one.2.2.2.1 hSw).cell 0 rfl
          have z0 := cell_lt c0
          go_simp
        simp only [Act.put, List.setIfInBounds_toArray, List.set_cons_zero, List.set_cons_succ]
        refine wpAnyH_take (i := 2) (oi := ⟨some 65, _, _, _, _, _⟩) (v := (.pointer (some ⟨G, 0, none⟩))) rfl (by kernel_rfl) (by kernel_rfl) (by kernel_rfl) (fun _ _ _ h => h) (Or.inl ⟨by rfl, ?_⟩) hHeld ?_
        · intro ww hSw
          clear hSw
          go_simp
        simp only [Act.put, List.setIfInBounds_toArray, List.set_cons_zero, List.set_cons_succ]
        refine wpAnyH_take (i := 3) (oi := ⟨some 66, _, _, _, _, _⟩) (v := (.agg #[.int .i64 fn, .int .i64 fd])) rfl (by kernel_rfl) (by kernel_rfl) (by kernel_rfl) (fun _ _ _ h => h) (Or.inl ⟨by rfl, ?_⟩) hHeld ?_
        · intro ww hSw
          (try dsimp only at hSw)
          have c0 := (HWW.out.g.chg HN.out.one.2.2.2.2 hSw).cell 0 rfl
          have c1 := (HWW.out.g.chg HN.out.one.2.2.2.2 hSw).cell 1 rfl
          have z0 := cell_lt c0
          go_simp
        simp only [Act.put, List.setIfInBounds_toArray, List.set_cons_zero, List.set_cons_succ]
        refine wpAnyH_take (i := 4) (oi := ⟨some 67, _, _, _, _, _⟩) (v := (.func (.func 63) #[] #[.pointer (some ⟨T, 0, none⟩)])) rfl (by kernel_rfl) (by kernel_rfl) (by kernel_rfl) (fun _ _ _ h => h) (Or.inl ⟨by rfl, ?_⟩) hHeld ?_
        · intro ww hSw
          clear hSw
          go_simp
        simp only [Act.put, List.setIfInBounds_toArray, List.set_cons_zero, List.set_cons_succ]
        refine wpAnyH_take (i := 5) (oi := ⟨some 68, _, _, _, _, _⟩) (v := (.pointer (some ⟨G, 2, none⟩))) rfl (by kernel_rfl) (by kernel_rfl) (by kernel_rfl) (fun _ _ _ h => h) (Or.inl ⟨by rfl, ?_⟩) hHeld ?_
        · intro ww hSw
          clear hSw
          go_simp
        simp only [Act.put, List.setIfInBounds_toArray, List.set_cons_zero, List.set_cons_succ]
        refine wpAnyH_take (i := 6) (oi := ⟨some 69, _, _, _, _, _⟩) (v := (.agg #[.int .i64 un1, .int .i64 ud1])) rfl (by kernel_rfl) (by kernel_rfl) (by kernel_rfl) (fun _ _ _ h => h) (Or.inl ⟨by rfl, ?_⟩) hHeld ?_
        · intro ww hSw
          (try dsimp only at hSw)
          have c0 := (HWW.out.g.chg HN.out.one.2.2.2.2 hSw).cell 2 rfl
          have c1 := (HWW.out.g.chg HN.out.one.2.2.2.2 hSw).cell 3 rfl
          have z0 := cell_lt c0
          go_simp
        simp only [Act.put, List.setIfInBounds_toArray, List.set_cons_zero, List.set_cons_succ]
        refine wpAnyH_take (i := 7) (oi := ⟨some 70, _, _, _, _, _⟩) (v := (.pointer (some ⟨(w.heap.size + 1), 7, none⟩))) rfl (by kernel_rfl) (by kernel_rfl) (by kernel_rfl) (fun _ _ _ h => h) (Or.inl ⟨by rfl, ?_⟩) hHeld ?_
        · intro ww hSw
          clear hSw
          go_simp
        simp only [Act.put, List.setIfInBounds_toArray, List.set_cons_zero, List.set_cons_succ]
        refine wpAnyH_take (i := 8) (oi := ⟨some 71, _, _, _, _, _⟩) (v := (.int .i64 un)) rfl (by kernel_rfl) (by kernel_rfl) (by kernel_rfl) (fun _ _ _ h => h) (Or.inl ⟨by rfl, ?_⟩) hHeld ?_
        · intro ww hSw
          (try dsimp only at hSw)
          have c0 := (HWW.out.v.chg HN.out.one.2.1 hSw).cell 7 DD.out.2.1
          have z0 := cell_lt c0
          go_simp
        simp only [Act.put, List.setIfInBounds_toArray, List.set_cons_zero, List.set_cons_succ]
        refine wpAnyH_take (i := 15) (oi := ⟨some 78, _, _, _, _, _⟩) (v := (.pointer (some ⟨w.heap.size, 5, none⟩))) rfl (by kernel_rfl) (by kernel_rfl) (by kernel_rfl) (fun _ _ _ h => h) (Or.inl ⟨by rfl, ?_⟩) hHeld ?_
        · intro ww hSw
          clear hSw
          go_simp
        simp only [Act.put, List.setIfInBounds_toArray, List.set_cons_zero, List.set_cons_succ]
        refine wpAnyH_take (i := 16) (oi := ⟨some 79, _, _, _, _, _⟩) (v := (.slice (some ⟨b3, o3, none⟩) nC c3)) rfl (by kernel_rfl) (by kernel_rfl) (by kernel_rfl) (fun _ _ _ h => h) (Or.inl ⟨by rfl, ?_⟩) hHeld ?_
        · intro ww hSw
          (try dsimp only at hSw)
          have c0 := (HWW.out.s.chg HN.out.one.1 hSw).cell 5 Q.out.2.2.2.1
          have z0 := cell_lt c0
          go_simp
        simp only [Act.put, List.setIfInBounds_toArray, List.set_cons_zero, List.set_cons_succ]
        refine wpAnyH_take (i := 17) (oi := ⟨some 80, _, _, _, _, _⟩) (v := (.pointer (some ⟨(w.heap.size + 1), 8, none⟩))) rfl (by kernel_rfl) (by kernel_rfl) (by kernel_rfl) (fun _ _ _ h => h) (Or.inl ⟨by rfl, ?_⟩) hHeld ?_
        · intro ww hSw
          clear hSw
          go_simp
        simp only [Act.put, List.setIfInBounds_toArray, List.set_cons_zero, List.set_cons_succ]
        refine wpAnyH_take (i := 18) (oi := ⟨some 81, _, _, _, _, _⟩) (v := (.int .i64 (c : Int))) rfl (by kernel_rfl) (by kernel_rfl) (by kernel_rfl) (fun _ _ _ h => h) (Or.inl ⟨by rfl, ?_⟩) hHeld ?_
        · intro ww hSw
          (try dsimp only at hSw)
          have c0 := (HWW.out.v.chg HN.out.one.2.1 hSw).cell 8 DD.out.2.2.1
          have z0 := cell_lt c0
          go_simp
        simp only [Act.put, List.setIfInBounds_toArray, List.set_cons_zero, List.set_cons_succ]
        refine wpAnyH_take (i := 19) (oi := ⟨some 82, _, _, _, _, _⟩) (v := (.pointer (some ⟨b3, o3 + c * 2, none⟩))) rfl (by kernel_rfl) (by kernel_rfl) (by kernel_rfl) (fun _ _ _ h => h) (Or.inl ⟨by rfl, ?_⟩) hHeld ?_
        · intro ww hSw
          clear hSw
          go_simp
        simp only [Act.put, List.setIfInBounds_toArray, List.set_cons_zero, List.set_cons_succ]
        refine wpAnyH_take (i := 20) (oi := ⟨some 83, _, _, _, _, _⟩) (v := (.agg #[.int .i64 cn1, .int .i64 cd1])) rfl (by kernel_rfl) (by kernel_rfl) (by kernel_rfl) (fun _ _ _ h => h) (Or.inl ⟨by rfl, ?_⟩) hHeld ?_
        · intro ww hSw
          (try dsimp only at hSw)
          obtain ⟨-, ⟨c0, c1⟩, -⟩ := X.out ww (HWW.out.belc HN.out hSw)
          have z0 := cell_lt c0
          go_simp
        simp only [Act.put, List.setIfInBounds_toArray, List.set_cons_zero, List.set_cons_succ]
        refine wpAnyH_ready (rs := [9, 25]) (by kernel_rfl) (by simp) ?_
        refine AllReadyH.cons (o := ⟨some 72, _, _, _, _, _⟩) rfl (fun Kx hKx => ?_) (AllReadyH.cons (o := ⟨some 12, _, _, _, _, _⟩) rfl (fun Kx hKx => ?_) AllReadyH.nil)
        · go_simp
          go_at_call 63
          refine (times_c un1 ud1 un e2 e3 r3 K T _ M2.out (by omega) B2.out.2.2.2.2.1.1 B2.out.2.2.2.2.1.2 H3.out K3.out HW.out.k HW.out.t HN.out.one.2.2.2.1).mono ?_
          rintro e_r v1 ⟨rfl, k_, b_⟩
          replace H11 := Lib.hid (H11.out.chg n_H11 b_)
          replace HW := Lib.hid (HW.out.keep HN.out k_ b_)
          replace HC := Lib.hid (HC.out.on b_)
          clear b_ k_ hHeld
          go_wp2_with fail
          refine hKx.out _ _ ?_ (fun hHeld => ?_)
          · (try dsimp only)
            exact HC.out
          clear hKx Kx
          (try simp only [Act.put, List.setIfInBounds_toArray, List.set_cons_zero, List.set_cons_succ])
          refine wpAnyH_ready (rs := [10, 25]) (by kernel_rfl) (by simp) ?_
          refine AllReadyH.cons (o := ⟨some 73, _, _, _, _, _⟩) rfl (fun Kx hKx => ?_) (AllReadyH.cons (o := ⟨some 12, _, _, _, _, _⟩) rfl (fun Kx hKx => ?_) AllReadyH.nil)
          · go_simp
            have RB := Lib.hid (rats_new v1 [(fn, fd), (r3.n, r3.d)] 24 #[.int .i64 fn, .int .i64 fd, .int .i64 r3.n, .int .i64 r3.d] rfl (by simp only [List.mem_cons, List.not_mem_nil, or_false]; rintro x (rfl | rfl); all_goals (have := B2.out; have := B3.out; simp only [In64] at *; omega)))
            replace H11 := Lib.hid (H11.out.alloc (.cells #[.int .i64 fn, .int .i64 fd, .int .i64 r3.n, .int .i64 r3.d] 24))
            replace HW := Lib.hid (HW.out.alloc (.cells #[.int .i64 fn, .int .i64 fd, .int .i64 r3.n, .int .i64 r3.d] 24))
            replace HC := Lib.hid (HC.out.alloc (.cells #[.int .i64 fn, .int .i64 fd, .int .i64 r3.n, .int .i64 r3.d] 24))
            clear hHeld
            refine hKx.out _ _ ?_ (fun hHeld => ?_)
            · (try dsimp only)
              exact HC.out
            clear hKx Kx
            (try simp only [Act.put, List.setIfInBounds_toArray, List.set_cons_zero, List.set_cons_succ])
            generalize v1.alloc (.cells #[.int .i64 fn, .int .i64 fd, .int .i64 r3.n, .int .i64 r3.d] 24) = v2 at *
            generalize v1.heap.size = A73 at *
            refine wpAnyH_ready (rs := [11, 25]) (by kernel_rfl) (by simp) ?_
            refine AllReadyH.cons (o := ⟨some 74, _, _, _, _, _⟩) rfl (fun Kx hKx => ?_) (AllReadyH.cons (o := ⟨some 12, _, _, _, _, _⟩) rfl (fun Kx hKx => ?_) AllReadyH.nil)
            · go_simp
              go_at_call 25
              refine (qsum_x fn fd r3.n r3.d r4 _ 2 _ H4.out RB.out).mono ?_
              rintro e_r v3 ⟨rfl, b_⟩
              replace H11 := Lib.hid (H11.out.below b_)
              replace RB := Lib.hid (RB.out.below b_)
              replace HW := Lib.hid (HW.out.below b_)
              replace HC := Lib.hid (HC.out.onB b_)
              clear b_ hHeld
              go_wp2_with fail
              refine hKx.out _ _ ?_ (fun hHeld => ?_)
              · (try dsimp only)
                exact HC.out
              clear hKx Kx
              (try simp only [Act.put, List.setIfInBounds_toArray, List.set_cons_zero, List.set_cons_succ])
              clear RB
              refine wpAnyH_take (i := 12) (oi := ⟨some 75, _, _, _, _, _⟩) (v := (.agg #[.int .i64 r4.n, .int .i64 r4.d])) rfl (by kernel_rfl) (by kernel_rfl) (by kernel_rfl) (fun _ _ _ h => h) (Or.inl ⟨by rfl, ?_⟩) hHeld ?_
              · intro ww hSw
                clear hSw
                go_simp
              simp only [Act.put, List.setIfInBounds_toArray, List.set_cons_zero, List.set_cons_succ]
              refine wpAnyH_take (i := 13) (oi := ⟨some 76, _, _, _, _, _⟩) (v := (.int .i64 r4.c)) rfl (by kernel_rfl) (by kernel_rfl) (by kernel_rfl) (fun _ _ _ h => h) (Or.inl ⟨by rfl, ?_⟩) hHeld ?_
              · intro ww hSw
                clear hSw
                go_simp
              simp only [Act.put, List.setIfInBounds_toArray, List.set_cons_zero, List.set_cons_succ]
              refine wpAnyH_ready (rs := [14, 25]) (by kernel_rfl) (by simp) ?_
              refine AllReadyH.cons (o := ⟨some 77, _, _, _, _, _⟩) rfl (fun Kx hKx => ?_) (AllReadyH.cons (o := ⟨some 12, _, _, _, _, _⟩) rfl (fun Kx hKx => ?_) AllReadyH.nil)
              · go_simp
                go_at_call 62
                refine (keep_c r4.n r4.d r4.c e3 e4 K _ K4.out HW.out.k).mono ?_
                rintro e_r v4 ⟨rfl, k_, b_⟩
                replace H11 := Lib.hid (H11.out.chg n_H11 b_)
                replace HW := Lib.hid (HW.out.keep HN.out k_ b_)
                replace HC := Lib.hid (HC.out.on b_)
                clear b_ k_ hHeld
                go_wp2_with fail
                refine hKx.out _ _ ?_ (fun hHeld => ?_)
                · (try dsimp only)
                  exact HC.out
                clear hKx Kx
                (try simp only [Act.put, List.setIfInBounds_toArray, List.set_cons_zero, List.set_cons_succ])
                refine wpAnyH_ready (rs := [21, 25]) (by kernel_rfl) (by simp) ?_
                refine AllReadyH.cons (o := ⟨some 84, _, _, _, _, _⟩) rfl (fun Kx hKx => ?_) (AllReadyH.cons (o := ⟨some 12, _, _, _, _, _⟩) rfl (fun Kx hKx => ?_) AllReadyH.nil)
                · go_simp
                  go_at_call 26
                  refine (qmul_x r4.n r4.d cn1 cd1 r5 _ H5.out B3.out.2.2.2.1.1 B3.out.2.2.2.1.2 B2.out.2.2.1.1 B2.out.2.2.1.2).mono ?_
                  rintro e_r v5 ⟨rfl, b_⟩
                  replace H11 := Lib.hid (H11.out.below b_)
                  replace HW := Lib.hid (HW.out.below b_)
                  replace HC := Lib.hid (HC.out.onB b_)
                  clear b_ hHeld
                  go_wp2_with fail
                  refine hKx.out _ _ ?_ (fun hHeld => ?_)
                  · (try dsimp only)
                    exact HC.out
                  clear hKx Kx
                  (try simp only [Act.put, List.setIfInBounds_toArray, List.set_cons_zero, List.set_cons_succ])
                  refine wpAnyH_take (i := 22) (oi := ⟨some 85, _, _, _, _, _⟩) (v := (.agg #[.int .i64 r5.n, .int .i64 r5.d])) rfl (by kernel_rfl) (by kernel_rfl) (by kernel_rfl) (fun _ _ _ h => h) (Or.inl ⟨by rfl, ?_⟩) hHeld ?_
                  · intro ww hSw
                    clear hSw
                    go_simp
                  simp only [Act.put, List.setIfInBounds_toArray, List.set_cons_zero, List.set_cons_succ]
                  refine wpAnyH_take (i := 23) (oi := ⟨some 86, _, _, _, _, _⟩) (v := (.int .i64 r5.c)) rfl (by kernel_rfl) (by kernel_rfl) (by kernel_rfl) (fun _ _ _ h => h) (Or.inl ⟨by rfl, ?_⟩) hHeld ?_
                  · intro ww hSw
                    clear hSw
                    go_simp
                  simp only [Act.put, List.setIfInBounds_toArray, List.set_cons_zero, List.set_cons_succ]
                  refine wpAnyH_ready (rs := [24, 25]) (by kernel_rfl) (by simp) ?_
                  refine AllReadyH.cons (o := ⟨some 87, _, _, _, _, _⟩) rfl (fun Kx hKx => ?_) (AllReadyH.cons (o := ⟨some 12, _, _, _, _, _⟩) rfl (fun Kx hKx => ?_) AllReadyH.nil)
                  · go_simp
                    go_at_call 62
                    refine (keep_c r5.n r5.d r5.c e4 e5 K _ K5.out HW.out.k).mono ?_
                    rintro e_r v6 ⟨rfl, k_, b_⟩
                    replace H11 := Lib.hid (H11.out.chg n_H11 b_)
                    replace HW := Lib.hid (HW.out.keep HN.out k_ b_)
                    replace HC := Lib.hid (HC.out.on b_)
                    clear b_ k_ hHeld
                    go_wp2_with fail
                    refine hKx.out _ _ ?_ (fun hHeld => ?_)
                    · (try dsimp only)
                      exact HC.out
                    clear hKx Kx
                    (try simp only [Act.put, List.setIfInBounds_toArray, List.set_cons_zero, List.set_cons_succ])
                    refine wpAnyH_ready (rs := [25]) (by kernel_rfl) (by simp) ?_
                    refine AllReadyH.cons (o := ⟨some 12, _, _, _, _, _⟩) rfl (fun Kx hKx => ?_) AllReadyH.nil
                    go_simp
                    have H12 := Lib.hid (Has.new v6 24 #[.int .i64 0, .int .i64 0] rfl)
                    have n_H12 : ¬ v6.heap.size = K := by have := HW.out.k.size; omega
                    have l_H12 : wc.heap.size ≤ v6.heap.size := HC.out.size
                    replace H11 := Lib.hid (H11.out.alloc (.cells #[.int .i64 0, .int .i64 0] 24))
                    replace HW := Lib.hid (HW.out.alloc (.cells #[.int .i64 0, .int .i64 0] 24))
                    replace HC := Lib.hid (HC.out.alloc (.cells #[.int .i64 0, .int .i64 0] 24))
                    clear hHeld
                    refine hKx.out _ _ ?_ (fun hHeld => ?_)
                    · (try dsimp only)
                      exact HC.out
                    clear hKx Kx
                    (try simp only [Act.put, List.setIfInBounds_toArray, List.set_cons_zero, List.set_cons_succ])
                    generalize v6.alloc (.cells #[.int .i64 0, .int .i64 0] 24) = v7 at *
                    generalize v6.heap.size = g12 at *
                    refine wpAnyH_ready (rs := [26]) (by kernel_rfl) (by simp) ?_
                    refine AllReadyH.cons (o := ⟨none, _, _, _, _, _⟩) rfl (fun Kx hKx => ?_) AllReadyH.nil
                    obtain ⟨c0, c1, f0, f1⟩ := H12.out.two
                    have z0 := H12.out.size
                    go_simp
                    replace HC := Lib.hid (HC.out.set (p := ⟨g12, 0, none⟩) (.inl (by simp; omega)) (.int .i64 r5.n))
                    replace HW := Lib.hid (HW.out.far HN.out (p := ⟨g12, 0, none⟩) (by simp; omega) (.int .i64 r5.n))
                    replace H11 := Lib.hid (H11.out.far (p := ⟨g12, 0, none⟩) (by simp; omega) (.int .i64 r5.n))
                    replace H12 := Lib.hid (H12.out.set 0 (.int .i64 r5.n))
                    replace HC := Lib.hid (HC.out.set (p := ⟨g12, 1, none⟩) (.inl (by simp; omega)) (.int .i64 r5.d))
                    replace HW := Lib.hid (HW.out.far HN.out (p := ⟨g12, 1, none⟩) (by simp; omega) (.int .i64 r5.d))
                    replace H11 := Lib.hid (H11.out.far (p := ⟨g12, 1, none⟩) (by simp; omega) (.int .i64 r5.d))
                    replace H12 := Lib.hid (H12.out.set 1 (.int .i64 r5.d))
                    clear c0 c1 f0 f1 z0 hHeld
                    refine hKx.out _ _ ?_ (fun hHeld => ?_)
                    · (try dsimp only)
                      exact HC.out
                    clear hKx Kx
                    (try simp only [Act.put, List.setIfInBounds_toArray, List.set_cons_zero, List.set_cons_succ])
                    refine wpAnyH_done (by kernel_rfl) ?_ _
                    refine NoPanic.normal ?_
                    go_wp2_with fail
                    go_meet
                    exact ⟨g12, rfl, n_H12, by omega, HW, H12, H11⟩
                  · go_simp
                    have H12 := Lib.hid (Has.new v5 24 #[.int .i64 0, .int .i64 0] rfl)
                    have n_H12 : ¬ v5.heap.size = K := by have := HW.out.k.size; omega
                    have l_H12 : wc.heap.size ≤ v5.heap.size := HC.out.size
                    replace H11 := Lib.hid (H11.out.alloc (.cells #[.int .i64 0, .int .i64 0] 24))
                    replace HW := Lib.hid (HW.out.alloc (.cells #[.int .i64 0, .int .i64 0] 24))
                    replace HC := Lib.hid (HC.out.alloc (.cells #[.int .i64 0, .int .i64 0] 24))
                    clear hHeld
                    refine hKx.out _ _ ?_ (fun hHeld => ?_)
                    · (try dsimp only)
                      exact HC.out
                    clear hKx Kx
                    (try simp only [Act.put, List.setIfInBounds_toArray, List.set_cons_zero, List.set_cons_succ])
                    generalize v5.alloc (.cells #[.int .i64 0, .int .i64 0] 24) = v6 at *
                    generalize v5.heap.size = g12 at *
                    refine wpAnyH_ready (rs := [24]) (by kernel_rfl) (by simp) ?_
                    refine AllReadyH.cons (o := ⟨some 87, _, _, _, _, _⟩) rfl (fun Kx hKx => ?_) AllReadyH.nil
                    go_simp
                    go_at_call 62
                    refine (keep_c r5.n r5.d r5.c e4 e5 K _ K5.out HW.out.k).mono ?_
                    rintro e_r v7 ⟨rfl, k_, b_⟩
                    replace H11 := Lib.hid (H11.out.chg n_H11 b_)
                    replace H12 := Lib.hid (H12.out.chg n_H12 b_)
                    replace HW := Lib.hid (HW.out.keep HN.out k_ b_)
                    replace HC := Lib.hid (HC.out.on b_)
                    clear b_ k_ hHeld
                    go_wp2_with fail
                    refine hKx.out _ _ ?_ (fun hHeld => ?_)
                    · (try dsimp only)
                      exact HC.out
                    clear hKx Kx
                    (try simp only [Act.put, List.setIfInBounds_toArray, List.set_cons_zero, List.set_cons_succ])
                    refine wpAnyH_ready (rs := [26]) (by kernel_rfl) (by simp) ?_
                    refine AllReadyH.cons (o := ⟨none, _, _, _, _, _⟩) rfl (fun Kx hKx => ?_) AllReadyH.nil
                    obtain ⟨c0, c1, f0, f1⟩ := H12.out.two
                    have z0 := H12.out.size
                    go_simp
                    replace HC := Lib.hid (HC.out.set (p := ⟨g12, 0, none⟩) (.inl (by simp; omega)) (.int .i64 r5.n))
                    replace HW := Lib.hid (HW.out.far HN.out (p := ⟨g12, 0, none⟩) (by simp; omega) (.int .i64 r5.n))
                    replace H11 := Lib.hid (H11.out.far (p := ⟨g12, 0, none⟩) (by simp; omega) (.int .i64 r5.n))
                    replace H12 := Lib.hid (H12.out.set 0 (.int .i64 r5.n))
                    replace HC := Lib.hid (HC.out.set (p := ⟨g12, 1, none⟩) (.inl (by simp; omega)) (.int .i64 r5.d))
                    replace HW := Lib.hid (HW.out.far HN.out (p := ⟨g12, 1, none⟩) (by simp; omega) (.int .i64 r5.d))
                    replace H11 := Lib.hid (H11.out.far (p := ⟨g12, 1, none⟩) (by simp; omega) (.int .i64 r5.d))
                    replace H12 := Lib.hid (H12.out.set 1 (.int .i64 r5.d))
                    clear c0 c1 f0 f1 z0 hHeld
                    refine hKx.out _ _ ?_ (fun hHeld => ?_)
                    · (try dsimp only)
                      exact HC.out
                    clear hKx Kx
                    (try simp only [Act.put, List.setIfInBounds_toArray, List.set_cons_zero, List.set_cons_succ])
                    refine wpAnyH_done (by kernel_rfl) ?_ _
                    refine NoPanic.normal ?_
                    go_wp2_with fail
                    go_meet
                    exact ⟨g12, rfl, n_H12, by omega, HW, H12, H11⟩
                · go_simp
                  have H12 := Lib.hid (Has.new v4 24 #[.int .i64 0, .int .i64 0] rfl)
                  have n_H12 : ¬ v4.heap.size = K := by have := HW.out.k.size; omega
                  have l_H12 : wc.heap.size ≤ v4.heap.size := HC.out.size
                  replace H11 := Lib.hid (H11.out.alloc (.cells #[.int .i64 0, .int .i64 0] 24))
                  replace HW := Lib.hid (HW.out.alloc (.cells #[.int .i64 0, .int .i64 0] 24))
                  replace HC := Lib.hid (HC.out.alloc (.cells #[.int .i64 0, .int .i64 0] 24))
                  clear hHeld
                  refine hKx.out _ _ ?_ (fun hHeld => ?_)
                  · (try dsimp only)
                    exact HC.out
                  clear hKx Kx
                  (try simp only [Act.put, List.setIfInBounds_toArray, List.set_cons_zero, List.set_cons_succ])
                  generalize v4.alloc (.cells #[.int .i64 0, .int .i64 0] 24) = v5 at *
                  generalize v4.heap.size = g12 at *
                  refine wpAnyH_ready (rs := [21]) (by kernel_rfl) (by simp) ?_
                  refine AllReadyH.cons (o := ⟨some 84, _, _, _, _, _⟩) rfl (fun Kx hKx => ?_) AllReadyH.nil
                  go_simp
                  go_at_call 26
                  refine (qmul_x r4.n r4.d cn1 cd1 r5 _ H5.out B3.out.2.2.2.1.1 B3.out.2.2.2.1.2 B2.out.2.2.1.1 B2.out.2.2.1.2).mono ?_
                  rintro e_r v6 ⟨rfl, b_⟩
                  replace H11 := Lib.hid (H11.out.below b_)
                  replace H12 := Lib.hid (H12.out.below b_)
                  replace HW := Lib.hid (HW.out.below b_)
                  replace HC := Lib.hid (HC.out.onB b_)
                  clear b_ hHeld
                  go_wp2_with fail
                  refine hKx.out _ _ ?_ (fun hHeld => ?_)
                  · (try dsimp only)
                    exact HC.out
                  clear hKx Kx
                  (try simp only [Act.put, List.setIfInBounds_toArray, List.set_cons_zero, List.set_cons_succ])
                  refine wpAnyH_take (i := 22) (oi := ⟨some 85, _, _, _, _, _⟩) (v := (.agg #[.int .i64 r5.n, .int .i64 r5.d])) rfl (by kernel_rfl) (by kernel_rfl) (by kernel_rfl) (fun _ _ _ h => h) (Or.inl ⟨by rfl, ?_⟩) hHeld ?_
                  · intro ww hSw
                    clear hSw
                    go_simp
                  simp only [Act.put, List.setIfInBounds_toArray, List.set_cons_zero, List.set_cons_succ]
                  refine wpAnyH_take (i := 23) (oi := ⟨some 86, _, _, _, _, _⟩) (v := (.int .i64 r5.c)) rfl (by kernel_rfl) (by kernel_rfl) (by kernel_rfl) (fun _ _ _ h => h) (Or.inl ⟨by rfl, ?_⟩) hHeld ?_
                  · intro ww hSw
                    clear hSw
                    go_simp
                  simp only [Act.put, List.setIfInBounds_toArray, List.set_cons_zero, List.set_cons_succ]
                  refine wpAnyH_ready (rs := [24]) (by kernel_rfl) (by simp) ?_
                  refine AllReadyH.cons (o := ⟨some 87, _, _, _, _, _⟩) rfl (fun Kx hKx => ?_) AllReadyH.nil
                  go_simp
                  go_at_call 62
                  refine (keep_c r5.n r5.d r5.c e4 e5 K _ K5.out HW.out.k).mono ?_
                  rintro e_r v7 ⟨rfl, k_, b_⟩
                  replace H11 := Lib.hid (H11.out.chg n_H11 b_)
                  replace H12 := Lib.hid (H12.out.chg n_H12 b_)
                  replace HW := Lib.hid (HW.out.keep HN.out k_ b_)
                  replace HC := Lib.hid (HC.out.on b_)
                  clear b_ k_ hHeld
                  go_wp2_with fail
                  refine hKx.out _ _ ?_ (fun hHeld => ?_)
                  · (try dsimp only)
                    exact HC.out
                  clear hKx Kx
                  (try simp only [Act.put, List.setIfInBounds_toArray, List.set_cons_zero, List.set_cons_succ])
                  refine wpAnyH_ready (rs := [26]) (by kernel_rfl) (by simp) ?_
                  refine AllReadyH.cons (o := ⟨none, _, _, _, _, _⟩) rfl (fun Kx hKx => ?_) AllReadyH.nil
                  obtain ⟨c0, c1, f0, f1⟩ := H12.out.two
                  have z0 := H12.out.size
                  go_simp
                  replace HC := Lib.hid (HC.out.set (p := ⟨g12, 0, none⟩) (.inl (by simp; omega)) (.int .i64 r5.n))
                  replace HW := Lib.hid (HW.out.far HN.out (p := ⟨g12, 0, none⟩) (by simp; omega) (.int .i64 r5.n))
                  replace H11 := Lib.hid (H11.out.far (p := ⟨g12, 0, none⟩) (by simp; omega) (.int .i64 r5.n))
                  replace H12 := Lib.hid (H12.out.set 0 (.int .i64 r5.n))
                  replace HC := Lib.hid (HC.out.set (p := ⟨g12, 1, none⟩) (.inl (by simp; omega)) (.int .i64 r5.d))
                  replace HW := Lib.hid (HW.out.far HN.out (p := ⟨g12, 1, none⟩) (by simp; omega) (.int .i64 r5.d))
                  replace H11 := Lib.hid (H11.out.far (p := ⟨g12, 1, none⟩) (by simp; omega) (.int .i64 r5.d))
                  replace H12 := Lib.hid (H12.out.set 1 (.int .i64 r5.d))
                  clear c0 c1 f0 f1 z0 hHeld
                  refine hKx.out _ _ ?_ (fun hHeld => ?_)
                  · (try dsimp only)
                    exact HC.out
                  clear hKx Kx
                  (try simp only [Act.put, List.setIfInBounds_toArray, List.set_cons_zero, List.set_cons_succ])
                  refine wpAnyH_done (by kernel_rfl) ?_ _
                  refine NoPanic.normal ?_
                  go_wp2_with fail
                  go_meet
                  exact ⟨g12, rfl, n_H12, by omega, HW, H12, H11⟩
              · go_simp
                have H12 := Lib.hid (Has.new v3 24 #[.int .i64 0, .int .i64 0] rfl)
                have n_H12 : ¬ v3.heap.size = K := by have := HW.out.k.size; omega
                have l_H12 : wc.heap.size ≤ v3.heap.size := HC.out.size
                replace H11 := Lib.hid (H11.out.alloc (.cells #[.int .i64 0, .int .i64 0] 24))
                replace HW := Lib.hid (HW.out.alloc (.cells #[.int .i64 0, .int .i64 0] 24))
                replace HC := Lib.hid (HC.out.alloc (.cells #[.int .i64 0, .int .i64 0] 24))
                clear hHeld
                refine hKx.out _ _ ?_ (fun hHeld => ?_)
                · (try dsimp only)
                  exact HC.out
                clear hKx Kx
                (try simp only [Act.put, List.setIfInBounds_toArray, List.set_cons_zero, List.set_cons_succ])
                generalize v3.alloc (.cells #[.int .i64 0, .int .i64 0] 24) = v4 at *
                generalize v3.heap.size = g12 at *
                refine wpAnyH_ready (rs := [14]) (by kernel_rfl) (by simp) ?_
                refine AllReadyH.cons (o := ⟨some 77, _, _, _, _, _⟩) rfl (fun Kx hKx => ?_) AllReadyH.nil
                go_simp
                go_at_call 62
                refine (keep_c r4.n r4.d r4.c e3 e4 K _ K4.out HW.out.k).mono ?_
                rintro e_r v5 ⟨rfl, k_, b_⟩
                replace H11 := Lib.hid (H11.out.chg n_H11 b_)
                replace H12 := Lib.hid (H12.out.chg n_H12 b_)
                replace HW := Lib.hid (HW.out.keep HN.out k_ b_)
                replace HC := Lib.hid (HC.out.on b_)
                clear b_ k_ hHeld
                go_wp2_with fail
                refine hKx.out _ _ ?_ (fun hHeld => ?_)
                · (try dsimp only)
                  exact HC.out
                clear hKx Kx
                (try simp only [Act.put, List.setIfInBounds_toArray, List.set_cons_zero, List.set_cons_succ])
                refine wpAnyH_ready (rs := [21]) (by kernel_rfl) (by simp) ?_
                refine AllReadyH.cons (o := ⟨some 84, _, _, _, _, _⟩) rfl (fun Kx hKx => ?_) AllReadyH.nil
                go_simp
                go_at_call 26
                refine (qmul_x r4.n r4.d cn1 cd1 r5 _ H5.out B3.out.2.2.2.1.1 B3.out.2.2.2.1.2 B2.out.2.2.1.1 B2.out.2.2.1.2).mono ?_
                rintro e_r v6 ⟨rfl, b_⟩
                replace H11 := Lib.hid (H11.out.below b_)
                replace H12 := Lib.hid (H12.out.below b_)
                replace HW := Lib.hid (HW.out.below b_)
                replace HC := Lib.hid (HC.out.onB b_)
                clear b_ hHeld
                go_wp2_with fail
                refine hKx.out _ _ ?_ (fun hHeld => ?_)
                · (try dsimp only)
                  exact HC.out
                clear hKx Kx
                (try simp only [Act.put, List.setIfInBounds_toArray, List.set_cons_zero, List.set_cons_succ])
                refine wpAnyH_take (i := 22) (oi := ⟨some 85, _, _, _, _, _⟩) (v := (.agg #[.int .i64 r5.n, .int .i64 r5.d])) rfl (by kernel_rfl) (by kernel_rfl) (by kernel_rfl) (fun _ _ _ h => h) (Or.inl ⟨by rfl, ?_⟩) hHeld ?_
                · intro ww hSw
                  clear hSw
                  go_simp
                simp only [Act.put, List.setIfInBounds_toArray, List.set_cons_zero, List.set_cons_succ]
                refine wpAnyH_take (i := 23) (oi := ⟨some 86, _, _, _, _, _⟩) (v := (.int .i64 r5.c)) rfl (by kernel_rfl) (by kernel_rfl) (by kernel_rfl) (fun _ _ _ h => h) (Or.inl ⟨by rfl, ?_⟩) hHeld ?_
                · intro ww hSw
                  clear hSw
                  go_simp
                simp only [Act.put, List.setIfInBounds_toArray, List.set_cons_zero, List.set_cons_succ]
                refine wpAnyH_ready (rs := [24]) (by kernel_rfl) (by simp) ?_
                refine AllReadyH.cons (o := ⟨some 87, _, _, _, _, _⟩) rfl (fun Kx hKx => ?_) AllReadyH.nil
                go_simp
                go_at_call 62
                refine (keep_c r5.n r5.d r5.c e4 e5 K _ K5.out HW.out.k).mono ?_
                rintro e_r v7 ⟨rfl, k_, b_⟩
                replace H11 := Lib.hid (H11.out.chg n_H11 b_)
                replace H12 := Lib.hid (H12.out.chg n_H12 b_)
                replace HW := Lib.hid (HW.out.keep HN.out k_ b_)
                replace HC := Lib.hid (HC.out.on b_)
                clear b_ k_ hHeld
                go_wp2_with fail
                refine hKx.out _ _ ?_ (fun hHeld => ?_)
                · (try dsimp only)
                  exact HC.out
                clear hKx Kx
                (try simp only [Act.put, List.setIfInBounds_toArray, List.set_cons_zero, List.set_cons_succ])
                refine wpAnyH_ready (rs := [26]) (by kernel_rfl) (by simp) ?_
                refine AllReadyH.cons (o := ⟨none, _, _, _, _, _⟩) rfl (fun Kx hKx => ?_) AllReadyH.nil
                obtain ⟨c0, c1, f0, f1⟩ := H12.out.two
                have z0 := H12.out.size
                go_simp
                replace HC := Lib.hid (HC.out.set (p := ⟨g12, 0, none⟩) (.inl (by simp; omega)) (.int .i64 r5.n))
                replace HW := Lib.hid (HW.out.far HN.out (p := ⟨g12, 0, none⟩) (by simp; omega) (.int .i64 r5.n))
                replace H11 := Lib.hid (H11.out.far (p := ⟨g12, 0, none⟩) (by simp; omega) (.int .i64 r5.n))
                replace H12 := Lib.hid (H12.out.set 0 (.int .i64 r5.n))
                replace HC := Lib.hid (HC.out.set (p := ⟨g12, 1, none⟩) (.inl (by simp; omega)) (.int .i64 r5.d))
                replace HW := Lib.hid (HW.out.far HN.out (p := ⟨g12, 1, none⟩) (by simp; omega) (.int .i64 r5.d))
                replace H11 := Lib.hid (H11.out.far (p := ⟨g12, 1, none⟩) (by simp; omega) (.int .i64 r5.d))
                replace H12 := Lib.hid (H12.out.set 1 (.int .i64 r5.d))
                clear c0 c1 f0 f1 z0 hHeld
                refine hKx.out _ _ ?_ (fun hHeld => ?_)
                · (try dsimp only)
                  exact HC.out
                clear hKx Kx
                (try simp only [Act.put, List.setIfInBounds_toArray, List.set_cons_zero, List.set_cons_succ])
                refine wpAnyH_done (by kernel_rfl) ?_ _
                refine NoPanic.normal ?_
                go_wp2_with fail
                go_meet
                exact ⟨g12, rfl, n_H12, by omega, HW, H12, H11⟩
            · go_simp
              have H12 := Lib.hid (Has.new v2 24 #[.int .i64 0, .int .i64 0] rfl)
              have n_H12 : ¬ v2.heap.size = K := by have := HW.out.k.size; omega
              have l_H12 : wc.heap.size ≤ v2.heap.size := HC.out.size
              replace H11 := Lib.hid (H11.out.alloc (.cells #[.int .i64 0, .int .i64 0] 24))
              replace RB := Lib.hid (RB.out.below (bel_alloc (Below.refl _ _) (.cells #[.int .i64 0, .int .i64 0] 24)))
              replace HW := Lib.hid (HW.out.alloc (.cells #[.int .i64 0, .int .i64 0] 24))
              replace HC := Lib.hid (HC.out.alloc (.cells #[.int .i64 0, .int .i64 0] 24))
              clear hHeld
              refine hKx.out _ _ ?_ (fun hHeld => ?_)
              · (try dsimp only)
                exact HC.out
              clear hKx Kx
              (try simp only [Act.put, List.setIfInBounds_toArray, List.set_cons_zero, List.set_cons_succ])
              generalize v2.alloc (.cells #[.int .i64 0, .int .i64 0] 24) = v3 at *
              generalize v2.heap.size = g12 at *
              refine wpAnyH_ready (rs := [11]) (by kernel_rfl) (by simp) ?_
              refine AllReadyH.cons (o := ⟨some 74, _, _, _, _, _⟩) rfl (fun Kx hKx => ?_) AllReadyH.nil
              go_simp
              go_at_call 25
              refine (qsum_x fn fd r3.n r3.d r4 _ 2 _ H4.out RB.out).mono ?_
              rintro e_r v4 ⟨rfl, b_⟩
              replace H11 := Lib.hid (H11.out.below b_)
              replace H12 := Lib.hid (H12.out.below b_)
              replace RB := Lib.hid (RB.out.below b_)
              replace HW := Lib.hid (HW.out.below b_)
              replace HC := Lib.hid (HC.out.onB b_)
              clear b_ hHeld
              go_wp2_with fail
              refine hKx.out _ _ ?_ (fun hHeld => ?_)
              · (try dsimp only)
                exact HC.out
              clear hKx Kx
              (try simp only [Act.put, List.setIfInBounds_toArray, List.set_cons_zero, List.set_cons_succ])
              clear RB
              refine wpAnyH_take (i := 12) (oi := ⟨some 75, _, _, _, _, _⟩) (v := (.agg #[.int .i64 r4.n, .int .i64 r4.d])) rfl (by kernel_rfl) (by kernel_rfl) (by kernel_rfl) (fun _ _ _ h => h) (Or.inl ⟨by rfl, ?_⟩) hHeld ?_
              · intro ww hSw
                clear hSw
                go_simp
              simp only [Act.put, List.setIfInBounds_toArray, List.set_cons_zero, List.set_cons_succ]
              refine wpAnyH_take (i := 13) (oi := ⟨some 76, _, _, _, _, _⟩) (v := (.int .i64 r4.c)) rfl (by kernel_rfl) (by kernel_rfl) (by kernel_rfl) (fun _ _ _ h => h) (Or.inl ⟨by rfl, ?_⟩) hHeld ?_
              · intro ww hSw
                clear hSw
                go_simp
              simp only [Act.put, List.setIfInBounds_toArray, List.set_cons_zero, List.set_cons_succ]
              refine wpAnyH_ready (rs := [14]) (by kernel_rfl) (by simp) ?_
              refine AllReadyH.cons (o := ⟨some 77, _, _, _, _, _⟩) rfl (fun Kx hKx => ?_) AllReadyH.nil
              go_simp
              go_at_call 62
              refine (keep_c r4.n r4.d r4.c e3 e4 K _ K4.out HW.out.k).mono ?_
              rintro e_r v5 ⟨rfl, k_, b_⟩
              replace H11 := Lib.hid (H11.out.chg n_H11 b_)
              replace H12 := Lib.hid (H12.out.chg n_H12 b_)
              replace HW := Lib.hid (HW.out.keep HN.out k_ b_)
              replace HC := Lib.hid (HC.out.on b_)
              clear b_ k_ hHeld
              go_wp2_with fail
              refine hKx.out _ _ ?_ (fun hHeld => ?_)
              · (try dsimp only)
                exact HC.out
              clear hKx Kx
              (try simp only [Act.put, List.setIfInBounds_toArray, List.set_cons_zero, List.set_cons_succ])
              refine wpAnyH_ready (rs := [21]) (by kernel_rfl) (by simp) ?_
              refine AllReadyH.cons (o := ⟨some 84, _, _, _, _, _⟩) rfl (fun Kx hKx => ?_) AllReadyH.nil
              go_simp
              go_at_call 26
              refine (qmul_x r4.n r4.d cn1 cd1 r5 _ H5.out B3.out.2.2.2.1.1 B3.out.2.2.2.1.2 B2.out.2.2.1.1 B2.out.2.2.1.2).mono ?_
              rintro e_r v6 ⟨rfl, b_⟩
              replace H11 := Lib.hid (H11.out.below b_)
              replace H12 := Lib.hid (H12.out.below b_)
              replace HW := Lib.hid (HW.out.below b_)
              replace HC := Lib.hid (HC.out.onB b_)
              clear b_ hHeld
              go_wp2_with fail
              refine hKx.out _ _ ?_ (fun hHeld => ?_)
              · (try dsimp only)
                exact HC.out
              clear hKx Kx
              (try simp only [Act.put, List.setIfInBounds_toArray, List.set_cons_zero, List.set_cons_succ])
              refine wpAnyH_take (i := 22) (oi := ⟨some 85, _, _, _, _, _⟩) (v := (.agg #[.int .i64 r5.n, .int .i64 r5.d])) rfl (by kernel_rfl) (by kernel_rfl) (by kernel_rfl) (fun _ _ _ h => h) (Or.inl ⟨by rfl, ?_⟩) hHeld ?_
              · intro ww hSw
                clear hSw
                go_simp
              simp only [Act.put, List.setIfInBounds_toArray, List.set_cons_zero, List.set_cons_succ]
              refine wpAnyH_take (i := 23) (oi := ⟨some 86, _, _, _, _, _⟩) (v := (.int .i64 r5.c)) rfl (by kernel_rfl) (by kernel_rfl) (by kernel_rfl) (fun _ _ _ h => h) (Or.inl ⟨by rfl, ?_⟩) hHeld ?_
              · intro ww hSw
                clear hSw
                go_simp
              simp only [Act.put, List.setIfInBounds_toArray, List.set_cons_zero, List.set_cons_succ]
              refine wpAnyH_ready (rs := [24]) (by kernel_rfl) (by simp) ?_
              refine AllReadyH.cons (o := ⟨some 87, _, _, _, _, _⟩) rfl (fun Kx hKx => ?_) AllReadyH.nil
              go_simp
              go_at_call 62
              refine (keep_c r5.n r5.d r5.c e4 e5 K _ K5.out HW.out.k).mono ?_
              rintro e_r v7 ⟨rfl, k_, b_⟩
              replace H11 := Lib.hid (H11.out.chg n_H11 b_)
              replace H12 := Lib.hid (H12.out.chg n_H12 b_)
              replace HW := Lib.hid (HW.out.keep HN.out k_ b_)
              replace HC := Lib.hid (HC.out.on b_)
              clear b_ k_ hHeld
              go_wp2_with fail
              refine hKx.out _ _ ?_ (fun hHeld => ?_)
              · (try dsimp only)
                exact HC.out
              clear hKx Kx
              (try simp only [Act.put, List.setIfInBounds_toArray, List.set_cons_zero, List.set_cons_succ])
              refine wpAnyH_ready (rs := [26]) (by kernel_rfl) (by simp) ?_
              refine AllReadyH.cons (o := ⟨none, _, _, _, _, _⟩) rfl (fun Kx hKx => ?_) AllReadyH.nil
              obtain ⟨c0, c1, f0, f1⟩ := H12.out.two
              have z0 := H12.out.size
              go_simp
              replace HC := Lib.hid (HC.out.set (p := ⟨g12, 0, none⟩) (.inl (by simp; omega)) (.int .i64 r5.n))
              replace HW := Lib.hid (HW.out.far HN.out (p := ⟨g12, 0, none⟩) (by simp; omega) (.int .i64 r5.n))
              replace H11 := Lib.hid (H11.out.far (p := ⟨g12, 0, none⟩) (by simp; omega) (.int .i64 r5.n))
              replace H12 := Lib.hid (H12.out.set 0 (.int .i64 r5.n))
              replace HC := Lib.hid (HC.out.set (p := ⟨g12, 1, none⟩) (.inl (by simp; omega)) (.int .i64 r5.d))
              replace HW := Lib.hid (HW.out.far HN.out (p := ⟨g12, 1, none⟩) (by simp; omega) (.int .i64 r5.d))
              replace H11 := Lib.hid (H11.out.far (p := ⟨g12, 1, none⟩) (by simp; omega) (.int .i64 r5.d))
              replace H12 := Lib.hid (H12.out.set 1 (.int .i64 r5.d))
              clear c0 c1 f0 f1 z0 hHeld
              refine hKx.out _ _ ?_ (fun hHeld => ?_)
              · (try dsimp only)
                exact HC.out
              clear hKx Kx
              (try simp only [Act.put, List.setIfInBounds_toArray, List.set_cons_zero, List.set_cons_succ])
              refine wpAnyH_done (by kernel_rfl) ?_ _
              refine NoPanic.normal ?_
              go_wp2_with fail
              go_meet
              exact ⟨g12, rfl, n_H12, by omega, HW, H12, H11⟩
          · go_simp
            have H12 := Lib.hid (Has.new v1 24 #[.int .i64 0, .int .i64 0] rfl)
            have n_H12 : ¬ v1.heap.size = K := by have := HW.out.k.size; omega
            have l_H12 : wc.heap.size ≤ v1.heap.size := HC.out.size
            replace H11 := Lib.hid (H11.out.alloc (.cells #[.int .i64 0, .int .i64 0] 24))
            replace HW := Lib.hid (HW.out.alloc (.cells #[.int .i64 0, .int .i64 0] 24))
            replace HC := Lib.hid (HC.out.alloc (.cells #[.int .i64 0, .int .i64 0] 24))
            clear hHeld
            refine hKx.out _ _ ?_ (fun hHeld => ?_)
            · (try dsimp only)
              exact HC.out
            clear hKx Kx
            (try simp only [Act.put, List.setIfInBounds_toArray, List.set_cons_zero, List.set_cons_succ])
            generalize v1.alloc (.cells #[.int .i64 0, .int .i64 0] 24) = v2 at *
            generalize v1.heap.size = g12 at *
            refine wpAnyH_ready (rs := [10]) (by kernel_rfl) (by simp) ?_
            refine AllReadyH.cons (o := ⟨some 73, _, _, _, _, _⟩) rfl (fun Kx hKx => ?_) AllReadyH.nil
            go_simp
            have RB := Lib.hid (rats_new v2 [(fn, fd), (r3.n, r3.d)] 24 #[.int .i64 fn, .int .i64 fd, .int .i64 r3.n, .int .i64 r3.d] rfl (by simp only [List.mem_cons, List.not_mem_nil, or_false]; rintro x (rfl | rfl); all_goals (have := B2.out; have := B3.out; simp only [In64] at *; omega)))
            replace H11 := Lib.hid (H11.out.alloc (.cells #[.int .i64 fn, .int .i64 fd, .int .i64 r3.n, .int .i64 r3.d] 24))
            replace H12 := Lib.hid (H12.out.alloc (.cells #[.int .i64 fn, .int .i64 fd, .int .i64 r3.n, .int .i64 r3.d] 24))
            replace HW := Lib.hid (HW.out.alloc (.cells #[.int .i64 fn, .int .i64 fd, .int .i64 r3.n, .int .i64 r3.d] 24))
            replace HC := Lib.hid (HC.out.alloc (.cells #[.int .i64 fn, .int .i64 fd, .int .i64 r3.n, .int .i64 r3.d] 24))
            clear hHeld
            refine hKx.out _ _ ?_ (fun hHeld => ?_)
            · (try dsimp only)
              exact HC.out
            clear hKx Kx
            (try simp only [Act.put, List.setIfInBounds_toArray, List.set_cons_zero, List.set_cons_succ])
            generalize v2.alloc (.cells #[.int .i64 fn, .int .i64 fd, .int .i64 r3.n, .int .i64 r3.d] 24) = v3 at *
            generalize v2.heap.size = A73 at *
            refine wpAnyH_ready (rs := [11]) (by kernel_rfl) (by simp) ?_
            refine AllReadyH.cons (o := ⟨some 74, _, _, _, _, _⟩) rfl (fun Kx hKx => ?_) AllReadyH.nil
            go_simp
            go_at_call 25
            refine (qsum_x fn fd r3.n r3.d r4 _ 2 _ H4.out RB.out).mono ?_
            rintro e_r v4 ⟨rfl, b_⟩
            replace H11 := Lib.hid (H11.out.below b_)
            replace H12 := Lib.hid (H12.out.below b_)
            replace RB := Lib.hid (RB.out.below b_)
            replace HW := Lib.hid (HW.out.below b_)
            replace HC := Lib.hid (HC.out.onB b_)
            clear b_ hHeld
            go_wp2_with fail
            refine hKx.out _ _ ?_ (fun hHeld => ?_)
            · (try dsimp only)
              exact HC.out
            clear hKx Kx
            (try simp only [Act.put, List.setIfInBounds_toArray, List.set_cons_zero, List.set_cons_succ])
            clear RB
            refine wpAnyH_take (i := 12) (oi := ⟨some 75, _, _, _, _, _⟩) (v := (.agg #[.int .i64 r4.n, .int .i64 r4.d])) rfl (by kernel_rfl) (by kernel_rfl) (by kernel_rfl) (fun _ _ _ h => h) (Or.inl ⟨by rfl, ?_⟩) hHeld ?_
            · intro ww hSw
              clear hSw
              go_simp
            simp only [Act.put, List.setIfInBounds_toArray, List.set_cons_zero, List.set_cons_succ]
            refine wpAnyH_take (i := 13) (oi := ⟨some 76, _, _, _, _, _⟩) (v := (.int .i64 r4.c)) rfl (by kernel_rfl) (by kernel_rfl) (by kernel_rfl) (fun _ _ _ h => h) (Or.inl ⟨by rfl, ?_⟩) hHeld ?_
            · intro ww hSw
              clear hSw
              go_simp
            simp only [Act.put, List.setIfInBounds_toArray, List.set_cons_zero, List.set_cons_succ]
            refine wpAnyH_ready (rs := [14]) (by kernel_rfl) (by simp) ?_
            refine AllReadyH.cons (o := ⟨some 77, _, _, _, _, _⟩) rfl (fun Kx hKx => ?_) AllReadyH.nil
            go_simp
            go_at_call 62
            refine (keep_c r4.n r4.d r4.c e3 e4 K _ K4.out HW.out.k).mono ?_
            rintro e_r v5 ⟨rfl, k_, b_⟩
            replace H11 := Lib.hid (H11.out.chg n_H11 b_)
            replace H12 := Lib.hid (H12.out.chg n_H12 b_)
            replace HW := Lib.hid (HW.out.keep HN.out k_ b_)
            replace HC := Lib.hid (HC.out.on b_)
            clear b_ k_ hHeld
            go_wp2_with fail
            refine hKx.out _ _ ?_ (fun hHeld => ?_)
            · (try dsimp only)
              exact HC.out
            clear hKx Kx
            (try simp only [Act.put, List.setIfInBounds_toArray, List.set_cons_zero, List.set_cons_succ])
            refine wpAnyH_ready (rs := [21]) (by kernel_rfl) (by simp) ?_
            refine AllReadyH.cons (o := ⟨some 84, _, _, _, _, _⟩) rfl (fun Kx hKx => ?_) AllReadyH.nil
            go_simp
            go_at_call 26
            refine (qmul_x r4.n r4.d cn1 cd1 r5 _ H5.out B3.out.2.2.2.1.1 B3.out.2.2.2.1.2 B2.out.2.2.1.1 B2.out.2.2.1.2).mono ?_
            rintro e_r v6 ⟨rfl, b_⟩
            replace H11 := Lib.hid (H11.out.below b_)
            replace H12 := Lib.hid (H12.out.below b_)
            replace HW := Lib.hid (HW.out.below b_)
            replace HC := Lib.hid (HC.out.onB b_)
            clear b_ hHeld
            go_wp2_with fail
            refine hKx.out _ _ ?_ (fun hHeld => ?_)
            · (try dsimp only)
              exact HC.out
            clear hKx Kx
            (try simp only [Act.put, List.setIfInBounds_toArray, List.set_cons_zero, List.set_cons_succ])
            refine wpAnyH_take (i := 22) (oi := ⟨some 85, _, _, _, _, _⟩) (v := (.agg #[.int .i64 r5.n, .int .i64 r5.d])) rfl (by kernel_rfl) (by kernel_rfl) (by kernel_rfl) (fun _ _ _ h => h) (Or.inl ⟨by rfl, ?_⟩) hHeld ?_
            · intro ww hSw
              clear hSw
              go_simp
            simp only [Act.put, List.setIfInBounds_toArray, List.set_cons_zero, List.set_cons_succ]
            refine wpAnyH_take (i := 23) (oi := ⟨some 86, _, _, _, _, _⟩) (v := (.int .i64 r5.c)) rfl (by kernel_rfl) (by kernel_rfl) (by kernel_rfl) (fun _ _ _ h => h) (Or.inl ⟨by rfl, ?_⟩) hHeld ?_
            · intro ww hSw
              clear hSw
              go_simp
            simp only [Act.put, List.setIfInBounds_toArray, List.set_cons_zero, List.set_cons_succ]
            refine wpAnyH_ready (rs := [24]) (by kernel_rfl) (by simp) ?_
            refine AllReadyH.cons (o := ⟨some 87, _, _, _, _, _⟩) rfl (fun Kx hKx => ?_) AllReadyH.nil
            go_simp
            go_at_call 62
            refine (keep_c r5.n r5.d r5.c e4 e5 K _ K5.out HW.out.k).mono ?_
            rintro e_r v7 ⟨rfl, k_, b_⟩
            replace H11 := Lib.hid (H11.out.chg n_H11 b_)
            replace H12 := Lib.hid (H12.out.chg n_H12 b_)
            replace HW := Lib.hid (HW.out.keep HN.out k_ b_)
            replace HC := Lib.hid (HC.out.on b_)
            clear b_ k_ hHeld
            go_wp2_with fail
            refine hKx.out _ _ ?_ (fun hHeld => ?_)
            · (try dsimp only)
              exact HC.out
            clear hKx Kx
            (try simp only [Act.put, List.setIfInBounds_toArray, List.set_cons_zero, List.set_cons_succ])
            refine wpAnyH_ready (rs := [26]) (by kernel_rfl) (by simp) ?_
            refine AllReadyH.cons (o := ⟨none, _, _, _, _, _⟩) rfl (fun Kx hKx => ?_) AllReadyH.nil
            obtain ⟨c0, c1, f0, f1⟩ := H12.out.two
            have z0 := H12.out.size
            go_simp
            replace HC := Lib.hid (HC.out.set (p := ⟨g12, 0, none⟩) (.inl (by simp; omega)) (.int .i64 r5.n))
            replace HW := Lib.hid (HW.out.far HN.out (p := ⟨g12, 0, none⟩) (by simp; omega) (.int .i64 r5.n))
            replace H11 := Lib.hid (H11.out.far (p := ⟨g12, 0, none⟩) (by simp; omega) (.int .i64 r5.n))
            replace H12 := Lib.hid (H12.out.set 0 (.int .i64 r5.n))
            replace HC := Lib.hid (HC.out.set (p := ⟨g12, 1, none⟩) (.inl (by simp; omega)) (.int .i64 r5.d))
            replace HW := Lib.hid (HW.out.far HN.out (p := ⟨g12, 1, none⟩) (by simp; omega) (.int .i64 r5.d))
            replace H11 := Lib.hid (H11.out.far (p := ⟨g12, 1, none⟩) (by simp; omega) (.int .i64 r5.d))
            replace H12 := Lib.hid (H12.out.set 1 (.int .i64 r5.d))
            clear c0 c1 f0 f1 z0 hHeld
            refine hKx.out _ _ ?_ (fun hHeld => ?_)
            · (try dsimp only)
              exact HC.out
            clear hKx Kx
            (try simp only [Act.put, List.setIfInBounds_toArray, List.set_cons_zero, List.set_cons_succ])
            refine wpAnyH_done (by kernel_rfl) ?_ _
            refine NoPanic.normal ?_
            go_wp2_with fail
            go_meet
            exact ⟨g12, rfl, n_H12, by omega, HW, H12, H11⟩
        · go_simp
          have H12 := Lib.hid (Has.new v0 24 #[.int .i64 0, .int .i64 0] rfl)
          have n_H12 : ¬ v0.heap.size = K := by have := HW.out.k.size; omega
          have l_H12 : wc.heap.size ≤ v0.heap.size := HC.out.size
          replace H11 := Lib.hid (H11.out.alloc (.cells #[.int .i64 0, .int .i64 0] 24))
          replace HW := Lib.hid (HW.out.alloc (.cells #[.int .i64 0, .int .i64 0] 24))
          replace HC := Lib.hid (HC.out.alloc (.cells #[.int .i64 0, .int .i64 0] 24))
          clear hHeld
          refine hKx.out _ _ ?_ (fun hHeld => ?_)
          · (try dsimp only)
            exact HC.out
          clear hKx Kx
          (try simp only [Act.put, List.setIfInBounds_toArray, List.set_cons_zero, List.set_cons_succ])
          generalize v0.alloc (.cells #[.int .i64 0, .int .i64 0] 24) = v1 at *
          generalize v0.heap.size = g12 at *
          refine wpAnyH_ready (rs := [9]) (by kernel_rfl) (by simp) ?_
          refine AllReadyH.cons (o := ⟨some 72, _, _, _, _, _⟩) rfl (fun Kx hKx => ?_) AllReadyH.nil
          go_simp
          go_at_call 63
          refine (times_c un1 ud1 un e2 e3 r3 K T _ M2.out (by omega) B2.out.2.2.2.2.1.1 B2.out.2.2.2.2.1.2 H3.out K3.out HW.out.k HW.out.t HN.out.one.2.2.2.1).mono ?_
          rintro e_r v2 ⟨rfl, k_, b_⟩
          replace H11 := Lib.hid (H11.out.chg n_H11 b_)
          replace H12 := Lib.hid (H12.out.chg n_H12 b_)
          replace HW := Lib.hid (HW.out.keep HN.out k_ b_)
          replace HC := Lib.hid (HC.out.on b_)
          clear b_ k_ hHeld
          go_wp2_with fail
          refine hKx.out _ _ ?_ (fun hHeld => ?_)
          · (try dsimp only)
            exact HC.out
          clear hKx Kx
          (try simp only [Act.put, List.setIfInBounds_toArray, List.set_cons_zero, List.set_cons_succ])
          refine wpAnyH_ready (rs := [10]) (by kernel_rfl) (by simp) ?_
          refine AllReadyH.cons (o := ⟨some 73, _, _, _, _, _⟩) rfl (fun Kx hKx => ?_) AllReadyH.nil
          go_simp
          have RB := Lib.hid (rats_new v2 [(fn, fd), (r3.n, r3.d)] 24 #[.int .i64 fn, .int .i64 fd, .int .i64 r3.n, .int .i64 r3.d] rfl (by simp only [List.mem_cons, List.not_mem_nil, or_false]; rintro x (rfl | rfl); all_goals (have := B2.out; have := B3.out; simp only [In64] at *; omega)))
          replace H11 := Lib.hid (H11.out.alloc (.cells #[.int .i64 fn, .int .i64 fd, .int .i64 r3.n, .int .i64 r3.d] 24))
          replace H12 := Lib.hid (H12.out.alloc (.cells #[.int .i64 fn, .int .i64 fd, .int .i64 r3.n, .int .i64 r3.d] 24))
          replace HW := Lib.hid (HW.out.alloc (.cells #[.int .i64 fn, .int .i64 fd, .int .i64 r3.n, .int .i64 r3.d] 24))
          replace HC := Lib.hid (HC.out.alloc (.cells #[.int .i64 fn, .int .i64 fd, .int .i64 r3.n, .int .i64 r3.d] 24))
          clear hHeld
          refine hKx.out _ _ ?_ (fun hHeld => ?_)
          · (try dsimp only)
            exact HC.out
          clear hKx Kx
          (try simp only [Act.put, List.setIfInBounds_toArray, List.set_cons_zero, List.set_cons_succ])
          generalize v2.alloc (.cells #[.int .i64 fn, .int .i64 fd, .int .i64 r3.n, .int .i64 r3.d] 24) = v3 at *
          generalize v2.heap.size = A73 at *
          refine wpAnyH_ready (rs := [11]) (by kernel_rfl) (by simp) ?_
          refine AllReadyH.cons (o := ⟨some 74, _, _, _, _, _⟩) rfl (fun Kx hKx => ?_) AllReadyH.nil
          go_simp
          go_at_call 25
          refine (qsum_x fn fd r3.n r3.d r4 _ 2 _ H4.out RB.out).mono ?_
          rintro e_r v4 ⟨rfl, b_⟩
          replace H11 := Lib.hid (H11.out.below b_)
          replace H12 := Lib.hid (H12.out.below b_)
          replace RB := Lib.hid (RB.out.below b_)
          replace HW := Lib.hid (HW.out.below b_)
          replace HC := Lib.hid (HC.out.onB b_)
          clear b_ hHeld
          go_wp2_with fail
          refine hKx.out _ _ ?_ (fun hHeld => ?_)
          · (try dsimp only)
            exact HC.out
          clear hKx Kx
          (try simp only [Act.put, List.setIfInBounds_toArray, List.set_cons_zero, List.set_cons_succ])
          clear RB
          refine wpAnyH_take (i := 12) (oi := ⟨some 75, _, _, _, _, _⟩) (v := (.agg #[.int .i64 r4.n, .int .i64 r4.d])) rfl (by kernel_rfl) (by kernel_rfl) (by kernel_rfl) (fun _ _ _ h => h) (Or.inl ⟨by rfl, ?_⟩) hHeld ?_
          · intro ww hSw
            clear hSw
            go_simp
          simp only [Act.put, List.setIfInBounds_toArray, List.set_cons_zero, List.set_cons_succ]
          refine wpAnyH_take (i := 13) (oi := ⟨some 76, _, _, _, _, _⟩) (v := (.int .i64 r4.c)) rfl (by kernel_rfl) (by kernel_rfl) (by kernel_rfl) (fun _ _ _ h => h) (Or.inl ⟨by rfl, ?_⟩) hHeld ?_
          · intro ww hSw
            clear hSw
            go_simp
          simp only [Act.put, List.setIfInBounds_toArray, List.set_cons_zero, List.set_cons_succ]
          refine wpAnyH_ready (rs := [14]) (by kernel_rfl) (by simp) ?_
          refine AllReadyH.cons (o := ⟨some 77, _, _, _, _, _⟩) rfl (fun Kx hKx => ?_) AllReadyH.nil
          go_simp
          go_at_call 62
          refine (keep_c r4.n r4.d r4.c e3 e4 K _ K4.out HW.out.k).mono ?_
          rintro e_r v5 ⟨rfl, k_, b_⟩
          replace H11 := Lib.hid (H11.out.chg n_H11 b_)
          replace H12 := Lib.hid (H12.out.chg n_H12 b_)
          replace HW := Lib.hid (HW.out.keep HN.out k_ b_)
          replace HC := Lib.hid (HC.out.on b_)
          clear b_ k_ hHeld
          go_wp2_with fail
          refine hKx.out _ _ ?_ (fun hHeld => ?_)
          · (try dsimp only)
            exact HC.out
          clear hKx Kx
          (try simp only [Act.put, List.setIfInBounds_toArray, List.set_cons_zero, List.set_cons_succ])
          refine wpAnyH_ready (rs := [21]) (by kernel_rfl) (by simp) ?_
          refine AllReadyH.cons (o := ⟨some 84, _, _, _, _, _⟩) rfl (fun Kx hKx => ?_) AllReadyH.nil
          go_simp
          go_at_call 26
          refine (qmul_x r4.n r4.d cn1 cd1 r5 _ H5.out B3.out.2.2.2.1.1 B3.out.2.2.2.1.2 B2.out.2.2.1.1 B2.out.2.2.1.2).mono ?_
          rintro e_r v6 ⟨rfl, b_⟩
          replace H11 := Lib.hid (H11.out.below b_)
          replace H12 := Lib.hid (H12.out.below b_)
          replace HW := Lib.hid (HW.out.below b_)
          replace HC := Lib.hid (HC.out.onB b_)
          clear b_ hHeld
          go_wp2_with fail
          refine hKx.out _ _ ?_ (fun hHeld => ?_)
          · (try dsimp only)
            exact HC.out
          clear hKx Kx
          (try simp only [Act.put, List.setIfInBounds_toArray, List.set_cons_zero, List.set_cons_succ])
          refine wpAnyH_take (i := 22) (oi := ⟨some 85, _, _, _, _, _⟩) (v := (.agg #[.int .i64 r5.n, .int .i64 r5.d])) rfl (by kernel_rfl) (by kernel_rfl) (by kernel_rfl) (fun _ _ _ h => h) (Or.inl ⟨by rfl, ?_⟩) hHeld ?_
          · intro ww hSw
            clear hSw
            go_simp
          simp only [Act.put, List.setIfInBounds_toArray, List.set_cons_zero, List.set_cons_succ]
          refine wpAnyH_take (i := 23) (oi := ⟨some 86, _, _, _, _, _⟩) (v := (.int .i64 r5.c)) rfl (by kernel_rfl) (by kernel_rfl) (by kernel_rfl) (fun _ _ _ h => h) (Or.inl ⟨by rfl, ?_⟩) hHeld ?_
          · intro ww hSw
            clear hSw
            go_simp
          simp only [Act.put, List.setIfInBounds_toArray, List.set_cons_zero, List.set_cons_succ]
          refine wpAnyH_ready (rs := [24]) (by kernel_rfl) (by simp) ?_
          refine AllReadyH.cons (o := ⟨some 87, _, _, _, _, _⟩) rfl (fun Kx hKx => ?_) AllReadyH.nil
          go_simp
          go_at_call 62
          refine (keep_c r5.n r5.d r5.c e4 e5 K _ K5.out HW.out.k).mono ?_
          rintro e_r v7 ⟨rfl, k_, b_⟩
          replace H11 := Lib.hid (H11.out.chg n_H11 b_)
          replace H12 := Lib.hid (H12.out.chg n_H12 b_)
          replace HW := Lib.hid (HW.out.keep HN.out k_ b_)
          replace HC := Lib.hid (HC.out.on b_)
          clear b_ k_ hHeld
          go_wp2_with fail
          refine hKx.out _ _ ?_ (fun hHeld => ?_)
          · (try dsimp only)
            exact HC.out
          clear hKx Kx
          (try simp only [Act.put, List.setIfInBounds_toArray, List.set_cons_zero, List.set_cons_succ])
          refine wpAnyH_ready (rs := [26]) (by kernel_rfl) (by simp) ?_
          refine AllReadyH.cons (o := ⟨none, _, _, _, _, _⟩) rfl (fun Kx hKx => ?_) AllReadyH.nil
          obtain ⟨c0, c1, f0, f1⟩ := H12.out.two
          have z0 := H12.out.size
          go_simp
          replace HC := Lib.hid (HC.out.set (p := ⟨g12, 0, none⟩) (.inl (by simp; omega)) (.int .i64 r5.n))
          replace HW := Lib.hid (HW.out.far HN.out (p := ⟨g12, 0, none⟩) (by simp; omega) (.int .i64 r5.n))
          replace H11 := Lib.hid (H11.out.far (p := ⟨g12, 0, none⟩) (by simp; omega) (.int .i64 r5.n))
          replace H12 := Lib.hid (H12.out.set 0 (.int .i64 r5.n))
          replace HC := Lib.hid (HC.out.set (p := ⟨g12, 1, none⟩) (.inl (by simp; omega)) (.int .i64 r5.d))
          replace HW := Lib.hid (HW.out.far HN.out (p := ⟨g12, 1, none⟩) (by simp; omega) (.int .i64 r5.d))
          replace H11 := Lib.hid (H11.out.far (p := ⟨g12, 1, none⟩) (by simp; omega) (.int .i64 r5.d))
          replace H12 := Lib.hid (H12.out.set 1 (.int .i64 r5.d))
          clear c0 c1 f0 f1 z0 hHeld
          refine hKx.out _ _ ?_ (fun hHeld => ?_)
          · (try dsimp only)
            exact HC.out
          clear hKx Kx
          (try simp only [Act.put, List.setIfInBounds_toArray, List.set_cons_zero, List.set_cons_succ])
          refine wpAnyH_done (by kernel_rfl) ?_ _
          refine NoPanic.normal ?_
          go_wp2_with fail
          go_meet
          exact ⟨g12, rfl, n_H12, by omega, HW, H12, H11⟩
    case rest =>
    clear H11
    clear HW
    obtain ⟨g12, rfl, n_H12, l12, HW, H12, H11⟩ := hcut
    go_upto_region 12 with fail
    go_cut [13] (fun v13 wx => ∃ g : Nat, v13 = .pointer (some ⟨g, 0, none⟩) ∧ ¬ g = K ∧ L ≤ g ∧ Hid (GoW w L w.heap.size (w.heap.size + 1) (w.heap.size + 1 + 1) K T G cs es #[.int .i64 fn, .int .i64 fd, .int .i64 un1, .int .i64 ud1] e6 wx) ∧ Hid (Has wx g #[.int .i64 r6.n, .int .i64 r6.d]))
    case first =>
      as_aux_lemma =>
        have HWW := HW
        have H11W := H11
        have H12W := H12
        have s_H11 := H11.out.size
        have s_H12 := H12.out.size
        have hWc := HW.out.lim
        refine wp_region_noPanic ?_
        refine wp_region_held_drew (S := fun w' => Chg (fun b => b = K) wc w') (by kernel_rfl) (Chg.of_below (below_drew (Below.refl _ _))) (fun hHeld => ?_)
        have HC : Hid (Chg (fun b => b = K) wc wc.drew) := Lib.hid hHeld
        replace H11 := Lib.hid (H11.out.drew)
        replace H12 := Lib.hid (H12.out.drew)
        replace HW := Lib.hid (HW.out.drew)
        generalize wc.drew = v0 at *
        refine wpAnyH_take (i := 0) (oi := ⟨some 88, _, _, _, _, _⟩) (v := (.func (.func 62) #[] #[.pointer (some ⟨K, 0, none⟩)])) rfl (by kernel_rfl) (by kernel_rfl) (by kernel_rfl) (fun _ _ _ h => h) (Or.inl ⟨by rfl, ?_⟩) hHeld ?_
        · intro ww hSw
          (try dsimp only at hSw)
          have c0 := (HWW.out.t.chg HN.out.one.2.2.2.1 hSw).cell 0 rfl
          have z0 := cell_lt c0
          go_simp
        simp only [Act.put, List.setIfInBounds_toArray, List.set_cons_zero, List.set_cons_succ]
        refine wpAnyH_take (i := 1) (oi := ⟨some 89, _, _, _, _, _⟩) (v := (.agg #[.int .i64 r2.n, .int .i64 r2.d])) rfl (by kernel_rfl) (by kernel_rfl) (by kernel_rfl) (fun _ _ _ h => h) (Or.inl ⟨by rfl, ?_⟩) hHeld ?_
        · intro ww hSw
          (try dsimp only at hSw)
          obtain ⟨c0, c1, -, -⟩ := (H11W.out.chg n_H11 hSw).two
          have z0 := cell_lt c0
          go_simp
        simp only [Act.put, List.setIfInBounds_toArray, List.set_cons_zero, List.set_cons_succ]
        refine wpAnyH_take (i := 2) (oi := ⟨some 90, _, _, _, _, _⟩) (v := (.agg #[.int .i64 r5.n, .int .i64 r5.d])) rfl (by kernel_rfl) (by kernel_rfl) (by kernel_rfl) (fun _ _ _ h => h) (Or.inl ⟨by rfl, ?_⟩) hHeld ?_
        · intro ww hSw
          (try dsimp only at hSw)
          obtain ⟨c0, c1, -, -⟩ := (H12W.out.chg n_H12 hSw).two
          have z0 := cell_lt c0
          go_simp
        simp only [Act.put, List.setIfInBounds_toArray, List.set_cons_zero, List.set_cons_succ]
        refine wpAnyH_ready (rs := [3, 8]) (by kernel_rfl) (by simp) ?_
        refine AllReadyH.cons (o := ⟨some 91, _, _, _, _, _⟩) rfl (fun Kx hKx => ?_) (AllReadyH.cons (o := ⟨some 13, _, _, _, _, _⟩) rfl (fun Kx hKx => ?_) AllReadyH.nil)
        · go_simp
          have RB := Lib.hid (rats_new v0 [(r2.n, r2.d), (r5.n, r5.d)] 24 #[.int .i64 r2.n, .int .i64 r2.d, .int .i64 r5.n, .int .i64 r5.d] rfl (by simp only [List.mem_cons, List.not_mem_nil, or_false]; rintro x (rfl | rfl); all_goals (have := B2.out; have := B3.out; simp only [In64] at *; omega)))
          replace H11 := Lib.hid (H11.out.alloc (.cells #[.int .i64 r2.n, .int .i64 r2.d, .int .i64 r5.n, .int .i64 r5.d] 24))
          replace H12 := Lib.hid (H12.out.alloc (.cells #[.int .i64 r2.n, .int .i64 r2.d, .int .i64 r5.n, .int .i64 r5.d] 24))
          replace HW := Lib.hid (HW.out.alloc (.cells #[.int .i64 r2.n, .int .i64 r2.d, .int .i64 r5.n, .int .i64 r5.d] 24))
          replace HC := Lib.hid (HC.out.alloc (.cells #[.int .i64 r2.n, .int .i64 r2.d, .int .i64 r5.n, .int .i64 r5.d] 24))
          clear hHeld
          refine hKx.out _ _ ?_ (fun hHeld => ?_)
          · (try dsimp only)
            exact HC.out
          clear hKx Kx
          (try simp only [Act.put, List.setIfInBounds_toArray, List.set_cons_zero, List.set_cons_succ])
          generalize v0.alloc (.cells #[.int .i64 r2.n, .int .i64 r2.d, .int .i64 r5.n, .int .i64 r5.d] 24) = v1 at *
          generalize v0.heap.size = A91 at *
          refine wpAnyH_ready (rs := [4, 8]) (by kernel_rfl) (by simp) ?_
          refine AllReadyH.cons (o := ⟨some 92, _, _, _, _, _⟩) rfl (fun Kx hKx => ?_) (AllReadyH.cons (o := ⟨some 13, _, _, _, _, _⟩) rfl (fun Kx hKx => ?_) AllReadyH.nil)
          · go_simp
            go_at_call 25
            refine (qsum_x r2.n r2.d r5.n r5.d r6 _ 2 _ H6.out RB.out).mono ?_
            rintro e_r v2 ⟨rfl, b_⟩
            replace H11 := Lib.hid (H11.out.below b_)
            replace H12 := Lib.hid (H12.out.below b_)
            replace RB := Lib.hid (RB.out.below b_)
            replace HW := Lib.hid (HW.out.below b_)
            replace HC := Lib.hid (HC.out.onB b_)
            clear b_ hHeld
            go_wp2_with fail
            refine hKx.out _ _ ?_ (fun hHeld => ?_)
            · (try dsimp only)
              exact HC.out
            clear hKx Kx
            (try simp only [Act.put, List.setIfInBounds_toArray, List.set_cons_zero, List.set_cons_succ])
            clear RB
            refine wpAnyH_take (i := 5) (oi := ⟨some 93, _, _, _, _, _⟩) (v := (.agg #[.int .i64 r6.n, .int .i64 r6.d])) rfl (by kernel_rfl) (by kernel_rfl) (by kernel_rfl) (fun _ _ _ h => h) (Or.inl ⟨by rfl, ?_⟩) hHeld ?_
            · intro ww hSw
              clear hSw
              go_simp
            simp only [Act.put, List.setIfInBounds_toArray, List.set_cons_zero, List.set_cons_succ]
            refine wpAnyH_take (i := 6) (oi := ⟨some 94, _, _, _, _, _⟩) (v := (.int .i64 r6.c)) rfl (by kernel_rfl) (by kernel_rfl) (by kernel_rfl) (fun _ _ _ h => h) (Or.inl ⟨by rfl, ?_⟩) hHeld ?_
            · intro ww hSw
              clear hSw
              go_simp
            simp only [Act.put, List.setIfInBounds_toArray, List.set_cons_zero, List.set_cons_succ]
            refine wpAnyH_ready (rs := [7, 8]) (by kernel_rfl) (by simp) ?_
            refine AllReadyH.cons (o := ⟨some 95, _, _, _, _, _⟩) rfl (fun Kx hKx => ?_) (AllReadyH.cons (o := ⟨some 13, _, _, _, _, _⟩) rfl (fun Kx hKx => ?_) AllReadyH.nil)
            · go_simp
              go_at_call 62
              refine (keep_c r6.n r6.d r6.c e5 e6 K _ K6.out HW.out.k).mono ?_
              rintro e_r v3 ⟨rfl, k_, b_⟩
              replace H11 := Lib.hid (H11.out.chg n_H11 b_)
              replace H12 := Lib.hid (H12.out.chg n_H12 b_)
              replace HW := Lib.hid (HW.out.keep HN.out k_ b_)
              replace HC := Lib.hid (HC.out.on b_)
              clear b_ k_ hHeld
              go_wp2_with fail
              refine hKx.out _ _ ?_ (fun hHeld => ?_)
              · (try dsimp only)
                exact HC.out
              clear hKx Kx
              (try simp only [Act.put, List.setIfInBounds_toArray, List.set_cons_zero, List.set_cons_succ])
              refine wpAnyH_ready (rs := [8]) (by kernel_rfl) (by simp) ?_
              refine AllReadyH.cons (o := ⟨some 13, _, _, _, _, _⟩) rfl (fun Kx hKx => ?_) AllReadyH.nil
              go_simp
              have H13 := Lib.hid (Has.new v3 24 #[.int .i64 0, .int .i64 0] rfl)
              have n_H13 : ¬ v3.heap.size = K := by have := HW.out.k.size; omega
              have l_H13 : wc.heap.size ≤ v3.heap.size := HC.out.size
              replace H11 := Lib.hid (H11.out.alloc (.cells #[.int .i64 0, .int .i64 0] 24))
              replace H12 := Lib.hid (H12.out.alloc (.cells #[.int .i64 0, .int .i64 0] 24))
              replace HW := Lib.hid (HW.out.alloc (.cells #[.int .i64 0, .int .i64 0] 24))
              replace HC := Lib.hid (HC.out.alloc (.cells #[.int .i64 0, .int .i64 0] 24))
              clear hHeld
              refine hKx.out _ _ ?_ (fun hHeld => ?_)
              · (try dsimp only)
                exact HC.out
              clear hKx Kx
              (try simp only [Act.put, List.setIfInBounds_toArray, List.set_cons_zero, List.set_cons_succ])
              generalize v3.alloc (.cells #[.int .i64 0, .int .i64 0] 24) = v4 at *
              generalize v3.heap.size = g13 at *
              refine wpAnyH_ready (rs := [9]) (by kernel_rfl) (by simp) ?_
              refine AllReadyH.cons (o := ⟨none, _, _, _, _, _⟩) rfl (fun Kx hKx => ?_) AllReadyH.nil
              obtain ⟨c0, c1, f0, f1⟩ := H13.out.two
              have z0 := H13.out.size
              go_simp
              replace HC := Lib.hid (HC.out.set (p := ⟨g13, 0, none⟩) (.inl (by simp; omega)) (.int .i64 r6.n))
              replace HW := Lib.hid (HW.out.far HN.out (p := ⟨g13, 0, none⟩) (by simp; omega) (.int .i64 r6.n))
              replace H11 := Lib.hid (H11.out.far (p := ⟨g13, 0, none⟩) (by simp; omega) (.int .i64 r6.n))
              replace H12 := Lib.hid (H12.out.far (p := ⟨g13, 0, none⟩) (by simp; omega) (.int .i64 r6.n))
              replace H13 := Lib.hid (H13.out.set 0 (.int .i64 r6.n))
              replace HC := Lib.hid (HC.out.set (p := ⟨g13, 1, none⟩) (.inl (by simp; omega)) (.int .i64 r6.d))
              replace HW := Lib.hid (HW.out.far HN.out (p := ⟨g13, 1, none⟩) (by simp; omega) (.int .i64 r6.d))
              replace H11 := Lib.hid (H11.out.far (p := ⟨g13, 1, none⟩) (by simp; omega) (.int .i64 r6.d))
              replace H12 := Lib.hid (H12.out.far (p := ⟨g13, 1, none⟩) (by simp; omega) (.int .i64 r6.d))
              replace H13 := Lib.hid (H13.out.set 1 (.int .i64 r6.d))
              clear c0 c1 f0 f1 z0 hHeld
              refine hKx.out _ _ ?_ (fun hHeld => ?_)
              · (try dsimp only)
                exact HC.out
              clear hKx Kx
              (try simp only [Act.put, List.setIfInBounds_toArray, List.set_cons_zero, List.set_cons_succ])
              refine wpAnyH_done (by kernel_rfl) ?_ _
              refine NoPanic.normal ?_
              go_wp2_with fail
              go_meet
              exact ⟨g13, rfl, n_H13, by omega, HW, H13⟩
            · go_simp
              have H13 := Lib.hid (Has.new v2 24 #[.int .i64 0, .int .i64 0] rfl)
              have n_H13 : ¬ v2.heap.size = K := by have := HW.out.k.size; omega
              have l_H13 : wc.heap.size ≤ v2.heap.size := HC.out.size
              replace H11 := Lib.hid (H11.out.alloc (.cells #[.int .i64 0, .int .i64 0] 24))
              replace H12 := Lib.hid (H12.out.alloc (.cells #[.int .i64 0, .int .i64 0] 24))
              replace HW := Lib.hid (HW.out.alloc (.cells #[.int .i64 0, .int .i64 0] 24))
              replace HC := Lib.hid (HC.out.alloc (.cells #[.int .i64 0, .int .i64 0] 24))
              clear hHeld
              refine hKx.out _ _ ?_ (fun hHeld => ?_)
              · (try dsimp only)
                exact HC.out
              clear hKx Kx
              (try simp only [Act.put, List.setIfInBounds_toArray, List.set_cons_zero, List.set_cons_succ])
              generalize v2.alloc (.cells #[.int .i64 0, .int .i64 0] 24) = v3 at *
              generalize v2.heap.size = g13 at *
              refine wpAnyH_ready (rs := [7]) (by kernel_rfl) (by simp) ?_
              refine AllReadyH.cons (o := ⟨some 95, _, _, _, _, _⟩) rfl (fun Kx hKx => ?_) AllReadyH.nil
              go_simp
              go_at_call 62
              refine (keep_c r6.n r6.d r6.c e5 e6 K _ K6.out HW.out.k).mono ?_
              rintro e_r v4 ⟨rfl, k_, b_⟩
              replace H11 := Lib.hid (H11.out.chg n_H11 b_)
              replace H12 := Lib.hid (H12.out.chg n_H12 b_)
              replace H13 := Lib.hid (H13.out.chg n_H13 b_)
              replace HW := Lib.hid (HW.out.keep HN.out k_ b_)
              replace HC := Lib.hid (HC.out.on b_)
              clear b_ k_ hHeld
              go_wp2_with fail
              refine hKx.out _ _ ?_ (fun hHeld => ?_)
              · (try dsimp only)
                exact HC.out
              clear hKx Kx
              (try simp only [Act.put, List.setIfInBounds_toArray, List.set_cons_zero, List.set_cons_succ])
              refine wpAnyH_ready (rs := [9]) (by kernel_rfl) (by simp) ?_
              refine AllReadyH.cons (o := ⟨none, _, _, _, _, _⟩) rfl (fun Kx hKx => ?_) AllReadyH.nil
              obtain ⟨c0, c1, f0, f1⟩ := H13.out.two
              have z0 := H13.out.size
              go_simp
              replace HC := Lib.hid (HC.out.set (p := ⟨g13, 0, none⟩) (.inl (by simp; omega)) (.int .i64 r6.n))
              replace HW := Lib.hid (HW.out.far HN.out (p := ⟨g13, 0, none⟩) (by simp; omega) (.int .i64 r6.n))
              replace H11 := Lib.hid (H11.out.far (p := ⟨g13, 0, none⟩) (by simp; omega) (.int .i64 r6.n))
              replace H12 := Lib.hid (H12.out.far (p := ⟨g13, 0, none⟩) (by simp; omega) (.int .i64 r6.n))
              replace H13 := Lib.hid (H13.out.set 0 (.int .i64 r6.n))
              replace HC := Lib.hid (HC.out.set (p := ⟨g13, 1, none⟩) (.inl (by simp; omega)) (.int .i64 r6.d))
              replace HW := Lib.hid (HW.out.far HN.out (p := ⟨g13, 1, none⟩) (by simp; omega) (.int .i64 r6.d))
              replace H11 := Lib.hid (H11.out.far (p := ⟨g13, 1, none⟩) (by simp; omega) (.int .i64 r6.d))
              replace H12 := Lib.hid (H12.out.far (p := ⟨g13, 1, none⟩) (by simp; omega) (.int .i64 r6.d))
              replace H13 := Lib.hid (H13.out.set 1 (.int .i64 r6.d))
              clear c0 c1 f0 f1 z0 hHeld
              refine hKx.out _ _ ?_ (fun hHeld => ?_)
              · (try dsimp only)
                exact HC.out
              clear hKx Kx
              (try simp only [Act.put, List.setIfInBounds_toArray, List.set_cons_zero, List.set_cons_succ])
              refine wpAnyH_done (by kernel_rfl) ?_ _
              refine NoPanic.normal ?_
              go_wp2_with fail
              go_meet
              exact ⟨g13, rfl, n_H13, by omega, HW, H13⟩
          · go_simp
            have H13 := Lib.hid (Has.new v1 24 #[.int .i64 0, .int .i64 0] rfl)
            have n_H13 : ¬ v1.heap.size = K := by have := HW.out.k.size; omega
            have l_H13 : wc.heap.size ≤ v1.heap.size := HC.out.size
            replace H11 := Lib.hid (H11.out.alloc (.cells #[.int .i64 0, .int .i64 0] 24))
            replace H12 := Lib.hid (H12.out.alloc (.cells #[.int .i64 0, .int .i64 0] 24))
            replace RB := Lib.hid (RB.out.below (bel_alloc (Below.refl _ _) (.cells #[.int .i64 0, .int .i64 0] 24)))
            replace HW := Lib.hid (HW.out.alloc (.cells #[.int .i64 0, .int .i64 0] 24))
            replace HC := Lib.hid (HC.out.alloc (.cells #[.int .i64 0, .int .i64 0] 24))
            clear hHeld
            refine hKx.out _ _ ?_ (fun hHeld => ?_)
            · (try dsimp only)
              exact HC.out
            clear hKx Kx
            (try simp only [Act.put, List.setIfInBounds_toArray, List.set_cons_zero, List.set_cons_succ])
            generalize v1.alloc (.cells #[.int .i64 0, .int .i64 0] 24) = v2 at *
            generalize v1.heap.size = g13 at *
            refine wpAnyH_ready (rs := [4]) (by kernel_rfl) (by simp) ?_
            refine AllReadyH.cons (o := ⟨some 92, _, _, _, _, _⟩) rfl (fun Kx hKx => ?_) AllReadyH.nil
            go_simp
            go_at_call 25
            refine (qsum_x r2.n r2.d r5.n r5.d r6 _ 2 _ H6.out RB.out).mono ?_
            rintro e_r v3 ⟨rfl, b_⟩
            replace H11 := Lib.hid (H11.out.below b_)
            replace H12 := Lib.hid (H12.out.below b_)
            replace H13 := Lib.hid (H13.out.below b_)
            replace RB := Lib.hid (RB.out.below b_)
            replace HW := Lib.hid (HW.out.below b_)
            replace HC := Lib.hid (HC.out.onB b_)
            clear b_ hHeld
            go_wp2_with fail
            refine hKx.out _ _ ?_ (fun hHeld => ?_)
            · (try dsimp only)
              exact HC.out
            clear hKx Kx
            (try simp only [Act.put, List.setIfInBounds_toArray, List.set_cons_zero, List.set_cons_succ])
            clear RB
            refine wpAnyH_take (i := 5) (oi := ⟨some 93, _, _, _, _, _⟩) (v := (.agg #[.int .i64 r6.n, .int .i64 r6.d])) rfl (by kernel_rfl) (by kernel_rfl) (by kernel_rfl) (fun _ _ _ h => h) (Or.inl ⟨by rfl, ?_⟩) hHeld ?_
            · intro ww hSw
              clear hSw
              go_simp
            simp only [Act.put, List.setIfInBounds_toArray, List.set_cons_zero, List.set_cons_succ]
            refine wpAnyH_take (i := 6) (oi := ⟨some 94, _, _, _, _, _⟩) (v := (.int .i64 r6.c)) rfl (by kernel_rfl) (by kernel_rfl) (by kernel_rfl) (fun _ _ _ h => h) (Or.inl ⟨by rfl, ?_⟩) hHeld ?_
            · intro ww hSw
              clear hSw
              go_simp
            simp only [Act.put, List.setIfInBounds_toArray, List.set_cons_zero, List.set_cons_succ]
            refine wpAnyH_ready (rs := [7]) (by kernel_rfl) (by simp) ?_
            refine AllReadyH.cons (o := ⟨some 95, _, _, _, _, _⟩) rfl (fun Kx hKx => ?_) AllReadyH.nil
            go_simp
            go_at_call 62
            refine (keep_c r6.n r6.d r6.c e5 e6 K _ K6.out HW.out.k).mono ?_
            rintro e_r v4 ⟨rfl, k_, b_⟩
            replace H11 := Lib.hid (H11.out.chg n_H11 b_)
            replace H12 := Lib.hid (H12.out.chg n_H12 b_)
            replace H13 := Lib.hid (H13.out.chg n_H13 b_)
            replace HW := Lib.hid (HW.out.keep HN.out k_ b_)
            replace HC := Lib.hid (HC.out.on b_)
            clear b_ k_ hHeld
            go_wp2_with fail
            refine hKx.out _ _ ?_ (fun hHeld => ?_)
            · (try dsimp only)
              exact HC.out
            clear hKx Kx
            (try simp only [Act.put, List.setIfInBounds_toArray, List.set_cons_zero, List.set_cons_succ])
            refine wpAnyH_ready (rs := [9]) (by kernel_rfl) (by simp) ?_
            refine AllReadyH.cons (o := ⟨none, _, _, _, _, _⟩) rfl (fun Kx hKx => ?_) AllReadyH.nil
            obtain ⟨c0, c1, f0, f1⟩ := H13.out.two
            have z0 := H13.out.size
            go_simp
            replace HC := Lib.hid (HC.out.set (p := ⟨g13, 0, none⟩) (.inl (by simp; omega)) (.int .i64 r6.n))
            replace HW := Lib.hid (HW.out.far HN.out (p := ⟨g13, 0, none⟩) (by simp; omega) (.int .i64 r6.n))
            replace H11 := Lib.hid (H11.out.far (p := ⟨g13, 0, none⟩) (by simp; omega) (.int .i64 r6.n))
            replace H12 := Lib.hid (H12.out.far (p := ⟨g13, 0, none⟩) (by simp; omega) (.int .i64 r6.n))
            replace H13 := Lib.hid (H13.out.set 0 (.int .i64 r6.n))
            replace HC := Lib.hid (HC.out.set (p := ⟨g13, 1, none⟩) (.inl (by simp; omega)) (.int .i64 r6.d))
            replace HW := Lib.hid (HW.out.far HN.out (p := ⟨g13, 1, none⟩) (by simp; omega) (.int .i64 r6.d))
            replace H11 := Lib.hid (H11.out.far (p := ⟨g13, 1, none⟩) (by simp; omega) (.int .i64 r6.d))
            replace H12 := Lib.hid (H12.out.far (p := ⟨g13, 1, none⟩) (by simp; omega) (.int .i64 r6.d))
            replace H13 := Lib.hid (H13.out.set 1 (.int .i64 r6.d))
            clear c0 c1 f0 f1 z0 hHeld
            refine hKx.out _ _ ?_ (fun hHeld => ?_)
            · (try dsimp only)
              exact HC.out
            clear hKx Kx
            (try simp only [Act.put, List.setIfInBounds_toArray, List.set_cons_zero, List.set_cons_succ])
            refine wpAnyH_done (by kernel_rfl) ?_ _
            refine NoPanic.normal ?_
            go_wp2_with fail
            go_meet
            exact ⟨g13, rfl, n_H13, by omega, HW, H13⟩
        · go_simp
          have H13 := Lib.hid (Has.new v0 24 #[.int .i64 0, .int .i64 0] rfl)
          have n_H13 : ¬ v0.heap.size = K := by have := HW.out.k.size; omega
          have l_H13 : wc.heap.size ≤ v0.heap.size := HC.out.size
          replace H11 := Lib.hid (H11.out.alloc (.cells #[.int .i64 0, .int .i64 0] 24))
          replace H12 := Lib.hid (H12.out.alloc (.cells #[.int .i64 0, .int .i64 0] 24))
          replace HW := Lib.hid (HW.out.alloc (.cells #[.int .i64 0, .int .i64 0] 24))
          replace HC := Lib.hid (HC.out.alloc (.cells #[.int .i64 0, .int .i64 0] 24))
          clear hHeld
          refine hKx.out _ _ ?_ (fun hHeld => ?_)
          · (try dsimp only)
            exact HC.out
          clear hKx Kx
          (try simp only [Act.put, List.setIfInBounds_toArray, List.set_cons_zero, List.set_cons_succ])
          generalize v0.alloc (.cells #[.int .i64 0, .int .i64 0] 24) = v1 at *
          generalize v0.heap.size = g13 at *
          refine wpAnyH_ready (rs := [3]) (by kernel_rfl) (by simp) ?_
          refine AllReadyH.cons (o := ⟨some 91, _, _, _, _, _⟩) rfl (fun Kx hKx => ?_) AllReadyH.nil
          go_simp
          have RB := Lib.hid (rats_new v1 [(r2.n, r2.d), (r5.n, r5.d)] 24 #[.int .i64 r2.n, .int .i64 r2.d, .int .i64 r5.n, .int .i64 r5.d] rfl (by simp only [List.mem_cons, List.not_mem_nil, or_false]; rintro x (rfl | rfl); all_goals (have := B2.out; have := B3.out; simp only [In64] at *; omega)))
          replace H11 := Lib.hid (H11.out.alloc (.cells #[.int .i64 r2.n, .int .i64 r2.d, .int .i64 r5.n, .int .i64 r5.d] 24))
          replace H12 := Lib.hid (H12.out.alloc (.cells #[.int .i64 r2.n, .int .i64 r2.d, .int .i64 r5.n, .int .i64 r5.d] 24))
          replace H13 := Lib.hid (H13.out.alloc (.cells #[.int .i64 r2.n, .int .i64 r2.d, .int .i64 r5.n, .int .i64 r5.d] 24))
          replace HW := Lib.hid (HW.out.alloc (.cells #[.int .i64 r2.n, .int .i64 r2.d, .int .i64 r5.n, .int .i64 r5.d] 24))
          replace HC := Lib.hid (HC.out.alloc (.cells #[.int .i64 r2.n, .int .i64 r2.d, .int .i64 r5.n, .int .i64 r5.d] 24))
          clear hHeld
          refine hKx.out _ _ ?_ (fun hHeld => ?_)
          · (try dsimp only)
            exact HC.out
          clear hKx Kx
          (try simp only [Act.put, List.setIfInBounds_toArray, List.set_cons_zero, List.set_cons_succ])
          generalize v1.alloc (.cells #[.int .i64 r2.n, .int .i64 r2.d, .int .i64 r5.n, .int .i64 r5.d] 24) = v2 at *
          generalize v1.heap.size = A91 at *
          refine wpAnyH_ready (rs := [4]) (by kernel_rfl) (by simp) ?_
          refine AllReadyH.cons (o := ⟨some 92, _, _, _, _, _⟩) rfl (fun Kx hKx => ?_) AllReadyH.nil
          go_simp
          go_at_call 25
          refine (qsum_x r2.n r2.d r5.n r5.d r6 _ 2 _ H6.out RB.out).mono ?_
          rintro e_r v3 ⟨rfl, b_⟩
          replace H11 := Lib.hid (H11.out.below b_)
          replace H12 := Lib.hid (H12.out.below b_)
          replace H13 := Lib.hid (H13.out.below b_)
          replace RB := Lib.hid (RB.out.below b_)
          replace HW := Lib.hid (HW.out.below b_)
          replace HC := Lib.hid (HC.out.onB b_)
          clear b_ hHeld
          go_wp2_with fail
          refine hKx.out _ _ ?_ (fun hHeld => ?_)
          · (try dsimp only)
            exact HC.out
          clear hKx Kx
          (try simp only [Act.put, List.setIfInBounds_toArray, List.set_cons_zero, List.set_cons_succ])
          clear RB
          refine wpAnyH_take (i := 5) (oi := ⟨some 93, _, _, _, _, _⟩) (v := (.agg #[.int .i64 r6.n, .int .i64 r6.d])) rfl (by kernel_rfl) (by kernel_rfl) (by kernel_rfl) (fun _ _ _ h => h) (Or.inl ⟨by rfl, ?_⟩) hHeld ?_
          · intro ww hSw
            clear hSw
            go_simp
          simp only [Act.put, List.setIfInBounds_toArray, List.set_cons_zero, List.set_cons_succ]
          refine wpAnyH_take (i := 6) (oi := ⟨some 94, _, _, _, _, _⟩) (v := (.int .i64 r6.c)) rfl (by kernel_rfl) (by kernel_rfl) (by kernel_rfl) (fun _ _ _ h => h) (Or.inl ⟨by rfl, ?_⟩) hHeld ?_
          · intro ww hSw
            clear hSw
            go_simp
          simp only [Act.put, List.setIfInBounds_toArray, List.set_cons_zero, List.set_cons_succ]
          refine wpAnyH_ready (rs := [7]) (by kernel_rfl) (by simp) ?_
          refine AllReadyH.cons (o := ⟨some 95, _, _, _, _, _⟩) rfl (fun Kx hKx => ?_) AllReadyH.nil
          go_simp
          go_at_call 62
          refine (keep_c r6.n r6.d r6.c e5 e6 K _ K6.out HW.out.k).mono ?_
          rintro e_r v4 ⟨rfl, k_, b_⟩
          replace H11 := Lib.hid (H11.out.chg n_H11 b_)
          replace H12 := Lib.hid (H12.out.chg n_H12 b_)
          replace H13 := Lib.hid (H13.out.chg n_H13 b_)
          replace HW := Lib.hid (HW.out.keep HN.out k_ b_)
          replace HC := Lib.hid (HC.out.on b_)
          clear b_ k_ hHeld
          go_wp2_with fail
          refine hKx.out _ _ ?_ (fun hHeld => ?_)
          · (try dsimp only)
            exact HC.out
          clear hKx Kx
          (try simp only [Act.put, List.setIfInBounds_toArray, List.set_cons_zero, List.set_cons_succ])
          refine wpAnyH_ready (rs := [9]) (by kernel_rfl) (by simp) ?_
          refine AllReadyH.cons (o := ⟨none, _, _, _, _, _⟩) rfl (fun Kx hKx => ?_) AllReadyH.nil
          obtain ⟨c0, c1, f0, f1⟩ := H13.out.two
          have z0 := H13.out.size
          go_simp
          replace HC := Lib.hid (HC.out.set (p := ⟨g13, 0, none⟩) (.inl (by simp; omega)) (.int .i64 r6.n))
          replace HW := Lib.hid (HW.out.far HN.out (p := ⟨g13, 0, none⟩) (by simp; omega) (.int .i64 r6.n))
          replace H11 := Lib.hid (H11.out.far (p := ⟨g13, 0, none⟩) (by simp; omega) (.int .i64 r6.n))
          replace H12 := Lib.hid (H12.out.far (p := ⟨g13, 0, none⟩) (by simp; omega) (.int .i64 r6.n))
          replace H13 := Lib.hid (H13.out.set 0 (.int .i64 r6.n))
          replace HC := Lib.hid (HC.out.set (p := ⟨g13, 1, none⟩) (.inl (by simp; omega)) (.int .i64 r6.d))
          replace HW := Lib.hid (HW.out.far HN.out (p := ⟨g13, 1, none⟩) (by simp; omega) (.int .i64 r6.d))
          replace H11 := Lib.hid (H11.out.far (p := ⟨g13, 1, none⟩) (by simp; omega) (.int .i64 r6.d))
          replace H12 := Lib.hid (H12.out.far (p := ⟨g13, 1, none⟩) (by simp; omega) (.int .i64 r6.d))
          replace H13 := Lib.hid (H13.out.set 1 (.int .i64 r6.d))
          clear c0 c1 f0 f1 z0 hHeld
          refine hKx.out _ _ ?_ (fun hHeld => ?_)
          · (try dsimp only)
            exact HC.out
          clear hKx Kx
          (try simp only [Act.put, List.setIfInBounds_toArray, List.set_cons_zero, List.set_cons_succ])
          refine wpAnyH_done (by kernel_rfl) ?_ _
          refine NoPanic.normal ?_
          go_wp2_with fail
          go_meet
          exact ⟨g13, rfl, n_H13, by omega, HW, H13⟩
    case rest =>
    clear H11 H12
    clear HW
    obtain ⟨g13, rfl, n_H13, l13, HW, H13⟩ := hcut
    go_upto_region 13 with fail
    go_cut [14] (fun v14 wx => ∃ g : Nat, v14 = .pointer (some ⟨g, 0, none⟩) ∧ ¬ g = K ∧ L ≤ g ∧ Hid (GoW w L w.heap.size (w.heap.size + 1) (w.heap.size + 1 + 1) K T G cs es #[.int .i64 fn, .int .i64 fd, .int .i64 un1, .int .i64 ud1] e7 wx) ∧ Hid (Has wx g #[.int .i64 r7.n, .int .i64 r7.d]))
    case first =>
      as_aux_lemma =>
        have HWW := HW
        have H13W := H13
        have s_H13 := H13.out.size
        have hWc := HW.out.lim
        refine wp_region_noPanic ?_
        refine wp_region_held_drew (S := fun w' => Chg (fun b => b = K) wc w') (by kernel_rfl) (Chg.of_below (below_drew (Below.refl _ _))) (fun hHeld => ?_)
        have HC : Hid (Chg (fun b => b = K) wc wc.drew) := Lib.hid hHeld
        replace H13 := Lib.hid (H13.out.drew)
        replace HW := Lib.hid (HW.out.drew)
        generalize wc.drew = v0 at *
        refine wpAnyH_take (i := 0) (oi := ⟨some 96, _, _, _, _, _⟩) (v := (.func (.func 62) #[] #[.pointer (some ⟨K, 0, none⟩)])) rfl (by kernel_rfl) (by kernel_rfl) (by kernel_rfl) (fun _ _ _ h => h) (Or.inl ⟨by rfl, ?_⟩) hHeld ?_
        · intro ww hSw
          (try dsimp only at hSw)
          have c0 := (HWW.out.t.chg HN.out.one.2.2.2.1 hSw).cell 0 rfl
          have z0 := cell_lt c0
          go_simp
        simp only [Act.put, List.setIfInBounds_toArray, List.set_cons_zero, List.set_cons_succ]
        refine wpAnyH_take (i := 1) (oi := ⟨some 97, _, _, _, _, _⟩) (v := (.agg #[.int .i64 r6.n, .int .i64 r6.d])) rfl (by kernel_rfl) (by kernel_rfl) (by kernel_rfl) (fun _ _ _ h => h) (Or.inl ⟨by rfl, ?_⟩) hHeld ?_
        · intro ww hSw
          (try dsimp only at hSw)
          obtain ⟨c0, c1, -, -⟩ := (H13W.out.chg n_H13 hSw).two
          have z0 := cell_lt c0
          go_simp
        simp only [Act.put, List.setIfInBounds_toArray, List.set_cons_zero, List.set_cons_succ]
        refine wpAnyH_take (i := 2) (oi := ⟨some 98, _, _, _, _, _⟩) (v := (.func (.func 62) #[] #[.pointer (some ⟨K, 0, none⟩)])) rfl (by kernel_rfl) (by kernel_rfl) (by kernel_rfl) (fun _ _ _ h => h) (Or.inl ⟨by rfl, ?_⟩) hHeld ?_
        · intro ww hSw
          (try dsimp only at hSw)
          have c0 := (HWW.out.t.chg HN.out.one.2.2.2.1 hSw).cell 0 rfl
          have z0 := cell_lt c0
          go_simp
        simp only [Act.put, List.setIfInBounds_toArray, List.set_cons_zero, List.set_cons_succ]
        refine wpAnyH_take (i := 3) (oi := ⟨some 99, _, _, _, _, _⟩) (v := (.pointer (some ⟨w.heap.size, 7, none⟩))) rfl (by kernel_rfl) (by kernel_rfl) (by kernel_rfl) (fun _ _ _ h => h) (Or.inl ⟨by rfl, ?_⟩) hHeld ?_
        · intro ww hSw
          clear hSw
          go_simp
        simp only [Act.put, List.setIfInBounds_toArray, List.set_cons_zero, List.set_cons_succ]
        refine wpAnyH_take (i := 4) (oi := ⟨some 100, _, _, _, _, _⟩) (v := (.int .i64 al)) rfl (by kernel_rfl) (by kernel_rfl) (by kernel_rfl) (fun _ _ _ h => h) (Or.inl ⟨by rfl, ?_⟩) hHeld ?_
        · intro ww hSw
          (try dsimp only at hSw)
          have c0 := (HWW.out.s.chg HN.out.one.1 hSw).cell 7 Q.out.2.2.2.2.2
          have z0 := cell_lt c0
          go_simp
        simp only [Act.put, List.setIfInBounds_toArray, List.set_cons_zero, List.set_cons_succ]
        have hw100 : IntKind.i64.wrap (100 + al) = 100 + al := wrapg_id (by omega) (by omega)
        refine wpAnyH_take (i := 5) (oi := ⟨some 101, _, _, _, _, _⟩) (v := (.int .i64 (100 + al))) rfl (by kernel_rfl) (by kernel_rfl) (by kernel_rfl) (fun _ _ _ h => h) (Or.inl ⟨by rfl, ?_⟩) hHeld ?_
        · intro ww hSw
          clear hSw
          go_simp
        simp only [Act.put, List.setIfInBounds_toArray, List.set_cons_zero, List.set_cons_succ]
        refine wpAnyH_ready (rs := [6, 14]) (by kernel_rfl) (by simp) ?_
        refine AllReadyH.cons (o := ⟨some 102, _, _, _, _, _⟩) rfl (fun Kx hKx => ?_) (AllReadyH.cons (o := ⟨some 14, _, _, _, _, _⟩) rfl (fun Kx hKx => ?_) AllReadyH.nil)
        · go_simp
          go_at_call 21
          refine (qmake_x (100 + al) 100 an ad _ M3.out (by omega) (by omega)).mono ?_
          rintro e_r v1 ⟨rfl, b_⟩
          replace H13 := Lib.hid (H13.out.below b_)
          replace HW := Lib.hid (HW.out.below b_)
          replace HC := Lib.hid (HC.out.onB b_)
          clear b_ hHeld
          go_wp2_with fail
          refine hKx.out _ _ ?_ (fun hHeld => ?_)
          · (try dsimp only)
            exact HC.out
          clear hKx Kx
          (try simp only [Act.put, List.setIfInBounds_toArray, List.set_cons_zero, List.set_cons_succ])
          refine wpAnyH_take (i := 7) (oi := ⟨some 103, _, _, _, _, _⟩) (v := (.agg #[.int .i64 an, .int .i64 ad])) rfl (by kernel_rfl) (by kernel_rfl) (by kernel_rfl) (fun _ _ _ h => h) (Or.inl ⟨by rfl, ?_⟩) hHeld ?_
          · intro ww hSw
            clear hSw
            go_simp
          simp only [Act.put, List.setIfInBounds_toArray, List.set_cons_zero, List.set_cons_succ]
          refine wpAnyH_take (i := 8) (oi := ⟨some 104, _, _, _, _, _⟩) (v := (.int .i64 0)) rfl (by kernel_rfl) (by kernel_rfl) (by kernel_rfl) (fun _ _ _ h => h) (Or.inl ⟨by rfl, ?_⟩) hHeld ?_
          · intro ww hSw
            clear hSw
            go_simp
          simp only [Act.put, List.setIfInBounds_toArray, List.set_cons_zero, List.set_cons_succ]
          refine wpAnyH_ready (rs := [9, 14]) (by kernel_rfl) (by simp) ?_
          refine AllReadyH.cons (o := ⟨some 105, _, _, _, _, _⟩) rfl (fun Kx hKx => ?_) (AllReadyH.cons (o := ⟨some 14, _, _, _, _, _⟩) rfl (fun Kx hKx => ?_) AllReadyH.nil)
          · go_simp
            go_at_call 62
            refine (keep_c an ad 0 e6 e6 K _ (fstC_zero e6) HW.out.k).mono ?_
            rintro e_r v2 ⟨rfl, k_, b_⟩
            replace H13 := Lib.hid (H13.out.chg n_H13 b_)
            replace HW := Lib.hid (HW.out.keep HN.out k_ b_)
            replace HC := Lib.hid (HC.out.on b_)
            clear b_ k_ hHeld
            go_wp2_with fail
            refine hKx.out _ _ ?_ (fun hHeld => ?_)
            · (try dsimp only)
              exact HC.out
            clear hKx Kx
            (try simp only [Act.put, List.setIfInBounds_toArray, List.set_cons_zero, List.set_cons_succ])
            refine wpAnyH_ready (rs := [10, 14]) (by kernel_rfl) (by simp) ?_
            refine AllReadyH.cons (o := ⟨some 106, _, _, _, _, _⟩) rfl (fun Kx hKx => ?_) (AllReadyH.cons (o := ⟨some 14, _, _, _, _, _⟩) rfl (fun Kx hKx => ?_) AllReadyH.nil)
            · go_simp
              go_at_call 26
              refine (qmul_x r6.n r6.d an ad r7 _ H7.out B3.out.2.2.2.2.2.1 B3.out.2.2.2.2.2.2 B2.out.2.2.2.2.2.1 B2.out.2.2.2.2.2.2).mono ?_
              rintro e_r v3 ⟨rfl, b_⟩
              replace H13 := Lib.hid (H13.out.below b_)
              replace HW := Lib.hid (HW.out.below b_)
              replace HC := Lib.hid (HC.out.onB b_)
              clear b_ hHeld
              go_wp2_with fail
              refine hKx.out _ _ ?_ (fun hHeld => ?_)
              · (try dsimp only)
                exact HC.out
              clear hKx Kx
              (try simp only [Act.put, List.setIfInBounds_toArray, List.set_cons_zero, List.set_cons_succ])
              refine wpAnyH_take (i := 11) (oi := ⟨some 107, _, _, _, _, _⟩) (v := (.agg #[.int .i64 r7.n, .int .i64 r7.d])) rfl (by kernel_rfl) (by kernel_rfl) (by kernel_rfl) (fun _ _ _ h => h) (Or.inl ⟨by rfl, ?_⟩) hHeld ?_
              · intro ww hSw
                clear hSw
                go_simp
              simp only [Act.put, List.setIfInBounds_toArray, List.set_cons_zero, List.set_cons_succ]
              refine wpAnyH_take (i := 12) (oi := ⟨some 108, _, _, _, _, _⟩) (v := (.int .i64 r7.c)) rfl (by kernel_rfl) (by kernel_rfl) (by kernel_rfl) (fun _ _ _ h => h) (Or.inl ⟨by rfl, ?_⟩) hHeld ?_
              · intro ww hSw
                clear hSw
                go_simp
              simp only [Act.put, List.setIfInBounds_toArray, List.set_cons_zero, List.set_cons_succ]
              refine wpAnyH_ready (rs := [13, 14]) (by kernel_rfl) (by simp) ?_
              refine AllReadyH.cons (o := ⟨some 109, _, _, _, _, _⟩) rfl (fun Kx hKx => ?_) (AllReadyH.cons (o := ⟨some 14, _, _, _, _, _⟩) rfl (fun Kx hKx => ?_) AllReadyH.nil)
              · go_simp
                go_at_call 62
                refine (keep_c r7.n r7.d r7.c e6 e7 K _ K7.out HW.out.k).mono ?_
                rintro e_r v4 ⟨rfl, k_, b_⟩
                replace H13 := Lib.hid (H13.out.chg n_H13 b_)
                replace HW := Lib.hid (HW.out.keep HN.out k_ b_)
                replace HC := Lib.hid (HC.out.on b_)
                clear b_ k_ hHeld
                go_wp2_with fail
                refine hKx.out _ _ ?_ (fun hHeld => ?_)
                · (try dsimp only)
                  exact HC.out
                clear hKx Kx
                (try simp only [Act.put, List.setIfInBounds_toArray, List.set_cons_zero, List.set_cons_succ])
                refine wpAnyH_ready (rs := [14]) (by kernel_rfl) (by simp) ?_
                refine AllReadyH.cons (o := ⟨some 14, _, _, _, _, _⟩) rfl (fun Kx hKx => ?_) AllReadyH.nil
                go_simp
                have H14 := Lib.hid (Has.new v4 24 #[.int .i64 0, .int .i64 0] rfl)
                have n_H14 : ¬ v4.heap.size = K := by have := HW.out.k.size; omega
                have l_H14 : wc.heap.size ≤ v4.heap.size := HC.out.size
                replace H13 := Lib.hid (H13.out.alloc (.cells #[.int .i64 0, .int .i64 0] 24))
                replace HW := Lib.hid (HW.out.alloc (.cells #[.int .i64 0, .int .i64 0] 24))
                replace HC := Lib.hid (HC.out.alloc (.cells #[.int .i64 0, .int .i64 0] 24))
                clear hHeld
                refine hKx.out _ _ ?_ (fun hHeld => ?_)
                · (try dsimp only)
                  exact HC.out
                clear hKx Kx
                (try simp only [Act.put, List.setIfInBounds_toArray, List.set_cons_zero, List.set_cons_succ])
                generalize v4.alloc (.cells #[.int .i64 0, .int .i64 0] 24) = v5 at *
                generalize v4.heap.size = g14 at *
                refine wpAnyH_ready (rs := [15]) (by kernel_rfl) (by simp) ?_
                refine AllReadyH.cons (o := ⟨none, _, _, _, _, _⟩) rfl (fun Kx hKx => ?_) AllReadyH.nil
                obtain ⟨c0, c1, f0, f1⟩ := H14.out.two
                have z0 := H14.out.size
                go_simp
                replace HC := Lib.hid (HC.out.set (p := ⟨g14, 0, none⟩) (.inl (by simp; omega)) (.int .i64 r7.n))
                replace HW := Lib.hid (HW.out.far HN.out (p := ⟨g14, 0, none⟩) (by simp; omega) (.int .i64 r7.n))
                replace H13 := Lib.hid (H13.out.far (p := ⟨g14, 0, none⟩) (by simp; omega) (.int .i64 r7.n))
                replace H14 := Lib.hid (H14.out.set 0 (.int .i64 r7.n))
                replace HC := Lib.hid (HC.out.set (p := ⟨g14, 1, none⟩) (.inl (by simp; omega)) (.int .i64 r7.d))
                replace HW := Lib.hid (HW.out.far HN.out (p := ⟨g14, 1, none⟩) (by simp; omega) (.int .i64 r7.d))
                replace H13 := Lib.hid (H13.out.far (p := ⟨g14, 1, none⟩) (by simp; omega) (.int .i64 r7.d))
                replace H14 := Lib.hid (H14.out.set 1 (.int .i64 r7.d))
                clear c0 c1 f0 f1 z0 hHeld
                refine hKx.out _ _ ?_ (fun hHeld => ?_)
                · (try dsimp only)
                  exact HC.out
                clear hKx Kx
                (try simp only [Act.put, List.setIfInBounds_toArray, List.set_cons_zero, List.set_cons_succ])
                refine wpAnyH_done (by kernel_rfl) ?_ _
                refine NoPanic.normal ?_
                go_wp2_with fail
                go_meet
                exact ⟨g14, rfl, n_H14, by omega, HW, H14⟩
              · go_simp
                have H14 := Lib.hid (Has.new v3 24 #[.int .i64 0, .int .i64 0] rfl)
                have n_H14 : ¬ v3.heap.size = K := by have := HW.out.k.size; omega
                have l_H14 : wc.heap.size ≤ v3.heap.size := HC.out.size
                replace H13 := Lib.hid (H13.out.alloc (.cells #[.int .i64 0, .int .i64 0] 24))
                replace HW := Lib.hid (HW.out.alloc (.cells #[.int .i64 0, .int .i64 0] 24))
                replace HC := Lib.hid (HC.out.alloc (.cells #[.int .i64 0, .int .i64 0] 24))
                clear hHeld
                refine hKx.out _ _ ?_ (fun hHeld => ?_)
                · (try dsimp only)
                  exact HC.out
                clear hKx Kx
                (try simp only [Act.put, List.setIfInBounds_toArray, List.set_cons_zero, List.set_cons_succ])
                generalize v3.alloc (.cells #[.int .i64 0, .int .i64 0] 24) = v4 at *
                generalize v3.heap.size = g14 at *
                refine wpAnyH_ready (rs := [13]) (by kernel_rfl) (by simp) ?_
                refine AllReadyH.cons (o := ⟨some 109, _, _, _, _, _⟩) rfl (fun Kx hKx => ?_) AllReadyH.nil
                go_simp
                go_at_call 62
                refine (keep_c r7.n r7.d r7.c e6 e7 K _ K7.out HW.out.k).mono ?_
                rintro e_r v5 ⟨rfl, k_, b_⟩
                replace H13 := Lib.hid (H13.out.chg n_H13 b_)
                replace H14 := Lib.hid (H14.out.chg n_H14 b_)
                replace HW := Lib.hid (HW.out.keep HN.out k_ b_)
                replace HC := Lib.hid (HC.out.on b_)
                clear b_ k_ hHeld
                go_wp2_with fail
                refine hKx.out _ _ ?_ (fun hHeld => ?_)
                · (try dsimp only)
                  exact HC.out
                clear hKx Kx
                (try simp only [Act.put, List.setIfInBounds_toArray, List.set_cons_zero, List.set_cons_succ])
                refine wpAnyH_ready (rs := [15]) (by kernel_rfl) (by simp) ?_
                refine AllReadyH.cons (o := ⟨none, _, _, _, _, _⟩) rfl (fun Kx hKx => ?_) AllReadyH.nil
                obtain ⟨c0, c1, f0, f1⟩ := H14.out.two
                have z0 := H14.out.size
                go_simp
                replace HC := Lib.hid (HC.out.set (p := ⟨g14, 0, none⟩) (.inl (by simp; omega)) (.int .i64 r7.n))
                replace HW := Lib.hid (HW.out.far HN.out (p := ⟨g14, 0, none⟩) (by simp; omega) (.int .i64 r7.n))
                replace H13 := Lib.hid (H13.out.far (p := ⟨g14, 0, none⟩) (by simp; omega) (.int .i64 r7.n))
                replace H14 := Lib.hid (H14.out.set 0 (.int .i64 r7.n))
                replace HC := Lib.hid (HC.out.set (p := ⟨g14, 1, none⟩) (.inl (by simp; omega)) (.int .i64 r7.d))
                replace HW := Lib.hid (HW.out.far HN.out (p := ⟨g14, 1, none⟩) (by simp; omega) (.int .i64 r7.d))
                replace H13 := Lib.hid (H13.out.far (p := ⟨g14, 1, none⟩) (by simp; omega) (.int .i64 r7.d))
                replace H14 := Lib.hid (H14.out.set 1 (.int .i64 r7.d))
                clear c0 c1 f0 f1 z0 hHeld
                refine hKx.out _ _ ?_ (fun hHeld => ?_)
                · (try dsimp only)
                  exact HC.out
                clear hKx Kx
                (try simp only [Act.put, List.setIfInBounds_toArray, List.set_cons_zero, List.set_cons_succ])
                refine wpAnyH_done (by kernel_rfl) ?_ _
                refine NoPanic.normal ?_
                go_wp2_with fail
                go_meet
                exact ⟨g14, rfl, n_H14, by omega, HW, H14⟩
            · go_simp
              have H14 := Lib.hid (Has.new v2 24 #[.int .i64 0, .int .i64 0] rfl)
              have n_H14 : ¬ v2.heap.size = K := by have := HW.out.k.size; omega
              have l_H14 : wc.heap.size ≤ v2.heap.size := HC.out.size
              replace H13 := Lib.hid (H13.out.alloc (.cells #[.int .i64 0, .int .i64 0] 24))
              replace HW := Lib.hid (HW.out.alloc (.cells #[.int .i64 0, .int .i64 0] 24))
              replace HC := Lib.hid (HC.out.alloc (.cells #[.int .i64 0, .int .i64 0] 24))
              clear hHeld
              refine hKx.out _ _ ?_ (fun hHeld => ?_)
              · (try dsimp only)
                exact HC.out
              clear hKx Kx
              (try simp only [Act.put, List.setIfInBounds_toArray, List.set_cons_zero, List.set_cons_succ])
              generalize v2.alloc (.cells #[.int .i64 0, .int .i64 0] 24) = v3 at *
              generalize v2.heap.size = g14 at *
              refine wpAnyH_ready (rs := [10]) (by kernel_rfl) (by simp) ?_
              refine AllReadyH.cons (o := ⟨some 106, _, _, _, _, _⟩) rfl (fun Kx hKx => ?_) AllReadyH.nil
              go_simp
              go_at_call 26
              refine (qmul_x r6.n r6.d an ad r7 _ H7.out B3.out.2.2.2.2.2.1 B3.out.2.2.2.2.2.2 B2.out.2.2.2.2.2.1 B2.out.2.2.2.2.2.2).mono ?_
              rintro e_r v4 ⟨rfl, b_⟩
              replace H13 := Lib.hid (H13.out.below b_)
              replace H14 := Lib.hid (H14.out.below b_)
              replace HW := Lib.hid (HW.out.below b_)
              replace HC := Lib.hid (HC.out.onB b_)
              clear b_ hHeld
              go_wp2_with fail
              refine hKx.out _ _ ?_ (fun hHeld => ?_)
              · (try dsimp only)
                exact HC.out
              clear hKx Kx
              (try simp only [Act.put, List.setIfInBounds_toArray, List.set_cons_zero, List.set_cons_succ])
              refine wpAnyH_take (i := 11) (oi := ⟨some 107, _, _, _, _, _⟩) (v := (.agg #[.int .i64 r7.n, .int .i64 r7.d])) rfl (by kernel_rfl) (by kernel_rfl) (by kernel_rfl) (fun _ _ _ h => h) (Or.inl ⟨by rfl, ?_⟩) hHeld ?_
              · intro ww hSw
                clear hSw
                go_simp
              simp only [Act.put, List.setIfInBounds_toArray, List.set_cons_zero, List.set_cons_succ]
              refine wpAnyH_take (i := 12) (oi := ⟨some 108, _, _, _, _, _⟩) (v := (.int .i64 r7.c)) rfl (by kernel_rfl) (by kernel_rfl) (by kernel_rfl) (fun _ _ _ h => h) (Or.inl ⟨by rfl, ?_⟩) hHeld ?_
              · intro ww hSw
                clear hSw
                go_simp
              simp only [Act.put, List.setIfInBounds_toArray, List.set_cons_zero, List.set_cons_succ]
              refine wpAnyH_ready (rs := [13]) (by kernel_rfl) (by simp) ?_
              refine AllReadyH.cons (o := ⟨some 109, _, _, _, _, _⟩) rfl (fun Kx hKx => ?_) AllReadyH.nil
              go_simp
              go_at_call 62
              refine (keep_c r7.n r7.d r7.c e6 e7 K _ K7.out HW.out.k).mono ?_
              rintro e_r v5 ⟨rfl, k_, b_⟩
              replace H13 := Lib.hid (H13.out.chg n_H13 b_)
              replace H14 := Lib.hid (H14.out.chg n_H14 b_)
              replace HW := Lib.hid (HW.out.keep HN.out k_ b_)
              replace HC := Lib.hid (HC.out.on b_)
              clear b_ k_ hHeld
              go_wp2_with fail
              refine hKx.out _ _ ?_ (fun hHeld => ?_)
              · (try dsimp only)
                exact HC.out
              clear hKx Kx
              (try simp only [Act.put, List.setIfInBounds_toArray, List.set_cons_zero, List.set_cons_succ])
              refine wpAnyH_ready (rs := [15]) (by kernel_rfl) (by simp) ?_
              refine AllReadyH.cons (o := ⟨none, _, _, _, _, _⟩) rfl (fun Kx hKx => ?_) AllReadyH.nil
              obtain ⟨c0, c1, f0, f1⟩ := H14.out.two
              have z0 := H14.out.size
              go_simp
              replace HC := Lib.hid (HC.out.set (p := ⟨g14, 0, none⟩) (.inl (by simp; omega)) (.int .i64 r7.n))
              replace HW := Lib.hid (HW.out.far HN.out (p := ⟨g14, 0, none⟩) (by simp; omega) (.int .i64 r7.n))
              replace H13 := Lib.hid (H13.out.far (p := ⟨g14, 0, none⟩) (by simp; omega) (.int .i64 r7.n))
              replace H14 := Lib.hid (H14.out.set 0 (.int .i64 r7.n))
              replace HC := Lib.hid (HC.out.set (p := ⟨g14, 1, none⟩) (.inl (by simp; omega)) (.int .i64 r7.d))
              replace HW := Lib.hid (HW.out.far HN.out (p := ⟨g14, 1, none⟩) (by simp; omega) (.int .i64 r7.d))
              replace H13 := Lib.hid (H13.out.far (p := ⟨g14, 1, none⟩) (by simp; omega) (.int .i64 r7.d))
              replace H14 := Lib.hid (H14.out.set 1 (.int .i64 r7.d))
              clear c0 c1 f0 f1 z0 hHeld
              refine hKx.out _ _ ?_ (fun hHeld => ?_)
              · (try dsimp only)
                exact HC.out
              clear hKx Kx
              (try simp only [Act.put, List.setIfInBounds_toArray, List.set_cons_zero, List.set_cons_succ])
              refine wpAnyH_done (by kernel_rfl) ?_ _
              refine NoPanic.normal ?_
              go_wp2_with fail
              go_meet
              exact ⟨g14, rfl, n_H14, by omega, HW, H14⟩
          · go_simp
            have H14 := Lib.hid (Has.new v1 24 #[.int .i64 0, .int .i64 0] rfl)
            have n_H14 : ¬ v1.heap.size = K := by have := HW.out.k.size; omega
            have l_H14 : wc.heap.size ≤ v1.heap.size := HC.out.size
            replace H13 := Lib.hid (H13.out.alloc (.cells #[.int .i64 0, .int .i64 0] 24))
            replace HW := Lib.hid (HW.out.alloc (.cells #[.int .i64 0, .int .i64 0] 24))
            replace HC := Lib.hid (HC.out.alloc (.cells #[.int .i64 0, .int .i64 0] 24))
            clear hHeld
            refine hKx.out _ _ ?_ (fun hHeld => ?_)
            · (try dsimp only)
              exact HC.out
            clear hKx Kx
            (try simp only [Act.put, List.setIfInBounds_toArray, List.set_cons_zero, List.set_cons_succ])
            generalize v1.alloc (.cells #[.int .i64 0, .int .i64 0] 24) = v2 at *
            generalize v1.heap.size = g14 at *
            refine wpAnyH_ready (rs := [9]) (by kernel_rfl) (by simp) ?_
            refine AllReadyH.cons (o := ⟨some 105, _, _, _, _, _⟩) rfl (fun Kx hKx => ?_) AllReadyH.nil
            go_simp
            go_at_call 62
            refine (keep_c an ad 0 e6 e6 K _ (fstC_zero e6) HW.out.k).mono ?_
            rintro e_r v3 ⟨rfl, k_, b_⟩
            replace H13 := Lib.hid (H13.out.chg n_H13 b_)
            replace H14 := Lib.hid (H14.out.chg n_H14 b_)
            replace HW := Lib.hid (HW.out.keep HN.out k_ b_)
            replace HC := Lib.hid (HC.out.on b_)
            clear b_ k_ hHeld
            go_wp2_with fail
            refine hKx.out _ _ ?_ (fun hHeld => ?_)
            · (try dsimp only)
              exact HC.out
            clear hKx Kx
            (try simp only [Act.put, List.setIfInBounds_toArray, List.set_cons_zero, List.set_cons_succ])
            refine wpAnyH_ready (rs := [10]) (by kernel_rfl) (by simp) ?_
            refine AllReadyH.cons (o := ⟨some 106, _, _, _, _, _⟩) rfl (fun Kx hKx => ?_) AllReadyH.nil
            go_simp
            go_at_call 26
            refine (qmul_x r6.n r6.d an ad r7 _ H7.out B3.out.2.2.2.2.2.1 B3.out.2.2.2.2.2.2 B2.out.2.2.2.2.2.1 B2.out.2.2.2.2.2.2).mono ?_
            rintro e_r v4 ⟨rfl, b_⟩
            replace H13 := Lib.hid (H13.out.below b_)
            replace H14 := Lib.hid (H14.out.below b_)
            replace HW := Lib.hid (HW.out.below b_)
            replace HC := Lib.hid (HC.out.onB b_)
            clear b_ hHeld
            go_wp2_with fail
            refine hKx.out _ _ ?_ (fun hHeld => ?_)
            · (try dsimp only)
              exact HC.out
            clear hKx Kx
            (try simp only [Act.put, List.setIfInBounds_toArray, List.set_cons_zero, List.set_cons_succ])
            refine wpAnyH_take (i := 11) (oi := ⟨some 107, _, _, _, _, _⟩) (v := (.agg #[.int .i64 r7.n, .int .i64 r7.d])) rfl (by kernel_rfl) (by kernel_rfl) (by kernel_rfl) (fun _ _ _ h => h) (Or.inl ⟨by rfl, ?_⟩) hHeld ?_
            · intro ww hSw
              clear hSw
              go_simp
            simp only [Act.put, List.setIfInBounds_toArray, List.set_cons_zero, List.set_cons_succ]
            refine wpAnyH_take (i := 12) (oi := ⟨some 108, _, _, _, _, _⟩) (v := (.int .i64 r7.c)) rfl (by kernel_rfl) (by kernel_rfl) (by kernel_rfl) (fun _ _ _ h => h) (Or.inl ⟨by rfl, ?_⟩) hHeld ?_
            · intro ww hSw
              clear hSw
              go_simp
            simp only [Act.put, List.setIfInBounds_toArray, List.set_cons_zero, List.set_cons_succ]
            refine wpAnyH_ready (rs := [13]) (by kernel_rfl) (by simp) ?_
            refine AllReadyH.cons (o := ⟨some 109, _, _, _, _, _⟩) rfl (fun Kx hKx => ?_) AllReadyH.nil
            go_simp
            go_at_call 62
            refine (keep_c r7.n r7.d r7.c e6 e7 K _ K7.out HW.out.k).mono ?_
            rintro e_r v5 ⟨rfl, k_, b_⟩
            replace H13 := Lib.hid (H13.out.chg n_H13 b_)
            replace H14 := Lib.hid (H14.out.chg n_H14 b_)
            replace HW := Lib.hid (HW.out.keep HN.out k_ b_)
            replace HC := Lib.hid (HC.out.on b_)
            clear b_ k_ hHeld
            go_wp2_with fail
            refine hKx.out _ _ ?_ (fun hHeld => ?_)
            · (try dsimp only)
              exact HC.out
            clear hKx Kx
            (try simp only [Act.put, List.setIfInBounds_toArray, List.set_cons_zero, List.set_cons_succ])
            refine wpAnyH_ready (rs := [15]) (by kernel_rfl) (by simp) ?_
            refine AllReadyH.cons (o := ⟨none, _, _, _, _, _⟩) rfl (fun Kx hKx => ?_) AllReadyH.nil
            obtain ⟨c0, c1, f0, f1⟩ := H14.out.two
            have z0 := H14.out.size
            go_simp
            replace HC := Lib.hid (HC.out.set (p := ⟨g14, 0, none⟩) (.inl (by simp; omega)) (.int .i64 r7.n))
            replace HW := Lib.hid (HW.out.far HN.out (p := ⟨g14, 0, none⟩) (by simp; omega) (.int .i64 r7.n))
            replace H13 := Lib.hid (H13.out.far (p := ⟨g14, 0, none⟩) (by simp; omega) (.int .i64 r7.n))
            replace H14 := Lib.hid (H14.out.set 0 (.int .i64 r7.n))
            replace HC := Lib.hid (HC.out.set (p := ⟨g14, 1, none⟩) (.inl (by simp; omega)) (.int .i64 r7.d))
            replace HW := Lib.hid (HW.out.far HN.out (p := ⟨g14, 1, none⟩) (by simp; omega) (.int .i64 r7.d))
            replace H13 := Lib.hid (H13.out.far (p := ⟨g14, 1, none⟩) (by simp; omega) (.int .i64 r7.d))
            replace H14 := Lib.hid (H14.out.set 1 (.int .i64 r7.d))
            clear c0 c1 f0 f1 z0 hHeld
            refine hKx.out _ _ ?_ (fun hHeld => ?_)
            · (try dsimp only)
              exact HC.out
            clear hKx Kx
            (try simp only [Act.put, List.setIfInBounds_toArray, List.set_cons_zero, List.set_cons_succ])
            refine wpAnyH_done (by kernel_rfl) ?_ _
            refine NoPanic.normal ?_
            go_wp2_with fail
            go_meet
            exact ⟨g14, rfl, n_H14, by omega, HW, H14⟩
        · go_simp
          have H14 := Lib.hid (Has.new v0 24 #[.int .i64 0, .int .i64 0] rfl)
          have n_H14 : ¬ v0.heap.size = K := by have := HW.out.k.size; omega
          have l_H14 : wc.heap.size ≤ v0.heap.size := HC.out.size
          replace H13 := Lib.hid (H13.out.alloc (.cells #[.int .i64 0, .int .i64 0] 24))
          replace HW := Lib.hid (HW.out.alloc (.cells #[.int .i64 0, .int .i64 0] 24))
          replace HC := Lib.hid (HC.out.alloc (.cells #[.int .i64 0, .int .i64 0] 24))
          clear hHeld
          refine hKx.out _ _ ?_ (fun hHeld => ?_)
          · (try dsimp only)
            exact HC.out
          clear hKx Kx
          (try simp only [Act.put, List.setIfInBounds_toArray, List.set_cons_zero, List.set_cons_succ])
          generalize v0.alloc (.cells #[.int .i64 0, .int .i64 0] 24) = v1 at *
          generalize v0.heap.size = g14 at *
          refine wpAnyH_ready (rs := [6]) (by kernel_rfl) (by simp) ?_
          refine AllReadyH.cons (o := ⟨some 102, _, _, _, _, _⟩) rfl (fun Kx hKx => ?_) AllReadyH.nil
          go_simp
          go_at_call 21
          refine (qmake_x (100 + al) 100 an ad _ M3.out (by omega) (by omega)).mono ?_
          rintro e_r v2 ⟨rfl, b_⟩
          replace H13 := Lib.hid (H13.out.below b_)
          replace H14 := Lib.hid (H14.out.below b_)
          replace HW := Lib.hid (HW.out.below b_)
          replace HC := Lib.hid (HC.out.onB b_)
          clear b_ hHeld
          go_wp2_with fail
          refine hKx.out _ _ ?_ (fun hHeld => ?_)
          · (try dsimp only)
            exact HC.out
          clear hKx Kx
          (try simp only [Act.put, List.setIfInBounds_toArray, List.set_cons_zero, List.set_cons_succ])
          refine wpAnyH_take (i := 7) (oi := ⟨some 103, _, _, _, _, _⟩) (v := (.agg #[.int .i64 an, .int .i64 ad])) rfl (by kernel_rfl) (by kernel_rfl) (by kernel_rfl) (fun _ _ _ h => h) (Or.inl ⟨by rfl, ?_⟩) hHeld ?_
          · intro ww hSw
            clear hSw
            go_simp
          simp only [Act.put, List.setIfInBounds_toArray, List.set_cons_zero, List.set_cons_succ]
          refine wpAnyH_take (i := 8) (oi := ⟨some 104, _, _, _, _, _⟩) (v := (.int .i64 0)) rfl (by kernel_rfl) (by kernel_rfl) (by kernel_rfl) (fun _ _ _ h => h) (Or.inl ⟨by rfl, ?_⟩) hHeld ?_
          · intro ww hSw
            clear hSw
            go_simp
          simp only [Act.put, List.setIfInBounds_toArray, List.set_cons_zero, List.set_cons_succ]
          refine wpAnyH_ready (rs := [9]) (by kernel_rfl) (by simp) ?_
          refine AllReadyH.cons (o := ⟨some 105, _, _, _, _, _⟩) rfl (fun Kx hKx => ?_) AllReadyH.nil
          go_simp
          go_at_call 62
          refine (keep_c an ad 0 e6 e6 K _ (fstC_zero e6) HW.out.k).mono ?_
          rintro e_r v3 ⟨rfl, k_, b_⟩
          replace H13 := Lib.hid (H13.out.chg n_H13 b_)
          replace H14 := Lib.hid (H14.out.chg n_H14 b_)
          replace HW := Lib.hid (HW.out.keep HN.out k_ b_)
          replace HC := Lib.hid (HC.out.on b_)
          clear b_ k_ hHeld
          go_wp2_with fail
          refine hKx.out _ _ ?_ (fun hHeld => ?_)
          · (try dsimp only)
            exact HC.out
          clear hKx Kx
          (try simp only [Act.put, List.setIfInBounds_toArray, List.set_cons_zero, List.set_cons_succ])
          refine wpAnyH_ready (rs := [10]) (by kernel_rfl) (by simp) ?_
          refine AllReadyH.cons (o := ⟨some 106, _, _, _, _, _⟩) rfl (fun Kx hKx => ?_) AllReadyH.nil
          go_simp
          go_at_call 26
          refine (qmul_x r6.n r6.d an ad r7 _ H7.out B3.out.2.2.2.2.2.1 B3.out.2.2.2.2.2.2 B2.out.2.2.2.2.2.1 B2.out.2.2.2.2.2.2).mono ?_
          rintro e_r v4 ⟨rfl, b_⟩
          replace H13 := Lib.hid (H13.out.below b_)
          replace H14 := Lib.hid (H14.out.below b_)
          replace HW := Lib.hid (HW.out.below b_)
          replace HC := Lib.hid (HC.out.onB b_)
          clear b_ hHeld
          go_wp2_with fail
          refine hKx.out _ _ ?_ (fun hHeld => ?_)
          · (try dsimp only)
            exact HC.out
          clear hKx Kx
          (try simp only [Act.put, List.setIfInBounds_toArray, List.set_cons_zero, List.set_cons_succ])
          refine wpAnyH_take (i := 11) (oi := ⟨some 107, _, _, _, _, _⟩) (v := (.agg #[.int .i64 r7.n, .int .i64 r7.d])) rfl (by kernel_rfl) (by kernel_rfl) (by kernel_rfl) (fun _ _ _ h => h) (Or.inl ⟨by rfl, ?_⟩) hHeld ?_
          · intro ww hSw
            clear hSw
            go_simp
          simp only [Act.put, List.setIfInBounds_toArray, List.set_cons_zero, List.set_cons_succ]
          refine wpAnyH_take (i := 12) (oi := ⟨some 108, _, _, _, _, _⟩) (v := (.int .i64 r7.c)) rfl (by kernel_rfl) (by kernel_rfl) (by kernel_rfl) (fun _ _ _ h => h) (Or.inl ⟨by rfl, ?_⟩) hHeld ?_
          · intro ww hSw
            clear hSw
            go_simp
          simp only [Act.put, List.setIfInBounds_toArray, List.set_cons_zero, List.set_cons_succ]
          refine wpAnyH_ready (rs := [13]) (by kernel_rfl) (by simp) ?_
          refine AllReadyH.cons (o := ⟨some 109, _, _, _, _, _⟩) rfl (fun Kx hKx => ?_) AllReadyH.nil
          go_simp
          go_at_call 62
          refine (keep_c r7.n r7.d r7.c e6 e7 K _ K7.out HW.out.k).mono ?_
          rintro e_r v5 ⟨rfl, k_, b_⟩
          replace H13 := Lib.hid (H13.out.chg n_H13 b_)
          replace H14 := Lib.hid (H14.out.chg n_H14 b_)
          replace HW := Lib.hid (HW.out.keep HN.out k_ b_)
          replace HC := Lib.hid (HC.out.on b_)
          clear b_ k_ hHeld
          go_wp2_with fail
          refine hKx.out _ _ ?_ (fun hHeld => ?_)
          · (try dsimp only)
            exact HC.out
          clear hKx Kx
          (try simp only [Act.put, List.setIfInBounds_toArray, List.set_cons_zero, List.set_cons_succ])
          refine wpAnyH_ready (rs := [15]) (by kernel_rfl) (by simp) ?_
          refine AllReadyH.cons (o := ⟨none, _, _, _, _, _⟩) rfl (fun Kx hKx => ?_) AllReadyH.nil
          obtain ⟨c0, c1, f0, f1⟩ := H14.out.two
          have z0 := H14.out.size
          go_simp
          replace HC := Lib.hid (HC.out.set (p := ⟨g14, 0, none⟩) (.inl (by simp; omega)) (.int .i64 r7.n))
          replace HW := Lib.hid (HW.out.far HN.out (p := ⟨g14, 0, none⟩) (by simp; omega) (.int .i64 r7.n))
          replace H13 := Lib.hid (H13.out.far (p := ⟨g14, 0, none⟩) (by simp; omega) (.int .i64 r7.n))
          replace H14 := Lib.hid (H14.out.set 0 (.int .i64 r7.n))
          replace HC := Lib.hid (HC.out.set (p := ⟨g14, 1, none⟩) (.inl (by simp; omega)) (.int .i64 r7.d))
          replace HW := Lib.hid (HW.out.far HN.out (p := ⟨g14, 1, none⟩) (by simp; omega) (.int .i64 r7.d))
          replace H13 := Lib.hid (H13.out.far (p := ⟨g14, 1, none⟩) (by simp; omega) (.int .i64 r7.d))
          replace H14 := Lib.hid (H14.out.set 1 (.int .i64 r7.d))
          clear c0 c1 f0 f1 z0 hHeld
          refine hKx.out _ _ ?_ (fun hHeld => ?_)
          · (try dsimp only)
            exact HC.out
          clear hKx Kx
          (try simp only [Act.put, List.setIfInBounds_toArray, List.set_cons_zero, List.set_cons_succ])
          refine wpAnyH_done (by kernel_rfl) ?_ _
          refine NoPanic.normal ?_
          go_wp2_with fail
          go_meet
          exact ⟨g14, rfl, n_H14, by omega, HW, H14⟩
    case rest =>
    clear H13
    clear HW
    obtain ⟨g14, rfl, n_H14, l14, HW, H14⟩ := hcut
    go_upto_region 14 with fail
    have n_14 : ¬ g14 = w.heap.size + 1 + 1 := by have := HN.out.lim; omega
    refine wp_region_noPanic ?_
    refine wp_region_held_drew (S := fun w' => Chg (fun b => b = w.heap.size + 1 + 1) wc w') (by kernel_rfl) (Chg.of_below (below_drew (Below.refl _ _))) (fun hHeld => ?_)
    have HC : Hid (Chg (fun b => b = w.heap.size + 1 + 1) wc wc.drew) := Lib.hid hHeld
    have HR := Lib.hid HW.out.r.drew
    refine wpAnyH_take (i := 0) (oi := ⟨some 110, _, _, _, _, _⟩) (v := (.agg #[.int .i64 r7.n, .int .i64 r7.d])) rfl (by kernel_rfl) (by kernel_rfl) (by kernel_rfl) (fun _ _ _ h => h) (Or.inl ⟨by rfl, ?_⟩) hHeld ?_
    · intro ww hSw
      (try dsimp only at hSw)
      obtain ⟨c0, c1, -, -⟩ := (H14.out.chg n_14 hSw).two
      have z0 := cell_lt c0
      go_simp
    simp only [Act.put, List.setIfInBounds_toArray, List.set_cons_zero, List.set_cons_succ]
    refine wpAnyH_take (i := 1) (oi := ⟨some 111, _, _, _, _, _⟩) (v := (.int .i64 e7)) rfl (by kernel_rfl) (by kernel_rfl) (by kernel_rfl) (fun _ _ _ h => h) (Or.inl ⟨by rfl, ?_⟩) hHeld ?_
    · intro ww hSw
      (try dsimp only at hSw)
      have c0 := (HW.out.k.chg HN.out.two.2.2.1 hSw).cell 0 rfl
      have z0 := cell_lt c0
      go_simp
    simp only [Act.put, List.setIfInBounds_toArray, List.set_cons_zero, List.set_cons_succ]
    refine wpAnyH_ready (rs := [2]) (by kernel_rfl) (by simp) ?_
    refine AllReadyH.cons (o := ⟨none, _, _, _, _, _⟩) rfl (fun Kx hKx => ?_) AllReadyH.nil
    obtain ⟨c0, c1, f0, f1⟩ := HR.out.two
    have z0 := HR.out.size
    generalize wc.drew = v0 at *
    go_simp
    replace HC := Lib.hid (HC.out.set (p := ⟨w.heap.size + 1 + 1, 0, none⟩) (.inr rfl) (.int .i64 r7.n))
    replace HR := Lib.hid (HR.out.set 0 (.int .i64 r7.n))
    replace HC := Lib.hid (HC.out.set (p := ⟨w.heap.size + 1 + 1, 1, none⟩) (.inr rfl) (.int .i64 r7.d))
    replace HR := Lib.hid (HR.out.set 1 (.int .i64 r7.d))
    clear c0 c1 f0 f1 z0 hHeld
    refine hKx.out _ _ ?_ (fun hHeld => ?_)
    · (try dsimp only)
      exact HC.out
    clear hKx Kx
    (try simp only [Act.put, List.setIfInBounds_toArray, List.set_cons_zero, List.set_cons_succ])
    refine wpAnyH_take (i := 3) (oi := ⟨some 5, _, _, _, _, _⟩) (v := (.int .i64 e7)) rfl (by kernel_rfl) (by kernel_rfl) (by kernel_rfl) (fun _ _ _ h => h) (Or.inl ⟨by rfl, ?_⟩) hHeld ?_
    · intro ww hSw
      clear hSw
      go_simp
    simp only [Act.put, List.setIfInBounds_toArray, List.set_cons_zero, List.set_cons_succ]
    refine wpAnyH_done (by kernel_rfl) ?_ _
    refine NoPanic.normal ?_
    go_wp2
    obtain ⟨c0, c1, f0, f1⟩ := (show Has _ (w.heap.size + 1 + 1) #[.int .i64 r7.n, .int .i64 r7.d] from HR.out).two
    refine bodyPost_ret (v := .tuple #[.agg #[.int .i64 r7.n, .int .i64 r7.d], .int .i64 e7]) (by simp [results, Tryz.results24, go_sem, c0, c1]) rfl ⟨rfl, ?_⟩
    exact HW.out.bel.trans (HC.out.below HW.out.bel.size (fun i hi => by have := HN.out.base; omega))
/-- goal.Of: how long a task is to take. -/
theorem gof_any {w : World} {s : SetP} {cs : Array Value} (h : SetC w s cs) (hf : s.Fit) (e : EvP) (hi : e.In) (X : Rat2) (hX : goalE s e = X) :
    Calls Tryz.prog 24 #[.agg cs, .agg (evC e)] w fun x w' => x = .returned (.tuple #[.agg #[.int .i64 X.n, .int .i64 X.d], .int .i64 X.c]) ∧ Below w.heap.size w w' := by
  subst hX
  by_cases ht : TaskP s e
  · rw [goalE_yes ht]
    have hch := goal_chain (D := farV s e.fr e.to) (pn := s.pn) (pd := s.pd) (gn := rowN s.gears e.ge.toNat 0) (gd := rowN s.gears e.ge.toNat 1) (U := e.un) (fn := rowN s.elements e.el.toNat 0) (fd := rowN s.elements e.el.toNat 1) (un := rowN s.elements e.el.toNat 2) (ud := rowN s.elements e.el.toNat 3)
      (cn := rowN s.classes e.cl.toNat 0) (cd := rowN s.classes e.cl.toNat 1) (al := s.allow) rfl rfl rfl rfl rfl rfl rfl
    have := gof_main h hf e hi ht.1 ht.2.1 ht.2.2.1 _ rfl ht.2.2.2 _ _ _ _ _ _ _ _ _ _ _ _ _ _ _ ⟨rfl, rfl, rfl, rfl, rfl, rfl, rfl⟩ rfl rfl rfl rfl rfl rfl rfl rfl
    refine this.mono ?_
    rintro x w' ⟨rfl, hb⟩
    refine ⟨?_, hb⟩
    unfold goalC
    rw [hch]
  · rw [goalE_no ht]
    by_cases h1 : checkB s = true
    · by_cases h2 : EvIn s e
      · by_cases h3 : e.kd = 3
        · by_cases h4 : farV s e.fr e.to = -1
          · exact gof_far h hf e hi h1 h2 h3 h4
          · exact absurd ⟨h1, h2, h3, h4⟩ ht
        · exact gof_kind h hf e hi h1 h2 h3
      · exact gof_ev h hf e hi h1 h2
    · exact gof_set h hf e hi (by simpa using h1)
end Go.Proofs.YtpgncbhahocmbaaGreat
