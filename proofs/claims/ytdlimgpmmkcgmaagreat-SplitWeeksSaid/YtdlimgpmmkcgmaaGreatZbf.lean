/-
  Package over: which seconds of a week are regular, overtime, and double.
-/
import Derived.Test.YtdlimgpmmkcgmaaGreatZbe
import Derived.Test.YtdlimgpmmkcgmaaGreatZbc
import Derived.Test.YtdlimgpmmkcgmaaGreatZap
import Derived.Shelf.RegionOpen
namespace Go.Proofs.YtdlimgpmmkcgmaaGreat
open Go.RowKit
set_option linter.unusedVariables false
set_option linter.unusedSimpArgs false
set_option maxRecDepth 20000
attribute [local go_sem] Oper.semAt_some

theorem wpListIn_load_sp {F : Fence} {n : Nat} {ops : Array Oper} {rest : List Oper} {o : Oper} {a : Act} {w : World} {Q : Exit → Act → World → Prop} (hgd : o.guard = none) (x : Operand) (ho : o.op = .load 30 x)
    (g : Nat) (hx : a.eval x = .pointer (some ⟨g, 0, none⟩)) (cs : Array Value) (hg : Has w g cs) (hs : cs.size = 23)
    (h : wpListIn F n Tryz.prog ops Q rest (a.put o.dst (.agg cs)) w) : wpListIn F n Tryz.prog ops Q (o :: rest) a w := by
  refine wpListIn_plain hgd fun K hK => ⟨?_, ?_⟩
  · simp [Oper.about, ho]
  · rw [Oper.semAt_plain F _ _ (by rw [ho]; intro c hc; cases hc), exec_load_sp x ho hx hg hs]
    exact hK _ _ h
/-- In a fenced walk: an append whose run is known. -/
theorem owpListIn_append_run {F : Fence} {n : Nat} {P : Program} {ops : Array Oper} {rest : List Oper} {o : Oper} {a : Act} {w w' : World} {Q : Exit → Act → World → Prop} {s x : Operand} {t : TypeId} {v u v' : Value}
    (hr : (Builtin.append_ #[t, t] o.type #[v, u]).run P w = .ok v' w') (hgd : o.guard = none)
    (ho : o.op = .call { callee := .builtin .append, args := #[s, x], argTypes := #[t, t] }) (hs : a.eval s = v) (hx : a.eval x = u)
    (h : wpListIn F n P ops Q rest (a.put o.dst v') w') : wpListIn F n P ops Q (o :: rest) a w := by
  refine wpListIn_plain hgd fun K hK => ⟨?_, ?_⟩
  · simp [Oper.about, ho, resolve, Target.leads, Sem.run_pure]
  · rw [Oper.semAt_plain F _ _ (by rw [ho]; intro c hc; cases hc)]
    simp [execOp, ho, resolve, invoke, builtin, hs, hx, hr, Result.andThen]
    exact hK _ _ h
theorem owpIn_append_run {F : Fence} {n : Nat} {P : Program} {o : Oper} {a : Act} {w w' : World} {K : Act → World → Prop} {Q : Exit → Act → World → Prop} {s x : Operand} {t : TypeId} {v u v' : Value}
    (hr : (Builtin.append_ #[t, t] o.type #[v, u]).run P w = .ok v' w')
    (ho : o.op = .call { callee := .builtin .append, args := #[s, x], argTypes := #[t, t] }) (hs : a.eval s = v) (hx : a.eval x = u)
    (h : K (a.put o.dst v') w') : o.wpIn F n P a w K Q := by
  refine ⟨?_, ?_⟩
  · simp [Oper.about, ho, resolve, Target.leads, Sem.run_pure]
  · rw [Oper.semAt_plain F _ _ (by rw [ho]; intro c hc; cases hc)]
    simp [execOp, ho, resolve, invoke, builtin, hs, hx, hr, Result.andThen]
    exact h

set_option maxHeartbeats 16000000 in
theorem over_c {w : World} {s : SetP} {cs : Array Value} (h : SetC w s cs) (hf : s.Fit) (b : Bool) (hb : checkB s = b) (A : Option Addr) (cap : Nat) (xs : List (Int × Int)) (hx : Spans w A xs) (hl : xs.length ≤ 100000000) (k : Int) :
    Calls Tryz.prog 23 #[.agg cs, .slice A xs.length cap, .int .i64 k] w (Gives3 w (regL b s (In xs) k) (ovrL b s (In xs) k) (dblL b s (In xs) k)) := by
  have HZ := Lib.hid h.size
  obtain ⟨q13, q14, q15⟩ := setC_over h
  obtain ⟨w1, hw1⟩ : ∃ w1, ((w.alloc (.cells cs 30)).alloc (.cells #[.slice none 0 0] 40)).alloc (.cells #[.slice none 0 0] 40) = w1 := ⟨_, rfl⟩
  have hb1 : Below w.heap.size w w1 := by rw [← hw1]; exact bel_alloc (bel_alloc (bel_alloc (Below.refl _ _) _) _) _
  have HB1 : Hid (Has w1 w.heap.size cs) := by show Has _ _ _; rw [← hw1]; exact ((Has.new _ _ _ rfl).alloc _).alloc _
  have H71 : Has w1 (w.heap.size + 1) #[.slice none 0 0] := by rw [← hw1]; exact (Has.new _ _ _ (by simp)).alloc _
  have H81 : Has w1 (w.heap.size + 2) #[.slice none 0 0] := by rw [← hw1]; exact Has.new _ _ _ (by simp)
  have hz1 : w1.heap.size = w.heap.size + 3 := by rw [← hw1]; simp
  obtain ⟨g7, hg7⟩ : ∃ g, w.heap.size + 1 = g := ⟨_, rfl⟩
  rw [show w.heap.size + 2 = g7 + 1 by omega] at H81
  obtain ⟨g8, hg8⟩ : ∃ g, g7 + 1 = g := ⟨_, rfl⟩
  rw [hg7] at H71
  rw [hg8] at H81
  have HG7 : Hid (w.heap.size < g7 ∧ g7 < g8 ∧ g8 < w1.heap.size) := by show _ ∧ _; omega
  have HS1 := Lib.hid (h.below hb1)
  have HX1 := Lib.hid (hx.below hb1)
  have HCK := Lib.hid (scheck_c HS1.out hf b hb)
  have H71 := Lib.hid H71
  have H81 := Lib.hid H81
  have HW1 := Lib.hid hb1
  clear h hx hb1 hz1
  cases b with
  | false =>
    rw [show regL false s (In xs) k = [] from rfl, show ovrL false s (In xs) k = [] from rfl, show dblL false s (In xs) k = [] from rfl]
    clear hb
    go_enter Tryz.func23, Tryz.ntmps23
    go_wp2_with (refine wpList_load_sp (by rfl) _ rfl w.heap.size rfl cs HB1.out HZ.out ?_)
    refine HCK.out.mono ?_
    rintro e w2 ⟨rfl, b2⟩
    have H72 := H71.out.below b2
    have H82 := H81.out.below b2
    have HW2 := Lib.hid (bel_on HW1.out b2)
    have hgl := HG7.out
    have c7 := H72.cell 0 rfl
    have p7 := H72.frozen 0
    have c8 := H82.cell 0 rfl
    have p8 := H82.frozen 0
    have hne : g7 ≠ g8 := by omega
    clear b2 hg7 hg8 hw1
    go_wp2_with fail
    have z7 : ((w2.setCell ⟨g7, 0, none⟩ (.slice none 0 0)).setCell ⟨g8, 0, none⟩ (.slice none 0 0)).cell? ⟨g7, 0, none⟩ = some (.slice none 0 0) := ((H72.set 0 _).far (p := ⟨g8, 0, none⟩) (by simpa using hne) _).cell 0 rfl
    have z8 : ((w2.setCell ⟨g7, 0, none⟩ (.slice none 0 0)).setCell ⟨g8, 0, none⟩ (.slice none 0 0)).cell? ⟨g8, 0, none⟩ = some (.slice none 0 0) := ((H82.far (p := ⟨g7, 0, none⟩) (by simpa using hne.symm) _).set 0 _).cell 0 rfl
    refine bodyPost_ret (v := .tuple #[.slice none 0 0, .slice none 0 0, .slice none 0 0]) (by simp [results, Tryz.results23, go_sem, z7, z8]) rfl ?_
    exact ⟨none, 0, none, 0, none, 0, rfl, Row.nil _ _, Row.nil _ _, Row.nil _ _, bel_set (p := ⟨g8, 0, none⟩) (bel_set (p := ⟨g7, 0, none⟩) HW2.out (by simp only []; omega) _) (by simp only []; omega) _⟩
  | true =>
    have hm := check_iff.1 hb
    have HWK := Lib.hid (fun W (hW : Spans W A xs) => ofweek_any A cap xs k W hW hl)
    have lW : (ofWeekP (In xs) k).length ≤ 32054401 := canon_len _
    have FW : Hid (Fits (ofWeekP (In xs) k)) := Fits.canon _
    have hN := daysP_len (In (ofWeekP (In xs) k))
    obtain ⟨rg0, rg1⟩ : 0 ≤ s.reg ∧ s.reg ≤ 86400 := by have := hm.reg; have := hm.over; omega
    obtain ⟨ov0, ov1⟩ : 0 ≤ s.over ∧ s.over ≤ 86400 := by have := hm.reg; have := hm.over; omega
    have hv := hm.week
    have G1 := Lib.hid (ref_reg (s := s) (p := In xs) (k := k) fun t h0 h1 => brief_wk (s := s) h0 h1)
    have G2 := Lib.hid (fun t h0 h1 => ref_rest (s := s) (p := In xs) (k := k) (fun t h0 h1 => brief_wk (s := s) h0 h1) (t := t) h0 h1)
    have G3 := Lib.hid (ovr_two (s := s) (p := In xs) (k := k) (fun t h0 h1 => mid_wk (s := s) h0 h1) G2.out)
    have G4 := Lib.hid (ref_dbl (s := s) (p := In xs) (k := k) fun t h0 h1 => lst_wk (s := s) h0 h1)
    have HC1 := Lib.hid (fun j W b m c B (hg : Has W b #[.slice B m c]) (hm : (dayAt (ofWeekP (In xs) k) j).length = m) (hx : Spans W B (dayAt (ofWeekP (In xs) k) j)) (hl : m ≤ 100000000) => (show Calls _ _ _ W (Gives W (fstD (In (ofWeekP (In xs) k)) s.reg ((daysP (In (ofWeekP (In xs) k))).getD j 0))) from ofirst_c b B m c _ s.reg W hg hm hx hl ⟨by omega, by omega⟩))
    have HC2 := Lib.hid (fun j W b m c B (hg : Has W b #[.slice B m c]) (hm : (dayAt (ofWeekP (In xs) k) j).length = m) (hx : Spans W B (dayAt (ofWeekP (In xs) k) j)) (hl : m ≤ 100000000) => (show Calls _ _ _ W (Gives W (fstD (In (ofWeekP (In xs) k)) s.over ((daysP (In (ofWeekP (In xs) k))).getD j 0))) from ofirst_c b B m c _ s.over W hg hm hx hl ⟨by omega, by omega⟩))
    have HM1 := Lib.hid (fun j W D d E e (hD : Spans W D (fstD (In (ofWeekP (In xs) k)) s.over ((daysP (In (ofWeekP (In xs) k))).getD j 0))) (hE : Spans W E (fstD (In (ofWeekP (In xs) k)) s.reg ((daysP (In (ofWeekP (In xs) k))).getD j 0))) => (show Calls _ _ _ W (Gives W (midD (In (ofWeekP (In xs) k)) s.reg s.over ((daysP (In (ofWeekP (In xs) k))).getD j 0))) from minus_any D E d e (fstD (In (ofWeekP (In xs) k)) s.over ((daysP (In (ofWeekP (In xs) k))).getD j 0)) (fstD (In (ofWeekP (In xs) k)) s.reg ((daysP (In (ofWeekP (In xs) k))).getD j 0)) W hD hE (Nat.le_trans (fstD_len _ _) (by decide)) (Nat.le_trans (fstD_len _ _) (by decide))))
    have HM2 := Lib.hid (fun j W D d E e (hD : Spans W D (dayAt (ofWeekP (In xs) k) j)) (hE : Spans W E (fstD (In (ofWeekP (In xs) k)) s.over ((daysP (In (ofWeekP (In xs) k))).getD j 0))) => (show Calls _ _ _ W (Gives W (lstD (In (ofWeekP (In xs) k)) s.over ((daysP (In (ofWeekP (In xs) k))).getD j 0))) from minus_any D E d e (dayAt (ofWeekP (In xs) k) j) (fstD (In (ofWeekP (In xs) k)) s.over ((daysP (In (ofWeekP (In xs) k))).getD j 0)) W hD hE (Nat.le_trans (day_len (d := (daysP (In (ofWeekP (In xs) k))).getD j 0) fun t z => z.2) (by decide)) (Nat.le_trans (fstD_len _ _) (by decide))))
    have LDY : Hid (∀ j, (dayAt (ofWeekP (In xs) k) j).length ≤ 86401) := fun j => day_len (d := (daysP (In (ofWeekP (In xs) k))).getD j 0) fun t z => z.2
    have FC1 : Hid (∀ d, Fits (fstD (In (ofWeekP (In xs) k)) s.reg d)) := fun d => Fits.canon _
    have FC2 : Hid (∀ d, Fits (fstD (In (ofWeekP (In xs) k)) s.over d)) := fun d => Fits.canon _
    have HPS := Lib.hid (fun j hj => listK_snoc (f := fstD (In (ofWeekP (In xs) k)) s.reg) (D := daysP (In (ofWeekP (In xs) k))) j hj)
    have HQS := Lib.hid (fun j hj => listK_snoc (f := midD (In (ofWeekP (In xs) k)) s.reg s.over) (D := daysP (In (ofWeekP (In xs) k))) j hj)
    have HRS := Lib.hid (fun j hj => listK_snoc (f := lstD (In (ofWeekP (In xs) k)) s.over) (D := daysP (In (ofWeekP (In xs) k))) j hj)
    have HPL := Lib.hid (fun j hj => listK_bd (f := fstD (In (ofWeekP (In xs) k)) s.reg) (D := daysP (In (ofWeekP (In xs) k))) (fun d => fstD_len _ d) j hj hN)
    have HQL := Lib.hid (fun j hj => listK_bd (f := midD (In (ofWeekP (In xs) k)) s.reg s.over) (D := daysP (In (ofWeekP (In xs) k))) (fun d => midD_len _ _ d) j hj hN)
    have HRL := Lib.hid (fun j hj => listK_bd (f := lstD (In (ofWeekP (In xs) k)) s.over) (D := daysP (In (ofWeekP (In xs) k))) (fun d => lstD_len _ d) j hj hN)
    have FP : Hid (∀ j, Fits (listK (fstD (In (ofWeekP (In xs) k)) s.reg) (daysP (In (ofWeekP (In xs) k))) j)) := listK_fits fun d => Fits.canon _
    have FQ : Hid (∀ j, Fits (listK (midD (In (ofWeekP (In xs) k)) s.reg s.over) (daysP (In (ofWeekP (In xs) k))) j)) := listK_fits fun d => Fits.canon _
    have FR : Hid (∀ j, Fits (listK (lstD (In (ofWeekP (In xs) k)) s.over) (daysP (In (ofWeekP (In xs) k))) j)) := listK_fits fun d => Fits.canon _
    have HP0 : Hid (listK (fstD (In (ofWeekP (In xs) k)) s.reg) (daysP (In (ofWeekP (In xs) k))) 0 = []) := listK_zero
    have HQ0 : Hid (listK (midD (In (ofWeekP (In xs) k)) s.reg s.over) (daysP (In (ofWeekP (In xs) k))) 0 = []) := listK_zero
    have HR0 : Hid (listK (lstD (In (ofWeekP (In xs) k)) s.over) (daysP (In (ofWeekP (In xs) k))) 0 = []) := listK_zero
    have HSEQ := Lib.hid (fun W Bn A3 c3 G0 (h1 : Bn < W.heap.size) (h2 : G0 Bn) (h3 : Has W Bn #[.slice A3 (ofWeekP (In xs) k).length c3]) (h4 : Spans W A3 (ofWeekP (In xs) k)) (h5 : ∀ a, A3 = some a → G0 a.block) (h6 : ∀ b, G0 b → b < W.heap.size) => odays_seq Bn c3 A3 (ofWeekP (In xs) k) G0 W h1 h2 h3 h4 h5 h6 (Nat.le_trans lW (by decide)))
    generalize dayAt (ofWeekP (In xs) k) = Lf at *
    generalize hY1 : listK (fstD (In (ofWeekP (In xs) k)) s.reg) (daysP (In (ofWeekP (In xs) k))) = Y1 at *
    generalize hY2 : listK (midD (In (ofWeekP (In xs) k)) s.reg s.over) (daysP (In (ofWeekP (In xs) k))) = Y2 at *
    generalize hY3 : listK (lstD (In (ofWeekP (In xs) k)) s.over) (daysP (In (ofWeekP (In xs) k))) = Y3 at *
    generalize fstD (In (ofWeekP (In xs) k)) s.reg = f1 at *
    generalize fstD (In (ofWeekP (In xs) k)) s.over = f2 at *
    generalize midD (In (ofWeekP (In xs) k)) s.reg s.over = f3 at *
    generalize lstD (In (ofWeekP (In xs) k)) s.over = f4 at *
    generalize daysP (In (ofWeekP (In xs) k)) = Dl at *
    obtain ⟨N, hDN⟩ : ∃ N, Dl.length = N := ⟨_, rfl⟩
    rw [hDN] at hN HPS HQS HRS HPL HQL HRL G1 G3 G4 HSEQ
    have FLR : Hid (Fits (regL true s (In xs) k)) := .of_plain (reg_plain true s (In xs) k)
    have lLR := pl_len (reg_plain true s (In xs) k)
    have lRS : (canon fun t => In (Y1 N) t ∧ ¬ In (regL true s (In xs) k) t).length ≤ 32054401 := canon_len _
    have FRS : Hid (Fits (canon fun t => In (Y1 N) t ∧ ¬ In (regL true s (In xs) k) t)) := Fits.canon _
    have HFI := Lib.hid (fun W P p (hW : Spans W P (Y1 N)) hl2 => G1.out ▸ first_any P p (Y1 N) s.week W hW hl2 ⟨by omega, by omega⟩)
    have HMI := Lib.hid (fun W P p R r (hW : Spans W P (Y1 N)) (hR : Spans W R (regL true s (In xs) k)) hl2 => minus_any P R p r (Y1 N) (regL true s (In xs) k) W hW hR hl2 (by omega))
    have HNO : Hid (∀ W U u, Spans W U (Y2 N ++ (canon fun t => In (Y1 N) t ∧ ¬ In (regL true s (In xs) k) t)) → (Y2 N ++ (canon fun t => In (Y1 N) t ∧ ¬ In (regL true s (In xs) k) t)).length ≤ 100000000 → Calls Tryz.prog 17 #[.slice U ((Y2 N).length + (canon fun t => In (Y1 N) t ∧ ¬ In (regL true s (In xs) k) t).length) u] W (Gives W (ovrL true s (In xs) k))) := fun W U u hW hl2 => by
      have := norm_any U u _ W hW hl2
      rw [G3.out, List.length_append] at this
      exact this
    have HND := Lib.hid (fun W U u (hW : Spans W U (Y3 N)) hl2 => G4.out ▸ norm_any U u (Y3 N) W hW hl2)
    generalize (canon fun t => In (Y1 N) t ∧ ¬ In (regL true s (In xs) k) t) = RSq at *
    generalize regL true s (In xs) k = LR at *
    generalize ovrL true s (In xs) k = LO at *
    generalize dblL true s (In xs) k = LD at *
    generalize ofWeekP (In xs) k = XW at *
    generalize s.week = wk at *
    generalize s.reg = rg at *
    generalize s.over = ov at *
    clear hY1 hY2 hY3 hDN G1 G2 G3 G4 hm hb hf
    have mixed : Tryz.prog.follows Departure.mixedOrders = true := by kernel_rfl
    have eg : ∀ args w, (callFunc 104 args).run Tryz.prog w = .ok (.enter 104 args) w := enters_of Tryz.func104 (by kernel_rfl) rfl
    refine (callsIn_wide (n := 0)).1 (callsIn_of_wp_marks Tryz.func23 rfl trivial ?_ rfl)
    simp only [Tryz.ntmps23, List.size_toArray, List.length_cons, List.length_nil, Nat.reduceAdd, Nat.reduceSub, Array.replicate_succ, Array.replicate_zero, List.push_toArray, List.append_toArray, List.nil_append, List.cons_append]
    gi_wp2_with (refine wpListIn_load_sp rfl _ rfl w.heap.size rfl cs HB1.out HZ.out ?_)
    refine ⟨trivial, rfl, (callsIn_wide.2 HCK.out).mono ?_⟩
    rintro e w2 ⟨rfl, b2⟩
    have HB2 := Lib.hid (HB1.out.below b2)
    have HX2 := Lib.hid (HX1.out.below b2)
    have H72 := Lib.hid (H71.out.below b2)
    have H82 := Lib.hid (H81.out.below b2)
    have HW2 := Lib.hid (bel_on HW1.out b2)
    have hgl := HG7.out
    have hz2 := b2.size
    have HGL : Hid (w.heap.size < g7 ∧ g7 < g8 ∧ g8 < w2.heap.size) := by show _ ∧ _; omega
    obtain ⟨w3, hw3⟩ : ∃ w3, w2.alloc (.cells #[.slice none 0 0] 40) = w3 := ⟨_, rfl⟩
    have b3 : Below w2.heap.size w2 w3 := by rw [← hw3]; exact bel_alloc (Below.refl _ _) _
    have H93 : Has w3 w2.heap.size #[.slice none 0 0] := by rw [← hw3]; exact Has.new _ _ _ rfl
    obtain ⟨g9, hg9⟩ : ∃ g, w2.heap.size = g := ⟨_, rfl⟩
    rw [hg9] at H93 HGL
    have HB3 := Lib.hid (HB2.out.below b3)
    have HX3 := Lib.hid (HX2.out.below b3)
    have H73 := Lib.hid (H72.out.below b3)
    have H83 := Lib.hid (H82.out.below b3)
    have HW3 := Lib.hid (bel_on HW2.out b3)
    have H93 := Lib.hid H93
    clear b2 b3 hg7 hg8 hw1 HB1 HS1 HX1 H71 H81 HW1 HCK HG7 hgl hz2
    gi_wp2_with fail
    refine ⟨trivial, rfl, (callsIn_wide.2 (HWK.out w3 HX3.out)).mono ?_⟩
    rintro e w4 ⟨A3, c3, rfl, r4, b4⟩
    have HB4 := HB3.out.below b4
    have H74 := H73.out.below b4
    have H84 := H83.out.below b4
    have H94 := H93.out.below b4
    have HW4 := bel_on HW3.out b4
    have HA4 := r4.spans FW.out
    have RL4 := r4.lt
    have z94 := H94.size
    have z93 := H93.out.size
    clear hg9 hw3 HB2 HX2 H72 H82 HW2 HB3 HX3 H73 H83 H93 HW3 HWK
    gi_wp2_with fail
    refine ⟨trivial, rfl, (callsIn_wide.2 (odays_any A3 XW.length c3 w4)).mono ?_⟩
    rintro e w5' ⟨rfl, rfl⟩
    obtain ⟨w5, hw5⟩ : ∃ w5, w4.alloc (.cells #[.slice A3 XW.length c3] 40) = w5 := ⟨_, rfl⟩
    have b5 : Below w4.heap.size w4 w5 := by rw [← hw5]; exact bel_alloc (Below.refl _ _) _
    have H20 : Has w5 w4.heap.size #[.slice A3 XW.length c3] := by rw [← hw5]; exact Has.new _ _ _ rfl
    have hz5 : w5.heap.size = w4.heap.size + 1 := by rw [← hw5]; simp
    obtain ⟨g20, hg20⟩ : ∃ g, w4.heap.size = g := ⟨_, rfl⟩
    have hgl := HGL.out
    have HB5 := Lib.hid (HB4.below b5)
    have H75 := H74.below b5
    have H85 := H84.below b5
    have H95 := H94.below b5
    have HW5 := Lib.hid (bel_on HW4 b5)
    have HGG : Hid (w.heap.size < g7 ∧ g7 < g8 ∧ g8 < g9 ∧ g9 < w5.heap.size) := by show _ ∧ _; omega
    have hseq := HSEQ.out w5 g20 A3 c3 (fun x => x < w5.heap.size ∧ x ≠ g7 ∧ x ≠ g8 ∧ x ≠ g9) (by omega) ⟨by omega, by omega, by omega, by omega⟩ (by rw [← hg20]; exact H20) (HA4.below b5) (fun a ha => by
      have q := RL4 a ha
      exact ⟨by omega, by omega, by omega, by omega⟩) (fun x hx => hx.1)
    have hI0 : OvI w5 g7 g8 g9 Y1 Y2 Y3 (fun x => x < w5.heap.size ∧ x ≠ g7 ∧ x ≠ g8 ∧ x ≠ g9) 0 w5 :=
      ⟨none, 0, none, 0, none, 0, by rw [HP0.out]; exact H95, by rw [HQ0.out]; exact H75, by rw [HR0.out]; exact H85, by rw [HP0.out, HQ0.out, HR0.out]; exact Thr.start _ _, Kept.refl _ _, fun x hx => ⟨hx.1, hx.2.1, hx.2.2.1, hx.2.2.2, (fun y hy => by cases hy), (fun y hy => by cases hy), (fun y hy => by cases hy)⟩⟩
    clear r4 b4 b5 HB4 H74 H84 H94 HW4 HA4 RL4 z94 z93 H20 H75 H85 H95 HSEQ hgl HP0 HQ0 HR0 HGL
    gi_wp2_with fail
    clear hw5 hz5 hg20
    refine range_lists (T := 40) (G0 := fun x => x < w5.heap.size ∧ x ≠ g7 ∧ x ≠ g8 ∧ x ≠ g9) (N := N) (L := Lf) rfl eg hseq (fun x hx => hx.1) rfl (OvI w5 g7 g8 g9 Y1 Y2 Y3) ov_grow ov_less
      (fun G j W l o o' h hl ho hc => ov_put G j W l o o' h hl ho hc) hI0
      (fun gb v => { tmps := #[.agg cs, .slice A xs.length cap, .int .i64 k, .pointer (some ⟨w.heap.size, 0, none⟩), undef, undef, .slice none 0 0, .pointer (some ⟨g7, 0, none⟩), .pointer (some ⟨g8, 0, none⟩), .pointer (some ⟨g9, 0, none⟩), .pointer (some ⟨gb, 0, none⟩), undef, undef, undef, .agg cs, .bool true, .bool false, .slice A xs.length cap, .int .i64 k, .slice A3 XW.length c3, .func (.func 104) #[] #[.pointer (some ⟨g20, 0, none⟩)], v, undef, undef, undef, undef, undef, undef, undef, undef, undef, undef, undef, undef, undef, undef, undef, undef, undef, undef, undef, undef, undef, undef, undef, undef, undef, undef, undef, undef, undef, undef, undef, undef, undef, undef, undef, undef], defers := [] })
      ?assign ?body ?done
    case assign =>
      intro l B n c W K hK
      gi_wp2
      exact hK
    case body =>
      intro l' G j B c gb W hI hj hx hBG hgb hbw
      clear hseq hI0 eg HFI HMI HNO HND FLR FRS FP FQ FR
      obtain ⟨l1, l2, l3, l4⟩ := HGG.out
      obtain ⟨hK5, P, p, Q, q, R, r, hR⟩ := ov_start hI (by omega) (by omega) l4 (by omega) (by omega) (by omega)
      have HK5 := Lib.hid hK5
      have HCS := Lib.hid (HB5.out.kept (F := fun x => x < w5.heap.size ∧ x ≠ g7 ∧ x ≠ g8 ∧ x ≠ g9) ⟨by omega, by omega, by omega, by omega⟩ hK5)
      have E1 := Lib.hid (HPS.out j hj)
      have E2 := Lib.hid (HQS.out j hj)
      have E3 := Lib.hid (HRS.out j hj)
      have z1 := HPL.out (j + 1) hj
      have z2 := HQL.out (j + 1) hj
      have z3 := HRL.out (j + 1) hj
      have HCA := Lib.hid (fun W b m c B h1 h2 h3 h4 => HC1.out j W b m c B h1 h2 h3 h4)
      have HCB := Lib.hid (fun W b m c B h1 h2 h3 h4 => HC2.out j W b m c B h1 h2 h3 h4)
      have HMA := Lib.hid (fun W D d E e h1 h2 => HM1.out j W D d E e h1 h2)
      have HMB := Lib.hid (fun W D d E e h1 h2 => HM2.out j W D d E e h1 h2)
      have FA := Lib.hid (FC1.out (Dl.getD j 0))
      have FB := Lib.hid (FC2.out (Dl.getD j 0))
      have ld := LDY.out j
      generalize Lf j = LD at *
      rw [E1.out, List.length_append] at z1
      rw [E2.out, List.length_append] at z2
      rw [E3.out, List.length_append] at z3
      generalize f1 (Dl.getD j 0) = C1 at *
      generalize f2 (Dl.getD j 0) = D2 at *
      generalize f3 (Dl.getD j 0) = C2 at *
      generalize f4 (Dl.getD j 0) = C3 at *
      have Z1 := Lib.hid z1
      have Z2 := Lib.hid z2
      have Z3 := Lib.hid z3
      have HOR := Lib.hid hR
      have HXB := Lib.hid hx
      have HGB := Lib.hid hgb
      have HLD := Lib.hid ld
      have HBG := Lib.hid hBG
      clear HPS HQS HRS HPL HQL HRL HC1 HC2 HM1 HM2 FC1 FC2 LDY hI hR hx hgb z1 z2 z3 ld hBG hK5
      gi_wp2_with fail
      refine wpIn_mono (Q := fun e a' W' => e = .normal ∧ ∃ A1 c1 A2 c2, a' = { tmps := #[.agg cs, .slice A xs.length cap, .int .i64 k, .pointer (some ⟨w.heap.size, 0, none⟩), undef, undef, .slice none 0 0, .pointer (some ⟨g7, 0, none⟩), .pointer (some ⟨g8, 0, none⟩), .pointer (some ⟨g9, 0, none⟩), .pointer (some ⟨gb, 0, none⟩), .func (.func 57) #[] #[.pointer (some ⟨gb, 0, none⟩)], .slice A1 C1.length c1, .slice A2 D2.length c2, .agg cs, .bool true, .bool false, .slice A xs.length cap, .int .i64 k, .slice A3 XW.length c3, .func (.func 104) #[] #[.pointer (some ⟨g20, 0, none⟩)], .slice B LD.length c, .func (.func 57) #[] #[.pointer (some ⟨gb, 0, none⟩)], .func (.func 57) #[] #[.pointer (some ⟨gb, 0, none⟩)], .pointer (some ⟨w.heap.size, 13, none⟩), .int .i64 rg, .slice A1 C1.length c1, .func (.func 57) #[] #[.pointer (some ⟨gb, 0, none⟩)], .pointer (some ⟨w.heap.size, 14, none⟩), .int .i64 ov, .slice A2 D2.length c2, undef, undef, undef, undef, undef, undef, undef, undef, undef, undef, undef, undef, undef, undef, undef, undef, undef, undef, undef, undef, undef, undef, undef, undef, undef, undef, undef], defers := [] } ∧ Row W' W.heap.size A1 c1 C1 ∧ Row W' W.heap.size A2 c2 D2 ∧ Below W.heap.size W W') ?_ ?_
      · skip
        have BELd := Lib.hid (below_drew (Below.refl W.heap.size W))
        have CSd := Lib.hid (HCS.out.below (below_drew (Below.refl _ _)))
        have GBd := Lib.hid (HGB.out.below (below_drew (Below.refl _ _)))
        have XBd := Lib.hid (HXB.out.below (below_drew (Below.refl _ _)))
        refine region_round mixed (by kernel_rfl) rfl ?_
        change wpAnyIn _ _ _ _ _ _ _ _ _ (World.drew _)
        refine wpAnyIn_take (i := 0) (v := ?_) rfl rfl (by kernel_rfl) (by kernel_rfl) (by kernel_rfl) (by first | exact fun _ _ _ h => h | exact fun _ _ _ h => absurd h.1 (by simp)) ⟨Or.inl ⟨by rfl, ?_⟩, fun _ => rfl⟩ ?_
        rotate_left
        · intro ww
          go_simp
          (try with_reducible rfl)
        simp only [Act.put, List.setIfInBounds_toArray, List.set_cons_zero, List.set_cons_succ]
        refine wpAnyIn_take (i := 1) (v := ?_) rfl rfl (by kernel_rfl) (by kernel_rfl) (by kernel_rfl) (by first | exact fun _ _ _ h => h | exact fun _ _ _ h => absurd h.1 (by simp)) ⟨Or.inl ⟨by rfl, ?_⟩, fun _ => rfl⟩ ?_
        rotate_left
        · intro ww
          go_simp
          (try with_reducible rfl)
        simp only [Act.put, List.setIfInBounds_toArray, List.set_cons_zero, List.set_cons_succ]
        refine wpAnyIn_take (i := 4) (v := ?_) rfl rfl (by kernel_rfl) (by kernel_rfl) (by kernel_rfl) (by first | exact fun _ _ _ h => h | exact fun _ _ _ h => absurd h.1 (by simp)) ⟨Or.inl ⟨by rfl, ?_⟩, fun _ => rfl⟩ ?_
        rotate_left
        · intro ww
          go_simp
          (try with_reducible rfl)
        simp only [Act.put, List.setIfInBounds_toArray, List.set_cons_zero, List.set_cons_succ]
        refine wpAnyIn_take (i := 5) (v := ?_) rfl rfl (by kernel_rfl) (by kernel_rfl) (by kernel_rfl) (by first | exact fun _ _ _ h => h | exact fun _ _ _ h => absurd h.1 (by simp)) ⟨Or.inl ⟨by rfl, ?_⟩, fun _ => rfl⟩ ?_
        rotate_left
        · intro ww
          go_simp
          (try with_reducible rfl)
        simp only [Act.put, List.setIfInBounds_toArray, List.set_cons_zero, List.set_cons_succ]
        refine wpAnyIn_ready (rs := [2, 6]) (by kernel_rfl) (by simp) ?_
        refine AllReadyIn.cons (o := ⟨some 25, _, _, _, _, _⟩) rfl (fun K hK => ?_) (AllReadyIn.cons (o := ⟨some 29, _, _, _, _, _⟩) rfl (fun K hK => ?_) (AllReadyIn.nil))
        · skip
          have q := CSd.out.cell 13 q13
          have z := cell_lt q
          go_simp
          clear q z
          refine hK _ _ ?_
          clear hK K
          (try simp only [Act.put, List.setIfInBounds_toArray, List.set_cons_zero, List.set_cons_succ])
          refine wpAnyIn_ready (rs := [3, 6]) (by kernel_rfl) (by simp) ?_
          refine AllReadyIn.cons (o := ⟨some 26, _, _, _, _, _⟩) rfl (fun K hK => ?_) (AllReadyIn.cons (o := ⟨some 29, _, _, _, _, _⟩) rfl (fun K hK => ?_) (AllReadyIn.nil))
          · skip
            go_simp
            refine ⟨trivial, rfl, (callsIn_wide.2 (HCA.out _ gb LD.length c B GBd.out rfl XBd.out (by have := HLD.out; omega))).mono ?_⟩
            rintro e ws2_3 ⟨As2_3, cs2_3, rfl, rs2_3, hbs2_3⟩
            have CSs2_3 := Lib.hid (CSd.out.below hbs2_3)
            have GBs2_3 := Lib.hid (GBd.out.below hbs2_3)
            have XBs2_3 := Lib.hid (XBd.out.below hbs2_3)
            have BELs2_3 := Lib.hid (bel_on BELd.out hbs2_3)
            clear hbs2_3
            have R1s2_3 := Lib.hid (rs2_3.mono (show _ ≤ _ from BELd.out.size))
            clear rs2_3
            refine hK _ _ ?_
            clear hK K
            (try simp only [Act.put, List.setIfInBounds_toArray, List.set_cons_zero, List.set_cons_succ])
            refine wpAnyIn_ready (rs := [6]) (by kernel_rfl) (by simp) ?_
            refine AllReadyIn.cons (o := ⟨some 29, _, _, _, _, _⟩) rfl (fun K hK => ?_) (AllReadyIn.nil)
            have q := CSs2_3.out.cell 14 q14
            have z := cell_lt q
            go_simp
            clear q z
            refine hK _ _ ?_
            clear hK K
            (try simp only [Act.put, List.setIfInBounds_toArray, List.set_cons_zero, List.set_cons_succ])
            refine wpAnyIn_ready (rs := [7]) (by kernel_rfl) (by simp) ?_
            refine AllReadyIn.cons (o := ⟨some 30, _, _, _, _, _⟩) rfl (fun K hK => ?_) (AllReadyIn.nil)
            go_simp
            refine ⟨trivial, rfl, (callsIn_wide.2 (HCB.out _ gb LD.length c B GBs2_3.out rfl XBs2_3.out (by have := HLD.out; omega))).mono ?_⟩
            rintro e ws2_3_6_7 ⟨As2_3_6_7, cs2_3_6_7, rfl, rs2_3_6_7, hbs2_3_6_7⟩
            have CSs2_3_6_7 := Lib.hid (CSs2_3.out.below hbs2_3_6_7)
            have GBs2_3_6_7 := Lib.hid (GBs2_3.out.below hbs2_3_6_7)
            have XBs2_3_6_7 := Lib.hid (XBs2_3.out.below hbs2_3_6_7)
            have R1s2_3_6_7 := Lib.hid (R1s2_3.out.below hbs2_3_6_7)
            have BELs2_3_6_7 := Lib.hid (bel_on BELs2_3.out hbs2_3_6_7)
            clear hbs2_3_6_7
            have R2s2_3_6_7 := Lib.hid (rs2_3_6_7.mono (show _ ≤ _ from BELs2_3.out.size))
            clear rs2_3_6_7
            refine hK _ _ ?_
            clear hK K
            (try simp only [Act.put, List.setIfInBounds_toArray, List.set_cons_zero, List.set_cons_succ])
            refine wpAnyIn_ready (rs := [8]) (by kernel_rfl) (by simp) ?_
            refine AllReadyIn.cons (o := ⟨some 12, _, _, _, _, _⟩) rfl (fun K hK => ?_) (AllReadyIn.nil)
            go_simp
            refine hK _ _ ?_
            clear hK K
            (try simp only [Act.put, List.setIfInBounds_toArray, List.set_cons_zero, List.set_cons_succ])
            refine wpAnyIn_ready (rs := [9]) (by kernel_rfl) (by simp) ?_
            refine AllReadyIn.cons (o := ⟨some 13, _, _, _, _, _⟩) rfl (fun K hK => ?_) (AllReadyIn.nil)
            go_simp
            refine hK _ _ ?_
            clear hK K
            (try simp only [Act.put, List.setIfInBounds_toArray, List.set_cons_zero, List.set_cons_succ])
            refine wpAnyIn_done (by kernel_rfl) ?_ _
            exact ⟨rfl, As2_3, cs2_3, As2_3_6_7, cs2_3_6_7, rfl, R1s2_3_6_7.out, R2s2_3_6_7.out, BELs2_3_6_7.out⟩
          · skip
            have q := CSd.out.cell 14 q14
            have z := cell_lt q
            go_simp
            clear q z
            refine hK _ _ ?_
            clear hK K
            (try simp only [Act.put, List.setIfInBounds_toArray, List.set_cons_zero, List.set_cons_succ])
            refine wpAnyIn_ready (rs := [3]) (by kernel_rfl) (by simp) ?_
            refine AllReadyIn.cons (o := ⟨some 26, _, _, _, _, _⟩) rfl (fun K hK => ?_) (AllReadyIn.nil)
            go_simp
            refine ⟨trivial, rfl, (callsIn_wide.2 (HCA.out _ gb LD.length c B GBd.out rfl XBd.out (by have := HLD.out; omega))).mono ?_⟩
            rintro e ws2_6_3 ⟨As2_6_3, cs2_6_3, rfl, rs2_6_3, hbs2_6_3⟩
            have CSs2_6_3 := Lib.hid (CSd.out.below hbs2_6_3)
            have GBs2_6_3 := Lib.hid (GBd.out.below hbs2_6_3)
            have XBs2_6_3 := Lib.hid (XBd.out.below hbs2_6_3)
            have BELs2_6_3 := Lib.hid (bel_on BELd.out hbs2_6_3)
            clear hbs2_6_3
            have R1s2_6_3 := Lib.hid (rs2_6_3.mono (show _ ≤ _ from BELd.out.size))
            clear rs2_6_3
            refine hK _ _ ?_
            clear hK K
            (try simp only [Act.put, List.setIfInBounds_toArray, List.set_cons_zero, List.set_cons_succ])
            refine wpAnyIn_ready (rs := [7]) (by kernel_rfl) (by simp) ?_
            refine AllReadyIn.cons (o := ⟨some 30, _, _, _, _, _⟩) rfl (fun K hK => ?_) (AllReadyIn.nil)
            go_simp
            refine ⟨trivial, rfl, (callsIn_wide.2 (HCB.out _ gb LD.length c B GBs2_6_3.out rfl XBs2_6_3.out (by have := HLD.out; omega))).mono ?_⟩
            rintro e ws2_6_3_7 ⟨As2_6_3_7, cs2_6_3_7, rfl, rs2_6_3_7, hbs2_6_3_7⟩
            have CSs2_6_3_7 := Lib.hid (CSs2_6_3.out.below hbs2_6_3_7)
            have GBs2_6_3_7 := Lib.hid (GBs2_6_3.out.below hbs2_6_3_7)
            have XBs2_6_3_7 := Lib.hid (XBs2_6_3.out.below hbs2_6_3_7)
            have R1s2_6_3_7 := Lib.hid (R1s2_6_3.out.below hbs2_6_3_7)
            have BELs2_6_3_7 := Lib.hid (bel_on BELs2_6_3.out hbs2_6_3_7)
            clear hbs2_6_3_7
            have R2s2_6_3_7 := Lib.hid (rs2_6_3_7.mono (show _ ≤ _ from BELs2_6_3.out.size))
            clear rs2_6_3_7
            refine hK _ _ ?_
            clear hK K
            (try simp only [Act.put, List.setIfInBounds_toArray, List.set_cons_zero, List.set_cons_succ])
            refine wpAnyIn_ready (rs := [8]) (by kernel_rfl) (by simp) ?_
            refine AllReadyIn.cons (o := ⟨some 12, _, _, _, _, _⟩) rfl (fun K hK => ?_) (AllReadyIn.nil)
            go_simp
            refine hK _ _ ?_
            clear hK K
            (try simp only [Act.put, List.setIfInBounds_toArray, List.set_cons_zero, List.set_cons_succ])
            refine wpAnyIn_ready (rs := [9]) (by kernel_rfl) (by simp) ?_
            refine AllReadyIn.cons (o := ⟨some 13, _, _, _, _, _⟩) rfl (fun K hK => ?_) (AllReadyIn.nil)
            go_simp
            refine hK _ _ ?_
            clear hK K
            (try simp only [Act.put, List.setIfInBounds_toArray, List.set_cons_zero, List.set_cons_succ])
            refine wpAnyIn_done (by kernel_rfl) ?_ _
            exact ⟨rfl, As2_6_3, cs2_6_3, As2_6_3_7, cs2_6_3_7, rfl, R1s2_6_3_7.out, R2s2_6_3_7.out, BELs2_6_3_7.out⟩
        · skip
          have q := CSd.out.cell 14 q14
          have z := cell_lt q
          go_simp
          clear q z
          refine hK _ _ ?_
          clear hK K
          (try simp only [Act.put, List.setIfInBounds_toArray, List.set_cons_zero, List.set_cons_succ])
          refine wpAnyIn_ready (rs := [2]) (by kernel_rfl) (by simp) ?_
          refine AllReadyIn.cons (o := ⟨some 25, _, _, _, _, _⟩) rfl (fun K hK => ?_) (AllReadyIn.nil)
          have q := CSd.out.cell 13 q13
          have z := cell_lt q
          go_simp
          clear q z
          refine hK _ _ ?_
          clear hK K
          (try simp only [Act.put, List.setIfInBounds_toArray, List.set_cons_zero, List.set_cons_succ])
          refine wpAnyIn_ready (rs := [3]) (by kernel_rfl) (by simp) ?_
          refine AllReadyIn.cons (o := ⟨some 26, _, _, _, _, _⟩) rfl (fun K hK => ?_) (AllReadyIn.nil)
          go_simp
          refine ⟨trivial, rfl, (callsIn_wide.2 (HCA.out _ gb LD.length c B GBd.out rfl XBd.out (by have := HLD.out; omega))).mono ?_⟩
          rintro e ws6_2_3 ⟨As6_2_3, cs6_2_3, rfl, rs6_2_3, hbs6_2_3⟩
          have CSs6_2_3 := Lib.hid (CSd.out.below hbs6_2_3)
          have GBs6_2_3 := Lib.hid (GBd.out.below hbs6_2_3)
          have XBs6_2_3 := Lib.hid (XBd.out.below hbs6_2_3)
          have BELs6_2_3 := Lib.hid (bel_on BELd.out hbs6_2_3)
          clear hbs6_2_3
          have R1s6_2_3 := Lib.hid (rs6_2_3.mono (show _ ≤ _ from BELd.out.size))
          clear rs6_2_3
          refine hK _ _ ?_
          clear hK K
          (try simp only [Act.put, List.setIfInBounds_toArray, List.set_cons_zero, List.set_cons_succ])
          refine wpAnyIn_ready (rs := [7]) (by kernel_rfl) (by simp) ?_
          refine AllReadyIn.cons (o := ⟨some 30, _, _, _, _, _⟩) rfl (fun K hK => ?_) (AllReadyIn.nil)
          go_simp
          refine ⟨trivial, rfl, (callsIn_wide.2 (HCB.out _ gb LD.length c B GBs6_2_3.out rfl XBs6_2_3.out (by have := HLD.out; omega))).mono ?_⟩
          rintro e ws6_2_3_7 ⟨As6_2_3_7, cs6_2_3_7, rfl, rs6_2_3_7, hbs6_2_3_7⟩
          have CSs6_2_3_7 := Lib.hid (CSs6_2_3.out.below hbs6_2_3_7)
          have GBs6_2_3_7 := Lib.hid (GBs6_2_3.out.below hbs6_2_3_7)
          have XBs6_2_3_7 := Lib.hid (XBs6_2_3.out.below hbs6_2_3_7)
          have R1s6_2_3_7 := Lib.hid (R1s6_2_3.out.below hbs6_2_3_7)
          have BELs6_2_3_7 := Lib.hid (bel_on BELs6_2_3.out hbs6_2_3_7)
          clear hbs6_2_3_7
          have R2s6_2_3_7 := Lib.hid (rs6_2_3_7.mono (show _ ≤ _ from BELs6_2_3.out.size))
          clear rs6_2_3_7
          refine hK _ _ ?_
          clear hK K
          (try simp only [Act.put, List.setIfInBounds_toArray, List.set_cons_zero, List.set_cons_succ])
          refine wpAnyIn_ready (rs := [8]) (by kernel_rfl) (by simp) ?_
          refine AllReadyIn.cons (o := ⟨some 12, _, _, _, _, _⟩) rfl (fun K hK => ?_) (AllReadyIn.nil)
          go_simp
          refine hK _ _ ?_
          clear hK K
          (try simp only [Act.put, List.setIfInBounds_toArray, List.set_cons_zero, List.set_cons_succ])
          refine wpAnyIn_ready (rs := [9]) (by kernel_rfl) (by simp) ?_
          refine AllReadyIn.cons (o := ⟨some 13, _, _, _, _, _⟩) rfl (fun K hK => ?_) (AllReadyIn.nil)
          go_simp
          refine hK _ _ ?_
          clear hK K
          (try simp only [Act.put, List.setIfInBounds_toArray, List.set_cons_zero, List.set_cons_succ])
          refine wpAnyIn_done (by kernel_rfl) ?_ _
          exact ⟨rfl, As6_2_3, cs6_2_3, As6_2_3_7, cs6_2_3_7, rfl, R1s6_2_3_7.out, R2s6_2_3_7.out, BELs6_2_3_7.out⟩

      rintro e a' W7 ⟨rfl, A1, c1, A2, c2, rfl, r1, r2, b7⟩
      have hR7 := HOR.out.below b7
      have HGB7 := Lib.hid (HGB.out.below b7)
      have HXB7 := Lib.hid (HXB.out.below b7)
      have HS1 := Lib.hid (r1.spans FA.out)
      have HS2 := Lib.hid (r2.spans FB.out)
      have RL1 := Lib.hid r1.lt
      have RL2 := Lib.hid r2.lt
      have hbs := HOR.out.bs
      have ne1 : ∀ a, A1 = some a → ∀ y, P = some y → y.block ≠ a.block := fun a ha y hy e => by have h1 := (r1.lt a ha).1; have h2 := (HOR.out.t.a.lt y hy).2; omega
      have ne2 : ∀ a, A2 = some a → ∀ y, P = some y → y.block ≠ a.block := fun a ha y hy e => by have h1 := (r2.lt a ha).1; have h2 := (HOR.out.t.a.lt y hy).2; omega
      obtain ⟨P8, p8, w8, hr8, hh8, hfin8⟩ := hR7.add (row_sl r1) (by have := Z1.out; omega)
      obtain ⟨W8, hW8⟩ : ∃ W8, w8.setCell ⟨g9, 0, none⟩ (.slice P8 ((Y1 j).length + C1.length) p8) = W8 := ⟨_, rfl⟩
      obtain ⟨hR8, kg8, kb8, kn8⟩ := hfin8 W8 hW8
      have HR8 := Lib.hid hr8
      have q9 := hR7.ha.cell 0 rfl
      have q9w := hh8.cell 0 rfl
      have p9w := hh8.frozen 0
      have HS1b := Lib.hid (spans_kept HS1.out kn8 fun a ha => ⟨by have := (r1.lt a ha).1; omega, (r1.lt a ha).2, ne1 a ha⟩)
      have HS2b := Lib.hid (spans_kept HS2.out kn8 fun a ha => ⟨by have := (r2.lt a ha).1; omega, (r2.lt a ha).2, ne2 a ha⟩)
      have HXB8 := Lib.hid (spans_kept HXB7.out kg8 fun a ha => .inl (HBG.out a ha))
      have HGB8 := Lib.hid (HGB7.out.kept (.inr rfl) kg8)
      have HOR8 := Lib.hid hR8.rot
      have HLA2 : Hid (∀ a, A2 = some a → w5.heap.size ≤ a.block ∧ a.block < W8.heap.size) := fun a ha => ⟨by have := (r2.lt a ha).1; omega, Nat.lt_of_lt_of_le (r2.lt a ha).2 kn8.size⟩
      have HNA2 : Hid (∀ a, A2 = some a → ∀ y, Q = some y → y.block ≠ a.block) := fun a ha y hy e => by have h1 := (r2.lt a ha).1; have h2 := (HOR.out.t.b.lt y hy).2; omega
      clear hr8 hh8 hfin8 hR8 hR7 r1 r2 RL1 RL2 ne1 ne2 HS1 HS2 HXB7 HGB7 HOR HGB HXB kg8 kb8 kn8
      gi_wp2_with (gi_at_builtin; refine owpListIn_append_run HR8.out rfl rfl rfl rfl ?_)
      clear q9 q9w p9w HR8 hW8
      have BELd := Lib.hid (below_drew (Below.refl W8.heap.size W8))
      have ORd := Lib.hid (HOR8.out.below (below_drew (Below.refl _ _)))
      have XBd := Lib.hid (HXB8.out.below (below_drew (Below.refl _ _)))
      have GBd := Lib.hid (HGB8.out.below (below_drew (Below.refl _ _)))
      have S1d := Lib.hid (HS1b.out.below (below_drew (Below.refl _ _)))
      have S2d := Lib.hid (HS2b.out.below (below_drew (Below.refl _ _)))
      refine region_round mixed (by kernel_rfl) rfl ?_
      change wpAnyIn _ _ _ _ _ _ _ _ _ (World.drew _)
      refine wpAnyIn_take (i := 1) (v := ?_) rfl rfl (by kernel_rfl) (by kernel_rfl) (by kernel_rfl) (by first | exact fun _ _ _ h => h | exact fun _ _ _ h => absurd h.1 (by simp)) ⟨Or.inl ⟨by rfl, ?_⟩, fun _ => rfl⟩ ?_
      rotate_left
      · intro ww
        go_simp
        (try with_reducible rfl)
      simp only [Act.put, List.setIfInBounds_toArray, List.set_cons_zero, List.set_cons_succ]
      refine wpAnyIn_take (i := 2) (v := ?_) rfl rfl (by kernel_rfl) (by kernel_rfl) (by kernel_rfl) (by first | exact fun _ _ _ h => h | exact fun _ _ _ h => absurd h.1 (by simp)) ⟨Or.inl ⟨by rfl, ?_⟩, fun _ => rfl⟩ ?_
      rotate_left
      · intro ww
        go_simp
        (try with_reducible rfl)
      simp only [Act.put, List.setIfInBounds_toArray, List.set_cons_zero, List.set_cons_succ]
      refine wpAnyIn_ready (rs := [0, 3]) (by kernel_rfl) (by simp) ?_
      refine AllReadyIn.cons (o := ⟨some 34, _, _, _, _, _⟩) rfl (fun K hK => ?_) (AllReadyIn.cons (o := ⟨some 37, _, _, _, _, _⟩) rfl (fun K hK => ?_) (AllReadyIn.nil))
      · skip
        have q := ORd.out.ha.cell 0 rfl
        have z := cell_lt q
        go_simp
        clear q z
        refine hK _ _ ?_
        clear hK K
        (try simp only [Act.put, List.setIfInBounds_toArray, List.set_cons_zero, List.set_cons_succ])
        refine wpAnyIn_ready (rs := [3]) (by kernel_rfl) (by simp) ?_
        refine AllReadyIn.cons (o := ⟨some 37, _, _, _, _, _⟩) rfl (fun K hK => ?_) (AllReadyIn.nil)
        go_simp
        refine ⟨trivial, rfl, (callsIn_wide.2 (HMA.out _ A2 c2 A1 c1 S2d.out S1d.out)).mono ?_⟩
        rintro e ws0_3 ⟨As0_3, cs0_3, rfl, rs0_3, hbs0_3⟩
        have ORs0_3 := Lib.hid (ORd.out.below hbs0_3)
        have XBs0_3 := Lib.hid (XBd.out.below hbs0_3)
        have GBs0_3 := Lib.hid (GBd.out.below hbs0_3)
        have S2s0_3 := Lib.hid (S2d.out.below hbs0_3)
        have BELs0_3 := Lib.hid (bel_on BELd.out hbs0_3)
        clear hbs0_3
        have R2bs0_3 := Lib.hid (rs0_3.mono (show _ ≤ _ from BELd.out.size))
        clear rs0_3
        refine hK _ _ ?_
        clear hK K
        (try simp only [Act.put, List.setIfInBounds_toArray, List.set_cons_zero, List.set_cons_succ])
        refine wpAnyIn_ready (rs := [4]) (by kernel_rfl) (by simp) ?_
        refine AllReadyIn.cons (o := ⟨some 38, _, _, _, _, _⟩) rfl (fun K hK => ?_) (AllReadyIn.nil)
        obtain ⟨Ps0_3_4, ps0_3_4, ws0_3_4, hrs0_3_4, hhs0_3_4, hfins0_3_4⟩ := ORs0_3.out.add (row_sl R2bs0_3.out) (by have := Z2.out; omega)
        have HRs0_3_4 := Lib.hid hrs0_3_4
        have HFs0_3_4 := Lib.hid hfins0_3_4
        have HHs0_3_4 := Lib.hid hhs0_3_4
        clear hrs0_3_4 hfins0_3_4 hhs0_3_4
        rw [if_pos (by rfl)]
        refine owpIn_append_run HRs0_3_4.out rfl rfl rfl ?_
        refine hK _ _ ?_
        clear hK K
        (try simp only [Act.put, List.setIfInBounds_toArray, List.set_cons_zero, List.set_cons_succ])
        refine wpAnyIn_ready (rs := [5]) (by kernel_rfl) (by simp) ?_
        refine AllReadyIn.cons (o := ⟨none, _, _, _, _, _⟩) rfl (fun K hK => ?_) (AllReadyIn.nil)
        have q := HHs0_3_4.out.cell 0 rfl
        have z := cell_lt q
        have q2 := HHs0_3_4.out.frozen 0
        go_simp
        clear q z q2
        refine hK _ _ ?_
        clear hK K
        (try simp only [Act.put, List.setIfInBounds_toArray, List.set_cons_zero, List.set_cons_succ])
        refine wpAnyIn_done (by kernel_rfl) ?_ _
        obtain ⟨W9, hW9⟩ : ∃ W9, ws0_3_4.setCell ⟨g7, 0, none⟩ (.slice Ps0_3_4 ((Y2 j).length + C2.length) ps0_3_4) = W9 := ⟨_, rfl⟩
        obtain ⟨hR9, kg9, kb9, kn9⟩ := HFs0_3_4.out W9 hW9
        have HOR9 := Lib.hid hR9.rot
        have HXB9 := Lib.hid (spans_kept XBs0_3.out kg9 fun a ha => .inl (HBG.out a ha))
        have HGB9 := Lib.hid (GBs0_3.out.kept (.inr rfl) kg9)
        have HS29 := Lib.hid (spans_kept S2s0_3.out kn9 fun a ha => ⟨by have := (HLA2.out a ha).1; omega, Nat.lt_of_lt_of_le (HLA2.out a ha).2 BELs0_3.out.size, fun y hy => HNA2.out a ha y hy⟩)
        clear hR9 kg9 kb9 kn9 HFs0_3_4 HHs0_3_4 XBs0_3 GBs0_3 S2s0_3 ORs0_3
        rw [hW9]
        clear hW9
        gi_wp2_with fail
        have BELd := Lib.hid (below_drew (Below.refl W9.heap.size W9))
        have ORd := Lib.hid (HOR9.out.below (below_drew (Below.refl _ _)))
        have XBd := Lib.hid (HXB9.out.below (below_drew (Below.refl _ _)))
        have GBd := Lib.hid (HGB9.out.below (below_drew (Below.refl _ _)))
        have S2d := Lib.hid (HS29.out.below (below_drew (Below.refl _ _)))
        refine region_round mixed (by kernel_rfl) rfl ?_
        change wpAnyIn _ _ _ _ _ _ _ _ _ (World.drew _)
        refine wpAnyIn_take (i := 2) (v := ?_) rfl rfl (by kernel_rfl) (by kernel_rfl) (by kernel_rfl) (by first | exact fun _ _ _ h => h | exact fun _ _ _ h => absurd h.1 (by simp)) ⟨Or.inl ⟨by rfl, ?_⟩, fun _ => rfl⟩ ?_
        rotate_left
        · intro ww
          go_simp
          (try with_reducible rfl)
        simp only [Act.put, List.setIfInBounds_toArray, List.set_cons_zero, List.set_cons_succ]
        refine wpAnyIn_ready (rs := [0, 1]) (by kernel_rfl) (by simp) ?_
        refine AllReadyIn.cons (o := ⟨some 39, _, _, _, _, _⟩) rfl (fun K hK => ?_) (AllReadyIn.cons (o := ⟨some 40, _, _, _, _, _⟩) rfl (fun K hK => ?_) (AllReadyIn.nil))
        · skip
          have q := ORd.out.ha.cell 0 rfl
          have z := cell_lt q
          go_simp
          clear q z
          refine hK _ _ ?_
          clear hK K
          (try simp only [Act.put, List.setIfInBounds_toArray, List.set_cons_zero, List.set_cons_succ])
          refine wpAnyIn_ready (rs := [1]) (by kernel_rfl) (by simp) ?_
          refine AllReadyIn.cons (o := ⟨some 40, _, _, _, _, _⟩) rfl (fun K hK => ?_) (AllReadyIn.nil)
          have q := GBd.out.cell 0 rfl
          have z := cell_lt q
          go_simp
          clear q z
          refine hK _ _ ?_
          clear hK K
          (try simp only [Act.put, List.setIfInBounds_toArray, List.set_cons_zero, List.set_cons_succ])
          refine wpAnyIn_ready (rs := [3]) (by kernel_rfl) (by simp) ?_
          refine AllReadyIn.cons (o := ⟨some 42, _, _, _, _, _⟩) rfl (fun K hK => ?_) (AllReadyIn.nil)
          go_simp
          refine ⟨trivial, rfl, (callsIn_wide.2 (HMB.out _ B c A2 c2 XBd.out S2d.out)).mono ?_⟩
          rintro e ws0_1_3 ⟨As0_1_3, cs0_1_3, rfl, rs0_1_3, hbs0_1_3⟩
          have ORs0_1_3 := Lib.hid (ORd.out.below hbs0_1_3)
          have GBs0_1_3 := Lib.hid (GBd.out.below hbs0_1_3)
          have BELs0_1_3 := Lib.hid (bel_on BELd.out hbs0_1_3)
          clear hbs0_1_3
          have R3s0_1_3 := Lib.hid (rs0_1_3.mono (show _ ≤ _ from BELd.out.size))
          clear rs0_1_3
          refine hK _ _ ?_
          clear hK K
          (try simp only [Act.put, List.setIfInBounds_toArray, List.set_cons_zero, List.set_cons_succ])
          refine wpAnyIn_ready (rs := [4]) (by kernel_rfl) (by simp) ?_
          refine AllReadyIn.cons (o := ⟨some 43, _, _, _, _, _⟩) rfl (fun K hK => ?_) (AllReadyIn.nil)
          obtain ⟨Ps0_1_3_4, ps0_1_3_4, ws0_1_3_4, hrs0_1_3_4, hhs0_1_3_4, hfins0_1_3_4⟩ := ORs0_1_3.out.add (row_sl R3s0_1_3.out) (by have := Z3.out; omega)
          have HRs0_1_3_4 := Lib.hid hrs0_1_3_4
          have HFs0_1_3_4 := Lib.hid hfins0_1_3_4
          have HHs0_1_3_4 := Lib.hid hhs0_1_3_4
          clear hrs0_1_3_4 hfins0_1_3_4 hhs0_1_3_4
          rw [if_pos (by rfl)]
          refine owpIn_append_run HRs0_1_3_4.out rfl rfl rfl ?_
          refine hK _ _ ?_
          clear hK K
          (try simp only [Act.put, List.setIfInBounds_toArray, List.set_cons_zero, List.set_cons_succ])
          refine wpAnyIn_ready (rs := [5]) (by kernel_rfl) (by simp) ?_
          refine AllReadyIn.cons (o := ⟨none, _, _, _, _, _⟩) rfl (fun K hK => ?_) (AllReadyIn.nil)
          have q := HHs0_1_3_4.out.cell 0 rfl
          have z := cell_lt q
          have q2 := HHs0_1_3_4.out.frozen 0
          go_simp
          clear q z q2
          refine hK _ _ ?_
          clear hK K
          (try simp only [Act.put, List.setIfInBounds_toArray, List.set_cons_zero, List.set_cons_succ])
          refine wpAnyIn_done (by kernel_rfl) ?_ _
          obtain ⟨hRe, _, _, _⟩ := HFs0_1_3_4.out _ rfl
          gi_wp2
          exact ⟨hRe.kf _, hRe.kg.less fun x hx => .inl hx, ov_less _ _ _ _ (ov_end HK5.out hRe.rot E1.out E2.out E3.out) fun x hx => .inl hx⟩
        · skip
          have q := GBd.out.cell 0 rfl
          have z := cell_lt q
          go_simp
          clear q z
          refine hK _ _ ?_
          clear hK K
          (try simp only [Act.put, List.setIfInBounds_toArray, List.set_cons_zero, List.set_cons_succ])
          refine wpAnyIn_ready (rs := [0, 3]) (by kernel_rfl) (by simp) ?_
          refine AllReadyIn.cons (o := ⟨some 39, _, _, _, _, _⟩) rfl (fun K hK => ?_) (AllReadyIn.cons (o := ⟨some 42, _, _, _, _, _⟩) rfl (fun K hK => ?_) (AllReadyIn.nil))
          · skip
            have q := ORd.out.ha.cell 0 rfl
            have z := cell_lt q
            go_simp
            clear q z
            refine hK _ _ ?_
            clear hK K
            (try simp only [Act.put, List.setIfInBounds_toArray, List.set_cons_zero, List.set_cons_succ])
            refine wpAnyIn_ready (rs := [3]) (by kernel_rfl) (by simp) ?_
            refine AllReadyIn.cons (o := ⟨some 42, _, _, _, _, _⟩) rfl (fun K hK => ?_) (AllReadyIn.nil)
            go_simp
            refine ⟨trivial, rfl, (callsIn_wide.2 (HMB.out _ B c A2 c2 XBd.out S2d.out)).mono ?_⟩
            rintro e ws1_0_3 ⟨As1_0_3, cs1_0_3, rfl, rs1_0_3, hbs1_0_3⟩
            have ORs1_0_3 := Lib.hid (ORd.out.below hbs1_0_3)
            have GBs1_0_3 := Lib.hid (GBd.out.below hbs1_0_3)
            have BELs1_0_3 := Lib.hid (bel_on BELd.out hbs1_0_3)
            clear hbs1_0_3
            have R3s1_0_3 := Lib.hid (rs1_0_3.mono (show _ ≤ _ from BELd.out.size))
            clear rs1_0_3
            refine hK _ _ ?_
            clear hK K
            (try simp only [Act.put, List.setIfInBounds_toArray, List.set_cons_zero, List.set_cons_succ])
            refine wpAnyIn_ready (rs := [4]) (by kernel_rfl) (by simp) ?_
            refine AllReadyIn.cons (o := ⟨some 43, _, _, _, _, _⟩) rfl (fun K hK => ?_) (AllReadyIn.nil)
            obtain ⟨Ps1_0_3_4, ps1_0_3_4, ws1_0_3_4, hrs1_0_3_4, hhs1_0_3_4, hfins1_0_3_4⟩ := ORs1_0_3.out.add (row_sl R3s1_0_3.out) (by have := Z3.out; omega)
            have HRs1_0_3_4 := Lib.hid hrs1_0_3_4
            have HFs1_0_3_4 := Lib.hid hfins1_0_3_4
            have HHs1_0_3_4 := Lib.hid hhs1_0_3_4
            clear hrs1_0_3_4 hfins1_0_3_4 hhs1_0_3_4
            rw [if_pos (by rfl)]
            refine owpIn_append_run HRs1_0_3_4.out rfl rfl rfl ?_
            refine hK _ _ ?_
            clear hK K
            (try simp only [Act.put, List.setIfInBounds_toArray, List.set_cons_zero, List.set_cons_succ])
            refine wpAnyIn_ready (rs := [5]) (by kernel_rfl) (by simp) ?_
            refine AllReadyIn.cons (o := ⟨none, _, _, _, _, _⟩) rfl (fun K hK => ?_) (AllReadyIn.nil)
            have q := HHs1_0_3_4.out.cell 0 rfl
            have z := cell_lt q
            have q2 := HHs1_0_3_4.out.frozen 0
            go_simp
            clear q z q2
            refine hK _ _ ?_
            clear hK K
            (try simp only [Act.put, List.setIfInBounds_toArray, List.set_cons_zero, List.set_cons_succ])
            refine wpAnyIn_done (by kernel_rfl) ?_ _
            obtain ⟨hRe, _, _, _⟩ := HFs1_0_3_4.out _ rfl
            gi_wp2
            exact ⟨hRe.kf _, hRe.kg.less fun x hx => .inl hx, ov_less _ _ _ _ (ov_end HK5.out hRe.rot E1.out E2.out E3.out) fun x hx => .inl hx⟩
          · skip
            go_simp
            refine ⟨trivial, rfl, (callsIn_wide.2 (HMB.out _ B c A2 c2 XBd.out S2d.out)).mono ?_⟩
            rintro e ws1_3 ⟨As1_3, cs1_3, rfl, rs1_3, hbs1_3⟩
            have ORs1_3 := Lib.hid (ORd.out.below hbs1_3)
            have GBs1_3 := Lib.hid (GBd.out.below hbs1_3)
            have BELs1_3 := Lib.hid (bel_on BELd.out hbs1_3)
            clear hbs1_3
            have R3s1_3 := Lib.hid (rs1_3.mono (show _ ≤ _ from BELd.out.size))
            clear rs1_3
            refine hK _ _ ?_
            clear hK K
            (try simp only [Act.put, List.setIfInBounds_toArray, List.set_cons_zero, List.set_cons_succ])
            refine wpAnyIn_ready (rs := [0]) (by kernel_rfl) (by simp) ?_
            refine AllReadyIn.cons (o := ⟨some 39, _, _, _, _, _⟩) rfl (fun K hK => ?_) (AllReadyIn.nil)
            have q := ORs1_3.out.ha.cell 0 rfl
            have z := cell_lt q
            go_simp
            clear q z
            refine hK _ _ ?_
            clear hK K
            (try simp only [Act.put, List.setIfInBounds_toArray, List.set_cons_zero, List.set_cons_succ])
            refine wpAnyIn_ready (rs := [4]) (by kernel_rfl) (by simp) ?_
            refine AllReadyIn.cons (o := ⟨some 43, _, _, _, _, _⟩) rfl (fun K hK => ?_) (AllReadyIn.nil)
            obtain ⟨Ps1_3_0_4, ps1_3_0_4, ws1_3_0_4, hrs1_3_0_4, hhs1_3_0_4, hfins1_3_0_4⟩ := ORs1_3.out.add (row_sl R3s1_3.out) (by have := Z3.out; omega)
            have HRs1_3_0_4 := Lib.hid hrs1_3_0_4
            have HFs1_3_0_4 := Lib.hid hfins1_3_0_4
            have HHs1_3_0_4 := Lib.hid hhs1_3_0_4
            clear hrs1_3_0_4 hfins1_3_0_4 hhs1_3_0_4
            rw [if_pos (by rfl)]
            refine owpIn_append_run HRs1_3_0_4.out rfl rfl rfl ?_
            refine hK _ _ ?_
            clear hK K
            (try simp only [Act.put, List.setIfInBounds_toArray, List.set_cons_zero, List.set_cons_succ])
            refine wpAnyIn_ready (rs := [5]) (by kernel_rfl) (by simp) ?_
            refine AllReadyIn.cons (o := ⟨none, _, _, _, _, _⟩) rfl (fun K hK => ?_) (AllReadyIn.nil)
            have q := HHs1_3_0_4.out.cell 0 rfl
            have z := cell_lt q
            have q2 := HHs1_3_0_4.out.frozen 0
            go_simp
            clear q z q2
            refine hK _ _ ?_
            clear hK K
            (try simp only [Act.put, List.setIfInBounds_toArray, List.set_cons_zero, List.set_cons_succ])
            refine wpAnyIn_done (by kernel_rfl) ?_ _
            obtain ⟨hRe, _, _, _⟩ := HFs1_3_0_4.out _ rfl
            gi_wp2
            exact ⟨hRe.kf _, hRe.kg.less fun x hx => .inl hx, ov_less _ _ _ _ (ov_end HK5.out hRe.rot E1.out E2.out E3.out) fun x hx => .inl hx⟩

      · skip
        go_simp
        refine ⟨trivial, rfl, (callsIn_wide.2 (HMA.out _ A2 c2 A1 c1 S2d.out S1d.out)).mono ?_⟩
        rintro e ws3 ⟨As3, cs3, rfl, rs3, hbs3⟩
        have ORs3 := Lib.hid (ORd.out.below hbs3)
        have XBs3 := Lib.hid (XBd.out.below hbs3)
        have GBs3 := Lib.hid (GBd.out.below hbs3)
        have S2s3 := Lib.hid (S2d.out.below hbs3)
        have BELs3 := Lib.hid (bel_on BELd.out hbs3)
        clear hbs3
        have R2bs3 := Lib.hid (rs3.mono (show _ ≤ _ from BELd.out.size))
        clear rs3
        refine hK _ _ ?_
        clear hK K
        (try simp only [Act.put, List.setIfInBounds_toArray, List.set_cons_zero, List.set_cons_succ])
        refine wpAnyIn_ready (rs := [0]) (by kernel_rfl) (by simp) ?_
        refine AllReadyIn.cons (o := ⟨some 34, _, _, _, _, _⟩) rfl (fun K hK => ?_) (AllReadyIn.nil)
        have q := ORs3.out.ha.cell 0 rfl
        have z := cell_lt q
        go_simp
        clear q z
        refine hK _ _ ?_
        clear hK K
        (try simp only [Act.put, List.setIfInBounds_toArray, List.set_cons_zero, List.set_cons_succ])
        refine wpAnyIn_ready (rs := [4]) (by kernel_rfl) (by simp) ?_
        refine AllReadyIn.cons (o := ⟨some 38, _, _, _, _, _⟩) rfl (fun K hK => ?_) (AllReadyIn.nil)
        obtain ⟨Ps3_0_4, ps3_0_4, ws3_0_4, hrs3_0_4, hhs3_0_4, hfins3_0_4⟩ := ORs3.out.add (row_sl R2bs3.out) (by have := Z2.out; omega)
        have HRs3_0_4 := Lib.hid hrs3_0_4
        have HFs3_0_4 := Lib.hid hfins3_0_4
        have HHs3_0_4 := Lib.hid hhs3_0_4
        clear hrs3_0_4 hfins3_0_4 hhs3_0_4
        rw [if_pos (by rfl)]
        refine owpIn_append_run HRs3_0_4.out rfl rfl rfl ?_
        refine hK _ _ ?_
        clear hK K
        (try simp only [Act.put, List.setIfInBounds_toArray, List.set_cons_zero, List.set_cons_succ])
        refine wpAnyIn_ready (rs := [5]) (by kernel_rfl) (by simp) ?_
        refine AllReadyIn.cons (o := ⟨none, _, _, _, _, _⟩) rfl (fun K hK => ?_) (AllReadyIn.nil)
        have q := HHs3_0_4.out.cell 0 rfl
        have z := cell_lt q
        have q2 := HHs3_0_4.out.frozen 0
        go_simp
        clear q z q2
        refine hK _ _ ?_
        clear hK K
        (try simp only [Act.put, List.setIfInBounds_toArray, List.set_cons_zero, List.set_cons_succ])
        refine wpAnyIn_done (by kernel_rfl) ?_ _
        obtain ⟨W9, hW9⟩ : ∃ W9, ws3_0_4.setCell ⟨g7, 0, none⟩ (.slice Ps3_0_4 ((Y2 j).length + C2.length) ps3_0_4) = W9 := ⟨_, rfl⟩
        obtain ⟨hR9, kg9, kb9, kn9⟩ := HFs3_0_4.out W9 hW9
        have HOR9 := Lib.hid hR9.rot
        have HXB9 := Lib.hid (spans_kept XBs3.out kg9 fun a ha => .inl (HBG.out a ha))
        have HGB9 := Lib.hid (GBs3.out.kept (.inr rfl) kg9)
        have HS29 := Lib.hid (spans_kept S2s3.out kn9 fun a ha => ⟨by have := (HLA2.out a ha).1; omega, Nat.lt_of_lt_of_le (HLA2.out a ha).2 BELs3.out.size, fun y hy => HNA2.out a ha y hy⟩)
        clear hR9 kg9 kb9 kn9 HFs3_0_4 HHs3_0_4 XBs3 GBs3 S2s3 ORs3
        rw [hW9]
        clear hW9
        gi_wp2_with fail
        have BELd := Lib.hid (below_drew (Below.refl W9.heap.size W9))
        have ORd := Lib.hid (HOR9.out.below (below_drew (Below.refl _ _)))
        have XBd := Lib.hid (HXB9.out.below (below_drew (Below.refl _ _)))
        have GBd := Lib.hid (HGB9.out.below (below_drew (Below.refl _ _)))
        have S2d := Lib.hid (HS29.out.below (below_drew (Below.refl _ _)))
        refine region_round mixed (by kernel_rfl) rfl ?_
        change wpAnyIn _ _ _ _ _ _ _ _ _ (World.drew _)
        refine wpAnyIn_take (i := 2) (v := ?_) rfl rfl (by kernel_rfl) (by kernel_rfl) (by kernel_rfl) (by first | exact fun _ _ _ h => h | exact fun _ _ _ h => absurd h.1 (by simp)) ⟨Or.inl ⟨by rfl, ?_⟩, fun _ => rfl⟩ ?_
        rotate_left
        · intro ww
          go_simp
          (try with_reducible rfl)
        simp only [Act.put, List.setIfInBounds_toArray, List.set_cons_zero, List.set_cons_succ]
        refine wpAnyIn_ready (rs := [0, 1]) (by kernel_rfl) (by simp) ?_
        refine AllReadyIn.cons (o := ⟨some 39, _, _, _, _, _⟩) rfl (fun K hK => ?_) (AllReadyIn.cons (o := ⟨some 40, _, _, _, _, _⟩) rfl (fun K hK => ?_) (AllReadyIn.nil))
        · skip
          have q := ORd.out.ha.cell 0 rfl
          have z := cell_lt q
          go_simp
          clear q z
          refine hK _ _ ?_
          clear hK K
          (try simp only [Act.put, List.setIfInBounds_toArray, List.set_cons_zero, List.set_cons_succ])
          refine wpAnyIn_ready (rs := [1]) (by kernel_rfl) (by simp) ?_
          refine AllReadyIn.cons (o := ⟨some 40, _, _, _, _, _⟩) rfl (fun K hK => ?_) (AllReadyIn.nil)
          have q := GBd.out.cell 0 rfl
          have z := cell_lt q
          go_simp
          clear q z
          refine hK _ _ ?_
          clear hK K
          (try simp only [Act.put, List.setIfInBounds_toArray, List.set_cons_zero, List.set_cons_succ])
          refine wpAnyIn_ready (rs := [3]) (by kernel_rfl) (by simp) ?_
          refine AllReadyIn.cons (o := ⟨some 42, _, _, _, _, _⟩) rfl (fun K hK => ?_) (AllReadyIn.nil)
          go_simp
          refine ⟨trivial, rfl, (callsIn_wide.2 (HMB.out _ B c A2 c2 XBd.out S2d.out)).mono ?_⟩
          rintro e ws0_1_3 ⟨As0_1_3, cs0_1_3, rfl, rs0_1_3, hbs0_1_3⟩
          have ORs0_1_3 := Lib.hid (ORd.out.below hbs0_1_3)
          have GBs0_1_3 := Lib.hid (GBd.out.below hbs0_1_3)
          have BELs0_1_3 := Lib.hid (bel_on BELd.out hbs0_1_3)
          clear hbs0_1_3
          have R3s0_1_3 := Lib.hid (rs0_1_3.mono (show _ ≤ _ from BELd.out.size))
          clear rs0_1_3
          refine hK _ _ ?_
          clear hK K
          (try simp only [Act.put, List.setIfInBounds_toArray, List.set_cons_zero, List.set_cons_succ])
          refine wpAnyIn_ready (rs := [4]) (by kernel_rfl) (by simp) ?_
          refine AllReadyIn.cons (o := ⟨some 43, _, _, _, _, _⟩) rfl (fun K hK => ?_) (AllReadyIn.nil)
          obtain ⟨Ps0_1_3_4, ps0_1_3_4, ws0_1_3_4, hrs0_1_3_4, hhs0_1_3_4, hfins0_1_3_4⟩ := ORs0_1_3.out.add (row_sl R3s0_1_3.out) (by have := Z3.out; omega)
          have HRs0_1_3_4 := Lib.hid hrs0_1_3_4
          have HFs0_1_3_4 := Lib.hid hfins0_1_3_4
          have HHs0_1_3_4 := Lib.hid hhs0_1_3_4
          clear hrs0_1_3_4 hfins0_1_3_4 hhs0_1_3_4
          rw [if_pos (by rfl)]
          refine owpIn_append_run HRs0_1_3_4.out rfl rfl rfl ?_
          refine hK _ _ ?_
          clear hK K
          (try simp only [Act.put, List.setIfInBounds_toArray, List.set_cons_zero, List.set_cons_succ])
          refine wpAnyIn_ready (rs := [5]) (by kernel_rfl) (by simp) ?_
          refine AllReadyIn.cons (o := ⟨none, _, _, _, _, _⟩) rfl (fun K hK => ?_) (AllReadyIn.nil)
          have q := HHs0_1_3_4.out.cell 0 rfl
          have z := cell_lt q
          have q2 := HHs0_1_3_4.out.frozen 0
          go_simp
          clear q z q2
          refine hK _ _ ?_
          clear hK K
          (try simp only [Act.put, List.setIfInBounds_toArray, List.set_cons_zero, List.set_cons_succ])
          refine wpAnyIn_done (by kernel_rfl) ?_ _
          obtain ⟨hRe, _, _, _⟩ := HFs0_1_3_4.out _ rfl
          gi_wp2
          exact ⟨hRe.kf _, hRe.kg.less fun x hx => .inl hx, ov_less _ _ _ _ (ov_end HK5.out hRe.rot E1.out E2.out E3.out) fun x hx => .inl hx⟩
        · skip
          have q := GBd.out.cell 0 rfl
          have z := cell_lt q
          go_simp
          clear q z
          refine hK _ _ ?_
          clear hK K
          (try simp only [Act.put, List.setIfInBounds_toArray, List.set_cons_zero, List.set_cons_succ])
          refine wpAnyIn_ready (rs := [0, 3]) (by kernel_rfl) (by simp) ?_
          refine AllReadyIn.cons (o := ⟨some 39, _, _, _, _, _⟩) rfl (fun K hK => ?_) (AllReadyIn.cons (o := ⟨some 42, _, _, _, _, _⟩) rfl (fun K hK => ?_) (AllReadyIn.nil))
          · skip
            have q := ORd.out.ha.cell 0 rfl
            have z := cell_lt q
            go_simp
            clear q z
            refine hK _ _ ?_
            clear hK K
            (try simp only [Act.put, List.setIfInBounds_toArray, List.set_cons_zero, List.set_cons_succ])
            refine wpAnyIn_ready (rs := [3]) (by kernel_rfl) (by simp) ?_
            refine AllReadyIn.cons (o := ⟨some 42, _, _, _, _, _⟩) rfl (fun K hK => ?_) (AllReadyIn.nil)
            go_simp
            refine ⟨trivial, rfl, (callsIn_wide.2 (HMB.out _ B c A2 c2 XBd.out S2d.out)).mono ?_⟩
            rintro e ws1_0_3 ⟨As1_0_3, cs1_0_3, rfl, rs1_0_3, hbs1_0_3⟩
            have ORs1_0_3 := Lib.hid (ORd.out.below hbs1_0_3)
            have GBs1_0_3 := Lib.hid (GBd.out.below hbs1_0_3)
            have BELs1_0_3 := Lib.hid (bel_on BELd.out hbs1_0_3)
            clear hbs1_0_3
            have R3s1_0_3 := Lib.hid (rs1_0_3.mono (show _ ≤ _ from BELd.out.size))
            clear rs1_0_3
            refine hK _ _ ?_
            clear hK K
            (try simp only [Act.put, List.setIfInBounds_toArray, List.set_cons_zero, List.set_cons_succ])
            refine wpAnyIn_ready (rs := [4]) (by kernel_rfl) (by simp) ?_
            refine AllReadyIn.cons (o := ⟨some 43, _, _, _, _, _⟩) rfl (fun K hK => ?_) (AllReadyIn.nil)
            obtain ⟨Ps1_0_3_4, ps1_0_3_4, ws1_0_3_4, hrs1_0_3_4, hhs1_0_3_4, hfins1_0_3_4⟩ := ORs1_0_3.out.add (row_sl R3s1_0_3.out) (by have := Z3.out; omega)
            have HRs1_0_3_4 := Lib.hid hrs1_0_3_4
            have HFs1_0_3_4 := Lib.hid hfins1_0_3_4
            have HHs1_0_3_4 := Lib.hid hhs1_0_3_4
            clear hrs1_0_3_4 hfins1_0_3_4 hhs1_0_3_4
            rw [if_pos (by rfl)]
            refine owpIn_append_run HRs1_0_3_4.out rfl rfl rfl ?_
            refine hK _ _ ?_
            clear hK K
            (try simp only [Act.put, List.setIfInBounds_toArray, List.set_cons_zero, List.set_cons_succ])
            refine wpAnyIn_ready (rs := [5]) (by kernel_rfl) (by simp) ?_
            refine AllReadyIn.cons (o := ⟨none, _, _, _, _, _⟩) rfl (fun K hK => ?_) (AllReadyIn.nil)
            have q := HHs1_0_3_4.out.cell 0 rfl
            have z := cell_lt q
            have q2 := HHs1_0_3_4.out.frozen 0
            go_simp
            clear q z q2
            refine hK _ _ ?_
            clear hK K
            (try simp only [Act.put, List.setIfInBounds_toArray, List.set_cons_zero, List.set_cons_succ])
            refine wpAnyIn_done (by kernel_rfl) ?_ _
            obtain ⟨hRe, _, _, _⟩ := HFs1_0_3_4.out _ rfl
            gi_wp2
            exact ⟨hRe.kf _, hRe.kg.less fun x hx => .inl hx, ov_less _ _ _ _ (ov_end HK5.out hRe.rot E1.out E2.out E3.out) fun x hx => .inl hx⟩
          · skip
            go_simp
            refine ⟨trivial, rfl, (callsIn_wide.2 (HMB.out _ B c A2 c2 XBd.out S2d.out)).mono ?_⟩
            rintro e ws1_3 ⟨As1_3, cs1_3, rfl, rs1_3, hbs1_3⟩
            have ORs1_3 := Lib.hid (ORd.out.below hbs1_3)
            have GBs1_3 := Lib.hid (GBd.out.below hbs1_3)
            have BELs1_3 := Lib.hid (bel_on BELd.out hbs1_3)
            clear hbs1_3
            have R3s1_3 := Lib.hid (rs1_3.mono (show _ ≤ _ from BELd.out.size))
            clear rs1_3
            refine hK _ _ ?_
            clear hK K
            (try simp only [Act.put, List.setIfInBounds_toArray, List.set_cons_zero, List.set_cons_succ])
            refine wpAnyIn_ready (rs := [0]) (by kernel_rfl) (by simp) ?_
            refine AllReadyIn.cons (o := ⟨some 39, _, _, _, _, _⟩) rfl (fun K hK => ?_) (AllReadyIn.nil)
            have q := ORs1_3.out.ha.cell 0 rfl
            have z := cell_lt q
            go_simp
            clear q z
            refine hK _ _ ?_
            clear hK K
            (try simp only [Act.put, List.setIfInBounds_toArray, List.set_cons_zero, List.set_cons_succ])
            refine wpAnyIn_ready (rs := [4]) (by kernel_rfl) (by simp) ?_
            refine AllReadyIn.cons (o := ⟨some 43, _, _, _, _, _⟩) rfl (fun K hK => ?_) (AllReadyIn.nil)
            obtain ⟨Ps1_3_0_4, ps1_3_0_4, ws1_3_0_4, hrs1_3_0_4, hhs1_3_0_4, hfins1_3_0_4⟩ := ORs1_3.out.add (row_sl R3s1_3.out) (by have := Z3.out; omega)
            have HRs1_3_0_4 := Lib.hid hrs1_3_0_4
            have HFs1_3_0_4 := Lib.hid hfins1_3_0_4
            have HHs1_3_0_4 := Lib.hid hhs1_3_0_4
            clear hrs1_3_0_4 hfins1_3_0_4 hhs1_3_0_4
            rw [if_pos (by rfl)]
            refine owpIn_append_run HRs1_3_0_4.out rfl rfl rfl ?_
            refine hK _ _ ?_
            clear hK K
            (try simp only [Act.put, List.setIfInBounds_toArray, List.set_cons_zero, List.set_cons_succ])
            refine wpAnyIn_ready (rs := [5]) (by kernel_rfl) (by simp) ?_
            refine AllReadyIn.cons (o := ⟨none, _, _, _, _, _⟩) rfl (fun K hK => ?_) (AllReadyIn.nil)
            have q := HHs1_3_0_4.out.cell 0 rfl
            have z := cell_lt q
            have q2 := HHs1_3_0_4.out.frozen 0
            go_simp
            clear q z q2
            refine hK _ _ ?_
            clear hK K
            (try simp only [Act.put, List.setIfInBounds_toArray, List.set_cons_zero, List.set_cons_succ])
            refine wpAnyIn_done (by kernel_rfl) ?_ _
            obtain ⟨hRe, _, _, _⟩ := HFs1_3_0_4.out _ rfl
            gi_wp2
            exact ⟨hRe.kf _, hRe.kg.less fun x hx => .inl hx, ov_less _ _ _ _ (ov_end HK5.out hRe.rot E1.out E2.out E3.out) fun x hx => .inl hx⟩



    case done =>
      intro D G W hD hI hDef
      obtain ⟨l1, l2, l3, l4⟩ := HGG.out
      obtain ⟨hK5, P, p, Q, q, R, r, hR⟩ := ov_start hI (by omega) (by omega) l4 (by omega) (by omega) (by omega)
      have hCS := HB5.out.kept (F := fun x => x < w5.heap.size ∧ x ≠ g7 ∧ x ≠ g8 ∧ x ≠ g9) ⟨by omega, by omega, by omega, by omega⟩ hK5
      have HBW : Hid (Below w.heap.size w W) := HW5.out.trans (hK5.below fun i hi => ⟨by omega, by omega, by omega, by omega⟩)
      have z1 := HPL.out N (Nat.le_refl _)
      have z2 := HQL.out N (Nat.le_refl _)
      have z3 := HRL.out N (Nat.le_refl _)
      have Z1 := Lib.hid z1
      have Z2 : Hid ((Y2 N).length + RSq.length ≤ 64109172) := by show _ ≤ _; omega
      have Z3 := Lib.hid z3
      have hbs := hR.bs
      have HBS := Lib.hid hbs
      have HSP := Lib.hid (hR.t.a.spans (FP.out N))
      have HDEF := Lib.hid hDef
      have q9 := hR.ha.cell 0 rfl
      have qw := hCS.cell 15 q15
      have zq9 := cell_lt q9
      have zqw := cell_lt qw
      clear hseq hI0 eg HPS HQS HRS HPL HQL HRL HC1 HC2 HM1 HM2 FC1 FC2 LDY hI hDef z1 z2 z3 HZ HB5 HW5
      gi_wp2_with fail
      refine ⟨trivial, rfl, (callsIn_wide.2 (HFI.out W P p HSP.out (by have := Z1.out; omega))).mono ?_⟩
      rintro e W6 ⟨A6, c6, rfl, r6, b6⟩
      have HOR6 := Lib.hid (hR.rot.below b6)
      have HR6 := Lib.hid r6
      have HL6 : Hid (∀ a, A6 = some a → w5.heap.size ≤ a.block ∧ a.block < W6.heap.size) := fun a ha => ⟨by have := (r6.lt a ha).1; omega, (r6.lt a ha).2⟩
      have HN6 : Hid (∀ a, A6 = some a → ∀ y, Q = some y → y.block ≠ a.block) := fun a ha y hy e => by have h1 := (r6.lt a ha).1; have h2 := (hR.t.b.lt y hy).2; omega
      clear q9 qw zq9 zqw r6 b6 hR hCS HSP HFI hK5
      gi_wp2_with fail
      have BELd := Lib.hid (below_drew (Below.refl W6.heap.size W6))
      have ORd := Lib.hid (HOR6.out.below (below_drew (Below.refl _ _)))
      have R6d := Lib.hid (HR6.out.below (below_drew (Below.refl _ _)))
      refine only_normal ?_
      refine wpIn_region_any mixed ?_
      change wpAnyIn _ _ _ _ _ _ _ _ _ (World.drew _)
      refine wpAnyIn_take (i := 2) (v := ?_) rfl rfl (by kernel_rfl) (by kernel_rfl) (by kernel_rfl) (by first | exact fun _ _ _ h => h | exact fun _ _ _ h => absurd h.1 (by simp)) ⟨Or.inl ⟨by rfl, ?_⟩, fun _ => rfl⟩ ?_
      rotate_left
      · intro ww
        go_simp
        (try with_reducible rfl)
      simp only [Act.put, List.setIfInBounds_toArray, List.set_cons_zero, List.set_cons_succ]
      refine wpAnyIn_ready (rs := [0, 1]) (by kernel_rfl) (by simp) ?_
      refine AllReadyIn.cons (o := ⟨some 48, _, _, _, _, _⟩) rfl (fun K hK => ?_) (AllReadyIn.cons (o := ⟨some 49, _, _, _, _, _⟩) rfl (fun K hK => ?_) (AllReadyIn.nil))
      · skip
        have q := ORd.out.ha.cell 0 rfl
        have z := cell_lt q
        go_simp
        clear q z
        refine hK _ _ ?_
        clear hK K
        (try simp only [Act.put, List.setIfInBounds_toArray, List.set_cons_zero, List.set_cons_succ])
        refine wpAnyIn_ready (rs := [1]) (by kernel_rfl) (by simp) ?_
        refine AllReadyIn.cons (o := ⟨some 49, _, _, _, _, _⟩) rfl (fun K hK => ?_) (AllReadyIn.nil)
        have q := ORd.out.hc.cell 0 rfl
        have z := cell_lt q
        go_simp
        clear q z
        refine hK _ _ ?_
        clear hK K
        (try simp only [Act.put, List.setIfInBounds_toArray, List.set_cons_zero, List.set_cons_succ])
        refine wpAnyIn_ready (rs := [3]) (by kernel_rfl) (by simp) ?_
        refine AllReadyIn.cons (o := ⟨some 51, _, _, _, _, _⟩) rfl (fun K hK => ?_) (AllReadyIn.nil)
        go_simp
        refine ⟨trivial, rfl, (callsIn_wide.2 (HMI.out _ P p A6 c6 (ORd.out.t.e.spans (FP.out N)) (R6d.out.spans FLR.out) (by have := Z1.out; omega))).mono ?_⟩
        rintro e ws0_1_3 ⟨As0_1_3, cs0_1_3, rfl, rs0_1_3, hbs0_1_3⟩
        have ORs0_1_3 := Lib.hid (ORd.out.below hbs0_1_3)
        have R6s0_1_3 := Lib.hid (R6d.out.below hbs0_1_3)
        have BELs0_1_3 := Lib.hid (bel_on BELd.out hbs0_1_3)
        clear hbs0_1_3
        have R5os0_1_3 := Lib.hid (rs0_1_3.mono (show _ ≤ _ from BELd.out.size))
        clear rs0_1_3
        refine hK _ _ ?_
        clear hK K
        (try simp only [Act.put, List.setIfInBounds_toArray, List.set_cons_zero, List.set_cons_succ])
        refine wpAnyIn_ready (rs := [4]) (by kernel_rfl) (by simp) ?_
        refine AllReadyIn.cons (o := ⟨some 52, _, _, _, _, _⟩) rfl (fun K hK => ?_) (AllReadyIn.nil)
        obtain ⟨Ps0_1_3_4, ps0_1_3_4, ws0_1_3_4, hrs0_1_3_4, hhs0_1_3_4, hfins0_1_3_4⟩ := ORs0_1_3.out.add (row_sl R5os0_1_3.out) (by have := Z2.out; omega)
        have HRs0_1_3_4 := Lib.hid hrs0_1_3_4
        have HFs0_1_3_4 := Lib.hid hfins0_1_3_4
        have HHs0_1_3_4 := Lib.hid hhs0_1_3_4
        clear hrs0_1_3_4 hfins0_1_3_4 hhs0_1_3_4
        rw [if_pos (by rfl)]
        refine owpIn_append_run HRs0_1_3_4.out rfl rfl rfl ?_
        refine hK _ _ ?_
        clear hK K
        (try simp only [Act.put, List.setIfInBounds_toArray, List.set_cons_zero, List.set_cons_succ])
        refine wpAnyIn_ready (rs := [5]) (by kernel_rfl) (by simp) ?_
        refine AllReadyIn.cons (o := ⟨none, _, _, _, _, _⟩) rfl (fun K hK => ?_) (AllReadyIn.nil)
        have q := HHs0_1_3_4.out.cell 0 rfl
        have z := cell_lt q
        have q2 := HHs0_1_3_4.out.frozen 0
        go_simp
        clear q z q2
        refine hK _ _ ?_
        clear hK K
        (try simp only [Act.put, List.setIfInBounds_toArray, List.set_cons_zero, List.set_cons_succ])
        refine wpAnyIn_done (by kernel_rfl) ?_ _
        refine ⟨rfl, ?_⟩
        obtain ⟨W12, hW12⟩ : ∃ W12, ws0_1_3_4.setCell ⟨g7, 0, none⟩ (.slice Ps0_1_3_4 ((Y2 N).length + RSq.length) ps0_1_3_4) = W12 := ⟨_, rfl⟩
        obtain ⟨hR12, kg12, kb12, kn12⟩ := HFs0_1_3_4.out W12 hW12
        have HOR12 := Lib.hid hR12
        have HR612 : Hid (Row W12 W.heap.size A6 c6 LR) := R6s0_1_3.out.keep fun a ha => kn12.block _ ⟨(HL6.out a ha).1, Nat.lt_of_lt_of_le (HL6.out a ha).2 BELs0_1_3.out.size, fun y hy => HN6.out a ha y hy⟩
        have HWM : Hid (W.heap.size ≤ W12.heap.size) := hR12.kg.size
        rw [hW12]
        clear hR12 kg12 kb12 kn12 HFs0_1_3_4 HHs0_1_3_4 R6s0_1_3 ORs0_1_3 hW12
        gi_wp2_with fail
        have BELd := Lib.hid (below_drew (Below.refl W12.heap.size W12))
        have ORd := Lib.hid (HOR12.out.below (below_drew (Below.refl _ _)))
        have R6d := Lib.hid (HR612.out.below (below_drew (Below.refl _ _)))
        refine only_normal ?_
        refine wpIn_region_any mixed ?_
        change wpAnyIn _ _ _ _ _ _ _ _ _ (World.drew _)
        refine wpAnyIn_take (i := 0) (v := ?_) rfl rfl (by kernel_rfl) (by kernel_rfl) (by kernel_rfl) (by first | exact fun _ _ _ h => h | exact fun _ _ _ h => absurd h.1 (by simp)) ⟨Or.inl ⟨by rfl, ?_⟩, fun _ => rfl⟩ ?_
        rotate_left
        · intro ww
          go_simp
          (try with_reducible rfl)
        simp only [Act.put, List.setIfInBounds_toArray, List.set_cons_zero, List.set_cons_succ]
        refine wpAnyIn_ready (rs := [1, 3]) (by kernel_rfl) (by simp) ?_
        refine AllReadyIn.cons (o := ⟨some 54, _, _, _, _, _⟩) rfl (fun K hK => ?_) (AllReadyIn.cons (o := ⟨some 56, _, _, _, _, _⟩) rfl (fun K hK => ?_) (AllReadyIn.nil))
        · skip
          have q := ORd.out.ha.cell 0 rfl
          have z := cell_lt q
          go_simp
          clear q z
          refine hK _ _ ?_
          clear hK K
          (try simp only [Act.put, List.setIfInBounds_toArray, List.set_cons_zero, List.set_cons_succ])
          refine wpAnyIn_ready (rs := [2, 3]) (by kernel_rfl) (by simp) ?_
          refine AllReadyIn.cons (o := ⟨some 55, _, _, _, _, _⟩) rfl (fun K hK => ?_) (AllReadyIn.cons (o := ⟨some 56, _, _, _, _, _⟩) rfl (fun K hK => ?_) (AllReadyIn.nil))
          · skip
            go_simp
            refine ⟨trivial, rfl, (callsIn_wide.2 (HNO.out _ Ps0_1_3_4 ps0_1_3_4 (ORd.out.t.a.spans ((FQ.out N).append FRS.out)) (by rw [List.length_append]; have := Z2.out; omega))).mono ?_⟩
            rintro e ws1_2 ⟨As1_2, cs1_2, rfl, rs1_2, hbs1_2⟩
            have ORs1_2 := Lib.hid (ORd.out.below hbs1_2)
            have R6s1_2 := Lib.hid (R6d.out.below hbs1_2)
            have BELs1_2 := Lib.hid (bel_on BELd.out hbs1_2)
            clear hbs1_2
            have R7os1_2 := Lib.hid (rs1_2.mono (show _ ≤ _ from BELd.out.size))
            clear rs1_2
            refine hK _ _ ?_
            clear hK K
            (try simp only [Act.put, List.setIfInBounds_toArray, List.set_cons_zero, List.set_cons_succ])
            refine wpAnyIn_ready (rs := [3]) (by kernel_rfl) (by simp) ?_
            refine AllReadyIn.cons (o := ⟨some 56, _, _, _, _, _⟩) rfl (fun K hK => ?_) (AllReadyIn.nil)
            have q := ORs1_2.out.hb.cell 0 rfl
            have z := cell_lt q
            go_simp
            clear q z
            refine hK _ _ ?_
            clear hK K
            (try simp only [Act.put, List.setIfInBounds_toArray, List.set_cons_zero, List.set_cons_succ])
            refine wpAnyIn_ready (rs := [4]) (by kernel_rfl) (by simp) ?_
            refine AllReadyIn.cons (o := ⟨some 57, _, _, _, _, _⟩) rfl (fun K hK => ?_) (AllReadyIn.nil)
            go_simp
            refine ⟨trivial, rfl, (callsIn_wide.2 (HND.out _ R r (ORs1_2.out.t.b.spans (FR.out N)) (by have := Z3.out; omega))).mono ?_⟩
            rintro e ws1_2_3_4 ⟨As1_2_3_4, cs1_2_3_4, rfl, rs1_2_3_4, hbs1_2_3_4⟩
            have ORs1_2_3_4 := Lib.hid (ORs1_2.out.below hbs1_2_3_4)
            have R6s1_2_3_4 := Lib.hid (R6s1_2.out.below hbs1_2_3_4)
            have R7os1_2_3_4 := Lib.hid (R7os1_2.out.below hbs1_2_3_4)
            have BELs1_2_3_4 := Lib.hid (bel_on BELs1_2.out hbs1_2_3_4)
            clear hbs1_2_3_4
            have R8os1_2_3_4 := Lib.hid (rs1_2_3_4.mono (show _ ≤ _ from BELs1_2.out.size))
            clear rs1_2_3_4
            refine hK _ _ ?_
            clear hK K
            (try simp only [Act.put, List.setIfInBounds_toArray, List.set_cons_zero, List.set_cons_succ])
            refine wpAnyIn_ready (rs := [5]) (by kernel_rfl) (by simp) ?_
            refine AllReadyIn.cons (o := ⟨some 6, _, _, _, _, _⟩) rfl (fun K hK => ?_) (AllReadyIn.nil)
            go_simp
            refine hK _ _ ?_
            clear hK K
            (try simp only [Act.put, List.setIfInBounds_toArray, List.set_cons_zero, List.set_cons_succ])
            refine wpAnyIn_ready (rs := [6]) (by kernel_rfl) (by simp) ?_
            refine AllReadyIn.cons (o := ⟨none, _, _, _, _, _⟩) rfl (fun K hK => ?_) (AllReadyIn.nil)
            have q := ORs1_2_3_4.out.ha.cell 0 rfl
            have q2 := ORs1_2_3_4.out.ha.frozen 0
            have z := cell_lt q
            go_simp
            clear q z q2
            refine hK _ _ ?_
            clear hK K
            (try simp only [Act.put, List.setIfInBounds_toArray, List.set_cons_zero, List.set_cons_succ])
            refine wpAnyIn_ready (rs := [7]) (by kernel_rfl) (by simp) ?_
            refine AllReadyIn.cons (o := ⟨none, _, _, _, _, _⟩) rfl (fun K hK => ?_) (AllReadyIn.nil)
            have q := (ORs1_2_3_4.out.hb.far (p := ⟨g7, 0, none⟩) (by show g8 ≠ g7; omega) (.slice As1_2 LO.length cs1_2)).cell 0 rfl
            have q2 := (ORs1_2_3_4.out.hb.far (p := ⟨g7, 0, none⟩) (by show g8 ≠ g7; omega) (.slice As1_2 LO.length cs1_2)).frozen 0
            have z := cell_lt q
            go_simp
            clear q z q2
            refine hK _ _ ?_
            clear hK K
            (try simp only [Act.put, List.setIfInBounds_toArray, List.set_cons_zero, List.set_cons_succ])
            refine wpAnyIn_done (by kernel_rfl) ?_ _
            refine ⟨rfl, ?_⟩
            have hOR := ORs1_2_3_4.out
            have hbs := HBS.out
            have hne : g7 ≠ g8 := by omega
            obtain ⟨Wz, hWz⟩ : ∃ Wz, (ws1_2_3_4.setCell ⟨g7, 0, none⟩ (.slice As1_2 LO.length cs1_2)).setCell ⟨g8, 0, none⟩ (.slice As1_2_3_4 LD.length cs1_2_3_4) = Wz := ⟨_, rfl⟩
            have hs7 : ws1_2_3_4.heap.size ≤ Wz.heap.size := by rw [← hWz]; simp
            have y7 : Has Wz g7 #[.slice As1_2 LO.length cs1_2] := by rw [← hWz]; exact (hOR.ha.set 0 _).far (p := ⟨g8, 0, none⟩) hne _
            have y8 : Has Wz g8 #[.slice As1_2_3_4 LD.length cs1_2_3_4] := by rw [← hWz]; exact (hOR.hb.far (p := ⟨g7, 0, none⟩) hne.symm _).set 0 _
            have far : ∀ {A0 : Option Addr} {m0 : Nat} {L0 : List (Int × Int)}, Row ws1_2_3_4 W.heap.size A0 m0 L0 → Row Wz W.heap.size A0 m0 L0 := fun {A0 m0 L0} h0 => by
              rw [← hWz]
              exact (h0.far (p := ⟨g7, 0, none⟩) (fun a ha => by have := (h0.lt a ha).1; show a.block ≠ g7; omega) _).far (p := ⟨g8, 0, none⟩) (fun a ha => by have := (h0.lt a ha).1; show a.block ≠ g8; omega) _
            have k6 := far R6s1_2_3_4.out
            have k7 := far (R7os1_2_3_4.out.mono HWM.out)
            have k8 := far (R8os1_2_3_4.out.mono HWM.out)
            have bz : Below w.heap.size w Wz := by
              have b1 := HBW.out.trans (hOR.kb.below (B := w.heap.size) fun i hi => ⟨by omega, by omega, by omega, by omega⟩)
              rw [← hWz]
              exact bel_set (p := ⟨g8, 0, none⟩) (bel_set (p := ⟨g7, 0, none⟩) b1 (by show w.heap.size ≤ g7; omega) _) (by show w.heap.size ≤ g8; omega) _
            have hK : Wz.heap[D]? = some (.deferred (some [])) := by
              have := (hOR.kf 0).same D _ (Nat.zero_le _) HDEF.out rfl
              rw [← hWz, Below.heap_setCell _ _ _ _ (by show D ≠ g8; omega), Below.heap_setCell _ _ _ _ (by show D ≠ g7; omega)]
              exact this
            have c7 := (ohas_put y7 (.deferred none) hK rfl).cell 0 rfl
            have c8 := (ohas_put y8 (.deferred none) hK rfl).cell 0 rfl
            have hWw : w.heap.size ≤ W.heap.size := HBW.out.size
            have HE := Lib.hid (And.intro c7 c8)
            have HRW := Lib.hid (And.intro ((orow_put k6 (.deferred none) hK rfl).mono hWw) (And.intro ((orow_put k7 (.deferred none) hK rfl).mono hWw) ((orow_put k8 (.deferred none) hK rfl).mono hWw)))
            have HBZ := Lib.hid (bz.trans (below_putObjL (.deferred none) (show w.heap.size ≤ D by omega)))
            clear hOR y7 y8 far k6 k7 k8 bz c7 c8
            rw [hWz]
            clear hWz hs7
            gi_wp2
            refine ⟨by simp, .inl ⟨_, _, rfl, run_takeDeferred hK, ?_⟩⟩
            refine ⟨.tuple #[.slice A6 LR.length c6, .slice As1_2 LO.length cs1_2, .slice As1_2_3_4 LD.length cs1_2_3_4], by simp [results, Tryz.results23, go_sem, HE.out.1, HE.out.2], ?_⟩
            exact ⟨_, _, _, _, _, _, rfl, HRW.out.1, HRW.out.2.1, HRW.out.2.2, HBZ.out⟩
          · skip
            have q := ORd.out.hb.cell 0 rfl
            have z := cell_lt q
            go_simp
            clear q z
            refine hK _ _ ?_
            clear hK K
            (try simp only [Act.put, List.setIfInBounds_toArray, List.set_cons_zero, List.set_cons_succ])
            refine wpAnyIn_ready (rs := [2]) (by kernel_rfl) (by simp) ?_
            refine AllReadyIn.cons (o := ⟨some 55, _, _, _, _, _⟩) rfl (fun K hK => ?_) (AllReadyIn.nil)
            go_simp
            refine ⟨trivial, rfl, (callsIn_wide.2 (HNO.out _ Ps0_1_3_4 ps0_1_3_4 (ORd.out.t.a.spans ((FQ.out N).append FRS.out)) (by rw [List.length_append]; have := Z2.out; omega))).mono ?_⟩
            rintro e ws1_3_2 ⟨As1_3_2, cs1_3_2, rfl, rs1_3_2, hbs1_3_2⟩
            have ORs1_3_2 := Lib.hid (ORd.out.below hbs1_3_2)
            have R6s1_3_2 := Lib.hid (R6d.out.below hbs1_3_2)
            have BELs1_3_2 := Lib.hid (bel_on BELd.out hbs1_3_2)
            clear hbs1_3_2
            have R7os1_3_2 := Lib.hid (rs1_3_2.mono (show _ ≤ _ from BELd.out.size))
            clear rs1_3_2
            refine hK _ _ ?_
            clear hK K
            (try simp only [Act.put, List.setIfInBounds_toArray, List.set_cons_zero, List.set_cons_succ])
            refine wpAnyIn_ready (rs := [4]) (by kernel_rfl) (by simp) ?_
            refine AllReadyIn.cons (o := ⟨some 57, _, _, _, _, _⟩) rfl (fun K hK => ?_) (AllReadyIn.nil)
            go_simp
            refine ⟨trivial, rfl, (callsIn_wide.2 (HND.out _ R r (ORs1_3_2.out.t.b.spans (FR.out N)) (by have := Z3.out; omega))).mono ?_⟩
            rintro e ws1_3_2_4 ⟨As1_3_2_4, cs1_3_2_4, rfl, rs1_3_2_4, hbs1_3_2_4⟩
            have ORs1_3_2_4 := Lib.hid (ORs1_3_2.out.below hbs1_3_2_4)
            have R6s1_3_2_4 := Lib.hid (R6s1_3_2.out.below hbs1_3_2_4)
            have R7os1_3_2_4 := Lib.hid (R7os1_3_2.out.below hbs1_3_2_4)
            have BELs1_3_2_4 := Lib.hid (bel_on BELs1_3_2.out hbs1_3_2_4)
            clear hbs1_3_2_4
            have R8os1_3_2_4 := Lib.hid (rs1_3_2_4.mono (show _ ≤ _ from BELs1_3_2.out.size))
            clear rs1_3_2_4
            refine hK _ _ ?_
            clear hK K
            (try simp only [Act.put, List.setIfInBounds_toArray, List.set_cons_zero, List.set_cons_succ])
            refine wpAnyIn_ready (rs := [5]) (by kernel_rfl) (by simp) ?_
            refine AllReadyIn.cons (o := ⟨some 6, _, _, _, _, _⟩) rfl (fun K hK => ?_) (AllReadyIn.nil)
            go_simp
            refine hK _ _ ?_
            clear hK K
            (try simp only [Act.put, List.setIfInBounds_toArray, List.set_cons_zero, List.set_cons_succ])
            refine wpAnyIn_ready (rs := [6]) (by kernel_rfl) (by simp) ?_
            refine AllReadyIn.cons (o := ⟨none, _, _, _, _, _⟩) rfl (fun K hK => ?_) (AllReadyIn.nil)
            have q := ORs1_3_2_4.out.ha.cell 0 rfl
            have q2 := ORs1_3_2_4.out.ha.frozen 0
            have z := cell_lt q
            go_simp
            clear q z q2
            refine hK _ _ ?_
            clear hK K
            (try simp only [Act.put, List.setIfInBounds_toArray, List.set_cons_zero, List.set_cons_succ])
            refine wpAnyIn_ready (rs := [7]) (by kernel_rfl) (by simp) ?_
            refine AllReadyIn.cons (o := ⟨none, _, _, _, _, _⟩) rfl (fun K hK => ?_) (AllReadyIn.nil)
            have q := (ORs1_3_2_4.out.hb.far (p := ⟨g7, 0, none⟩) (by show g8 ≠ g7; omega) (.slice As1_3_2 LO.length cs1_3_2)).cell 0 rfl
            have q2 := (ORs1_3_2_4.out.hb.far (p := ⟨g7, 0, none⟩) (by show g8 ≠ g7; omega) (.slice As1_3_2 LO.length cs1_3_2)).frozen 0
            have z := cell_lt q
            go_simp
            clear q z q2
            refine hK _ _ ?_
            clear hK K
            (try simp only [Act.put, List.setIfInBounds_toArray, List.set_cons_zero, List.set_cons_succ])
            refine wpAnyIn_done (by kernel_rfl) ?_ _
            refine ⟨rfl, ?_⟩
            have hOR := ORs1_3_2_4.out
            have hbs := HBS.out
            have hne : g7 ≠ g8 := by omega
            obtain ⟨Wz, hWz⟩ : ∃ Wz, (ws1_3_2_4.setCell ⟨g7, 0, none⟩ (.slice As1_3_2 LO.length cs1_3_2)).setCell ⟨g8, 0, none⟩ (.slice As1_3_2_4 LD.length cs1_3_2_4) = Wz := ⟨_, rfl⟩
            have hs7 : ws1_3_2_4.heap.size ≤ Wz.heap.size := by rw [← hWz]; simp
            have y7 : Has Wz g7 #[.slice As1_3_2 LO.length cs1_3_2] := by rw [← hWz]; exact (hOR.ha.set 0 _).far (p := ⟨g8, 0, none⟩) hne _
            have y8 : Has Wz g8 #[.slice As1_3_2_4 LD.length cs1_3_2_4] := by rw [← hWz]; exact (hOR.hb.far (p := ⟨g7, 0, none⟩) hne.symm _).set 0 _
            have far : ∀ {A0 : Option Addr} {m0 : Nat} {L0 : List (Int × Int)}, Row ws1_3_2_4 W.heap.size A0 m0 L0 → Row Wz W.heap.size A0 m0 L0 := fun {A0 m0 L0} h0 => by
              rw [← hWz]
              exact (h0.far (p := ⟨g7, 0, none⟩) (fun a ha => by have := (h0.lt a ha).1; show a.block ≠ g7; omega) _).far (p := ⟨g8, 0, none⟩) (fun a ha => by have := (h0.lt a ha).1; show a.block ≠ g8; omega) _
            have k6 := far R6s1_3_2_4.out
            have k7 := far (R7os1_3_2_4.out.mono HWM.out)
            have k8 := far (R8os1_3_2_4.out.mono HWM.out)
            have bz : Below w.heap.size w Wz := by
              have b1 := HBW.out.trans (hOR.kb.below (B := w.heap.size) fun i hi => ⟨by omega, by omega, by omega, by omega⟩)
              rw [← hWz]
              exact bel_set (p := ⟨g8, 0, none⟩) (bel_set (p := ⟨g7, 0, none⟩) b1 (by show w.heap.size ≤ g7; omega) _) (by show w.heap.size ≤ g8; omega) _
            have hK : Wz.heap[D]? = some (.deferred (some [])) := by
              have := (hOR.kf 0).same D _ (Nat.zero_le _) HDEF.out rfl
              rw [← hWz, Below.heap_setCell _ _ _ _ (by show D ≠ g8; omega), Below.heap_setCell _ _ _ _ (by show D ≠ g7; omega)]
              exact this
            have c7 := (ohas_put y7 (.deferred none) hK rfl).cell 0 rfl
            have c8 := (ohas_put y8 (.deferred none) hK rfl).cell 0 rfl
            have hWw : w.heap.size ≤ W.heap.size := HBW.out.size
            have HE := Lib.hid (And.intro c7 c8)
            have HRW := Lib.hid (And.intro ((orow_put k6 (.deferred none) hK rfl).mono hWw) (And.intro ((orow_put k7 (.deferred none) hK rfl).mono hWw) ((orow_put k8 (.deferred none) hK rfl).mono hWw)))
            have HBZ := Lib.hid (bz.trans (below_putObjL (.deferred none) (show w.heap.size ≤ D by omega)))
            clear hOR y7 y8 far k6 k7 k8 bz c7 c8
            rw [hWz]
            clear hWz hs7
            gi_wp2
            refine ⟨by simp, .inl ⟨_, _, rfl, run_takeDeferred hK, ?_⟩⟩
            refine ⟨.tuple #[.slice A6 LR.length c6, .slice As1_3_2 LO.length cs1_3_2, .slice As1_3_2_4 LD.length cs1_3_2_4], by simp [results, Tryz.results23, go_sem, HE.out.1, HE.out.2], ?_⟩
            exact ⟨_, _, _, _, _, _, rfl, HRW.out.1, HRW.out.2.1, HRW.out.2.2, HBZ.out⟩
        · skip
          have q := ORd.out.hb.cell 0 rfl
          have z := cell_lt q
          go_simp
          clear q z
          refine hK _ _ ?_
          clear hK K
          (try simp only [Act.put, List.setIfInBounds_toArray, List.set_cons_zero, List.set_cons_succ])
          refine wpAnyIn_ready (rs := [1]) (by kernel_rfl) (by simp) ?_
          refine AllReadyIn.cons (o := ⟨some 54, _, _, _, _, _⟩) rfl (fun K hK => ?_) (AllReadyIn.nil)
          have q := ORd.out.ha.cell 0 rfl
          have z := cell_lt q
          go_simp
          clear q z
          refine hK _ _ ?_
          clear hK K
          (try simp only [Act.put, List.setIfInBounds_toArray, List.set_cons_zero, List.set_cons_succ])
          refine wpAnyIn_ready (rs := [2]) (by kernel_rfl) (by simp) ?_
          refine AllReadyIn.cons (o := ⟨some 55, _, _, _, _, _⟩) rfl (fun K hK => ?_) (AllReadyIn.nil)
          go_simp
          refine ⟨trivial, rfl, (callsIn_wide.2 (HNO.out _ Ps0_1_3_4 ps0_1_3_4 (ORd.out.t.a.spans ((FQ.out N).append FRS.out)) (by rw [List.length_append]; have := Z2.out; omega))).mono ?_⟩
          rintro e ws3_1_2 ⟨As3_1_2, cs3_1_2, rfl, rs3_1_2, hbs3_1_2⟩
          have ORs3_1_2 := Lib.hid (ORd.out.below hbs3_1_2)
          have R6s3_1_2 := Lib.hid (R6d.out.below hbs3_1_2)
          have BELs3_1_2 := Lib.hid (bel_on BELd.out hbs3_1_2)
          clear hbs3_1_2
          have R7os3_1_2 := Lib.hid (rs3_1_2.mono (show _ ≤ _ from BELd.out.size))
          clear rs3_1_2
          refine hK _ _ ?_
          clear hK K
          (try simp only [Act.put, List.setIfInBounds_toArray, List.set_cons_zero, List.set_cons_succ])
          refine wpAnyIn_ready (rs := [4]) (by kernel_rfl) (by simp) ?_
          refine AllReadyIn.cons (o := ⟨some 57, _, _, _, _, _⟩) rfl (fun K hK => ?_) (AllReadyIn.nil)
          go_simp
          refine ⟨trivial, rfl, (callsIn_wide.2 (HND.out _ R r (ORs3_1_2.out.t.b.spans (FR.out N)) (by have := Z3.out; omega))).mono ?_⟩
          rintro e ws3_1_2_4 ⟨As3_1_2_4, cs3_1_2_4, rfl, rs3_1_2_4, hbs3_1_2_4⟩
          have ORs3_1_2_4 := Lib.hid (ORs3_1_2.out.below hbs3_1_2_4)
          have R6s3_1_2_4 := Lib.hid (R6s3_1_2.out.below hbs3_1_2_4)
          have R7os3_1_2_4 := Lib.hid (R7os3_1_2.out.below hbs3_1_2_4)
          have BELs3_1_2_4 := Lib.hid (bel_on BELs3_1_2.out hbs3_1_2_4)
          clear hbs3_1_2_4
          have R8os3_1_2_4 := Lib.hid (rs3_1_2_4.mono (show _ ≤ _ from BELs3_1_2.out.size))
          clear rs3_1_2_4
          refine hK _ _ ?_
          clear hK K
          (try simp only [Act.put, List.setIfInBounds_toArray, List.set_cons_zero, List.set_cons_succ])
          refine wpAnyIn_ready (rs := [5]) (by kernel_rfl) (by simp) ?_
          refine AllReadyIn.cons (o := ⟨some 6, _, _, _, _, _⟩) rfl (fun K hK => ?_) (AllReadyIn.nil)
          go_simp
          refine hK _ _ ?_
          clear hK K
          (try simp only [Act.put, List.setIfInBounds_toArray, List.set_cons_zero, List.set_cons_succ])
          refine wpAnyIn_ready (rs := [6]) (by kernel_rfl) (by simp) ?_
          refine AllReadyIn.cons (o := ⟨none, _, _, _, _, _⟩) rfl (fun K hK => ?_) (AllReadyIn.nil)
          have q := ORs3_1_2_4.out.ha.cell 0 rfl
          have q2 := ORs3_1_2_4.out.ha.frozen 0
          have z := cell_lt q
          go_simp
          clear q z q2
          refine hK _ _ ?_
          clear hK K
          (try simp only [Act.put, List.setIfInBounds_toArray, List.set_cons_zero, List.set_cons_succ])
          refine wpAnyIn_ready (rs := [7]) (by kernel_rfl) (by simp) ?_
          refine AllReadyIn.cons (o := ⟨none, _, _, _, _, _⟩) rfl (fun K hK => ?_) (AllReadyIn.nil)
          have q := (ORs3_1_2_4.out.hb.far (p := ⟨g7, 0, none⟩) (by show g8 ≠ g7; omega) (.slice As3_1_2 LO.length cs3_1_2)).cell 0 rfl
          have q2 := (ORs3_1_2_4.out.hb.far (p := ⟨g7, 0, none⟩) (by show g8 ≠ g7; omega) (.slice As3_1_2 LO.length cs3_1_2)).frozen 0
          have z := cell_lt q
          go_simp
          clear q z q2
          refine hK _ _ ?_
          clear hK K
          (try simp only [Act.put, List.setIfInBounds_toArray, List.set_cons_zero, List.set_cons_succ])
          refine wpAnyIn_done (by kernel_rfl) ?_ _
          refine ⟨rfl, ?_⟩
          have hOR := ORs3_1_2_4.out
          have hbs := HBS.out
          have hne : g7 ≠ g8 := by omega
          obtain ⟨Wz, hWz⟩ : ∃ Wz, (ws3_1_2_4.setCell ⟨g7, 0, none⟩ (.slice As3_1_2 LO.length cs3_1_2)).setCell ⟨g8, 0, none⟩ (.slice As3_1_2_4 LD.length cs3_1_2_4) = Wz := ⟨_, rfl⟩
          have hs7 : ws3_1_2_4.heap.size ≤ Wz.heap.size := by rw [← hWz]; simp
          have y7 : Has Wz g7 #[.slice As3_1_2 LO.length cs3_1_2] := by rw [← hWz]; exact (hOR.ha.set 0 _).far (p := ⟨g8, 0, none⟩) hne _
          have y8 : Has Wz g8 #[.slice As3_1_2_4 LD.length cs3_1_2_4] := by rw [← hWz]; exact (hOR.hb.far (p := ⟨g7, 0, none⟩) hne.symm _).set 0 _
          have far : ∀ {A0 : Option Addr} {m0 : Nat} {L0 : List (Int × Int)}, Row ws3_1_2_4 W.heap.size A0 m0 L0 → Row Wz W.heap.size A0 m0 L0 := fun {A0 m0 L0} h0 => by
            rw [← hWz]
            exact (h0.far (p := ⟨g7, 0, none⟩) (fun a ha => by have := (h0.lt a ha).1; show a.block ≠ g7; omega) _).far (p := ⟨g8, 0, none⟩) (fun a ha => by have := (h0.lt a ha).1; show a.block ≠ g8; omega) _
          have k6 := far R6s3_1_2_4.out
          have k7 := far (R7os3_1_2_4.out.mono HWM.out)
          have k8 := far (R8os3_1_2_4.out.mono HWM.out)
          have bz : Below w.heap.size w Wz := by
            have b1 := HBW.out.trans (hOR.kb.below (B := w.heap.size) fun i hi => ⟨by omega, by omega, by omega, by omega⟩)
            rw [← hWz]
            exact bel_set (p := ⟨g8, 0, none⟩) (bel_set (p := ⟨g7, 0, none⟩) b1 (by show w.heap.size ≤ g7; omega) _) (by show w.heap.size ≤ g8; omega) _
          have hK : Wz.heap[D]? = some (.deferred (some [])) := by
            have := (hOR.kf 0).same D _ (Nat.zero_le _) HDEF.out rfl
            rw [← hWz, Below.heap_setCell _ _ _ _ (by show D ≠ g8; omega), Below.heap_setCell _ _ _ _ (by show D ≠ g7; omega)]
            exact this
          have c7 := (ohas_put y7 (.deferred none) hK rfl).cell 0 rfl
          have c8 := (ohas_put y8 (.deferred none) hK rfl).cell 0 rfl
          have hWw : w.heap.size ≤ W.heap.size := HBW.out.size
          have HE := Lib.hid (And.intro c7 c8)
          have HRW := Lib.hid (And.intro ((orow_put k6 (.deferred none) hK rfl).mono hWw) (And.intro ((orow_put k7 (.deferred none) hK rfl).mono hWw) ((orow_put k8 (.deferred none) hK rfl).mono hWw)))
          have HBZ := Lib.hid (bz.trans (below_putObjL (.deferred none) (show w.heap.size ≤ D by omega)))
          clear hOR y7 y8 far k6 k7 k8 bz c7 c8
          rw [hWz]
          clear hWz hs7
          gi_wp2
          refine ⟨by simp, .inl ⟨_, _, rfl, run_takeDeferred hK, ?_⟩⟩
          refine ⟨.tuple #[.slice A6 LR.length c6, .slice As3_1_2 LO.length cs3_1_2, .slice As3_1_2_4 LD.length cs3_1_2_4], by simp [results, Tryz.results23, go_sem, HE.out.1, HE.out.2], ?_⟩
          exact ⟨_, _, _, _, _, _, rfl, HRW.out.1, HRW.out.2.1, HRW.out.2.2, HBZ.out⟩

      · skip
        have q := ORd.out.hc.cell 0 rfl
        have z := cell_lt q
        go_simp
        clear q z
        refine hK _ _ ?_
        clear hK K
        (try simp only [Act.put, List.setIfInBounds_toArray, List.set_cons_zero, List.set_cons_succ])
        refine wpAnyIn_ready (rs := [0, 3]) (by kernel_rfl) (by simp) ?_
        refine AllReadyIn.cons (o := ⟨some 48, _, _, _, _, _⟩) rfl (fun K hK => ?_) (AllReadyIn.cons (o := ⟨some 51, _, _, _, _, _⟩) rfl (fun K hK => ?_) (AllReadyIn.nil))
        · skip
          have q := ORd.out.ha.cell 0 rfl
          have z := cell_lt q
          go_simp
          clear q z
          refine hK _ _ ?_
          clear hK K
          (try simp only [Act.put, List.setIfInBounds_toArray, List.set_cons_zero, List.set_cons_succ])
          refine wpAnyIn_ready (rs := [3]) (by kernel_rfl) (by simp) ?_
          refine AllReadyIn.cons (o := ⟨some 51, _, _, _, _, _⟩) rfl (fun K hK => ?_) (AllReadyIn.nil)
          go_simp
          refine ⟨trivial, rfl, (callsIn_wide.2 (HMI.out _ P p A6 c6 (ORd.out.t.e.spans (FP.out N)) (R6d.out.spans FLR.out) (by have := Z1.out; omega))).mono ?_⟩
          rintro e ws1_0_3 ⟨As1_0_3, cs1_0_3, rfl, rs1_0_3, hbs1_0_3⟩
          have ORs1_0_3 := Lib.hid (ORd.out.below hbs1_0_3)
          have R6s1_0_3 := Lib.hid (R6d.out.below hbs1_0_3)
          have BELs1_0_3 := Lib.hid (bel_on BELd.out hbs1_0_3)
          clear hbs1_0_3
          have R5os1_0_3 := Lib.hid (rs1_0_3.mono (show _ ≤ _ from BELd.out.size))
          clear rs1_0_3
          refine hK _ _ ?_
          clear hK K
          (try simp only [Act.put, List.setIfInBounds_toArray, List.set_cons_zero, List.set_cons_succ])
          refine wpAnyIn_ready (rs := [4]) (by kernel_rfl) (by simp) ?_
          refine AllReadyIn.cons (o := ⟨some 52, _, _, _, _, _⟩) rfl (fun K hK => ?_) (AllReadyIn.nil)
          obtain ⟨Ps1_0_3_4, ps1_0_3_4, ws1_0_3_4, hrs1_0_3_4, hhs1_0_3_4, hfins1_0_3_4⟩ := ORs1_0_3.out.add (row_sl R5os1_0_3.out) (by have := Z2.out; omega)
          have HRs1_0_3_4 := Lib.hid hrs1_0_3_4
          have HFs1_0_3_4 := Lib.hid hfins1_0_3_4
          have HHs1_0_3_4 := Lib.hid hhs1_0_3_4
          clear hrs1_0_3_4 hfins1_0_3_4 hhs1_0_3_4
          rw [if_pos (by rfl)]
          refine owpIn_append_run HRs1_0_3_4.out rfl rfl rfl ?_
          refine hK _ _ ?_
          clear hK K
          (try simp only [Act.put, List.setIfInBounds_toArray, List.set_cons_zero, List.set_cons_succ])
          refine wpAnyIn_ready (rs := [5]) (by kernel_rfl) (by simp) ?_
          refine AllReadyIn.cons (o := ⟨none, _, _, _, _, _⟩) rfl (fun K hK => ?_) (AllReadyIn.nil)
          have q := HHs1_0_3_4.out.cell 0 rfl
          have z := cell_lt q
          have q2 := HHs1_0_3_4.out.frozen 0
          go_simp
          clear q z q2
          refine hK _ _ ?_
          clear hK K
          (try simp only [Act.put, List.setIfInBounds_toArray, List.set_cons_zero, List.set_cons_succ])
          refine wpAnyIn_done (by kernel_rfl) ?_ _
          refine ⟨rfl, ?_⟩
          obtain ⟨W12, hW12⟩ : ∃ W12, ws1_0_3_4.setCell ⟨g7, 0, none⟩ (.slice Ps1_0_3_4 ((Y2 N).length + RSq.length) ps1_0_3_4) = W12 := ⟨_, rfl⟩
          obtain ⟨hR12, kg12, kb12, kn12⟩ := HFs1_0_3_4.out W12 hW12
          have HOR12 := Lib.hid hR12
          have HR612 : Hid (Row W12 W.heap.size A6 c6 LR) := R6s1_0_3.out.keep fun a ha => kn12.block _ ⟨(HL6.out a ha).1, Nat.lt_of_lt_of_le (HL6.out a ha).2 BELs1_0_3.out.size, fun y hy => HN6.out a ha y hy⟩
          have HWM : Hid (W.heap.size ≤ W12.heap.size) := hR12.kg.size
          rw [hW12]
          clear hR12 kg12 kb12 kn12 HFs1_0_3_4 HHs1_0_3_4 R6s1_0_3 ORs1_0_3 hW12
          gi_wp2_with fail
          have BELd := Lib.hid (below_drew (Below.refl W12.heap.size W12))
          have ORd := Lib.hid (HOR12.out.below (below_drew (Below.refl _ _)))
          have R6d := Lib.hid (HR612.out.below (below_drew (Below.refl _ _)))
          refine only_normal ?_
          refine wpIn_region_any mixed ?_
          change wpAnyIn _ _ _ _ _ _ _ _ _ (World.drew _)
          refine wpAnyIn_take (i := 0) (v := ?_) rfl rfl (by kernel_rfl) (by kernel_rfl) (by kernel_rfl) (by first | exact fun _ _ _ h => h | exact fun _ _ _ h => absurd h.1 (by simp)) ⟨Or.inl ⟨by rfl, ?_⟩, fun _ => rfl⟩ ?_
          rotate_left
          · intro ww
            go_simp
            (try with_reducible rfl)
          simp only [Act.put, List.setIfInBounds_toArray, List.set_cons_zero, List.set_cons_succ]
          refine wpAnyIn_ready (rs := [1, 3]) (by kernel_rfl) (by simp) ?_
          refine AllReadyIn.cons (o := ⟨some 54, _, _, _, _, _⟩) rfl (fun K hK => ?_) (AllReadyIn.cons (o := ⟨some 56, _, _, _, _, _⟩) rfl (fun K hK => ?_) (AllReadyIn.nil))
          · skip
            have q := ORd.out.ha.cell 0 rfl
            have z := cell_lt q
            go_simp
            clear q z
            refine hK _ _ ?_
            clear hK K
            (try simp only [Act.put, List.setIfInBounds_toArray, List.set_cons_zero, List.set_cons_succ])
            refine wpAnyIn_ready (rs := [2, 3]) (by kernel_rfl) (by simp) ?_
            refine AllReadyIn.cons (o := ⟨some 55, _, _, _, _, _⟩) rfl (fun K hK => ?_) (AllReadyIn.cons (o := ⟨some 56, _, _, _, _, _⟩) rfl (fun K hK => ?_) (AllReadyIn.nil))
            · skip
              go_simp
              refine ⟨trivial, rfl, (callsIn_wide.2 (HNO.out _ Ps1_0_3_4 ps1_0_3_4 (ORd.out.t.a.spans ((FQ.out N).append FRS.out)) (by rw [List.length_append]; have := Z2.out; omega))).mono ?_⟩
              rintro e ws1_2 ⟨As1_2, cs1_2, rfl, rs1_2, hbs1_2⟩
              have ORs1_2 := Lib.hid (ORd.out.below hbs1_2)
              have R6s1_2 := Lib.hid (R6d.out.below hbs1_2)
              have BELs1_2 := Lib.hid (bel_on BELd.out hbs1_2)
              clear hbs1_2
              have R7os1_2 := Lib.hid (rs1_2.mono (show _ ≤ _ from BELd.out.size))
              clear rs1_2
              refine hK _ _ ?_
              clear hK K
              (try simp only [Act.put, List.setIfInBounds_toArray, List.set_cons_zero, List.set_cons_succ])
              refine wpAnyIn_ready (rs := [3]) (by kernel_rfl) (by simp) ?_
              refine AllReadyIn.cons (o := ⟨some 56, _, _, _, _, _⟩) rfl (fun K hK => ?_) (AllReadyIn.nil)
              have q := ORs1_2.out.hb.cell 0 rfl
              have z := cell_lt q
              go_simp
              clear q z
              refine hK _ _ ?_
              clear hK K
              (try simp only [Act.put, List.setIfInBounds_toArray, List.set_cons_zero, List.set_cons_succ])
              refine wpAnyIn_ready (rs := [4]) (by kernel_rfl) (by simp) ?_
              refine AllReadyIn.cons (o := ⟨some 57, _, _, _, _, _⟩) rfl (fun K hK => ?_) (AllReadyIn.nil)
              go_simp
              refine ⟨trivial, rfl, (callsIn_wide.2 (HND.out _ R r (ORs1_2.out.t.b.spans (FR.out N)) (by have := Z3.out; omega))).mono ?_⟩
              rintro e ws1_2_3_4 ⟨As1_2_3_4, cs1_2_3_4, rfl, rs1_2_3_4, hbs1_2_3_4⟩
              have ORs1_2_3_4 := Lib.hid (ORs1_2.out.below hbs1_2_3_4)
              have R6s1_2_3_4 := Lib.hid (R6s1_2.out.below hbs1_2_3_4)
              have R7os1_2_3_4 := Lib.hid (R7os1_2.out.below hbs1_2_3_4)
              have BELs1_2_3_4 := Lib.hid (bel_on BELs1_2.out hbs1_2_3_4)
              clear hbs1_2_3_4
              have R8os1_2_3_4 := Lib.hid (rs1_2_3_4.mono (show _ ≤ _ from BELs1_2.out.size))
              clear rs1_2_3_4
              refine hK _ _ ?_
              clear hK K
              (try simp only [Act.put, List.setIfInBounds_toArray, List.set_cons_zero, List.set_cons_succ])
              refine wpAnyIn_ready (rs := [5]) (by kernel_rfl) (by simp) ?_
              refine AllReadyIn.cons (o := ⟨some 6, _, _, _, _, _⟩) rfl (fun K hK => ?_) (AllReadyIn.nil)
              go_simp
              refine hK _ _ ?_
              clear hK K
              (try simp only [Act.put, List.setIfInBounds_toArray, List.set_cons_zero, List.set_cons_succ])
              refine wpAnyIn_ready (rs := [6]) (by kernel_rfl) (by simp) ?_
              refine AllReadyIn.cons (o := ⟨none, _, _, _, _, _⟩) rfl (fun K hK => ?_) (AllReadyIn.nil)
              have q := ORs1_2_3_4.out.ha.cell 0 rfl
              have q2 := ORs1_2_3_4.out.ha.frozen 0
              have z := cell_lt q
              go_simp
              clear q z q2
              refine hK _ _ ?_
              clear hK K
              (try simp only [Act.put, List.setIfInBounds_toArray, List.set_cons_zero, List.set_cons_succ])
              refine wpAnyIn_ready (rs := [7]) (by kernel_rfl) (by simp) ?_
              refine AllReadyIn.cons (o := ⟨none, _, _, _, _, _⟩) rfl (fun K hK => ?_) (AllReadyIn.nil)
              have q := (ORs1_2_3_4.out.hb.far (p := ⟨g7, 0, none⟩) (by show g8 ≠ g7; omega) (.slice As1_2 LO.length cs1_2)).cell 0 rfl
              have q2 := (ORs1_2_3_4.out.hb.far (p := ⟨g7, 0, none⟩) (by show g8 ≠ g7; omega) (.slice As1_2 LO.length cs1_2)).frozen 0
              have z := cell_lt q
              go_simp
              clear q z q2
              refine hK _ _ ?_
              clear hK K
              (try simp only [Act.put, List.setIfInBounds_toArray, List.set_cons_zero, List.set_cons_succ])
              refine wpAnyIn_done (by kernel_rfl) ?_ _
              refine ⟨rfl, ?_⟩
              have hOR := ORs1_2_3_4.out
              have hbs := HBS.out
              have hne : g7 ≠ g8 := by omega
              obtain ⟨Wz, hWz⟩ : ∃ Wz, (ws1_2_3_4.setCell ⟨g7, 0, none⟩ (.slice As1_2 LO.length cs1_2)).setCell ⟨g8, 0, none⟩ (.slice As1_2_3_4 LD.length cs1_2_3_4) = Wz := ⟨_, rfl⟩
              have hs7 : ws1_2_3_4.heap.size ≤ Wz.heap.size := by rw [← hWz]; simp
              have y7 : Has Wz g7 #[.slice As1_2 LO.length cs1_2] := by rw [← hWz]; exact (hOR.ha.set 0 _).far (p := ⟨g8, 0, none⟩) hne _
              have y8 : Has Wz g8 #[.slice As1_2_3_4 LD.length cs1_2_3_4] := by rw [← hWz]; exact (hOR.hb.far (p := ⟨g7, 0, none⟩) hne.symm _).set 0 _
              have far : ∀ {A0 : Option Addr} {m0 : Nat} {L0 : List (Int × Int)}, Row ws1_2_3_4 W.heap.size A0 m0 L0 → Row Wz W.heap.size A0 m0 L0 := fun {A0 m0 L0} h0 => by
                rw [← hWz]
                exact (h0.far (p := ⟨g7, 0, none⟩) (fun a ha => by have := (h0.lt a ha).1; show a.block ≠ g7; omega) _).far (p := ⟨g8, 0, none⟩) (fun a ha => by have := (h0.lt a ha).1; show a.block ≠ g8; omega) _
              have k6 := far R6s1_2_3_4.out
              have k7 := far (R7os1_2_3_4.out.mono HWM.out)
              have k8 := far (R8os1_2_3_4.out.mono HWM.out)
              have bz : Below w.heap.size w Wz := by
                have b1 := HBW.out.trans (hOR.kb.below (B := w.heap.size) fun i hi => ⟨by omega, by omega, by omega, by omega⟩)
                rw [← hWz]
                exact bel_set (p := ⟨g8, 0, none⟩) (bel_set (p := ⟨g7, 0, none⟩) b1 (by show w.heap.size ≤ g7; omega) _) (by show w.heap.size ≤ g8; omega) _
              have hK : Wz.heap[D]? = some (.deferred (some [])) := by
                have := (hOR.kf 0).same D _ (Nat.zero_le _) HDEF.out rfl
                rw [← hWz, Below.heap_setCell _ _ _ _ (by show D ≠ g8; omega), Below.heap_setCell _ _ _ _ (by show D ≠ g7; omega)]
                exact this
              have c7 := (ohas_put y7 (.deferred none) hK rfl).cell 0 rfl
              have c8 := (ohas_put y8 (.deferred none) hK rfl).cell 0 rfl
              have hWw : w.heap.size ≤ W.heap.size := HBW.out.size
              have HE := Lib.hid (And.intro c7 c8)
              have HRW := Lib.hid (And.intro ((orow_put k6 (.deferred none) hK rfl).mono hWw) (And.intro ((orow_put k7 (.deferred none) hK rfl).mono hWw) ((orow_put k8 (.deferred none) hK rfl).mono hWw)))
              have HBZ := Lib.hid (bz.trans (below_putObjL (.deferred none) (show w.heap.size ≤ D by omega)))
              clear hOR y7 y8 far k6 k7 k8 bz c7 c8
              rw [hWz]
              clear hWz hs7
              gi_wp2
              refine ⟨by simp, .inl ⟨_, _, rfl, run_takeDeferred hK, ?_⟩⟩
              refine ⟨.tuple #[.slice A6 LR.length c6, .slice As1_2 LO.length cs1_2, .slice As1_2_3_4 LD.length cs1_2_3_4], by simp [results, Tryz.results23, go_sem, HE.out.1, HE.out.2], ?_⟩
              exact ⟨_, _, _, _, _, _, rfl, HRW.out.1, HRW.out.2.1, HRW.out.2.2, HBZ.out⟩
            · skip
              have q := ORd.out.hb.cell 0 rfl
              have z := cell_lt q
              go_simp
              clear q z
              refine hK _ _ ?_
              clear hK K
              (try simp only [Act.put, List.setIfInBounds_toArray, List.set_cons_zero, List.set_cons_succ])
              refine wpAnyIn_ready (rs := [2]) (by kernel_rfl) (by simp) ?_
              refine AllReadyIn.cons (o := ⟨some 55, _, _, _, _, _⟩) rfl (fun K hK => ?_) (AllReadyIn.nil)
              go_simp
              refine ⟨trivial, rfl, (callsIn_wide.2 (HNO.out _ Ps1_0_3_4 ps1_0_3_4 (ORd.out.t.a.spans ((FQ.out N).append FRS.out)) (by rw [List.length_append]; have := Z2.out; omega))).mono ?_⟩
              rintro e ws1_3_2 ⟨As1_3_2, cs1_3_2, rfl, rs1_3_2, hbs1_3_2⟩
              have ORs1_3_2 := Lib.hid (ORd.out.below hbs1_3_2)
              have R6s1_3_2 := Lib.hid (R6d.out.below hbs1_3_2)
              have BELs1_3_2 := Lib.hid (bel_on BELd.out hbs1_3_2)
              clear hbs1_3_2
              have R7os1_3_2 := Lib.hid (rs1_3_2.mono (show _ ≤ _ from BELd.out.size))
              clear rs1_3_2
              refine hK _ _ ?_
              clear hK K
              (try simp only [Act.put, List.setIfInBounds_toArray, List.set_cons_zero, List.set_cons_succ])
              refine wpAnyIn_ready (rs := [4]) (by kernel_rfl) (by simp) ?_
              refine AllReadyIn.cons (o := ⟨some 57, _, _, _, _, _⟩) rfl (fun K hK => ?_) (AllReadyIn.nil)
              go_simp
              refine ⟨trivial, rfl, (callsIn_wide.2 (HND.out _ R r (ORs1_3_2.out.t.b.spans (FR.out N)) (by have := Z3.out; omega))).mono ?_⟩
              rintro e ws1_3_2_4 ⟨As1_3_2_4, cs1_3_2_4, rfl, rs1_3_2_4, hbs1_3_2_4⟩
              have ORs1_3_2_4 := Lib.hid (ORs1_3_2.out.below hbs1_3_2_4)
              have R6s1_3_2_4 := Lib.hid (R6s1_3_2.out.below hbs1_3_2_4)
              have R7os1_3_2_4 := Lib.hid (R7os1_3_2.out.below hbs1_3_2_4)
              have BELs1_3_2_4 := Lib.hid (bel_on BELs1_3_2.out hbs1_3_2_4)
              clear hbs1_3_2_4
              have R8os1_3_2_4 := Lib.hid (rs1_3_2_4.mono (show _ ≤ _ from BELs1_3_2.out.size))
              clear rs1_3_2_4
              refine hK _ _ ?_
              clear hK K
              (try simp only [Act.put, List.setIfInBounds_toArray, List.set_cons_zero, List.set_cons_succ])
              refine wpAnyIn_ready (rs := [5]) (by kernel_rfl) (by simp) ?_
              refine AllReadyIn.cons (o := ⟨some 6, _, _, _, _, _⟩) rfl (fun K hK => ?_) (AllReadyIn.nil)
              go_simp
              refine hK _ _ ?_
              clear hK K
              (try simp only [Act.put, List.setIfInBounds_toArray, List.set_cons_zero, List.set_cons_succ])
              refine wpAnyIn_ready (rs := [6]) (by kernel_rfl) (by simp) ?_
              refine AllReadyIn.cons (o := ⟨none, _, _, _, _, _⟩) rfl (fun K hK => ?_) (AllReadyIn.nil)
              have q := ORs1_3_2_4.out.ha.cell 0 rfl
              have q2 := ORs1_3_2_4.out.ha.frozen 0
              have z := cell_lt q
              go_simp
              clear q z q2
              refine hK _ _ ?_
              clear hK K
              (try simp only [Act.put, List.setIfInBounds_toArray, List.set_cons_zero, List.set_cons_succ])
              refine wpAnyIn_ready (rs := [7]) (by kernel_rfl) (by simp) ?_
              refine AllReadyIn.cons (o := ⟨none, _, _, _, _, _⟩) rfl (fun K hK => ?_) (AllReadyIn.nil)
              have q := (ORs1_3_2_4.out.hb.far (p := ⟨g7, 0, none⟩) (by show g8 ≠ g7; omega) (.slice As1_3_2 LO.length cs1_3_2)).cell 0 rfl
              have q2 := (ORs1_3_2_4.out.hb.far (p := ⟨g7, 0, none⟩) (by show g8 ≠ g7; omega) (.slice As1_3_2 LO.length cs1_3_2)).frozen 0
              have z := cell_lt q
              go_simp
              clear q z q2
              refine hK _ _ ?_
              clear hK K
              (try simp only [Act.put, List.setIfInBounds_toArray, List.set_cons_zero, List.set_cons_succ])
              refine wpAnyIn_done (by kernel_rfl) ?_ _
              refine ⟨rfl, ?_⟩
              have hOR := ORs1_3_2_4.out
              have hbs := HBS.out
              have hne : g7 ≠ g8 := by omega
              obtain ⟨Wz, hWz⟩ : ∃ Wz, (ws1_3_2_4.setCell ⟨g7, 0, none⟩ (.slice As1_3_2 LO.length cs1_3_2)).setCell ⟨g8, 0, none⟩ (.slice As1_3_2_4 LD.length cs1_3_2_4) = Wz := ⟨_, rfl⟩
              have hs7 : ws1_3_2_4.heap.size ≤ Wz.heap.size := by rw [← hWz]; simp
              have y7 : Has Wz g7 #[.slice As1_3_2 LO.length cs1_3_2] := by rw [← hWz]; exact (hOR.ha.set 0 _).far (p := ⟨g8, 0, none⟩) hne _
              have y8 : Has Wz g8 #[.slice As1_3_2_4 LD.length cs1_3_2_4] := by rw [← hWz]; exact (hOR.hb.far (p := ⟨g7, 0, none⟩) hne.symm _).set 0 _
              have far : ∀ {A0 : Option Addr} {m0 : Nat} {L0 : List (Int × Int)}, Row ws1_3_2_4 W.heap.size A0 m0 L0 → Row Wz W.heap.size A0 m0 L0 := fun {A0 m0 L0} h0 => by
                rw [← hWz]
                exact (h0.far (p := ⟨g7, 0, none⟩) (fun a ha => by have := (h0.lt a ha).1; show a.block ≠ g7; omega) _).far (p := ⟨g8, 0, none⟩) (fun a ha => by have := (h0.lt a ha).1; show a.block ≠ g8; omega) _
              have k6 := far R6s1_3_2_4.out
              have k7 := far (R7os1_3_2_4.out.mono HWM.out)
              have k8 := far (R8os1_3_2_4.out.mono HWM.out)
              have bz : Below w.heap.size w Wz := by
                have b1 := HBW.out.trans (hOR.kb.below (B := w.heap.size) fun i hi => ⟨by omega, by omega, by omega, by omega⟩)
                rw [← hWz]
                exact bel_set (p := ⟨g8, 0, none⟩) (bel_set (p := ⟨g7, 0, none⟩) b1 (by show w.heap.size ≤ g7; omega) _) (by show w.heap.size ≤ g8; omega) _
              have hK : Wz.heap[D]? = some (.deferred (some [])) := by
                have := (hOR.kf 0).same D _ (Nat.zero_le _) HDEF.out rfl
                rw [← hWz, Below.heap_setCell _ _ _ _ (by show D ≠ g8; omega), Below.heap_setCell _ _ _ _ (by show D ≠ g7; omega)]
                exact this
              have c7 := (ohas_put y7 (.deferred none) hK rfl).cell 0 rfl
              have c8 := (ohas_put y8 (.deferred none) hK rfl).cell 0 rfl
              have hWw : w.heap.size ≤ W.heap.size := HBW.out.size
              have HE := Lib.hid (And.intro c7 c8)
              have HRW := Lib.hid (And.intro ((orow_put k6 (.deferred none) hK rfl).mono hWw) (And.intro ((orow_put k7 (.deferred none) hK rfl).mono hWw) ((orow_put k8 (.deferred none) hK rfl).mono hWw)))
              have HBZ := Lib.hid (bz.trans (below_putObjL (.deferred none) (show w.heap.size ≤ D by omega)))
              clear hOR y7 y8 far k6 k7 k8 bz c7 c8
              rw [hWz]
              clear hWz hs7
              gi_wp2
              refine ⟨by simp, .inl ⟨_, _, rfl, run_takeDeferred hK, ?_⟩⟩
              refine ⟨.tuple #[.slice A6 LR.length c6, .slice As1_3_2 LO.length cs1_3_2, .slice As1_3_2_4 LD.length cs1_3_2_4], by simp [results, Tryz.results23, go_sem, HE.out.1, HE.out.2], ?_⟩
              exact ⟨_, _, _, _, _, _, rfl, HRW.out.1, HRW.out.2.1, HRW.out.2.2, HBZ.out⟩
          · skip
            have q := ORd.out.hb.cell 0 rfl
            have z := cell_lt q
            go_simp
            clear q z
            refine hK _ _ ?_
            clear hK K
            (try simp only [Act.put, List.setIfInBounds_toArray, List.set_cons_zero, List.set_cons_succ])
            refine wpAnyIn_ready (rs := [1]) (by kernel_rfl) (by simp) ?_
            refine AllReadyIn.cons (o := ⟨some 54, _, _, _, _, _⟩) rfl (fun K hK => ?_) (AllReadyIn.nil)
            have q := ORd.out.ha.cell 0 rfl
            have z := cell_lt q
            go_simp
            clear q z
            refine hK _ _ ?_
            clear hK K
            (try simp only [Act.put, List.setIfInBounds_toArray, List.set_cons_zero, List.set_cons_succ])
            refine wpAnyIn_ready (rs := [2]) (by kernel_rfl) (by simp) ?_
            refine AllReadyIn.cons (o := ⟨some 55, _, _, _, _, _⟩) rfl (fun K hK => ?_) (AllReadyIn.nil)
            go_simp
            refine ⟨trivial, rfl, (callsIn_wide.2 (HNO.out _ Ps1_0_3_4 ps1_0_3_4 (ORd.out.t.a.spans ((FQ.out N).append FRS.out)) (by rw [List.length_append]; have := Z2.out; omega))).mono ?_⟩
            rintro e ws3_1_2 ⟨As3_1_2, cs3_1_2, rfl, rs3_1_2, hbs3_1_2⟩
            have ORs3_1_2 := Lib.hid (ORd.out.below hbs3_1_2)
            have R6s3_1_2 := Lib.hid (R6d.out.below hbs3_1_2)
            have BELs3_1_2 := Lib.hid (bel_on BELd.out hbs3_1_2)
            clear hbs3_1_2
            have R7os3_1_2 := Lib.hid (rs3_1_2.mono (show _ ≤ _ from BELd.out.size))
            clear rs3_1_2
            refine hK _ _ ?_
            clear hK K
            (try simp only [Act.put, List.setIfInBounds_toArray, List.set_cons_zero, List.set_cons_succ])
            refine wpAnyIn_ready (rs := [4]) (by kernel_rfl) (by simp) ?_
            refine AllReadyIn.cons (o := ⟨some 57, _, _, _, _, _⟩) rfl (fun K hK => ?_) (AllReadyIn.nil)
            go_simp
            refine ⟨trivial, rfl, (callsIn_wide.2 (HND.out _ R r (ORs3_1_2.out.t.b.spans (FR.out N)) (by have := Z3.out; omega))).mono ?_⟩
            rintro e ws3_1_2_4 ⟨As3_1_2_4, cs3_1_2_4, rfl, rs3_1_2_4, hbs3_1_2_4⟩
            have ORs3_1_2_4 := Lib.hid (ORs3_1_2.out.below hbs3_1_2_4)
            have R6s3_1_2_4 := Lib.hid (R6s3_1_2.out.below hbs3_1_2_4)
            have R7os3_1_2_4 := Lib.hid (R7os3_1_2.out.below hbs3_1_2_4)
            have BELs3_1_2_4 := Lib.hid (bel_on BELs3_1_2.out hbs3_1_2_4)
            clear hbs3_1_2_4
            have R8os3_1_2_4 := Lib.hid (rs3_1_2_4.mono (show _ ≤ _ from BELs3_1_2.out.size))
            clear rs3_1_2_4
            refine hK _ _ ?_
            clear hK K
            (try simp only [Act.put, List.setIfInBounds_toArray, List.set_cons_zero, List.set_cons_succ])
            refine wpAnyIn_ready (rs := [5]) (by kernel_rfl) (by simp) ?_
            refine AllReadyIn.cons (o := ⟨some 6, _, _, _, _, _⟩) rfl (fun K hK => ?_) (AllReadyIn.nil)
            go_simp
            refine hK _ _ ?_
            clear hK K
            (try simp only [Act.put, List.setIfInBounds_toArray, List.set_cons_zero, List.set_cons_succ])
            refine wpAnyIn_ready (rs := [6]) (by kernel_rfl) (by simp) ?_
            refine AllReadyIn.cons (o := ⟨none, _, _, _, _, _⟩) rfl (fun K hK => ?_) (AllReadyIn.nil)
            have q := ORs3_1_2_4.out.ha.cell 0 rfl
            have q2 := ORs3_1_2_4.out.ha.frozen 0
            have z := cell_lt q
            go_simp
            clear q z q2
            refine hK _ _ ?_
            clear hK K
            (try simp only [Act.put, List.setIfInBounds_toArray, List.set_cons_zero, List.set_cons_succ])
            refine wpAnyIn_ready (rs := [7]) (by kernel_rfl) (by simp) ?_
            refine AllReadyIn.cons (o := ⟨none, _, _, _, _, _⟩) rfl (fun K hK => ?_) (AllReadyIn.nil)
            have q := (ORs3_1_2_4.out.hb.far (p := ⟨g7, 0, none⟩) (by show g8 ≠ g7; omega) (.slice As3_1_2 LO.length cs3_1_2)).cell 0 rfl
            have q2 := (ORs3_1_2_4.out.hb.far (p := ⟨g7, 0, none⟩) (by show g8 ≠ g7; omega) (.slice As3_1_2 LO.length cs3_1_2)).frozen 0
            have z := cell_lt q
            go_simp
            clear q z q2
            refine hK _ _ ?_
            clear hK K
            (try simp only [Act.put, List.setIfInBounds_toArray, List.set_cons_zero, List.set_cons_succ])
            refine wpAnyIn_done (by kernel_rfl) ?_ _
            refine ⟨rfl, ?_⟩
            have hOR := ORs3_1_2_4.out
            have hbs := HBS.out
            have hne : g7 ≠ g8 := by omega
            obtain ⟨Wz, hWz⟩ : ∃ Wz, (ws3_1_2_4.setCell ⟨g7, 0, none⟩ (.slice As3_1_2 LO.length cs3_1_2)).setCell ⟨g8, 0, none⟩ (.slice As3_1_2_4 LD.length cs3_1_2_4) = Wz := ⟨_, rfl⟩
            have hs7 : ws3_1_2_4.heap.size ≤ Wz.heap.size := by rw [← hWz]; simp
            have y7 : Has Wz g7 #[.slice As3_1_2 LO.length cs3_1_2] := by rw [← hWz]; exact (hOR.ha.set 0 _).far (p := ⟨g8, 0, none⟩) hne _
            have y8 : Has Wz g8 #[.slice As3_1_2_4 LD.length cs3_1_2_4] := by rw [← hWz]; exact (hOR.hb.far (p := ⟨g7, 0, none⟩) hne.symm _).set 0 _
            have far : ∀ {A0 : Option Addr} {m0 : Nat} {L0 : List (Int × Int)}, Row ws3_1_2_4 W.heap.size A0 m0 L0 → Row Wz W.heap.size A0 m0 L0 := fun {A0 m0 L0} h0 => by
              rw [← hWz]
              exact (h0.far (p := ⟨g7, 0, none⟩) (fun a ha => by have := (h0.lt a ha).1; show a.block ≠ g7; omega) _).far (p := ⟨g8, 0, none⟩) (fun a ha => by have := (h0.lt a ha).1; show a.block ≠ g8; omega) _
            have k6 := far R6s3_1_2_4.out
            have k7 := far (R7os3_1_2_4.out.mono HWM.out)
            have k8 := far (R8os3_1_2_4.out.mono HWM.out)
            have bz : Below w.heap.size w Wz := by
              have b1 := HBW.out.trans (hOR.kb.below (B := w.heap.size) fun i hi => ⟨by omega, by omega, by omega, by omega⟩)
              rw [← hWz]
              exact bel_set (p := ⟨g8, 0, none⟩) (bel_set (p := ⟨g7, 0, none⟩) b1 (by show w.heap.size ≤ g7; omega) _) (by show w.heap.size ≤ g8; omega) _
            have hK : Wz.heap[D]? = some (.deferred (some [])) := by
              have := (hOR.kf 0).same D _ (Nat.zero_le _) HDEF.out rfl
              rw [← hWz, Below.heap_setCell _ _ _ _ (by show D ≠ g8; omega), Below.heap_setCell _ _ _ _ (by show D ≠ g7; omega)]
              exact this
            have c7 := (ohas_put y7 (.deferred none) hK rfl).cell 0 rfl
            have c8 := (ohas_put y8 (.deferred none) hK rfl).cell 0 rfl
            have hWw : w.heap.size ≤ W.heap.size := HBW.out.size
            have HE := Lib.hid (And.intro c7 c8)
            have HRW := Lib.hid (And.intro ((orow_put k6 (.deferred none) hK rfl).mono hWw) (And.intro ((orow_put k7 (.deferred none) hK rfl).mono hWw) ((orow_put k8 (.deferred none) hK rfl).mono hWw)))
            have HBZ := Lib.hid (bz.trans (below_putObjL (.deferred none) (show w.heap.size ≤ D by omega)))
            clear hOR y7 y8 far k6 k7 k8 bz c7 c8
            rw [hWz]
            clear hWz hs7
            gi_wp2
            refine ⟨by simp, .inl ⟨_, _, rfl, run_takeDeferred hK, ?_⟩⟩
            refine ⟨.tuple #[.slice A6 LR.length c6, .slice As3_1_2 LO.length cs3_1_2, .slice As3_1_2_4 LD.length cs3_1_2_4], by simp [results, Tryz.results23, go_sem, HE.out.1, HE.out.2], ?_⟩
            exact ⟨_, _, _, _, _, _, rfl, HRW.out.1, HRW.out.2.1, HRW.out.2.2, HBZ.out⟩

        · skip
          go_simp
          refine ⟨trivial, rfl, (callsIn_wide.2 (HMI.out _ P p A6 c6 (ORd.out.t.e.spans (FP.out N)) (R6d.out.spans FLR.out) (by have := Z1.out; omega))).mono ?_⟩
          rintro e ws1_3 ⟨As1_3, cs1_3, rfl, rs1_3, hbs1_3⟩
          have ORs1_3 := Lib.hid (ORd.out.below hbs1_3)
          have R6s1_3 := Lib.hid (R6d.out.below hbs1_3)
          have BELs1_3 := Lib.hid (bel_on BELd.out hbs1_3)
          clear hbs1_3
          have R5os1_3 := Lib.hid (rs1_3.mono (show _ ≤ _ from BELd.out.size))
          clear rs1_3
          refine hK _ _ ?_
          clear hK K
          (try simp only [Act.put, List.setIfInBounds_toArray, List.set_cons_zero, List.set_cons_succ])
          refine wpAnyIn_ready (rs := [0]) (by kernel_rfl) (by simp) ?_
          refine AllReadyIn.cons (o := ⟨some 48, _, _, _, _, _⟩) rfl (fun K hK => ?_) (AllReadyIn.nil)
          have q := ORs1_3.out.ha.cell 0 rfl
          have z := cell_lt q
          go_simp
          clear q z
          refine hK _ _ ?_
          clear hK K
          (try simp only [Act.put, List.setIfInBounds_toArray, List.set_cons_zero, List.set_cons_succ])
          refine wpAnyIn_ready (rs := [4]) (by kernel_rfl) (by simp) ?_
          refine AllReadyIn.cons (o := ⟨some 52, _, _, _, _, _⟩) rfl (fun K hK => ?_) (AllReadyIn.nil)
          obtain ⟨Ps1_3_0_4, ps1_3_0_4, ws1_3_0_4, hrs1_3_0_4, hhs1_3_0_4, hfins1_3_0_4⟩ := ORs1_3.out.add (row_sl R5os1_3.out) (by have := Z2.out; omega)
          have HRs1_3_0_4 := Lib.hid hrs1_3_0_4
          have HFs1_3_0_4 := Lib.hid hfins1_3_0_4
          have HHs1_3_0_4 := Lib.hid hhs1_3_0_4
          clear hrs1_3_0_4 hfins1_3_0_4 hhs1_3_0_4
          rw [if_pos (by rfl)]
          refine owpIn_append_run HRs1_3_0_4.out rfl rfl rfl ?_
          refine hK _ _ ?_
          clear hK K
          (try simp only [Act.put, List.setIfInBounds_toArray, List.set_cons_zero, List.set_cons_succ])
          refine wpAnyIn_ready (rs := [5]) (by kernel_rfl) (by simp) ?_
          refine AllReadyIn.cons (o := ⟨none, _, _, _, _, _⟩) rfl (fun K hK => ?_) (AllReadyIn.nil)
          have q := HHs1_3_0_4.out.cell 0 rfl
          have z := cell_lt q
          have q2 := HHs1_3_0_4.out.frozen 0
          go_simp
          clear q z q2
          refine hK _ _ ?_
          clear hK K
          (try simp only [Act.put, List.setIfInBounds_toArray, List.set_cons_zero, List.set_cons_succ])
          refine wpAnyIn_done (by kernel_rfl) ?_ _
          refine ⟨rfl, ?_⟩
          obtain ⟨W12, hW12⟩ : ∃ W12, ws1_3_0_4.setCell ⟨g7, 0, none⟩ (.slice Ps1_3_0_4 ((Y2 N).length + RSq.length) ps1_3_0_4) = W12 := ⟨_, rfl⟩
          obtain ⟨hR12, kg12, kb12, kn12⟩ := HFs1_3_0_4.out W12 hW12
          have HOR12 := Lib.hid hR12
          have HR612 : Hid (Row W12 W.heap.size A6 c6 LR) := R6s1_3.out.keep fun a ha => kn12.block _ ⟨(HL6.out a ha).1, Nat.lt_of_lt_of_le (HL6.out a ha).2 BELs1_3.out.size, fun y hy => HN6.out a ha y hy⟩
          have HWM : Hid (W.heap.size ≤ W12.heap.size) := hR12.kg.size
          rw [hW12]
          clear hR12 kg12 kb12 kn12 HFs1_3_0_4 HHs1_3_0_4 R6s1_3 ORs1_3 hW12
          gi_wp2_with fail
          have BELd := Lib.hid (below_drew (Below.refl W12.heap.size W12))
          have ORd := Lib.hid (HOR12.out.below (below_drew (Below.refl _ _)))
          have R6d := Lib.hid (HR612.out.below (below_drew (Below.refl _ _)))
          refine only_normal ?_
          refine wpIn_region_any mixed ?_
          change wpAnyIn _ _ _ _ _ _ _ _ _ (World.drew _)
          refine wpAnyIn_take (i := 0) (v := ?_) rfl rfl (by kernel_rfl) (by kernel_rfl) (by kernel_rfl) (by first | exact fun _ _ _ h => h | exact fun _ _ _ h => absurd h.1 (by simp)) ⟨Or.inl ⟨by rfl, ?_⟩, fun _ => rfl⟩ ?_
          rotate_left
          · intro ww
            go_simp
            (try with_reducible rfl)
          simp only [Act.put, List.setIfInBounds_toArray, List.set_cons_zero, List.set_cons_succ]
          refine wpAnyIn_ready (rs := [1, 3]) (by kernel_rfl) (by simp) ?_
          refine AllReadyIn.cons (o := ⟨some 54, _, _, _, _, _⟩) rfl (fun K hK => ?_) (AllReadyIn.cons (o := ⟨some 56, _, _, _, _, _⟩) rfl (fun K hK => ?_) (AllReadyIn.nil))
          · skip
            have q := ORd.out.ha.cell 0 rfl
            have z := cell_lt q
            go_simp
            clear q z
            refine hK _ _ ?_
            clear hK K
            (try simp only [Act.put, List.setIfInBounds_toArray, List.set_cons_zero, List.set_cons_succ])
            refine wpAnyIn_ready (rs := [2, 3]) (by kernel_rfl) (by simp) ?_
            refine AllReadyIn.cons (o := ⟨some 55, _, _, _, _, _⟩) rfl (fun K hK => ?_) (AllReadyIn.cons (o := ⟨some 56, _, _, _, _, _⟩) rfl (fun K hK => ?_) (AllReadyIn.nil))
            · skip
              go_simp
              refine ⟨trivial, rfl, (callsIn_wide.2 (HNO.out _ Ps1_3_0_4 ps1_3_0_4 (ORd.out.t.a.spans ((FQ.out N).append FRS.out)) (by rw [List.length_append]; have := Z2.out; omega))).mono ?_⟩
              rintro e ws1_2 ⟨As1_2, cs1_2, rfl, rs1_2, hbs1_2⟩
              have ORs1_2 := Lib.hid (ORd.out.below hbs1_2)
              have R6s1_2 := Lib.hid (R6d.out.below hbs1_2)
              have BELs1_2 := Lib.hid (bel_on BELd.out hbs1_2)
              clear hbs1_2
              have R7os1_2 := Lib.hid (rs1_2.mono (show _ ≤ _ from BELd.out.size))
              clear rs1_2
              refine hK _ _ ?_
              clear hK K
              (try simp only [Act.put, List.setIfInBounds_toArray, List.set_cons_zero, List.set_cons_succ])
              refine wpAnyIn_ready (rs := [3]) (by kernel_rfl) (by simp) ?_
              refine AllReadyIn.cons (o := ⟨some 56, _, _, _, _, _⟩) rfl (fun K hK => ?_) (AllReadyIn.nil)
              have q := ORs1_2.out.hb.cell 0 rfl
              have z := cell_lt q
              go_simp
              clear q z
              refine hK _ _ ?_
              clear hK K
              (try simp only [Act.put, List.setIfInBounds_toArray, List.set_cons_zero, List.set_cons_succ])
              refine wpAnyIn_ready (rs := [4]) (by kernel_rfl) (by simp) ?_
              refine AllReadyIn.cons (o := ⟨some 57, _, _, _, _, _⟩) rfl (fun K hK => ?_) (AllReadyIn.nil)
              go_simp
              refine ⟨trivial, rfl, (callsIn_wide.2 (HND.out _ R r (ORs1_2.out.t.b.spans (FR.out N)) (by have := Z3.out; omega))).mono ?_⟩
              rintro e ws1_2_3_4 ⟨As1_2_3_4, cs1_2_3_4, rfl, rs1_2_3_4, hbs1_2_3_4⟩
              have ORs1_2_3_4 := Lib.hid (ORs1_2.out.below hbs1_2_3_4)
              have R6s1_2_3_4 := Lib.hid (R6s1_2.out.below hbs1_2_3_4)
              have R7os1_2_3_4 := Lib.hid (R7os1_2.out.below hbs1_2_3_4)
              have BELs1_2_3_4 := Lib.hid (bel_on BELs1_2.out hbs1_2_3_4)
              clear hbs1_2_3_4
              have R8os1_2_3_4 := Lib.hid (rs1_2_3_4.mono (show _ ≤ _ from BELs1_2.out.size))
              clear rs1_2_3_4
              refine hK _ _ ?_
              clear hK K
              (try simp only [Act.put, List.setIfInBounds_toArray, List.set_cons_zero, List.set_cons_succ])
              refine wpAnyIn_ready (rs := [5]) (by kernel_rfl) (by simp) ?_
              refine AllReadyIn.cons (o := ⟨some 6, _, _, _, _, _⟩) rfl (fun K hK => ?_) (AllReadyIn.nil)
              go_simp
              refine hK _ _ ?_
              clear hK K
              (try simp only [Act.put, List.setIfInBounds_toArray, List.set_cons_zero, List.set_cons_succ])
              refine wpAnyIn_ready (rs := [6]) (by kernel_rfl) (by simp) ?_
              refine AllReadyIn.cons (o := ⟨none, _, _, _, _, _⟩) rfl (fun K hK => ?_) (AllReadyIn.nil)
              have q := ORs1_2_3_4.out.ha.cell 0 rfl
              have q2 := ORs1_2_3_4.out.ha.frozen 0
              have z := cell_lt q
              go_simp
              clear q z q2
              refine hK _ _ ?_
              clear hK K
              (try simp only [Act.put, List.setIfInBounds_toArray, List.set_cons_zero, List.set_cons_succ])
              refine wpAnyIn_ready (rs := [7]) (by kernel_rfl) (by simp) ?_
              refine AllReadyIn.cons (o := ⟨none, _, _, _, _, _⟩) rfl (fun K hK => ?_) (AllReadyIn.nil)
              have q := (ORs1_2_3_4.out.hb.far (p := ⟨g7, 0, none⟩) (by show g8 ≠ g7; omega) (.slice As1_2 LO.length cs1_2)).cell 0 rfl
              have q2 := (ORs1_2_3_4.out.hb.far (p := ⟨g7, 0, none⟩) (by show g8 ≠ g7; omega) (.slice As1_2 LO.length cs1_2)).frozen 0
              have z := cell_lt q
              go_simp
              clear q z q2
              refine hK _ _ ?_
              clear hK K
              (try simp only [Act.put, List.setIfInBounds_toArray, List.set_cons_zero, List.set_cons_succ])
              refine wpAnyIn_done (by kernel_rfl) ?_ _
              refine ⟨rfl, ?_⟩
              have hOR := ORs1_2_3_4.out
              have hbs := HBS.out
              have hne : g7 ≠ g8 := by omega
              obtain ⟨Wz, hWz⟩ : ∃ Wz, (ws1_2_3_4.setCell ⟨g7, 0, none⟩ (.slice As1_2 LO.length cs1_2)).setCell ⟨g8, 0, none⟩ (.slice As1_2_3_4 LD.length cs1_2_3_4) = Wz := ⟨_, rfl⟩
              have hs7 : ws1_2_3_4.heap.size ≤ Wz.heap.size := by rw [← hWz]; simp
              have y7 : Has Wz g7 #[.slice As1_2 LO.length cs1_2] := by rw [← hWz]; exact (hOR.ha.set 0 _).far (p := ⟨g8, 0, none⟩) hne _
              have y8 : Has Wz g8 #[.slice As1_2_3_4 LD.length cs1_2_3_4] := by rw [← hWz]; exact (hOR.hb.far (p := ⟨g7, 0, none⟩) hne.symm _).set 0 _
              have far : ∀ {A0 : Option Addr} {m0 : Nat} {L0 : List (Int × Int)}, Row ws1_2_3_4 W.heap.size A0 m0 L0 → Row Wz W.heap.size A0 m0 L0 := fun {A0 m0 L0} h0 => by
                rw [← hWz]
                exact (h0.far (p := ⟨g7, 0, none⟩) (fun a ha => by have := (h0.lt a ha).1; show a.block ≠ g7; omega) _).far (p := ⟨g8, 0, none⟩) (fun a ha => by have := (h0.lt a ha).1; show a.block ≠ g8; omega) _
              have k6 := far R6s1_2_3_4.out
              have k7 := far (R7os1_2_3_4.out.mono HWM.out)
              have k8 := far (R8os1_2_3_4.out.mono HWM.out)
              have bz : Below w.heap.size w Wz := by
                have b1 := HBW.out.trans (hOR.kb.below (B := w.heap.size) fun i hi => ⟨by omega, by omega, by omega, by omega⟩)
                rw [← hWz]
                exact bel_set (p := ⟨g8, 0, none⟩) (bel_set (p := ⟨g7, 0, none⟩) b1 (by show w.heap.size ≤ g7; omega) _) (by show w.heap.size ≤ g8; omega) _
              have hK : Wz.heap[D]? = some (.deferred (some [])) := by
                have := (hOR.kf 0).same D _ (Nat.zero_le _) HDEF.out rfl
                rw [← hWz, Below.heap_setCell _ _ _ _ (by show D ≠ g8; omega), Below.heap_setCell _ _ _ _ (by show D ≠ g7; omega)]
                exact this
              have c7 := (ohas_put y7 (.deferred none) hK rfl).cell 0 rfl
              have c8 := (ohas_put y8 (.deferred none) hK rfl).cell 0 rfl
              have hWw : w.heap.size ≤ W.heap.size := HBW.out.size
              have HE := Lib.hid (And.intro c7 c8)
              have HRW := Lib.hid (And.intro ((orow_put k6 (.deferred none) hK rfl).mono hWw) (And.intro ((orow_put k7 (.deferred none) hK rfl).mono hWw) ((orow_put k8 (.deferred none) hK rfl).mono hWw)))
              have HBZ := Lib.hid (bz.trans (below_putObjL (.deferred none) (show w.heap.size ≤ D by omega)))
              clear hOR y7 y8 far k6 k7 k8 bz c7 c8
              rw [hWz]
              clear hWz hs7
              gi_wp2
              refine ⟨by simp, .inl ⟨_, _, rfl, run_takeDeferred hK, ?_⟩⟩
              refine ⟨.tuple #[.slice A6 LR.length c6, .slice As1_2 LO.length cs1_2, .slice As1_2_3_4 LD.length cs1_2_3_4], by simp [results, Tryz.results23, go_sem, HE.out.1, HE.out.2], ?_⟩
              exact ⟨_, _, _, _, _, _, rfl, HRW.out.1, HRW.out.2.1, HRW.out.2.2, HBZ.out⟩
            · skip
              have q := ORd.out.hb.cell 0 rfl
              have z := cell_lt q
              go_simp
              clear q z
              refine hK _ _ ?_
              clear hK K
              (try simp only [Act.put, List.setIfInBounds_toArray, List.set_cons_zero, List.set_cons_succ])
              refine wpAnyIn_ready (rs := [2]) (by kernel_rfl) (by simp) ?_
              refine AllReadyIn.cons (o := ⟨some 55, _, _, _, _, _⟩) rfl (fun K hK => ?_) (AllReadyIn.nil)
              go_simp
              refine ⟨trivial, rfl, (callsIn_wide.2 (HNO.out _ Ps1_3_0_4 ps1_3_0_4 (ORd.out.t.a.spans ((FQ.out N).append FRS.out)) (by rw [List.length_append]; have := Z2.out; omega))).mono ?_⟩
              rintro e ws1_3_2 ⟨As1_3_2, cs1_3_2, rfl, rs1_3_2, hbs1_3_2⟩
              have ORs1_3_2 := Lib.hid (ORd.out.below hbs1_3_2)
              have R6s1_3_2 := Lib.hid (R6d.out.below hbs1_3_2)
              have BELs1_3_2 := Lib.hid (bel_on BELd.out hbs1_3_2)
              clear hbs1_3_2
              have R7os1_3_2 := Lib.hid (rs1_3_2.mono (show _ ≤ _ from BELd.out.size))
              clear rs1_3_2
              refine hK _ _ ?_
              clear hK K
              (try simp only [Act.put, List.setIfInBounds_toArray, List.set_cons_zero, List.set_cons_succ])
              refine wpAnyIn_ready (rs := [4]) (by kernel_rfl) (by simp) ?_
              refine AllReadyIn.cons (o := ⟨some 57, _, _, _, _, _⟩) rfl (fun K hK => ?_) (AllReadyIn.nil)
              go_simp
              refine ⟨trivial, rfl, (callsIn_wide.2 (HND.out _ R r (ORs1_3_2.out.t.b.spans (FR.out N)) (by have := Z3.out; omega))).mono ?_⟩
              rintro e ws1_3_2_4 ⟨As1_3_2_4, cs1_3_2_4, rfl, rs1_3_2_4, hbs1_3_2_4⟩
              have ORs1_3_2_4 := Lib.hid (ORs1_3_2.out.below hbs1_3_2_4)
              have R6s1_3_2_4 := Lib.hid (R6s1_3_2.out.below hbs1_3_2_4)
              have R7os1_3_2_4 := Lib.hid (R7os1_3_2.out.below hbs1_3_2_4)
              have BELs1_3_2_4 := Lib.hid (bel_on BELs1_3_2.out hbs1_3_2_4)
              clear hbs1_3_2_4
              have R8os1_3_2_4 := Lib.hid (rs1_3_2_4.mono (show _ ≤ _ from BELs1_3_2.out.size))
              clear rs1_3_2_4
              refine hK _ _ ?_
              clear hK K
              (try simp only [Act.put, List.setIfInBounds_toArray, List.set_cons_zero, List.set_cons_succ])
              refine wpAnyIn_ready (rs := [5]) (by kernel_rfl) (by simp) ?_
              refine AllReadyIn.cons (o := ⟨some 6, _, _, _, _, _⟩) rfl (fun K hK => ?_) (AllReadyIn.nil)
              go_simp
              refine hK _ _ ?_
              clear hK K
              (try simp only [Act.put, List.setIfInBounds_toArray, List.set_cons_zero, List.set_cons_succ])
              refine wpAnyIn_ready (rs := [6]) (by kernel_rfl) (by simp) ?_
              refine AllReadyIn.cons (o := ⟨none, _, _, _, _, _⟩) rfl (fun K hK => ?_) (AllReadyIn.nil)
              have q := ORs1_3_2_4.out.ha.cell 0 rfl
              have q2 := ORs1_3_2_4.out.ha.frozen 0
              have z := cell_lt q
              go_simp
              clear q z q2
              refine hK _ _ ?_
              clear hK K
              (try simp only [Act.put, List.setIfInBounds_toArray, List.set_cons_zero, List.set_cons_succ])
              refine wpAnyIn_ready (rs := [7]) (by kernel_rfl) (by simp) ?_
              refine AllReadyIn.cons (o := ⟨none, _, _, _, _, _⟩) rfl (fun K hK => ?_) (AllReadyIn.nil)
              have q := (ORs1_3_2_4.out.hb.far (p := ⟨g7, 0, none⟩) (by show g8 ≠ g7; omega) (.slice As1_3_2 LO.length cs1_3_2)).cell 0 rfl
              have q2 := (ORs1_3_2_4.out.hb.far (p := ⟨g7, 0, none⟩) (by show g8 ≠ g7; omega) (.slice As1_3_2 LO.length cs1_3_2)).frozen 0
              have z := cell_lt q
              go_simp
              clear q z q2
              refine hK _ _ ?_
              clear hK K
              (try simp only [Act.put, List.setIfInBounds_toArray, List.set_cons_zero, List.set_cons_succ])
              refine wpAnyIn_done (by kernel_rfl) ?_ _
              refine ⟨rfl, ?_⟩
              have hOR := ORs1_3_2_4.out
              have hbs := HBS.out
              have hne : g7 ≠ g8 := by omega
              obtain ⟨Wz, hWz⟩ : ∃ Wz, (ws1_3_2_4.setCell ⟨g7, 0, none⟩ (.slice As1_3_2 LO.length cs1_3_2)).setCell ⟨g8, 0, none⟩ (.slice As1_3_2_4 LD.length cs1_3_2_4) = Wz := ⟨_, rfl⟩
              have hs7 : ws1_3_2_4.heap.size ≤ Wz.heap.size := by rw [← hWz]; simp
              have y7 : Has Wz g7 #[.slice As1_3_2 LO.length cs1_3_2] := by rw [← hWz]; exact (hOR.ha.set 0 _).far (p := ⟨g8, 0, none⟩) hne _
              have y8 : Has Wz g8 #[.slice As1_3_2_4 LD.length cs1_3_2_4] := by rw [← hWz]; exact (hOR.hb.far (p := ⟨g7, 0, none⟩) hne.symm _).set 0 _
              have far : ∀ {A0 : Option Addr} {m0 : Nat} {L0 : List (Int × Int)}, Row ws1_3_2_4 W.heap.size A0 m0 L0 → Row Wz W.heap.size A0 m0 L0 := fun {A0 m0 L0} h0 => by
                rw [← hWz]
                exact (h0.far (p := ⟨g7, 0, none⟩) (fun a ha => by have := (h0.lt a ha).1; show a.block ≠ g7; omega) _).far (p := ⟨g8, 0, none⟩) (fun a ha => by have := (h0.lt a ha).1; show a.block ≠ g8; omega) _
              have k6 := far R6s1_3_2_4.out
              have k7 := far (R7os1_3_2_4.out.mono HWM.out)
              have k8 := far (R8os1_3_2_4.out.mono HWM.out)
              have bz : Below w.heap.size w Wz := by
                have b1 := HBW.out.trans (hOR.kb.below (B := w.heap.size) fun i hi => ⟨by omega, by omega, by omega, by omega⟩)
                rw [← hWz]
                exact bel_set (p := ⟨g8, 0, none⟩) (bel_set (p := ⟨g7, 0, none⟩) b1 (by show w.heap.size ≤ g7; omega) _) (by show w.heap.size ≤ g8; omega) _
              have hK : Wz.heap[D]? = some (.deferred (some [])) := by
                have := (hOR.kf 0).same D _ (Nat.zero_le _) HDEF.out rfl
                rw [← hWz, Below.heap_setCell _ _ _ _ (by show D ≠ g8; omega), Below.heap_setCell _ _ _ _ (by show D ≠ g7; omega)]
                exact this
              have c7 := (ohas_put y7 (.deferred none) hK rfl).cell 0 rfl
              have c8 := (ohas_put y8 (.deferred none) hK rfl).cell 0 rfl
              have hWw : w.heap.size ≤ W.heap.size := HBW.out.size
              have HE := Lib.hid (And.intro c7 c8)
              have HRW := Lib.hid (And.intro ((orow_put k6 (.deferred none) hK rfl).mono hWw) (And.intro ((orow_put k7 (.deferred none) hK rfl).mono hWw) ((orow_put k8 (.deferred none) hK rfl).mono hWw)))
              have HBZ := Lib.hid (bz.trans (below_putObjL (.deferred none) (show w.heap.size ≤ D by omega)))
              clear hOR y7 y8 far k6 k7 k8 bz c7 c8
              rw [hWz]
              clear hWz hs7
              gi_wp2
              refine ⟨by simp, .inl ⟨_, _, rfl, run_takeDeferred hK, ?_⟩⟩
              refine ⟨.tuple #[.slice A6 LR.length c6, .slice As1_3_2 LO.length cs1_3_2, .slice As1_3_2_4 LD.length cs1_3_2_4], by simp [results, Tryz.results23, go_sem, HE.out.1, HE.out.2], ?_⟩
              exact ⟨_, _, _, _, _, _, rfl, HRW.out.1, HRW.out.2.1, HRW.out.2.2, HBZ.out⟩
          · skip
            have q := ORd.out.hb.cell 0 rfl
            have z := cell_lt q
            go_simp
            clear q z
            refine hK _ _ ?_
            clear hK K
            (try simp only [Act.put, List.setIfInBounds_toArray, List.set_cons_zero, List.set_cons_succ])
            refine wpAnyIn_ready (rs := [1]) (by kernel_rfl) (by simp) ?_
            refine AllReadyIn.cons (o := ⟨some 54, _, _, _, _, _⟩) rfl (fun K hK => ?_) (AllReadyIn.nil)
            have q := ORd.out.ha.cell 0 rfl
            have z := cell_lt q
            go_simp
            clear q z
            refine hK _ _ ?_
            clear hK K
            (try simp only [Act.put, List.setIfInBounds_toArray, List.set_cons_zero, List.set_cons_succ])
            refine wpAnyIn_ready (rs := [2]) (by kernel_rfl) (by simp) ?_
            refine AllReadyIn.cons (o := ⟨some 55, _, _, _, _, _⟩) rfl (fun K hK => ?_) (AllReadyIn.nil)
            go_simp
            refine ⟨trivial, rfl, (callsIn_wide.2 (HNO.out _ Ps1_3_0_4 ps1_3_0_4 (ORd.out.t.a.spans ((FQ.out N).append FRS.out)) (by rw [List.length_append]; have := Z2.out; omega))).mono ?_⟩
            rintro e ws3_1_2 ⟨As3_1_2, cs3_1_2, rfl, rs3_1_2, hbs3_1_2⟩
            have ORs3_1_2 := Lib.hid (ORd.out.below hbs3_1_2)
            have R6s3_1_2 := Lib.hid (R6d.out.below hbs3_1_2)
            have BELs3_1_2 := Lib.hid (bel_on BELd.out hbs3_1_2)
            clear hbs3_1_2
            have R7os3_1_2 := Lib.hid (rs3_1_2.mono (show _ ≤ _ from BELd.out.size))
            clear rs3_1_2
            refine hK _ _ ?_
            clear hK K
            (try simp only [Act.put, List.setIfInBounds_toArray, List.set_cons_zero, List.set_cons_succ])
            refine wpAnyIn_ready (rs := [4]) (by kernel_rfl) (by simp) ?_
            refine AllReadyIn.cons (o := ⟨some 57, _, _, _, _, _⟩) rfl (fun K hK => ?_) (AllReadyIn.nil)
            go_simp
            refine ⟨trivial, rfl, (callsIn_wide.2 (HND.out _ R r (ORs3_1_2.out.t.b.spans (FR.out N)) (by have := Z3.out; omega))).mono ?_⟩
            rintro e ws3_1_2_4 ⟨As3_1_2_4, cs3_1_2_4, rfl, rs3_1_2_4, hbs3_1_2_4⟩
            have ORs3_1_2_4 := Lib.hid (ORs3_1_2.out.below hbs3_1_2_4)
            have R6s3_1_2_4 := Lib.hid (R6s3_1_2.out.below hbs3_1_2_4)
            have R7os3_1_2_4 := Lib.hid (R7os3_1_2.out.below hbs3_1_2_4)
            have BELs3_1_2_4 := Lib.hid (bel_on BELs3_1_2.out hbs3_1_2_4)
            clear hbs3_1_2_4
            have R8os3_1_2_4 := Lib.hid (rs3_1_2_4.mono (show _ ≤ _ from BELs3_1_2.out.size))
            clear rs3_1_2_4
            refine hK _ _ ?_
            clear hK K
            (try simp only [Act.put, List.setIfInBounds_toArray, List.set_cons_zero, List.set_cons_succ])
            refine wpAnyIn_ready (rs := [5]) (by kernel_rfl) (by simp) ?_
            refine AllReadyIn.cons (o := ⟨some 6, _, _, _, _, _⟩) rfl (fun K hK => ?_) (AllReadyIn.nil)
            go_simp
            refine hK _ _ ?_
            clear hK K
            (try simp only [Act.put, List.setIfInBounds_toArray, List.set_cons_zero, List.set_cons_succ])
            refine wpAnyIn_ready (rs := [6]) (by kernel_rfl) (by simp) ?_
            refine AllReadyIn.cons (o := ⟨none, _, _, _, _, _⟩) rfl (fun K hK => ?_) (AllReadyIn.nil)
            have q := ORs3_1_2_4.out.ha.cell 0 rfl
            have q2 := ORs3_1_2_4.out.ha.frozen 0
            have z := cell_lt q
            go_simp
            clear q z q2
            refine hK _ _ ?_
            clear hK K
            (try simp only [Act.put, List.setIfInBounds_toArray, List.set_cons_zero, List.set_cons_succ])
            refine wpAnyIn_ready (rs := [7]) (by kernel_rfl) (by simp) ?_
            refine AllReadyIn.cons (o := ⟨none, _, _, _, _, _⟩) rfl (fun K hK => ?_) (AllReadyIn.nil)
            have q := (ORs3_1_2_4.out.hb.far (p := ⟨g7, 0, none⟩) (by show g8 ≠ g7; omega) (.slice As3_1_2 LO.length cs3_1_2)).cell 0 rfl
            have q2 := (ORs3_1_2_4.out.hb.far (p := ⟨g7, 0, none⟩) (by show g8 ≠ g7; omega) (.slice As3_1_2 LO.length cs3_1_2)).frozen 0
            have z := cell_lt q
            go_simp
            clear q z q2
            refine hK _ _ ?_
            clear hK K
            (try simp only [Act.put, List.setIfInBounds_toArray, List.set_cons_zero, List.set_cons_succ])
            refine wpAnyIn_done (by kernel_rfl) ?_ _
            refine ⟨rfl, ?_⟩
            have hOR := ORs3_1_2_4.out
            have hbs := HBS.out
            have hne : g7 ≠ g8 := by omega
            obtain ⟨Wz, hWz⟩ : ∃ Wz, (ws3_1_2_4.setCell ⟨g7, 0, none⟩ (.slice As3_1_2 LO.length cs3_1_2)).setCell ⟨g8, 0, none⟩ (.slice As3_1_2_4 LD.length cs3_1_2_4) = Wz := ⟨_, rfl⟩
            have hs7 : ws3_1_2_4.heap.size ≤ Wz.heap.size := by rw [← hWz]; simp
            have y7 : Has Wz g7 #[.slice As3_1_2 LO.length cs3_1_2] := by rw [← hWz]; exact (hOR.ha.set 0 _).far (p := ⟨g8, 0, none⟩) hne _
            have y8 : Has Wz g8 #[.slice As3_1_2_4 LD.length cs3_1_2_4] := by rw [← hWz]; exact (hOR.hb.far (p := ⟨g7, 0, none⟩) hne.symm _).set 0 _
            have far : ∀ {A0 : Option Addr} {m0 : Nat} {L0 : List (Int × Int)}, Row ws3_1_2_4 W.heap.size A0 m0 L0 → Row Wz W.heap.size A0 m0 L0 := fun {A0 m0 L0} h0 => by
              rw [← hWz]
              exact (h0.far (p := ⟨g7, 0, none⟩) (fun a ha => by have := (h0.lt a ha).1; show a.block ≠ g7; omega) _).far (p := ⟨g8, 0, none⟩) (fun a ha => by have := (h0.lt a ha).1; show a.block ≠ g8; omega) _
            have k6 := far R6s3_1_2_4.out
            have k7 := far (R7os3_1_2_4.out.mono HWM.out)
            have k8 := far (R8os3_1_2_4.out.mono HWM.out)
            have bz : Below w.heap.size w Wz := by
              have b1 := HBW.out.trans (hOR.kb.below (B := w.heap.size) fun i hi => ⟨by omega, by omega, by omega, by omega⟩)
              rw [← hWz]
              exact bel_set (p := ⟨g8, 0, none⟩) (bel_set (p := ⟨g7, 0, none⟩) b1 (by show w.heap.size ≤ g7; omega) _) (by show w.heap.size ≤ g8; omega) _
            have hK : Wz.heap[D]? = some (.deferred (some [])) := by
              have := (hOR.kf 0).same D _ (Nat.zero_le _) HDEF.out rfl
              rw [← hWz, Below.heap_setCell _ _ _ _ (by show D ≠ g8; omega), Below.heap_setCell _ _ _ _ (by show D ≠ g7; omega)]
              exact this
            have c7 := (ohas_put y7 (.deferred none) hK rfl).cell 0 rfl
            have c8 := (ohas_put y8 (.deferred none) hK rfl).cell 0 rfl
            have hWw : w.heap.size ≤ W.heap.size := HBW.out.size
            have HE := Lib.hid (And.intro c7 c8)
            have HRW := Lib.hid (And.intro ((orow_put k6 (.deferred none) hK rfl).mono hWw) (And.intro ((orow_put k7 (.deferred none) hK rfl).mono hWw) ((orow_put k8 (.deferred none) hK rfl).mono hWw)))
            have HBZ := Lib.hid (bz.trans (below_putObjL (.deferred none) (show w.heap.size ≤ D by omega)))
            clear hOR y7 y8 far k6 k7 k8 bz c7 c8
            rw [hWz]
            clear hWz hs7
            gi_wp2
            refine ⟨by simp, .inl ⟨_, _, rfl, run_takeDeferred hK, ?_⟩⟩
            refine ⟨.tuple #[.slice A6 LR.length c6, .slice As3_1_2 LO.length cs3_1_2, .slice As3_1_2_4 LD.length cs3_1_2_4], by simp [results, Tryz.results23, go_sem, HE.out.1, HE.out.2], ?_⟩
            exact ⟨_, _, _, _, _, _, rfl, HRW.out.1, HRW.out.2.1, HRW.out.2.2, HBZ.out⟩



end Go.Proofs.YtdlimgpmmkcgmaaGreat
