/-
  The law WayMore, walked.
-/
import Derived.Test.YtcnekicfblbafaaWayF
namespace Go.Proofs.Ytcnekicfblbafaa
open Go.RowKit
set_option linter.unusedVariables false
set_option linter.unusedSimpArgs false
set_option maxRecDepth 20000

theorem more_no {x q : Int} {c : Prop} [Decidable c] (hx : -1 ≤ x) (hq : c → 0 ≤ q) (h : ¬ (c ∧ (x < 0 ∨ q < x))) : shortI x (if c then q else -1) = x := by
  unfold shortI
  by_cases hc : c
  · have := hq hc
    rw [if_pos hc]
    have h2 : ¬ (x < 0 ∨ q < x) := fun e => h ⟨hc, e⟩
    rw [if_neg (by omega)]
  · rw [if_neg hc]
    split <;> omega
theorem more_yes {x q : Int} {c : Prop} [Decidable c] (hq : c → 0 ≤ q) (h : c ∧ (x < 0 ∨ q < x)) : shortI x (if c then q else -1) = q := by
  have := hq h.1
  unfold shortI
  rw [if_pos h.1, if_pos (by omega)]
theorem wp_append_run9 {P : Program} {o : Oper} {a : Act} {w w' : World} {K : Act → World → Prop} {Q : Exit → Act → World → Prop} {s x : Operand} {t : TypeId} {v u v' : Value}
    (hr : (Builtin.append_ #[t, t] o.type #[v, u]).run P w = .ok v' w')
    (ho : o.op = .call { callee := .builtin .append, args := #[s, x], argTypes := #[t, t] }) (hs : a.eval s = v) (hx : a.eval x = u)
    (h : K (a.put o.dst v') w') : o.wp P a w K Q := by
  unfold Oper.wp execOp
  simp only [ho, resolve, invoke, builtin, Sem.run_bind, Sem.run_pure, Result.andThen_ok, List.map_toArray, List.map_cons, List.map_nil, hs, hx, hr]
  exact h
theorem setC_one {w : World} {s : SetP} {cs : Array Value} (h : SetC w s cs) : cs.all (·.oneCell') = true := by
  obtain ⟨A1, A2, A3, A4, A5, A6, c1, c2, c3, c4, c5, c6, h1, h2⟩ := h
  exact (setV_cells _ _ _ _ _ _ _ _ _ _ _ _ _ _ h1).2
theorem way_info9 : (Try.prog.info? 39).map (fun i => (i.zero, i.size, i.bytes)) = some (some (.agg #[.int .i64 0, .int .i64 0, .int .i64 0]), 3, 24) := by kernel_rfl
/-- A slice of ways of the call's own, that lies at 'base' or behind. -/
def WRow (w : World) (base : Nat) (A : Option Addr) (n c : Nat) (rows : Rows2) : Prop := w.ownsRow base 39 3 (.slice A n c) n (ints .i64 rows.flatten)
theorem wrow_laid (w : World) {g : Nat} (hg : w.heap.size = g) {base : Nat} (hb : base ≤ g) : WRow (w.alloc (.cells #[] 39)) base (some ⟨g, 0, none⟩) 0 0 [] := by
  subst hg
  obtain ⟨h1, h2⟩ := own_new w 39 3 0 #[] rfl (by decide)
  refine ⟨h1, ?_⟩
  rcases h2 with ⟨e, _⟩ | ⟨g, cap, cur, e, hb2, rest⟩
  · cases e
  · exact .inr ⟨g, cap, cur, e, by omega, rest⟩
theorem WRow.keep {w w' : World} {base n c : Nat} {A : Option Addr} {rows : Rows2} (h : WRow w base A n c rows) (hk : ∀ g, A = some g → w'.heap[g.block]? = w.heap[g.block]?) : WRow w' base A n c rows := by
  obtain ⟨hl, hn | ⟨g, cap, cur, hv, hg, hh, rest⟩⟩ := h
  · exact ⟨hl, .inl hn⟩
  · injection hv with e1 e2 e3
    subst e1
    exact ⟨hl, .inr ⟨g, cap, cur, by rw [e3], hg, (hk _ rfl).trans hh, rest⟩⟩
theorem WRow.lt {w : World} {base n c : Nat} {A : Option Addr} {rows : Rows2} (h : WRow w base A n c rows) : ∀ g, A = some g → base ≤ g.block ∧ g.block < w.heap.size := by
  rintro g rfl
  exact World.ownsRow.lt h _ rfl
theorem WRow.alloc {w : World} {base n c : Nat} {A : Option Addr} {rows : Rows2} (h : WRow w base A n c rows) (o : Obj) : WRow (w.alloc o) base A n c rows := World.ownsRow.alloc h o
theorem WRow.tab {w : World} {base n c : Nat} {A : Option Addr} {rows : Rows2} (h : WRow w base A n c rows) (hn : rows.length = n) (hw : ∀ r ∈ rows, r.length = 3) (hs : ∀ r ∈ rows, ∀ z ∈ r, In64 z) : Tab 3 w A n c rows := by
  refine ⟨Sl.of_own h, hn, hw, hs, ?_, ?_⟩
  · obtain ⟨hl, ⟨hv, hz⟩ | ⟨g, cap, cur, hv, hb, hh, hc, hm, _⟩⟩ := h
    · injection hv with e1 e2 e3
      omega
    · injection hv with e1 e2 e3
      omega
  · obtain ⟨hl, ⟨hv, hz⟩ | ⟨g, cap, cur, hv, hb, hh, hc, hm, _⟩⟩ := h
    · injection hv with e1 e2 e3
      omega
    · injection hv with e1 e2 e3
      simp only [maxLen] at hm
      omega
theorem wrow_append {w : World} {base n c : Nat} {A : Option Addr} {rows : Rows2} (h : WRow w base A n c rows) {B : Option Addr} {m d : Nat} {ys : Rows2} (hs : Sl 3 w B m d (ints .i64 ys.flatten)) (k : Nat) (hk : n + m = k) (hb : k * 24 ≤ 140737488355328) (hbase : base ≤ w.heap.size) :
    ∃ A' c' w', (Builtin.append_ #[22, 22] 22 #[.slice A n c, .slice B m d]).run Try.prog w = .ok (.slice A' k c') w' ∧ WRow w' base A' k c' (rows ++ ys) ∧
      (∀ a : World, a.heap.size ≤ base → Below a.heap.size a w → Below a.heap.size a w') ∧ w.grownBy w' (Value.slice A n c).ownBlock := by
  obtain ⟨A', c', w', hr, ho, hg, hl⟩ := append_any (P := Try.prog) w base 22 22 39 _ 3 24 Try.underlying22 way_info9 rfl (by omega) h hs (ints_one .i64 ys.flatten) k hk (ints .i64 (rows ++ ys).flatten) (by simp [ints]) (by omega) hb hbase
  exact ⟨A', c', w', hr, ho, fun a ha hb => bel_grown hb h ha hg, hg⟩
theorem sl_way {w : World} {g : Nat} {u v m : Int} (h : Has w g #[.int .i64 u, .int .i64 v, .int .i64 m]) : Sl 3 w (some ⟨g, 0, none⟩) 1 1 (ints .i64 [[u, v, m]].flatten) := by
  refine ⟨rfl, .inr ⟨_, rfl, fun j x hx => ?_⟩⟩
  rw [tab_add, Nat.zero_add]
  refine h.cell j ?_
  simpa [ints] using hx
theorem has_grown {w w' : World} {g : Nat} {cs : Array Value} {row : Option Nat} (h : Has w g cs) (hg : w.grownBy w' row) (hne : row ≠ some g) : Has w' g cs := by
  have hl := h.size
  obtain ⟨t, h⟩ := h
  exact ⟨t, (hg.block g hl (fun e => hne e.symm)).trans h⟩
/-- What the region that joins the ways reads, and does not turn. -/
structure MoreS (N N3 : Nat) (cs : Array Value) (u v m : Int) (w : World) : Prop where
  set : Has w N cs
  way : Has w N3 #[.int .i64 u, .int .i64 v, .int .i64 m]
theorem MoreS.below {N N3 : Nat} {cs : Array Value} {u v m : Int} {w w' : World} (h : MoreS N N3 cs u v m w) (hb : Below w.heap.size w w') : MoreS N N3 cs u v m w' := ⟨h.set.below hb, h.way.below hb⟩
theorem MoreS.far {N N3 : Nat} {cs : Array Value} {u v m : Int} {w : World} (h : MoreS N N3 cs u v m w) {p : Addr} (h1 : N ≠ p.block) (h2 : N3 ≠ p.block) (x : Value) : MoreS N N3 cs u v m (w.setCell p x) := ⟨h.set.far h1 x, h.way.far h2 x⟩
theorem MoreS.drew {N N3 : Nat} {cs : Array Value} {u v m : Int} {w : World} (h : MoreS N N3 cs u v m w) : MoreS N N3 cs u v m w.drew := ⟨h.set.drew, h.way.drew⟩
/-- The setup with a way more. -/
def SetP.plus (s : SetP) (r : List Int) : SetP := { s with ways := s.ways ++ [r] }
theorem plus_fit {s : SetP} (h : s.Fit) (r : List Int) : (s.plus r).Fit := by
  obtain ⟨h0, h1, h2, h3, h4, h5, h6, h7, h8, h9, h10, h11, h12, h13, h14, h15, h16⟩ := h
  constructor <;> assumption
theorem plus_set {w w' : World} {s : SetP} {cs : Array Value} (h : SetC w s cs) (hb : Below w.heap.size w w') {r : List Int} {A : Option Addr} {c n : Nat} (hn : s.ways.length + 1 = n) (hT : Tab 3 w' A n c (s.ways ++ [r])) : SetC w' (s.plus r) (cs.setIfInBounds 1 (.slice A n c)) := by
  obtain ⟨A1, A2, A3, A4, A5, A6, c1, c2, c3, c4, c5, c6, h1, h2⟩ := h
  unfold setV at h1
  injection h1 with h1
  subst h1 hn
  have h3 := h2.below hb
  refine ⟨A, A2, A3, A4, A5, A6, c, c2, c3, c4, c5, c6, ?_, ?_, h3.elements, h3.classes, h3.gears, h3.rates, h3.tiers⟩
  · unfold setV SetP.plus
    simp
  · have : (s.plus r).ways.length = s.ways.length + 1 := by simp [SetP.plus]
    rw [this]
    exact hT
theorem fin3 {w w2 w6 : World} {s : SetP} {cs : Array Value} {A1 A : Option Addr} {c1 c W K6 : Nat} {u v m : Int} (HS : SetC w s cs) (HT1 : Tab 3 w A1 W c1 s.ways) (HBK : Has w2 K6 cs) (HMS : MoreS w.heap.size (w.heap.size + 1) cs u v m w2) (HBW : Below w.heap.size w w2) (HBB : Below w2.heap.size w2 w6)
    (hW : s.ways.length = W) (hrow : WRow w6 w2.heap.size A (W + 1) c (s.ways ++ [[u, v, m]])) (hU : In64 u ∧ In64 v ∧ In64 m) (h1 : w.heap.size + 1 < K6) (h2 : K6 < w2.heap.size) :
    Has (w6.setCell ⟨K6, 1, none⟩ (.slice A (W + 1) c)) K6 (cs.setIfInBounds 1 (.slice A (W + 1) c)) ∧ Tab 3 (w6.setCell ⟨K6, 1, none⟩ (.slice A (W + 1) c)) A (W + 1) c (s.ways ++ [[u, v, m]]) ∧ MoreS w.heap.size (w.heap.size + 1) cs u v m (w6.setCell ⟨K6, 1, none⟩ (.slice A (W + 1) c)) ∧
      SetC (w6.setCell ⟨K6, 1, none⟩ (.slice A (W + 1) c)) s cs ∧ Tab 3 (w6.setCell ⟨K6, 1, none⟩ (.slice A (W + 1) c)) A1 W c1 s.ways ∧ SetC (w6.setCell ⟨K6, 1, none⟩ (.slice A (W + 1) c)) (s.plus [u, v, m]) (cs.setIfInBounds 1 (.slice A (W + 1) c)) ∧ Below w.heap.size w (w6.setCell ⟨K6, 1, none⟩ (.slice A (W + 1) c)) := by
  have hb : Below w.heap.size w (w6.setCell ⟨K6, 1, none⟩ (.slice A (W + 1) c)) := bel_set (bel_on HBW HBB) (by show w.heap.size ≤ K6; omega) _
  have hT : Tab 3 (w6.setCell ⟨K6, 1, none⟩ (.slice A (W + 1) c)) A (W + 1) c (s.ways ++ [[u, v, m]]) := by
    refine WRow.tab (hrow.keep fun g hg => Below.heap_setCell w6 ⟨K6, 1, none⟩ _ g.block (by have := (hrow.lt g hg).1; show g.block ≠ K6; omega)) (by simp [hW]) ?_ ?_
    · intro r hr
      rcases List.mem_append.1 hr with q | q
      · exact HT1.wide r q
      · obtain rfl := List.mem_singleton.1 q
        rfl
    · intro r hr z hz
      rcases List.mem_append.1 hr with q | q
      · exact HT1.small r q z hz
      · obtain rfl := List.mem_singleton.1 q
        simp only [List.mem_cons, List.not_mem_nil, or_false] at hz
        rcases hz with rfl | rfl | rfl
        · exact hU.1
        · exact hU.2.1
        · exact hU.2.2
  exact ⟨(HBK.below HBB).set 1 _, hT, (HMS.below HBB).far (by show w.heap.size ≠ K6; omega) (by show w.heap.size + 1 ≠ K6; omega) _, HS.below hb, HT1.below hb, plus_set HS hb (by omega) hT, hb⟩
set_option maxHeartbeats 8000000 in
theorem wayMore_c {w : World} {s : SetP} {cs : Array Value} (h : SetC w s cs) (hf : s.Fit) (hsz : s.ways.length * 24 ≤ 140737488351232) (u v m : Int) (huvm : In64 u ∧ In64 v ∧ In64 m) :
    Calls Try.prog 7 #[.agg cs, .agg #[.int .i64 u, .int .i64 v, .int .i64 m]] w fun e w' => e = .returned (.bool true) ∧ Below w.heap.size w w' := by
  have HZ := Lib.hid h.size
  have HO := Lib.hid (setC_one h)
  have HS := Lib.hid h
  obtain ⟨A1, c1, g0, g1, hT1⟩ := setC_first h
  have HG := Lib.hid (And.intro g0 g1)
  have HT1 := Lib.hid hT1
  obtain ⟨W, hW⟩ : ∃ W, s.ways.length = W := ⟨_, rfl⟩
  rw [hW] at hsz HG HT1
  have HU : Hid (In64 u ∧ In64 v ∧ In64 m) := huvm
  have HS0 := HS
  have HT0 := HT1
  clear h g0 g1 hT1 huvm
  go_enter Try.func7, Try.ntmps7
  go_wp2_with fail
  refine (awake9 _).mono ?_
  rintro e w1 ⟨rfl, b1⟩
  have HB := Lib.hid (((Has.new w 30 cs rfl).alloc (.cells #[.int .i64 u, .int .i64 v, .int .i64 m] 39)).below b1)
  have H3 := Lib.hid ((Has.new (w.alloc (.cells cs 30)) 39 #[.int .i64 u, .int .i64 v, .int .i64 m] (s := w.heap.size + 1) (by simp)).below b1)
  replace b1 := bel_on (bel_alloc (bel_alloc (Below.refl _ _) _) _) b1
  replace HS := Lib.hid (HS.out.below b1)
  replace HT1 := Lib.hid (HT1.out.below b1)
  have HBW := Lib.hid b1
  have H3S := H3.out.size
  clear b1
  go_wp2_with (first | refine wpList_laidS cs 6 _ _ rfl rfl rfl rfl rfl rfl rfl rfl HZ.out HO.out ?_ | refine wpList_load_has (by rfl) _ rfl w.heap.size rfl cs HB.out HZ.out ?_)
  simp only [Act.put, List.setIfInBounds_toArray, List.set_cons_zero, List.set_cons_succ]
  have HBK := Lib.hid (Has.new w1 30 cs rfl)
  replace HB := Lib.hid (HB.out.alloc (.cells cs 30))
  replace H3 := Lib.hid (H3.out.alloc (.cells cs 30))
  have hNK := HBW.out.size
  have hsz1 : w.heap.size + 1 < w1.heap.size := H3S
  have hs2 : (w1.alloc (.cells cs 30)).heap.size = w1.heap.size + 1 := by simp
  replace HS := Lib.hid (HS.out.below (bel_alloc (Below.refl _ _) (.cells cs 30)))
  replace HT1 := Lib.hid (HT1.out.below (bel_alloc (Below.refl _ _) (.cells cs 30)))
  replace HBW := Lib.hid (bel_on HBW.out (bel_alloc (Below.refl _ _) (.cells cs 30)))
  obtain ⟨K6, hK6⟩ : ∃ K6, w1.heap.size = K6 := ⟨_, rfl⟩
  rw [hK6] at HBK hNK hsz1 hs2
  rw [hK6]
  generalize w1.alloc (.cells cs 30) = w2 at *
  have hK2 : K6 < w2.heap.size := by omega
  clear hK6 H3S hs2
  go_cut [] (fun wx => ∃ (A : Option Addr) (c : Nat), Hid (Has wx K6 (cs.setIfInBounds 1 (.slice A (W + 1) c)) ∧ Tab 3 wx A (W + 1) c (s.ways ++ [[u, v, m]]) ∧ MoreS w.heap.size (w.heap.size + 1) cs u v m wx ∧ SetC wx s cs ∧ Tab 3 wx A1 W c1 s.ways ∧ SetC wx (s.plus [u, v, m]) (cs.setIfInBounds 1 (.slice A (W + 1) c)) ∧ Below w.heap.size w wx))
  case first => as_aux_lemma =>
    have HMS : Hid (MoreS w.heap.size (w.heap.size + 1) cs u v m w2) := ⟨HB.out, H3.out⟩
    have HWL : Hid (W * 24 ≤ 140737488355328 ∧ (W + 1) * 24 ≤ 140737488355328) := by show _ ∧ _; omega
    clear HB H3 hsz
    refine wp_region_noPanic ?_
    refine wp_region_held_drew (S := MoreS w.heap.size (w.heap.size + 1) cs u v m) (by kernel_rfl) (HMS.out.drew) (fun hHeld => ?_)
    refine wpAnyH_take (i := 1) (oi := ⟨some 17, _, _, _, _, _⟩) (v := ?_) rfl (by kernel_rfl) (by kernel_rfl) (by kernel_rfl) (fun _ _ _ h => h) (Or.inl ⟨by rfl, ?_⟩) hHeld ?_
    rotate_left
    · intro ww hSw
      (try dsimp only at hSw)
      go_simp
      (try with_reducible rfl)
    simp only [Act.put, List.setIfInBounds_toArray, List.set_cons_zero, List.set_cons_succ]
    refine wpAnyH_take (i := 2) (oi := ⟨some 18, _, _, _, _, _⟩) (v := .slice A1 W c1) rfl (by kernel_rfl) (by kernel_rfl) (by kernel_rfl) (fun _ _ _ h => h) (Or.inl ⟨by rfl, ?_⟩) hHeld ?_
    · intro ww hSw
      (try dsimp only at hSw)
      have c_ := hSw.set.cell 1 HG.out.2
      have cl_ := cell_lt c_
      go_simp
    simp only [Act.put, List.setIfInBounds_toArray, List.set_cons_zero, List.set_cons_succ]
    refine wpAnyH_take (i := 4) (oi := ⟨some 20, _, _, _, _, _⟩) (v := .agg #[.int .i64 u, .int .i64 v, .int .i64 m]) rfl (by kernel_rfl) (by kernel_rfl) (by kernel_rfl) (fun _ _ _ h => h) (Or.inl ⟨by rfl, ?_⟩) hHeld ?_
    · intro ww hSw
      (try dsimp only at hSw)
      have c0_ := hSw.way.cell 0 rfl
      have c1_ := hSw.way.cell 1 rfl
      have c2_ := hSw.way.cell 2 rfl
      have cl_ := cell_lt c0_
      go_simp
    simp only [Act.put, List.setIfInBounds_toArray, List.set_cons_zero, List.set_cons_succ]
    refine wpAnyH_ready (rs := [0, 5]) (by kernel_rfl) (by simp) ?_
    refine AllReadyH.cons (o := ⟨some 16, _, _, _, _, _⟩) rfl (fun K hK => ?_) (AllReadyH.cons (o := ⟨some 21, _, _, _, _, _⟩) rfl (fun K hK => ?_) (AllReadyH.nil))
    · go_simp
      refine hK.out _ _ ?_ (fun hHeld => ?_)
      · (try dsimp only)
        exact HMS.out.below (below_drew (bel_alloc (Below.refl _ _) _))
      clear hK K
      (try simp only [Act.put, List.setIfInBounds_toArray, List.set_cons_zero, List.set_cons_succ])
      refine wpAnyH_ready (rs := [3, 5]) (by kernel_rfl) (by simp) ?_
      refine AllReadyH.cons (o := ⟨some 19, _, _, _, _, _⟩) rfl (fun K hK => ?_) (AllReadyH.cons (o := ⟨some 21, _, _, _, _, _⟩) rfl (fun K hK => ?_) (AllReadyH.nil))
      · have HE : WRow ((w2.alloc (.cells #[] 39)).drew) w2.heap.size (some ⟨w2.heap.size, 0, none⟩) 0 0 [] := wrow_laid w2 rfl (Nat.le_refl _)
        obtain ⟨A3, c3, w3, hr3, hrow3, hbel3, hg3⟩ := wrow_append (w := (w2.alloc (.cells #[] 39)).drew) HE (HT1.out.below (below_drew (bel_alloc (Below.refl _ _) _))).sl W (by omega) HWL.out.1 (by simp <;> omega)
        have HR3 := Lib.hid hr3
        rw [List.nil_append] at hrow3
        clear hr3
        have bel3 := hbel3 w2 (Nat.le_refl _) (below_drew (bel_alloc (Below.refl _ _) _))
        rw [if_pos (by rfl)]
        refine wp_append_run9 HR3.out rfl rfl rfl ?_
        refine hK.out _ _ ?_ (fun hHeld => ?_)
        · (try dsimp only)
          exact HMS.out.below bel3
        clear hK K
        (try simp only [Act.put, List.setIfInBounds_toArray, List.set_cons_zero, List.set_cons_succ])
        refine wpAnyH_ready (rs := [5]) (by kernel_rfl) (by simp) ?_
        refine AllReadyH.cons (o := ⟨some 21, _, _, _, _, _⟩) rfl (fun K hK => ?_) (AllReadyH.nil)
        go_simp
        refine hK.out _ _ ?_ (fun hHeld => ?_)
        · (try dsimp only)
          exact HMS.out.below (bel_alloc bel3 _)
        clear hK K
        (try simp only [Act.put, List.setIfInBounds_toArray, List.set_cons_zero, List.set_cons_succ])
        obtain ⟨A6, c6, w6, hr6, hrow6, hbel6, hg6⟩ := wrow_append (w := w3.alloc (.cells #[.int .i64 u, .int .i64 v, .int .i64 m] 39)) (hrow3.alloc _) (ys := [[u, v, m]]) (sl_way (Has.new w3 _ #[.int .i64 u, .int .i64 v, .int .i64 m] rfl)) (W + 1) rfl HWL.out.2 (by have := bel3.size; first | omega | (simp; omega))
        have HR6 := Lib.hid hr6
        clear hr6 hg6
        have bel6 := hbel6 w2 (Nat.le_refl _) (bel_alloc bel3 _)
        refine wpAnyH_ready (rs := [6]) (by kernel_rfl) (by simp) ?_
        refine AllReadyH.cons (o := ⟨some 22, _, _, _, _, _⟩) rfl (fun K hK => ?_) (AllReadyH.nil)
        rw [if_pos (by rfl)]
        refine wp_append_run9 HR6.out rfl rfl rfl ?_
        refine hK.out _ _ ?_ (fun hHeld => ?_)
        · (try dsimp only)
          exact HMS.out.below bel6
        clear hK K
        (try simp only [Act.put, List.setIfInBounds_toArray, List.set_cons_zero, List.set_cons_succ])
        have HFIN := Lib.hid (fin3 HS0.out HT0.out HBK.out HMS.out HBW.out bel6 hW hrow6 HU.out hsz1 (by omega))
        have HKK := Lib.hid (HBK.out.below bel6)
        have k1 := HKK.out.cell 1 HG.out.2
        have f1 := HKK.out.frozen 1
        have hk1 := cell_lt k1
        clear hrow6
        refine wpAnyH_take (i := 7) (oi := ⟨some 23, _, _, _, _, _⟩) (v := ?_) rfl (by kernel_rfl) (by kernel_rfl) (by kernel_rfl) (fun _ _ _ h => h) (Or.inl ⟨by rfl, ?_⟩) hHeld ?_
        rotate_left
        · intro ww hSw
          (try dsimp only at hSw)
          go_simp
          (try with_reducible rfl)
        (try simp only [Act.put, List.setIfInBounds_toArray, List.set_cons_zero, List.set_cons_succ])
        refine wpAnyH_ready (rs := [8]) (by kernel_rfl) (by simp) ?_
        refine AllReadyH.cons (o := ⟨none, _, _, _, _, _⟩) rfl (fun K hK => ?_) (AllReadyH.nil)
        go_simp
        refine hK.out _ _ ?_ (fun hHeld => ?_)
        · (try dsimp only)
          exact HFIN.out.2.2.1
        clear hK K
        (try simp only [Act.put, List.setIfInBounds_toArray, List.set_cons_zero, List.set_cons_succ])
        refine wpAnyH_done (by kernel_rfl) ?_ _
        refine NoPanic.normal ?_
        go_wp2_with fail
        go_meet
        exact ⟨A6, c6, HFIN⟩
      · go_simp
        refine hK.out _ _ ?_ (fun hHeld => ?_)
        · (try dsimp only)
          exact HMS.out.below (below_drew (bel_alloc (bel_alloc (Below.refl _ _) _) _))
        clear hK K
        (try simp only [Act.put, List.setIfInBounds_toArray, List.set_cons_zero, List.set_cons_succ])
        have HE : WRow (((w2.alloc (.cells #[] 39)).alloc (.cells #[.int .i64 u, .int .i64 v, .int .i64 m] 39)).drew) w2.heap.size (some ⟨w2.heap.size, 0, none⟩) 0 0 [] := (wrow_laid w2 rfl (Nat.le_refl _)).alloc _
        obtain ⟨A3, c3, w3, hr3, hrow3, hbel3, hg3⟩ := wrow_append (w := ((w2.alloc (.cells #[] 39)).alloc (.cells #[.int .i64 u, .int .i64 v, .int .i64 m] 39)).drew) HE (HT1.out.below (below_drew (bel_alloc (bel_alloc (Below.refl _ _) _) _))).sl W (by omega) HWL.out.1 (by simp <;> omega)
        have HR3 := Lib.hid hr3
        rw [List.nil_append] at hrow3
        clear hr3
        have bel3 := hbel3 w2 (Nat.le_refl _) (below_drew (bel_alloc (bel_alloc (Below.refl _ _) _) _))
        have HH : Has w3 (w2.heap.size + 1) #[.int .i64 u, .int .i64 v, .int .i64 m] := has_grown (Has.drew (Has.new (w2.alloc (.cells #[] 39)) _ _ (by simp))) hg3 (by simp [Value.ownBlock])
        refine wpAnyH_ready (rs := [3]) (by kernel_rfl) (by simp) ?_
        refine AllReadyH.cons (o := ⟨some 19, _, _, _, _, _⟩) rfl (fun K hK => ?_) (AllReadyH.nil)
        rw [if_pos (by rfl)]
        refine wp_append_run9 HR3.out rfl rfl rfl ?_
        refine hK.out _ _ ?_ (fun hHeld => ?_)
        · (try dsimp only)
          exact HMS.out.below bel3
        clear hK K
        (try simp only [Act.put, List.setIfInBounds_toArray, List.set_cons_zero, List.set_cons_succ])
        obtain ⟨A6, c6, w6, hr6, hrow6, hbel6, hg6⟩ := wrow_append (w := w3) hrow3 (ys := [[u, v, m]]) (sl_way HH) (W + 1) rfl HWL.out.2 (by have := bel3.size; first | omega | (simp; omega))
        have HR6 := Lib.hid hr6
        clear hr6 hg6
        have bel6 := hbel6 w2 (Nat.le_refl _) bel3
        refine wpAnyH_ready (rs := [6]) (by kernel_rfl) (by simp) ?_
        refine AllReadyH.cons (o := ⟨some 22, _, _, _, _, _⟩) rfl (fun K hK => ?_) (AllReadyH.nil)
        rw [if_pos (by rfl)]
        refine wp_append_run9 HR6.out rfl rfl rfl ?_
        refine hK.out _ _ ?_ (fun hHeld => ?_)
        · (try dsimp only)
          exact HMS.out.below bel6
        clear hK K
        (try simp only [Act.put, List.setIfInBounds_toArray, List.set_cons_zero, List.set_cons_succ])
        have HFIN := Lib.hid (fin3 HS0.out HT0.out HBK.out HMS.out HBW.out bel6 hW hrow6 HU.out hsz1 (by omega))
        have HKK := Lib.hid (HBK.out.below bel6)
        have k1 := HKK.out.cell 1 HG.out.2
        have f1 := HKK.out.frozen 1
        have hk1 := cell_lt k1
        clear hrow6
        refine wpAnyH_take (i := 7) (oi := ⟨some 23, _, _, _, _, _⟩) (v := ?_) rfl (by kernel_rfl) (by kernel_rfl) (by kernel_rfl) (fun _ _ _ h => h) (Or.inl ⟨by rfl, ?_⟩) hHeld ?_
        rotate_left
        · intro ww hSw
          (try dsimp only at hSw)
          go_simp
          (try with_reducible rfl)
        (try simp only [Act.put, List.setIfInBounds_toArray, List.set_cons_zero, List.set_cons_succ])
        refine wpAnyH_ready (rs := [8]) (by kernel_rfl) (by simp) ?_
        refine AllReadyH.cons (o := ⟨none, _, _, _, _, _⟩) rfl (fun K hK => ?_) (AllReadyH.nil)
        go_simp
        refine hK.out _ _ ?_ (fun hHeld => ?_)
        · (try dsimp only)
          exact HFIN.out.2.2.1
        clear hK K
        (try simp only [Act.put, List.setIfInBounds_toArray, List.set_cons_zero, List.set_cons_succ])
        refine wpAnyH_done (by kernel_rfl) ?_ _
        refine NoPanic.normal ?_
        go_wp2_with fail
        go_meet
        exact ⟨A6, c6, HFIN⟩
    · go_simp
      refine hK.out _ _ ?_ (fun hHeld => ?_)
      · (try dsimp only)
        exact HMS.out.below (below_drew (bel_alloc (Below.refl _ _) _))
      clear hK K
      (try simp only [Act.put, List.setIfInBounds_toArray, List.set_cons_zero, List.set_cons_succ])
      refine wpAnyH_ready (rs := [0]) (by kernel_rfl) (by simp) ?_
      refine AllReadyH.cons (o := ⟨some 16, _, _, _, _, _⟩) rfl (fun K hK => ?_) (AllReadyH.nil)
      go_simp
      refine hK.out _ _ ?_ (fun hHeld => ?_)
      · (try dsimp only)
        exact HMS.out.below (below_drew (bel_alloc (bel_alloc (Below.refl _ _) _) _))
      clear hK K
      (try simp only [Act.put, List.setIfInBounds_toArray, List.set_cons_zero, List.set_cons_succ])
      have HE : WRow (((w2.alloc (.cells #[.int .i64 u, .int .i64 v, .int .i64 m] 39)).alloc (.cells #[] 39)).drew) w2.heap.size (some ⟨w2.heap.size + 1, 0, none⟩) 0 0 [] := wrow_laid (w2.alloc (.cells #[.int .i64 u, .int .i64 v, .int .i64 m] 39)) (by simp) (by omega)
      obtain ⟨A3, c3, w3, hr3, hrow3, hbel3, hg3⟩ := wrow_append (w := ((w2.alloc (.cells #[.int .i64 u, .int .i64 v, .int .i64 m] 39)).alloc (.cells #[] 39)).drew) HE (HT1.out.below (below_drew (bel_alloc (bel_alloc (Below.refl _ _) _) _))).sl W (by omega) HWL.out.1 (by simp <;> omega)
      have HR3 := Lib.hid hr3
      rw [List.nil_append] at hrow3
      clear hr3
      have bel3 := hbel3 w2 (Nat.le_refl _) (below_drew (bel_alloc (bel_alloc (Below.refl _ _) _) _))
      have HH : Has w3 w2.heap.size #[.int .i64 u, .int .i64 v, .int .i64 m] := has_grown (Has.drew ((Has.new w2 _ _ rfl).alloc _)) hg3 (by simp [Value.ownBlock])
      refine wpAnyH_ready (rs := [3]) (by kernel_rfl) (by simp) ?_
      refine AllReadyH.cons (o := ⟨some 19, _, _, _, _, _⟩) rfl (fun K hK => ?_) (AllReadyH.nil)
      rw [if_pos (by rfl)]
      refine wp_append_run9 HR3.out rfl rfl rfl ?_
      refine hK.out _ _ ?_ (fun hHeld => ?_)
      · (try dsimp only)
        exact HMS.out.below bel3
      clear hK K
      (try simp only [Act.put, List.setIfInBounds_toArray, List.set_cons_zero, List.set_cons_succ])
      obtain ⟨A6, c6, w6, hr6, hrow6, hbel6, hg6⟩ := wrow_append (w := w3) hrow3 (ys := [[u, v, m]]) (sl_way HH) (W + 1) rfl HWL.out.2 (by have := bel3.size; first | omega | (simp; omega))
      have HR6 := Lib.hid hr6
      clear hr6 hg6
      have bel6 := hbel6 w2 (Nat.le_refl _) bel3
      refine wpAnyH_ready (rs := [6]) (by kernel_rfl) (by simp) ?_
      refine AllReadyH.cons (o := ⟨some 22, _, _, _, _, _⟩) rfl (fun K hK => ?_) (AllReadyH.nil)
      rw [if_pos (by rfl)]
      refine wp_append_run9 HR6.out rfl rfl rfl ?_
      refine hK.out _ _ ?_ (fun hHeld => ?_)
      · (try dsimp only)
        exact HMS.out.below bel6
      clear hK K
      (try simp only [Act.put, List.setIfInBounds_toArray, List.set_cons_zero, List.set_cons_succ])
      have HFIN := Lib.hid (fin3 HS0.out HT0.out HBK.out HMS.out HBW.out bel6 hW hrow6 HU.out hsz1 (by omega))
      have HKK := Lib.hid (HBK.out.below bel6)
      have k1 := HKK.out.cell 1 HG.out.2
      have f1 := HKK.out.frozen 1
      have hk1 := cell_lt k1
      clear hrow6
      refine wpAnyH_take (i := 7) (oi := ⟨some 23, _, _, _, _, _⟩) (v := ?_) rfl (by kernel_rfl) (by kernel_rfl) (by kernel_rfl) (fun _ _ _ h => h) (Or.inl ⟨by rfl, ?_⟩) hHeld ?_
      rotate_left
      · intro ww hSw
        (try dsimp only at hSw)
        go_simp
        (try with_reducible rfl)
      (try simp only [Act.put, List.setIfInBounds_toArray, List.set_cons_zero, List.set_cons_succ])
      refine wpAnyH_ready (rs := [8]) (by kernel_rfl) (by simp) ?_
      refine AllReadyH.cons (o := ⟨none, _, _, _, _, _⟩) rfl (fun K hK => ?_) (AllReadyH.nil)
      go_simp
      refine hK.out _ _ ?_ (fun hHeld => ?_)
      · (try dsimp only)
        exact HFIN.out.2.2.1
      clear hK K
      (try simp only [Act.put, List.setIfInBounds_toArray, List.set_cons_zero, List.set_cons_succ])
      refine wpAnyH_done (by kernel_rfl) ?_ _
      refine NoPanic.normal ?_
      go_wp2_with fail
      go_meet
      exact ⟨A6, c6, HFIN⟩
  case rest => as_aux_lemma =>
    obtain ⟨A, c, hx⟩ := hcut
    have HBK := Lib.hid hx.out.1
    have H3 := Lib.hid hx.out.2.2.1.way
    have HB := Lib.hid hx.out.2.2.1.set
    have HS := Lib.hid hx.out.2.2.2.1
    have HSM := Lib.hid hx.out.2.2.2.2.2.1
    have HBW := Lib.hid hx.out.2.2.2.2.2.2
    have HZM : Hid ((cs.setIfInBounds 1 (.slice A (W + 1) c)).size = 23) := by show _ = _; rw [Array.size_setIfInBounds]; exact HZ.out
    have hfm := plus_fit hf [u, v, m]
    have HGM : Hid (cs[0]? = some (.int .i64 s.places)) := Lib.hid HG.out.1
    clear hx HS0 HT0 HG HT1 HO HU
    generalize cs.setIfInBounds 1 (.slice A (W + 1) c) = cm at *
    obtain ⟨sm, hsm⟩ : ∃ sm, s.plus [u, v, m] = sm := ⟨_, rfl⟩
    rw [hsm] at HSM hfm
    by_cases hF : sm.Few
    · have HF := Lib.hid (decide_eq_true hF)
      by_cases hM : sm.May
      · have HM := Lib.hid (check_iff.2 hM)
        by_cases hMs : s.May
        · have HMS := Lib.hid (check_iff.2 hMs)
          obtain ⟨P, hP⟩ : ∃ P : Nat, s.places = P := ⟨s.places.toNat, by have := hMs.places; omega⟩
          obtain ⟨hp1, hp2⟩ := hMs.places
          rw [hP] at hp1 hp2
          have hPm : sm.places = P := by rw [← hsm]; exact hP
          have hway : wayP s.places [u, v, m] := by have := hM.ways.2 [u, v, m] (by rw [← hsm]; simp [SetP.plus]); rw [← hsm] at this; exact this
          rw [hP] at hway
          obtain ⟨hu0, hv0, hu1, hv1, huv, hm1, hm2⟩ := hway
          simp only [List.getD_cons_zero, List.getD_cons_succ] at hu0 hv0 hu1 hv1 huv hm1 hm2
          obtain ⟨A9, rfl⟩ : ∃ a : Nat, u = a := ⟨u.toNat, by omega⟩
          obtain ⟨B9, rfl⟩ : ∃ a : Nat, v = a := ⟨v.toNat, by omega⟩
          obtain ⟨M9, rfl⟩ : ∃ a : Nat, m = a := ⟨m.toNat, by omega⟩
          have hlA : A9 < P := by omega
          have hlB : B9 < P := by omega
          obtain ⟨E, hE⟩ : ∃ E, edgesOf s.ways = E := ⟨_, rfl⟩
          have hEm : edgesOf sm.ways = E ++ [(A9, B9, M9)] := by rw [← hsm, ← hE]; simp [SetP.plus, edgesOf, edgeOf]
          have HX : Hid (∀ a b, -1 ≤ distI E a b ∧ distI E a b ≤ 1010000) := by rw [← hE]; exact dist_le64 (edges_long hMs.ways.2) (edges_small hMs.ways.2) rfl (by have := hMs.ways.1; simp [edgesOf]; omega)
          have cT := Lib.hid (fun wx (hs : SetC wx s cs) => wtable_may hs hf hMs P hP E hE)
          have cU := Lib.hid (fun wx (hs : SetC wx sm cm) => wtable_may hs hfm hM P hPm _ hEm)
          have HG0 : Hid (cs[0]? = some (.int .i64 P)) := by rw [← hP]; exact HGM
          clear HGM hu0 hv0 hu1 hv1 hm1
          go_upto_region 4 with fail
          refine wp_region_lit ?_
          refine wpList_load_sg (by rfl) _ rfl K6 rfl cm HBK.out HZM.out ?_
          (try simp only [Act.put, List.setIfInBounds_toArray, List.set_cons_zero, List.set_cons_succ])
          refine wpList_step (fun K hK => ?_)
          go_simp
          go_at_call 9
          refine (few_c HSM.out _ HF.out).mono ?_
          rintro e_r w4 ⟨rfl, b_⟩
          replace HS := Lib.hid (HS.out.below b_)
          replace HSM := Lib.hid (HSM.out.below b_)
          replace HB := Lib.hid (HB.out.below b_)
          replace HBK := Lib.hid (HBK.out.below b_)
          replace H3 := Lib.hid (H3.out.below b_)
          replace HBW := Lib.hid (bel_on HBW.out b_)
          clear b_
          refine hK _ _ ?_
          clear hK K
          (try simp only [Act.put, List.setIfInBounds_toArray, List.set_cons_zero, List.set_cons_succ])
          iterate 2 (refine wpList_step (fun K hK => ?_); go_simp; refine hK _ _ ?_; clear hK K; (try simp only [Act.put, List.setIfInBounds_toArray, List.set_cons_zero, List.set_cons_succ]))
          refine wpList_load_sg (by rfl) _ rfl K6 rfl cm HBK.out HZM.out ?_
          (try simp only [Act.put, List.setIfInBounds_toArray, List.set_cons_zero, List.set_cons_succ])
          refine wpList_step (fun K hK => ?_)
          go_simp
          go_at_call 15
          refine (scheck_c HSM.out hfm _ HM.out).mono ?_
          rintro e_r w5 ⟨rfl, b_⟩
          replace HS := Lib.hid (HS.out.below b_)
          replace HSM := Lib.hid (HSM.out.below b_)
          replace HB := Lib.hid (HB.out.below b_)
          replace HBK := Lib.hid (HBK.out.below b_)
          replace H3 := Lib.hid (H3.out.below b_)
          replace HBW := Lib.hid (bel_on HBW.out b_)
          clear b_
          refine hK _ _ ?_
          clear hK K
          (try simp only [Act.put, List.setIfInBounds_toArray, List.set_cons_zero, List.set_cons_succ])
          iterate 3 (refine wpList_step (fun K hK => ?_); go_simp; refine hK _ _ ?_; clear hK K; (try simp only [Act.put, List.setIfInBounds_toArray, List.set_cons_zero, List.set_cons_succ]))
          refine wpList_load_sg (by rfl) _ rfl w.heap.size rfl cs HB.out HZ.out ?_
          (try simp only [Act.put, List.setIfInBounds_toArray, List.set_cons_zero, List.set_cons_succ])
          refine wpList_step (fun K hK => ?_)
          go_simp
          go_at_call 15
          refine (scheck_c HS.out hf _ HMS.out).mono ?_
          rintro e_r w6 ⟨rfl, b_⟩
          replace HS := Lib.hid (HS.out.below b_)
          replace HSM := Lib.hid (HSM.out.below b_)
          replace HB := Lib.hid (HB.out.below b_)
          replace HBK := Lib.hid (HBK.out.below b_)
          replace H3 := Lib.hid (H3.out.below b_)
          replace HBW := Lib.hid (bel_on HBW.out b_)
          clear b_
          refine hK _ _ ?_
          clear hK K
          (try simp only [Act.put, List.setIfInBounds_toArray, List.set_cons_zero, List.set_cons_succ])
          clear HF HM HMS hM hMs hF
          go_wp2_with (first | refine wpList_load_has (by rfl) _ rfl w.heap.size rfl cs HB.out HZ.out ?_ | refine wpList_load_has (by rfl) _ rfl K6 rfl cm HBK.out HZM.out ?_)
          refine (cT.out _ HS.out).mono ?_
          rintro e w7 ⟨G, rfl, hG, ⟨gs, hgs, hTM⟩, b_⟩
          have HT := Lib.hid hTM
          clear hTM hG hgs
          replace HS := Lib.hid (HS.out.below b_)
          replace HSM := Lib.hid (HSM.out.below b_)
          replace HB := Lib.hid (HB.out.below b_)
          replace HBK := Lib.hid (HBK.out.below b_)
          replace H3 := Lib.hid (H3.out.below b_)
          replace HBW := Lib.hid (bel_on HBW.out b_)
          clear b_
          go_wp2_with (first | refine wpList_load_has (by rfl) _ rfl w.heap.size rfl cs HB.out HZ.out ?_ | refine wpList_load_has (by rfl) _ rfl K6 rfl cm HBK.out HZM.out ?_)
          refine (cU.out _ HSM.out).mono ?_
          rintro e w7b ⟨G2, rfl, hG, ⟨gs2, hgs, hTM⟩, b_⟩
          have HTU := Lib.hid hTM
          replace HT := Lib.hid (HT.out.below b_)
          clear hTM hG hgs
          replace HS := Lib.hid (HS.out.below b_)
          replace HSM := Lib.hid (HSM.out.below b_)
          replace HB := Lib.hid (HB.out.below b_)
          replace HBK := Lib.hid (HBK.out.below b_)
          replace H3 := Lib.hid (H3.out.below b_)
          replace HBW := Lib.hid (bel_on HBW.out b_)
          clear b_
          have q0 := HB.out.cell 0 HG0.out
          have hq0 := cell_lt q0
          go_wp2_with fail
          refine (square_c G P gs (distI E) _ HT.out (by omega)).mono ?_
          rintro e w7c ⟨rfl, b_⟩
          replace HT := Lib.hid (HT.out.below b_)
          replace HTU := Lib.hid (HTU.out.below b_)
          replace HS := Lib.hid (HS.out.below b_)
          replace HSM := Lib.hid (HSM.out.below b_)
          replace HB := Lib.hid (HB.out.below b_)
          replace HBK := Lib.hid (HBK.out.below b_)
          replace H3 := Lib.hid (H3.out.below b_)
          replace HBW := Lib.hid (bel_on HBW.out b_)
          clear b_
          clear q0 hq0
          have q0 := HB.out.cell 0 HG0.out
          have hq0 := cell_lt q0
          go_wp2_with fail
          refine (square_c G2 P gs2 _ _ HTU.out (by omega)).mono ?_
          rintro e w8 ⟨rfl, b_⟩
          replace HT := Lib.hid (HT.out.below b_)
          replace HTU := Lib.hid (HTU.out.below b_)
          replace HS := Lib.hid (HS.out.below b_)
          replace HSM := Lib.hid (HSM.out.below b_)
          replace HB := Lib.hid (HB.out.below b_)
          replace HBK := Lib.hid (HBK.out.below b_)
          replace H3 := Lib.hid (H3.out.below b_)
          replace HBW := Lib.hid (bel_on HBW.out b_)
          clear b_
          clear q0 hq0 HS HSM HB HBK cT cU HG0 HZ HZM
          go_wp2
          go_loopw [9] (fun s9 wr => ∃ a : Nat, a ≤ P ∧ s9 = .int .i64 a ∧ Hid (Below w8.heap.size w8 wr)) (fun s9 _ => P - (intOf s9).toNat)
          case atStart => exact ⟨0, by omega, rfl, Below.refl _ _⟩
          case round =>
            obtain ⟨a, ha, rfl, hb1⟩ := hrel
            by_cases hla : a < P
            · have hla' : (a : Int) < (P : Int) := by omega
              go_wp2
              go_loopw [10] (fun s10 wr => ∃ b : Nat, b ≤ P ∧ s10 = .int .i64 b ∧ Hid (Below w8.heap.size w8 wr)) (fun s10 _ => P - (intOf s10).toNat)
              case atStart => exact ⟨0, by omega, rfl, hb1⟩
              case round =>
                clear hb1
                obtain ⟨b, hb9, rfl, hb⟩ := hrel
                by_cases hlb : b < P
                · have hlb' : (b : Int) < (P : Int) := by omega
                  have hlA' : (A9 : Int) < (P : Int) := by omega
                  have hlB' : (B9 : Int) < (P : Int) := by omega
                  have hmore := distI_more (E := E) (u := A9) (v := B9) (m := M9) a b
                  obtain ⟨x0, hx0⟩ : ∃ z, distI E a b = z := ⟨_, rfl⟩
                  have hbx0 := HX.out a b
                  rw [hx0] at hbx0
                  obtain ⟨p1, hp1⟩ : ∃ z, distI E a A9 = z := ⟨_, rfl⟩
                  have hbp1 := HX.out a A9
                  rw [hp1] at hbp1
                  obtain ⟨p2, hp2⟩ : ∃ z, distI E B9 b = z := ⟨_, rfl⟩
                  have hbp2 := HX.out B9 b
                  rw [hp2] at hbp2
                  obtain ⟨r1, hr1⟩ : ∃ z, distI E a B9 = z := ⟨_, rfl⟩
                  have hbr1 := HX.out a B9
                  rw [hr1] at hbr1
                  obtain ⟨r2, hr2⟩ : ∃ z, distI E A9 b = z := ⟨_, rfl⟩
                  have hbr2 := HX.out A9 b
                  rw [hr2] at hbr2
                  obtain ⟨y, hy⟩ : ∃ z, distI (E ++ [(A9, B9, M9)]) a b = z := ⟨_, rfl⟩
                  rw [hy, hx0, hp1, hp2, hr1, hr2] at hmore
                  obtain ⟨s1, hs1⟩ : ∃ z, shortI x0 (if 0 ≤ p1 ∧ 0 ≤ p2 then p1 + (M9 : Int) + p2 else -1) = z := ⟨_, rfl⟩
                  rw [hs1] at hmore
                  obtain ⟨s2, hs2⟩ : ∃ z, shortI s1 (if 0 ≤ r1 ∧ 0 ≤ r2 then r1 + (M9 : Int) + r2 else -1) = z := ⟨_, rfl⟩
                  rw [hs2] at hmore
                  have hbs1 : -1 ≤ s1 := by rw [← hs1]; unfold shortI; split <;> (try split) <;> omega
                  have k1 := (HT.out.below hb.out).ptr hla
                  have k2 := (HT.out.below hb.out).at hla hlb
                  rw [hx0] at k2
                  have l1 := cell_lt k1
                  have l2 := cell_lt k2
                  go_upto_region 17 with fail
                  clear k1 k2 l1 l2
                  obtain ⟨cp1, hcp1⟩ : ∃ z, decide (0 ≤ p1 ∧ 0 ≤ p2) = z := ⟨_, rfl⟩
                  go_cut [12] (fun v wx => v = .bool cp1 ∧ Hid (Below w8.heap.size w8 wx))
                  case first => as_aux_lemma =>
                    have k1 := (HT.out.below hb.out).ptr hla
                    have l1 := cell_lt k1
                    have k2 := (HT.out.below hb.out).at hla hlA
                    rw [hp1] at k2
                    have l2 := cell_lt k2
                    have k3 := (HT.out.below hb.out).ptr hlB
                    have l3 := cell_lt k3
                    have k4 := (HT.out.below hb.out).at hlB hlb
                    rw [hp2] at k4
                    have l4 := cell_lt k4
                    have k5 := (H3.out.below hb.out).cell 0 rfl
                    have l5 := cell_lt k5
                    have k6 := (H3.out.below hb.out).cell 1 rfl
                    have l6 := cell_lt k6
                    have HN := Lib.hid (fun n => (show Below w8.heap.size w8 (World.drewN wr n) from ⟨hb.out.os, hb.out.tape, hb.out.output, hb.out.size, hb.out.block⟩))
                    clear hb
                    by_cases h1 : 0 ≤ p1
                    · by_cases h2 : 0 ≤ p2
                      · go_quiet (fail)
                        go_wp2_with fail
                        go_meet
                        exact ⟨by rw [← hcp1]; simp [h1, h2], HN.out _⟩
                      · have h3 : decide (0 ≤ p2) = false := decide_eq_false h2
                        go_quiet (fail)
                        go_wp2_with fail
                        go_meet
                        exact ⟨by rw [← hcp1]; simp [h1, h2], HN.out _⟩
                    · obtain rfl : p1 = -1 := by omega
                      go_quiet (fail)
                      go_wp2_with fail
                      go_meet
                      exact ⟨by rw [← hcp1]; simp, HN.out _⟩
                  case rest =>
                    obtain ⟨rfl, hb⟩ := hcut
                    go_upto_region 18 with fail
                    obtain ⟨cr1, hcr1⟩ : ∃ z, decide (0 ≤ r1 ∧ 0 ≤ r2) = z := ⟨_, rfl⟩
                    go_cut [13] (fun v wx => v = .bool cr1 ∧ Hid (Below w8.heap.size w8 wx))
                    case first => as_aux_lemma =>
                      have k1 := (HT.out.below hb.out).ptr hla
                      have l1 := cell_lt k1
                      have k2 := (HT.out.below hb.out).at hla hlB
                      rw [hr1] at k2
                      have l2 := cell_lt k2
                      have k3 := (HT.out.below hb.out).ptr hlA
                      have l3 := cell_lt k3
                      have k4 := (HT.out.below hb.out).at hlA hlb
                      rw [hr2] at k4
                      have l4 := cell_lt k4
                      have k5 := (H3.out.below hb.out).cell 0 rfl
                      have l5 := cell_lt k5
                      have k6 := (H3.out.below hb.out).cell 1 rfl
                      have l6 := cell_lt k6
                      have HN := Lib.hid (fun n => (show Below w8.heap.size w8 (World.drewN wc n) from ⟨hb.out.os, hb.out.tape, hb.out.output, hb.out.size, hb.out.block⟩))
                      clear hb
                      by_cases h1 : 0 ≤ r1
                      · by_cases h2 : 0 ≤ r2
                        · go_quiet (fail)
                          go_wp2_with fail
                          go_meet
                          exact ⟨by rw [← hcr1]; simp [h1, h2], HN.out _⟩
                        · have h3 : decide (0 ≤ r2) = false := decide_eq_false h2
                          go_quiet (fail)
                          go_wp2_with fail
                          go_meet
                          exact ⟨by rw [← hcr1]; simp [h1, h2], HN.out _⟩
                      · obtain rfl : r1 = -1 := by omega
                        go_quiet (fail)
                        go_wp2_with fail
                        go_meet
                        exact ⟨by rw [← hcr1]; simp, HN.out _⟩
                    case rest =>
                      obtain ⟨rfl, hb⟩ := hcut
                      obtain ⟨dp1, hdp1⟩ : ∃ z, decide ((0 ≤ p1 ∧ 0 ≤ p2) ∧ (x0 < 0 ∨ (p1 + (M9 : Int) + p2) < x0)) = z := ⟨_, rfl⟩
                      go_upto_region 19 with fail
                      go_cut [141, 12, 11] (fun v v12 v11 wx => v = .bool dp1 ∧ v12 = .bool cp1 ∧ v11 = .int .i64 x0 ∧ Hid (Below w8.heap.size w8 wx))
                      case first => as_aux_lemma =>
                        have k1 := (HT.out.below hb.out).ptr hla
                        have l1 := cell_lt k1
                        have k2 := (HT.out.below hb.out).at hla hlA
                        rw [hp1] at k2
                        have l2 := cell_lt k2
                        have k3 := (HT.out.below hb.out).ptr hlB
                        have l3 := cell_lt k3
                        have k4 := (HT.out.below hb.out).at hlB hlb
                        rw [hp2] at k4
                        have l4 := cell_lt k4
                        have k5 := (H3.out.below hb.out).cell 0 rfl
                        have l5 := cell_lt k5
                        have k6 := (H3.out.below hb.out).cell 1 rfl
                        have l6 := cell_lt k6
                        have k7 := (H3.out.below hb.out).cell 2 rfl
                        have l7 := cell_lt k7
                        have HN := Lib.hid (fun n => (show Below w8.heap.size w8 (World.drewN wc n) from ⟨hb.out.os, hb.out.tape, hb.out.output, hb.out.size, hb.out.block⟩))
                        clear hb
                        by_cases h1 : 0 ≤ p1 ∧ 0 ≤ p2
                        · have h2 : cp1 = true := by rw [← hcp1]; exact decide_eq_true h1
                          rw [h2]
                          have h5 := h1.1
                          have h6 := h1.2
                          by_cases h3 : x0 = -1
                          · rw [h3]
                            go_quiet (fail)
                            go_wp2_with fail
                            go_meet
                            exact ⟨by rw [← hdp1]; simp [h1, h3], by rw [h2], by rw [h3], HN.out _⟩
                          · have h4 : ¬ x0 < 0 := by omega
                            have h7 : decide (x0 < 0) = false := decide_eq_false h4
                            have e1 : IntKind.i64.wrap (p1 + (M9 : Int)) = p1 + M9 := by rw [IntKind.wrap_i64]; omega
                            have e2 : IntKind.i64.wrap (p1 + (M9 : Int) + p2) = p1 + M9 + p2 := by rw [IntKind.wrap_i64]; omega
                            go_quiet (fail)
                            go_wp2_with fail
                            go_meet
                            exact ⟨by rw [← hdp1]; exact congrArg Value.bool (decide_eq_decide.2 ⟨fun q => ⟨h1, .inr q⟩, fun q => q.2.resolve_left (by omega)⟩), by rw [h2], rfl, HN.out _⟩
                        · have h2 : cp1 = false := by rw [← hcp1]; exact decide_eq_false h1
                          rw [h2]
                          go_quiet (fail)
                          go_wp2_with fail
                          go_meet
                          exact ⟨by rw [← hdp1]; simp [h1], by rw [h2], rfl, HN.out _⟩
                      case rest =>
                        obtain ⟨rfl, rfl, rfl, hb⟩ := hcut
                        go_upto_if 141 with fail
                        go_cut [11] (fun v wx => v = .int .i64 s1 ∧ Hid (Below w8.heap.size w8 wx))
                        case first => as_aux_lemma =>
                          by_cases hc : (0 ≤ p1 ∧ 0 ≤ p2) ∧ (x0 < 0 ∨ (p1 + (M9 : Int) + p2) < x0)
                          · have hck : dp1 = true := by rw [← hdp1]; exact decide_eq_true hc
                            rw [hck]
                            have hv : s1 = (p1 + (M9 : Int) + p2) := by rw [← hs1]; exact more_yes (by omega) hc
                            have k1 := (HT.out.below hb.out).ptr hla
                            have l1 := cell_lt k1
                            have k2 := (HT.out.below hb.out).at hla hlA
                            rw [hp1] at k2
                            have l2 := cell_lt k2
                            have k3 := (HT.out.below hb.out).ptr hlB
                            have l3 := cell_lt k3
                            have k4 := (HT.out.below hb.out).at hlB hlb
                            rw [hp2] at k4
                            have l4 := cell_lt k4
                            have k5 := (H3.out.below hb.out).cell 0 rfl
                            have l5 := cell_lt k5
                            have k6 := (H3.out.below hb.out).cell 1 rfl
                            have l6 := cell_lt k6
                            have k7 := (H3.out.below hb.out).cell 2 rfl
                            have l7 := cell_lt k7
                            have HN := Lib.hid (fun n => (show Below w8.heap.size w8 (World.drewN wc n) from ⟨hb.out.os, hb.out.tape, hb.out.output, hb.out.size, hb.out.block⟩))
                            have e1 : IntKind.i64.wrap (p1 + (M9 : Int)) = p1 + M9 := by rw [IntKind.wrap_i64]; omega
                            have e2 : IntKind.i64.wrap (p1 + (M9 : Int) + p2) = p1 + M9 + p2 := by rw [IntKind.wrap_i64]; omega
                            clear hb hck hc
                            go_wp2_with fail
                            go_quiet (fail)
                            go_wp2_with fail
                            go_meet
                            exact ⟨by rw [hv], HN.out _⟩
                          · have hck : dp1 = false := by rw [← hdp1]; exact decide_eq_false hc
                            rw [hck]
                            have hv : s1 = x0 := by rw [← hs1]; exact more_no (by omega) (by omega) hc
                            clear hck hc
                            go_wp2_with fail
                            go_meet
                            exact ⟨by rw [hv], hb⟩
                        case rest =>
                          obtain ⟨rfl, hb⟩ := hcut
                          obtain ⟨dr1, hdr1⟩ : ∃ z, decide ((0 ≤ r1 ∧ 0 ≤ r2) ∧ (s1 < 0 ∨ (r1 + (M9 : Int) + r2) < s1)) = z := ⟨_, rfl⟩
                          go_upto_region 21 with fail
                          go_cut [190, 13, 11] (fun v v12 v11 wx => v = .bool dr1 ∧ v12 = .bool cr1 ∧ v11 = .int .i64 s1 ∧ Hid (Below w8.heap.size w8 wx))
                          case first => as_aux_lemma =>
                            have k1 := (HT.out.below hb.out).ptr hla
                            have l1 := cell_lt k1
                            have k2 := (HT.out.below hb.out).at hla hlB
                            rw [hr1] at k2
                            have l2 := cell_lt k2
                            have k3 := (HT.out.below hb.out).ptr hlA
                            have l3 := cell_lt k3
                            have k4 := (HT.out.below hb.out).at hlA hlb
                            rw [hr2] at k4
                            have l4 := cell_lt k4
                            have k5 := (H3.out.below hb.out).cell 0 rfl
                            have l5 := cell_lt k5
                            have k6 := (H3.out.below hb.out).cell 1 rfl
                            have l6 := cell_lt k6
                            have k7 := (H3.out.below hb.out).cell 2 rfl
                            have l7 := cell_lt k7
                            have HN := Lib.hid (fun n => (show Below w8.heap.size w8 (World.drewN wc n) from ⟨hb.out.os, hb.out.tape, hb.out.output, hb.out.size, hb.out.block⟩))
                            clear hb
                            by_cases h1 : 0 ≤ r1 ∧ 0 ≤ r2
                            · have h2 : cr1 = true := by rw [← hcr1]; exact decide_eq_true h1
                              rw [h2]
                              have h5 := h1.1
                              have h6 := h1.2
                              by_cases h3 : s1 = -1
                              · rw [h3]
                                go_quiet (fail)
                                go_wp2_with fail
                                go_meet
                                exact ⟨by rw [← hdr1]; simp [h1, h3], by rw [h2], by rw [h3], HN.out _⟩
                              · have h4 : ¬ s1 < 0 := by omega
                                have h7 : decide (s1 < 0) = false := decide_eq_false h4
                                have e1 : IntKind.i64.wrap (r1 + (M9 : Int)) = r1 + M9 := by rw [IntKind.wrap_i64]; omega
                                have e2 : IntKind.i64.wrap (r1 + (M9 : Int) + r2) = r1 + M9 + r2 := by rw [IntKind.wrap_i64]; omega
                                go_quiet (fail)
                                go_wp2_with fail
                                go_meet
                                exact ⟨by rw [← hdr1]; exact congrArg Value.bool (decide_eq_decide.2 ⟨fun q => ⟨h1, .inr q⟩, fun q => q.2.resolve_left (by omega)⟩), by rw [h2], rfl, HN.out _⟩
                            · have h2 : cr1 = false := by rw [← hcr1]; exact decide_eq_false h1
                              rw [h2]
                              go_quiet (fail)
                              go_wp2_with fail
                              go_meet
                              exact ⟨by rw [← hdr1]; simp [h1], by rw [h2], rfl, HN.out _⟩
                          case rest =>
                            obtain ⟨rfl, rfl, rfl, hb⟩ := hcut
                            go_upto_if 190 with fail
                            go_cut [11] (fun v wx => v = .int .i64 s2 ∧ Hid (Below w8.heap.size w8 wx))
                            case first => as_aux_lemma =>
                              by_cases hc : (0 ≤ r1 ∧ 0 ≤ r2) ∧ (s1 < 0 ∨ (r1 + (M9 : Int) + r2) < s1)
                              · have hck : dr1 = true := by rw [← hdr1]; exact decide_eq_true hc
                                rw [hck]
                                have hv : s2 = (r1 + (M9 : Int) + r2) := by rw [← hs2]; exact more_yes (by omega) hc
                                have k1 := (HT.out.below hb.out).ptr hla
                                have l1 := cell_lt k1
                                have k2 := (HT.out.below hb.out).at hla hlB
                                rw [hr1] at k2
                                have l2 := cell_lt k2
                                have k3 := (HT.out.below hb.out).ptr hlA
                                have l3 := cell_lt k3
                                have k4 := (HT.out.below hb.out).at hlA hlb
                                rw [hr2] at k4
                                have l4 := cell_lt k4
                                have k5 := (H3.out.below hb.out).cell 0 rfl
                                have l5 := cell_lt k5
                                have k6 := (H3.out.below hb.out).cell 1 rfl
                                have l6 := cell_lt k6
                                have k7 := (H3.out.below hb.out).cell 2 rfl
                                have l7 := cell_lt k7
                                have HN := Lib.hid (fun n => (show Below w8.heap.size w8 (World.drewN wc n) from ⟨hb.out.os, hb.out.tape, hb.out.output, hb.out.size, hb.out.block⟩))
                                have e1 : IntKind.i64.wrap (r1 + (M9 : Int)) = r1 + M9 := by rw [IntKind.wrap_i64]; omega
                                have e2 : IntKind.i64.wrap (r1 + (M9 : Int) + r2) = r1 + M9 + r2 := by rw [IntKind.wrap_i64]; omega
                                clear hb hck hc
                                go_wp2_with fail
                                go_quiet (fail)
                                go_wp2_with fail
                                go_meet
                                exact ⟨by rw [hv], HN.out _⟩
                              · have hck : dr1 = false := by rw [← hdr1]; exact decide_eq_false hc
                                rw [hck]
                                have hv : s2 = s1 := by rw [← hs2]; exact more_no (by omega) (by omega) hc
                                clear hck hc
                                go_wp2_with fail
                                go_meet
                                exact ⟨by rw [hv], hb⟩
                            case rest =>
                              obtain ⟨rfl, hb⟩ := hcut
                              have k1 := (HTU.out.below hb.out).ptr hla
                              have k2 := (HTU.out.below hb.out).at hla hlb
                              rw [hy, hmore] at k2
                              have l1 := cell_lt k1
                              have l2 := cell_lt k2
                              have HN := Lib.hid hb.out
                              clear hb
                              go_wp2
                              go_roundw
                              case rel => exact ⟨b + 1, by omega, by go_num, HN⟩
                              case measure => simp [intOf]; omega
                · have hlb' : ¬ (b : Int) < (P : Int) := by omega
                  go_wp2
                  go_roundw
                  case rel => exact ⟨a + 1, by omega, by go_num, hb⟩
                  case measure => simp [intOf]; omega
            · have hla' : ¬ (a : Int) < (P : Int) := by omega
              have HEND := Lib.hid (bel_on HBW.out hb1.out)
              go_wp2
              go_ret
              exact ⟨rfl, HEND.out⟩
        · have HMS := Lib.hid (check_no hMs)
          go_upto_region 4 with fail
          refine wp_region_lit ?_
          refine wpList_load_sg (by rfl) _ rfl K6 rfl cm HBK.out HZM.out ?_
          (try simp only [Act.put, List.setIfInBounds_toArray, List.set_cons_zero, List.set_cons_succ])
          refine wpList_step (fun K hK => ?_)
          go_simp
          go_at_call 9
          refine (few_c HSM.out _ HF.out).mono ?_
          rintro e_r w4 ⟨rfl, b_⟩
          replace HS := Lib.hid (HS.out.below b_)
          replace HSM := Lib.hid (HSM.out.below b_)
          replace HB := Lib.hid (HB.out.below b_)
          replace HBK := Lib.hid (HBK.out.below b_)
          replace H3 := Lib.hid (H3.out.below b_)
          replace HBW := Lib.hid (bel_on HBW.out b_)
          clear b_
          refine hK _ _ ?_
          clear hK K
          (try simp only [Act.put, List.setIfInBounds_toArray, List.set_cons_zero, List.set_cons_succ])
          iterate 2 (refine wpList_step (fun K hK => ?_); go_simp; refine hK _ _ ?_; clear hK K; (try simp only [Act.put, List.setIfInBounds_toArray, List.set_cons_zero, List.set_cons_succ]))
          refine wpList_load_sg (by rfl) _ rfl K6 rfl cm HBK.out HZM.out ?_
          (try simp only [Act.put, List.setIfInBounds_toArray, List.set_cons_zero, List.set_cons_succ])
          refine wpList_step (fun K hK => ?_)
          go_simp
          go_at_call 15
          refine (scheck_c HSM.out hfm _ HM.out).mono ?_
          rintro e_r w5 ⟨rfl, b_⟩
          replace HS := Lib.hid (HS.out.below b_)
          replace HSM := Lib.hid (HSM.out.below b_)
          replace HB := Lib.hid (HB.out.below b_)
          replace HBK := Lib.hid (HBK.out.below b_)
          replace H3 := Lib.hid (H3.out.below b_)
          replace HBW := Lib.hid (bel_on HBW.out b_)
          clear b_
          refine hK _ _ ?_
          clear hK K
          (try simp only [Act.put, List.setIfInBounds_toArray, List.set_cons_zero, List.set_cons_succ])
          iterate 3 (refine wpList_step (fun K hK => ?_); go_simp; refine hK _ _ ?_; clear hK K; (try simp only [Act.put, List.setIfInBounds_toArray, List.set_cons_zero, List.set_cons_succ]))
          refine wpList_load_sg (by rfl) _ rfl w.heap.size rfl cs HB.out HZ.out ?_
          (try simp only [Act.put, List.setIfInBounds_toArray, List.set_cons_zero, List.set_cons_succ])
          refine wpList_step (fun K hK => ?_)
          go_simp
          go_at_call 15
          refine (scheck_c HS.out hf _ HMS.out).mono ?_
          rintro e_r w6 ⟨rfl, b_⟩
          replace HS := Lib.hid (HS.out.below b_)
          replace HSM := Lib.hid (HSM.out.below b_)
          replace HB := Lib.hid (HB.out.below b_)
          replace HBK := Lib.hid (HBK.out.below b_)
          replace H3 := Lib.hid (H3.out.below b_)
          replace HBW := Lib.hid (bel_on HBW.out b_)
          clear b_
          refine hK _ _ ?_
          clear hK K
          (try simp only [Act.put, List.setIfInBounds_toArray, List.set_cons_zero, List.set_cons_succ])
          go_wp2
          go_ret
          exact ⟨rfl, HBW.out⟩
      · have HM := Lib.hid (check_no hM)
        go_upto_region 4 with fail
        refine wp_region_lit ?_
        refine wpList_load_sg (by rfl) _ rfl K6 rfl cm HBK.out HZM.out ?_
        (try simp only [Act.put, List.setIfInBounds_toArray, List.set_cons_zero, List.set_cons_succ])
        refine wpList_step (fun K hK => ?_)
        go_simp
        go_at_call 9
        refine (few_c HSM.out _ HF.out).mono ?_
        rintro e_r w4 ⟨rfl, b_⟩
        replace HS := Lib.hid (HS.out.below b_)
        replace HSM := Lib.hid (HSM.out.below b_)
        replace HB := Lib.hid (HB.out.below b_)
        replace HBK := Lib.hid (HBK.out.below b_)
        replace H3 := Lib.hid (H3.out.below b_)
        replace HBW := Lib.hid (bel_on HBW.out b_)
        clear b_
        refine hK _ _ ?_
        clear hK K
        (try simp only [Act.put, List.setIfInBounds_toArray, List.set_cons_zero, List.set_cons_succ])
        iterate 2 (refine wpList_step (fun K hK => ?_); go_simp; refine hK _ _ ?_; clear hK K; (try simp only [Act.put, List.setIfInBounds_toArray, List.set_cons_zero, List.set_cons_succ]))
        refine wpList_load_sg (by rfl) _ rfl K6 rfl cm HBK.out HZM.out ?_
        (try simp only [Act.put, List.setIfInBounds_toArray, List.set_cons_zero, List.set_cons_succ])
        refine wpList_step (fun K hK => ?_)
        go_simp
        go_at_call 15
        refine (scheck_c HSM.out hfm _ HM.out).mono ?_
        rintro e_r w5 ⟨rfl, b_⟩
        replace HS := Lib.hid (HS.out.below b_)
        replace HSM := Lib.hid (HSM.out.below b_)
        replace HB := Lib.hid (HB.out.below b_)
        replace HBK := Lib.hid (HBK.out.below b_)
        replace H3 := Lib.hid (H3.out.below b_)
        replace HBW := Lib.hid (bel_on HBW.out b_)
        clear b_
        refine hK _ _ ?_
        clear hK K
        (try simp only [Act.put, List.setIfInBounds_toArray, List.set_cons_zero, List.set_cons_succ])
        go_wp2
        go_ret
        exact ⟨rfl, HBW.out⟩
    · have HF := Lib.hid (decide_eq_false hF)
      go_upto_region 4 with fail
      refine wp_region_lit ?_
      refine wpList_load_sg (by rfl) _ rfl K6 rfl cm HBK.out HZM.out ?_
      (try simp only [Act.put, List.setIfInBounds_toArray, List.set_cons_zero, List.set_cons_succ])
      refine wpList_step (fun K hK => ?_)
      go_simp
      go_at_call 9
      refine (few_c HSM.out _ HF.out).mono ?_
      rintro e_r w4 ⟨rfl, b_⟩
      replace HS := Lib.hid (HS.out.below b_)
      replace HSM := Lib.hid (HSM.out.below b_)
      replace HB := Lib.hid (HB.out.below b_)
      replace HBK := Lib.hid (HBK.out.below b_)
      replace H3 := Lib.hid (H3.out.below b_)
      replace HBW := Lib.hid (bel_on HBW.out b_)
      clear b_
      refine hK _ _ ?_
      clear hK K
      (try simp only [Act.put, List.setIfInBounds_toArray, List.set_cons_zero, List.set_cons_succ])
      go_wp2
      go_ret
      exact ⟨rfl, HBW.out⟩
theorem wayMore_walk (s : SetP) (A1 A2 A3 A4 A5 A6 : Option Addr) (c1 c2 c3 c4 c5 c6 : Nat) (u v m : Int) (w : World) (hs : SetAt w s A1 A2 A3 A4 A5 A6 c1 c2 c3 c4 c5 c6) (hf : s.Fit) (hsz : s.ways.length * 24 ≤ 140737488351232) (huvm : In64 u ∧ In64 v ∧ In64 m) :
    Calls Try.prog 7 #[setV s A1 A2 A3 A4 A5 A6 c1 c2 c3 c4 c5 c6, .agg #[.int .i64 u, .int .i64 v, .int .i64 m]] w fun e w' => e = .returned (.bool true) ∧ Below w.heap.size w w' := by
  obtain ⟨cs, hcs⟩ : ∃ cs, setV s A1 A2 A3 A4 A5 A6 c1 c2 c3 c4 c5 c6 = .agg cs := ⟨_, rfl⟩
  rw [hcs]
  exact wayMore_c ⟨A1, A2, A3, A4, A5, A6, c1, c2, c3, c4, c5, c6, hcs, hs⟩ hf hsz u v m huvm
end Go.Proofs.Ytcnekicfblbafaa
