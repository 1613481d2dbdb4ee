/-
  The calls whose answers layer 17's document fixes: they are as it says.
-/
import Derived.Test.YtdlimgpmmkcgmaaGreatSplC
import Derived.Test.YtdlimgpmmkcgmaaGreatZbi
import Derived.Test.YtdlimgpmmkcgmaaGreatSplU
import Derived.Test.YtdlimgpmmkcgmaaGreatZas
import Derived.Deep.DeepCutAuto
namespace Go.Proofs.YtdlimgpmmkcgmaaGreat
open Go.RowKit
set_option linter.unusedVariables false
set_option linter.unusedSimpArgs false
set_option maxRecDepth 20000

def aw17P : SetP := ⟨1, [], 1, 1, [], [], [], 0, 1, 60, 0, 86400, 0, 7300, 43200, 604800, 79200, 86400, [1], 0, 0, 0, []⟩
def aw17C (N : Nat) : Array Value := #[.int .i64 1, .slice none 0 0, .int .i64 1, .int .i64 1, .slice none 0 0, .slice none 0 0, .slice none 0 0, .int .i64 0, .int .i64 1, .int .i64 60, .int .i64 0, .int .i64 86400, .int .i64 0,
  .int .i64 7300, .int .i64 43200, .int .i64 604800, .int .i64 79200, .int .i64 86400, .slice (some ⟨N, 0, none⟩) 1 1, .int .i64 0, .int .i64 0, .int .i64 0, .slice none 0 0]
theorem aw17C_V (N : Nat) : setV aw17P none none none none (some ⟨N, 0, none⟩) none 0 0 0 0 1 0 = .agg (aw17C N) := rfl
theorem aw17_fit : aw17P.Fit := by constructor <;> simp [aw17P, In64]
theorem aw17_may : checkB aw17P = true := by decide +kernel
theorem non17_fit : SetP.none.Fit := by constructor <;> simp [SetP.none, In64]
theorem non17_not : checkB SetP.none = false := by decide +kernel
def aw17S : List SegP := [⟨72000, 86400, 0, 0, 0⟩, ⟨86000, 86400, 3, 0, 0⟩]
def aw17T : List SegP := [⟨72000, 86400, 0, 0, 0⟩]
theorem aw17_fits : ∀ x ∈ aw17S, Fit x.fr ∧ Fit x.to := by
  intro x hx
  simp only [aw17S, List.mem_cons, List.not_mem_nil, or_false] at hx
  rcases hx with rfl | rfl <;> exact ⟨⟨by simp, by simp⟩, ⟨by simp, by simp⟩⟩
theorem aw17_fitt : ∀ x ∈ aw17T, Fit x.fr ∧ Fit x.to := by
  intro x hx
  simp only [aw17T, List.mem_cons, List.not_mem_nil, or_false] at hx
  rcases hx with rfl
  exact ⟨⟨by simp, by simp⟩, ⟨by simp, by simp⟩⟩
theorem aw17_seg {w : World} {g : Nat} (h : Has w g #[.int .i64 72000, .int .i64 86400, .int .i64 0, .int .i64 0, .int .i64 0, .int .i64 86000, .int .i64 86400, .int .i64 3, .int .i64 0, .int .i64 0]) : Segs w (some ⟨g, 0, none⟩) 2 2 aw17S := by
  refine ⟨⟨rfl, .inr ⟨_, rfl, fun j u hu => ?_⟩⟩, rfl⟩
  rw [tab_add, Nat.zero_add]
  exact h.cell j (by simpa [ints, aw17S, segL] using hu)
theorem aw17_set {w : World} {g : Nat} (h : Has w g #[.int .i64 72000, .int .i64 86400, .int .i64 0, .int .i64 0, .int .i64 0]) : Segs w (some ⟨g, 0, none⟩) 1 1 aw17T := by
  refine ⟨⟨rfl, .inr ⟨_, rfl, fun j u hu => ?_⟩⟩, rfl⟩
  rw [tab_add, Nat.zero_add]
  exact h.cell j (by simpa [ints, aw17T, segL] using hu)
theorem aw17_clk : clkS aw17S = In [(72000, 86400)] := by
  unfold clkS
  congr 1
  rw [← clock_spans]
  refine (canon_congr fun t _ _ => ?_).trans (canon_self (l := [(72000, 86400)]) (by simp [PlainFrom]))
  simp only [aw17S, List.map_cons, List.map_nil, spanOf, in_cons, in_nil, or_false]
  omega
theorem aw17_rst : rstS aw17S = In [(86000, 86400)] := by
  have e : aw17S.filter (ofKind 3) = [⟨86000, 86400, 3, 0, 0⟩] := by decide +kernel
  unfold rstS
  rw [e, ← clock_spans]
  congr 1
  exact canon_self (l := [(86000, 86400)]) (by simp [PlainFrom])
theorem cnt_list17 {l : List (Int × Int)} (hl : PlainFrom 0 l) {p : Int → Prop} (hp : ∀ t, 0 ≤ t → t < 32054400 → (p t ↔ In l t)) (n : Nat) (hn : n ≤ 32054400) : cnt p n = below l n := by
  rw [← canon_self hl, below_canon _ _ hn]
  exact cnt_congr fun t h0 h1 => hp t h0 (by omega)
theorem aw17_un {t : Int} (h0 : 0 ≤ t) (h1 : t < 32054400) (ht : t < 86400) : unAll (In [(72000, 86400)]) (In [(86000, 86400)]) 0 86400 0 t ↔ In [(86000, 86400)] t := by
  have s3 : sz (onDay (In [(72000, 86400)]) (t / 86400)) = 14400 := by
    unfold sz
    rw [cnt_list17 (l := [(72000, 86400)]) (by simp [PlainFrom]) (fun u _ _ => by unfold onDay; simp only [in_cons, in_nil, or_false]; omega) _ (by omega)]
    rfl
  unfold unAll unP fstS
  rw [s3]
  have q : (0 : Int) ≤ cnt (onDay (In [(86000, 86400)]) (t / 86400)) t.toNat := (cnt_bound _ _).1
  constructor
  · rintro (h | h)
    · exact h.1.1
    · omega
  · intro h
    exact .inl ⟨⟨h, rfl⟩, fun z => by have := z.2; omega⟩
theorem aw17_yes : allYes true aw17P aw17S = [(72000, 86000)] := by
  unfold allYes
  rw [if_pos rfl, aw17_clk, aw17_rst]
  refine (canon_congr fun t h0 h1 => ?_).trans (canon_self (l := [(72000, 86000)]) (by simp [PlainFrom]))
  simp only [aw17P]
  constructor
  · rintro ⟨q1, q2⟩
    have q3 := (in_one _ _).1 q1
    rw [aw17_un h0 h1 (by omega)] at q2
    simp only [in_cons, in_nil, or_false] at q2 q3 ⊢
    omega
  · intro q
    simp only [in_cons, in_nil, or_false] at q
    rw [aw17_un h0 h1 (by omega)]
    simp only [in_cons, in_nil, or_false]
    omega
theorem aw17_no : allNo true aw17P aw17S = [(86000, 86400)] := by
  unfold allNo
  rw [if_pos rfl, aw17_clk, aw17_rst]
  refine (canon_congr fun t h0 h1 => ?_).trans (canon_self (l := [(86000, 86400)]) (by simp [PlainFrom]))
  simp only [aw17P]
  constructor
  · rintro ⟨q1, q2⟩
    have q3 := (in_one _ _).1 q1
    rwa [aw17_un h0 h1 (by omega)] at q2
  · intro q
    have q' := q
    simp only [in_cons, in_nil, or_false] at q
    rw [aw17_un h0 h1 (by omega)]
    refine ⟨?_, q'⟩
    simp only [in_cons, in_nil, or_false]
    omega
theorem aw17_wk {t : Int} (h0 : 0 ≤ t) (h1 : t < 32054400) : onWk (In [(72000, 86000)]) 0 t ↔ In [(72000, 86000)] t := by
  unfold onWk
  simp only [in_cons, in_nil, or_false]
  omega
theorem aw17_day {t : Int} (u : Int) (a : 0 ≤ u) (c : u < 32054400) : onDay (onWk (In [(72000, 86000)]) 0) 0 u ↔ In [(72000, 86000)] u := by
  unfold onDay
  rw [aw17_wk a c]
  simp only [in_cons, in_nil, or_false]
  omega
theorem aw17_short {n t : Int} (h0 : 0 ≤ t) (h1 : t < 32054400) (hn : 0 ≤ n) : shortS (onWk (In [(72000, 86000)]) 0) n t ↔ 72000 ≤ t ∧ t < 86000 ∧ t < 72000 + n := by
  unfold shortS
  by_cases e0 : t / 86400 = 0
  · rw [e0]
    unfold fstS
    rw [cnt_list17 (l := [(72000, 86000)]) (by simp [PlainFrom]) (fun u a c => aw17_day (t := t) u a c) _ (by omega), aw17_day (t := t) t h0 h1]
    simp only [below, in_cons, in_nil, or_false, List.map_cons, List.map_nil, List.sum_cons, List.sum_nil]
    omega
  · constructor
    · rintro ⟨⟨q, _⟩, _⟩
      rw [aw17_wk h0 h1] at q
      simp only [in_cons, in_nil, or_false] at q
      omega
    · intro q
      omega
theorem aw17_reg {t : Int} (h0 : 0 ≤ t) (h1 : t < 32054400) : regS (onWk (In [(72000, 86000)]) 0) 7300 604800 t ↔ In [(72000, 79300)] t := by
  unfold regS fstS
  rw [cnt_list17 (l := [(72000, 79300)]) (by simp [PlainFrom]) (fun u a c => by rw [aw17_short a c (by omega)]; simp only [in_cons, in_nil, or_false]; omega) _ (by omega), aw17_short h0 h1 (by omega)]
  simp only [below, in_cons, in_nil, or_false, List.map_cons, List.map_nil, List.sum_cons, List.sum_nil]
  omega
theorem aw17_a : regL true aw17P (In [(72000, 86000)]) 0 = [(72000, 79300)] := by
  refine Eq.trans ?_ (canon_self (l := [(72000, 79300)]) (by simp [PlainFrom]))
  unfold regL
  rw [if_pos rfl]
  exact canon_congr fun t h0 h1 => aw17_reg h0 h1
theorem aw17_b : ovrL true aw17P (In [(72000, 86000)]) 0 = [(79300, 86000)] := by
  refine Eq.trans ?_ (canon_self (l := [(79300, 86000)]) (by simp [PlainFrom]))
  unfold ovrL
  rw [if_pos rfl]
  refine canon_congr fun t h0 h1 => ?_
  simp only [aw17P]
  unfold ovrS
  rw [aw17_reg h0 h1, aw17_short h0 h1 (by omega), aw17_short h0 h1 (by omega)]
  simp only [in_cons, in_nil, or_false]
  omega
theorem aw17_c : dblL true aw17P (In [(72000, 86000)]) 0 = [] := by
  unfold dblL
  rw [if_pos rfl]
  refine canon_none fun t h0 h1 => ?_
  simp only [aw17P]
  unfold dblS
  rw [aw17_wk h0 h1, aw17_short h0 h1 (by omega)]
  simp only [in_cons, in_nil, or_false]
  omega
theorem aw17_w {l : List (Int × Int)} (h : ∀ s ∈ l, s.2 ≤ 604800) (hl : PlainFrom 0 l) : ofWeekP (In l) 0 = l := by
  refine Eq.trans ?_ (canon_self hl)
  unfold ofWeekP
  refine canon_congr fun t h0 h1 => ⟨fun z => z.1, fun z => ⟨z, ?_⟩⟩
  obtain ⟨s, hs, a, b⟩ := z
  have := h s hs
  omega
theorem aw17_d : darkL true aw17P aw17S 0 = [(79200, 86000)] := by
  unfold darkL
  rw [aw17_yes, aw17_w (by simp) (by simp [PlainFrom])]
  refine Eq.trans (canon_congr fun t h0 h1 => ?_) (canon_self (l := [(79200, 86000)]) (by simp [PlainFrom]))
  have e : nightP 79200 86400 t ↔ 79200 ≤ t % 86400 ∧ t % 86400 < 86400 := by unfold nightP; rw [if_neg (by omega)]
  unfold NB
  rw [show aw17P.nfrom = 79200 from rfl, show aw17P.nto = 86400 from rfl, e]
  simp only [in_cons, in_nil, or_false, true_and]
  omega
theorem aw17_k : (catW true aw17P aw17S 0 0 = [(86000, 86400)] ∧ catW true aw17P aw17S 0 1 = [(72000, 79200)] ∧ catW true aw17P aw17S 0 2 = [] ∧ catW true aw17P aw17S 0 3 = []) ∧ catW true aw17P aw17S 0 4 = [(79200, 79300)] ∧ catW true aw17P aw17S 0 5 = [(79300, 86000)] ∧ catW true aw17P aw17S 0 6 = [] := by
  unfold catW
  rw [aw17_d, aw17_yes, aw17_no, aw17_a, aw17_b, aw17_c, aw17_w (by simp) (by simp [PlainFrom])]
  unfold catL
  refine ⟨⟨rfl, ?_, ?_, ?_⟩, ?_, ?_, ?_⟩
  · refine Eq.trans (canon_congr fun t h0 h1 => ?_) (canon_self (l := [(72000, 79200)]) (by simp [PlainFrom]))
    simp only [in_cons, in_nil, or_false]
    omega
  · refine canon_none fun t h0 h1 => ?_
    simp only [in_cons, in_nil, or_false]
    omega
  · exact canon_none fun t h0 h1 h => in_nil t h.1
  · refine Eq.trans (canon_congr fun t h0 h1 => ?_) (canon_self (l := [(79200, 79300)]) (by simp [PlainFrom]))
    simp only [in_cons, in_nil, or_false]
    omega
  · refine Eq.trans (canon_congr fun t h0 h1 => ?_) (canon_self (l := [(79300, 86000)]) (by simp [PlainFrom]))
    simp only [in_cons, in_nil, or_false]
    omega
  · exact canon_none fun t h0 h1 h => in_nil t h.1
def aw17L : List PartP := [(72000, 79200, 1), (79200, 79300, 4), (79300, 86000, 5), (86000, 86400, 0)]
theorem aw17_parts : wpartsL true aw17P aw17S 0 = aw17L := by
  obtain ⟨⟨e0, e1, e2, e3⟩, e4, e5, e6⟩ := aw17_k
  unfold wpartsL
  rw [if_pos rfl]
  simp only [catsP, e0, e1, e2, e3, e4, e5, e6]
  rfl
theorem aw17_none : wpartsL false SetP.none aw17T 0 = [] := rfl
theorem aw17_prts {w : World} {g : Nat} (h : Has w g #[.int .i64 72000, .int .i64 79200, .int .i64 1, .int .i64 79200, .int .i64 79300, .int .i64 4, .int .i64 79300, .int .i64 86000, .int .i64 5, .int .i64 86000, .int .i64 86400, .int .i64 0]) : Prts w (some ⟨g, 0, none⟩) 4 4 aw17L := by
  refine ⟨⟨rfl, .inr ⟨_, rfl, fun j u hu => ?_⟩⟩, rfl⟩
  rw [tab_add, Nat.zero_add]
  exact h.cell j (by simpa [ints, aw17L, partL] using hu)
theorem aw17_pfit : ∀ x ∈ aw17L, FitP x := by
  intro x hx
  simp only [aw17L, List.mem_cons, List.not_mem_nil, or_false] at hx
  rcases hx with rfl | rfl | rfl | rfl <;> exact ⟨⟨by simp, by simp⟩, ⟨by simp, by simp⟩, ⟨by simp, by simp⟩⟩
theorem sz_plain {l : List (Int × Int)} (h : PlainFrom 0 l) : sz (In l) = szL l := by rw [← szL_canon, canon_self h]
theorem aw17_tot : totC aw17L 7 = #[.int .i64 400, .int .i64 7200, .int .i64 0, .int .i64 0, .int .i64 100, .int .i64 6700, .int .i64 0] := by
  have e0 : szP aw17L 0 = 400 := sz_plain (l := [(86000, 86400)]) (by simp [PlainFrom])
  have e1 : szP aw17L 1 = 7200 := sz_plain (l := [(72000, 79200)]) (by simp [PlainFrom])
  have e2 : szP aw17L 2 = 0 := sz_plain (l := []) (by simp [PlainFrom])
  have e3 : szP aw17L 3 = 0 := sz_plain (l := []) (by simp [PlainFrom])
  have e4 : szP aw17L 4 = 100 := sz_plain (l := [(79200, 79300)]) (by simp [PlainFrom])
  have e5 : szP aw17L 5 = 6700 := sz_plain (l := [(79300, 86000)]) (by simp [PlainFrom])
  have e6 : szP aw17L 6 = 0 := sz_plain (l := []) (by simp [PlainFrom])
  rw [tot_full, e0, e1, e2, e3, e4, e5, e6]
theorem wpList_load7_on {ops : Array Oper} {rest : List Oper} {o : Oper} {a : Act} {w : World} {Q : Exit → Act → World → Prop} (hgd : Region.wanted o (yielded ops a.tmps) = true) (x : Operand) (ho : o.op = .load 37 x)
    (g : Nat) (hx : a.eval x = .pointer (some ⟨g, 0, none⟩)) (cs : Array Value) (hg : Has w g cs) (hs : cs.size = 7)
    (h : wpList Tryz.prog ops Q rest (a.put o.dst (.agg cs)) w) : wpList Tryz.prog ops Q (o :: rest) a w := by
  obtain ⟨t, hg⟩ := hg
  refine wpList_step fun K hK => ?_
  rw [if_pos hgd]
  exact wp_load_row _ x ho g hx t cs (0, 0) _ hg Tryz.underlying37 rfl (by rw [hs]; kernel_rfl) (hK _ _ h)
theorem wpList_eql7_on {ops : Array Oper} {rest : List Oper} {o : Oper} {a : Act} {w : World} {Q : Exit → Act → World → Prop} {x y : Operand} {t2 : TypeId} (a0 a1 a2 a3 a4 a5 a6 : Int) (hgd : Region.wanted o (yielded ops a.tmps) = true) (ho : o.op = .binOp .eql 37 x y t2)
    (hx : a.eval x = .agg #[.int .i64 a0, .int .i64 a1, .int .i64 a2, .int .i64 a3, .int .i64 a4, .int .i64 a5, .int .i64 a6]) (hy : a.eval y = .agg #[.int .i64 a0, .int .i64 a1, .int .i64 a2, .int .i64 a3, .int .i64 a4, .int .i64 a5, .int .i64 a6])
    (h : wpList Tryz.prog ops Q rest (a.put o.dst (.bool true)) w) : wpList Tryz.prog ops Q (o :: rest) a w := by
  refine wpList_step fun K hK => ?_
  rw [if_pos hgd]
  unfold Oper.wp
  rw [exec_eql7 a0 a1 a2 a3 a4 a5 a6 ho hx hy]
  exact hK _ _ h
theorem aw17_one : (#[.int .i64 400, .int .i64 7200, .int .i64 0, .int .i64 0, .int .i64 100, .int .i64 6700, .int .i64 0] : Array Value).all (·.oneCell') = true := by rw [← aw17_tot]; exact tot_one _ 7
set_option maxHeartbeats 8000000 in
theorem awake17 (w : World) : Calls Tryz.prog 8 #[] w fun e w' => e = .returned (.bool true) ∧ Below w.heap.size w w' := by
  have H1 := Lib.hid (setV_cells _ _ _ _ _ _ _ _ _ _ _ _ _ _ (aw17C_V w.heap.size))
  have HZ := Lib.hid H1.out.1
  go_enter Tryz.func8, Tryz.ntmps8
  go_upto_region 1 with fail
  go_cut [1] (fun v2 wx => ∃ g : Nat, v2 = .pointer (some ⟨g, 0, none⟩) ∧ Hid (Has wx g (aw17C w.heap.size)) ∧ Hid (SetC wx aw17P (aw17C w.heap.size)) ∧ Hid (Below w.heap.size w wx))
  case first =>
    go_wp2_with (first | refine wpList_laidS (aw17C w.heap.size) 1 _ _ rfl rfl rfl rfl rfl rfl rfl rfl H1.out.1 H1.out.2 ?_)
    go_meet
    refine ⟨_, rfl, ?_, ?_, ?_⟩
    · exact Has.new _ _ _ rfl
    · refine Lib.hid ⟨_, _, _, _, _, _, _, _, _, _, _, _, aw17C_V w.heap.size, ⟨Tab.nil_, Tab.nil_, Tab.nil_, Tab.nil_, tab_one14 ?_, Tab.nil_⟩⟩
      exact (Has.new _ _ _ rfl).alloc _
    · show Below _ _ _
      (repeat' (first | with_reducible exact Below.refl _ _ | with_reducible assumption | with_reducible refine bel_alloc ?_ _ | with_reducible refine bel_set ?_ ?_ _ | with_reducible refine below_drewN ?_ _ | with_reducible refine below_drew ?_ | (simp; done) | (simp; omega) | omega))
  case rest =>
    obtain ⟨g, rfl, HB, HS, HBW⟩ := hcut
    clear H1
    generalize aw17C w.heap.size = cs at *
    have hb1 := bel_alloc (Below.refl wc.heap.size wc) (.cells #[.int .i64 72000, .int .i64 86400, .int .i64 0, .int .i64 0, .int .i64 0, .int .i64 86000, .int .i64 86400, .int .i64 3, .int .i64 0, .int .i64 0] 59)
    have HL1 := Lib.hid (aw17_seg (Has.new wc 59 #[.int .i64 72000, .int .i64 86400, .int .i64 0, .int .i64 0, .int .i64 0, .int .i64 86000, .int .i64 86400, .int .i64 3, .int .i64 0, .int .i64 0] rfl))
    have HW1 := Lib.hid (bel_on HBW.out hb1)
    have HC1 := parts_c (HS.out.below hb1) aw17_fit true aw17_may (some ⟨wc.heap.size, 0, none⟩) 2 2 aw17S HL1.out (by omega) aw17_fits 0
    rw [aw17_parts] at HC1
    have HC1 := Lib.hid HC1
    clear hb1 HBW HL1
    go_wp2_with (refine wpList_load_sp (by rfl) _ rfl g rfl cs HB.out HZ.out ?_)
    refine HC1.out.mono ?_
    rintro e w2 ⟨A2, n2, c2, rfl, p2, nc2, nm2, b2⟩
    have HW2 := Lib.hid (bel_on HW1.out b2)
    have HP2 := Lib.hid p2
    have hn2 : n2 = 4 := p2.2.symm
    subst hn2
    have HC2 := totals_c A2 4 c2 aw17L w2 p2 aw17_pfit (by omega) (fun j hj => Nat.le_trans (spansP_len aw17L (j : Int)) (by simp [aw17L]))
    rw [aw17_tot] at HC2
    have HC2 := Lib.hid HC2
    clear p2 b2 HC1 HB HS HW1
    go_wp2_with fail
    refine HC2.out.mono ?_
    rintro e w3 ⟨rfl, b3⟩
    have HP3 := Lib.hid (HP2.out.below b3)
    have HW3 := Lib.hid (bel_on HW2.out b3)
    clear b3 HP2 HW2 HC2
    obtain ⟨w40, hw40⟩ : ∃ W, w3.alloc (.cells #[.int .i64 0, .int .i64 0, .int .i64 0, .int .i64 0, .int .i64 0, .int .i64 0, .int .i64 0] 37) = W := ⟨_, rfl⟩
    have b40 : Below w3.heap.size w3 w40 := by rw [← hw40]; exact bel_alloc (Below.refl _ _) _
    obtain ⟨g4, hg4⟩ : ∃ g, w3.heap.size = g := ⟨_, rfl⟩
    have HT40 : Hid (Has w40 g4 #[.int .i64 0, .int .i64 0, .int .i64 0, .int .i64 0, .int .i64 0, .int .i64 0, .int .i64 0]) := by show Has _ _ _; rw [← hw40]; exact Has.new _ _ _ hg4
    obtain ⟨w4, hw4⟩ : ∃ W, w40.setRow g4 #[.int .i64 400, .int .i64 7200, .int .i64 0, .int .i64 0, .int .i64 100, .int .i64 6700, .int .i64 0] = W := ⟨_, rfl⟩
    have b4 : Below w3.heap.size w3 w4 := by rw [← hw4]; exact bel_setRow7 b40 (by omega) _
    have HT4 : Hid (Has w4 g4 #[.int .i64 400, .int .i64 7200, .int .i64 0, .int .i64 0, .int .i64 100, .int .i64 6700, .int .i64 0]) := by show Has _ _ _; rw [← hw4]; exact has_set7 HT40.out
    have HP4 := Lib.hid (HP3.out.below b4)
    have HW4 := Lib.hid (bel_on HW3.out b4)
    clear b40
    clear b4 HP3 HW3
    have hb5 := bel_alloc (Below.refl w4.heap.size w4) (.cells #[.int .i64 72000, .int .i64 86400, .int .i64 0, .int .i64 0, .int .i64 0] 59)
    have HL5 := Lib.hid (aw17_set (Has.new w4 59 #[.int .i64 72000, .int .i64 86400, .int .i64 0, .int .i64 0, .int .i64 0] rfl))
    have HW5 := Lib.hid (bel_on HW4.out hb5)
    have HP5 := Lib.hid (HP4.out.below hb5)
    have HT5 := Lib.hid (HT4.out.below hb5)
    have HC5 := parts_c (non_c _) non17_fit false non17_not (some ⟨w4.heap.size, 0, none⟩) 1 1 aw17T HL5.out (by omega) aw17_fitt 0
    rw [aw17_none] at HC5
    have HC5 := Lib.hid HC5
    clear hb5 HL5 HP4 HT4 HW4
    go_wp2_with (first | refine wpList_store7 rfl _ _ rfl g4 #[.int .i64 400, .int .i64 7200, .int .i64 0, .int .i64 0, .int .i64 100, .int .i64 6700, .int .i64 0] rfl rfl _ HT40.out rfl rfl aw17_one ?_)
    clear hw4 hg4 hw40
    refine HC5.out.mono ?_
    rintro e w6 ⟨A6, n6, c6, rfl, p6, nc6, nm6, b6⟩
    have hn6 : n6 = 0 := p6.2.symm
    subst hn6
    have HP6 := Lib.hid (HP5.out.below b6)
    have HT6 := Lib.hid (HT5.out.below b6)
    have HW6 := Lib.hid (bel_on HW5.out b6)
    clear p6 b6 HP5 HT5 HW5 HC5 nc6 nm6
    have hb7 := bel_alloc (Below.refl w6.heap.size w6) (.cells #[.int .i64 72000, .int .i64 79200, .int .i64 1, .int .i64 79200, .int .i64 79300, .int .i64 4, .int .i64 79300, .int .i64 86000, .int .i64 5, .int .i64 86000, .int .i64 86400, .int .i64 0] 42)
    have HQ7 := Lib.hid (aw17_prts (Has.new w6 42 #[.int .i64 72000, .int .i64 79200, .int .i64 1, .int .i64 79200, .int .i64 79300, .int .i64 4, .int .i64 79300, .int .i64 86000, .int .i64 5, .int .i64 86000, .int .i64 86400, .int .i64 0] rfl))
    have HP7 := Lib.hid (HP6.out.below hb7)
    have HT7 := Lib.hid (HT6.out.below hb7)
    have HW7 := Lib.hid (bel_on HW6.out hb7)
    have HC7 := Lib.hid (psame_c A2 (some ⟨w6.heap.size, 0, none⟩) 4 c2 4 aw17L _ HP7.out HQ7.out (by omega))
    clear hb7 HP6 HT6 HW6 HP7 HQ7
    go_wp2_with fail
    refine HC7.out.mono ?_
    rintro e w8 ⟨rfl, b8⟩
    have HT8 := Lib.hid (HT7.out.below b8)
    have HW8 := Lib.hid (bel_on HW7.out b8)
    clear b8 HT7 HW7 HC7
    go_wp2_with (first | refine wpList_load7_on (by rfl) _ rfl g4 rfl _ HT8.out rfl ?_ | refine wpList_eql7_on 400 7200 0 0 100 6700 0 (by rfl) rfl rfl rfl ?_)
    go_ret
    exact ⟨rfl, HW8.out⟩
end Go.Proofs.YtdlimgpmmkcgmaaGreat
