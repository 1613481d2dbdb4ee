/-
  The calls whose answers layer 15's document fixes: they are as it says; few; what the laws carry over their calls.
-/
import Derived.Test.YtghfhoodbiiciaaGreatZaz
import Derived.Test.YtghfhoodbiiciaaGreatZae
import Derived.Deep.DeepCutAuto
namespace Go.Proofs.YtghfhoodbiiciaaGreat
open Go.RowKit
set_option linter.unusedVariables false
set_option linter.unusedSimpArgs false
set_option maxRecDepth 20000

def aw15P : SetP := ⟨1, [], 1, 1, [], [], [], 0, 1, 60, 600, 21600, 1800, 0, 0, 0, 0, 0, [1], 0, 0, 0, []⟩
def aw15C (N : Nat) : Array Value := #[.int .i64 1, .slice none 0 0, .int .i64 1, .int .i64 1, .slice none 0 0, .slice none 0 0, .slice none 0 0, .int .i64 0, .int .i64 1, .int .i64 60, .int .i64 600, .int .i64 21600, .int .i64 1800,
  .int .i64 0, .int .i64 0, .int .i64 0, .int .i64 0, .int .i64 0, .slice (some ⟨N, 0, none⟩) 1 1, .int .i64 0, .int .i64 0, .int .i64 0, .slice none 0 0]
theorem aw15C_V (N : Nat) : setV aw15P none none none none (some ⟨N, 0, none⟩) none 0 0 0 0 1 0 = .agg (aw15C N) := rfl
theorem aw15_fit : aw15P.Fit := by constructor <;> simp [aw15P, In64]
theorem aw15_may : checkB aw15P = true := by decide +kernel
theorem non15_fit : SetP.none.Fit := by constructor <;> simp [SetP.none, In64]
theorem non15_not : checkB SetP.none = false := by decide +kernel
def aw15S : List SegP := [⟨0, 10000, 0, 0, 0⟩, ⟨10000, 11000, 3, 0, 0⟩, ⟨11000, 30000, 1, 0, 0⟩]
theorem aw15_fits : ∀ x ∈ aw15S, Fit x.fr ∧ Fit x.to := by
  intro x hx
  simp only [aw15S, List.mem_cons, List.not_mem_nil, or_false] at hx
  rcases hx with rfl | rfl | rfl <;> exact ⟨⟨by simp, by simp⟩, ⟨by simp, by simp⟩⟩
theorem aw15_seg {w : World} {g : Nat} (h : Has w g #[.int .i64 0, .int .i64 10000, .int .i64 0, .int .i64 0, .int .i64 0, .int .i64 10000, .int .i64 11000, .int .i64 3, .int .i64 0, .int .i64 0, .int .i64 11000, .int .i64 30000, .int .i64 1, .int .i64 0, .int .i64 0]) : Segs w (some ⟨g, 0, none⟩) 3 3 aw15S := by
  refine ⟨⟨rfl, .inr ⟨_, rfl, fun j u hu => ?_⟩⟩, rfl⟩
  rw [tab_add, Nat.zero_add]
  exact h.cell j (by simpa [ints, aw15S, segL] using hu)
theorem aw15_clk : clkS aw15S = In [(0, 30000)] := by
  unfold clkS
  congr 1
  rw [← clock_spans]
  refine (canon_congr fun t _ _ => ?_).trans (canon_self (l := [(0, 30000)]) (by simp [PlainFrom]))
  simp only [aw15S, List.map_cons, List.map_nil, spanOf, in_cons, in_nil, or_false]
  omega
theorem aw15_rst : rstS aw15S = In [(10000, 11000)] := by
  have e : aw15S.filter (ofKind 3) = [⟨10000, 11000, 3, 0, 0⟩] := by decide +kernel
  unfold rstS
  rw [e, ← clock_spans]
  congr 1
  exact canon_self (l := [(10000, 11000)]) (by simp [PlainFrom])
theorem cnt_list {l : List (Int × Int)} (hl : PlainFrom 0 l) {p : Int → Prop} (hp : ∀ t, 0 ≤ t → t < 32054400 → (p t ↔ In l t)) (n : Nat) (hn : n ≤ 32054400) : cnt p n = below l n := by
  rw [← canon_self hl, below_canon _ _ hn]
  exact cnt_congr fun t h0 h1 => hp t h0 (by omega)
theorem aw15_un {t : Int} (h0 : 0 ≤ t) (h1 : t < 32054400) : unP (In [(0, 30000)]) (In [(10000, 11000)]) 600 21600 1800 t ↔ In [(10600, 11000), (29200, 30000)] t := by
  have c1 : ∀ n : Nat, n ≤ 32054400 → cnt (In [(10000, 11000)]) n = max 0 (min 11000 (n : Int) - 10000) := fun n hn => by
    rw [cnt_list (l := [(10000, 11000)]) (by simp [PlainFrom]) (fun _ _ _ => Iff.rfl) n hn]; simp [below]
  have c2 : ∀ n : Nat, n ≤ 32054400 → cnt (fun t => In [(0, 30000)] t ∧ ¬ In [(10000, 11000)] t) n = max 0 (min 10000 (n : Int)) + max 0 (min 30000 (n : Int) - 11000) := fun n hn => by
    rw [cnt_list (l := [(0, 10000), (11000, 30000)]) (by simp [PlainFrom]) (fun t _ _ => by simp only [in_cons, in_nil, or_false]; omega) n hn]; simp [below]
  have c3 : ∀ n : Nat, n ≤ 32054400 → cnt (In [(0, 30000)]) n = max 0 (min 30000 (n : Int)) := fun n hn => by
    rw [cnt_list (l := [(0, 30000)]) (by simp [PlainFrom]) (fun _ _ _ => Iff.rfl) n hn]; simp [below]
  have s1 : sz (In [(10000, 11000)]) = 1000 := by unfold sz; rw [c1 _ (Nat.le_refl _)]; rfl
  have s2 : sz (fun t => In [(0, 30000)] t ∧ ¬ In [(10000, 11000)] t) = 29000 := by unfold sz; rw [c2 _ (Nat.le_refl _)]; rfl
  have s3 : sz (In [(0, 30000)]) = 30000 := by unfold sz; rw [c3 _ (Nat.le_refl _)]; rfl
  unfold unP fstS lstS
  rw [s1, s2, s3, c1 _ (by omega), c2 _ (by omega)]
  simp only [in_cons, in_nil, or_false]
  omega
theorem aw15_day {t : Int} (h0 : 0 ≤ t) (h1 : t < 32054400) (ht : t < 30000) : unAll (In [(0, 30000)]) (In [(10000, 11000)]) 600 21600 1800 t ↔ In [(10600, 11000), (29200, 30000)] t := by
  rw [← aw15_un h0 h1]
  unfold unAll
  refine un_same (fun u _ _ => ?_) (fun u _ _ => ?_) h0 h1
  · unfold onDay; simp only [in_one]; omega
  · unfold onDay; simp only [in_one]; omega
theorem aw15_yes : allYes true aw15P aw15S = [(0, 10600), (11000, 29200)] := by
  unfold allYes
  rw [if_pos rfl, aw15_clk, aw15_rst]
  refine (canon_congr fun t h0 h1 => ?_).trans (canon_self (l := [(0, 10600), (11000, 29200)]) (by simp [PlainFrom]))
  simp only [aw15P]
  constructor
  · rintro ⟨q1, q2⟩
    have q3 := (in_one _ _).1 q1
    rw [aw15_day h0 h1 (by omega)] at q2
    simp only [in_cons, in_nil, or_false] at q2 q3 ⊢
    omega
  · intro q
    simp only [in_cons, in_nil, or_false] at q
    rw [aw15_day h0 h1 (by omega)]
    simp only [in_cons, in_nil, or_false]
    omega
theorem aw15_no : allNo true aw15P aw15S = [(10600, 11000), (29200, 30000)] := by
  unfold allNo
  rw [if_pos rfl, aw15_clk, aw15_rst]
  refine (canon_congr fun t h0 h1 => ?_).trans (canon_self (l := [(10600, 11000), (29200, 30000)]) (by simp [PlainFrom]))
  simp only [aw15P]
  constructor
  · rintro ⟨q1, q2⟩
    have q3 := (in_one _ _).1 q1
    rwa [aw15_day h0 h1 (by omega)] at q2
  · intro q
    have q' := q
    simp only [in_cons, in_nil, or_false] at q
    rw [aw15_day h0 h1 (by omega)]
    refine ⟨?_, q'⟩
    simp only [in_cons, in_nil, or_false]
    omega
theorem aw15_day1 : ∀ t, 0 ≤ t → t < 32054400 → ¬ onDay (clkS aw15S) 1 t := fun t h0 h1 h => by
  rw [aw15_clk] at h
  have := (in_one _ _).1 h.1
  have := h.2
  omega
theorem aw15_d1y : dayYes true aw15P aw15S 1 = [] := by
  unfold dayYes
  rw [if_pos rfl]
  exact canon_none fun t h0 h1 h => aw15_day1 t h0 h1 h.1
theorem aw15_d1n : dayNo true aw15P aw15S 1 = [] := by
  unfold dayNo
  rw [if_pos rfl]
  exact canon_none fun t h0 h1 h => aw15_day1 t h0 h1 h.1
theorem aw15_size : sz (In [(0, 10600), (11000, 29200)]) = 28800 := by
  rw [← szL_canon, canon_self (l := [(0, 10600), (11000, 29200)]) (by simp [PlainFrom])]
  rfl
theorem aw15_f1 : Fits [(0, 10600), (11000, 29200)] := .of_plain (by simp [PlainFrom])
theorem aw15_f2 : Fits [(10600, 11000), (29200, 30000)] := .of_plain (by simp [PlainFrom])
set_option maxHeartbeats 8000000 in
theorem awake15 (w : World) : Calls Tryz.prog 4 #[] w fun e w' => e = .returned (.bool true) ∧ Below w.heap.size w w' := by
  have H1 := Lib.hid (setV_cells _ _ _ _ _ _ _ _ _ _ _ _ _ _ (aw15C_V w.heap.size))
  have HZ := Lib.hid H1.out.1
  go_enter Tryz.func4, Tryz.ntmps4
  go_upto_region 1 with fail
  go_cut [1] (fun v2 wx => ∃ g : Nat, v2 = .pointer (some ⟨g, 0, none⟩) ∧ Hid (Has wx g (aw15C w.heap.size)) ∧ Hid (SetC wx aw15P (aw15C w.heap.size)) ∧ Hid (Below w.heap.size w wx))
  case first =>
    go_wp2_with (first | refine wpList_laidS (aw15C w.heap.size) 1 _ _ rfl rfl rfl rfl rfl rfl rfl rfl H1.out.1 H1.out.2 ?_)
    go_meet
    refine ⟨_, rfl, ?_, ?_, ?_⟩
    · exact Has.new _ _ _ rfl
    · refine Lib.hid ⟨_, _, _, _, _, _, _, _, _, _, _, _, aw15C_V w.heap.size, ⟨Tab.nil_, Tab.nil_, Tab.nil_, Tab.nil_, tab_one14 ?_, Tab.nil_⟩⟩
      exact (Has.new _ _ _ rfl).alloc _
    · show Below _ _ _
      (repeat' (first | with_reducible exact Below.refl _ _ | with_reducible assumption | with_reducible refine bel_alloc ?_ _ | with_reducible refine bel_set ?_ ?_ _ | with_reducible refine below_drewN ?_ _ | with_reducible refine below_drew ?_ | (simp; done) | (simp; omega) | omega))
  case rest =>
    obtain ⟨g, rfl, HB, HS, HBW⟩ := hcut
    clear H1
    generalize aw15C w.heap.size = cs at *
    have hb1 := bel_alloc (Below.refl wc.heap.size wc) (.cells #[.int .i64 0, .int .i64 10000, .int .i64 0, .int .i64 0, .int .i64 0, .int .i64 10000, .int .i64 11000, .int .i64 3, .int .i64 0, .int .i64 0, .int .i64 11000, .int .i64 30000, .int .i64 1, .int .i64 0, .int .i64 0] 41)
    have HL1 := Lib.hid (aw15_seg (Has.new wc 41 #[.int .i64 0, .int .i64 10000, .int .i64 0, .int .i64 0, .int .i64 0, .int .i64 10000, .int .i64 11000, .int .i64 3, .int .i64 0, .int .i64 0, .int .i64 11000, .int .i64 30000, .int .i64 1, .int .i64 0, .int .i64 0] rfl))
    have HB1 := Lib.hid (HB.out.below hb1)
    have HS1 := Lib.hid (HS.out.below hb1)
    have HW1 := Lib.hid (bel_on HBW.out hb1)
    clear HB HS HBW hb1
    go_wp2_with (refine wpList_load_sp (by rfl) _ rfl g rfl cs HB1.out HZ.out ?_)
    refine (bpaid_c HS1.out aw15_fit true aw15_may (some ⟨wc.heap.size, 0, none⟩) 3 3 aw15S HL1.out (by omega) aw15_fits).mono ?_
    rw [aw15_yes, aw15_no]
    rintro e w2 ⟨A2, c2, B2, d2, rfl, r2, s2, b2⟩
    have HL2 := Lib.hid (HL1.out.below b2)
    have HB2 := Lib.hid (HB1.out.below b2)
    have HS2 := Lib.hid (HS1.out.below b2)
    have HW2 := Lib.hid (bel_on HW1.out b2)
    have HX2 := Lib.hid (r2.spans aw15_f1)
    have HY2 := Lib.hid (s2.spans aw15_f2)
    clear r2 s2 b2 HL1 HB1 HS1 HW1
    go_wp2_with fail
    refine (bpaid_c (non_c _) non15_fit false non15_not (some ⟨wc.heap.size, 0, none⟩) 3 3 aw15S HL2.out (by omega) aw15_fits).mono ?_
    rw [show allYes false SetP.none aw15S = [] from rfl, show allNo false SetP.none aw15S = [] from rfl]
    rintro e w3 ⟨A3, c3, B3, d3, rfl, r3, s3, b3⟩
    have HL3 := Lib.hid (HL2.out.below b3)
    have HB3 := Lib.hid (HB2.out.below b3)
    have HS3 := Lib.hid (HS2.out.below b3)
    have HW3 := Lib.hid (bel_on HW2.out b3)
    have HX3 := Lib.hid (HX2.out.below b3)
    have HY3 := Lib.hid (HY2.out.below b3)
    clear r3 s3 b3 HL2 HB2 HS2 HW2 HX2 HY2
    go_wp2_with (refine wpList_load_sp (by rfl) _ rfl g rfl cs HB3.out HZ.out ?_)
    refine (bofday_c HS3.out aw15_fit true aw15_may (some ⟨wc.heap.size, 0, none⟩) 3 3 aw15S HL3.out (by omega) aw15_fits 1).mono ?_
    rw [aw15_d1y, aw15_d1n]
    rintro e w4 ⟨A4, c4, B4, d4, rfl, r4, s4, b4⟩
    have HW4 := Lib.hid (bel_on HW3.out b4)
    have HX4 := Lib.hid (HX3.out.below b4)
    have HY4 := Lib.hid (HY3.out.below b4)
    have hb5 := bel_alloc (Below.refl w4.heap.size w4) (.cells #[.int .i64 10600, .int .i64 11000, .int .i64 29200, .int .i64 30000] 43)
    have HZ5 := Lib.hid (spans_new w4 [(10600, 11000), (29200, 30000)] 43 #[.int .i64 10600, .int .i64 11000, .int .i64 29200, .int .i64 30000] rfl aw15_f2 rfl)
    have HX5 := Lib.hid (HX4.out.below hb5)
    have HY5 := Lib.hid (HY4.out.below hb5)
    have HW5 := Lib.hid (bel_on HW4.out hb5)
    clear r4 s4 b4 hb5 HL3 HB3 HS3 HW3 HX3 HY3 HW4 HX4 HY4
    go_wp2_with fail
    refine (same_any _ _ _ _ [(10600, 11000), (29200, 30000)] _ HY5.out HZ5.out (by simp)).mono ?_
    rintro e w6 ⟨rfl, b6⟩
    have HX6 := Lib.hid (HX5.out.below b6)
    have HW6 := Lib.hid (bel_on HW5.out b6)
    clear b6 HX5 HY5 HZ5 HW5
    go_wp2_with fail
    refine (size_any _ _ [(0, 10600), (11000, 29200)] _ HX6.out (by simp)).mono ?_
    rw [aw15_size]
    rintro e w7 ⟨rfl, b7⟩
    have HW7 := Lib.hid (bel_on HW6.out b7)
    clear b7 HX6 HW6
    go_wp2
    go_ret
    exact ⟨rfl, HW7.out⟩

/-- What a law carries over its calls: the setup, its variable, the parts. -/
structure Bx (w0 w : World) (g : Nat) (s : SetP) (cs : Array Value) (A : Option Addr) (n cp : Nat) (l : List SegP) : Prop where
  b : Below w0.heap.size w0 w
  c : SetC w s cs
  h : Has w g cs
  x : Segs w A n cp l
theorem Bx.below {w0 w w' : World} {g : Nat} {s : SetP} {cs : Array Value} {A : Option Addr} {n c : Nat} {l : List SegP} (h : Bx w0 w g s cs A n c l) (hb : Below w.heap.size w w') : Bx w0 w' g s cs A n c l := ⟨bel_on h.b hb, h.c.below hb, h.h.below hb, h.x.below hb⟩
theorem bx_start {w : World} {s : SetP} {cs : Array Value} {A : Option Addr} {n c : Nat} {l : List SegP} (hc : SetC w s cs) (hx : Segs w A n c l) : Bx w (w.alloc (.cells cs 30)) w.heap.size s cs A n c l :=
  ⟨bel_alloc (Below.refl _ _) _, hc.below (bel_alloc (Below.refl _ _) _), Has.new _ _ _ rfl, hx.below (bel_alloc (Below.refl _ _) _)⟩
/-! ### few -/
set_option maxHeartbeats 4000000 in
theorem few15 (s : SetP) (cs : Array Value) (w : World) (hC : SetC w s cs) (A : Option Addr) (n c : Nat) (l : List SegP) (hx : Segs w A n c l) (hmax : n ≤ 9223372036854775807) :
    Calls Tryz.prog 5 #[.agg cs, .slice A n c] w fun e w' => (∃ b, e = .returned (.bool b) ∧ (b = true → n ≤ 30)) ∧ Below w.heap.size w w' := by
  have HZ := Lib.hid hC.size
  have hb0 := bel_alloc (Below.refl w.heap.size w) (.cells cs 30)
  have HB0 := Lib.hid (Has.new w 30 cs rfl)
  have HS0 := Lib.hid (hC.below hb0)
  have HX0 := Lib.hid (hx.below hb0)
  have HBW := Lib.hid hb0
  clear hC hx hb0
  go_enter Tryz.func5, Tryz.ntmps5
  go_wp2
  generalize w.alloc (.cells cs 30) = w1 at *
  go_loopw [5] (fun i wr => ∃ (k : Nat), k ≤ n ∧ i = .int .i64 k ∧ Hid (Below w1.heap.size w1 wr)) (fun i _ => n - (intOf i).toNat)
  case atStart => exact ⟨0, Nat.zero_le _, rfl, Below.refl _ _⟩
  case round =>
    obtain ⟨k, hk, rfl, hbw⟩ := hrel
    by_cases hlt : k < n
    · have HXr := HX0.out.below hbw.out
      obtain ⟨ba, oa, rfl⟩ := HXr.form (by omega)
      obtain ⟨sg, hx⟩ : ∃ x, l.getD k SegP.none = x := ⟨_, rfl⟩
      obtain ⟨d1, d2, -, -, -⟩ := segs_num HXr hlt sg hx
      have zl := cell_lt d1
      clear HXr hx
      generalize sg.fr = x at *
      generalize sg.to = y at *
      have i0 : (0 : Int) ≤ (k : Int) := by omega
      have i1 : (k : Int) < (n : Int) := by omega
      obtain ⟨q, hq⟩ : ∃ q, IntKind.i64.wrap (y - x) = q := ⟨_, rfl⟩
      have HEND : ∀ m, Hid (Below w.heap.size w (wr.drewN m)) := fun m => below_drewN (bel_on HBW.out hbw.out) m
      have HBAD : ∀ m, Hid ((∃ b, Ending.returned (.bool false) = .returned (.bool b) ∧ (b = true → n ≤ 30)) ∧ Below w.heap.size w (wr.drewN m)) := fun m => ⟨⟨false, rfl, fun h => by cases h⟩, (HEND m).out⟩
      by_cases x0 : x < 0
      · go_wp2
        go_quiet (fail)
        go_wp2
        go_ret
        exact (HBAD _).out
      have x0' : decide (x < 0) = false := decide_eq_false x0
      by_cases x1 : 33000000 < x
      · go_wp2
        go_quiet (fail)
        go_wp2
        go_ret
        exact (HBAD _).out
      have x1' : decide (33000000 < x) = false := decide_eq_false x1
      by_cases x2 : 33000000 < y
      · go_wp2
        go_quiet (fail)
        go_wp2
        go_ret
        exact (HBAD _).out
      have x2' : decide (33000000 < y) = false := decide_eq_false x2
      by_cases x3 : 864000 < q
      · go_wp2
        go_quiet (fail)
        go_wp2
        go_ret
        exact (HBAD _).out
      have x3' : decide (864000 < q) = false := decide_eq_false x3
      clear HBAD HEND
      go_wp2
      go_quiet (fail)
      go_wp2
      go_roundw
      case rel => exact ⟨k + 1, by omega, by go_num, below_drewN hbw.out _⟩
      case measure => simp [intOf]; omega
    · obtain rfl : k = n := by omega
      have HB2 := Lib.hid (bel_on HBW.out hbw.out)
      have HG2 := Lib.hid (HB0.out.below hbw.out)
      cases hF : decide s.Few with
      | false =>
        have HC := Lib.hid (few_c (HS0.out.below hbw.out) false hF)
        clear hF hbw
        go_wp2_with (refine wpList_load_sp (by rfl) _ rfl w.heap.size rfl cs HG2.out HZ.out ?_)
        refine HC.out.mono ?_
        rintro e w3 ⟨rfl, b3⟩
        have HB3 := Lib.hid (bel_on HB2.out b3)
        clear b3
        go_wp2
        go_ret
        exact ⟨⟨false, rfl, fun h => by cases h⟩, HB3.out⟩
      | true =>
        have HC := Lib.hid (few_c (HS0.out.below hbw.out) true hF)
        clear hF hbw
        go_wp2_with (refine wpList_load_sp (by rfl) _ rfl w.heap.size rfl cs HG2.out HZ.out ?_)
        refine HC.out.mono ?_
        rintro e w3 ⟨rfl, b3⟩
        have HB3 := Lib.hid (bel_on HB2.out b3)
        clear b3
        by_cases h30 : k ≤ 30
        · have hnI : (k : Int) ≤ 30 := by omega
          go_wp2
          go_ret
          exact ⟨⟨true, rfl, fun _ => h30⟩, HB3.out⟩
        · have hnI : ¬ (k : Int) ≤ 30 := by omega
          go_wp2
          go_ret
          exact ⟨⟨false, ret_bool (by simp; omega), fun h => by cases h⟩, HB3.out⟩
end Go.Proofs.YtghfhoodbiiciaaGreat
