/-
  The calls whose answers layer 16's document fixes: they are as it says; few; what the laws carry over their calls.
-/
import Derived.Test.YthdolmhnjinlhaaGreatOvrC
import Derived.Test.YthdolmhnjinlhaaGreatZae
import Derived.Test.YthdolmhnjinlhaaGreatZaj
import Derived.Deep.DeepCutAuto
namespace Go.Proofs.YthdolmhnjinlhaaGreat
open Go.RowKit
set_option linter.unusedVariables false
set_option linter.unusedSimpArgs false
set_option maxRecDepth 20000

def aw16P : SetP := ⟨1, [], 1, 1, [], [], [], 0, 1, 60, 0, 0, 0, 28800, 43200, 40000, 0, 0, [1], 0, 0, 0, []⟩
def aw16C (N : Nat) : Array Value := #[.int .i64 1, .slice none 0 0, .int .i64 1, .int .i64 1, .slice none 0 0, .slice none 0 0, .slice none 0 0, .int .i64 0, .int .i64 1, .int .i64 60, .int .i64 0, .int .i64 0, .int .i64 0,
  .int .i64 28800, .int .i64 43200, .int .i64 40000, .int .i64 0, .int .i64 0, .slice (some ⟨N, 0, none⟩) 1 1, .int .i64 0, .int .i64 0, .int .i64 0, .slice none 0 0]
theorem aw16C_V (N : Nat) : setV aw16P none none none none (some ⟨N, 0, none⟩) none 0 0 0 0 1 0 = .agg (aw16C N) := rfl
theorem aw16_fit : aw16P.Fit := by constructor <;> simp [aw16P, In64]
theorem aw16_may : checkB aw16P = true := by decide +kernel
theorem non16_fit : SetP.none.Fit := by constructor <;> simp [SetP.none, In64]
theorem non16_not : checkB SetP.none = false := by decide +kernel
theorem fst_same {p q : Int → Prop} (h : ∀ t, 0 ≤ t → t < 32054400 → (p t ↔ q t)) {n t : Int} (h0 : 0 ≤ t) (h1 : t < 32054400) : fstS p n t ↔ fstS q n t := by
  unfold fstS
  rw [h t h0 h1, cnt_congr fun u a b => h u a (by omega)]
theorem cnt_list16 {l : List (Int × Int)} (hl : PlainFrom 0 l) (n : Nat) (hn : n ≤ 32054400) : cnt (In l) n = below l n := by
  have e := below_canon (In l) n hn
  rw [canon_self hl] at e
  exact e.symm
def aw16L : List (Int × Int) := [(0, 50000), (86400, 100000)]
theorem aw16_wk {t : Int} (h0 : 0 ≤ t) (h1 : t < 32054400) : onWk (In aw16L) 0 t ↔ In aw16L t := by
  unfold onWk aw16L
  simp only [in_cons, in_nil, or_false]
  omega
theorem aw16_short {n t : Int} (h0 : 0 ≤ t) (h1 : t < 32054400) (hn : 13600 ≤ n) (hn2 : n ≤ 50000) : shortS (onWk (In aw16L) 0) n t ↔ In [(0, n), (86400, 100000)] t := by
  unfold shortS
  by_cases e0 : t / 86400 = 0
  · rw [e0, fst_same (q := In [(0, 50000)]) (fun u a c => by unfold onDay; rw [aw16_wk a c]; unfold aw16L; simp only [in_cons, in_nil, or_false]; omega) h0 h1]
    unfold fstS
    rw [cnt_list16 (by simp [PlainFrom]) _ (by omega)]
    simp only [below, in_cons, in_nil, or_false, List.map_cons, List.map_nil, List.sum_cons, List.sum_nil]
    omega
  · by_cases e1 : t / 86400 = 1
    · rw [e1, fst_same (q := In [(86400, 100000)]) (fun u a c => by unfold onDay; rw [aw16_wk a c]; unfold aw16L; simp only [in_cons, in_nil, or_false]; omega) h0 h1]
      unfold fstS
      rw [cnt_list16 (by simp [PlainFrom]) _ (by omega)]
      simp only [below, in_cons, in_nil, or_false, List.map_cons, List.map_nil, List.sum_cons, List.sum_nil]
      omega
    · constructor
      · rintro ⟨⟨q, _⟩, _⟩
        rw [aw16_wk h0 h1] at q
        unfold aw16L at q
        simp only [in_cons, in_nil, or_false] at q
        omega
      · intro q
        simp only [in_cons, in_nil, or_false] at q
        omega
theorem aw16_reg {t : Int} (h0 : 0 ≤ t) (h1 : t < 32054400) : regS (onWk (In aw16L) 0) 28800 40000 t ↔ In [(0, 28800), (86400, 97600)] t := by
  unfold regS
  rw [fst_same (q := In [(0, 28800), (86400, 100000)]) (fun u a c => aw16_short a c (by omega) (by omega)) h0 h1]
  unfold fstS
  rw [cnt_list16 (by simp [PlainFrom]) _ (by omega)]
  simp only [below, in_cons, in_nil, or_false, List.map_cons, List.map_nil, List.sum_cons, List.sum_nil]
  omega
theorem aw16_a : regL true aw16P (In aw16L) 0 = [(0, 28800), (86400, 97600)] := by
  refine Eq.trans ?_ (canon_self (l := [(0, 28800), (86400, 97600)]) (by simp [PlainFrom]))
  unfold regL
  rw [if_pos rfl]
  exact canon_congr fun t h0 h1 => aw16_reg h0 h1
theorem aw16_b : ovrL true aw16P (In aw16L) 0 = [(28800, 43200), (97600, 100000)] := by
  refine Eq.trans ?_ (canon_self (l := [(28800, 43200), (97600, 100000)]) (by simp [PlainFrom]))
  unfold ovrL
  rw [if_pos rfl]
  refine canon_congr fun t h0 h1 => ?_
  simp only [aw16P]
  unfold ovrS
  rw [aw16_reg h0 h1, aw16_short h0 h1 (by omega) (by omega), aw16_short h0 h1 (by omega) (by omega)]
  simp only [in_cons, in_nil, or_false]
  omega
theorem aw16_c : dblL true aw16P (In aw16L) 0 = [(43200, 50000)] := by
  refine Eq.trans ?_ (canon_self (l := [(43200, 50000)]) (by simp [PlainFrom]))
  unfold dblL
  rw [if_pos rfl]
  refine canon_congr fun t h0 h1 => ?_
  simp only [aw16P]
  unfold dblS
  rw [aw16_wk h0 h1, aw16_short h0 h1 (by omega) (by omega)]
  unfold aw16L
  simp only [in_cons, in_nil, or_false]
  omega
theorem aw16_f0 : Fits aw16L := .of_plain (by simp [aw16L, PlainFrom])
theorem aw16_f1 : Fits [(0, 28800), (86400, 97600)] := .of_plain (by simp [PlainFrom])
theorem aw16_f2 : Fits [(28800, 43200), (97600, 100000)] := .of_plain (by simp [PlainFrom])
theorem aw16_f3 : Fits [(43200, 50000)] := .of_plain (by simp [PlainFrom])
set_option maxHeartbeats 8000000 in
theorem awake16 (w : World) : Calls Tryz.prog 4 #[] w fun e w' => e = .returned (.bool true) ∧ Below w.heap.size w w' := by
  have H1 := Lib.hid (setV_cells _ _ _ _ _ _ _ _ _ _ _ _ _ _ (aw16C_V w.heap.size))
  have HZ := Lib.hid H1.out.1
  go_enter Tryz.func4, Tryz.ntmps4
  go_upto_region 1 with fail
  go_cut [1] (fun v2 wx => ∃ g : Nat, v2 = .pointer (some ⟨g, 0, none⟩) ∧ Hid (Has wx g (aw16C w.heap.size)) ∧ Hid (SetC wx aw16P (aw16C w.heap.size)) ∧ Hid (Below w.heap.size w wx))
  case first =>
    go_wp2_with (first | refine wpList_laidS (aw16C w.heap.size) 1 _ _ rfl rfl rfl rfl rfl rfl rfl rfl H1.out.1 H1.out.2 ?_)
    go_meet
    refine ⟨_, rfl, ?_, ?_, ?_⟩
    · exact Has.new _ _ _ rfl
    · refine Lib.hid ⟨_, _, _, _, _, _, _, _, _, _, _, _, aw16C_V w.heap.size, ⟨Tab.nil_, Tab.nil_, Tab.nil_, Tab.nil_, tab_one14 ?_, Tab.nil_⟩⟩
      exact (Has.new _ _ _ rfl).alloc _
    · show Below _ _ _
      (repeat' (first | with_reducible exact Below.refl _ _ | with_reducible assumption | with_reducible refine bel_alloc ?_ _ | with_reducible refine bel_set ?_ ?_ _ | with_reducible refine below_drewN ?_ _ | with_reducible refine below_drew ?_ | (simp; done) | (simp; omega) | omega))
  case rest =>
    obtain ⟨g, rfl, HB, HS, HBW⟩ := hcut
    clear H1
    generalize aw16C w.heap.size = cs at *
    have hb1 := bel_alloc (Below.refl wc.heap.size wc) (.cells #[.int .i64 0, .int .i64 50000, .int .i64 86400, .int .i64 100000] 42)
    have HX1 := Lib.hid (spans_new wc aw16L 42 #[.int .i64 0, .int .i64 50000, .int .i64 86400, .int .i64 100000] rfl aw16_f0 rfl)
    have HC1 := over_c (HS.out.below hb1) aw16_fit true aw16_may (some ⟨wc.heap.size, 0, none⟩) 2 aw16L HX1.out (by simp [aw16L]) 0
    rw [aw16_a, aw16_b, aw16_c] at HC1
    have HC1 := Lib.hid HC1
    go_wp2_with (refine wpList_load_sp (by rfl) _ rfl g rfl cs HB.out HZ.out ?_)
    refine HC1.out.mono ?_
    rintro e w2 ⟨A2, c2, B2, d2, E2, f2, rfl, r2, s2, t2, b2⟩
    have HW2 := Lib.hid (bel_on HBW.out (bel_on hb1 b2))
    have HA2 := Lib.hid (r2.spans aw16_f1)
    have HB2 := Lib.hid (s2.spans aw16_f2)
    have HD2 := Lib.hid (t2.spans aw16_f3)
    clear r2 s2 t2 b2 hb1 HX1 HC1 HB HS HBW
    have HC2 := over_c (non_c w2) non16_fit false non16_not A2 c2 [(0, 28800), (86400, 97600)] HA2.out (by simp) 0
    rw [show regL false SetP.none (In [(0, 28800), (86400, 97600)]) 0 = [] from rfl, show ovrL false SetP.none (In [(0, 28800), (86400, 97600)]) 0 = [] from rfl, show dblL false SetP.none (In [(0, 28800), (86400, 97600)]) 0 = [] from rfl] at HC2
    have HC2 := Lib.hid HC2
    go_wp2_with fail
    refine HC2.out.mono ?_
    rintro e w3 ⟨A3, c3, B3, d3, E3, f3, rfl, r3, s3, t3, b3⟩
    have HW3 := Lib.hid (bel_on HW2.out b3)
    have HA3 := Lib.hid (HA2.out.below b3)
    have HB3 := Lib.hid (HB2.out.below b3)
    have HD3 := Lib.hid (HD2.out.below b3)
    clear r3 s3 t3 b3 HC2 HW2 HA2 HB2 HD2
    have hb4 := bel_alloc (Below.refl w3.heap.size w3) (.cells #[.int .i64 0, .int .i64 28800, .int .i64 86400, .int .i64 97600] 42)
    have HZ4 := Lib.hid (spans_new w3 [(0, 28800), (86400, 97600)] 42 #[.int .i64 0, .int .i64 28800, .int .i64 86400, .int .i64 97600] rfl aw16_f1 rfl)
    have HA4 := Lib.hid (HA3.out.below hb4)
    go_wp2_with fail
    refine (same_any _ _ _ _ [(0, 28800), (86400, 97600)] _ HA4.out HZ4.out (by simp)).mono ?_
    rintro e w5 ⟨rfl, b5⟩
    have hb5 := bel_on hb4 b5
    have HW5 := Lib.hid (bel_on HW3.out hb5)
    have HB5 := Lib.hid (HB3.out.below hb5)
    have HD5 := Lib.hid (HD3.out.below hb5)
    clear b5 hb5 hb4 HZ4 HA4 HA3 HB3 HD3 HW3
    have hb6 := bel_alloc (Below.refl w5.heap.size w5) (.cells #[.int .i64 28800, .int .i64 43200, .int .i64 97600, .int .i64 100000] 42)
    have HZ6 := Lib.hid (spans_new w5 [(28800, 43200), (97600, 100000)] 42 #[.int .i64 28800, .int .i64 43200, .int .i64 97600, .int .i64 100000] rfl aw16_f2 rfl)
    have HB6 := Lib.hid (HB5.out.below hb6)
    go_wp2_with fail
    refine (same_any _ _ _ _ [(28800, 43200), (97600, 100000)] _ HB6.out HZ6.out (by simp)).mono ?_
    rintro e w7 ⟨rfl, b7⟩
    have hb7 := bel_on hb6 b7
    have HW7 := Lib.hid (bel_on HW5.out hb7)
    have HD7 := Lib.hid (HD5.out.below hb7)
    clear b7 hb7 hb6 HZ6 HB6 HB5 HD5 HW5
    have hb8 := bel_alloc (Below.refl w7.heap.size w7) (.cells #[.int .i64 43200, .int .i64 50000] 42)
    have HZ8 := Lib.hid (spans_new w7 [(43200, 50000)] 42 #[.int .i64 43200, .int .i64 50000] rfl aw16_f3 rfl)
    have HD8 := Lib.hid (HD7.out.below hb8)
    go_wp2_with fail
    refine (same_any _ _ _ _ [(43200, 50000)] _ HD8.out HZ8.out (by simp)).mono ?_
    rintro e w9 ⟨rfl, b9⟩
    have HW9 := Lib.hid (bel_on HW7.out (bel_on hb8 b9))
    clear b9 hb8 HZ8 HD8 HD7 HW7
    go_wp2
    go_ret
    exact ⟨rfl, HW9.out⟩
/-- What a law carries over its calls: the setup, its variable, the spans. -/
structure Ox (w0 w : World) (g : Nat) (s : SetP) (cs : Array Value) (A : Option Addr) (xs : List (Int × Int)) : Prop where
  b : Below w0.heap.size w0 w
  c : SetC w s cs
  h : Has w g cs
  x : Spans w A xs
theorem Ox.below {w0 w w' : World} {g : Nat} {s : SetP} {cs : Array Value} {A : Option Addr} {xs : List (Int × Int)} (h : Ox w0 w g s cs A xs) (hb : Below w.heap.size w w') : Ox w0 w' g s cs A xs := ⟨bel_on h.b hb, h.c.below hb, h.h.below hb, h.x.below hb⟩
theorem ox_start {w : World} {s : SetP} {cs : Array Value} {A : Option Addr} {xs : List (Int × Int)} (hc : SetC w s cs) (hx : Spans w A xs) : Ox w (w.alloc (.cells cs 30)) w.heap.size s cs A xs :=
  ⟨bel_alloc (Below.refl _ _) _, hc.below (bel_alloc (Below.refl _ _) _), Has.new _ _ _ rfl, hx.below (bel_alloc (Below.refl _ _) _)⟩
set_option maxHeartbeats 4000000 in
theorem few16 (s : SetP) (cs : Array Value) (w : World) (hC : SetC w s cs) (A : Option Addr) (n c : Nat) (xs : List (Int × Int)) (hx : Spans w A xs) (hn : xs.length = n) (hmax : n ≤ 9223372036854775807) :
    Calls Tryz.prog 5 #[.agg cs, .slice A n c] w fun e w' => (∃ b, e = .returned (.bool b) ∧ (b = true → n ≤ 30)) ∧ Below w.heap.size w w' := by
  have HZ := Lib.hid hC.size
  have hb0 := bel_alloc (Below.refl w.heap.size w) (.cells cs 30)
  have HB0 := Lib.hid (Has.new w 30 cs rfl)
  have HS0 := Lib.hid (hC.below hb0)
  have HX0 := Lib.hid (hx.below hb0)
  have HBW := Lib.hid hb0
  clear hC hx hb0
  go_enter Tryz.func5, Tryz.ntmps5
  go_wp2
  generalize w.alloc (.cells cs 30) = w1 at *
  go_loopw [5] (fun i wr => ∃ (k : Nat), k ≤ n ∧ i = .int .i64 k ∧ Hid (Below w1.heap.size w1 wr)) (fun i _ => n - (intOf i).toNat)
  case atStart => exact ⟨0, Nat.zero_le _, rfl, Below.refl _ _⟩
  case round =>
    obtain ⟨k, hk, rfl, hbw⟩ := hrel
    by_cases hlt : k < n
    · obtain ⟨ba, oa, rfl, zl, d1, d2⟩ := (HX0.out.below hbw.out).2 k (by omega)
      generalize xs.getD k (0, 0) = z at *
      obtain ⟨x, y⟩ := z
      simp only [] at d1 d2
      have i0 : (0 : Int) ≤ (k : Int) := by omega
      have i1 : (k : Int) < (n : Int) := by omega
      obtain ⟨q, hq⟩ : ∃ q, IntKind.i64.wrap (y - x) = q := ⟨_, rfl⟩
      have HEND : ∀ m, Hid (Below w.heap.size w (wr.drewN m)) := fun m => below_drewN (bel_on HBW.out hbw.out) m
      have HBAD : ∀ m, Hid ((∃ b, Ending.returned (.bool false) = .returned (.bool b) ∧ (b = true → n ≤ 30)) ∧ Below w.heap.size w (wr.drewN m)) := fun m => ⟨⟨false, rfl, fun h => by cases h⟩, (HEND m).out⟩
      by_cases x0 : x < 0
      · go_wp2
        go_quiet (fail)
        go_wp2
        go_ret
        exact (HBAD _).out
      have x0' : decide (x < 0) = false := decide_eq_false x0
      by_cases x1 : 33000000 < x
      · go_wp2
        go_quiet (fail)
        go_wp2
        go_ret
        exact (HBAD _).out
      have x1' : decide (33000000 < x) = false := decide_eq_false x1
      by_cases x2 : 33000000 < y
      · go_wp2
        go_quiet (fail)
        go_wp2
        go_ret
        exact (HBAD _).out
      have x2' : decide (33000000 < y) = false := decide_eq_false x2
      by_cases x3 : 864000 < q
      · go_wp2
        go_quiet (fail)
        go_wp2
        go_ret
        exact (HBAD _).out
      have x3' : decide (864000 < q) = false := decide_eq_false x3
      clear HBAD HEND
      go_wp2
      go_quiet (fail)
      go_wp2
      go_roundw
      case rel => exact ⟨k + 1, by omega, by go_num, below_drewN hbw.out _⟩
      case measure => simp [intOf]; omega
    · obtain rfl : k = n := by omega
      have HB2 := Lib.hid (bel_on HBW.out hbw.out)
      have HG2 := Lib.hid (HB0.out.below hbw.out)
      cases hF : decide s.Few with
      | false =>
        have HC := Lib.hid (few_c (HS0.out.below hbw.out) false hF)
        clear hF hbw
        go_wp2_with (refine wpList_load_sp (by rfl) _ rfl w.heap.size rfl cs HG2.out HZ.out ?_)
        refine HC.out.mono ?_
        rintro e w3 ⟨rfl, b3⟩
        have HB3 := Lib.hid (bel_on HB2.out b3)
        clear b3
        go_wp2
        go_ret
        exact ⟨⟨false, rfl, fun h => by cases h⟩, HB3.out⟩
      | true =>
        have HC := Lib.hid (few_c (HS0.out.below hbw.out) true hF)
        clear hF hbw
        go_wp2_with (refine wpList_load_sp (by rfl) _ rfl w.heap.size rfl cs HG2.out HZ.out ?_)
        refine HC.out.mono ?_
        rintro e w3 ⟨rfl, b3⟩
        have HB3 := Lib.hid (bel_on HB2.out b3)
        clear b3
        by_cases h30 : k ≤ 30
        · have hnI : (k : Int) ≤ 30 := by omega
          go_wp2
          go_ret
          exact ⟨⟨true, rfl, fun _ => h30⟩, HB3.out⟩
        · have hnI : ¬ (k : Int) ≤ 30 := by omega
          go_wp2
          go_ret
          exact ⟨⟨false, ret_bool (by simp; omega), fun h => by cases h⟩, HB3.out⟩
end Go.Proofs.YthdolmhnjinlhaaGreat
