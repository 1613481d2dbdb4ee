/-
  lumperref09: shorter, longer, from.
-/
import Derived.Test.YtoconmcmnikdnaaWayF
import Derived.Test.YtoconmcmnikdnaaIss
import Derived.StillTailTactics
namespace Go.Proofs.Ytoconmcmnikdnaa
open Go.RowKit
set_option linter.unusedVariables false
set_option linter.unusedSimpArgs false
set_option maxRecDepth 20000

theorem rshorter_c (a b x : Int) (hx : shortI a b = x) (w : World) : Calls Try.prog 73 #[.int .i64 a, .int .i64 b] w fun e w' => e = .returned (.int .i64 x) ∧ w' = w := by
  subst hx
  by_cases h1 : a < 0
  · have e : shortI a b = b := if_pos (.inl h1)
    rw [e]
    go_enter Try.func73, Try.ntmps73
    go_wp2
    go_ret
    exact ⟨rfl, rfl⟩
  · by_cases h2 : 0 ≤ b
    · by_cases h3 : b < a
      · have e : shortI a b = b := if_pos (.inr ⟨h2, h3⟩)
        rw [e]
        go_enter Try.func73, Try.ntmps73
        go_wp2
        go_ret
        exact ⟨rfl, rfl⟩
      · have e : shortI a b = a := if_neg (by omega)
        rw [e]
        go_enter Try.func73, Try.ntmps73
        go_wp2
        go_ret
        exact ⟨rfl, rfl⟩
    · have e : shortI a b = a := if_neg (by omega)
      rw [e]
      go_enter Try.func73, Try.ntmps73
      go_wp2
      go_ret
      exact ⟨rfl, rfl⟩
theorem rlonger_c (n : Int) (m : Nat) (x : Int) (hx : longI n m = x) (hn : n ≤ 1000000000) (hm : m ≤ 10000) (w : World) : Calls Try.prog 74 #[.int .i64 n, .int .i64 m] w fun e w' => e = .returned (.int .i64 x) ∧ w' = w := by
  subst hx
  by_cases h1 : n < 0
  · have e : longI n m = n := if_pos h1
    rw [e]
    go_enter Try.func74, Try.ntmps74
    go_wp2
    go_ret
    exact ⟨rfl, rfl⟩
  · have e : longI n m = n + m := if_neg h1
    rw [e]
    go_enter Try.func74, Try.ntmps74
    go_wp2
    go_ret
    exact ⟨rfl, rfl⟩
/-- Block g holds c numbers, of which the first P are o. -/
structure RowP (w : World) (g c P : Nat) (o : List Int) : Prop where
  row : ∃ f, w.rowIs g 3 c f ∧ ∀ j, j < P → f j = .int .i64 (o.getD j (-1))
  len : o.length = P
  fit : P ≤ c
section
variable {w w' : World} {g c P : Nat} {o : List Int}
theorem RowP.below (h : RowP w g c P o) (hb : Below w.heap.size w w') : RowP w' g c P o := by
  obtain ⟨⟨f, h1, h2⟩, h3, h4⟩ := h
  exact ⟨⟨f, rowIs_below h1 hb, h2⟩, h3, h4⟩
theorem RowP.alloc (h : RowP w g c P o) (x : Obj) : RowP (w.alloc x) g c P o := by
  obtain ⟨⟨f, h1, h2⟩, h3, h4⟩ := h
  exact ⟨⟨f, h1.alloc x, h2⟩, h3, h4⟩
theorem RowP.drew (h : RowP w g c P o) : RowP w.drew g c P o := by
  obtain ⟨⟨f, h1, h2⟩, h3, h4⟩ := h
  exact ⟨⟨f, h1.drew, h2⟩, h3, h4⟩
theorem RowP.cell (h : RowP w g c P o) {j : Nat} (hj : j < P) : w.cell? ⟨g, j, none⟩ = some (.int .i64 (o.getD j (-1))) := by
  obtain ⟨⟨f, h1, h2⟩, h3, h4⟩ := h
  rw [h1.cell (Nat.lt_of_lt_of_le hj h4), h2 j hj]
theorem RowP.frozen (h : RowP w g c P o) (j : Nat) : w.frozen? ⟨g, j, none⟩ = false := by
  obtain ⟨⟨f, h1, h2⟩, h3, h4⟩ := h
  exact h1.frozen j
theorem RowP.lt (h : RowP w g c P o) : g < w.heap.size := by
  obtain ⟨⟨f, h1, h2⟩, h3, h4⟩ := h
  exact h1.lt
theorem RowP.set (h : RowP w g c P o) {i : Nat} (hi : i < P) (v : Int) : RowP (w.setCell ⟨g, i, none⟩ (.int .i64 v)) g c P (o.set i v) := by
  obtain ⟨⟨f, h1, h2⟩, h3, h4⟩ := h
  refine ⟨⟨_, h1.set i _, fun j hj => ?_⟩, by rw [List.length_set]; exact h3, h4⟩
  rw [getD_set]
  by_cases e : j = i
  · subst e
    rw [if_pos rfl, if_pos ⟨rfl, by rw [h3]; exact hi⟩]
  · rw [if_neg e, if_neg (fun q => e q.1.symm), h2 j hj]
theorem RowP.of_own {base : Nat} {A : Option Addr} (h : NRow w base A c o) (hP : o.length = P) (h0 : 0 < P) : ∃ g, A = some ⟨g, 0, none⟩ ∧ base ≤ g ∧ RowP w g c P o := by
  subst hP
  obtain ⟨hl, ⟨hv, hz⟩ | ⟨g, cap, cur, hv, hb, hh, hc, hm, hs, ht⟩⟩ := h
  · omega
  · injection hv with e1 e2 e3
    subst e1 e3
    refine ⟨g, rfl, hb, ⟨fun j => cur.toList.getD j undef, ⟨cur, hh, by omega, fun i hi => ?_⟩, fun j hj => ?_⟩, rfl, hc⟩
    · have : i < cur.size := by omega
      simp [this]
    · have h9 : (cur.toList.take (o.length * 1))[j]? = some (.int .i64 (o.getD j (-1))) := by
        rw [ht, ints, List.getElem?_map, List.getElem?_eq_getElem hj, List.getD_eq_getElem?_getD, List.getElem?_eq_getElem hj]
        rfl
      rw [List.getElem?_take] at h9
      split at h9
      · show cur.toList.getD j undef = _
        rw [List.getD_eq_getElem?_getD, h9]
        rfl
      · cases h9
end
/-- What the walk of 'from' keeps. -/
structure FromI (w wr : World) (N g c P : Nat) (cs : Array Value) (o : List Int) : Prop where
  bel : Below w.heap.size w wr
  set : Has wr N cs
  row : RowP wr g c P o
  base : w.heap.size ≤ g
  ne : N ≠ g
section
variable {w wr w' : World} {N g c P : Nat} {cs : Array Value} {o : List Int}
theorem FromI.alloc (h : FromI w wr N g c P cs o) (x : Obj) : FromI w (wr.alloc x) N g c P cs o := ⟨bel_alloc h.bel _, h.set.alloc _, h.row.alloc _, h.base, h.ne⟩
theorem FromI.drew (h : FromI w wr N g c P cs o) : FromI w wr.drew N g c P cs o := ⟨below_drew h.bel, h.set.drew, h.row.drew, h.base, h.ne⟩
theorem FromI.store (h : FromI w wr N g c P cs o) {i : Nat} (hi : i < P) (v : Int) : FromI w (wr.setCell ⟨g, i, none⟩ (.int .i64 v)) N g c P cs (o.set i v) :=
  ⟨bel_set h.bel h.base _, h.set.far h.ne _, h.row.set hi v, h.base, h.ne⟩
end
/-- All numbers are at most K. -/
def UpE (o : List Int) (K : Int) : Prop := ∀ j, -1 ≤ o.getD j (-1) ∧ o.getD j (-1) ≤ K
def relH (o : List Int) (b c m : Nat) : List Int := o.set c (shortI (o.getD c (-1)) (longI (o.getD b (-1)) m))
theorem up_half {o : List Int} {b c m : Nat} {K : Int} (hm : m ≤ 10000) (h : UpE o K) : UpE (relH o b c m) (K + 10000) := by
  intro j
  unfold relH
  rw [getD_set]
  have h1 := h b
  have h2 := h c
  have h3 := h j
  split
  · unfold shortI longI
    split <;> split <;> omega
  · omega
theorem up_start (P a : Nat) : UpE (startL P a) 0 := by
  intro j
  unfold startL
  rw [getD_set]
  split
  · omega
  · rw [List.getD_eq_getElem?_getD, List.getElem?_replicate]
    split <;> simp
set_option maxHeartbeats 8000000 in
theorem rfrom_c {w : World} {s : SetP} {cs : Array Value} (h : SetC w s cs) (hm : s.May) (P : Nat) (hP : s.places = P) (E : List Edge) (hE : edgesOf s.ways = E) (a : Nat) (ha : a < P) :
    Calls Try.prog 50 #[.agg cs, .int .i64 a] w fun e w' => ∃ g c, e = .returned (.slice (some ⟨g, 0, none⟩) P c) ∧ w.heap.size ≤ g ∧ RowP w' g c P ((List.range P).map (distI E a)) ∧ Below w.heap.size w w' := by
  have HZ := Lib.hid h.size
  obtain ⟨hp1, hp2⟩ := hm.places
  rw [hP] at hp1 hp2
  obtain ⟨W, hW⟩ : ∃ W, s.ways.length = W := ⟨_, rfl⟩
  have hW6 : W ≤ 64 := by rw [← hW]; exact hm.ways.1
  have HEL : Hid (E.length = W) := by show _ = _; rw [← hE, ← hW]; simp [edgesOf]
  have HR : Hid (roundsE E P (startL P a) = (List.range P).map (distI E a)) := by rw [← hE]; exact rounds_list (edges_long hm.ways.2) (edges_among hP hm.ways.2) ha
  have HEG : Hid (∀ i, i < W → ∃ A B M : Nat, E[i]? = some (A, B, M) ∧ (s.ways.getD i []).getD 0 0 = A ∧ (s.ways.getD i []).getD 1 0 = B ∧ (s.ways.getD i []).getD 2 0 = M ∧ (A : Int) < s.places ∧ (B : Int) < s.places ∧ A ≠ B ∧ 1 ≤ M ∧ M ≤ 10000) := by
    intro i hi
    rw [← hE]
    exact edges_get (by omega) hm.ways.2
  obtain ⟨A1, c1, g0, g1, hT1⟩ := setC_first h
  rw [hW] at g1 hT1
  rw [hP] at g0 HEG
  have HT1 := Lib.hid hT1
  have HG := Lib.hid (And.intro g0 g1)
  clear h hm hE hT1 g0 g1
  have ha' : (a : Int) < (P : Int) := by omega
  have HMX : Hid (Try.prog.follows Departure.mixedOrders = true) := by show _ = _; kernel_rfl
  go_enter Try.func50, Try.ntmps50
  go_wp2
  have HB0 := Lib.hid (Has.new w 30 cs rfl)
  have HW0 := Lib.hid (bel_alloc (Below.refl w.heap.size w) (.cells cs 30))
  have hs1 : (w.alloc (.cells cs 30)).heap.size = w.heap.size + 1 := by simp
  generalize w.alloc (.cells cs 30) = w1 at *
  go_loopw [5, 6] (fun s5 s6 wr => ∃ (b : Nat) (A : Option Addr) (c : Nat), b ≤ P ∧ s6 = .int .i64 b ∧ s5 = .slice A b c ∧ Hid (NRow wr (w.heap.size + 1) A c (List.replicate b (-1)) ∧ Below w1.heap.size w1 wr)) (fun _ s6 _ => P - (intOf s6).toNat)
  case atStart => exact ⟨0, none, 0, by omega, rfl, rfl, NRow.nil _ _, Below.refl _ _⟩
  case round =>
    obtain ⟨b, A, c, hb, rfl, rfl, hI⟩ := hrel
    have q0 := (HB0.out.below hI.out.2).cell 0 HG.out.1
    have hq0 := cell_lt q0
    by_cases hlt : b < P
    · have hlt' : (b : Int) < (P : Int) := by omega
      have hsz9 := hI.out.2.size
      have hbase : w.heap.size + 1 ≤ wr.heap.size := by omega
      obtain ⟨A2, c2, w2, hr2, hrow2, hbel2⟩ := nrow_lay hI.out.1 (ys := [-1]) (n := b) (by simp) (k := 1) rfl (by omega) hbase (s := wr.heap.size) rfl
      have HR2 := Lib.hid hr2
      have HN : Hid (NRow w2 (w.heap.size + 1) A2 c2 (List.replicate (b + 1) (-1)) ∧ Below w1.heap.size w1 w2) := by
        refine ⟨by rw [List.replicate_succ']; exact hrow2, hbel2 w1 (by omega) hI.out.2⟩
      clear hr2 hrow2 hbel2 hI
      go_wp2_with (at_builtin; refine wpList_append_run (o := ⟨some 18, _, _, _, _, _⟩) HR2.out rfl rfl rfl rfl ?_)
      go_roundw
      case rel => exact ⟨b + 1, A2, c2, by omega, by go_num, by go_num, HN⟩
      case measure => simp [intOf]; omega
    · have hlt' : ¬ (b : Int) < (P : Int) := by omega
      obtain rfl : b = P := by omega
      obtain ⟨g, rfl, hg, hrp⟩ := RowP.of_own hI.out.1 (P := b) (by simp) (by omega)
      have k1 := hrp.cell ha
      have f1 := hrp.frozen a
      have hk1 := cell_lt k1
      have HI0 : Hid (FromI w (wr.setCell ⟨g, a, none⟩ (.int .i64 0)) w.heap.size g c b cs (roundsE E 0 (startL b a)) ∧ UpE (roundsE E 0 (startL b a)) 0) :=
        ⟨⟨bel_set (bel_on HW0.out hI.out.2) (by show w.heap.size ≤ g; omega) _, (HB0.out.below hI.out.2).far (by show w.heap.size ≠ g; omega) _, hrp.set ha 0, by omega, by omega⟩, up_start b a⟩
      clear hI hrp HB0 HW0 hs1
      go_wp2
      clear q0 hq0 k1 f1 hk1
      go_loopw [7] (fun s7 wr => ∃ k : Nat, k ≤ b ∧ s7 = .int .i64 k ∧ Hid (FromI w wr w.heap.size g c b cs (roundsE E k (startL b a)) ∧ UpE (roundsE E k (startL b a)) (20000 * (64 * k)))) (fun s7 _ => b - (intOf s7).toNat)
      case atStart => exact ⟨0, by omega, rfl, HI0⟩
      case round =>
        clear HI0
        obtain ⟨k, hk, rfl, hI⟩ := hrel
        have q0 := hI.out.1.set.cell 0 HG.out.1
        have hq0 := cell_lt q0
        by_cases hlt2 : k < b
        · have hlt2' : (k : Int) < (b : Int) := by omega
          have HRS : Hid (roundsE E (k + 1) (startL b a) = E.foldl relaxE (roundsE E k (startL b a))) := rfl
          generalize roundsE E k (startL b a) = ok at *
          go_wp2
          clear q0 hq0
          go_loopw [8] (fun s8 wr => ∃ (i : Nat) (o : List Int), i ≤ W ∧ s8 = .int .i64 i ∧ Hid (o = (E.take i).foldl relaxE ok) ∧ Hid (FromI w wr w.heap.size g c b cs o ∧ UpE o (20000 * (64 * k + i)))) (fun s8 _ => W - (intOf s8).toNat)
          case atStart => exact ⟨0, ok, by omega, rfl, rfl, hI⟩
          case round =>
            clear hI
            obtain ⟨i, o, hi, rfl, ho, hI⟩ := hrel
            have q1 := hI.out.1.set.cell 1 HG.out.2
            have hq1 := cell_lt q1
            by_cases hlt3 : i < W
            · have hlt3' : (i : Int) < (W : Int) := by omega
              obtain ⟨A, B, M, he, e0, e1, e2, hA, hB, hAB, hM1, hM2⟩ := HEG.out i hlt3
              obtain ⟨bb, oo, rfl⟩ := HT1.out.form (by decide) (by omega)
              have z0 := ((HT1.out.below hI.out.1.bel).cell (i := i) (j := 0) hlt3 (by decide))
              have z1 := ((HT1.out.below hI.out.1.bel).cell (i := i) (j := 1) hlt3 (by decide))
              have z2 := ((HT1.out.below hI.out.1.bel).cell (i := i) (j := 2) hlt3 (by decide))
              rw [e0] at z0
              rw [e1] at z1
              rw [e2] at z2
              simp only [Nat.add_zero] at z0
              have hsz := cell_lt z0
              have hgw := hI.out.1.row.lt
              have HNX : Hid (relH (relH o A B M) B A M = (E.take (i + 1)).foldl relaxE ok) := by
                show _ = _
                rw [List.take_add_one, he, Option.toList_some, List.foldl_append, ← ho.out]
                rfl
              have HU1 := Lib.hid (up_half (c := B) (b := A) hM2 hI.out.2)
              have HU2 := Lib.hid (up_half (c := A) (b := B) hM2 HU1.out)
              have HFI := Lib.hid (hI.out.1.alloc (.cells #[.int .i64 A, .int .i64 B, .int .i64 M] 45))
              have HWY : Hid (Has (wr.alloc (.cells #[.int .i64 A, .int .i64 B, .int .i64 M] 45)) wr.heap.size #[.int .i64 A, .int .i64 B, .int .i64 M]) := Has.new _ _ _ rfl
              have HU0 := Lib.hid hI.out.2
              clear e0 e1 e2 he hAB hI ho
              go_upto_region 14 with fail
              clear z0 z1 z2 hsz q1 hq1
              obtain ⟨x, hx⟩ : ∃ x, o.getD A (-1) = x := ⟨_, rfl⟩
              obtain ⟨y, hy⟩ : ∃ y, o.getD B (-1) = y := ⟨_, rfl⟩
              obtain ⟨l, hl⟩ : ∃ l, longI x M = l := ⟨_, rfl⟩
              obtain ⟨z, hz⟩ : ∃ z, shortI y l = z := ⟨_, rfl⟩
              have hxb := HU0.out A
              rw [hx] at hxb
              have cL := fun wx => rlonger_c x M l hl (by omega) hM2 wx
              have cS := fun wx => rshorter_c y l z hz wx
              refine wp_region_still_tail 17 HMX.out (by kernel_rfl) ?_
              simp only [List.take_succ_cons, List.take_zero, List.drop_succ_cons, List.drop_zero]
              change wpStill _ _ (World.drew (wr.alloc (.cells #[.int .i64 A, .int .i64 B, .int .i64 M] 45))) (fun a' => wpList _ _ _ _ a' (World.drew (wr.alloc (.cells #[.int .i64 A, .int .i64 B, .int .i64 M] 45)))) _ _
              replace HFI := Lib.hid HFI.out.drew
              replace HWY := Lib.hid HWY.out.drew
              obtain ⟨w5, hw5⟩ : ∃ w5, World.drew (wr.alloc (.cells #[.int .i64 A, .int .i64 B, .int .i64 M] 45)) = w5 := ⟨_, rfl⟩
              rw [hw5] at HFI HWY
              rw [hw5]
              clear hw5
              have kx := HFI.out.row.cell (j := A) (by omega)
              have ky := HFI.out.row.cell (j := B) (by omega)
              rw [hx] at kx
              rw [hy] at ky
              have kf := HFI.out.row.frozen B
              have hky := cell_lt ky
              have v0 := HWY.out.cell 0 rfl
              have v1 := HWY.out.cell 1 rfl
              have v2 := HWY.out.cell 2 rfl
              have hv0 := cell_lt v0
              still_step
              still_step
              still_step
              still_step
              still_step
              still_step
              still_step
              still_step
              still_step
              still_step
              still_step
              still_step
              still_step
              still_step
              still_step
              still_call (cL _)
              still_call (cS _)
              refine wpStill_nil ?_
              (try simp only [Act.put, List.setIfInBounds_toArray, List.set_cons_zero, List.set_cons_succ])
              have HFJ := Lib.hid (HFI.out.store (i := B) (by omega) z)
              have HWZ := Lib.hid (HWY.out.far (show wr.heap.size ≠ (⟨g, B, none⟩ : Addr).block by show wr.heap.size ≠ g; omega) (.int .i64 z))
              have HOO : Hid (o.set B z = relH o A B M) := by show _ = _; subst hz hl hy hx; rfl
              rw [HOO.out] at HFJ
              clear HFI HWY cL cS hx hy hl hz hxb v0 v1 v2 kx HOO
              go_wp2_with fail
              clear ky kf hky hv0
              obtain ⟨w4, hw4⟩ : ∃ w4, w5.setCell ⟨g, B, none⟩ (.int .i64 z) = w4 := ⟨_, rfl⟩
              rw [hw4] at HFJ HWZ
              rw [hw4]
              clear hw4
              have HFI := HFJ
              have HWY := HWZ
              clear HFJ HWZ
              obtain ⟨x, hx⟩ : ∃ x, (relH o A B M).getD B (-1) = x := ⟨_, rfl⟩
              obtain ⟨y, hy⟩ : ∃ y, (relH o A B M).getD A (-1) = y := ⟨_, rfl⟩
              obtain ⟨l, hl⟩ : ∃ l, longI x M = l := ⟨_, rfl⟩
              obtain ⟨z, hz⟩ : ∃ z, shortI y l = z := ⟨_, rfl⟩
              have hxb := HU1.out B
              rw [hx] at hxb
              have cL := fun wx => rlonger_c x M l hl (by omega) hM2 wx
              have cS := fun wx => rshorter_c y l z hz wx
              refine wp_region_still_tail 17 HMX.out (by kernel_rfl) ?_
              simp only [List.take_succ_cons, List.take_zero, List.drop_succ_cons, List.drop_zero]
              change wpStill _ _ (World.drew w4) (fun a' => wpList _ _ _ _ a' (World.drew w4)) _ _
              replace HFI := Lib.hid HFI.out.drew
              replace HWY := Lib.hid HWY.out.drew
              obtain ⟨w6, hw6⟩ : ∃ w5, World.drew w4 = w5 := ⟨_, rfl⟩
              rw [hw6] at HFI HWY
              rw [hw6]
              clear hw6
              have kx := HFI.out.row.cell (j := B) (by omega)
              have ky := HFI.out.row.cell (j := A) (by omega)
              rw [hx] at kx
              rw [hy] at ky
              have kf := HFI.out.row.frozen A
              have hky := cell_lt ky
              have v0 := HWY.out.cell 0 rfl
              have v1 := HWY.out.cell 1 rfl
              have v2 := HWY.out.cell 2 rfl
              have hv0 := cell_lt v0
              still_step
              still_step
              still_step
              still_step
              still_step
              still_step
              still_step
              still_step
              still_step
              still_step
              still_step
              still_step
              still_step
              still_step
              still_step
              still_call (cL _)
              still_call (cS _)
              refine wpStill_nil ?_
              (try simp only [Act.put, List.setIfInBounds_toArray, List.set_cons_zero, List.set_cons_succ])
              have HFJ := Lib.hid (HFI.out.store (i := A) (by omega) z)
              have HWZ := Lib.hid (HWY.out.far (show wr.heap.size ≠ (⟨g, A, none⟩ : Addr).block by show wr.heap.size ≠ g; omega) (.int .i64 z))
              have HOO : Hid ((relH o A B M).set A z = relH (relH o A B M) B A M) := by show _ = _; subst hz hl hy hx; rfl
              rw [HOO.out] at HFJ
              clear HFI HWY cL cS hx hy hl hz hxb v0 v1 v2 kx HOO
              have HFI := HFJ
              clear HFJ HWZ
              go_wp2
              go_roundw
              case rel => exact ⟨i + 1, _, by omega, by go_num, HNX, HFI.out, by have := HU2.out; unfold UpE at this ⊢; intro j; have := this j; omega⟩
              case measure => simp [intOf]; omega
            · have hlt3' : ¬ (i : Int) < (W : Int) := by omega
              obtain rfl : i = W := by omega
              have HN : Hid (FromI w wr w.heap.size g c b cs (roundsE E (k + 1) (startL b a)) ∧ UpE (roundsE E (k + 1) (startL b a)) (20000 * (64 * (k + 1)))) := by
                have e := ho.out
                rw [← HEL.out, List.take_length] at e
                rw [HRS.out, ← e]
                exact ⟨hI.out.1, by have := hI.out.2; unfold UpE at this ⊢; intro j; have := this j; omega⟩
              clear hI ho
              go_wp2
              go_roundw
              case rel => exact ⟨k + 1, by omega, by go_num, HN⟩
              case measure => simp [intOf]; omega
        · have hlt2' : ¬ (k : Int) < (b : Int) := by omega
          obtain rfl : k = b := by omega
          have hrow := hI.out.1.row
          rw [HR.out] at hrow
          have HROW := Lib.hid hrow
          have HBEL := Lib.hid hI.out.1.bel
          have HGB := Lib.hid hI.out.1.base
          clear hI hrow
          go_wp2
          go_ret
          exact ⟨_, _, rfl, HGB.out, HROW.out, HBEL.out⟩
end Go.Proofs.Ytoconmcmnikdnaa
