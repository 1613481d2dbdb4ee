/-
  lumperref09: Table, Dist, Same.
-/
import Derived.Test.YtcnekicfblbafaaWayR
import Derived.Test.YtcnekicfblbafaaSetRefD
namespace Go.Proofs.Ytcnekicfblbafaa
open Go.RowKit
set_option linter.unusedVariables false
set_option linter.unusedSimpArgs false
set_option maxRecDepth 20000

/-- A table's rows. -/
noncomputable def rowsD (E : List Edge) (P k : Nat) : List (List Int) := (List.range k).map fun a => (List.range P).map (distI E a)
theorem rowsD_succ (E : List Edge) (P k : Nat) : rowsD E P (k + 1) = rowsD E P k ++ [(List.range P).map (distI E k)] := by
  unfold rowsD
  rw [List.range_succ, List.map_append]
  rfl
theorem rowsD_len (E : List Edge) (P k : Nat) : (rowsD E P k).length = k := by simp [rowsD]
theorem rowsD_get (E : List Edge) {P k a : Nat} (h : a < k) : (rowsD E P k).getD a [] = (List.range P).map (distI E a) := by
  unfold rowsD
  simp [List.getD, h]
theorem iss_of_tab {w : World} {G P : Nat} {gs : Nat → Nat} {E : List Edge} (h : TabM w G P gs (distI E)) : Iss w (some ⟨G, 0, none⟩) P P (rowsD E P P) := by
  refine ⟨(List.range P).map fun i => .slice (some ⟨gs i, 0, none⟩) P P, ⟨by simp, .inr ⟨_, rfl, fun j u hu => ?_⟩⟩, by simp [rowsD], fun k hk => ?_⟩
  · rw [List.getElem?_map] at hu
    have hj : j < P := by
      rcases Nat.lt_or_ge j P with q | q
      · exact q
      · rw [List.getElem?_eq_none (by simpa using q)] at hu
        cases hu
    rw [List.getElem?_range hj] at hu
    simp only [Option.map_some, Option.some.injEq] at hu
    subst hu
    rw [tab_add, Nat.zero_add]
    exact h.ptr hj
  · rw [rowsD_len] at hk
    rw [rowsD_get E hk]
    have e : ((List.range P).map fun i => Value.slice (some ⟨gs i, 0, none⟩) P P).getD k undef = .slice (some ⟨gs k, 0, none⟩) P P := by simp [List.getD, hk]
    rw [e]
    refine ⟨some ⟨gs k, 0, none⟩, P, by simp, ⟨by simp [ints], .inr ⟨_, rfl, fun j u hu => ?_⟩⟩, by simp⟩
    rw [ints, List.getElem?_map, List.getElem?_map] at hu
    have hj : j < P := by
      rcases Nat.lt_or_ge j P with q | q
      · exact q
      · rw [List.getElem?_eq_none (by simpa using q)] at hu
        cases hu
    rw [List.getElem?_range hj] at hu
    simp only [Option.map_some, Option.some.injEq] at hu
    subst hu
    rw [tab_add, Nat.zero_add]
    exact h.at hk hj
theorem ioff_new {w : World} {base c P c' g : Nat} {A : Option Addr} {ps : List (List Int)} {us : List Value} (h : IssU w base A c ps us) (hg : w.heap.size ≤ g) : IOff (.slice (some ⟨g, 0, none⟩) P c') A := by
  intro ad hA B n d hvB hn heq
  have h2 := (IssRow.lt (⟨us, h⟩ : IssRow w base A c ps) ad hA).2
  injection hvB with e1 e2 e3
  injection e1 with e1
  subst e1
  have : g = ad.block := heq
  omega
set_option maxHeartbeats 4000000 in
theorem rtable_may {w : World} {s : SetP} {cs : Array Value} (h : SetC w s cs) (hf : s.Fit) (hm : s.May) (P : Nat) (hP : s.places = P) (E : List Edge) (hE : edgesOf s.ways = E) :
    Calls Try.prog 12 #[.agg cs] w fun e w' => ∃ A c, e = .returned (.slice A P c) ∧ Iss w' A P c (rowsD E P P) ∧ Below w.heap.size w w' := by
  have HZ := Lib.hid h.size
  have HS := Lib.hid h
  obtain ⟨hp1, hp2⟩ := hm.places
  rw [hP] at hp1 hp2
  have hchk : checkB s = true := check_iff.2 hm
  have cC := Lib.hid (fun wx (hs : SetC wx s cs) => rsetcheck_c hs hf true hchk)
  have cF := Lib.hid (fun wx (hs : SetC wx s cs) (a : Nat) ha => rfrom_c hs hm P hP E hE a ha)
  obtain ⟨A1, c1, g0, -, -⟩ := setC_first h
  rw [hP] at g0
  have HG := Lib.hid g0
  clear h hf hm hchk hE g0
  go_enter Try.func12, Try.ntmps12
  go_wp2_with (refine wpList_load_has (by rfl) _ rfl w.heap.size rfl cs (Has.new _ _ _ rfl) HZ.out ?_)
  refine (cC.out _ (HS.out.below (bel_alloc (Below.refl _ _) _))).mono ?_
  rintro e w1 ⟨rfl, b1⟩
  have HB := Lib.hid ((Has.new w 30 cs rfl).below b1)
  replace b1 := bel_on (bel_alloc (Below.refl _ _) _) b1
  replace HS := Lib.hid (HS.out.below b1)
  have HBW := Lib.hid b1
  clear b1
  go_wp2
  go_loopw [4, 5] (fun s4 s5 wr => ∃ (k : Nat) (A : Option Addr) (c : Nat), k ≤ P ∧ s5 = .int .i64 k ∧ s4 = .slice A k c ∧ Hid ((∃ us, IssU wr w1.heap.size A c (rowsD E P k) us) ∧ Below w1.heap.size w1 wr)) (fun _ s5 _ => P - (intOf s5).toNat)
  case atStart => exact ⟨0, none, 0, by omega, rfl, rfl, IssRow.nil _ _, Below.refl _ _⟩
  case round =>
    obtain ⟨k, A, c, hk, rfl, rfl, hI⟩ := hrel
    have HBr := Lib.hid (HB.out.below hI.out.2)
    have q0 := HBr.out.cell 0 HG.out
    have hq0 := cell_lt q0
    by_cases hlt : k < P
    · have hlt' : (k : Int) < (P : Int) := by omega
      have hbase := hI.out.2.size
      have hk9 := rowsD_len E P k
      go_wp2_with (refine wpList_load_has (by rfl) _ rfl w.heap.size rfl cs HBr.out HZ.out ?_)
      refine (cF.out _ (HS.out.below hI.out.2) k hlt).mono ?_
      rintro e w2 ⟨g, c', rfl, hg, hrp, b2⟩
      obtain ⟨⟨us, hU⟩, hbw⟩ := hI.out
      have hoff := ioff_new (P := P) (c' := c') hU hg
      obtain ⟨A2, c2, w3, hr3, hU3, hbel3, -⟩ := iss_push_u (hU.below b2) hrp.ival hoff (by omega) (by have := b2.size; omega) (s := w2.heap.size) rfl
      rw [hk9] at hr3
      have HR3 := Lib.hid hr3
      have HN : Hid ((∃ us, IssU w3 w1.heap.size A2 c2 (rowsD E P (k + 1)) us) ∧ Below w1.heap.size w1 w3) := ⟨⟨_, by rw [rowsD_succ]; exact hU3⟩, hbel3 w1 (Nat.le_refl _) (bel_on hbw b2)⟩
      clear hr3 hU3 hbel3 hU hbw hoff hrp b2 hI q0 hq0
      go_wp2_with (at_builtin; refine wpList_append_run (o := ⟨some 21, _, _, _, _, _⟩) HR3.out rfl rfl rfl rfl ?_)
      go_roundw
      case rel => exact ⟨k + 1, A2, c2, by omega, by go_num, by go_num, HN⟩
      case measure => simp [intOf]; omega
    · have hlt' : ¬ (k : Int) < (P : Int) := by omega
      obtain rfl : k = P := by omega
      have HE := Lib.hid (bel_on HBW.out hI.out.2)
      have HIS : Hid (Iss wr A k c (rowsD E k k)) := by
        obtain ⟨us, hU⟩ := hI.out.1
        exact (IssRow.bssAt (⟨us, hU⟩ : IssRow wr w1.heap.size A c (rowsD E k k)) (rowsD_len E k k))
      clear hI
      go_wp2
      go_ret
      exact ⟨_, _, rfl, HIS.out, HE.out⟩
set_option maxHeartbeats 2000000 in
theorem rtable_bad {w : World} {s : SetP} {cs : Array Value} (h : SetC w s cs) (hf : s.Fit) (hm : ¬ s.May) :
    Calls Try.prog 12 #[.agg cs] w fun e w' => e = .returned (.slice none 0 0) ∧ Below w.heap.size w w' := by
  have HZ := Lib.hid h.size
  have HS := Lib.hid h
  have hchk := check_no hm
  have cC := Lib.hid (fun wx (hs : SetC wx s cs) => rsetcheck_c hs hf false hchk)
  clear h hm hf hchk
  go_enter Try.func12, Try.ntmps12
  go_wp2_with (refine wpList_load_has (by rfl) _ rfl w.heap.size rfl cs (Has.new _ _ _ rfl) HZ.out ?_)
  refine (cC.out _ (HS.out.below (bel_alloc (Below.refl _ _) _))).mono ?_
  rintro e w1 ⟨rfl, b1⟩
  replace b1 := bel_on (bel_alloc (Below.refl _ _) _) b1
  go_wp2
  go_ret
  exact ⟨rfl, b1⟩
set_option maxHeartbeats 4000000 in
theorem rdist_no {w : World} {s : SetP} {cs : Array Value} (h : SetC w s cs) (hf : s.Fit) (a b : Int) (ho : ¬ s.May ∨ a < 0 ∨ s.places ≤ a ∨ b < 0 ∨ s.places ≤ b) :
    Calls Try.prog 14 #[.agg cs, .int .i64 a, .int .i64 b] w fun e w' => e = .returned (.int .i64 (-1)) ∧ Below w.heap.size w w' := by
  have HZ := Lib.hid h.size
  have HS := Lib.hid h
  obtain ⟨q, hq⟩ : ∃ q, checkB s = q := ⟨_, rfl⟩
  have cC := Lib.hid (fun wx (hs : SetC wx s cs) => rsetcheck_c hs hf q hq)
  have hqm : q = true → s.May := fun e => check_iff.1 (hq.trans e)
  obtain ⟨A1, c1, g0, -, -⟩ := setC_first h
  have HG := Lib.hid g0
  have HO : Hid (q = true → a < 0 ∨ s.places ≤ a ∨ b < 0 ∨ s.places ≤ b) := fun e => by
    rcases ho with ho | ho
    · exact absurd (hqm e) ho
    · exact ho
  clear h hf g0 ho hqm hq
  generalize s.places = P at *
  go_enter Try.func14, Try.ntmps14
  go_wp2_with (refine wpList_load_has (by rfl) _ rfl w.heap.size rfl cs (Has.new _ _ _ rfl) HZ.out ?_)
  refine (cC.out _ (HS.out.below (bel_alloc (Below.refl _ _) _))).mono ?_
  rintro e w1 ⟨rfl, b1⟩
  have HB := Lib.hid ((Has.new w 30 cs rfl).below b1)
  replace b1 := bel_on (bel_alloc (Below.refl _ _) _) b1
  have q0 := HB.out.cell 0 HG.out
  have hq0 := cell_lt q0
  cases q with
  | false =>
    go_wp2
    go_ret
    exact ⟨rfl, b1⟩
  | true =>
    by_cases h1 : a < 0
    · go_wp2
      go_ret
      exact ⟨rfl, b1⟩
    by_cases h3 : b < 0
    · go_wp2
      go_ret
      exact ⟨rfl, b1⟩
    by_cases h2 : P ≤ a
    · go_wp2
      go_ret
      exact ⟨rfl, b1⟩
    · have h4 : P ≤ b := by have := HO.out rfl; omega
      go_wp2
      go_ret
      exact ⟨rfl, b1⟩
set_option maxHeartbeats 4000000 in
theorem rdist_in {w : World} {s : SetP} {cs : Array Value} (h : SetC w s cs) (hf : s.Fit) (hm : s.May) (P : Nat) (hP : s.places = P) (a b : Nat) (ha : a < P) (hb : b < P) (x : Int) (hx : distI (edgesOf s.ways) a b = x) :
    Calls Try.prog 14 #[.agg cs, .int .i64 a, .int .i64 b] w fun e w' => e = .returned (.int .i64 x) ∧ Below w.heap.size w w' := by
  have HZ := Lib.hid h.size
  have HS := Lib.hid h
  have hchk : checkB s = true := check_iff.2 hm
  have cC := Lib.hid (fun wx (hs : SetC wx s cs) => rsetcheck_c hs hf true hchk)
  have cF := Lib.hid (fun wx (hs : SetC wx s cs) => rfrom_c hs hm P hP _ rfl a ha)
  obtain ⟨A1, c1, g0, -, -⟩ := setC_first h
  rw [hP] at g0
  have HG := Lib.hid g0
  clear h hf hm hchk g0
  have a0 : (a : Int) < (P : Int) := by omega
  have a1 : (b : Int) < (P : Int) := by omega
  go_enter Try.func14, Try.ntmps14
  go_wp2_with (refine wpList_load_has (by rfl) _ rfl w.heap.size rfl cs (Has.new _ _ _ rfl) HZ.out ?_)
  refine (cC.out _ (HS.out.below (bel_alloc (Below.refl _ _) _))).mono ?_
  rintro e w1 ⟨rfl, b1⟩
  have HB := Lib.hid ((Has.new w 30 cs rfl).below b1)
  replace b1 := bel_on (bel_alloc (Below.refl _ _) _) b1
  replace HS := Lib.hid (HS.out.below b1)
  have q0 := HB.out.cell 0 HG.out
  have hq0 := cell_lt q0
  go_wp2_with (refine wpList_load_has (by rfl) _ rfl w.heap.size rfl cs HB.out HZ.out ?_)
  refine (cF.out _ HS.out).mono ?_
  rintro e w2 ⟨g, c', rfl, hg, hrp, b2⟩
  replace b1 := bel_on b1 b2
  have k := hrp.cell hb
  rw [show ((List.range P).map (distI (edgesOf s.ways) a)).getD b (-1) = distI (edgesOf s.ways) a b by simp [List.getD, hb], hx] at k
  have hk := cell_lt k
  have hfit := hrp.fit
  clear hrp b2 q0 hq0
  go_wp2
  go_ret
  exact ⟨rfl, b1⟩
theorem rdist_c {w : World} {s : SetP} {cs : Array Value} (h : SetC w s cs) (hf : s.Fit) (a b x : Int) (hx : farV s a b = x) :
    Calls Try.prog 14 #[.agg cs, .int .i64 a, .int .i64 b] w fun e w' => e = .returned (.int .i64 x) ∧ Below w.heap.size w w' := by
  subst hx
  by_cases ho : ¬ s.May ∨ a < 0 ∨ s.places ≤ a ∨ b < 0 ∨ s.places ≤ b
  · rw [farV_out ho]
    exact rdist_no h hf a b ho
  · have hm : s.May := Classical.byContradiction fun q => ho (.inl q)
    obtain ⟨P, hP⟩ : ∃ P : Nat, s.places = P := ⟨s.places.toNat, by have := hm.places; omega⟩
    have ho2 : ¬ (a < 0 ∨ s.places ≤ a ∨ b < 0 ∨ s.places ≤ b) := fun q => ho (.inr q)
    obtain ⟨a', rfl⟩ : ∃ a' : Nat, a = a' := ⟨a.toNat, by omega⟩
    obtain ⟨b', rfl⟩ : ∃ b' : Nat, b = b' := ⟨b.toNat, by omega⟩
    rw [farV_in hm hP (by omega) (by omega)]
    exact rdist_in h hf hm P hP a' b' (by omega) (by omega) _ rfl
set_option maxHeartbeats 4000000 in
theorem same9_c (A : Option Addr) (c : Nat) (B : Option Addr) (d n : Nat) (ts : List (List Int)) (w : World) (hA : Iss w A n c ts) (hB : Iss w B n d ts) (hn : n ≤ 1000) (hr : ∀ k, k < n → (ts.getD k []).length ≤ 1000) :
    Calls Try.prog 10 #[.slice A n c, .slice B n d] w fun e w' => e = .returned (.bool true) ∧ Below w.heap.size w w' := by
  have HA := Lib.hid hA
  have HB := Lib.hid hB
  have hln := hA.len
  have HR := Lib.hid hr
  clear hA hB hr
  go_enter Try.func10, Try.ntmps10
  go_wp2
  go_loopw [5] (fun s5 wr => ∃ i : Nat, i ≤ n ∧ s5 = .int .i64 i ∧ Hid (Below w.heap.size w wr)) (fun s5 _ => n - (intOf s5).toNat)
  case atStart => exact ⟨0, by omega, rfl, Below.refl _ _⟩
  case round =>
    obtain ⟨i, hi, rfl, hb⟩ := hrel
    by_cases hlt : i < n
    · have hlt' : (i : Int) < (n : Int) := by omega
      obtain ⟨b1, o1, B1, d1, rfl, z1, s1, f1⟩ := (HA.out.below hb.out).at (k := i) (by omega)
      obtain ⟨b2, o2, B2, d2, rfl, z2, s2, f2⟩ := (HB.out.below hb.out).at (k := i) (by omega)
      have hz1 := cell_lt z1
      have hz2 := cell_lt z2
      have hm := HR.out i hlt
      have HX1 := Lib.hid (nums_of_sl s1)
      have HX2 := Lib.hid (nums_of_sl s2)
      obtain ⟨l, hl⟩ : ∃ l, ts.getD i [] = l := ⟨_, rfl⟩
      rw [hl] at z1 z2 hm HX1 HX2
      obtain ⟨m, hm2⟩ : ∃ m, l.length = m := ⟨_, rfl⟩
      rw [hm2] at z1 z2 hm
      have HD := Lib.hid (fun n => (show Below w.heap.size w (wr.drewN n) from ⟨hb.out.os, hb.out.tape, hb.out.output, hb.out.size, hb.out.block⟩))
      have HBW := Lib.hid hb.out
      clear s1 s2 f1 f2 hl hb
      go_wp2_with fail
      go_quiet (fail)
      go_wp2
      obtain ⟨wo, rfl⟩ : ∃ wo : World, wo = wr := ⟨_, rfl⟩
      go_loopw [6] (fun s6 wx => ∃ k : Nat, k ≤ m ∧ s6 = .int .i64 k ∧ Hid (Below wo.heap.size wo wx)) (fun s6 _ => m - (intOf s6).toNat)
      case atStart => exact ⟨0, by omega, rfl, ⟨rfl, rfl, rfl, Nat.le_refl _, fun _ _ => rfl⟩⟩
      case round =>
        obtain ⟨k, hk, rfl, hb2⟩ := hrel
        have y1 := (hb2.out.cell (p := ⟨b1, o1 + i, none⟩) (by exact hz1)).trans z1
        have y2 := (hb2.out.cell (p := ⟨b2, o2 + i, none⟩) (by exact hz2)).trans z2
        have hy1 := cell_lt y1
        have hy2 := cell_lt y2
        by_cases hlt2 : k < m
        · have hlt2' : (k : Int) < (m : Int) := by omega
          obtain ⟨b3, o3, rfl, x1⟩ := HX1.out k (by omega)
          obtain ⟨b4, o4, rfl, x2⟩ := HX2.out k (by omega)
          have x3 := (hb2.out.cell (p := ⟨b3, o3 + k, none⟩) (by exact cell_lt x1)).trans x1
          have x4 := (hb2.out.cell (p := ⟨b4, o4 + k, none⟩) (by exact cell_lt x2)).trans x2
          have hx3 := cell_lt x3
          have hx4 := cell_lt x4
          clear x1 x2
          generalize l.getD k 0 = v at *
          have HN := Lib.hid (fun n => (show Below wo.heap.size wo (wr.drewN n) from ⟨hb2.out.os, hb2.out.tape, hb2.out.output, hb2.out.size, hb2.out.block⟩))
          clear hb2 HD z1 z2
          go_wp2_with fail
          go_quiet (fail)
          go_wp2
          go_roundw
          case rel => exact ⟨k + 1, by omega, by go_num, HN.out _⟩
          case measure => simp [intOf]; omega
        · have hlt2' : ¬ (k : Int) < (m : Int) := by omega
          have HN := Lib.hid (bel_on HBW.out hb2.out)
          clear hb2 HD z1 z2
          go_wp2
          go_roundw
          case rel => exact ⟨i + 1, by omega, by go_num, HN⟩
          case measure => simp [intOf]; omega
    · have hlt' : ¬ (i : Int) < (n : Int) := by omega
      have HE := Lib.hid hb.out
      go_wp2
      go_ret
      exact ⟨rfl, HE.out⟩
end Go.Proofs.Ytcnekicfblbafaa
