/-
  The document's own answer of layer 12: a session's parts.
-/
import Derived.Test.YtbijaaglmhoopaaGreatZap
import Derived.Deep.RegionHeld3
namespace Go.Proofs.YtbijaaglmhoopaaGreat
open Go.RowKit
set_option linter.unusedVariables false
set_option linter.unusedSimpArgs false
set_option maxRecDepth 20000

theorem srow_one {w : World} {base n c : Nat} {A : Option Addr} {l : List SegP} (h : SRow w base A n c l) (x : SegP) (hm : n ≤ 1000) (hbase : base ≤ w.heap.size) {s : Nat} (hs : w.heap.size = s) :
    ∃ A' c' w', (Builtin.append_ #[32, 32] 32 #[.slice A n c, .slice (some ⟨s, 0, none⟩) 1 1]).run Tryz.prog (w.alloc (.cells #[.int .i64 x.fr, .int .i64 x.to, .int .i64 x.kd, .int .i64 x.id, .int .i64 x.cd] 50)) = .ok (.slice A' (n + 1) c') w' ∧ SRow w' base A' (n + 1) c' (l ++ [x]) ∧ Kept (fun b => b < base) w w' := by
  obtain ⟨A', c', w', h1, h2, h3, -, -⟩ := trow_one (t := 32) (e := 50) (k := 5) (by_ := 40) (z := .agg #[.int .i64 0, .int .i64 0, .int .i64 0, .int .i64 0, .int .i64 0]) Tryz.underlying32 seg_info rfl (by omega) (by omega) h (segL x) rfl hm hbase hs
  have e0 : (ints .i64 (segL x)).toArray = #[.int .i64 x.fr, .int .i64 x.to, .int .i64 x.kd, .int .i64 x.id, .int .i64 x.cd] := rfl
  rw [e0] at h1
  refine ⟨A', c', w', h1, ?_, h3⟩
  have e : (l ++ [x]).map segL = l.map segL ++ [segL x] := by simp
  show TRow _ _ _ _ _ _ _ ((l ++ [x]).map segL)
  rw [e]
  exact h2
theorem wp_build_s {o : Oper} {a : Act} {w : World} {K : Act → World → Prop} {Q : Exit → Act → World → Prop} {y : Operand} (x : SegP)
    (ho : o.op = .buildSlice 32 1 #[(0, y)]) (hy : a.eval y = .agg #[.int .i64 x.fr, .int .i64 x.to, .int .i64 x.kd, .int .i64 x.id, .int .i64 x.cd])
    (h : K (a.put o.dst (.slice (some ⟨w.heap.size, 0, none⟩) 1 1)) (w.alloc (.cells #[.int .i64 x.fr, .int .i64 x.to, .int .i64 x.kd, .int .i64 x.id, .int .i64 x.cd] 50))) : o.wp Tryz.prog a w K Q := by
  unfold Oper.wp execOp
  simp only [ho, List.map_toArray, List.map_cons, List.map_nil, hy]
  go_simp
  exact h
set_option maxHeartbeats 16000000 in
theorem rparts_any (cs : Array Value) (hsz : cs.size = 23) (u : Int) (h8 : cs[8]? = some (.int .i64 u)) (hu : u ≤ 9223372036854775807) (A : Option Addr) (n c : Nat) (e0 : EvP) (ins : List EvP) (w : World) (h : Evs w A n c (e0 :: ins)) (hn : n ≤ 1000) (tz : Int) (l : List SegP) (hl : partsG (roundP e0.tm u) (roundP tz u) (roundP e0.tm u) e0 ins = l) (m : Nat) (hm : l.length = m) :
    Calls Tryz.prog 24 #[.agg cs, .slice A n c, .int .i64 tz] w fun r w' => ∃ A' c', r = .returned (.slice A' m c') ∧ SRow w' w.heap.size A' m c' l ∧ Below w.heap.size w w' := by
  have hlen := h.2
  have hb0 := bel_alloc (Below.refl w.heap.size w) (.cells cs 30)
  have HG0 := Lib.hid (Has.new w 30 cs rfl)
  have HL := Lib.hid (h.below hb0)
  have hn1 : 0 < n := by rw [← hlen]; simp
  obtain ⟨ba, oa, rfl⟩ := h.form hn1
  have C1 := Lib.hid (fun W => (rround_any e0.tm u W hu).mono fun e w' h => (show e = .returned (.int .i64 (roundP e0.tm u)) ∧ w' = W from ⟨h.1, h.2.symm⟩))
  have C2 := Lib.hid (fun W => rround_any tz u W hu)
  obtain ⟨z0, z1, z2, z3, z4⟩ := evs_num HL.out hn1 e0 rfl
  rw [Nat.zero_mul, Nat.add_zero] at z2
  have hz2 := cell_lt z2
  have q8 := HG0.out.cell 8 h8
  have HBW : ∀ n, Hid (Below w.heap.size w ((w.alloc (.cells cs 30)).drewN n)) := fun n => below_drewN hb0 n
  have HLQ : ∀ m, Hid (Evs ((w.alloc (.cells cs 30)).drewN m) (some ⟨ba, oa, none⟩) n c (e0 :: ins)) := fun m => HL.out
  have HGQ : ∀ m, Hid (((w.alloc (.cells cs 30)).drewN m).cell? ⟨w.heap.size, 8, none⟩ = some (.int .i64 u)) := fun m => q8
  obtain ⟨first, hfi⟩ : ∃ f, roundP e0.tm u = f := ⟨_, rfl⟩
  obtain ⟨last, hla⟩ : ∃ f, roundP tz u = f := ⟨_, rfl⟩
  rw [hfi, hla] at hl
  rw [hfi] at C1
  rw [hla] at C2
  obtain ⟨es, hes⟩ : ∃ es, e0 :: ins = es := ⟨_, rfl⟩
  have HEND : Hid (partsN first last es n = l) := by
    show _ = _
    rw [← hl, parts_range, hes]
    unfold partsN
    rw [← hlen]
    rfl
  rw [hes] at HLQ hlen
  have HMM := Lib.hid hm
  have i1 : (0 : Int) < (n : Int) := by omega
  clear h hl hfi hla hes hm z0 z1 z3 z4 hb0 HL
  go_enter Tryz.func24, Tryz.ntmps24
  go_wp2
  go_quiet ((go_at_call 46; with_reducible exact Calls.quiet_of_same (C1.out _)))
  have HB1 := HBW nq
  have HL1 := HLQ nq
  have q8 := (HGQ nq).out
  have hq8 := cell_lt q8
  clear HBW HLQ HGQ HG0 z2 hz2 C1
  generalize (w.alloc (.cells cs 30)).drewN nq = w1 at *
  go_wp2_with fail
  refine (C2.out _).mono ?_
  rintro e w2 ⟨rfl, rfl⟩
  clear C2 q8 hq8
  go_wp2
  go_loopw [9, 10] (fun o i wr => ∃ (k : Nat) (B : Option Addr) (d q : Nat), k ≤ n ∧ i = .int .i64 k ∧ o = .slice B q d ∧ q ≤ k ∧ (partsN first last es k).length = q ∧ Hid (SRow wr w1.heap.size B q d (partsN first last es k)) ∧ Hid (Below w1.heap.size w1 wr)) (fun _ i _ => n - (intOf i).toNat)
  case atStart => exact ⟨0, none, 0, 0, Nat.zero_le _, rfl, rfl, Nat.le_refl _, by simp [partsN], by simp [partsN]; exact TRow.nil _ _, Below.refl _ _⟩
  case round =>
    obtain ⟨k, B, d, q, hk, rfl, rfl, hqk, hq, HR, HW⟩ := hrel
    by_cases hlt : k < n
    · have HLr := Lib.hid (HL1.out.below HW.out)
      obtain ⟨x, hx⟩ : ∃ x, es.getD k EvP.none = x := ⟨_, rfl⟩
      have HX := Lib.hid hx
      have HNX := Lib.hid (partsN_succ first last es k)
      obtain ⟨-, -, z2, -, -⟩ := evs_num HLr.out hlt x hx
      have hz2 := cell_lt z2
      obtain ⟨m1, hm1⟩ : ∃ m1, min x.tm last = m1 := ⟨_, rfl⟩
      obtain ⟨p1, hp1'⟩ : ∃ p1, max first m1 = p1 := ⟨_, rfl⟩
      have hp1 : placeP first last x = p1 := by unfold placeP; rw [hm1]; exact hp1'
      have HM1 := Lib.hid hm1
      have HP1 := Lib.hid hp1'
      have i2 : (0 : Int) ≤ (k : Int) := by omega
      have i3 : (k : Int) < (n : Int) := by omega
      clear hx hm1 hp1'
      obtain ⟨pa, hpa⟩ : ∃ pa, (if k = 0 then first else p1) = pa := ⟨_, rfl⟩
      obtain ⟨y, hy⟩ : ∃ y, es.getD (k + 1) EvP.none = y := ⟨_, rfl⟩
      obtain ⟨m2, hm2⟩ : ∃ m2, min y.tm last = m2 := ⟨_, rfl⟩
      obtain ⟨p2, hp2'⟩ : ∃ p2, max first m2 = p2 := ⟨_, rfl⟩
      have hp2 : placeP first last y = p2 := by unfold placeP; rw [hm2]; exact hp2'
      have HM2 := Lib.hid hm2
      have HP2 := Lib.hid hp2'
      obtain ⟨pb, hpb⟩ : ∃ pb, (if k + 1 < n then p2 else last) = pb := ⟨_, rfl⟩
      have hsg : segAt first last es k = segI pa pb x := by
        unfold segAt
        rw [HX.out, hy, hp1, hp2, hlen, hpa, hpb]
      replace hsg := Lib.hid hsg
      have HPA := Lib.hid hpa
      have HPB := Lib.hid hpb
      have HYE := Lib.hid hy
      clear hpa hpb hm2 hp2' hp1 hp2 hy
      go_upto_if 32 with fail
      go_cut [11] (fun v11 wx => v11 = .int .i64 pa ∧ wr = wx)
      case first =>
        rcases Nat.eq_zero_or_pos k with hk0 | hk0
        · have i5 : ¬ (0 : Int) < (k : Int) := by omega
          have hpe : first = pa := by rw [← HPA.out, if_pos hk0]
          replace hpe := Lib.hid hpe
          clear hk0
          go_wp2_with fail
          go_meet
          exact ⟨by rw [hpe.out], rfl⟩
        · have i5 : (0 : Int) < (k : Int) := by omega
          have hpe : p1 = pa := by rw [← HPA.out, if_neg (by omega)]
          replace hpe := Lib.hid hpe
          clear hk0
          go_wp2_with (first | refine wpList_min2i (o := ⟨some 40, _, _, _, _, _⟩) x.tm last m1 HM1.out rfl rfl rfl rfl ?_ | refine wpList_max2i (o := ⟨some 41, _, _, _, _, _⟩) first m1 p1 HP1.out rfl rfl rfl rfl ?_)
          go_meet
          exact ⟨by rw [hpe.out], rfl⟩
      case rest =>
      obtain ⟨rfl, rfl⟩ := hcut
      go_upto_if 47 with fail
      go_cut [12] (fun v12 wx => v12 = .int .i64 pb ∧ wr = wx)
      case first =>
        by_cases hk2 : k + 1 < n
        · have i4 : (k : Int) + 1 < (n : Int) := by omega
          obtain ⟨-, -, y2, -, -⟩ := evs_num HLr.out hk2 y HYE.out
          have hy2 := cell_lt y2
          have hpe : p2 = pb := by rw [← HPB.out, if_pos hk2]
          replace hpe := Lib.hid hpe
          go_wp2_with (first | refine wpList_min2i (o := ⟨some 56, _, _, _, _, _⟩) y.tm last m2 HM2.out rfl rfl rfl rfl ?_ | refine wpList_max2i (o := ⟨some 57, _, _, _, _, _⟩) first m2 p2 HP2.out rfl rfl rfl rfl ?_)
          go_meet
          exact ⟨by rw [hpe.out], rfl⟩
        · have i4 : ¬ (k : Int) + 1 < (n : Int) := by omega
          have hpe : last = pb := by rw [← HPB.out, if_neg hk2]
          replace hpe := Lib.hid hpe
          go_wp2_with fail
          go_meet
          exact ⟨by rw [hpe.out], rfl⟩
      case rest =>
      obtain ⟨rfl, rfl⟩ := hcut
      replace hsg := hsg.out
      by_cases hab : pa < pb
      · have HSG : Hid (segAt first last es k = [⟨pa, pb, kindP x.kd, x.id, x.cd⟩]) := by show _ = _; rw [hsg]; unfold segI; rw [if_pos hab]
        clear hsg
        have hbw := HW.out
        go_upto_region 14 with fail
        refine wp_region_noPanic ?_
        refine wp_region_held_drew (S := fun w' => Below w1.heap.size w1 w') (by kernel_rfl) (below_drew (HW.out)) (fun hHeld => ?_)
        refine wpAnyH_take (i := 0) (oi := ⟨some 61, _, _, _, _, _⟩) (v := ?_) rfl (by kernel_rfl) (by kernel_rfl) (by kernel_rfl) (fun _ _ _ h => h) (Or.inl ⟨by rfl, ?_⟩) hHeld ?_
        rotate_left
        · intro ww hSw
          (try dsimp only at hSw)
          go_simp
          (try with_reducible rfl)
        simp only [Act.put, List.setIfInBounds_toArray, List.set_cons_zero, List.set_cons_succ]
        refine wpAnyH_take (i := 1) (oi := ⟨some 62, _, _, _, _, _⟩) (v := ?_) rfl (by kernel_rfl) (by kernel_rfl) (by kernel_rfl) (fun _ _ _ h => h) (Or.inl ⟨by rfl, ?_⟩) hHeld ?_
        rotate_left
        · intro ww hSw
          (try dsimp only at hSw)
          go_simp
          (try with_reducible rfl)
        simp only [Act.put, List.setIfInBounds_toArray, List.set_cons_zero, List.set_cons_succ]
        refine wpAnyH_take (i := 2) (oi := ⟨some 63, _, _, _, _, _⟩) (v := ?_) rfl (by kernel_rfl) (by kernel_rfl) (by kernel_rfl) (fun _ _ _ h => h) (Or.inl ⟨by rfl, ?_⟩) hHeld ?_
        rotate_left
        · intro ww hSw
          (try dsimp only at hSw)
          go_simp
          (try with_reducible rfl)
        simp only [Act.put, List.setIfInBounds_toArray, List.set_cons_zero, List.set_cons_succ]
        refine wpAnyH_take (i := 3) (oi := ⟨some 64, _, _, _, _, _⟩) (v := ?_) rfl (by kernel_rfl) (by kernel_rfl) (by kernel_rfl) (fun _ _ _ h => h) (Or.inl ⟨by rfl, ?_⟩) hHeld ?_
        rotate_left
        · intro ww hSw
          (try dsimp only at hSw)
          go_simp
          (try with_reducible rfl)
        simp only [Act.put, List.setIfInBounds_toArray, List.set_cons_zero, List.set_cons_succ]
        refine wpAnyH_take (i := 4) (oi := ⟨some 65, _, _, _, _, _⟩) (v := ?_) rfl (by kernel_rfl) (by kernel_rfl) (by kernel_rfl) (fun _ _ _ h => h) (Or.inl ⟨by rfl, ?_⟩) hHeld ?_
        rotate_left
        · intro ww hSw
          (try dsimp only at hSw)
          go_simp
          (try with_reducible rfl)
        simp only [Act.put, List.setIfInBounds_toArray, List.set_cons_zero, List.set_cons_succ]
        refine wpAnyH_take (i := 5) (oi := ⟨some 66, _, _, _, _, _⟩) (v := .pointer (some ⟨ba, oa + k * 11, none⟩)) rfl (by kernel_rfl) (by kernel_rfl) (by kernel_rfl) (fun _ _ _ h => h) (Or.inl ⟨by rfl, ?_⟩) hHeld ?_
        · intro ww hSw
          (try dsimp only at hSw)
          go_simp
        simp only [Act.put, List.setIfInBounds_toArray, List.set_cons_zero, List.set_cons_succ]
        refine wpAnyH_take (i := 6) (oi := ⟨some 67, _, _, _, _, _⟩) (v := .agg (evC x)) rfl (by kernel_rfl) (by kernel_rfl) (by kernel_rfl) (fun _ _ _ h => h) (Or.inl ⟨by rfl, ?_⟩) hHeld ?_
        · intro ww hSw
          (try dsimp only at hSw)
          rw [← HX.out]
          exact exec_load_at _ rfl rfl (evs_load (HL1.out.below hSw) (by omega))
        simp only [Act.put, List.setIfInBounds_toArray, List.set_cons_zero, List.set_cons_succ]
        refine wpAnyH_take (i := 8) (oi := ⟨some 69, _, _, _, _, _⟩) (v := ?_) rfl (by kernel_rfl) (by kernel_rfl) (by kernel_rfl) (fun _ _ _ h => h) (Or.inl ⟨by rfl, ?_⟩) hHeld ?_
        rotate_left
        · intro ww hSw
          (try dsimp only at hSw)
          go_simp
          (try with_reducible rfl)
        simp only [Act.put, List.setIfInBounds_toArray, List.set_cons_zero, List.set_cons_succ]
        refine wpAnyH_take (i := 9) (oi := ⟨some 70, _, _, _, _, _⟩) (v := ?_) rfl (by kernel_rfl) (by kernel_rfl) (by kernel_rfl) (fun _ _ _ h => h) (Or.inl ⟨by rfl, ?_⟩) hHeld ?_
        rotate_left
        · intro ww hSw
          (try dsimp only at hSw)
          go_simp
          (try with_reducible rfl)
        simp only [Act.put, List.setIfInBounds_toArray, List.set_cons_zero, List.set_cons_succ]
        refine wpAnyH_take (i := 10) (oi := ⟨some 71, _, _, _, _, _⟩) (v := .pointer (some ⟨ba, oa + k * 11, none⟩)) rfl (by kernel_rfl) (by kernel_rfl) (by kernel_rfl) (fun _ _ _ h => h) (Or.inl ⟨by rfl, ?_⟩) hHeld ?_
        · intro ww hSw
          (try dsimp only at hSw)
          go_simp
        simp only [Act.put, List.setIfInBounds_toArray, List.set_cons_zero, List.set_cons_succ]
        refine wpAnyH_take (i := 11) (oi := ⟨some 72, _, _, _, _, _⟩) (v := ?_) rfl (by kernel_rfl) (by kernel_rfl) (by kernel_rfl) (fun _ _ _ h => h) (Or.inl ⟨by rfl, ?_⟩) hHeld ?_
        rotate_left
        · intro ww hSw
          (try dsimp only at hSw)
          go_simp
          (try with_reducible rfl)
        simp only [Act.put, List.setIfInBounds_toArray, List.set_cons_zero, List.set_cons_succ]
        refine wpAnyH_take (i := 12) (oi := ⟨some 73, _, _, _, _, _⟩) (v := .int .i64 x.id) rfl (by kernel_rfl) (by kernel_rfl) (by kernel_rfl) (fun _ _ _ h => h) (Or.inl ⟨by rfl, ?_⟩) hHeld ?_
        · intro ww hSw
          (try dsimp only at hSw)
          have zc := (evs_num (HL1.out.below hSw) hlt x HX.out).1
          have zl := cell_lt zc
          go_simp
        simp only [Act.put, List.setIfInBounds_toArray, List.set_cons_zero, List.set_cons_succ]
        refine wpAnyH_take (i := 13) (oi := ⟨some 74, _, _, _, _, _⟩) (v := ?_) rfl (by kernel_rfl) (by kernel_rfl) (by kernel_rfl) (fun _ _ _ h => h) (Or.inl ⟨by rfl, ?_⟩) hHeld ?_
        rotate_left
        · intro ww hSw
          (try dsimp only at hSw)
          go_simp
          (try with_reducible rfl)
        simp only [Act.put, List.setIfInBounds_toArray, List.set_cons_zero, List.set_cons_succ]
        refine wpAnyH_take (i := 14) (oi := ⟨some 75, _, _, _, _, _⟩) (v := ?_) rfl (by kernel_rfl) (by kernel_rfl) (by kernel_rfl) (fun _ _ _ h => h) (Or.inl ⟨by rfl, ?_⟩) hHeld ?_
        rotate_left
        · intro ww hSw
          (try dsimp only at hSw)
          go_simp
          (try with_reducible rfl)
        simp only [Act.put, List.setIfInBounds_toArray, List.set_cons_zero, List.set_cons_succ]
        refine wpAnyH_take (i := 15) (oi := ⟨some 76, _, _, _, _, _⟩) (v := .pointer (some ⟨ba, oa + k * 11, none⟩)) rfl (by kernel_rfl) (by kernel_rfl) (by kernel_rfl) (fun _ _ _ h => h) (Or.inl ⟨by rfl, ?_⟩) hHeld ?_
        · intro ww hSw
          (try dsimp only at hSw)
          go_simp
        simp only [Act.put, List.setIfInBounds_toArray, List.set_cons_zero, List.set_cons_succ]
        refine wpAnyH_take (i := 16) (oi := ⟨some 77, _, _, _, _, _⟩) (v := ?_) rfl (by kernel_rfl) (by kernel_rfl) (by kernel_rfl) (fun _ _ _ h => h) (Or.inl ⟨by rfl, ?_⟩) hHeld ?_
        rotate_left
        · intro ww hSw
          (try dsimp only at hSw)
          go_simp
          (try with_reducible rfl)
        simp only [Act.put, List.setIfInBounds_toArray, List.set_cons_zero, List.set_cons_succ]
        refine wpAnyH_take (i := 17) (oi := ⟨some 78, _, _, _, _, _⟩) (v := .int .i64 x.cd) rfl (by kernel_rfl) (by kernel_rfl) (by kernel_rfl) (fun _ _ _ h => h) (Or.inl ⟨by rfl, ?_⟩) hHeld ?_
        · intro ww hSw
          (try dsimp only at hSw)
          have zc := (evs_num (HL1.out.below hSw) hlt x HX.out).2.2.2.2
          have zl := cell_lt zc
          go_simp
        simp only [Act.put, List.setIfInBounds_toArray, List.set_cons_zero, List.set_cons_succ]
        refine wpAnyH_ready (rs := [7]) (by kernel_rfl) (by simp) ?_
        refine AllReadyH.cons (o := ⟨some 68, _, _, _, _, _⟩) rfl (fun K hK => ?_) AllReadyH.nil
        go_simp
        go_at_call 47
        refine (rkind_any x _).mono ?_
        rintro e_r w6 ⟨rfl, hbn⟩
        have HK6 := Lib.hid hbn
        have hbw6 : Below w1.heap.size w1 w6 := bel_on (show Below w1.heap.size w1 _ by (repeat' (first | with_reducible exact Below.refl _ _ | with_reducible assumption | with_reducible refine bel_alloc ?_ _ | with_reducible refine bel_set ?_ ?_ _ | with_reducible refine below_drewN ?_ _ | with_reducible refine below_drew ?_ | (simp; done) | (simp; omega) | omega))) hbn
        clear hbn
        go_wp2_with fail
        refine hK.out _ _ ?_ (fun hHeld => ?_)
        · (try dsimp only)
          exact hbw6
        clear hK K
        (try simp only [Act.put, List.setIfInBounds_toArray, List.set_cons_zero, List.set_cons_succ])
        refine wpAnyH_take (i := 18) (oi := ⟨some 79, _, _, _, _, _⟩) (v := ?_) rfl (by kernel_rfl) (by kernel_rfl) (by kernel_rfl) (fun _ _ _ h => h) (Or.inl ⟨by rfl, ?_⟩) hHeld ?_
        rotate_left
        · intro ww hSw
          (try dsimp only at hSw)
          go_simp
          (try with_reducible rfl)
        simp only [Act.put, List.setIfInBounds_toArray, List.set_cons_zero, List.set_cons_succ]
        have HR6 := Lib.hid (HR.out.drew.below HK6.out)
        have HW6 := Lib.hid hbw6
        obtain ⟨A9, c9, w9, hr9, row9, kp9⟩ := srow_one HR6.out ⟨pa, pb, kindP x.kd, x.id, x.cd⟩ (by omega) HW6.out.size (s := w6.heap.size) rfl
        have HR9 := Lib.hid hr9
        have HW9 := Lib.hid (below_kept0 HW6.out kp9)
        have HRW9 := Lib.hid row9
        clear hr9 row9 kp9
        refine wpAnyH_ready (rs := [19]) (by kernel_rfl) (by simp) ?_
        refine AllReadyH.cons (o := ⟨some 80, _, _, _, _, _⟩) rfl (fun K hK => ?_) AllReadyH.nil
        rw [if_pos (by rfl)]
        refine wp_build_s ⟨pa, pb, kindP x.kd, x.id, x.cd⟩ rfl rfl ?_
        refine hK.out _ _ ?_ (fun hHeld => ?_)
        · (try dsimp only)
          exact bel_alloc HW6.out _
        clear hK K
        (try simp only [Act.put, List.setIfInBounds_toArray, List.set_cons_zero, List.set_cons_succ])
        refine wpAnyH_ready (rs := [20]) (by kernel_rfl) (by simp) ?_
        refine AllReadyH.cons (o := ⟨some 81, _, _, _, _, _⟩) rfl (fun K hK => ?_) AllReadyH.nil
        rw [if_pos (by rfl)]
        refine wp_append_run8 HR9.out rfl rfl rfl ?_
        refine hK.out _ _ ?_ (fun hHeld => ?_)
        · (try dsimp only)
          exact HW9.out
        clear hK K
        (try simp only [Act.put, List.setIfInBounds_toArray, List.set_cons_zero, List.set_cons_succ])
        refine wpAnyH_take (i := 21) (oi := ⟨some 9, _, _, _, _, _⟩) (v := ?_) rfl (by kernel_rfl) (by kernel_rfl) (by kernel_rfl) (fun _ _ _ h => h) (Or.inl ⟨by rfl, ?_⟩) hHeld ?_
        rotate_left
        · intro ww hSw
          (try dsimp only at hSw)
          go_simp
          (try with_reducible rfl)
        simp only [Act.put, List.setIfInBounds_toArray, List.set_cons_zero, List.set_cons_succ]
        refine wpAnyH_done (by kernel_rfl) ?_ _
        refine NoPanic.normal ?_
        go_wp2
        go_roundw
        case rel => exact ⟨k + 1, A9, c9, q + 1, by omega, by go_num, rfl, by omega, by rw [HNX.out, HSG.out, List.length_append, hq]; rfl, by rw [HNX.out, HSG.out]; exact HRW9.out, HW9⟩
        case measure => simp [intOf]; omega
      · have HSG : Hid (segAt first last es k = []) := by show _ = _; rw [hsg]; unfold segI; rw [if_neg hab]
        clear hsg
        go_wp2_with fail
        go_roundw
        case rel => exact ⟨k + 1, B, d, q, by omega, by go_num, rfl, by omega, by rw [HNX.out, HSG.out, List.append_nil]; exact hq, by rw [HNX.out, HSG.out, List.append_nil]; exact HR, HW⟩
        case measure => simp [intOf]; omega
    · obtain rfl : k = n := by omega
      rw [HEND.out] at hq HR
      obtain rfl : q = m := by rw [← hq, HMM.out]
      have HBW := Lib.hid (bel_on HB1.out HW.out)
      have HRW := Lib.hid (trow_mono HR.out HB1.out.size)
      go_wp2
      go_ret
      exact ⟨B, d, rfl, HRW.out, HBW.out⟩
end Go.Proofs.YtbijaaglmhoopaaGreat
