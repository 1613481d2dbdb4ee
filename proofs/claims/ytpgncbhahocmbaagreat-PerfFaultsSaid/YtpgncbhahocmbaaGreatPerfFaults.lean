/-
  PerfFaults: with a fault more a worker earned no more, in as many seconds.
-/
import Derived.Test.YtpgncbhahocmbaaGreatPrfV
import Derived.Test.YtpgncbhahocmbaaGreatQbd
import Derived.Test.YtpgncbhahocmbaaGreatQbe
import Derived.Test.YtpgncbhahocmbaaGreatQas
import Derived.Test.YtpgncbhahocmbaaGreatQba
import Derived.Test.YtpgncbhahocmbaaGreatQao
import Derived.Test.YtpgncbhahocmbaaGreatQay
import Derived.Test.YtpgncbhahocmbaaGreatQah
import Derived.Test.YtpgncbhahocmbaaGreatQap
import Derived.Test.YtpgncbhahocmbaaGreatQai
import Derived.Test.YtpgncbhahocmbaaGreatQaa


import Derived.Test.YtpgncbhahocmbaaGreatQan
import Derived.Test.YtpgncbhahocmbaaGreatQak
import Derived.Test.YtpgncbhahocmbaaGreatQar
import Derived.Test.YtpgncbhahocmbaaGreatQab
import Derived.Deep.DeepCutAuto
namespace Go.Proofs.YtpgncbhahocmbaaGreat
open Go.RowKit
set_option linter.unusedVariables false
set_option linter.unusedSimpArgs false
set_option maxRecDepth 20000

theorem divR_y (a b c d : Int) : (divR a b c d).c ≠ 0 → (divR a b c d).n = 0 ∧ (divR a b c d).d = 0 := by unfold divR; split; exact mkR_z _ _; exact fun _ => ⟨rfl, rfl⟩
def I64 (x : Int) : Prop := -9223372036854775808 ≤ x ∧ x ≤ 9223372036854775807
theorem earn_may' {F : Int} {gs : List Rat2} {lost : Nat} (hF : 0 ≤ F * (lost : Int) ∧ F * (lost : Int) ≤ 2147483647) (h : (earnP F gs lost).c = 0) : mayB (earnP F gs lost).n (earnP F gs lost).d = true := by
  obtain ⟨h1, h2, h3⟩ := earn_ok hF h
  rw [h3]
  split
  · decide
  · exact mk_may h2
/-- What a fault more changes. -/
theorem fault_done {s : SetP} (hb : checkB s = true) (k : Int) (l : List EvP) (hl : l.length ≤ 60) (f : EvP) (h7 : f.kd = 7) (hm : mayS s f = true) (D E : DoneP) (hD : perfP true s f.wk k l = D) (hE : perfP true s f.wk k (l ++ [f]) = E) (X : Rat2) (hX : minusR D.en D.ed s.fault 1 = X) :
    D.el = E.el ∧ (weekP f.tm ≠ k → D = E) ∧ (weekP f.tm = k → D.er = 0 → E.er = 0 → (E.en = 0 ∧ E.ed = 1 ∧ (X.c ≠ 0 ∨ X.n ≤ 0) ∨ X.c = 0 ∧ E.en = X.n ∧ E.ed = X.d) ∧ lessB D.pn D.pd E.pn E.pd = false ∧ 0 ≤ E.en ∧ (I64 D.en ∧ I64 D.ed) ∧ (I64 D.pn ∧ I64 D.pd) ∧ (I64 E.pn ∧ I64 E.pd)) := by
  have hF := (check_iff.1 hb).fault
  obtain ⟨hu, hb2⟩ := segsOf_up s f.wk l
  have hsb : 0 ≤ secsP (tasksP s f.wk k l) ∧ secsP (tasksP s f.wk k l) ≤ 32054400 - 0 := secs_bd (hi := 32054400) (up_filter (ofWk k) hu) (fun x hx => (hb2 x (List.mem_filter.1 hx).1).2.2) (by omega)
  have hln := lost_len (mayS s) f.wk k l
  have hp : perfP true s f.wk k l = doneP (secsP (tasksP s f.wk k l)) (wrongP ((tasksP s f.wk k l).map (goalX s f.wk l))) (earnP s.fault ((tasksP s f.wk k l).map (goalX s f.wk l)) (lostP (mayS s) f.wk k l)) := by
    unfold perfP
    rw [if_pos rfl]
  have hq := fault_perf (k := k) (l := l) h7 hm
  rw [hD] at hp
  rw [hE] at hq
  generalize (tasksP s f.wk k l).map (goalX s f.wk l) = gs at *
  generalize lostP (mayS s) f.wk k l = lost at *
  generalize secsP (tasksP s f.wk k l) = el at *
  refine ⟨by rw [hp, hq, done_el, done_el], fun hw => by rw [hp, hq, if_neg hw, Nat.add_zero], fun hw hd he => ?_⟩
  rw [if_pos hw] at hq
  have hfl : 0 ≤ s.fault * (lost : Int) ∧ s.fault * (lost : Int) + s.fault ≤ 2147483647 := by
    have q1 : (lost : Int) ≤ 60 := by omega
    have q0 : 0 ≤ (lost : Int) := by omega
    generalize (lost : Int) = q at *
    exact ⟨Int.mul_nonneg hF.1 q0, by have := Int.mul_le_mul hF.2 q1 q0 (by omega); omega⟩
  have e1 : s.fault * ((lost + 1 : Nat) : Int) = s.fault * (lost : Int) + s.fault := by rw [Int.natCast_add, Int.mul_add]; simp
  rw [hp] at hd
  rw [hq] at he
  obtain ⟨a1, a2, a3, a4, a5⟩ := done_ok (by omega) hd
  obtain ⟨b1, b2, b3, b4, b5⟩ := done_ok (by omega) he
  rw [← hp] at a3 a4 a5
  rw [← hq] at b3 b4 b5
  obtain ⟨c1, c2, c3⟩ := earn_less hF.1 (by omega) hfl.2 a2 b2
  have m1 := may_i64 (earn_may' (by omega) a2)
  rw [← a3, ← a4] at c1 c3 m1
  rw [← b3, ← b4] at c1 c3
  rw [← b3] at c2
  rw [hX] at c1
  have mp : ∀ {x y z : Int}, (z = 0 ∧ x = 0 ∧ y = 1 ∨ 0 < z ∧ (divR D.en D.ed z 1).c = 0 ∧ x = (divR D.en D.ed z 1).n ∧ y = (divR D.en D.ed z 1).d) → I64 x ∧ I64 y := by
    rintro x y z (⟨-, rfl, rfl⟩ | ⟨-, -, rfl, rfl⟩)
    · unfold I64; omega
    · exact rat_i64 _ (divR_may _ _ _ _) (divR_y _ _ _ _)
  have mq : ∀ {x y z : Int}, (z = 0 ∧ x = 0 ∧ y = 1 ∨ 0 < z ∧ (divR E.en E.ed z 1).c = 0 ∧ x = (divR E.en E.ed z 1).n ∧ y = (divR E.en E.ed z 1).d) → I64 x ∧ I64 y := by
    rintro x y z (⟨-, rfl, rfl⟩ | ⟨-, -, rfl, rfl⟩)
    · unfold I64; omega
    · exact rat_i64 _ (divR_may _ _ _ _) (divR_y _ _ _ _)
  rw [← a3, ← a4] at a5
  rw [← b3, ← b4] at b5
  refine ⟨c1, ?_, c2, m1, mp a5, mq b5⟩
  unfold lessB
  rcases a5 with ⟨z0, z1, z2⟩ | ⟨z0, z1, z2, z3⟩
  · rcases b5 with ⟨-, y1, y2⟩ | ⟨y0, -⟩
    · rw [z1, z2, y1, y2]; decide
    · omega
  · rcases b5 with ⟨y0, -⟩ | ⟨y0, y1, y2, y3⟩
    · omega
    · have := perf_less z0 z1 y1 (by omega)
      rw [← z2, ← z3, ← y2, ← y3] at this
      simp [this]
theorem rat_eql_no {x y u v : Int} (h : ¬ (x = u ∧ y = v)) (w : World) : (binOp .eql 24 (.agg #[.int .i64 x, .int .i64 y]) (.agg #[.int .i64 u, .int .i64 v])).run Tryz.prog w = .ok (.bool false) w := by
  by_cases h1 : x = u
  · have h2 : ¬ y = v := fun e => h ⟨h1, e⟩
    have e2 : (y == v) = false := beq_eq_false_iff_ne.2 h2
    subst h1
    simp [go_sem, e2]
  · have e1 : (x == u) = false := beq_eq_false_iff_ne.2 h1
    simp [go_sem, e1]
set_option maxHeartbeats 16000000 in
theorem perfFaults_main (s : SetP) (cs : Array Value) (w : World) (hW : SetW w s cs) (A : Option Addr) (n c : Nat) (l : List EvP) (hx : Evs w A n c l) (hIn : ∀ e ∈ l, e.In) (f : EvP) (hf : f.In) (week : Int) :
    Calls Tryz.prog 6 #[.agg cs, .slice A n c, .agg (evC f), .int .i64 week] w fun e w' => e = .returned (.bool true) ∧ Below w.heap.size w w' := by
  have mixed : Tryz.prog.follows Departure.mixedOrders = true := by kernel_rfl
  have HMX := Lib.hid mixed
  have HZ := Lib.hid hW.size
  obtain ⟨b, hb⟩ : ∃ b, checkB s = b := ⟨_, rfl⟩
  obtain ⟨q, hq⟩ : ∃ q, decide (s.Few ∧ n ≤ 60) = q := ⟨_, rfl⟩
  obtain ⟨bf, hbf⟩ : ∃ bf, mayS s f = bf := ⟨_, rfl⟩
  have HFEW := Lib.hid (fun W (hs : SetW W s cs) => few18 s cs W hs A n c q hq)
  have HCK := Lib.hid (fun W (hs : SetC W s cs) => scheck_c hs hW.f b hb)
  have HEC := Lib.hid (fun W => echeck_any cs _ _ _ _ _ hW.q f hf W bf hbf)
  have hlen := hx.2
  have HBB := Lib.hid hb
  have HBF := Lib.hid hbf
  have HIN := Lib.hid hIn
  have HFI := Lib.hid hf
  have HFT := Lib.hid (setC_fault hW.c)
  have hn0 := dx_start hW hx
  have hbx := bel_alloc (Below.refl (w.alloc (.cells cs 30)).heap.size (w.alloc (.cells cs 30))) (.cells (evC f) 43)
  have HN0 := Lib.hid (hn0.below hbx)
  have HF0 : Hid (Has ((w.alloc (.cells cs 30)).alloc (.cells (evC f) 43)) (w.heap.size + 1) (evC f)) := Has.new _ _ _ (by simp)
  have HSF := Lib.hid (evC_size f)
  clear hW hx hb hIn hbf hf hn0 hbx
  go_enter Tryz.func6, Tryz.ntmps6
  go_wp2_with fail
  obtain ⟨g6, hg6⟩ : ∃ g, w.heap.size + 1 = g := ⟨_, rfl⟩
  rw [hg6] at HF0
  rw [hg6]
  clear hg6
  refine (awake18 _).mono ?_
  rintro e w1 ⟨rfl, b1⟩
  have HN1 := Lib.hid (HN0.out.below b1)
  have HF1 := Lib.hid (HF0.out.below b1)
  clear b1 HN0 HF0
  go_wp2_with (refine wpList_exec (o := ⟨some 24, _, _, _, _, _⟩) (by rfl) (exec_load_st _ rfl rfl HN1.out.h HZ.out) ?_)
  refine (HFEW.out _ HN1.out.c).mono ?_
  rintro e w2 ⟨rfl, b2⟩
  have HN2 := Lib.hid (HN1.out.below b2)
  have HF2 := Lib.hid (HF1.out.below b2)
  clear b2 HN1 HF1 HFEW
  cases q with
  | false =>
    have HE := Lib.hid HN2.out.b
    clear HN2 HF2 hq HCK HBB HEC
    go_wp2
    go_ret
    exact ⟨rfl, HE.out⟩
  | true =>
    have h60 := (of_decide_eq_true hq).2
    clear hq
    go_wp2_with (refine wpList_exec (o := ⟨some 29, _, _, _, _, _⟩) (by rfl) (exec_load_st _ rfl rfl HN2.out.h HZ.out) ?_)
    refine (HCK.out _ HN2.out.c.c).mono ?_
    rintro e w3 ⟨rfl, b3⟩
    have HN3 := Lib.hid (HN2.out.below b3)
    have HF3 := Lib.hid (HF2.out.below b3)
    clear b3 HN2 HF2 HCK
    cases b with
    | false =>
      have HE := Lib.hid HN3.out.b
      clear HN3 HF3 HBB HEC
      go_wp2
      go_ret
      exact ⟨rfl, HE.out⟩
    | true =>
      go_wp2_with (first | refine wpList_exec (o := ⟨some 34, _, _, _, _, _⟩) (by rfl) (exec_load_st _ rfl rfl HN3.out.h HZ.out) ?_ | refine wpList_exec (o := ⟨some 35, _, _, _, _, _⟩) (by rfl) (exec_load_at _ rfl rfl (has_load_e HF3.out)) ?_)
      refine (HEC.out _).mono ?_
      rintro e w4 ⟨rfl, b4⟩
      have HN4 := Lib.hid (HN3.out.below b4)
      have HF4 := Lib.hid (HF3.out.below b4)
      clear b4 HN3 HF3 HEC
      cases bf with
      | false =>
        have HE := Lib.hid HN4.out.b
        clear HN4 HF4 HBB
        go_wp2
        go_ret
        exact ⟨rfl, HE.out⟩
      | true =>
        have k3 := HF4.out.cell 3 (show (evC f)[3]? = some (.int .i64 f.kd) from rfl)
        have kl := cell_lt k3
        by_cases h7 : f.kd = 7
        · have h7' : (f.kd != 7) = false := by simp [h7]
          have H7 := Lib.hid h7
          have HGD := Lib.hid (fault_done HBB.out week l (by omega) f h7 HBF.out)
          have CP0 := Lib.hid (fun W (hs : SetW W s cs) (hE : Evs W A n c l) => perf_c hs true HBB.out A n c l f.wk week hE (by omega) HIN.out)
          have CE0 := Lib.hid (fun W A' c' (hs : SetW W s cs) (hE : Evs W A' (n + 1) c' (l ++ [f])) => perf_c hs true HBB.out A' (n + 1) c' (l ++ [f]) f.wk week hE (by omega) (fun e he => by rcases List.mem_append.1 he with he | he; exact HIN.out e he; (obtain rfl : e = f := by simpa using he); exact HFI.out))
          obtain ⟨D, hD⟩ : ∃ D, perfP true s f.wk week l = D := ⟨_, rfl⟩
          obtain ⟨E, hE⟩ : ∃ E, perfP true s f.wk week (l ++ [f]) = E := ⟨_, rfl⟩
          have HGE := Lib.hid (HGD.out D E hD hE)
          have CP := CP0
          have CE := CE0
          rw [hD] at CP
          rw [hE] at CE
          have HN := HN4
          have HF := HF4
          clear h7 hD hE HGD CP0 CE0 HN4 HF4
          have k1 := HF.out.cell 1 (show (evC f)[1]? = some (.int .i64 f.wk) from rfl)
          go_upto_region 4 with fail
          go_cut [10, 11, 12, 13] (fun v12 v13 v14 v15 wx => ∃ g12 g14 : Nat, v12 = .pointer (some ⟨g12, 0, none⟩) ∧ v13 = .int .i64 D.el ∧ v14 = .pointer (some ⟨g14, 0, none⟩) ∧ v15 = .int .i64 D.er ∧ Hid (Has wx g12 #[.int .i64 D.en, .int .i64 D.ed]) ∧ Hid (Has wx g14 #[.int .i64 D.pn, .int .i64 D.pd]) ∧ Hid (Dx w wx w.heap.size s cs A n c l) ∧ Hid (Has wx g6 (evC f)))
          case first =>
            go_wp2_with (refine wpList_exec (o := ⟨some 46, _, _, _, _, _⟩) (by rfl) (exec_load_st _ rfl rfl HN.out.h HZ.out) ?_)
            refine (CP.out _ HN.out.c HN.out.x).mono ?_
            rintro e w3 ⟨rfl, b3⟩
            have t0 := HN.out.below b3
            have t1 := HF.out.below b3
            obtain ⟨w4, hw4⟩ : ∃ W, (w3.alloc (.cells #[.int .i64 0, .int .i64 0] 24)).alloc (.cells #[.int .i64 0, .int .i64 0] 24) = W := ⟨_, rfl⟩
            have b4 : Below w3.heap.size w3 w4 := by rw [← hw4]; exact bel_alloc (bel_alloc (Below.refl _ _) _) _
            have h12 : Has w4 w3.heap.size #[.int .i64 0, .int .i64 0] := by rw [← hw4]; exact (Has.new w3 _ _ rfl).alloc _
            have h14 : Has w4 (w3.heap.size + 1) #[.int .i64 0, .int .i64 0] := by rw [← hw4]; exact Has.new _ _ _ (by simp)
            obtain ⟨g12, hg12⟩ : ∃ g, w3.heap.size = g := ⟨_, rfl⟩
            rw [hg12] at h12 h14
            obtain ⟨g14, hg14⟩ : ∃ g, g12 + 1 = g := ⟨_, rfl⟩
            rw [hg14] at h14
            have q0 := h12.cell 0 rfl
            have q1 := h12.cell 1 rfl
            have q2 := h12.frozen 0
            have q3 := h12.frozen 1
            have ql := cell_lt q0
            have p0 := h14.cell 0 rfl
            have p1 := h14.cell 1 rfl
            have p2 := h14.frozen 0
            have p3 := h14.frozen 1
            have pl := cell_lt p0
            have hne : g12 < g14 := by omega
            obtain ⟨w5, hw5⟩ : ∃ W, (((w4.setCell ⟨g12, 0, none⟩ (.int .i64 D.en)).setCell ⟨g12, 1, none⟩ (.int .i64 D.ed)).setCell ⟨g14, 0, none⟩ (.int .i64 D.pn)).setCell ⟨g14, 1, none⟩ (.int .i64 D.pd) = W := ⟨_, rfl⟩
            have H12x : Hid (Has w5 g12 #[.int .i64 D.en, .int .i64 D.ed]) := by
              show Has _ _ _
              rw [← hw5]
              exact (((h12.set 0 _).set 1 _).far (p := ⟨g14, 0, none⟩) (by show g12 ≠ g14; omega) _).far (p := ⟨g14, 1, none⟩) (by show g12 ≠ g14; omega) _
            have H14x : Hid (Has w5 g14 #[.int .i64 D.pn, .int .i64 D.pd]) := by
              show Has _ _ _
              rw [← hw5]
              exact (((h14.far (p := ⟨g12, 0, none⟩) (by show g14 ≠ g12; omega) _).far (p := ⟨g12, 1, none⟩) (by show g14 ≠ g12; omega) _).set 0 _).set 1 _
            have b5 : Below w3.heap.size w3 w5 := by
              rw [← hw5]
              exact bel_set (bel_set (bel_set (bel_set b4 (by show _ ≤ g12; omega) _) (by show _ ≤ g12; omega) _) (by show _ ≤ g14; omega) _) (by show _ ≤ g14; omega) _
            have T0 := Lib.hid (t0.below b5)
            have T1 := Lib.hid (t1.below b5)
            clear h12 h14 b4 b5 b3 t0 t1 HN HF
            go_wp2_with fail
            go_meet
            exact ⟨g12, g14, rfl, rfl, rfl, rfl, H12x, H14x, T0, T1⟩
          case rest =>
            obtain ⟨g12, g14, rfl, rfl, rfl, rfl, HA, HP, HN2, HF2⟩ := hcut
            clear HN HF CP k1 k3 kl
            have HN := HN2
            have HF := HF2
            clear HN2 HF2
            have HEV := Lib.hid HN.out.x
            go_upto_region 5 with fail
            go_cut [14, 15, 16, 17] (fun v14 v15 v16 v17 wx => ∃ ga gb : Nat, v14 = .pointer (some ⟨ga, 0, none⟩) ∧ v15 = .int .i64 E.el ∧ v16 = .pointer (some ⟨gb, 0, none⟩) ∧ v17 = .int .i64 E.er ∧ Hid (Has wx ga #[.int .i64 E.en, .int .i64 E.ed]) ∧ Hid (Has wx gb #[.int .i64 E.pn, .int .i64 E.pd]) ∧ Hid (Has wx g12 #[.int .i64 D.en, .int .i64 D.ed]) ∧ Hid (Has wx g14 #[.int .i64 D.pn, .int .i64 D.pd]) ∧ Hid (Dx w wx w.heap.size s cs A n c l) ∧ Hid (Has wx g6 (evC f)))
            case first =>
              go_wp2_with fail
              refine wp_region_noPanic ?_
              refine wp_region_held_drew (S := fun w' => Below wc.heap.size wc w') (by kernel_rfl) (below_drew (Below.refl _ _)) (fun hHeld => ?_)
              refine wpAnyH_take (i := 0) (oi := ⟨some 57, _, _, _, _, _⟩) (v := .agg cs) rfl (by kernel_rfl) (by kernel_rfl) (by kernel_rfl) (fun _ _ _ h => h) (Or.inl ⟨by rfl, ?_⟩) hHeld ?_
              · intro ww hSw
                (try dsimp only at hSw)
                exact exec_load_st _ rfl rfl (HN.out.h.below hSw) HZ.out
              simp only [Act.put, List.setIfInBounds_toArray, List.set_cons_zero, List.set_cons_succ]
              refine wpAnyH_take (i := 2) (oi := ⟨some 59, _, _, _, _, _⟩) (v := ?_) rfl (by kernel_rfl) (by kernel_rfl) (by kernel_rfl) (fun _ _ _ h => h) (Or.inl ⟨by rfl, ?_⟩) hHeld ?_
              rotate_left
              · intro ww hSw
                (try dsimp only at hSw)
                go_simp
                (try with_reducible rfl)
              simp only [Act.put, List.setIfInBounds_toArray, List.set_cons_zero, List.set_cons_succ]
              refine wpAnyH_take (i := 4) (oi := ⟨some 61, _, _, _, _, _⟩) (v := .agg (evC f)) rfl (by kernel_rfl) (by kernel_rfl) (by kernel_rfl) (fun _ _ _ h => h) (Or.inl ⟨by rfl, ?_⟩) hHeld ?_
              · intro ww hSw
                (try dsimp only at hSw)
                exact exec_load_at _ rfl rfl (has_load_e (HF.out.below hSw))
              simp only [Act.put, List.setIfInBounds_toArray, List.set_cons_zero, List.set_cons_succ]
              refine wpAnyH_take (i := 7) (oi := ⟨some 64, _, _, _, _, _⟩) (v := ?_) rfl (by kernel_rfl) (by kernel_rfl) (by kernel_rfl) (fun _ _ _ h => h) (Or.inl ⟨by rfl, ?_⟩) hHeld ?_
              rotate_left
              · intro ww hSw
                (try dsimp only at hSw)
                go_simp
                (try with_reducible rfl)
              simp only [Act.put, List.setIfInBounds_toArray, List.set_cons_zero, List.set_cons_succ]
              refine wpAnyH_take (i := 8) (oi := ⟨some 65, _, _, _, _, _⟩) (v := .int .i64 f.wk) rfl (by kernel_rfl) (by kernel_rfl) (by kernel_rfl) (fun _ _ _ h => h) (Or.inl ⟨by rfl, ?_⟩) hHeld ?_
              · intro ww hSw
                (try dsimp only at hSw)
                have qc := (HF.out.below hSw).cell 1 (show (evC f)[1]? = some (.int .i64 f.wk) from rfl)
                have qz := cell_lt qc
                go_simp
              simp only [Act.put, List.setIfInBounds_toArray, List.set_cons_zero, List.set_cons_succ]
              refine wpAnyH_take (i := 9) (oi := ⟨some 66, _, _, _, _, _⟩) (v := ?_) rfl (by kernel_rfl) (by kernel_rfl) (by kernel_rfl) (fun _ _ _ h => h) (Or.inl ⟨by rfl, ?_⟩) hHeld ?_
              rotate_left
              · intro ww hSw
                (try dsimp only at hSw)
                go_simp
                (try with_reducible rfl)
              simp only [Act.put, List.setIfInBounds_toArray, List.set_cons_zero, List.set_cons_succ]
              refine wpAnyH_lit (fuel' := 16) (l := #[true, false, true, false, true, false, false, true, true, true, false, false, false, false, false, false, false, false, false, false, false, false]) (by kernel_rfl) (by kernel_rfl) ?_
              refine wpAnyH_letters [58, 60, 62, 63, 67, 56, 68, 69, 70, 71, 14, 16, 15, 17] [1, 3, 5, 6, 10, 11, 12, 13, 14, 15, 16, 17, 18, 19, 20, 21] (fun vs bs w => ∃ (v58 v60 v62 v63 v67 v56 v68 v69 v70 v71 v14 v16 v15 v17 : Value) (b1 b3 b5 b6 b10 b11 b12 b13 b14 b15 b16 b17 b18 b19 b20 b21 : Bool), vs = [v58, v60, v62, v63, v67, v56, v68, v69, v70, v71, v14, v16, v15, v17] ∧ bs = [b1, b3, b5, b6, b10, b11, b12, b13, b14, b15, b16, b17, b18, b19, b20, b21] ∧ FF wc w n l f E v58 v60 v62 v63 v67 v56 v68 v69 v70 v71 v14 v16 v15 v17 b1 b3 b5 b6 b10 b11 b12 b13 b14 b15 b16 b17 b18 b19 b20 b21) ?_ (by decide) [u58, u60, u62, u63, u67, u56, u68, u69, u70, u71, undef, undef, undef, undef] [false, false, false, false, false, false, false, false, false, false, false, false, false, false, false, false] rfl (by simp only [putsA, Act.put, List.setIfInBounds_toArray, List.set_cons_zero, List.set_cons_succ]) ⟨u58, u60, u62, u63, u67, u56, u68, u69, u70, u71, undef, undef, undef, undef, false, false, false, false, false, false, false, false, false, false, false, false, false, false, false, false, rfl, rfl, ⟨hHeld, (fun e => by cases e), (fun e => by cases e), (fun e => by cases e), (fun e => by cases e), (fun e => by cases e), (fun e => by cases e), (fun e => by cases e), (fun e => by cases e), (fun e => by cases e), (fun e => by cases e), (fun e => by cases e), (fun e => by cases e), (fun e => by cases e), (fun e => by cases e), (fun e => by cases e), (fun e => by cases e), (fun e => by cases e), (fun e => by cases e), (fun e => by cases e), (fun e => by cases e)⟩⟩ ?_ ?_
              · rintro _ _ w ⟨_, _, _, _, _, _, _, _, _, _, _, _, _, _, _, _, _, _, _, _, _, _, _, _, _, _, _, _, _, _, rfl, rfl, h⟩
                exact h.bel
              · clear hHeld
                refine StepsFrom.cons (k := 0) ?_ ?_
                · rintro _ _ wq ⟨_, _, rfl, rfl, v58, v60, v62, v63, v67, v56, v68, v69, v70, v71, v14, v16, v15, v17, b1, b3, b5, b6, b10, b11, b12, b13, b14, b15, b16, b17, b18, b19, b20, b21, rfl, rfl, HFF⟩ hun
                  simp [setsB] at hun
                refine StepsFrom.cons (k := 1) ?_ ?_
                · rintro _ _ wq ⟨_, _, rfl, rfl, v58, v60, v62, v63, v67, v56, v68, v69, v70, v71, v14, v16, v15, v17, b1, b3, b5, b6, b10, b11, b12, b13, b14, b15, b16, b17, b18, b19, b20, b21, rfl, rfl, HFF⟩ hun hpre K hK
                  simp only [setsB, List.setIfInBounds_toArray, List.set_cons_zero, List.set_cons_succ] at hpre hun
                  have hb : b1 = false := hun
                  subst hb
                  clear hun hpre 
                  simp only [putsA, Act.put, List.setIfInBounds_toArray, List.set_cons_zero, List.set_cons_succ]
                  go_simp
                  refine hK.out _ _ ⟨_, _, ?_, ?_, (.slice (some ⟨wq.heap.size, 0, none⟩) 0 0), v60, v62, v63, v67, v56, v68, v69, v70, v71, v14, v16, v15, v17, true, b3, b5, b6, b10, b11, b12, b13, b14, b15, b16, b17, b18, b19, b20, b21, rfl, rfl, HFF.op1⟩
                  · simp only [setsB, List.setIfInBounds_toArray, List.set_cons_zero, List.set_cons_succ]
                  · simp only [putsA, Act.put, List.setIfInBounds_toArray, List.set_cons_zero, List.set_cons_succ]
                refine StepsFrom.cons (k := 2) ?_ ?_
                · rintro _ _ wq ⟨_, _, rfl, rfl, v58, v60, v62, v63, v67, v56, v68, v69, v70, v71, v14, v16, v15, v17, b1, b3, b5, b6, b10, b11, b12, b13, b14, b15, b16, b17, b18, b19, b20, b21, rfl, rfl, HFF⟩ hun
                  simp [setsB] at hun
                refine StepsFrom.cons (k := 3) ?_ ?_
                · rintro _ _ wq ⟨_, _, rfl, rfl, v58, v60, v62, v63, v67, v56, v68, v69, v70, v71, v14, v16, v15, v17, b1, b3, b5, b6, b10, b11, b12, b13, b14, b15, b16, b17, b18, b19, b20, b21, rfl, rfl, HFF⟩ hun hpre K hK
                  simp only [setsB, List.setIfInBounds_toArray, List.set_cons_zero, List.set_cons_succ] at hpre hun
                  have p1 := hpre ⟨1, .data⟩ (by simp) rfl
                  have p1b : b1 = true := p1
                  subst p1b
                  have hb : b3 = false := hun
                  subst hb
                  clear hun hpre p1
                  obtain ⟨A8, c8, A9, c9, w9, e8, hr9, hF9⟩ := HFF.op3 (HEV.out.below HFF.bel) (by omega)
                  subst e8
                  simp only [putsA, Act.put, List.setIfInBounds_toArray, List.set_cons_zero, List.set_cons_succ]
                  rw [if_pos (by rfl)]
                  refine wp_append_run8 hr9 rfl rfl rfl ?_
                  refine hK.out _ _ ⟨_, _, ?_, ?_, (.slice A8 0 c8), (.slice A9 n c9), v62, v63, v67, v56, v68, v69, v70, v71, v14, v16, v15, v17, true, true, b5, b6, b10, b11, b12, b13, b14, b15, b16, b17, b18, b19, b20, b21, rfl, rfl, hF9⟩
                  · simp only [setsB, List.setIfInBounds_toArray, List.set_cons_zero, List.set_cons_succ]
                  · simp only [putsA, Act.put, List.setIfInBounds_toArray, List.set_cons_zero, List.set_cons_succ]
                refine StepsFrom.cons (k := 4) ?_ ?_
                · rintro _ _ wq ⟨_, _, rfl, rfl, v58, v60, v62, v63, v67, v56, v68, v69, v70, v71, v14, v16, v15, v17, b1, b3, b5, b6, b10, b11, b12, b13, b14, b15, b16, b17, b18, b19, b20, b21, rfl, rfl, HFF⟩ hun
                  simp [setsB] at hun
                refine StepsFrom.cons (k := 5) ?_ ?_
                · rintro _ _ wq ⟨_, _, rfl, rfl, v58, v60, v62, v63, v67, v56, v68, v69, v70, v71, v14, v16, v15, v17, b1, b3, b5, b6, b10, b11, b12, b13, b14, b15, b16, b17, b18, b19, b20, b21, rfl, rfl, HFF⟩ hun hpre K hK
                  simp only [setsB, List.setIfInBounds_toArray, List.set_cons_zero, List.set_cons_succ] at hpre hun
                  have hb : b5 = false := hun
                  subst hb
                  clear hun hpre 
                  simp only [putsA, Act.put, List.setIfInBounds_toArray, List.set_cons_zero, List.set_cons_succ]
                  rw [if_pos (by rfl)]
                  refine wp_build_e f rfl rfl ?_
                  refine hK.out _ _ ⟨_, _, ?_, ?_, v58, v60, (.slice (some ⟨wq.heap.size, 0, none⟩) 1 1), v63, v67, v56, v68, v69, v70, v71, v14, v16, v15, v17, b1, b3, true, b6, b10, b11, b12, b13, b14, b15, b16, b17, b18, b19, b20, b21, rfl, rfl, HFF.op5⟩
                  · simp only [setsB, List.setIfInBounds_toArray, List.set_cons_zero, List.set_cons_succ]
                  · simp only [putsA, Act.put, List.setIfInBounds_toArray, List.set_cons_zero, List.set_cons_succ]
                refine StepsFrom.cons (k := 6) ?_ ?_
                · rintro _ _ wq ⟨_, _, rfl, rfl, v58, v60, v62, v63, v67, v56, v68, v69, v70, v71, v14, v16, v15, v17, b1, b3, b5, b6, b10, b11, b12, b13, b14, b15, b16, b17, b18, b19, b20, b21, rfl, rfl, HFF⟩ hun hpre K hK
                  simp only [setsB, List.setIfInBounds_toArray, List.set_cons_zero, List.set_cons_succ] at hpre hun
                  have p3 := hpre ⟨3, .data⟩ (by simp) rfl
                  have p3b : b3 = true := p3
                  subst p3b
                  have p5 := hpre ⟨5, .data⟩ (by simp) rfl
                  have p5b : b5 = true := p5
                  subst p5b
                  have hb : b6 = false := hun
                  subst hb
                  clear hun hpre p3 p5
                  have d1 := HFF.d3 rfl
                  subst d1
                  obtain ⟨A8, c8, g8, A9, c9, w9, e8, e5, hr9, hF9⟩ := HFF.op6 hlen (by omega)
                  subst e8 e5
                  simp only [putsA, Act.put, List.setIfInBounds_toArray, List.set_cons_zero, List.set_cons_succ]
                  rw [if_pos (by rfl)]
                  refine wp_append_run8 hr9 rfl rfl rfl ?_
                  refine hK.out _ _ ⟨_, _, ?_, ?_, v58, (.slice A8 n c8), (.slice (some ⟨g8, 0, none⟩) 1 1), (.slice A9 (n + 1) c9), v67, v56, v68, v69, v70, v71, v14, v16, v15, v17, true, true, true, true, b10, b11, b12, b13, b14, b15, b16, b17, b18, b19, b20, b21, rfl, rfl, hF9⟩
                  · simp only [setsB, List.setIfInBounds_toArray, List.set_cons_zero, List.set_cons_succ]
                  · simp only [putsA, Act.put, List.setIfInBounds_toArray, List.set_cons_zero, List.set_cons_succ]
                refine StepsFrom.cons (k := 7) ?_ ?_
                · rintro _ _ wq ⟨_, _, rfl, rfl, v58, v60, v62, v63, v67, v56, v68, v69, v70, v71, v14, v16, v15, v17, b1, b3, b5, b6, b10, b11, b12, b13, b14, b15, b16, b17, b18, b19, b20, b21, rfl, rfl, HFF⟩ hun
                  simp [setsB] at hun
                refine StepsFrom.cons (k := 8) ?_ ?_
                · rintro _ _ wq ⟨_, _, rfl, rfl, v58, v60, v62, v63, v67, v56, v68, v69, v70, v71, v14, v16, v15, v17, b1, b3, b5, b6, b10, b11, b12, b13, b14, b15, b16, b17, b18, b19, b20, b21, rfl, rfl, HFF⟩ hun
                  simp [setsB] at hun
                refine StepsFrom.cons (k := 9) ?_ ?_
                · rintro _ _ wq ⟨_, _, rfl, rfl, v58, v60, v62, v63, v67, v56, v68, v69, v70, v71, v14, v16, v15, v17, b1, b3, b5, b6, b10, b11, b12, b13, b14, b15, b16, b17, b18, b19, b20, b21, rfl, rfl, HFF⟩ hun
                  simp [setsB] at hun
                refine StepsFrom.cons (k := 10) ?_ ?_
                · rintro _ _ wq ⟨_, _, rfl, rfl, v58, v60, v62, v63, v67, v56, v68, v69, v70, v71, v14, v16, v15, v17, b1, b3, b5, b6, b10, b11, b12, b13, b14, b15, b16, b17, b18, b19, b20, b21, rfl, rfl, HFF⟩ hun hpre K hK
                  simp only [setsB, List.setIfInBounds_toArray, List.set_cons_zero, List.set_cons_succ] at hpre hun
                  have p6 := hpre ⟨6, .data⟩ (by simp) rfl
                  have p6b : b6 = true := p6
                  subst p6b
                  have hb : b10 = false := hun
                  subst hb
                  clear hun hpre p6
                  obtain ⟨A8, c8, e8, hE8⟩ := HFF.full rfl rfl
                  subst e8
                  simp only [putsA, Act.put, List.setIfInBounds_toArray, List.set_cons_zero, List.set_cons_succ]
                  go_simp
                  go_at_call 11
                  refine (CE.out _ A8 c8 (HN.out.c.below HFF.bel) hE8).mono ?_
                  rintro e_r w9 ⟨rfl, hb9⟩
                  go_wp2_with fail
                  refine hK.out _ _ ⟨_, _, ?_, ?_, v58, v60, v62, (.slice A8 (n + 1) c8), (.tuple #[.agg #[.int .i64 E.en, .int .i64 E.ed], .int .i64 E.el, .agg #[.int .i64 E.pn, .int .i64 E.pd], .int .i64 E.er]), v56, v68, v69, v70, v71, v14, v16, v15, v17, b1, b3, b5, true, true, b11, b12, b13, b14, b15, b16, b17, b18, b19, b20, b21, rfl, rfl, HFF.op10 hb9⟩
                  · simp only [setsB, List.setIfInBounds_toArray, List.set_cons_zero, List.set_cons_succ]
                  · simp only [putsA, Act.put, List.setIfInBounds_toArray, List.set_cons_zero, List.set_cons_succ]
                refine StepsFrom.cons (k := 11) ?_ ?_
                · rintro _ _ wq ⟨_, _, rfl, rfl, v58, v60, v62, v63, v67, v56, v68, v69, v70, v71, v14, v16, v15, v17, b1, b3, b5, b6, b10, b11, b12, b13, b14, b15, b16, b17, b18, b19, b20, b21, rfl, rfl, HFF⟩ hun hpre K hK
                  simp only [setsB, List.setIfInBounds_toArray, List.set_cons_zero, List.set_cons_succ] at hpre hun
                  have p10 := hpre ⟨10, .data⟩ (by simp) rfl
                  have p10b : b10 = true := p10
                  subst p10b
                  have hb : b11 = false := hun
                  subst hb
                  clear hun hpre p10
                  have e8 := HFF.t10 rfl
                  subst e8
                  simp only [putsA, Act.put, List.setIfInBounds_toArray, List.set_cons_zero, List.set_cons_succ]
                  go_simp
                  refine hK.out _ _ ⟨_, _, ?_, ?_, v58, v60, v62, v63, (tupD E), (tupD E), v68, v69, v70, v71, v14, v16, v15, v17, b1, b3, b5, b6, true, true, b12, b13, b14, b15, b16, b17, b18, b19, b20, b21, rfl, rfl, HFF.op11⟩
                  · simp only [setsB, List.setIfInBounds_toArray, List.set_cons_zero, List.set_cons_succ]
                  · simp only [putsA, Act.put, List.setIfInBounds_toArray, List.set_cons_zero, List.set_cons_succ]
                refine StepsFrom.cons (k := 12) ?_ ?_
                · rintro _ _ wq ⟨_, _, rfl, rfl, v58, v60, v62, v63, v67, v56, v68, v69, v70, v71, v14, v16, v15, v17, b1, b3, b5, b6, b10, b11, b12, b13, b14, b15, b16, b17, b18, b19, b20, b21, rfl, rfl, HFF⟩ hun hpre K hK
                  simp only [setsB, List.setIfInBounds_toArray, List.set_cons_zero, List.set_cons_succ] at hpre hun
                  have p11 := hpre ⟨11, .data⟩ (by simp) rfl
                  have p11b : b11 = true := p11
                  subst p11b
                  have hb : b12 = false := hun
                  subst hb
                  clear hun hpre p11
                  have e8 := HFF.t11 rfl
                  unfold tupD at e8
                  have HFF2 := HFF.op12
                  subst e8
                  simp only [putsA, Act.put, List.setIfInBounds_toArray, List.set_cons_zero, List.set_cons_succ]
                  go_simp
                  refine hK.out _ _ ⟨_, _, ?_, ?_, v58, v60, v62, v63, v67, (.tuple #[.agg #[.int .i64 E.en, .int .i64 E.ed], .int .i64 E.el, .agg #[.int .i64 E.pn, .int .i64 E.pd], .int .i64 E.er]), (.agg #[.int .i64 E.en, .int .i64 E.ed]), v69, v70, v71, v14, v16, v15, v17, b1, b3, b5, b6, b10, true, true, b13, b14, b15, b16, b17, b18, b19, b20, b21, rfl, rfl, HFF2⟩
                  · simp only [setsB, List.setIfInBounds_toArray, List.set_cons_zero, List.set_cons_succ]
                  · simp only [putsA, Act.put, List.setIfInBounds_toArray, List.set_cons_zero, List.set_cons_succ]
                refine StepsFrom.cons (k := 13) ?_ ?_
                · rintro _ _ wq ⟨_, _, rfl, rfl, v58, v60, v62, v63, v67, v56, v68, v69, v70, v71, v14, v16, v15, v17, b1, b3, b5, b6, b10, b11, b12, b13, b14, b15, b16, b17, b18, b19, b20, b21, rfl, rfl, HFF⟩ hun hpre K hK
                  simp only [setsB, List.setIfInBounds_toArray, List.set_cons_zero, List.set_cons_succ] at hpre hun
                  have p11 := hpre ⟨11, .data⟩ (by simp) rfl
                  have p11b : b11 = true := p11
                  subst p11b
                  have hb : b13 = false := hun
                  subst hb
                  clear hun hpre p11
                  have e8 := HFF.t11 rfl
                  unfold tupD at e8
                  have HFF2 := HFF.op13
                  subst e8
                  simp only [putsA, Act.put, List.setIfInBounds_toArray, List.set_cons_zero, List.set_cons_succ]
                  go_simp
                  refine hK.out _ _ ⟨_, _, ?_, ?_, v58, v60, v62, v63, v67, (.tuple #[.agg #[.int .i64 E.en, .int .i64 E.ed], .int .i64 E.el, .agg #[.int .i64 E.pn, .int .i64 E.pd], .int .i64 E.er]), v68, (.int .i64 E.el), v70, v71, v14, v16, v15, v17, b1, b3, b5, b6, b10, true, b12, true, b14, b15, b16, b17, b18, b19, b20, b21, rfl, rfl, HFF2⟩
                  · simp only [setsB, List.setIfInBounds_toArray, List.set_cons_zero, List.set_cons_succ]
                  · simp only [putsA, Act.put, List.setIfInBounds_toArray, List.set_cons_zero, List.set_cons_succ]
                refine StepsFrom.cons (k := 14) ?_ ?_
                · rintro _ _ wq ⟨_, _, rfl, rfl, v58, v60, v62, v63, v67, v56, v68, v69, v70, v71, v14, v16, v15, v17, b1, b3, b5, b6, b10, b11, b12, b13, b14, b15, b16, b17, b18, b19, b20, b21, rfl, rfl, HFF⟩ hun hpre K hK
                  simp only [setsB, List.setIfInBounds_toArray, List.set_cons_zero, List.set_cons_succ] at hpre hun
                  have p11 := hpre ⟨11, .data⟩ (by simp) rfl
                  have p11b : b11 = true := p11
                  subst p11b
                  have hb : b14 = false := hun
                  subst hb
                  clear hun hpre p11
                  have e8 := HFF.t11 rfl
                  unfold tupD at e8
                  have HFF2 := HFF.op14
                  subst e8
                  simp only [putsA, Act.put, List.setIfInBounds_toArray, List.set_cons_zero, List.set_cons_succ]
                  go_simp
                  refine hK.out _ _ ⟨_, _, ?_, ?_, v58, v60, v62, v63, v67, (.tuple #[.agg #[.int .i64 E.en, .int .i64 E.ed], .int .i64 E.el, .agg #[.int .i64 E.pn, .int .i64 E.pd], .int .i64 E.er]), v68, v69, (.agg #[.int .i64 E.pn, .int .i64 E.pd]), v71, v14, v16, v15, v17, b1, b3, b5, b6, b10, true, b12, b13, true, b15, b16, b17, b18, b19, b20, b21, rfl, rfl, HFF2⟩
                  · simp only [setsB, List.setIfInBounds_toArray, List.set_cons_zero, List.set_cons_succ]
                  · simp only [putsA, Act.put, List.setIfInBounds_toArray, List.set_cons_zero, List.set_cons_succ]
                refine StepsFrom.cons (k := 15) ?_ ?_
                · rintro _ _ wq ⟨_, _, rfl, rfl, v58, v60, v62, v63, v67, v56, v68, v69, v70, v71, v14, v16, v15, v17, b1, b3, b5, b6, b10, b11, b12, b13, b14, b15, b16, b17, b18, b19, b20, b21, rfl, rfl, HFF⟩ hun hpre K hK
                  simp only [setsB, List.setIfInBounds_toArray, List.set_cons_zero, List.set_cons_succ] at hpre hun
                  have p11 := hpre ⟨11, .data⟩ (by simp) rfl
                  have p11b : b11 = true := p11
                  subst p11b
                  have hb : b15 = false := hun
                  subst hb
                  clear hun hpre p11
                  have e8 := HFF.t11 rfl
                  unfold tupD at e8
                  have HFF2 := HFF.op15
                  subst e8
                  simp only [putsA, Act.put, List.setIfInBounds_toArray, List.set_cons_zero, List.set_cons_succ]
                  go_simp
                  refine hK.out _ _ ⟨_, _, ?_, ?_, v58, v60, v62, v63, v67, (.tuple #[.agg #[.int .i64 E.en, .int .i64 E.ed], .int .i64 E.el, .agg #[.int .i64 E.pn, .int .i64 E.pd], .int .i64 E.er]), v68, v69, v70, (.int .i64 E.er), v14, v16, v15, v17, b1, b3, b5, b6, b10, true, b12, b13, b14, true, b16, b17, b18, b19, b20, b21, rfl, rfl, HFF2⟩
                  · simp only [setsB, List.setIfInBounds_toArray, List.set_cons_zero, List.set_cons_succ]
                  · simp only [putsA, Act.put, List.setIfInBounds_toArray, List.set_cons_zero, List.set_cons_succ]
                refine StepsFrom.cons (k := 16) ?_ ?_
                · rintro _ _ wq ⟨_, _, rfl, rfl, v58, v60, v62, v63, v67, v56, v68, v69, v70, v71, v14, v16, v15, v17, b1, b3, b5, b6, b10, b11, b12, b13, b14, b15, b16, b17, b18, b19, b20, b21, rfl, rfl, HFF⟩ hun hpre K hK
                  simp only [setsB, List.setIfInBounds_toArray, List.set_cons_zero, List.set_cons_succ] at hpre hun
                  have hb : b16 = false := hun
                  subst hb
                  clear hun hpre 
                  simp only [putsA, Act.put, List.setIfInBounds_toArray, List.set_cons_zero, List.set_cons_succ]
                  go_simp
                  refine hK.out _ _ ⟨_, _, ?_, ?_, v58, v60, v62, v63, v67, v56, v68, v69, v70, v71, (.pointer (some ⟨wq.heap.size, 0, none⟩)), v16, v15, v17, b1, b3, b5, b6, b10, b11, b12, b13, b14, b15, true, b17, b18, b19, b20, b21, rfl, rfl, HFF.op16⟩
                  · simp only [setsB, List.setIfInBounds_toArray, List.set_cons_zero, List.set_cons_succ]
                  · simp only [putsA, Act.put, List.setIfInBounds_toArray, List.set_cons_zero, List.set_cons_succ]
                refine StepsFrom.cons (k := 17) ?_ ?_
                · rintro _ _ wq ⟨_, _, rfl, rfl, v58, v60, v62, v63, v67, v56, v68, v69, v70, v71, v14, v16, v15, v17, b1, b3, b5, b6, b10, b11, b12, b13, b14, b15, b16, b17, b18, b19, b20, b21, rfl, rfl, HFF⟩ hun hpre K hK
                  simp only [setsB, List.setIfInBounds_toArray, List.set_cons_zero, List.set_cons_succ] at hpre hun
                  have hb : b17 = false := hun
                  subst hb
                  clear hun hpre 
                  simp only [putsA, Act.put, List.setIfInBounds_toArray, List.set_cons_zero, List.set_cons_succ]
                  go_simp
                  refine hK.out _ _ ⟨_, _, ?_, ?_, v58, v60, v62, v63, v67, v56, v68, v69, v70, v71, v14, (.pointer (some ⟨wq.heap.size, 0, none⟩)), v15, v17, b1, b3, b5, b6, b10, b11, b12, b13, b14, b15, b16, true, b18, b19, b20, b21, rfl, rfl, HFF.op17⟩
                  · simp only [setsB, List.setIfInBounds_toArray, List.set_cons_zero, List.set_cons_succ]
                  · simp only [putsA, Act.put, List.setIfInBounds_toArray, List.set_cons_zero, List.set_cons_succ]
                refine StepsFrom.cons (k := 18) ?_ ?_
                · rintro _ _ wq ⟨_, _, rfl, rfl, v58, v60, v62, v63, v67, v56, v68, v69, v70, v71, v14, v16, v15, v17, b1, b3, b5, b6, b10, b11, b12, b13, b14, b15, b16, b17, b18, b19, b20, b21, rfl, rfl, HFF⟩ hun hpre K hK
                  simp only [setsB, List.setIfInBounds_toArray, List.set_cons_zero, List.set_cons_succ] at hpre hun
                  have p16 := hpre ⟨16, .data⟩ (by simp) rfl
                  have p16b : b16 = true := p16
                  subst p16b
                  have p12 := hpre ⟨12, .data⟩ (by simp) rfl
                  have p12b : b12 = true := p12
                  subst p12b
                  have p10 := hpre ⟨10, .chain⟩ (by simp) rfl
                  have p10b : b10 = true := p10
                  subst p10b
                  have p1 := hpre ⟨1, .phase⟩ (by simp) rfl
                  have p1b : b1 = true := p1
                  subst p1b
                  have p3 := hpre ⟨3, .phase⟩ (by simp) rfl
                  have p3b : b3 = true := p3
                  subst p3b
                  have p5 := hpre ⟨5, .phase⟩ (by simp) rfl
                  have p5b : b5 = true := p5
                  subst p5b
                  have p6 := hpre ⟨6, .phase⟩ (by simp) rfl
                  have p6b : b6 = true := p6
                  subst p6b
                  have p11 := hpre ⟨11, .phase⟩ (by simp) rfl
                  have p11b : b11 = true := p11
                  subst p11b
                  have p17 := hpre ⟨17, .phase⟩ (by simp) rfl
                  have p17b : b17 = true := p17
                  subst p17b
                  have hb : b18 = false := hun
                  subst hb
                  clear hun hpre p16 p12 p10 p1 p3 p5 p6 p11 p17
                  have e8 := HFF.t12 rfl
                  subst e8
                  have X8 := HFF.op18
                  have X9 := Classical.choose_spec X8
                  generalize Classical.choose X8 = g8 at X9
                  have e8 := X9.1
                  have h8 := X9.2.1
                  have hF8 := X9.2.2
                  clear X9 X8
                  subst e8
                  have s0 := h8.cell 0 rfl
                  have s1 := h8.cell 1 rfl
                  have s2 := h8.frozen 0
                  have s3 := h8.frozen 1
                  have sl := cell_lt s0
                  simp only [putsA, Act.put, List.setIfInBounds_toArray, List.set_cons_zero, List.set_cons_succ]
                  go_simp
                  refine hK.out _ _ ⟨_, _, ?_, ?_, v58, v60, v62, v63, v67, v56, (.agg #[.int .i64 E.en, .int .i64 E.ed]), v69, v70, v71, (.pointer (some ⟨g8, 0, none⟩)), v16, v15, v17, true, true, true, true, true, true, true, b13, b14, b15, true, true, true, b19, b20, b21, rfl, rfl, hF8⟩
                  · simp only [setsB, List.setIfInBounds_toArray, List.set_cons_zero, List.set_cons_succ]
                  · simp only [putsA, Act.put, List.setIfInBounds_toArray, List.set_cons_zero, List.set_cons_succ]
                refine StepsFrom.cons (k := 19) ?_ ?_
                · rintro _ _ wq ⟨_, _, rfl, rfl, v58, v60, v62, v63, v67, v56, v68, v69, v70, v71, v14, v16, v15, v17, b1, b3, b5, b6, b10, b11, b12, b13, b14, b15, b16, b17, b18, b19, b20, b21, rfl, rfl, HFF⟩ hun hpre K hK
                  simp only [setsB, List.setIfInBounds_toArray, List.set_cons_zero, List.set_cons_succ] at hpre hun
                  have p13 := hpre ⟨13, .data⟩ (by simp) rfl
                  have p13b : b13 = true := p13
                  subst p13b
                  have p18 := hpre ⟨18, .chain⟩ (by simp) rfl
                  have p18b : b18 = true := p18
                  subst p18b
                  have p1 := hpre ⟨1, .phase⟩ (by simp) rfl
                  have p1b : b1 = true := p1
                  subst p1b
                  have p3 := hpre ⟨3, .phase⟩ (by simp) rfl
                  have p3b : b3 = true := p3
                  subst p3b
                  have p5 := hpre ⟨5, .phase⟩ (by simp) rfl
                  have p5b : b5 = true := p5
                  subst p5b
                  have p6 := hpre ⟨6, .phase⟩ (by simp) rfl
                  have p6b : b6 = true := p6
                  subst p6b
                  have p10 := hpre ⟨10, .phase⟩ (by simp) rfl
                  have p10b : b10 = true := p10
                  subst p10b
                  have p11 := hpre ⟨11, .phase⟩ (by simp) rfl
                  have p11b : b11 = true := p11
                  subst p11b
                  have p12 := hpre ⟨12, .phase⟩ (by simp) rfl
                  have p12b : b12 = true := p12
                  subst p12b
                  have p16 := hpre ⟨16, .phase⟩ (by simp) rfl
                  have p16b : b16 = true := p16
                  subst p16b
                  have p17 := hpre ⟨17, .phase⟩ (by simp) rfl
                  have p17b : b17 = true := p17
                  subst p17b
                  have hb : b19 = false := hun
                  subst hb
                  clear hun hpre p13 p18 p1 p3 p5 p6 p10 p11 p12 p16 p17
                  have e8 := HFF.t13 rfl
                  subst e8
                  simp only [putsA, Act.put, List.setIfInBounds_toArray, List.set_cons_zero, List.set_cons_succ]
                  go_simp
                  refine hK.out _ _ ⟨_, _, ?_, ?_, v58, v60, v62, v63, v67, v56, v68, (.int .i64 E.el), v70, v71, v14, v16, (.int .i64 E.el), v17, true, true, true, true, true, true, true, true, b14, b15, true, true, true, true, b20, b21, rfl, rfl, HFF.op19⟩
                  · simp only [setsB, List.setIfInBounds_toArray, List.set_cons_zero, List.set_cons_succ]
                  · simp only [putsA, Act.put, List.setIfInBounds_toArray, List.set_cons_zero, List.set_cons_succ]
                refine StepsFrom.cons (k := 20) ?_ ?_
                · rintro _ _ wq ⟨_, _, rfl, rfl, v58, v60, v62, v63, v67, v56, v68, v69, v70, v71, v14, v16, v15, v17, b1, b3, b5, b6, b10, b11, b12, b13, b14, b15, b16, b17, b18, b19, b20, b21, rfl, rfl, HFF⟩ hun hpre K hK
                  simp only [setsB, List.setIfInBounds_toArray, List.set_cons_zero, List.set_cons_succ] at hpre hun
                  have p17 := hpre ⟨17, .data⟩ (by simp) rfl
                  have p17b : b17 = true := p17
                  subst p17b
                  have p14 := hpre ⟨14, .data⟩ (by simp) rfl
                  have p14b : b14 = true := p14
                  subst p14b
                  have p19 := hpre ⟨19, .chain⟩ (by simp) rfl
                  have p19b : b19 = true := p19
                  subst p19b
                  have p1 := hpre ⟨1, .phase⟩ (by simp) rfl
                  have p1b : b1 = true := p1
                  subst p1b
                  have p3 := hpre ⟨3, .phase⟩ (by simp) rfl
                  have p3b : b3 = true := p3
                  subst p3b
                  have p5 := hpre ⟨5, .phase⟩ (by simp) rfl
                  have p5b : b5 = true := p5
                  subst p5b
                  have p6 := hpre ⟨6, .phase⟩ (by simp) rfl
                  have p6b : b6 = true := p6
                  subst p6b
                  have p10 := hpre ⟨10, .phase⟩ (by simp) rfl
                  have p10b : b10 = true := p10
                  subst p10b
                  have p11 := hpre ⟨11, .phase⟩ (by simp) rfl
                  have p11b : b11 = true := p11
                  subst p11b
                  have p12 := hpre ⟨12, .phase⟩ (by simp) rfl
                  have p12b : b12 = true := p12
                  subst p12b
                  have p13 := hpre ⟨13, .phase⟩ (by simp) rfl
                  have p13b : b13 = true := p13
                  subst p13b
                  have p16 := hpre ⟨16, .phase⟩ (by simp) rfl
                  have p16b : b16 = true := p16
                  subst p16b
                  have p18 := hpre ⟨18, .phase⟩ (by simp) rfl
                  have p18b : b18 = true := p18
                  subst p18b
                  have hb : b20 = false := hun
                  subst hb
                  clear hun hpre p17 p14 p19 p1 p3 p5 p6 p10 p11 p12 p13 p16 p18
                  have e8 := HFF.t14 rfl
                  subst e8
                  have X8 := HFF.op20
                  have X9 := Classical.choose_spec X8
                  generalize Classical.choose X8 = g8 at X9
                  have e8 := X9.1
                  have h8 := X9.2.1
                  have hF8 := X9.2.2
                  clear X9 X8
                  subst e8
                  have s0 := h8.cell 0 rfl
                  have s1 := h8.cell 1 rfl
                  have s2 := h8.frozen 0
                  have s3 := h8.frozen 1
                  have sl := cell_lt s0
                  simp only [putsA, Act.put, List.setIfInBounds_toArray, List.set_cons_zero, List.set_cons_succ]
                  go_simp
                  refine hK.out _ _ ⟨_, _, ?_, ?_, v58, v60, v62, v63, v67, v56, v68, v69, (.agg #[.int .i64 E.pn, .int .i64 E.pd]), v71, v14, (.pointer (some ⟨g8, 0, none⟩)), v15, v17, true, true, true, true, true, true, true, true, true, b15, true, true, true, true, true, b21, rfl, rfl, hF8⟩
                  · simp only [setsB, List.setIfInBounds_toArray, List.set_cons_zero, List.set_cons_succ]
                  · simp only [putsA, Act.put, List.setIfInBounds_toArray, List.set_cons_zero, List.set_cons_succ]
                refine StepsFrom.cons (k := 21) ?_ ?_
                · rintro _ _ wq ⟨_, _, rfl, rfl, v58, v60, v62, v63, v67, v56, v68, v69, v70, v71, v14, v16, v15, v17, b1, b3, b5, b6, b10, b11, b12, b13, b14, b15, b16, b17, b18, b19, b20, b21, rfl, rfl, HFF⟩ hun hpre K hK
                  simp only [setsB, List.setIfInBounds_toArray, List.set_cons_zero, List.set_cons_succ] at hpre hun
                  have p15 := hpre ⟨15, .data⟩ (by simp) rfl
                  have p15b : b15 = true := p15
                  subst p15b
                  have p20 := hpre ⟨20, .chain⟩ (by simp) rfl
                  have p20b : b20 = true := p20
                  subst p20b
                  have p1 := hpre ⟨1, .phase⟩ (by simp) rfl
                  have p1b : b1 = true := p1
                  subst p1b
                  have p3 := hpre ⟨3, .phase⟩ (by simp) rfl
                  have p3b : b3 = true := p3
                  subst p3b
                  have p5 := hpre ⟨5, .phase⟩ (by simp) rfl
                  have p5b : b5 = true := p5
                  subst p5b
                  have p6 := hpre ⟨6, .phase⟩ (by simp) rfl
                  have p6b : b6 = true := p6
                  subst p6b
                  have p10 := hpre ⟨10, .phase⟩ (by simp) rfl
                  have p10b : b10 = true := p10
                  subst p10b
                  have p11 := hpre ⟨11, .phase⟩ (by simp) rfl
                  have p11b : b11 = true := p11
                  subst p11b
                  have p12 := hpre ⟨12, .phase⟩ (by simp) rfl
                  have p12b : b12 = true := p12
                  subst p12b
                  have p13 := hpre ⟨13, .phase⟩ (by simp) rfl
                  have p13b : b13 = true := p13
                  subst p13b
                  have p14 := hpre ⟨14, .phase⟩ (by simp) rfl
                  have p14b : b14 = true := p14
                  subst p14b
                  have p16 := hpre ⟨16, .phase⟩ (by simp) rfl
                  have p16b : b16 = true := p16
                  subst p16b
                  have p17 := hpre ⟨17, .phase⟩ (by simp) rfl
                  have p17b : b17 = true := p17
                  subst p17b
                  have p18 := hpre ⟨18, .phase⟩ (by simp) rfl
                  have p18b : b18 = true := p18
                  subst p18b
                  have p19 := hpre ⟨19, .phase⟩ (by simp) rfl
                  have p19b : b19 = true := p19
                  subst p19b
                  have hb : b21 = false := hun
                  subst hb
                  clear hun hpre p15 p20 p1 p3 p5 p6 p10 p11 p12 p13 p14 p16 p17 p18 p19
                  have e8 := HFF.t15 rfl
                  subst e8
                  simp only [putsA, Act.put, List.setIfInBounds_toArray, List.set_cons_zero, List.set_cons_succ]
                  go_simp
                  refine hK.out _ _ ⟨_, _, ?_, ?_, v58, v60, v62, v63, v67, v56, v68, v69, v70, (.int .i64 E.er), v14, v16, v15, (.int .i64 E.er), true, true, true, true, true, true, true, true, true, true, true, true, true, true, true, true, rfl, rfl, HFF.op21⟩
                  · simp only [setsB, List.setIfInBounds_toArray, List.set_cons_zero, List.set_cons_succ]
                  · simp only [putsA, Act.put, List.setIfInBounds_toArray, List.set_cons_zero, List.set_cons_succ]
                exact StepsFrom.nil
              clear hHeld
              rintro _ _ wq ⟨_, _, rfl, rfl, v58, v60, v62, v63, v67, v56, v68, v69, v70, v71, v14, v16, v15, v17, b1, b3, b5, b6, b10, b11, b12, b13, b14, b15, b16, b17, b18, b19, b20, b21, rfl, rfl, HFF⟩ hr
              simp only [setsB, List.setIfInBounds_toArray, List.set_cons_zero, List.set_cons_succ] at hr
              have u1 : b1 = true := all_up hr 1 rfl (by simp [Region.binds])
              subst u1
              have u3 : b3 = true := all_up hr 3 rfl (by simp [Region.binds])
              subst u3
              have u5 : b5 = true := all_up hr 5 rfl (by simp [Region.binds])
              subst u5
              have u6 : b6 = true := all_up hr 6 rfl (by simp [Region.binds])
              subst u6
              have u10 : b10 = true := all_up hr 10 rfl (by simp [Region.binds])
              subst u10
              have u11 : b11 = true := all_up hr 11 rfl (by simp [Region.binds])
              subst u11
              have u12 : b12 = true := all_up hr 12 rfl (by simp [Region.binds])
              subst u12
              have u13 : b13 = true := all_up hr 13 rfl (by simp [Region.binds])
              subst u13
              have u14 : b14 = true := all_up hr 14 rfl (by simp [Region.binds])
              subst u14
              have u15 : b15 = true := all_up hr 15 rfl (by simp [Region.binds])
              subst u15
              have u16 : b16 = true := all_up hr 16 rfl (by simp [Region.binds])
              subst u16
              have u17 : b17 = true := all_up hr 17 rfl (by simp [Region.binds])
              subst u17
              have u18 : b18 = true := all_up hr 18 rfl (by simp [Region.binds])
              subst u18
              have u19 : b19 = true := all_up hr 19 rfl (by simp [Region.binds])
              subst u19
              have u20 : b20 = true := all_up hr 20 rfl (by simp [Region.binds])
              subst u20
              have u21 : b21 = true := all_up hr 21 rfl (by simp [Region.binds])
              subst u21
              obtain ⟨g14, e14, -, h14⟩ := HFF.p14 rfl
              obtain ⟨g16, e16, -, h16⟩ := HFF.p16 rfl
              have e15 := HFF.e15 rfl
              have e17 := HFF.e17 rfl
              simp only [if_true] at h14 h16
              have HB9 := HFF.bel
              clear HFF hr
              subst e14 e15 e16 e17
              simp only [putsA, Act.put, List.setIfInBounds_toArray, List.set_cons_zero, List.set_cons_succ]
              refine NoPanic.normal ?_
              go_wp2
              go_meet
              exact ⟨g14, g16, rfl, rfl, rfl, rfl, Lib.hid h14, Lib.hid h16, Lib.hid (HA.out.below HB9), Lib.hid (HP.out.below HB9), Lib.hid (HN.out.below HB9), Lib.hid (HF.out.below HB9)⟩
            case rest =>
              obtain ⟨ga, gb, rfl, rfl, rfl, rfl, HB1, HB2, HA2, HP2, HN2, HF2⟩ := hcut
              clear HN HF HA HP CE HEV
              obtain ⟨X, hX⟩ : ∃ X, minusR D.en D.ed s.fault 1 = X := ⟨_, rfl⟩
              have HG := Lib.hid (HGE.out X hX)
              have HXX := Lib.hid hX
              clear hX HGE
              have hF0 := (check_iff.1 HBB.out).fault
              obtain ⟨F, hF⟩ : ∃ F, s.fault = F := ⟨_, rfl⟩
              rw [hF] at HXX HFT hF0
              clear hF
              obtain ⟨an, ad, ne, pn, pd, er⟩ := D
              obtain ⟨bn, bd, me, qn, qd, fr⟩ := E
              simp only at HB1 HB2 HA2 HP2 HG HXX ⊢
              have hel : ne = me := HG.out.1
              subst hel
              have HE := Lib.hid HN2.out.b
              by_cases h1 : er = 0
              · have h1' : (er != 0) = false := by simp [h1]
                by_cases h2 : fr = 0
                · have h2' : (fr != 0) = false := by simp [h2]
                  have k2 := HF2.out.cell 2 (show (evC f)[2]? = some (.int .i64 f.tm) from rfl)
                  have kl := cell_lt k2
                  by_cases hw : weekP f.tm = week
                  · have hw' : (weekP f.tm != week) = false := by simp [hw]
                    obtain ⟨g1, g2, g3, g4, g5, g6'⟩ := HG.out.2.2 hw h1 h2
                    have HLS := Lib.hid (fun W => qless_any pn pd qn qd W g5.1 g5.2 g6'.1 g6'.2)
                    rw [g2] at HLS
                    have HMK := Lib.hid (fun W => make_one F W (mk_int (m := F) (by omega)) (by omega))
                    have HMN := Lib.hid (fun W => qminus_any an ad F 1 W g4.1 g4.2 (by omega) (by omega))
                    rw [HXX.out] at HMN
                    obtain ⟨xn, xd, xc⟩ := X
                    simp only at g1 HMN
                    clear HG HXX g2 g4 g5 g6' hw h1 h2
                    go_wp2_with fail
                    refine (week_any _ _).mono ?_
                    rintro e w' ⟨rfl, rfl⟩
                    clear k2 kl
                    have q21 := HN2.out.h.cell 21 HFT.out
                    have ql := cell_lt q21
                    go_wp2_with fail
                    refine (HMK.out _).mono ?_
                    rintro e w5 ⟨rfl, b5⟩
                    clear q21 ql
                    have hb6 := bel_alloc b5 (.cells #[.int .i64 F, .int .i64 1] 24)
                    have HA6 := Lib.hid (HA2.out.below hb6)
                    have HP6 := Lib.hid (HP2.out.below hb6)
                    have HB6 := Lib.hid (HB1.out.below hb6)
                    have HQ6 := Lib.hid (HB2.out.below hb6)
                    have HE6 := Lib.hid (bel_on HE.out hb6)
                    have HM6 : Has (w5.alloc (.cells #[.int .i64 F, .int .i64 1] 24)) w5.heap.size #[.int .i64 F, .int .i64 1] := Has.new _ _ _ rfl
                    have a0 := HA6.out.cell 0 rfl
                    have a1 := HA6.out.cell 1 rfl
                    have al := cell_lt a0
                    have m0 := HM6.cell 0 rfl
                    have m1 := HM6.cell 1 rfl
                    have ml := cell_lt m0
                    clear b5 hb6 HA2 HP2 HB1 HB2 HE HN2 HF2 HMK HM6
                    go_wp2_with fail
                    refine (HMN.out _).mono ?_
                    rintro e w7 ⟨rfl, b7⟩
                    clear a0 a1 al m0 m1 ml
                    have hb8 := bel_alloc b7 (.cells #[.int .i64 xn, .int .i64 xd] 24)
                    have HA8 := HA6.out.below hb8
                    have HP8 := HP6.out.below hb8
                    have HB8 := HB6.out.below hb8
                    have HQ8 := HQ6.out.below hb8
                    have HE8 := Lib.hid (bel_on HE6.out hb8)
                    have HX8 : Has (w7.alloc (.cells #[.int .i64 xn, .int .i64 xd] 24)) w7.heap.size #[.int .i64 xn, .int .i64 xd] := Has.new _ _ _ rfl
                    clear b7 hb8 HA6 HP6 HB6 HQ6 HE6 HMN
                    have h0 : decide (0 ≤ bn) = true := decide_eq_true g3
                    by_cases z1 : bn = 0
                    · by_cases z2 : bd = 1
                      · subst z1 z2
                        have hx : xc ≠ 0 ∨ xn ≤ 0 := by
                          rcases g1 with ⟨-, -, q⟩ | ⟨-, q, -⟩
                          · exact q
                          · right; omega
                        clear g1
                        by_cases z3 : xc = 0
                        · have z3' : (xc != 0) = false := by simp [z3]
                          have z4 : decide (xn ≤ 0) = true := decide_eq_true (by rcases hx with hx | hx; exact absurd z3 hx; exact hx)
                          clear z3 hx
                          have a0 := HA8.cell 0 rfl
                          have a1 := HA8.cell 1 rfl
                          have al := cell_lt a0
                          have c0 := HX8.cell 0 rfl
                          have c1 := HX8.cell 1 rfl
                          have cl := cell_lt c0
                          have b0 := HB8.cell 0 rfl
                          have b1 := HB8.cell 1 rfl
                          have bl := cell_lt b0
                          have p0 := HP8.cell 0 rfl
                          have p1 := HP8.cell 1 rfl
                          have pl := cell_lt p0
                          have r0 := HQ8.cell 0 rfl
                          have r1 := HQ8.cell 1 rfl
                          have rl := cell_lt r0
                          have HBK := Lib.hid HB8
                          clear HA8 HX8 HB8 HP8 HQ8
                          go_wp2_with fail
                          refine (HLS.out _).mono ?_
                          rintro e w9 ⟨rfl, b9⟩
                          clear a0 a1 al c0 c1 cl b0 b1 bl p0 p1 pl r0 r1 rl
                          have HE9 := Lib.hid (bel_on HE8.out b9)
                          have b0 := (HBK.out.below b9).cell 0 rfl
                          have bl := cell_lt b0
                          clear b9 HBK HE8
                          go_wp2
                          go_ret
                          exact ⟨rfl, HE9.out⟩
                        · have z3' : (xc != 0) = true := by simpa using z3
                          clear z3 hx
                          have a0 := HA8.cell 0 rfl
                          have a1 := HA8.cell 1 rfl
                          have al := cell_lt a0
                          have c0 := HX8.cell 0 rfl
                          have c1 := HX8.cell 1 rfl
                          have cl := cell_lt c0
                          have b0 := HB8.cell 0 rfl
                          have b1 := HB8.cell 1 rfl
                          have bl := cell_lt b0
                          have p0 := HP8.cell 0 rfl
                          have p1 := HP8.cell 1 rfl
                          have pl := cell_lt p0
                          have r0 := HQ8.cell 0 rfl
                          have r1 := HQ8.cell 1 rfl
                          have rl := cell_lt r0
                          have HBK := Lib.hid HB8
                          clear HA8 HX8 HB8 HP8 HQ8
                          go_wp2_with fail
                          refine (HLS.out _).mono ?_
                          rintro e w9 ⟨rfl, b9⟩
                          clear a0 a1 al c0 c1 cl b0 b1 bl p0 p1 pl r0 r1 rl
                          have HE9 := Lib.hid (bel_on HE8.out b9)
                          have b0 := (HBK.out.below b9).cell 0 rfl
                          have bl := cell_lt b0
                          clear b9 HBK HE8
                          go_wp2
                          go_ret
                          exact ⟨rfl, HE9.out⟩
                      · subst z1
                        have z2' : (bd == 1) = false := beq_eq_false_iff_ne.2 z2
                        rcases g1 with ⟨-, q, -⟩ | ⟨q1, q2, q3⟩
                        · exact absurd q z2
                        · subst q1 q2 q3
                          clear z2
                          have a0 := HA8.cell 0 rfl
                          have a1 := HA8.cell 1 rfl
                          have al := cell_lt a0
                          have c0 := HX8.cell 0 rfl
                          have c1 := HX8.cell 1 rfl
                          have cl := cell_lt c0
                          have b0 := HB8.cell 0 rfl
                          have b1 := HB8.cell 1 rfl
                          have bl := cell_lt b0
                          have p0 := HP8.cell 0 rfl
                          have p1 := HP8.cell 1 rfl
                          have pl := cell_lt p0
                          have r0 := HQ8.cell 0 rfl
                          have r1 := HQ8.cell 1 rfl
                          have rl := cell_lt r0
                          have HBK := Lib.hid HB8
                          clear HA8 HX8 HB8 HP8 HQ8
                          go_wp2_with fail
                          refine (HLS.out _).mono ?_
                          rintro e w9 ⟨rfl, b9⟩
                          clear a0 a1 al c0 c1 cl b0 b1 bl p0 p1 pl r0 r1 rl
                          have HE9 := Lib.hid (bel_on HE8.out b9)
                          have b0 := (HBK.out.below b9).cell 0 rfl
                          have bl := cell_lt b0
                          clear b9 HBK HE8
                          go_wp2
                          go_ret
                          exact ⟨rfl, HE9.out⟩
                    · have z1' : (bn == 0) = false := beq_eq_false_iff_ne.2 z1
                      rcases g1 with ⟨q, -⟩ | ⟨q1, q2, q3⟩
                      · exact absurd q z1
                      · subst q1 q2 q3
                        clear z1
                        have a0 := HA8.cell 0 rfl
                        have a1 := HA8.cell 1 rfl
                        have al := cell_lt a0
                        have c0 := HX8.cell 0 rfl
                        have c1 := HX8.cell 1 rfl
                        have cl := cell_lt c0
                        have b0 := HB8.cell 0 rfl
                        have b1 := HB8.cell 1 rfl
                        have bl := cell_lt b0
                        have p0 := HP8.cell 0 rfl
                        have p1 := HP8.cell 1 rfl
                        have pl := cell_lt p0
                        have r0 := HQ8.cell 0 rfl
                        have r1 := HQ8.cell 1 rfl
                        have rl := cell_lt r0
                        have HBK := Lib.hid HB8
                        clear HA8 HX8 HB8 HP8 HQ8
                        go_wp2_with fail
                        refine (HLS.out _).mono ?_
                        rintro e w9 ⟨rfl, b9⟩
                        clear a0 a1 al c0 c1 cl b0 b1 bl p0 p1 pl r0 r1 rl
                        have HE9 := Lib.hid (bel_on HE8.out b9)
                        have b0 := (HBK.out.below b9).cell 0 rfl
                        have bl := cell_lt b0
                        clear b9 HBK HE8
                        go_wp2
                        go_ret
                        exact ⟨rfl, HE9.out⟩
                  · have hw' : (weekP f.tm != week) = true := by simpa using hw
                    have hde := HG.out.2.1 hw
                    simp only [DoneP.mk.injEq] at hde
                    obtain ⟨u1, u2, -, u4, u5, u6⟩ := hde
                    subst u1 u2 u4 u5 u6
                    have a0 := HA2.out.cell 0 rfl
                    have a1 := HA2.out.cell 1 rfl
                    have al := cell_lt a0
                    have b0 := HB1.out.cell 0 rfl
                    have b1 := HB1.out.cell 1 rfl
                    have bl := cell_lt b0
                    have p0 := HP2.out.cell 0 rfl
                    have p1 := HP2.out.cell 1 rfl
                    have pl := cell_lt p0
                    have r0 := HB2.out.cell 0 rfl
                    have r1 := HB2.out.cell 1 rfl
                    have rl := cell_lt r0
                    clear HG HXX hw HA2 HP2 HB1 HB2 HN2 HF2
                    go_wp2_with fail
                    refine (week_any _ _).mono ?_
                    rintro e w' ⟨rfl, rfl⟩
                    go_wp2
                    go_ret
                    exact ⟨rfl, HE.out⟩
                · have h2' : (fr != 0) = true := by simpa using h2
                  clear HG HXX h1 h2 HA2 HP2 HB1 HB2 HN2 HF2
                  go_wp2
                  go_ret
                  exact ⟨rfl, HE.out⟩
              · have h1' : (er != 0) = true := by simpa using h1
                clear HG HXX h1 HA2 HP2 HB1 HB2 HN2 HF2
                go_wp2
                go_ret
                exact ⟨rfl, HE.out⟩
        · have h7' : (f.kd != 7) = true := by simpa using h7
          have HE := Lib.hid HN4.out.b
          clear HN4 HF4 HBB h7
          go_wp2
          go_ret
          exact ⟨rfl, HE.out⟩
theorem perfFaults_walk (s : SetP) (A1 A2 A3 A4 A5 A6 : Option Addr) (c1 c2 c3 c4 c5 c6 : Nat) (a1 : Option Addr) (len1 cap1 : Nat) (z1 : List EvP) (f : EvP) (k : Int) (w : World) (hs : SetAt w s A1 A2 A3 A4 A5 A6 c1 c2 c3 c4 c5 c6) (hf : s.Fit) (w1 : Evs w a1 len1 cap1 z1) (i1 : ∀ e ∈ z1, e.In) (l1 : len1 ≤ cap1) (l1' : cap1 ≤ 9223372036854775807) (w2 : f.In) (k0 : -9223372036854775808 ≤ k) (k1 : k ≤ 9223372036854775807) :
    Calls Tryz.prog 6 #[setV s A1 A2 A3 A4 A5 A6 c1 c2 c3 c4 c5 c6, .slice a1 len1 cap1, .agg (evC f), .int .i64 k] w fun e w' => e = .returned (.bool true) ∧ Below w.heap.size w w' := by
  obtain ⟨cs, hcs⟩ : ∃ cs, setV s A1 A2 A3 A4 A5 A6 c1 c2 c3 c4 c5 c6 = .agg cs := ⟨_, rfl⟩
  have hW := setW_of hcs hs hf
  rw [hcs]
  exact perfFaults_main s cs w hW a1 len1 cap1 z1 w1 i1 f w2 k
end Go.Proofs.YtpgncbhahocmbaaGreat
