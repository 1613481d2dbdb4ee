/-
  PerfAlone: a worker's performance hangs on that worker's events alone.
-/
import Derived.Test.YtpgncbhahocmbaaGreatQbd
import Derived.Test.YtpgncbhahocmbaaGreatQbe
import Derived.Test.YtpgncbhahocmbaaGreatQas
import Derived.Test.YtpgncbhahocmbaaGreatQba
import Derived.Test.YtpgncbhahocmbaaGreatQah
import Derived.Test.YtpgncbhahocmbaaGreatQap
import Derived.Test.YtpgncbhahocmbaaGreatQai


import Derived.Deep.RegionHeld3
import Derived.Deep.DeepCutAuto
namespace Go.Proofs.YtpgncbhahocmbaaGreat
open Go.RowKit
set_option linter.unusedVariables false
set_option linter.unusedSimpArgs false
set_option maxRecDepth 100000

set_option maxHeartbeats 16000000 in
theorem perfAlone_main (s : SetP) (cs : Array Value) (w : World) (hW : SetW w s cs) (A : Option Addr) (n c : Nat) (l : List EvP) (hx : Evs w A n c l) (hIn : ∀ e ∈ l, e.In) (hmax : n ≤ 9223372036854775807) (wk kw : Int) :
    Calls Tryz.prog 4 #[.agg cs, .slice A n c, .int .i64 wk, .int .i64 kw] w fun e w' => e = .returned (.bool true) ∧ Below w.heap.size w w' := by
  have mixed : Tryz.prog.follows Departure.mixedOrders = true := by kernel_rfl
  have HM := Lib.hid mixed
  have HZ := Lib.hid hW.size
  obtain ⟨b, hb⟩ : ∃ b, checkB s = b := ⟨_, rfl⟩
  obtain ⟨q, hq⟩ : ∃ q, decide (s.Few ∧ n ≤ 60) = q := ⟨_, rfl⟩
  have HFEW := Lib.hid (fun W (hs : SetW W s cs) => few18 s cs W hs A n c q hq)
  have CP := Lib.hid (fun W (hs : SetW W s cs) (hE : Evs W A n c l) (hn : n ≤ 800) => perf_c hs b hb A n c l wk kw hE hn hIn)
  have CO := Lib.hid (fun W B m d (hs : SetW W s cs) (hE : Evs W B m d (l.filter (isOwn (mayS s) wk))) (hn : m ≤ 800) => perf_own b s wk kw l ▸ perf_c hs b hb B m d (l.filter (isOwn (mayS s) wk)) wk kw hE hn (fun e he => hIn e (List.mem_filter.1 he).1))
  obtain ⟨D, hD⟩ : ∃ D, perfP b s wk kw l = D := ⟨_, rfl⟩
  rw [hD] at CP CO
  have HQS := Lib.hid hW.q
  have HSI := Lib.hid hIn
  have hlen := hx.2
  have HN0 := Lib.hid (dx_start hW hx)
  clear hW hx hb hIn hD
  go_enter Tryz.func4, Tryz.ntmps4
  go_wp2_with fail
  refine (awake18 _).mono ?_
  rintro e w1 ⟨rfl, b1⟩
  have HN1 := Lib.hid (HN0.out.below b1)
  clear b1 HN0
  go_wp2_with (refine wpList_exec (o := ⟨some 21, _, _, _, _, _⟩) (by rfl) (exec_load_st _ rfl rfl HN1.out.h HZ.out) ?_)
  refine (HFEW.out _ HN1.out.c).mono ?_
  rintro e w2 ⟨rfl, b2⟩
  have HN2 := Lib.hid (HN1.out.below b2)
  clear b2 HN1 HFEW
  cases q with
  | false =>
    have HE := Lib.hid HN2.out.b
    clear HN2 hq
    go_wp2
    go_ret
    exact ⟨rfl, HE.out⟩
  | true =>
    have h60 := (of_decide_eq_true hq).2
    clear hq
    go_wp2
    go_loopw [10, 11] (fun o i wr => ∃ (k m d : Nat) (B : Option Addr), k ≤ n ∧ m ≤ k ∧ i = .int .i64 k ∧ o = .slice B m d ∧ Hid (((l.take k).filter (isOwn (mayS s) wk)).length = m) ∧ Hid (ERow wr w2.heap.size B m d ((l.take k).filter (isOwn (mayS s) wk))) ∧ Hid (Below w2.heap.size w2 wr)) (fun _ i _ => n - (intOf i).toNat)
    case atStart => exact ⟨0, 0, 0, none, Nat.zero_le _, Nat.le_refl _, rfl, rfl, rfl, TRow.nil _ _, Below.refl _ _⟩
    case round =>
      obtain ⟨k, m, d, B, hk, hmk, rfl, rfl, HQ, HR, HW⟩ := hrel
      by_cases hlt : k < n
      · have HLr := Lib.hid (HN2.out.x.below HW.out)
        have HGr := Lib.hid (HN2.out.h.below HW.out)
        obtain ⟨ba, oa, rfl⟩ := HLr.out.form (by omega)
        obtain ⟨x, hx⟩ : ∃ x, l.getD k EvP.none = x := ⟨_, rfl⟩
        have hxI : x.In := HSI.out x (by rw [← hx]; simp [List.getD, show k < l.length by omega])
        have HNX := Lib.hid (in_filter (isOwn (mayS s) wk) l k (by omega))
        rw [hx] at HNX
        have i0 : (0 : Int) ≤ (k : Int) := by omega
        have i1 : (k : Int) < (n : Int) := by omega
        obtain ⟨b1, hb1⟩ : ∃ b1, mayS s x = b1 := ⟨_, rfl⟩
        have hck := fun W => echeck_any cs _ _ _ _ _ HQS.out x hxI W b1 hb1
        have HX := Lib.hid hx
        have HMM := Lib.hid hb1
        clear hx hb1 hxI
        by_cases q2 : x.wk = wk
        · have q2' : (x.wk == wk) = true := by simpa using q2
          go_wp2_with fail
          refine wp_region_noPanic ?_
          refine wp_region_held_drew (S := fun w' => Below wr.heap.size wr w') (by kernel_rfl) (below_drew (Below.refl _ _)) (fun hHeld => ?_)
          refine wpAnyH_take (i := 0) (oi := ⟨some 32, _, _, _, _, _⟩) (v := ?_) rfl (by kernel_rfl) (by kernel_rfl) (by kernel_rfl) (fun _ _ _ h => h) (Or.inl ⟨by rfl, ?_⟩) hHeld ?_
          rotate_left
          · intro ww hSw
            (try dsimp only at hSw)
            go_simp
            (try with_reducible rfl)
          simp only [Act.put, List.setIfInBounds_toArray, List.set_cons_zero, List.set_cons_succ]
          refine wpAnyH_take (i := 1) (oi := ⟨some 33, _, _, _, _, _⟩) (v := ?_) rfl (by kernel_rfl) (by kernel_rfl) (by kernel_rfl) (fun _ _ _ h => h) (Or.inl ⟨by rfl, ?_⟩) hHeld ?_
          rotate_left
          · intro ww hSw
            (try dsimp only at hSw)
            go_simp
            (try with_reducible rfl)
          simp only [Act.put, List.setIfInBounds_toArray, List.set_cons_zero, List.set_cons_succ]
          refine wpAnyH_take (i := 2) (oi := ⟨some 34, _, _, _, _, _⟩) (v := .pointer (some ⟨ba, oa + k * 11, none⟩)) rfl (by kernel_rfl) (by kernel_rfl) (by kernel_rfl) (fun _ _ _ h => h) (Or.inl ⟨by rfl, ?_⟩) hHeld ?_
          · intro ww hSw
            (try dsimp only at hSw)
            go_simp
          simp only [Act.put, List.setIfInBounds_toArray, List.set_cons_zero, List.set_cons_succ]
          refine wpAnyH_take (i := 3) (oi := ⟨some 35, _, _, _, _, _⟩) (v := ?_) rfl (by kernel_rfl) (by kernel_rfl) (by kernel_rfl) (fun _ _ _ h => h) (Or.inl ⟨by rfl, ?_⟩) hHeld ?_
          rotate_left
          · intro ww hSw
            (try dsimp only at hSw)
            go_simp
            (try with_reducible rfl)
          simp only [Act.put, List.setIfInBounds_toArray, List.set_cons_zero, List.set_cons_succ]
          refine wpAnyH_take (i := 4) (oi := ⟨some 36, _, _, _, _, _⟩) (v := .int .i64 x.wk) rfl (by kernel_rfl) (by kernel_rfl) (by kernel_rfl) (fun _ _ _ h => h) (Or.inl ⟨by rfl, ?_⟩) hHeld ?_
          · intro ww hSw
            (try dsimp only at hSw)
            have zc := (evs_num (HLr.out.below hSw) hlt x HX.out).2.1
            have zl := cell_lt zc
            go_simp
          simp only [Act.put, List.setIfInBounds_toArray, List.set_cons_zero, List.set_cons_succ]
          refine wpAnyH_take (i := 5) (oi := ⟨some 37, _, _, _, _, _⟩) (v := ?_) rfl (by kernel_rfl) (by kernel_rfl) (by kernel_rfl) (fun _ _ _ h => h) (Or.inl ⟨by rfl, ?_⟩) hHeld ?_
          rotate_left
          · intro ww hSw
            (try dsimp only at hSw)
            go_simp
            (try with_reducible rfl)
          simp only [Act.put, List.setIfInBounds_toArray, List.set_cons_zero, List.set_cons_succ]
          refine wpAnyH_take (i := 6) (oi := ⟨some 38, _, _, _, _, _⟩) (v := .bool true) rfl (by kernel_rfl) (by kernel_rfl) (by kernel_rfl) (fun _ _ _ h => h) (Or.inl ⟨by rfl, ?_⟩) hHeld ?_
          · intro ww hSw
            (try dsimp only at hSw)
            go_simp
          simp only [Act.put, List.setIfInBounds_toArray, List.set_cons_zero, List.set_cons_succ]
          refine wpAnyH_take (i := 7) (oi := ⟨some 39, _, _, _, _, _⟩) (v := ?_) rfl (by kernel_rfl) (by kernel_rfl) (by kernel_rfl) (fun _ _ _ h => h) (Or.inl ⟨by rfl, ?_⟩) hHeld ?_
          rotate_left
          · intro ww hSw
            (try dsimp only at hSw)
            go_simp
            (try with_reducible rfl)
          simp only [Act.put, List.setIfInBounds_toArray, List.set_cons_zero, List.set_cons_succ]
          refine wpAnyH_take (i := 8) (oi := ⟨some 40, _, _, _, _, _⟩) (v := .agg cs) rfl (by kernel_rfl) (by kernel_rfl) (by kernel_rfl) (fun _ _ _ h => h) (Or.inl ⟨by rfl, ?_⟩) hHeld ?_
          · intro ww hSw
            (try dsimp only at hSw)
            exact exec_load_st _ rfl rfl (HGr.out.below hSw) HZ.out
          simp only [Act.put, List.setIfInBounds_toArray, List.set_cons_zero, List.set_cons_succ]
          refine wpAnyH_take (i := 9) (oi := ⟨some 41, _, _, _, _, _⟩) (v := ?_) rfl (by kernel_rfl) (by kernel_rfl) (by kernel_rfl) (fun _ _ _ h => h) (Or.inl ⟨by rfl, ?_⟩) hHeld ?_
          rotate_left
          · intro ww hSw
            (try dsimp only at hSw)
            go_simp
            (try with_reducible rfl)
          simp only [Act.put, List.setIfInBounds_toArray, List.set_cons_zero, List.set_cons_succ]
          refine wpAnyH_take (i := 10) (oi := ⟨some 42, _, _, _, _, _⟩) (v := ?_) rfl (by kernel_rfl) (by kernel_rfl) (by kernel_rfl) (fun _ _ _ h => h) (Or.inl ⟨by rfl, ?_⟩) hHeld ?_
          rotate_left
          · intro ww hSw
            (try dsimp only at hSw)
            go_simp
            (try with_reducible rfl)
          simp only [Act.put, List.setIfInBounds_toArray, List.set_cons_zero, List.set_cons_succ]
          refine wpAnyH_take (i := 11) (oi := ⟨some 43, _, _, _, _, _⟩) (v := .pointer (some ⟨ba, oa + k * 11, none⟩)) rfl (by kernel_rfl) (by kernel_rfl) (by kernel_rfl) (fun _ _ _ h => h) (Or.inl ⟨by rfl, ?_⟩) hHeld ?_
          · intro ww hSw
            (try dsimp only at hSw)
            go_simp
          simp only [Act.put, List.setIfInBounds_toArray, List.set_cons_zero, List.set_cons_succ]
          refine wpAnyH_take (i := 12) (oi := ⟨some 44, _, _, _, _, _⟩) (v := .agg (evC x)) rfl (by kernel_rfl) (by kernel_rfl) (by kernel_rfl) (fun _ _ _ h => h) (Or.inl ⟨by rfl, ?_⟩) hHeld ?_
          · intro ww hSw
            (try dsimp only at hSw)
            rw [← HX.out]
            exact exec_load_at _ rfl rfl (evs_load (HLr.out.below hSw) (by omega))
          simp only [Act.put, List.setIfInBounds_toArray, List.set_cons_zero, List.set_cons_succ]
          refine wpAnyH_ready (rs := [13]) (by kernel_rfl) (by simp) ?_
          refine AllReadyH.cons (o := ⟨some 45, _, _, _, _, _⟩) rfl (fun K hK => ?_) AllReadyH.nil
          go_simp
          go_at_call 15
          refine (hck _).mono ?_
          rintro e_r w5 ⟨rfl, hbn⟩
          have hbw5 : Below wr.heap.size wr w5 := bel_on (show Below wr.heap.size wr _ by (repeat' (first | with_reducible exact Below.refl _ _ | with_reducible assumption | with_reducible refine bel_alloc ?_ _ | with_reducible refine bel_set ?_ ?_ _ | with_reducible refine below_drewN ?_ _ | with_reducible refine below_drew ?_ | (simp; done) | (simp; omega) | omega))) hbn
          clear hbn
          go_wp2_with fail
          refine hK.out _ _ ?_ (fun hHeld => ?_)
          · (try dsimp only)
            exact hbw5
          clear hK K
          (try simp only [Act.put, List.setIfInBounds_toArray, List.set_cons_zero, List.set_cons_succ])
          refine wpAnyH_take (i := 14) (oi := ⟨some 46, _, _, _, _, _⟩) (v := ?_) rfl (by kernel_rfl) (by kernel_rfl) (by kernel_rfl) (fun _ _ _ h => h) (Or.inl ⟨by rfl, ?_⟩) hHeld ?_
          rotate_left
          · intro ww hSw
            (try dsimp only at hSw)
            go_simp
            (try with_reducible rfl)
          simp only [Act.put, List.setIfInBounds_toArray, List.set_cons_zero, List.set_cons_succ]
          refine wpAnyH_done (by kernel_rfl) ?_ _
          refine NoPanic.normal ?_
          have HW5 := Lib.hid (bel_on HW.out hbw5)
          have HL5 := Lib.hid (HLr.out.below hbw5)
          have HR5 := HR.out.below hbw5
          clear hHeld HLr HGr HW hbw5 HR
          cases b1 with
          | false =>
            have HP : Hid ((l.take (k + 1)).filter (isOwn (mayS s) wk) = (l.take k).filter (isOwn (mayS s) wk)) := HNX.out.trans (by rw [if_neg (by unfold isOwn; rw [HMM.out]; simp), List.append_nil])
            have HR6 := Lib.hid HR5
            clear HNX HR5 q2
            go_wp2
            go_roundw
            case rel => exact ⟨k + 1, m, d, B, by omega, by omega, by go_num, rfl, by rw [HP.out]; exact HQ.out, by rw [HP.out]; exact HR6.out, HW5⟩
            case measure => simp [intOf]; omega
          | true =>
            have HP : Hid ((l.take (k + 1)).filter (isOwn (mayS s) wk) = (l.take k).filter (isOwn (mayS s) wk) ++ [x]) := HNX.out.trans (by rw [if_pos (by unfold isOwn; rw [HMM.out]; simp [q2])])
            have HLD : Hid ((loadVar 43 ⟨ba, oa + k * 11, none⟩).run Tryz.prog w5 = .ok (.agg (evC x)) w5) := by
              show _ = _
              rw [← HX.out]
              exact evs_load HL5.out (by omega)
            obtain ⟨A9, c9, w9, hr9, row9, bel9, -⟩ := erow_append (HR5.alloc (.cells (evC x) 43)) (evs_one w5 x) (show m + 1 ≤ 100000 by omega) (bel_alloc HW5.out _).size (k := m + 1) rfl
            have HR9 : Hid ((Builtin.append_ #[31, 31] 31 #[.slice B m d, .slice (some ⟨w5.heap.size, 0, none⟩) 1 1]).run Tryz.prog (w5.alloc (.cells (evC x) 43)) = .ok (.slice A9 (m + 1) c9) w9) := hr9
            have HW9 := Lib.hid (bel9 w2 (Nat.le_refl _) (bel_alloc HW5.out _))
            have HRW9 := Lib.hid row9
            clear hr9 row9 bel9 HR5 HNX q2
            go_wp2_with (first | refine wpList_exec (o := ⟨some 51, _, _, _, _, _⟩) (by rfl) (exec_load_at _ rfl rfl HLD.out) ?_ | refine wpList_build_e (o := ⟨some 52, _, _, _, _, _⟩) rfl x rfl rfl ?_ | (at_builtin; refine wpList_append_run (o := ⟨some 53, _, _, _, _, _⟩) HR9.out rfl rfl rfl rfl ?_))
            go_roundw
            case rel => exact ⟨k + 1, m + 1, c9, A9, by omega, by omega, by go_num, rfl, by rw [HP.out, List.length_append, HQ.out]; rfl, by rw [HP.out]; exact HRW9.out, HW9⟩
            case measure => simp [intOf]; omega
        · have q2' : (x.wk == wk) = false := beq_eq_false_iff_ne.2 q2
          have HP : Hid ((l.take (k + 1)).filter (isOwn (mayS s) wk) = (l.take k).filter (isOwn (mayS s) wk)) := HNX.out.trans (by rw [if_neg (by unfold isOwn; simp [q2]), List.append_nil])
          clear HNX q2
          go_wp2_with fail
          refine wp_region_noPanic ?_
          refine wp_region_held_drew (S := fun w' => Below wr.heap.size wr w') (by kernel_rfl) (below_drew (Below.refl _ _)) (fun hHeld => ?_)
          refine wpAnyH_take (i := 0) (oi := ⟨some 32, _, _, _, _, _⟩) (v := ?_) rfl (by kernel_rfl) (by kernel_rfl) (by kernel_rfl) (fun _ _ _ h => h) (Or.inl ⟨by rfl, ?_⟩) hHeld ?_
          rotate_left
          · intro ww hSw
            (try dsimp only at hSw)
            go_simp
            (try with_reducible rfl)
          simp only [Act.put, List.setIfInBounds_toArray, List.set_cons_zero, List.set_cons_succ]
          refine wpAnyH_take (i := 1) (oi := ⟨some 33, _, _, _, _, _⟩) (v := ?_) rfl (by kernel_rfl) (by kernel_rfl) (by kernel_rfl) (fun _ _ _ h => h) (Or.inl ⟨by rfl, ?_⟩) hHeld ?_
          rotate_left
          · intro ww hSw
            (try dsimp only at hSw)
            go_simp
            (try with_reducible rfl)
          simp only [Act.put, List.setIfInBounds_toArray, List.set_cons_zero, List.set_cons_succ]
          refine wpAnyH_take (i := 2) (oi := ⟨some 34, _, _, _, _, _⟩) (v := .pointer (some ⟨ba, oa + k * 11, none⟩)) rfl (by kernel_rfl) (by kernel_rfl) (by kernel_rfl) (fun _ _ _ h => h) (Or.inl ⟨by rfl, ?_⟩) hHeld ?_
          · intro ww hSw
            (try dsimp only at hSw)
            go_simp
          simp only [Act.put, List.setIfInBounds_toArray, List.set_cons_zero, List.set_cons_succ]
          refine wpAnyH_take (i := 3) (oi := ⟨some 35, _, _, _, _, _⟩) (v := ?_) rfl (by kernel_rfl) (by kernel_rfl) (by kernel_rfl) (fun _ _ _ h => h) (Or.inl ⟨by rfl, ?_⟩) hHeld ?_
          rotate_left
          · intro ww hSw
            (try dsimp only at hSw)
            go_simp
            (try with_reducible rfl)
          simp only [Act.put, List.setIfInBounds_toArray, List.set_cons_zero, List.set_cons_succ]
          refine wpAnyH_take (i := 4) (oi := ⟨some 36, _, _, _, _, _⟩) (v := .int .i64 x.wk) rfl (by kernel_rfl) (by kernel_rfl) (by kernel_rfl) (fun _ _ _ h => h) (Or.inl ⟨by rfl, ?_⟩) hHeld ?_
          · intro ww hSw
            (try dsimp only at hSw)
            have zc := (evs_num (HLr.out.below hSw) hlt x HX.out).2.1
            have zl := cell_lt zc
            go_simp
          simp only [Act.put, List.setIfInBounds_toArray, List.set_cons_zero, List.set_cons_succ]
          refine wpAnyH_take (i := 5) (oi := ⟨some 37, _, _, _, _, _⟩) (v := ?_) rfl (by kernel_rfl) (by kernel_rfl) (by kernel_rfl) (fun _ _ _ h => h) (Or.inl ⟨by rfl, ?_⟩) hHeld ?_
          rotate_left
          · intro ww hSw
            (try dsimp only at hSw)
            go_simp
            (try with_reducible rfl)
          simp only [Act.put, List.setIfInBounds_toArray, List.set_cons_zero, List.set_cons_succ]
          refine wpAnyH_take (i := 6) (oi := ⟨some 38, _, _, _, _, _⟩) (v := .bool false) rfl (by kernel_rfl) (by kernel_rfl) (by kernel_rfl) (fun _ _ _ h => h) (Or.inl ⟨by rfl, ?_⟩) hHeld ?_
          · intro ww hSw
            (try dsimp only at hSw)
            go_simp
          simp only [Act.put, List.setIfInBounds_toArray, List.set_cons_zero, List.set_cons_succ]
          refine wpAnyH_take (i := 7) (oi := ⟨some 39, _, _, _, _, _⟩) (v := ?_) rfl (by kernel_rfl) (by kernel_rfl) (by kernel_rfl) (fun _ _ _ h => h) (Or.inl ⟨by rfl, ?_⟩) hHeld ?_
          rotate_left
          · intro ww hSw
            (try dsimp only at hSw)
            go_simp
            (try with_reducible rfl)
          simp only [Act.put, List.setIfInBounds_toArray, List.set_cons_zero, List.set_cons_succ]
          refine wpAnyH_take (i := 8) (oi := ⟨some 40, _, _, _, _, _⟩) (v := undef) rfl (by kernel_rfl) (by kernel_rfl) (by kernel_rfl) (fun _ _ _ h => h) (Or.inr ⟨by rfl, rfl⟩) hHeld ?_
          simp only [Act.put, List.setIfInBounds_toArray, List.set_cons_zero, List.set_cons_succ]
          refine wpAnyH_take (i := 9) (oi := ⟨some 41, _, _, _, _, _⟩) (v := undef) rfl (by kernel_rfl) (by kernel_rfl) (by kernel_rfl) (fun _ _ _ h => h) (Or.inr ⟨by rfl, rfl⟩) hHeld ?_
          simp only [Act.put, List.setIfInBounds_toArray, List.set_cons_zero, List.set_cons_succ]
          refine wpAnyH_take (i := 10) (oi := ⟨some 42, _, _, _, _, _⟩) (v := undef) rfl (by kernel_rfl) (by kernel_rfl) (by kernel_rfl) (fun _ _ _ h => h) (Or.inr ⟨by rfl, rfl⟩) hHeld ?_
          simp only [Act.put, List.setIfInBounds_toArray, List.set_cons_zero, List.set_cons_succ]
          refine wpAnyH_take (i := 11) (oi := ⟨some 43, _, _, _, _, _⟩) (v := undef) rfl (by kernel_rfl) (by kernel_rfl) (by kernel_rfl) (fun _ _ _ h => h) (Or.inr ⟨by rfl, rfl⟩) hHeld ?_
          simp only [Act.put, List.setIfInBounds_toArray, List.set_cons_zero, List.set_cons_succ]
          refine wpAnyH_take (i := 12) (oi := ⟨some 44, _, _, _, _, _⟩) (v := undef) rfl (by kernel_rfl) (by kernel_rfl) (by kernel_rfl) (fun _ _ _ h => h) (Or.inr ⟨by rfl, rfl⟩) hHeld ?_
          simp only [Act.put, List.setIfInBounds_toArray, List.set_cons_zero, List.set_cons_succ]
          refine wpAnyH_take (i := 13) (oi := ⟨some 45, _, _, _, _, _⟩) (v := undef) rfl (by kernel_rfl) (by kernel_rfl) (by kernel_rfl) (fun _ _ _ h => h) (Or.inr ⟨by rfl, rfl⟩) hHeld ?_
          simp only [Act.put, List.setIfInBounds_toArray, List.set_cons_zero, List.set_cons_succ]
          refine wpAnyH_take (i := 14) (oi := ⟨some 46, _, _, _, _, _⟩) (v := ?_) rfl (by kernel_rfl) (by kernel_rfl) (by kernel_rfl) (fun _ _ _ h => h) (Or.inl ⟨by rfl, ?_⟩) hHeld ?_
          rotate_left
          · intro ww hSw
            (try dsimp only at hSw)
            go_simp
            (try with_reducible rfl)
          simp only [Act.put, List.setIfInBounds_toArray, List.set_cons_zero, List.set_cons_succ]
          refine wpAnyH_done (by kernel_rfl) ?_ _
          refine NoPanic.normal ?_
          have HW6 := Lib.hid (below_drew HW.out)
          have HR6 := Lib.hid HR.out.drew
          clear hHeld
          go_wp2
          go_roundw
          case rel => exact ⟨k + 1, m, d, B, by omega, by omega, by go_num, rfl, by rw [HP.out]; exact HQ.out, by rw [HP.out]; exact HR6.out, HW6⟩
          case measure => simp [intOf]; omega
      · obtain rfl : k = n := by omega
        have e : l.take k = l := List.take_of_length_le (by omega)
        rw [e] at HR HQ
        have HN := Lib.hid (HN2.out.below HW.out)
        have HO := Lib.hid (ERow.evs HR.out HQ.out)
        clear HR HW HN2 e HQ HSI HQS
        go_upto_region 10 with fail
        go_cut [12, 13, 14, 15] (fun v12 v13 v14 v15 wx => ∃ g12 g14 : Nat, v12 = .pointer (some ⟨g12, 0, none⟩) ∧ v13 = .int .i64 D.el ∧ v14 = .pointer (some ⟨g14, 0, none⟩) ∧ v15 = .int .i64 D.er ∧ Hid (Has wx g12 #[.int .i64 D.en, .int .i64 D.ed]) ∧ Hid (Has wx g14 #[.int .i64 D.pn, .int .i64 D.pd]) ∧ Hid (Dx w wx w.heap.size s cs A k c l) ∧ Hid (Evs wx B m d (l.filter (isOwn (mayS s) wk))))
        case first =>
          go_wp2_with (refine wpList_exec (o := ⟨some 55, _, _, _, _, _⟩) (by rfl) (exec_load_st _ rfl rfl HN.out.h HZ.out) ?_)
          refine (CP.out _ HN.out.c HN.out.x (by omega)).mono ?_
          rintro e w3 ⟨rfl, b3⟩
          have t0 := HN.out.below b3
          have t1 := HO.out.below b3
          obtain ⟨w4, hw4⟩ : ∃ W, (w3.alloc (.cells #[.int .i64 0, .int .i64 0] 24)).alloc (.cells #[.int .i64 0, .int .i64 0] 24) = W := ⟨_, rfl⟩
          have b4 : Below w3.heap.size w3 w4 := by rw [← hw4]; exact bel_alloc (bel_alloc (Below.refl _ _) _) _
          have h12 : Has w4 w3.heap.size #[.int .i64 0, .int .i64 0] := by rw [← hw4]; exact (Has.new w3 _ _ rfl).alloc _
          have h14 : Has w4 (w3.heap.size + 1) #[.int .i64 0, .int .i64 0] := by rw [← hw4]; exact Has.new _ _ _ (by simp)
          obtain ⟨g12, hg12⟩ : ∃ g, w3.heap.size = g := ⟨_, rfl⟩
          rw [hg12] at h12 h14
          obtain ⟨g14, hg14⟩ : ∃ g, g12 + 1 = g := ⟨_, rfl⟩
          rw [hg14] at h14
          have q0 := h12.cell 0 rfl
          have q1 := h12.cell 1 rfl
          have q2 := h12.frozen 0
          have q3 := h12.frozen 1
          have ql := cell_lt q0
          have p0 := h14.cell 0 rfl
          have p1 := h14.cell 1 rfl
          have p2 := h14.frozen 0
          have p3 := h14.frozen 1
          have pl := cell_lt p0
          have hne : g12 < g14 := by omega
          obtain ⟨w5, hw5⟩ : ∃ W, (((w4.setCell ⟨g12, 0, none⟩ (.int .i64 D.en)).setCell ⟨g12, 1, none⟩ (.int .i64 D.ed)).setCell ⟨g14, 0, none⟩ (.int .i64 D.pn)).setCell ⟨g14, 1, none⟩ (.int .i64 D.pd) = W := ⟨_, rfl⟩
          have H12x : Hid (Has w5 g12 #[.int .i64 D.en, .int .i64 D.ed]) := by
            show Has _ _ _
            rw [← hw5]
            exact (((h12.set 0 _).set 1 _).far (p := ⟨g14, 0, none⟩) (by show g12 ≠ g14; omega) _).far (p := ⟨g14, 1, none⟩) (by show g12 ≠ g14; omega) _
          have H14x : Hid (Has w5 g14 #[.int .i64 D.pn, .int .i64 D.pd]) := by
            show Has _ _ _
            rw [← hw5]
            exact (((h14.far (p := ⟨g12, 0, none⟩) (by show g14 ≠ g12; omega) _).far (p := ⟨g12, 1, none⟩) (by show g14 ≠ g12; omega) _).set 0 _).set 1 _
          have b5 : Below w3.heap.size w3 w5 := by
            rw [← hw5]
            exact bel_set (bel_set (bel_set (bel_set b4 (by show _ ≤ g12; omega) _) (by show _ ≤ g12; omega) _) (by show _ ≤ g14; omega) _) (by show _ ≤ g14; omega) _
          have T0 := Lib.hid (t0.below b5)
          have T1 := Lib.hid (t1.below b5)
          clear h12 h14 b4 b5 b3 t0 t1 HN HO
          go_wp2_with fail
          go_meet
          exact ⟨g12, g14, rfl, rfl, rfl, rfl, H12x, H14x, T0, T1⟩
        case rest =>
          obtain ⟨ga, gp, rfl, rfl, rfl, rfl, HA, HPP, HN3, HO3⟩ := hcut
          clear HN HO CP
          have HN := HN3
          have HO := HO3
          clear HN3 HO3
          go_upto_region 11 with fail
          go_cut [16, 17, 18, 19] (fun v12 v13 v14 v15 wx => ∃ g12 g14 : Nat, v12 = .pointer (some ⟨g12, 0, none⟩) ∧ v13 = .int .i64 D.el ∧ v14 = .pointer (some ⟨g14, 0, none⟩) ∧ v15 = .int .i64 D.er ∧ Hid (Has wx g12 #[.int .i64 D.en, .int .i64 D.ed]) ∧ Hid (Has wx g14 #[.int .i64 D.pn, .int .i64 D.pd]) ∧ Hid (Has wx ga #[.int .i64 D.en, .int .i64 D.ed]) ∧ Hid (Has wx gp #[.int .i64 D.pn, .int .i64 D.pd]) ∧ Hid (Dx w wx w.heap.size s cs A k c l))
          case first =>
            go_wp2_with (refine wpList_exec (o := ⟨some 65, _, _, _, _, _⟩) (by rfl) (exec_load_st _ rfl rfl HN.out.h HZ.out) ?_)
            refine (CO.out _ B m d HN.out.c HO.out (by omega)).mono ?_
            rintro e w3 ⟨rfl, b3⟩
            have k0 := HA.out.below b3
            have k1 := HPP.out.below b3
            have t0 := HN.out.below b3
            have t1 := HO.out.below b3
            obtain ⟨w4, hw4⟩ : ∃ W, (w3.alloc (.cells #[.int .i64 0, .int .i64 0] 24)).alloc (.cells #[.int .i64 0, .int .i64 0] 24) = W := ⟨_, rfl⟩
            have b4 : Below w3.heap.size w3 w4 := by rw [← hw4]; exact bel_alloc (bel_alloc (Below.refl _ _) _) _
            have h12 : Has w4 w3.heap.size #[.int .i64 0, .int .i64 0] := by rw [← hw4]; exact (Has.new w3 _ _ rfl).alloc _
            have h14 : Has w4 (w3.heap.size + 1) #[.int .i64 0, .int .i64 0] := by rw [← hw4]; exact Has.new _ _ _ (by simp)
            obtain ⟨g12, hg12⟩ : ∃ g, w3.heap.size = g := ⟨_, rfl⟩
            rw [hg12] at h12 h14
            obtain ⟨g14, hg14⟩ : ∃ g, g12 + 1 = g := ⟨_, rfl⟩
            rw [hg14] at h14
            have q0 := h12.cell 0 rfl
            have q1 := h12.cell 1 rfl
            have q2 := h12.frozen 0
            have q3 := h12.frozen 1
            have ql := cell_lt q0
            have p0 := h14.cell 0 rfl
            have p1 := h14.cell 1 rfl
            have p2 := h14.frozen 0
            have p3 := h14.frozen 1
            have pl := cell_lt p0
            have hne : g12 < g14 := by omega
            obtain ⟨w5, hw5⟩ : ∃ W, (((w4.setCell ⟨g12, 0, none⟩ (.int .i64 D.en)).setCell ⟨g12, 1, none⟩ (.int .i64 D.ed)).setCell ⟨g14, 0, none⟩ (.int .i64 D.pn)).setCell ⟨g14, 1, none⟩ (.int .i64 D.pd) = W := ⟨_, rfl⟩
            have H12x : Hid (Has w5 g12 #[.int .i64 D.en, .int .i64 D.ed]) := by
              show Has _ _ _
              rw [← hw5]
              exact (((h12.set 0 _).set 1 _).far (p := ⟨g14, 0, none⟩) (by show g12 ≠ g14; omega) _).far (p := ⟨g14, 1, none⟩) (by show g12 ≠ g14; omega) _
            have H14x : Hid (Has w5 g14 #[.int .i64 D.pn, .int .i64 D.pd]) := by
              show Has _ _ _
              rw [← hw5]
              exact (((h14.far (p := ⟨g12, 0, none⟩) (by show g14 ≠ g12; omega) _).far (p := ⟨g12, 1, none⟩) (by show g14 ≠ g12; omega) _).set 0 _).set 1 _
            have b5 : Below w3.heap.size w3 w5 := by
              rw [← hw5]
              exact bel_set (bel_set (bel_set (bel_set b4 (by show _ ≤ g12; omega) _) (by show _ ≤ g12; omega) _) (by show _ ≤ g14; omega) _) (by show _ ≤ g14; omega) _
            have K0 := Lib.hid (k0.below b5)
            have K1 := Lib.hid (k1.below b5)
            have T0 := Lib.hid (t0.below b5)
            have T1 := Lib.hid (t1.below b5)
            clear h12 h14 b4 b5 b3 k0 k1 t0 t1 HA HPP HN HO
            go_wp2_with fail
            go_meet
            exact ⟨g12, g14, rfl, rfl, rfl, rfl, H12x, H14x, K0, K1, T0⟩
          case rest =>
            clear HA HPP HN HO
            obtain ⟨gb, gq, rfl, rfl, rfl, rfl, HB1, HQ1, HA, HPP, HN⟩ := hcut
            have a0 := HA.out.cell 0 rfl
            have a1 := HA.out.cell 1 rfl
            have al := cell_lt a0
            have b0 := HB1.out.cell 0 rfl
            have b1 := HB1.out.cell 1 rfl
            have bl := cell_lt b0
            have c0 := HPP.out.cell 0 rfl
            have c1 := HPP.out.cell 1 rfl
            have cl := cell_lt c0
            have d0 := HQ1.out.cell 0 rfl
            have d1 := HQ1.out.cell 1 rfl
            have dl := cell_lt d0
            have HE := Lib.hid HN.out.b
            obtain ⟨x1, x2, x3, x4, x5, x6⟩ := D
            simp only at a0 a1 b0 b1 c0 c1 d0 d1 ⊢
            clear HN HA HB1 HPP HQ1 CO
            go_wp2
            go_ret
            exact ⟨rfl, HE.out⟩
theorem perfAlone_walk (s : SetP) (A1 A2 A3 A4 A5 A6 : Option Addr) (c1 c2 c3 c4 c5 c6 : Nat) (a1 : Option Addr) (len1 cap1 : Nat) (z1 : List EvP) (wk k : Int) (w : World) (hs : SetAt w s A1 A2 A3 A4 A5 A6 c1 c2 c3 c4 c5 c6) (hf : s.Fit) (w1 : Evs w a1 len1 cap1 z1) (i1 : ∀ e ∈ z1, e.In) (l1 : len1 ≤ cap1) (l1' : cap1 ≤ 9223372036854775807) (e0 : -9223372036854775808 ≤ wk) (e1 : wk ≤ 9223372036854775807) (k0 : -9223372036854775808 ≤ k) (k1 : k ≤ 9223372036854775807) :
    Calls Tryz.prog 4 #[setV s A1 A2 A3 A4 A5 A6 c1 c2 c3 c4 c5 c6, .slice a1 len1 cap1, .int .i64 wk, .int .i64 k] w fun e w' => e = .returned (.bool true) ∧ Below w.heap.size w w' := by
  obtain ⟨cs, hcs⟩ : ∃ cs, setV s A1 A2 A3 A4 A5 A6 c1 c2 c3 c4 c5 c6 = .agg cs := ⟨_, rfl⟩
  have hW := setW_of hcs hs hf
  rw [hcs]
  exact perfAlone_main s cs w hW a1 len1 cap1 z1 w1 i1 (by omega) wk k
end Go.Proofs.YtpgncbhahocmbaaGreat
