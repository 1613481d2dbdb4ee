/-
  The walk of the law EventTells.
  An argument of type api.Setup, opened: its cells, its lists.
-/
import Derived.Test.YtgfomfioagblfaaEvSortR
import Derived.Test.YtgfomfioagblfaaEvTakeR
import Derived.Test.YtgfomfioagblfaaZak
import Derived.Test.YtgfomfioagblfaaZai
import Derived.Test.YtgfomfioagblfaaZan
import Derived.Test.YtgfomfioagblfaaProg
import Derived.Test.YtgfomfioagblfaaZah
namespace Go.Proofs.Ytgfomfioagblfaa
open Go.RowKit
set_option linter.unusedVariables false
set_option linter.unusedSimpArgs false
set_option maxRecDepth 20000

theorem exec_load_sx {o : Oper} {ρ : Operand → Value} {ww : World} (x : Operand) (ho : o.op = .load 30 x) {g : Nat} (hx : ρ x = .pointer (some ⟨g, 0, none⟩)) {cs : Array Value} (hg : Has ww g cs) (hs : cs.size = 23) :
    (execOp ρ o).run Try.prog ww = .ok (.value (.agg cs)) ww := by
  obtain ⟨t, hg⟩ := hg
  unfold execOp
  simp only [ho, hx, Instr.loadAt, Instr.sureAddr, Sem.run_bind, Sem.run_pure, Result.andThen_ok, run_loadVar_row (P := Try.prog) ww g t 30 cs (0, 0) _ hg Try.underlying30 rfl (by rw [hs]; kernel_rfl)]
set_option maxHeartbeats 8000000 in
theorem eventTells_in (cs : Array Value) (pl : Int) (nE nC nG nR : Nat) (hq : SetQ cs pl nE nC nG nR) (A : Option Addr) (n c : Nat) (l : List EvP) (a b : EvP) (ha : a.In) (hb : b.In) (B : Option Addr) (m d : Nat) (bs : List (BitVec 8)) (w : World) (hA : Evs w A n c l) (hx : Sl 1 w B m d (bytesV bs)) (hmd : m ≤ d) (hn : n ≤ 100) (hm : m ≤ 1000) :
    Calls Try.prog 3 #[.agg cs, .slice A n c, .agg (evC a), .agg (evC b), .slice B m d] w fun e w' => e = .returned (.bool true) ∧ Below w.heap.size w w' := by
  have hl := hA.2
  have HX := Lib.hid hx
  have HA := Lib.hid hA
  have HFEW := Lib.hid (fun W => few8 hq W)
  have HZS := Lib.hid hq.size
  obtain ⟨X, E, hX⟩ : ∃ X E, putR8 bs a = (X, E) := ⟨_, _, rfl⟩
  obtain ⟨nX, hnX⟩ : ∃ n, X.length = n := ⟨_, rfl⟩
  obtain ⟨Y, Z, F, hY⟩ : ∃ Y Z F, takeR8 bs = (Y, Z, F) := ⟨_, _, _, rfl⟩
  obtain ⟨nZ, hnZ⟩ : ∃ n, Z.length = n := ⟨_, rfl⟩
  obtain ⟨may, hmay⟩ : ∃ q, decide (a.May pl nE nC nG nR) = q := ⟨_, rfl⟩
  obtain ⟨ls, hls⟩ : ∃ q, lessE a b = q := ⟨_, rfl⟩
  obtain ⟨S, hS⟩ : ∃ S, sortE l = S := ⟨_, rfl⟩
  obtain ⟨cy, hcy⟩ : ∃ q, evC Y = q := ⟨_, rfl⟩
  have HPUT := Lib.hid (fun W (h : Sl 1 W B m d (bytesV bs)) => put_un8 B m d bs a _ rfl ha (by omega) X E nX hX hnX W h)
  have HPUT2 := Lib.hid (fun W (h : Sl 1 W B m d (bytesV bs)) => rput_un8 B m d bs a _ rfl ha hm X E nX hX hnX W h)
  have HTK := Lib.hid (fun W (h : Sl 1 W B m d (bytesV bs)) => take_un8 B m d bs hmd (by omega) Y cy Z F nZ hY hcy hnZ W h)
  have HTK2 := Lib.hid (fun W (h : Sl 1 W B m d (bytesV bs)) => rtake_un8 B m d bs hmd hm Y cy Z F nZ hY hcy hnZ W h)
  have HCK := Lib.hid (fun W => echeck_any cs pl nE nC nG nR hq.toSetS a ha W may hmay)
  have HCK2 := Lib.hid (fun W => rcheck8_any cs pl nE nC nG nR hq.toSetS a ha W may hmay)
  have HLS := Lib.hid (fun W => less_any a b W)
  have HLS2 := Lib.hid (fun W => rless8 a b W)
  rw [hls] at HLS HLS2
  have HSO := Lib.hid (fun W (h : Evs W A n c l) => sort_any A n c l W h (by omega))
  have HSO2 := Lib.hid (fun W (h : Evs W A n c l) => rsort_any A n c l W h (by omega))
  rw [hS] at HSO HSO2
  have HSM := Lib.hid (fun W A1 c1 A2 c2 (h : Evs W A1 n c1 S) (h' : Evs W A2 n c2 S) => rsame_any A1 A2 n n c1 c2 S S W h h' (by omega) (by omega) true (by simp))
  have HEQ := Lib.hid (fun w => run_ev_eql Y Y w)
  rw [decide_eq_true rfl, hcy] at HEQ
  have ZA := Lib.hid (evC_size a)
  have ZB := Lib.hid (evC_size b)
  have ZY : Hid (cy.size = 11) := Lib.hid (by rw [← hcy]; rfl)
  have OY : Hid (cy.all (·.oneCell') = true) := Lib.hid (by rw [← hcy]; exact evC_one Y)
  have hn' : ¬ (100 : Int) < (n : Int) := by omega
  have hm' : ¬ (1000 : Int) < (m : Int) := by omega
  clear hq ha hb hA hx hmd hX hnX hY hnZ hmay hls hS hcy hl hn hm
  generalize evC a = ca at *
  generalize evC b = cb at *
  go_enter Try.func3, Try.ntmps3
  go_wp2_with fail
  refine (awake8 _).mono ?_
  rintro e w1 ⟨rfl, b1⟩
  have HS := Lib.hid ((((Has.new w 30 cs rfl).alloc (.cells ca 33)).alloc (.cells cb 33)).below b1)
  have H1 := Lib.hid (((Has.new (w.alloc (.cells cs 30)) 33 ca (s := w.heap.size + 1) (by simp)).alloc (.cells cb 33)).below b1)
  have H2 := Lib.hid ((Has.new ((w.alloc (.cells cs 30)).alloc (.cells ca 33)) 33 cb (s := w.heap.size + 1 + 1) (by simp)).below b1)
  have HB := Lib.hid (bel_on (bel_alloc (bel_alloc (bel_alloc (Below.refl w.heap.size w) _) _) _) b1)
  clear b1
  obtain ⟨G, hG⟩ : ∃ G, w.heap.size = G := ⟨_, rfl⟩
  have HG := Lib.hid hG
  rw [hG] at HS H1 H2 ⊢
  clear hG
  go_wp2_with (refine wpList_load_s (by rfl) _ rfl G rfl cs HS.out HZS.out ?_)
  refine (HFEW.out _).mono ?_
  rintro e w2 ⟨fb, rfl, bb⟩
  replace HS := Lib.hid (HS.out.below bb)
  replace H1 := Lib.hid (H1.out.below bb)
  replace H2 := Lib.hid (H2.out.below bb)
  replace HB := Lib.hid (bel_on HB.out bb)
  clear bb HFEW
  cases fb
  · go_wp2
    go_ret
    exact ⟨rfl, HB.out⟩
  go_wp2_with (refine wpList_load_e (by rfl) _ rfl (G + 1) rfl ca H1.out ZA.out ?_)
  refine (HPUT.out _ (HX.out.below HB.out)).mono ?_
  rintro e w3 ⟨A1, c1, rfl, s1, k1, bb⟩
  replace HS := Lib.hid (HS.out.below bb)
  replace H1 := Lib.hid (H1.out.below bb)
  replace H2 := Lib.hid (H2.out.below bb)
  replace HB := Lib.hid (bel_on HB.out bb)
  have S1 := Lib.hid s1
  clear bb s1 k1 HPUT
  go_wp2_with (refine wpList_load_e (by rfl) _ rfl (G + 1) rfl ca H1.out ZA.out ?_)
  refine (HPUT2.out _ (HX.out.below HB.out)).mono ?_
  rintro e w4 ⟨A2, c2, rfl, s2, bb⟩
  replace HS := Lib.hid (HS.out.below bb)
  replace H1 := Lib.hid (H1.out.below bb)
  replace H2 := Lib.hid (H2.out.below bb)
  replace S1 := Lib.hid (S1.out.below bb)
  replace HB := Lib.hid (bel_on HB.out bb)
  have S2 := Lib.hid s2
  clear bb s2 HPUT2
  go_wp2_with fail
  refine (HTK.out _ (HX.out.below HB.out)).mono ?_
  rintro e w5 ⟨A3, c3, rfl, s3, bb⟩
  replace HS := Lib.hid (HS.out.below bb)
  replace H1 := Lib.hid (H1.out.below bb)
  replace H2 := Lib.hid (H2.out.below bb)
  replace S1 := Lib.hid (S1.out.below bb)
  replace S2 := Lib.hid (S2.out.below bb)
  replace HB := Lib.hid (bel_on HB.out bb)
  have S3 := Lib.hid s3
  clear bb s3 HTK
  go_wp2_with (refine wpList_laid_e cy 16 _ _ rfl rfl rfl rfl rfl rfl rfl rfl ZY.out OY.out ?_)
  have H16 := Lib.hid (Has.new w5 33 cy rfl)
  replace HS := Lib.hid (HS.out.alloc (.cells cy 33))
  replace H1 := Lib.hid (H1.out.alloc (.cells cy 33))
  replace H2 := Lib.hid (H2.out.alloc (.cells cy 33))
  replace S1 := Lib.hid (S1.out.alloc (.cells cy 33))
  replace S2 := Lib.hid (S2.out.alloc (.cells cy 33))
  replace S3 := Lib.hid (S3.out.alloc (.cells cy 33))
  replace HB := Lib.hid (bel_alloc HB.out (.cells cy 33))
  generalize w5.alloc (.cells cy 33) = w6 at *
  generalize w5.heap.size = g16 at *
  refine (HTK2.out _ (HX.out.below HB.out)).mono ?_
  rintro e w7 ⟨A4, c4, rfl, s4, bb⟩
  replace HS := Lib.hid (HS.out.below bb)
  replace H1 := Lib.hid (H1.out.below bb)
  replace H2 := Lib.hid (H2.out.below bb)
  replace S1 := Lib.hid (S1.out.below bb)
  replace S2 := Lib.hid (S2.out.below bb)
  replace S3 := Lib.hid (S3.out.below bb)
  replace H16 := Lib.hid (H16.out.below bb)
  replace HB := Lib.hid (bel_on HB.out bb)
  have S4 := Lib.hid s4
  clear bb s4 HTK2
  go_upto_region 8 with (refine wpList_laid_e cy 19 _ _ rfl rfl rfl rfl rfl rfl rfl rfl ZY.out OY.out ?_)
  have H19 := Lib.hid (Has.new w7 33 cy rfl)
  replace HS := Lib.hid (HS.out.alloc (.cells cy 33))
  replace H1 := Lib.hid (H1.out.alloc (.cells cy 33))
  replace H2 := Lib.hid (H2.out.alloc (.cells cy 33))
  replace S1 := Lib.hid (S1.out.alloc (.cells cy 33))
  replace S2 := Lib.hid (S2.out.alloc (.cells cy 33))
  replace S3 := Lib.hid (S3.out.alloc (.cells cy 33))
  replace S4 := Lib.hid (S4.out.alloc (.cells cy 33))
  replace H16 := Lib.hid (H16.out.alloc (.cells cy 33))
  replace HB := Lib.hid (bel_alloc HB.out (.cells cy 33))
  generalize w7.alloc (.cells cy 33) = w8 at *
  generalize w7.heap.size = g19 at *
  refine wp_region_noPanic ?_
  refine wp_region_held_drew (S := fun w' => Below w8.heap.size w8 w') (by kernel_rfl) (below_drew (Below.refl _ _)) (fun hHeld => ?_)
  refine wpAnyH_take (i := 0) (oi := ⟨some 62, _, _, _, _, _⟩) (v := .agg cs) rfl (by kernel_rfl) (by kernel_rfl) (by kernel_rfl) (fun _ _ _ h => h) (Or.inl ⟨by rfl, ?_⟩) hHeld ?_
  · intro ww hSw
    (try dsimp only at hSw)
    exact exec_load_sx _ rfl rfl (HS.out.below hSw) HZS.out
  simp only [Act.put, List.setIfInBounds_toArray, List.set_cons_zero, List.set_cons_succ]
  refine wpAnyH_take (i := 1) (oi := ⟨some 63, _, _, _, _, _⟩) (v := .agg ca) rfl (by kernel_rfl) (by kernel_rfl) (by kernel_rfl) (fun _ _ _ h => h) (Or.inl ⟨by rfl, ?_⟩) hHeld ?_
  · intro ww hSw
    (try dsimp only at hSw)
    exact exec_load_e _ rfl rfl (H1.out.below hSw) ZA.out
  simp only [Act.put, List.setIfInBounds_toArray, List.set_cons_zero, List.set_cons_succ]
  refine wpAnyH_take (i := 3) (oi := ⟨some 65, _, _, _, _, _⟩) (v := .agg cs) rfl (by kernel_rfl) (by kernel_rfl) (by kernel_rfl) (fun _ _ _ h => h) (Or.inl ⟨by rfl, ?_⟩) hHeld ?_
  · intro ww hSw
    (try dsimp only at hSw)
    exact exec_load_sx _ rfl rfl (HS.out.below hSw) HZS.out
  simp only [Act.put, List.setIfInBounds_toArray, List.set_cons_zero, List.set_cons_succ]
  refine wpAnyH_take (i := 4) (oi := ⟨some 66, _, _, _, _, _⟩) (v := .agg ca) rfl (by kernel_rfl) (by kernel_rfl) (by kernel_rfl) (fun _ _ _ h => h) (Or.inl ⟨by rfl, ?_⟩) hHeld ?_
  · intro ww hSw
    (try dsimp only at hSw)
    exact exec_load_e _ rfl rfl (H1.out.below hSw) ZA.out
  simp only [Act.put, List.setIfInBounds_toArray, List.set_cons_zero, List.set_cons_succ]
  refine wpAnyH_ready (rs := [2]) (by kernel_rfl) (by simp) ?_
  refine AllReadyH.cons (o := ⟨some 64, _, _, _, _, _⟩) rfl (fun K hK => ?_) AllReadyH.nil
  go_simp
  go_at_call 10
  refine (HCK.out _).mono ?_
  rintro e_r x1 ⟨rfl, hbn⟩
  have hbx1 : Below w8.heap.size w8 x1 := bel_on (show Below w8.heap.size w8 _ by (repeat' (first | with_reducible exact Below.refl _ _ | with_reducible assumption | with_reducible refine bel_alloc ?_ _ | with_reducible refine bel_set ?_ ?_ _ | with_reducible refine below_drewN ?_ _ | with_reducible refine below_drew ?_ | (simp; done) | (simp; omega) | omega))) hbn
  clear hbn
  go_wp2_with fail
  refine hK.out _ _ ?_ (fun hHeld => ?_)
  · (try dsimp only)
    exact hbx1
  clear hK K
  (try simp only [Act.put, List.setIfInBounds_toArray, List.set_cons_zero, List.set_cons_succ])
  refine wpAnyH_ready (rs := [5]) (by kernel_rfl) (by simp) ?_
  refine AllReadyH.cons (o := ⟨some 67, _, _, _, _, _⟩) rfl (fun K hK => ?_) AllReadyH.nil
  go_simp
  go_at_call 11
  refine (HCK2.out _).mono ?_
  rintro e_r x2 ⟨rfl, hbn⟩
  have hbx2 : Below w8.heap.size w8 x2 := bel_on (show Below w8.heap.size w8 _ by (repeat' (first | with_reducible exact Below.refl _ _ | with_reducible assumption | with_reducible refine bel_alloc ?_ _ | with_reducible refine bel_set ?_ ?_ _ | with_reducible refine below_drewN ?_ _ | with_reducible refine below_drew ?_ | (simp; done) | (simp; omega) | omega))) hbn
  clear hbn
  go_wp2_with fail
  refine hK.out _ _ ?_ (fun hHeld => ?_)
  · (try dsimp only)
    exact hbx2
  clear hK K
  (try simp only [Act.put, List.setIfInBounds_toArray, List.set_cons_zero, List.set_cons_succ])
  refine wpAnyH_take (i := 6) (oi := ⟨some 68, _, _, _, _, _⟩) (v := .bool true) rfl (by kernel_rfl) (by kernel_rfl) (by kernel_rfl) (fun _ _ _ h => h) (Or.inl ⟨by rfl, ?_⟩) hHeld ?_
  · intro ww hSw
    (try dsimp only at hSw)
    go_simp
  simp only [Act.put, List.setIfInBounds_toArray, List.set_cons_zero, List.set_cons_succ]
  refine wpAnyH_take (i := 7) (oi := ⟨some 69, _, _, _, _, _⟩) (v := .bool true) rfl (by kernel_rfl) (by kernel_rfl) (by kernel_rfl) (fun _ _ _ h => h) (Or.inl ⟨by rfl, ?_⟩) hHeld ?_
  · intro ww hSw
    (try dsimp only at hSw)
    go_simp
  simp only [Act.put, List.setIfInBounds_toArray, List.set_cons_zero, List.set_cons_succ]
  refine wpAnyH_take (i := 8) (oi := ⟨some 70, _, _, _, _, _⟩) (v := .agg ca) rfl (by kernel_rfl) (by kernel_rfl) (by kernel_rfl) (fun _ _ _ h => h) (Or.inl ⟨by rfl, ?_⟩) hHeld ?_
  · intro ww hSw
    (try dsimp only at hSw)
    exact exec_load_e _ rfl rfl (H1.out.below hSw) ZA.out
  simp only [Act.put, List.setIfInBounds_toArray, List.set_cons_zero, List.set_cons_succ]
  refine wpAnyH_take (i := 9) (oi := ⟨some 71, _, _, _, _, _⟩) (v := .agg cb) rfl (by kernel_rfl) (by kernel_rfl) (by kernel_rfl) (fun _ _ _ h => h) (Or.inl ⟨by rfl, ?_⟩) hHeld ?_
  · intro ww hSw
    (try dsimp only at hSw)
    exact exec_load_e _ rfl rfl (H2.out.below hSw) ZB.out
  simp only [Act.put, List.setIfInBounds_toArray, List.set_cons_zero, List.set_cons_succ]
  refine wpAnyH_take (i := 11) (oi := ⟨some 73, _, _, _, _, _⟩) (v := .agg ca) rfl (by kernel_rfl) (by kernel_rfl) (by kernel_rfl) (fun _ _ _ h => h) (Or.inl ⟨by rfl, ?_⟩) hHeld ?_
  · intro ww hSw
    (try dsimp only at hSw)
    exact exec_load_e _ rfl rfl (H1.out.below hSw) ZA.out
  simp only [Act.put, List.setIfInBounds_toArray, List.set_cons_zero, List.set_cons_succ]
  refine wpAnyH_take (i := 12) (oi := ⟨some 74, _, _, _, _, _⟩) (v := .agg cb) rfl (by kernel_rfl) (by kernel_rfl) (by kernel_rfl) (fun _ _ _ h => h) (Or.inl ⟨by rfl, ?_⟩) hHeld ?_
  · intro ww hSw
    (try dsimp only at hSw)
    exact exec_load_e _ rfl rfl (H2.out.below hSw) ZB.out
  simp only [Act.put, List.setIfInBounds_toArray, List.set_cons_zero, List.set_cons_succ]
  refine wpAnyH_ready (rs := [10]) (by kernel_rfl) (by simp) ?_
  refine AllReadyH.cons (o := ⟨some 72, _, _, _, _, _⟩) rfl (fun K hK => ?_) AllReadyH.nil
  go_simp
  go_at_call 12
  refine (HLS.out _).mono ?_
  rintro e_r x3 ⟨rfl, hbn⟩
  have hbx3 : Below w8.heap.size w8 x3 := bel_on (show Below w8.heap.size w8 _ by (repeat' (first | with_reducible exact Below.refl _ _ | with_reducible assumption | with_reducible refine bel_alloc ?_ _ | with_reducible refine bel_set ?_ ?_ _ | with_reducible refine below_drewN ?_ _ | with_reducible refine below_drew ?_ | (simp; done) | (simp; omega) | omega))) hbn
  clear hbn
  go_wp2_with fail
  refine hK.out _ _ ?_ (fun hHeld => ?_)
  · (try dsimp only)
    exact hbx3
  clear hK K
  (try simp only [Act.put, List.setIfInBounds_toArray, List.set_cons_zero, List.set_cons_succ])
  refine wpAnyH_ready (rs := [13]) (by kernel_rfl) (by simp) ?_
  refine AllReadyH.cons (o := ⟨some 75, _, _, _, _, _⟩) rfl (fun K hK => ?_) AllReadyH.nil
  go_simp
  go_at_call 13
  refine (HLS2.out _).mono ?_
  rintro e_r x4 ⟨rfl, hbn⟩
  have hbx4 : Below w8.heap.size w8 x4 := bel_on (show Below w8.heap.size w8 _ by (repeat' (first | with_reducible exact Below.refl _ _ | with_reducible assumption | with_reducible refine bel_alloc ?_ _ | with_reducible refine bel_set ?_ ?_ _ | with_reducible refine below_drewN ?_ _ | with_reducible refine below_drew ?_ | (simp; done) | (simp; omega) | omega))) hbn
  clear hbn
  go_wp2_with fail
  refine hK.out _ _ ?_ (fun hHeld => ?_)
  · (try dsimp only)
    exact hbx4
  clear hK K
  (try simp only [Act.put, List.setIfInBounds_toArray, List.set_cons_zero, List.set_cons_succ])
  refine wpAnyH_take (i := 14) (oi := ⟨some 76, _, _, _, _, _⟩) (v := .bool true) rfl (by kernel_rfl) (by kernel_rfl) (by kernel_rfl) (fun _ _ _ h => h) (Or.inl ⟨by rfl, ?_⟩) hHeld ?_
  · intro ww hSw
    (try dsimp only at hSw)
    go_simp
  simp only [Act.put, List.setIfInBounds_toArray, List.set_cons_zero, List.set_cons_succ]
  refine wpAnyH_take (i := 15) (oi := ⟨some 77, _, _, _, _, _⟩) (v := .bool true) rfl (by kernel_rfl) (by kernel_rfl) (by kernel_rfl) (fun _ _ _ h => h) (Or.inl ⟨by rfl, ?_⟩) hHeld ?_
  · intro ww hSw
    (try dsimp only at hSw)
    go_simp
  simp only [Act.put, List.setIfInBounds_toArray, List.set_cons_zero, List.set_cons_succ]
  refine wpAnyH_take (i := 16) (oi := ⟨some 78, _, _, _, _, _⟩) (v := .bool true) rfl (by kernel_rfl) (by kernel_rfl) (by kernel_rfl) (fun _ _ _ h => h) (Or.inl ⟨by rfl, ?_⟩) hHeld ?_
  · intro ww hSw
    (try dsimp only at hSw)
    go_simp
  simp only [Act.put, List.setIfInBounds_toArray, List.set_cons_zero, List.set_cons_succ]
  refine wpAnyH_take (i := 17) (oi := ⟨some 79, _, _, _, _, _⟩) (v := ?_) rfl (by kernel_rfl) (by kernel_rfl) (by kernel_rfl) (fun _ _ _ h => h) (Or.inl ⟨by rfl, ?_⟩) hHeld ?_
  rotate_left
  · intro ww hSw
    (try dsimp only at hSw)
    go_simp
    (try with_reducible rfl)
  simp only [Act.put, List.setIfInBounds_toArray, List.set_cons_zero, List.set_cons_succ]
  refine wpAnyH_take (i := 19) (oi := ⟨some 81, _, _, _, _, _⟩) (v := ?_) rfl (by kernel_rfl) (by kernel_rfl) (by kernel_rfl) (fun _ _ _ h => h) (Or.inl ⟨by rfl, ?_⟩) hHeld ?_
  rotate_left
  · intro ww hSw
    (try dsimp only at hSw)
    go_simp
    (try with_reducible rfl)
  simp only [Act.put, List.setIfInBounds_toArray, List.set_cons_zero, List.set_cons_succ]
  refine wpAnyH_ready (rs := [18]) (by kernel_rfl) (by simp) ?_
  refine AllReadyH.cons (o := ⟨some 80, _, _, _, _, _⟩) rfl (fun K hK => ?_) AllReadyH.nil
  go_simp
  go_at_call 15
  refine (HSO.out _ (HA.out.below (bel_on HB.out (show Below w8.heap.size w8 _ by (repeat' (first | with_reducible exact Below.refl _ _ | with_reducible assumption | with_reducible refine bel_alloc ?_ _ | with_reducible refine bel_set ?_ ?_ _ | with_reducible refine below_drewN ?_ _ | with_reducible refine below_drew ?_ | (simp; done) | (simp; omega) | omega)))))).mono ?_
  rintro e_r x5 ⟨A5, c5, rfl, hbn, hv5⟩
  have HV5 := Lib.hid hv5
  clear hv5
  have hbx5 : Below w8.heap.size w8 x5 := bel_on (show Below w8.heap.size w8 _ by (repeat' (first | with_reducible exact Below.refl _ _ | with_reducible assumption | with_reducible refine bel_alloc ?_ _ | with_reducible refine bel_set ?_ ?_ _ | with_reducible refine below_drewN ?_ _ | with_reducible refine below_drew ?_ | (simp; done) | (simp; omega) | omega))) hbn
  clear hbn
  go_wp2_with fail
  refine hK.out _ _ ?_ (fun hHeld => ?_)
  · (try dsimp only)
    exact hbx5
  clear hK K
  (try simp only [Act.put, List.setIfInBounds_toArray, List.set_cons_zero, List.set_cons_succ])
  refine wpAnyH_ready (rs := [20]) (by kernel_rfl) (by simp) ?_
  refine AllReadyH.cons (o := ⟨some 82, _, _, _, _, _⟩) rfl (fun K hK => ?_) AllReadyH.nil
  go_simp
  go_at_call 16
  refine (HSO2.out _ (HA.out.below (bel_on HB.out (show Below w8.heap.size w8 _ by (repeat' (first | with_reducible exact Below.refl _ _ | with_reducible assumption | with_reducible refine bel_alloc ?_ _ | with_reducible refine bel_set ?_ ?_ _ | with_reducible refine below_drewN ?_ _ | with_reducible refine below_drew ?_ | (simp; done) | (simp; omega) | omega)))))).mono ?_
  rintro e_r x6 ⟨A6, c6, rfl, hbn, hv6⟩
  have HV6 := Lib.hid hv6
  have HV5b := Lib.hid (HV5.out.below hbn)
  clear hv6
  have hbx6 : Below w8.heap.size w8 x6 := bel_on (show Below w8.heap.size w8 _ by (repeat' (first | with_reducible exact Below.refl _ _ | with_reducible assumption | with_reducible refine bel_alloc ?_ _ | with_reducible refine bel_set ?_ ?_ _ | with_reducible refine below_drewN ?_ _ | with_reducible refine below_drew ?_ | (simp; done) | (simp; omega) | omega))) hbn
  clear hbn
  go_wp2_with fail
  refine hK.out _ _ ?_ (fun hHeld => ?_)
  · (try dsimp only)
    exact hbx6
  clear hK K
  (try simp only [Act.put, List.setIfInBounds_toArray, List.set_cons_zero, List.set_cons_succ])
  refine wpAnyH_ready (rs := [21]) (by kernel_rfl) (by simp) ?_
  refine AllReadyH.cons (o := ⟨some 83, _, _, _, _, _⟩) rfl (fun K hK => ?_) AllReadyH.nil
  go_simp
  go_at_call 14
  refine (HSM.out _ A5 c5 A6 c6 HV5b.out HV6.out).mono ?_
  rintro e_r x7 ⟨rfl, hbn⟩
  have hbx7 : Below w8.heap.size w8 x7 := bel_on (show Below w8.heap.size w8 _ by (repeat' (first | with_reducible exact Below.refl _ _ | with_reducible assumption | with_reducible refine bel_alloc ?_ _ | with_reducible refine bel_set ?_ ?_ _ | with_reducible refine below_drewN ?_ _ | with_reducible refine below_drew ?_ | (simp; done) | (simp; omega) | omega))) hbn
  clear hbn
  go_wp2_with fail
  refine hK.out _ _ ?_ (fun hHeld => ?_)
  · (try dsimp only)
    exact hbx7
  clear hK K
  (try simp only [Act.put, List.setIfInBounds_toArray, List.set_cons_zero, List.set_cons_succ])
  refine wpAnyH_take (i := 22) (oi := ⟨some 84, _, _, _, _, _⟩) (v := ?_) rfl (by kernel_rfl) (by kernel_rfl) (by kernel_rfl) (fun _ _ _ h => h) (Or.inl ⟨by rfl, ?_⟩) hHeld ?_
  rotate_left
  · intro ww hSw
    (try dsimp only at hSw)
    go_simp
    (try with_reducible rfl)
  simp only [Act.put, List.setIfInBounds_toArray, List.set_cons_zero, List.set_cons_succ]
  refine wpAnyH_take (i := 23) (oi := ⟨some 22, _, _, _, _, _⟩) (v := ?_) rfl (by kernel_rfl) (by kernel_rfl) (by kernel_rfl) (fun _ _ _ h => h) (Or.inl ⟨by rfl, ?_⟩) hHeld ?_
  rotate_left
  · intro ww hSw
    (try dsimp only at hSw)
    go_simp
    (try with_reducible rfl)
  simp only [Act.put, List.setIfInBounds_toArray, List.set_cons_zero, List.set_cons_succ]
  refine wpAnyH_done (by kernel_rfl) ?_ _
  refine NoPanic.normal ?_
  have H16b := Lib.hid (H16.out.below hbx7)
  have H19b := Lib.hid (H19.out.below hbx7)
  have HB7 := Lib.hid (bel_on HB.out hbx7)
  have Q1 := Lib.hid (conv_sl (S1.out.below hbx7))
  have Q2 := Lib.hid (conv_sl (S2.out.below hbx7))
  have Q3 := Lib.hid (conv_sl (S3.out.below hbx7))
  have Q4 := Lib.hid (conv_sl (S4.out.below hbx7))
  have K1 : Hid (((txtB X).toList == (txtB X).toList) = true) := Lib.hid (by rw [txt_eq]; simp)
  have K2 : Hid (((txtB Z).toList == (txtB Z).toList) = true) := Lib.hid (by rw [txt_eq]; simp)
  generalize txtB X = t1 at *
  generalize txtB Z = t2 at *
  clear HV5 HV6 HV5b HSM HSO HSO2 HLS HLS2 HCK HCK2 hbx1 hbx2 hbx3 hbx4 hbx5 hbx6 hbx7 H1 H2 HS S1 S2 S3 S4 H16 H19 HA HX HB hHeld
  go_upto_region 9 with fail
  refine wp_region_lit ?_
  refine wpList_step (fun K hK => ?_)
  go_simp
  refine hK _ _ ?_
  clear hK K
  (try simp only [Act.put, List.setIfInBounds_toArray, List.set_cons_zero, List.set_cons_succ])
  refine wpList_step (fun K hK => ?_)
  go_simp
  refine hK _ _ ?_
  clear hK K
  (try simp only [Act.put, List.setIfInBounds_toArray, List.set_cons_zero, List.set_cons_succ])
  refine wpList_step (fun K hK => ?_)
  go_simp
  refine hK _ _ ?_
  clear hK K
  (try simp only [Act.put, List.setIfInBounds_toArray, List.set_cons_zero, List.set_cons_succ])
  refine wpList_step (fun K hK => ?_)
  go_simp
  refine hK _ _ ?_
  clear hK K
  (try simp only [Act.put, List.setIfInBounds_toArray, List.set_cons_zero, List.set_cons_succ])
  refine wpList_step (fun K hK => ?_)
  go_simp
  refine hK _ _ ?_
  clear hK K
  (try simp only [Act.put, List.setIfInBounds_toArray, List.set_cons_zero, List.set_cons_succ])
  refine wpList_step (fun K hK => ?_)
  go_simp
  refine hK _ _ ?_
  clear hK K
  (try simp only [Act.put, List.setIfInBounds_toArray, List.set_cons_zero, List.set_cons_succ])
  have qf := Q1.out
  refine wpList_step (fun K hK => ?_)
  go_simp
  refine hK _ _ ?_
  clear hK K qf
  (try simp only [Act.put, List.setIfInBounds_toArray, List.set_cons_zero, List.set_cons_succ])
  refine wpList_step (fun K hK => ?_)
  go_simp
  refine hK _ _ ?_
  clear hK K
  (try simp only [Act.put, List.setIfInBounds_toArray, List.set_cons_zero, List.set_cons_succ])
  have qf := Q2.out
  refine wpList_step (fun K hK => ?_)
  go_simp
  refine hK _ _ ?_
  clear hK K qf
  (try simp only [Act.put, List.setIfInBounds_toArray, List.set_cons_zero, List.set_cons_succ])
  have qf := K1.out
  refine wpList_step (fun K hK => ?_)
  go_simp
  refine hK _ _ ?_
  clear hK K qf
  (try simp only [Act.put, List.setIfInBounds_toArray, List.set_cons_zero, List.set_cons_succ])
  refine wpList_step (fun K hK => ?_)
  go_simp
  refine hK _ _ ?_
  clear hK K
  (try simp only [Act.put, List.setIfInBounds_toArray, List.set_cons_zero, List.set_cons_succ])
  refine wpList_step (fun K hK => ?_)
  go_simp
  refine hK _ _ ?_
  clear hK K
  (try simp only [Act.put, List.setIfInBounds_toArray, List.set_cons_zero, List.set_cons_succ])
  refine wpList_step (fun K hK => ?_)
  go_simp
  refine hK _ _ ?_
  clear hK K
  (try simp only [Act.put, List.setIfInBounds_toArray, List.set_cons_zero, List.set_cons_succ])
  refine wpList_step (fun K hK => ?_)
  go_simp
  refine hK _ _ ?_
  clear hK K
  (try simp only [Act.put, List.setIfInBounds_toArray, List.set_cons_zero, List.set_cons_succ])
  refine wpList_step (fun K hK => ?_)
  go_simp
  refine hK _ _ ?_
  clear hK K
  (try simp only [Act.put, List.setIfInBounds_toArray, List.set_cons_zero, List.set_cons_succ])
  refine wpList_step (fun K hK => ?_)
  go_simp
  refine hK _ _ ?_
  clear hK K
  (try simp only [Act.put, List.setIfInBounds_toArray, List.set_cons_zero, List.set_cons_succ])
  refine wpList_step (fun K hK => ?_)
  go_simp
  refine hK _ _ ?_
  clear hK K
  (try simp only [Act.put, List.setIfInBounds_toArray, List.set_cons_zero, List.set_cons_succ])
  refine wpList_load_e (by rfl) _ rfl g16 rfl cy H16b.out ZY.out ?_
  (try simp only [Act.put, List.setIfInBounds_toArray, List.set_cons_zero, List.set_cons_succ])
  refine wpList_load_e (by rfl) _ rfl g19 rfl cy H19b.out ZY.out ?_
  (try simp only [Act.put, List.setIfInBounds_toArray, List.set_cons_zero, List.set_cons_succ])
  have qf := HEQ.out
  refine wpList_step (fun K hK => ?_)
  go_simp
  refine hK _ _ ?_
  clear hK K qf
  (try simp only [Act.put, List.setIfInBounds_toArray, List.set_cons_zero, List.set_cons_succ])
  refine wpList_step (fun K hK => ?_)
  go_simp
  refine hK _ _ ?_
  clear hK K
  (try simp only [Act.put, List.setIfInBounds_toArray, List.set_cons_zero, List.set_cons_succ])
  refine wpList_step (fun K hK => ?_)
  go_simp
  refine hK _ _ ?_
  clear hK K
  (try simp only [Act.put, List.setIfInBounds_toArray, List.set_cons_zero, List.set_cons_succ])
  refine wpList_step (fun K hK => ?_)
  go_simp
  refine hK _ _ ?_
  clear hK K
  (try simp only [Act.put, List.setIfInBounds_toArray, List.set_cons_zero, List.set_cons_succ])
  have qf := Q3.out
  refine wpList_step (fun K hK => ?_)
  go_simp
  refine hK _ _ ?_
  clear hK K qf
  (try simp only [Act.put, List.setIfInBounds_toArray, List.set_cons_zero, List.set_cons_succ])
  refine wpList_step (fun K hK => ?_)
  go_simp
  refine hK _ _ ?_
  clear hK K
  (try simp only [Act.put, List.setIfInBounds_toArray, List.set_cons_zero, List.set_cons_succ])
  have qf := Q4.out
  refine wpList_step (fun K hK => ?_)
  go_simp
  refine hK _ _ ?_
  clear hK K qf
  (try simp only [Act.put, List.setIfInBounds_toArray, List.set_cons_zero, List.set_cons_succ])
  have qf := K2.out
  refine wpList_step (fun K hK => ?_)
  go_simp
  refine hK _ _ ?_
  clear hK K qf
  (try simp only [Act.put, List.setIfInBounds_toArray, List.set_cons_zero, List.set_cons_succ])
  refine wpList_step (fun K hK => ?_)
  go_simp
  refine hK _ _ ?_
  clear hK K
  (try simp only [Act.put, List.setIfInBounds_toArray, List.set_cons_zero, List.set_cons_succ])
  refine wpList_step (fun K hK => ?_)
  go_simp
  refine hK _ _ ?_
  clear hK K
  (try simp only [Act.put, List.setIfInBounds_toArray, List.set_cons_zero, List.set_cons_succ])
  refine wpList_step (fun K hK => ?_)
  go_simp
  refine hK _ _ ?_
  clear hK K
  (try simp only [Act.put, List.setIfInBounds_toArray, List.set_cons_zero, List.set_cons_succ])
  refine wpList_step (fun K hK => ?_)
  go_simp
  refine hK _ _ ?_
  clear hK K
  (try simp only [Act.put, List.setIfInBounds_toArray, List.set_cons_zero, List.set_cons_succ])
  refine wpList_step (fun K hK => ?_)
  go_simp
  refine hK _ _ ?_
  clear hK K
  (try simp only [Act.put, List.setIfInBounds_toArray, List.set_cons_zero, List.set_cons_succ])
  refine wpList_step (fun K hK => ?_)
  go_simp
  refine hK _ _ ?_
  clear hK K
  (try simp only [Act.put, List.setIfInBounds_toArray, List.set_cons_zero, List.set_cons_succ])
  refine wpList_step (fun K hK => ?_)
  go_simp
  refine hK _ _ ?_
  clear hK K
  (try simp only [Act.put, List.setIfInBounds_toArray, List.set_cons_zero, List.set_cons_succ])
  refine wpList_nil ?_
  go_wp2
  go_ret
  exact ⟨rfl, HB7.out⟩
set_option maxHeartbeats 4000000 in
theorem eventTells_out (cs : Array Value) (pl : Int) (nE nC nG nR : Nat) (hq : SetQ cs pl nE nC nG nR) (A : Option Addr) (n c : Nat) (a b : EvP) (B : Option Addr) (m d : Nat) (w : World) (h : ¬ (n ≤ 100 ∧ m ≤ 1000)) :
    Calls Try.prog 3 #[.agg cs, .slice A n c, .agg (evC a), .agg (evC b), .slice B m d] w fun e w' => e = .returned (.bool true) ∧ Below w.heap.size w w' := by
  have HFEW := Lib.hid (fun W => few8 hq W)
  have HZS := Lib.hid hq.size
  have ways : (100 : Int) < (n : Int) ∨ ((n : Int) ≤ 100 ∧ (1000 : Int) < (m : Int)) := by omega
  clear hq h
  generalize evC a = ca at *
  generalize evC b = cb at *
  go_enter Try.func3, Try.ntmps3
  go_wp2_with fail
  refine (awake8 _).mono ?_
  rintro e w1 ⟨rfl, b1⟩
  have HS := Lib.hid ((((Has.new w 30 cs rfl).alloc (.cells ca 33)).alloc (.cells cb 33)).below b1)
  have hb1 := bel_on (bel_alloc (bel_alloc (bel_alloc (Below.refl w.heap.size w) _) _) _) b1
  clear b1
  go_wp2_with (refine wpList_load_s (by rfl) _ rfl w.heap.size rfl cs HS.out HZS.out ?_)
  refine (HFEW.out _).mono ?_
  rintro e w2 ⟨fb, rfl, b2⟩
  have hb2 := bel_on hb1 b2
  clear b2 hb1
  rcases ways with h1 | ⟨h1, h2⟩
  all_goals
    cases fb
    all_goals
      go_wp2
      go_ret
      exact ⟨rfl, hb2⟩
theorem eventTells_walk (s : SetP) (A1 A2 A3 A4 A5 A6 : Option Addr) (c1 c2 c3 c4 c5 c6 : Nat) (A : Option Addr) (n c : Nat) (l : List EvP) (a b : EvP) (a4 : Option Addr) (len4 cap4 : Nat) (z4 : List Int) (w : World) (u0 : SetAt w s A1 A2 A3 A4 A5 A6 c1 c2 c3 c4 c5 c6) (f0 : s.Fit)
    (h : Evs w A n c l) (hi : ∀ e ∈ l, e.In) (hc : n ≤ c) (hm : c ≤ 9223372036854775807) (ha : a.In) (hb : b.In) (r4 : IsRow .u8 w a4 len4 cap4 z4) :
    Calls Try.prog 3 #[setV s A1 A2 A3 A4 A5 A6 c1 c2 c3 c4 c5 c6, .slice A n c, .agg (evC a), .agg (evC b), .slice a4 len4 cap4] w fun e w' => e = .returned (.bool true) ∧ Below w.heap.size w w' := by
  obtain ⟨cs, hcs, hq⟩ := setQ_of s A1 A2 A3 A4 A5 A6 c1 c2 c3 c4 c5 c6
  rw [hcs]
  by_cases hh : n ≤ 100 ∧ len4 ≤ 1000
  · obtain ⟨bs, hl, hx, _⟩ := bytes_of_row r4
    exact eventTells_in cs _ _ _ _ _ hq A n c l a b ha hb a4 len4 cap4 bs w h hx (bytes_caps r4).1 hh.1 hh.2
  · exact eventTells_out cs _ _ _ _ _ hq A n c a b a4 len4 cap4 w hh
end Go.Proofs.Ytgfomfioagblfaa

namespace Go.Proofs.Ytgfomfioagblfaa
open Go.RowKit Go.Deep Go.WideShapes
set_option linter.unusedVariables false
set_option maxRecDepth 20000

theorem nums_at {P : Program} {t : TypeId} {k : Nat} (h : NumsT P t k) (hk : P.cellsOf t = k) : NumsT P t (P.cellsOf t) := by rw [hk]; exact h
theorem numsT_int : NumsT Try.prog 3 1 := alli_int Try.underlying3
theorem numsT_ratio : NumsT Try.prog 24 2 := alli_struct Try.underlying24 (by kernel_rfl)
  ⟨rfl, nums_at numsT_int (by kernel_rfl), by kernel_rfl, nums_at numsT_int (by kernel_rfl), by change _ = _; kernel_rfl⟩
theorem numsT_way : NumsT Try.prog 94 3 := alli_struct Try.underlying94 (by kernel_rfl)
  ⟨rfl, nums_at numsT_int (by kernel_rfl), by kernel_rfl, nums_at numsT_int (by kernel_rfl), by kernel_rfl, nums_at numsT_int (by kernel_rfl), by change _ = _; kernel_rfl⟩
theorem numsT_tier : NumsT Try.prog 98 2 := alli_struct Try.underlying98 (by kernel_rfl)
  ⟨rfl, nums_at numsT_int (by kernel_rfl), by kernel_rfl, nums_at numsT_int (by kernel_rfl), by change _ = _; kernel_rfl⟩
theorem numsT_element : NumsT Try.prog 96 4 := alli_struct Try.underlying96 (by kernel_rfl)
  ⟨rfl, nums_at numsT_ratio (by kernel_rfl), by kernel_rfl, nums_at numsT_ratio (by kernel_rfl), by change _ = _; kernel_rfl⟩
theorem setup_open {H : Type} {enc : TypeId × Value → H} {w : World} {r : Reach} {b0 base : Nat} {held : Bool} {v : Value} {d : DataW H} {p : List MemPlace}
    (hv : Value.okWide Try.prog w r b0 30 v) (h : DataW.Trod enc Try.prog w base (fun _ => true) held 30 v d p) :
    ∃ (s : SetP) (A1 A2 A3 A4 A5 A6 : Option Addr) (c1 c2 c3 c4 c5 c6 : Nat), v = setV s A1 A2 A3 A4 A5 A6 c1 c2 c3 c4 c5 c6 ∧ SetAt w s A1 A2 A3 A4 A5 A6 c1 c2 c3 c4 c5 c6 ∧ s.Fit :=
  open_setup Try.underlying30 (by kernel_rfl) (by kernel_rfl) Try.underlying3 (by kernel_rfl) Try.underlying22 numsT_way (by kernel_rfl) numsT_ratio
    Try.underlying25 numsT_element (by kernel_rfl) Try.underlying26 numsT_ratio (by kernel_rfl) Try.underlying27 Try.underlying28 numsT_tier (by kernel_rfl) hv h
end Go.Proofs.Ytgfomfioagblfaa
