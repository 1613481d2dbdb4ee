/-
  Package setup: what reads: one number.
-/
import Derived.Test.YtdhkfhgggkndoaaSetN
import Derived.Test.YtdhkfhgggkndoaaPkE
import Derived.Test.YtdhkfhgggkndoaaOrders
namespace Go.Proofs.Ytdhkfhgggkndoaa
open Go.RowKit
set_option linter.unusedVariables false
set_option linter.unusedSimpArgs false
set_option maxRecDepth 20000

/-- What reads lies at block g, and has the bytes l left, which lie where they lay in R0; the blocks F are not its own. -/
structure RPen (R0 : World) (F : Nat → Prop) (g : Nat) (l : List (BitVec 8)) (w : World) : Prop where
  lay : ∃ A c, Has w g #[.slice A l.length c] ∧ (∀ w0, Below R0.heap.size R0 w0 → Sl 1 w0 A l.length c (bytesV l)) ∧ l.length ≤ c
  bel : Below R0.heap.size R0 w
  own : R0.heap.size ≤ g
  out : ¬ F g
  low : ∀ b, F b → b < w.heap.size
/-- One number off bytes; 0, if there is none. -/
def rd1 (l : List (BitVec 8)) : Nat × List (BitVec 8) := match takeB (l.take 9) with
  | some (m, _) => (m, l.drop (oneB m).length)
  | none => (0, l)
theorem rd1_ok {n : Nat} (hn : n < 9223372036854775808) (r : List (BitVec 8)) : rd1 (oneB n ++ r) = (n, r) := by
  have h9 : (oneB n).length ≤ 9 := by have := digs_eight hn; have := @one_len n; omega
  unfold rd1
  rw [List.take_append, List.take_of_length_le h9, take_one hn]
  simp
theorem exec_min2 {P : Program} {o : Oper} {ρ : Operand → Value} {ww : World} {x y : Operand} {ts : Array TypeId} (p q n : Nat) (hn : min p q = n)
    (ho : o.op = .call { callee := .builtin .min, args := #[x, y], argTypes := ts }) (hx : ρ x = .int .i64 (p : Int)) (hy : ρ y = .int .i64 (q : Int)) :
    (execOp ρ o).run P ww = .ok (.value (.int .i64 (n : Int))) ww := by
  have e : (if (q : Int) < (p : Int) then (q : Int) else (p : Int)) = (n : Int) := by
    subst hn
    by_cases h1 : (q : Int) < (p : Int)
    · rw [if_pos h1]; omega
    · rw [if_neg h1]; omega
  unfold execOp
  simp only [ho, resolve, invoke, builtin, Sem.run_bind, Sem.run_pure, Result.andThen_ok, List.map_toArray, List.map_cons, List.map_nil, hx, hy, run_min_int2, e]
theorem size_max (w : World) : Calls Try.prog 54 #[.int .i64 9223372036854775807] w fun e w' => e = .returned (.int .i64 9) ∧ Below w.heap.size w w' := by
  have := size_nat 9223372036854775807 w (by decide)
  have e : (digs 9223372036854775807).length = 8 := by
    rw [digs_step (by decide), show (9223372036854775807 : Nat) / 256 = 36028797018963967 from rfl, digs_step (by decide), show (36028797018963967 : Nat) / 256 = 140737488355327 from rfl, digs_step (by decide), show (140737488355327 : Nat) / 256 = 549755813887 from rfl,
      digs_step (by decide), show (549755813887 : Nat) / 256 = 2147483647 from rfl, digs_step (by decide), show (2147483647 : Nat) / 256 = 8388607 from rfl, digs_step (by decide), show (8388607 : Nat) / 256 = 32767 from rfl, digs_step (by decide), show (32767 : Nat) / 256 = 127 from rfl,
      digs_step (by decide), show (127 : Nat) / 256 = 0 from rfl, digs_zero]
    rfl
  rw [e] at this
  exact sameB this
set_option maxHeartbeats 2000000 in
theorem rnum_ok (R0 : World) (F : Nat → Prop) (g q o : Nat) (cs : Array Value) (z : Int) (m : Nat) (t l : List (BitVec 8)) (w : World) (hq : F q) (hqo : R0.heap.size ≤ q) (hcs : Has w q cs) (hz : cs[o]? = some (.int .i64 z)) (h : RPen R0 F g l w) (hl : l.length ≤ 1000000) (ht : takeB (l.take 9) = some (m, t)) :
    Calls Try.prog 136 #[.pointer (some ⟨g, 0, none⟩), .pointer (some ⟨q, o, none⟩)] w fun e w' => e = .returned (.tuple #[]) ∧ Kept (fun b => F b ∧ b ≠ q) w w' ∧ Has w' q (cs.setIfInBounds o (.int .i64 m)) ∧ RPen R0 F g (l.drop (oneB m).length) w' := by
  obtain ⟨⟨A, c, h1, h2, h3⟩, h4, h5, h6, h7⟩ := h
  have hgs := h1.size
  have HG := Lib.hid (h1.cell 0 rfl)
  have hgq : g ≠ q := fun e => h6 (e ▸ hq)
  obtain ⟨k, hk⟩ : ∃ k, min l.length 9 = k := ⟨_, rfl⟩
  have hkl : k ≤ l.length := by omega
  obtain ⟨A2, hcut, hs2⟩ := cut_to_all (h2 w h4) h3 k hkl
  have etk : l.take k = l.take 9 := by
    subst hk
    rw [List.take_eq_take_iff]
    omega
  rw [etk] at hs2
  obtain ⟨e1, hm63⟩ := take_own ht
  have hol : (oneB m).length ≤ l.length := by
    have := congrArg List.length e1
    rw [List.length_append, List.length_take] at this
    omega
  obtain ⟨A4, hcut4, hs4⟩ := cut_from_all (h2 w h4) h3 (oneB m).length hol
  have HC := Lib.hid hcut
  have HC4 := Lib.hid hcut4
  have HK := Lib.hid hk
  have HT := Lib.hid (fun (wx : World) (hx : Below w.heap.size w wx) => take_ok A2 k c (l.take 9) t m wx (hs2 wx (h2 wx (bel_on h4 hx))) (by omega) (by omega) ht)
  have HSZ := Lib.hid (fun wx => sameB (size_at m wx hm63))
  have ho : (oneB m).length ≤ 1000 := by have := digs_eight hm63; have := @one_len m; omega
  have HL : Hid ((l.drop (oneB m).length).length = l.length - (oneB m).length) := by show _ = _; rw [List.length_drop]
  have HE := Lib.hid (And.intro h1 (And.intro h2 (And.intro h4 (And.intro hcs (And.intro hz hs4)))))
  clear h1 h2 hcut hcut4 hk hs2 ht e1 etk hcs hz hs4 h4
  generalize hod : (oneB m).length = od at *
  have HOD := Lib.hid hod
  clear hod
  go_enter Try.func136, Try.ntmps136
  go_wp2_with fail
  refine wp_region_noPanic ?_
  refine wp_region_held_drew (S := fun w' => Below w.heap.size w w') (by kernel_rfl) (below_drew (Below.refl _ _)) (fun hHeld => ?_)
  refine wpAnyH_take (i := 0) (oi := ⟨some 8, _, _, _, _, _⟩) (v := ?_) rfl (by kernel_rfl) (by kernel_rfl) (by kernel_rfl) (fun _ _ _ h => h) (Or.inl ⟨by rfl, ?_⟩) hHeld ?_
  rotate_left
  · intro ww hSw
    (try dsimp only at hSw)
    go_simp
    (try with_reducible rfl)
  simp only [Act.put, List.setIfInBounds_toArray, List.set_cons_zero, List.set_cons_succ]
  refine wpAnyH_take (i := 1) (oi := ⟨some 9, _, _, _, _, _⟩) (v := ?_) rfl (by kernel_rfl) (by kernel_rfl) (by kernel_rfl) (fun _ _ _ h => h) (Or.inl ⟨by rfl, ?_⟩) hHeld ?_
  rotate_left
  · intro ww hSw
    (try dsimp only at hSw)
    go_simp
    (try with_reducible rfl)
  simp only [Act.put, List.setIfInBounds_toArray, List.set_cons_zero, List.set_cons_succ]
  refine wpAnyH_take (i := 2) (oi := ⟨some 10, _, _, _, _, _⟩) (v := ?_) rfl (by kernel_rfl) (by kernel_rfl) (by kernel_rfl) (fun _ _ _ h => h) (Or.inl ⟨by rfl, ?_⟩) hHeld ?_
  rotate_left
  · intro ww hSw
    (try dsimp only at hSw)
    go_simp
    (try with_reducible rfl)
  simp only [Act.put, List.setIfInBounds_toArray, List.set_cons_zero, List.set_cons_succ]
  refine wpAnyH_take (i := 3) (oi := ⟨some 11, _, _, _, _, _⟩) (v := ?_) rfl (by kernel_rfl) (by kernel_rfl) (by kernel_rfl) (fun _ _ _ h => h) (Or.inl ⟨by rfl, ?_⟩) hHeld ?_
  rotate_left
  · intro ww hSw
    (try dsimp only at hSw)
    go_simp
    (try with_reducible rfl)
  simp only [Act.put, List.setIfInBounds_toArray, List.set_cons_zero, List.set_cons_succ]
  refine wpAnyH_take (i := 4) (oi := ⟨some 12, _, _, _, _, _⟩) (v := .slice A l.length c) rfl (by kernel_rfl) (by kernel_rfl) (by kernel_rfl) (fun _ _ _ h => h) (Or.inl ⟨by rfl, ?_⟩) hHeld ?_
  · intro ww hSw
    (try dsimp only at hSw)
    have hcl := (hSw.cell (p := ⟨g, 0, none⟩) hgs).trans HG.out
    have hcs := cell_lt hcl
    go_simp
  simp only [Act.put, List.setIfInBounds_toArray, List.set_cons_zero, List.set_cons_succ]
  refine wpAnyH_take (i := 5) (oi := ⟨some 13, _, _, _, _, _⟩) (v := ?_) rfl (by kernel_rfl) (by kernel_rfl) (by kernel_rfl) (fun _ _ _ h => h) (Or.inl ⟨by rfl, ?_⟩) hHeld ?_
  rotate_left
  · intro ww hSw
    (try dsimp only at hSw)
    go_simp
    (try with_reducible rfl)
  simp only [Act.put, List.setIfInBounds_toArray, List.set_cons_zero, List.set_cons_succ]
  refine wpAnyH_take (i := 6) (oi := ⟨some 14, _, _, _, _, _⟩) (v := ?_) rfl (by kernel_rfl) (by kernel_rfl) (by kernel_rfl) (fun _ _ _ h => h) (Or.inl ⟨by rfl, ?_⟩) hHeld ?_
  rotate_left
  · intro ww hSw
    (try dsimp only at hSw)
    go_simp
    (try with_reducible rfl)
  simp only [Act.put, List.setIfInBounds_toArray, List.set_cons_zero, List.set_cons_succ]
  refine wpAnyH_take (i := 7) (oi := ⟨some 15, _, _, _, _, _⟩) (v := ?_) rfl (by kernel_rfl) (by kernel_rfl) (by kernel_rfl) (fun _ _ _ h => h) (Or.inl ⟨by rfl, ?_⟩) hHeld ?_
  rotate_left
  · intro ww hSw
    (try dsimp only at hSw)
    go_simp
    (try with_reducible rfl)
  simp only [Act.put, List.setIfInBounds_toArray, List.set_cons_zero, List.set_cons_succ]
  refine wpAnyH_take (i := 8) (oi := ⟨some 16, _, _, _, _, _⟩) (v := ?_) rfl (by kernel_rfl) (by kernel_rfl) (by kernel_rfl) (fun _ _ _ h => h) (Or.inl ⟨by rfl, ?_⟩) hHeld ?_
  rotate_left
  · intro ww hSw
    (try dsimp only at hSw)
    go_simp
    (try with_reducible rfl)
  simp only [Act.put, List.setIfInBounds_toArray, List.set_cons_zero, List.set_cons_succ]
  refine wpAnyH_take (i := 9) (oi := ⟨some 17, _, _, _, _, _⟩) (v := .slice A l.length c) rfl (by kernel_rfl) (by kernel_rfl) (by kernel_rfl) (fun _ _ _ h => h) (Or.inl ⟨by rfl, ?_⟩) hHeld ?_
  · intro ww hSw
    (try dsimp only at hSw)
    have hcl := (hSw.cell (p := ⟨g, 0, none⟩) hgs).trans HG.out
    have hcs := cell_lt hcl
    go_simp
  simp only [Act.put, List.setIfInBounds_toArray, List.set_cons_zero, List.set_cons_succ]
  refine wpAnyH_take (i := 10) (oi := ⟨some 18, _, _, _, _, _⟩) (v := ?_) rfl (by kernel_rfl) (by kernel_rfl) (by kernel_rfl) (fun _ _ _ h => h) (Or.inl ⟨by rfl, ?_⟩) hHeld ?_
  rotate_left
  · intro ww hSw
    (try dsimp only at hSw)
    go_simp
    (try with_reducible rfl)
  simp only [Act.put, List.setIfInBounds_toArray, List.set_cons_zero, List.set_cons_succ]
  refine wpAnyH_ready (rs := [11]) (by kernel_rfl) (by simp) ?_
  refine AllReadyH.cons (o := ⟨some 19, _, _, _, _, _⟩) rfl (fun K hK => ?_) AllReadyH.nil
  go_simp
  go_at_call 54
  refine (size_max _).mono ?_
  rintro e_r w1 ⟨rfl, hbn⟩
  have hbw1 : Below w.heap.size w w1 := bel_on (show Below w.heap.size w _ by (repeat' (first | with_reducible exact Below.refl _ _ | with_reducible assumption | with_reducible refine bel_alloc ?_ _ | with_reducible refine bel_set ?_ ?_ _ | with_reducible refine below_drewN ?_ _ | with_reducible refine below_drew ?_ | (simp; done) | (simp; omega) | omega))) hbn
  clear hbn
  go_wp2_with fail
  refine hK.out _ _ ?_ (fun hHeld => ?_)
  · (try dsimp only)
    exact hbw1
  clear hK K
  (try simp only [Act.put, List.setIfInBounds_toArray, List.set_cons_zero, List.set_cons_succ])
  refine wpAnyH_take (i := 12) (oi := ⟨some 20, _, _, _, _, _⟩) (v := .int .i64 (k : Nat)) rfl (by kernel_rfl) (by kernel_rfl) (by kernel_rfl) (fun _ _ _ h => h) (Or.inl ⟨by rfl, ?_⟩) hHeld ?_
  · intro ww hSw
    (try dsimp only at hSw)
    exact exec_min2 l.length 9 k HK.out rfl rfl rfl
  simp only [Act.put, List.setIfInBounds_toArray, List.set_cons_zero, List.set_cons_succ]
  refine wpAnyH_take (i := 13) (oi := ⟨some 21, _, _, _, _, _⟩) (v := .slice A2 k c) rfl (by kernel_rfl) (by kernel_rfl) (by kernel_rfl) (fun _ _ _ h => h) (Or.inl ⟨by rfl, ?_⟩) hHeld ?_
  · intro ww hSw
    (try dsimp only at hSw)
    exact exec_slice_run HC.out rfl rfl rfl rfl rfl
  simp only [Act.put, List.setIfInBounds_toArray, List.set_cons_zero, List.set_cons_succ]
  refine wpAnyH_ready (rs := [14]) (by kernel_rfl) (by simp) ?_
  refine AllReadyH.cons (o := ⟨some 22, _, _, _, _, _⟩) rfl (fun K hK => ?_) AllReadyH.nil
  go_simp
  go_at_call 53
  refine (HT.out _ (by (repeat' (first | with_reducible exact Below.refl _ _ | with_reducible assumption | with_reducible refine bel_alloc ?_ _ | with_reducible refine bel_set ?_ ?_ _ | with_reducible refine below_drewN ?_ _ | with_reducible refine below_drew ?_ | (simp; done) | (simp; omega) | omega)))).mono ?_
  rintro e_r w2 ⟨A3, c3, rfl, _, hbn⟩
  have hbw2 : Below w.heap.size w w2 := bel_on (show Below w.heap.size w _ by (repeat' (first | with_reducible exact Below.refl _ _ | with_reducible assumption | with_reducible refine bel_alloc ?_ _ | with_reducible refine bel_set ?_ ?_ _ | with_reducible refine below_drewN ?_ _ | with_reducible refine below_drew ?_ | (simp; done) | (simp; omega) | omega))) hbn
  clear hbn
  go_wp2_with fail
  refine hK.out _ _ ?_ (fun hHeld => ?_)
  · (try dsimp only)
    exact hbw2
  clear hK K
  (try simp only [Act.put, List.setIfInBounds_toArray, List.set_cons_zero, List.set_cons_succ])
  refine wpAnyH_take (i := 15) (oi := ⟨some 7, _, _, _, _, _⟩) (v := ?_) rfl (by kernel_rfl) (by kernel_rfl) (by kernel_rfl) (fun _ _ _ h => h) (Or.inl ⟨by rfl, ?_⟩) hHeld ?_
  rotate_left
  · intro ww hSw
    (try dsimp only at hSw)
    go_simp
    (try with_reducible rfl)
  simp only [Act.put, List.setIfInBounds_toArray, List.set_cons_zero, List.set_cons_succ]
  refine wpAnyH_take (i := 16) (oi := ⟨some 23, _, _, _, _, _⟩) (v := ?_) rfl (by kernel_rfl) (by kernel_rfl) (by kernel_rfl) (fun _ _ _ h => h) (Or.inl ⟨by rfl, ?_⟩) hHeld ?_
  rotate_left
  · intro ww hSw
    (try dsimp only at hSw)
    go_simp
    (try with_reducible rfl)
  simp only [Act.put, List.setIfInBounds_toArray, List.set_cons_zero, List.set_cons_succ]
  refine wpAnyH_take (i := 17) (oi := ⟨some 24, _, _, _, _, _⟩) (v := ?_) rfl (by kernel_rfl) (by kernel_rfl) (by kernel_rfl) (fun _ _ _ h => h) (Or.inl ⟨by rfl, ?_⟩) hHeld ?_
  rotate_left
  · intro ww hSw
    (try dsimp only at hSw)
    go_simp
    (try with_reducible rfl)
  simp only [Act.put, List.setIfInBounds_toArray, List.set_cons_zero, List.set_cons_succ]
  refine wpAnyH_take (i := 18) (oi := ⟨some 25, _, _, _, _, _⟩) (v := ?_) rfl (by kernel_rfl) (by kernel_rfl) (by kernel_rfl) (fun _ _ _ h => h) (Or.inl ⟨by rfl, ?_⟩) hHeld ?_
  rotate_left
  · intro ww hSw
    (try dsimp only at hSw)
    go_simp
    (try with_reducible rfl)
  simp only [Act.put, List.setIfInBounds_toArray, List.set_cons_zero, List.set_cons_succ]
  refine wpAnyH_take (i := 19) (oi := ⟨some 4, _, _, _, _, _⟩) (v := ?_) rfl (by kernel_rfl) (by kernel_rfl) (by kernel_rfl) (fun _ _ _ h => h) (Or.inl ⟨by rfl, ?_⟩) hHeld ?_
  rotate_left
  · intro ww hSw
    (try dsimp only at hSw)
    go_simp
    (try with_reducible rfl)
  simp only [Act.put, List.setIfInBounds_toArray, List.set_cons_zero, List.set_cons_succ]
  refine wpAnyH_take (i := 20) (oi := ⟨some 5, _, _, _, _, _⟩) (v := ?_) rfl (by kernel_rfl) (by kernel_rfl) (by kernel_rfl) (fun _ _ _ h => h) (Or.inl ⟨by rfl, ?_⟩) hHeld ?_
  rotate_left
  · intro ww hSw
    (try dsimp only at hSw)
    go_simp
    (try with_reducible rfl)
  simp only [Act.put, List.setIfInBounds_toArray, List.set_cons_zero, List.set_cons_succ]
  refine wpAnyH_take (i := 21) (oi := ⟨some 6, _, _, _, _, _⟩) (v := ?_) rfl (by kernel_rfl) (by kernel_rfl) (by kernel_rfl) (fun _ _ _ h => h) (Or.inl ⟨by rfl, ?_⟩) hHeld ?_
  rotate_left
  · intro ww hSw
    (try dsimp only at hSw)
    go_simp
    (try with_reducible rfl)
  simp only [Act.put, List.setIfInBounds_toArray, List.set_cons_zero, List.set_cons_succ]
  refine wpAnyH_done (by kernel_rfl) ?_ _
  refine NoPanic.normal ?_
  have hq2 := HE.out.2.2.2.1.below hbw2
  have hg2 := HE.out.1.below hbw2
  have HW3 : Hid (Has (w2.setCell ⟨q, o, none⟩ (.int .i64 (m : Int))) q (cs.setIfInBounds o (.int .i64 m)) ∧ Has (w2.setCell ⟨q, o, none⟩ (.int .i64 (m : Int))) g #[.slice A l.length c] ∧ Kept (fun b => F b ∧ b ≠ q) w (w2.setCell ⟨q, o, none⟩ (.int .i64 (m : Int))) ∧ Below R0.heap.size R0 (w2.setCell ⟨q, o, none⟩ (.int .i64 (m : Int)))) :=
    ⟨hq2.set o _, hg2.far hgq _, (Kept.of_below hbw2 (F := fun b => F b ∧ b ≠ q) (fun b hb => h7 b hb.1)).set (fun hb => hb.2 rfl) _, (bel_on HE.out.2.2.1 hbw2).setCell hqo _⟩
  have kz := hq2.cell o HE.out.2.2.2.2.1
  have kf := hq2.frozen o
  have kqs := hq2.size
  clear hHeld
  go_wp2_with fail
  clear kz kf kqs hq2 hg2
  generalize w2.setCell ⟨q, o, none⟩ (.int .i64 (m : Int)) = w3 at *
  obtain ⟨hq3, hg3, hk3, hb3⟩ := HW3.out
  have HQ3 := Lib.hid hq3
  have HG3 := Lib.hid hg3
  have hgs3 := hg3.size
  have kg3 := hg3.cell 0 rfl
  have HK3 := Lib.hid hk3
  have HB3 := Lib.hid hb3
  clear HW3 hq3 hg3 hk3 hb3
  refine wp_region_noPanic ?_
  refine wp_region_held_drew (S := fun w' => Kept (fun b => b < w3.heap.size ∧ b ≠ g) w3 w') (by kernel_rfl) (Kept.of_below (below_drew (Below.refl _ _)) fun b hb => hb.1) (fun hHeld => ?_)
  refine wpAnyH_take (i := 0) (oi := ⟨some 31, _, _, _, _, _⟩) (v := ?_) rfl (by kernel_rfl) (by kernel_rfl) (by kernel_rfl) (fun _ _ _ h => h) (Or.inl ⟨by rfl, ?_⟩) hHeld ?_
  rotate_left
  · intro ww hSw
    (try dsimp only at hSw)
    go_simp
    (try with_reducible rfl)
  simp only [Act.put, List.setIfInBounds_toArray, List.set_cons_zero, List.set_cons_succ]
  refine wpAnyH_take (i := 1) (oi := ⟨some 32, _, _, _, _, _⟩) (v := ?_) rfl (by kernel_rfl) (by kernel_rfl) (by kernel_rfl) (fun _ _ _ h => h) (Or.inl ⟨by rfl, ?_⟩) hHeld ?_
  rotate_left
  · intro ww hSw
    (try dsimp only at hSw)
    go_simp
    (try with_reducible rfl)
  simp only [Act.put, List.setIfInBounds_toArray, List.set_cons_zero, List.set_cons_succ]
  refine wpAnyH_take (i := 2) (oi := ⟨some 33, _, _, _, _, _⟩) (v := ?_) rfl (by kernel_rfl) (by kernel_rfl) (by kernel_rfl) (fun _ _ _ h => h) (Or.inl ⟨by rfl, ?_⟩) hHeld ?_
  rotate_left
  · intro ww hSw
    (try dsimp only at hSw)
    go_simp
    (try with_reducible rfl)
  simp only [Act.put, List.setIfInBounds_toArray, List.set_cons_zero, List.set_cons_succ]
  refine wpAnyH_take (i := 3) (oi := ⟨some 34, _, _, _, _, _⟩) (v := ?_) rfl (by kernel_rfl) (by kernel_rfl) (by kernel_rfl) (fun _ _ _ h => h) (Or.inl ⟨by rfl, ?_⟩) hHeld ?_
  rotate_left
  · intro ww hSw
    (try dsimp only at hSw)
    go_simp
    (try with_reducible rfl)
  simp only [Act.put, List.setIfInBounds_toArray, List.set_cons_zero, List.set_cons_succ]
  refine wpAnyH_take (i := 4) (oi := ⟨some 35, _, _, _, _, _⟩) (v := ?_) rfl (by kernel_rfl) (by kernel_rfl) (by kernel_rfl) (fun _ _ _ h => h) (Or.inl ⟨by rfl, ?_⟩) hHeld ?_
  rotate_left
  · intro ww hSw
    (try dsimp only at hSw)
    go_simp
    (try with_reducible rfl)
  simp only [Act.put, List.setIfInBounds_toArray, List.set_cons_zero, List.set_cons_succ]
  refine wpAnyH_take (i := 6) (oi := ⟨some 37, _, _, _, _, _⟩) (v := ?_) rfl (by kernel_rfl) (by kernel_rfl) (by kernel_rfl) (fun _ _ _ h => h) (Or.inl ⟨by rfl, ?_⟩) hHeld ?_
  rotate_left
  · intro ww hSw
    (try dsimp only at hSw)
    go_simp
    (try with_reducible rfl)
  simp only [Act.put, List.setIfInBounds_toArray, List.set_cons_zero, List.set_cons_succ]
  refine wpAnyH_ready (rs := [5, 7]) (by kernel_rfl) (by simp) ?_
  refine AllReadyH.cons (o := ⟨some 36, _, _, _, _, _⟩) rfl (fun K hK => ?_) (AllReadyH.cons (o := ⟨some 38, _, _, _, _, _⟩) rfl (fun K hK => ?_) AllReadyH.nil)
  rotate_left
  · skip
    go_simp
    go_at_call 54
    refine (HSZ.out _).mono ?_
    rintro e_r w4 ⟨rfl, hbn⟩
    have hb4 : Below w3.heap.size w3 w4 := bel_on (show Below w3.heap.size w3 _ by (repeat' (first | with_reducible exact Below.refl _ _ | with_reducible assumption | with_reducible refine bel_alloc ?_ _ | with_reducible refine bel_set ?_ ?_ _ | with_reducible refine below_drewN ?_ _ | with_reducible refine below_drew ?_ | (simp; done) | (simp; omega) | omega))) hbn
    clear hbn
    (try rw [HOD.out])
    go_wp2_with fail
    refine hK.out _ _ ?_ (fun hHeld => ?_)
    · (try dsimp only)
      exact Kept.of_below hb4 fun b hb => hb.1
    clear hK K
    (try simp only [Act.put, List.setIfInBounds_toArray, List.set_cons_zero, List.set_cons_succ])
    refine wpAnyH_ready (rs := [5]) (by kernel_rfl) (by simp) ?_
    refine AllReadyH.cons (o := ⟨some 36, _, _, _, _, _⟩) rfl (fun K hK => ?_) AllReadyH.nil
    have hcl : World.cell? w4 ⟨g, 0, none⟩ = some (.slice A l.length c) := (hb4.cell (p := ⟨g, 0, none⟩) hgs3).trans kg3
    have hcs := cell_lt hcl
    go_simp
    refine hK.out _ _ ?_ (fun hHeld => ?_)
    · (try dsimp only)
      exact hHeld
    clear hK K
    (try simp only [Act.put, List.setIfInBounds_toArray, List.set_cons_zero, List.set_cons_succ])
    clear hcl hcs
    refine wpAnyH_take (i := 8) (oi := ⟨some 39, _, _, _, _, _⟩) (v := .slice A4 (l.length - od) (c - od)) rfl (by kernel_rfl) (by kernel_rfl) (by kernel_rfl) (fun _ _ _ h => h) (Or.inl ⟨by rfl, ?_⟩) hHeld ?_
    · intro ww hSw
      (try dsimp only at hSw)
      exact exec_slice_run HC4.out rfl rfl rfl rfl rfl
    simp only [Act.put, List.setIfInBounds_toArray, List.set_cons_zero, List.set_cons_succ]
    refine wpAnyH_take (i := 9) (oi := ⟨some 40, _, _, _, _, _⟩) (v := ?_) rfl (by kernel_rfl) (by kernel_rfl) (by kernel_rfl) (fun _ _ _ h => h) (Or.inl ⟨by rfl, ?_⟩) hHeld ?_
    rotate_left
    · intro ww hSw
      (try dsimp only at hSw)
      go_simp
      (try with_reducible rfl)
    simp only [Act.put, List.setIfInBounds_toArray, List.set_cons_zero, List.set_cons_succ]
    refine wpAnyH_take (i := 10) (oi := ⟨some 41, _, _, _, _, _⟩) (v := ?_) rfl (by kernel_rfl) (by kernel_rfl) (by kernel_rfl) (fun _ _ _ h => h) (Or.inl ⟨by rfl, ?_⟩) hHeld ?_
    rotate_left
    · intro ww hSw
      (try dsimp only at hSw)
      go_simp
      (try with_reducible rfl)
    simp only [Act.put, List.setIfInBounds_toArray, List.set_cons_zero, List.set_cons_succ]
    refine wpAnyH_take (i := 11) (oi := ⟨some 42, _, _, _, _, _⟩) (v := ?_) rfl (by kernel_rfl) (by kernel_rfl) (by kernel_rfl) (fun _ _ _ h => h) (Or.inl ⟨by rfl, ?_⟩) hHeld ?_
    rotate_left
    · intro ww hSw
      (try dsimp only at hSw)
      go_simp
      (try with_reducible rfl)
    simp only [Act.put, List.setIfInBounds_toArray, List.set_cons_zero, List.set_cons_succ]
    refine wpAnyH_ready (rs := [12]) (by kernel_rfl) (by simp) ?_
    refine AllReadyH.cons (o := ⟨none, _, _, _, _, _⟩) rfl (fun K hK => ?_) AllReadyH.nil
    have hcl := (hb4.cell (p := ⟨g, 0, none⟩) hgs3).trans kg3
    have hcf := (HG3.out.below hb4).frozen 0
    have hcs := cell_lt hcl
    go_simp
    refine hK.out _ _ ?_ (fun hHeld => ?_)
    · (try dsimp only)
      exact Kept.set hHeld (fun hb => hb.2 rfl) _
    clear hK K
    (try simp only [Act.put, List.setIfInBounds_toArray, List.set_cons_zero, List.set_cons_succ])
    refine wpAnyH_done (by kernel_rfl) ?_ _
    refine NoPanic.normal ?_
    have hgf := (HG3.out.below hb4)
    refine bodyPost_end (v := .tuple #[]) (by simp [results, Try.results136]) rfl ⟨rfl, ?_, ?_, ?_⟩
    · exact ((HK3.out.on (Kept.of_below hb4 (fun b hb => Nat.lt_of_lt_of_le (h7 b hb.1) HK3.out.size))).set (fun hb => h6 hb.1) _)
    · exact (HQ3.out.below hb4).far (fun e => hgq e.symm) _
    · refine ⟨⟨A4, c - od, ?_, fun w0 hw0 => ?_, ?_⟩, ?_, h5, h6, fun b hb => ?_⟩
      · rw [HL.out]
        exact hgf.set 0 _
      · rw [HL.out]
        exact HE.out.2.2.2.2.2 w0 (HE.out.2.1 w0 hw0)
      · rw [HL.out]; omega
      · exact (bel_on HB3.out hb4).setCell h5 _
      · have := h7 b hb
        have := HK3.out.size
        have := hb4.size
        simp [World.setCell]
        omega
  have hcl : World.cell? w3.drew ⟨g, 0, none⟩ = some (.slice A l.length c) := kg3
  have hcs := cell_lt hcl
  go_simp
  refine hK.out _ _ ?_ (fun hHeld => ?_)
  · (try dsimp only)
    exact hHeld
  clear hK K
  (try simp only [Act.put, List.setIfInBounds_toArray, List.set_cons_zero, List.set_cons_succ])
  clear hcl hcs
  refine wpAnyH_ready (rs := [7]) (by kernel_rfl) (by simp) ?_
  refine AllReadyH.cons (o := ⟨some 38, _, _, _, _, _⟩) rfl (fun K hK => ?_) AllReadyH.nil
  go_simp
  go_at_call 54
  refine (HSZ.out _).mono ?_
  rintro e_r w4 ⟨rfl, hbn⟩
  have hb4 : Below w3.heap.size w3 w4 := bel_on (show Below w3.heap.size w3 _ by (repeat' (first | with_reducible exact Below.refl _ _ | with_reducible assumption | with_reducible refine bel_alloc ?_ _ | with_reducible refine bel_set ?_ ?_ _ | with_reducible refine below_drewN ?_ _ | with_reducible refine below_drew ?_ | (simp; done) | (simp; omega) | omega))) hbn
  clear hbn
  (try rw [HOD.out])
  go_wp2_with fail
  refine hK.out _ _ ?_ (fun hHeld => ?_)
  · (try dsimp only)
    exact Kept.of_below hb4 fun b hb => hb.1
  clear hK K
  (try simp only [Act.put, List.setIfInBounds_toArray, List.set_cons_zero, List.set_cons_succ])
  refine wpAnyH_take (i := 8) (oi := ⟨some 39, _, _, _, _, _⟩) (v := .slice A4 (l.length - od) (c - od)) rfl (by kernel_rfl) (by kernel_rfl) (by kernel_rfl) (fun _ _ _ h => h) (Or.inl ⟨by rfl, ?_⟩) hHeld ?_
  · intro ww hSw
    (try dsimp only at hSw)
    exact exec_slice_run HC4.out rfl rfl rfl rfl rfl
  simp only [Act.put, List.setIfInBounds_toArray, List.set_cons_zero, List.set_cons_succ]
  refine wpAnyH_take (i := 9) (oi := ⟨some 40, _, _, _, _, _⟩) (v := ?_) rfl (by kernel_rfl) (by kernel_rfl) (by kernel_rfl) (fun _ _ _ h => h) (Or.inl ⟨by rfl, ?_⟩) hHeld ?_
  rotate_left
  · intro ww hSw
    (try dsimp only at hSw)
    go_simp
    (try with_reducible rfl)
  simp only [Act.put, List.setIfInBounds_toArray, List.set_cons_zero, List.set_cons_succ]
  refine wpAnyH_take (i := 10) (oi := ⟨some 41, _, _, _, _, _⟩) (v := ?_) rfl (by kernel_rfl) (by kernel_rfl) (by kernel_rfl) (fun _ _ _ h => h) (Or.inl ⟨by rfl, ?_⟩) hHeld ?_
  rotate_left
  · intro ww hSw
    (try dsimp only at hSw)
    go_simp
    (try with_reducible rfl)
  simp only [Act.put, List.setIfInBounds_toArray, List.set_cons_zero, List.set_cons_succ]
  refine wpAnyH_take (i := 11) (oi := ⟨some 42, _, _, _, _, _⟩) (v := ?_) rfl (by kernel_rfl) (by kernel_rfl) (by kernel_rfl) (fun _ _ _ h => h) (Or.inl ⟨by rfl, ?_⟩) hHeld ?_
  rotate_left
  · intro ww hSw
    (try dsimp only at hSw)
    go_simp
    (try with_reducible rfl)
  simp only [Act.put, List.setIfInBounds_toArray, List.set_cons_zero, List.set_cons_succ]
  refine wpAnyH_ready (rs := [12]) (by kernel_rfl) (by simp) ?_
  refine AllReadyH.cons (o := ⟨none, _, _, _, _, _⟩) rfl (fun K hK => ?_) AllReadyH.nil
  have hcl := (hb4.cell (p := ⟨g, 0, none⟩) hgs3).trans kg3
  have hcf := (HG3.out.below hb4).frozen 0
  have hcs := cell_lt hcl
  go_simp
  refine hK.out _ _ ?_ (fun hHeld => ?_)
  · (try dsimp only)
    exact Kept.set hHeld (fun hb => hb.2 rfl) _
  clear hK K
  (try simp only [Act.put, List.setIfInBounds_toArray, List.set_cons_zero, List.set_cons_succ])
  refine wpAnyH_done (by kernel_rfl) ?_ _
  refine NoPanic.normal ?_
  have hgf := (HG3.out.below hb4)
  refine bodyPost_end (v := .tuple #[]) (by simp [results, Try.results136]) rfl ⟨rfl, ?_, ?_, ?_⟩
  · exact ((HK3.out.on (Kept.of_below hb4 (fun b hb => Nat.lt_of_lt_of_le (h7 b hb.1) HK3.out.size))).set (fun hb => h6 hb.1) _)
  · exact (HQ3.out.below hb4).far (fun e => hgq e.symm) _
  · refine ⟨⟨A4, c - od, ?_, fun w0 hw0 => ?_, ?_⟩, ?_, h5, h6, fun b hb => ?_⟩
    · rw [HL.out]
      exact hgf.set 0 _
    · rw [HL.out]
      exact HE.out.2.2.2.2.2 w0 (HE.out.2.1 w0 hw0)
    · rw [HL.out]; omega
    · exact (bel_on HB3.out hb4).setCell h5 _
    · have := h7 b hb
      have := HK3.out.size
      have := hb4.size
      simp [World.setCell]
      omega
set_option maxHeartbeats 2000000 in
theorem rnum_none (R0 : World) (F : Nat → Prop) (g : Nat) (p : Addr) (l : List (BitVec 8)) (w : World) (h : RPen R0 F g l w) (hl : l.length ≤ 1000000) (ht : takeB (l.take 9) = none) :
    Calls Try.prog 136 #[.pointer (some ⟨g, 0, none⟩), .pointer (some p)] w fun e w' => e = .returned (.tuple #[]) ∧ Below w.heap.size w w' := by
  obtain ⟨⟨A, c, h1, h2, h3⟩, h4, h5, h6, h7⟩ := h
  have hgs := h1.size
  have HG := Lib.hid (h1.cell 0 rfl)
  obtain ⟨k, hk⟩ : ∃ k, min l.length 9 = k := ⟨_, rfl⟩
  have hkl : k ≤ l.length := by omega
  obtain ⟨A2, hcut, hs2⟩ := cut_to_all (h2 w h4) h3 k hkl
  have etk : l.take k = l.take 9 := by
    subst hk
    rw [List.take_eq_take_iff]
    omega
  rw [etk] at hs2
  have elen : (l.take 9).length = k := by rw [List.length_take]; omega
  have HC := Lib.hid hcut
  have HK := Lib.hid hk
  have HT := Lib.hid (fun (wx : World) (hx : Below w.heap.size w wx) => sameB (take_bad A2 k c (l.take 9) wx (byts_of_sl (elen ▸ hs2 wx (h2 wx (bel_on h4 hx)))) elen (by omega) ht))
  clear h1 h2 hcut hk hs2 ht etk h4 elen
  go_enter Try.func136, Try.ntmps136
  go_wp2_with fail
  refine wp_region_noPanic ?_
  refine wp_region_held_drew (S := fun w' => Below w.heap.size w w') (by kernel_rfl) (below_drew (Below.refl _ _)) (fun hHeld => ?_)
  refine wpAnyH_take (i := 0) (oi := ⟨some 8, _, _, _, _, _⟩) (v := ?_) rfl (by kernel_rfl) (by kernel_rfl) (by kernel_rfl) (fun _ _ _ h => h) (Or.inl ⟨by rfl, ?_⟩) hHeld ?_
  rotate_left
  · intro ww hSw
    (try dsimp only at hSw)
    go_simp
    (try with_reducible rfl)
  simp only [Act.put, List.setIfInBounds_toArray, List.set_cons_zero, List.set_cons_succ]
  refine wpAnyH_take (i := 1) (oi := ⟨some 9, _, _, _, _, _⟩) (v := ?_) rfl (by kernel_rfl) (by kernel_rfl) (by kernel_rfl) (fun _ _ _ h => h) (Or.inl ⟨by rfl, ?_⟩) hHeld ?_
  rotate_left
  · intro ww hSw
    (try dsimp only at hSw)
    go_simp
    (try with_reducible rfl)
  simp only [Act.put, List.setIfInBounds_toArray, List.set_cons_zero, List.set_cons_succ]
  refine wpAnyH_take (i := 2) (oi := ⟨some 10, _, _, _, _, _⟩) (v := ?_) rfl (by kernel_rfl) (by kernel_rfl) (by kernel_rfl) (fun _ _ _ h => h) (Or.inl ⟨by rfl, ?_⟩) hHeld ?_
  rotate_left
  · intro ww hSw
    (try dsimp only at hSw)
    go_simp
    (try with_reducible rfl)
  simp only [Act.put, List.setIfInBounds_toArray, List.set_cons_zero, List.set_cons_succ]
  refine wpAnyH_take (i := 3) (oi := ⟨some 11, _, _, _, _, _⟩) (v := ?_) rfl (by kernel_rfl) (by kernel_rfl) (by kernel_rfl) (fun _ _ _ h => h) (Or.inl ⟨by rfl, ?_⟩) hHeld ?_
  rotate_left
  · intro ww hSw
    (try dsimp only at hSw)
    go_simp
    (try with_reducible rfl)
  simp only [Act.put, List.setIfInBounds_toArray, List.set_cons_zero, List.set_cons_succ]
  refine wpAnyH_take (i := 4) (oi := ⟨some 12, _, _, _, _, _⟩) (v := .slice A l.length c) rfl (by kernel_rfl) (by kernel_rfl) (by kernel_rfl) (fun _ _ _ h => h) (Or.inl ⟨by rfl, ?_⟩) hHeld ?_
  · intro ww hSw
    (try dsimp only at hSw)
    have hcl := (hSw.cell (p := ⟨g, 0, none⟩) hgs).trans HG.out
    have hcs := cell_lt hcl
    go_simp
  simp only [Act.put, List.setIfInBounds_toArray, List.set_cons_zero, List.set_cons_succ]
  refine wpAnyH_take (i := 5) (oi := ⟨some 13, _, _, _, _, _⟩) (v := ?_) rfl (by kernel_rfl) (by kernel_rfl) (by kernel_rfl) (fun _ _ _ h => h) (Or.inl ⟨by rfl, ?_⟩) hHeld ?_
  rotate_left
  · intro ww hSw
    (try dsimp only at hSw)
    go_simp
    (try with_reducible rfl)
  simp only [Act.put, List.setIfInBounds_toArray, List.set_cons_zero, List.set_cons_succ]
  refine wpAnyH_take (i := 6) (oi := ⟨some 14, _, _, _, _, _⟩) (v := ?_) rfl (by kernel_rfl) (by kernel_rfl) (by kernel_rfl) (fun _ _ _ h => h) (Or.inl ⟨by rfl, ?_⟩) hHeld ?_
  rotate_left
  · intro ww hSw
    (try dsimp only at hSw)
    go_simp
    (try with_reducible rfl)
  simp only [Act.put, List.setIfInBounds_toArray, List.set_cons_zero, List.set_cons_succ]
  refine wpAnyH_take (i := 7) (oi := ⟨some 15, _, _, _, _, _⟩) (v := ?_) rfl (by kernel_rfl) (by kernel_rfl) (by kernel_rfl) (fun _ _ _ h => h) (Or.inl ⟨by rfl, ?_⟩) hHeld ?_
  rotate_left
  · intro ww hSw
    (try dsimp only at hSw)
    go_simp
    (try with_reducible rfl)
  simp only [Act.put, List.setIfInBounds_toArray, List.set_cons_zero, List.set_cons_succ]
  refine wpAnyH_take (i := 8) (oi := ⟨some 16, _, _, _, _, _⟩) (v := ?_) rfl (by kernel_rfl) (by kernel_rfl) (by kernel_rfl) (fun _ _ _ h => h) (Or.inl ⟨by rfl, ?_⟩) hHeld ?_
  rotate_left
  · intro ww hSw
    (try dsimp only at hSw)
    go_simp
    (try with_reducible rfl)
  simp only [Act.put, List.setIfInBounds_toArray, List.set_cons_zero, List.set_cons_succ]
  refine wpAnyH_take (i := 9) (oi := ⟨some 17, _, _, _, _, _⟩) (v := .slice A l.length c) rfl (by kernel_rfl) (by kernel_rfl) (by kernel_rfl) (fun _ _ _ h => h) (Or.inl ⟨by rfl, ?_⟩) hHeld ?_
  · intro ww hSw
    (try dsimp only at hSw)
    have hcl := (hSw.cell (p := ⟨g, 0, none⟩) hgs).trans HG.out
    have hcs := cell_lt hcl
    go_simp
  simp only [Act.put, List.setIfInBounds_toArray, List.set_cons_zero, List.set_cons_succ]
  refine wpAnyH_take (i := 10) (oi := ⟨some 18, _, _, _, _, _⟩) (v := ?_) rfl (by kernel_rfl) (by kernel_rfl) (by kernel_rfl) (fun _ _ _ h => h) (Or.inl ⟨by rfl, ?_⟩) hHeld ?_
  rotate_left
  · intro ww hSw
    (try dsimp only at hSw)
    go_simp
    (try with_reducible rfl)
  simp only [Act.put, List.setIfInBounds_toArray, List.set_cons_zero, List.set_cons_succ]
  refine wpAnyH_ready (rs := [11]) (by kernel_rfl) (by simp) ?_
  refine AllReadyH.cons (o := ⟨some 19, _, _, _, _, _⟩) rfl (fun K hK => ?_) AllReadyH.nil
  go_simp
  go_at_call 54
  refine (size_max _).mono ?_
  rintro e_r w1 ⟨rfl, hbn⟩
  have hbw1 : Below w.heap.size w w1 := bel_on (show Below w.heap.size w _ by (repeat' (first | with_reducible exact Below.refl _ _ | with_reducible assumption | with_reducible refine bel_alloc ?_ _ | with_reducible refine bel_set ?_ ?_ _ | with_reducible refine below_drewN ?_ _ | with_reducible refine below_drew ?_ | (simp; done) | (simp; omega) | omega))) hbn
  clear hbn
  go_wp2_with fail
  refine hK.out _ _ ?_ (fun hHeld => ?_)
  · (try dsimp only)
    exact hbw1
  clear hK K
  (try simp only [Act.put, List.setIfInBounds_toArray, List.set_cons_zero, List.set_cons_succ])
  refine wpAnyH_take (i := 12) (oi := ⟨some 20, _, _, _, _, _⟩) (v := .int .i64 (k : Nat)) rfl (by kernel_rfl) (by kernel_rfl) (by kernel_rfl) (fun _ _ _ h => h) (Or.inl ⟨by rfl, ?_⟩) hHeld ?_
  · intro ww hSw
    (try dsimp only at hSw)
    exact exec_min2 l.length 9 k HK.out rfl rfl rfl
  simp only [Act.put, List.setIfInBounds_toArray, List.set_cons_zero, List.set_cons_succ]
  refine wpAnyH_take (i := 13) (oi := ⟨some 21, _, _, _, _, _⟩) (v := .slice A2 k c) rfl (by kernel_rfl) (by kernel_rfl) (by kernel_rfl) (fun _ _ _ h => h) (Or.inl ⟨by rfl, ?_⟩) hHeld ?_
  · intro ww hSw
    (try dsimp only at hSw)
    exact exec_slice_run HC.out rfl rfl rfl rfl rfl
  simp only [Act.put, List.setIfInBounds_toArray, List.set_cons_zero, List.set_cons_succ]
  refine wpAnyH_ready (rs := [14]) (by kernel_rfl) (by simp) ?_
  refine AllReadyH.cons (o := ⟨some 22, _, _, _, _, _⟩) rfl (fun K hK => ?_) AllReadyH.nil
  go_simp
  go_at_call 53
  refine (HT.out _ (by (repeat' (first | with_reducible exact Below.refl _ _ | with_reducible assumption | with_reducible refine bel_alloc ?_ _ | with_reducible refine bel_set ?_ ?_ _ | with_reducible refine below_drewN ?_ _ | with_reducible refine below_drew ?_ | (simp; done) | (simp; omega) | omega)))).mono ?_
  rintro e_r w2 ⟨rfl, hbn⟩
  have hbw2 : Below w.heap.size w w2 := bel_on (show Below w.heap.size w _ by (repeat' (first | with_reducible exact Below.refl _ _ | with_reducible assumption | with_reducible refine bel_alloc ?_ _ | with_reducible refine bel_set ?_ ?_ _ | with_reducible refine below_drewN ?_ _ | with_reducible refine below_drew ?_ | (simp; done) | (simp; omega) | omega))) hbn
  clear hbn
  go_wp2_with fail
  refine hK.out _ _ ?_ (fun hHeld => ?_)
  · (try dsimp only)
    exact hbw2
  clear hK K
  (try simp only [Act.put, List.setIfInBounds_toArray, List.set_cons_zero, List.set_cons_succ])
  refine wpAnyH_take (i := 15) (oi := ⟨some 7, _, _, _, _, _⟩) (v := ?_) rfl (by kernel_rfl) (by kernel_rfl) (by kernel_rfl) (fun _ _ _ h => h) (Or.inl ⟨by rfl, ?_⟩) hHeld ?_
  rotate_left
  · intro ww hSw
    (try dsimp only at hSw)
    go_simp
    (try with_reducible rfl)
  simp only [Act.put, List.setIfInBounds_toArray, List.set_cons_zero, List.set_cons_succ]
  refine wpAnyH_take (i := 16) (oi := ⟨some 23, _, _, _, _, _⟩) (v := ?_) rfl (by kernel_rfl) (by kernel_rfl) (by kernel_rfl) (fun _ _ _ h => h) (Or.inl ⟨by rfl, ?_⟩) hHeld ?_
  rotate_left
  · intro ww hSw
    (try dsimp only at hSw)
    go_simp
    (try with_reducible rfl)
  simp only [Act.put, List.setIfInBounds_toArray, List.set_cons_zero, List.set_cons_succ]
  refine wpAnyH_take (i := 17) (oi := ⟨some 24, _, _, _, _, _⟩) (v := ?_) rfl (by kernel_rfl) (by kernel_rfl) (by kernel_rfl) (fun _ _ _ h => h) (Or.inl ⟨by rfl, ?_⟩) hHeld ?_
  rotate_left
  · intro ww hSw
    (try dsimp only at hSw)
    go_simp
    (try with_reducible rfl)
  simp only [Act.put, List.setIfInBounds_toArray, List.set_cons_zero, List.set_cons_succ]
  refine wpAnyH_take (i := 18) (oi := ⟨some 25, _, _, _, _, _⟩) (v := ?_) rfl (by kernel_rfl) (by kernel_rfl) (by kernel_rfl) (fun _ _ _ h => h) (Or.inl ⟨by rfl, ?_⟩) hHeld ?_
  rotate_left
  · intro ww hSw
    (try dsimp only at hSw)
    go_simp
    (try with_reducible rfl)
  simp only [Act.put, List.setIfInBounds_toArray, List.set_cons_zero, List.set_cons_succ]
  refine wpAnyH_take (i := 19) (oi := ⟨some 4, _, _, _, _, _⟩) (v := ?_) rfl (by kernel_rfl) (by kernel_rfl) (by kernel_rfl) (fun _ _ _ h => h) (Or.inl ⟨by rfl, ?_⟩) hHeld ?_
  rotate_left
  · intro ww hSw
    (try dsimp only at hSw)
    go_simp
    (try with_reducible rfl)
  simp only [Act.put, List.setIfInBounds_toArray, List.set_cons_zero, List.set_cons_succ]
  refine wpAnyH_take (i := 20) (oi := ⟨some 5, _, _, _, _, _⟩) (v := ?_) rfl (by kernel_rfl) (by kernel_rfl) (by kernel_rfl) (fun _ _ _ h => h) (Or.inl ⟨by rfl, ?_⟩) hHeld ?_
  rotate_left
  · intro ww hSw
    (try dsimp only at hSw)
    go_simp
    (try with_reducible rfl)
  simp only [Act.put, List.setIfInBounds_toArray, List.set_cons_zero, List.set_cons_succ]
  refine wpAnyH_take (i := 21) (oi := ⟨some 6, _, _, _, _, _⟩) (v := ?_) rfl (by kernel_rfl) (by kernel_rfl) (by kernel_rfl) (fun _ _ _ h => h) (Or.inl ⟨by rfl, ?_⟩) hHeld ?_
  rotate_left
  · intro ww hSw
    (try dsimp only at hSw)
    go_simp
    (try with_reducible rfl)
  simp only [Act.put, List.setIfInBounds_toArray, List.set_cons_zero, List.set_cons_succ]
  refine wpAnyH_done (by kernel_rfl) ?_ _
  refine NoPanic.normal ?_
  clear hHeld
  go_wp2
  refine bodyPost_ret (v := .tuple #[]) (by simp [results, Try.results136]) rfl ⟨rfl, hbw2⟩
theorem RPen.keep {R0 : World} {F : Nat → Prop} {g : Nat} {l : List (BitVec 8)} {w w' : World} (h : RPen R0 F g l w) (hb : Below w.heap.size w w') : RPen R0 F g l w' := by
  obtain ⟨⟨A, c, h1, h2, h3⟩, h4, h5, h6, h7⟩ := h
  exact ⟨⟨A, c, h1.below hb, h2, h3⟩, bel_on h4 hb, h5, h6, fun b hF => Nat.lt_of_lt_of_le (h7 b hF) hb.size⟩
theorem RPen.grow {R0 : World} {F : Nat → Prop} {g : Nat} {l : List (BitVec 8)} {w : World} (h : RPen R0 F g l w) (o : Obj) : RPen R0 (fun b => F b ∨ b = w.heap.size) g l (w.alloc o) := by
  obtain ⟨⟨A, c, h1, h2, h3⟩, h4, h5, h6, h7⟩ := h
  refine ⟨⟨A, c, h1.alloc o, h2, h3⟩, bel_alloc h4 o, h5, ?_, ?_⟩
  · rintro (k | k)
    · exact h6 k
    · have := h1.size; omega
  · rintro b (k | k)
    · have := h7 b k; simp; omega
    · simp; omega
theorem RPen.less {R0 : World} {F G : Nat → Prop} {g : Nat} {l : List (BitVec 8)} {w : World} (h : RPen R0 F g l w) (hG : ∀ b, G b → F b) : RPen R0 G g l w := by
  obtain ⟨h1, h4, h5, h6, h7⟩ := h
  exact ⟨h1, h4, h5, fun k => h6 (hG _ k), fun b k => h7 b (hG _ k)⟩
theorem RPen.size {R0 : World} {F : Nat → Prop} {g : Nat} {l : List (BitVec 8)} {w : World} (h : RPen R0 F g l w) : R0.heap.size ≤ w.heap.size := h.bel.size
theorem rd1_len (l : List (BitVec 8)) : (rd1 l).2.length ≤ l.length := by
  unfold rd1
  split
  · rw [List.length_drop]; omega
  · exact Nat.le_refl _
theorem set_self {cs : Array Value} {o : Nat} {v : Value} (h : cs[o]? = some v) : cs.setIfInBounds o v = cs := by
  apply Array.ext_getElem?
  intro i
  rw [Array.getElem?_setIfInBounds]
  by_cases e : o = i
  · subst e
    rw [if_pos rfl, h]
    rcases Nat.lt_or_ge o cs.size with q | q
    · rw [if_pos q]
    · rw [Array.getElem?_eq_none q] at h; cases h
  · rw [if_neg e]
theorem rnum_any (R0 : World) (F : Nat → Prop) (g q o : Nat) (cs : Array Value) (l : List (BitVec 8)) (w : World) (hq : F q) (hqo : R0.heap.size ≤ q) (hcs : Has w q cs) (hz : cs[o]? = some (.int .i64 0)) (h : RPen R0 F g l w) (hl : l.length ≤ 1000000) :
    Calls Try.prog 136 #[.pointer (some ⟨g, 0, none⟩), .pointer (some ⟨q, o, none⟩)] w fun e w' => e = .returned (.tuple #[]) ∧ Kept (fun b => F b ∧ b ≠ q) w w' ∧ Has w' q (cs.setIfInBounds o (.int .i64 (rd1 l).1)) ∧ RPen R0 F g (rd1 l).2 w' := by
  cases ht : takeB (l.take 9) with
  | some x =>
    obtain ⟨m, t⟩ := x
    have e : rd1 l = (m, l.drop (oneB m).length) := by unfold rd1; rw [ht]
    rw [e]
    exact rnum_ok R0 F g q o cs 0 m t l w hq hqo hcs hz h hl ht
  | none =>
    have e : rd1 l = (0, l) := by unfold rd1; rw [ht]
    rw [e]
    refine (rnum_none R0 F g _ l w h hl ht).mono ?_
    rintro e w' ⟨h1, h2⟩
    refine ⟨h1, Kept.of_below h2 fun b hb => h.low b hb.1, ?_, h.keep h2⟩
    have := hcs.below h2
    rw [show ((0, l) : Nat × List (BitVec 8)).1 = 0 from rfl, show ((0 : Nat) : Int) = 0 from rfl, set_self hz]
    exact this
end Go.Proofs.Ytdhkfhgggkndoaa
