/-
  The document's own Ahead and Put of keys.
-/
import Derived.Test.YtedkhjbnjkcemaaZau
import Derived.Test.YtedkhjbnjkcemaaZay
import Derived.Test.YtedkhjbnjkcemaaZaa
namespace Go.Proofs.Ytedkhjbnjkcemaa
open Go.RowKit Go.Sort
set_option linter.unusedVariables false
set_option linter.unusedSimpArgs false
set_option maxRecDepth 20000

set_option maxHeartbeats 4000000 in
theorem ahead_any (a b : KeyP) (W : World) : Calls Try.prog 79 #[.agg (kyC a), .agg (kyC b)] W fun e w' => e = .returned (.bool (ltK a b)) ∧ Below W.heap.size W w' := by
  have a0 : (kyC a)[1]? = some (.int .i64 a.n) := rfl
  have a2 : (kyC a)[0]? = some (.int .i64 a.k) := rfl
  have b0 : (kyC b)[1]? = some (.int .i64 b.n) := rfl
  have b2 : (kyC b)[0]? = some (.int .i64 b.k) := rfl
  obtain ⟨L, hL⟩ : ∃ L, ltK a b = L := ⟨_, rfl⟩
  have HL : Hid ((a.k < b.k ∨ (a.k = b.k ∧ a.n < b.n)) ↔ L = true) := Lib.hid (by rw [← hL]; simp [ltK])
  rw [hL]
  clear hL
  generalize kyC a = ca at *
  generalize kyC b = cb at *
  generalize a.k = ta at *
  generalize b.k = tb at *
  generalize a.n = ia at *
  generalize b.n = ib at *
  have c0 := ((Has.new W 56 ca rfl).alloc (.cells cb 56)).cell 1 a0
  have c2 := ((Has.new W 56 ca rfl).alloc (.cells cb 56)).cell 0 a2
  have d0 := (Has.new (W.alloc (.cells ca 56)) 56 cb (s := W.heap.size + 1) (by simp)).cell 1 b0
  have d2 := (Has.new (W.alloc (.cells ca 56)) 56 cb (s := W.heap.size + 1) (by simp)).cell 0 b2
  have hlt := cell_lt c0
  clear a0 a2 b0 b2
  by_cases h1 : ta < tb
  · obtain rfl : L = true := HL.out.1 (.inl h1)
    clear HL
    go_enter Try.func79, Try.ntmps79
    go_wp2
    go_ret
    exact ⟨rfl, by (repeat' (first | with_reducible exact Below.refl _ _ | with_reducible assumption | with_reducible refine bel_alloc ?_ _ | with_reducible refine bel_set ?_ ?_ _ | with_reducible refine below_drewN ?_ _ | with_reducible refine below_drew ?_ | (simp; done) | (simp; omega) | omega))⟩
  · by_cases h2 : ta = tb
    · subst h2
      by_cases h3 : ia < ib
      · obtain rfl : L = true := HL.out.1 (.inr ⟨rfl, h3⟩)
        clear HL
        go_enter Try.func79, Try.ntmps79
        go_wp2
        go_ret
        exact ⟨rfl, by (repeat' (first | with_reducible exact Below.refl _ _ | with_reducible assumption | with_reducible refine bel_alloc ?_ _ | with_reducible refine bel_set ?_ ?_ _ | with_reducible refine below_drewN ?_ _ | with_reducible refine below_drew ?_ | (simp; done) | (simp; omega) | omega))⟩
      · obtain rfl : L = false := by
          cases L with
          | false => rfl
          | true => rcases HL.out.2 rfl with q | q <;> omega
        clear HL
        have h4 : decide (ia < ib) = false := decide_eq_false h3
        go_enter Try.func79, Try.ntmps79
        go_wp2
        go_ret
        exact ⟨rfl, by (repeat' (first | with_reducible exact Below.refl _ _ | with_reducible assumption | with_reducible refine bel_alloc ?_ _ | with_reducible refine bel_set ?_ ?_ _ | with_reducible refine below_drewN ?_ _ | with_reducible refine below_drew ?_ | (simp; done) | (simp; omega) | omega))⟩
    · obtain rfl : L = false := by
        cases L with
        | false => rfl
        | true => rcases HL.out.2 rfl with q | q <;> omega
      clear HL
      have h4 : decide (ta < tb) = false := decide_eq_false h1
      have h5 : (ta == tb) = false := by simpa using h2
      go_enter Try.func79, Try.ntmps79
      go_wp2
      go_ret
      exact ⟨rfl, by (repeat' (first | with_reducible exact Below.refl _ _ | with_reducible assumption | with_reducible refine bel_alloc ?_ _ | with_reducible refine bel_set ?_ ?_ _ | with_reducible refine below_drewN ?_ _ | with_reducible refine below_drew ?_ | (simp; done) | (simp; omega) | omega))⟩
theorem ky_guardless : Try.prog.eqGuardType Try.prog.depth 56 = false := by kernel_rfl
theorem exec_eql_k {o : Oper} {ρ : Operand → Value} {ww : World} {u : TypeId} {x y : Operand} {p q : KeyP} {v : Value} (ho : o.op = .binOp .eql 56 x y u) (hx : ρ x = .agg (kyC p)) (hy : ρ y = .agg (kyC q)) (h : (binOp .eql 56 (.agg (kyC p)) (.agg (kyC q))).run Try.prog ww = .ok v ww) : (execOp ρ o).run Try.prog ww = .ok (.value v) ww := by
  have hg := run_eqGuard_agg (P := Try.prog) (w := ww) .eql 56 x y (kyC p) (kyC q) ky_guardless
  unfold execOp
  simp only [ho, hx, hy]
  simp only [Sem.run_bind, hg, h, Result.andThen_ok, Sem.run_pure]
theorem exec_neq_k {o : Oper} {ρ : Operand → Value} {ww : World} {u : TypeId} {x y : Operand} {p q : KeyP} {v : Value} (ho : o.op = .binOp .neq 56 x y u) (hx : ρ x = .agg (kyC p)) (hy : ρ y = .agg (kyC q)) (h : (binOp .neq 56 (.agg (kyC p)) (.agg (kyC q))).run Try.prog ww = .ok v ww) : (execOp ρ o).run Try.prog ww = .ok (.value v) ww := by
  have hg := run_eqGuard_agg (P := Try.prog) (w := ww) .neq 56 x y (kyC p) (kyC q) ky_guardless
  unfold execOp
  simp only [ho, hx, hy]
  simp only [Sem.run_bind, hg, h, Result.andThen_ok, Sem.run_pure]
/-- What Put answers. -/
def GotP (W : World) (R : List KeyP) (e : Ending) (w' : World) : Prop := ∃ A' m c', e = .returned (.slice A' m c') ∧ Kys w' A' m c' R ∧ m ≤ c' ∧ c' ≤ 9223372036854775807 ∧ Below W.heap.size W w'
set_option maxHeartbeats 16000000 in
theorem putk_any (A : Option Addr) (n cl : Nat) (l : List KeyP) (q : KeyP) (W : World) (h : Kys W A n cl l) (hnc : n ≤ cl ∧ cl ≤ 9223372036854775807) (hn : n ≤ 1000) :
    Calls Try.prog 56 #[.slice A n cl, .agg (kyC q)] W (GotP W (putK l q)) := by
  have mixed : Try.prog.follows Departure.mixedOrders = true := by kernel_rfl
  have HN := Lib.hid h.2
  have HL := Lib.hid (show Kys (W.alloc (.cells (kyC q) 56)) A n cl l from h.below (bel_alloc (Below.refl _ _) _))
  have HQ := Lib.hid (Has.new W 56 (kyC q) rfl)
  have HB := Lib.hid (bel_alloc (Below.refl W.heap.size W) (.cells (kyC q) 56))
  obtain ⟨kq, hkq⟩ : ∃ kq, kyC q = kq := ⟨_, rfl⟩
  obtain ⟨R, hR⟩ : ∃ R, putK l q = R := ⟨_, rfl⟩
  rw [hR]
  have HR := Lib.hid hR
  clear h hR
  rw [hkq] at HL HQ HB ⊢
  replace hkq := Lib.hid hkq
  go_enter Try.func56, Try.ntmps56
  go_wp2_with fail
  obtain ⟨w0, hw0⟩ : ∃ w0, W.alloc (.cells kq 56) = w0 := ⟨_, rfl⟩
  rw [hw0] at HL HQ HB ⊢
  rw [← hkq.out] at HQ
  clear hw0 hkq
  go_loopw [5] (fun v wr => ∃ k : Nat, v = .int .i64 k ∧ k ≤ n ∧ Hid (∀ j, j < k → ltK (l.getD j KeyP.none) q = true) ∧ Hid (Below w0.heap.size w0 wr)) (fun v _ => n - (intOf v).toNat)
  case atStart => exact ⟨0, rfl, Nat.zero_le _, Lib.hid (fun j hj => by omega), Lib.hid (Below.refl _ _)⟩
  case round =>
    obtain ⟨k, rfl, hk, hah, hbw⟩ := hrel
    have HLr := Lib.hid (HL.out.below hbw.out)
    have HQr := Lib.hid (HQ.out.below hbw.out)
    by_cases hlt : k < n
    · obtain ⟨bl, ol, hA⟩ := HLr.out.form (by omega)
      subst hA
      have hltI : (k : Int) < (n : Int) := by omega
      have hltD : decide ((k : Int) < (n : Int)) = true := decide_eq_true hltI
      obtain ⟨y, hy⟩ : ∃ y, l.getD k KeyP.none = y := ⟨_, rfl⟩
      have HY := Lib.hid hy
      obtain ⟨b, hb⟩ : ∃ b, ltK y q = b := ⟨_, rfl⟩
      have HA := Lib.hid (fun w => ahead_any y q w)
      rw [hb] at HA
      have HBB := Lib.hid hb
      clear hy hb
      go_wp2_with fail
      refine wp_region_noPanic ?_
      refine wp_region_held_drew (S := fun w' => Below wr.heap.size wr w') (by kernel_rfl) (below_drew (Below.refl _ _)) (fun hHeld => ?_)
      refine wpAnyH_take (i := 0) (oi := ⟨some 7, _, _, _, _, _⟩) (v := ?_) rfl (by kernel_rfl) (by kernel_rfl) (by kernel_rfl) (fun _ _ _ h => h) (Or.inl ⟨by rfl, ?_⟩) hHeld ?_
      rotate_left
      · intro ww hSw
        (try dsimp only at hSw)
        go_simp
        (try with_reducible rfl)
      simp only [Act.put, List.setIfInBounds_toArray, List.set_cons_zero, List.set_cons_succ]
      refine wpAnyH_take (i := 1) (oi := ⟨some 8, _, _, _, _, _⟩) (v := ?_) rfl (by kernel_rfl) (by kernel_rfl) (by kernel_rfl) (fun _ _ _ h => h) (Or.inl ⟨by rfl, ?_⟩) hHeld ?_
      rotate_left
      · intro ww hSw
        (try dsimp only at hSw)
        go_simp
        (try with_reducible rfl)
      simp only [Act.put, List.setIfInBounds_toArray, List.set_cons_zero, List.set_cons_succ]
      refine wpAnyH_take (i := 2) (oi := ⟨some 9, _, _, _, _, _⟩) (v := ?_) rfl (by kernel_rfl) (by kernel_rfl) (by kernel_rfl) (fun _ _ _ h => h) (Or.inl ⟨by rfl, ?_⟩) hHeld ?_
      rotate_left
      · intro ww hSw
        (try dsimp only at hSw)
        go_simp
        (try with_reducible rfl)
      simp only [Act.put, List.setIfInBounds_toArray, List.set_cons_zero, List.set_cons_succ]
      refine wpAnyH_take (i := 3) (oi := ⟨some 10, _, _, _, _, _⟩) (v := ?_) rfl (by kernel_rfl) (by kernel_rfl) (by kernel_rfl) (fun _ _ _ h => h) (Or.inl ⟨by rfl, ?_⟩) hHeld ?_
      rotate_left
      · intro ww hSw
        (try dsimp only at hSw)
        go_simp
        (try with_reducible rfl)
      simp only [Act.put, List.setIfInBounds_toArray, List.set_cons_zero, List.set_cons_succ]
      refine wpAnyH_take (i := 4) (oi := ⟨some 11, _, _, _, _, _⟩) (v := ?_) rfl (by kernel_rfl) (by kernel_rfl) (by kernel_rfl) (fun _ _ _ h => h) (Or.inl ⟨by rfl, ?_⟩) hHeld ?_
      rotate_left
      · intro ww hSw
        (try dsimp only at hSw)
        go_simp
        (try with_reducible rfl)
      simp only [Act.put, List.setIfInBounds_toArray, List.set_cons_zero, List.set_cons_succ]
      refine wpAnyH_take (i := 5) (oi := ⟨some 12, _, _, _, _, _⟩) (v := ?_) rfl (by kernel_rfl) (by kernel_rfl) (by kernel_rfl) (fun _ _ _ h => h) (Or.inl ⟨by rfl, ?_⟩) hHeld ?_
      rotate_left
      · intro ww hSw
        (try dsimp only at hSw)
        go_simp
        (try with_reducible rfl)
      simp only [Act.put, List.setIfInBounds_toArray, List.set_cons_zero, List.set_cons_succ]
      refine wpAnyH_take (i := 6) (oi := ⟨some 13, _, _, _, _, _⟩) (v := ?_) rfl (by kernel_rfl) (by kernel_rfl) (by kernel_rfl) (fun _ _ _ h => h) (Or.inl ⟨by rfl, ?_⟩) hHeld ?_
      rotate_left
      · intro ww hSw
        (try dsimp only at hSw)
        go_simp
        (try with_reducible rfl)
      simp only [Act.put, List.setIfInBounds_toArray, List.set_cons_zero, List.set_cons_succ]
      refine wpAnyH_take (i := 7) (oi := ⟨some 14, _, _, _, _, _⟩) (v := .pointer (some ⟨bl, ol + k * 2, none⟩)) rfl (by kernel_rfl) (by kernel_rfl) (by kernel_rfl) (fun _ _ _ h => h) (Or.inl ⟨by rfl, ?_⟩) hHeld ?_
      · intro ww hSw
        (try dsimp only at hSw)
        go_simp
      simp only [Act.put, List.setIfInBounds_toArray, List.set_cons_zero, List.set_cons_succ]
      refine wpAnyH_take (i := 8) (oi := ⟨some 15, _, _, _, _, _⟩) (v := .agg (kyC y)) rfl (by kernel_rfl) (by kernel_rfl) (by kernel_rfl) (fun _ _ _ h => h) (Or.inl ⟨by rfl, ?_⟩) hHeld ?_
      · intro ww hSw
        (try dsimp only at hSw)
        exact exec_loadKey_at _ rfl rfl (kys_load (HLr.out.below hSw) hlt HY.out)
      simp only [Act.put, List.setIfInBounds_toArray, List.set_cons_zero, List.set_cons_succ]
      refine wpAnyH_take (i := 9) (oi := ⟨some 16, _, _, _, _, _⟩) (v := .agg (kyC q)) rfl (by kernel_rfl) (by kernel_rfl) (by kernel_rfl) (fun _ _ _ h => h) (Or.inl ⟨by rfl, ?_⟩) hHeld ?_
      · intro ww hSw
        (try dsimp only at hSw)
        exact exec_loadKey_at _ rfl rfl (has_load_k (HQr.out.below hSw))
      simp only [Act.put, List.setIfInBounds_toArray, List.set_cons_zero, List.set_cons_succ]
      refine wpAnyH_ready (rs := [10]) (by kernel_rfl) (by simp) ?_
      refine AllReadyH.cons (o := ⟨some 17, _, _, _, _, _⟩) rfl (fun K hK => ?_) AllReadyH.nil
      go_simp
      go_at_call 79
      refine (HA.out _).mono ?_
      rintro e_r w3 ⟨rfl, hbn⟩
      have hbw3 : Below wr.heap.size wr w3 := bel_on (show Below wr.heap.size wr _ by (repeat' (first | with_reducible exact Below.refl _ _ | with_reducible assumption | with_reducible refine bel_alloc ?_ _ | with_reducible refine bel_set ?_ ?_ _ | with_reducible refine below_drewN ?_ _ | with_reducible refine below_drew ?_ | (simp; done) | (simp; omega) | omega))) hbn
      clear hbn
      go_wp2_with fail
      refine hK.out _ _ ?_ (fun hHeld => ?_)
      · (try dsimp only)
        exact hbw3
      clear hK K
      (try simp only [Act.put, List.setIfInBounds_toArray, List.set_cons_zero, List.set_cons_succ])
      refine wpAnyH_take (i := 11) (oi := ⟨some 18, _, _, _, _, _⟩) (v := .bool b) rfl (by kernel_rfl) (by kernel_rfl) (by kernel_rfl) (fun _ _ _ h => h) (Or.inl ⟨by rfl, ?_⟩) hHeld ?_
      · intro ww hSw
        (try dsimp only at hSw)
        go_simp
      simp only [Act.put, List.setIfInBounds_toArray, List.set_cons_zero, List.set_cons_succ]
      refine wpAnyH_done (by kernel_rfl) ?_ _
      refine NoPanic.normal ?_
      cases b with
      | true =>
        have hah2 : Hid (∀ j, j < k + 1 → ltK (l.getD j KeyP.none) q = true) := Lib.hid (fun j hj => by
          by_cases e : j = k
          · subst e; rw [HY.out]; exact HBB.out
          · exact hah.out j (by omega))
        have HB4 := Lib.hid (bel_on hbw.out hbw3)
        clear hah HLr HQr HY HBB HA
        go_wp2
        go_roundw
        case rel => exact ⟨k + 1, by go_num, by omega, hah2, HB4⟩
        case measure => simp [intOf]; omega
      | false =>
        have HB4 := Lib.hid (bel_on hbw.out hbw3)
        have HL4 := Lib.hid (HLr.out.below hbw3)
        have HQ4 := Lib.hid (HQr.out.below hbw3)
        have HPA := Lib.hid (putK_at l k (by rw [HN.out]; exact hk) hah.out (fun _ => by rw [HY.out]; exact HBB.out))
        clear hbw HLr HQr HA HBB hah HL HQ hbw3
        (try clear hHeld)
        go_wp2_with fail
        obtain ⟨b, hb⟩ : ∃ b, decide (y = q) = b := ⟨_, rfl⟩
        have HBB := Lib.hid hb
        clear hb
        generalize w3 = wr at *
        have HLr := HL4
        have HQr := HQ4
        refine wp_region_noPanic ?_
        refine wp_region_held_drew (S := fun w' => Below wr.heap.size wr w') (by kernel_rfl) (below_drew (Below.refl _ _)) (fun hHeld => ?_)
        refine wpAnyH_take (i := 0) (oi := ⟨some 21, _, _, _, _, _⟩) (v := ?_) rfl (by kernel_rfl) (by kernel_rfl) (by kernel_rfl) (fun _ _ _ h => h) (Or.inl ⟨by rfl, ?_⟩) hHeld ?_
        rotate_left
        · intro ww hSw
          (try dsimp only at hSw)
          go_simp
          (try with_reducible rfl)
        simp only [Act.put, List.setIfInBounds_toArray, List.set_cons_zero, List.set_cons_succ]
        refine wpAnyH_take (i := 1) (oi := ⟨some 22, _, _, _, _, _⟩) (v := ?_) rfl (by kernel_rfl) (by kernel_rfl) (by kernel_rfl) (fun _ _ _ h => h) (Or.inl ⟨by rfl, ?_⟩) hHeld ?_
        rotate_left
        · intro ww hSw
          (try dsimp only at hSw)
          go_simp
          (try with_reducible rfl)
        simp only [Act.put, List.setIfInBounds_toArray, List.set_cons_zero, List.set_cons_succ]
        refine wpAnyH_take (i := 2) (oi := ⟨some 23, _, _, _, _, _⟩) (v := ?_) rfl (by kernel_rfl) (by kernel_rfl) (by kernel_rfl) (fun _ _ _ h => h) (Or.inl ⟨by rfl, ?_⟩) hHeld ?_
        rotate_left
        · intro ww hSw
          (try dsimp only at hSw)
          go_simp
          (try with_reducible rfl)
        simp only [Act.put, List.setIfInBounds_toArray, List.set_cons_zero, List.set_cons_succ]
        refine wpAnyH_take (i := 3) (oi := ⟨some 24, _, _, _, _, _⟩) (v := ?_) rfl (by kernel_rfl) (by kernel_rfl) (by kernel_rfl) (fun _ _ _ h => h) (Or.inl ⟨by rfl, ?_⟩) hHeld ?_
        rotate_left
        · intro ww hSw
          (try dsimp only at hSw)
          go_simp
          (try with_reducible rfl)
        simp only [Act.put, List.setIfInBounds_toArray, List.set_cons_zero, List.set_cons_succ]
        refine wpAnyH_take (i := 4) (oi := ⟨some 25, _, _, _, _, _⟩) (v := ?_) rfl (by kernel_rfl) (by kernel_rfl) (by kernel_rfl) (fun _ _ _ h => h) (Or.inl ⟨by rfl, ?_⟩) hHeld ?_
        rotate_left
        · intro ww hSw
          (try dsimp only at hSw)
          go_simp
          (try with_reducible rfl)
        simp only [Act.put, List.setIfInBounds_toArray, List.set_cons_zero, List.set_cons_succ]
        refine wpAnyH_take (i := 5) (oi := ⟨some 26, _, _, _, _, _⟩) (v := ?_) rfl (by kernel_rfl) (by kernel_rfl) (by kernel_rfl) (fun _ _ _ h => h) (Or.inl ⟨by rfl, ?_⟩) hHeld ?_
        rotate_left
        · intro ww hSw
          (try dsimp only at hSw)
          go_simp
          (try with_reducible rfl)
        simp only [Act.put, List.setIfInBounds_toArray, List.set_cons_zero, List.set_cons_succ]
        refine wpAnyH_take (i := 6) (oi := ⟨some 27, _, _, _, _, _⟩) (v := ?_) rfl (by kernel_rfl) (by kernel_rfl) (by kernel_rfl) (fun _ _ _ h => h) (Or.inl ⟨by rfl, ?_⟩) hHeld ?_
        rotate_left
        · intro ww hSw
          (try dsimp only at hSw)
          go_simp
          (try with_reducible rfl)
        simp only [Act.put, List.setIfInBounds_toArray, List.set_cons_zero, List.set_cons_succ]
        refine wpAnyH_take (i := 7) (oi := ⟨some 28, _, _, _, _, _⟩) (v := .pointer (some ⟨bl, ol + k * 2, none⟩)) rfl (by kernel_rfl) (by kernel_rfl) (by kernel_rfl) (fun _ _ _ h => h) (Or.inl ⟨by rfl, ?_⟩) hHeld ?_
        · intro ww hSw
          (try dsimp only at hSw)
          go_simp
        simp only [Act.put, List.setIfInBounds_toArray, List.set_cons_zero, List.set_cons_succ]
        refine wpAnyH_take (i := 8) (oi := ⟨some 29, _, _, _, _, _⟩) (v := .agg (kyC y)) rfl (by kernel_rfl) (by kernel_rfl) (by kernel_rfl) (fun _ _ _ h => h) (Or.inl ⟨by rfl, ?_⟩) hHeld ?_
        · intro ww hSw
          (try dsimp only at hSw)
          exact exec_loadKey_at _ rfl rfl (kys_load (HLr.out.below hSw) hlt HY.out)
        simp only [Act.put, List.setIfInBounds_toArray, List.set_cons_zero, List.set_cons_succ]
        refine wpAnyH_take (i := 9) (oi := ⟨some 30, _, _, _, _, _⟩) (v := .agg (kyC q)) rfl (by kernel_rfl) (by kernel_rfl) (by kernel_rfl) (fun _ _ _ h => h) (Or.inl ⟨by rfl, ?_⟩) hHeld ?_
        · intro ww hSw
          (try dsimp only at hSw)
          exact exec_loadKey_at _ rfl rfl (has_load_k (HQr.out.below hSw))
        simp only [Act.put, List.setIfInBounds_toArray, List.set_cons_zero, List.set_cons_succ]
        refine wpAnyH_take (i := 10) (oi := ⟨some 31, _, _, _, _, _⟩) (v := .bool b) rfl (by kernel_rfl) (by kernel_rfl) (by kernel_rfl) (fun _ _ _ h => h) (Or.inl ⟨by rfl, ?_⟩) hHeld ?_
        · intro ww hSw
          (try dsimp only at hSw)
          exact exec_eql_k rfl rfl rfl (by rw [run_ky_eql, HBB.out])
        simp only [Act.put, List.setIfInBounds_toArray, List.set_cons_zero, List.set_cons_succ]
        refine wpAnyH_take (i := 11) (oi := ⟨some 32, _, _, _, _, _⟩) (v := .bool b) rfl (by kernel_rfl) (by kernel_rfl) (by kernel_rfl) (fun _ _ _ h => h) (Or.inl ⟨by rfl, ?_⟩) hHeld ?_
        · intro ww hSw
          (try dsimp only at hSw)
          go_simp
        simp only [Act.put, List.setIfInBounds_toArray, List.set_cons_zero, List.set_cons_succ]
        refine wpAnyH_done (by kernel_rfl) ?_ _
        refine NoPanic.normal ?_
        cases b with
        | true =>
          have HE : Hid (R = l) := by
            show R = l
            rw [← HR.out, HPA.out, if_pos ⟨by rw [HN.out]; exact hlt, by rw [HY.out]; simpa using HBB.out⟩]
          have HE2 := HE.out
          subst HE2
          have HF := Lib.hid (HL4.out)
          have HB5 := Lib.hid (bel_on HB.out HB4.out)
          clear HPA HBB HY
          go_wp2
          go_ret
          exact ⟨_, n, cl, rfl, HF.out.below (by first | exact below_drew (Below.refl _ _) | exact Below.refl _ _), hnc.1, hnc.2, bel_on HB5.out (by first | exact below_drew (Below.refl _ _) | exact Below.refl _ _)⟩
        | false =>
          have HPK : Hid (R = l.take k ++ q :: l.drop k) := by
            show _ = _
            rw [← HR.out, HPA.out, if_neg (fun hh => by have e := hh.2; rw [HY.out] at e; have := HBB.out; simp [e] at this)]
          clear HPA HBB HY HR
          have HLd := Lib.hid (HL4.out.below (below_drew (Below.refl _ _)))
          have HQd := Lib.hid (HQ4.out.below (below_drew (Below.refl _ _)))
          have HBd := Lib.hid (bel_on HB4.out (below_drew (Below.refl wr.heap.size wr)))
          obtain ⟨wx, hwx⟩ : ∃ wx, wr.drew = wx := ⟨_, rfl⟩
          rw [hwx] at HLd HQd HBd ⊢
          clear hwx HL4 HQ4 HB4
          obtain ⟨A37, hc37, hs37⟩ := kycut_from HLd.out hnc.1 k (by omega)
          obtain ⟨A6, c6, w6, hr6, row6, bel6, _⟩ := krow_append (krow_empty wx) (hs37.below (bel_alloc (Below.refl _ _) (.cells #[] 56))) (show 0 + (n - k) ≤ 100000 by omega) (by simp) (k := n - k) (by omega)
          have b6 := bel6 wx (Nat.le_refl _) (bel_alloc (Below.refl _ _) _)
          have HC37 := Lib.hid hc37
          have HR6 := Lib.hid hr6
          rw [List.nil_append] at row6
          have HK6 := Lib.hid (row6.kys (by rw [List.length_drop, HN.out]; try omega))
          have HL6 := Lib.hid (HLd.out.below b6)
          have HQ3 := Lib.hid (HQd.out.below b6)
          have HB3 := Lib.hid (bel_on HB.out (bel_on HBd.out b6))
          clear hc37 hs37 hr6 row6 bel6 b6 HLd HQd HBd
          go_wp2_with (first | refine wpList_slice_run HC37.out rfl rfl rfl rfl rfl rfl ?_ | (at_builtin; refine wpList_append_run HR6.out rfl rfl rfl rfl ?_) | fail)
          obtain ⟨A42, hc42, hs42⟩ := kycut_to HL6.out hnc.1 k (by omega)
          have HC42 := Lib.hid hc42
          have HS42 := Lib.hid hs42
          clear hc42 hs42 HC37 HR6
          generalize w6 = w3 at *
          have H6x : Hid (∀ w', Below w3.heap.size w3 w' → Kys w' A6 (n - k) c6 (l.drop k)) := Lib.hid (fun w' hb => HK6.out.below hb)
          clear HK6 HL6
          refine wp_region_noPanic ?_
          refine wp_region_held_drew (S := fun w' => Below w3.heap.size w3 w') (by kernel_rfl) (below_drew (Below.refl _ _)) (fun hHeld => ?_)
          refine wpAnyH_take (i := 1) (oi := ⟨some 40, _, _, _, _, _⟩) (v := ?_) rfl (by kernel_rfl) (by kernel_rfl) (by kernel_rfl) (fun _ _ _ h => h) (Or.inl ⟨by rfl, ?_⟩) hHeld ?_
          rotate_left
          · intro ww hSw
            (try dsimp only at hSw)
            go_simp
            (try with_reducible rfl)
          simp only [Act.put, List.setIfInBounds_toArray, List.set_cons_zero, List.set_cons_succ]
          refine wpAnyH_take (i := 2) (oi := ⟨some 41, _, _, _, _, _⟩) (v := ?_) rfl (by kernel_rfl) (by kernel_rfl) (by kernel_rfl) (fun _ _ _ h => h) (Or.inl ⟨by rfl, ?_⟩) hHeld ?_
          rotate_left
          · intro ww hSw
            (try dsimp only at hSw)
            go_simp
            (try with_reducible rfl)
          simp only [Act.put, List.setIfInBounds_toArray, List.set_cons_zero, List.set_cons_succ]
          refine wpAnyH_take (i := 3) (oi := ⟨some 42, _, _, _, _, _⟩) (v := .slice A42 k cl) rfl (by kernel_rfl) (by kernel_rfl) (by kernel_rfl) (fun _ _ _ h => h) (Or.inl ⟨by rfl, ?_⟩) hHeld ?_
          · intro ww hSw
            (try dsimp only at hSw)
            exact exec_slice_run HC42.out rfl rfl rfl rfl rfl
          simp only [Act.put, List.setIfInBounds_toArray, List.set_cons_zero, List.set_cons_succ]
          refine wpAnyH_take (i := 5) (oi := ⟨some 44, _, _, _, _, _⟩) (v := .agg (kyC q)) rfl (by kernel_rfl) (by kernel_rfl) (by kernel_rfl) (fun _ _ _ h => h) (Or.inl ⟨by rfl, ?_⟩) hHeld ?_
          · intro ww hSw
            (try dsimp only at hSw)
            exact exec_loadKey_at _ rfl rfl (has_load_k (HQ3.out.below hSw))
          simp only [Act.put, List.setIfInBounds_toArray, List.set_cons_zero, List.set_cons_succ]
          refine wpAnyH_take (i := 8) (oi := ⟨some 47, _, _, _, _, _⟩) (v := ?_) rfl (by kernel_rfl) (by kernel_rfl) (by kernel_rfl) (fun _ _ _ h => h) (Or.inl ⟨by rfl, ?_⟩) hHeld ?_
          rotate_left
          · intro ww hSw
            (try dsimp only at hSw)
            go_simp
            (try with_reducible rfl)
          simp only [Act.put, List.setIfInBounds_toArray, List.set_cons_zero, List.set_cons_succ]
          obtain ⟨wd, hwd⟩ : ∃ wd, w3.drew = wd := ⟨_, rfl⟩
          have B3d : Hid (Below w3.heap.size w3 wd) := by rw [← hwd]; exact below_drew (Below.refl _ _)
          have H42d : Hid (Kys wd A42 k cl (l.take k)) := by rw [← hwd]; exact HS42.out
          have HSZ : Hid (wd.heap.size = w3.heap.size) := Lib.hid (by rw [← hwd]; rfl)
          rw [hwd]
          clear hwd
          refine wpAnyH_ready (rs := [0, 6]) (by kernel_rfl) (by simp) ?_
          refine AllReadyH.cons (o := ⟨some 39, _, _, _, _, _⟩) rfl (fun K hK => ?_) (AllReadyH.cons (o := ⟨some 45, _, _, _, _, _⟩) rfl (fun K hK => ?_) AllReadyH.nil)
          · skip
            go_simp
            refine hK.out _ _ ?_ (fun hHeld => ?_)
            · (try dsimp only)
              exact bel_alloc B3d.out _
            clear hK K
            (try simp only [Act.put, List.setIfInBounds_toArray, List.set_cons_zero, List.set_cons_succ])
            have R39 := Lib.hid (krow_empty wd)
            have B39 := Lib.hid (bel_alloc B3d.out (.cells #[] 56))
            have H39 := Lib.hid (H42d.out.below (bel_alloc (Below.refl _ _) (.cells #[] 56)))
            refine wpAnyH_ready (rs := [4, 6]) (by kernel_rfl) (by simp) ?_
            refine AllReadyH.cons (o := ⟨some 43, _, _, _, _, _⟩) rfl (fun K hK => ?_) (AllReadyH.cons (o := ⟨some 45, _, _, _, _, _⟩) rfl (fun K hK => ?_) AllReadyH.nil)
            · skip
              obtain ⟨A43, c43, w43, hr43, row43, bel43, keep43⟩ := krow_append (trow_mono R39.out (Nat.le_of_eq HSZ.out.symm)) H39.out (show 0 + k ≤ 100000 by omega) B39.out.size (k := k) (by omega)
              have HR43 : Hid ((Builtin.append_ #[45, 45] 45 #[.slice (some ⟨wd.heap.size, 0, none⟩) 0 0, .slice A42 k cl]).run Try.prog (wd.alloc (.cells #[] 56)) = .ok (.slice A43 k c43) w43) := hr43
              have b43 := bel43 w3 (Nat.le_refl _) B39.out
              rw [List.nil_append] at row43
              have B43 := Lib.hid b43
              rw [if_pos (by rfl)]
              refine wp_append_run8 HR43.out rfl rfl rfl ?_
              refine hK.out _ _ ?_ (fun hHeld => ?_)
              · (try dsimp only)
                exact B43.out
              clear hK K
              (try simp only [Act.put, List.setIfInBounds_toArray, List.set_cons_zero, List.set_cons_succ])
              refine wpAnyH_ready (rs := [6]) (by kernel_rfl) (by simp) ?_
              refine AllReadyH.cons (o := ⟨some 45, _, _, _, _, _⟩) rfl (fun K hK => ?_) AllReadyH.nil
              rw [if_pos (by rfl)]
              refine wp_build_k q rfl rfl ?_
              refine hK.out _ _ ?_ (fun hHeld => ?_)
              · (try dsimp only)
                exact bel_alloc B43.out _
              clear hK K
              (try simp only [Act.put, List.setIfInBounds_toArray, List.set_cons_zero, List.set_cons_succ])
              have R43 := Lib.hid (row43.alloc (.cells (kyC q) 56))
              have X45 := Lib.hid (kys_one w43 q)
              have B0 := Lib.hid (bel_alloc B43.out (.cells (kyC q) 56))
              obtain ⟨g45, hg45⟩ : ∃ g, w43.heap.size = g := ⟨_, rfl⟩
              rw [hg45] at X45
              rw [hg45]
              obtain ⟨wz, hwz⟩ : ∃ wz, w43.alloc (.cells (kyC q) 56) = wz := ⟨_, rfl⟩
              rw [hwz] at R43 X45 B0
              rw [hwz]
              clear hwz hg45 HR43 hr43 row43 bel43 keep43 b43 B43 R39 B39 H39 B3d H42d HSZ
              obtain ⟨A46, c46, w46, hr46, row46, bel46, keep46⟩ := krow_append R43.out X45.out (show k + 1 ≤ 100000 by omega) B0.out.size (k := k + 1) rfl
              have HR46 : Hid ((Builtin.append_ #[45, 45] 45 #[.slice A43 k c43, .slice (some ⟨g45, 0, none⟩) 1 1]).run Try.prog wz = .ok (.slice A46 (k + 1) c46) w46) := hr46
              have b46 := bel46 w3 (Nat.le_refl _) B0.out
              have L6 := H6x.out w46 b46
              obtain ⟨A48, c48, w48, hr48, row48, bel48, keep48⟩ := krow_append row46 L6 (show k + 1 + (n - k) ≤ 100000 by omega) b46.size (k := n + 1) (by omega)
              have HR48 : Hid ((Builtin.append_ #[45, 45] 45 #[.slice A46 (k + 1) c46, .slice A6 (n - k) c6]).run Try.prog w46 = .ok (.slice A48 (n + 1) c48) w48) := hr48
              have b48 := bel48 w3 (Nat.le_refl _) b46
              have E48 := Lib.hid (row48.kys (n := n + 1) (by rw [List.length_append, List.length_append, List.length_take, List.length_drop, HN.out]; first | (simp; done) | (simp; omega)))
              have hcc48 := krow_caps row48
              have B46 := Lib.hid b46
              have B48 := Lib.hid b48
              clear hr46 hr48 bel46 bel48 keep46 keep48 row46 row48 b46 b48 L6 R43 X45 B0
              refine wpAnyH_ready (rs := [7]) (by kernel_rfl) (by simp) ?_
              refine AllReadyH.cons (o := ⟨some 46, _, _, _, _, _⟩) rfl (fun K hK => ?_) AllReadyH.nil
              rw [if_pos (by rfl)]
              refine wp_append_run8 HR46.out rfl rfl rfl ?_
              refine hK.out _ _ ?_ (fun hHeld => ?_)
              · (try dsimp only)
                exact B46.out
              clear hK K
              (try simp only [Act.put, List.setIfInBounds_toArray, List.set_cons_zero, List.set_cons_succ])
              refine wpAnyH_ready (rs := [9]) (by kernel_rfl) (by simp) ?_
              refine AllReadyH.cons (o := ⟨some 48, _, _, _, _, _⟩) rfl (fun K hK => ?_) AllReadyH.nil
              rw [if_pos (by rfl)]
              refine wp_append_run8 HR48.out rfl rfl rfl ?_
              refine hK.out _ _ ?_ (fun hHeld => ?_)
              · (try dsimp only)
                exact B48.out
              clear hK K
              (try simp only [Act.put, List.setIfInBounds_toArray, List.set_cons_zero, List.set_cons_succ])
              refine wpAnyH_take (i := 10) (oi := ⟨some 4, _, _, _, _, _⟩) (v := ?_) rfl (by kernel_rfl) (by kernel_rfl) (by kernel_rfl) (fun _ _ _ h => h) (Or.inl ⟨by rfl, ?_⟩) hHeld ?_
              rotate_left
              · intro ww hSw
                (try dsimp only at hSw)
                go_simp
                (try with_reducible rfl)
              simp only [Act.put, List.setIfInBounds_toArray, List.set_cons_zero, List.set_cons_succ]
              refine wpAnyH_done (by kernel_rfl) ?_ _
              refine NoPanic.normal ?_
              clear HR46 HR48
              go_wp2
              go_ret
              exact ⟨A48, n + 1, c48, rfl, by rw [HPK.out]; have := E48.out; rwa [List.append_assoc, List.singleton_append] at this, hcc48.1, hcc48.2, bel_on HB3.out B48.out⟩
            · skip
              rw [if_pos (by rfl)]
              refine wp_build_k q rfl rfl ?_
              refine hK.out _ _ ?_ (fun hHeld => ?_)
              · (try dsimp only)
                exact bel_alloc B39.out _
              clear hK K
              (try simp only [Act.put, List.setIfInBounds_toArray, List.set_cons_zero, List.set_cons_succ])
              have R39b := Lib.hid ((trow_mono R39.out (Nat.le_of_eq HSZ.out.symm)).alloc (.cells (kyC q) 56))
              have X45a := Lib.hid (kys_one (wd.alloc (.cells #[] 56)) q)
              have B45 := Lib.hid (bel_alloc B39.out (.cells (kyC q) 56))
              have H39b := Lib.hid (H39.out.below (bel_alloc (Below.refl _ _) (.cells (kyC q) 56)))
              have hs45 : (wd.alloc (.cells #[] 56)).heap.size = wd.heap.size + 1 := by simp
              rw [hs45] at X45a
              (try rw [hs45])
              have hne : ¬ wd.heap.size + 1 = wd.heap.size := by omega
              have hlt45 : wd.heap.size + 1 < ((wd.alloc (.cells #[] 56)).alloc (.cells (kyC q) 56)).heap.size := by simp
              generalize hg45 : wd.heap.size + 1 = g45 at *
              generalize hg39 : wd.heap.size = g39 at *
              generalize hwy : (wd.alloc (.cells #[] 56)).alloc (.cells (kyC q) 56) = wy at *
              obtain ⟨A43, c43, w43, hr43, row43, bel43, keep43⟩ := krow_append R39b.out H39b.out (show 0 + k ≤ 100000 by omega) B45.out.size (k := k) (by omega)
              have HR43 : Hid ((Builtin.append_ #[45, 45] 45 #[.slice (some ⟨g39, 0, none⟩) 0 0, .slice A42 k cl]).run Try.prog wy = .ok (.slice A43 k c43) w43) := hr43
              have b43 := bel43 w3 (Nat.le_refl _) B45.out
              rw [List.nil_append] at row43
              have B0 := Lib.hid b43
              have R43 := Lib.hid row43
              have X45 := Lib.hid (X45a.out.keep (w' := w43) (fun g hg => keep43 _ (by injection hg with hg; subst hg; exact hlt45) (fun g' hg' => by injection hg' with hg'; injection hg with hg; subst hg' hg; exact hne)))
              clear hr43 row43 bel43 keep43 b43 R39b X45a B45 H39b hne hlt45 hg45 hg39 hwy R39 B39 H39 B3d H42d HSZ hs45
              refine wpAnyH_ready (rs := [4]) (by kernel_rfl) (by simp) ?_
              refine AllReadyH.cons (o := ⟨some 43, _, _, _, _, _⟩) rfl (fun K hK => ?_) AllReadyH.nil
              rw [if_pos (by rfl)]
              refine wp_append_run8 HR43.out rfl rfl rfl ?_
              refine hK.out _ _ ?_ (fun hHeld => ?_)
              · (try dsimp only)
                exact B0.out
              clear hK K
              (try simp only [Act.put, List.setIfInBounds_toArray, List.set_cons_zero, List.set_cons_succ])
              clear HR43
              obtain ⟨A46, c46, w46, hr46, row46, bel46, keep46⟩ := krow_append R43.out X45.out (show k + 1 ≤ 100000 by omega) B0.out.size (k := k + 1) rfl
              have HR46 : Hid ((Builtin.append_ #[45, 45] 45 #[.slice A43 k c43, .slice (some ⟨g45, 0, none⟩) 1 1]).run Try.prog w43 = .ok (.slice A46 (k + 1) c46) w46) := hr46
              have b46 := bel46 w3 (Nat.le_refl _) B0.out
              have L6 := H6x.out w46 b46
              obtain ⟨A48, c48, w48, hr48, row48, bel48, keep48⟩ := krow_append row46 L6 (show k + 1 + (n - k) ≤ 100000 by omega) b46.size (k := n + 1) (by omega)
              have HR48 : Hid ((Builtin.append_ #[45, 45] 45 #[.slice A46 (k + 1) c46, .slice A6 (n - k) c6]).run Try.prog w46 = .ok (.slice A48 (n + 1) c48) w48) := hr48
              have b48 := bel48 w3 (Nat.le_refl _) b46
              have E48 := Lib.hid (row48.kys (n := n + 1) (by rw [List.length_append, List.length_append, List.length_take, List.length_drop, HN.out]; first | (simp; done) | (simp; omega)))
              have hcc48 := krow_caps row48
              have B46 := Lib.hid b46
              have B48 := Lib.hid b48
              clear hr46 hr48 bel46 bel48 keep46 keep48 row46 row48 b46 b48 L6 R43 X45 B0
              refine wpAnyH_ready (rs := [7]) (by kernel_rfl) (by simp) ?_
              refine AllReadyH.cons (o := ⟨some 46, _, _, _, _, _⟩) rfl (fun K hK => ?_) AllReadyH.nil
              rw [if_pos (by rfl)]
              refine wp_append_run8 HR46.out rfl rfl rfl ?_
              refine hK.out _ _ ?_ (fun hHeld => ?_)
              · (try dsimp only)
                exact B46.out
              clear hK K
              (try simp only [Act.put, List.setIfInBounds_toArray, List.set_cons_zero, List.set_cons_succ])
              refine wpAnyH_ready (rs := [9]) (by kernel_rfl) (by simp) ?_
              refine AllReadyH.cons (o := ⟨some 48, _, _, _, _, _⟩) rfl (fun K hK => ?_) AllReadyH.nil
              rw [if_pos (by rfl)]
              refine wp_append_run8 HR48.out rfl rfl rfl ?_
              refine hK.out _ _ ?_ (fun hHeld => ?_)
              · (try dsimp only)
                exact B48.out
              clear hK K
              (try simp only [Act.put, List.setIfInBounds_toArray, List.set_cons_zero, List.set_cons_succ])
              refine wpAnyH_take (i := 10) (oi := ⟨some 4, _, _, _, _, _⟩) (v := ?_) rfl (by kernel_rfl) (by kernel_rfl) (by kernel_rfl) (fun _ _ _ h => h) (Or.inl ⟨by rfl, ?_⟩) hHeld ?_
              rotate_left
              · intro ww hSw
                (try dsimp only at hSw)
                go_simp
                (try with_reducible rfl)
              simp only [Act.put, List.setIfInBounds_toArray, List.set_cons_zero, List.set_cons_succ]
              refine wpAnyH_done (by kernel_rfl) ?_ _
              refine NoPanic.normal ?_
              clear HR46 HR48
              go_wp2
              go_ret
              exact ⟨A48, n + 1, c48, rfl, by rw [HPK.out]; have := E48.out; rwa [List.append_assoc, List.singleton_append] at this, hcc48.1, hcc48.2, bel_on HB3.out B48.out⟩
          · skip
            rw [if_pos (by rfl)]
            refine wp_build_k q rfl rfl ?_
            refine hK.out _ _ ?_ (fun hHeld => ?_)
            · (try dsimp only)
              exact bel_alloc B3d.out _
            clear hK K
            (try simp only [Act.put, List.setIfInBounds_toArray, List.set_cons_zero, List.set_cons_succ])
            refine wpAnyH_ready (rs := [0]) (by kernel_rfl) (by simp) ?_
            refine AllReadyH.cons (o := ⟨some 39, _, _, _, _, _⟩) rfl (fun K hK => ?_) AllReadyH.nil
            go_simp
            refine hK.out _ _ ?_ (fun hHeld => ?_)
            · (try dsimp only)
              exact bel_alloc (bel_alloc B3d.out _) _
            clear hK K
            (try simp only [Act.put, List.setIfInBounds_toArray, List.set_cons_zero, List.set_cons_succ])
            have R39b := Lib.hid (trow_mono (krow_empty (wd.alloc (.cells (kyC q) 56))) (by have := HSZ.out; simp; omega : w3.heap.size ≤ _))
            have X45a := Lib.hid ((kys_one wd q).below (bel_alloc (Below.refl _ _) (.cells #[] 56)))
            have B45 := Lib.hid (bel_alloc (bel_alloc B3d.out (.cells (kyC q) 56)) (.cells #[] 56))
            have H39b := Lib.hid (H42d.out.below (bel_alloc (bel_alloc (Below.refl _ _) (.cells (kyC q) 56)) (.cells #[] 56)))
            have hs45 : (wd.alloc (.cells (kyC q) 56)).heap.size = wd.heap.size + 1 := by simp
            rw [hs45] at R39b
            (try rw [hs45])
            have hne : ¬ wd.heap.size = wd.heap.size + 1 := by omega
            have hlt45 : wd.heap.size < ((wd.alloc (.cells (kyC q) 56)).alloc (.cells #[] 56)).heap.size := by simp; omega
            generalize hg39 : wd.heap.size + 1 = g39 at *
            generalize hg45 : wd.heap.size = g45 at *
            generalize hwy : (wd.alloc (.cells (kyC q) 56)).alloc (.cells #[] 56) = wy at *
            obtain ⟨A43, c43, w43, hr43, row43, bel43, keep43⟩ := krow_append R39b.out H39b.out (show 0 + k ≤ 100000 by omega) B45.out.size (k := k) (by omega)
            have HR43 : Hid ((Builtin.append_ #[45, 45] 45 #[.slice (some ⟨g39, 0, none⟩) 0 0, .slice A42 k cl]).run Try.prog wy = .ok (.slice A43 k c43) w43) := hr43
            have b43 := bel43 w3 (Nat.le_refl _) B45.out
            rw [List.nil_append] at row43
            have B0 := Lib.hid b43
            have R43 := Lib.hid row43
            have X45 := Lib.hid (X45a.out.keep (w' := w43) (fun g hg => keep43 _ (by injection hg with hg; subst hg; exact hlt45) (fun g' hg' => by injection hg' with hg'; injection hg with hg; subst hg' hg; exact hne)))
            clear hr43 row43 bel43 keep43 b43 R39b X45a B45 H39b hne hlt45 hg45 hg39 hwy B3d H42d HSZ hs45
            refine wpAnyH_ready (rs := [4]) (by kernel_rfl) (by simp) ?_
            refine AllReadyH.cons (o := ⟨some 43, _, _, _, _, _⟩) rfl (fun K hK => ?_) AllReadyH.nil
            rw [if_pos (by rfl)]
            refine wp_append_run8 HR43.out rfl rfl rfl ?_
            refine hK.out _ _ ?_ (fun hHeld => ?_)
            · (try dsimp only)
              exact B0.out
            clear hK K
            (try simp only [Act.put, List.setIfInBounds_toArray, List.set_cons_zero, List.set_cons_succ])
            clear HR43
            obtain ⟨A46, c46, w46, hr46, row46, bel46, keep46⟩ := krow_append R43.out X45.out (show k + 1 ≤ 100000 by omega) B0.out.size (k := k + 1) rfl
            have HR46 : Hid ((Builtin.append_ #[45, 45] 45 #[.slice A43 k c43, .slice (some ⟨g45, 0, none⟩) 1 1]).run Try.prog w43 = .ok (.slice A46 (k + 1) c46) w46) := hr46
            have b46 := bel46 w3 (Nat.le_refl _) B0.out
            have L6 := H6x.out w46 b46
            obtain ⟨A48, c48, w48, hr48, row48, bel48, keep48⟩ := krow_append row46 L6 (show k + 1 + (n - k) ≤ 100000 by omega) b46.size (k := n + 1) (by omega)
            have HR48 : Hid ((Builtin.append_ #[45, 45] 45 #[.slice A46 (k + 1) c46, .slice A6 (n - k) c6]).run Try.prog w46 = .ok (.slice A48 (n + 1) c48) w48) := hr48
            have b48 := bel48 w3 (Nat.le_refl _) b46
            have E48 := Lib.hid (row48.kys (n := n + 1) (by rw [List.length_append, List.length_append, List.length_take, List.length_drop, HN.out]; first | (simp; done) | (simp; omega)))
            have hcc48 := krow_caps row48
            have B46 := Lib.hid b46
            have B48 := Lib.hid b48
            clear hr46 hr48 bel46 bel48 keep46 keep48 row46 row48 b46 b48 L6 R43 X45 B0
            refine wpAnyH_ready (rs := [7]) (by kernel_rfl) (by simp) ?_
            refine AllReadyH.cons (o := ⟨some 46, _, _, _, _, _⟩) rfl (fun K hK => ?_) AllReadyH.nil
            rw [if_pos (by rfl)]
            refine wp_append_run8 HR46.out rfl rfl rfl ?_
            refine hK.out _ _ ?_ (fun hHeld => ?_)
            · (try dsimp only)
              exact B46.out
            clear hK K
            (try simp only [Act.put, List.setIfInBounds_toArray, List.set_cons_zero, List.set_cons_succ])
            refine wpAnyH_ready (rs := [9]) (by kernel_rfl) (by simp) ?_
            refine AllReadyH.cons (o := ⟨some 48, _, _, _, _, _⟩) rfl (fun K hK => ?_) AllReadyH.nil
            rw [if_pos (by rfl)]
            refine wp_append_run8 HR48.out rfl rfl rfl ?_
            refine hK.out _ _ ?_ (fun hHeld => ?_)
            · (try dsimp only)
              exact B48.out
            clear hK K
            (try simp only [Act.put, List.setIfInBounds_toArray, List.set_cons_zero, List.set_cons_succ])
            refine wpAnyH_take (i := 10) (oi := ⟨some 4, _, _, _, _, _⟩) (v := ?_) rfl (by kernel_rfl) (by kernel_rfl) (by kernel_rfl) (fun _ _ _ h => h) (Or.inl ⟨by rfl, ?_⟩) hHeld ?_
            rotate_left
            · intro ww hSw
              (try dsimp only at hSw)
              go_simp
              (try with_reducible rfl)
            simp only [Act.put, List.setIfInBounds_toArray, List.set_cons_zero, List.set_cons_succ]
            refine wpAnyH_done (by kernel_rfl) ?_ _
            refine NoPanic.normal ?_
            clear HR46 HR48
            go_wp2
            go_ret
            exact ⟨A48, n + 1, c48, rfl, by rw [HPK.out]; have := E48.out; rwa [List.append_assoc, List.singleton_append] at this, hcc48.1, hcc48.2, bel_on HB3.out B48.out⟩
    · obtain rfl : k = n := by omega
      have hltD : decide ((k : Int) < (k : Int)) = false := decide_eq_false (by omega)
      have HPK : Hid (R = l.take k ++ q :: l.drop k) := by
        have := putK_at (k := q) l k (by rw [HN.out]; exact Nat.le_refl _) hah.out (fun h => by rw [HN.out] at h; omega)
        show _ = _
        rw [← HR.out, this, if_neg (fun hh => by have := hh.1; rw [HN.out] at this; omega)]
      clear hah HL HQ HR
      go_wp2_with fail
      refine wp_region_noPanic ?_
      refine wp_region_held_drew (S := fun w' => Below wr.heap.size wr w') (by kernel_rfl) (below_drew (Below.refl _ _)) (fun hHeld => ?_)
      refine wpAnyH_take (i := 0) (oi := ⟨some 7, _, _, _, _, _⟩) (v := ?_) rfl (by kernel_rfl) (by kernel_rfl) (by kernel_rfl) (fun _ _ _ h => h) (Or.inl ⟨by rfl, ?_⟩) hHeld ?_
      rotate_left
      · intro ww hSw
        (try dsimp only at hSw)
        go_simp
        (try with_reducible rfl)
      simp only [Act.put, List.setIfInBounds_toArray, List.set_cons_zero, List.set_cons_succ]
      refine wpAnyH_take (i := 1) (oi := ⟨some 8, _, _, _, _, _⟩) (v := ?_) rfl (by kernel_rfl) (by kernel_rfl) (by kernel_rfl) (fun _ _ _ h => h) (Or.inl ⟨by rfl, ?_⟩) hHeld ?_
      rotate_left
      · intro ww hSw
        (try dsimp only at hSw)
        go_simp
        (try with_reducible rfl)
      simp only [Act.put, List.setIfInBounds_toArray, List.set_cons_zero, List.set_cons_succ]
      refine wpAnyH_take (i := 2) (oi := ⟨some 9, _, _, _, _, _⟩) (v := ?_) rfl (by kernel_rfl) (by kernel_rfl) (by kernel_rfl) (fun _ _ _ h => h) (Or.inl ⟨by rfl, ?_⟩) hHeld ?_
      rotate_left
      · intro ww hSw
        (try dsimp only at hSw)
        go_simp
        (try with_reducible rfl)
      simp only [Act.put, List.setIfInBounds_toArray, List.set_cons_zero, List.set_cons_succ]
      refine wpAnyH_take (i := 3) (oi := ⟨some 10, _, _, _, _, _⟩) (v := ?_) rfl (by kernel_rfl) (by kernel_rfl) (by kernel_rfl) (fun _ _ _ h => h) (Or.inl ⟨by rfl, ?_⟩) hHeld ?_
      rotate_left
      · intro ww hSw
        (try dsimp only at hSw)
        go_simp
        (try with_reducible rfl)
      simp only [Act.put, List.setIfInBounds_toArray, List.set_cons_zero, List.set_cons_succ]
      refine wpAnyH_take (i := 4) (oi := ⟨some 11, _, _, _, _, _⟩) (v := ?_) rfl (by kernel_rfl) (by kernel_rfl) (by kernel_rfl) (fun _ _ _ h => h) (Or.inl ⟨by rfl, ?_⟩) hHeld ?_
      rotate_left
      · intro ww hSw
        (try dsimp only at hSw)
        go_simp
        (try with_reducible rfl)
      simp only [Act.put, List.setIfInBounds_toArray, List.set_cons_zero, List.set_cons_succ]
      refine wpAnyH_take (i := 5) (oi := ⟨some 12, _, _, _, _, _⟩) (v := undef) rfl (by kernel_rfl) (by kernel_rfl) (by kernel_rfl) (fun _ _ _ h => h) (Or.inr ⟨by rfl, rfl⟩) hHeld ?_
      simp only [Act.put, List.setIfInBounds_toArray, List.set_cons_zero, List.set_cons_succ]
      refine wpAnyH_take (i := 6) (oi := ⟨some 13, _, _, _, _, _⟩) (v := undef) rfl (by kernel_rfl) (by kernel_rfl) (by kernel_rfl) (fun _ _ _ h => h) (Or.inr ⟨by rfl, rfl⟩) hHeld ?_
      simp only [Act.put, List.setIfInBounds_toArray, List.set_cons_zero, List.set_cons_succ]
      refine wpAnyH_take (i := 7) (oi := ⟨some 14, _, _, _, _, _⟩) (v := undef) rfl (by kernel_rfl) (by kernel_rfl) (by kernel_rfl) (fun _ _ _ h => h) (Or.inr ⟨by rfl, rfl⟩) hHeld ?_
      simp only [Act.put, List.setIfInBounds_toArray, List.set_cons_zero, List.set_cons_succ]
      refine wpAnyH_take (i := 8) (oi := ⟨some 15, _, _, _, _, _⟩) (v := undef) rfl (by kernel_rfl) (by kernel_rfl) (by kernel_rfl) (fun _ _ _ h => h) (Or.inr ⟨by rfl, rfl⟩) hHeld ?_
      simp only [Act.put, List.setIfInBounds_toArray, List.set_cons_zero, List.set_cons_succ]
      refine wpAnyH_take (i := 9) (oi := ⟨some 16, _, _, _, _, _⟩) (v := undef) rfl (by kernel_rfl) (by kernel_rfl) (by kernel_rfl) (fun _ _ _ h => h) (Or.inr ⟨by rfl, rfl⟩) hHeld ?_
      simp only [Act.put, List.setIfInBounds_toArray, List.set_cons_zero, List.set_cons_succ]
      refine wpAnyH_take (i := 10) (oi := ⟨some 17, _, _, _, _, _⟩) (v := undef) rfl (by kernel_rfl) (by kernel_rfl) (by kernel_rfl) (fun _ _ _ h => h) (Or.inr ⟨by rfl, rfl⟩) hHeld ?_
      simp only [Act.put, List.setIfInBounds_toArray, List.set_cons_zero, List.set_cons_succ]
      refine wpAnyH_take (i := 11) (oi := ⟨some 18, _, _, _, _, _⟩) (v := ?_) rfl (by kernel_rfl) (by kernel_rfl) (by kernel_rfl) (fun _ _ _ h => h) (Or.inl ⟨by rfl, ?_⟩) hHeld ?_
      rotate_left
      · intro ww hSw
        (try dsimp only at hSw)
        go_simp
        (try with_reducible rfl)
      simp only [Act.put, List.setIfInBounds_toArray, List.set_cons_zero, List.set_cons_succ]
      refine wpAnyH_done (by kernel_rfl) ?_ _
      refine NoPanic.normal ?_
      go_wp2_with fail
      have HLr2 := Lib.hid (HLr.out.below (below_drew (Below.refl _ _)))
      have HQr2 := Lib.hid (HQr.out.below (below_drew (Below.refl _ _)))
      have hbw2 := Lib.hid (bel_on hbw.out (below_drew (Below.refl wr.heap.size wr)))
      obtain ⟨wt, hwt⟩ : ∃ wt, wr.drew = wt := ⟨_, rfl⟩
      rw [hwt] at HLr2 HQr2 hbw2 ⊢
      clear hwt HLr HQr hbw
      generalize wt = wr at *
      have HLr := HLr2
      have HQr := HQr2
      refine wp_region_noPanic ?_
      refine wp_region_held_drew (S := fun w' => Below wr.heap.size wr w') (by kernel_rfl) (below_drew (Below.refl _ _)) (fun hHeld => ?_)
      refine wpAnyH_take (i := 0) (oi := ⟨some 21, _, _, _, _, _⟩) (v := ?_) rfl (by kernel_rfl) (by kernel_rfl) (by kernel_rfl) (fun _ _ _ h => h) (Or.inl ⟨by rfl, ?_⟩) hHeld ?_
      rotate_left
      · intro ww hSw
        (try dsimp only at hSw)
        go_simp
        (try with_reducible rfl)
      simp only [Act.put, List.setIfInBounds_toArray, List.set_cons_zero, List.set_cons_succ]
      refine wpAnyH_take (i := 1) (oi := ⟨some 22, _, _, _, _, _⟩) (v := ?_) rfl (by kernel_rfl) (by kernel_rfl) (by kernel_rfl) (fun _ _ _ h => h) (Or.inl ⟨by rfl, ?_⟩) hHeld ?_
      rotate_left
      · intro ww hSw
        (try dsimp only at hSw)
        go_simp
        (try with_reducible rfl)
      simp only [Act.put, List.setIfInBounds_toArray, List.set_cons_zero, List.set_cons_succ]
      refine wpAnyH_take (i := 2) (oi := ⟨some 23, _, _, _, _, _⟩) (v := ?_) rfl (by kernel_rfl) (by kernel_rfl) (by kernel_rfl) (fun _ _ _ h => h) (Or.inl ⟨by rfl, ?_⟩) hHeld ?_
      rotate_left
      · intro ww hSw
        (try dsimp only at hSw)
        go_simp
        (try with_reducible rfl)
      simp only [Act.put, List.setIfInBounds_toArray, List.set_cons_zero, List.set_cons_succ]
      refine wpAnyH_take (i := 3) (oi := ⟨some 24, _, _, _, _, _⟩) (v := ?_) rfl (by kernel_rfl) (by kernel_rfl) (by kernel_rfl) (fun _ _ _ h => h) (Or.inl ⟨by rfl, ?_⟩) hHeld ?_
      rotate_left
      · intro ww hSw
        (try dsimp only at hSw)
        go_simp
        (try with_reducible rfl)
      simp only [Act.put, List.setIfInBounds_toArray, List.set_cons_zero, List.set_cons_succ]
      refine wpAnyH_take (i := 4) (oi := ⟨some 25, _, _, _, _, _⟩) (v := ?_) rfl (by kernel_rfl) (by kernel_rfl) (by kernel_rfl) (fun _ _ _ h => h) (Or.inl ⟨by rfl, ?_⟩) hHeld ?_
      rotate_left
      · intro ww hSw
        (try dsimp only at hSw)
        go_simp
        (try with_reducible rfl)
      simp only [Act.put, List.setIfInBounds_toArray, List.set_cons_zero, List.set_cons_succ]
      refine wpAnyH_take (i := 5) (oi := ⟨some 26, _, _, _, _, _⟩) (v := undef) rfl (by kernel_rfl) (by kernel_rfl) (by kernel_rfl) (fun _ _ _ h => h) (Or.inr ⟨by rfl, rfl⟩) hHeld ?_
      simp only [Act.put, List.setIfInBounds_toArray, List.set_cons_zero, List.set_cons_succ]
      refine wpAnyH_take (i := 6) (oi := ⟨some 27, _, _, _, _, _⟩) (v := undef) rfl (by kernel_rfl) (by kernel_rfl) (by kernel_rfl) (fun _ _ _ h => h) (Or.inr ⟨by rfl, rfl⟩) hHeld ?_
      simp only [Act.put, List.setIfInBounds_toArray, List.set_cons_zero, List.set_cons_succ]
      refine wpAnyH_take (i := 7) (oi := ⟨some 28, _, _, _, _, _⟩) (v := undef) rfl (by kernel_rfl) (by kernel_rfl) (by kernel_rfl) (fun _ _ _ h => h) (Or.inr ⟨by rfl, rfl⟩) hHeld ?_
      simp only [Act.put, List.setIfInBounds_toArray, List.set_cons_zero, List.set_cons_succ]
      refine wpAnyH_take (i := 8) (oi := ⟨some 29, _, _, _, _, _⟩) (v := undef) rfl (by kernel_rfl) (by kernel_rfl) (by kernel_rfl) (fun _ _ _ h => h) (Or.inr ⟨by rfl, rfl⟩) hHeld ?_
      simp only [Act.put, List.setIfInBounds_toArray, List.set_cons_zero, List.set_cons_succ]
      refine wpAnyH_take (i := 9) (oi := ⟨some 30, _, _, _, _, _⟩) (v := undef) rfl (by kernel_rfl) (by kernel_rfl) (by kernel_rfl) (fun _ _ _ h => h) (Or.inr ⟨by rfl, rfl⟩) hHeld ?_
      simp only [Act.put, List.setIfInBounds_toArray, List.set_cons_zero, List.set_cons_succ]
      refine wpAnyH_take (i := 10) (oi := ⟨some 31, _, _, _, _, _⟩) (v := undef) rfl (by kernel_rfl) (by kernel_rfl) (by kernel_rfl) (fun _ _ _ h => h) (Or.inr ⟨by rfl, rfl⟩) hHeld ?_
      simp only [Act.put, List.setIfInBounds_toArray, List.set_cons_zero, List.set_cons_succ]
      refine wpAnyH_take (i := 11) (oi := ⟨some 32, _, _, _, _, _⟩) (v := ?_) rfl (by kernel_rfl) (by kernel_rfl) (by kernel_rfl) (fun _ _ _ h => h) (Or.inl ⟨by rfl, ?_⟩) hHeld ?_
      rotate_left
      · intro ww hSw
        (try dsimp only at hSw)
        go_simp
        (try with_reducible rfl)
      simp only [Act.put, List.setIfInBounds_toArray, List.set_cons_zero, List.set_cons_succ]
      refine wpAnyH_done (by kernel_rfl) ?_ _
      refine NoPanic.normal ?_
      have HB4 := Lib.hid (bel_on hbw2.out (Below.refl wr.heap.size wr))
      have HL4 := HLr
      have HQ4 := HQr
      clear HLr HQr HLr2 HQr2 hbw2
      have HLd := Lib.hid (HL4.out.below (below_drew (Below.refl _ _)))
      have HQd := Lib.hid (HQ4.out.below (below_drew (Below.refl _ _)))
      have HBd := Lib.hid (bel_on HB4.out (below_drew (Below.refl wr.heap.size wr)))
      obtain ⟨wx, hwx⟩ : ∃ wx, wr.drew = wx := ⟨_, rfl⟩
      rw [hwx] at HLd HQd HBd ⊢
      clear hwx HL4 HQ4 HB4
      obtain ⟨A37, hc37, hs37⟩ := kycut_from HLd.out hnc.1 k (by omega)
      rw [Nat.sub_self] at hc37 hs37
      obtain ⟨A6, c6, w6, hr6, row6, bel6, _⟩ := krow_append (krow_empty wx) (hs37.below (bel_alloc (Below.refl _ _) (.cells #[] 56))) (show 0 + 0 ≤ 100000 by omega) (by simp) (k := 0) (by omega)
      have b6 := bel6 wx (Nat.le_refl _) (bel_alloc (Below.refl _ _) _)
      have HC37 := Lib.hid hc37
      have HR6 := Lib.hid hr6
      rw [List.nil_append] at row6
      have HK6 := Lib.hid (row6.kys (by rw [List.length_drop, HN.out]; try omega))
      have HL6 := Lib.hid (HLd.out.below b6)
      have HQ3 := Lib.hid (HQd.out.below b6)
      have HB3 := Lib.hid (bel_on HB.out (bel_on HBd.out b6))
      clear hc37 hs37 hr6 row6 bel6 b6 HLd HQd HBd
      go_wp2_with (first | refine wpList_slice_run HC37.out rfl rfl rfl rfl rfl rfl ?_ | (at_builtin; refine wpList_append_run HR6.out rfl rfl rfl rfl ?_) | fail)
      obtain ⟨A42, hc42, hs42⟩ := kycut_to HL6.out hnc.1 k (by omega)
      have HC42 := Lib.hid hc42
      have HS42 := Lib.hid hs42
      clear hc42 hs42 HC37 HR6
      generalize w6 = w3 at *
      have H6x : Hid (∀ w', Below w3.heap.size w3 w' → Kys w' A6 0 c6 (l.drop k)) := Lib.hid (fun w' hb => HK6.out.below hb)
      clear HK6 HL6
      refine wp_region_noPanic ?_
      refine wp_region_held_drew (S := fun w' => Below w3.heap.size w3 w') (by kernel_rfl) (below_drew (Below.refl _ _)) (fun hHeld => ?_)
      refine wpAnyH_take (i := 1) (oi := ⟨some 40, _, _, _, _, _⟩) (v := ?_) rfl (by kernel_rfl) (by kernel_rfl) (by kernel_rfl) (fun _ _ _ h => h) (Or.inl ⟨by rfl, ?_⟩) hHeld ?_
      rotate_left
      · intro ww hSw
        (try dsimp only at hSw)
        go_simp
        (try with_reducible rfl)
      simp only [Act.put, List.setIfInBounds_toArray, List.set_cons_zero, List.set_cons_succ]
      refine wpAnyH_take (i := 2) (oi := ⟨some 41, _, _, _, _, _⟩) (v := ?_) rfl (by kernel_rfl) (by kernel_rfl) (by kernel_rfl) (fun _ _ _ h => h) (Or.inl ⟨by rfl, ?_⟩) hHeld ?_
      rotate_left
      · intro ww hSw
        (try dsimp only at hSw)
        go_simp
        (try with_reducible rfl)
      simp only [Act.put, List.setIfInBounds_toArray, List.set_cons_zero, List.set_cons_succ]
      refine wpAnyH_take (i := 3) (oi := ⟨some 42, _, _, _, _, _⟩) (v := .slice A42 k cl) rfl (by kernel_rfl) (by kernel_rfl) (by kernel_rfl) (fun _ _ _ h => h) (Or.inl ⟨by rfl, ?_⟩) hHeld ?_
      · intro ww hSw
        (try dsimp only at hSw)
        exact exec_slice_run HC42.out rfl rfl rfl rfl rfl
      simp only [Act.put, List.setIfInBounds_toArray, List.set_cons_zero, List.set_cons_succ]
      refine wpAnyH_take (i := 5) (oi := ⟨some 44, _, _, _, _, _⟩) (v := .agg (kyC q)) rfl (by kernel_rfl) (by kernel_rfl) (by kernel_rfl) (fun _ _ _ h => h) (Or.inl ⟨by rfl, ?_⟩) hHeld ?_
      · intro ww hSw
        (try dsimp only at hSw)
        exact exec_loadKey_at _ rfl rfl (has_load_k (HQ3.out.below hSw))
      simp only [Act.put, List.setIfInBounds_toArray, List.set_cons_zero, List.set_cons_succ]
      refine wpAnyH_take (i := 8) (oi := ⟨some 47, _, _, _, _, _⟩) (v := ?_) rfl (by kernel_rfl) (by kernel_rfl) (by kernel_rfl) (fun _ _ _ h => h) (Or.inl ⟨by rfl, ?_⟩) hHeld ?_
      rotate_left
      · intro ww hSw
        (try dsimp only at hSw)
        go_simp
        (try with_reducible rfl)
      simp only [Act.put, List.setIfInBounds_toArray, List.set_cons_zero, List.set_cons_succ]
      obtain ⟨wd, hwd⟩ : ∃ wd, w3.drew = wd := ⟨_, rfl⟩
      have B3d : Hid (Below w3.heap.size w3 wd) := by rw [← hwd]; exact below_drew (Below.refl _ _)
      have H42d : Hid (Kys wd A42 k cl (l.take k)) := by rw [← hwd]; exact HS42.out
      have HSZ : Hid (wd.heap.size = w3.heap.size) := Lib.hid (by rw [← hwd]; rfl)
      rw [hwd]
      clear hwd
      refine wpAnyH_ready (rs := [0, 6]) (by kernel_rfl) (by simp) ?_
      refine AllReadyH.cons (o := ⟨some 39, _, _, _, _, _⟩) rfl (fun K hK => ?_) (AllReadyH.cons (o := ⟨some 45, _, _, _, _, _⟩) rfl (fun K hK => ?_) AllReadyH.nil)
      · skip
        go_simp
        refine hK.out _ _ ?_ (fun hHeld => ?_)
        · (try dsimp only)
          exact bel_alloc B3d.out _
        clear hK K
        (try simp only [Act.put, List.setIfInBounds_toArray, List.set_cons_zero, List.set_cons_succ])
        have R39 := Lib.hid (krow_empty wd)
        have B39 := Lib.hid (bel_alloc B3d.out (.cells #[] 56))
        have H39 := Lib.hid (H42d.out.below (bel_alloc (Below.refl _ _) (.cells #[] 56)))
        refine wpAnyH_ready (rs := [4, 6]) (by kernel_rfl) (by simp) ?_
        refine AllReadyH.cons (o := ⟨some 43, _, _, _, _, _⟩) rfl (fun K hK => ?_) (AllReadyH.cons (o := ⟨some 45, _, _, _, _, _⟩) rfl (fun K hK => ?_) AllReadyH.nil)
        · skip
          obtain ⟨A43, c43, w43, hr43, row43, bel43, keep43⟩ := krow_append (trow_mono R39.out (Nat.le_of_eq HSZ.out.symm)) H39.out (show 0 + k ≤ 100000 by omega) B39.out.size (k := k) (by omega)
          have HR43 : Hid ((Builtin.append_ #[45, 45] 45 #[.slice (some ⟨wd.heap.size, 0, none⟩) 0 0, .slice A42 k cl]).run Try.prog (wd.alloc (.cells #[] 56)) = .ok (.slice A43 k c43) w43) := hr43
          have b43 := bel43 w3 (Nat.le_refl _) B39.out
          rw [List.nil_append] at row43
          have B43 := Lib.hid b43
          rw [if_pos (by rfl)]
          refine wp_append_run8 HR43.out rfl rfl rfl ?_
          refine hK.out _ _ ?_ (fun hHeld => ?_)
          · (try dsimp only)
            exact B43.out
          clear hK K
          (try simp only [Act.put, List.setIfInBounds_toArray, List.set_cons_zero, List.set_cons_succ])
          refine wpAnyH_ready (rs := [6]) (by kernel_rfl) (by simp) ?_
          refine AllReadyH.cons (o := ⟨some 45, _, _, _, _, _⟩) rfl (fun K hK => ?_) AllReadyH.nil
          rw [if_pos (by rfl)]
          refine wp_build_k q rfl rfl ?_
          refine hK.out _ _ ?_ (fun hHeld => ?_)
          · (try dsimp only)
            exact bel_alloc B43.out _
          clear hK K
          (try simp only [Act.put, List.setIfInBounds_toArray, List.set_cons_zero, List.set_cons_succ])
          have R43 := Lib.hid (row43.alloc (.cells (kyC q) 56))
          have X45 := Lib.hid (kys_one w43 q)
          have B0 := Lib.hid (bel_alloc B43.out (.cells (kyC q) 56))
          obtain ⟨g45, hg45⟩ : ∃ g, w43.heap.size = g := ⟨_, rfl⟩
          rw [hg45] at X45
          rw [hg45]
          obtain ⟨wz, hwz⟩ : ∃ wz, w43.alloc (.cells (kyC q) 56) = wz := ⟨_, rfl⟩
          rw [hwz] at R43 X45 B0
          rw [hwz]
          clear hwz hg45 HR43 hr43 row43 bel43 keep43 b43 B43 R39 B39 H39 B3d H42d HSZ
          obtain ⟨A46, c46, w46, hr46, row46, bel46, keep46⟩ := krow_append R43.out X45.out (show k + 1 ≤ 100000 by omega) B0.out.size (k := k + 1) rfl
          have HR46 : Hid ((Builtin.append_ #[45, 45] 45 #[.slice A43 k c43, .slice (some ⟨g45, 0, none⟩) 1 1]).run Try.prog wz = .ok (.slice A46 (k + 1) c46) w46) := hr46
          have b46 := bel46 w3 (Nat.le_refl _) B0.out
          have L6 := H6x.out w46 b46
          obtain ⟨A48, c48, w48, hr48, row48, bel48, keep48⟩ := krow_append row46 L6 (show k + 1 + 0 ≤ 100000 by omega) b46.size (k := k + 1) (by omega)
          have HR48 : Hid ((Builtin.append_ #[45, 45] 45 #[.slice A46 (k + 1) c46, .slice A6 0 c6]).run Try.prog w46 = .ok (.slice A48 (k + 1) c48) w48) := hr48
          have b48 := bel48 w3 (Nat.le_refl _) b46
          have E48 := Lib.hid (row48.kys (n := k + 1) (by rw [List.length_append, List.length_append, List.length_take, List.length_drop, HN.out]; first | (simp; done) | (simp; omega)))
          have hcc48 := krow_caps row48
          have B46 := Lib.hid b46
          have B48 := Lib.hid b48
          clear hr46 hr48 bel46 bel48 keep46 keep48 row46 row48 b46 b48 L6 R43 X45 B0
          refine wpAnyH_ready (rs := [7]) (by kernel_rfl) (by simp) ?_
          refine AllReadyH.cons (o := ⟨some 46, _, _, _, _, _⟩) rfl (fun K hK => ?_) AllReadyH.nil
          rw [if_pos (by rfl)]
          refine wp_append_run8 HR46.out rfl rfl rfl ?_
          refine hK.out _ _ ?_ (fun hHeld => ?_)
          · (try dsimp only)
            exact B46.out
          clear hK K
          (try simp only [Act.put, List.setIfInBounds_toArray, List.set_cons_zero, List.set_cons_succ])
          refine wpAnyH_ready (rs := [9]) (by kernel_rfl) (by simp) ?_
          refine AllReadyH.cons (o := ⟨some 48, _, _, _, _, _⟩) rfl (fun K hK => ?_) AllReadyH.nil
          rw [if_pos (by rfl)]
          refine wp_append_run8 HR48.out rfl rfl rfl ?_
          refine hK.out _ _ ?_ (fun hHeld => ?_)
          · (try dsimp only)
            exact B48.out
          clear hK K
          (try simp only [Act.put, List.setIfInBounds_toArray, List.set_cons_zero, List.set_cons_succ])
          refine wpAnyH_take (i := 10) (oi := ⟨some 4, _, _, _, _, _⟩) (v := ?_) rfl (by kernel_rfl) (by kernel_rfl) (by kernel_rfl) (fun _ _ _ h => h) (Or.inl ⟨by rfl, ?_⟩) hHeld ?_
          rotate_left
          · intro ww hSw
            (try dsimp only at hSw)
            go_simp
            (try with_reducible rfl)
          simp only [Act.put, List.setIfInBounds_toArray, List.set_cons_zero, List.set_cons_succ]
          refine wpAnyH_done (by kernel_rfl) ?_ _
          refine NoPanic.normal ?_
          clear HR46 HR48
          go_wp2
          go_ret
          exact ⟨A48, k + 1, c48, rfl, by rw [HPK.out]; have := E48.out; rwa [List.append_assoc, List.singleton_append] at this, hcc48.1, hcc48.2, bel_on HB3.out B48.out⟩
        · skip
          rw [if_pos (by rfl)]
          refine wp_build_k q rfl rfl ?_
          refine hK.out _ _ ?_ (fun hHeld => ?_)
          · (try dsimp only)
            exact bel_alloc B39.out _
          clear hK K
          (try simp only [Act.put, List.setIfInBounds_toArray, List.set_cons_zero, List.set_cons_succ])
          have R39b := Lib.hid ((trow_mono R39.out (Nat.le_of_eq HSZ.out.symm)).alloc (.cells (kyC q) 56))
          have X45a := Lib.hid (kys_one (wd.alloc (.cells #[] 56)) q)
          have B45 := Lib.hid (bel_alloc B39.out (.cells (kyC q) 56))
          have H39b := Lib.hid (H39.out.below (bel_alloc (Below.refl _ _) (.cells (kyC q) 56)))
          have hs45 : (wd.alloc (.cells #[] 56)).heap.size = wd.heap.size + 1 := by simp
          rw [hs45] at X45a
          (try rw [hs45])
          have hne : ¬ wd.heap.size + 1 = wd.heap.size := by omega
          have hlt45 : wd.heap.size + 1 < ((wd.alloc (.cells #[] 56)).alloc (.cells (kyC q) 56)).heap.size := by simp
          generalize hg45 : wd.heap.size + 1 = g45 at *
          generalize hg39 : wd.heap.size = g39 at *
          generalize hwy : (wd.alloc (.cells #[] 56)).alloc (.cells (kyC q) 56) = wy at *
          obtain ⟨A43, c43, w43, hr43, row43, bel43, keep43⟩ := krow_append R39b.out H39b.out (show 0 + k ≤ 100000 by omega) B45.out.size (k := k) (by omega)
          have HR43 : Hid ((Builtin.append_ #[45, 45] 45 #[.slice (some ⟨g39, 0, none⟩) 0 0, .slice A42 k cl]).run Try.prog wy = .ok (.slice A43 k c43) w43) := hr43
          have b43 := bel43 w3 (Nat.le_refl _) B45.out
          rw [List.nil_append] at row43
          have B0 := Lib.hid b43
          have R43 := Lib.hid row43
          have X45 := Lib.hid (X45a.out.keep (w' := w43) (fun g hg => keep43 _ (by injection hg with hg; subst hg; exact hlt45) (fun g' hg' => by injection hg' with hg'; injection hg with hg; subst hg' hg; exact hne)))
          clear hr43 row43 bel43 keep43 b43 R39b X45a B45 H39b hne hlt45 hg45 hg39 hwy R39 B39 H39 B3d H42d HSZ hs45
          refine wpAnyH_ready (rs := [4]) (by kernel_rfl) (by simp) ?_
          refine AllReadyH.cons (o := ⟨some 43, _, _, _, _, _⟩) rfl (fun K hK => ?_) AllReadyH.nil
          rw [if_pos (by rfl)]
          refine wp_append_run8 HR43.out rfl rfl rfl ?_
          refine hK.out _ _ ?_ (fun hHeld => ?_)
          · (try dsimp only)
            exact B0.out
          clear hK K
          (try simp only [Act.put, List.setIfInBounds_toArray, List.set_cons_zero, List.set_cons_succ])
          clear HR43
          obtain ⟨A46, c46, w46, hr46, row46, bel46, keep46⟩ := krow_append R43.out X45.out (show k + 1 ≤ 100000 by omega) B0.out.size (k := k + 1) rfl
          have HR46 : Hid ((Builtin.append_ #[45, 45] 45 #[.slice A43 k c43, .slice (some ⟨g45, 0, none⟩) 1 1]).run Try.prog w43 = .ok (.slice A46 (k + 1) c46) w46) := hr46
          have b46 := bel46 w3 (Nat.le_refl _) B0.out
          have L6 := H6x.out w46 b46
          obtain ⟨A48, c48, w48, hr48, row48, bel48, keep48⟩ := krow_append row46 L6 (show k + 1 + 0 ≤ 100000 by omega) b46.size (k := k + 1) (by omega)
          have HR48 : Hid ((Builtin.append_ #[45, 45] 45 #[.slice A46 (k + 1) c46, .slice A6 0 c6]).run Try.prog w46 = .ok (.slice A48 (k + 1) c48) w48) := hr48
          have b48 := bel48 w3 (Nat.le_refl _) b46
          have E48 := Lib.hid (row48.kys (n := k + 1) (by rw [List.length_append, List.length_append, List.length_take, List.length_drop, HN.out]; first | (simp; done) | (simp; omega)))
          have hcc48 := krow_caps row48
          have B46 := Lib.hid b46
          have B48 := Lib.hid b48
          clear hr46 hr48 bel46 bel48 keep46 keep48 row46 row48 b46 b48 L6 R43 X45 B0
          refine wpAnyH_ready (rs := [7]) (by kernel_rfl) (by simp) ?_
          refine AllReadyH.cons (o := ⟨some 46, _, _, _, _, _⟩) rfl (fun K hK => ?_) AllReadyH.nil
          rw [if_pos (by rfl)]
          refine wp_append_run8 HR46.out rfl rfl rfl ?_
          refine hK.out _ _ ?_ (fun hHeld => ?_)
          · (try dsimp only)
            exact B46.out
          clear hK K
          (try simp only [Act.put, List.setIfInBounds_toArray, List.set_cons_zero, List.set_cons_succ])
          refine wpAnyH_ready (rs := [9]) (by kernel_rfl) (by simp) ?_
          refine AllReadyH.cons (o := ⟨some 48, _, _, _, _, _⟩) rfl (fun K hK => ?_) AllReadyH.nil
          rw [if_pos (by rfl)]
          refine wp_append_run8 HR48.out rfl rfl rfl ?_
          refine hK.out _ _ ?_ (fun hHeld => ?_)
          · (try dsimp only)
            exact B48.out
          clear hK K
          (try simp only [Act.put, List.setIfInBounds_toArray, List.set_cons_zero, List.set_cons_succ])
          refine wpAnyH_take (i := 10) (oi := ⟨some 4, _, _, _, _, _⟩) (v := ?_) rfl (by kernel_rfl) (by kernel_rfl) (by kernel_rfl) (fun _ _ _ h => h) (Or.inl ⟨by rfl, ?_⟩) hHeld ?_
          rotate_left
          · intro ww hSw
            (try dsimp only at hSw)
            go_simp
            (try with_reducible rfl)
          simp only [Act.put, List.setIfInBounds_toArray, List.set_cons_zero, List.set_cons_succ]
          refine wpAnyH_done (by kernel_rfl) ?_ _
          refine NoPanic.normal ?_
          clear HR46 HR48
          go_wp2
          go_ret
          exact ⟨A48, k + 1, c48, rfl, by rw [HPK.out]; have := E48.out; rwa [List.append_assoc, List.singleton_append] at this, hcc48.1, hcc48.2, bel_on HB3.out B48.out⟩
      · skip
        rw [if_pos (by rfl)]
        refine wp_build_k q rfl rfl ?_
        refine hK.out _ _ ?_ (fun hHeld => ?_)
        · (try dsimp only)
          exact bel_alloc B3d.out _
        clear hK K
        (try simp only [Act.put, List.setIfInBounds_toArray, List.set_cons_zero, List.set_cons_succ])
        refine wpAnyH_ready (rs := [0]) (by kernel_rfl) (by simp) ?_
        refine AllReadyH.cons (o := ⟨some 39, _, _, _, _, _⟩) rfl (fun K hK => ?_) AllReadyH.nil
        go_simp
        refine hK.out _ _ ?_ (fun hHeld => ?_)
        · (try dsimp only)
          exact bel_alloc (bel_alloc B3d.out _) _
        clear hK K
        (try simp only [Act.put, List.setIfInBounds_toArray, List.set_cons_zero, List.set_cons_succ])
        have R39b := Lib.hid (trow_mono (krow_empty (wd.alloc (.cells (kyC q) 56))) (by have := HSZ.out; simp; omega : w3.heap.size ≤ _))
        have X45a := Lib.hid ((kys_one wd q).below (bel_alloc (Below.refl _ _) (.cells #[] 56)))
        have B45 := Lib.hid (bel_alloc (bel_alloc B3d.out (.cells (kyC q) 56)) (.cells #[] 56))
        have H39b := Lib.hid (H42d.out.below (bel_alloc (bel_alloc (Below.refl _ _) (.cells (kyC q) 56)) (.cells #[] 56)))
        have hs45 : (wd.alloc (.cells (kyC q) 56)).heap.size = wd.heap.size + 1 := by simp
        rw [hs45] at R39b
        (try rw [hs45])
        have hne : ¬ wd.heap.size = wd.heap.size + 1 := by omega
        have hlt45 : wd.heap.size < ((wd.alloc (.cells (kyC q) 56)).alloc (.cells #[] 56)).heap.size := by simp; omega
        generalize hg39 : wd.heap.size + 1 = g39 at *
        generalize hg45 : wd.heap.size = g45 at *
        generalize hwy : (wd.alloc (.cells (kyC q) 56)).alloc (.cells #[] 56) = wy at *
        obtain ⟨A43, c43, w43, hr43, row43, bel43, keep43⟩ := krow_append R39b.out H39b.out (show 0 + k ≤ 100000 by omega) B45.out.size (k := k) (by omega)
        have HR43 : Hid ((Builtin.append_ #[45, 45] 45 #[.slice (some ⟨g39, 0, none⟩) 0 0, .slice A42 k cl]).run Try.prog wy = .ok (.slice A43 k c43) w43) := hr43
        have b43 := bel43 w3 (Nat.le_refl _) B45.out
        rw [List.nil_append] at row43
        have B0 := Lib.hid b43
        have R43 := Lib.hid row43
        have X45 := Lib.hid (X45a.out.keep (w' := w43) (fun g hg => keep43 _ (by injection hg with hg; subst hg; exact hlt45) (fun g' hg' => by injection hg' with hg'; injection hg with hg; subst hg' hg; exact hne)))
        clear hr43 row43 bel43 keep43 b43 R39b X45a B45 H39b hne hlt45 hg45 hg39 hwy B3d H42d HSZ hs45
        refine wpAnyH_ready (rs := [4]) (by kernel_rfl) (by simp) ?_
        refine AllReadyH.cons (o := ⟨some 43, _, _, _, _, _⟩) rfl (fun K hK => ?_) AllReadyH.nil
        rw [if_pos (by rfl)]
        refine wp_append_run8 HR43.out rfl rfl rfl ?_
        refine hK.out _ _ ?_ (fun hHeld => ?_)
        · (try dsimp only)
          exact B0.out
        clear hK K
        (try simp only [Act.put, List.setIfInBounds_toArray, List.set_cons_zero, List.set_cons_succ])
        clear HR43
        obtain ⟨A46, c46, w46, hr46, row46, bel46, keep46⟩ := krow_append R43.out X45.out (show k + 1 ≤ 100000 by omega) B0.out.size (k := k + 1) rfl
        have HR46 : Hid ((Builtin.append_ #[45, 45] 45 #[.slice A43 k c43, .slice (some ⟨g45, 0, none⟩) 1 1]).run Try.prog w43 = .ok (.slice A46 (k + 1) c46) w46) := hr46
        have b46 := bel46 w3 (Nat.le_refl _) B0.out
        have L6 := H6x.out w46 b46
        obtain ⟨A48, c48, w48, hr48, row48, bel48, keep48⟩ := krow_append row46 L6 (show k + 1 + 0 ≤ 100000 by omega) b46.size (k := k + 1) (by omega)
        have HR48 : Hid ((Builtin.append_ #[45, 45] 45 #[.slice A46 (k + 1) c46, .slice A6 0 c6]).run Try.prog w46 = .ok (.slice A48 (k + 1) c48) w48) := hr48
        have b48 := bel48 w3 (Nat.le_refl _) b46
        have E48 := Lib.hid (row48.kys (n := k + 1) (by rw [List.length_append, List.length_append, List.length_take, List.length_drop, HN.out]; first | (simp; done) | (simp; omega)))
        have hcc48 := krow_caps row48
        have B46 := Lib.hid b46
        have B48 := Lib.hid b48
        clear hr46 hr48 bel46 bel48 keep46 keep48 row46 row48 b46 b48 L6 R43 X45 B0
        refine wpAnyH_ready (rs := [7]) (by kernel_rfl) (by simp) ?_
        refine AllReadyH.cons (o := ⟨some 46, _, _, _, _, _⟩) rfl (fun K hK => ?_) AllReadyH.nil
        rw [if_pos (by rfl)]
        refine wp_append_run8 HR46.out rfl rfl rfl ?_
        refine hK.out _ _ ?_ (fun hHeld => ?_)
        · (try dsimp only)
          exact B46.out
        clear hK K
        (try simp only [Act.put, List.setIfInBounds_toArray, List.set_cons_zero, List.set_cons_succ])
        refine wpAnyH_ready (rs := [9]) (by kernel_rfl) (by simp) ?_
        refine AllReadyH.cons (o := ⟨some 48, _, _, _, _, _⟩) rfl (fun K hK => ?_) AllReadyH.nil
        rw [if_pos (by rfl)]
        refine wp_append_run8 HR48.out rfl rfl rfl ?_
        refine hK.out _ _ ?_ (fun hHeld => ?_)
        · (try dsimp only)
          exact B48.out
        clear hK K
        (try simp only [Act.put, List.setIfInBounds_toArray, List.set_cons_zero, List.set_cons_succ])
        refine wpAnyH_take (i := 10) (oi := ⟨some 4, _, _, _, _, _⟩) (v := ?_) rfl (by kernel_rfl) (by kernel_rfl) (by kernel_rfl) (fun _ _ _ h => h) (Or.inl ⟨by rfl, ?_⟩) hHeld ?_
        rotate_left
        · intro ww hSw
          (try dsimp only at hSw)
          go_simp
          (try with_reducible rfl)
        simp only [Act.put, List.setIfInBounds_toArray, List.set_cons_zero, List.set_cons_succ]
        refine wpAnyH_done (by kernel_rfl) ?_ _
        refine NoPanic.normal ?_
        clear HR46 HR48
        go_wp2
        go_ret
        exact ⟨A48, k + 1, c48, rfl, by rw [HPK.out]; have := E48.out; rwa [List.append_assoc, List.singleton_append] at this, hcc48.1, hcc48.2, bel_on HB3.out B48.out⟩
end Go.Proofs.Ytedkhjbnjkcemaa
