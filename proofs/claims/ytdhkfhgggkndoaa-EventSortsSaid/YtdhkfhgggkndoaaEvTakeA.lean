/-
  event.Take's closure: numbers taken off the bytes that are left, each laid at its place.
-/
import Derived.Test.YtdhkfhgggkndoaaEvPut
import Derived.Test.YtdhkfhgggkndoaaEvEat
import Derived.Test.YtdhkfhgggkndoaaPkE
import Derived.StillTailTactics
namespace Go.Proofs.Ytdhkfhgggkndoaa
open Go.RowKit
set_option linter.unusedVariables false
set_option linter.unusedSimpArgs false

/-- What the closure keeps: block g is the event, block R what is left of the bytes. -/
def TakeW (W : World) (g R : Nat) (zs : List Int) (r : List (BitVec 8)) (w : World) : Prop :=
  Below W.heap.size W w ∧ Has w g (ints .i64 zs).toArray ∧ ∃ A c, Has w R #[.slice A r.length c] ∧ Sl 1 W A r.length c (bytesV r) ∧ r.length ≤ c
theorem TakeW.below {W : World} {g R : Nat} {zs : List Int} {r : List (BitVec 8)} {w w' : World} (h : TakeW W g R zs r w) (hb : Below w.heap.size w w') : TakeW W g R zs r w' := by
  obtain ⟨h1, h2, A, c, h3, h4, h5⟩ := h
  exact ⟨bel_on h1 hb, h2.below hb, A, c, h3.below hb, h4, h5⟩
def TakePost (W : World) (g R n : Nat) (zs : List Int) (L : List Nat) (b : List (BitVec 8)) (e : Ending) (w' : World) : Prop :=
  match eatN n b with
  | none => e = .returned (.bool false) ∧ Below W.heap.size W w'
  | some x => e = .returned (.bool true) ∧ TakeW W g R (layL zs L x.1) x.2 w'
theorem takePost_no {W : World} {g R n : Nat} {zs : List Int} {L : List Nat} {b : List (BitVec 8)} {e : Ending} {w' : World} (h : eatN n b = none) (he : e = .returned (.bool false)) (hb : Below W.heap.size W w') : TakePost W g R n zs L b e w' := by
  unfold TakePost
  rw [h]
  exact ⟨he, hb⟩
theorem takePost_yes {W : World} {g R n : Nat} {zs : List Int} {L : List Nat} {b : List (BitVec 8)} {e : Ending} {w' : World} {ns : List Int} {r : List (BitVec 8)} (h : eatN n b = some (ns, r)) (he : e = .returned (.bool true)) (hb : TakeW W g R (layL zs L ns) r w') : TakePost W g R n zs L b e w' := by
  unfold TakePost
  rw [h]
  exact ⟨he, hb⟩
theorem eat_none_mono {b : List (BitVec 8)} : ∀ {k n : Nat}, k ≤ n → eatN k b = none → eatN n b = none := by
  intro k n h
  induction h with
  | refl => exact id
  | step h ih =>
    intro h0
    rw [eatN, ih h0]
theorem eat_snoc_none {b r : List (BitVec 8)} {k : Nat} {ns : List Int} (h : eatN k b = some (ns, r)) (ht : takeB r = none) : eatN (k + 1) b = none := by
  simp only [eatN, h, ht]
theorem eat_snoc_some {b r t : List (BitVec 8)} {k m : Nat} {ns : List Int} (h : eatN k b = some (ns, r)) (ht : takeB r = some (m, t)) : eatN (k + 1) b = some (ns ++ [(m : Int)], t) := by
  simp only [eatN, h, ht]
theorem size_maxE (w : World) : Calls Try.prog 54 #[.int .i64 9223372036854775807] w fun e w' => e = .returned (.int .i64 9) ∧ Below w.heap.size w w' := by
  have := size_nat 9223372036854775807 w (by decide)
  have e : (digs 9223372036854775807).length = 8 := by
    have := size_most
    rw [one_len] at this
    omega
  rw [e] at this
  exact sameB this
theorem exec_min2E {P : Program} {o : Oper} {ρ : Operand → Value} {ww : World} {x y : Operand} {ts : Array TypeId} (p q n : Nat) (hn : min p q = n)
    (ho : o.op = .call { callee := .builtin .min, args := #[x, y], argTypes := ts }) (hx : ρ x = .int .i64 (p : Int)) (hy : ρ y = .int .i64 (q : Int)) :
    (execOp ρ o).run P ww = .ok (.value (.int .i64 (n : Int))) ww := by
  have e : (if (q : Int) < (p : Int) then (q : Int) else (p : Int)) = (n : Int) := by
    subst hn
    by_cases h1 : (q : Int) < (p : Int)
    · rw [if_pos h1]; omega
    · rw [if_neg h1]; omega
  unfold execOp
  simp only [ho, resolve, invoke, builtin, Sem.run_bind, Sem.run_pure, Result.andThen_ok, List.map_toArray, List.map_cons, List.map_nil, hx, hy, run_min_int2, e]
theorem size_atE (n o : Nat) (w : World) (h : n < 9223372036854775808) (ho : (oneB n).length = o) :
    Calls Try.prog 54 #[.int .i64 n] w fun e w' => e = .returned (.int .i64 (o : Nat)) ∧ w' = w := by
  subst ho
  exact (size_at n w h).mono fun _ _ ⟨h1, h2⟩ => ⟨h1, h2.symm⟩
set_option maxRecDepth 20000 in
set_option maxHeartbeats 2000000 in
theorem take1_any (A : Option Addr) (n c g R B E : Nat) (L : List Nat) (zs : List Int) (b : List (BitVec 8)) (W w : World) (hL : L.length = n) (hn6 : n ≤ 6) (hnc : n ≤ c) (hc6 : c ≤ 6) (hLo : ∀ o ∈ L, o < 11) (hzs : zs.length = 11)
    (hP : PtrsB B E w A g L) (hgB : g < B) (hRB : R < B) (hgR : g ≠ R) (hWg : W.heap.size ≤ g) (hWR : W.heap.size ≤ R) (hE : E ≤ w.heap.size) (h : TakeW W g R zs b w) (hb : b.length ≤ 1000000) :
    Calls Try.prog 52 #[.slice A n c, .pointer (some ⟨R, 0, none⟩)] w (TakePost W g R n zs L b) := by
  have mixed : Try.prog.follows Departure.mixedOrders = true := by kernel_rfl
  have HL := Lib.hid hL
  have HLO := Lib.hid hLo
  have HZS := Lib.hid hzs
  have HPP := Lib.hid hP
  have HT := Lib.hid h
  have HB := Lib.hid hb
  have HEE := Lib.hid hE
  have HM := Lib.hid mixed
  clear hL hLo hzs hP h hb hE mixed
  go_enter Try.func52, Try.ntmps52
  go_wp2_with fail
  go_loopw [11] (fun i wr => ∃ (k : Nat) (ns : List Int) (r : List (BitVec 8)), k ≤ n ∧ i = .int .i64 k ∧ Hid (eatN k b = some (ns, r)) ∧ Hid (TakeW W g R (layL zs L ns) r wr) ∧ Hid (PtrsB B E wr A g L) ∧ Hid (E ≤ wr.heap.size) ∧ r.length ≤ 1000000) (fun i _ => n - (intOf i).toNat)
  case atStart => exact ⟨0, [], b, by omega, rfl, rfl, by rw [layL_nil]; exact HT, HPP, HEE, HB.out⟩
  case round =>
    clear HT HPP HB HEE
    obtain ⟨k, ns, r, hk, rfl, he, hT, hP, hE, hr⟩ := hrel
    by_cases hlt : k < n
    · have hkL : k < L.length := by rw [HL.out]; exact hlt
      obtain ⟨b1, off, rfl, hBb, hbs, hc⟩ := hP.out k hkL
      have hLk : L.getD k 0 < 11 := HLO.out _ (by simp [List.getD, hkL])
      obtain ⟨hT1, hT2, Ar, cr, hT3, hT4, hT5⟩ := hT.out
      have HSN := Lib.hid (fun m => layL_snoc zs L ns k (eat_len k he.out) hkL m)
      generalize L.getD k 0 = o at *
      unfold ptrV at hc
      have hcl := hT3.cell 0 (v := .slice Ar r.length cr) rfl
      have hcr := hT3.size
      have hcg := hT2.size
      obtain ⟨q, hq⟩ : ∃ q, min r.length 9 = q := ⟨_, rfl⟩
      have hqr : q ≤ r.length := by omega
      obtain ⟨A2, hcut, hs2⟩ := cut_to_all hT4 hT5 q hqr
      have hs2' := hs2 W hT4
      have hnine := take_nine r
      rw [hq] at hnine
      have HE2 := Lib.hid hT1
      have HG2 := Lib.hid hT2
      have HR2 := Lib.hid hT3
      have HA4 := Lib.hid hT4
      have HC := Lib.hid hcut
      have HQ := Lib.hid hq
      have HCL := Lib.hid hcl
      have hqc : q ≤ cr := by omega
      have HKC := Lib.hid hT5
      clear hT hcut hs2 hq hT1 hT2 hT3 hT4 hT5 hcl
      cases htk : takeB r with
      | none =>
        rw [htk] at hnine
        have HTK : Hid (∀ ww, Below wr.heap.size wr ww → Calls Try.prog 53 #[.slice A2 q cr] ww fun e w' => e = .returned (.tuple #[.int .i64 0, .slice none 0 0, .int .i64 50]) ∧ Below ww.heap.size ww w') := Lib.hid (fun ww hww =>
          sameB (take_bad A2 q cr (r.take q) ww (byts_of_sl ((hs2'.below HE2.out).below hww)) (by rw [List.length_take]; omega) (by omega) (by rw [hnine]; rfl)))
        have hno : Hid (eatN n b = none) := Lib.hid (eat_none_mono (show k + 1 ≤ n by omega) (eat_snoc_none he.out htk))
        clear hnine htk hs2' he
        go_wp2_with fail
        refine wp_region_noPanic ?_
        refine wp_region_held_drew (S := fun w' => Below wr.heap.size wr w') (by kernel_rfl) (below_drew (Below.refl _ _)) (fun hHeld => ?_)
        refine wpAnyH_take (i := 0) (oi := ⟨some 16, _, _, _, _, _⟩) (v := .slice Ar r.length cr) rfl (by kernel_rfl) (by kernel_rfl) (by kernel_rfl) (fun _ _ _ h => h) (Or.inl ⟨by rfl, ?_⟩) hHeld ?_
        · intro ww hSw
          (try dsimp only at hSw)
          have hcc := (hSw.cell (p := ⟨R, 0, none⟩) hcr).trans HCL.out
          have hcs := cell_lt hcc
          go_simp
        simp only [Act.put, List.setIfInBounds_toArray, List.set_cons_zero, List.set_cons_succ]
        refine wpAnyH_take (i := 1) (oi := ⟨some 17, _, _, _, _, _⟩) (v := .slice Ar r.length cr) rfl (by kernel_rfl) (by kernel_rfl) (by kernel_rfl) (fun _ _ _ h => h) (Or.inl ⟨by rfl, ?_⟩) hHeld ?_
        · intro ww hSw
          (try dsimp only at hSw)
          have hcc := (hSw.cell (p := ⟨R, 0, none⟩) hcr).trans HCL.out
          have hcs := cell_lt hcc
          go_simp
        simp only [Act.put, List.setIfInBounds_toArray, List.set_cons_zero, List.set_cons_succ]
        refine wpAnyH_take (i := 2) (oi := ⟨some 18, _, _, _, _, _⟩) (v := ?_) rfl (by kernel_rfl) (by kernel_rfl) (by kernel_rfl) (fun _ _ _ h => h) (Or.inl ⟨by rfl, ?_⟩) hHeld ?_
        rotate_left
        · intro ww hSw
          (try dsimp only at hSw)
          go_simp
          (try with_reducible rfl)
        simp only [Act.put, List.setIfInBounds_toArray, List.set_cons_zero, List.set_cons_succ]
        refine wpAnyH_ready (rs := [3]) (by kernel_rfl) (by simp) ?_
        refine AllReadyH.cons (o := ⟨some 19, _, _, _, _, _⟩) rfl (fun K hK => ?_) AllReadyH.nil
        go_simp
        go_at_call 54
        refine (size_maxE _).mono ?_
        rintro e_r w1 ⟨rfl, hbn⟩
        have hbw1 : Below wr.heap.size wr w1 := bel_on (show Below wr.heap.size wr _ by (repeat' (first | with_reducible exact Below.refl _ _ | with_reducible assumption | with_reducible refine bel_alloc ?_ _ | with_reducible refine bel_set ?_ ?_ _ | with_reducible refine below_drewN ?_ _ | with_reducible refine below_drew ?_ | (simp; done) | (simp; omega) | omega))) hbn
        clear hbn
        go_wp2_with fail
        refine hK.out _ _ ?_ (fun hHeld => ?_)
        · (try dsimp only)
          exact hbw1
        clear hK K
        (try simp only [Act.put, List.setIfInBounds_toArray, List.set_cons_zero, List.set_cons_succ])
        refine wpAnyH_take (i := 4) (oi := ⟨some 20, _, _, _, _, _⟩) (v := .int .i64 (q : Nat)) rfl (by kernel_rfl) (by kernel_rfl) (by kernel_rfl) (fun _ _ _ h => h) (Or.inl ⟨by rfl, ?_⟩) hHeld ?_
        · intro ww hSw
          (try dsimp only at hSw)
          exact exec_min2E r.length 9 q HQ.out rfl rfl rfl
        simp only [Act.put, List.setIfInBounds_toArray, List.set_cons_zero, List.set_cons_succ]
        refine wpAnyH_take (i := 5) (oi := ⟨some 21, _, _, _, _, _⟩) (v := .slice A2 q cr) rfl (by kernel_rfl) (by kernel_rfl) (by kernel_rfl) (fun _ _ _ h => h) (Or.inl ⟨by rfl, ?_⟩) hHeld ?_
        · intro ww hSw
          (try dsimp only at hSw)
          exact exec_slice_run HC.out rfl rfl rfl rfl rfl
        simp only [Act.put, List.setIfInBounds_toArray, List.set_cons_zero, List.set_cons_succ]
        refine wpAnyH_ready (rs := [6]) (by kernel_rfl) (by simp) ?_
        refine AllReadyH.cons (o := ⟨some 22, _, _, _, _, _⟩) rfl (fun K hK => ?_) AllReadyH.nil
        go_simp
        go_at_call 53
        refine (HTK.out _ hbw1).mono ?_
        rintro e_r w2 ⟨rfl, hbn⟩
        have hbw2 : Below wr.heap.size wr w2 := bel_on (show Below wr.heap.size wr _ by (repeat' (first | with_reducible exact Below.refl _ _ | with_reducible assumption | with_reducible refine bel_alloc ?_ _ | with_reducible refine bel_set ?_ ?_ _ | with_reducible refine below_drewN ?_ _ | with_reducible refine below_drew ?_ | (simp; done) | (simp; omega) | omega))) hbn
        clear hbn
        go_wp2_with fail
        refine hK.out _ _ ?_ (fun hHeld => ?_)
        · (try dsimp only)
          exact hbw2
        clear hK K
        (try simp only [Act.put, List.setIfInBounds_toArray, List.set_cons_zero, List.set_cons_succ])
        refine wpAnyH_take (i := 7) (oi := ⟨some 15, _, _, _, _, _⟩) (v := ?_) rfl (by kernel_rfl) (by kernel_rfl) (by kernel_rfl) (fun _ _ _ h => h) (Or.inl ⟨by rfl, ?_⟩) hHeld ?_
        rotate_left
        · intro ww hSw
          (try dsimp only at hSw)
          go_simp
          (try with_reducible rfl)
        simp only [Act.put, List.setIfInBounds_toArray, List.set_cons_zero, List.set_cons_succ]
        refine wpAnyH_take (i := 8) (oi := ⟨some 23, _, _, _, _, _⟩) (v := ?_) rfl (by kernel_rfl) (by kernel_rfl) (by kernel_rfl) (fun _ _ _ h => h) (Or.inl ⟨by rfl, ?_⟩) hHeld ?_
        rotate_left
        · intro ww hSw
          (try dsimp only at hSw)
          go_simp
          (try with_reducible rfl)
        simp only [Act.put, List.setIfInBounds_toArray, List.set_cons_zero, List.set_cons_succ]
        refine wpAnyH_take (i := 9) (oi := ⟨some 24, _, _, _, _, _⟩) (v := ?_) rfl (by kernel_rfl) (by kernel_rfl) (by kernel_rfl) (fun _ _ _ h => h) (Or.inl ⟨by rfl, ?_⟩) hHeld ?_
        rotate_left
        · intro ww hSw
          (try dsimp only at hSw)
          go_simp
          (try with_reducible rfl)
        simp only [Act.put, List.setIfInBounds_toArray, List.set_cons_zero, List.set_cons_succ]
        refine wpAnyH_take (i := 10) (oi := ⟨some 25, _, _, _, _, _⟩) (v := ?_) rfl (by kernel_rfl) (by kernel_rfl) (by kernel_rfl) (fun _ _ _ h => h) (Or.inl ⟨by rfl, ?_⟩) hHeld ?_
        rotate_left
        · intro ww hSw
          (try dsimp only at hSw)
          go_simp
          (try with_reducible rfl)
        simp only [Act.put, List.setIfInBounds_toArray, List.set_cons_zero, List.set_cons_succ]
        refine wpAnyH_take (i := 11) (oi := ⟨some 6, _, _, _, _, _⟩) (v := ?_) rfl (by kernel_rfl) (by kernel_rfl) (by kernel_rfl) (fun _ _ _ h => h) (Or.inl ⟨by rfl, ?_⟩) hHeld ?_
        rotate_left
        · intro ww hSw
          (try dsimp only at hSw)
          go_simp
          (try with_reducible rfl)
        simp only [Act.put, List.setIfInBounds_toArray, List.set_cons_zero, List.set_cons_succ]
        refine wpAnyH_take (i := 12) (oi := ⟨some 7, _, _, _, _, _⟩) (v := ?_) rfl (by kernel_rfl) (by kernel_rfl) (by kernel_rfl) (fun _ _ _ h => h) (Or.inl ⟨by rfl, ?_⟩) hHeld ?_
        rotate_left
        · intro ww hSw
          (try dsimp only at hSw)
          go_simp
          (try with_reducible rfl)
        simp only [Act.put, List.setIfInBounds_toArray, List.set_cons_zero, List.set_cons_succ]
        refine wpAnyH_take (i := 13) (oi := ⟨some 8, _, _, _, _, _⟩) (v := ?_) rfl (by kernel_rfl) (by kernel_rfl) (by kernel_rfl) (fun _ _ _ h => h) (Or.inl ⟨by rfl, ?_⟩) hHeld ?_
        rotate_left
        · intro ww hSw
          (try dsimp only at hSw)
          go_simp
          (try with_reducible rfl)
        simp only [Act.put, List.setIfInBounds_toArray, List.set_cons_zero, List.set_cons_succ]
        refine wpAnyH_done (by kernel_rfl) ?_ _
        refine NoPanic.normal ?_
        have hbF := bel_on HE2.out hbw2
        clear hHeld hbw2 hbw1
        go_wp2
        go_ret
        exact takePost_no hno.out rfl hbF
      | some x =>
        obtain ⟨m, t⟩ := x
        rw [htk] at hnine
        obtain ⟨hl1, hl2, hl3⟩ := take_lens htk
        have hm := (take_own htk).2
        have hnine2 : takeB (r.take q) = some (m, t.take (9 - (oneB m).length)) := hnine
        have HTK : Hid (∀ ww, Below wr.heap.size wr ww → Calls Try.prog 53 #[.slice A2 q cr] ww fun e w' => ∃ A3 c3 n3, e = .returned (.tuple #[.int .i64 m, .slice A3 n3 c3, .int .i64 0]) ∧ Below ww.heap.size ww w') := Lib.hid (fun ww hww =>
          (take_ok A2 q cr (r.take q) _ m ww ((hs2'.below HE2.out).below hww) (by omega) hqc hnine2).mono fun _ _ ⟨A3, c3, h1, _, h3⟩ => ⟨A3, c3, _, h1, h3⟩)
        obtain ⟨o9, ho9⟩ : ∃ o9, (oneB m).length = o9 := ⟨_, rfl⟩
        have hsn : eatN (k + 1) b = some (ns ++ [(m : Int)], t) := eat_snoc_some he.out htk
        have HSZ := Lib.hid (fun ww => size_atE m o9 ww hm ho9)
        rw [ho9] at hl1 hl2 hl3
        have ho9r : o9 ≤ r.length := by omega
        obtain ⟨A3, hcut3, hs3⟩ := cut_from_all HA4.out HKC.out o9 ho9r
        have hs3' := hs3 W HA4.out
        rw [hl3] at hs3'
        have htl : r.length - o9 = t.length := by omega
        rw [htl] at hcut3 hs3'
        have HC3 := Lib.hid hcut3
        have HS3 := Lib.hid hs3'
        have HNX := Lib.hid hsn
        have htc : t.length ≤ cr - o9 := by have := HKC.out; omega
        have htb : t.length ≤ 1000000 := by omega
        clear hnine hnine2 htk hs2' he hl1 hl2 hl3 ho9 hsn hcut3 hs3 hs3' htl
        go_wp2_with fail
        refine wp_region_noPanic ?_
        refine wp_region_held_drew (S := fun w' => Below wr.heap.size wr w') (by kernel_rfl) (below_drew (Below.refl _ _)) (fun hHeld => ?_)
        refine wpAnyH_take (i := 0) (oi := ⟨some 16, _, _, _, _, _⟩) (v := .slice Ar r.length cr) rfl (by kernel_rfl) (by kernel_rfl) (by kernel_rfl) (fun _ _ _ h => h) (Or.inl ⟨by rfl, ?_⟩) hHeld ?_
        · intro ww hSw
          (try dsimp only at hSw)
          have hcc := (hSw.cell (p := ⟨R, 0, none⟩) hcr).trans HCL.out
          have hcs := cell_lt hcc
          go_simp
        simp only [Act.put, List.setIfInBounds_toArray, List.set_cons_zero, List.set_cons_succ]
        refine wpAnyH_take (i := 1) (oi := ⟨some 17, _, _, _, _, _⟩) (v := .slice Ar r.length cr) rfl (by kernel_rfl) (by kernel_rfl) (by kernel_rfl) (fun _ _ _ h => h) (Or.inl ⟨by rfl, ?_⟩) hHeld ?_
        · intro ww hSw
          (try dsimp only at hSw)
          have hcc := (hSw.cell (p := ⟨R, 0, none⟩) hcr).trans HCL.out
          have hcs := cell_lt hcc
          go_simp
        simp only [Act.put, List.setIfInBounds_toArray, List.set_cons_zero, List.set_cons_succ]
        refine wpAnyH_take (i := 2) (oi := ⟨some 18, _, _, _, _, _⟩) (v := ?_) rfl (by kernel_rfl) (by kernel_rfl) (by kernel_rfl) (fun _ _ _ h => h) (Or.inl ⟨by rfl, ?_⟩) hHeld ?_
        rotate_left
        · intro ww hSw
          (try dsimp only at hSw)
          go_simp
          (try with_reducible rfl)
        simp only [Act.put, List.setIfInBounds_toArray, List.set_cons_zero, List.set_cons_succ]
        refine wpAnyH_ready (rs := [3]) (by kernel_rfl) (by simp) ?_
        refine AllReadyH.cons (o := ⟨some 19, _, _, _, _, _⟩) rfl (fun K hK => ?_) AllReadyH.nil
        go_simp
        go_at_call 54
        refine (size_maxE _).mono ?_
        rintro e_r w1 ⟨rfl, hbn⟩
        have hbw1 : Below wr.heap.size wr w1 := bel_on (show Below wr.heap.size wr _ by (repeat' (first | with_reducible exact Below.refl _ _ | with_reducible assumption | with_reducible refine bel_alloc ?_ _ | with_reducible refine bel_set ?_ ?_ _ | with_reducible refine below_drewN ?_ _ | with_reducible refine below_drew ?_ | (simp; done) | (simp; omega) | omega))) hbn
        clear hbn
        go_wp2_with fail
        refine hK.out _ _ ?_ (fun hHeld => ?_)
        · (try dsimp only)
          exact hbw1
        clear hK K
        (try simp only [Act.put, List.setIfInBounds_toArray, List.set_cons_zero, List.set_cons_succ])
        refine wpAnyH_take (i := 4) (oi := ⟨some 20, _, _, _, _, _⟩) (v := .int .i64 (q : Nat)) rfl (by kernel_rfl) (by kernel_rfl) (by kernel_rfl) (fun _ _ _ h => h) (Or.inl ⟨by rfl, ?_⟩) hHeld ?_
        · intro ww hSw
          (try dsimp only at hSw)
          exact exec_min2E r.length 9 q HQ.out rfl rfl rfl
        simp only [Act.put, List.setIfInBounds_toArray, List.set_cons_zero, List.set_cons_succ]
        refine wpAnyH_take (i := 5) (oi := ⟨some 21, _, _, _, _, _⟩) (v := .slice A2 q cr) rfl (by kernel_rfl) (by kernel_rfl) (by kernel_rfl) (fun _ _ _ h => h) (Or.inl ⟨by rfl, ?_⟩) hHeld ?_
        · intro ww hSw
          (try dsimp only at hSw)
          exact exec_slice_run HC.out rfl rfl rfl rfl rfl
        simp only [Act.put, List.setIfInBounds_toArray, List.set_cons_zero, List.set_cons_succ]
        refine wpAnyH_ready (rs := [6]) (by kernel_rfl) (by simp) ?_
        refine AllReadyH.cons (o := ⟨some 22, _, _, _, _, _⟩) rfl (fun K hK => ?_) AllReadyH.nil
        go_simp
        go_at_call 53
        refine (HTK.out _ hbw1).mono ?_
        rintro e_r w2 ⟨A9, c9, n9, rfl, hbn⟩
        have hbw2 : Below wr.heap.size wr w2 := bel_on (show Below wr.heap.size wr _ by (repeat' (first | with_reducible exact Below.refl _ _ | with_reducible assumption | with_reducible refine bel_alloc ?_ _ | with_reducible refine bel_set ?_ ?_ _ | with_reducible refine below_drewN ?_ _ | with_reducible refine below_drew ?_ | (simp; done) | (simp; omega) | omega))) hbn
        clear hbn
        go_wp2_with fail
        refine hK.out _ _ ?_ (fun hHeld => ?_)
        · (try dsimp only)
          exact hbw2
        clear hK K
        (try simp only [Act.put, List.setIfInBounds_toArray, List.set_cons_zero, List.set_cons_succ])
        refine wpAnyH_take (i := 7) (oi := ⟨some 15, _, _, _, _, _⟩) (v := ?_) rfl (by kernel_rfl) (by kernel_rfl) (by kernel_rfl) (fun _ _ _ h => h) (Or.inl ⟨by rfl, ?_⟩) hHeld ?_
        rotate_left
        · intro ww hSw
          (try dsimp only at hSw)
          go_simp
          (try with_reducible rfl)
        simp only [Act.put, List.setIfInBounds_toArray, List.set_cons_zero, List.set_cons_succ]
        refine wpAnyH_take (i := 8) (oi := ⟨some 23, _, _, _, _, _⟩) (v := ?_) rfl (by kernel_rfl) (by kernel_rfl) (by kernel_rfl) (fun _ _ _ h => h) (Or.inl ⟨by rfl, ?_⟩) hHeld ?_
        rotate_left
        · intro ww hSw
          (try dsimp only at hSw)
          go_simp
          (try with_reducible rfl)
        simp only [Act.put, List.setIfInBounds_toArray, List.set_cons_zero, List.set_cons_succ]
        refine wpAnyH_take (i := 9) (oi := ⟨some 24, _, _, _, _, _⟩) (v := ?_) rfl (by kernel_rfl) (by kernel_rfl) (by kernel_rfl) (fun _ _ _ h => h) (Or.inl ⟨by rfl, ?_⟩) hHeld ?_
        rotate_left
        · intro ww hSw
          (try dsimp only at hSw)
          go_simp
          (try with_reducible rfl)
        simp only [Act.put, List.setIfInBounds_toArray, List.set_cons_zero, List.set_cons_succ]
        refine wpAnyH_take (i := 10) (oi := ⟨some 25, _, _, _, _, _⟩) (v := ?_) rfl (by kernel_rfl) (by kernel_rfl) (by kernel_rfl) (fun _ _ _ h => h) (Or.inl ⟨by rfl, ?_⟩) hHeld ?_
        rotate_left
        · intro ww hSw
          (try dsimp only at hSw)
          go_simp
          (try with_reducible rfl)
        simp only [Act.put, List.setIfInBounds_toArray, List.set_cons_zero, List.set_cons_succ]
        refine wpAnyH_take (i := 11) (oi := ⟨some 6, _, _, _, _, _⟩) (v := ?_) rfl (by kernel_rfl) (by kernel_rfl) (by kernel_rfl) (fun _ _ _ h => h) (Or.inl ⟨by rfl, ?_⟩) hHeld ?_
        rotate_left
        · intro ww hSw
          (try dsimp only at hSw)
          go_simp
          (try with_reducible rfl)
        simp only [Act.put, List.setIfInBounds_toArray, List.set_cons_zero, List.set_cons_succ]
        refine wpAnyH_take (i := 12) (oi := ⟨some 7, _, _, _, _, _⟩) (v := ?_) rfl (by kernel_rfl) (by kernel_rfl) (by kernel_rfl) (fun _ _ _ h => h) (Or.inl ⟨by rfl, ?_⟩) hHeld ?_
        rotate_left
        · intro ww hSw
          (try dsimp only at hSw)
          go_simp
          (try with_reducible rfl)
        simp only [Act.put, List.setIfInBounds_toArray, List.set_cons_zero, List.set_cons_succ]
        refine wpAnyH_take (i := 13) (oi := ⟨some 8, _, _, _, _, _⟩) (v := ?_) rfl (by kernel_rfl) (by kernel_rfl) (by kernel_rfl) (fun _ _ _ h => h) (Or.inl ⟨by rfl, ?_⟩) hHeld ?_
        rotate_left
        · intro ww hSw
          (try dsimp only at hSw)
          go_simp
          (try with_reducible rfl)
        simp only [Act.put, List.setIfInBounds_toArray, List.set_cons_zero, List.set_cons_succ]
        refine wpAnyH_done (by kernel_rfl) ?_ _
        refine NoPanic.normal ?_
        have hg3 := HG2.out.below hbw2
        have hR3 := HR2.out.below hbw2
        have hW3 := bel_on HE2.out hbw2
        have hP3 := Lib.hid (hP.out.keep (fun p hp1 hp2 => hbw2.cell (p := p) (by have := hE.out; omega)))
        have hE3 := Lib.hid (Nat.le_trans hE.out hbw2.size)
        have hcz : (ints .i64 (layL zs L ns)).toArray.size = 11 := by simp [ints, layL_len, HZS.out]
        obtain ⟨v0, hv0⟩ : ∃ v0, (ints .i64 (layL zs L ns)).toArray[o]? = some v0 := ⟨_, Array.getElem?_eq_getElem (by omega)⟩
        have hcell := hg3.cell o hv0
        have hfro := hg3.frozen o
        have hG4 := Lib.hid (hg3.set o (.int .i64 (m : Int)))
        have hR4 := Lib.hid (hR3.far (p := ⟨g, o, none⟩) (by exact fun e => hgR e.symm) (.int .i64 (m : Int)))
        have hW4 := Lib.hid (bel_set hW3 (p := ⟨g, o, none⟩) hWg (.int .i64 (m : Int)))
        have hP4 := Lib.hid (hP3.out.keep (w' := w2.setCell ⟨g, o, none⟩ (.int .i64 (m : Int))) (fun p hp1 hp2 => World.cell?_setCell_far _ _ _ _ (by show g ≠ p.block; omega)))
        have hE4 : Hid (E ≤ (w2.setCell ⟨g, o, none⟩ (.int .i64 (m : Int))).heap.size) := Lib.hid (by simpa using hE3.out)
        clear hHeld hbw1 hbw2 hg3 hR3 hW3 hP3 hE3 hcz HG2 HR2 HE2 hP hE HTK HCL
        go_wp2_with fail
        generalize w2.setCell ⟨g, o, none⟩ (.int .i64 (m : Int)) = w4 at *
        refine wp_region_still_tail 4 HM.out (by kernel_rfl) ?_
        simp only [List.take_succ_cons, List.take_zero, List.drop_succ_cons, List.drop_zero]
        change wpStill _ _ w4.drew (fun a' => wpList _ _ _ _ a' w4.drew) _ _
        have hR5 : Hid (Has w4.drew R #[.slice Ar r.length cr]) := hR4
        have hG5 : Hid (Has w4.drew g ((ints .i64 (layL zs L ns)).toArray.setIfInBounds o (.int .i64 (m : Int)))) := hG4
        have hW5 : Hid (Below W.heap.size W w4.drew) := Lib.hid (below_drew hW4.out)
        have hP5 : Hid (PtrsB B E w4.drew (some ⟨b1, off, none⟩) g L) := hP4
        have hE5 : Hid (E ≤ w4.drew.heap.size) := hE4
        clear hR4 hG4 hW4 hP4 hE4
        generalize w4.drew = w5 at *
        have hc5 := hR5.out.cell 0 (v := .slice Ar r.length cr) rfl
        have hf5 := hR5.out.frozen 0
        have hs5 := hR5.out.size
        clear hcell hfro hv0
        still_step
        still_step
        still_call (HSZ.out _)
        refine wpStill_step (fun K hK => ?_)
        rw [if_pos (by rfl)]
        unfold Oper.still
        rw [exec_slice_run (o := ⟨some 34, _, _, _, _, _⟩) HC3.out rfl rfl rfl rfl rfl, Oper.stillUpon_value]
        refine hK _ ?_
        clear hK K
        refine wpStill_nil ?_
        simp only [Act.put, List.setIfInBounds_toArray, List.set_cons_zero, List.set_cons_succ]
        have hk1 : k + 1 ≤ n := by omega
        have hT9 : Hid (TakeW W g R (layL zs L (ns ++ [(m : Int)])) t (w5.setCell ⟨R, 0, none⟩ (.slice A3 t.length (cr - o9)))) := by
          refine Lib.hid ⟨bel_set hW5.out hWR _, ?_, A3, cr - o9, hR5.out.set 0 _, HS3.out, htc⟩
          rw [HSN.out]
          have e1 : (ints .i64 ((layL zs L ns).set o (m : Int))).toArray = (ints .i64 (layL zs L ns)).toArray.setIfInBounds o (.int .i64 (m : Int)) := by simp [ints, List.map_set]
          rw [e1]
          exact hG5.out.far hgR _
        have hP9 : Hid (PtrsB B E (w5.setCell ⟨R, 0, none⟩ (.slice A3 t.length (cr - o9))) (some ⟨b1, off, none⟩) g L) := Lib.hid (hP5.out.keep (fun p hp1 hp2 => World.cell?_setCell_far _ _ _ _ (by show R ≠ p.block; omega)))
        have hE9 : Hid (E ≤ (w5.setCell ⟨R, 0, none⟩ (.slice A3 t.length (cr - o9))).heap.size) := Lib.hid (by simpa using hE5.out)
        clear hR5 hG5 hW5 hP5 hE5 HSN HC3 HS3 HSZ HA4 HKC HC HQ
        go_wp2_with fail
        go_roundw
        case rel => exact ⟨k + 1, ns ++ [(m : Int)], t, hk1, by go_num, HNX, hT9, hP9, hE9, htb⟩
        case measure => simp [intOf]; omega
    · obtain rfl : k = n := by omega
      go_wp2
      go_ret
      exact takePost_yes he.out rfl hT.out
end Go.Proofs.Ytdhkfhgggkndoaa
