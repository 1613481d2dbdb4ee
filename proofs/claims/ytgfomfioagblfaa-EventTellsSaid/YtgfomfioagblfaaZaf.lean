/-
  Package pack: numbers, and texts, taken.
  event.Take's closure: numbers taken off the bytes that are left, each laid at its place.
  The event that bytes begin with, taken number by number. No program here but the events' lists.
-/
import Derived.Test.YtgfomfioagblfaaZae
import Derived.Test.YtgfomfioagblfaaZab
import Derived.RegionTactic
import Derived.StillTailTactics
namespace Go.Proofs.Ytgfomfioagblfaa
open Go.RowKit
set_option linter.unusedVariables false
set_option maxRecDepth 20000

theorem first_nil (A : Option Addr) (c : Nat) (w : World) :
    Calls Try.prog 35 #[.slice A 0 c] w fun e w' => e = .returned (.tuple #[.int .i64 0, .int .i64 0]) ∧ w = w' := by
  go_enter Try.func35, Try.ntmps35
  go_wp2
  refine wp_scope_jumps 1 (fun a' w' => w' = w ∧ ∃ (u0 u1 u2 u3 u4 u5 u6 u7 u8 u9 u10 u11 u12 u13 u14 u15 u16 u17 u18 u19 u20 u21 u22 u23 u24 u25 u26 u27 u28 u29 u30 u31 u32 u33 u34 u35 u36 u37 u38 u39 u40 u41 u42 u43 u44 : Value), a' = { tmps := #[u0, u1, u2, u3, u4, u5, u6, u7, u8, u9, u10, u11, u12, u13, u14, u15, u16, u17, u18, u19, u20, u21, u22, u23, u24, u25, u26, u27, u28, u29, u30, u31, u32, u33, u34, u35, u36, u37, u38, u39, u40, u41, u42, u43, u44], defers := [] }) (fun _ _ => 0) rfl ?_ ?_
  · go_wp2
    go_step3
    go_wp2
    go_loop [5, 10] (fun o i => o = .int .i64 1 ∧ i = .int .i64 0) (fun _ _ => 0)
    case atStart => exact ⟨rfl, rfl⟩
    case round =>
      obtain ⟨rfl, rfl⟩ := hrel
      go_wp2
      go_step3
      exact ⟨rfl, rfl, _, _, _, _, _, _, _, _, _, _, _, _, _, _, _, _, _, _, _, _, _, _, _, _, _, _, _, _, _, _, _, _, _, _, _, _, _, _, _, _, _, _, _, _, _, rfl⟩
  · rintro a' w' ⟨rfl, u0, u1, u2, u3, u4, u5, u6, u7, u8, u9, u10, u11, u12, u13, u14, u15, u16, u17, u18, u19, u20, u21, u22, u23, u24, u25, u26, u27, u28, u29, u30, u31, u32, u33, u34, u35, u36, u37, u38, u39, u40, u41, u42, u43, u44, rfl⟩
    go_wp2
    simp only [Exit.jump]
    go_ret2
    exact ⟨rfl, rfl⟩
theorem first_any (A : Option Addr) (m c : Nat) (l : List (BitVec 8)) (p q : Nat) (w : World) (hx : Byts w A l) (hm : l.length = m) (hml : m ≤ 1000000000000) (hf : firstB l = (p, q)) :
    Calls Try.prog 35 #[.slice A m c] w fun e w' => e = .returned (.tuple #[.int .i64 p, .int .i64 q]) ∧ w = w' := by
  cases l with
  | nil =>
    subst hm
    rw [first_none rfl] at hf
    injection hf with h1 h2
    subst h1 h2
    exact first_nil A c w
  | cons x r =>
    have := first_cons A m c x r (x :: r) rfl w hx hm hml
    rw [hf] at this
    exact this
theorem take_bad (A : Option Addr) (m c : Nat) (l : List (BitVec 8)) (w : World) (hx : Byts w A l) (hm : l.length = m) (hml : m ≤ 1000000000000) (ht : takeB l = none) :
    Calls Try.prog 25 #[.slice A m c] w fun e w' => e = .returned (.tuple #[.int .i64 0, .slice none 0 0, .int .i64 50]) ∧ w = w' := by
  have HF := Lib.hid (fun w' (hx : Byts w' A l) => first_any A m c l 0 0 w' hx hm hml (first_none ht))
  go_enter Try.func25, Try.ntmps25
  go_wp2_with fail
  refine (HF.out _ hx).mono ?_
  rintro e w' ⟨rfl, rfl⟩
  go_wp2
  go_ret3
  exact ⟨rfl, rfl⟩
/-- What bytes begin with a number are. -/
theorem take_lens {l t : List (BitVec 8)} {n : Nat} (ht : takeB l = some (n, t)) : l.length = (oneB n).length + t.length ∧ 0 < (oneB n).length ∧ l.drop (oneB n).length = t := by
  obtain ⟨hl, hn⟩ := take_own ht
  refine ⟨by rw [hl, List.length_append], by rw [one_len]; omega, ?_⟩
  rw [hl, List.drop_append_of_le_length (Nat.le_refl _), List.drop_of_length_le (Nat.le_refl _), List.nil_append]
set_option maxHeartbeats 400000 in
theorem take_ok (A : Option Addr) (m c : Nat) (l t : List (BitVec 8)) (n : Nat) (w : World) (hx : Sl 1 w A m c (bytesV l)) (hml : m ≤ 1000000000000) (hmc : m ≤ c) (ht : takeB l = some (n, t)) :
    Calls Try.prog 25 #[.slice A m c] w fun e w' => ∃ A' c', e = .returned (.tuple #[.int .i64 n, .slice A' t.length c', .int .i64 0]) ∧ BRow w' w.heap.size A' c' t ∧ Below w.heap.size w w' := by
  have hm := hx.blen
  obtain ⟨hl, h1, hdr⟩ := take_lens ht
  have HF := Lib.hid (first_any A m c l n _ w (byts_of_sl hx) hm hml (first_some ht))
  obtain ⟨A2, hcut, hs⟩ := cut_from hx hmc (oneB n).length (by omega)
  rw [hdr] at hs
  rw [show t.length = m - (oneB n).length by omega]
  generalize (oneB n).length = o at *
  have HC := Lib.hid hcut
  have HS := Lib.hid hs
  clear hs hcut hdr hl hx hm ht
  have h1' : ((o : Int) == 0) = false := by simp; omega
  go_enter Try.func25, Try.ntmps25
  go_wp2_with fail
  refine HF.out.mono ?_
  rintro e w' ⟨rfl, rfl⟩
  go_wp2_with (refine wpList_slice_run (o := ⟨some 17, _, _, _, _, _⟩) HC.out rfl rfl rfl rfl rfl rfl ?_)
  refine (clone_any A2 (m - o) (c - o) t _ HS.out (by omega)).mono ?_
  rintro e w2 ⟨A3, c3, rfl, hrow, hb⟩
  go_wp2
  go_ret3
  exact ⟨A3, c3, rfl, hrow, hb⟩
end Go.Proofs.Ytgfomfioagblfaa

namespace Go.Proofs.Ytgfomfioagblfaa
open Go.RowKit
set_option linter.unusedVariables false
set_option linter.unusedSimpArgs false

/-- What the closure keeps: block g is the event, block R what is left of the bytes. -/
def TakeW (W : World) (g R : Nat) (zs : List Int) (r : List (BitVec 8)) (w : World) : Prop :=
  Below W.heap.size W w ∧ Has w g (ints .i64 zs).toArray ∧ ∃ A c, Has w R #[.slice A r.length c] ∧ Sl 1 W A r.length c (bytesV r) ∧ r.length ≤ c
theorem TakeW.below {W : World} {g R : Nat} {zs : List Int} {r : List (BitVec 8)} {w w' : World} (h : TakeW W g R zs r w) (hb : Below w.heap.size w w') : TakeW W g R zs r w' := by
  obtain ⟨h1, h2, A, c, h3, h4, h5⟩ := h
  exact ⟨bel_on h1 hb, h2.below hb, A, c, h3.below hb, h4, h5⟩
def TakePost (W : World) (g R n : Nat) (zs : List Int) (L : List Nat) (b : List (BitVec 8)) (e : Ending) (w' : World) : Prop :=
  match eatN n b with
  | none => e = .returned (.bool false) ∧ Below W.heap.size W w'
  | some x => e = .returned (.bool true) ∧ TakeW W g R (layL zs L x.1) x.2 w'
theorem takePost_no {W : World} {g R n : Nat} {zs : List Int} {L : List Nat} {b : List (BitVec 8)} {e : Ending} {w' : World} (h : eatN n b = none) (he : e = .returned (.bool false)) (hb : Below W.heap.size W w') : TakePost W g R n zs L b e w' := by
  unfold TakePost
  rw [h]
  exact ⟨he, hb⟩
theorem takePost_yes {W : World} {g R n : Nat} {zs : List Int} {L : List Nat} {b : List (BitVec 8)} {e : Ending} {w' : World} {ns : List Int} {r : List (BitVec 8)} (h : eatN n b = some (ns, r)) (he : e = .returned (.bool true)) (hb : TakeW W g R (layL zs L ns) r w') : TakePost W g R n zs L b e w' := by
  unfold TakePost
  rw [h]
  exact ⟨he, hb⟩
theorem eat_none_mono {b : List (BitVec 8)} : ∀ {k n : Nat}, k ≤ n → eatN k b = none → eatN n b = none := by
  intro k n h
  induction h with
  | refl => exact id
  | step h ih =>
    intro h0
    rw [eatN, ih h0]
theorem eat_snoc_none {b r : List (BitVec 8)} {k : Nat} {ns : List Int} (h : eatN k b = some (ns, r)) (ht : takeB r = none) : eatN (k + 1) b = none := by
  simp only [eatN, h, ht]
theorem eat_snoc_some {b r t : List (BitVec 8)} {k m : Nat} {ns : List Int} (h : eatN k b = some (ns, r)) (ht : takeB r = some (m, t)) : eatN (k + 1) b = some (ns ++ [(m : Int)], t) := by
  simp only [eatN, h, ht]
theorem size_maxE (w : World) : Calls Try.prog 26 #[.int .i64 9223372036854775807] w fun e w' => e = .returned (.int .i64 9) ∧ Below w.heap.size w w' := by
  have := size_nat 9223372036854775807 w (by decide)
  have e : (digs 9223372036854775807).length = 8 := by
    have := size_most
    rw [one_len] at this
    omega
  rw [e] at this
  exact sameB this
theorem exec_min2E {P : Program} {o : Oper} {ρ : Operand → Value} {ww : World} {x y : Operand} {ts : Array TypeId} (p q n : Nat) (hn : min p q = n)
    (ho : o.op = .call { callee := .builtin .min, args := #[x, y], argTypes := ts }) (hx : ρ x = .int .i64 (p : Int)) (hy : ρ y = .int .i64 (q : Int)) :
    (execOp ρ o).run P ww = .ok (.value (.int .i64 (n : Int))) ww := by
  have e : (if (q : Int) < (p : Int) then (q : Int) else (p : Int)) = (n : Int) := by
    subst hn
    by_cases h1 : (q : Int) < (p : Int)
    · rw [if_pos h1]; omega
    · rw [if_neg h1]; omega
  unfold execOp
  simp only [ho, resolve, invoke, builtin, Sem.run_bind, Sem.run_pure, Result.andThen_ok, List.map_toArray, List.map_cons, List.map_nil, hx, hy, run_min_int2, e]
theorem size_atE (n o : Nat) (w : World) (h : n < 9223372036854775808) (ho : (oneB n).length = o) :
    Calls Try.prog 26 #[.int .i64 n] w fun e w' => e = .returned (.int .i64 (o : Nat)) ∧ w' = w := by
  subst ho
  exact (size_at n w h).mono fun _ _ ⟨h1, h2⟩ => ⟨h1, h2.symm⟩
set_option maxRecDepth 20000 in
set_option maxHeartbeats 2000000 in
theorem take1_any (A : Option Addr) (n c g R B E : Nat) (L : List Nat) (zs : List Int) (b : List (BitVec 8)) (W w : World) (hL : L.length = n) (hn6 : n ≤ 6) (hnc : n ≤ c) (hc6 : c ≤ 6) (hLo : ∀ o ∈ L, o < 11) (hzs : zs.length = 11)
    (hP : PtrsB B E w A g L) (hgB : g < B) (hRB : R < B) (hgR : g ≠ R) (hWg : W.heap.size ≤ g) (hWR : W.heap.size ≤ R) (hE : E ≤ w.heap.size) (h : TakeW W g R zs b w) (hb : b.length ≤ 1000000) :
    Calls Try.prog 24 #[.slice A n c, .pointer (some ⟨R, 0, none⟩)] w (TakePost W g R n zs L b) := by
  have mixed : Try.prog.follows Departure.mixedOrders = true := by kernel_rfl
  have HL := Lib.hid hL
  have HLO := Lib.hid hLo
  have HZS := Lib.hid hzs
  have HPP := Lib.hid hP
  have HT := Lib.hid h
  have HB := Lib.hid hb
  have HEE := Lib.hid hE
  have HM := Lib.hid mixed
  clear hL hLo hzs hP h hb hE mixed
  go_enter Try.func24, Try.ntmps24
  go_wp2_with fail
  go_loopw [11] (fun i wr => ∃ (k : Nat) (ns : List Int) (r : List (BitVec 8)), k ≤ n ∧ i = .int .i64 k ∧ Hid (eatN k b = some (ns, r)) ∧ Hid (TakeW W g R (layL zs L ns) r wr) ∧ Hid (PtrsB B E wr A g L) ∧ Hid (E ≤ wr.heap.size) ∧ r.length ≤ 1000000) (fun i _ => n - (intOf i).toNat)
  case atStart => exact ⟨0, [], b, by omega, rfl, rfl, by rw [layL_nil]; exact HT, HPP, HEE, HB.out⟩
  case round =>
    clear HT HPP HB HEE
    obtain ⟨k, ns, r, hk, rfl, he, hT, hP, hE, hr⟩ := hrel
    by_cases hlt : k < n
    · have hkL : k < L.length := by rw [HL.out]; exact hlt
      obtain ⟨b1, off, rfl, hBb, hbs, hc⟩ := hP.out k hkL
      have hLk : L.getD k 0 < 11 := HLO.out _ (by simp [List.getD, hkL])
      obtain ⟨hT1, hT2, Ar, cr, hT3, hT4, hT5⟩ := hT.out
      have HSN := Lib.hid (fun m => layL_snoc zs L ns k (eat_len k he.out) hkL m)
      generalize L.getD k 0 = o at *
      unfold ptrV at hc
      have hcl := hT3.cell 0 (v := .slice Ar r.length cr) rfl
      have hcr := hT3.size
      have hcg := hT2.size
      obtain ⟨q, hq⟩ : ∃ q, min r.length 9 = q := ⟨_, rfl⟩
      have hqr : q ≤ r.length := by omega
      obtain ⟨A2, hcut, hs2⟩ := cut_to_all hT4 hT5 q hqr
      have hs2' := hs2 W hT4
      have hnine := take_nine r
      rw [hq] at hnine
      have HE2 := Lib.hid hT1
      have HG2 := Lib.hid hT2
      have HR2 := Lib.hid hT3
      have HA4 := Lib.hid hT4
      have HC := Lib.hid hcut
      have HQ := Lib.hid hq
      have HCL := Lib.hid hcl
      have hqc : q ≤ cr := by omega
      have HKC := Lib.hid hT5
      clear hT hcut hs2 hq hT1 hT2 hT3 hT4 hT5 hcl
      cases htk : takeB r with
      | none =>
        rw [htk] at hnine
        have HTK : Hid (∀ ww, Below wr.heap.size wr ww → Calls Try.prog 25 #[.slice A2 q cr] ww fun e w' => e = .returned (.tuple #[.int .i64 0, .slice none 0 0, .int .i64 50]) ∧ Below ww.heap.size ww w') := Lib.hid (fun ww hww =>
          sameB (take_bad A2 q cr (r.take q) ww (byts_of_sl ((hs2'.below HE2.out).below hww)) (by rw [List.length_take]; omega) (by omega) (by rw [hnine]; rfl)))
        have hno : Hid (eatN n b = none) := Lib.hid (eat_none_mono (show k + 1 ≤ n by omega) (eat_snoc_none he.out htk))
        clear hnine htk hs2' he
        go_wp2_with fail
        refine wp_region_noPanic ?_
        refine wp_region_held_drew (S := fun w' => Below wr.heap.size wr w') (by kernel_rfl) (below_drew (Below.refl _ _)) (fun hHeld => ?_)
        refine wpAnyH_take (i := 0) (oi := ⟨some 16, _, _, _, _, _⟩) (v := .slice Ar r.length cr) rfl (by kernel_rfl) (by kernel_rfl) (by kernel_rfl) (fun _ _ _ h => h) (Or.inl ⟨by rfl, ?_⟩) hHeld ?_
        · intro ww hSw
          (try dsimp only at hSw)
          have hcc := (hSw.cell (p := ⟨R, 0, none⟩) hcr).trans HCL.out
          have hcs := cell_lt hcc
          go_simp
        simp only [Act.put, List.setIfInBounds_toArray, List.set_cons_zero, List.set_cons_succ]
        refine wpAnyH_take (i := 1) (oi := ⟨some 17, _, _, _, _, _⟩) (v := .slice Ar r.length cr) rfl (by kernel_rfl) (by kernel_rfl) (by kernel_rfl) (fun _ _ _ h => h) (Or.inl ⟨by rfl, ?_⟩) hHeld ?_
        · intro ww hSw
          (try dsimp only at hSw)
          have hcc := (hSw.cell (p := ⟨R, 0, none⟩) hcr).trans HCL.out
          have hcs := cell_lt hcc
          go_simp
        simp only [Act.put, List.setIfInBounds_toArray, List.set_cons_zero, List.set_cons_succ]
        refine wpAnyH_take (i := 2) (oi := ⟨some 18, _, _, _, _, _⟩) (v := ?_) rfl (by kernel_rfl) (by kernel_rfl) (by kernel_rfl) (fun _ _ _ h => h) (Or.inl ⟨by rfl, ?_⟩) hHeld ?_
        rotate_left
        · intro ww hSw
          (try dsimp only at hSw)
          go_simp
          (try with_reducible rfl)
        simp only [Act.put, List.setIfInBounds_toArray, List.set_cons_zero, List.set_cons_succ]
        refine wpAnyH_ready (rs := [3]) (by kernel_rfl) (by simp) ?_
        refine AllReadyH.cons (o := ⟨some 19, _, _, _, _, _⟩) rfl (fun K hK => ?_) AllReadyH.nil
        go_simp
        go_at_call 26
        refine (size_maxE _).mono ?_
        rintro e_r w1 ⟨rfl, hbn⟩
        have hbw1 : Below wr.heap.size wr w1 := bel_on (show Below wr.heap.size wr _ by (repeat' (first | with_reducible exact Below.refl _ _ | with_reducible assumption | with_reducible refine bel_alloc ?_ _ | with_reducible refine bel_set ?_ ?_ _ | with_reducible refine below_drewN ?_ _ | with_reducible refine below_drew ?_ | (simp; done) | (simp; omega) | omega))) hbn
        clear hbn
        go_wp2_with fail
        refine hK.out _ _ ?_ (fun hHeld => ?_)
        · (try dsimp only)
          exact hbw1
        clear hK K
        (try simp only [Act.put, List.setIfInBounds_toArray, List.set_cons_zero, List.set_cons_succ])
        refine wpAnyH_take (i := 4) (oi := ⟨some 20, _, _, _, _, _⟩) (v := .int .i64 (q : Nat)) rfl (by kernel_rfl) (by kernel_rfl) (by kernel_rfl) (fun _ _ _ h => h) (Or.inl ⟨by rfl, ?_⟩) hHeld ?_
        · intro ww hSw
          (try dsimp only at hSw)
          exact exec_min2E r.length 9 q HQ.out rfl rfl rfl
        simp only [Act.put, List.setIfInBounds_toArray, List.set_cons_zero, List.set_cons_succ]
        refine wpAnyH_take (i := 5) (oi := ⟨some 21, _, _, _, _, _⟩) (v := .slice A2 q cr) rfl (by kernel_rfl) (by kernel_rfl) (by kernel_rfl) (fun _ _ _ h => h) (Or.inl ⟨by rfl, ?_⟩) hHeld ?_
        · intro ww hSw
          (try dsimp only at hSw)
          exact exec_slice_run HC.out rfl rfl rfl rfl rfl
        simp only [Act.put, List.setIfInBounds_toArray, List.set_cons_zero, List.set_cons_succ]
        refine wpAnyH_ready (rs := [6]) (by kernel_rfl) (by simp) ?_
        refine AllReadyH.cons (o := ⟨some 22, _, _, _, _, _⟩) rfl (fun K hK => ?_) AllReadyH.nil
        go_simp
        go_at_call 25
        refine (HTK.out _ hbw1).mono ?_
        rintro e_r w2 ⟨rfl, hbn⟩
        have hbw2 : Below wr.heap.size wr w2 := bel_on (show Below wr.heap.size wr _ by (repeat' (first | with_reducible exact Below.refl _ _ | with_reducible assumption | with_reducible refine bel_alloc ?_ _ | with_reducible refine bel_set ?_ ?_ _ | with_reducible refine below_drewN ?_ _ | with_reducible refine below_drew ?_ | (simp; done) | (simp; omega) | omega))) hbn
        clear hbn
        go_wp2_with fail
        refine hK.out _ _ ?_ (fun hHeld => ?_)
        · (try dsimp only)
          exact hbw2
        clear hK K
        (try simp only [Act.put, List.setIfInBounds_toArray, List.set_cons_zero, List.set_cons_succ])
        refine wpAnyH_take (i := 7) (oi := ⟨some 15, _, _, _, _, _⟩) (v := ?_) rfl (by kernel_rfl) (by kernel_rfl) (by kernel_rfl) (fun _ _ _ h => h) (Or.inl ⟨by rfl, ?_⟩) hHeld ?_
        rotate_left
        · intro ww hSw
          (try dsimp only at hSw)
          go_simp
          (try with_reducible rfl)
        simp only [Act.put, List.setIfInBounds_toArray, List.set_cons_zero, List.set_cons_succ]
        refine wpAnyH_take (i := 8) (oi := ⟨some 23, _, _, _, _, _⟩) (v := ?_) rfl (by kernel_rfl) (by kernel_rfl) (by kernel_rfl) (fun _ _ _ h => h) (Or.inl ⟨by rfl, ?_⟩) hHeld ?_
        rotate_left
        · intro ww hSw
          (try dsimp only at hSw)
          go_simp
          (try with_reducible rfl)
        simp only [Act.put, List.setIfInBounds_toArray, List.set_cons_zero, List.set_cons_succ]
        refine wpAnyH_take (i := 9) (oi := ⟨some 24, _, _, _, _, _⟩) (v := ?_) rfl (by kernel_rfl) (by kernel_rfl) (by kernel_rfl) (fun _ _ _ h => h) (Or.inl ⟨by rfl, ?_⟩) hHeld ?_
        rotate_left
        · intro ww hSw
          (try dsimp only at hSw)
          go_simp
          (try with_reducible rfl)
        simp only [Act.put, List.setIfInBounds_toArray, List.set_cons_zero, List.set_cons_succ]
        refine wpAnyH_take (i := 10) (oi := ⟨some 25, _, _, _, _, _⟩) (v := ?_) rfl (by kernel_rfl) (by kernel_rfl) (by kernel_rfl) (fun _ _ _ h => h) (Or.inl ⟨by rfl, ?_⟩) hHeld ?_
        rotate_left
        · intro ww hSw
          (try dsimp only at hSw)
          go_simp
          (try with_reducible rfl)
        simp only [Act.put, List.setIfInBounds_toArray, List.set_cons_zero, List.set_cons_succ]
        refine wpAnyH_take (i := 11) (oi := ⟨some 6, _, _, _, _, _⟩) (v := ?_) rfl (by kernel_rfl) (by kernel_rfl) (by kernel_rfl) (fun _ _ _ h => h) (Or.inl ⟨by rfl, ?_⟩) hHeld ?_
        rotate_left
        · intro ww hSw
          (try dsimp only at hSw)
          go_simp
          (try with_reducible rfl)
        simp only [Act.put, List.setIfInBounds_toArray, List.set_cons_zero, List.set_cons_succ]
        refine wpAnyH_take (i := 12) (oi := ⟨some 7, _, _, _, _, _⟩) (v := ?_) rfl (by kernel_rfl) (by kernel_rfl) (by kernel_rfl) (fun _ _ _ h => h) (Or.inl ⟨by rfl, ?_⟩) hHeld ?_
        rotate_left
        · intro ww hSw
          (try dsimp only at hSw)
          go_simp
          (try with_reducible rfl)
        simp only [Act.put, List.setIfInBounds_toArray, List.set_cons_zero, List.set_cons_succ]
        refine wpAnyH_take (i := 13) (oi := ⟨some 8, _, _, _, _, _⟩) (v := ?_) rfl (by kernel_rfl) (by kernel_rfl) (by kernel_rfl) (fun _ _ _ h => h) (Or.inl ⟨by rfl, ?_⟩) hHeld ?_
        rotate_left
        · intro ww hSw
          (try dsimp only at hSw)
          go_simp
          (try with_reducible rfl)
        simp only [Act.put, List.setIfInBounds_toArray, List.set_cons_zero, List.set_cons_succ]
        refine wpAnyH_done (by kernel_rfl) ?_ _
        refine NoPanic.normal ?_
        have hbF := bel_on HE2.out hbw2
        clear hHeld hbw2 hbw1
        go_wp2
        go_ret
        exact takePost_no hno.out rfl hbF
      | some x =>
        obtain ⟨m, t⟩ := x
        rw [htk] at hnine
        obtain ⟨hl1, hl2, hl3⟩ := take_lens htk
        have hm := (take_own htk).2
        have hnine2 : takeB (r.take q) = some (m, t.take (9 - (oneB m).length)) := hnine
        have HTK : Hid (∀ ww, Below wr.heap.size wr ww → Calls Try.prog 25 #[.slice A2 q cr] ww fun e w' => ∃ A3 c3 n3, e = .returned (.tuple #[.int .i64 m, .slice A3 n3 c3, .int .i64 0]) ∧ Below ww.heap.size ww w') := Lib.hid (fun ww hww =>
          (take_ok A2 q cr (r.take q) _ m ww ((hs2'.below HE2.out).below hww) (by omega) hqc hnine2).mono fun _ _ ⟨A3, c3, h1, _, h3⟩ => ⟨A3, c3, _, h1, h3⟩)
        obtain ⟨o9, ho9⟩ : ∃ o9, (oneB m).length = o9 := ⟨_, rfl⟩
        have hsn : eatN (k + 1) b = some (ns ++ [(m : Int)], t) := eat_snoc_some he.out htk
        have HSZ := Lib.hid (fun ww => size_atE m o9 ww hm ho9)
        rw [ho9] at hl1 hl2 hl3
        have ho9r : o9 ≤ r.length := by omega
        obtain ⟨A3, hcut3, hs3⟩ := cut_from_all HA4.out HKC.out o9 ho9r
        have hs3' := hs3 W HA4.out
        rw [hl3] at hs3'
        have htl : r.length - o9 = t.length := by omega
        rw [htl] at hcut3 hs3'
        have HC3 := Lib.hid hcut3
        have HS3 := Lib.hid hs3'
        have HNX := Lib.hid hsn
        have htc : t.length ≤ cr - o9 := by have := HKC.out; omega
        have htb : t.length ≤ 1000000 := by omega
        clear hnine hnine2 htk hs2' he hl1 hl2 hl3 ho9 hsn hcut3 hs3 hs3' htl
        go_wp2_with fail
        refine wp_region_noPanic ?_
        refine wp_region_held_drew (S := fun w' => Below wr.heap.size wr w') (by kernel_rfl) (below_drew (Below.refl _ _)) (fun hHeld => ?_)
        refine wpAnyH_take (i := 0) (oi := ⟨some 16, _, _, _, _, _⟩) (v := .slice Ar r.length cr) rfl (by kernel_rfl) (by kernel_rfl) (by kernel_rfl) (fun _ _ _ h => h) (Or.inl ⟨by rfl, ?_⟩) hHeld ?_
        · intro ww hSw
          (try dsimp only at hSw)
          have hcc := (hSw.cell (p := ⟨R, 0, none⟩) hcr).trans HCL.out
          have hcs := cell_lt hcc
          go_simp
        simp only [Act.put, List.setIfInBounds_toArray, List.set_cons_zero, List.set_cons_succ]
        refine wpAnyH_take (i := 1) (oi := ⟨some 17, _, _, _, _, _⟩) (v := .slice Ar r.length cr) rfl (by kernel_rfl) (by kernel_rfl) (by kernel_rfl) (fun _ _ _ h => h) (Or.inl ⟨by rfl, ?_⟩) hHeld ?_
        · intro ww hSw
          (try dsimp only at hSw)
          have hcc := (hSw.cell (p := ⟨R, 0, none⟩) hcr).trans HCL.out
          have hcs := cell_lt hcc
          go_simp
        simp only [Act.put, List.setIfInBounds_toArray, List.set_cons_zero, List.set_cons_succ]
        refine wpAnyH_take (i := 2) (oi := ⟨some 18, _, _, _, _, _⟩) (v := ?_) rfl (by kernel_rfl) (by kernel_rfl) (by kernel_rfl) (fun _ _ _ h => h) (Or.inl ⟨by rfl, ?_⟩) hHeld ?_
        rotate_left
        · intro ww hSw
          (try dsimp only at hSw)
          go_simp
          (try with_reducible rfl)
        simp only [Act.put, List.setIfInBounds_toArray, List.set_cons_zero, List.set_cons_succ]
        refine wpAnyH_ready (rs := [3]) (by kernel_rfl) (by simp) ?_
        refine AllReadyH.cons (o := ⟨some 19, _, _, _, _, _⟩) rfl (fun K hK => ?_) AllReadyH.nil
        go_simp
        go_at_call 26
        refine (size_maxE _).mono ?_
        rintro e_r w1 ⟨rfl, hbn⟩
        have hbw1 : Below wr.heap.size wr w1 := bel_on (show Below wr.heap.size wr _ by (repeat' (first | with_reducible exact Below.refl _ _ | with_reducible assumption | with_reducible refine bel_alloc ?_ _ | with_reducible refine bel_set ?_ ?_ _ | with_reducible refine below_drewN ?_ _ | with_reducible refine below_drew ?_ | (simp; done) | (simp; omega) | omega))) hbn
        clear hbn
        go_wp2_with fail
        refine hK.out _ _ ?_ (fun hHeld => ?_)
        · (try dsimp only)
          exact hbw1
        clear hK K
        (try simp only [Act.put, List.setIfInBounds_toArray, List.set_cons_zero, List.set_cons_succ])
        refine wpAnyH_take (i := 4) (oi := ⟨some 20, _, _, _, _, _⟩) (v := .int .i64 (q : Nat)) rfl (by kernel_rfl) (by kernel_rfl) (by kernel_rfl) (fun _ _ _ h => h) (Or.inl ⟨by rfl, ?_⟩) hHeld ?_
        · intro ww hSw
          (try dsimp only at hSw)
          exact exec_min2E r.length 9 q HQ.out rfl rfl rfl
        simp only [Act.put, List.setIfInBounds_toArray, List.set_cons_zero, List.set_cons_succ]
        refine wpAnyH_take (i := 5) (oi := ⟨some 21, _, _, _, _, _⟩) (v := .slice A2 q cr) rfl (by kernel_rfl) (by kernel_rfl) (by kernel_rfl) (fun _ _ _ h => h) (Or.inl ⟨by rfl, ?_⟩) hHeld ?_
        · intro ww hSw
          (try dsimp only at hSw)
          exact exec_slice_run HC.out rfl rfl rfl rfl rfl
        simp only [Act.put, List.setIfInBounds_toArray, List.set_cons_zero, List.set_cons_succ]
        refine wpAnyH_ready (rs := [6]) (by kernel_rfl) (by simp) ?_
        refine AllReadyH.cons (o := ⟨some 22, _, _, _, _, _⟩) rfl (fun K hK => ?_) AllReadyH.nil
        go_simp
        go_at_call 25
        refine (HTK.out _ hbw1).mono ?_
        rintro e_r w2 ⟨A9, c9, n9, rfl, hbn⟩
        have hbw2 : Below wr.heap.size wr w2 := bel_on (show Below wr.heap.size wr _ by (repeat' (first | with_reducible exact Below.refl _ _ | with_reducible assumption | with_reducible refine bel_alloc ?_ _ | with_reducible refine bel_set ?_ ?_ _ | with_reducible refine below_drewN ?_ _ | with_reducible refine below_drew ?_ | (simp; done) | (simp; omega) | omega))) hbn
        clear hbn
        go_wp2_with fail
        refine hK.out _ _ ?_ (fun hHeld => ?_)
        · (try dsimp only)
          exact hbw2
        clear hK K
        (try simp only [Act.put, List.setIfInBounds_toArray, List.set_cons_zero, List.set_cons_succ])
        refine wpAnyH_take (i := 7) (oi := ⟨some 15, _, _, _, _, _⟩) (v := ?_) rfl (by kernel_rfl) (by kernel_rfl) (by kernel_rfl) (fun _ _ _ h => h) (Or.inl ⟨by rfl, ?_⟩) hHeld ?_
        rotate_left
        · intro ww hSw
          (try dsimp only at hSw)
          go_simp
          (try with_reducible rfl)
        simp only [Act.put, List.setIfInBounds_toArray, List.set_cons_zero, List.set_cons_succ]
        refine wpAnyH_take (i := 8) (oi := ⟨some 23, _, _, _, _, _⟩) (v := ?_) rfl (by kernel_rfl) (by kernel_rfl) (by kernel_rfl) (fun _ _ _ h => h) (Or.inl ⟨by rfl, ?_⟩) hHeld ?_
        rotate_left
        · intro ww hSw
          (try dsimp only at hSw)
          go_simp
          (try with_reducible rfl)
        simp only [Act.put, List.setIfInBounds_toArray, List.set_cons_zero, List.set_cons_succ]
        refine wpAnyH_take (i := 9) (oi := ⟨some 24, _, _, _, _, _⟩) (v := ?_) rfl (by kernel_rfl) (by kernel_rfl) (by kernel_rfl) (fun _ _ _ h => h) (Or.inl ⟨by rfl, ?_⟩) hHeld ?_
        rotate_left
        · intro ww hSw
          (try dsimp only at hSw)
          go_simp
          (try with_reducible rfl)
        simp only [Act.put, List.setIfInBounds_toArray, List.set_cons_zero, List.set_cons_succ]
        refine wpAnyH_take (i := 10) (oi := ⟨some 25, _, _, _, _, _⟩) (v := ?_) rfl (by kernel_rfl) (by kernel_rfl) (by kernel_rfl) (fun _ _ _ h => h) (Or.inl ⟨by rfl, ?_⟩) hHeld ?_
        rotate_left
        · intro ww hSw
          (try dsimp only at hSw)
          go_simp
          (try with_reducible rfl)
        simp only [Act.put, List.setIfInBounds_toArray, List.set_cons_zero, List.set_cons_succ]
        refine wpAnyH_take (i := 11) (oi := ⟨some 6, _, _, _, _, _⟩) (v := ?_) rfl (by kernel_rfl) (by kernel_rfl) (by kernel_rfl) (fun _ _ _ h => h) (Or.inl ⟨by rfl, ?_⟩) hHeld ?_
        rotate_left
        · intro ww hSw
          (try dsimp only at hSw)
          go_simp
          (try with_reducible rfl)
        simp only [Act.put, List.setIfInBounds_toArray, List.set_cons_zero, List.set_cons_succ]
        refine wpAnyH_take (i := 12) (oi := ⟨some 7, _, _, _, _, _⟩) (v := ?_) rfl (by kernel_rfl) (by kernel_rfl) (by kernel_rfl) (fun _ _ _ h => h) (Or.inl ⟨by rfl, ?_⟩) hHeld ?_
        rotate_left
        · intro ww hSw
          (try dsimp only at hSw)
          go_simp
          (try with_reducible rfl)
        simp only [Act.put, List.setIfInBounds_toArray, List.set_cons_zero, List.set_cons_succ]
        refine wpAnyH_take (i := 13) (oi := ⟨some 8, _, _, _, _, _⟩) (v := ?_) rfl (by kernel_rfl) (by kernel_rfl) (by kernel_rfl) (fun _ _ _ h => h) (Or.inl ⟨by rfl, ?_⟩) hHeld ?_
        rotate_left
        · intro ww hSw
          (try dsimp only at hSw)
          go_simp
          (try with_reducible rfl)
        simp only [Act.put, List.setIfInBounds_toArray, List.set_cons_zero, List.set_cons_succ]
        refine wpAnyH_done (by kernel_rfl) ?_ _
        refine NoPanic.normal ?_
        have hg3 := HG2.out.below hbw2
        have hR3 := HR2.out.below hbw2
        have hW3 := bel_on HE2.out hbw2
        have hP3 := Lib.hid (hP.out.keep (fun p hp1 hp2 => hbw2.cell (p := p) (by have := hE.out; omega)))
        have hE3 := Lib.hid (Nat.le_trans hE.out hbw2.size)
        have hcz : (ints .i64 (layL zs L ns)).toArray.size = 11 := by simp [ints, layL_len, HZS.out]
        obtain ⟨v0, hv0⟩ : ∃ v0, (ints .i64 (layL zs L ns)).toArray[o]? = some v0 := ⟨_, Array.getElem?_eq_getElem (by omega)⟩
        have hcell := hg3.cell o hv0
        have hfro := hg3.frozen o
        have hG4 := Lib.hid (hg3.set o (.int .i64 (m : Int)))
        have hR4 := Lib.hid (hR3.far (p := ⟨g, o, none⟩) (by exact fun e => hgR e.symm) (.int .i64 (m : Int)))
        have hW4 := Lib.hid (bel_set hW3 (p := ⟨g, o, none⟩) hWg (.int .i64 (m : Int)))
        have hP4 := Lib.hid (hP3.out.keep (w' := w2.setCell ⟨g, o, none⟩ (.int .i64 (m : Int))) (fun p hp1 hp2 => World.cell?_setCell_far _ _ _ _ (by show g ≠ p.block; omega)))
        have hE4 : Hid (E ≤ (w2.setCell ⟨g, o, none⟩ (.int .i64 (m : Int))).heap.size) := Lib.hid (by simpa using hE3.out)
        clear hHeld hbw1 hbw2 hg3 hR3 hW3 hP3 hE3 hcz HG2 HR2 HE2 hP hE HTK HCL
        go_wp2_with fail
        generalize w2.setCell ⟨g, o, none⟩ (.int .i64 (m : Int)) = w4 at *
        refine wp_region_still_tail 4 HM.out (by kernel_rfl) ?_
        simp only [List.take_succ_cons, List.take_zero, List.drop_succ_cons, List.drop_zero]
        change wpStill _ _ w4.drew (fun a' => wpList _ _ _ _ a' w4.drew) _ _
        have hR5 : Hid (Has w4.drew R #[.slice Ar r.length cr]) := hR4
        have hG5 : Hid (Has w4.drew g ((ints .i64 (layL zs L ns)).toArray.setIfInBounds o (.int .i64 (m : Int)))) := hG4
        have hW5 : Hid (Below W.heap.size W w4.drew) := Lib.hid (below_drew hW4.out)
        have hP5 : Hid (PtrsB B E w4.drew (some ⟨b1, off, none⟩) g L) := hP4
        have hE5 : Hid (E ≤ w4.drew.heap.size) := hE4
        clear hR4 hG4 hW4 hP4 hE4
        generalize w4.drew = w5 at *
        have hc5 := hR5.out.cell 0 (v := .slice Ar r.length cr) rfl
        have hf5 := hR5.out.frozen 0
        have hs5 := hR5.out.size
        clear hcell hfro hv0
        still_step
        still_step
        still_call (HSZ.out _)
        refine wpStill_step (fun K hK => ?_)
        rw [if_pos (by rfl)]
        unfold Oper.still
        rw [exec_slice_run (o := ⟨some 34, _, _, _, _, _⟩) HC3.out rfl rfl rfl rfl rfl, Oper.stillUpon_value]
        refine hK _ ?_
        clear hK K
        refine wpStill_nil ?_
        simp only [Act.put, List.setIfInBounds_toArray, List.set_cons_zero, List.set_cons_succ]
        have hk1 : k + 1 ≤ n := by omega
        have hT9 : Hid (TakeW W g R (layL zs L (ns ++ [(m : Int)])) t (w5.setCell ⟨R, 0, none⟩ (.slice A3 t.length (cr - o9)))) := by
          refine Lib.hid ⟨bel_set hW5.out hWR _, ?_, A3, cr - o9, hR5.out.set 0 _, HS3.out, htc⟩
          rw [HSN.out]
          have e1 : (ints .i64 ((layL zs L ns).set o (m : Int))).toArray = (ints .i64 (layL zs L ns)).toArray.setIfInBounds o (.int .i64 (m : Int)) := by simp [ints, List.map_set]
          rw [e1]
          exact hG5.out.far hgR _
        have hP9 : Hid (PtrsB B E (w5.setCell ⟨R, 0, none⟩ (.slice A3 t.length (cr - o9))) (some ⟨b1, off, none⟩) g L) := Lib.hid (hP5.out.keep (fun p hp1 hp2 => World.cell?_setCell_far _ _ _ _ (by show R ≠ p.block; omega)))
        have hE9 : Hid (E ≤ (w5.setCell ⟨R, 0, none⟩ (.slice A3 t.length (cr - o9))).heap.size) := Lib.hid (by simpa using hE5.out)
        clear hR5 hG5 hW5 hP5 hE5 HSN HC3 HS3 HSZ HA4 HKC HC HQ
        go_wp2_with fail
        go_roundw
        case rel => exact ⟨k + 1, ns ++ [(m : Int)], t, hk1, by go_num, HNX, hT9, hP9, hE9, htb⟩
        case measure => simp [intOf]; omega
    · obtain rfl : k = n := by omega
      go_wp2
      go_ret
      exact takePost_yes he.out rfl hT.out
end Go.Proofs.Ytgfomfioagblfaa

namespace Go.Proofs.Ytgfomfioagblfaa
set_option linter.unusedVariables false
set_option linter.unusedSimpArgs false

/-- An event of numbers taken: what every event has, and its own. -/
def evQ (q ns : List Int) : EvP := evOf (layL (layL zeros11 [0, 1, 2, 3] q) (ownL (q.getD 3 0)) ns)
theorem evQ_L (q ns : List Int) : evL (evQ q ns) = layL (layL zeros11 [0, 1, 2, 3] q) (ownL (q.getD 3 0)) ns := evL_Of (by rw [layL_len, layL_len]; rfl)
theorem evQ_nums (i w t k : Int) (ns : List Int) (h : ns.length = (ownL k).length) : (evQ [i, w, t, k] ns).nums = [i, w, t, k] ++ ns ∧ (evQ [i, w, t, k] ns).kd = k := by
  unfold evQ
  rw [show ([i, w, t, k] : List Int).getD 3 0 = k from rfl]
  by_cases h3 : k = 3
  · subst h3
    match ns, h with
    | [a, b, c, d, e, f], _ => exact ⟨rfl, rfl⟩
  · by_cases h4 : k = 4
    · subst h4
      match ns, h with
      | [a], _ => exact ⟨rfl, rfl⟩
    · have e0 : ownL k = [] := by simp [ownL, h3, h4]
      rw [e0] at h ⊢
      have : ns = [] := List.length_eq_zero_iff.1 h
      subst this
      simp [layL, evOf, EvP.nums, h3, h4, zeros11]
theorem evQ_back {e : EvP} (h : e.Fair) : evQ [e.id, e.wk, e.tm, e.kd] ((ownL e.kd).map fun o => (evL e).getD o 0) = e := by
  have t1 := h.task
  have t2 := h.code
  obtain ⟨i, w, t, k, a, b, c, d, g, j, m⟩ := e
  simp only at t1 t2
  unfold evQ
  simp only [show ([i, w, t, k] : List Int).getD 3 0 = k from rfl]
  by_cases h3 : k = 3
  · subst h3
    obtain rfl : m = 0 := by omega
    rfl
  · by_cases h4 : k = 4
    · subst h4
      obtain ⟨rfl, rfl, rfl, rfl, rfl, rfl⟩ : a = 0 ∧ b = 0 ∧ c = 0 ∧ d = 0 ∧ g = 0 ∧ j = 0 := by omega
      rfl
    · have e0 : ownL k = [] := by simp [ownL, h3, h4]
      obtain ⟨rfl, rfl, rfl, rfl, rfl, rfl⟩ : a = 0 ∧ b = 0 ∧ c = 0 ∧ d = 0 ∧ g = 0 ∧ j = 0 := by omega
      obtain rfl : m = 0 := by omega
      simp [e0, layL, evOf, zeros11]
theorem own_okN {e : EvP} (h : e.Fair) : okN [e.id, e.wk, e.tm, e.kd] ∧ okN ((ownL e.kd).map fun o => (evL e).getD o 0) := by
  have := ev_ok h
  rw [ev_nums] at this
  exact ⟨fun n hn => this n (List.mem_append_left _ hn), fun n hn => this n (List.mem_append_right _ hn)⟩
theorem evb_parts (e : EvP) (r : List (BitVec 8)) : e.bytes ++ r = bytesN [e.id, e.wk, e.tm, e.kd] ++ (bytesN ((ownL e.kd).map fun o => (evL e).getD o 0) ++ r) := by
  unfold EvP.bytes
  rw [ev_nums, bytesN_append, List.append_assoc]
theorem takeP_no {b : List (BitVec 8)} (h : eatN 4 b = none) : takeE b = none :=
  takeE_not fun e he r hb => eat_none 4 h [e.id, e.wk, e.tm, e.kd] rfl (own_okN he).1 (bytesN ((ownL e.kd).map fun o => (evL e).getD o 0) ++ r) (by rw [hb, evb_parts])
/-- What a fair event's bytes are taken as. -/
theorem takeP_of {b r r' : List (BitVec 8)} {q : List Int} {e : EvP} (h : eatN 4 b = some (q, r)) (he : e.Fair) (hb : b = e.bytes ++ r') : q = [e.id, e.wk, e.tm, e.kd] ∧ r = bytesN ((ownL e.kd).map fun o => (evL e).getD o 0) ++ r' := by
  rw [hb, evb_parts, eat_put 4 [e.id, e.wk, e.tm, e.kd] rfl (own_okN he).1] at h
  injection h with h
  injection h with h1 h2
  exact ⟨h1.symm, h2.symm⟩
theorem takeP_no2 {b r : List (BitVec 8)} {q : List Int} (h : eatN 4 b = some (q, r)) (h2 : eatN (ownL (q.getD 3 0)).length r = none) : takeE b = none :=
  takeE_not fun e he r' hb => by
    obtain ⟨rfl, e2⟩ := takeP_of h he hb
    exact eat_none _ h2 ((ownL e.kd).map fun o => (evL e).getD o 0) (by simp) (own_okN he).2 r' e2
theorem takeP_some {b r r2 : List (BitVec 8)} {q ns : List Int} (h : eatN 4 b = some (q, r)) (h2 : eatN (ownL (q.getD 3 0)).length r = some (ns, r2)) :
    (evQ q ns).In ∧ (evQ q ns).kd = q.getD 3 0 ∧ takeE b = (if (evQ q ns).Fair then some (evQ q ns, r2) else none) := by
  obtain ⟨k1, e1⟩ := eat_own 4 h
  obtain ⟨k2, e2⟩ := eat_own _ h2
  have l1 := eat_len 4 h
  have l2 := eat_len _ h2
  match q, l1 with
  | [i, w, t, k], _ =>
    have hn := evQ_nums i w t k ns l2
    have hok : ∀ n ∈ evL (evQ [i, w, t, k] ns), 0 ≤ n ∧ n ≤ 9223372036854775807 := by
      rw [evQ_L]
      rw [show ([i, w, t, k] : List Int).getD 3 0 = k from rfl] at *
      have base : ∀ n ∈ layL zeros11 [0, 1, 2, 3] [i, w, t, k], 0 ≤ n ∧ n ≤ 9223372036854775807 := by
        intro n hn
        simp [layL, zeros11] at hn
        rcases hn with rfl | rfl | rfl | rfl | rfl
        · exact k1 _ (by simp)
        · exact k1 _ (by simp)
        · exact k1 _ (by simp)
        · exact k1 _ (by simp)
        · omega
      have gen : ∀ (L : List Nat) (ms zs : List Int), (∀ n ∈ zs, 0 ≤ n ∧ n ≤ 9223372036854775807) → okN ms → ∀ n ∈ layL zs L ms, 0 ≤ n ∧ n ≤ 9223372036854775807 := by
        intro L
        induction L with
        | nil => intro ms zs hz _ n hn; simp [layL] at hn; exact hz n hn
        | cons o L ih =>
          intro ms zs hz hms n hn
          cases ms with
          | nil => simp [layL] at hn; exact hz n hn
          | cons m ms =>
            refine ih ms (zs.set o m) (fun x hx => ?_) (fun x hx => hms x (by simp [hx])) n hn
            rcases List.mem_or_eq_of_mem_set hx with h | h
            · exact hz x h
            · subst h; exact hms _ (by simp)
      exact gen _ _ _ base k2
    refine ⟨?_, hn.2, ?_⟩
    · generalize evQ [i, w, t, k] ns = e at *
      simp only [evL, List.mem_cons, List.not_mem_nil, or_false, forall_eq_or_imp, forall_eq] at hok
      obtain ⟨a1, a2, a3, a4, a5, a6, a7, a8, a9, a10, a11⟩ := hok
      constructor <;> omega
    · by_cases hf : (evQ [i, w, t, k] ns).Fair
      · rw [if_pos hf]
        have hb : b = (evQ [i, w, t, k] ns).bytes ++ r2 := by
          unfold EvP.bytes
          rw [hn.1, bytesN_append, e1, e2, List.append_assoc]
        rw [hb]
        exact takeE_back hf r2
      · rw [if_neg hf]
        refine takeE_not fun f hfF r' hb => hf ?_
        obtain ⟨hq, hr⟩ := takeP_of h hfF hb
        simp only [List.cons.injEq] at hq
        obtain ⟨rfl, rfl, rfl, rfl, _⟩ := hq
        rw [show ([f.id, f.wk, f.tm, f.kd] : List Int).getD 3 0 = f.kd from rfl, hr, eat_put _ _ (by simp) (own_okN hfF).2] at h2
        injection h2 with h2
        injection h2 with h3 h4
        rw [← h3, evQ_back hfF]
        exact hfF
end Go.Proofs.Ytgfomfioagblfaa
