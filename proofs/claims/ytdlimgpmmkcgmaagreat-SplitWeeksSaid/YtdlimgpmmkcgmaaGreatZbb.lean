/-
  Package breaks: all days, one by one.
-/
import Derived.Test.YtdlimgpmmkcgmaaGreatZba
import Derived.Shelf.RegionOpen
namespace Go.Proofs.YtdlimgpmmkcgmaaGreat
open Go.RowKit
set_option linter.unusedVariables false
set_option linter.unusedSimpArgs false
set_option maxRecDepth 20000

theorem wp_append_runB {P : Program} {o : Oper} {a : Act} {w w' : World} {K : Act → World → Prop} {Q : Exit → Act → World → Prop} {s x : Operand} {t : TypeId} {v u v' : Value}
    (hr : (Builtin.append_ #[t, t] o.type #[v, u]).run P w = .ok v' w')
    (ho : o.op = .call { callee := .builtin .append, args := #[s, x], argTypes := #[t, t] }) (hs : a.eval s = v) (hx : a.eval x = u)
    (h : K (a.put o.dst v') w') : o.wp P a w K Q := by
  unfold Oper.wp execOp
  simp only [ho, resolve, invoke, builtin, Sem.run_bind, Sem.run_pure, Result.andThen_ok, List.map_toArray, List.map_cons, List.map_nil, hs, hx, hr]
  exact h
/-- Two slices of the call's own, in two blocks. -/
structure Two2 (w : World) (base : Nat) (A : Option Addr) (c : Nat) (xs : List (Int × Int)) (B : Option Addr) (d : Nat) (ys : List (Int × Int)) : Prop where
  a : Row w base A c xs
  b : Row w base B d ys
  ne : ∀ x y, A = some x → B = some y → x.block ≠ y.block
section
variable {w w' : World} {base c d : Nat} {A B : Option Addr} {xs ys : List (Int × Int)}
theorem Two2.below (h : Two2 w base A c xs B d ys) (hb : Below w.heap.size w w') : Two2 w' base A c xs B d ys := ⟨h.a.below hb, h.b.below hb, h.ne⟩
theorem Two2.drew (h : Two2 w base A c xs B d ys) : Two2 w.drew base A c xs B d ys := ⟨h.a.drew, h.b.drew, h.ne⟩
theorem Two2.turn (h : Two2 w base A c xs B d ys) : Two2 w base B d ys A c xs := ⟨h.b, h.a, fun x y hx hy e => h.ne y x hy hx e.symm⟩
theorem Two2.far (h : Two2 w base A c xs B d ys) {p : Addr} (hp : p.block < base) (v : Value) : Two2 (w.setCell p v) base A c xs B d ys :=
  ⟨h.a.far (fun a ha => by have := (h.a.lt a ha).1; omega) v, h.b.far (fun a ha => by have := (h.b.lt a ha).1; omega) v, h.ne⟩
theorem Two2.push (h : Two2 w base A c xs B d ys) {D : Option Addr} {e : Nat} {zs : List (Int × Int)} (hs : Sl 2 w D zs.length e (cells2 zs)) (hn : xs.length + zs.length ≤ 1000000000) (hbase : base ≤ w.heap.size) :
    ∃ A' c' w', (Builtin.append_ #[40, 40] 40 #[.slice A xs.length c, .slice D zs.length e]).run Tryz.prog w = .ok (.slice A' (xs.length + zs.length) c') w' ∧ Two2 w' base A' c' (xs ++ zs) B d ys ∧
      Kept (fun k => k < w.heap.size ∧ ∀ x, A = some x → x.block ≠ k) w w' := by
  obtain ⟨A', c', w', hr, ho, _, hg, hl⟩ := row_append h.a hs hn hbase
  have hK : Kept (fun k => k < w.heap.size ∧ ∀ x, A = some x → x.block ≠ k) w w' := by
    refine ⟨hg.os, hg.tape, hg.output, hg.size, fun k hk => hg.block k hk.1 ?_⟩
    intro q
    cases A with
    | none => simp [Value.ownBlock] at q
    | some a0 =>
      simp [Value.ownBlock] at q
      exact hk.2 a0 rfl (by omega)
  refine ⟨A', c', w', hr, ⟨ho, h.b.keep fun g hgb => hK.block _ ⟨(h.b.lt g hgb).2, fun x hx => h.ne x g hx hgb⟩, fun x y hx hy e => ?_⟩, hK⟩
  have hy2 := (h.b.lt y hy).2
  subst hx
  rcases hl with q | q
  · cases A with
    | none => simp [Value.ownBlock] at q
    | some a0 =>
      simp [Value.ownBlock] at q
      exact h.ne a0 y rfl hy (by omega)
  · simp [Value.ownBlock] at q
    omega
end
theorem parted_near {W : World} {s : SetP} {cs : Array Value} (h : SetC W s cs) (hm : s.May) {L K : List (Int × Int)} (hL : L.length ≤ 100000000) (hK : K.length ≤ 100000000) (d : Int) (A : Option Addr) (ca : Nat) (xs : List (Int × Int)) (B : Option Addr) (cb : Nat) (ys : List (Int × Int)) (hx : Spans W A xs) (hy : Spans W B ys)
    (hlx : xs.length ≤ L.length) (hly : ys.length ≤ K.length) (i1 : ∀ t, t / 86400 = d → (In xs t ↔ In L t)) (i2 : ∀ t, t / 86400 = d → (In ys t ↔ In K t)) :
    Calls Tryz.prog 51 #[.agg cs, .slice A xs.length ca, .slice B ys.length cb, .int .i64 d] W (Gives2 W (paidDay (In L) (In K) s.paid s.aft s.brk d) (unDay (In L) (In K) s.paid s.aft s.brk d)) := by
  have q := near_paid (pb := s.paid) (af := s.aft) (ab := s.brk) i1 i2
  rw [← q.1, ← q.2]
  exact parted_c h hm A ca xs B cb ys hx hy (by omega) (by omega) d
set_option maxHeartbeats 8000000 in
theorem put_day (d : Int) (gS gC gR gP gN : Nat) (s : SetP) (cs : Array Value) (hm : s.May) (A : Option Addr) (n c : Nat) (L : List (Int × Int)) (B : Option Addr) (m e : Nat) (K : List (Int × Int)) (P : Option Addr) (p : Nat) (xs : List (Int × Int)) (N : Option Addr) (q : Nat) (ys : List (Int × Int)) (base : Nat) (w : World)
    (hSC : SetC w s cs) (hS : Has w gS cs) (hC : Has w gC #[.slice A n c]) (hR : Has w gR #[.slice B m e]) (hX : Spans w A L) (hY : Spans w B K) (hnL : L.length = n) (hmK : K.length = m) (hPL : PlainFrom 0 L) (hPK : PlainFrom 0 K) (hn : n ≤ 100000000) (hmm : m ≤ 100000000)
    (hnc : n ≤ c) (hc : c ≤ 9223372036854775807) (hme : m ≤ e) (he : e ≤ 9223372036854775807)
    (hP : Has w gP #[.slice P xs.length p]) (hN : Has w gN #[.slice N ys.length q]) (hT : Two2 w base P p xs N q ys) (hgP : gP < base) (hgN : gN < base) (hne : gP ≠ gN) (hbs : base ≤ w.heap.size) (hlx : xs.length ≤ 100000000) (hly : ys.length ≤ 100000000) :
    Calls Tryz.prog 50 #[.int .i64 d, .pointer (some ⟨gS, 0, none⟩), .pointer (some ⟨gC, 0, none⟩), .pointer (some ⟨gR, 0, none⟩), .pointer (some ⟨gP, 0, none⟩), .pointer (some ⟨gN, 0, none⟩)] w fun e w' => e = .returned (.tuple #[]) ∧ ∃ P' p' N' q',
      Has w' gP #[.slice P' (xs ++ paidDay (In L) (In K) s.paid s.aft s.brk d).length p'] ∧ Has w' gN #[.slice N' (ys ++ unDay (In L) (In K) s.paid s.aft s.brk d).length q'] ∧ Two2 w' base P' p' (xs ++ paidDay (In L) (In K) s.paid s.aft s.brk d) N' q' (ys ++ unDay (In L) (In K) s.paid s.aft s.brk d) ∧ Kept (fun b => b < base ∧ b ≠ gP ∧ b ≠ gN) w w' := by
  have HZ := Lib.hid hSC.size
  have HNA := Lib.hid (fun W (hW : Spans W A L) => bnear_any A n c L d W hW hnL hPL hn hnc hc)
  have HNB := Lib.hid (fun W (hW : Spans W B K) => bnear_any B m e K d W hW hmK hPK hmm hme he)
  have HPT := Lib.hid (fun W A ca xs B cb ys (hW : SetC W s cs) hx hy h1 h2 h3 h4 => parted_near hW hm (L := L) (K := K) (by omega) (by omega) d A ca xs B cb ys hx hy h1 h2 h3 h4)
  have lP : (paidDay (In L) (In K) s.paid s.aft s.brk d).length ≤ 32054401 := canon_len _
  have lN : (unDay (In L) (In K) s.paid s.aft s.brk d).length ≤ 32054401 := canon_len _
  generalize paidDay (In L) (In K) s.paid s.aft s.brk d = PD at *
  generalize unDay (In L) (In K) s.paid s.aft s.brk d = UD at *
  have HSC := Lib.hid hSC
  have HS := Lib.hid hS
  have HC := Lib.hid hC
  have HR := Lib.hid hR
  have HX := Lib.hid hX
  have HY := Lib.hid hY
  have HP := Lib.hid hP
  have HN := Lib.hid hN
  have HT := Lib.hid hT
  have sS := hS.size
  have sC := hC.size
  have sR := hR.size
  clear hSC hm hS hC hR hX hY hPL hPK hP hN hT hnc hc hme he
  go_enter Tryz.func50, Tryz.ntmps50
  go_wp2_with fail
  refine wp_region_noPanic ?_
  refine wp_region_held_drew (S := fun w' => Below w.heap.size w w') (by kernel_rfl) (below_drew (Below.refl _ _)) (fun hHeld => ?_)
  refine wpAnyH_take (i := 2) (oi := ⟨some 12, _, _, _, _, _⟩) (v := ?_) rfl (by kernel_rfl) (by kernel_rfl) (by kernel_rfl) (fun _ _ _ h => h) (Or.inl ⟨by rfl, ?_⟩) hHeld ?_
  rotate_left
  · intro ww hSw
    (try dsimp only at hSw)
    go_simp
    (try with_reducible rfl)
  simp only [Act.put, List.setIfInBounds_toArray, List.set_cons_zero, List.set_cons_succ]
  refine wpAnyH_take (i := 5) (oi := ⟨some 15, _, _, _, _, _⟩) (v := ?_) rfl (by kernel_rfl) (by kernel_rfl) (by kernel_rfl) (fun _ _ _ h => h) (Or.inl ⟨by rfl, ?_⟩) hHeld ?_
  rotate_left
  · intro ww hSw
    (try dsimp only at hSw)
    go_simp
    (try with_reducible rfl)
  simp only [Act.put, List.setIfInBounds_toArray, List.set_cons_zero, List.set_cons_succ]
  refine wpAnyH_take (i := 7) (oi := ⟨some 17, _, _, _, _, _⟩) (v := ?_) rfl (by kernel_rfl) (by kernel_rfl) (by kernel_rfl) (fun _ _ _ h => h) (Or.inl ⟨by rfl, ?_⟩) hHeld ?_
  rotate_left
  · intro ww hSw
    (try dsimp only at hSw)
    go_simp
    (try with_reducible rfl)
  simp only [Act.put, List.setIfInBounds_toArray, List.set_cons_zero, List.set_cons_succ]
  refine wpAnyH_take (i := 0) (oi := ⟨some 10, _, _, _, _, _⟩) (v := .agg cs) rfl (by kernel_rfl) (by kernel_rfl) (by kernel_rfl) (fun _ _ _ h => h) (Or.inl ⟨by rfl, ?_⟩) hHeld ?_
  · intro ww hSw
    (try dsimp only at hSw)
    exact exec_load_sp _ rfl rfl (HS.out.below hSw) HZ.out
  simp only [Act.put, List.setIfInBounds_toArray, List.set_cons_zero, List.set_cons_succ]
  refine wpAnyH_take (i := 1) (oi := ⟨some 11, _, _, _, _, _⟩) (v := .slice A n c) rfl (by kernel_rfl) (by kernel_rfl) (by kernel_rfl) (fun _ _ _ h => h) (Or.inl ⟨by rfl, ?_⟩) hHeld ?_
  · intro ww hSw
    (try dsimp only at hSw)
    have qc := (HC.out.below hSw).cell 0 rfl
    have qz := cell_lt qc
    go_simp
  simp only [Act.put, List.setIfInBounds_toArray, List.set_cons_zero, List.set_cons_succ]
  refine wpAnyH_take (i := 4) (oi := ⟨some 14, _, _, _, _, _⟩) (v := .slice B m e) rfl (by kernel_rfl) (by kernel_rfl) (by kernel_rfl) (fun _ _ _ h => h) (Or.inl ⟨by rfl, ?_⟩) hHeld ?_
  · intro ww hSw
    (try dsimp only at hSw)
    have qc := (HR.out.below hSw).cell 0 rfl
    have qz := cell_lt qc
    go_simp
  simp only [Act.put, List.setIfInBounds_toArray, List.set_cons_zero, List.set_cons_succ]
  refine wpAnyH_ready (rs := [3]) (by kernel_rfl) (by simp) ?_
  refine AllReadyH.cons (o := ⟨some 13, _, _, _, _, _⟩) rfl (fun K hK => ?_) AllReadyH.nil
  go_simp
  go_at_call 52
  refine (HNA.out _ (HX.out.below (below_drew (Below.refl _ _)))).mono ?_
  rintro e_r w3 ⟨A3, c3, M3, rfl, s3, l3, i3, hbn⟩
  have HM3 := Lib.hid s3
  have I3 := Lib.hid i3
  have L3 := Lib.hid l3
  clear s3 i3 l3
  have hbw3 : Below w.heap.size w w3 := bel_on (show Below w.heap.size w _ by (repeat' (first | with_reducible exact Below.refl _ _ | with_reducible assumption | with_reducible refine bel_alloc ?_ _ | with_reducible refine bel_set ?_ ?_ _ | with_reducible refine below_drewN ?_ _ | with_reducible refine below_drew ?_ | (simp; done) | (simp; omega) | omega))) hbn
  clear hbn
  go_wp2_with fail
  refine hK.out _ _ ?_ (fun hHeld => ?_)
  · (try dsimp only)
    exact hbw3
  clear hK K
  (try simp only [Act.put, List.setIfInBounds_toArray, List.set_cons_zero, List.set_cons_succ])
  refine wpAnyH_ready (rs := [6]) (by kernel_rfl) (by simp) ?_
  refine AllReadyH.cons (o := ⟨some 16, _, _, _, _, _⟩) rfl (fun K hK => ?_) AllReadyH.nil
  go_simp
  go_at_call 52
  refine (HNB.out _ (HY.out.below hbw3)).mono ?_
  rintro e_r w4 ⟨A4, c4, M4, rfl, s4, l4, i4, hbn⟩
  have HM4 := Lib.hid s4
  have I4 := Lib.hid i4
  have L4 := Lib.hid l4
  have HM3b := Lib.hid (HM3.out.below hbn)
  clear s4 i4 l4 HM3
  have hbw4 : Below w.heap.size w w4 := bel_on (show Below w.heap.size w _ by (repeat' (first | with_reducible exact Below.refl _ _ | with_reducible assumption | with_reducible refine bel_alloc ?_ _ | with_reducible refine bel_set ?_ ?_ _ | with_reducible refine below_drewN ?_ _ | with_reducible refine below_drew ?_ | (simp; done) | (simp; omega) | omega))) hbn
  clear hbn
  go_wp2_with fail
  refine hK.out _ _ ?_ (fun hHeld => ?_)
  · (try dsimp only)
    exact hbw4
  clear hK K
  (try simp only [Act.put, List.setIfInBounds_toArray, List.set_cons_zero, List.set_cons_succ])
  refine wpAnyH_ready (rs := [8]) (by kernel_rfl) (by simp) ?_
  refine AllReadyH.cons (o := ⟨some 18, _, _, _, _, _⟩) rfl (fun K hK => ?_) AllReadyH.nil
  go_simp
  go_at_call 51
  refine (HPT.out _ A3 c3 M3 A4 c4 M4 (HSC.out.below hbw4) HM3b.out HM4.out L3.out L4.out I3.out I4.out).mono ?_
  rintro e_r w5 ⟨A5, c5, B5, d5, rfl, r5, r6, hbn⟩
  have HY5 := Lib.hid (r5.mono (show w.heap.size ≤ w4.heap.size from hbw4.size))
  have HN5 := Lib.hid (r6.mono (show w.heap.size ≤ w4.heap.size from hbw4.size))
  clear r5 r6 HM3b HM4 L3 L4 I3 I4
  have hbw5 : Below w.heap.size w w5 := bel_on (show Below w.heap.size w _ by (repeat' (first | with_reducible exact Below.refl _ _ | with_reducible assumption | with_reducible refine bel_alloc ?_ _ | with_reducible refine bel_set ?_ ?_ _ | with_reducible refine below_drewN ?_ _ | with_reducible refine below_drew ?_ | (simp; done) | (simp; omega) | omega))) hbn
  clear hbn
  go_wp2_with fail
  refine hK.out _ _ ?_ (fun hHeld => ?_)
  · (try dsimp only)
    exact hbw5
  clear hK K
  (try simp only [Act.put, List.setIfInBounds_toArray, List.set_cons_zero, List.set_cons_succ])
  refine wpAnyH_take (i := 9) (oi := ⟨some 9, _, _, _, _, _⟩) (v := ?_) rfl (by kernel_rfl) (by kernel_rfl) (by kernel_rfl) (fun _ _ _ h => h) (Or.inl ⟨by rfl, ?_⟩) hHeld ?_
  rotate_left
  · intro ww hSw
    (try dsimp only at hSw)
    go_simp
    (try with_reducible rfl)
  simp only [Act.put, List.setIfInBounds_toArray, List.set_cons_zero, List.set_cons_succ]
  refine wpAnyH_take (i := 10) (oi := ⟨some 19, _, _, _, _, _⟩) (v := ?_) rfl (by kernel_rfl) (by kernel_rfl) (by kernel_rfl) (fun _ _ _ h => h) (Or.inl ⟨by rfl, ?_⟩) hHeld ?_
  rotate_left
  · intro ww hSw
    (try dsimp only at hSw)
    go_simp
    (try with_reducible rfl)
  simp only [Act.put, List.setIfInBounds_toArray, List.set_cons_zero, List.set_cons_succ]
  refine wpAnyH_take (i := 11) (oi := ⟨some 20, _, _, _, _, _⟩) (v := ?_) rfl (by kernel_rfl) (by kernel_rfl) (by kernel_rfl) (fun _ _ _ h => h) (Or.inl ⟨by rfl, ?_⟩) hHeld ?_
  rotate_left
  · intro ww hSw
    (try dsimp only at hSw)
    go_simp
    (try with_reducible rfl)
  simp only [Act.put, List.setIfInBounds_toArray, List.set_cons_zero, List.set_cons_succ]
  refine wpAnyH_take (i := 12) (oi := ⟨some 7, _, _, _, _, _⟩) (v := ?_) rfl (by kernel_rfl) (by kernel_rfl) (by kernel_rfl) (fun _ _ _ h => h) (Or.inl ⟨by rfl, ?_⟩) hHeld ?_
  rotate_left
  · intro ww hSw
    (try dsimp only at hSw)
    go_simp
    (try with_reducible rfl)
  simp only [Act.put, List.setIfInBounds_toArray, List.set_cons_zero, List.set_cons_succ]
  refine wpAnyH_take (i := 13) (oi := ⟨some 8, _, _, _, _, _⟩) (v := ?_) rfl (by kernel_rfl) (by kernel_rfl) (by kernel_rfl) (fun _ _ _ h => h) (Or.inl ⟨by rfl, ?_⟩) hHeld ?_
  rotate_left
  · intro ww hSw
    (try dsimp only at hSw)
    go_simp
    (try with_reducible rfl)
  simp only [Act.put, List.setIfInBounds_toArray, List.set_cons_zero, List.set_cons_succ]
  refine wpAnyH_done (by kernel_rfl) ?_ _
  refine NoPanic.normal ?_
  have hPb : ∀ x, P = some x → base ≤ x.block ∧ x.block < w.heap.size := fun x hx => HT.out.a.lt x hx
  have hNb : ∀ x, N = some x → base ≤ x.block ∧ x.block < w.heap.size := fun x hx => HT.out.b.lt x hx
  have T5 : Two2 w5.drew base P p xs N q ys := (HT.out.below hbw5).drew
  have hz5 : base ≤ w5.drew.heap.size := Nat.le_trans hbs hbw5.size
  obtain ⟨P6, p6, w6, hr6, T6, K6⟩ := T5.push (row_sl HY5.out.drew) (by omega) hz5
  have hN6 : Row w6 w.heap.size B5 d5 UD := HN5.out.drew.keep fun g hg => K6.block _ ⟨(HN5.out.drew.lt g hg).2, fun x hx => by have h1 := (hPb x hx).2; have h2 := (HN5.out.lt g hg).1; omega⟩
  obtain ⟨N7, q7, w7, hr7, T7, K7⟩ := T6.turn.push (row_sl hN6) (by omega) (Nat.le_trans hz5 K6.size)
  have P5 : Has w5.drew gP #[.slice P xs.length p] := (HP.out.below hbw5).drew
  have N5 : Has w5.drew gN #[.slice N ys.length q] := (HN.out.below hbw5).drew
  have P6h : Has w6 gP #[.slice P xs.length p] := P5.kept ⟨P5.size, fun x hx => by have := (hPb x hx).1; omega⟩ K6
  have N6h : Has w6 gN #[.slice N ys.length q] := N5.kept ⟨N5.size, fun x hx => by have := (hPb x hx).1; omega⟩ K6
  have P7h : Has w7 gP #[.slice P xs.length p] := P6h.kept ⟨P6h.size, fun x hx => by have := (hNb x hx).1; omega⟩ K7
  have N7h : Has w7 gN #[.slice N ys.length q] := N6h.kept ⟨N6h.size, fun x hx => by have := (hNb x hx).1; omega⟩ K7
  have HEND : Hid (Has ((w7.setCell ⟨gP, 0, none⟩ (.slice P6 (xs.length + PD.length) p6)).setCell ⟨gN, 0, none⟩ (.slice N7 (ys.length + UD.length) q7)) gP #[.slice P6 (xs ++ PD).length p6] ∧
      Has ((w7.setCell ⟨gP, 0, none⟩ (.slice P6 (xs.length + PD.length) p6)).setCell ⟨gN, 0, none⟩ (.slice N7 (ys.length + UD.length) q7)) gN #[.slice N7 (ys ++ UD).length q7] ∧
      Two2 ((w7.setCell ⟨gP, 0, none⟩ (.slice P6 (xs.length + PD.length) p6)).setCell ⟨gN, 0, none⟩ (.slice N7 (ys.length + UD.length) q7)) base P6 p6 (xs ++ PD) N7 q7 (ys ++ UD) ∧
      Kept (fun b => b < base ∧ b ≠ gP ∧ b ≠ gN) w ((w7.setCell ⟨gP, 0, none⟩ (.slice P6 (xs.length + PD.length) p6)).setCell ⟨gN, 0, none⟩ (.slice N7 (ys.length + UD.length) q7))) := by
    refine ⟨?_, ?_, ?_, ?_⟩
    · rw [List.length_append]; exact (P7h.set 0 _).far (p := ⟨gN, 0, none⟩) (by simpa using hne) _
    · rw [List.length_append]; exact (N7h.far (p := ⟨gP, 0, none⟩) (by simpa using hne.symm) _).set 0 _
    · exact ((T7.turn.far (p := ⟨gP, 0, none⟩) hgP _).far (p := ⟨gN, 0, none⟩) hgN _)
    · have k5 : Kept (fun b => b < base ∧ b ≠ gP ∧ b ≠ gN) w w5.drew := Kept.of_below (below_drew hbw5) fun i hi => by omega
      have k6 : Kept (fun b => b < base ∧ b ≠ gP ∧ b ≠ gN) w5.drew w6 := K6.less fun i hi => ⟨by omega, fun x hx => by have := (hPb x hx).1; omega⟩
      have k7 : Kept (fun b => b < base ∧ b ≠ gP ∧ b ≠ gN) w6 w7 := K7.less fun i hi => ⟨by have := K6.size; omega, fun x hx => by have := (hNb x hx).1; omega⟩
      exact (((k5.on k6).on k7).setn (p := ⟨gP, 0, none⟩) (fun h => h.2.1 rfl) _).setn (p := ⟨gN, 0, none⟩) (fun h => h.2.2 rfl) _
  have c50 := P5.cell 0 rfl
  have c51 := N5.cell 0 rfl
  have c60 := P6h.cell 0 rfl
  have c61 := N6h.cell 0 rfl
  have c70 := P7h.cell 0 rfl
  have c71 := N7h.cell 0 rfl
  have f70 := P7h.frozen 0
  have f71 := N7h.frozen 0
  have s50 := P5.size
  have s51 := N5.size
  have s60 := P6h.size
  have s61 := N6h.size
  have s70 := P7h.size
  have s71 := N7h.size
  have HR6 := Lib.hid hr6
  have HR7 := Lib.hid hr7
  clear hPb hNb T5 hz5 hr6 T6 K6 hN6 hr7 T7 K7 P5 N5 P6h N6h P7h N7h HSC HS HC HR HX HY HP HN HT HNA HNB HPT HY5 HN5 hbw3 hbw4 hbw5 sS sC sR
  go_wp2_with fail
  refine wp_region_noPanic ?_
  refine wp_region_held_drew (S := fun _ => True) (by kernel_rfl) trivial (fun hHeld => ?_)
  refine wpAnyH_take (i := 1) (oi := ⟨some 22, _, _, _, _, _⟩) (v := ?_) rfl (by kernel_rfl) (by kernel_rfl) (by kernel_rfl) (fun _ _ _ h => h) (Or.inl ⟨by rfl, ?_⟩) hHeld ?_
  rotate_left
  · intro ww hSw
    (try dsimp only at hSw)
    go_simp
    (try with_reducible rfl)
  simp only [Act.put, List.setIfInBounds_toArray, List.set_cons_zero, List.set_cons_succ]
  refine wpAnyH_take (i := 4) (oi := ⟨some 25, _, _, _, _, _⟩) (v := ?_) rfl (by kernel_rfl) (by kernel_rfl) (by kernel_rfl) (fun _ _ _ h => h) (Or.inl ⟨by rfl, ?_⟩) hHeld ?_
  rotate_left
  · intro ww hSw
    (try dsimp only at hSw)
    go_simp
    (try with_reducible rfl)
  simp only [Act.put, List.setIfInBounds_toArray, List.set_cons_zero, List.set_cons_succ]
  refine wpAnyH_ready (rs := [0, 3]) (by kernel_rfl) (by simp) ?_
  refine AllReadyH.cons (o := ⟨some 21, _, _, _, _, _⟩) rfl (fun K hK => ?_) (AllReadyH.cons (o := ⟨some 24, _, _, _, _, _⟩) rfl (fun K hK => ?_) AllReadyH.nil)
  · skip
    go_simp
    refine hK.out _ _ trivial (fun hHeld => ?_)
    clear hK K
    (try simp only [Act.put, List.setIfInBounds_toArray, List.set_cons_zero, List.set_cons_succ])
    refine wpAnyH_ready (rs := [2, 3]) (by kernel_rfl) (by simp) ?_
    refine AllReadyH.cons (o := ⟨some 23, _, _, _, _, _⟩) rfl (fun K hK => ?_) (AllReadyH.cons (o := ⟨some 24, _, _, _, _, _⟩) rfl (fun K hK => ?_) AllReadyH.nil)
    · skip
      show if Region.wanted _ _ = true then _ else _
      rw [if_pos (by rfl)]
      refine wp_append_runB (K := K) HR6.out rfl rfl rfl ?_
      refine hK.out _ _ trivial (fun hHeld => ?_)
      clear hK K
      (try simp only [Act.put, List.setIfInBounds_toArray, List.set_cons_zero, List.set_cons_succ])
      refine wpAnyH_ready (rs := [3]) (by kernel_rfl) (by simp) ?_
      refine AllReadyH.cons (o := ⟨some 24, _, _, _, _, _⟩) rfl (fun K hK => ?_) AllReadyH.nil
      go_simp
      refine hK.out _ _ trivial (fun hHeld => ?_)
      clear hK K
      (try simp only [Act.put, List.setIfInBounds_toArray, List.set_cons_zero, List.set_cons_succ])
      refine wpAnyH_ready (rs := [5]) (by kernel_rfl) (by simp) ?_
      refine AllReadyH.cons (o := ⟨some 26, _, _, _, _, _⟩) rfl (fun K hK => ?_) AllReadyH.nil
      show if Region.wanted _ _ = true then _ else _
      rw [if_pos (by rfl)]
      refine wp_append_runB (K := K) HR7.out rfl rfl rfl ?_
      refine hK.out _ _ trivial (fun hHeld => ?_)
      clear hK K
      (try simp only [Act.put, List.setIfInBounds_toArray, List.set_cons_zero, List.set_cons_succ])
      refine wpAnyH_ready (rs := [6]) (by kernel_rfl) (by simp) ?_
      refine AllReadyH.cons (o := ⟨none, _, _, _, _, _⟩) rfl (fun K hK => ?_) AllReadyH.nil
      go_simp
      refine hK.out _ _ trivial (fun hHeld => ?_)
      clear hK K
      (try simp only [Act.put, List.setIfInBounds_toArray, List.set_cons_zero, List.set_cons_succ])
      refine wpAnyH_ready (rs := [7]) (by kernel_rfl) (by simp) ?_
      refine AllReadyH.cons (o := ⟨none, _, _, _, _, _⟩) rfl (fun K hK => ?_) AllReadyH.nil
      go_simp
      refine hK.out _ _ trivial (fun hHeld => ?_)
      clear hK K
      (try simp only [Act.put, List.setIfInBounds_toArray, List.set_cons_zero, List.set_cons_succ])
      refine wpAnyH_done (by kernel_rfl) ?_ _
      refine NoPanic.normal ?_
      clear hHeld
      go_wp2
      go_end0
      exact ⟨rfl, P6, p6, N7, q7, HEND.out⟩
    · skip
      go_simp
      refine hK.out _ _ trivial (fun hHeld => ?_)
      clear hK K
      (try simp only [Act.put, List.setIfInBounds_toArray, List.set_cons_zero, List.set_cons_succ])
      refine wpAnyH_ready (rs := [2]) (by kernel_rfl) (by simp) ?_
      refine AllReadyH.cons (o := ⟨some 23, _, _, _, _, _⟩) rfl (fun K hK => ?_) AllReadyH.nil
      show if Region.wanted _ _ = true then _ else _
      rw [if_pos (by rfl)]
      refine wp_append_runB (K := K) HR6.out rfl rfl rfl ?_
      refine hK.out _ _ trivial (fun hHeld => ?_)
      clear hK K
      (try simp only [Act.put, List.setIfInBounds_toArray, List.set_cons_zero, List.set_cons_succ])
      refine wpAnyH_ready (rs := [5]) (by kernel_rfl) (by simp) ?_
      refine AllReadyH.cons (o := ⟨some 26, _, _, _, _, _⟩) rfl (fun K hK => ?_) AllReadyH.nil
      show if Region.wanted _ _ = true then _ else _
      rw [if_pos (by rfl)]
      refine wp_append_runB (K := K) HR7.out rfl rfl rfl ?_
      refine hK.out _ _ trivial (fun hHeld => ?_)
      clear hK K
      (try simp only [Act.put, List.setIfInBounds_toArray, List.set_cons_zero, List.set_cons_succ])
      refine wpAnyH_ready (rs := [6]) (by kernel_rfl) (by simp) ?_
      refine AllReadyH.cons (o := ⟨none, _, _, _, _, _⟩) rfl (fun K hK => ?_) AllReadyH.nil
      go_simp
      refine hK.out _ _ trivial (fun hHeld => ?_)
      clear hK K
      (try simp only [Act.put, List.setIfInBounds_toArray, List.set_cons_zero, List.set_cons_succ])
      refine wpAnyH_ready (rs := [7]) (by kernel_rfl) (by simp) ?_
      refine AllReadyH.cons (o := ⟨none, _, _, _, _, _⟩) rfl (fun K hK => ?_) AllReadyH.nil
      go_simp
      refine hK.out _ _ trivial (fun hHeld => ?_)
      clear hK K
      (try simp only [Act.put, List.setIfInBounds_toArray, List.set_cons_zero, List.set_cons_succ])
      refine wpAnyH_done (by kernel_rfl) ?_ _
      refine NoPanic.normal ?_
      clear hHeld
      go_wp2
      go_end0
      exact ⟨rfl, P6, p6, N7, q7, HEND.out⟩
  · skip
    go_simp
    refine hK.out _ _ trivial (fun hHeld => ?_)
    clear hK K
    (try simp only [Act.put, List.setIfInBounds_toArray, List.set_cons_zero, List.set_cons_succ])
    refine wpAnyH_ready (rs := [0]) (by kernel_rfl) (by simp) ?_
    refine AllReadyH.cons (o := ⟨some 21, _, _, _, _, _⟩) rfl (fun K hK => ?_) AllReadyH.nil
    go_simp
    refine hK.out _ _ trivial (fun hHeld => ?_)
    clear hK K
    (try simp only [Act.put, List.setIfInBounds_toArray, List.set_cons_zero, List.set_cons_succ])
    refine wpAnyH_ready (rs := [2]) (by kernel_rfl) (by simp) ?_
    refine AllReadyH.cons (o := ⟨some 23, _, _, _, _, _⟩) rfl (fun K hK => ?_) AllReadyH.nil
    show if Region.wanted _ _ = true then _ else _
    rw [if_pos (by rfl)]
    refine wp_append_runB (K := K) HR6.out rfl rfl rfl ?_
    refine hK.out _ _ trivial (fun hHeld => ?_)
    clear hK K
    (try simp only [Act.put, List.setIfInBounds_toArray, List.set_cons_zero, List.set_cons_succ])
    refine wpAnyH_ready (rs := [5]) (by kernel_rfl) (by simp) ?_
    refine AllReadyH.cons (o := ⟨some 26, _, _, _, _, _⟩) rfl (fun K hK => ?_) AllReadyH.nil
    show if Region.wanted _ _ = true then _ else _
    rw [if_pos (by rfl)]
    refine wp_append_runB (K := K) HR7.out rfl rfl rfl ?_
    refine hK.out _ _ trivial (fun hHeld => ?_)
    clear hK K
    (try simp only [Act.put, List.setIfInBounds_toArray, List.set_cons_zero, List.set_cons_succ])
    refine wpAnyH_ready (rs := [6]) (by kernel_rfl) (by simp) ?_
    refine AllReadyH.cons (o := ⟨none, _, _, _, _, _⟩) rfl (fun K hK => ?_) AllReadyH.nil
    go_simp
    refine hK.out _ _ trivial (fun hHeld => ?_)
    clear hK K
    (try simp only [Act.put, List.setIfInBounds_toArray, List.set_cons_zero, List.set_cons_succ])
    refine wpAnyH_ready (rs := [7]) (by kernel_rfl) (by simp) ?_
    refine AllReadyH.cons (o := ⟨none, _, _, _, _, _⟩) rfl (fun K hK => ?_) AllReadyH.nil
    go_simp
    refine hK.out _ _ trivial (fun hHeld => ?_)
    clear hK K
    (try simp only [Act.put, List.setIfInBounds_toArray, List.set_cons_zero, List.set_cons_succ])
    refine wpAnyH_done (by kernel_rfl) ?_ _
    refine NoPanic.normal ?_
    clear hHeld
    go_wp2
    go_end0
    exact ⟨rfl, P6, p6, N7, q7, HEND.out⟩

set_option maxHeartbeats 8000000 in
/-- All days. -/
theorem bpaid_c {w : World} {s : SetP} {cs : Array Value} (h : SetC w s cs) (hf : s.Fit) (b : Bool) (hb : checkB s = b) (A : Option Addr) (n c : Nat) (l : List SegP) (hs : Segs w A n c l) (hn : n ≤ 1000) (hF : ∀ s ∈ l, Fit s.fr ∧ Fit s.to) :
    Calls Tryz.prog 20 #[.agg cs, .slice A n c] w (Gives2 w (allYes b s l) (allNo b s l)) := by
  have HZ := Lib.hid h.size
  have hb0 := bel_alloc (Below.refl w.heap.size w) (.cells cs 30)
  have HB0 := Lib.hid (Has.new w 30 cs rfl)
  have HS0 := Lib.hid (h.below hb0)
  have HL0 := Lib.hid (hs.below hb0)
  have HC := Lib.hid (scheck_c HS0.out hf b hb)
  clear h hs
  cases b with
  | false =>
    have e1 : allYes false s l = [] := rfl
    have e2 : allNo false s l = [] := rfl
    rw [e1, e2]
    clear e1 e2 hb
    go_enter Tryz.func20, Tryz.ntmps20
    go_wp2_with (refine wpList_load_sp (by rfl) _ rfl w.heap.size rfl cs HB0.out HZ.out ?_)
    refine HC.out.mono ?_
    rintro e w1 ⟨rfl, b1⟩
    have HB1 := Lib.hid (bel_on hb0 b1)
    clear b1 hb0
    go_wp2
    refine bodyPost_ret (v := .tuple #[.slice none 0 0, .slice none 0 0]) (by simp [results, Tryz.results20, go_sem]) rfl ⟨none, 0, none, 0, rfl, Row.nil _ _, Row.nil _ _, HB1.out⟩
  | true =>
    have hmay := check_iff.1 hb
    have H2 := Lib.hid (fun W (hW : Segs W A n c l) => both_c A n c l W hW hn hF)
    have lX : (clockP l).length ≤ 32054401 := canon_len _
    have lY : (clockP (l.filter (ofKind 3))).length ≤ 32054401 := canon_len _
    have FX : Hid (Fits (clockP l)) := Fits.canon _
    have FY : Hid (Fits (clockP (l.filter (ofKind 3)))) := Fits.canon _
    have PX : Hid (PlainFrom 0 (clockP l)) := canon_plain _
    have PY : Hid (PlainFrom 0 (clockP (l.filter (ofKind 3)))) := canon_plain _
    have e1 : allYes true s l = paidAll (In (clockP l)) (In (clockP (l.filter (ofKind 3)))) s.paid s.aft s.brk := if_pos rfl
    have e2 : allNo true s l = notAll (In (clockP l)) (In (clockP (l.filter (ofKind 3)))) s.paid s.aft s.brk := if_pos rfl
    rw [e1, e2]
    clear e1 e2 hb
    have hrc := rst_clk l
    unfold rstS clkS at hrc
    have HPA := Lib.hid (paidN_all (C := In (clockP l)) (R := In (clockP (l.filter (ofKind 3)))) (pb := s.paid) (af := s.aft) (ab := s.brk))
    have HNA := Lib.hid (notN_all (C := In (clockP l)) (R := In (clockP (l.filter (ofKind 3)))) (pb := s.paid) (af := s.aft) (ab := s.brk))
    have HPS := Lib.hid (fun k => paidN_snoc (C := In (clockP l)) (R := In (clockP (l.filter (ofKind 3)))) (pb := s.paid) (af := s.aft) (ab := s.brk) k)
    have HNS := Lib.hid (fun k => (notN_snoc (C := In (clockP l)) (R := In (clockP (l.filter (ofKind 3)))) (pb := s.paid) (af := s.aft) (ab := s.brk) k).trans (by rw [← unDay_not hrc (k : Int)]))
    have HPL := Lib.hid (fun k => paidN_len (C := In (clockP l)) (R := In (clockP (l.filter (ofKind 3)))) (pb := s.paid) (af := s.aft) (ab := s.brk) k)
    have HNL := Lib.hid (fun k => notN_len (C := In (clockP l)) (R := In (clockP (l.filter (ofKind 3)))) (pb := s.paid) (af := s.aft) (ab := s.brk) k)
    have HPF := Lib.hid (fun k => paidN_fits (C := In (clockP l)) (R := In (clockP (l.filter (ofKind 3)))) (pb := s.paid) (af := s.aft) (ab := s.brk) k)
    have HNF := Lib.hid (fun k => notN_fits (C := In (clockP l)) (R := In (clockP (l.filter (ofKind 3)))) (pb := s.paid) (af := s.aft) (ab := s.brk) k)
    have HP0 : Hid (paidN (In (clockP l)) (In (clockP (l.filter (ofKind 3)))) s.paid s.aft s.brk 0 = []) := rfl
    have HN0 : Hid (notN (In (clockP l)) (In (clockP (l.filter (ofKind 3)))) s.paid s.aft s.brk 0 = []) := rfl
    generalize paidN (In (clockP l)) (In (clockP (l.filter (ofKind 3)))) s.paid s.aft s.brk = YP at *
    generalize notN (In (clockP l)) (In (clockP (l.filter (ofKind 3)))) s.paid s.aft s.brk = YN at *
    generalize paidAll (In (clockP l)) (In (clockP (l.filter (ofKind 3)))) s.paid s.aft s.brk = PA at *
    generalize notAll (In (clockP l)) (In (clockP (l.filter (ofKind 3)))) s.paid s.aft s.brk = NA at *
    have lPA : PA.length ≤ 32054401 := by rw [← HPA.out]; exact canon_len _
    clear hrc hF
    generalize clockP (l.filter (ofKind 3)) = Y at *
    generalize clockP l = X at *
    have eg : ∀ args W, (callFunc 50 args).run Tryz.prog W = .ok (.enter 50 args) W := enters_of Tryz.func50 (by kernel_rfl) rfl
    go_enter Tryz.func20, Tryz.ntmps20
    go_wp2_with (refine wpList_load_sp (by rfl) _ rfl w.heap.size rfl cs HB0.out HZ.out ?_)
    refine HC.out.mono ?_
    rintro e w1 ⟨rfl, b1⟩
    have HB1 := Lib.hid (HB0.out.below b1)
    have HS1 := Lib.hid (HS0.out.below b1)
    have HL1 := Lib.hid (HL0.out.below b1)
    have HW1 := Lib.hid (bel_on hb0 b1)
    clear b1 hb0 HB0 HS0 HL0 HC
    go_wp2_with fail
    refine (H2.out _ HL1.out).mono ?_
    rintro e w2 ⟨D1, c1, D2, c2, rfl, r1, r2, b2⟩
    have HB2 := Lib.hid (HB1.out.below b2)
    have HS2 := Lib.hid (HS1.out.below b2)
    have HX2 := Lib.hid (r1.spans FX.out)
    have HY2 := Lib.hid (r2.spans FY.out)
    have HW2 := Lib.hid (bel_on HW1.out b2)
    have k1 := Lib.hid (row_caps r1)
    have k2 := Lib.hid (row_caps r2)
    clear r1 r2 b2 HB1 HS1 HL1 HW1
    obtain ⟨w3, hw3⟩ : ∃ w3, (((w2.alloc (.cells #[.slice D1 X.length c1] 40)).alloc (.cells #[.slice D2 Y.length c2] 40)).alloc (.cells #[.slice none 0 0] 40)).alloc (.cells #[.slice none 0 0] 40) = w3 := ⟨_, rfl⟩
    have hb3 : Below w2.heap.size w2 w3 := by rw [← hw3]; exact bel_alloc (bel_alloc (bel_alloc (bel_alloc (Below.refl _ _) _) _) _) _
    have HC3 : Has w3 w2.heap.size #[.slice D1 X.length c1] := by rw [← hw3]; exact (((Has.new w2 _ _ rfl).alloc _).alloc _).alloc _
    have HR3 : Has w3 (w2.heap.size + 1) #[.slice D2 Y.length c2] := by rw [← hw3]; exact ((Has.new _ _ _ (by simp)).alloc _).alloc _
    have HP3 : Has w3 (w2.heap.size + 1 + 1) #[.slice none 0 0] := by rw [← hw3]; exact (Has.new _ _ _ (by simp)).alloc _
    have HN3 : Has w3 (w2.heap.size + 1 + 1 + 1) #[.slice none 0 0] := by rw [← hw3]; exact Has.new _ _ _ (by simp)
    have hz3 : w3.heap.size = w2.heap.size + 1 + 1 + 1 + 1 := by rw [← hw3]; simp
    obtain ⟨gR, hgR⟩ : ∃ g, w2.heap.size + 1 = g := ⟨_, rfl⟩
    obtain ⟨gP, hgP⟩ : ∃ g, gR + 1 = g := ⟨_, rfl⟩
    obtain ⟨gN, hgN⟩ : ∃ g, gP + 1 = g := ⟨_, rfl⟩
    rw [hgR, hgP, hgN] at HN3 hz3
    rw [hgR, hgP] at HP3
    rw [hgR] at HR3
    have HC3 := Lib.hid HC3
    have HR3 := Lib.hid HR3
    have HP3 := Lib.hid HP3
    have HN3 := Lib.hid HN3
    have hgz : w2.heap.size < gR ∧ gR < gP ∧ gP < gN := by omega
    have HZ3 := Lib.hid hz3
    have HB3 := Lib.hid hb3
    have HGN : Hid (gN < w3.heap.size) := by show _ < _; omega
    clear hz3 hb3
    go_wp2
    clear hgR hgP hgN hw3
    go_loopw [21] (fun i wr => ∃ (k : Nat) (P : Option Addr) (p : Nat) (N : Option Addr) (q : Nat), k ≤ 371 ∧ i = .int .i64 k ∧ Hid (Has wr gP #[.slice P (YP k).length p]) ∧ Hid (Has wr gN #[.slice N (YN k).length q]) ∧ Hid (Two2 wr w3.heap.size P p (YP k) N q (YN k)) ∧ Hid (Kept (fun x => x < w3.heap.size ∧ x ≠ gP ∧ x ≠ gN) w3 wr)) (fun i _ => 371 - (intOf i).toNat)
    case atStart => exact ⟨0, none, 0, none, 0, Nat.zero_le _, rfl, by rw [HP0.out]; exact HP3.out, by rw [HN0.out]; exact HN3.out, by rw [HP0.out, HN0.out]; exact ⟨Row.nil _ _, Row.nil _ _, fun x y h => by cases h⟩, Kept.refl _ _⟩
    case round =>
      obtain ⟨k, P, p, N, q, hk, rfl, hHP, hHN, hT, hKp⟩ := hrel
      have hgl := HGN.out
      have hkz := hKp.out.size
      have HBR : Hid (Below w2.heap.size w2 wr) := by
        have h1 := hKp.out.below (B := w2.heap.size) (fun i hi => ⟨by omega, by omega, by omega⟩)
        exact ⟨h1.os.trans HB3.out.os, h1.tape.trans HB3.out.tape, h1.output.trans HB3.out.output, Nat.le_trans HB3.out.size h1.size, fun b hb => (h1.block b hb).trans (HB3.out.block b hb)⟩
      by_cases hlt : k < 371
      · have i1 : (k : Int) < 371 := by omega
        have i0 : (0 : Int) ≤ (k : Int) := by omega
        have hyl := HPL.out k
        have hyn := HNL.out k
        have hCr := HC3.out.kept (F := fun x => x < w3.heap.size ∧ x ≠ gP ∧ x ≠ gN) ⟨by omega, by omega, by omega⟩ hKp.out
        have hRr := HR3.out.kept (F := fun x => x < w3.heap.size ∧ x ≠ gP ∧ x ≠ gN) ⟨by omega, by omega, by omega⟩ hKp.out
        have CC := Lib.hid (put_day (k : Int) w.heap.size w2.heap.size gR gP gN s cs hmay D1 X.length c1 X D2 Y.length c2 Y P p (YP k) N q (YN k) w3.heap.size wr (HS2.out.below HBR.out) (HB2.out.below HBR.out) hCr hRr (HX2.out.below HBR.out) (HY2.out.below HBR.out) rfl rfl PX.out PY.out (by omega) (by omega) k1.out.1 k1.out.2 k2.out.1 k2.out.2 hHP.out hHN.out hT.out (by omega) (by omega) (by omega) hkz (by omega) (by omega))
        rw [← HPS.out, ← HNS.out] at CC
        clear hCr hRr hHP hHN hT HBR
        go_wp2_with fail
        refine CC.out.mono ?_
        rintro e w5 ⟨rfl, P5, p5, N5, q5, hP5, hN5, hT5, hKp5⟩
        replace hKp5 := Lib.hid (hKp.out.on hKp5)
        replace hP5 := Lib.hid hP5
        replace hN5 := Lib.hid hN5
        replace hT5 := Lib.hid hT5
        clear CC hKp
        go_wp2
        go_roundw
        case rel => exact ⟨k + 1, P5, p5, N5, q5, by omega, by go_num, hP5, hN5, hT5, hKp5⟩
        case measure => simp [intOf]; omega
      · obtain rfl : k = 371 := by omega
        have HWR := Lib.hid (bel_on HW2.out HBR.out)
        have hyl := HPL.out 371
        have hyn := HNL.out 371
        have HSP := Lib.hid (hT.out.a.spans (HPF.out 371))
        have HSN := Lib.hid (hT.out.b.spans (HNF.out 371))
        have HNP := Lib.hid (fun W P p (hW : Spans W P (YP 371)) => HPA.out ▸ norm_any P p (YP 371) W hW (by omega))
        have HNN := Lib.hid (fun W N q (hW : Spans W N (YN 371)) => HNA.out ▸ norm_any N q (YN 371) W hW (by omega))
        clear hT hKp HBR
        go_wp2_with fail
        refine wp_region_noPanic ?_
        refine wp_region_held_drew (S := fun w' => Below wr.heap.size wr w') (by kernel_rfl) (below_drew (Below.refl _ _)) (fun hHeld => ?_)
        refine wpAnyH_take (i := 0) (oi := ⟨some 28, _, _, _, _, _⟩) (v := .slice P (YP 371).length p) rfl (by kernel_rfl) (by kernel_rfl) (by kernel_rfl) (fun _ _ _ h => h) (Or.inl ⟨by rfl, ?_⟩) hHeld ?_
        · intro ww hSw
          (try dsimp only at hSw)
          have qc := (hHP.out.below hSw).cell 0 rfl
          have qz := cell_lt qc
          go_simp
        simp only [Act.put, List.setIfInBounds_toArray, List.set_cons_zero, List.set_cons_succ]
        refine wpAnyH_take (i := 2) (oi := ⟨some 30, _, _, _, _, _⟩) (v := .slice N (YN 371).length q) rfl (by kernel_rfl) (by kernel_rfl) (by kernel_rfl) (fun _ _ _ h => h) (Or.inl ⟨by rfl, ?_⟩) hHeld ?_
        · intro ww hSw
          (try dsimp only at hSw)
          have qc := (hHN.out.below hSw).cell 0 rfl
          have qz := cell_lt qc
          go_simp
        simp only [Act.put, List.setIfInBounds_toArray, List.set_cons_zero, List.set_cons_succ]
        refine wpAnyH_ready (rs := [1]) (by kernel_rfl) (by simp) ?_
        refine AllReadyH.cons (o := ⟨some 29, _, _, _, _, _⟩) rfl (fun K hK => ?_) AllReadyH.nil
        go_simp
        go_at_call 17
        refine (HNP.out _ P p (HSP.out.below (below_drew (Below.refl _ _)))).mono ?_
        rintro e_r w6 ⟨A6, c6, rfl, r6, hbn⟩
        have HR6 := Lib.hid (r6.mono (show wr.heap.size ≤ wr.drew.heap.size from Nat.le_refl _))
        clear r6
        have hbw6 : Below wr.heap.size wr w6 := bel_on (show Below wr.heap.size wr _ by (repeat' (first | with_reducible exact Below.refl _ _ | with_reducible assumption | with_reducible refine bel_alloc ?_ _ | with_reducible refine bel_set ?_ ?_ _ | with_reducible refine below_drewN ?_ _ | with_reducible refine below_drew ?_ | (simp; done) | (simp; omega) | omega))) hbn
        clear hbn
        go_wp2_with fail
        refine hK.out _ _ ?_ (fun hHeld => ?_)
        · (try dsimp only)
          exact hbw6
        clear hK K
        (try simp only [Act.put, List.setIfInBounds_toArray, List.set_cons_zero, List.set_cons_succ])
        refine wpAnyH_ready (rs := [3]) (by kernel_rfl) (by simp) ?_
        refine AllReadyH.cons (o := ⟨some 31, _, _, _, _, _⟩) rfl (fun K hK => ?_) AllReadyH.nil
        go_simp
        go_at_call 17
        refine (HNN.out _ N q (HSN.out.below hbw6)).mono ?_
        rintro e_r w7 ⟨A7, c7, rfl, r7, hbn⟩
        have HR7 := Lib.hid (r7.mono (show wr.heap.size ≤ w6.heap.size from hbw6.size))
        have HR6b := Lib.hid (HR6.out.below hbn)
        clear r7
        have hbw7 : Below wr.heap.size wr w7 := bel_on (show Below wr.heap.size wr _ by (repeat' (first | with_reducible exact Below.refl _ _ | with_reducible assumption | with_reducible refine bel_alloc ?_ _ | with_reducible refine bel_set ?_ ?_ _ | with_reducible refine below_drewN ?_ _ | with_reducible refine below_drew ?_ | (simp; done) | (simp; omega) | omega))) hbn
        clear hbn
        go_wp2_with fail
        refine hK.out _ _ ?_ (fun hHeld => ?_)
        · (try dsimp only)
          exact hbw7
        clear hK K
        (try simp only [Act.put, List.setIfInBounds_toArray, List.set_cons_zero, List.set_cons_succ])
        refine wpAnyH_take (i := 4) (oi := ⟨some 4, _, _, _, _, _⟩) (v := ?_) rfl (by kernel_rfl) (by kernel_rfl) (by kernel_rfl) (fun _ _ _ h => h) (Or.inl ⟨by rfl, ?_⟩) hHeld ?_
        rotate_left
        · intro ww hSw
          (try dsimp only at hSw)
          go_simp
          (try with_reducible rfl)
        simp only [Act.put, List.setIfInBounds_toArray, List.set_cons_zero, List.set_cons_succ]
        refine wpAnyH_take (i := 5) (oi := ⟨some 5, _, _, _, _, _⟩) (v := ?_) rfl (by kernel_rfl) (by kernel_rfl) (by kernel_rfl) (fun _ _ _ h => h) (Or.inl ⟨by rfl, ?_⟩) hHeld ?_
        rotate_left
        · intro ww hSw
          (try dsimp only at hSw)
          go_simp
          (try with_reducible rfl)
        simp only [Act.put, List.setIfInBounds_toArray, List.set_cons_zero, List.set_cons_succ]
        refine wpAnyH_done (by kernel_rfl) ?_ _
        refine NoPanic.normal ?_
        have HWE := Lib.hid (bel_on HWR.out hbw7)
        have HRA := Lib.hid (HR6b.out.mono (show w.heap.size ≤ wr.heap.size from HWR.out.size))
        have HRB := Lib.hid (HR7.out.mono (show w.heap.size ≤ wr.heap.size from HWR.out.size))
        go_wp2
        refine bodyPost_ret (v := .tuple #[.slice A6 PA.length c6, .slice A7 NA.length c7]) (by simp [results, Tryz.results20, go_sem]) rfl ⟨A6, c6, A7, c7, rfl, HRA.out, HRB.out, HWE.out⟩
end Go.Proofs.YtdlimgpmmkcgmaaGreat
