/-
  Package stream's kinds, flags, and the closure that tells a part.
  Package stream's Clock and Only: the seconds of parts.
-/
import Derived.Test.YtbijaaglmhoopaaZay
import Derived.Test.YtbijaaglmhoopaaZak
import Derived.Test.YtbijaaglmhoopaaZav
namespace Go.Proofs.Ytbijaaglmhoopaa
open Go.RowKit
set_option linter.unusedVariables false
set_option linter.unusedSimpArgs false
set_option maxRecDepth 20000

theorem wpList_min2s {P : Program} {ops : Array Oper} {rest : List Oper} {o : Oper} {a : Act} {w : World} {Q : Exit → Act → World → Prop} {x y : Operand} {ts : Array TypeId} (p q n : Int) (hn : min p q = n) (hgd : o.guard = none)
    (ho : o.op = .call { callee := .builtin .min, args := #[x, y], argTypes := ts }) (h1 : a.eval x = .int .i64 p) (h2 : a.eval y = .int .i64 q)
    (h : wpList P ops Q rest (a.put o.dst (.int .i64 n)) w) : wpList P ops Q (o :: rest) a w := by
  refine wpList_plain hgd fun K hK => ?_
  have e : (if q < p then q else p) = n := by
    subst hn
    split <;> omega
  unfold Oper.wp execOp
  simp only [ho, resolve, invoke, builtin, Sem.run_bind, Sem.run_pure, Result.andThen_ok, List.map_toArray, List.map_cons, List.map_nil, h1, h2, run_min_int2, e]
  exact hK _ _ h
theorem has_load_e {w : World} {b : Nat} {e : EvP} (h : Has w b (evC e)) : (loadVar 39 ⟨b, 0, none⟩).run Try.prog w = .ok (.agg (evC e)) w :=
  run_loadVar_at fun j hj => by
    obtain ⟨t, h⟩ := h
    rw [Nat.zero_add]
    exact cell_of_row w b j (evC e) t (0, 0) h
theorem kindBy_any (e : EvP) (w : World) : Calls Try.prog 60 #[.agg (evC e)] w fun r w' => r = .returned (.int .i64 (kindP e.kd)) ∧ Below w.heap.size w w' := by
  have q3 := (Has.new w 39 (evC e) rfl).cell 3 (show (evC e)[3]? = some (.int .i64 e.kd) from rfl)
  have hb0 := bel_alloc (Below.refl w.heap.size w) (.cells (evC e) 39)
  have HZ := Lib.hid (evC_size e)
  obtain ⟨k, hk⟩ : ∃ k, e.kd = k := ⟨_, rfl⟩
  rw [hk] at q3 ⊢
  clear hk
  generalize evC e = ce at *
  unfold kindP
  by_cases k3 : k = 3
  · subst k3
    go_enter Try.func60, Try.ntmps60
    go_wp2
    go_ret
    exact ⟨rfl, hb0⟩
  · have k3' : (k == 3) = false := beq_eq_false_iff_ne.2 k3
    rw [if_neg k3]
    by_cases k4 : k = 4
    · subst k4
      go_enter Try.func60, Try.ntmps60
      go_wp2
      go_ret
      exact ⟨rfl, hb0⟩
    · have k4' : (k == 4) = false := beq_eq_false_iff_ne.2 k4
      rw [if_neg k4]
      by_cases k5 : k = 5
      · subst k5
        go_enter Try.func60, Try.ntmps60
        go_wp2
        go_ret
        exact ⟨rfl, hb0⟩
      · have k5' : (k == 5) = false := beq_eq_false_iff_ne.2 k5
        rw [if_neg k5]
        go_enter Try.func60, Try.ntmps60
        go_wp2
        go_ret
        exact ⟨rfl, hb0⟩
section
variable {w0 w : World} {g : Nat} {u cap : Int} {V : Value} {A C : Option Addr} {n c m d : Nat} {S : List SegP} {F : List FlagP}
/-- What a flag more leaves. -/
def GotFlag (w0 w w' : World) (g : Nat) (u cap : Int) (V : Value) (A : Option Addr) (n c : Nat) (S : List SegP) (C : Option Addr) (m : Nat) (F' : List FlagP) : Prop :=
  ∃ C' d', Wat w0 w' g u cap V A n c S C' (m + 1) d' F' ∧ Mv w0.heap.size (OnB C) w w' ∧ Moved w C C'
/-- What a part more leaves. -/
def GotSeg (w0 w w' : World) (g : Nat) (u cap : Int) (V : Value) (A : Option Addr) (S' : List SegP) (C : Option Addr) (m d : Nat) (F : List FlagP) (bf : Nat) (z : Int) : Prop :=
  ∃ A' n' c', Wat w0 w' g u cap V A' n' c' S' C m d F ∧ Has w' bf #[.int .i64 z] ∧ Mv w0.heap.size (fun b => b = bf ∨ OnB A b) w w' ∧ Moved w A A'
theorem wflag_any (h : Wat w0 w g u cap V A n c S C m d F) (id kd : Int) (hm : m ≤ 1000) :
    Calls Try.prog 38 #[.pointer (some ⟨g, 0, none⟩), .int .i64 id, .int .i64 kd] w fun e w' => e = .returned (.tuple #[]) ∧ GotFlag w0 w w' g u cap V A n c S C m (F ++ [⟨id, kd⟩]) := by
  obtain ⟨C', d', w5, hr5, hh5, hw5, hm5, hv5⟩ := h.flag ⟨id, kd⟩ hm rfl
  have HR5 := Lib.hid hr5
  have HEND := Lib.hid (And.intro hw5 (And.intro hm5 hv5))
  have q4 := h.h.cell 4 rfl
  have z4 := cell_lt q4
  have p4 := hh5.cell 4 rfl
  have f4 := hh5.frozen 4
  have y4 := cell_lt p4
  clear h hr5 hh5 hw5 hm5 hv5
  go_enter Try.func38, Try.ntmps38
  go_wp2_with (at_builtin; refine wpList_append_run (o := ⟨some 15, _, _, _, _, _⟩) HR5.out rfl rfl rfl rfl ?_)
  go_end0
  exact ⟨rfl, C', d', HEND.out⟩
/-- A block of the call's own, that none of the rows lies in. -/
def Lc (w0 : World) (A : Option Addr) (p : Nat) : Prop := w0.heap.size ≤ p ∧ Off A p
theorem Wat.other (h : Wat w0 w g u cap V A n c S C m d F) {p : Nat} (hp : Lc w0 A p) (hc : Off C p) (i : Nat) (v : Value) : Wat w0 (w.setCell ⟨p, i, none⟩ v) g u cap V A n c S C m d F := by
  have hgB := h.gB
  have hp1 := hp.1
  exact ⟨hgB, h.h.far (show g ≠ p by omega) v, h.hn, h.hm, h.a.far (fun x hx => hp.2 x hx) v, h.b.far (fun x hx => hc x hx) v, h.ne, kept_put h.k (p := ⟨p, i, none⟩) (fun q => by have := q.1; simp only at this; omega) v⟩
set_option maxHeartbeats 4000000 in
theorem upto_yes (h : Wat w0 w g u cap V A n c S C m d F) (bt bf bw be : Nat) (tz fr nx y : Int) (e : EvP) (h1 : Has w bt #[.int .i64 tz]) (h2 : Has w bf #[.int .i64 fr]) (h3 : Has w bw #[.pointer (some ⟨g, 0, none⟩)]) (h4 : Has w be (evC e))
    (l2 : Lc w0 A bf) (l3 : Lc w0 A bw) (l4 : Lc w0 A be) (lc : Off C bf) (hn : n ≤ 1000) (hy : min nx tz = y) (hlt : fr < y) :
    Calls Try.prog 59 #[.int .i64 nx, .pointer (some ⟨bt, 0, none⟩), .pointer (some ⟨bf, 0, none⟩), .pointer (some ⟨bw, 0, none⟩), .pointer (some ⟨be, 0, none⟩)] w fun r w' => r = .returned (.tuple #[]) ∧
      GotSeg w0 w w' g u cap V A (S ++ [⟨fr, y, kindP e.kd, e.id, e.cd⟩]) C m d F bf y := by
  have HW := Lib.hid h
  have H2 := Lib.hid h2
  have H3 := Lib.hid h3
  have H4 := Lib.hid h4
  have L2 := Lib.hid l2
  have L3 := Lib.hid l3
  have L4 := Lib.hid l4
  have LC := Lib.hid lc
  have HY := Lib.hid hy
  have HK := Lib.hid (fun W => kindBy_any e W)
  have q1 := h1.cell 0 rfl
  have q1z := cell_lt q1
  have q2 := h2.cell 0 rfl
  have q2z := cell_lt q2
  have mixed : Try.prog.follows Departure.mixedOrders = true := by kernel_rfl
  clear h h1 h2 h3 h4 l2 l3 l4 lc hy
  go_enter Try.func59, Try.ntmps59
  go_wp2_with (refine wpList_min2s _ _ y HY.out rfl rfl rfl rfl ?_)
  refine wp_region_noPanic ?_
  refine wp_region_last (S := fun w' => Has w' bf #[.int .i64 fr] ∧ Has w' bw #[.pointer (some ⟨g, 0, none⟩)] ∧ Has w' be (evC e) ∧ Has w' g #[.int .i64 u, .int .i64 cap, V, .slice A n c, .slice C m d]) 18 (by kernel_rfl) (⟨H2.out.drew, H3.out.drew, H4.out.drew, HW.out.drew.h⟩) (fun hHeld => ?_)
  refine wpAnyK_take (i := 0) (oi := ⟨some 12, _, _, _, _, _⟩) (v := .pointer (some ⟨g, 0, none⟩)) rfl (by kernel_rfl) (by kernel_rfl) (by kernel_rfl) (by kernel_rfl) (fun _ _ _ h => h) (Or.inl ⟨by rfl, ?_⟩) hHeld ?_
  · intro ww hSw
    have q := hSw.2.1.cell 0 rfl
    have qz := cell_lt q
    go_simp
  simp only [Act.put, List.setIfInBounds_toArray, List.set_cons_zero, List.set_cons_succ]
  refine wpAnyK_take (i := 1) (oi := ⟨some 13, _, _, _, _, _⟩) (v := .pointer (some ⟨g, 0, none⟩)) rfl (by kernel_rfl) (by kernel_rfl) (by kernel_rfl) (by kernel_rfl) (fun _ _ _ h => h) (Or.inl ⟨by rfl, ?_⟩) hHeld ?_
  · intro ww hSw
    have q := hSw.2.1.cell 0 rfl
    have qz := cell_lt q
    go_simp
  simp only [Act.put, List.setIfInBounds_toArray, List.set_cons_zero, List.set_cons_succ]
  refine wpAnyK_take (i := 2) (oi := ⟨some 14, _, _, _, _, _⟩) (v := ?_) rfl (by kernel_rfl) (by kernel_rfl) (by kernel_rfl) (by kernel_rfl) (fun _ _ _ h => h) (Or.inl ⟨by rfl, ?_⟩) hHeld ?_
  rotate_left
  · intro ww hSw
    (try dsimp only at hSw)
    go_simp
    (try with_reducible rfl)
  simp only [Act.put, List.setIfInBounds_toArray, List.set_cons_zero, List.set_cons_succ]
  refine wpAnyK_take (i := 3) (oi := ⟨some 15, _, _, _, _, _⟩) (v := ?_) rfl (by kernel_rfl) (by kernel_rfl) (by kernel_rfl) (by kernel_rfl) (fun _ _ _ h => h) (Or.inl ⟨by rfl, ?_⟩) hHeld ?_
  rotate_left
  · intro ww hSw
    (try dsimp only at hSw)
    go_simp
    (try with_reducible rfl)
  simp only [Act.put, List.setIfInBounds_toArray, List.set_cons_zero, List.set_cons_succ]
  refine wpAnyK_take (i := 4) (oi := ⟨some 16, _, _, _, _, _⟩) (v := .slice A n c) rfl (by kernel_rfl) (by kernel_rfl) (by kernel_rfl) (by kernel_rfl) (fun _ _ _ h => h) (Or.inl ⟨by rfl, ?_⟩) hHeld ?_
  · intro ww hSw
    have q := hSw.2.2.2.cell 3 rfl
    have qz := cell_lt q
    go_simp
  simp only [Act.put, List.setIfInBounds_toArray, List.set_cons_zero, List.set_cons_succ]
  refine wpAnyK_take (i := 5) (oi := ⟨some 17, _, _, _, _, _⟩) (v := .int .i64 fr) rfl (by kernel_rfl) (by kernel_rfl) (by kernel_rfl) (by kernel_rfl) (fun _ _ _ h => h) (Or.inl ⟨by rfl, ?_⟩) hHeld ?_
  · intro ww hSw
    have q := hSw.1.cell 0 rfl
    have qz := cell_lt q
    go_simp
  simp only [Act.put, List.setIfInBounds_toArray, List.set_cons_zero, List.set_cons_succ]
  refine wpAnyK_take (i := 6) (oi := ⟨some 18, _, _, _, _, _⟩) (v := ?_) rfl (by kernel_rfl) (by kernel_rfl) (by kernel_rfl) (by kernel_rfl) (fun _ _ _ h => h) (Or.inl ⟨by rfl, ?_⟩) hHeld ?_
  rotate_left
  · intro ww hSw
    (try dsimp only at hSw)
    go_simp
    (try with_reducible rfl)
  simp only [Act.put, List.setIfInBounds_toArray, List.set_cons_zero, List.set_cons_succ]
  refine wpAnyK_take (i := 7) (oi := ⟨some 19, _, _, _, _, _⟩) (v := .agg (evC e)) rfl (by kernel_rfl) (by kernel_rfl) (by kernel_rfl) (by kernel_rfl) (fun _ _ _ h => h) (Or.inl ⟨by rfl, ?_⟩) hHeld ?_
  · intro ww hSw
    exact exec_load_at _ rfl rfl (has_load_e hSw.2.2.1)
  simp only [Act.put, List.setIfInBounds_toArray, List.set_cons_zero, List.set_cons_succ]
  refine wpAnyK_take (i := 9) (oi := ⟨some 21, _, _, _, _, _⟩) (v := ?_) rfl (by kernel_rfl) (by kernel_rfl) (by kernel_rfl) (by kernel_rfl) (fun _ _ _ h => h) (Or.inl ⟨by rfl, ?_⟩) hHeld ?_
  rotate_left
  · intro ww hSw
    (try dsimp only at hSw)
    go_simp
    (try with_reducible rfl)
  simp only [Act.put, List.setIfInBounds_toArray, List.set_cons_zero, List.set_cons_succ]
  refine wpAnyK_take (i := 10) (oi := ⟨some 22, _, _, _, _, _⟩) (v := .int .i64 e.id) rfl (by kernel_rfl) (by kernel_rfl) (by kernel_rfl) (by kernel_rfl) (fun _ _ _ h => h) (Or.inl ⟨by rfl, ?_⟩) hHeld ?_
  · intro ww hSw
    have q := hSw.2.2.1.cell 0 (show (evC e)[0]? = some (.int .i64 e.id) from rfl)
    have qz := cell_lt q
    go_simp
  simp only [Act.put, List.setIfInBounds_toArray, List.set_cons_zero, List.set_cons_succ]
  refine wpAnyK_take (i := 11) (oi := ⟨some 23, _, _, _, _, _⟩) (v := ?_) rfl (by kernel_rfl) (by kernel_rfl) (by kernel_rfl) (by kernel_rfl) (fun _ _ _ h => h) (Or.inl ⟨by rfl, ?_⟩) hHeld ?_
  rotate_left
  · intro ww hSw
    (try dsimp only at hSw)
    go_simp
    (try with_reducible rfl)
  simp only [Act.put, List.setIfInBounds_toArray, List.set_cons_zero, List.set_cons_succ]
  refine wpAnyK_take (i := 12) (oi := ⟨some 24, _, _, _, _, _⟩) (v := .int .i64 e.cd) rfl (by kernel_rfl) (by kernel_rfl) (by kernel_rfl) (by kernel_rfl) (fun _ _ _ h => h) (Or.inl ⟨by rfl, ?_⟩) hHeld ?_
  · intro ww hSw
    have q := hSw.2.2.1.cell 10 (show (evC e)[10]? = some (.int .i64 e.cd) from rfl)
    have qz := cell_lt q
    go_simp
  simp only [Act.put, List.setIfInBounds_toArray, List.set_cons_zero, List.set_cons_succ]
  refine wpAnyK_up (i := 8) (o := ⟨some 20, _, _, _, _, _⟩) (by kernel_rfl) rfl (fun K hK => ?_)
  go_simp
  go_at_call 60
  refine (HK.out _).mono ?_
  rintro e_r w5 ⟨rfl, hb5⟩
  have HW5 := Lib.hid (HW.out.drew.below hb5)
  have HB5 := Lib.hid hb5
  clear hb5
  go_wp2_with fail
  refine hK.out _ _ (fun _ => ?_) (fun hHeld => ?_)
  · exact ⟨hHeld.1.below HB5.out, hHeld.2.1.below HB5.out, hHeld.2.2.1.below HB5.out, HW5.out.h⟩
  replace hHeld := hHeld (by decide)
  clear hK K
  (try simp only [Act.put, List.setIfInBounds_toArray, List.set_cons_zero, List.set_cons_succ])
  refine wpAnyK_take (i := 13) (oi := ⟨some 25, _, _, _, _, _⟩) (v := ?_) rfl (by kernel_rfl) (by kernel_rfl) (by kernel_rfl) (by kernel_rfl) (fun _ _ _ h => h) (Or.inl ⟨by rfl, ?_⟩) hHeld ?_
  rotate_left
  · intro ww hSw
    (try dsimp only at hSw)
    go_simp
    (try with_reducible rfl)
  simp only [Act.put, List.setIfInBounds_toArray, List.set_cons_zero, List.set_cons_succ]
  obtain ⟨A9, c9, w9, hr9, hh9, hw9, hm9, hv9⟩ := HW5.out.seg ⟨fr, y, kindP e.kd, e.id, e.cd⟩ hn rfl
  have HR9 := Lib.hid hr9
  have HH9 := Lib.hid hh9
  have HW9 := Lib.hid hw9
  have HM9 := Lib.hid hm9
  have HV9 := Lib.hid hv9
  clear hr9 hh9 hw9 hm9 hv9
  refine wpAnyK_up (i := 14) (o := ⟨some 26, _, _, _, _, _⟩) (by kernel_rfl) rfl (fun K hK => ?_)
  go_simp
  refine hK.out _ _ (fun _ => ?_) (fun hHeld => ?_)
  · exact ⟨hHeld.1.alloc _, hHeld.2.1.alloc _, hHeld.2.2.1.alloc _, HW5.out.h.alloc _⟩
  replace hHeld := hHeld (by decide)
  clear hK K
  (try simp only [Act.put, List.setIfInBounds_toArray, List.set_cons_zero, List.set_cons_succ])
  refine wpAnyK_up (i := 15) (o := ⟨some 27, _, _, _, _, _⟩) (by kernel_rfl) rfl (fun K hK => ?_)
  show if Region.wanted _ _ = true then _ else _
  rw [if_pos (by rfl)]
  refine wp_append_run8 (K := K) HR9.out rfl rfl rfl ?_
  refine hK.out _ _ (fun _ => ?_) (fun hHeld => ?_)
  · exact ⟨H2.out.drew.below HB5.out |>.mv HM9.out L2.out.1 (fun ⟨a, ha, q⟩ => L2.out.2 a ha q), H3.out.drew.below HB5.out |>.mv HM9.out L3.out.1 (fun ⟨a, ha, q⟩ => L3.out.2 a ha q), H4.out.drew.below HB5.out |>.mv HM9.out L4.out.1 (fun ⟨a, ha, q⟩ => L4.out.2 a ha q), HH9.out⟩
  replace hHeld := hHeld (by decide)
  clear hK K
  (try simp only [Act.put, List.setIfInBounds_toArray, List.set_cons_zero, List.set_cons_succ])
  refine wpAnyK_up (i := 16) (o := ⟨some 28, _, _, _, _, _⟩) (by kernel_rfl) rfl (fun K hK => ?_)
  go_simp
  refine hK.out _ _ (fun _ => ?_) (fun hHeld => ?_)
  · exact hHeld
  replace hHeld := hHeld (by decide)
  clear hK K
  (try simp only [Act.put, List.setIfInBounds_toArray, List.set_cons_zero, List.set_cons_succ])
  refine wpAnyK_take (i := 17) (oi := ⟨some 29, _, _, _, _, _⟩) (v := ?_) rfl (by kernel_rfl) (by kernel_rfl) (by kernel_rfl) (by kernel_rfl) (fun _ _ _ h => h) (Or.inl ⟨by rfl, ?_⟩) hHeld ?_
  rotate_left
  · intro ww hSw
    (try dsimp only at hSw)
    go_simp
    (try with_reducible rfl)
  simp only [Act.put, List.setIfInBounds_toArray, List.set_cons_zero, List.set_cons_succ]
  refine wpAnyK_up (i := 18) (o := ⟨none, _, _, _, _, _⟩) (by kernel_rfl) rfl (fun K hK => ?_)
  have qs := HH9.out.cell 3 rfl
  have qf := HH9.out.frozen 3
  have qz := cell_lt qs
  go_simp
  refine hK.out _ _ (fun h => absurd rfl h) (fun _ => ?_)
  clear hK K
  (try simp only [Act.put, List.setIfInBounds_toArray, List.set_cons_zero, List.set_cons_succ])
  refine wpAnyK_done (by kernel_rfl) ?_ _
  refine NoPanic.normal ?_
  have hq2 := HH9.out
  obtain ⟨A', rfl⟩ : ∃ A', A9 = A' := ⟨_, rfl⟩
  have hF : Has w9 bf #[.int .i64 fr] := H2.out.drew.below HB5.out |>.mv HM9.out L2.out.1 (fun ⟨a, ha, q⟩ => L2.out.2 a ha q)
  have hgb : g < w0.heap.size := HW.out.gB
  have hF9 : Has (w9.setCell ⟨g, 3, none⟩ (.slice A9 (n + 1) c9)) bf #[.int .i64 fr] := hF.far (show bf ≠ g by have := L2.out.1; omega) _
  have qq := hF9.cell 0 rfl
  have qg := hF9.frozen 0
  have qz := cell_lt qq
  have hO : Off A9 bf := L2.out.2.moved HV9.out (H2.out.drew.below HB5.out).size
  have HEND : Hid (Wat w0 ((w9.setCell ⟨g, 3, none⟩ (.slice A9 (n + 1) c9)).setCell ⟨bf, 0, none⟩ (.int .i64 y)) g u cap V A9 (n + 1) c9 (S ++ [⟨fr, y, kindP e.kd, e.id, e.cd⟩]) C m d F ∧ Has ((w9.setCell ⟨g, 3, none⟩ (.slice A9 (n + 1) c9)).setCell ⟨bf, 0, none⟩ (.int .i64 y)) bf #[.int .i64 y] ∧
      Mv w0.heap.size (fun b => b = bf ∨ OnB A b) w ((w9.setCell ⟨g, 3, none⟩ (.slice A9 (n + 1) c9)).setCell ⟨bf, 0, none⟩ (.int .i64 y)) ∧ Moved w A A9) := by
    refine ⟨HW9.out.other ⟨L2.out.1, hO⟩ LC.out 0 _, hF9.set 0 _, ?_, ?_⟩
    · have k1 : Mv w0.heap.size (fun b => b = bf ∨ OnB A b) w w5 := Mv.of_below (bel_on (below_drew (Below.refl _ _)) HB5.out)
      exact ((k1.on (HM9.out.less fun b q => .inr q)).set (.inl hgb) _).set (.inr (.inl (.inl rfl))) _
    · intro b hb
      rcases HV9.out b hb with q | q
      · exact .inl q
      · refine .inr (Nat.le_trans ?_ q)
        exact (bel_on (below_drew (Below.refl w.heap.size w)) HB5.out).size
  clear hq2 hF hF9 hO
  go_wp2
  go_end0
  exact ⟨rfl, _, _, _, HEND.out⟩
theorem upto_no (h : Wat w0 w g u cap V A n c S C m d F) (bt bf bw be : Nat) (tz fr nx y : Int) (e : EvP) (h1 : Has w bt #[.int .i64 tz]) (h2 : Has w bf #[.int .i64 fr]) (hy : min nx tz = y) (hlt : ¬ fr < y) :
    Calls Try.prog 59 #[.int .i64 nx, .pointer (some ⟨bt, 0, none⟩), .pointer (some ⟨bf, 0, none⟩), .pointer (some ⟨bw, 0, none⟩), .pointer (some ⟨be, 0, none⟩)] w fun r w' => r = .returned (.tuple #[]) ∧ w = w' := by
  have q1 := h1.cell 0 rfl
  have q1z := cell_lt q1
  have q2 := h2.cell 0 rfl
  have q2z := cell_lt q2
  have HY := Lib.hid hy
  clear h h1 h2 hy
  go_enter Try.func59, Try.ntmps59
  go_wp2_with (refine wpList_min2s _ _ y HY.out rfl rfl rfl rfl ?_)
  go_end0
  exact ⟨rfl, rfl⟩
/-- The closure: a part up to a place, if it has seconds. -/
theorem upto_any (h : Wat w0 w g u cap V A n c S C m d F) (bt bf bw be : Nat) (tz fr nx y : Int) (e : EvP) (h1 : Has w bt #[.int .i64 tz]) (h2 : Has w bf #[.int .i64 fr]) (h3 : Has w bw #[.pointer (some ⟨g, 0, none⟩)]) (h4 : Has w be (evC e))
    (l2 : Lc w0 A bf) (l3 : Lc w0 A bw) (l4 : Lc w0 A be) (lc : Off C bf) (hn : n ≤ 1000) (hy : min nx tz = y) (z : Int) (hz : max fr y = z) :
    Calls Try.prog 59 #[.int .i64 nx, .pointer (some ⟨bt, 0, none⟩), .pointer (some ⟨bf, 0, none⟩), .pointer (some ⟨bw, 0, none⟩), .pointer (some ⟨be, 0, none⟩)] w fun r w' => r = .returned (.tuple #[]) ∧
      GotSeg w0 w w' g u cap V A (S ++ segI fr y e) C m d F bf z := by
  by_cases hlt : fr < y
  · obtain rfl : y = z := by omega
    refine (upto_yes h bt bf bw be tz fr nx y e h1 h2 h3 h4 l2 l3 l4 lc hn hy hlt).mono ?_
    rintro r w' ⟨rfl, A', n', c', q1, q2, q3, q4⟩
    exact ⟨rfl, A', n', c', by unfold segI; rw [if_pos hlt]; exact q1, q2, q3, q4⟩
  · obtain rfl : fr = z := by omega
    refine (upto_no h bt bf bw be tz fr nx y e h1 h2 hy hlt).mono ?_
    rintro r w' ⟨rfl, rfl⟩
    exact ⟨rfl, A, n, c, by unfold segI; rw [if_neg hlt, List.append_nil]; exact h, h2, Mv.refl _ _ _, Moved.refl _ _⟩
end
end Go.Proofs.Ytbijaaglmhoopaa

namespace Go.Proofs.Ytbijaaglmhoopaa
open Go.RowKit
set_option linter.unusedVariables false
set_option linter.unusedSimpArgs false
set_option maxRecDepth 20000

theorem clock1_any (x : SegP) (w : World) : Calls Try.prog 28 #[.agg #[.int .i64 x.fr, .int .i64 x.to, .int .i64 x.kd, .int .i64 x.id, .int .i64 x.cd]] w fun e w' => e = .returned (.bool true) ∧ Below w.heap.size w w' := by
  have hb0 := bel_alloc (Below.refl w.heap.size w) (.cells #[.int .i64 x.fr, .int .i64 x.to, .int .i64 x.kd, .int .i64 x.id, .int .i64 x.cd] 41)
  go_enter Try.func28, Try.ntmps28
  go_wp2
  go_ret
  exact ⟨rfl, hb0⟩
theorem only1_any (x : SegP) (w : World) (bk : Nat) (kd : Int) (hk : Has w bk #[.int .i64 kd]) (b : Bool) (hb : ofKind kd x = b) :
    Calls Try.prog 29 #[.agg #[.int .i64 x.fr, .int .i64 x.to, .int .i64 x.kd, .int .i64 x.id, .int .i64 x.cd], .pointer (some ⟨bk, 0, none⟩)] w fun e w' => e = .returned (.bool b) ∧ Below w.heap.size w w' := by
  have hb0 := bel_alloc (Below.refl w.heap.size w) (.cells #[.int .i64 x.fr, .int .i64 x.to, .int .i64 x.kd, .int .i64 x.id, .int .i64 x.cd] 41)
  have qk := hk.cell 0 rfl
  have zk := cell_lt qk
  have e : (x.kd == kd) = b := by rw [← hb]; unfold ofKind; exact Bool.eq_iff_iff.2 (by simp)
  go_enter Try.func29, Try.ntmps29
  go_wp2
  go_ret
  exact ⟨by first | rfl | simp [e], by first | exact hb0 | (repeat' (first | with_reducible exact Below.refl _ _ | with_reducible assumption | with_reducible refine bel_alloc ?_ _ | with_reducible refine bel_set ?_ ?_ _ | with_reducible refine below_drewN ?_ _ | with_reducible refine below_drew ?_ | (simp; done) | (simp; omega) | omega))⟩
theorem filter_true (l : List SegP) : l.filter (fun _ => true) = l := List.filter_eq_self.2 fun _ _ => rfl
set_option maxHeartbeats 8000000 in
theorem secs_clock (A : Option Addr) (n c : Nat) (l : List SegP) (w : World) (h : Segs w A n c l) (hn : n ≤ 100000) (hF : ∀ s ∈ l, Fit s.fr ∧ Fit s.to) :
    Calls Try.prog 27 #[.slice A n c, .func (.func 28) #[] #[]] w (Gives w (clockP (l.filter (fun _ => true)))) := by
  have hlen := h.2
  have HL := Lib.hid h
  have HCK := Lib.hid (clock_spans (l.filter (fun _ => true)))
  have HFT : Hid (Fits ((l.filter (fun _ => true)).map spanOf)) := fun y hy => by obtain ⟨s, hs, rfl⟩ := List.mem_map.1 hy; exact hF s (List.mem_filter.1 hs).1
  have eg : ∀ args w, (callFunc 28 args).run Try.prog w = .ok (.enter 28 args) w := enters_of Try.func28 (by kernel_rfl) rfl
  have HC1 := Lib.hid (fun x W => clock1_any x W)
  clear h hF
  go_enter Try.func27, Try.ntmps27
  go_wp2
  go_loopg [5, 10] n (fun kx s5 s10 wr => ∃ (k q d : Nat) (B : Option Addr), s5 = .slice B q d ∧ s10 = .int .i64 k ∧ k + kx = n ∧ q ≤ k ∧ Hid ((((l.take k).filter (fun _ => true)).map spanOf).length = q) ∧ Hid (Row wr w.heap.size B d (((l.take k).filter (fun _ => true)).map spanOf)) ∧ Hid (Below w.heap.size w wr))
  case atStart => exact ⟨0, 0, 0, none, rfl, rfl, by omega, by omega, Lib.hid (by simp), Lib.hid (by rw [List.take_zero]; exact Row.nil _ _), Lib.hid (Below.refl _ _)⟩
  case round =>
    obtain ⟨k, q, d, B, rfl, rfl, hk, hqk, HQ, HR, HW⟩ := hrel
    by_cases hlt : k < n
    · have HLr := Lib.hid (HL.out.below HW.out)
      obtain ⟨ba, oa, rfl⟩ := HLr.out.form (by omega)
      obtain ⟨x, hx⟩ : ∃ x, l.getD k SegP.none = x := ⟨_, rfl⟩
      obtain ⟨z0, z1, z2, z3, z4⟩ := segs_num HLr.out hlt x hx
      have zl := cell_lt z0
      have HKF := Lib.hid (kind_filter (fun _ => true) l k (by omega))
      rw [hx] at HKF
      have i0 : (0 : Int) ≤ (k : Int) := by omega
      have i1 : (k : Int) < (n : Int) := by omega
      have hba := bel_alloc (Below.refl wr.heap.size wr) (.cells #[.int .i64 x.fr, .int .i64 x.to, .int .i64 x.kd, .int .i64 x.id, .int .i64 x.cd] 41)
      have HXA : Hid (Has (wr.alloc (.cells #[.int .i64 x.fr, .int .i64 x.to, .int .i64 x.kd, .int .i64 x.id, .int .i64 x.cd] 41)) wr.heap.size #[.int .i64 x.fr, .int .i64 x.to, .int .i64 x.kd, .int .i64 x.id, .int .i64 x.cd]) := Has.new wr _ _ rfl
      have HWA := Lib.hid (bel_on HW.out hba)
      have HRA := Lib.hid (HR.out.alloc (.cells #[.int .i64 x.fr, .int .i64 x.to, .int .i64 x.kd, .int .i64 x.id, .int .i64 x.cd] 41))
      clear hx hba
      have HE1 : Hid (((l.take (k + 1)).filter (fun _ => true)).map spanOf = ((l.take k).filter (fun _ => true)).map spanOf ++ [(x.fr, x.to)]) := by show _ = _; rw [HKF.out, if_pos rfl, List.map_append]; rfl
      go_wp2_with fail
      refine (HC1.out x _).mono ?_
      rintro e_r w5 ⟨rfl, hb5⟩
      have HX5 := Lib.hid (HXA.out.below hb5)
      have HW5 := Lib.hid (bel_on HWA.out hb5)
      have HR5 := Lib.hid (HRA.out.below hb5)
      obtain ⟨A9, c9, w9, hr9, row9, bel9, -, -, -⟩ := row_push HR5.out x.fr x.to (by have := HQ.out; omega) HW5.out.size (s := w5.heap.size) rfl
      rw [HQ.out] at hr9
      have HR9 := Lib.hid hr9
      have HW9 := Lib.hid (bel9 w (Nat.le_refl _) HW5.out)
      have HRW9 := Lib.hid row9
      obtain ⟨bx, hbx⟩ : ∃ bx, Hid (wr.heap.size = bx) := ⟨_, rfl⟩
      rw [hbx.out] at HX5
      rw [hbx.out]
      have y0 := HX5.out.cell 0 rfl
      have y1 := HX5.out.cell 1 rfl
      have yl := cell_lt y0
      clear hr9 row9 bel9 hb5 hbx z0 z1 z2 z3 z4 zl
      go_wp2_with (first | (at_builtin; refine wpList_append_run (o := ⟨some 24, _, _, _, _, _⟩) HR9.out rfl rfl rfl rfl ?_))
      go_roundg (n - (k + 1))
      case measure => omega
      case rel => exact ⟨k + 1, q + 1, c9, A9, rfl, by go_num, by omega, by omega, Lib.hid (by rw [HE1.out, List.length_append, HQ.out]; rfl), Lib.hid (by rw [HE1.out]; exact HRW9.out), HW9⟩
    · obtain rfl : k = n := by omega
      have e : l.take k = l := List.take_of_length_le (by omega)
      rw [e] at HR HQ
      have C := norm_any B d ((l.filter (fun _ => true)).map spanOf) wr (HR.out.spans HFT.out) (by have := HQ.out; omega)
      rw [HCK.out, HQ.out] at C
      have HC := Lib.hid C
      clear C e
      go_wp2_with fail
      refine HC.out.mono ?_
      intro e w4 hg
      have HG := gives_bel hg HW.out rfl
      clear hg
      obtain ⟨D, d4, rfl, hr, hb⟩ := HG
      go_wp2
      go_ret
      exact ⟨D, d4, rfl, hr, hb⟩
set_option maxHeartbeats 8000000 in
theorem secs_only (A : Option Addr) (n c : Nat) (l : List SegP) (w : World) (h : Segs w A n c l) (hn : n ≤ 100000) (hF : ∀ s ∈ l, Fit s.fr ∧ Fit s.to) (bk : Nat) (kd : Int) (hk : Has w bk #[.int .i64 kd]) :
    Calls Try.prog 27 #[.slice A n c, .func (.func 29) #[] #[.pointer (some ⟨bk, 0, none⟩)]] w (Gives w (clockP (l.filter (ofKind kd)))) := by
  have hlen := h.2
  have HL := Lib.hid h
  have HCK := Lib.hid (clock_spans (l.filter (ofKind kd)))
  have HFT : Hid (Fits ((l.filter (ofKind kd)).map spanOf)) := fun y hy => by obtain ⟨s, hs, rfl⟩ := List.mem_map.1 hy; exact hF s (List.mem_filter.1 hs).1
  have eg : ∀ args w, (callFunc 29 args).run Try.prog w = .ok (.enter 29 args) w := enters_of Try.func29 (by kernel_rfl) rfl
  have HK := Lib.hid hk
  clear hk
  clear h hF
  go_enter Try.func27, Try.ntmps27
  go_wp2
  go_loopg [5, 10] n (fun kx s5 s10 wr => ∃ (k q d : Nat) (B : Option Addr), s5 = .slice B q d ∧ s10 = .int .i64 k ∧ k + kx = n ∧ q ≤ k ∧ Hid ((((l.take k).filter (ofKind kd)).map spanOf).length = q) ∧ Hid (Row wr w.heap.size B d (((l.take k).filter (ofKind kd)).map spanOf)) ∧ Hid (Below w.heap.size w wr))
  case atStart => exact ⟨0, 0, 0, none, rfl, rfl, by omega, by omega, Lib.hid (by simp), Lib.hid (by rw [List.take_zero]; exact Row.nil _ _), Lib.hid (Below.refl _ _)⟩
  case round =>
    obtain ⟨k, q, d, B, rfl, rfl, hk, hqk, HQ, HR, HW⟩ := hrel
    by_cases hlt : k < n
    · have HLr := Lib.hid (HL.out.below HW.out)
      obtain ⟨ba, oa, rfl⟩ := HLr.out.form (by omega)
      obtain ⟨x, hx⟩ : ∃ x, l.getD k SegP.none = x := ⟨_, rfl⟩
      obtain ⟨z0, z1, z2, z3, z4⟩ := segs_num HLr.out hlt x hx
      have zl := cell_lt z0
      have HKF := Lib.hid (kind_filter (ofKind kd) l k (by omega))
      rw [hx] at HKF
      have i0 : (0 : Int) ≤ (k : Int) := by omega
      have i1 : (k : Int) < (n : Int) := by omega
      have hba := bel_alloc (Below.refl wr.heap.size wr) (.cells #[.int .i64 x.fr, .int .i64 x.to, .int .i64 x.kd, .int .i64 x.id, .int .i64 x.cd] 41)
      have HXA : Hid (Has (wr.alloc (.cells #[.int .i64 x.fr, .int .i64 x.to, .int .i64 x.kd, .int .i64 x.id, .int .i64 x.cd] 41)) wr.heap.size #[.int .i64 x.fr, .int .i64 x.to, .int .i64 x.kd, .int .i64 x.id, .int .i64 x.cd]) := Has.new wr _ _ rfl
      have HWA := Lib.hid (bel_on HW.out hba)
      have HRA := Lib.hid (HR.out.alloc (.cells #[.int .i64 x.fr, .int .i64 x.to, .int .i64 x.kd, .int .i64 x.id, .int .i64 x.cd] 41))
      clear hx hba
      cases hof : ofKind kd x with
      | true =>
        have HOF := Lib.hid (only1_any x _ bk kd (HK.out.below HWA.out) true hof)
        have HE1 : Hid (((l.take (k + 1)).filter (ofKind kd)).map spanOf = ((l.take k).filter (ofKind kd)).map spanOf ++ [(x.fr, x.to)]) := by show _ = _; rw [HKF.out, if_pos hof, List.map_append]; rfl
        clear hof
        go_wp2_with fail
        refine (HOF.out).mono ?_
        rintro e_r w5 ⟨rfl, hb5⟩
        have HX5 := Lib.hid (HXA.out.below hb5)
        have HW5 := Lib.hid (bel_on HWA.out hb5)
        have HR5 := Lib.hid (HRA.out.below hb5)
        obtain ⟨A9, c9, w9, hr9, row9, bel9, -, -, -⟩ := row_push HR5.out x.fr x.to (by have := HQ.out; omega) HW5.out.size (s := w5.heap.size) rfl
        rw [HQ.out] at hr9
        have HR9 := Lib.hid hr9
        have HW9 := Lib.hid (bel9 w (Nat.le_refl _) HW5.out)
        have HRW9 := Lib.hid row9
        obtain ⟨bx, hbx⟩ : ∃ bx, Hid (wr.heap.size = bx) := ⟨_, rfl⟩
        rw [hbx.out] at HX5
        rw [hbx.out]
        have y0 := HX5.out.cell 0 rfl
        have y1 := HX5.out.cell 1 rfl
        have yl := cell_lt y0
        clear hr9 row9 bel9 hb5 hbx z0 z1 z2 z3 z4 zl
        go_wp2_with (first | (at_builtin; refine wpList_append_run (o := ⟨some 24, _, _, _, _, _⟩) HR9.out rfl rfl rfl rfl ?_))
        go_roundg (n - (k + 1))
        case measure => omega
        case rel => exact ⟨k + 1, q + 1, c9, A9, rfl, by go_num, by omega, by omega, Lib.hid (by rw [HE1.out, List.length_append, HQ.out]; rfl), Lib.hid (by rw [HE1.out]; exact HRW9.out), HW9⟩
      | false =>
        have HOF := Lib.hid (only1_any x _ bk kd (HK.out.below HWA.out) false hof)
        have HE1 : Hid (((l.take (k + 1)).filter (ofKind kd)).map spanOf = ((l.take k).filter (ofKind kd)).map spanOf) := by show _ = _; rw [HKF.out, if_neg (by rw [hof]; simp), List.append_nil]
        clear hof
        go_wp2_with fail
        refine (HOF.out).mono ?_
        rintro e_r w5 ⟨rfl, hb5⟩
        have HW5 := Lib.hid (bel_on HWA.out hb5)
        have HR5 := Lib.hid (HRA.out.below hb5)
        clear hb5 z0 z1 z2 z3 z4 zl
        go_wp2
        go_roundg (n - (k + 1))
        case measure => omega
        case rel => exact ⟨k + 1, q, d, B, rfl, by go_num, by omega, by omega, Lib.hid (by rw [HE1.out]; exact HQ.out), Lib.hid (by rw [HE1.out]; exact HR5.out), HW5⟩
    · obtain rfl : k = n := by omega
      have e : l.take k = l := List.take_of_length_le (by omega)
      rw [e] at HR HQ
      have C := norm_any B d ((l.filter (ofKind kd)).map spanOf) wr (HR.out.spans HFT.out) (by have := HQ.out; omega)
      rw [HCK.out, HQ.out] at C
      have HC := Lib.hid C
      clear C e
      go_wp2_with fail
      refine HC.out.mono ?_
      intro e w4 hg
      have HG := gives_bel hg HW.out rfl
      clear hg
      obtain ⟨D, d4, rfl, hr, hb⟩ := HG
      go_wp2
      go_ret
      exact ⟨D, d4, rfl, hr, hb⟩
theorem sclock_any (A : Option Addr) (n c : Nat) (l : List SegP) (w : World) (h : Segs w A n c l) (hn : n ≤ 100000) (hF : ∀ s ∈ l, Fit s.fr ∧ Fit s.to) :
    Calls Try.prog 13 #[.slice A n c] w (Gives w (clockP l)) := by
  have HC := Lib.hid (secs_clock A n c l w h hn hF)
  rw [filter_true] at HC
  clear h hF
  go_enter Try.func13, Try.ntmps13
  go_wp2_with fail
  refine HC.out.mono ?_
  rintro e w4 ⟨D, d, rfl, hr, hb⟩
  go_wp2
  go_ret
  exact ⟨D, d, rfl, hr, hb⟩
theorem sonly_any (A : Option Addr) (n c : Nat) (l : List SegP) (kd : Int) (w : World) (h : Segs w A n c l) (hn : n ≤ 1000) (hF : ∀ s ∈ l, Fit s.fr ∧ Fit s.to) :
    Calls Try.prog 14 #[.slice A n c, .int .i64 kd] w (Gives w (clockP (l.filter (ofKind kd)))) := by
  have hb0 := bel_alloc (Below.refl w.heap.size w) (.cells #[.int .i64 kd] 3)
  have HC := Lib.hid (secs_only A n c l _ (h.below hb0) (by omega) hF w.heap.size kd (Has.new w 3 _ rfl))
  have HB := Lib.hid hb0
  clear h hF hb0
  go_enter Try.func14, Try.ntmps14
  go_wp2_with fail
  refine HC.out.mono ?_
  intro e w4 hg
  have HG := gives_bel hg HB.out rfl
  clear hg
  obtain ⟨D, d, rfl, hr, hb⟩ := HG
  go_wp2
  go_ret
  exact ⟨D, d, rfl, hr, hb⟩
end Go.Proofs.Ytbijaaglmhoopaa
