/-
  The document's own answer of layer 12: the seconds of parts, of one kind; two lists that are the same.
  Package stream's Clock and Only: the seconds of parts.
  Which of a week's seconds are regular, overtime and double, as plain spans; what the laws say of them. No program here.
  An argument of type []api.Seg, opened.
-/
import Derived.Test.YtdlimgpmmkcgmaaGreatZao
import Derived.Test.YtdlimgpmmkcgmaaGreatZav
import Derived.Test.YtdlimgpmmkcgmaaGreatZap
import Derived.Deep.RegionHeld3
import Derived.Test.YtdlimgpmmkcgmaaGreatZar
import Derived.Test.YtdlimgpmmkcgmaaGreatZad
import Derived.Test.YtdlimgpmmkcgmaaGreatZab
import Derived.Test.YtdlimgpmmkcgmaaGreatZak
import Derived.Test.YtdlimgpmmkcgmaaGreatZaf
namespace Go.Proofs.YtdlimgpmmkcgmaaGreat
open Go.RowKit
set_option linter.unusedVariables false
set_option linter.unusedSimpArgs false
set_option maxRecDepth 20000

def SegP.none : SegP := ⟨0, 0, 0, 0, 0⟩
def FlagP.none : FlagP := ⟨0, 0⟩
/-- What a slice of structs of numbers reads as. -/
theorem rows_cell {k : Nat} {w : World} {b off n c : Nat} {t : Rows2} (h : Sl k w (some ⟨b, off, none⟩) n c (ints .i64 t.flatten)) (hl : t.length = n) (hw : ∀ r ∈ t, r.length = k) {i j : Nat} (hi : i < n) (hj : j < k) : w.cell? ⟨b, off + i * k + j, none⟩ = some (.int .i64 ((t.getD i []).getD j 0)) := by
  have hti : i < t.length := by omega
  obtain ⟨_, ⟨h0, _, _⟩ | ⟨ad, e, hc⟩⟩ := h
  · cases h0
  · injection e with e
    subst e
    have hg := rows_get t hw i j hti hj []
    rw [List.append_nil] at hg
    have hlt : k * i + j < t.flatten.length := by
      rw [rows_len t hw]
      have : k * i + k ≤ k * t.length := by rw [← Nat.mul_succ]; exact Nat.mul_le_mul_left k hti
      omega
    have hu : (ints .i64 t.flatten)[k * i + j]? = some (.int .i64 ((t.getD i []).getD j 0)) := by
      rw [ints, List.getElem?_map, List.getElem?_eq_getElem hlt, Option.map_some, ← hg, List.getD_eq_getElem?_getD, List.getElem?_eq_getElem hlt, Option.getD_some]
    have := hc _ _ hu
    rw [tab_add, ← Nat.add_assoc, Nat.mul_comm] at this
    exact this
theorem rows_form {k : Nat} {w : World} {A : Option Addr} {n c : Nat} {t : Rows2} (h : Sl k w A n c (ints .i64 t.flatten)) (hk : 0 < k) (hn : 0 < n) : ∃ b off, A = some ⟨b, off, none⟩ := by
  obtain ⟨hl, ⟨_, h0, _⟩ | ⟨ad, rfl, hc⟩⟩ := h
  · omega
  · have hp : 0 < n * k := Nat.mul_pos hn hk
    obtain ⟨u, hu⟩ : ∃ u, (ints .i64 t.flatten)[0]? = some u := ⟨_, List.getElem?_eq_getElem (by omega)⟩
    have h0 := hc 0 u hu
    obtain ⟨b, off, sp⟩ := ad
    have hsp : sp = none := by simpa [Addr.add] using World.cell?_spot h0
    subst hsp
    exact ⟨b, off, rfl⟩
def Segs (w : World) (A : Option Addr) (n c : Nat) (l : List SegP) : Prop := Sl 5 w A n c (ints .i64 (l.map segL).flatten) ∧ l.length = n
theorem Segs.below {w w' : World} {A : Option Addr} {n c : Nat} {l : List SegP} (h : Segs w A n c l) (hb : Below w.heap.size w w') : Segs w' A n c l := ⟨h.1.below hb, h.2⟩
theorem Segs.form {w : World} {A : Option Addr} {n c : Nat} {l : List SegP} (h : Segs w A n c l) (hn : 0 < n) : ∃ b off, A = some ⟨b, off, none⟩ := rows_form h.1 (by omega) hn
theorem segs_num {w : World} {b off n c : Nat} {l : List SegP} (h : Segs w (some ⟨b, off, none⟩) n c l) {i : Nat} (hi : i < n) (x : SegP) (hx : l.getD i SegP.none = x) :
    w.cell? ⟨b, off + i * 5, none⟩ = some (.int .i64 x.fr) ∧ w.cell? ⟨b, off + i * 5 + 1, none⟩ = some (.int .i64 x.to) ∧ w.cell? ⟨b, off + i * 5 + 2, none⟩ = some (.int .i64 x.kd) ∧ w.cell? ⟨b, off + i * 5 + 3, none⟩ = some (.int .i64 x.id) ∧ w.cell? ⟨b, off + i * 5 + 4, none⟩ = some (.int .i64 x.cd) := by
  have hl := h.2
  have hw : ∀ r ∈ l.map segL, r.length = 5 := fun r hr => by obtain ⟨y, _, rfl⟩ := List.mem_map.1 hr; rfl
  have e : (l.map segL).getD i [] = segL x := by rw [← hx]; simp [List.getD, show i < l.length by omega]
  have g := fun j hj => rows_cell h.1 (by simpa using hl) hw hi (j := j) hj
  rw [e] at g
  exact ⟨g 0 (by omega), g 1 (by omega), g 2 (by omega), g 3 (by omega), g 4 (by omega)⟩
def Flgs (w : World) (A : Option Addr) (n c : Nat) (l : List FlagP) : Prop := Sl 2 w A n c (ints .i64 (l.map flagL).flatten) ∧ l.length = n
theorem Flgs.below {w w' : World} {A : Option Addr} {n c : Nat} {l : List FlagP} (h : Flgs w A n c l) (hb : Below w.heap.size w w') : Flgs w' A n c l := ⟨h.1.below hb, h.2⟩
theorem Flgs.form {w : World} {A : Option Addr} {n c : Nat} {l : List FlagP} (h : Flgs w A n c l) (hn : 0 < n) : ∃ b off, A = some ⟨b, off, none⟩ := rows_form h.1 (by omega) hn
theorem SRow.segs {w : World} {base n c : Nat} {A : Option Addr} {l : List SegP} (h : SRow w base A n c l) (hn : l.length = n) : Segs w A n c l := ⟨Sl.of_own h, hn⟩
theorem wp_build_sp {o : Oper} {a : Act} {w : World} {K : Act → World → Prop} {Q : Exit → Act → World → Prop} {y : Operand} (p q : Int)
    (ho : o.op = .buildSlice 40 1 #[(0, y)]) (hy : a.eval y = .agg #[.int .i64 p, .int .i64 q])
    (h : K (a.put o.dst (.slice (some ⟨w.heap.size, 0, none⟩) 1 1)) (w.alloc (.cells #[.int .i64 p, .int .i64 q] 44))) : o.wp Tryz.prog a w K Q := by
  unfold Oper.wp execOp
  simp only [ho, List.map_toArray, List.map_cons, List.map_nil, hy]
  go_simp
  exact h
theorem wpList_build_s {ops : Array Oper} {rest : List Oper} {o : Oper} {a : Act} {w : World} {Q : Exit → Act → World → Prop} (hgd : Region.wanted o (yielded ops a.tmps) = true) {y : Operand} (x : SegP)
    (ho : o.op = .buildSlice 31 1 #[(0, y)]) (hy : a.eval y = .agg #[.int .i64 x.fr, .int .i64 x.to, .int .i64 x.kd, .int .i64 x.id, .int .i64 x.cd])
    (h : wpList Tryz.prog ops Q rest (a.put o.dst (.slice (some ⟨w.heap.size, 0, none⟩) 1 1)) (w.alloc (.cells #[.int .i64 x.fr, .int .i64 x.to, .int .i64 x.kd, .int .i64 x.id, .int .i64 x.cd] 59))) : wpList Tryz.prog ops Q (o :: rest) a w := by
  refine wpList_step fun K hK => ?_
  rw [if_pos hgd]
  exact wp_build_s x ho hy (hK _ _ h)
theorem take_snoc_s {l : List SegP} {i : Nat} (h : i < l.length) : l.take (i + 1) = l.take i ++ [l.getD i SegP.none] := by
  rw [List.take_succ_eq_append_getElem h]
  simp [List.getD, h]
set_option maxHeartbeats 8000000 in
theorem rclock_any (A : Option Addr) (n c : Nat) (l : List SegP) (w : World) (h : Segs w A n c l) (hn : n ≤ 100000) (hF : ∀ s ∈ l, Fit s.fr ∧ Fit s.to) :
    Calls Tryz.prog 71 #[.slice A n c] w (Gives w (clockP l)) := by
  have hlen := h.2
  have HL := Lib.hid h
  have HCK := Lib.hid (clock_spans l)
  have HFT : Hid (Fits (l.map spanOf)) := fun y hy => by obtain ⟨s, hs, rfl⟩ := List.mem_map.1 hy; exact hF s hs
  clear h hF
  go_enter Tryz.func71, Tryz.ntmps71
  go_wp2
  go_loopw [3, 4] (fun o i wr => ∃ (k : Nat) (B : Option Addr) (d q : Nat), k ≤ n ∧ i = .int .i64 k ∧ o = .slice B q d ∧ ((l.take k).map spanOf).length = q ∧ Hid (Row wr w.heap.size B d ((l.take k).map spanOf)) ∧ Hid (Below w.heap.size w wr)) (fun _ i _ => n - (intOf i).toNat)
  case atStart => exact ⟨0, none, 0, 0, Nat.zero_le _, rfl, rfl, by simp, by simp; exact Row.nil _ _, Below.refl _ _⟩
  case round =>
    obtain ⟨k, B, d, q, hk, rfl, rfl, hq, HR, HW⟩ := hrel
    have hqk : q = k := by rw [← hq, List.length_map, List.length_take]; omega
    by_cases hlt : k < n
    · have HLr := Lib.hid (HL.out.below HW.out)
      obtain ⟨ba, oa, rfl⟩ := HLr.out.form (by omega)
      obtain ⟨x, hx⟩ : ∃ x, l.getD k SegP.none = x := ⟨_, rfl⟩
      have HX := Lib.hid hx
      have HNX : Hid ((l.take (k + 1)).map spanOf = (l.take k).map spanOf ++ [(x.fr, x.to)]) := by show _ = _; rw [take_snoc_s (by omega), List.map_append, hx]; rfl
      have i2 : (0 : Int) ≤ (k : Int) := by omega
      have i3 : (k : Int) < (n : Int) := by omega
      have hqk2 := hqk.symm
      subst hqk2
      clear hx
      have hbw := HW.out
      go_wp2_with fail
      refine wp_region_noPanic ?_
      refine wp_region_held_drew (S := fun w' => Below w.heap.size w w') (by kernel_rfl) (below_drew (HW.out)) (fun hHeld => ?_)
      refine wpAnyH_take (i := 0) (oi := ⟨some 11, _, _, _, _, _⟩) (v := ?_) rfl (by kernel_rfl) (by kernel_rfl) (by kernel_rfl) (fun _ _ _ h => h) (Or.inl ⟨by rfl, ?_⟩) hHeld ?_
      rotate_left
      · intro ww hSw
        (try dsimp only at hSw)
        go_simp
        (try with_reducible rfl)
      simp only [Act.put, List.setIfInBounds_toArray, List.set_cons_zero, List.set_cons_succ]
      refine wpAnyH_take (i := 1) (oi := ⟨some 12, _, _, _, _, _⟩) (v := ?_) rfl (by kernel_rfl) (by kernel_rfl) (by kernel_rfl) (fun _ _ _ h => h) (Or.inl ⟨by rfl, ?_⟩) hHeld ?_
      rotate_left
      · intro ww hSw
        (try dsimp only at hSw)
        go_simp
        (try with_reducible rfl)
      simp only [Act.put, List.setIfInBounds_toArray, List.set_cons_zero, List.set_cons_succ]
      refine wpAnyH_take (i := 2) (oi := ⟨some 13, _, _, _, _, _⟩) (v := ?_) rfl (by kernel_rfl) (by kernel_rfl) (by kernel_rfl) (fun _ _ _ h => h) (Or.inl ⟨by rfl, ?_⟩) hHeld ?_
      rotate_left
      · intro ww hSw
        (try dsimp only at hSw)
        go_simp
        (try with_reducible rfl)
      simp only [Act.put, List.setIfInBounds_toArray, List.set_cons_zero, List.set_cons_succ]
      refine wpAnyH_take (i := 3) (oi := ⟨some 14, _, _, _, _, _⟩) (v := .pointer (some ⟨ba, oa + k * 5, none⟩)) rfl (by kernel_rfl) (by kernel_rfl) (by kernel_rfl) (fun _ _ _ h => h) (Or.inl ⟨by rfl, ?_⟩) hHeld ?_
      · intro ww hSw
        (try dsimp only at hSw)
        go_simp
      simp only [Act.put, List.setIfInBounds_toArray, List.set_cons_zero, List.set_cons_succ]
      refine wpAnyH_take (i := 4) (oi := ⟨some 15, _, _, _, _, _⟩) (v := ?_) rfl (by kernel_rfl) (by kernel_rfl) (by kernel_rfl) (fun _ _ _ h => h) (Or.inl ⟨by rfl, ?_⟩) hHeld ?_
      rotate_left
      · intro ww hSw
        (try dsimp only at hSw)
        go_simp
        (try with_reducible rfl)
      simp only [Act.put, List.setIfInBounds_toArray, List.set_cons_zero, List.set_cons_succ]
      refine wpAnyH_take (i := 5) (oi := ⟨some 16, _, _, _, _, _⟩) (v := .int .i64 x.fr) rfl (by kernel_rfl) (by kernel_rfl) (by kernel_rfl) (fun _ _ _ h => h) (Or.inl ⟨by rfl, ?_⟩) hHeld ?_
      · intro ww hSw
        (try dsimp only at hSw)
        have zc := (segs_num (HL.out.below hSw) hlt x HX.out).1
        have zl := cell_lt zc
        go_simp
      simp only [Act.put, List.setIfInBounds_toArray, List.set_cons_zero, List.set_cons_succ]
      refine wpAnyH_take (i := 6) (oi := ⟨some 17, _, _, _, _, _⟩) (v := ?_) rfl (by kernel_rfl) (by kernel_rfl) (by kernel_rfl) (fun _ _ _ h => h) (Or.inl ⟨by rfl, ?_⟩) hHeld ?_
      rotate_left
      · intro ww hSw
        (try dsimp only at hSw)
        go_simp
        (try with_reducible rfl)
      simp only [Act.put, List.setIfInBounds_toArray, List.set_cons_zero, List.set_cons_succ]
      refine wpAnyH_take (i := 7) (oi := ⟨some 18, _, _, _, _, _⟩) (v := ?_) rfl (by kernel_rfl) (by kernel_rfl) (by kernel_rfl) (fun _ _ _ h => h) (Or.inl ⟨by rfl, ?_⟩) hHeld ?_
      rotate_left
      · intro ww hSw
        (try dsimp only at hSw)
        go_simp
        (try with_reducible rfl)
      simp only [Act.put, List.setIfInBounds_toArray, List.set_cons_zero, List.set_cons_succ]
      refine wpAnyH_take (i := 8) (oi := ⟨some 19, _, _, _, _, _⟩) (v := .pointer (some ⟨ba, oa + k * 5, none⟩)) rfl (by kernel_rfl) (by kernel_rfl) (by kernel_rfl) (fun _ _ _ h => h) (Or.inl ⟨by rfl, ?_⟩) hHeld ?_
      · intro ww hSw
        (try dsimp only at hSw)
        go_simp
      simp only [Act.put, List.setIfInBounds_toArray, List.set_cons_zero, List.set_cons_succ]
      refine wpAnyH_take (i := 9) (oi := ⟨some 20, _, _, _, _, _⟩) (v := ?_) rfl (by kernel_rfl) (by kernel_rfl) (by kernel_rfl) (fun _ _ _ h => h) (Or.inl ⟨by rfl, ?_⟩) hHeld ?_
      rotate_left
      · intro ww hSw
        (try dsimp only at hSw)
        go_simp
        (try with_reducible rfl)
      simp only [Act.put, List.setIfInBounds_toArray, List.set_cons_zero, List.set_cons_succ]
      refine wpAnyH_take (i := 10) (oi := ⟨some 21, _, _, _, _, _⟩) (v := .int .i64 x.to) rfl (by kernel_rfl) (by kernel_rfl) (by kernel_rfl) (fun _ _ _ h => h) (Or.inl ⟨by rfl, ?_⟩) hHeld ?_
      · intro ww hSw
        (try dsimp only at hSw)
        have zc := (segs_num (HL.out.below hSw) hlt x HX.out).2.1
        have zl := cell_lt zc
        go_simp
      simp only [Act.put, List.setIfInBounds_toArray, List.set_cons_zero, List.set_cons_succ]
      refine wpAnyH_take (i := 11) (oi := ⟨some 22, _, _, _, _, _⟩) (v := ?_) rfl (by kernel_rfl) (by kernel_rfl) (by kernel_rfl) (fun _ _ _ h => h) (Or.inl ⟨by rfl, ?_⟩) hHeld ?_
      rotate_left
      · intro ww hSw
        (try dsimp only at hSw)
        go_simp
        (try with_reducible rfl)
      simp only [Act.put, List.setIfInBounds_toArray, List.set_cons_zero, List.set_cons_succ]
      have HR6 := Lib.hid HR.out.drew
      have HW6 := Lib.hid (below_drew HW.out)
      generalize wr.drew = w6 at *
      obtain ⟨A9, c9, w9, hr9, row9, bel9, -, -, -⟩ := row_push HR6.out x.fr x.to (by omega) HW6.out.size (s := w6.heap.size) rfl
      rw [hq] at hr9
      have HR9 := Lib.hid hr9
      have HW9 := Lib.hid (bel9 w (Nat.le_refl _) HW6.out)
      have HRW9 := Lib.hid row9
      clear hr9 row9 bel9
      refine wpAnyH_ready (rs := [12]) (by kernel_rfl) (by simp) ?_
      refine AllReadyH.cons (o := ⟨some 23, _, _, _, _, _⟩) rfl (fun K hK => ?_) AllReadyH.nil
      rw [if_pos (by rfl)]
      refine wp_build_sp x.fr x.to rfl rfl ?_
      refine hK.out _ _ ?_ (fun hHeld => ?_)
      · (try dsimp only)
        exact bel_alloc HW6.out _
      clear hK K
      (try simp only [Act.put, List.setIfInBounds_toArray, List.set_cons_zero, List.set_cons_succ])
      refine wpAnyH_ready (rs := [13]) (by kernel_rfl) (by simp) ?_
      refine AllReadyH.cons (o := ⟨some 24, _, _, _, _, _⟩) rfl (fun K hK => ?_) AllReadyH.nil
      rw [if_pos (by rfl)]
      refine wp_append_run8 HR9.out rfl rfl rfl ?_
      refine hK.out _ _ ?_ (fun hHeld => ?_)
      · (try dsimp only)
        exact HW9.out
      clear hK K
      (try simp only [Act.put, List.setIfInBounds_toArray, List.set_cons_zero, List.set_cons_succ])
      refine wpAnyH_take (i := 14) (oi := ⟨some 3, _, _, _, _, _⟩) (v := ?_) rfl (by kernel_rfl) (by kernel_rfl) (by kernel_rfl) (fun _ _ _ h => h) (Or.inl ⟨by rfl, ?_⟩) hHeld ?_
      rotate_left
      · intro ww hSw
        (try dsimp only at hSw)
        go_simp
        (try with_reducible rfl)
      simp only [Act.put, List.setIfInBounds_toArray, List.set_cons_zero, List.set_cons_succ]
      refine wpAnyH_done (by kernel_rfl) ?_ _
      refine NoPanic.normal ?_
      go_wp2
      go_roundw
      case rel => exact ⟨k + 1, A9, c9, k + 1, by omega, by go_num, rfl, by rw [HNX.out, List.length_append, hq]; rfl, by rw [HNX.out]; exact HRW9.out, HW9⟩
      case measure => simp [intOf]; omega
    · obtain rfl : k = n := by omega
      have e : l.take k = l := List.take_of_length_le (by omega)
      rw [e] at HR hq
      have hqk2 := hqk.symm
      subst hqk2
      have C := rnorm_any B d (l.map spanOf) wr (HR.out.spans HFT.out) (by omega)
      rw [HCK.out, hq] at C
      have HC := Lib.hid C
      clear C
      go_wp2_with fail
      refine HC.out.mono ?_
      intro e w4 hg
      have HG := gives_bel hg HW.out rfl
      clear hg
      obtain ⟨D, d4, rfl, hr, hb⟩ := HG
      go_wp2
      go_ret
      exact ⟨D, d4, rfl, hr, hb⟩
def ofKind (k : Int) (s : SegP) : Bool := decide (s.kd = k)
theorem kind_filter (p : SegP → Bool) (l : List SegP) (k : Nat) (h : k < l.length) : (l.take (k + 1)).filter p = (l.take k).filter p ++ (if p (l.getD k SegP.none) = true then [l.getD k SegP.none] else []) := by
  rw [take_snoc_s h, List.filter_append]
  congr 1
  by_cases q : p (l.getD k SegP.none) = true
  · rw [if_pos q, List.filter_cons_of_pos q]; rfl
  · rw [if_neg q, List.filter_cons_of_neg q]; rfl
set_option maxHeartbeats 8000000 in
theorem ronly_any (A : Option Addr) (n c : Nat) (l : List SegP) (kd : Int) (w : World) (h : Segs w A n c l) (hn : n ≤ 1000) (hF : ∀ s ∈ l, Fit s.fr ∧ Fit s.to) :
    Calls Tryz.prog 120 #[.slice A n c, .int .i64 kd] w (Gives w (clockP (l.filter (ofKind kd)))) := by
  have hlen := h.2
  have HL := Lib.hid h
  have HFT : Hid (∀ s ∈ l.filter (ofKind kd), Fit s.fr ∧ Fit s.to) := fun s hs => hF s (List.mem_filter.1 hs).1
  clear h hF
  go_enter Tryz.func120, Tryz.ntmps120
  go_wp2
  go_loopw [5, 6] (fun o i wr => ∃ (k : Nat) (B : Option Addr) (d q : Nat), k ≤ n ∧ i = .int .i64 k ∧ o = .slice B q d ∧ q ≤ k ∧ ((l.take k).filter (ofKind kd)).length = q ∧ Hid (SRow wr w.heap.size B q d ((l.take k).filter (ofKind kd))) ∧ Hid (Below w.heap.size w wr)) (fun _ i _ => n - (intOf i).toNat)
  case atStart => exact ⟨0, none, 0, 0, Nat.zero_le _, rfl, rfl, Nat.le_refl _, by simp, by simp; exact TRow.nil _ _, Below.refl _ _⟩
  case round =>
    obtain ⟨k, B, d, q, hk, rfl, rfl, hqk, hq, HR, HW⟩ := hrel
    by_cases hlt : k < n
    · have HLr := Lib.hid (HL.out.below HW.out)
      obtain ⟨ba, oa, rfl⟩ := HLr.out.form (by omega)
      obtain ⟨x, hx⟩ : ∃ x, l.getD k SegP.none = x := ⟨_, rfl⟩
      have HNX := Lib.hid (kind_filter (ofKind kd) l k (by omega))
      rw [hx] at HNX
      obtain ⟨z0, z1, z2, z3, z4⟩ := segs_num HLr.out hlt x hx
      have hz := cell_lt z0
      have i2 : (0 : Int) ≤ (k : Int) := by omega
      have i3 : (k : Int) < (n : Int) := by omega
      clear hx
      by_cases hk : x.kd = kd
      · have hk' : (x.kd == kd) = true := by simpa using hk
        have HP : Hid ((if ofKind kd x = true then [x] else []) = [x]) := by show _ = _; rw [if_pos (by simp [ofKind, hk])]
        obtain ⟨A9, c9, w9, hr9, row9, kp9⟩ := srow_one HR.out x (by omega) HW.out.size (s := wr.heap.size) rfl
        have HR9 := Lib.hid hr9
        have HW9 := Lib.hid (below_kept0 HW.out kp9)
        have HRW9 := Lib.hid row9
        clear hr9 row9 kp9 hk
        go_wp2_with (first | refine wpList_build_s (o := ⟨some 25, _, _, _, _, _⟩) rfl x rfl rfl ?_ | (at_builtin; refine wpList_append_run (o := ⟨some 26, _, _, _, _, _⟩) HR9.out rfl rfl rfl rfl ?_))
        go_roundw
        case rel => exact ⟨k + 1, A9, c9, q + 1, by omega, by go_num, rfl, by omega, by rw [HNX.out, HP.out, List.length_append, hq]; rfl, by rw [HNX.out, HP.out]; exact HRW9.out, HW9⟩
        case measure => simp [intOf]; omega
      · have hk' : (x.kd == kd) = false := beq_eq_false_iff_ne.2 hk
        have HP : Hid ((if ofKind kd x = true then [x] else []) = []) := by show _ = _; rw [if_neg (by simp [ofKind, hk])]
        go_wp2
        go_roundw
        case rel => exact ⟨k + 1, B, d, q, by omega, by go_num, rfl, by omega, by rw [HNX.out, HP.out, List.append_nil]; exact hq, by rw [HNX.out, HP.out, List.append_nil]; exact HR, HW⟩
        case measure => simp [intOf]; omega
    · obtain rfl : k = n := by omega
      have e : l.take k = l := List.take_of_length_le (by omega)
      rw [e] at HR hq
      have HC := Lib.hid (rclock_any B q d (l.filter (ofKind kd)) wr (SRow.segs HR.out hq) (by omega) HFT.out)
      go_wp2_with fail
      refine HC.out.mono ?_
      intro e w4 hg
      have HG := gives_bel hg HW.out rfl
      clear hg
      obtain ⟨D, d4, rfl, hr, hb⟩ := HG
      go_wp2
      go_ret
      exact ⟨D, d4, rfl, hr, hb⟩
end Go.Proofs.YtdlimgpmmkcgmaaGreat

namespace Go.Proofs.YtdlimgpmmkcgmaaGreat
open Go.RowKit
set_option linter.unusedVariables false
set_option linter.unusedSimpArgs false
set_option maxRecDepth 20000

theorem clock1_any (x : SegP) (w : World) : Calls Tryz.prog 48 #[.agg #[.int .i64 x.fr, .int .i64 x.to, .int .i64 x.kd, .int .i64 x.id, .int .i64 x.cd]] w fun e w' => e = .returned (.bool true) ∧ Below w.heap.size w w' := by
  have hb0 := bel_alloc (Below.refl w.heap.size w) (.cells #[.int .i64 x.fr, .int .i64 x.to, .int .i64 x.kd, .int .i64 x.id, .int .i64 x.cd] 59)
  go_enter Tryz.func48, Tryz.ntmps48
  go_wp2
  go_ret
  exact ⟨rfl, hb0⟩
theorem only1_any (x : SegP) (w : World) (bk : Nat) (kd : Int) (hk : Has w bk #[.int .i64 kd]) (b : Bool) (hb : ofKind kd x = b) :
    Calls Tryz.prog 137 #[.agg #[.int .i64 x.fr, .int .i64 x.to, .int .i64 x.kd, .int .i64 x.id, .int .i64 x.cd], .pointer (some ⟨bk, 0, none⟩)] w fun e w' => e = .returned (.bool b) ∧ Below w.heap.size w w' := by
  have hb0 := bel_alloc (Below.refl w.heap.size w) (.cells #[.int .i64 x.fr, .int .i64 x.to, .int .i64 x.kd, .int .i64 x.id, .int .i64 x.cd] 59)
  have qk := hk.cell 0 rfl
  have zk := cell_lt qk
  have e : (x.kd == kd) = b := by rw [← hb]; unfold ofKind; exact Bool.eq_iff_iff.2 (by simp)
  go_enter Tryz.func137, Tryz.ntmps137
  go_wp2
  go_ret
  exact ⟨by first | rfl | simp [e], by first | exact hb0 | (repeat' (first | with_reducible exact Below.refl _ _ | with_reducible assumption | with_reducible refine bel_alloc ?_ _ | with_reducible refine bel_set ?_ ?_ _ | with_reducible refine below_drewN ?_ _ | with_reducible refine below_drew ?_ | (simp; done) | (simp; omega) | omega))⟩
theorem filter_true (l : List SegP) : l.filter (fun _ => true) = l := List.filter_eq_self.2 fun _ _ => rfl
set_option maxHeartbeats 8000000 in
theorem secs_clock (A : Option Addr) (n c : Nat) (l : List SegP) (w : World) (h : Segs w A n c l) (hn : n ≤ 100000) (hF : ∀ s ∈ l, Fit s.fr ∧ Fit s.to) :
    Calls Tryz.prog 47 #[.slice A n c, .func (.func 48) #[] #[]] w (Gives w (clockP (l.filter (fun _ => true)))) := by
  have hlen := h.2
  have HL := Lib.hid h
  have HCK := Lib.hid (clock_spans (l.filter (fun _ => true)))
  have HFT : Hid (Fits ((l.filter (fun _ => true)).map spanOf)) := fun y hy => by obtain ⟨s, hs, rfl⟩ := List.mem_map.1 hy; exact hF s (List.mem_filter.1 hs).1
  have eg : ∀ args w, (callFunc 48 args).run Tryz.prog w = .ok (.enter 48 args) w := enters_of Tryz.func48 (by kernel_rfl) rfl
  have HC1 := Lib.hid (fun x W => clock1_any x W)
  clear h hF
  go_enter Tryz.func47, Tryz.ntmps47
  go_wp2
  go_loopg [5, 10] n (fun kx s5 s10 wr => ∃ (k q d : Nat) (B : Option Addr), s5 = .slice B q d ∧ s10 = .int .i64 k ∧ k + kx = n ∧ q ≤ k ∧ Hid ((((l.take k).filter (fun _ => true)).map spanOf).length = q) ∧ Hid (Row wr w.heap.size B d (((l.take k).filter (fun _ => true)).map spanOf)) ∧ Hid (Below w.heap.size w wr))
  case atStart => exact ⟨0, 0, 0, none, rfl, rfl, by omega, by omega, Lib.hid (by simp), Lib.hid (by rw [List.take_zero]; exact Row.nil _ _), Lib.hid (Below.refl _ _)⟩
  case round =>
    obtain ⟨k, q, d, B, rfl, rfl, hk, hqk, HQ, HR, HW⟩ := hrel
    by_cases hlt : k < n
    · have HLr := Lib.hid (HL.out.below HW.out)
      obtain ⟨ba, oa, rfl⟩ := HLr.out.form (by omega)
      obtain ⟨x, hx⟩ : ∃ x, l.getD k SegP.none = x := ⟨_, rfl⟩
      obtain ⟨z0, z1, z2, z3, z4⟩ := segs_num HLr.out hlt x hx
      have zl := cell_lt z0
      have HKF := Lib.hid (kind_filter (fun _ => true) l k (by omega))
      rw [hx] at HKF
      have i0 : (0 : Int) ≤ (k : Int) := by omega
      have i1 : (k : Int) < (n : Int) := by omega
      have hba := bel_alloc (Below.refl wr.heap.size wr) (.cells #[.int .i64 x.fr, .int .i64 x.to, .int .i64 x.kd, .int .i64 x.id, .int .i64 x.cd] 59)
      have HXA : Hid (Has (wr.alloc (.cells #[.int .i64 x.fr, .int .i64 x.to, .int .i64 x.kd, .int .i64 x.id, .int .i64 x.cd] 59)) wr.heap.size #[.int .i64 x.fr, .int .i64 x.to, .int .i64 x.kd, .int .i64 x.id, .int .i64 x.cd]) := Has.new wr _ _ rfl
      have HWA := Lib.hid (bel_on HW.out hba)
      have HRA := Lib.hid (HR.out.alloc (.cells #[.int .i64 x.fr, .int .i64 x.to, .int .i64 x.kd, .int .i64 x.id, .int .i64 x.cd] 59))
      clear hx hba
      have HE1 : Hid (((l.take (k + 1)).filter (fun _ => true)).map spanOf = ((l.take k).filter (fun _ => true)).map spanOf ++ [(x.fr, x.to)]) := by show _ = _; rw [HKF.out, if_pos rfl, List.map_append]; rfl
      go_wp2_with fail
      refine (HC1.out x _).mono ?_
      rintro e_r w5 ⟨rfl, hb5⟩
      have HX5 := Lib.hid (HXA.out.below hb5)
      have HW5 := Lib.hid (bel_on HWA.out hb5)
      have HR5 := Lib.hid (HRA.out.below hb5)
      obtain ⟨A9, c9, w9, hr9, row9, bel9, -, -, -⟩ := row_push HR5.out x.fr x.to (by have := HQ.out; omega) HW5.out.size (s := w5.heap.size) rfl
      rw [HQ.out] at hr9
      have HR9 := Lib.hid hr9
      have HW9 := Lib.hid (bel9 w (Nat.le_refl _) HW5.out)
      have HRW9 := Lib.hid row9
      obtain ⟨bx, hbx⟩ : ∃ bx, Hid (wr.heap.size = bx) := ⟨_, rfl⟩
      rw [hbx.out] at HX5
      rw [hbx.out]
      have y0 := HX5.out.cell 0 rfl
      have y1 := HX5.out.cell 1 rfl
      have yl := cell_lt y0
      clear hr9 row9 bel9 hb5 hbx z0 z1 z2 z3 z4 zl
      go_wp2_with (first | (at_builtin; refine wpList_append_run (o := ⟨some 24, _, _, _, _, _⟩) HR9.out rfl rfl rfl rfl ?_))
      go_roundg (n - (k + 1))
      case measure => omega
      case rel => exact ⟨k + 1, q + 1, c9, A9, rfl, by go_num, by omega, by omega, Lib.hid (by rw [HE1.out, List.length_append, HQ.out]; rfl), Lib.hid (by rw [HE1.out]; exact HRW9.out), HW9⟩
    · obtain rfl : k = n := by omega
      have e : l.take k = l := List.take_of_length_le (by omega)
      rw [e] at HR HQ
      have C := norm_any B d ((l.filter (fun _ => true)).map spanOf) wr (HR.out.spans HFT.out) (by have := HQ.out; omega)
      rw [HCK.out, HQ.out] at C
      have HC := Lib.hid C
      clear C e
      go_wp2_with fail
      refine HC.out.mono ?_
      intro e w4 hg
      have HG := gives_bel hg HW.out rfl
      clear hg
      obtain ⟨D, d4, rfl, hr, hb⟩ := HG
      go_wp2
      go_ret
      exact ⟨D, d4, rfl, hr, hb⟩
set_option maxHeartbeats 8000000 in
theorem secs_only (A : Option Addr) (n c : Nat) (l : List SegP) (w : World) (h : Segs w A n c l) (hn : n ≤ 100000) (hF : ∀ s ∈ l, Fit s.fr ∧ Fit s.to) (bk : Nat) (kd : Int) (hk : Has w bk #[.int .i64 kd]) :
    Calls Tryz.prog 47 #[.slice A n c, .func (.func 137) #[] #[.pointer (some ⟨bk, 0, none⟩)]] w (Gives w (clockP (l.filter (ofKind kd)))) := by
  have hlen := h.2
  have HL := Lib.hid h
  have HCK := Lib.hid (clock_spans (l.filter (ofKind kd)))
  have HFT : Hid (Fits ((l.filter (ofKind kd)).map spanOf)) := fun y hy => by obtain ⟨s, hs, rfl⟩ := List.mem_map.1 hy; exact hF s (List.mem_filter.1 hs).1
  have eg : ∀ args w, (callFunc 137 args).run Tryz.prog w = .ok (.enter 137 args) w := enters_of Tryz.func137 (by kernel_rfl) rfl
  have HK := Lib.hid hk
  clear hk
  clear h hF
  go_enter Tryz.func47, Tryz.ntmps47
  go_wp2
  go_loopg [5, 10] n (fun kx s5 s10 wr => ∃ (k q d : Nat) (B : Option Addr), s5 = .slice B q d ∧ s10 = .int .i64 k ∧ k + kx = n ∧ q ≤ k ∧ Hid ((((l.take k).filter (ofKind kd)).map spanOf).length = q) ∧ Hid (Row wr w.heap.size B d (((l.take k).filter (ofKind kd)).map spanOf)) ∧ Hid (Below w.heap.size w wr))
  case atStart => exact ⟨0, 0, 0, none, rfl, rfl, by omega, by omega, Lib.hid (by simp), Lib.hid (by rw [List.take_zero]; exact Row.nil _ _), Lib.hid (Below.refl _ _)⟩
  case round =>
    obtain ⟨k, q, d, B, rfl, rfl, hk, hqk, HQ, HR, HW⟩ := hrel
    by_cases hlt : k < n
    · have HLr := Lib.hid (HL.out.below HW.out)
      obtain ⟨ba, oa, rfl⟩ := HLr.out.form (by omega)
      obtain ⟨x, hx⟩ : ∃ x, l.getD k SegP.none = x := ⟨_, rfl⟩
      obtain ⟨z0, z1, z2, z3, z4⟩ := segs_num HLr.out hlt x hx
      have zl := cell_lt z0
      have HKF := Lib.hid (kind_filter (ofKind kd) l k (by omega))
      rw [hx] at HKF
      have i0 : (0 : Int) ≤ (k : Int) := by omega
      have i1 : (k : Int) < (n : Int) := by omega
      have hba := bel_alloc (Below.refl wr.heap.size wr) (.cells #[.int .i64 x.fr, .int .i64 x.to, .int .i64 x.kd, .int .i64 x.id, .int .i64 x.cd] 59)
      have HXA : Hid (Has (wr.alloc (.cells #[.int .i64 x.fr, .int .i64 x.to, .int .i64 x.kd, .int .i64 x.id, .int .i64 x.cd] 59)) wr.heap.size #[.int .i64 x.fr, .int .i64 x.to, .int .i64 x.kd, .int .i64 x.id, .int .i64 x.cd]) := Has.new wr _ _ rfl
      have HWA := Lib.hid (bel_on HW.out hba)
      have HRA := Lib.hid (HR.out.alloc (.cells #[.int .i64 x.fr, .int .i64 x.to, .int .i64 x.kd, .int .i64 x.id, .int .i64 x.cd] 59))
      clear hx hba
      cases hof : ofKind kd x with
      | true =>
        have HOF := Lib.hid (only1_any x _ bk kd (HK.out.below HWA.out) true hof)
        have HE1 : Hid (((l.take (k + 1)).filter (ofKind kd)).map spanOf = ((l.take k).filter (ofKind kd)).map spanOf ++ [(x.fr, x.to)]) := by show _ = _; rw [HKF.out, if_pos hof, List.map_append]; rfl
        clear hof
        go_wp2_with fail
        refine (HOF.out).mono ?_
        rintro e_r w5 ⟨rfl, hb5⟩
        have HX5 := Lib.hid (HXA.out.below hb5)
        have HW5 := Lib.hid (bel_on HWA.out hb5)
        have HR5 := Lib.hid (HRA.out.below hb5)
        obtain ⟨A9, c9, w9, hr9, row9, bel9, -, -, -⟩ := row_push HR5.out x.fr x.to (by have := HQ.out; omega) HW5.out.size (s := w5.heap.size) rfl
        rw [HQ.out] at hr9
        have HR9 := Lib.hid hr9
        have HW9 := Lib.hid (bel9 w (Nat.le_refl _) HW5.out)
        have HRW9 := Lib.hid row9
        obtain ⟨bx, hbx⟩ : ∃ bx, Hid (wr.heap.size = bx) := ⟨_, rfl⟩
        rw [hbx.out] at HX5
        rw [hbx.out]
        have y0 := HX5.out.cell 0 rfl
        have y1 := HX5.out.cell 1 rfl
        have yl := cell_lt y0
        clear hr9 row9 bel9 hb5 hbx z0 z1 z2 z3 z4 zl
        go_wp2_with (first | (at_builtin; refine wpList_append_run (o := ⟨some 24, _, _, _, _, _⟩) HR9.out rfl rfl rfl rfl ?_))
        go_roundg (n - (k + 1))
        case measure => omega
        case rel => exact ⟨k + 1, q + 1, c9, A9, rfl, by go_num, by omega, by omega, Lib.hid (by rw [HE1.out, List.length_append, HQ.out]; rfl), Lib.hid (by rw [HE1.out]; exact HRW9.out), HW9⟩
      | false =>
        have HOF := Lib.hid (only1_any x _ bk kd (HK.out.below HWA.out) false hof)
        have HE1 : Hid (((l.take (k + 1)).filter (ofKind kd)).map spanOf = ((l.take k).filter (ofKind kd)).map spanOf) := by show _ = _; rw [HKF.out, if_neg (by rw [hof]; simp), List.append_nil]
        clear hof
        go_wp2_with fail
        refine (HOF.out).mono ?_
        rintro e_r w5 ⟨rfl, hb5⟩
        have HW5 := Lib.hid (bel_on HWA.out hb5)
        have HR5 := Lib.hid (HRA.out.below hb5)
        clear hb5 z0 z1 z2 z3 z4 zl
        go_wp2
        go_roundg (n - (k + 1))
        case measure => omega
        case rel => exact ⟨k + 1, q, d, B, rfl, by go_num, by omega, by omega, Lib.hid (by rw [HE1.out]; exact HQ.out), Lib.hid (by rw [HE1.out]; exact HR5.out), HW5⟩
    · obtain rfl : k = n := by omega
      have e : l.take k = l := List.take_of_length_le (by omega)
      rw [e] at HR HQ
      have C := norm_any B d ((l.filter (ofKind kd)).map spanOf) wr (HR.out.spans HFT.out) (by have := HQ.out; omega)
      rw [HCK.out, HQ.out] at C
      have HC := Lib.hid C
      clear C e
      go_wp2_with fail
      refine HC.out.mono ?_
      intro e w4 hg
      have HG := gives_bel hg HW.out rfl
      clear hg
      obtain ⟨D, d4, rfl, hr, hb⟩ := HG
      go_wp2
      go_ret
      exact ⟨D, d4, rfl, hr, hb⟩
theorem sclock_any (A : Option Addr) (n c : Nat) (l : List SegP) (w : World) (h : Segs w A n c l) (hn : n ≤ 100000) (hF : ∀ s ∈ l, Fit s.fr ∧ Fit s.to) :
    Calls Tryz.prog 19 #[.slice A n c] w (Gives w (clockP l)) := by
  have HC := Lib.hid (secs_clock A n c l w h hn hF)
  rw [filter_true] at HC
  clear h hF
  go_enter Tryz.func19, Tryz.ntmps19
  go_wp2_with fail
  refine HC.out.mono ?_
  rintro e w4 ⟨D, d, rfl, hr, hb⟩
  go_wp2
  go_ret
  exact ⟨D, d, rfl, hr, hb⟩
theorem sonly_any (A : Option Addr) (n c : Nat) (l : List SegP) (kd : Int) (w : World) (h : Segs w A n c l) (hn : n ≤ 1000) (hF : ∀ s ∈ l, Fit s.fr ∧ Fit s.to) :
    Calls Tryz.prog 96 #[.slice A n c, .int .i64 kd] w (Gives w (clockP (l.filter (ofKind kd)))) := by
  have hb0 := bel_alloc (Below.refl w.heap.size w) (.cells #[.int .i64 kd] 3)
  have HC := Lib.hid (secs_only A n c l _ (h.below hb0) (by omega) hF w.heap.size kd (Has.new w 3 _ rfl))
  have HB := Lib.hid hb0
  clear h hF hb0
  go_enter Tryz.func96, Tryz.ntmps96
  go_wp2_with fail
  refine HC.out.mono ?_
  intro e w4 hg
  have HG := gives_bel hg HB.out rfl
  clear hg
  obtain ⟨D, d, rfl, hr, hb⟩ := HG
  go_wp2
  go_ret
  exact ⟨D, d, rfl, hr, hb⟩
end Go.Proofs.YtdlimgpmmkcgmaaGreat

namespace Go.Proofs.YtdlimgpmmkcgmaaGreat
set_option linter.unusedVariables false
set_option linter.unusedSimpArgs false
set_option maxRecDepth 20000

def onWk (p : Int → Prop) (k t : Int) : Prop := p t ∧ t / 604800 = k
noncomputable def regL (b : Bool) (s : SetP) (p : Int → Prop) (k : Int) : List (Int × Int) := if b = true then canon (regS (onWk p k) s.reg s.week) else []
noncomputable def ovrL (b : Bool) (s : SetP) (p : Int → Prop) (k : Int) : List (Int × Int) := if b = true then canon (ovrS (onWk p k) s.reg s.over s.week) else []
noncomputable def dblL (b : Bool) (s : SetP) (p : Int → Prop) (k : Int) : List (Int × Int) := if b = true then canon (dblS (onWk p k) s.over) else []
theorem reg_plain (b : Bool) (s : SetP) (p : Int → Prop) (k : Int) : PlainFrom 0 (regL b s p k) := by unfold regL; split; exact canon_plain _; trivial
theorem ovr_plain (b : Bool) (s : SetP) (p : Int → Prop) (k : Int) : PlainFrom 0 (ovrL b s p k) := by unfold ovrL; split; exact canon_plain _; trivial
theorem dbl_plain (b : Bool) (s : SetP) (p : Int → Prop) (k : Int) : PlainFrom 0 (dblL b s p k) := by unfold dblL; split; exact canon_plain _; trivial
section
variable {s : SetP} {p p' : Int → Prop} {k : Int}
theorem reg_mem {t : Int} (h0 : 0 ≤ t) (h1 : t < 32054400) : In (regL true s p k) t ↔ regS (onWk p k) s.reg s.week t := by unfold regL; rw [if_pos rfl, in_can h0 h1]
theorem ovr_mem {t : Int} (h0 : 0 ≤ t) (h1 : t < 32054400) : In (ovrL true s p k) t ↔ ovrS (onWk p k) s.reg s.over s.week t := by unfold ovrL; rw [if_pos rfl, in_can h0 h1]
theorem dbl_mem {t : Int} (h0 : 0 ≤ t) (h1 : t < 32054400) : In (dblL true s p k) t ↔ dblS (onWk p k) s.over t := by unfold dblL; rw [if_pos rfl, in_can h0 h1]
/-! ### OverMakes -/
theorem make3_mem (hm : s.May) {t : Int} (h0 : 0 ≤ t) (h1 : t < 32054400) : In ((regL true s p k ++ ovrL true s p k) ++ dblL true s p k) t ↔ onWk p k t := by
  rw [in_append, in_append, reg_mem h0 h1, ovr_mem h0 h1, dbl_mem h0 h1, over_or (W := onWk p k) hm.reg.2 t, or_assoc]
theorem make3_sz (hm : s.May) : sz (In (regL true s p k)) + sz (In (ovrL true s p k)) + sz (In (dblL true s p k)) = sz (In ((regL true s p k ++ ovrL true s p k) ++ dblL true s p k)) := by
  have e1 : sz (In ((regL true s p k ++ ovrL true s p k) ++ dblL true s p k)) = sz (onWk p k) := sz_congr fun t h0 h1 => make3_mem hm h0 h1
  have e2 : sz (In (regL true s p k)) = sz (regS (onWk p k) s.reg s.week) := sz_congr fun t h0 h1 => reg_mem h0 h1
  have e3 : sz (In (ovrL true s p k)) = sz (ovrS (onWk p k) s.reg s.over s.week) := sz_congr fun t h0 h1 => ovr_mem h0 h1
  have e4 : sz (In (dblL true s p k)) = sz (dblS (onWk p k) s.over) := sz_congr fun t h0 h1 => dbl_mem h0 h1
  rw [e1, e2, e3, e4]
  exact (over_sizes hm.reg.2).symm
/-! ### OverSizes -/
end
/-! ### OverWeeks -/
end Go.Proofs.YtdlimgpmmkcgmaaGreat

namespace Go.Proofs.YtdlimgpmmkcgmaaGreat
open Go.RowKit Go.Deep Go.WideShapes
set_option linter.unusedVariables false
set_option maxRecDepth 20000

theorem numsT_seg : NumsT Tryz.prog 59 5 := alli_struct Tryz.underlying59 (by kernel_rfl)
  ⟨rfl, nums_at_e numsT_int_e (by kernel_rfl), by kernel_rfl, nums_at_e numsT_int_e (by kernel_rfl), by kernel_rfl, nums_at_e numsT_int_e (by kernel_rfl), by kernel_rfl, nums_at_e numsT_int_e (by kernel_rfl), by kernel_rfl, nums_at_e numsT_int_e (by kernel_rfl), by change _ = _; kernel_rfl⟩
theorem seg_of_list {zs : List Int} (h : zs.length = 5) (hb : ∀ z ∈ zs, In64 z) : ∃ s : SegP, segL s = zs ∧ Fit s.fr ∧ Fit s.to ∧ In64 s.kd := by
  match zs, h with
  | [a, b, c, d, e], _ => exact ⟨⟨a, b, c, d, e⟩, rfl, hb a (by simp), hb b (by simp), hb c (by simp)⟩
/-- Rows of five numbers are parts. -/
theorem segs_of_rows : ∀ (t : Rows2), (∀ r ∈ t, r.length = 5) → (∀ r ∈ t, ∀ z ∈ r, In64 z) → ∃ l : List SegP, l.map segL = t ∧ ∀ s ∈ l, Fit s.fr ∧ Fit s.to
  | [], _, _ => ⟨[], rfl, fun e h => by simp at h⟩
  | r :: t, h1, h2 => by
    obtain ⟨l, hl, hi⟩ := segs_of_rows t (fun q hq => h1 q (by simp [hq])) (fun q hq => h2 q (by simp [hq]))
    obtain ⟨s, hs, f1, f2, _⟩ := seg_of_list (h1 r (by simp)) (h2 r (by simp))
    exact ⟨s :: l, by simp [hs, hl], fun x hx => by
      rcases List.mem_cons.1 hx with rfl | hx
      · exact ⟨f1, f2⟩
      · exact hi x hx⟩
theorem segs_open {H : Type} {enc : TypeId × Value → H} {w : World} {base : Nat} {held : Bool} {fuel : Nat} {cs : List Value} {x : DataW H × List MemPlace}
    (h : DataW.trod enc Tryz.prog w base (fun _ => true) held fuel 31 cs = some x) : ∃ A n c l, cs = [.slice A n c] ∧ Segs w A n c l ∧ (∀ s ∈ l, Fit s.fr ∧ Fit s.to) ∧ n ≤ c ∧ c ≤ 9223372036854775807 := by
  obtain ⟨A, n, c, rows, hcs, T⟩ := open_tab Tryz.underlying31 numsT_seg (by kernel_rfl) (by omega) h
  obtain ⟨l, hl, hi⟩ := segs_of_rows rows T.wide T.small
  refine ⟨A, n, c, l, hcs, ⟨by rw [hl]; exact T.sl, ?_⟩, hi, T.cap, T.max⟩
  rw [← T.len, ← hl, List.length_map]
end Go.Proofs.YtdlimgpmmkcgmaaGreat
