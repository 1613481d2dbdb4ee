/-
  The document's own answer of layer 12: the seconds of parts, of one kind; two lists that are the same.
  The document's own answer of layer 12: sessions.
  The days that have some: how they are put, one by one.
  The calls whose answers layer 11's document fixes: they are as it says; two lists of numbers that are the same.
  An argument of type []api.Seg, opened.
-/
import Derived.Test.YtbijaaglmhoopaaGreatStrRC
import Derived.Test.YtbijaaglmhoopaaGreatZas
import Derived.Test.YtbijaaglmhoopaaGreatZae
import Derived.Deep.SlicePairs
import Derived.Lib.SmallJoins
import Derived.ChangeArms
import Derived.OpenShut
import Derived.Deep.RegionHeld3
import Derived.Test.YtbijaaglmhoopaaGreatZan
import Derived.Test.YtbijaaglmhoopaaGreatZaj
import Derived.Test.YtbijaaglmhoopaaGreatZac
import Derived.Test.YtbijaaglmhoopaaGreatZaf
namespace Go.Proofs.YtbijaaglmhoopaaGreat
open Go.RowKit
set_option linter.unusedVariables false
set_option linter.unusedSimpArgs false
set_option maxRecDepth 20000

def SegP.none : SegP := ⟨0, 0, 0, 0, 0⟩
def FlagP.none : FlagP := ⟨0, 0⟩
/-- What a slice of structs of numbers reads as. -/
theorem rows_cell {k : Nat} {w : World} {b off n c : Nat} {t : Rows2} (h : Sl k w (some ⟨b, off, none⟩) n c (ints .i64 t.flatten)) (hl : t.length = n) (hw : ∀ r ∈ t, r.length = k) {i j : Nat} (hi : i < n) (hj : j < k) : w.cell? ⟨b, off + i * k + j, none⟩ = some (.int .i64 ((t.getD i []).getD j 0)) := by
  have hti : i < t.length := by omega
  obtain ⟨_, ⟨h0, _, _⟩ | ⟨ad, e, hc⟩⟩ := h
  · cases h0
  · injection e with e
    subst e
    have hg := rows_get t hw i j hti hj []
    rw [List.append_nil] at hg
    have hlt : k * i + j < t.flatten.length := by
      rw [rows_len t hw]
      have : k * i + k ≤ k * t.length := by rw [← Nat.mul_succ]; exact Nat.mul_le_mul_left k hti
      omega
    have hu : (ints .i64 t.flatten)[k * i + j]? = some (.int .i64 ((t.getD i []).getD j 0)) := by
      rw [ints, List.getElem?_map, List.getElem?_eq_getElem hlt, Option.map_some, ← hg, List.getD_eq_getElem?_getD, List.getElem?_eq_getElem hlt, Option.getD_some]
    have := hc _ _ hu
    rw [tab_add, ← Nat.add_assoc, Nat.mul_comm] at this
    exact this
theorem rows_form {k : Nat} {w : World} {A : Option Addr} {n c : Nat} {t : Rows2} (h : Sl k w A n c (ints .i64 t.flatten)) (hk : 0 < k) (hn : 0 < n) : ∃ b off, A = some ⟨b, off, none⟩ := by
  obtain ⟨hl, ⟨_, h0, _⟩ | ⟨ad, rfl, hc⟩⟩ := h
  · omega
  · have hp : 0 < n * k := Nat.mul_pos hn hk
    obtain ⟨u, hu⟩ : ∃ u, (ints .i64 t.flatten)[0]? = some u := ⟨_, List.getElem?_eq_getElem (by omega)⟩
    have h0 := hc 0 u hu
    obtain ⟨b, off, sp⟩ := ad
    have hsp : sp = none := by simpa [Addr.add] using World.cell?_spot h0
    subst hsp
    exact ⟨b, off, rfl⟩
def Segs (w : World) (A : Option Addr) (n c : Nat) (l : List SegP) : Prop := Sl 5 w A n c (ints .i64 (l.map segL).flatten) ∧ l.length = n
theorem Segs.below {w w' : World} {A : Option Addr} {n c : Nat} {l : List SegP} (h : Segs w A n c l) (hb : Below w.heap.size w w') : Segs w' A n c l := ⟨h.1.below hb, h.2⟩
theorem Segs.form {w : World} {A : Option Addr} {n c : Nat} {l : List SegP} (h : Segs w A n c l) (hn : 0 < n) : ∃ b off, A = some ⟨b, off, none⟩ := rows_form h.1 (by omega) hn
theorem segs_num {w : World} {b off n c : Nat} {l : List SegP} (h : Segs w (some ⟨b, off, none⟩) n c l) {i : Nat} (hi : i < n) (x : SegP) (hx : l.getD i SegP.none = x) :
    w.cell? ⟨b, off + i * 5, none⟩ = some (.int .i64 x.fr) ∧ w.cell? ⟨b, off + i * 5 + 1, none⟩ = some (.int .i64 x.to) ∧ w.cell? ⟨b, off + i * 5 + 2, none⟩ = some (.int .i64 x.kd) ∧ w.cell? ⟨b, off + i * 5 + 3, none⟩ = some (.int .i64 x.id) ∧ w.cell? ⟨b, off + i * 5 + 4, none⟩ = some (.int .i64 x.cd) := by
  have hl := h.2
  have hw : ∀ r ∈ l.map segL, r.length = 5 := fun r hr => by obtain ⟨y, _, rfl⟩ := List.mem_map.1 hr; rfl
  have e : (l.map segL).getD i [] = segL x := by rw [← hx]; simp [List.getD, show i < l.length by omega]
  have g := fun j hj => rows_cell h.1 (by simpa using hl) hw hi (j := j) hj
  rw [e] at g
  exact ⟨g 0 (by omega), g 1 (by omega), g 2 (by omega), g 3 (by omega), g 4 (by omega)⟩
def Flgs (w : World) (A : Option Addr) (n c : Nat) (l : List FlagP) : Prop := Sl 2 w A n c (ints .i64 (l.map flagL).flatten) ∧ l.length = n
theorem Flgs.below {w w' : World} {A : Option Addr} {n c : Nat} {l : List FlagP} (h : Flgs w A n c l) (hb : Below w.heap.size w w') : Flgs w' A n c l := ⟨h.1.below hb, h.2⟩
theorem Flgs.form {w : World} {A : Option Addr} {n c : Nat} {l : List FlagP} (h : Flgs w A n c l) (hn : 0 < n) : ∃ b off, A = some ⟨b, off, none⟩ := rows_form h.1 (by omega) hn
theorem flgs_num {w : World} {b off n c : Nat} {l : List FlagP} (h : Flgs w (some ⟨b, off, none⟩) n c l) {i : Nat} (hi : i < n) (x : FlagP) (hx : l.getD i FlagP.none = x) :
    w.cell? ⟨b, off + i * 2, none⟩ = some (.int .i64 x.id) ∧ w.cell? ⟨b, off + i * 2 + 1, none⟩ = some (.int .i64 x.kd) := by
  have hl := h.2
  have hw : ∀ r ∈ l.map flagL, r.length = 2 := fun r hr => by obtain ⟨y, _, rfl⟩ := List.mem_map.1 hr; rfl
  have e : (l.map flagL).getD i [] = flagL x := by rw [← hx]; simp [List.getD, show i < l.length by omega]
  have g := fun j hj => rows_cell h.1 (by simpa using hl) hw hi (j := j) hj
  rw [e] at g
  exact ⟨g 0 (by omega), g 1 (by omega)⟩
theorem SRow.segs {w : World} {base n c : Nat} {A : Option Addr} {l : List SegP} (h : SRow w base A n c l) (hn : l.length = n) : Segs w A n c l := ⟨Sl.of_own h, hn⟩
theorem FRow.flgs {w : World} {base n c : Nat} {A : Option Addr} {l : List FlagP} (h : FRow w base A n c l) (hn : l.length = n) : Flgs w A n c l := ⟨Sl.of_own h, hn⟩
theorem wp_build_sp {o : Oper} {a : Act} {w : World} {K : Act → World → Prop} {Q : Exit → Act → World → Prop} {y : Operand} (p q : Int)
    (ho : o.op = .buildSlice 41 1 #[(0, y)]) (hy : a.eval y = .agg #[.int .i64 p, .int .i64 q])
    (h : K (a.put o.dst (.slice (some ⟨w.heap.size, 0, none⟩) 1 1)) (w.alloc (.cells #[.int .i64 p, .int .i64 q] 54))) : o.wp Tryz.prog a w K Q := by
  unfold Oper.wp execOp
  simp only [ho, List.map_toArray, List.map_cons, List.map_nil, hy]
  go_simp
  exact h
theorem wpList_build_s {ops : Array Oper} {rest : List Oper} {o : Oper} {a : Act} {w : World} {Q : Exit → Act → World → Prop} (hgd : Region.wanted o (yielded ops a.tmps) = true) {y : Operand} (x : SegP)
    (ho : o.op = .buildSlice 32 1 #[(0, y)]) (hy : a.eval y = .agg #[.int .i64 x.fr, .int .i64 x.to, .int .i64 x.kd, .int .i64 x.id, .int .i64 x.cd])
    (h : wpList Tryz.prog ops Q rest (a.put o.dst (.slice (some ⟨w.heap.size, 0, none⟩) 1 1)) (w.alloc (.cells #[.int .i64 x.fr, .int .i64 x.to, .int .i64 x.kd, .int .i64 x.id, .int .i64 x.cd] 50))) : wpList Tryz.prog ops Q (o :: rest) a w := by
  refine wpList_step fun K hK => ?_
  rw [if_pos hgd]
  exact wp_build_s x ho hy (hK _ _ h)
theorem take_snoc_s {l : List SegP} {i : Nat} (h : i < l.length) : l.take (i + 1) = l.take i ++ [l.getD i SegP.none] := by
  rw [List.take_succ_eq_append_getElem h]
  simp [List.getD, h]
set_option maxHeartbeats 4000000 in
theorem ssame_any (A B : Option Addr) (n c d : Nat) (l : List SegP) (w : World) (ha : Segs w A n c l) (hb : Segs w B n d l) (hn : n ≤ 1000000) :
    Calls Tryz.prog 8 #[.slice A n c, .slice B n d] w fun e w' => e = .returned (.bool true) ∧ Below w.heap.size w w' := by
  have HA := Lib.hid ha
  have HB := Lib.hid hb
  clear ha hb
  go_enter Tryz.func8, Tryz.ntmps8
  go_wp2
  go_loopw [5] (fun i wr => ∃ (k : Nat), k ≤ n ∧ i = .int .i64 k ∧ Below w.heap.size w wr) (fun i _ => n - (intOf i).toNat)
  case atStart => exact ⟨0, Nat.zero_le _, rfl, Below.refl _ _⟩
  case round =>
    obtain ⟨k, hk, rfl, hbw⟩ := hrel
    by_cases hlt : k < n
    · have HA1 := HA.out.below hbw
      have HB1 := HB.out.below hbw
      obtain ⟨b, off, rfl⟩ := HA1.form (by omega)
      obtain ⟨b', off', rfl⟩ := HB1.form (by omega)
      obtain ⟨x, hx⟩ : ∃ x, l.getD k SegP.none = x := ⟨_, rfl⟩
      obtain ⟨z0, z1, z2, z3, z4⟩ := segs_num HA1 hlt x hx
      obtain ⟨y0, y1, y2, y3, y4⟩ := segs_num HB1 hlt x hx
      have hb1 := cell_lt z0
      have hb2 := cell_lt y0
      have i0 : (0 : Int) ≤ (k : Int) := by omega
      have i1 : (k : Int) < (n : Int) := by omega
      clear HA1 HB1
      go_wp2
      go_quiet (fail)
      go_wp2
      go_roundw
      case rel => exact ⟨k + 1, by omega, by go_num, below_drewN hbw _⟩
      case measure => simp [intOf]; omega
    · obtain rfl : k = n := by omega
      go_wp2
      go_ret
      exact ⟨rfl, hbw⟩
set_option maxHeartbeats 4000000 in
theorem fsame_any (A B : Option Addr) (n c d : Nat) (l : List FlagP) (w : World) (ha : Flgs w A n c l) (hb : Flgs w B n d l) (hn : n ≤ 1000000) :
    Calls Tryz.prog 9 #[.slice A n c, .slice B n d] w fun e w' => e = .returned (.bool true) ∧ Below w.heap.size w w' := by
  have HA := Lib.hid ha
  have HB := Lib.hid hb
  clear ha hb
  go_enter Tryz.func9, Tryz.ntmps9
  go_wp2
  go_loopw [5] (fun i wr => ∃ (k : Nat), k ≤ n ∧ i = .int .i64 k ∧ Below w.heap.size w wr) (fun i _ => n - (intOf i).toNat)
  case atStart => exact ⟨0, Nat.zero_le _, rfl, Below.refl _ _⟩
  case round =>
    obtain ⟨k, hk, rfl, hbw⟩ := hrel
    by_cases hlt : k < n
    · have HA1 := HA.out.below hbw
      have HB1 := HB.out.below hbw
      obtain ⟨b, off, rfl⟩ := HA1.form (by omega)
      obtain ⟨b', off', rfl⟩ := HB1.form (by omega)
      obtain ⟨x, hx⟩ : ∃ x, l.getD k FlagP.none = x := ⟨_, rfl⟩
      obtain ⟨z0, z1⟩ := flgs_num HA1 hlt x hx
      obtain ⟨y0, y1⟩ := flgs_num HB1 hlt x hx
      have hb1 := cell_lt z0
      have hb2 := cell_lt y0
      have i0 : (0 : Int) ≤ (k : Int) := by omega
      have i1 : (k : Int) < (n : Int) := by omega
      clear HA1 HB1
      go_wp2
      go_quiet (fail)
      go_wp2
      go_roundw
      case rel => exact ⟨k + 1, by omega, by go_num, below_drewN hbw _⟩
      case measure => simp [intOf]; omega
    · obtain rfl : k = n := by omega
      go_wp2
      go_ret
      exact ⟨rfl, hbw⟩
set_option maxHeartbeats 8000000 in
theorem rclock_any (A : Option Addr) (n c : Nat) (l : List SegP) (w : World) (h : Segs w A n c l) (hn : n ≤ 100000) (hF : ∀ s ∈ l, Fit s.fr ∧ Fit s.to) :
    Calls Tryz.prog 12 #[.slice A n c] w (Gives w (clockP l)) := by
  have hlen := h.2
  have HL := Lib.hid h
  have HCK := Lib.hid (clock_spans l)
  have HFT : Hid (Fits (l.map spanOf)) := fun y hy => by obtain ⟨s, hs, rfl⟩ := List.mem_map.1 hy; exact hF s hs
  clear h hF
  go_enter Tryz.func12, Tryz.ntmps12
  go_wp2
  go_loopw [3, 4] (fun o i wr => ∃ (k : Nat) (B : Option Addr) (d q : Nat), k ≤ n ∧ i = .int .i64 k ∧ o = .slice B q d ∧ ((l.take k).map spanOf).length = q ∧ Hid (Row wr w.heap.size B d ((l.take k).map spanOf)) ∧ Hid (Below w.heap.size w wr)) (fun _ i _ => n - (intOf i).toNat)
  case atStart => exact ⟨0, none, 0, 0, Nat.zero_le _, rfl, rfl, by simp, by simp; exact Row.nil _ _, Below.refl _ _⟩
  case round =>
    obtain ⟨k, B, d, q, hk, rfl, rfl, hq, HR, HW⟩ := hrel
    have hqk : q = k := by rw [← hq, List.length_map, List.length_take]; omega
    by_cases hlt : k < n
    · have HLr := Lib.hid (HL.out.below HW.out)
      obtain ⟨ba, oa, rfl⟩ := HLr.out.form (by omega)
      obtain ⟨x, hx⟩ : ∃ x, l.getD k SegP.none = x := ⟨_, rfl⟩
      have HX := Lib.hid hx
      have HNX : Hid ((l.take (k + 1)).map spanOf = (l.take k).map spanOf ++ [(x.fr, x.to)]) := by show _ = _; rw [take_snoc_s (by omega), List.map_append, hx]; rfl
      have i2 : (0 : Int) ≤ (k : Int) := by omega
      have i3 : (k : Int) < (n : Int) := by omega
      have hqk2 := hqk.symm
      subst hqk2
      clear hx
      have hbw := HW.out
      go_wp2_with fail
      refine wp_region_noPanic ?_
      refine wp_region_held_drew (S := fun w' => Below w.heap.size w w') (by kernel_rfl) (below_drew (HW.out)) (fun hHeld => ?_)
      refine wpAnyH_take (i := 0) (oi := ⟨some 11, _, _, _, _, _⟩) (v := ?_) rfl (by kernel_rfl) (by kernel_rfl) (by kernel_rfl) (fun _ _ _ h => h) (Or.inl ⟨by rfl, ?_⟩) hHeld ?_
      rotate_left
      · intro ww hSw
        (try dsimp only at hSw)
        go_simp
        (try with_reducible rfl)
      simp only [Act.put, List.setIfInBounds_toArray, List.set_cons_zero, List.set_cons_succ]
      refine wpAnyH_take (i := 1) (oi := ⟨some 12, _, _, _, _, _⟩) (v := ?_) rfl (by kernel_rfl) (by kernel_rfl) (by kernel_rfl) (fun _ _ _ h => h) (Or.inl ⟨by rfl, ?_⟩) hHeld ?_
      rotate_left
      · intro ww hSw
        (try dsimp only at hSw)
        go_simp
        (try with_reducible rfl)
      simp only [Act.put, List.setIfInBounds_toArray, List.set_cons_zero, List.set_cons_succ]
      refine wpAnyH_take (i := 2) (oi := ⟨some 13, _, _, _, _, _⟩) (v := ?_) rfl (by kernel_rfl) (by kernel_rfl) (by kernel_rfl) (fun _ _ _ h => h) (Or.inl ⟨by rfl, ?_⟩) hHeld ?_
      rotate_left
      · intro ww hSw
        (try dsimp only at hSw)
        go_simp
        (try with_reducible rfl)
      simp only [Act.put, List.setIfInBounds_toArray, List.set_cons_zero, List.set_cons_succ]
      refine wpAnyH_take (i := 3) (oi := ⟨some 14, _, _, _, _, _⟩) (v := .pointer (some ⟨ba, oa + k * 5, none⟩)) rfl (by kernel_rfl) (by kernel_rfl) (by kernel_rfl) (fun _ _ _ h => h) (Or.inl ⟨by rfl, ?_⟩) hHeld ?_
      · intro ww hSw
        (try dsimp only at hSw)
        go_simp
      simp only [Act.put, List.setIfInBounds_toArray, List.set_cons_zero, List.set_cons_succ]
      refine wpAnyH_take (i := 4) (oi := ⟨some 15, _, _, _, _, _⟩) (v := ?_) rfl (by kernel_rfl) (by kernel_rfl) (by kernel_rfl) (fun _ _ _ h => h) (Or.inl ⟨by rfl, ?_⟩) hHeld ?_
      rotate_left
      · intro ww hSw
        (try dsimp only at hSw)
        go_simp
        (try with_reducible rfl)
      simp only [Act.put, List.setIfInBounds_toArray, List.set_cons_zero, List.set_cons_succ]
      refine wpAnyH_take (i := 5) (oi := ⟨some 16, _, _, _, _, _⟩) (v := .int .i64 x.fr) rfl (by kernel_rfl) (by kernel_rfl) (by kernel_rfl) (fun _ _ _ h => h) (Or.inl ⟨by rfl, ?_⟩) hHeld ?_
      · intro ww hSw
        (try dsimp only at hSw)
        have zc := (segs_num (HL.out.below hSw) hlt x HX.out).1
        have zl := cell_lt zc
        go_simp
      simp only [Act.put, List.setIfInBounds_toArray, List.set_cons_zero, List.set_cons_succ]
      refine wpAnyH_take (i := 6) (oi := ⟨some 17, _, _, _, _, _⟩) (v := ?_) rfl (by kernel_rfl) (by kernel_rfl) (by kernel_rfl) (fun _ _ _ h => h) (Or.inl ⟨by rfl, ?_⟩) hHeld ?_
      rotate_left
      · intro ww hSw
        (try dsimp only at hSw)
        go_simp
        (try with_reducible rfl)
      simp only [Act.put, List.setIfInBounds_toArray, List.set_cons_zero, List.set_cons_succ]
      refine wpAnyH_take (i := 7) (oi := ⟨some 18, _, _, _, _, _⟩) (v := ?_) rfl (by kernel_rfl) (by kernel_rfl) (by kernel_rfl) (fun _ _ _ h => h) (Or.inl ⟨by rfl, ?_⟩) hHeld ?_
      rotate_left
      · intro ww hSw
        (try dsimp only at hSw)
        go_simp
        (try with_reducible rfl)
      simp only [Act.put, List.setIfInBounds_toArray, List.set_cons_zero, List.set_cons_succ]
      refine wpAnyH_take (i := 8) (oi := ⟨some 19, _, _, _, _, _⟩) (v := .pointer (some ⟨ba, oa + k * 5, none⟩)) rfl (by kernel_rfl) (by kernel_rfl) (by kernel_rfl) (fun _ _ _ h => h) (Or.inl ⟨by rfl, ?_⟩) hHeld ?_
      · intro ww hSw
        (try dsimp only at hSw)
        go_simp
      simp only [Act.put, List.setIfInBounds_toArray, List.set_cons_zero, List.set_cons_succ]
      refine wpAnyH_take (i := 9) (oi := ⟨some 20, _, _, _, _, _⟩) (v := ?_) rfl (by kernel_rfl) (by kernel_rfl) (by kernel_rfl) (fun _ _ _ h => h) (Or.inl ⟨by rfl, ?_⟩) hHeld ?_
      rotate_left
      · intro ww hSw
        (try dsimp only at hSw)
        go_simp
        (try with_reducible rfl)
      simp only [Act.put, List.setIfInBounds_toArray, List.set_cons_zero, List.set_cons_succ]
      refine wpAnyH_take (i := 10) (oi := ⟨some 21, _, _, _, _, _⟩) (v := .int .i64 x.to) rfl (by kernel_rfl) (by kernel_rfl) (by kernel_rfl) (fun _ _ _ h => h) (Or.inl ⟨by rfl, ?_⟩) hHeld ?_
      · intro ww hSw
        (try dsimp only at hSw)
        have zc := (segs_num (HL.out.below hSw) hlt x HX.out).2.1
        have zl := cell_lt zc
        go_simp
      simp only [Act.put, List.setIfInBounds_toArray, List.set_cons_zero, List.set_cons_succ]
      refine wpAnyH_take (i := 11) (oi := ⟨some 22, _, _, _, _, _⟩) (v := ?_) rfl (by kernel_rfl) (by kernel_rfl) (by kernel_rfl) (fun _ _ _ h => h) (Or.inl ⟨by rfl, ?_⟩) hHeld ?_
      rotate_left
      · intro ww hSw
        (try dsimp only at hSw)
        go_simp
        (try with_reducible rfl)
      simp only [Act.put, List.setIfInBounds_toArray, List.set_cons_zero, List.set_cons_succ]
      have HR6 := Lib.hid HR.out.drew
      have HW6 := Lib.hid (below_drew HW.out)
      generalize wr.drew = w6 at *
      obtain ⟨A9, c9, w9, hr9, row9, bel9, -, -, -⟩ := row_push HR6.out x.fr x.to (by omega) HW6.out.size (s := w6.heap.size) rfl
      rw [hq] at hr9
      have HR9 := Lib.hid hr9
      have HW9 := Lib.hid (bel9 w (Nat.le_refl _) HW6.out)
      have HRW9 := Lib.hid row9
      clear hr9 row9 bel9
      refine wpAnyH_ready (rs := [12]) (by kernel_rfl) (by simp) ?_
      refine AllReadyH.cons (o := ⟨some 23, _, _, _, _, _⟩) rfl (fun K hK => ?_) AllReadyH.nil
      rw [if_pos (by rfl)]
      refine wp_build_sp x.fr x.to rfl rfl ?_
      refine hK.out _ _ ?_ (fun hHeld => ?_)
      · (try dsimp only)
        exact bel_alloc HW6.out _
      clear hK K
      (try simp only [Act.put, List.setIfInBounds_toArray, List.set_cons_zero, List.set_cons_succ])
      refine wpAnyH_ready (rs := [13]) (by kernel_rfl) (by simp) ?_
      refine AllReadyH.cons (o := ⟨some 24, _, _, _, _, _⟩) rfl (fun K hK => ?_) AllReadyH.nil
      rw [if_pos (by rfl)]
      refine wp_append_run8 HR9.out rfl rfl rfl ?_
      refine hK.out _ _ ?_ (fun hHeld => ?_)
      · (try dsimp only)
        exact HW9.out
      clear hK K
      (try simp only [Act.put, List.setIfInBounds_toArray, List.set_cons_zero, List.set_cons_succ])
      refine wpAnyH_take (i := 14) (oi := ⟨some 3, _, _, _, _, _⟩) (v := ?_) rfl (by kernel_rfl) (by kernel_rfl) (by kernel_rfl) (fun _ _ _ h => h) (Or.inl ⟨by rfl, ?_⟩) hHeld ?_
      rotate_left
      · intro ww hSw
        (try dsimp only at hSw)
        go_simp
        (try with_reducible rfl)
      simp only [Act.put, List.setIfInBounds_toArray, List.set_cons_zero, List.set_cons_succ]
      refine wpAnyH_done (by kernel_rfl) ?_ _
      refine NoPanic.normal ?_
      go_wp2
      go_roundw
      case rel => exact ⟨k + 1, A9, c9, k + 1, by omega, by go_num, rfl, by rw [HNX.out, List.length_append, hq]; rfl, by rw [HNX.out]; exact HRW9.out, HW9⟩
      case measure => simp [intOf]; omega
    · obtain rfl : k = n := by omega
      have e : l.take k = l := List.take_of_length_le (by omega)
      rw [e] at HR hq
      have hqk2 := hqk.symm
      subst hqk2
      have C := rnorm_any B d (l.map spanOf) wr (HR.out.spans HFT.out) (by omega)
      rw [HCK.out, hq] at C
      have HC := Lib.hid C
      clear C
      go_wp2_with fail
      refine HC.out.mono ?_
      intro e w4 hg
      have HG := gives_bel hg HW.out rfl
      clear hg
      obtain ⟨D, d4, rfl, hr, hb⟩ := HG
      go_wp2
      go_ret
      exact ⟨D, d4, rfl, hr, hb⟩
def ofKind (k : Int) (s : SegP) : Bool := decide (s.kd = k)
theorem kind_filter (p : SegP → Bool) (l : List SegP) (k : Nat) (h : k < l.length) : (l.take (k + 1)).filter p = (l.take k).filter p ++ (if p (l.getD k SegP.none) = true then [l.getD k SegP.none] else []) := by
  rw [take_snoc_s h, List.filter_append]
  congr 1
  by_cases q : p (l.getD k SegP.none) = true
  · rw [if_pos q, List.filter_cons_of_pos q]; rfl
  · rw [if_neg q, List.filter_cons_of_neg q]; rfl
set_option maxHeartbeats 8000000 in
theorem ronly_any (A : Option Addr) (n c : Nat) (l : List SegP) (kd : Int) (w : World) (h : Segs w A n c l) (hn : n ≤ 1000) (hF : ∀ s ∈ l, Fit s.fr ∧ Fit s.to) :
    Calls Tryz.prog 14 #[.slice A n c, .int .i64 kd] w (Gives w (clockP (l.filter (ofKind kd)))) := by
  have hlen := h.2
  have HL := Lib.hid h
  have HFT : Hid (∀ s ∈ l.filter (ofKind kd), Fit s.fr ∧ Fit s.to) := fun s hs => hF s (List.mem_filter.1 hs).1
  clear h hF
  go_enter Tryz.func14, Tryz.ntmps14
  go_wp2
  go_loopw [5, 6] (fun o i wr => ∃ (k : Nat) (B : Option Addr) (d q : Nat), k ≤ n ∧ i = .int .i64 k ∧ o = .slice B q d ∧ q ≤ k ∧ ((l.take k).filter (ofKind kd)).length = q ∧ Hid (SRow wr w.heap.size B q d ((l.take k).filter (ofKind kd))) ∧ Hid (Below w.heap.size w wr)) (fun _ i _ => n - (intOf i).toNat)
  case atStart => exact ⟨0, none, 0, 0, Nat.zero_le _, rfl, rfl, Nat.le_refl _, by simp, by simp; exact TRow.nil _ _, Below.refl _ _⟩
  case round =>
    obtain ⟨k, B, d, q, hk, rfl, rfl, hqk, hq, HR, HW⟩ := hrel
    by_cases hlt : k < n
    · have HLr := Lib.hid (HL.out.below HW.out)
      obtain ⟨ba, oa, rfl⟩ := HLr.out.form (by omega)
      obtain ⟨x, hx⟩ : ∃ x, l.getD k SegP.none = x := ⟨_, rfl⟩
      have HNX := Lib.hid (kind_filter (ofKind kd) l k (by omega))
      rw [hx] at HNX
      obtain ⟨z0, z1, z2, z3, z4⟩ := segs_num HLr.out hlt x hx
      have hz := cell_lt z0
      have i2 : (0 : Int) ≤ (k : Int) := by omega
      have i3 : (k : Int) < (n : Int) := by omega
      clear hx
      by_cases hk : x.kd = kd
      · have hk' : (x.kd == kd) = true := by simpa using hk
        have HP : Hid ((if ofKind kd x = true then [x] else []) = [x]) := by show _ = _; rw [if_pos (by simp [ofKind, hk])]
        obtain ⟨A9, c9, w9, hr9, row9, kp9⟩ := srow_one HR.out x (by omega) HW.out.size (s := wr.heap.size) rfl
        have HR9 := Lib.hid hr9
        have HW9 := Lib.hid (below_kept0 HW.out kp9)
        have HRW9 := Lib.hid row9
        clear hr9 row9 kp9 hk
        go_wp2_with (first | refine wpList_build_s (o := ⟨some 25, _, _, _, _, _⟩) rfl x rfl rfl ?_ | (at_builtin; refine wpList_append_run (o := ⟨some 26, _, _, _, _, _⟩) HR9.out rfl rfl rfl rfl ?_))
        go_roundw
        case rel => exact ⟨k + 1, A9, c9, q + 1, by omega, by go_num, rfl, by omega, by rw [HNX.out, HP.out, List.length_append, hq]; rfl, by rw [HNX.out, HP.out]; exact HRW9.out, HW9⟩
        case measure => simp [intOf]; omega
      · have hk' : (x.kd == kd) = false := beq_eq_false_iff_ne.2 hk
        have HP : Hid ((if ofKind kd x = true then [x] else []) = []) := by show _ = _; rw [if_neg (by simp [ofKind, hk])]
        go_wp2
        go_roundw
        case rel => exact ⟨k + 1, B, d, q, by omega, by go_num, rfl, by omega, by rw [HNX.out, HP.out, List.append_nil]; exact hq, by rw [HNX.out, HP.out, List.append_nil]; exact HR, HW⟩
        case measure => simp [intOf]; omega
    · obtain rfl : k = n := by omega
      have e : l.take k = l := List.take_of_length_le (by omega)
      rw [e] at HR hq
      have HC := Lib.hid (rclock_any B q d (l.filter (ofKind kd)) wr (SRow.segs HR.out hq) (by omega) HFT.out)
      go_wp2_with fail
      refine HC.out.mono ?_
      intro e w4 hg
      have HG := gives_bel hg HW.out rfl
      clear hg
      obtain ⟨D, d4, rfl, hr, hb⟩ := HG
      go_wp2
      go_ret
      exact ⟨D, d4, rfl, hr, hb⟩
end Go.Proofs.YtbijaaglmhoopaaGreat

namespace Go.Proofs.YtbijaaglmhoopaaGreat
open Go.RowKit
set_option linter.unusedVariables false
set_option linter.unusedSimpArgs false
set_option maxRecDepth 20000

theorem evs_first {w : World} {A : Option Addr} {m c : Nat} {l : List EvP} (h : Evs w A m c l) (n : Nat) (hn : n ≤ m) : Evs w A n c (l.take n) := by
  have hl := h.2
  obtain ⟨⟨hl', ⟨rfl, rfl, rfl⟩ | ⟨ad, rfl, hc⟩⟩, _⟩ := h
  · obtain rfl : n = 0 := by omega
    exact ⟨⟨by rw [evs_len]; simp, .inl ⟨rfl, rfl, rfl⟩⟩, by simp⟩
  · refine ⟨⟨by rw [evs_len, List.length_take]; omega, .inr ⟨ad, rfl, fun j u hu => hc j u ?_⟩⟩, by rw [List.length_take]; omega⟩
    rw [evs_take, List.getElem?_take] at hu
    split at hu
    · exact hu
    · cases hu
theorem evcut_mid {w : World} {A : Option Addr} {m c : Nat} {l : List EvP} (h : Evs w A m c l) (hmc : m ≤ c) (n k : Nat) (hn : n ≤ k) (hk : k ≤ m) :
    ∃ A', (∀ w', (Instr.sliceAt 31 (.slice A m c) (some (.int .i64 (n : Int))) (some (.int .i64 (k : Int))) none).run Tryz.prog w' = .ok (.slice A' (k - n) (c - n)) w') ∧ Evs w A' (k - n) (c - n) ((l.drop n).take (k - n)) := by
  have hl := h.2
  have hrun : ∀ w', (Instr.sliceAt 31 (.slice A m c) (some (.int .i64 (n : Int))) (some (.int .i64 (k : Int))) none).run Tryz.prog w' = .ok (.slice (if c = n then A else A.map (·.add (n * 11))) (k - n) (c - n)) w' := by
    intro w'
    rw [run_sliceAt_slice _ _ _ _ _ _ Tryz.underlying31, run_slice_lh _ _ _ _ _ Tryz.underlying31 .i64 .i64 (n : Int) (k : Int) (by omega) (by omega) (by omega), ev_size]
    simp [sliced, Result.andThen]
  obtain ⟨A2, hrun2, hs2⟩ := evcut_from h hmc n (by omega)
  have hrun3 : ∀ w', (Instr.sliceAt 31 (.slice A m c) (some (.int .i64 (n : Int))) none none).run Tryz.prog w' = .ok (.slice (if c = n then A else A.map (·.add (n * 11))) (m - n) (c - n)) w' := by
    intro w'
    rw [run_sliceAt_slice _ _ _ _ _ _ Tryz.underlying31, run_slice_l _ _ _ _ _ Tryz.underlying31 .i64 (n : Int) (by omega) (by omega), ev_size]
    simp [sliced, Result.andThen]
  have e := (hrun2 w).symm.trans (hrun3 w)
  injection e with e e'
  injection e with e1
  subst e1
  exact ⟨_, hrun, evs_first hs2 (k - n) (by omega)⟩
theorem STwo.drew {w0 w : World} {A B : Option Addr} {n c m d : Nat} {l : List SegP} {f : List FlagP} (h : STwo w0 w A n c l B m d f) : STwo w0 w.drew A n c l B m d f := ⟨h.a.drew, h.b.drew, h.ne, below_drew h.bel⟩
/-- What a worker's sessions are, of a setup. -/
def itemsOf (s : SetP) (wk : Int) (l : List EvP) : List ItemP := itemsS s.cap none (wevs (mayE s.places s.elements.length s.classes.length s.gears.length s.rates.length) wk l)
def segsOf (s : SetP) (wk : Int) (l : List EvP) : List SegP := if checkB s = true then segsS (fun t => roundP t s.unit) (itemsOf s wk l) else []
def flagsOf (s : SetP) (wk : Int) (l : List EvP) : List FlagP := if checkB s = true then flagsS (itemsOf s wk l) else []
/-- What Of answers. -/
def GivesT (w : World) (S : List SegP) (F : List FlagP) (e : Ending) (w' : World) : Prop :=
  ∃ A c B d, e = .returned (.tuple #[.slice A S.length c, .slice B F.length d]) ∧ STwo w w' A S.length c S B F.length d F
theorem wevs_ok {pl : Int} {nE nC nG nR : Nat} {wk : Int} {l : List EvP} : ∀ x ∈ wevs (mayE pl nE nC nG nR) wk l, x.May pl nE nC nG nR ∧ x.wk = wk ∧ x.kd ≠ 7 ∧ 0 ≤ x.tm ∧ x.tm ≤ 31449599 := fun x hx => by
  have h := ((wevs_mem _ wk l x).1 hx).2
  simp only [ofW, mayE, Bool.and_eq_true, decide_eq_true_eq] at h
  exact ⟨h.1.1, h.1.2, h.2, h.1.1.1.tm⟩
theorem wevs_len (may : EvP → Bool) (wk : Int) (l : List EvP) : (wevs may wk l).length ≤ l.length := by
  unfold wevs
  rw [← sortE_length l]
  exact List.length_filter_le _ _
/-- The items from one event of a session's first on. -/
theorem items_first (cap : Int) (x : EvP) (r : List EvP) (k : Nat) (tz fl : Int) (hE : endP (x.tm + cap) r = (k, tz, fl)) (hx : x.kd = 1) :
    itemsS cap none (x :: r) = .sess x (r.take k) tz fl :: itemsS cap none (r.drop (if fl = 0 then k + 1 else k)) := by
  have e1 : itemsS cap none (x :: r) = itemsS cap (some (x, [])) r := by simp [itemsS, stepS, hx]
  rw [e1, items_end, hE]
  simp
theorem items_out (cap : Int) (x : EvP) (r : List EvP) (hx : ¬ x.kd = 1) : itemsS cap none (x :: r) = .out x :: itemsS cap none r := by simp [itemsS, stepS, hx]
end Go.Proofs.YtbijaaglmhoopaaGreat

namespace Go.Proofs.YtbijaaglmhoopaaGreat
open Go.RowKit
set_option linter.unusedVariables false
set_option linter.unusedSimpArgs false
set_option maxRecDepth 20000

/-! ### A number more -/
theorem NRow.far {w : World} {base c : Nat} {A : Option Addr} {xs : List Int} (h : NRow w base A c xs) {p : Addr} (hp : ∀ g, A = some g → g.block ≠ p.block) (u : Value) : NRow (w.setCell p u) base A c xs :=
  h.keep fun g hg => Below.heap_setCell w p u _ (hp g hg)

end Go.Proofs.YtbijaaglmhoopaaGreat

namespace Go.Proofs.YtbijaaglmhoopaaGreat
open Go.RowKit
set_option linter.unusedVariables false
set_option linter.unusedSimpArgs false
set_option maxRecDepth 20000

theorem round_bel (t u r : Int) (w : World) (hu' : u ≤ 9223372036854775807) (hr : roundP t u = r) : Calls Tryz.prog 67 #[.int .i64 t, .int .i64 u] w fun e w' => e = .returned (.int .i64 r) ∧ Below w.heap.size w w' := by
  subst hr
  refine (round_any t u w hu').mono ?_
  rintro e w' ⟨rfl, n, rfl⟩
  exact ⟨rfl, below_drewN (Below.refl _ _) n⟩
end Go.Proofs.YtbijaaglmhoopaaGreat

namespace Go.Proofs.YtbijaaglmhoopaaGreat
open Go.RowKit Go.Deep Go.WideShapes
set_option linter.unusedVariables false
set_option maxRecDepth 20000

theorem numsT_seg : NumsT Tryz.prog 50 5 := alli_struct Tryz.underlying50 (by kernel_rfl)
  ⟨rfl, nums_at_e numsT_int_e (by kernel_rfl), by kernel_rfl, nums_at_e numsT_int_e (by kernel_rfl), by kernel_rfl, nums_at_e numsT_int_e (by kernel_rfl), by kernel_rfl, nums_at_e numsT_int_e (by kernel_rfl), by kernel_rfl, nums_at_e numsT_int_e (by kernel_rfl), by change _ = _; kernel_rfl⟩
theorem seg_of_list {zs : List Int} (h : zs.length = 5) (hb : ∀ z ∈ zs, In64 z) : ∃ s : SegP, segL s = zs ∧ Fit s.fr ∧ Fit s.to ∧ In64 s.kd := by
  match zs, h with
  | [a, b, c, d, e], _ => exact ⟨⟨a, b, c, d, e⟩, rfl, hb a (by simp), hb b (by simp), hb c (by simp)⟩
/-- Rows of five numbers are parts. -/
theorem segs_of_rows : ∀ (t : Rows2), (∀ r ∈ t, r.length = 5) → (∀ r ∈ t, ∀ z ∈ r, In64 z) → ∃ l : List SegP, l.map segL = t ∧ ∀ s ∈ l, Fit s.fr ∧ Fit s.to
  | [], _, _ => ⟨[], rfl, fun e h => by simp at h⟩
  | r :: t, h1, h2 => by
    obtain ⟨l, hl, hi⟩ := segs_of_rows t (fun q hq => h1 q (by simp [hq])) (fun q hq => h2 q (by simp [hq]))
    obtain ⟨s, hs, f1, f2, _⟩ := seg_of_list (h1 r (by simp)) (h2 r (by simp))
    exact ⟨s :: l, by simp [hs, hl], fun x hx => by
      rcases List.mem_cons.1 hx with rfl | hx
      · exact ⟨f1, f2⟩
      · exact hi x hx⟩
theorem segs_open {H : Type} {enc : TypeId × Value → H} {w : World} {base : Nat} {held : Bool} {fuel : Nat} {cs : List Value} {x : DataW H × List MemPlace}
    (h : DataW.trod enc Tryz.prog w base (fun _ => true) held fuel 32 cs = some x) : ∃ A n c l, cs = [.slice A n c] ∧ Segs w A n c l ∧ (∀ s ∈ l, Fit s.fr ∧ Fit s.to) ∧ n ≤ c ∧ c ≤ 9223372036854775807 := by
  obtain ⟨A, n, c, rows, hcs, T⟩ := open_tab Tryz.underlying32 numsT_seg (by kernel_rfl) (by omega) h
  obtain ⟨l, hl, hi⟩ := segs_of_rows rows T.wide T.small
  refine ⟨A, n, c, l, hcs, ⟨by rw [hl]; exact T.sl, ?_⟩, hi, T.cap, T.max⟩
  rw [← T.len, ← hl, List.length_map]
end Go.Proofs.YtbijaaglmhoopaaGreat
