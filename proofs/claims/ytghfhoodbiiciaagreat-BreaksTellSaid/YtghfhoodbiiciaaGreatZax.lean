/-
  Arguments that hold spans: a slice of them, as the walks are told of it.
  The document's own answer of layer 12: the seconds of parts, of one kind; two lists that are the same.
  Package stream's Clock and Only: the seconds of parts.
  The calls whose answers layer 14's document fixes: they are as it says; few; what the laws are walked by.
-/
import Derived.Test.YtghfhoodbiiciaaGreatZac
import Derived.Deep.SlicePairs
import Derived.Lib.SmallJoins
import Derived.ChangeArms
import Derived.OpenShut
import Derived.Test.YtghfhoodbiiciaaGreatZaw
import Derived.Test.YtghfhoodbiiciaaGreatZah
import Derived.Deep.RegionHeld3
import Derived.Test.YtghfhoodbiiciaaGreatZad
import Derived.Test.YtghfhoodbiiciaaGreatZas
import Derived.Test.YtghfhoodbiiciaaGreatZag
import Derived.Test.YtghfhoodbiiciaaGreatZav
import Derived.Deep.DeepCutAuto
namespace Go.Proofs.YtghfhoodbiiciaaGreat
open Go.RowKit Go.Deep

theorem open_spans {H : Type} {enc : TypeId × Value → H} {P : Program} {w : World} {base : Nat} {spare : Nat → Bool} {held : Bool} {t e i : TypeId} {f0 f1 : Field} {fuel : Nat} {A : Option Addr} {len cap : Nat} {x : DataW H × List MemPlace}
    (ht : P.underlying t = some (.slice e)) (he : P.underlying e = some (.struct #[f0, f1])) (ce : P.cellsOf e = 2) (o0 : f0.offset = 0) (o1 : f1.offset = 1) (c0 : P.cellsOf f0.type = 1) (c1 : P.cellsOf f1.type = 1)
    (t0 : f0.type = i) (t1 : f1.type = i) (hi : P.underlying i = some (.int .i64)) (h : DataW.trod enc P w base spare held fuel t [.slice A len cap] = some x) :
    ∃ xs : List (Int × Int), xs.length = len ∧ len ≤ 9223372036854775807 ∧ Spans w A xs ∧ (A = none → cap = 0) := by
  rcases open_slice_pairs ht he ce o0 o1 c0 c1 h with ⟨hcs, _⟩ | ⟨a, len', cap', m, n, V0, V1, D0, D1, P0, P1, hcs, _, hl, hm, hmm, _, hx⟩
  · simp at hcs
    obtain ⟨rfl, rfl, rfl⟩ := hcs
    exact ⟨[], rfl, by omega, Spans.nil _ _, fun _ => rfl⟩
  · simp at hcs
    obtain ⟨rfl, rfl, rfl⟩ := hcs
    have hle : len ≤ m := by rw [hmm]; split <;> omega
    have key : ∀ k, k < len → ∃ z0 z1, V0 k = .int .i64 z0 ∧ V1 k = .int .i64 z1 ∧ Fit z0 ∧ Fit z1 := fun k hk => by
      obtain ⟨h0, h1, g0, g1⟩ := hx k (by omega)
      obtain ⟨z0, e0, _, w0⟩ := DataW.trod_int (t0 ▸ hi) g0
      obtain ⟨z1, e1, _, w1⟩ := DataW.trod_int (t1 ▸ hi) g1
      simp at e0 e1
      exact ⟨z0, z1, e0, e1, bounds_i64 w0, bounds_i64 w1⟩
    refine ⟨(List.range len).map fun i => (intOf (V0 i), intOf (V1 i)), by simp, by simp only [maxLen] at hm; omega, ⟨fun y hy => ?_, fun k hk => ?_⟩, fun h => by cases h⟩
    · simp only [List.mem_map, List.mem_range] at hy
      obtain ⟨k, hk, rfl⟩ := hy
      obtain ⟨z0, z1, e0, e1, b0, b1⟩ := key k hk
      simp only [e0, e1, intOf]
      exact ⟨b0, b1⟩
    · simp at hk
      obtain ⟨h0, h1, g0, g1⟩ := hx k (by omega)
      obtain ⟨z0, z1, e0, e1, b0, b1⟩ := key k hk
      obtain ⟨b, off, sp⟩ := a
      have hsp : sp = none := by simpa [Addr.add] using World.cell?_spot (hx 0 (by omega)).1
      subst hsp
      rw [add_none] at h0 h1
      refine ⟨b, off, rfl, cell_lt h0, ?_, ?_⟩
      · rw [h0, e0]; simp [List.getD, hk, e0, intOf]
      · rw [Nat.add_assoc, h1, e1]; simp [List.getD, hk, e1, intOf]
end Go.Proofs.YtghfhoodbiiciaaGreat

namespace Go.Proofs.YtghfhoodbiiciaaGreat
open Go.RowKit
set_option linter.unusedVariables false
set_option linter.unusedSimpArgs false
set_option maxRecDepth 20000

def SegP.none : SegP := ⟨0, 0, 0, 0, 0⟩
def FlagP.none : FlagP := ⟨0, 0⟩
/-- What a slice of structs of numbers reads as. -/
theorem rows_cell {k : Nat} {w : World} {b off n c : Nat} {t : Rows2} (h : Sl k w (some ⟨b, off, none⟩) n c (ints .i64 t.flatten)) (hl : t.length = n) (hw : ∀ r ∈ t, r.length = k) {i j : Nat} (hi : i < n) (hj : j < k) : w.cell? ⟨b, off + i * k + j, none⟩ = some (.int .i64 ((t.getD i []).getD j 0)) := by
  have hti : i < t.length := by omega
  obtain ⟨_, ⟨h0, _, _⟩ | ⟨ad, e, hc⟩⟩ := h
  · cases h0
  · injection e with e
    subst e
    have hg := rows_get t hw i j hti hj []
    rw [List.append_nil] at hg
    have hlt : k * i + j < t.flatten.length := by
      rw [rows_len t hw]
      have : k * i + k ≤ k * t.length := by rw [← Nat.mul_succ]; exact Nat.mul_le_mul_left k hti
      omega
    have hu : (ints .i64 t.flatten)[k * i + j]? = some (.int .i64 ((t.getD i []).getD j 0)) := by
      rw [ints, List.getElem?_map, List.getElem?_eq_getElem hlt, Option.map_some, ← hg, List.getD_eq_getElem?_getD, List.getElem?_eq_getElem hlt, Option.getD_some]
    have := hc _ _ hu
    rw [tab_add, ← Nat.add_assoc, Nat.mul_comm] at this
    exact this
theorem rows_form {k : Nat} {w : World} {A : Option Addr} {n c : Nat} {t : Rows2} (h : Sl k w A n c (ints .i64 t.flatten)) (hk : 0 < k) (hn : 0 < n) : ∃ b off, A = some ⟨b, off, none⟩ := by
  obtain ⟨hl, ⟨_, h0, _⟩ | ⟨ad, rfl, hc⟩⟩ := h
  · omega
  · have hp : 0 < n * k := Nat.mul_pos hn hk
    obtain ⟨u, hu⟩ : ∃ u, (ints .i64 t.flatten)[0]? = some u := ⟨_, List.getElem?_eq_getElem (by omega)⟩
    have h0 := hc 0 u hu
    obtain ⟨b, off, sp⟩ := ad
    have hsp : sp = none := by simpa [Addr.add] using World.cell?_spot h0
    subst hsp
    exact ⟨b, off, rfl⟩
def Segs (w : World) (A : Option Addr) (n c : Nat) (l : List SegP) : Prop := Sl 5 w A n c (ints .i64 (l.map segL).flatten) ∧ l.length = n
theorem Segs.below {w w' : World} {A : Option Addr} {n c : Nat} {l : List SegP} (h : Segs w A n c l) (hb : Below w.heap.size w w') : Segs w' A n c l := ⟨h.1.below hb, h.2⟩
theorem Segs.form {w : World} {A : Option Addr} {n c : Nat} {l : List SegP} (h : Segs w A n c l) (hn : 0 < n) : ∃ b off, A = some ⟨b, off, none⟩ := rows_form h.1 (by omega) hn
theorem segs_num {w : World} {b off n c : Nat} {l : List SegP} (h : Segs w (some ⟨b, off, none⟩) n c l) {i : Nat} (hi : i < n) (x : SegP) (hx : l.getD i SegP.none = x) :
    w.cell? ⟨b, off + i * 5, none⟩ = some (.int .i64 x.fr) ∧ w.cell? ⟨b, off + i * 5 + 1, none⟩ = some (.int .i64 x.to) ∧ w.cell? ⟨b, off + i * 5 + 2, none⟩ = some (.int .i64 x.kd) ∧ w.cell? ⟨b, off + i * 5 + 3, none⟩ = some (.int .i64 x.id) ∧ w.cell? ⟨b, off + i * 5 + 4, none⟩ = some (.int .i64 x.cd) := by
  have hl := h.2
  have hw : ∀ r ∈ l.map segL, r.length = 5 := fun r hr => by obtain ⟨y, _, rfl⟩ := List.mem_map.1 hr; rfl
  have e : (l.map segL).getD i [] = segL x := by rw [← hx]; simp [List.getD, show i < l.length by omega]
  have g := fun j hj => rows_cell h.1 (by simpa using hl) hw hi (j := j) hj
  rw [e] at g
  exact ⟨g 0 (by omega), g 1 (by omega), g 2 (by omega), g 3 (by omega), g 4 (by omega)⟩
def Flgs (w : World) (A : Option Addr) (n c : Nat) (l : List FlagP) : Prop := Sl 2 w A n c (ints .i64 (l.map flagL).flatten) ∧ l.length = n
theorem Flgs.below {w w' : World} {A : Option Addr} {n c : Nat} {l : List FlagP} (h : Flgs w A n c l) (hb : Below w.heap.size w w') : Flgs w' A n c l := ⟨h.1.below hb, h.2⟩
theorem Flgs.form {w : World} {A : Option Addr} {n c : Nat} {l : List FlagP} (h : Flgs w A n c l) (hn : 0 < n) : ∃ b off, A = some ⟨b, off, none⟩ := rows_form h.1 (by omega) hn
theorem SRow.segs {w : World} {base n c : Nat} {A : Option Addr} {l : List SegP} (h : SRow w base A n c l) (hn : l.length = n) : Segs w A n c l := ⟨Sl.of_own h, hn⟩
theorem wp_build_sp {o : Oper} {a : Act} {w : World} {K : Act → World → Prop} {Q : Exit → Act → World → Prop} {y : Operand} (p q : Int)
    (ho : o.op = .buildSlice 34 1 #[(0, y)]) (hy : a.eval y = .agg #[.int .i64 p, .int .i64 q])
    (h : K (a.put o.dst (.slice (some ⟨w.heap.size, 0, none⟩) 1 1)) (w.alloc (.cells #[.int .i64 p, .int .i64 q] 43))) : o.wp Tryz.prog a w K Q := by
  unfold Oper.wp execOp
  simp only [ho, List.map_toArray, List.map_cons, List.map_nil, hy]
  go_simp
  exact h
theorem wpList_build_s {ops : Array Oper} {rest : List Oper} {o : Oper} {a : Act} {w : World} {Q : Exit → Act → World → Prop} (hgd : Region.wanted o (yielded ops a.tmps) = true) {y : Operand} (x : SegP)
    (ho : o.op = .buildSlice 31 1 #[(0, y)]) (hy : a.eval y = .agg #[.int .i64 x.fr, .int .i64 x.to, .int .i64 x.kd, .int .i64 x.id, .int .i64 x.cd])
    (h : wpList Tryz.prog ops Q rest (a.put o.dst (.slice (some ⟨w.heap.size, 0, none⟩) 1 1)) (w.alloc (.cells #[.int .i64 x.fr, .int .i64 x.to, .int .i64 x.kd, .int .i64 x.id, .int .i64 x.cd] 41))) : wpList Tryz.prog ops Q (o :: rest) a w := by
  refine wpList_step fun K hK => ?_
  rw [if_pos hgd]
  exact wp_build_s x ho hy (hK _ _ h)
theorem take_snoc_s {l : List SegP} {i : Nat} (h : i < l.length) : l.take (i + 1) = l.take i ++ [l.getD i SegP.none] := by
  rw [List.take_succ_eq_append_getElem h]
  simp [List.getD, h]
set_option maxHeartbeats 8000000 in
theorem rclock_any (A : Option Addr) (n c : Nat) (l : List SegP) (w : World) (h : Segs w A n c l) (hn : n ≤ 100000) (hF : ∀ s ∈ l, Fit s.fr ∧ Fit s.to) :
    Calls Tryz.prog 20 #[.slice A n c] w (Gives w (clockP l)) := by
  have hlen := h.2
  have HL := Lib.hid h
  have HCK := Lib.hid (clock_spans l)
  have HFT : Hid (Fits (l.map spanOf)) := fun y hy => by obtain ⟨s, hs, rfl⟩ := List.mem_map.1 hy; exact hF s hs
  clear h hF
  go_enter Tryz.func20, Tryz.ntmps20
  go_wp2
  go_loopw [3, 4] (fun o i wr => ∃ (k : Nat) (B : Option Addr) (d q : Nat), k ≤ n ∧ i = .int .i64 k ∧ o = .slice B q d ∧ ((l.take k).map spanOf).length = q ∧ Hid (Row wr w.heap.size B d ((l.take k).map spanOf)) ∧ Hid (Below w.heap.size w wr)) (fun _ i _ => n - (intOf i).toNat)
  case atStart => exact ⟨0, none, 0, 0, Nat.zero_le _, rfl, rfl, by simp, by simp; exact Row.nil _ _, Below.refl _ _⟩
  case round =>
    obtain ⟨k, B, d, q, hk, rfl, rfl, hq, HR, HW⟩ := hrel
    have hqk : q = k := by rw [← hq, List.length_map, List.length_take]; omega
    by_cases hlt : k < n
    · have HLr := Lib.hid (HL.out.below HW.out)
      obtain ⟨ba, oa, rfl⟩ := HLr.out.form (by omega)
      obtain ⟨x, hx⟩ : ∃ x, l.getD k SegP.none = x := ⟨_, rfl⟩
      have HX := Lib.hid hx
      have HNX : Hid ((l.take (k + 1)).map spanOf = (l.take k).map spanOf ++ [(x.fr, x.to)]) := by show _ = _; rw [take_snoc_s (by omega), List.map_append, hx]; rfl
      have i2 : (0 : Int) ≤ (k : Int) := by omega
      have i3 : (k : Int) < (n : Int) := by omega
      have hqk2 := hqk.symm
      subst hqk2
      clear hx
      have hbw := HW.out
      go_wp2_with fail
      refine wp_region_noPanic ?_
      refine wp_region_held_drew (S := fun w' => Below w.heap.size w w') (by kernel_rfl) (below_drew (HW.out)) (fun hHeld => ?_)
      refine wpAnyH_take (i := 0) (oi := ⟨some 11, _, _, _, _, _⟩) (v := ?_) rfl (by kernel_rfl) (by kernel_rfl) (by kernel_rfl) (fun _ _ _ h => h) (Or.inl ⟨by rfl, ?_⟩) hHeld ?_
      rotate_left
      · intro ww hSw
        (try dsimp only at hSw)
        go_simp
        (try with_reducible rfl)
      simp only [Act.put, List.setIfInBounds_toArray, List.set_cons_zero, List.set_cons_succ]
      refine wpAnyH_take (i := 1) (oi := ⟨some 12, _, _, _, _, _⟩) (v := ?_) rfl (by kernel_rfl) (by kernel_rfl) (by kernel_rfl) (fun _ _ _ h => h) (Or.inl ⟨by rfl, ?_⟩) hHeld ?_
      rotate_left
      · intro ww hSw
        (try dsimp only at hSw)
        go_simp
        (try with_reducible rfl)
      simp only [Act.put, List.setIfInBounds_toArray, List.set_cons_zero, List.set_cons_succ]
      refine wpAnyH_take (i := 2) (oi := ⟨some 13, _, _, _, _, _⟩) (v := ?_) rfl (by kernel_rfl) (by kernel_rfl) (by kernel_rfl) (fun _ _ _ h => h) (Or.inl ⟨by rfl, ?_⟩) hHeld ?_
      rotate_left
      · intro ww hSw
        (try dsimp only at hSw)
        go_simp
        (try with_reducible rfl)
      simp only [Act.put, List.setIfInBounds_toArray, List.set_cons_zero, List.set_cons_succ]
      refine wpAnyH_take (i := 3) (oi := ⟨some 14, _, _, _, _, _⟩) (v := .pointer (some ⟨ba, oa + k * 5, none⟩)) rfl (by kernel_rfl) (by kernel_rfl) (by kernel_rfl) (fun _ _ _ h => h) (Or.inl ⟨by rfl, ?_⟩) hHeld ?_
      · intro ww hSw
        (try dsimp only at hSw)
        go_simp
      simp only [Act.put, List.setIfInBounds_toArray, List.set_cons_zero, List.set_cons_succ]
      refine wpAnyH_take (i := 4) (oi := ⟨some 15, _, _, _, _, _⟩) (v := ?_) rfl (by kernel_rfl) (by kernel_rfl) (by kernel_rfl) (fun _ _ _ h => h) (Or.inl ⟨by rfl, ?_⟩) hHeld ?_
      rotate_left
      · intro ww hSw
        (try dsimp only at hSw)
        go_simp
        (try with_reducible rfl)
      simp only [Act.put, List.setIfInBounds_toArray, List.set_cons_zero, List.set_cons_succ]
      refine wpAnyH_take (i := 5) (oi := ⟨some 16, _, _, _, _, _⟩) (v := .int .i64 x.fr) rfl (by kernel_rfl) (by kernel_rfl) (by kernel_rfl) (fun _ _ _ h => h) (Or.inl ⟨by rfl, ?_⟩) hHeld ?_
      · intro ww hSw
        (try dsimp only at hSw)
        have zc := (segs_num (HL.out.below hSw) hlt x HX.out).1
        have zl := cell_lt zc
        go_simp
      simp only [Act.put, List.setIfInBounds_toArray, List.set_cons_zero, List.set_cons_succ]
      refine wpAnyH_take (i := 6) (oi := ⟨some 17, _, _, _, _, _⟩) (v := ?_) rfl (by kernel_rfl) (by kernel_rfl) (by kernel_rfl) (fun _ _ _ h => h) (Or.inl ⟨by rfl, ?_⟩) hHeld ?_
      rotate_left
      · intro ww hSw
        (try dsimp only at hSw)
        go_simp
        (try with_reducible rfl)
      simp only [Act.put, List.setIfInBounds_toArray, List.set_cons_zero, List.set_cons_succ]
      refine wpAnyH_take (i := 7) (oi := ⟨some 18, _, _, _, _, _⟩) (v := ?_) rfl (by kernel_rfl) (by kernel_rfl) (by kernel_rfl) (fun _ _ _ h => h) (Or.inl ⟨by rfl, ?_⟩) hHeld ?_
      rotate_left
      · intro ww hSw
        (try dsimp only at hSw)
        go_simp
        (try with_reducible rfl)
      simp only [Act.put, List.setIfInBounds_toArray, List.set_cons_zero, List.set_cons_succ]
      refine wpAnyH_take (i := 8) (oi := ⟨some 19, _, _, _, _, _⟩) (v := .pointer (some ⟨ba, oa + k * 5, none⟩)) rfl (by kernel_rfl) (by kernel_rfl) (by kernel_rfl) (fun _ _ _ h => h) (Or.inl ⟨by rfl, ?_⟩) hHeld ?_
      · intro ww hSw
        (try dsimp only at hSw)
        go_simp
      simp only [Act.put, List.setIfInBounds_toArray, List.set_cons_zero, List.set_cons_succ]
      refine wpAnyH_take (i := 9) (oi := ⟨some 20, _, _, _, _, _⟩) (v := ?_) rfl (by kernel_rfl) (by kernel_rfl) (by kernel_rfl) (fun _ _ _ h => h) (Or.inl ⟨by rfl, ?_⟩) hHeld ?_
      rotate_left
      · intro ww hSw
        (try dsimp only at hSw)
        go_simp
        (try with_reducible rfl)
      simp only [Act.put, List.setIfInBounds_toArray, List.set_cons_zero, List.set_cons_succ]
      refine wpAnyH_take (i := 10) (oi := ⟨some 21, _, _, _, _, _⟩) (v := .int .i64 x.to) rfl (by kernel_rfl) (by kernel_rfl) (by kernel_rfl) (fun _ _ _ h => h) (Or.inl ⟨by rfl, ?_⟩) hHeld ?_
      · intro ww hSw
        (try dsimp only at hSw)
        have zc := (segs_num (HL.out.below hSw) hlt x HX.out).2.1
        have zl := cell_lt zc
        go_simp
      simp only [Act.put, List.setIfInBounds_toArray, List.set_cons_zero, List.set_cons_succ]
      refine wpAnyH_take (i := 11) (oi := ⟨some 22, _, _, _, _, _⟩) (v := ?_) rfl (by kernel_rfl) (by kernel_rfl) (by kernel_rfl) (fun _ _ _ h => h) (Or.inl ⟨by rfl, ?_⟩) hHeld ?_
      rotate_left
      · intro ww hSw
        (try dsimp only at hSw)
        go_simp
        (try with_reducible rfl)
      simp only [Act.put, List.setIfInBounds_toArray, List.set_cons_zero, List.set_cons_succ]
      have HR6 := Lib.hid HR.out.drew
      have HW6 := Lib.hid (below_drew HW.out)
      generalize wr.drew = w6 at *
      obtain ⟨A9, c9, w9, hr9, row9, bel9, -, -, -⟩ := row_push HR6.out x.fr x.to (by omega) HW6.out.size (s := w6.heap.size) rfl
      rw [hq] at hr9
      have HR9 := Lib.hid hr9
      have HW9 := Lib.hid (bel9 w (Nat.le_refl _) HW6.out)
      have HRW9 := Lib.hid row9
      clear hr9 row9 bel9
      refine wpAnyH_ready (rs := [12]) (by kernel_rfl) (by simp) ?_
      refine AllReadyH.cons (o := ⟨some 23, _, _, _, _, _⟩) rfl (fun K hK => ?_) AllReadyH.nil
      rw [if_pos (by rfl)]
      refine wp_build_sp x.fr x.to rfl rfl ?_
      refine hK.out _ _ ?_ (fun hHeld => ?_)
      · (try dsimp only)
        exact bel_alloc HW6.out _
      clear hK K
      (try simp only [Act.put, List.setIfInBounds_toArray, List.set_cons_zero, List.set_cons_succ])
      refine wpAnyH_ready (rs := [13]) (by kernel_rfl) (by simp) ?_
      refine AllReadyH.cons (o := ⟨some 24, _, _, _, _, _⟩) rfl (fun K hK => ?_) AllReadyH.nil
      rw [if_pos (by rfl)]
      refine wp_append_run8 HR9.out rfl rfl rfl ?_
      refine hK.out _ _ ?_ (fun hHeld => ?_)
      · (try dsimp only)
        exact HW9.out
      clear hK K
      (try simp only [Act.put, List.setIfInBounds_toArray, List.set_cons_zero, List.set_cons_succ])
      refine wpAnyH_take (i := 14) (oi := ⟨some 3, _, _, _, _, _⟩) (v := ?_) rfl (by kernel_rfl) (by kernel_rfl) (by kernel_rfl) (fun _ _ _ h => h) (Or.inl ⟨by rfl, ?_⟩) hHeld ?_
      rotate_left
      · intro ww hSw
        (try dsimp only at hSw)
        go_simp
        (try with_reducible rfl)
      simp only [Act.put, List.setIfInBounds_toArray, List.set_cons_zero, List.set_cons_succ]
      refine wpAnyH_done (by kernel_rfl) ?_ _
      refine NoPanic.normal ?_
      go_wp2
      go_roundw
      case rel => exact ⟨k + 1, A9, c9, k + 1, by omega, by go_num, rfl, by rw [HNX.out, List.length_append, hq]; rfl, by rw [HNX.out]; exact HRW9.out, HW9⟩
      case measure => simp [intOf]; omega
    · obtain rfl : k = n := by omega
      have e : l.take k = l := List.take_of_length_le (by omega)
      rw [e] at HR hq
      have hqk2 := hqk.symm
      subst hqk2
      have C := rnorm_any B d (l.map spanOf) wr (HR.out.spans HFT.out) (by omega)
      rw [HCK.out, hq] at C
      have HC := Lib.hid C
      clear C
      go_wp2_with fail
      refine HC.out.mono ?_
      intro e w4 hg
      have HG := gives_bel hg HW.out rfl
      clear hg
      obtain ⟨D, d4, rfl, hr, hb⟩ := HG
      go_wp2
      go_ret
      exact ⟨D, d4, rfl, hr, hb⟩
def ofKind (k : Int) (s : SegP) : Bool := decide (s.kd = k)
theorem kind_filter (p : SegP → Bool) (l : List SegP) (k : Nat) (h : k < l.length) : (l.take (k + 1)).filter p = (l.take k).filter p ++ (if p (l.getD k SegP.none) = true then [l.getD k SegP.none] else []) := by
  rw [take_snoc_s h, List.filter_append]
  congr 1
  by_cases q : p (l.getD k SegP.none) = true
  · rw [if_pos q, List.filter_cons_of_pos q]; rfl
  · rw [if_neg q, List.filter_cons_of_neg q]; rfl
set_option maxHeartbeats 8000000 in
theorem ronly_any (A : Option Addr) (n c : Nat) (l : List SegP) (kd : Int) (w : World) (h : Segs w A n c l) (hn : n ≤ 1000) (hF : ∀ s ∈ l, Fit s.fr ∧ Fit s.to) :
    Calls Tryz.prog 24 #[.slice A n c, .int .i64 kd] w (Gives w (clockP (l.filter (ofKind kd)))) := by
  have hlen := h.2
  have HL := Lib.hid h
  have HFT : Hid (∀ s ∈ l.filter (ofKind kd), Fit s.fr ∧ Fit s.to) := fun s hs => hF s (List.mem_filter.1 hs).1
  clear h hF
  go_enter Tryz.func24, Tryz.ntmps24
  go_wp2
  go_loopw [5, 6] (fun o i wr => ∃ (k : Nat) (B : Option Addr) (d q : Nat), k ≤ n ∧ i = .int .i64 k ∧ o = .slice B q d ∧ q ≤ k ∧ ((l.take k).filter (ofKind kd)).length = q ∧ Hid (SRow wr w.heap.size B q d ((l.take k).filter (ofKind kd))) ∧ Hid (Below w.heap.size w wr)) (fun _ i _ => n - (intOf i).toNat)
  case atStart => exact ⟨0, none, 0, 0, Nat.zero_le _, rfl, rfl, Nat.le_refl _, by simp, by simp; exact TRow.nil _ _, Below.refl _ _⟩
  case round =>
    obtain ⟨k, B, d, q, hk, rfl, rfl, hqk, hq, HR, HW⟩ := hrel
    by_cases hlt : k < n
    · have HLr := Lib.hid (HL.out.below HW.out)
      obtain ⟨ba, oa, rfl⟩ := HLr.out.form (by omega)
      obtain ⟨x, hx⟩ : ∃ x, l.getD k SegP.none = x := ⟨_, rfl⟩
      have HNX := Lib.hid (kind_filter (ofKind kd) l k (by omega))
      rw [hx] at HNX
      obtain ⟨z0, z1, z2, z3, z4⟩ := segs_num HLr.out hlt x hx
      have hz := cell_lt z0
      have i2 : (0 : Int) ≤ (k : Int) := by omega
      have i3 : (k : Int) < (n : Int) := by omega
      clear hx
      by_cases hk : x.kd = kd
      · have hk' : (x.kd == kd) = true := by simpa using hk
        have HP : Hid ((if ofKind kd x = true then [x] else []) = [x]) := by show _ = _; rw [if_pos (by simp [ofKind, hk])]
        obtain ⟨A9, c9, w9, hr9, row9, kp9⟩ := srow_one HR.out x (by omega) HW.out.size (s := wr.heap.size) rfl
        have HR9 := Lib.hid hr9
        have HW9 := Lib.hid (below_kept0 HW.out kp9)
        have HRW9 := Lib.hid row9
        clear hr9 row9 kp9 hk
        go_wp2_with (first | refine wpList_build_s (o := ⟨some 25, _, _, _, _, _⟩) rfl x rfl rfl ?_ | (at_builtin; refine wpList_append_run (o := ⟨some 26, _, _, _, _, _⟩) HR9.out rfl rfl rfl rfl ?_))
        go_roundw
        case rel => exact ⟨k + 1, A9, c9, q + 1, by omega, by go_num, rfl, by omega, by rw [HNX.out, HP.out, List.length_append, hq]; rfl, by rw [HNX.out, HP.out]; exact HRW9.out, HW9⟩
        case measure => simp [intOf]; omega
      · have hk' : (x.kd == kd) = false := beq_eq_false_iff_ne.2 hk
        have HP : Hid ((if ofKind kd x = true then [x] else []) = []) := by show _ = _; rw [if_neg (by simp [ofKind, hk])]
        go_wp2
        go_roundw
        case rel => exact ⟨k + 1, B, d, q, by omega, by go_num, rfl, by omega, by rw [HNX.out, HP.out, List.append_nil]; exact hq, by rw [HNX.out, HP.out, List.append_nil]; exact HR, HW⟩
        case measure => simp [intOf]; omega
    · obtain rfl : k = n := by omega
      have e : l.take k = l := List.take_of_length_le (by omega)
      rw [e] at HR hq
      have HC := Lib.hid (rclock_any B q d (l.filter (ofKind kd)) wr (SRow.segs HR.out hq) (by omega) HFT.out)
      go_wp2_with fail
      refine HC.out.mono ?_
      intro e w4 hg
      have HG := gives_bel hg HW.out rfl
      clear hg
      obtain ⟨D, d4, rfl, hr, hb⟩ := HG
      go_wp2
      go_ret
      exact ⟨D, d4, rfl, hr, hb⟩
end Go.Proofs.YtghfhoodbiiciaaGreat

namespace Go.Proofs.YtghfhoodbiiciaaGreat
open Go.RowKit
set_option linter.unusedVariables false
set_option linter.unusedSimpArgs false
set_option maxRecDepth 20000

theorem clock1_any (x : SegP) (w : World) : Calls Tryz.prog 68 #[.agg #[.int .i64 x.fr, .int .i64 x.to, .int .i64 x.kd, .int .i64 x.id, .int .i64 x.cd]] w fun e w' => e = .returned (.bool true) ∧ Below w.heap.size w w' := by
  have hb0 := bel_alloc (Below.refl w.heap.size w) (.cells #[.int .i64 x.fr, .int .i64 x.to, .int .i64 x.kd, .int .i64 x.id, .int .i64 x.cd] 41)
  go_enter Tryz.func68, Tryz.ntmps68
  go_wp2
  go_ret
  exact ⟨rfl, hb0⟩
theorem only1_any (x : SegP) (w : World) (bk : Nat) (kd : Int) (hk : Has w bk #[.int .i64 kd]) (b : Bool) (hb : ofKind kd x = b) :
    Calls Tryz.prog 69 #[.agg #[.int .i64 x.fr, .int .i64 x.to, .int .i64 x.kd, .int .i64 x.id, .int .i64 x.cd], .pointer (some ⟨bk, 0, none⟩)] w fun e w' => e = .returned (.bool b) ∧ Below w.heap.size w w' := by
  have hb0 := bel_alloc (Below.refl w.heap.size w) (.cells #[.int .i64 x.fr, .int .i64 x.to, .int .i64 x.kd, .int .i64 x.id, .int .i64 x.cd] 41)
  have qk := hk.cell 0 rfl
  have zk := cell_lt qk
  have e : (x.kd == kd) = b := by rw [← hb]; unfold ofKind; exact Bool.eq_iff_iff.2 (by simp)
  go_enter Tryz.func69, Tryz.ntmps69
  go_wp2
  go_ret
  exact ⟨by first | rfl | simp [e], by first | exact hb0 | (repeat' (first | with_reducible exact Below.refl _ _ | with_reducible assumption | with_reducible refine bel_alloc ?_ _ | with_reducible refine bel_set ?_ ?_ _ | with_reducible refine below_drewN ?_ _ | with_reducible refine below_drew ?_ | (simp; done) | (simp; omega) | omega))⟩
theorem filter_true (l : List SegP) : l.filter (fun _ => true) = l := List.filter_eq_self.2 fun _ _ => rfl
set_option maxHeartbeats 8000000 in
theorem secs_clock (A : Option Addr) (n c : Nat) (l : List SegP) (w : World) (h : Segs w A n c l) (hn : n ≤ 100000) (hF : ∀ s ∈ l, Fit s.fr ∧ Fit s.to) :
    Calls Tryz.prog 67 #[.slice A n c, .func (.func 68) #[] #[]] w (Gives w (clockP (l.filter (fun _ => true)))) := by
  have hlen := h.2
  have HL := Lib.hid h
  have HCK := Lib.hid (clock_spans (l.filter (fun _ => true)))
  have HFT : Hid (Fits ((l.filter (fun _ => true)).map spanOf)) := fun y hy => by obtain ⟨s, hs, rfl⟩ := List.mem_map.1 hy; exact hF s (List.mem_filter.1 hs).1
  have eg : ∀ args w, (callFunc 68 args).run Tryz.prog w = .ok (.enter 68 args) w := enters_of Tryz.func68 (by kernel_rfl) rfl
  have HC1 := Lib.hid (fun x W => clock1_any x W)
  clear h hF
  go_enter Tryz.func67, Tryz.ntmps67
  go_wp2
  go_loopg [5, 10] n (fun kx s5 s10 wr => ∃ (k q d : Nat) (B : Option Addr), s5 = .slice B q d ∧ s10 = .int .i64 k ∧ k + kx = n ∧ q ≤ k ∧ Hid ((((l.take k).filter (fun _ => true)).map spanOf).length = q) ∧ Hid (Row wr w.heap.size B d (((l.take k).filter (fun _ => true)).map spanOf)) ∧ Hid (Below w.heap.size w wr))
  case atStart => exact ⟨0, 0, 0, none, rfl, rfl, by omega, by omega, Lib.hid (by simp), Lib.hid (by rw [List.take_zero]; exact Row.nil _ _), Lib.hid (Below.refl _ _)⟩
  case round =>
    obtain ⟨k, q, d, B, rfl, rfl, hk, hqk, HQ, HR, HW⟩ := hrel
    by_cases hlt : k < n
    · have HLr := Lib.hid (HL.out.below HW.out)
      obtain ⟨ba, oa, rfl⟩ := HLr.out.form (by omega)
      obtain ⟨x, hx⟩ : ∃ x, l.getD k SegP.none = x := ⟨_, rfl⟩
      obtain ⟨z0, z1, z2, z3, z4⟩ := segs_num HLr.out hlt x hx
      have zl := cell_lt z0
      have HKF := Lib.hid (kind_filter (fun _ => true) l k (by omega))
      rw [hx] at HKF
      have i0 : (0 : Int) ≤ (k : Int) := by omega
      have i1 : (k : Int) < (n : Int) := by omega
      have hba := bel_alloc (Below.refl wr.heap.size wr) (.cells #[.int .i64 x.fr, .int .i64 x.to, .int .i64 x.kd, .int .i64 x.id, .int .i64 x.cd] 41)
      have HXA : Hid (Has (wr.alloc (.cells #[.int .i64 x.fr, .int .i64 x.to, .int .i64 x.kd, .int .i64 x.id, .int .i64 x.cd] 41)) wr.heap.size #[.int .i64 x.fr, .int .i64 x.to, .int .i64 x.kd, .int .i64 x.id, .int .i64 x.cd]) := Has.new wr _ _ rfl
      have HWA := Lib.hid (bel_on HW.out hba)
      have HRA := Lib.hid (HR.out.alloc (.cells #[.int .i64 x.fr, .int .i64 x.to, .int .i64 x.kd, .int .i64 x.id, .int .i64 x.cd] 41))
      clear hx hba
      have HE1 : Hid (((l.take (k + 1)).filter (fun _ => true)).map spanOf = ((l.take k).filter (fun _ => true)).map spanOf ++ [(x.fr, x.to)]) := by show _ = _; rw [HKF.out, if_pos rfl, List.map_append]; rfl
      go_wp2_with fail
      refine (HC1.out x _).mono ?_
      rintro e_r w5 ⟨rfl, hb5⟩
      have HX5 := Lib.hid (HXA.out.below hb5)
      have HW5 := Lib.hid (bel_on HWA.out hb5)
      have HR5 := Lib.hid (HRA.out.below hb5)
      obtain ⟨A9, c9, w9, hr9, row9, bel9, -, -, -⟩ := row_push HR5.out x.fr x.to (by have := HQ.out; omega) HW5.out.size (s := w5.heap.size) rfl
      rw [HQ.out] at hr9
      have HR9 := Lib.hid hr9
      have HW9 := Lib.hid (bel9 w (Nat.le_refl _) HW5.out)
      have HRW9 := Lib.hid row9
      obtain ⟨bx, hbx⟩ : ∃ bx, Hid (wr.heap.size = bx) := ⟨_, rfl⟩
      rw [hbx.out] at HX5
      rw [hbx.out]
      have y0 := HX5.out.cell 0 rfl
      have y1 := HX5.out.cell 1 rfl
      have yl := cell_lt y0
      clear hr9 row9 bel9 hb5 hbx z0 z1 z2 z3 z4 zl
      go_wp2_with (first | (at_builtin; refine wpList_append_run (o := ⟨some 24, _, _, _, _, _⟩) HR9.out rfl rfl rfl rfl ?_))
      go_roundg (n - (k + 1))
      case measure => omega
      case rel => exact ⟨k + 1, q + 1, c9, A9, rfl, by go_num, by omega, by omega, Lib.hid (by rw [HE1.out, List.length_append, HQ.out]; rfl), Lib.hid (by rw [HE1.out]; exact HRW9.out), HW9⟩
    · obtain rfl : k = n := by omega
      have e : l.take k = l := List.take_of_length_le (by omega)
      rw [e] at HR HQ
      have C := norm_any B d ((l.filter (fun _ => true)).map spanOf) wr (HR.out.spans HFT.out) (by have := HQ.out; omega)
      rw [HCK.out, HQ.out] at C
      have HC := Lib.hid C
      clear C e
      go_wp2_with fail
      refine HC.out.mono ?_
      intro e w4 hg
      have HG := gives_bel hg HW.out rfl
      clear hg
      obtain ⟨D, d4, rfl, hr, hb⟩ := HG
      go_wp2
      go_ret
      exact ⟨D, d4, rfl, hr, hb⟩
set_option maxHeartbeats 8000000 in
theorem secs_only (A : Option Addr) (n c : Nat) (l : List SegP) (w : World) (h : Segs w A n c l) (hn : n ≤ 100000) (hF : ∀ s ∈ l, Fit s.fr ∧ Fit s.to) (bk : Nat) (kd : Int) (hk : Has w bk #[.int .i64 kd]) :
    Calls Tryz.prog 67 #[.slice A n c, .func (.func 69) #[] #[.pointer (some ⟨bk, 0, none⟩)]] w (Gives w (clockP (l.filter (ofKind kd)))) := by
  have hlen := h.2
  have HL := Lib.hid h
  have HCK := Lib.hid (clock_spans (l.filter (ofKind kd)))
  have HFT : Hid (Fits ((l.filter (ofKind kd)).map spanOf)) := fun y hy => by obtain ⟨s, hs, rfl⟩ := List.mem_map.1 hy; exact hF s (List.mem_filter.1 hs).1
  have eg : ∀ args w, (callFunc 69 args).run Tryz.prog w = .ok (.enter 69 args) w := enters_of Tryz.func69 (by kernel_rfl) rfl
  have HK := Lib.hid hk
  clear hk
  clear h hF
  go_enter Tryz.func67, Tryz.ntmps67
  go_wp2
  go_loopg [5, 10] n (fun kx s5 s10 wr => ∃ (k q d : Nat) (B : Option Addr), s5 = .slice B q d ∧ s10 = .int .i64 k ∧ k + kx = n ∧ q ≤ k ∧ Hid ((((l.take k).filter (ofKind kd)).map spanOf).length = q) ∧ Hid (Row wr w.heap.size B d (((l.take k).filter (ofKind kd)).map spanOf)) ∧ Hid (Below w.heap.size w wr))
  case atStart => exact ⟨0, 0, 0, none, rfl, rfl, by omega, by omega, Lib.hid (by simp), Lib.hid (by rw [List.take_zero]; exact Row.nil _ _), Lib.hid (Below.refl _ _)⟩
  case round =>
    obtain ⟨k, q, d, B, rfl, rfl, hk, hqk, HQ, HR, HW⟩ := hrel
    by_cases hlt : k < n
    · have HLr := Lib.hid (HL.out.below HW.out)
      obtain ⟨ba, oa, rfl⟩ := HLr.out.form (by omega)
      obtain ⟨x, hx⟩ : ∃ x, l.getD k SegP.none = x := ⟨_, rfl⟩
      obtain ⟨z0, z1, z2, z3, z4⟩ := segs_num HLr.out hlt x hx
      have zl := cell_lt z0
      have HKF := Lib.hid (kind_filter (ofKind kd) l k (by omega))
      rw [hx] at HKF
      have i0 : (0 : Int) ≤ (k : Int) := by omega
      have i1 : (k : Int) < (n : Int) := by omega
      have hba := bel_alloc (Below.refl wr.heap.size wr) (.cells #[.int .i64 x.fr, .int .i64 x.to, .int .i64 x.kd, .int .i64 x.id, .int .i64 x.cd] 41)
      have HXA : Hid (Has (wr.alloc (.cells #[.int .i64 x.fr, .int .i64 x.to, .int .i64 x.kd, .int .i64 x.id, .int .i64 x.cd] 41)) wr.heap.size #[.int .i64 x.fr, .int .i64 x.to, .int .i64 x.kd, .int .i64 x.id, .int .i64 x.cd]) := Has.new wr _ _ rfl
      have HWA := Lib.hid (bel_on HW.out hba)
      have HRA := Lib.hid (HR.out.alloc (.cells #[.int .i64 x.fr, .int .i64 x.to, .int .i64 x.kd, .int .i64 x.id, .int .i64 x.cd] 41))
      clear hx hba
      cases hof : ofKind kd x with
      | true =>
        have HOF := Lib.hid (only1_any x _ bk kd (HK.out.below HWA.out) true hof)
        have HE1 : Hid (((l.take (k + 1)).filter (ofKind kd)).map spanOf = ((l.take k).filter (ofKind kd)).map spanOf ++ [(x.fr, x.to)]) := by show _ = _; rw [HKF.out, if_pos hof, List.map_append]; rfl
        clear hof
        go_wp2_with fail
        refine (HOF.out).mono ?_
        rintro e_r w5 ⟨rfl, hb5⟩
        have HX5 := Lib.hid (HXA.out.below hb5)
        have HW5 := Lib.hid (bel_on HWA.out hb5)
        have HR5 := Lib.hid (HRA.out.below hb5)
        obtain ⟨A9, c9, w9, hr9, row9, bel9, -, -, -⟩ := row_push HR5.out x.fr x.to (by have := HQ.out; omega) HW5.out.size (s := w5.heap.size) rfl
        rw [HQ.out] at hr9
        have HR9 := Lib.hid hr9
        have HW9 := Lib.hid (bel9 w (Nat.le_refl _) HW5.out)
        have HRW9 := Lib.hid row9
        obtain ⟨bx, hbx⟩ : ∃ bx, Hid (wr.heap.size = bx) := ⟨_, rfl⟩
        rw [hbx.out] at HX5
        rw [hbx.out]
        have y0 := HX5.out.cell 0 rfl
        have y1 := HX5.out.cell 1 rfl
        have yl := cell_lt y0
        clear hr9 row9 bel9 hb5 hbx z0 z1 z2 z3 z4 zl
        go_wp2_with (first | (at_builtin; refine wpList_append_run (o := ⟨some 24, _, _, _, _, _⟩) HR9.out rfl rfl rfl rfl ?_))
        go_roundg (n - (k + 1))
        case measure => omega
        case rel => exact ⟨k + 1, q + 1, c9, A9, rfl, by go_num, by omega, by omega, Lib.hid (by rw [HE1.out, List.length_append, HQ.out]; rfl), Lib.hid (by rw [HE1.out]; exact HRW9.out), HW9⟩
      | false =>
        have HOF := Lib.hid (only1_any x _ bk kd (HK.out.below HWA.out) false hof)
        have HE1 : Hid (((l.take (k + 1)).filter (ofKind kd)).map spanOf = ((l.take k).filter (ofKind kd)).map spanOf) := by show _ = _; rw [HKF.out, if_neg (by rw [hof]; simp), List.append_nil]
        clear hof
        go_wp2_with fail
        refine (HOF.out).mono ?_
        rintro e_r w5 ⟨rfl, hb5⟩
        have HW5 := Lib.hid (bel_on HWA.out hb5)
        have HR5 := Lib.hid (HRA.out.below hb5)
        clear hb5 z0 z1 z2 z3 z4 zl
        go_wp2
        go_roundg (n - (k + 1))
        case measure => omega
        case rel => exact ⟨k + 1, q, d, B, rfl, by go_num, by omega, by omega, Lib.hid (by rw [HE1.out]; exact HQ.out), Lib.hid (by rw [HE1.out]; exact HR5.out), HW5⟩
    · obtain rfl : k = n := by omega
      have e : l.take k = l := List.take_of_length_le (by omega)
      rw [e] at HR HQ
      have C := norm_any B d ((l.filter (ofKind kd)).map spanOf) wr (HR.out.spans HFT.out) (by have := HQ.out; omega)
      rw [HCK.out, HQ.out] at C
      have HC := Lib.hid C
      clear C e
      go_wp2_with fail
      refine HC.out.mono ?_
      intro e w4 hg
      have HG := gives_bel hg HW.out rfl
      clear hg
      obtain ⟨D, d4, rfl, hr, hb⟩ := HG
      go_wp2
      go_ret
      exact ⟨D, d4, rfl, hr, hb⟩
theorem sclock_any (A : Option Addr) (n c : Nat) (l : List SegP) (w : World) (h : Segs w A n c l) (hn : n ≤ 100000) (hF : ∀ s ∈ l, Fit s.fr ∧ Fit s.to) :
    Calls Tryz.prog 33 #[.slice A n c] w (Gives w (clockP l)) := by
  have HC := Lib.hid (secs_clock A n c l w h hn hF)
  rw [filter_true] at HC
  clear h hF
  go_enter Tryz.func33, Tryz.ntmps33
  go_wp2_with fail
  refine HC.out.mono ?_
  rintro e w4 ⟨D, d, rfl, hr, hb⟩
  go_wp2
  go_ret
  exact ⟨D, d, rfl, hr, hb⟩
theorem sonly_any (A : Option Addr) (n c : Nat) (l : List SegP) (kd : Int) (w : World) (h : Segs w A n c l) (hn : n ≤ 1000) (hF : ∀ s ∈ l, Fit s.fr ∧ Fit s.to) :
    Calls Tryz.prog 34 #[.slice A n c, .int .i64 kd] w (Gives w (clockP (l.filter (ofKind kd)))) := by
  have hb0 := bel_alloc (Below.refl w.heap.size w) (.cells #[.int .i64 kd] 3)
  have HC := Lib.hid (secs_only A n c l _ (h.below hb0) (by omega) hF w.heap.size kd (Has.new w 3 _ rfl))
  have HB := Lib.hid hb0
  clear h hF hb0
  go_enter Tryz.func34, Tryz.ntmps34
  go_wp2_with fail
  refine HC.out.mono ?_
  intro e w4 hg
  have HG := gives_bel hg HB.out rfl
  clear hg
  obtain ⟨D, d, rfl, hr, hb⟩ := HG
  go_wp2
  go_ret
  exact ⟨D, d, rfl, hr, hb⟩
end Go.Proofs.YtghfhoodbiiciaaGreat

namespace Go.Proofs.YtghfhoodbiiciaaGreat
open Go.RowKit
set_option linter.unusedVariables false
set_option linter.unusedSimpArgs false
set_option maxRecDepth 20000

def nonC : Array Value := #[.int .i64 0, .slice none 0 0, .int .i64 0, .int .i64 0, .slice none 0 0, .slice none 0 0, .slice none 0 0, .int .i64 0, .int .i64 0, .int .i64 0, .int .i64 0, .int .i64 0, .int .i64 0,
  .int .i64 0, .int .i64 0, .int .i64 0, .int .i64 0, .int .i64 0, .slice none 0 0, .int .i64 0, .int .i64 0, .int .i64 0, .slice none 0 0]
theorem nonC_V : setV SetP.none none none none none none none 0 0 0 0 0 0 = .agg nonC := rfl
theorem non_c (w : World) : SetC w SetP.none nonC := ⟨none, none, none, none, none, none, 0, 0, 0, 0, 0, 0, nonC_V, ⟨Tab.nil_, Tab.nil_, Tab.nil_, Tab.nil_, Tab.nil_, Tab.nil_⟩⟩
theorem tab_one14 {w : World} {g : Nat} (h : Has w g #[.int .i64 1]) : Tab 1 w (some ⟨g, 0, none⟩) 1 1 ([1].map fun n => [n]) := by
  refine ⟨⟨rfl, .inr ⟨_, rfl, fun j u hu => ?_⟩⟩, rfl, by simp, by simp [In64], by omega, by omega⟩
  rw [tab_add, Nat.zero_add]
  exact h.cell j (by simpa [ints] using hu)
/-- In a drawn region: a whole setup is read. -/
theorem exec_load_sp {o : Oper} {ρ : Operand → Value} {ww : World} (x : Operand) (ho : o.op = .load 30 x) {g : Nat} (hx : ρ x = .pointer (some ⟨g, 0, none⟩)) {cs : Array Value} (hg : Has ww g cs) (hs : cs.size = 23) :
    (execOp ρ o).run Tryz.prog ww = .ok (.value (.agg cs)) ww := by
  obtain ⟨t, hg⟩ := hg
  unfold execOp
  simp only [ho, hx, Instr.loadAt, Instr.sureAddr, Sem.run_bind, Sem.run_pure, Result.andThen_ok, run_loadVar_row (P := Tryz.prog) ww g t 30 cs (0, 0) _ hg Tryz.underlying30 rfl (by rw [hs]; kernel_rfl)]
/-- What a law carries over its calls: the setup, its variable, the spans. -/
structure Nx (w0 w : World) (g : Nat) (s : SetP) (cs : Array Value) (A : Option Addr) (xs : List (Int × Int)) : Prop where
  b : Below w0.heap.size w0 w
  c : SetC w s cs
  h : Has w g cs
  x : Spans w A xs
theorem Nx.below {w0 w w' : World} {g : Nat} {s : SetP} {cs : Array Value} {A : Option Addr} {xs : List (Int × Int)} (h : Nx w0 w g s cs A xs) (hb : Below w.heap.size w w') : Nx w0 w' g s cs A xs := ⟨bel_on h.b hb, h.c.below hb, h.h.below hb, h.x.below hb⟩
/-! ### few -/
end Go.Proofs.YtghfhoodbiiciaaGreat
