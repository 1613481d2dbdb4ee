/-
  The document's own answer of layer 12: the seconds of parts, of one kind; two lists that are the same.
  An argument of type []api.Seg, opened.
  Package stream's Clock and Only: the seconds of parts.
-/
import Derived.Test.YtghfhoodbiiciaaZas
import Derived.Test.YtghfhoodbiiciaaZap
import Derived.Test.YtghfhoodbiiciaaZar
import Derived.Deep.RegionHeld3
import Derived.Test.YtghfhoodbiiciaaZac
import Derived.Test.YtghfhoodbiiciaaZal
namespace Go.Proofs.Ytghfhoodbiiciaa
open Go.RowKit
set_option linter.unusedVariables false
set_option linter.unusedSimpArgs false
set_option maxRecDepth 20000

def SegP.none : SegP := ⟨0, 0, 0, 0, 0⟩
def FlagP.none : FlagP := ⟨0, 0⟩
/-- What a slice of structs of numbers reads as. -/
theorem rows_cell {k : Nat} {w : World} {b off n c : Nat} {t : Rows2} (h : Sl k w (some ⟨b, off, none⟩) n c (ints .i64 t.flatten)) (hl : t.length = n) (hw : ∀ r ∈ t, r.length = k) {i j : Nat} (hi : i < n) (hj : j < k) : w.cell? ⟨b, off + i * k + j, none⟩ = some (.int .i64 ((t.getD i []).getD j 0)) := by
  have hti : i < t.length := by omega
  obtain ⟨_, ⟨h0, _, _⟩ | ⟨ad, e, hc⟩⟩ := h
  · cases h0
  · injection e with e
    subst e
    have hg := rows_get t hw i j hti hj []
    rw [List.append_nil] at hg
    have hlt : k * i + j < t.flatten.length := by
      rw [rows_len t hw]
      have : k * i + k ≤ k * t.length := by rw [← Nat.mul_succ]; exact Nat.mul_le_mul_left k hti
      omega
    have hu : (ints .i64 t.flatten)[k * i + j]? = some (.int .i64 ((t.getD i []).getD j 0)) := by
      rw [ints, List.getElem?_map, List.getElem?_eq_getElem hlt, Option.map_some, ← hg, List.getD_eq_getElem?_getD, List.getElem?_eq_getElem hlt, Option.getD_some]
    have := hc _ _ hu
    rw [tab_add, ← Nat.add_assoc, Nat.mul_comm] at this
    exact this
theorem rows_form {k : Nat} {w : World} {A : Option Addr} {n c : Nat} {t : Rows2} (h : Sl k w A n c (ints .i64 t.flatten)) (hk : 0 < k) (hn : 0 < n) : ∃ b off, A = some ⟨b, off, none⟩ := by
  obtain ⟨hl, ⟨_, h0, _⟩ | ⟨ad, rfl, hc⟩⟩ := h
  · omega
  · have hp : 0 < n * k := Nat.mul_pos hn hk
    obtain ⟨u, hu⟩ : ∃ u, (ints .i64 t.flatten)[0]? = some u := ⟨_, List.getElem?_eq_getElem (by omega)⟩
    have h0 := hc 0 u hu
    obtain ⟨b, off, sp⟩ := ad
    have hsp : sp = none := by simpa [Addr.add] using World.cell?_spot h0
    subst hsp
    exact ⟨b, off, rfl⟩
def Segs (w : World) (A : Option Addr) (n c : Nat) (l : List SegP) : Prop := Sl 5 w A n c (ints .i64 (l.map segL).flatten) ∧ l.length = n
theorem Segs.below {w w' : World} {A : Option Addr} {n c : Nat} {l : List SegP} (h : Segs w A n c l) (hb : Below w.heap.size w w') : Segs w' A n c l := ⟨h.1.below hb, h.2⟩
theorem Segs.form {w : World} {A : Option Addr} {n c : Nat} {l : List SegP} (h : Segs w A n c l) (hn : 0 < n) : ∃ b off, A = some ⟨b, off, none⟩ := rows_form h.1 (by omega) hn
theorem segs_num {w : World} {b off n c : Nat} {l : List SegP} (h : Segs w (some ⟨b, off, none⟩) n c l) {i : Nat} (hi : i < n) (x : SegP) (hx : l.getD i SegP.none = x) :
    w.cell? ⟨b, off + i * 5, none⟩ = some (.int .i64 x.fr) ∧ w.cell? ⟨b, off + i * 5 + 1, none⟩ = some (.int .i64 x.to) ∧ w.cell? ⟨b, off + i * 5 + 2, none⟩ = some (.int .i64 x.kd) ∧ w.cell? ⟨b, off + i * 5 + 3, none⟩ = some (.int .i64 x.id) ∧ w.cell? ⟨b, off + i * 5 + 4, none⟩ = some (.int .i64 x.cd) := by
  have hl := h.2
  have hw : ∀ r ∈ l.map segL, r.length = 5 := fun r hr => by obtain ⟨y, _, rfl⟩ := List.mem_map.1 hr; rfl
  have e : (l.map segL).getD i [] = segL x := by rw [← hx]; simp [List.getD, show i < l.length by omega]
  have g := fun j hj => rows_cell h.1 (by simpa using hl) hw hi (j := j) hj
  rw [e] at g
  exact ⟨g 0 (by omega), g 1 (by omega), g 2 (by omega), g 3 (by omega), g 4 (by omega)⟩
def Flgs (w : World) (A : Option Addr) (n c : Nat) (l : List FlagP) : Prop := Sl 2 w A n c (ints .i64 (l.map flagL).flatten) ∧ l.length = n
theorem Flgs.below {w w' : World} {A : Option Addr} {n c : Nat} {l : List FlagP} (h : Flgs w A n c l) (hb : Below w.heap.size w w') : Flgs w' A n c l := ⟨h.1.below hb, h.2⟩
theorem Flgs.form {w : World} {A : Option Addr} {n c : Nat} {l : List FlagP} (h : Flgs w A n c l) (hn : 0 < n) : ∃ b off, A = some ⟨b, off, none⟩ := rows_form h.1 (by omega) hn
theorem wp_build_sp {o : Oper} {a : Act} {w : World} {K : Act → World → Prop} {Q : Exit → Act → World → Prop} {y : Operand} (p q : Int)
    (ho : o.op = .buildSlice 34 1 #[(0, y)]) (hy : a.eval y = .agg #[.int .i64 p, .int .i64 q])
    (h : K (a.put o.dst (.slice (some ⟨w.heap.size, 0, none⟩) 1 1)) (w.alloc (.cells #[.int .i64 p, .int .i64 q] 50))) : o.wp Try.prog a w K Q := by
  unfold Oper.wp execOp
  simp only [ho, List.map_toArray, List.map_cons, List.map_nil, hy]
  go_simp
  exact h
theorem wpList_build_s {ops : Array Oper} {rest : List Oper} {o : Oper} {a : Act} {w : World} {Q : Exit → Act → World → Prop} (hgd : Region.wanted o (yielded ops a.tmps) = true) {y : Operand} (x : SegP)
    (ho : o.op = .buildSlice 31 1 #[(0, y)]) (hy : a.eval y = .agg #[.int .i64 x.fr, .int .i64 x.to, .int .i64 x.kd, .int .i64 x.id, .int .i64 x.cd])
    (h : wpList Try.prog ops Q rest (a.put o.dst (.slice (some ⟨w.heap.size, 0, none⟩) 1 1)) (w.alloc (.cells #[.int .i64 x.fr, .int .i64 x.to, .int .i64 x.kd, .int .i64 x.id, .int .i64 x.cd] 48))) : wpList Try.prog ops Q (o :: rest) a w := by
  refine wpList_step fun K hK => ?_
  rw [if_pos hgd]
  exact wp_build_s x ho hy (hK _ _ h)
theorem take_snoc_s {l : List SegP} {i : Nat} (h : i < l.length) : l.take (i + 1) = l.take i ++ [l.getD i SegP.none] := by
  rw [List.take_succ_eq_append_getElem h]
  simp [List.getD, h]
def ofKind (k : Int) (s : SegP) : Bool := decide (s.kd = k)
theorem kind_filter (p : SegP → Bool) (l : List SegP) (k : Nat) (h : k < l.length) : (l.take (k + 1)).filter p = (l.take k).filter p ++ (if p (l.getD k SegP.none) = true then [l.getD k SegP.none] else []) := by
  rw [take_snoc_s h, List.filter_append]
  congr 1
  by_cases q : p (l.getD k SegP.none) = true
  · rw [if_pos q, List.filter_cons_of_pos q]; rfl
  · rw [if_neg q, List.filter_cons_of_neg q]; rfl
end Go.Proofs.Ytghfhoodbiiciaa

namespace Go.Proofs.Ytghfhoodbiiciaa
open Go.RowKit Go.Deep Go.WideShapes
set_option linter.unusedVariables false
set_option maxRecDepth 20000

theorem numsT_seg : NumsT Try.prog 48 5 := alli_struct Try.underlying48 (by kernel_rfl)
  ⟨rfl, nums_at_e numsT_int_e (by kernel_rfl), by kernel_rfl, nums_at_e numsT_int_e (by kernel_rfl), by kernel_rfl, nums_at_e numsT_int_e (by kernel_rfl), by kernel_rfl, nums_at_e numsT_int_e (by kernel_rfl), by kernel_rfl, nums_at_e numsT_int_e (by kernel_rfl), by change _ = _; kernel_rfl⟩
theorem seg_of_list {zs : List Int} (h : zs.length = 5) (hb : ∀ z ∈ zs, In64 z) : ∃ s : SegP, segL s = zs ∧ Fit s.fr ∧ Fit s.to ∧ In64 s.kd := by
  match zs, h with
  | [a, b, c, d, e], _ => exact ⟨⟨a, b, c, d, e⟩, rfl, hb a (by simp), hb b (by simp), hb c (by simp)⟩
/-- Rows of five numbers are parts. -/
theorem segs_of_rows : ∀ (t : Rows2), (∀ r ∈ t, r.length = 5) → (∀ r ∈ t, ∀ z ∈ r, In64 z) → ∃ l : List SegP, l.map segL = t ∧ ∀ s ∈ l, Fit s.fr ∧ Fit s.to
  | [], _, _ => ⟨[], rfl, fun e h => by simp at h⟩
  | r :: t, h1, h2 => by
    obtain ⟨l, hl, hi⟩ := segs_of_rows t (fun q hq => h1 q (by simp [hq])) (fun q hq => h2 q (by simp [hq]))
    obtain ⟨s, hs, f1, f2, _⟩ := seg_of_list (h1 r (by simp)) (h2 r (by simp))
    exact ⟨s :: l, by simp [hs, hl], fun x hx => by
      rcases List.mem_cons.1 hx with rfl | hx
      · exact ⟨f1, f2⟩
      · exact hi x hx⟩
theorem segs_open {H : Type} {enc : TypeId × Value → H} {w : World} {base : Nat} {held : Bool} {fuel : Nat} {cs : List Value} {x : DataW H × List MemPlace}
    (h : DataW.trod enc Try.prog w base (fun _ => true) held fuel 31 cs = some x) : ∃ A n c l, cs = [.slice A n c] ∧ Segs w A n c l ∧ (∀ s ∈ l, Fit s.fr ∧ Fit s.to) ∧ n ≤ c ∧ c ≤ 9223372036854775807 := by
  obtain ⟨A, n, c, rows, hcs, T⟩ := open_tab Try.underlying31 numsT_seg (by kernel_rfl) (by omega) h
  obtain ⟨l, hl, hi⟩ := segs_of_rows rows T.wide T.small
  refine ⟨A, n, c, l, hcs, ⟨by rw [hl]; exact T.sl, ?_⟩, hi, T.cap, T.max⟩
  rw [← T.len, ← hl, List.length_map]
end Go.Proofs.Ytghfhoodbiiciaa

namespace Go.Proofs.Ytghfhoodbiiciaa
open Go.RowKit
set_option linter.unusedVariables false
set_option linter.unusedSimpArgs false
set_option maxRecDepth 20000

theorem clock1_any (x : SegP) (w : World) : Calls Try.prog 30 #[.agg #[.int .i64 x.fr, .int .i64 x.to, .int .i64 x.kd, .int .i64 x.id, .int .i64 x.cd]] w fun e w' => e = .returned (.bool true) ∧ Below w.heap.size w w' := by
  have hb0 := bel_alloc (Below.refl w.heap.size w) (.cells #[.int .i64 x.fr, .int .i64 x.to, .int .i64 x.kd, .int .i64 x.id, .int .i64 x.cd] 48)
  go_enter Try.func30, Try.ntmps30
  go_wp2
  go_ret
  exact ⟨rfl, hb0⟩
theorem only1_any (x : SegP) (w : World) (bk : Nat) (kd : Int) (hk : Has w bk #[.int .i64 kd]) (b : Bool) (hb : ofKind kd x = b) :
    Calls Try.prog 35 #[.agg #[.int .i64 x.fr, .int .i64 x.to, .int .i64 x.kd, .int .i64 x.id, .int .i64 x.cd], .pointer (some ⟨bk, 0, none⟩)] w fun e w' => e = .returned (.bool b) ∧ Below w.heap.size w w' := by
  have hb0 := bel_alloc (Below.refl w.heap.size w) (.cells #[.int .i64 x.fr, .int .i64 x.to, .int .i64 x.kd, .int .i64 x.id, .int .i64 x.cd] 48)
  have qk := hk.cell 0 rfl
  have zk := cell_lt qk
  have e : (x.kd == kd) = b := by rw [← hb]; unfold ofKind; exact Bool.eq_iff_iff.2 (by simp)
  go_enter Try.func35, Try.ntmps35
  go_wp2
  go_ret
  exact ⟨by first | rfl | simp [e], by first | exact hb0 | (repeat' (first | with_reducible exact Below.refl _ _ | with_reducible assumption | with_reducible refine bel_alloc ?_ _ | with_reducible refine bel_set ?_ ?_ _ | with_reducible refine below_drewN ?_ _ | with_reducible refine below_drew ?_ | (simp; done) | (simp; omega) | omega))⟩
theorem filter_true (l : List SegP) : l.filter (fun _ => true) = l := List.filter_eq_self.2 fun _ _ => rfl
set_option maxHeartbeats 8000000 in
theorem secs_clock (A : Option Addr) (n c : Nat) (l : List SegP) (w : World) (h : Segs w A n c l) (hn : n ≤ 100000) (hF : ∀ s ∈ l, Fit s.fr ∧ Fit s.to) :
    Calls Try.prog 29 #[.slice A n c, .func (.func 30) #[] #[]] w (Gives w (clockP (l.filter (fun _ => true)))) := by
  have hlen := h.2
  have HL := Lib.hid h
  have HCK := Lib.hid (clock_spans (l.filter (fun _ => true)))
  have HFT : Hid (Fits ((l.filter (fun _ => true)).map spanOf)) := fun y hy => by obtain ⟨s, hs, rfl⟩ := List.mem_map.1 hy; exact hF s (List.mem_filter.1 hs).1
  have eg : ∀ args w, (callFunc 30 args).run Try.prog w = .ok (.enter 30 args) w := enters_of Try.func30 (by kernel_rfl) rfl
  have HC1 := Lib.hid (fun x W => clock1_any x W)
  clear h hF
  go_enter Try.func29, Try.ntmps29
  go_wp2
  go_loopg [5, 10] n (fun kx s5 s10 wr => ∃ (k q d : Nat) (B : Option Addr), s5 = .slice B q d ∧ s10 = .int .i64 k ∧ k + kx = n ∧ q ≤ k ∧ Hid ((((l.take k).filter (fun _ => true)).map spanOf).length = q) ∧ Hid (Row wr w.heap.size B d (((l.take k).filter (fun _ => true)).map spanOf)) ∧ Hid (Below w.heap.size w wr))
  case atStart => exact ⟨0, 0, 0, none, rfl, rfl, by omega, by omega, Lib.hid (by simp), Lib.hid (by rw [List.take_zero]; exact Row.nil _ _), Lib.hid (Below.refl _ _)⟩
  case round =>
    obtain ⟨k, q, d, B, rfl, rfl, hk, hqk, HQ, HR, HW⟩ := hrel
    by_cases hlt : k < n
    · have HLr := Lib.hid (HL.out.below HW.out)
      obtain ⟨ba, oa, rfl⟩ := HLr.out.form (by omega)
      obtain ⟨x, hx⟩ : ∃ x, l.getD k SegP.none = x := ⟨_, rfl⟩
      obtain ⟨z0, z1, z2, z3, z4⟩ := segs_num HLr.out hlt x hx
      have zl := cell_lt z0
      have HKF := Lib.hid (kind_filter (fun _ => true) l k (by omega))
      rw [hx] at HKF
      have i0 : (0 : Int) ≤ (k : Int) := by omega
      have i1 : (k : Int) < (n : Int) := by omega
      have hba := bel_alloc (Below.refl wr.heap.size wr) (.cells #[.int .i64 x.fr, .int .i64 x.to, .int .i64 x.kd, .int .i64 x.id, .int .i64 x.cd] 48)
      have HXA : Hid (Has (wr.alloc (.cells #[.int .i64 x.fr, .int .i64 x.to, .int .i64 x.kd, .int .i64 x.id, .int .i64 x.cd] 48)) wr.heap.size #[.int .i64 x.fr, .int .i64 x.to, .int .i64 x.kd, .int .i64 x.id, .int .i64 x.cd]) := Has.new wr _ _ rfl
      have HWA := Lib.hid (bel_on HW.out hba)
      have HRA := Lib.hid (HR.out.alloc (.cells #[.int .i64 x.fr, .int .i64 x.to, .int .i64 x.kd, .int .i64 x.id, .int .i64 x.cd] 48))
      clear hx hba
      have HE1 : Hid (((l.take (k + 1)).filter (fun _ => true)).map spanOf = ((l.take k).filter (fun _ => true)).map spanOf ++ [(x.fr, x.to)]) := by show _ = _; rw [HKF.out, if_pos rfl, List.map_append]; rfl
      go_wp2_with fail
      refine (HC1.out x _).mono ?_
      rintro e_r w5 ⟨rfl, hb5⟩
      have HX5 := Lib.hid (HXA.out.below hb5)
      have HW5 := Lib.hid (bel_on HWA.out hb5)
      have HR5 := Lib.hid (HRA.out.below hb5)
      obtain ⟨A9, c9, w9, hr9, row9, bel9, -, -, -⟩ := row_push HR5.out x.fr x.to (by have := HQ.out; omega) HW5.out.size (s := w5.heap.size) rfl
      rw [HQ.out] at hr9
      have HR9 := Lib.hid hr9
      have HW9 := Lib.hid (bel9 w (Nat.le_refl _) HW5.out)
      have HRW9 := Lib.hid row9
      obtain ⟨bx, hbx⟩ : ∃ bx, Hid (wr.heap.size = bx) := ⟨_, rfl⟩
      rw [hbx.out] at HX5
      rw [hbx.out]
      have y0 := HX5.out.cell 0 rfl
      have y1 := HX5.out.cell 1 rfl
      have yl := cell_lt y0
      clear hr9 row9 bel9 hb5 hbx z0 z1 z2 z3 z4 zl
      go_wp2_with (first | (at_builtin; refine wpList_append_run (o := ⟨some 24, _, _, _, _, _⟩) HR9.out rfl rfl rfl rfl ?_))
      go_roundg (n - (k + 1))
      case measure => omega
      case rel => exact ⟨k + 1, q + 1, c9, A9, rfl, by go_num, by omega, by omega, Lib.hid (by rw [HE1.out, List.length_append, HQ.out]; rfl), Lib.hid (by rw [HE1.out]; exact HRW9.out), HW9⟩
    · obtain rfl : k = n := by omega
      have e : l.take k = l := List.take_of_length_le (by omega)
      rw [e] at HR HQ
      have C := norm_any B d ((l.filter (fun _ => true)).map spanOf) wr (HR.out.spans HFT.out) (by have := HQ.out; omega)
      rw [HCK.out, HQ.out] at C
      have HC := Lib.hid C
      clear C e
      go_wp2_with fail
      refine HC.out.mono ?_
      intro e w4 hg
      have HG := gives_bel hg HW.out rfl
      clear hg
      obtain ⟨D, d4, rfl, hr, hb⟩ := HG
      go_wp2
      go_ret
      exact ⟨D, d4, rfl, hr, hb⟩
set_option maxHeartbeats 8000000 in
theorem secs_only (A : Option Addr) (n c : Nat) (l : List SegP) (w : World) (h : Segs w A n c l) (hn : n ≤ 100000) (hF : ∀ s ∈ l, Fit s.fr ∧ Fit s.to) (bk : Nat) (kd : Int) (hk : Has w bk #[.int .i64 kd]) :
    Calls Try.prog 29 #[.slice A n c, .func (.func 35) #[] #[.pointer (some ⟨bk, 0, none⟩)]] w (Gives w (clockP (l.filter (ofKind kd)))) := by
  have hlen := h.2
  have HL := Lib.hid h
  have HCK := Lib.hid (clock_spans (l.filter (ofKind kd)))
  have HFT : Hid (Fits ((l.filter (ofKind kd)).map spanOf)) := fun y hy => by obtain ⟨s, hs, rfl⟩ := List.mem_map.1 hy; exact hF s (List.mem_filter.1 hs).1
  have eg : ∀ args w, (callFunc 35 args).run Try.prog w = .ok (.enter 35 args) w := enters_of Try.func35 (by kernel_rfl) rfl
  have HK := Lib.hid hk
  clear hk
  clear h hF
  go_enter Try.func29, Try.ntmps29
  go_wp2
  go_loopg [5, 10] n (fun kx s5 s10 wr => ∃ (k q d : Nat) (B : Option Addr), s5 = .slice B q d ∧ s10 = .int .i64 k ∧ k + kx = n ∧ q ≤ k ∧ Hid ((((l.take k).filter (ofKind kd)).map spanOf).length = q) ∧ Hid (Row wr w.heap.size B d (((l.take k).filter (ofKind kd)).map spanOf)) ∧ Hid (Below w.heap.size w wr))
  case atStart => exact ⟨0, 0, 0, none, rfl, rfl, by omega, by omega, Lib.hid (by simp), Lib.hid (by rw [List.take_zero]; exact Row.nil _ _), Lib.hid (Below.refl _ _)⟩
  case round =>
    obtain ⟨k, q, d, B, rfl, rfl, hk, hqk, HQ, HR, HW⟩ := hrel
    by_cases hlt : k < n
    · have HLr := Lib.hid (HL.out.below HW.out)
      obtain ⟨ba, oa, rfl⟩ := HLr.out.form (by omega)
      obtain ⟨x, hx⟩ : ∃ x, l.getD k SegP.none = x := ⟨_, rfl⟩
      obtain ⟨z0, z1, z2, z3, z4⟩ := segs_num HLr.out hlt x hx
      have zl := cell_lt z0
      have HKF := Lib.hid (kind_filter (ofKind kd) l k (by omega))
      rw [hx] at HKF
      have i0 : (0 : Int) ≤ (k : Int) := by omega
      have i1 : (k : Int) < (n : Int) := by omega
      have hba := bel_alloc (Below.refl wr.heap.size wr) (.cells #[.int .i64 x.fr, .int .i64 x.to, .int .i64 x.kd, .int .i64 x.id, .int .i64 x.cd] 48)
      have HXA : Hid (Has (wr.alloc (.cells #[.int .i64 x.fr, .int .i64 x.to, .int .i64 x.kd, .int .i64 x.id, .int .i64 x.cd] 48)) wr.heap.size #[.int .i64 x.fr, .int .i64 x.to, .int .i64 x.kd, .int .i64 x.id, .int .i64 x.cd]) := Has.new wr _ _ rfl
      have HWA := Lib.hid (bel_on HW.out hba)
      have HRA := Lib.hid (HR.out.alloc (.cells #[.int .i64 x.fr, .int .i64 x.to, .int .i64 x.kd, .int .i64 x.id, .int .i64 x.cd] 48))
      clear hx hba
      cases hof : ofKind kd x with
      | true =>
        have HOF := Lib.hid (only1_any x _ bk kd (HK.out.below HWA.out) true hof)
        have HE1 : Hid (((l.take (k + 1)).filter (ofKind kd)).map spanOf = ((l.take k).filter (ofKind kd)).map spanOf ++ [(x.fr, x.to)]) := by show _ = _; rw [HKF.out, if_pos hof, List.map_append]; rfl
        clear hof
        go_wp2_with fail
        refine (HOF.out).mono ?_
        rintro e_r w5 ⟨rfl, hb5⟩
        have HX5 := Lib.hid (HXA.out.below hb5)
        have HW5 := Lib.hid (bel_on HWA.out hb5)
        have HR5 := Lib.hid (HRA.out.below hb5)
        obtain ⟨A9, c9, w9, hr9, row9, bel9, -, -, -⟩ := row_push HR5.out x.fr x.to (by have := HQ.out; omega) HW5.out.size (s := w5.heap.size) rfl
        rw [HQ.out] at hr9
        have HR9 := Lib.hid hr9
        have HW9 := Lib.hid (bel9 w (Nat.le_refl _) HW5.out)
        have HRW9 := Lib.hid row9
        obtain ⟨bx, hbx⟩ : ∃ bx, Hid (wr.heap.size = bx) := ⟨_, rfl⟩
        rw [hbx.out] at HX5
        rw [hbx.out]
        have y0 := HX5.out.cell 0 rfl
        have y1 := HX5.out.cell 1 rfl
        have yl := cell_lt y0
        clear hr9 row9 bel9 hb5 hbx z0 z1 z2 z3 z4 zl
        go_wp2_with (first | (at_builtin; refine wpList_append_run (o := ⟨some 24, _, _, _, _, _⟩) HR9.out rfl rfl rfl rfl ?_))
        go_roundg (n - (k + 1))
        case measure => omega
        case rel => exact ⟨k + 1, q + 1, c9, A9, rfl, by go_num, by omega, by omega, Lib.hid (by rw [HE1.out, List.length_append, HQ.out]; rfl), Lib.hid (by rw [HE1.out]; exact HRW9.out), HW9⟩
      | false =>
        have HOF := Lib.hid (only1_any x _ bk kd (HK.out.below HWA.out) false hof)
        have HE1 : Hid (((l.take (k + 1)).filter (ofKind kd)).map spanOf = ((l.take k).filter (ofKind kd)).map spanOf) := by show _ = _; rw [HKF.out, if_neg (by rw [hof]; simp), List.append_nil]
        clear hof
        go_wp2_with fail
        refine (HOF.out).mono ?_
        rintro e_r w5 ⟨rfl, hb5⟩
        have HW5 := Lib.hid (bel_on HWA.out hb5)
        have HR5 := Lib.hid (HRA.out.below hb5)
        clear hb5 z0 z1 z2 z3 z4 zl
        go_wp2
        go_roundg (n - (k + 1))
        case measure => omega
        case rel => exact ⟨k + 1, q, d, B, rfl, by go_num, by omega, by omega, Lib.hid (by rw [HE1.out]; exact HQ.out), Lib.hid (by rw [HE1.out]; exact HR5.out), HW5⟩
    · obtain rfl : k = n := by omega
      have e : l.take k = l := List.take_of_length_le (by omega)
      rw [e] at HR HQ
      have C := norm_any B d ((l.filter (ofKind kd)).map spanOf) wr (HR.out.spans HFT.out) (by have := HQ.out; omega)
      rw [HCK.out, HQ.out] at C
      have HC := Lib.hid C
      clear C e
      go_wp2_with fail
      refine HC.out.mono ?_
      intro e w4 hg
      have HG := gives_bel hg HW.out rfl
      clear hg
      obtain ⟨D, d4, rfl, hr, hb⟩ := HG
      go_wp2
      go_ret
      exact ⟨D, d4, rfl, hr, hb⟩
theorem sclock_any (A : Option Addr) (n c : Nat) (l : List SegP) (w : World) (h : Segs w A n c l) (hn : n ≤ 100000) (hF : ∀ s ∈ l, Fit s.fr ∧ Fit s.to) :
    Calls Try.prog 11 #[.slice A n c] w (Gives w (clockP l)) := by
  have HC := Lib.hid (secs_clock A n c l w h hn hF)
  rw [filter_true] at HC
  clear h hF
  go_enter Try.func11, Try.ntmps11
  go_wp2_with fail
  refine HC.out.mono ?_
  rintro e w4 ⟨D, d, rfl, hr, hb⟩
  go_wp2
  go_ret
  exact ⟨D, d, rfl, hr, hb⟩
theorem sonly_any (A : Option Addr) (n c : Nat) (l : List SegP) (kd : Int) (w : World) (h : Segs w A n c l) (hn : n ≤ 1000) (hF : ∀ s ∈ l, Fit s.fr ∧ Fit s.to) :
    Calls Try.prog 18 #[.slice A n c, .int .i64 kd] w (Gives w (clockP (l.filter (ofKind kd)))) := by
  have hb0 := bel_alloc (Below.refl w.heap.size w) (.cells #[.int .i64 kd] 3)
  have HC := Lib.hid (secs_only A n c l _ (h.below hb0) (by omega) hF w.heap.size kd (Has.new w 3 _ rfl))
  have HB := Lib.hid hb0
  clear h hF hb0
  go_enter Try.func18, Try.ntmps18
  go_wp2_with fail
  refine HC.out.mono ?_
  intro e w4 hg
  have HG := gives_bel hg HB.out rfl
  clear hg
  obtain ⟨D, d, rfl, hr, hb⟩ := HG
  go_wp2
  go_ret
  exact ⟨D, d, rfl, hr, hb⟩
end Go.Proofs.Ytghfhoodbiiciaa
