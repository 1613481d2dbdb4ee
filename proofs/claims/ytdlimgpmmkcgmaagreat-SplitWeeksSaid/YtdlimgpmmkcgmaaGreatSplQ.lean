/-
  Package split: the parts of a category are put to those that are there.
-/
import Derived.Test.YtdlimgpmmkcgmaaGreatZbg
import Derived.Test.YtdlimgpmmkcgmaaGreatSplU
import Derived.Test.YtdlimgpmmkcgmaaGreatZbc
import Derived.Test.YtdlimgpmmkcgmaaGreatZau
import Derived.Deep.LoopGhost
namespace Go.Proofs.YtdlimgpmmkcgmaaGreat
open Go.RowKit
set_option linter.unusedVariables false
set_option linter.unusedSimpArgs false
set_option maxRecDepth 20000

/-- The parts that are there, by the block of their variable; G: blocks that are another's. -/
structure PtI (base gP : Nat) (G : Nat → Prop) (raw : List PartP) (n : Nat) (A : Option Addr) (c : Nat) (W : World) : Prop where
  h : Has W gP #[.slice A n c]
  r : QRow W base A n c raw
  len : raw.length = n
  lo : gP < base
  hi : base ≤ W.heap.size
  far : ∀ b, G b → b < W.heap.size ∧ b ≠ gP ∧ ∀ x, A = some x → x.block ≠ b
section
variable {base gP n c : Nat} {G G' : Nat → Prop} {raw : List PartP} {A : Option Addr} {W W' : World}
theorem PtI.less (h : PtI base gP G raw n A c W) (hG : ∀ b, G' b → G b) : PtI base gP G' raw n A c W := ⟨h.h, h.r, h.len, h.lo, h.hi, fun b hb => h.far b (hG b hb)⟩
theorem PtI.below (h : PtI base gP G raw n A c W) (hb : Below W.heap.size W W') : PtI base gP G raw n A c W' :=
  ⟨h.h.below hb, h.r.below hb, h.len, h.lo, Nat.le_trans h.hi hb.size, fun b hB => ⟨Nat.lt_of_lt_of_le (h.far b hB).1 hb.size, (h.far b hB).2⟩⟩
theorem PtI.grow (h : PtI base gP G raw n A c W) (hb : Below W.heap.size W W') : PtI base gP (Grow G W W') raw n A c W' :=
  ⟨h.h.below hb, h.r.below hb, h.len, h.lo, Nat.le_trans h.hi hb.size, fun b hB => by
    rcases hB with hB | hB
    · exact ⟨Nat.lt_of_lt_of_le (h.far b hB).1 hb.size, (h.far b hB).2⟩
    · have := h.h.size
      exact ⟨hB.2, by omega, fun x hx => by have := (h.r.lt x hx).2; omega⟩⟩
theorem pt_one (h : PtI base gP G raw n A c W) (x : PartP) (hm : n < 1000000000) {s : Nat} (hs : W.heap.size = s) :
    ∃ A' c' w', (Builtin.append_ #[32, 32] 32 #[.slice A n c, .slice (some ⟨s, 0, none⟩) 1 1]).run Tryz.prog (W.alloc (.cells #[.int .i64 x.1, .int .i64 x.2.1, .int .i64 x.2.2] 42)) = .ok (.slice A' (n + 1) c') w' ∧ Has w' gP #[.slice A n c] ∧
      ∀ V, w'.setCell ⟨gP, 0, none⟩ (.slice A' (n + 1) c') = V → PtI base gP G (raw ++ [x]) (n + 1) A' c' V ∧ Kept G W V := by
  obtain ⟨hH, hR, hn, hlo, hhi, hG⟩ := h
  subst hn
  obtain ⟨A', c', w', hr, ho, hK, hl⟩ := prow_one hR x hm hhi hs
  have hA : ∀ g, A = some g → g.block ≠ gP := fun g e => by have := (hR.lt g e).1; omega
  have hH' : Has w' gP #[.slice A raw.length c] := hH.kept ⟨hH.size, hA⟩ hK
  refine ⟨A', c', w', hr, hH', ?_⟩
  rintro _ rfl
  have hK2 : Kept G W (w'.setCell ⟨gP, 0, none⟩ (.slice A' (raw.length + 1) c')) :=
    (hK.less fun i hi => ⟨(hG i hi).1, (hG i hi).2.2⟩).setn (p := ⟨gP, 0, none⟩) (fun h => (hG gP h).2.1 rfl) _
  have hsz := hK2.size
  refine ⟨⟨hH'.set 0 _, ?_, by simp, hlo, Nat.le_trans hhi hsz, fun b hb => ⟨Nat.lt_of_lt_of_le (hG b hb).1 hsz, (hG b hb).2.1, fun g e => ?_⟩⟩, hK2⟩
  · have := TRow.set ho (p := ⟨gP, 0, none⟩) hlo (.slice A' (raw.length + 1) c')
    rw [List.length_append] at this
    exact this
  · rcases hl g e with ⟨g0, e0, q⟩ | q
    · rw [q]; exact (hG b hb).2.2 g0 e0
    · have := (hG b hb).1; omega
end
set_option maxHeartbeats 8000000 in
theorem put_c (cat : Int) (B : Option Addr) (m d : Nat) (ls : List (Int × Int)) (gP base : Nat) (G : Nat → Prop) (raw : List PartP) (n : Nat) (A : Option Addr) (c : Nat) (w : World) (hI : PtI base gP G raw n A c w) (hX : Spans w B ls) (hG : ∀ x, B = some x → G x.block) (hls : ls.length = m) (hm : n + m ≤ 999999999) :
    Calls Tryz.prog 26 #[.int .i64 cat, .slice B m d, .pointer (some ⟨gP, 0, none⟩)] w fun e w' => e = .returned (.tuple #[]) ∧ Kept G w w' ∧ ∃ A' c', PtI base gP G (raw ++ partsC ls cat) (n + m) A' c' w' := by
  have HI := Lib.hid hI
  have HX := Lib.hid hX
  have HG := Lib.hid hG
  clear hI hX hG
  go_enter Tryz.func26, Tryz.ntmps26
  go_wp2
  go_loopg [9] m (fun kx s9 wr => ∃ (i q : Nat) (A' : Option Addr) (c' : Nat), s9 = .int .i64 i ∧ i + kx = m ∧ q = n + i ∧ Hid (PtI base gP G (raw ++ partsC (ls.take i) cat) q A' c' wr) ∧ Hid (Kept G w wr))
  case atStart => exact ⟨0, n, A, c, rfl, by omega, by omega, Lib.hid (by rw [List.take_zero]; simpa [partsC] using HI.out), Lib.hid (Kept.refl _ _)⟩
  case round =>
    obtain ⟨i, q, A', c', rfl, hi, hq, HP, HK⟩ := hrel
    have HQ := Lib.hid hq
    have hq9 : q < 1000000000 := by omega
    clear hq
    by_cases hlt : i < m
    · have HL := Lib.hid (spans_kept HX.out HK.out HG.out)
      obtain ⟨ba, oa, rfl, zl, d1, d2⟩ := HL.out.2 i (by omega)
      have HTK := Lib.hid (partsC_take (l := ls) (i := i) cat (by omega))
      generalize ls.getD i (0, 0) = z at *
      obtain ⟨x, y⟩ := z
      simp only [] at d1 d2
      have i2 : (0 : Int) ≤ (i : Int) := by omega
      have i3 : (i : Int) < (m : Int) := by omega
      have HPA := Lib.hid (HP.out.below (bel_alloc (Below.refl wr.heap.size wr) (.cells #[.int .i64 x, .int .i64 y] 44)))
      have HXA : Hid (Has (wr.alloc (.cells #[.int .i64 x, .int .i64 y] 44)) wr.heap.size #[.int .i64 x, .int .i64 y]) := Has.new wr _ _ rfl
      have HKA : Hid (Kept G wr (wr.alloc (.cells #[.int .i64 x, .int .i64 y] 44))) := Kept.of_below (bel_alloc (Below.refl wr.heap.size wr) _) fun b hb => (HP.out.far b hb).1
      obtain ⟨A9, c9, w9, hr9, hh9, hv9⟩ := pt_one HPA.out (x, y, cat) hq9 (s := wr.heap.size + 1) (by simp)
      have HR9 := Lib.hid hr9
      have HV9 := Lib.hid hv9
      have y0 := HXA.out.cell 0 rfl
      have y1 := HXA.out.cell 1 rfl
      have yl := cell_lt y0
      have p0 := HPA.out.h.cell 0 rfl
      have pl := cell_lt p0
      have t0 := hh9.cell 0 rfl
      have t1 := hh9.frozen 0
      have tl := cell_lt t0
      clear hr9 hv9 hh9
      go_wp2_with (first | (at_builtin; refine wpList_append_run (o := ⟨some 21, _, _, _, _, _⟩) HR9.out rfl rfl rfl rfl ?_))
      go_roundg (m - (i + 1))
      case measure => omega
      case rel => exact ⟨i + 1, q + 1, A9, c9, by go_num, by omega, by have := HQ.out; omega, Lib.hid (by rw [HTK.out, ← List.append_assoc]; exact (HV9.out _ rfl).1), Lib.hid ((HK.out.on HKA.out).on (HV9.out _ rfl).2)⟩
    · obtain rfl : i = m := by omega
      have e : ls.take i = ls := List.take_of_length_le (by omega)
      rw [e] at HP
      have hq := HQ.out
      subst hq
      go_wp2
      go_end0
      exact ⟨rfl, HK.out, A', c', HP.out⟩
end Go.Proofs.YtdlimgpmmkcgmaaGreat
