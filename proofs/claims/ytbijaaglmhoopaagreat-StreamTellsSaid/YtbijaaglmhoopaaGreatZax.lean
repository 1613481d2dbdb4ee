/-
  Package stream's Clock and Only: the seconds of parts.
  The calls whose answers the document fixes, at the head of layer 12's laws.
-/
import Derived.Test.YtbijaaglmhoopaaGreatZat
import Derived.Test.YtbijaaglmhoopaaGreatSpC
import Derived.Test.YtbijaaglmhoopaaGreatZaw
import Derived.Test.YtbijaaglmhoopaaGreatZar
import Derived.Test.YtbijaaglmhoopaaGreatZas
import Derived.Deep.DeepCutAuto
namespace Go.Proofs.YtbijaaglmhoopaaGreat
open Go.RowKit
set_option linter.unusedVariables false
set_option linter.unusedSimpArgs false
set_option maxRecDepth 20000

theorem clock1_any (x : SegP) (w : World) : Calls Tryz.prog 26 #[.agg #[.int .i64 x.fr, .int .i64 x.to, .int .i64 x.kd, .int .i64 x.id, .int .i64 x.cd]] w fun e w' => e = .returned (.bool true) ∧ Below w.heap.size w w' := by
  have hb0 := bel_alloc (Below.refl w.heap.size w) (.cells #[.int .i64 x.fr, .int .i64 x.to, .int .i64 x.kd, .int .i64 x.id, .int .i64 x.cd] 50)
  go_enter Tryz.func26, Tryz.ntmps26
  go_wp2
  go_ret
  exact ⟨rfl, hb0⟩
theorem only1_any (x : SegP) (w : World) (bk : Nat) (kd : Int) (hk : Has w bk #[.int .i64 kd]) (b : Bool) (hb : ofKind kd x = b) :
    Calls Tryz.prog 28 #[.agg #[.int .i64 x.fr, .int .i64 x.to, .int .i64 x.kd, .int .i64 x.id, .int .i64 x.cd], .pointer (some ⟨bk, 0, none⟩)] w fun e w' => e = .returned (.bool b) ∧ Below w.heap.size w w' := by
  have hb0 := bel_alloc (Below.refl w.heap.size w) (.cells #[.int .i64 x.fr, .int .i64 x.to, .int .i64 x.kd, .int .i64 x.id, .int .i64 x.cd] 50)
  have qk := hk.cell 0 rfl
  have zk := cell_lt qk
  have e : (x.kd == kd) = b := by rw [← hb]; unfold ofKind; exact Bool.eq_iff_iff.2 (by simp)
  go_enter Tryz.func28, Tryz.ntmps28
  go_wp2
  go_ret
  exact ⟨by first | rfl | simp [e], by first | exact hb0 | (repeat' (first | with_reducible exact Below.refl _ _ | with_reducible assumption | with_reducible refine bel_alloc ?_ _ | with_reducible refine bel_set ?_ ?_ _ | with_reducible refine below_drewN ?_ _ | with_reducible refine below_drew ?_ | (simp; done) | (simp; omega) | omega))⟩
theorem filter_true (l : List SegP) : l.filter (fun _ => true) = l := List.filter_eq_self.2 fun _ _ => rfl
set_option maxHeartbeats 8000000 in
theorem secs_clock (A : Option Addr) (n c : Nat) (l : List SegP) (w : World) (h : Segs w A n c l) (hn : n ≤ 100000) (hF : ∀ s ∈ l, Fit s.fr ∧ Fit s.to) :
    Calls Tryz.prog 25 #[.slice A n c, .func (.func 26) #[] #[]] w (Gives w (clockP (l.filter (fun _ => true)))) := by
  have hlen := h.2
  have HL := Lib.hid h
  have HCK := Lib.hid (clock_spans (l.filter (fun _ => true)))
  have HFT : Hid (Fits ((l.filter (fun _ => true)).map spanOf)) := fun y hy => by obtain ⟨s, hs, rfl⟩ := List.mem_map.1 hy; exact hF s (List.mem_filter.1 hs).1
  have eg : ∀ args w, (callFunc 26 args).run Tryz.prog w = .ok (.enter 26 args) w := enters_of Tryz.func26 (by kernel_rfl) rfl
  have HC1 := Lib.hid (fun x W => clock1_any x W)
  clear h hF
  go_enter Tryz.func25, Tryz.ntmps25
  go_wp2
  go_loopg [5, 10] n (fun kx s5 s10 wr => ∃ (k q d : Nat) (B : Option Addr), s5 = .slice B q d ∧ s10 = .int .i64 k ∧ k + kx = n ∧ q ≤ k ∧ Hid ((((l.take k).filter (fun _ => true)).map spanOf).length = q) ∧ Hid (Row wr w.heap.size B d (((l.take k).filter (fun _ => true)).map spanOf)) ∧ Hid (Below w.heap.size w wr))
  case atStart => exact ⟨0, 0, 0, none, rfl, rfl, by omega, by omega, Lib.hid (by simp), Lib.hid (by rw [List.take_zero]; exact Row.nil _ _), Lib.hid (Below.refl _ _)⟩
  case round =>
    obtain ⟨k, q, d, B, rfl, rfl, hk, hqk, HQ, HR, HW⟩ := hrel
    by_cases hlt : k < n
    · have HLr := Lib.hid (HL.out.below HW.out)
      obtain ⟨ba, oa, rfl⟩ := HLr.out.form (by omega)
      obtain ⟨x, hx⟩ : ∃ x, l.getD k SegP.none = x := ⟨_, rfl⟩
      obtain ⟨z0, z1, z2, z3, z4⟩ := segs_num HLr.out hlt x hx
      have zl := cell_lt z0
      have HKF := Lib.hid (kind_filter (fun _ => true) l k (by omega))
      rw [hx] at HKF
      have i0 : (0 : Int) ≤ (k : Int) := by omega
      have i1 : (k : Int) < (n : Int) := by omega
      have hba := bel_alloc (Below.refl wr.heap.size wr) (.cells #[.int .i64 x.fr, .int .i64 x.to, .int .i64 x.kd, .int .i64 x.id, .int .i64 x.cd] 50)
      have HXA : Hid (Has (wr.alloc (.cells #[.int .i64 x.fr, .int .i64 x.to, .int .i64 x.kd, .int .i64 x.id, .int .i64 x.cd] 50)) wr.heap.size #[.int .i64 x.fr, .int .i64 x.to, .int .i64 x.kd, .int .i64 x.id, .int .i64 x.cd]) := Has.new wr _ _ rfl
      have HWA := Lib.hid (bel_on HW.out hba)
      have HRA := Lib.hid (HR.out.alloc (.cells #[.int .i64 x.fr, .int .i64 x.to, .int .i64 x.kd, .int .i64 x.id, .int .i64 x.cd] 50))
      clear hx hba
      have HE1 : Hid (((l.take (k + 1)).filter (fun _ => true)).map spanOf = ((l.take k).filter (fun _ => true)).map spanOf ++ [(x.fr, x.to)]) := by show _ = _; rw [HKF.out, if_pos rfl, List.map_append]; rfl
      go_wp2_with fail
      refine (HC1.out x _).mono ?_
      rintro e_r w5 ⟨rfl, hb5⟩
      have HX5 := Lib.hid (HXA.out.below hb5)
      have HW5 := Lib.hid (bel_on HWA.out hb5)
      have HR5 := Lib.hid (HRA.out.below hb5)
      obtain ⟨A9, c9, w9, hr9, row9, bel9, -, -, -⟩ := row_push HR5.out x.fr x.to (by have := HQ.out; omega) HW5.out.size (s := w5.heap.size) rfl
      rw [HQ.out] at hr9
      have HR9 := Lib.hid hr9
      have HW9 := Lib.hid (bel9 w (Nat.le_refl _) HW5.out)
      have HRW9 := Lib.hid row9
      obtain ⟨bx, hbx⟩ : ∃ bx, Hid (wr.heap.size = bx) := ⟨_, rfl⟩
      rw [hbx.out] at HX5
      rw [hbx.out]
      have y0 := HX5.out.cell 0 rfl
      have y1 := HX5.out.cell 1 rfl
      have yl := cell_lt y0
      clear hr9 row9 bel9 hb5 hbx z0 z1 z2 z3 z4 zl
      go_wp2_with (first | (at_builtin; refine wpList_append_run (o := ⟨some 24, _, _, _, _, _⟩) HR9.out rfl rfl rfl rfl ?_))
      go_roundg (n - (k + 1))
      case measure => omega
      case rel => exact ⟨k + 1, q + 1, c9, A9, rfl, by go_num, by omega, by omega, Lib.hid (by rw [HE1.out, List.length_append, HQ.out]; rfl), Lib.hid (by rw [HE1.out]; exact HRW9.out), HW9⟩
    · obtain rfl : k = n := by omega
      have e : l.take k = l := List.take_of_length_le (by omega)
      rw [e] at HR HQ
      have C := norm_any B d ((l.filter (fun _ => true)).map spanOf) wr (HR.out.spans HFT.out) (by have := HQ.out; omega)
      rw [HCK.out, HQ.out] at C
      have HC := Lib.hid C
      clear C e
      go_wp2_with fail
      refine HC.out.mono ?_
      intro e w4 hg
      have HG := gives_bel hg HW.out rfl
      clear hg
      obtain ⟨D, d4, rfl, hr, hb⟩ := HG
      go_wp2
      go_ret
      exact ⟨D, d4, rfl, hr, hb⟩
set_option maxHeartbeats 8000000 in
theorem secs_only (A : Option Addr) (n c : Nat) (l : List SegP) (w : World) (h : Segs w A n c l) (hn : n ≤ 100000) (hF : ∀ s ∈ l, Fit s.fr ∧ Fit s.to) (bk : Nat) (kd : Int) (hk : Has w bk #[.int .i64 kd]) :
    Calls Tryz.prog 25 #[.slice A n c, .func (.func 28) #[] #[.pointer (some ⟨bk, 0, none⟩)]] w (Gives w (clockP (l.filter (ofKind kd)))) := by
  have hlen := h.2
  have HL := Lib.hid h
  have HCK := Lib.hid (clock_spans (l.filter (ofKind kd)))
  have HFT : Hid (Fits ((l.filter (ofKind kd)).map spanOf)) := fun y hy => by obtain ⟨s, hs, rfl⟩ := List.mem_map.1 hy; exact hF s (List.mem_filter.1 hs).1
  have eg : ∀ args w, (callFunc 28 args).run Tryz.prog w = .ok (.enter 28 args) w := enters_of Tryz.func28 (by kernel_rfl) rfl
  have HK := Lib.hid hk
  clear hk
  clear h hF
  go_enter Tryz.func25, Tryz.ntmps25
  go_wp2
  go_loopg [5, 10] n (fun kx s5 s10 wr => ∃ (k q d : Nat) (B : Option Addr), s5 = .slice B q d ∧ s10 = .int .i64 k ∧ k + kx = n ∧ q ≤ k ∧ Hid ((((l.take k).filter (ofKind kd)).map spanOf).length = q) ∧ Hid (Row wr w.heap.size B d (((l.take k).filter (ofKind kd)).map spanOf)) ∧ Hid (Below w.heap.size w wr))
  case atStart => exact ⟨0, 0, 0, none, rfl, rfl, by omega, by omega, Lib.hid (by simp), Lib.hid (by rw [List.take_zero]; exact Row.nil _ _), Lib.hid (Below.refl _ _)⟩
  case round =>
    obtain ⟨k, q, d, B, rfl, rfl, hk, hqk, HQ, HR, HW⟩ := hrel
    by_cases hlt : k < n
    · have HLr := Lib.hid (HL.out.below HW.out)
      obtain ⟨ba, oa, rfl⟩ := HLr.out.form (by omega)
      obtain ⟨x, hx⟩ : ∃ x, l.getD k SegP.none = x := ⟨_, rfl⟩
      obtain ⟨z0, z1, z2, z3, z4⟩ := segs_num HLr.out hlt x hx
      have zl := cell_lt z0
      have HKF := Lib.hid (kind_filter (ofKind kd) l k (by omega))
      rw [hx] at HKF
      have i0 : (0 : Int) ≤ (k : Int) := by omega
      have i1 : (k : Int) < (n : Int) := by omega
      have hba := bel_alloc (Below.refl wr.heap.size wr) (.cells #[.int .i64 x.fr, .int .i64 x.to, .int .i64 x.kd, .int .i64 x.id, .int .i64 x.cd] 50)
      have HXA : Hid (Has (wr.alloc (.cells #[.int .i64 x.fr, .int .i64 x.to, .int .i64 x.kd, .int .i64 x.id, .int .i64 x.cd] 50)) wr.heap.size #[.int .i64 x.fr, .int .i64 x.to, .int .i64 x.kd, .int .i64 x.id, .int .i64 x.cd]) := Has.new wr _ _ rfl
      have HWA := Lib.hid (bel_on HW.out hba)
      have HRA := Lib.hid (HR.out.alloc (.cells #[.int .i64 x.fr, .int .i64 x.to, .int .i64 x.kd, .int .i64 x.id, .int .i64 x.cd] 50))
      clear hx hba
      cases hof : ofKind kd x with
      | true =>
        have HOF := Lib.hid (only1_any x _ bk kd (HK.out.below HWA.out) true hof)
        have HE1 : Hid (((l.take (k + 1)).filter (ofKind kd)).map spanOf = ((l.take k).filter (ofKind kd)).map spanOf ++ [(x.fr, x.to)]) := by show _ = _; rw [HKF.out, if_pos hof, List.map_append]; rfl
        clear hof
        go_wp2_with fail
        refine (HOF.out).mono ?_
        rintro e_r w5 ⟨rfl, hb5⟩
        have HX5 := Lib.hid (HXA.out.below hb5)
        have HW5 := Lib.hid (bel_on HWA.out hb5)
        have HR5 := Lib.hid (HRA.out.below hb5)
        obtain ⟨A9, c9, w9, hr9, row9, bel9, -, -, -⟩ := row_push HR5.out x.fr x.to (by have := HQ.out; omega) HW5.out.size (s := w5.heap.size) rfl
        rw [HQ.out] at hr9
        have HR9 := Lib.hid hr9
        have HW9 := Lib.hid (bel9 w (Nat.le_refl _) HW5.out)
        have HRW9 := Lib.hid row9
        obtain ⟨bx, hbx⟩ : ∃ bx, Hid (wr.heap.size = bx) := ⟨_, rfl⟩
        rw [hbx.out] at HX5
        rw [hbx.out]
        have y0 := HX5.out.cell 0 rfl
        have y1 := HX5.out.cell 1 rfl
        have yl := cell_lt y0
        clear hr9 row9 bel9 hb5 hbx z0 z1 z2 z3 z4 zl
        go_wp2_with (first | (at_builtin; refine wpList_append_run (o := ⟨some 24, _, _, _, _, _⟩) HR9.out rfl rfl rfl rfl ?_))
        go_roundg (n - (k + 1))
        case measure => omega
        case rel => exact ⟨k + 1, q + 1, c9, A9, rfl, by go_num, by omega, by omega, Lib.hid (by rw [HE1.out, List.length_append, HQ.out]; rfl), Lib.hid (by rw [HE1.out]; exact HRW9.out), HW9⟩
      | false =>
        have HOF := Lib.hid (only1_any x _ bk kd (HK.out.below HWA.out) false hof)
        have HE1 : Hid (((l.take (k + 1)).filter (ofKind kd)).map spanOf = ((l.take k).filter (ofKind kd)).map spanOf) := by show _ = _; rw [HKF.out, if_neg (by rw [hof]; simp), List.append_nil]
        clear hof
        go_wp2_with fail
        refine (HOF.out).mono ?_
        rintro e_r w5 ⟨rfl, hb5⟩
        have HW5 := Lib.hid (bel_on HWA.out hb5)
        have HR5 := Lib.hid (HRA.out.below hb5)
        clear hb5 z0 z1 z2 z3 z4 zl
        go_wp2
        go_roundg (n - (k + 1))
        case measure => omega
        case rel => exact ⟨k + 1, q, d, B, rfl, by go_num, by omega, by omega, Lib.hid (by rw [HE1.out]; exact HQ.out), Lib.hid (by rw [HE1.out]; exact HR5.out), HW5⟩
    · obtain rfl : k = n := by omega
      have e : l.take k = l := List.take_of_length_le (by omega)
      rw [e] at HR HQ
      have C := norm_any B d ((l.filter (ofKind kd)).map spanOf) wr (HR.out.spans HFT.out) (by have := HQ.out; omega)
      rw [HCK.out, HQ.out] at C
      have HC := Lib.hid C
      clear C e
      go_wp2_with fail
      refine HC.out.mono ?_
      intro e w4 hg
      have HG := gives_bel hg HW.out rfl
      clear hg
      obtain ⟨D, d4, rfl, hr, hb⟩ := HG
      go_wp2
      go_ret
      exact ⟨D, d4, rfl, hr, hb⟩
theorem sclock_any (A : Option Addr) (n c : Nat) (l : List SegP) (w : World) (h : Segs w A n c l) (hn : n ≤ 100000) (hF : ∀ s ∈ l, Fit s.fr ∧ Fit s.to) :
    Calls Tryz.prog 11 #[.slice A n c] w (Gives w (clockP l)) := by
  have HC := Lib.hid (secs_clock A n c l w h hn hF)
  rw [filter_true] at HC
  clear h hF
  go_enter Tryz.func11, Tryz.ntmps11
  go_wp2_with fail
  refine HC.out.mono ?_
  rintro e w4 ⟨D, d, rfl, hr, hb⟩
  go_wp2
  go_ret
  exact ⟨D, d, rfl, hr, hb⟩
theorem sonly_any (A : Option Addr) (n c : Nat) (l : List SegP) (kd : Int) (w : World) (h : Segs w A n c l) (hn : n ≤ 1000) (hF : ∀ s ∈ l, Fit s.fr ∧ Fit s.to) :
    Calls Tryz.prog 13 #[.slice A n c, .int .i64 kd] w (Gives w (clockP (l.filter (ofKind kd)))) := by
  have hb0 := bel_alloc (Below.refl w.heap.size w) (.cells #[.int .i64 kd] 3)
  have HC := Lib.hid (secs_only A n c l _ (h.below hb0) (by omega) hF w.heap.size kd (Has.new w 3 _ rfl))
  have HB := Lib.hid hb0
  clear h hF hb0
  go_enter Tryz.func13, Tryz.ntmps13
  go_wp2_with fail
  refine HC.out.mono ?_
  intro e w4 hg
  have HG := gives_bel hg HB.out rfl
  clear hg
  obtain ⟨D, d, rfl, hr, hb⟩ := HG
  go_wp2
  go_ret
  exact ⟨D, d, rfl, hr, hb⟩
end Go.Proofs.YtbijaaglmhoopaaGreat

namespace Go.Proofs.YtbijaaglmhoopaaGreat
open Go.RowKit
set_option linter.unusedVariables false
set_option linter.unusedSimpArgs false
set_option maxRecDepth 20000

def aw12P : SetP := ⟨1, [], 1, 1, [[1, 1, 1, 1]], [[1, 1]], [[1, 1]], 0, 900, 3600, 0, 0, 0, 0, 0, 0, 0, 0, [1], 0, 0, 0, []⟩
def aw12C (N : Nat) : Array Value := #[.int .i64 1, .slice none 0 0, .int .i64 1, .int .i64 1, .slice (some ⟨N + 1, 0, none⟩) 1 1, .slice (some ⟨N + 1 + 1, 0, none⟩) 1 1, .slice (some ⟨N + 1 + 1 + 1, 0, none⟩) 1 1, .int .i64 0, .int .i64 900, .int .i64 3600, .int .i64 0, .int .i64 0, .int .i64 0,
  .int .i64 0, .int .i64 0, .int .i64 0, .int .i64 0, .int .i64 0, .slice (some ⟨N + 1 + 1 + 1 + 1, 0, none⟩) 1 1, .int .i64 0, .int .i64 0, .int .i64 0, .slice none 0 0]
theorem aw12C_V (N : Nat) : setV aw12P none (some ⟨N + 1, 0, none⟩) (some ⟨N + 1 + 1, 0, none⟩) (some ⟨N + 1 + 1 + 1, 0, none⟩) (some ⟨N + 1 + 1 + 1 + 1, 0, none⟩) none 0 1 1 1 1 0 = .agg (aw12C N) := rfl
theorem aw12_fit : aw12P.Fit := by constructor <;> simp [aw12P, In64]
def aw12L : List EvP := [⟨2, 0, 1000, 3, 0, 0, 0, 0, 0, 0, 0⟩, ⟨1, 0, 400, 1, 0, 0, 0, 0, 0, 0, 0⟩, ⟨3, 0, 2000, 2, 0, 0, 0, 0, 0, 0, 0⟩, ⟨4, 0, 2001, 5, 0, 0, 0, 0, 0, 0, 0⟩, ⟨5, 0, 9000, 1, 0, 0, 0, 0, 0, 0, 0⟩]
def aw12E : Array Value := (ints .i64 (aw12L.map evLs).flatten).toArray
def aw12S : List SegP := [⟨0, 1000, 0, 1, 0⟩, ⟨1000, 1800, 1, 2, 0⟩, ⟨9000, 12600, 0, 5, 0⟩]
def aw12F : List FlagP := [⟨4, 3⟩, ⟨5, 1⟩]
theorem aw12_segs : segsOf aw12P 0 aw12L = aw12S := by decide +kernel
theorem aw12_flags : flagsOf aw12P 0 aw12L = aw12F := by decide +kernel
theorem aw12_segs1 : segsOf aw12P 1 aw12L = [] := by decide +kernel
theorem aw12_flags1 : flagsOf aw12P 1 aw12L = [] := by decide +kernel
theorem aw12_in : ∀ e ∈ aw12L, e.In := by
  intro e he
  simp only [aw12L, List.mem_cons, List.not_mem_nil, or_false] at he
  rcases he with rfl | rfl | rfl | rfl | rfl <;> constructor <;> simp
theorem aw12_only : clockP (aw12S.filter (ofKind 1)) = [(1000, 1800)] := by
  have e : aw12S.filter (ofKind 1) = [⟨1000, 1800, 1, 2, 0⟩] := by decide +kernel
  rw [e, ← clock_spans]
  exact canon_self (l := [(1000, 1800)]) (by simp [PlainFrom])
theorem aw12_clock : clockP aw12S = [(0, 1800), (9000, 12600)] := by
  rw [← clock_spans]
  refine (canon_congr fun t _ _ => ?_).trans (canon_self (l := [(0, 1800), (9000, 12600)]) (by simp [PlainFrom]))
  simp only [aw12S, List.map_cons, List.map_nil, spanOf, in_cons, in_nil, or_false]
  omega
theorem aw12_size : sz (In [(0, 1800), (9000, 12600)]) = 5400 := by
  rw [← szL_canon, canon_self (l := [(0, 1800), (9000, 12600)]) (by simp [PlainFrom])]
  rfl
theorem aw12_fits : ∀ x ∈ aw12S, Fit x.fr ∧ Fit x.to := by
  intro x hx
  simp only [aw12S, List.mem_cons, List.not_mem_nil, or_false] at hx
  rcases hx with rfl | rfl | rfl <;> exact ⟨⟨by simp, by simp⟩, ⟨by simp, by simp⟩⟩
theorem aw12_f1 : Fits [(1000, 1800)] := .of_plain (by simp [PlainFrom])
theorem aw12_f2 : Fits [(0, 1800), (9000, 12600)] := .of_plain (by simp [PlainFrom])
theorem aw12_ev {w : World} {g : Nat} (h : Has w g aw12E) : Evs w (some ⟨g, 0, none⟩) 5 5 aw12L := by
  refine ⟨⟨rfl, .inr ⟨_, rfl, fun j u hu => ?_⟩⟩, rfl⟩
  rw [tab_add, Nat.zero_add]
  exact h.cell j (by unfold aw12E; simpa using hu)
theorem tab_rows12 {w : World} {g k n : Nat} {t : Rows2} (h : Has w g (ints .i64 t.flatten).toArray) (hk : ∀ r ∈ t, r.length = k) (hn : t.length = n) (h6 : n ≤ 1000) (hz : ∀ r ∈ t, ∀ z ∈ r, In64 z) : Tab k w (some ⟨g, 0, none⟩) n n t := by
  refine ⟨⟨?_, .inr ⟨_, rfl, fun j u hu => ?_⟩⟩, hn, hk, hz, by omega, by omega⟩
  · rw [ints, List.length_map, rows_len t hk, hn, Nat.mul_comm]
  · rw [tab_add, Nat.zero_add]
    exact h.cell j (by simpa using hu)
set_option maxHeartbeats 8000000 in
theorem awake12 (w : World) : Calls Tryz.prog 4 #[] w fun e w' => e = .returned (.bool true) ∧ Below w.heap.size w w' := by
  have H1 := Lib.hid (setV_cells _ _ _ _ _ _ _ _ _ _ _ _ _ _ (aw12C_V w.heap.size))
  have HZ := Lib.hid H1.out.1
  go_enter Tryz.func4, Tryz.ntmps4
  go_upto_region 2 with fail
  go_cut [2] (fun v2 wx => ∃ g : Nat, v2 = .pointer (some ⟨g, 0, none⟩) ∧ Hid (Has wx g (aw12C w.heap.size)) ∧ Hid (SetW wx aw12P (aw12C w.heap.size)) ∧ Hid (Below w.heap.size w wx))
  case first =>
    go_wp2_with (first | refine wpList_laidS (aw12C w.heap.size) 2 _ _ rfl rfl rfl rfl rfl rfl rfl rfl H1.out.1 H1.out.2 ?_)
    go_meet
    refine ⟨_, rfl, ?_, ?_, ?_⟩
    · exact Has.new _ _ _ rfl
    · refine Lib.hid (setW_of (aw12C_V w.heap.size) ⟨Tab.nil_, tab_rows12 (t := [[1, 1, 1, 1]]) ?_ (by simp) rfl (by decide) (by simp [In64]), tab_rows12 (t := [[1, 1]]) ?_ (by simp) rfl (by decide) (by simp [In64]),
        tab_rows12 (t := [[1, 1]]) ?_ (by simp) rfl (by decide) (by simp [In64]), tab_rows12 (t := [[1]]) ?_ (by simp) rfl (by decide) (by simp [In64]), Tab.nil_⟩ aw12_fit)
      · exact ((((Has.new _ _ _ (by simp)).alloc _).alloc _).alloc _).alloc _
      · exact (((Has.new _ _ _ (by simp)).alloc _).alloc _).alloc _
      · exact ((Has.new _ _ _ (by simp)).alloc _).alloc _
      · exact (Has.new _ _ _ (by simp)).alloc _
    · show Below _ _ _
      (repeat' (first | with_reducible exact Below.refl _ _ | with_reducible assumption | with_reducible refine bel_alloc ?_ _ | with_reducible refine bel_set ?_ ?_ _ | with_reducible refine below_drewN ?_ _ | with_reducible refine below_drew ?_ | (simp; done) | (simp; omega) | omega))
  case rest =>
    obtain ⟨g, rfl, HB, HS, HBW⟩ := hcut
    clear H1
    generalize aw12C w.heap.size = cs at *
    go_upto_region 3 with fail
    go_cut [3] (fun v3 wx => ∃ g3 : Nat, v3 = .slice (some ⟨g3, 0, none⟩) 5 5 ∧ Hid (Has wx g3 aw12E) ∧ Hid (Has wx g cs) ∧ Hid (SetW wx aw12P cs) ∧ Hid (Below w.heap.size w wx))
    case first =>
      go_wp2_with fail
      go_meet
      refine ⟨_, rfl, ?_, ?_, ?_, ?_⟩
      · exact Has.new _ _ _ rfl
      · exact HB.out.alloc _
      · exact Lib.hid (HS.out.below (bel_alloc (Below.refl _ _) _))
      · exact bel_alloc HBW.out _
    case rest =>
      clear HB HS HBW
      obtain ⟨g3, rfl, HE, HB, HS, HBW⟩ := hcut
      have HEV := Lib.hid (aw12_ev HE.out)
      clear HE
      go_wp2_with (refine wpList_exec (o := ⟨some 28, _, _, _, _, _⟩) (by rfl) (exec_load_st _ rfl rfl HB.out HZ.out) ?_)
      refine (stream_any aw12P cs _ HS.out _ 5 5 aw12L HEV.out (by decide) aw12_in 0).mono ?_
      intro e w1 hg
      obtain ⟨A1, c1, B1, d1, rfl, hs1, hf1, hb1⟩ := hg.two
      rw [aw12_segs] at hs1 ⊢
      rw [aw12_flags] at hf1 ⊢
      have HB1 := Lib.hid (HB.out.below hb1)
      have HS1 := Lib.hid (HS.out.below hb1)
      have HE1 := Lib.hid (HEV.out.below hb1)
      have HW1 := Lib.hid (bel_on HBW.out hb1)
      have HSG := Lib.hid hs1
      have HFG := Lib.hid hf1
      have e3 : aw12S.length = 3 := rfl
      have e2 : aw12F.length = 2 := rfl
      rw [e3] at HSG ⊢
      rw [e2] at HFG ⊢
      clear hg hs1 hf1 hb1 HB HS HEV HBW e3 e2
      go_wp2_with (refine wpList_exec (o := ⟨some 34, _, _, _, _, _⟩) (by rfl) (exec_load_st _ rfl rfl HB1.out HZ.out) ?_)
      refine (stream_any aw12P cs _ HS1.out _ 5 5 aw12L HE1.out (by decide) aw12_in 1).mono ?_
      intro e w2 hg
      obtain ⟨A2, c2, B2, d2, rfl, hs2, hf2, hb2⟩ := hg.two
      rw [aw12_segs1] at hs2 ⊢
      rw [aw12_flags1] at hf2 ⊢
      have HS2 := Lib.hid (HSG.out.below hb2)
      have HF2 := Lib.hid (HFG.out.below hb2)
      have HW2 := Lib.hid (bel_on HW1.out hb2)
      have e0 : ([] : List SegP).length = 0 := rfl
      have e1 : ([] : List FlagP).length = 0 := rfl
      rw [e0, e1]
      clear hg hs2 hf2 hb2 HB1 HS1 HE1 HW1 HSG HFG HZ e0 e1
      obtain ⟨b, off, rfl⟩ := HS2.out.form (by decide)
      obtain ⟨bf, of, rfl⟩ := Flgs.form HF2.out (by decide)
      obtain ⟨x0, x1, x2, x3, x4⟩ := segs_num HS2.out (i := 0) (by decide) ⟨0, 1000, 0, 1, 0⟩ rfl
      obtain ⟨y0, y1, y2, y3, y4⟩ := segs_num HS2.out (i := 1) (by decide) ⟨1000, 1800, 1, 2, 0⟩ rfl
      obtain ⟨z0, z1, z2, z3, z4⟩ := segs_num HS2.out (i := 2) (by decide) ⟨9000, 12600, 0, 5, 0⟩ rfl
      obtain ⟨u0, u1⟩ := flgs_num HF2.out (i := 0) (by decide) ⟨4, 3⟩ rfl
      obtain ⟨v0, v1⟩ := flgs_num HF2.out (i := 1) (by decide) ⟨5, 1⟩ rfl
      have zb := cell_lt x0
      have zf := cell_lt u0
      simp at x0 x1 x2 x3 x4 y0 y1 y2 y3 y4 z0 z1 z2 z3 z4 u0 u1 v0 v1 zb zf
      have HW2b := HW2
      go_wp2_with fail
      refine (sonly_any (some ⟨b, off, none⟩) 3 c1 aw12S 1 _ HS2.out (by decide) aw12_fits).mono ?_
      rw [aw12_only]
      rintro e w3 ⟨D3, d3, rfl, r3, b3⟩
      have HX3 := Lib.hid (r3.spans aw12_f1)
      have HS3 := Lib.hid (HS2.out.below b3)
      have HW3 := Lib.hid (bel_on HW2.out b3)
      have hb4 : Below w3.heap.size w3 (w3.alloc (.cells #[.int .i64 1000, .int .i64 1800] 54)) := bel_alloc (Below.refl _ _) _
      have HL4 := Lib.hid (spans_new w3 [(1000, 1800)] 54 #[.int .i64 1000, .int .i64 1800] rfl aw12_f1 rfl)
      have HX4 := Lib.hid (HX3.out.below hb4)
      have HS4 := Lib.hid (HS3.out.below hb4)
      have HW4 := Lib.hid (bel_on HW3.out hb4)
      clear r3 b3 hb4 HX3 HS3 HW3 HS2 HW2 HW2b x0 x1 x2 x3 x4 y0 y1 y2 y3 y4 z0 z1 z2 z3 z4 u0 u1 v0 v1 zb zf HF2
      go_wp2_with fail
      refine (same_any _ _ _ _ [(1000, 1800)] _ HX4.out HL4.out (by simp)).mono ?_
      rintro e w5 ⟨rfl, b5⟩
      have HS5 := Lib.hid (HS4.out.below b5)
      have HW5 := Lib.hid (bel_on HW4.out b5)
      clear b5 HX4 HL4 HS4 HW4
      go_wp2_with fail
      refine (sclock_any (some ⟨b, off, none⟩) 3 c1 aw12S _ HS5.out (by decide) aw12_fits).mono ?_
      rw [aw12_clock]
      rintro e w6 ⟨D6, d6, rfl, r6, b6⟩
      have HX6 := Lib.hid (r6.spans aw12_f2)
      have HW6 := Lib.hid (bel_on HW5.out b6)
      clear r6 b6 HS5 HW5
      go_wp2_with fail
      refine (size_any _ _ [(0, 1800), (9000, 12600)] _ HX6.out (by simp)).mono ?_
      rw [aw12_size]
      rintro e w7 ⟨rfl, b7⟩
      have HW7 := Lib.hid (bel_on HW6.out b7)
      clear b7 HX6 HW6
      go_wp2
      go_ret
      exact ⟨rfl, HW7.out⟩
end Go.Proofs.YtbijaaglmhoopaaGreat
